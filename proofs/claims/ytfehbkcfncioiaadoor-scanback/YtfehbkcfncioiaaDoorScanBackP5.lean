/- The reference's hex and Value. -/
import Derived.Test.YtfehbkcfncioiaaDoorScanBackP4
namespace Go.Proofs.YtfehbkcfncioiaaDoor
open Go.RowKit
set_option linter.unusedSimpArgs false
set_option linter.unusedVariables false
theorem ent47 : ((Tryd.prog.funcs[47]?).map fun fn => (fn.name == "runtime.NumGoroutine", fn.body.isNone)) = some (false, false) := by kernel_rfl
set_option maxHeartbeats 4000000 in
set_option maxRecDepth 4000 in
theorem rhex_any (c : UInt8) (w : World) : Calls Tryd.prog 47 #[.int .u8 ((c.toNat : Nat) : Int)] w fun e w' => e = .returned (.int .i64 (hxI c)) ∧ Grow w w' := by
  have b0 : Below w.heap.size w w := Below.refl _ _
  refine enter (n := 31) Tryd.func47 rfl rfl (Nat.le_of_ble_eq_true rfl) ?_
  intro a1 hA2
  refine wp_seq ?_
  refine wp_region_lit ?_
  refine q_step hA2 rfl (d_assign (wn rfl) (hA2.ev (v := (.int .i64 0)) rfl) ?_)
  intro a3 hA4
  refine q_end ?_
  refine t_norm ?_
  refine wp_seq ?_
  refine wp_block ?_
  refine wp_seq ?_
  refine wp_region_lit ?_
  refine q_step hA4 rfl (d_move (wn rfl) (hA4.ev (v := (.int .u8 ((c.toNat : Nat) : Int))) rfl) ?_)
  intro a5 hA6
  refine q_step hA6 rfl (d_call (wn rfl) ent28 (map1 (hA6.ev (v := (.int .u8 ((c.toNat : Nat) : Int))) rfl)) (rdigit_any c w) ?_)
  rintro e10 w7 ⟨he9, hG8⟩
  have b11 := below_grow b0 hG8 b0.size
  rcases Bool.eq_false_or_eq_true (digB c) with hb12 | hb12
  · skip
    have hq13 := of_decide_eq_true hb12
    refine ⟨.bool true, he9.trans (ret_bool hb12), ?_⟩
    intro a14 hA15
    refine q_step hA15 rfl (d_assign (wn rfl) (hA15.ev (v := (.bool true)) rfl) ?_)
    intro a16 hA17
    refine q_end ?_
    refine t_norm ?_
    refine c_true hA17 rfl ?_
    refine wp_seq ?_
    refine wp_region_lit ?_
    refine q_step hA17 rfl (d_move (wn rfl) (hA17.ev (v := (.int .u8 ((c.toNat : Nat) : Int))) rfl) ?_)
    intro a18 hA19
    refine q_step hA19 rfl (d_bin (wn rfl) (hA19.ev (v := (.int .u8 ((c.toNat : Nat) : Int))) rfl) (hA19.ev (v := (.int .u8 48)) rfl) (b_subK (((c.toNat : Nat) : Int) - 48) (wrap8 (by omega) (by omega))) ?_)
    intro a20 hA21
    refine q_step hA21 rfl (d_conv (((c.toNat : Nat) : Int) - 48) (wn rfl) (hA21.ev (v := (.int .u8 (((c.toNat : Nat) : Int) - 48))) rfl) knd5 knd3 (wrapI (by omega) (by omega)) ?_)
    intro a22 hA23
    refine q_step hA23 rfl (d_assign (wn rfl) (hA23.ev (v := (.int .i64 (((c.toNat : Nat) : Int) - 48))) rfl) ?_)
    intro a24 hA25
    refine q_end ?_
    refine t_norm ?_
    refine wp_ret ?_
    refine i_ret ?_
    refine t_ret ?_
    refine ret1 rfl hA25 (v := (.int .i64 (((c.toNat : Nat) : Int) - 48))) rfl ?_
    exact ⟨by rw [hx_dig (by omega) (by omega)], b11⟩
  · skip
    have hq26 := of_decide_eq_false hb12
    refine ⟨.bool false, he9.trans (ret_bool hb12), ?_⟩
    intro a27 hA28
    refine q_step hA28 rfl (d_assign (wn rfl) (hA28.ev (v := (.bool false)) rfl) ?_)
    intro a29 hA30
    refine q_end ?_
    refine t_norm ?_
    refine c_false hA30 rfl ?_
    refine wp_seq ?_
    refine wp_region_lit ?_
    refine q_step hA30 rfl (d_move (wn rfl) (hA30.ev (v := (.int .u8 ((c.toNat : Nat) : Int))) rfl) ?_)
    intro a31 hA32
    rcases Bool.eq_false_or_eq_true (decide (((c.toNat : Nat) : Int) ≥ 97)) with hb33 | hb33
    · skip
      have hq34 := of_decide_eq_true hb33
      refine q_step hA32 rfl (d_bin (wn rfl) (hA32.ev (v := (.int .u8 ((c.toNat : Nat) : Int))) rfl) (hA32.ev (v := (.int .u8 97)) rfl) (b_ge _ _ ((c.toNat : Nat) : Int) 97 true _ hb33) ?_)
      intro a35 hA36
      refine q_step hA36 rfl (d_move (wn rfl) (hA36.ev (v := (.bool true)) rfl) ?_)
      intro a37 hA38
      refine q_step hA38 rfl (d_move (wy rfl rfl (hA38.get 12 _ rfl)) (hA38.ev (v := (.int .u8 ((c.toNat : Nat) : Int))) rfl) ?_)
      intro a39 hA40
      rcases Bool.eq_false_or_eq_true (decide (((c.toNat : Nat) : Int) ≤ 102)) with hb41 | hb41
      · skip
        have hq42 := of_decide_eq_true hb41
        refine q_step hA40 rfl (d_bin (wy rfl rfl (hA40.get 12 _ rfl)) (hA40.ev (v := (.int .u8 ((c.toNat : Nat) : Int))) rfl) (hA40.ev (v := (.int .u8 102)) rfl) (b_le _ _ ((c.toNat : Nat) : Int) 102 true _ hb41) ?_)
        intro a43 hA44
        refine q_step hA44 rfl (d_pickT (wn rfl) (hA44.ev (v := (.bool true)) rfl) (hA44.ev (v := (.bool true)) rfl) ?_)
        intro a45 hA46
        refine q_step hA46 rfl (d_assign (wn rfl) (hA46.ev (v := (.bool true)) rfl) ?_)
        intro a47 hA48
        refine q_end ?_
        refine t_norm ?_
        refine c_true hA48 rfl ?_
        refine wp_seq ?_
        refine wp_region_lit ?_
        refine q_step hA48 rfl (d_move (wn rfl) (hA48.ev (v := (.int .u8 ((c.toNat : Nat) : Int))) rfl) ?_)
        intro a49 hA50
        refine q_step hA50 rfl (d_bin (wn rfl) (hA50.ev (v := (.int .u8 ((c.toNat : Nat) : Int))) rfl) (hA50.ev (v := (.int .u8 97)) rfl) (b_subK (((c.toNat : Nat) : Int) - 97) (wrap8 (by omega) (by omega))) ?_)
        intro a51 hA52
        refine q_step hA52 rfl (d_conv (((c.toNat : Nat) : Int) - 97) (wn rfl) (hA52.ev (v := (.int .u8 (((c.toNat : Nat) : Int) - 97))) rfl) knd5 knd3 (wrapI (by omega) (by omega)) ?_)
        intro a53 hA54
        refine q_step hA54 rfl (d_bin (wn rfl) (hA54.ev (v := (.int .i64 (((c.toNat : Nat) : Int) - 97))) rfl) (hA54.ev (v := (.int .i64 10)) rfl) (b_add _ _ (((c.toNat : Nat) : Int) - 97) 10 _ (by omega) (by omega)) ?_)
        intro a55 hA56
        refine q_step hA56 rfl (d_assign (wn rfl) (hA56.ev (v := (.int .i64 (((c.toNat : Nat) : Int) - 97 + 10))) rfl) ?_)
        intro a57 hA58
        refine q_end ?_
        refine t_norm ?_
        refine wp_ret ?_
        refine i_ret ?_
        refine t_ret ?_
        refine ret1 rfl hA58 (v := (.int .i64 (((c.toNat : Nat) : Int) - 97 + 10))) rfl ?_
        exact ⟨by rw [hx_low (by omega) (by omega)], b11⟩
      · skip
        have hq59 := of_decide_eq_false hb41
        refine q_step hA40 rfl (d_bin (wy rfl rfl (hA40.get 12 _ rfl)) (hA40.ev (v := (.int .u8 ((c.toNat : Nat) : Int))) rfl) (hA40.ev (v := (.int .u8 102)) rfl) (b_le _ _ ((c.toNat : Nat) : Int) 102 false _ hb41) ?_)
        intro a60 hA61
        refine q_step hA61 rfl (d_pickT (wn rfl) (hA61.ev (v := (.bool true)) rfl) (hA61.ev (v := (.bool false)) rfl) ?_)
        intro a62 hA63
        refine q_step hA63 rfl (d_assign (wn rfl) (hA63.ev (v := (.bool false)) rfl) ?_)
        intro a64 hA65
        refine q_end ?_
        refine t_norm ?_
        refine c_false hA65 rfl ?_
        refine wp_seq ?_
        refine wp_region_lit ?_
        refine q_step hA65 rfl (d_move (wn rfl) (hA65.ev (v := (.int .u8 ((c.toNat : Nat) : Int))) rfl) ?_)
        intro a66 hA67
        rcases Bool.eq_false_or_eq_true (decide (((c.toNat : Nat) : Int) ≥ 65)) with hb68 | hb68
        · skip
          have hq69 := of_decide_eq_true hb68
          refine q_step hA67 rfl (d_bin (wn rfl) (hA67.ev (v := (.int .u8 ((c.toNat : Nat) : Int))) rfl) (hA67.ev (v := (.int .u8 65)) rfl) (b_ge _ _ ((c.toNat : Nat) : Int) 65 true _ hb68) ?_)
          intro a70 hA71
          refine q_step hA71 rfl (d_move (wn rfl) (hA71.ev (v := (.bool true)) rfl) ?_)
          intro a72 hA73
          refine q_step hA73 rfl (d_move (wy rfl rfl (hA73.get 23 _ rfl)) (hA73.ev (v := (.int .u8 ((c.toNat : Nat) : Int))) rfl) ?_)
          intro a74 hA75
          rcases Bool.eq_false_or_eq_true (decide (((c.toNat : Nat) : Int) ≤ 70)) with hb76 | hb76
          · skip
            have hq77 := of_decide_eq_true hb76
            refine q_step hA75 rfl (d_bin (wy rfl rfl (hA75.get 23 _ rfl)) (hA75.ev (v := (.int .u8 ((c.toNat : Nat) : Int))) rfl) (hA75.ev (v := (.int .u8 70)) rfl) (b_le _ _ ((c.toNat : Nat) : Int) 70 true _ hb76) ?_)
            intro a78 hA79
            refine q_step hA79 rfl (d_pickT (wn rfl) (hA79.ev (v := (.bool true)) rfl) (hA79.ev (v := (.bool true)) rfl) ?_)
            intro a80 hA81
            refine q_step hA81 rfl (d_assign (wn rfl) (hA81.ev (v := (.bool true)) rfl) ?_)
            intro a82 hA83
            refine q_end ?_
            refine t_norm ?_
            refine c_true hA83 rfl ?_
            refine wp_seq ?_
            refine wp_region_lit ?_
            refine q_step hA83 rfl (d_move (wn rfl) (hA83.ev (v := (.int .u8 ((c.toNat : Nat) : Int))) rfl) ?_)
            intro a84 hA85
            refine q_step hA85 rfl (d_bin (wn rfl) (hA85.ev (v := (.int .u8 ((c.toNat : Nat) : Int))) rfl) (hA85.ev (v := (.int .u8 65)) rfl) (b_subK (((c.toNat : Nat) : Int) - 65) (wrap8 (by omega) (by omega))) ?_)
            intro a86 hA87
            refine q_step hA87 rfl (d_conv (((c.toNat : Nat) : Int) - 65) (wn rfl) (hA87.ev (v := (.int .u8 (((c.toNat : Nat) : Int) - 65))) rfl) knd5 knd3 (wrapI (by omega) (by omega)) ?_)
            intro a88 hA89
            refine q_step hA89 rfl (d_bin (wn rfl) (hA89.ev (v := (.int .i64 (((c.toNat : Nat) : Int) - 65))) rfl) (hA89.ev (v := (.int .i64 10)) rfl) (b_add _ _ (((c.toNat : Nat) : Int) - 65) 10 _ (by omega) (by omega)) ?_)
            intro a90 hA91
            refine q_step hA91 rfl (d_assign (wn rfl) (hA91.ev (v := (.int .i64 (((c.toNat : Nat) : Int) - 65 + 10))) rfl) ?_)
            intro a92 hA93
            refine q_end ?_
            refine t_norm ?_
            refine wp_ret ?_
            refine i_ret ?_
            refine t_ret ?_
            refine ret1 rfl hA93 (v := (.int .i64 (((c.toNat : Nat) : Int) - 65 + 10))) rfl ?_
            exact ⟨by rw [hx_up (by omega) (by omega)], b11⟩
          · skip
            have hq94 := of_decide_eq_false hb76
            refine q_step hA75 rfl (d_bin (wy rfl rfl (hA75.get 23 _ rfl)) (hA75.ev (v := (.int .u8 ((c.toNat : Nat) : Int))) rfl) (hA75.ev (v := (.int .u8 70)) rfl) (b_le _ _ ((c.toNat : Nat) : Int) 70 false _ hb76) ?_)
            intro a95 hA96
            refine q_step hA96 rfl (d_pickT (wn rfl) (hA96.ev (v := (.bool true)) rfl) (hA96.ev (v := (.bool false)) rfl) ?_)
            intro a97 hA98
            refine q_step hA98 rfl (d_assign (wn rfl) (hA98.ev (v := (.bool false)) rfl) ?_)
            intro a99 hA100
            refine q_end ?_
            refine t_norm ?_
            refine c_false hA100 rfl ?_
            refine wp_skip ?_
            refine i_norm ?_
            refine t_norm ?_
            refine wp_seq ?_
            refine wp_region_lit ?_
            refine q_step hA100 rfl (d_assign (wn rfl) (hA100.ev (v := (.int .i64 (-1))) rfl) ?_)
            intro a101 hA102
            refine q_end ?_
            refine t_norm ?_
            refine wp_ret ?_
            refine ret1 rfl hA102 (v := (.int .i64 (-1))) rfl ?_
            exact ⟨by rw [hx_no (by omega) (by omega) (by omega)], b11⟩
        · skip
          have hq103 := of_decide_eq_false hb68
          refine q_step hA67 rfl (d_bin (wn rfl) (hA67.ev (v := (.int .u8 ((c.toNat : Nat) : Int))) rfl) (hA67.ev (v := (.int .u8 65)) rfl) (b_ge _ _ ((c.toNat : Nat) : Int) 65 false _ hb68) ?_)
          intro a104 hA105
          refine q_step hA105 rfl (d_move (wn rfl) (hA105.ev (v := (.bool false)) rfl) ?_)
          intro a106 hA107
          refine q_step hA107 rfl (does_not (wno rfl rfl (.inl (hA107.get 23 _ rfl))) ?_)
          intro a108 hA109
          refine q_step hA109 rfl (does_not (wno rfl rfl (.inl (hA109.get 23 _ rfl))) ?_)
          intro a110 hA111
          refine q_step hA111 rfl (d_pickF (wn rfl) (hA111.ev (v := (.bool false)) rfl) (hA111.ev (v := (.bool false)) rfl) ?_)
          intro a112 hA113
          refine q_step hA113 rfl (d_assign (wn rfl) (hA113.ev (v := (.bool false)) rfl) ?_)
          intro a114 hA115
          refine q_end ?_
          refine t_norm ?_
          refine c_false hA115 rfl ?_
          refine wp_skip ?_
          refine i_norm ?_
          refine t_norm ?_
          refine wp_seq ?_
          refine wp_region_lit ?_
          refine q_step hA115 rfl (d_assign (wn rfl) (hA115.ev (v := (.int .i64 (-1))) rfl) ?_)
          intro a116 hA117
          refine q_end ?_
          refine t_norm ?_
          refine wp_ret ?_
          refine ret1 rfl hA117 (v := (.int .i64 (-1))) rfl ?_
          exact ⟨by rw [hx_no (by omega) (by omega) (by omega)], b11⟩
    · skip
      have hq118 := of_decide_eq_false hb33
      refine q_step hA32 rfl (d_bin (wn rfl) (hA32.ev (v := (.int .u8 ((c.toNat : Nat) : Int))) rfl) (hA32.ev (v := (.int .u8 97)) rfl) (b_ge _ _ ((c.toNat : Nat) : Int) 97 false _ hb33) ?_)
      intro a119 hA120
      refine q_step hA120 rfl (d_move (wn rfl) (hA120.ev (v := (.bool false)) rfl) ?_)
      intro a121 hA122
      refine q_step hA122 rfl (does_not (wno rfl rfl (.inl (hA122.get 12 _ rfl))) ?_)
      intro a123 hA124
      refine q_step hA124 rfl (does_not (wno rfl rfl (.inl (hA124.get 12 _ rfl))) ?_)
      intro a125 hA126
      refine q_step hA126 rfl (d_pickF (wn rfl) (hA126.ev (v := (.bool false)) rfl) (hA126.ev (v := (.bool false)) rfl) ?_)
      intro a127 hA128
      refine q_step hA128 rfl (d_assign (wn rfl) (hA128.ev (v := (.bool false)) rfl) ?_)
      intro a129 hA130
      refine q_end ?_
      refine t_norm ?_
      refine c_false hA130 rfl ?_
      refine wp_seq ?_
      refine wp_region_lit ?_
      refine q_step hA130 rfl (d_move (wn rfl) (hA130.ev (v := (.int .u8 ((c.toNat : Nat) : Int))) rfl) ?_)
      intro a131 hA132
      rcases Bool.eq_false_or_eq_true (decide (((c.toNat : Nat) : Int) ≥ 65)) with hb133 | hb133
      · skip
        have hq134 := of_decide_eq_true hb133
        refine q_step hA132 rfl (d_bin (wn rfl) (hA132.ev (v := (.int .u8 ((c.toNat : Nat) : Int))) rfl) (hA132.ev (v := (.int .u8 65)) rfl) (b_ge _ _ ((c.toNat : Nat) : Int) 65 true _ hb133) ?_)
        intro a135 hA136
        refine q_step hA136 rfl (d_move (wn rfl) (hA136.ev (v := (.bool true)) rfl) ?_)
        intro a137 hA138
        refine q_step hA138 rfl (d_move (wy rfl rfl (hA138.get 23 _ rfl)) (hA138.ev (v := (.int .u8 ((c.toNat : Nat) : Int))) rfl) ?_)
        intro a139 hA140
        rcases Bool.eq_false_or_eq_true (decide (((c.toNat : Nat) : Int) ≤ 70)) with hb141 | hb141
        · skip
          have hq142 := of_decide_eq_true hb141
          refine q_step hA140 rfl (d_bin (wy rfl rfl (hA140.get 23 _ rfl)) (hA140.ev (v := (.int .u8 ((c.toNat : Nat) : Int))) rfl) (hA140.ev (v := (.int .u8 70)) rfl) (b_le _ _ ((c.toNat : Nat) : Int) 70 true _ hb141) ?_)
          intro a143 hA144
          refine q_step hA144 rfl (d_pickT (wn rfl) (hA144.ev (v := (.bool true)) rfl) (hA144.ev (v := (.bool true)) rfl) ?_)
          intro a145 hA146
          refine q_step hA146 rfl (d_assign (wn rfl) (hA146.ev (v := (.bool true)) rfl) ?_)
          intro a147 hA148
          refine q_end ?_
          refine t_norm ?_
          refine c_true hA148 rfl ?_
          refine wp_seq ?_
          refine wp_region_lit ?_
          refine q_step hA148 rfl (d_move (wn rfl) (hA148.ev (v := (.int .u8 ((c.toNat : Nat) : Int))) rfl) ?_)
          intro a149 hA150
          refine q_step hA150 rfl (d_bin (wn rfl) (hA150.ev (v := (.int .u8 ((c.toNat : Nat) : Int))) rfl) (hA150.ev (v := (.int .u8 65)) rfl) (b_subK (((c.toNat : Nat) : Int) - 65) (wrap8 (by omega) (by omega))) ?_)
          intro a151 hA152
          refine q_step hA152 rfl (d_conv (((c.toNat : Nat) : Int) - 65) (wn rfl) (hA152.ev (v := (.int .u8 (((c.toNat : Nat) : Int) - 65))) rfl) knd5 knd3 (wrapI (by omega) (by omega)) ?_)
          intro a153 hA154
          refine q_step hA154 rfl (d_bin (wn rfl) (hA154.ev (v := (.int .i64 (((c.toNat : Nat) : Int) - 65))) rfl) (hA154.ev (v := (.int .i64 10)) rfl) (b_add _ _ (((c.toNat : Nat) : Int) - 65) 10 _ (by omega) (by omega)) ?_)
          intro a155 hA156
          refine q_step hA156 rfl (d_assign (wn rfl) (hA156.ev (v := (.int .i64 (((c.toNat : Nat) : Int) - 65 + 10))) rfl) ?_)
          intro a157 hA158
          refine q_end ?_
          refine t_norm ?_
          refine wp_ret ?_
          refine i_ret ?_
          refine t_ret ?_
          refine ret1 rfl hA158 (v := (.int .i64 (((c.toNat : Nat) : Int) - 65 + 10))) rfl ?_
          exact ⟨by rw [hx_up (by omega) (by omega)], b11⟩
        · skip
          have hq159 := of_decide_eq_false hb141
          refine q_step hA140 rfl (d_bin (wy rfl rfl (hA140.get 23 _ rfl)) (hA140.ev (v := (.int .u8 ((c.toNat : Nat) : Int))) rfl) (hA140.ev (v := (.int .u8 70)) rfl) (b_le _ _ ((c.toNat : Nat) : Int) 70 false _ hb141) ?_)
          intro a160 hA161
          refine q_step hA161 rfl (d_pickT (wn rfl) (hA161.ev (v := (.bool true)) rfl) (hA161.ev (v := (.bool false)) rfl) ?_)
          intro a162 hA163
          refine q_step hA163 rfl (d_assign (wn rfl) (hA163.ev (v := (.bool false)) rfl) ?_)
          intro a164 hA165
          refine q_end ?_
          refine t_norm ?_
          refine c_false hA165 rfl ?_
          refine wp_skip ?_
          refine i_norm ?_
          refine t_norm ?_
          refine wp_seq ?_
          refine wp_region_lit ?_
          refine q_step hA165 rfl (d_assign (wn rfl) (hA165.ev (v := (.int .i64 (-1))) rfl) ?_)
          intro a166 hA167
          refine q_end ?_
          refine t_norm ?_
          refine wp_ret ?_
          refine ret1 rfl hA167 (v := (.int .i64 (-1))) rfl ?_
          exact ⟨by rw [hx_no (by omega) (by omega) (by omega)], b11⟩
      · skip
        have hq168 := of_decide_eq_false hb133
        refine q_step hA132 rfl (d_bin (wn rfl) (hA132.ev (v := (.int .u8 ((c.toNat : Nat) : Int))) rfl) (hA132.ev (v := (.int .u8 65)) rfl) (b_ge _ _ ((c.toNat : Nat) : Int) 65 false _ hb133) ?_)
        intro a169 hA170
        refine q_step hA170 rfl (d_move (wn rfl) (hA170.ev (v := (.bool false)) rfl) ?_)
        intro a171 hA172
        refine q_step hA172 rfl (does_not (wno rfl rfl (.inl (hA172.get 23 _ rfl))) ?_)
        intro a173 hA174
        refine q_step hA174 rfl (does_not (wno rfl rfl (.inl (hA174.get 23 _ rfl))) ?_)
        intro a175 hA176
        refine q_step hA176 rfl (d_pickF (wn rfl) (hA176.ev (v := (.bool false)) rfl) (hA176.ev (v := (.bool false)) rfl) ?_)
        intro a177 hA178
        refine q_step hA178 rfl (d_assign (wn rfl) (hA178.ev (v := (.bool false)) rfl) ?_)
        intro a179 hA180
        refine q_end ?_
        refine t_norm ?_
        refine c_false hA180 rfl ?_
        refine wp_skip ?_
        refine i_norm ?_
        refine t_norm ?_
        refine wp_seq ?_
        refine wp_region_lit ?_
        refine q_step hA180 rfl (d_assign (wn rfl) (hA180.ev (v := (.int .i64 (-1))) rfl) ?_)
        intro a181 hA182
        refine q_end ?_
        refine t_norm ?_
        refine wp_ret ?_
        refine ret1 rfl hA182 (v := (.int .i64 (-1))) rfl ?_
        exact ⟨by rw [hx_no (by omega) (by omega) (by omega)], b11⟩
set_option maxHeartbeats 4000000 in
set_option maxRecDepth 4000 in
theorem rvalue_any (l : List UInt8) (w : World) (hl : l.length ≤ 8192) : Calls Tryd.prog 30 #[.string (S l)] w fun e w' => e = .returned (valV (numR l)) ∧ Grow w w' := by
  have b0 : Below w.heap.size w w := Below.refl _ _
  refine enter (n := 69) Tryd.func30 rfl rfl (Nat.le_of_ble_eq_true rfl) ?_
  intro a1 hA2
  refine wp_seq ?_
  refine wp_region_lit ?_
  refine q_step hA2 rfl (d_assign (wn rfl) (hA2.ev (v := (.int .i64 0)) rfl) ?_)
  intro a3 hA4
  refine q_step hA4 rfl (d_assign (wn rfl) (hA4.ev (v := (.bool false)) rfl) ?_)
  intro a5 hA6
  refine q_end ?_
  refine t_norm ?_
  refine wp_seq ?_
  refine wp_region_lit ?_
  refine q_step hA6 rfl (d_assign (wn rfl) (hA6.ev (v := (.int .i64 10)) rfl) ?_)
  intro a7 hA8
  refine q_end ?_
  refine t_norm ?_
  refine wp_seq ?_
  refine wp_region_lit ?_
  refine q_step hA8 rfl (d_assign (wn rfl) (hA8.ev (v := (.int .i64 19)) rfl) ?_)
  intro a9 hA10
  refine q_end ?_
  refine t_norm ?_
  refine wp_seq ?_
  refine wp_seq ?_
  refine wp_region_lit ?_
  refine q_step hA10 rfl (d_move (wn rfl) (hA10.ev (v := (.string (S l))) rfl) ?_)
  intro a11 hA12
  refine q_step hA12 rfl (d_slen (wn rfl) (hA12.ev (v := (.string (S l))) rfl) str9 ?_)
  intro a13 hA14
  rcases Bool.eq_false_or_eq_true (decide (((l.length : Nat) : Int) > 2)) with hb15 | hb15
  · skip
    have hq16 := of_decide_eq_true hb15
    refine q_step hA14 rfl (d_bin (wn rfl) (hA14.ev (v := (.int .i64 ((l.length : Nat) : Int))) rfl) (hA14.ev (v := (.int .i64 2)) rfl) (b_gt _ _ ((l.length : Nat) : Int) 2 true _ hb15) ?_)
    intro a17 hA18
    refine q_step hA18 rfl (d_move (wn rfl) (hA18.ev (v := (.bool true)) rfl) ?_)
    intro a19 hA20
    refine q_step hA20 rfl (d_move (wy rfl rfl (hA20.get 12 _ rfl)) (hA20.ev (v := (.string (S l))) rfl) ?_)
    intro a21 hA22
    obtain ⟨y23, hy24⟩ : ∃ y23, l[0]? = some y23 := ⟨_, List.getElem?_eq_getElem (show 0 < l.length by first | omega | (rw [List.length_drop]; omega))⟩
    refine q_step hA22 rfl (d_sat (j := 0) (wy rfl rfl (hA22.get 12 _ rfl)) (hA22.ev (v := (.string (S l))) rfl) (hA22.ev (v := (.int .i64 0)) rfl) str9 hy24 ?_)
    intro a25 hA26
    rcases Bool.eq_false_or_eq_true (((y23.toNat : Nat) : Int) == 48) with hb27 | hb27
    · skip
      have hq28 := eq_of_beq hb27
      refine q_step hA26 rfl (d_bin (wy rfl rfl (hA26.get 12 _ rfl)) (hA26.ev (v := (.int .u8 ((y23.toNat : Nat) : Int))) rfl) (hA26.ev (v := (.int .u8 48)) rfl) (b_eq _ _ ((y23.toNat : Nat) : Int) 48 true _ hb27) ?_)
      intro a29 hA30
      refine q_step hA30 rfl (d_pickT (wn rfl) (hA30.ev (v := (.bool true)) rfl) (hA30.ev (v := (.bool true)) rfl) ?_)
      intro a31 hA32
      refine q_step hA32 rfl (d_move (wn rfl) (hA32.ev (v := (.bool true)) rfl) ?_)
      intro a33 hA34
      refine q_step hA34 rfl (d_move (wy rfl rfl (hA34.get 17 _ rfl)) (hA34.ev (v := (.string (S l))) rfl) ?_)
      intro a35 hA36
      obtain ⟨y37, hy38⟩ : ∃ y37, l[1]? = some y37 := ⟨_, List.getElem?_eq_getElem (show 1 < l.length by first | omega | (rw [List.length_drop]; omega))⟩
      refine q_step hA36 rfl (d_sat (j := 1) (wy rfl rfl (hA36.get 17 _ rfl)) (hA36.ev (v := (.string (S l))) rfl) (hA36.ev (v := (.int .i64 1)) rfl) str9 hy38 ?_)
      intro a39 hA40
      rcases Bool.eq_false_or_eq_true (((y37.toNat : Nat) : Int) == 120) with hb41 | hb41
      · skip
        have hq42 := eq_of_beq hb41
        refine q_step hA40 rfl (d_bin (wy rfl rfl (hA40.get 17 _ rfl)) (hA40.ev (v := (.int .u8 ((y37.toNat : Nat) : Int))) rfl) (hA40.ev (v := (.int .u8 120)) rfl) (b_eq _ _ ((y37.toNat : Nat) : Int) 120 true _ hb41) ?_)
        intro a43 hA44
        refine q_step hA44 rfl (d_pickT (wn rfl) (hA44.ev (v := (.bool true)) rfl) (hA44.ev (v := (.bool true)) rfl) ?_)
        intro a45 hA46
        refine q_end ?_
        refine t_norm ?_
        refine c_true hA46 rfl ?_
        refine wp_seq ?_
        refine wp_region_lit ?_
        refine q_step hA46 rfl (d_assign (wn rfl) (hA46.ev (v := (.int .i64 16)) rfl) ?_)
        intro a47 hA48
        refine q_end ?_
        refine t_norm ?_
        refine wp_seq ?_
        refine wp_region_lit ?_
        refine q_step hA48 rfl (d_assign (wn rfl) (hA48.ev (v := (.int .i64 16)) rfl) ?_)
        intro a49 hA50
        refine q_end ?_
        refine t_norm ?_
        refine wp_region_lit ?_
        refine q_step hA50 rfl (d_move (wn rfl) (hA50.ev (v := (.string (S l))) rfl) ?_)
        intro a51 hA52
        refine q_step hA52 rfl (d_srest (n := 2) (wn rfl) (hA52.ev (v := (.string (S l))) rfl) (hA52.ev (v := (.int .i64 2)) rfl) str9 (by first | omega | (rw [List.length_drop]; omega)) ?_)
        intro a53 hA54
        refine q_step hA54 rfl (d_assign (wn rfl) (hA54.ev (v := (.string (S (List.drop 2 l)))) rfl) ?_)
        intro a55 hA56
        refine q_end ?_
        refine t_norm ?_
        refine wp_seq ?_
        refine wp_seq ?_
        refine wp_region_lit ?_
        refine q_step hA56 rfl (d_move (wn rfl) (hA56.ev (v := (.string (S (List.drop 2 l)))) rfl) ?_)
        intro a57 hA58
        have hnum := numx hy24 (by omega) hy38 (by omega)
        have hdl : (List.drop 2 l).length = l.length - 2 := List.length_drop
        refine q_step hA58 rfl (d_slen (wn rfl) (hA58.ev (v := (.string (S (List.drop 2 l)))) rfl) str9 ?_)
        intro a59 hA60
        rcases Bool.eq_false_or_eq_true (decide ((((List.drop 2 l).length : Nat) : Int) < 1)) with hb61 | hb61
        · skip
          have hq62 := of_decide_eq_true hb61
          refine q_step hA60 rfl (d_bin (wn rfl) (hA60.ev (v := (.int .i64 (((List.drop 2 l).length : Nat) : Int))) rfl) (hA60.ev (v := (.int .i64 1)) rfl) (b_lt _ _ (((List.drop 2 l).length : Nat) : Int) 1 true _ hb61) ?_)
          intro a63 hA64
          refine q_step hA64 rfl (d_move (wn rfl) (hA64.ev (v := (.bool true)) rfl) ?_)
          intro a65 hA66
          refine q_step hA66 rfl (does_not (wno rfl rfl (.inl (hA66.get 27 _ rfl))) ?_)
          intro a67 hA68
          refine q_step hA68 rfl (does_not (wno rfl rfl (.inl (hA68.get 27 _ rfl))) ?_)
          intro a69 hA70
          refine q_step hA70 rfl (does_not (wno rfl rfl (.inl (hA70.get 27 _ rfl))) ?_)
          intro a71 hA72
          refine q_step hA72 rfl (does_not (wno rfl rfl (.inl (hA72.get 27 _ rfl))) ?_)
          intro a73 hA74
          refine q_step hA74 rfl (d_pickT (wn rfl) (hA74.ev (v := (.bool true)) rfl) (hA74.ev (v := (.bool true)) rfl) ?_)
          intro a75 hA76
          refine q_end ?_
          refine t_norm ?_
          refine c_true hA76 rfl ?_
          refine wp_seq ?_
          refine wp_region_lit ?_
          refine q_step hA76 rfl (d_assign (wn rfl) (hA76.ev (v := (.int .i64 0)) rfl) ?_)
          intro a77 hA78
          refine q_step hA78 rfl (d_assign (wn rfl) (hA78.ev (v := (.bool false)) rfl) ?_)
          intro a79 hA80
          refine q_end ?_
          refine t_norm ?_
          refine wp_ret ?_
          refine t_ret ?_
          refine ret2 (x := (.int .i64 0)) (y := (.bool false)) rfl hA80 rfl rfl ?_
          rw [if_neg (by omega), val_nil (List.eq_nil_of_length_eq_zero (by omega))] at hnum
          exact ⟨by rw [hnum] <;> rfl, b0⟩
        · skip
          have hq81 := of_decide_eq_false hb61
          refine q_step hA60 rfl (d_bin (wn rfl) (hA60.ev (v := (.int .i64 (((List.drop 2 l).length : Nat) : Int))) rfl) (hA60.ev (v := (.int .i64 1)) rfl) (b_lt _ _ (((List.drop 2 l).length : Nat) : Int) 1 false _ hb61) ?_)
          intro a82 hA83
          refine q_step hA83 rfl (d_move (wn rfl) (hA83.ev (v := (.bool false)) rfl) ?_)
          intro a84 hA85
          refine q_step hA85 rfl (d_move (wy rfl rfl (hA85.get 27 _ rfl)) (hA85.ev (v := (.string (S (List.drop 2 l)))) rfl) ?_)
          intro a86 hA87
          refine q_step hA87 rfl (d_slen (wy rfl rfl (hA87.get 27 _ rfl)) (hA87.ev (v := (.string (S (List.drop 2 l)))) rfl) str9 ?_)
          intro a88 hA89
          refine q_step hA89 rfl (d_move (wy rfl rfl (hA89.get 27 _ rfl)) (hA89.ev (v := (.int .i64 16)) rfl) ?_)
          intro a90 hA91
          rcases Bool.eq_false_or_eq_true (decide ((((List.drop 2 l).length : Nat) : Int) > 16)) with hb92 | hb92
          · skip
            have hq93 := of_decide_eq_true hb92
            refine q_step hA91 rfl (d_bin (wy rfl rfl (hA91.get 27 _ rfl)) (hA91.ev (v := (.int .i64 (((List.drop 2 l).length : Nat) : Int))) rfl) (hA91.ev (v := (.int .i64 16)) rfl) (b_gt _ _ (((List.drop 2 l).length : Nat) : Int) 16 true _ hb92) ?_)
            intro a94 hA95
            refine q_step hA95 rfl (d_pickF (wn rfl) (hA95.ev (v := (.bool false)) rfl) (hA95.ev (v := (.bool true)) rfl) ?_)
            intro a96 hA97
            refine q_end ?_
            refine t_norm ?_
            refine c_true hA97 rfl ?_
            refine wp_seq ?_
            refine wp_region_lit ?_
            refine q_step hA97 rfl (d_assign (wn rfl) (hA97.ev (v := (.int .i64 0)) rfl) ?_)
            intro a98 hA99
            refine q_step hA99 rfl (d_assign (wn rfl) (hA99.ev (v := (.bool false)) rfl) ?_)
            intro a100 hA101
            refine q_end ?_
            refine t_norm ?_
            refine wp_ret ?_
            refine t_ret ?_
            refine ret2 (x := (.int .i64 0)) (y := (.bool false)) rfl hA101 rfl rfl ?_
            rw [if_pos (by omega)] at hnum
            exact ⟨by rw [hnum] <;> rfl, b0⟩
          · skip
            have hq102 := of_decide_eq_false hb92
            refine q_step hA91 rfl (d_bin (wy rfl rfl (hA91.get 27 _ rfl)) (hA91.ev (v := (.int .i64 (((List.drop 2 l).length : Nat) : Int))) rfl) (hA91.ev (v := (.int .i64 16)) rfl) (b_gt _ _ (((List.drop 2 l).length : Nat) : Int) 16 false _ hb92) ?_)
            intro a103 hA104
            refine q_step hA104 rfl (d_pickF (wn rfl) (hA104.ev (v := (.bool false)) rfl) (hA104.ev (v := (.bool false)) rfl) ?_)
            intro a105 hA106
            refine q_end ?_
            refine t_norm ?_
            refine c_false hA106 rfl ?_
            refine wp_skip ?_
            refine t_norm ?_
            refine wp_seq ?_
            refine wp_region_lit ?_
            refine q_step hA106 rfl (d_assign (wn rfl) (hA106.ev (v := (.int .u64 0)) rfl) ?_)
            intro a107 hA108
            refine q_end ?_
            refine t_norm ?_
            refine wp_seq ?_
            refine wp_seq ?_
            refine wp_region_lit ?_
            refine q_step hA108 rfl (d_assign (wn rfl) (hA108.ev (v := (.int .i64 0)) rfl) ?_)
            intro a109 hA110
            rw [if_neg (by omega)] at hnum
            refine q_end ?_
            refine t_norm ?_
            refine wp_block ?_
            have hne : 0 < (List.drop 2 l).length := by omega
            refine loop_by (fun m112 a113 w114 => ∃ j111 : Nat, m112 = (List.drop 2 l).length - j111 ∧ (j111 ≤ (List.drop 2 l).length ∧ allD 16 (List.take j111 (List.drop 2 l)) = true ∧ nv 16 (List.take j111 (List.drop 2 l)) ≤ 9223372036854775808) ∧ St 69 [(0, (.string (S (List.drop 2 l)))), (2, (.int .i64 0)), (3, (.bool false)), (4, (.int .i64 16)), (5, (.int .i64 16)), (6, (.int .u64 ((nv 16 (List.take j111 (List.drop 2 l)) : Nat) : Int))), (7, (.int .i64 ((j111 : Nat) : Int)))] a113 ∧ Below w.heap.size w w114) ((List.drop 2 l).length - 0) ⟨0, rfl, ⟨by omega, rfl, by rw [nv_zero]; omega⟩, hA110.cut _ (fm_cons (hA110.get 0 _ rfl) (fm_cons (hA110.get 2 _ rfl) (fm_cons (hA110.get 3 _ rfl) (fm_cons (hA110.get 4 _ rfl) (fm_cons (hA110.get 5 _ rfl) (fm_cons ((hA110.get 6 _ rfl).trans (congrArg (Value.int .u64) (rfl))) (fm_cons ((hA110.get 7 _ rfl).trans (congrArg (Value.int .i64) (by omega))) fm_nil))))))), b0⟩ ?_
            rintro m112 a113 w114 ⟨j111, hm117, hc118, hA115, b116⟩
            obtain ⟨hj, hall, htop⟩ := hc118
            refine wp_seq ?_
            refine wp_seq ?_
            refine wp_region_lit ?_
            refine q_step hA115 rfl (d_move (wn rfl) (hA115.ev (v := (.int .i64 ((j111 : Nat) : Int))) rfl) ?_)
            intro a119 hA120
            refine q_step hA120 rfl (d_move (wn rfl) (hA120.ev (v := (.string (S (List.drop 2 l)))) rfl) ?_)
            intro a121 hA122
            refine q_step hA122 rfl (d_slen (wn rfl) (hA122.ev (v := (.string (S (List.drop 2 l)))) rfl) str9 ?_)
            intro a123 hA124
            rcases Bool.eq_false_or_eq_true (decide (((j111 : Nat) : Int) < (((List.drop 2 l).length : Nat) : Int))) with hb125 | hb125
            · skip
              have hq126 := of_decide_eq_true hb125
              refine q_step hA124 rfl (d_bin (wn rfl) (hA124.ev (v := (.int .i64 ((j111 : Nat) : Int))) rfl) (hA124.ev (v := (.int .i64 (((List.drop 2 l).length : Nat) : Int))) rfl) (b_lt _ _ ((j111 : Nat) : Int) (((List.drop 2 l).length : Nat) : Int) true _ hb125) ?_)
              intro a127 hA128
              refine q_end ?_
              refine t_norm ?_
              refine c_true hA128 rfl ?_
              refine wp_skip ?_
              refine t_norm ?_
              refine wp_seq ?_
              refine wp_block ?_
              refine wp_seq ?_
              refine wp_region_lit ?_
              refine q_step hA128 rfl (d_move (wn rfl) (hA128.ev (v := (.string (S (List.drop 2 l)))) rfl) ?_)
              intro a129 hA130
              refine q_step hA130 rfl (d_move (wn rfl) (hA130.ev (v := (.int .i64 ((j111 : Nat) : Int))) rfl) ?_)
              intro a131 hA132
              obtain ⟨y133, hy134⟩ : ∃ y133, (List.drop 2 l)[j111]? = some y133 := ⟨_, List.getElem?_eq_getElem (show j111 < (List.drop 2 l).length by first | omega | (rw [List.length_drop]; omega))⟩
              refine q_step hA132 rfl (d_sat (j := j111) (wn rfl) (hA132.ev (v := (.string (S (List.drop 2 l)))) rfl) (hA132.ev (v := (.int .i64 ((j111 : Nat) : Int))) rfl) str9 hy134 ?_)
              intro a135 hA136
              have hxo := hx_or y133
              refine q_step hA136 rfl (d_call (wn rfl) ent47 (map1 (hA136.ev (v := (.int .u8 ((y133.toNat : Nat) : Int))) rfl)) (rhex_any y133 w114) ?_)
              rintro e140 w137 ⟨he139, hG138⟩
              have b141 := below_grow b116 hG138 b116.size
              refine ⟨(.int .i64 (hxI y133)), he139, ?_⟩
              intro a142 hA143
              refine q_step hA143 rfl (d_assign (wn rfl) (hA143.ev (v := (.int .i64 (hxI y133))) rfl) ?_)
              intro a144 hA145
              refine q_end ?_
              refine t_norm ?_
              refine wp_seq ?_
              refine wp_seq ?_
              refine wp_region_lit ?_
              refine q_step hA145 rfl (d_move (wn rfl) (hA145.ev (v := (.int .i64 (hxI y133))) rfl) ?_)
              intro a146 hA147
              rcases Bool.eq_false_or_eq_true (decide (hxI y133 < 0)) with hb148 | hb148
              · skip
                have hq149 := of_decide_eq_true hb148
                refine q_step hA147 rfl (d_bin (wn rfl) (hA147.ev (v := (.int .i64 (hxI y133))) rfl) (hA147.ev (v := (.int .i64 0)) rfl) (b_lt _ _ (hxI y133) 0 true _ hb148) ?_)
                intro a150 hA151
                refine q_step hA151 rfl (d_move (wn rfl) (hA151.ev (v := (.bool true)) rfl) ?_)
                intro a152 hA153
                refine q_step hA153 rfl (does_not (wno rfl rfl (.inl (hA153.get 45 _ rfl))) ?_)
                intro a154 hA155
                refine q_step hA155 rfl (does_not (wno rfl rfl (.inl (hA155.get 45 _ rfl))) ?_)
                intro a156 hA157
                refine q_step hA157 rfl (does_not (wno rfl rfl (.inl (hA157.get 45 _ rfl))) ?_)
                intro a158 hA159
                refine q_step hA159 rfl (d_pickT (wn rfl) (hA159.ev (v := (.bool true)) rfl) (hA159.ev (v := (.bool true)) rfl) ?_)
                intro a160 hA161
                refine q_step hA161 rfl (d_move (wn rfl) (hA161.ev (v := (.bool true)) rfl) ?_)
                intro a162 hA163
                refine q_step hA163 rfl (does_not (wno rfl rfl (.inl (hA163.get 50 _ rfl))) ?_)
                intro a164 hA165
                refine q_step hA165 rfl (does_not (wno rfl rfl (.inl (hA165.get 50 _ rfl))) ?_)
                intro a166 hA167
                refine q_step hA167 rfl (does_not (wno rfl rfl (.inl (hA167.get 50 _ rfl))) ?_)
                intro a168 hA169
                refine q_step hA169 rfl (does_not (wno rfl rfl (.inl (hA169.get 50 _ rfl))) ?_)
                intro a170 hA171
                refine q_step hA171 rfl (does_not (wno rfl rfl (.inl (hA171.get 50 _ rfl))) ?_)
                intro a172 hA173
                refine q_step hA173 rfl (does_not (wno rfl rfl (.inl (hA173.get 50 _ rfl))) ?_)
                intro a174 hA175
                refine q_step hA175 rfl (does_not (wno rfl rfl (.inl (hA175.get 50 _ rfl))) ?_)
                intro a176 hA177
                refine q_step hA177 rfl (does_not (wno rfl rfl (.inl (hA177.get 50 _ rfl))) ?_)
                intro a178 hA179
                refine q_step hA179 rfl (d_pickT (wn rfl) (hA179.ev (v := (.bool true)) rfl) (hA179.ev (v := (.bool true)) rfl) ?_)
                intro a180 hA181
                refine q_end ?_
                refine t_norm ?_
                refine c_true hA181 rfl ?_
                refine wp_seq ?_
                refine wp_region_lit ?_
                refine q_step hA181 rfl (d_assign (wn rfl) (hA181.ev (v := (.int .i64 0)) rfl) ?_)
                intro a182 hA183
                refine q_step hA183 rfl (d_assign (wn rfl) (hA183.ev (v := (.bool false)) rfl) ?_)
                intro a184 hA185
                refine q_end ?_
                refine t_norm ?_
                refine wp_ret ?_
                refine t_ret ?_
                refine i_ret ?_
                refine t_ret ?_
                refine t_ret ?_
                refine i_ret ?_
                refine t_ret ?_
                refine ret2 (x := (.int .i64 0)) (y := (.bool false)) rfl hA185 rfl rfl ?_
                rw [fits_bad hy134 (by omega)] at hnum
                exact ⟨by rw [hnum] <;> rfl, b141⟩
              · skip
                have hq186 := of_decide_eq_false hb148
                refine q_step hA147 rfl (d_bin (wn rfl) (hA147.ev (v := (.int .i64 (hxI y133))) rfl) (hA147.ev (v := (.int .i64 0)) rfl) (b_lt _ _ (hxI y133) 0 false _ hb148) ?_)
                intro a187 hA188
                refine q_step hA188 rfl (d_move (wn rfl) (hA188.ev (v := (.bool false)) rfl) ?_)
                intro a189 hA190
                refine q_step hA190 rfl (d_move (wy rfl rfl (hA190.get 45 _ rfl)) (hA190.ev (v := (.int .i64 (hxI y133))) rfl) ?_)
                intro a191 hA192
                refine q_step hA192 rfl (d_move (wy rfl rfl (hA192.get 45 _ rfl)) (hA192.ev (v := (.int .i64 16)) rfl) ?_)
                intro a193 hA194
                rcases Bool.eq_false_or_eq_true (decide (hxI y133 ≥ 16)) with hb195 | hb195
                · skip
                  have hq196 := of_decide_eq_true hb195
                  refine q_step hA194 rfl (d_bin (wy rfl rfl (hA194.get 45 _ rfl)) (hA194.ev (v := (.int .i64 (hxI y133))) rfl) (hA194.ev (v := (.int .i64 16)) rfl) (b_ge _ _ (hxI y133) 16 true _ hb195) ?_)
                  intro a197 hA198
                  refine q_step hA198 rfl (d_pickF (wn rfl) (hA198.ev (v := (.bool false)) rfl) (hA198.ev (v := (.bool true)) rfl) ?_)
                  intro a199 hA200
                  refine q_step hA200 rfl (d_move (wn rfl) (hA200.ev (v := (.bool true)) rfl) ?_)
                  intro a201 hA202
                  refine q_step hA202 rfl (does_not (wno rfl rfl (.inl (hA202.get 50 _ rfl))) ?_)
                  intro a203 hA204
                  refine q_step hA204 rfl (does_not (wno rfl rfl (.inl (hA204.get 50 _ rfl))) ?_)
                  intro a205 hA206
                  refine q_step hA206 rfl (does_not (wno rfl rfl (.inl (hA206.get 50 _ rfl))) ?_)
                  intro a207 hA208
                  refine q_step hA208 rfl (does_not (wno rfl rfl (.inl (hA208.get 50 _ rfl))) ?_)
                  intro a209 hA210
                  refine q_step hA210 rfl (does_not (wno rfl rfl (.inl (hA210.get 50 _ rfl))) ?_)
                  intro a211 hA212
                  refine q_step hA212 rfl (does_not (wno rfl rfl (.inl (hA212.get 50 _ rfl))) ?_)
                  intro a213 hA214
                  refine q_step hA214 rfl (does_not (wno rfl rfl (.inl (hA214.get 50 _ rfl))) ?_)
                  intro a215 hA216
                  refine q_step hA216 rfl (does_not (wno rfl rfl (.inl (hA216.get 50 _ rfl))) ?_)
                  intro a217 hA218
                  refine q_step hA218 rfl (d_pickT (wn rfl) (hA218.ev (v := (.bool true)) rfl) (hA218.ev (v := (.bool true)) rfl) ?_)
                  intro a219 hA220
                  refine q_end ?_
                  refine t_norm ?_
                  refine c_true hA220 rfl ?_
                  refine wp_seq ?_
                  refine wp_region_lit ?_
                  refine q_step hA220 rfl (d_assign (wn rfl) (hA220.ev (v := (.int .i64 0)) rfl) ?_)
                  intro a221 hA222
                  refine q_step hA222 rfl (d_assign (wn rfl) (hA222.ev (v := (.bool false)) rfl) ?_)
                  intro a223 hA224
                  refine q_end ?_
                  refine t_norm ?_
                  refine wp_ret ?_
                  refine t_ret ?_
                  refine i_ret ?_
                  refine t_ret ?_
                  refine t_ret ?_
                  refine i_ret ?_
                  refine t_ret ?_
                  refine ret2 (x := (.int .i64 0)) (y := (.bool false)) rfl hA224 rfl rfl ?_
                  rw [fits_bad hy134 (by omega)] at hnum
                  exact ⟨by rw [hnum] <;> rfl, b141⟩
                · skip
                  have hq225 := of_decide_eq_false hb195
                  refine q_step hA194 rfl (d_bin (wy rfl rfl (hA194.get 45 _ rfl)) (hA194.ev (v := (.int .i64 (hxI y133))) rfl) (hA194.ev (v := (.int .i64 16)) rfl) (b_ge _ _ (hxI y133) 16 false _ hb195) ?_)
                  intro a226 hA227
                  refine q_step hA227 rfl (d_pickF (wn rfl) (hA227.ev (v := (.bool false)) rfl) (hA227.ev (v := (.bool false)) rfl) ?_)
                  intro a228 hA229
                  refine q_step hA229 rfl (d_move (wn rfl) (hA229.ev (v := (.bool false)) rfl) ?_)
                  intro a230 hA231
                  refine q_step hA231 rfl (d_move (wy rfl rfl (hA231.get 50 _ rfl)) (hA231.ev (v := (.int .u64 ((nv 16 (List.take j111 (List.drop 2 l)) : Nat) : Int))) rfl) ?_)
                  intro a232 hA233
                  refine q_step hA233 rfl (d_move (wy rfl rfl (hA233.get 50 _ rfl)) (hA233.ev (v := (.int .i64 (hxI y133))) rfl) ?_)
                  intro a234 hA235
                  refine q_step hA235 rfl (d_conv (hxI y133) (wy rfl rfl (hA235.get 50 _ rfl)) (hA235.ev (v := (.int .i64 (hxI y133))) rfl) knd3 knd70 (wrap64 (by omega) (by omega)) ?_)
                  intro a236 hA237
                  refine q_step hA237 rfl (d_bin (wy rfl rfl (hA237.get 50 _ rfl)) (hA237.ev (v := (.int .u64 9223372036854775808)) rfl) (hA237.ev (v := (.int .u64 (hxI y133))) rfl) (b_subK (9223372036854775808 - (hxI y133)) (wrap64 (by omega) (by omega))) ?_)
                  intro a238 hA239
                  refine q_step hA239 rfl (d_move (wy rfl rfl (hA239.get 50 _ rfl)) (hA239.ev (v := (.int .i64 16)) rfl) ?_)
                  intro a240 hA241
                  refine q_step hA241 rfl (d_conv 16 (wy rfl rfl (hA241.get 50 _ rfl)) (hA241.ev (v := (.int .i64 16)) rfl) knd3 knd70 rfl ?_)
                  intro a242 hA243
                  refine q_step hA243 rfl (d_bin (wy rfl rfl (hA243.get 50 _ rfl)) (hA243.ev (v := (.int .u64 (9223372036854775808 - (hxI y133)))) rfl) (hA243.ev (v := (.int .u64 16)) rfl) (b_quo64 (by omega) (by omega) (by omega)) ?_)
                  intro a244 hA245
                  rcases Bool.eq_false_or_eq_true (decide (((nv 16 (List.take j111 (List.drop 2 l)) : Nat) : Int) > (9223372036854775808 - (hxI y133)) / 16)) with hb246 | hb246
                  · skip
                    have hq247 := of_decide_eq_true hb246
                    refine q_step hA245 rfl (d_bin (wy rfl rfl (hA245.get 50 _ rfl)) (hA245.ev (v := (.int .u64 ((nv 16 (List.take j111 (List.drop 2 l)) : Nat) : Int))) rfl) (hA245.ev (v := (.int .u64 ((9223372036854775808 - (hxI y133)) / 16))) rfl) (b_gt _ _ ((nv 16 (List.take j111 (List.drop 2 l)) : Nat) : Int) ((9223372036854775808 - (hxI y133)) / 16) true _ hb246) ?_)
                    intro a248 hA249
                    refine q_step hA249 rfl (d_pickF (wn rfl) (hA249.ev (v := (.bool false)) rfl) (hA249.ev (v := (.bool true)) rfl) ?_)
                    intro a250 hA251
                    refine q_end ?_
                    refine t_norm ?_
                    refine c_true hA251 rfl ?_
                    refine wp_seq ?_
                    refine wp_region_lit ?_
                    refine q_step hA251 rfl (d_assign (wn rfl) (hA251.ev (v := (.int .i64 0)) rfl) ?_)
                    intro a252 hA253
                    refine q_step hA253 rfl (d_assign (wn rfl) (hA253.ev (v := (.bool false)) rfl) ?_)
                    intro a254 hA255
                    refine q_end ?_
                    refine t_norm ?_
                    refine wp_ret ?_
                    refine t_ret ?_
                    refine i_ret ?_
                    refine t_ret ?_
                    refine t_ret ?_
                    refine i_ret ?_
                    refine t_ret ?_
                    refine ret2 (x := (.int .i64 0)) (y := (.bool false)) rfl hA255 rfl rfl ?_
                    have hgo := nv_go (bs := 16) hy134
                    rw [fits_over (by omega) (i := j111 + 1) (by omega)] at hnum
                    exact ⟨by rw [hnum] <;> rfl, b141⟩
                  · skip
                    have hq256 := of_decide_eq_false hb246
                    refine q_step hA245 rfl (d_bin (wy rfl rfl (hA245.get 50 _ rfl)) (hA245.ev (v := (.int .u64 ((nv 16 (List.take j111 (List.drop 2 l)) : Nat) : Int))) rfl) (hA245.ev (v := (.int .u64 ((9223372036854775808 - (hxI y133)) / 16))) rfl) (b_gt _ _ ((nv 16 (List.take j111 (List.drop 2 l)) : Nat) : Int) ((9223372036854775808 - (hxI y133)) / 16) false _ hb246) ?_)
                    intro a257 hA258
                    refine q_step hA258 rfl (d_pickF (wn rfl) (hA258.ev (v := (.bool false)) rfl) (hA258.ev (v := (.bool false)) rfl) ?_)
                    intro a259 hA260
                    refine q_end ?_
                    refine t_norm ?_
                    refine c_false hA260 rfl ?_
                    refine wp_skip ?_
                    refine t_norm ?_
                    refine wp_region_lit ?_
                    refine q_step hA260 rfl (d_move (wn rfl) (hA260.ev (v := (.int .u64 ((nv 16 (List.take j111 (List.drop 2 l)) : Nat) : Int))) rfl) ?_)
                    intro a261 hA262
                    refine q_step hA262 rfl (d_move (wn rfl) (hA262.ev (v := (.int .i64 16)) rfl) ?_)
                    intro a263 hA264
                    refine q_step hA264 rfl (d_conv 16 (wn rfl) (hA264.ev (v := (.int .i64 16)) rfl) knd3 knd70 rfl ?_)
                    intro a265 hA266
                    refine q_step hA266 rfl (d_bin (wn rfl) (hA266.ev (v := (.int .u64 ((nv 16 (List.take j111 (List.drop 2 l)) : Nat) : Int))) rfl) (hA266.ev (v := (.int .u64 16)) rfl) (b_mulK (((nv 16 (List.take j111 (List.drop 2 l)) : Nat) : Int) * 16) (wrap64 (by omega) (by omega))) ?_)
                    intro a267 hA268
                    refine q_step hA268 rfl (d_move (wn rfl) (hA268.ev (v := (.int .i64 (hxI y133))) rfl) ?_)
                    intro a269 hA270
                    refine q_step hA270 rfl (d_conv (hxI y133) (wn rfl) (hA270.ev (v := (.int .i64 (hxI y133))) rfl) knd3 knd70 (wrap64 (by omega) (by omega)) ?_)
                    intro a271 hA272
                    refine q_step hA272 rfl (d_bin (wn rfl) (hA272.ev (v := (.int .u64 (((nv 16 (List.take j111 (List.drop 2 l)) : Nat) : Int) * 16))) rfl) (hA272.ev (v := (.int .u64 (hxI y133))) rfl) (b_addK (((nv 16 (List.take j111 (List.drop 2 l)) : Nat) : Int) * 16 + (hxI y133)) (wrap64 (by omega) (by omega))) ?_)
                    intro a273 hA274
                    refine q_step hA274 rfl (d_assign (wn rfl) (hA274.ev (v := (.int .u64 (((nv 16 (List.take j111 (List.drop 2 l)) : Nat) : Int) * 16 + (hxI y133)))) rfl) ?_)
                    intro a275 hA276
                    refine q_end ?_
                    refine i_norm ?_
                    refine t_norm ?_
                    refine wp_region_lit ?_
                    refine q_step hA276 rfl (d_move (wn rfl) (hA276.ev (v := (.int .i64 ((j111 : Nat) : Int))) rfl) ?_)
                    intro a277 hA278
                    refine q_step hA278 rfl (d_bin (wn rfl) (hA278.ev (v := (.int .i64 ((j111 : Nat) : Int))) rfl) (hA278.ev (v := (.int .i64 1)) rfl) (b_addE (j111 + 1) (by omega) (by omega)) ?_)
                    intro a279 hA280
                    refine q_step hA280 rfl (d_assign (wn rfl) (hA280.ev (v := (.int .i64 ((j111 + 1 : Nat) : Int))) rfl) ?_)
                    intro a281 hA282
                    refine q_end ?_
                    refine t_norm ?_
                    have hgo := nv_go (bs := 16) hy134
                    have hall2 := all_go hy134 hall (by omega)
                    exact ⟨(List.drop 2 l).length - (j111 + 1), (by rw [hm117]; omega), j111 + 1, rfl, ⟨by omega, hall2, by omega⟩, hA282.cut _ (fm_cons (hA282.get 0 _ rfl) (fm_cons (hA282.get 2 _ rfl) (fm_cons (hA282.get 3 _ rfl) (fm_cons (hA282.get 4 _ rfl) (fm_cons (hA282.get 5 _ rfl) (fm_cons ((hA282.get 6 _ rfl).trans (congrArg (Value.int .u64) (by omega))) (fm_cons (hA282.get 7 _ rfl) fm_nil))))))), b141⟩
            · skip
              have hq283 := of_decide_eq_false hb125
              refine q_step hA124 rfl (d_bin (wn rfl) (hA124.ev (v := (.int .i64 ((j111 : Nat) : Int))) rfl) (hA124.ev (v := (.int .i64 (((List.drop 2 l).length : Nat) : Int))) rfl) (b_lt _ _ ((j111 : Nat) : Int) (((List.drop 2 l).length : Nat) : Int) false _ hb125) ?_)
              intro a284 hA285
              refine q_end ?_
              refine t_norm ?_
              refine c_false hA285 rfl ?_
              refine wp_exit ?_
              refine t_exit ?_
              refine t_exit ?_
              refine i_here ?_
              refine t_norm ?_
              refine wp_seq ?_
              refine wp_region_lit ?_
              refine q_step hA285 rfl (d_move (wn rfl) (hA285.ev (v := (.int .u64 ((nv 16 (List.take j111 (List.drop 2 l)) : Nat) : Int))) rfl) ?_)
              intro a286 hA287
              refine q_step hA287 rfl (d_conv (IntKind.wrap .i64 ((nv 16 (List.take j111 (List.drop 2 l)) : Nat) : Int)) (wn rfl) (hA287.ev (v := (.int .u64 ((nv 16 (List.take j111 (List.drop 2 l)) : Nat) : Int))) rfl) knd70 knd3 rfl ?_)
              intro a288 hA289
              refine q_step hA289 rfl (d_assign (wn rfl) (hA289.ev (v := (.int .i64 (IntKind.wrap .i64 ((nv 16 (List.take j111 (List.drop 2 l)) : Nat) : Int)))) rfl) ?_)
              intro a290 hA291
              refine q_step hA291 rfl (d_assign (wn rfl) (hA291.ev (v := (.bool true)) rfl) ?_)
              intro a292 hA293
              refine q_end ?_
              refine t_norm ?_
              refine wp_ret ?_
              refine ret2 (x := (.int .i64 (IntKind.wrap .i64 ((nv 16 (List.take j111 (List.drop 2 l)) : Nat) : Int)))) (y := (.bool true)) rfl hA293 rfl rfl ?_
              rw [fits_end (by intro h; rw [h] at hne; exact absurd hne (by simp)) hall (by omega) htop] at hnum
              exact ⟨by rw [hnum] <;> rfl, b116⟩
      · skip
        have hq294 := ne_of_beq hb41
        refine q_step hA40 rfl (d_bin (wy rfl rfl (hA40.get 17 _ rfl)) (hA40.ev (v := (.int .u8 ((y37.toNat : Nat) : Int))) rfl) (hA40.ev (v := (.int .u8 120)) rfl) (b_eq _ _ ((y37.toNat : Nat) : Int) 120 false _ hb41) ?_)
        intro a295 hA296
        refine q_step hA296 rfl (d_pickT (wn rfl) (hA296.ev (v := (.bool true)) rfl) (hA296.ev (v := (.bool false)) rfl) ?_)
        intro a297 hA298
        refine q_end ?_
        refine t_norm ?_
        refine c_false hA298 rfl ?_
        refine wp_skip ?_
        refine t_norm ?_
        refine wp_seq ?_
        refine wp_seq ?_
        refine wp_region_lit ?_
        refine q_step hA298 rfl (d_move (wn rfl) (hA298.ev (v := (.string (S l))) rfl) ?_)
        intro a299 hA300
        have hnum := numd_b hy38 (by omega)
        refine q_step hA300 rfl (d_slen (wn rfl) (hA300.ev (v := (.string (S l))) rfl) str9 ?_)
        intro a301 hA302
        rcases Bool.eq_false_or_eq_true (decide (((l.length : Nat) : Int) < 1)) with hb303 | hb303
        · skip
          have hq304 := of_decide_eq_true hb303
          refine q_step hA302 rfl (d_bin (wn rfl) (hA302.ev (v := (.int .i64 ((l.length : Nat) : Int))) rfl) (hA302.ev (v := (.int .i64 1)) rfl) (b_lt _ _ ((l.length : Nat) : Int) 1 true _ hb303) ?_)
          intro a305 hA306
          refine q_step hA306 rfl (d_move (wn rfl) (hA306.ev (v := (.bool true)) rfl) ?_)
          intro a307 hA308
          refine q_step hA308 rfl (does_not (wno rfl rfl (.inl (hA308.get 27 _ rfl))) ?_)
          intro a309 hA310
          refine q_step hA310 rfl (does_not (wno rfl rfl (.inl (hA310.get 27 _ rfl))) ?_)
          intro a311 hA312
          refine q_step hA312 rfl (does_not (wno rfl rfl (.inl (hA312.get 27 _ rfl))) ?_)
          intro a313 hA314
          refine q_step hA314 rfl (does_not (wno rfl rfl (.inl (hA314.get 27 _ rfl))) ?_)
          intro a315 hA316
          refine q_step hA316 rfl (d_pickT (wn rfl) (hA316.ev (v := (.bool true)) rfl) (hA316.ev (v := (.bool true)) rfl) ?_)
          intro a317 hA318
          refine q_end ?_
          refine t_norm ?_
          refine c_true hA318 rfl ?_
          refine wp_seq ?_
          refine wp_region_lit ?_
          refine q_step hA318 rfl (d_assign (wn rfl) (hA318.ev (v := (.int .i64 0)) rfl) ?_)
          intro a319 hA320
          refine q_step hA320 rfl (d_assign (wn rfl) (hA320.ev (v := (.bool false)) rfl) ?_)
          intro a321 hA322
          refine q_end ?_
          refine t_norm ?_
          refine wp_ret ?_
          refine t_ret ?_
          refine ret2 (x := (.int .i64 0)) (y := (.bool false)) rfl hA322 rfl rfl ?_
          rw [if_neg (by omega), val_nil (List.eq_nil_of_length_eq_zero (by omega))] at hnum
          exact ⟨by rw [hnum] <;> rfl, b0⟩
        · skip
          have hq323 := of_decide_eq_false hb303
          refine q_step hA302 rfl (d_bin (wn rfl) (hA302.ev (v := (.int .i64 ((l.length : Nat) : Int))) rfl) (hA302.ev (v := (.int .i64 1)) rfl) (b_lt _ _ ((l.length : Nat) : Int) 1 false _ hb303) ?_)
          intro a324 hA325
          refine q_step hA325 rfl (d_move (wn rfl) (hA325.ev (v := (.bool false)) rfl) ?_)
          intro a326 hA327
          refine q_step hA327 rfl (d_move (wy rfl rfl (hA327.get 27 _ rfl)) (hA327.ev (v := (.string (S l))) rfl) ?_)
          intro a328 hA329
          refine q_step hA329 rfl (d_slen (wy rfl rfl (hA329.get 27 _ rfl)) (hA329.ev (v := (.string (S l))) rfl) str9 ?_)
          intro a330 hA331
          refine q_step hA331 rfl (d_move (wy rfl rfl (hA331.get 27 _ rfl)) (hA331.ev (v := (.int .i64 19)) rfl) ?_)
          intro a332 hA333
          rcases Bool.eq_false_or_eq_true (decide (((l.length : Nat) : Int) > 19)) with hb334 | hb334
          · skip
            have hq335 := of_decide_eq_true hb334
            refine q_step hA333 rfl (d_bin (wy rfl rfl (hA333.get 27 _ rfl)) (hA333.ev (v := (.int .i64 ((l.length : Nat) : Int))) rfl) (hA333.ev (v := (.int .i64 19)) rfl) (b_gt _ _ ((l.length : Nat) : Int) 19 true _ hb334) ?_)
            intro a336 hA337
            refine q_step hA337 rfl (d_pickF (wn rfl) (hA337.ev (v := (.bool false)) rfl) (hA337.ev (v := (.bool true)) rfl) ?_)
            intro a338 hA339
            refine q_end ?_
            refine t_norm ?_
            refine c_true hA339 rfl ?_
            refine wp_seq ?_
            refine wp_region_lit ?_
            refine q_step hA339 rfl (d_assign (wn rfl) (hA339.ev (v := (.int .i64 0)) rfl) ?_)
            intro a340 hA341
            refine q_step hA341 rfl (d_assign (wn rfl) (hA341.ev (v := (.bool false)) rfl) ?_)
            intro a342 hA343
            refine q_end ?_
            refine t_norm ?_
            refine wp_ret ?_
            refine t_ret ?_
            refine ret2 (x := (.int .i64 0)) (y := (.bool false)) rfl hA343 rfl rfl ?_
            rw [if_pos (by omega)] at hnum
            exact ⟨by rw [hnum] <;> rfl, b0⟩
          · skip
            have hq344 := of_decide_eq_false hb334
            refine q_step hA333 rfl (d_bin (wy rfl rfl (hA333.get 27 _ rfl)) (hA333.ev (v := (.int .i64 ((l.length : Nat) : Int))) rfl) (hA333.ev (v := (.int .i64 19)) rfl) (b_gt _ _ ((l.length : Nat) : Int) 19 false _ hb334) ?_)
            intro a345 hA346
            refine q_step hA346 rfl (d_pickF (wn rfl) (hA346.ev (v := (.bool false)) rfl) (hA346.ev (v := (.bool false)) rfl) ?_)
            intro a347 hA348
            refine q_end ?_
            refine t_norm ?_
            refine c_false hA348 rfl ?_
            refine wp_skip ?_
            refine t_norm ?_
            refine wp_seq ?_
            refine wp_region_lit ?_
            refine q_step hA348 rfl (d_assign (wn rfl) (hA348.ev (v := (.int .u64 0)) rfl) ?_)
            intro a349 hA350
            refine q_end ?_
            refine t_norm ?_
            refine wp_seq ?_
            refine wp_seq ?_
            refine wp_region_lit ?_
            refine q_step hA350 rfl (d_assign (wn rfl) (hA350.ev (v := (.int .i64 0)) rfl) ?_)
            intro a351 hA352
            rw [if_neg (by omega)] at hnum
            refine q_end ?_
            refine t_norm ?_
            refine wp_block ?_
            have hne : 0 < l.length := by omega
            refine loop_by (fun m354 a355 w356 => ∃ j353 : Nat, m354 = l.length - j353 ∧ (j353 ≤ l.length ∧ allD 10 (List.take j353 l) = true ∧ nv 10 (List.take j353 l) ≤ 9223372036854775808) ∧ St 69 [(0, (.string (S l))), (2, (.int .i64 0)), (3, (.bool false)), (4, (.int .i64 10)), (5, (.int .i64 19)), (6, (.int .u64 ((nv 10 (List.take j353 l) : Nat) : Int))), (7, (.int .i64 ((j353 : Nat) : Int)))] a355 ∧ Below w.heap.size w w356) (l.length - 0) ⟨0, rfl, ⟨by omega, rfl, by rw [nv_zero]; omega⟩, hA352.cut _ (fm_cons (hA352.get 0 _ rfl) (fm_cons (hA352.get 2 _ rfl) (fm_cons (hA352.get 3 _ rfl) (fm_cons (hA352.get 4 _ rfl) (fm_cons (hA352.get 5 _ rfl) (fm_cons ((hA352.get 6 _ rfl).trans (congrArg (Value.int .u64) (rfl))) (fm_cons ((hA352.get 7 _ rfl).trans (congrArg (Value.int .i64) (by omega))) fm_nil))))))), b0⟩ ?_
            rintro m354 a355 w356 ⟨j353, hm359, hc360, hA357, b358⟩
            obtain ⟨hj, hall, htop⟩ := hc360
            refine wp_seq ?_
            refine wp_seq ?_
            refine wp_region_lit ?_
            refine q_step hA357 rfl (d_move (wn rfl) (hA357.ev (v := (.int .i64 ((j353 : Nat) : Int))) rfl) ?_)
            intro a361 hA362
            refine q_step hA362 rfl (d_move (wn rfl) (hA362.ev (v := (.string (S l))) rfl) ?_)
            intro a363 hA364
            refine q_step hA364 rfl (d_slen (wn rfl) (hA364.ev (v := (.string (S l))) rfl) str9 ?_)
            intro a365 hA366
            rcases Bool.eq_false_or_eq_true (decide (((j353 : Nat) : Int) < ((l.length : Nat) : Int))) with hb367 | hb367
            · skip
              have hq368 := of_decide_eq_true hb367
              refine q_step hA366 rfl (d_bin (wn rfl) (hA366.ev (v := (.int .i64 ((j353 : Nat) : Int))) rfl) (hA366.ev (v := (.int .i64 ((l.length : Nat) : Int))) rfl) (b_lt _ _ ((j353 : Nat) : Int) ((l.length : Nat) : Int) true _ hb367) ?_)
              intro a369 hA370
              refine q_end ?_
              refine t_norm ?_
              refine c_true hA370 rfl ?_
              refine wp_skip ?_
              refine t_norm ?_
              refine wp_seq ?_
              refine wp_block ?_
              refine wp_seq ?_
              refine wp_region_lit ?_
              refine q_step hA370 rfl (d_move (wn rfl) (hA370.ev (v := (.string (S l))) rfl) ?_)
              intro a371 hA372
              refine q_step hA372 rfl (d_move (wn rfl) (hA372.ev (v := (.int .i64 ((j353 : Nat) : Int))) rfl) ?_)
              intro a373 hA374
              obtain ⟨y375, hy376⟩ : ∃ y375, l[j353]? = some y375 := ⟨_, List.getElem?_eq_getElem (show j353 < l.length by first | omega | (rw [List.length_drop]; omega))⟩
              refine q_step hA374 rfl (d_sat (j := j353) (wn rfl) (hA374.ev (v := (.string (S l))) rfl) (hA374.ev (v := (.int .i64 ((j353 : Nat) : Int))) rfl) str9 hy376 ?_)
              intro a377 hA378
              have hxo := hx_or y375
              refine q_step hA378 rfl (d_call (wn rfl) ent47 (map1 (hA378.ev (v := (.int .u8 ((y375.toNat : Nat) : Int))) rfl)) (rhex_any y375 w356) ?_)
              rintro e382 w379 ⟨he381, hG380⟩
              have b383 := below_grow b358 hG380 b358.size
              refine ⟨(.int .i64 (hxI y375)), he381, ?_⟩
              intro a384 hA385
              refine q_step hA385 rfl (d_assign (wn rfl) (hA385.ev (v := (.int .i64 (hxI y375))) rfl) ?_)
              intro a386 hA387
              refine q_end ?_
              refine t_norm ?_
              refine wp_seq ?_
              refine wp_seq ?_
              refine wp_region_lit ?_
              refine q_step hA387 rfl (d_move (wn rfl) (hA387.ev (v := (.int .i64 (hxI y375))) rfl) ?_)
              intro a388 hA389
              rcases Bool.eq_false_or_eq_true (decide (hxI y375 < 0)) with hb390 | hb390
              · skip
                have hq391 := of_decide_eq_true hb390
                refine q_step hA389 rfl (d_bin (wn rfl) (hA389.ev (v := (.int .i64 (hxI y375))) rfl) (hA389.ev (v := (.int .i64 0)) rfl) (b_lt _ _ (hxI y375) 0 true _ hb390) ?_)
                intro a392 hA393
                refine q_step hA393 rfl (d_move (wn rfl) (hA393.ev (v := (.bool true)) rfl) ?_)
                intro a394 hA395
                refine q_step hA395 rfl (does_not (wno rfl rfl (.inl (hA395.get 45 _ rfl))) ?_)
                intro a396 hA397
                refine q_step hA397 rfl (does_not (wno rfl rfl (.inl (hA397.get 45 _ rfl))) ?_)
                intro a398 hA399
                refine q_step hA399 rfl (does_not (wno rfl rfl (.inl (hA399.get 45 _ rfl))) ?_)
                intro a400 hA401
                refine q_step hA401 rfl (d_pickT (wn rfl) (hA401.ev (v := (.bool true)) rfl) (hA401.ev (v := (.bool true)) rfl) ?_)
                intro a402 hA403
                refine q_step hA403 rfl (d_move (wn rfl) (hA403.ev (v := (.bool true)) rfl) ?_)
                intro a404 hA405
                refine q_step hA405 rfl (does_not (wno rfl rfl (.inl (hA405.get 50 _ rfl))) ?_)
                intro a406 hA407
                refine q_step hA407 rfl (does_not (wno rfl rfl (.inl (hA407.get 50 _ rfl))) ?_)
                intro a408 hA409
                refine q_step hA409 rfl (does_not (wno rfl rfl (.inl (hA409.get 50 _ rfl))) ?_)
                intro a410 hA411
                refine q_step hA411 rfl (does_not (wno rfl rfl (.inl (hA411.get 50 _ rfl))) ?_)
                intro a412 hA413
                refine q_step hA413 rfl (does_not (wno rfl rfl (.inl (hA413.get 50 _ rfl))) ?_)
                intro a414 hA415
                refine q_step hA415 rfl (does_not (wno rfl rfl (.inl (hA415.get 50 _ rfl))) ?_)
                intro a416 hA417
                refine q_step hA417 rfl (does_not (wno rfl rfl (.inl (hA417.get 50 _ rfl))) ?_)
                intro a418 hA419
                refine q_step hA419 rfl (does_not (wno rfl rfl (.inl (hA419.get 50 _ rfl))) ?_)
                intro a420 hA421
                refine q_step hA421 rfl (d_pickT (wn rfl) (hA421.ev (v := (.bool true)) rfl) (hA421.ev (v := (.bool true)) rfl) ?_)
                intro a422 hA423
                refine q_end ?_
                refine t_norm ?_
                refine c_true hA423 rfl ?_
                refine wp_seq ?_
                refine wp_region_lit ?_
                refine q_step hA423 rfl (d_assign (wn rfl) (hA423.ev (v := (.int .i64 0)) rfl) ?_)
                intro a424 hA425
                refine q_step hA425 rfl (d_assign (wn rfl) (hA425.ev (v := (.bool false)) rfl) ?_)
                intro a426 hA427
                refine q_end ?_
                refine t_norm ?_
                refine wp_ret ?_
                refine t_ret ?_
                refine i_ret ?_
                refine t_ret ?_
                refine t_ret ?_
                refine i_ret ?_
                refine t_ret ?_
                refine ret2 (x := (.int .i64 0)) (y := (.bool false)) rfl hA427 rfl rfl ?_
                rw [fits_bad hy376 (by omega)] at hnum
                exact ⟨by rw [hnum] <;> rfl, b383⟩
              · skip
                have hq428 := of_decide_eq_false hb390
                refine q_step hA389 rfl (d_bin (wn rfl) (hA389.ev (v := (.int .i64 (hxI y375))) rfl) (hA389.ev (v := (.int .i64 0)) rfl) (b_lt _ _ (hxI y375) 0 false _ hb390) ?_)
                intro a429 hA430
                refine q_step hA430 rfl (d_move (wn rfl) (hA430.ev (v := (.bool false)) rfl) ?_)
                intro a431 hA432
                refine q_step hA432 rfl (d_move (wy rfl rfl (hA432.get 45 _ rfl)) (hA432.ev (v := (.int .i64 (hxI y375))) rfl) ?_)
                intro a433 hA434
                refine q_step hA434 rfl (d_move (wy rfl rfl (hA434.get 45 _ rfl)) (hA434.ev (v := (.int .i64 10)) rfl) ?_)
                intro a435 hA436
                rcases Bool.eq_false_or_eq_true (decide (hxI y375 ≥ 10)) with hb437 | hb437
                · skip
                  have hq438 := of_decide_eq_true hb437
                  refine q_step hA436 rfl (d_bin (wy rfl rfl (hA436.get 45 _ rfl)) (hA436.ev (v := (.int .i64 (hxI y375))) rfl) (hA436.ev (v := (.int .i64 10)) rfl) (b_ge _ _ (hxI y375) 10 true _ hb437) ?_)
                  intro a439 hA440
                  refine q_step hA440 rfl (d_pickF (wn rfl) (hA440.ev (v := (.bool false)) rfl) (hA440.ev (v := (.bool true)) rfl) ?_)
                  intro a441 hA442
                  refine q_step hA442 rfl (d_move (wn rfl) (hA442.ev (v := (.bool true)) rfl) ?_)
                  intro a443 hA444
                  refine q_step hA444 rfl (does_not (wno rfl rfl (.inl (hA444.get 50 _ rfl))) ?_)
                  intro a445 hA446
                  refine q_step hA446 rfl (does_not (wno rfl rfl (.inl (hA446.get 50 _ rfl))) ?_)
                  intro a447 hA448
                  refine q_step hA448 rfl (does_not (wno rfl rfl (.inl (hA448.get 50 _ rfl))) ?_)
                  intro a449 hA450
                  refine q_step hA450 rfl (does_not (wno rfl rfl (.inl (hA450.get 50 _ rfl))) ?_)
                  intro a451 hA452
                  refine q_step hA452 rfl (does_not (wno rfl rfl (.inl (hA452.get 50 _ rfl))) ?_)
                  intro a453 hA454
                  refine q_step hA454 rfl (does_not (wno rfl rfl (.inl (hA454.get 50 _ rfl))) ?_)
                  intro a455 hA456
                  refine q_step hA456 rfl (does_not (wno rfl rfl (.inl (hA456.get 50 _ rfl))) ?_)
                  intro a457 hA458
                  refine q_step hA458 rfl (does_not (wno rfl rfl (.inl (hA458.get 50 _ rfl))) ?_)
                  intro a459 hA460
                  refine q_step hA460 rfl (d_pickT (wn rfl) (hA460.ev (v := (.bool true)) rfl) (hA460.ev (v := (.bool true)) rfl) ?_)
                  intro a461 hA462
                  refine q_end ?_
                  refine t_norm ?_
                  refine c_true hA462 rfl ?_
                  refine wp_seq ?_
                  refine wp_region_lit ?_
                  refine q_step hA462 rfl (d_assign (wn rfl) (hA462.ev (v := (.int .i64 0)) rfl) ?_)
                  intro a463 hA464
                  refine q_step hA464 rfl (d_assign (wn rfl) (hA464.ev (v := (.bool false)) rfl) ?_)
                  intro a465 hA466
                  refine q_end ?_
                  refine t_norm ?_
                  refine wp_ret ?_
                  refine t_ret ?_
                  refine i_ret ?_
                  refine t_ret ?_
                  refine t_ret ?_
                  refine i_ret ?_
                  refine t_ret ?_
                  refine ret2 (x := (.int .i64 0)) (y := (.bool false)) rfl hA466 rfl rfl ?_
                  rw [fits_bad hy376 (by omega)] at hnum
                  exact ⟨by rw [hnum] <;> rfl, b383⟩
                · skip
                  have hq467 := of_decide_eq_false hb437
                  refine q_step hA436 rfl (d_bin (wy rfl rfl (hA436.get 45 _ rfl)) (hA436.ev (v := (.int .i64 (hxI y375))) rfl) (hA436.ev (v := (.int .i64 10)) rfl) (b_ge _ _ (hxI y375) 10 false _ hb437) ?_)
                  intro a468 hA469
                  refine q_step hA469 rfl (d_pickF (wn rfl) (hA469.ev (v := (.bool false)) rfl) (hA469.ev (v := (.bool false)) rfl) ?_)
                  intro a470 hA471
                  refine q_step hA471 rfl (d_move (wn rfl) (hA471.ev (v := (.bool false)) rfl) ?_)
                  intro a472 hA473
                  refine q_step hA473 rfl (d_move (wy rfl rfl (hA473.get 50 _ rfl)) (hA473.ev (v := (.int .u64 ((nv 10 (List.take j353 l) : Nat) : Int))) rfl) ?_)
                  intro a474 hA475
                  refine q_step hA475 rfl (d_move (wy rfl rfl (hA475.get 50 _ rfl)) (hA475.ev (v := (.int .i64 (hxI y375))) rfl) ?_)
                  intro a476 hA477
                  refine q_step hA477 rfl (d_conv (hxI y375) (wy rfl rfl (hA477.get 50 _ rfl)) (hA477.ev (v := (.int .i64 (hxI y375))) rfl) knd3 knd70 (wrap64 (by omega) (by omega)) ?_)
                  intro a478 hA479
                  refine q_step hA479 rfl (d_bin (wy rfl rfl (hA479.get 50 _ rfl)) (hA479.ev (v := (.int .u64 9223372036854775808)) rfl) (hA479.ev (v := (.int .u64 (hxI y375))) rfl) (b_subK (9223372036854775808 - (hxI y375)) (wrap64 (by omega) (by omega))) ?_)
                  intro a480 hA481
                  refine q_step hA481 rfl (d_move (wy rfl rfl (hA481.get 50 _ rfl)) (hA481.ev (v := (.int .i64 10)) rfl) ?_)
                  intro a482 hA483
                  refine q_step hA483 rfl (d_conv 10 (wy rfl rfl (hA483.get 50 _ rfl)) (hA483.ev (v := (.int .i64 10)) rfl) knd3 knd70 rfl ?_)
                  intro a484 hA485
                  refine q_step hA485 rfl (d_bin (wy rfl rfl (hA485.get 50 _ rfl)) (hA485.ev (v := (.int .u64 (9223372036854775808 - (hxI y375)))) rfl) (hA485.ev (v := (.int .u64 10)) rfl) (b_quo64 (by omega) (by omega) (by omega)) ?_)
                  intro a486 hA487
                  rcases Bool.eq_false_or_eq_true (decide (((nv 10 (List.take j353 l) : Nat) : Int) > (9223372036854775808 - (hxI y375)) / 10)) with hb488 | hb488
                  · skip
                    have hq489 := of_decide_eq_true hb488
                    refine q_step hA487 rfl (d_bin (wy rfl rfl (hA487.get 50 _ rfl)) (hA487.ev (v := (.int .u64 ((nv 10 (List.take j353 l) : Nat) : Int))) rfl) (hA487.ev (v := (.int .u64 ((9223372036854775808 - (hxI y375)) / 10))) rfl) (b_gt _ _ ((nv 10 (List.take j353 l) : Nat) : Int) ((9223372036854775808 - (hxI y375)) / 10) true _ hb488) ?_)
                    intro a490 hA491
                    refine q_step hA491 rfl (d_pickF (wn rfl) (hA491.ev (v := (.bool false)) rfl) (hA491.ev (v := (.bool true)) rfl) ?_)
                    intro a492 hA493
                    refine q_end ?_
                    refine t_norm ?_
                    refine c_true hA493 rfl ?_
                    refine wp_seq ?_
                    refine wp_region_lit ?_
                    refine q_step hA493 rfl (d_assign (wn rfl) (hA493.ev (v := (.int .i64 0)) rfl) ?_)
                    intro a494 hA495
                    refine q_step hA495 rfl (d_assign (wn rfl) (hA495.ev (v := (.bool false)) rfl) ?_)
                    intro a496 hA497
                    refine q_end ?_
                    refine t_norm ?_
                    refine wp_ret ?_
                    refine t_ret ?_
                    refine i_ret ?_
                    refine t_ret ?_
                    refine t_ret ?_
                    refine i_ret ?_
                    refine t_ret ?_
                    refine ret2 (x := (.int .i64 0)) (y := (.bool false)) rfl hA497 rfl rfl ?_
                    have hgo := nv_go (bs := 10) hy376
                    rw [fits_over (by omega) (i := j353 + 1) (by omega)] at hnum
                    exact ⟨by rw [hnum] <;> rfl, b383⟩
                  · skip
                    have hq498 := of_decide_eq_false hb488
                    refine q_step hA487 rfl (d_bin (wy rfl rfl (hA487.get 50 _ rfl)) (hA487.ev (v := (.int .u64 ((nv 10 (List.take j353 l) : Nat) : Int))) rfl) (hA487.ev (v := (.int .u64 ((9223372036854775808 - (hxI y375)) / 10))) rfl) (b_gt _ _ ((nv 10 (List.take j353 l) : Nat) : Int) ((9223372036854775808 - (hxI y375)) / 10) false _ hb488) ?_)
                    intro a499 hA500
                    refine q_step hA500 rfl (d_pickF (wn rfl) (hA500.ev (v := (.bool false)) rfl) (hA500.ev (v := (.bool false)) rfl) ?_)
                    intro a501 hA502
                    refine q_end ?_
                    refine t_norm ?_
                    refine c_false hA502 rfl ?_
                    refine wp_skip ?_
                    refine t_norm ?_
                    refine wp_region_lit ?_
                    refine q_step hA502 rfl (d_move (wn rfl) (hA502.ev (v := (.int .u64 ((nv 10 (List.take j353 l) : Nat) : Int))) rfl) ?_)
                    intro a503 hA504
                    refine q_step hA504 rfl (d_move (wn rfl) (hA504.ev (v := (.int .i64 10)) rfl) ?_)
                    intro a505 hA506
                    refine q_step hA506 rfl (d_conv 10 (wn rfl) (hA506.ev (v := (.int .i64 10)) rfl) knd3 knd70 rfl ?_)
                    intro a507 hA508
                    refine q_step hA508 rfl (d_bin (wn rfl) (hA508.ev (v := (.int .u64 ((nv 10 (List.take j353 l) : Nat) : Int))) rfl) (hA508.ev (v := (.int .u64 10)) rfl) (b_mulK (((nv 10 (List.take j353 l) : Nat) : Int) * 10) (wrap64 (by omega) (by omega))) ?_)
                    intro a509 hA510
                    refine q_step hA510 rfl (d_move (wn rfl) (hA510.ev (v := (.int .i64 (hxI y375))) rfl) ?_)
                    intro a511 hA512
                    refine q_step hA512 rfl (d_conv (hxI y375) (wn rfl) (hA512.ev (v := (.int .i64 (hxI y375))) rfl) knd3 knd70 (wrap64 (by omega) (by omega)) ?_)
                    intro a513 hA514
                    refine q_step hA514 rfl (d_bin (wn rfl) (hA514.ev (v := (.int .u64 (((nv 10 (List.take j353 l) : Nat) : Int) * 10))) rfl) (hA514.ev (v := (.int .u64 (hxI y375))) rfl) (b_addK (((nv 10 (List.take j353 l) : Nat) : Int) * 10 + (hxI y375)) (wrap64 (by omega) (by omega))) ?_)
                    intro a515 hA516
                    refine q_step hA516 rfl (d_assign (wn rfl) (hA516.ev (v := (.int .u64 (((nv 10 (List.take j353 l) : Nat) : Int) * 10 + (hxI y375)))) rfl) ?_)
                    intro a517 hA518
                    refine q_end ?_
                    refine i_norm ?_
                    refine t_norm ?_
                    refine wp_region_lit ?_
                    refine q_step hA518 rfl (d_move (wn rfl) (hA518.ev (v := (.int .i64 ((j353 : Nat) : Int))) rfl) ?_)
                    intro a519 hA520
                    refine q_step hA520 rfl (d_bin (wn rfl) (hA520.ev (v := (.int .i64 ((j353 : Nat) : Int))) rfl) (hA520.ev (v := (.int .i64 1)) rfl) (b_addE (j353 + 1) (by omega) (by omega)) ?_)
                    intro a521 hA522
                    refine q_step hA522 rfl (d_assign (wn rfl) (hA522.ev (v := (.int .i64 ((j353 + 1 : Nat) : Int))) rfl) ?_)
                    intro a523 hA524
                    refine q_end ?_
                    refine t_norm ?_
                    have hgo := nv_go (bs := 10) hy376
                    have hall2 := all_go hy376 hall (by omega)
                    exact ⟨l.length - (j353 + 1), (by rw [hm359]; omega), j353 + 1, rfl, ⟨by omega, hall2, by omega⟩, hA524.cut _ (fm_cons (hA524.get 0 _ rfl) (fm_cons (hA524.get 2 _ rfl) (fm_cons (hA524.get 3 _ rfl) (fm_cons (hA524.get 4 _ rfl) (fm_cons (hA524.get 5 _ rfl) (fm_cons ((hA524.get 6 _ rfl).trans (congrArg (Value.int .u64) (by omega))) (fm_cons (hA524.get 7 _ rfl) fm_nil))))))), b383⟩
            · skip
              have hq525 := of_decide_eq_false hb367
              refine q_step hA366 rfl (d_bin (wn rfl) (hA366.ev (v := (.int .i64 ((j353 : Nat) : Int))) rfl) (hA366.ev (v := (.int .i64 ((l.length : Nat) : Int))) rfl) (b_lt _ _ ((j353 : Nat) : Int) ((l.length : Nat) : Int) false _ hb367) ?_)
              intro a526 hA527
              refine q_end ?_
              refine t_norm ?_
              refine c_false hA527 rfl ?_
              refine wp_exit ?_
              refine t_exit ?_
              refine t_exit ?_
              refine i_here ?_
              refine t_norm ?_
              refine wp_seq ?_
              refine wp_region_lit ?_
              refine q_step hA527 rfl (d_move (wn rfl) (hA527.ev (v := (.int .u64 ((nv 10 (List.take j353 l) : Nat) : Int))) rfl) ?_)
              intro a528 hA529
              refine q_step hA529 rfl (d_conv (IntKind.wrap .i64 ((nv 10 (List.take j353 l) : Nat) : Int)) (wn rfl) (hA529.ev (v := (.int .u64 ((nv 10 (List.take j353 l) : Nat) : Int))) rfl) knd70 knd3 rfl ?_)
              intro a530 hA531
              refine q_step hA531 rfl (d_assign (wn rfl) (hA531.ev (v := (.int .i64 (IntKind.wrap .i64 ((nv 10 (List.take j353 l) : Nat) : Int)))) rfl) ?_)
              intro a532 hA533
              refine q_step hA533 rfl (d_assign (wn rfl) (hA533.ev (v := (.bool true)) rfl) ?_)
              intro a534 hA535
              refine q_end ?_
              refine t_norm ?_
              refine wp_ret ?_
              refine ret2 (x := (.int .i64 (IntKind.wrap .i64 ((nv 10 (List.take j353 l) : Nat) : Int)))) (y := (.bool true)) rfl hA535 rfl rfl ?_
              rw [fits_end (by intro h; rw [h] at hne; exact absurd hne (by simp)) hall (by omega) htop] at hnum
              exact ⟨by rw [hnum] <;> rfl, b358⟩
    · skip
      have hq536 := ne_of_beq hb27
      refine q_step hA26 rfl (d_bin (wy rfl rfl (hA26.get 12 _ rfl)) (hA26.ev (v := (.int .u8 ((y23.toNat : Nat) : Int))) rfl) (hA26.ev (v := (.int .u8 48)) rfl) (b_eq _ _ ((y23.toNat : Nat) : Int) 48 false _ hb27) ?_)
      intro a537 hA538
      refine q_step hA538 rfl (d_pickT (wn rfl) (hA538.ev (v := (.bool true)) rfl) (hA538.ev (v := (.bool false)) rfl) ?_)
      intro a539 hA540
      refine q_step hA540 rfl (d_move (wn rfl) (hA540.ev (v := (.bool false)) rfl) ?_)
      intro a541 hA542
      refine q_step hA542 rfl (does_not (wno rfl rfl (.inl (hA542.get 17 _ rfl))) ?_)
      intro a543 hA544
      refine q_step hA544 rfl (does_not (wno rfl rfl (.inl (hA544.get 17 _ rfl))) ?_)
      intro a545 hA546
      refine q_step hA546 rfl (does_not (wno rfl rfl (.inl (hA546.get 17 _ rfl))) ?_)
      intro a547 hA548
      refine q_step hA548 rfl (d_pickF (wn rfl) (hA548.ev (v := (.bool false)) rfl) (hA548.ev (v := (.bool false)) rfl) ?_)
      intro a549 hA550
      refine q_end ?_
      refine t_norm ?_
      refine c_false hA550 rfl ?_
      refine wp_skip ?_
      refine t_norm ?_
      refine wp_seq ?_
      refine wp_seq ?_
      refine wp_region_lit ?_
      refine q_step hA550 rfl (d_move (wn rfl) (hA550.ev (v := (.string (S l))) rfl) ?_)
      intro a551 hA552
      have hnum := numd_a hy24 (by omega)
      refine q_step hA552 rfl (d_slen (wn rfl) (hA552.ev (v := (.string (S l))) rfl) str9 ?_)
      intro a553 hA554
      rcases Bool.eq_false_or_eq_true (decide (((l.length : Nat) : Int) < 1)) with hb555 | hb555
      · skip
        have hq556 := of_decide_eq_true hb555
        refine q_step hA554 rfl (d_bin (wn rfl) (hA554.ev (v := (.int .i64 ((l.length : Nat) : Int))) rfl) (hA554.ev (v := (.int .i64 1)) rfl) (b_lt _ _ ((l.length : Nat) : Int) 1 true _ hb555) ?_)
        intro a557 hA558
        refine q_step hA558 rfl (d_move (wn rfl) (hA558.ev (v := (.bool true)) rfl) ?_)
        intro a559 hA560
        refine q_step hA560 rfl (does_not (wno rfl rfl (.inl (hA560.get 27 _ rfl))) ?_)
        intro a561 hA562
        refine q_step hA562 rfl (does_not (wno rfl rfl (.inl (hA562.get 27 _ rfl))) ?_)
        intro a563 hA564
        refine q_step hA564 rfl (does_not (wno rfl rfl (.inl (hA564.get 27 _ rfl))) ?_)
        intro a565 hA566
        refine q_step hA566 rfl (does_not (wno rfl rfl (.inl (hA566.get 27 _ rfl))) ?_)
        intro a567 hA568
        refine q_step hA568 rfl (d_pickT (wn rfl) (hA568.ev (v := (.bool true)) rfl) (hA568.ev (v := (.bool true)) rfl) ?_)
        intro a569 hA570
        refine q_end ?_
        refine t_norm ?_
        refine c_true hA570 rfl ?_
        refine wp_seq ?_
        refine wp_region_lit ?_
        refine q_step hA570 rfl (d_assign (wn rfl) (hA570.ev (v := (.int .i64 0)) rfl) ?_)
        intro a571 hA572
        refine q_step hA572 rfl (d_assign (wn rfl) (hA572.ev (v := (.bool false)) rfl) ?_)
        intro a573 hA574
        refine q_end ?_
        refine t_norm ?_
        refine wp_ret ?_
        refine t_ret ?_
        refine ret2 (x := (.int .i64 0)) (y := (.bool false)) rfl hA574 rfl rfl ?_
        rw [if_neg (by omega), val_nil (List.eq_nil_of_length_eq_zero (by omega))] at hnum
        exact ⟨by rw [hnum] <;> rfl, b0⟩
      · skip
        have hq575 := of_decide_eq_false hb555
        refine q_step hA554 rfl (d_bin (wn rfl) (hA554.ev (v := (.int .i64 ((l.length : Nat) : Int))) rfl) (hA554.ev (v := (.int .i64 1)) rfl) (b_lt _ _ ((l.length : Nat) : Int) 1 false _ hb555) ?_)
        intro a576 hA577
        refine q_step hA577 rfl (d_move (wn rfl) (hA577.ev (v := (.bool false)) rfl) ?_)
        intro a578 hA579
        refine q_step hA579 rfl (d_move (wy rfl rfl (hA579.get 27 _ rfl)) (hA579.ev (v := (.string (S l))) rfl) ?_)
        intro a580 hA581
        refine q_step hA581 rfl (d_slen (wy rfl rfl (hA581.get 27 _ rfl)) (hA581.ev (v := (.string (S l))) rfl) str9 ?_)
        intro a582 hA583
        refine q_step hA583 rfl (d_move (wy rfl rfl (hA583.get 27 _ rfl)) (hA583.ev (v := (.int .i64 19)) rfl) ?_)
        intro a584 hA585
        rcases Bool.eq_false_or_eq_true (decide (((l.length : Nat) : Int) > 19)) with hb586 | hb586
        · skip
          have hq587 := of_decide_eq_true hb586
          refine q_step hA585 rfl (d_bin (wy rfl rfl (hA585.get 27 _ rfl)) (hA585.ev (v := (.int .i64 ((l.length : Nat) : Int))) rfl) (hA585.ev (v := (.int .i64 19)) rfl) (b_gt _ _ ((l.length : Nat) : Int) 19 true _ hb586) ?_)
          intro a588 hA589
          refine q_step hA589 rfl (d_pickF (wn rfl) (hA589.ev (v := (.bool false)) rfl) (hA589.ev (v := (.bool true)) rfl) ?_)
          intro a590 hA591
          refine q_end ?_
          refine t_norm ?_
          refine c_true hA591 rfl ?_
          refine wp_seq ?_
          refine wp_region_lit ?_
          refine q_step hA591 rfl (d_assign (wn rfl) (hA591.ev (v := (.int .i64 0)) rfl) ?_)
          intro a592 hA593
          refine q_step hA593 rfl (d_assign (wn rfl) (hA593.ev (v := (.bool false)) rfl) ?_)
          intro a594 hA595
          refine q_end ?_
          refine t_norm ?_
          refine wp_ret ?_
          refine t_ret ?_
          refine ret2 (x := (.int .i64 0)) (y := (.bool false)) rfl hA595 rfl rfl ?_
          rw [if_pos (by omega)] at hnum
          exact ⟨by rw [hnum] <;> rfl, b0⟩
        · skip
          have hq596 := of_decide_eq_false hb586
          refine q_step hA585 rfl (d_bin (wy rfl rfl (hA585.get 27 _ rfl)) (hA585.ev (v := (.int .i64 ((l.length : Nat) : Int))) rfl) (hA585.ev (v := (.int .i64 19)) rfl) (b_gt _ _ ((l.length : Nat) : Int) 19 false _ hb586) ?_)
          intro a597 hA598
          refine q_step hA598 rfl (d_pickF (wn rfl) (hA598.ev (v := (.bool false)) rfl) (hA598.ev (v := (.bool false)) rfl) ?_)
          intro a599 hA600
          refine q_end ?_
          refine t_norm ?_
          refine c_false hA600 rfl ?_
          refine wp_skip ?_
          refine t_norm ?_
          refine wp_seq ?_
          refine wp_region_lit ?_
          refine q_step hA600 rfl (d_assign (wn rfl) (hA600.ev (v := (.int .u64 0)) rfl) ?_)
          intro a601 hA602
          refine q_end ?_
          refine t_norm ?_
          refine wp_seq ?_
          refine wp_seq ?_
          refine wp_region_lit ?_
          refine q_step hA602 rfl (d_assign (wn rfl) (hA602.ev (v := (.int .i64 0)) rfl) ?_)
          intro a603 hA604
          rw [if_neg (by omega)] at hnum
          refine q_end ?_
          refine t_norm ?_
          refine wp_block ?_
          have hne : 0 < l.length := by omega
          refine loop_by (fun m606 a607 w608 => ∃ j605 : Nat, m606 = l.length - j605 ∧ (j605 ≤ l.length ∧ allD 10 (List.take j605 l) = true ∧ nv 10 (List.take j605 l) ≤ 9223372036854775808) ∧ St 69 [(0, (.string (S l))), (2, (.int .i64 0)), (3, (.bool false)), (4, (.int .i64 10)), (5, (.int .i64 19)), (6, (.int .u64 ((nv 10 (List.take j605 l) : Nat) : Int))), (7, (.int .i64 ((j605 : Nat) : Int)))] a607 ∧ Below w.heap.size w w608) (l.length - 0) ⟨0, rfl, ⟨by omega, rfl, by rw [nv_zero]; omega⟩, hA604.cut _ (fm_cons (hA604.get 0 _ rfl) (fm_cons (hA604.get 2 _ rfl) (fm_cons (hA604.get 3 _ rfl) (fm_cons (hA604.get 4 _ rfl) (fm_cons (hA604.get 5 _ rfl) (fm_cons ((hA604.get 6 _ rfl).trans (congrArg (Value.int .u64) (rfl))) (fm_cons ((hA604.get 7 _ rfl).trans (congrArg (Value.int .i64) (by omega))) fm_nil))))))), b0⟩ ?_
          rintro m606 a607 w608 ⟨j605, hm611, hc612, hA609, b610⟩
          obtain ⟨hj, hall, htop⟩ := hc612
          refine wp_seq ?_
          refine wp_seq ?_
          refine wp_region_lit ?_
          refine q_step hA609 rfl (d_move (wn rfl) (hA609.ev (v := (.int .i64 ((j605 : Nat) : Int))) rfl) ?_)
          intro a613 hA614
          refine q_step hA614 rfl (d_move (wn rfl) (hA614.ev (v := (.string (S l))) rfl) ?_)
          intro a615 hA616
          refine q_step hA616 rfl (d_slen (wn rfl) (hA616.ev (v := (.string (S l))) rfl) str9 ?_)
          intro a617 hA618
          rcases Bool.eq_false_or_eq_true (decide (((j605 : Nat) : Int) < ((l.length : Nat) : Int))) with hb619 | hb619
          · skip
            have hq620 := of_decide_eq_true hb619
            refine q_step hA618 rfl (d_bin (wn rfl) (hA618.ev (v := (.int .i64 ((j605 : Nat) : Int))) rfl) (hA618.ev (v := (.int .i64 ((l.length : Nat) : Int))) rfl) (b_lt _ _ ((j605 : Nat) : Int) ((l.length : Nat) : Int) true _ hb619) ?_)
            intro a621 hA622
            refine q_end ?_
            refine t_norm ?_
            refine c_true hA622 rfl ?_
            refine wp_skip ?_
            refine t_norm ?_
            refine wp_seq ?_
            refine wp_block ?_
            refine wp_seq ?_
            refine wp_region_lit ?_
            refine q_step hA622 rfl (d_move (wn rfl) (hA622.ev (v := (.string (S l))) rfl) ?_)
            intro a623 hA624
            refine q_step hA624 rfl (d_move (wn rfl) (hA624.ev (v := (.int .i64 ((j605 : Nat) : Int))) rfl) ?_)
            intro a625 hA626
            obtain ⟨y627, hy628⟩ : ∃ y627, l[j605]? = some y627 := ⟨_, List.getElem?_eq_getElem (show j605 < l.length by first | omega | (rw [List.length_drop]; omega))⟩
            refine q_step hA626 rfl (d_sat (j := j605) (wn rfl) (hA626.ev (v := (.string (S l))) rfl) (hA626.ev (v := (.int .i64 ((j605 : Nat) : Int))) rfl) str9 hy628 ?_)
            intro a629 hA630
            have hxo := hx_or y627
            refine q_step hA630 rfl (d_call (wn rfl) ent47 (map1 (hA630.ev (v := (.int .u8 ((y627.toNat : Nat) : Int))) rfl)) (rhex_any y627 w608) ?_)
            rintro e634 w631 ⟨he633, hG632⟩
            have b635 := below_grow b610 hG632 b610.size
            refine ⟨(.int .i64 (hxI y627)), he633, ?_⟩
            intro a636 hA637
            refine q_step hA637 rfl (d_assign (wn rfl) (hA637.ev (v := (.int .i64 (hxI y627))) rfl) ?_)
            intro a638 hA639
            refine q_end ?_
            refine t_norm ?_
            refine wp_seq ?_
            refine wp_seq ?_
            refine wp_region_lit ?_
            refine q_step hA639 rfl (d_move (wn rfl) (hA639.ev (v := (.int .i64 (hxI y627))) rfl) ?_)
            intro a640 hA641
            rcases Bool.eq_false_or_eq_true (decide (hxI y627 < 0)) with hb642 | hb642
            · skip
              have hq643 := of_decide_eq_true hb642
              refine q_step hA641 rfl (d_bin (wn rfl) (hA641.ev (v := (.int .i64 (hxI y627))) rfl) (hA641.ev (v := (.int .i64 0)) rfl) (b_lt _ _ (hxI y627) 0 true _ hb642) ?_)
              intro a644 hA645
              refine q_step hA645 rfl (d_move (wn rfl) (hA645.ev (v := (.bool true)) rfl) ?_)
              intro a646 hA647
              refine q_step hA647 rfl (does_not (wno rfl rfl (.inl (hA647.get 45 _ rfl))) ?_)
              intro a648 hA649
              refine q_step hA649 rfl (does_not (wno rfl rfl (.inl (hA649.get 45 _ rfl))) ?_)
              intro a650 hA651
              refine q_step hA651 rfl (does_not (wno rfl rfl (.inl (hA651.get 45 _ rfl))) ?_)
              intro a652 hA653
              refine q_step hA653 rfl (d_pickT (wn rfl) (hA653.ev (v := (.bool true)) rfl) (hA653.ev (v := (.bool true)) rfl) ?_)
              intro a654 hA655
              refine q_step hA655 rfl (d_move (wn rfl) (hA655.ev (v := (.bool true)) rfl) ?_)
              intro a656 hA657
              refine q_step hA657 rfl (does_not (wno rfl rfl (.inl (hA657.get 50 _ rfl))) ?_)
              intro a658 hA659
              refine q_step hA659 rfl (does_not (wno rfl rfl (.inl (hA659.get 50 _ rfl))) ?_)
              intro a660 hA661
              refine q_step hA661 rfl (does_not (wno rfl rfl (.inl (hA661.get 50 _ rfl))) ?_)
              intro a662 hA663
              refine q_step hA663 rfl (does_not (wno rfl rfl (.inl (hA663.get 50 _ rfl))) ?_)
              intro a664 hA665
              refine q_step hA665 rfl (does_not (wno rfl rfl (.inl (hA665.get 50 _ rfl))) ?_)
              intro a666 hA667
              refine q_step hA667 rfl (does_not (wno rfl rfl (.inl (hA667.get 50 _ rfl))) ?_)
              intro a668 hA669
              refine q_step hA669 rfl (does_not (wno rfl rfl (.inl (hA669.get 50 _ rfl))) ?_)
              intro a670 hA671
              refine q_step hA671 rfl (does_not (wno rfl rfl (.inl (hA671.get 50 _ rfl))) ?_)
              intro a672 hA673
              refine q_step hA673 rfl (d_pickT (wn rfl) (hA673.ev (v := (.bool true)) rfl) (hA673.ev (v := (.bool true)) rfl) ?_)
              intro a674 hA675
              refine q_end ?_
              refine t_norm ?_
              refine c_true hA675 rfl ?_
              refine wp_seq ?_
              refine wp_region_lit ?_
              refine q_step hA675 rfl (d_assign (wn rfl) (hA675.ev (v := (.int .i64 0)) rfl) ?_)
              intro a676 hA677
              refine q_step hA677 rfl (d_assign (wn rfl) (hA677.ev (v := (.bool false)) rfl) ?_)
              intro a678 hA679
              refine q_end ?_
              refine t_norm ?_
              refine wp_ret ?_
              refine t_ret ?_
              refine i_ret ?_
              refine t_ret ?_
              refine t_ret ?_
              refine i_ret ?_
              refine t_ret ?_
              refine ret2 (x := (.int .i64 0)) (y := (.bool false)) rfl hA679 rfl rfl ?_
              rw [fits_bad hy628 (by omega)] at hnum
              exact ⟨by rw [hnum] <;> rfl, b635⟩
            · skip
              have hq680 := of_decide_eq_false hb642
              refine q_step hA641 rfl (d_bin (wn rfl) (hA641.ev (v := (.int .i64 (hxI y627))) rfl) (hA641.ev (v := (.int .i64 0)) rfl) (b_lt _ _ (hxI y627) 0 false _ hb642) ?_)
              intro a681 hA682
              refine q_step hA682 rfl (d_move (wn rfl) (hA682.ev (v := (.bool false)) rfl) ?_)
              intro a683 hA684
              refine q_step hA684 rfl (d_move (wy rfl rfl (hA684.get 45 _ rfl)) (hA684.ev (v := (.int .i64 (hxI y627))) rfl) ?_)
              intro a685 hA686
              refine q_step hA686 rfl (d_move (wy rfl rfl (hA686.get 45 _ rfl)) (hA686.ev (v := (.int .i64 10)) rfl) ?_)
              intro a687 hA688
              rcases Bool.eq_false_or_eq_true (decide (hxI y627 ≥ 10)) with hb689 | hb689
              · skip
                have hq690 := of_decide_eq_true hb689
                refine q_step hA688 rfl (d_bin (wy rfl rfl (hA688.get 45 _ rfl)) (hA688.ev (v := (.int .i64 (hxI y627))) rfl) (hA688.ev (v := (.int .i64 10)) rfl) (b_ge _ _ (hxI y627) 10 true _ hb689) ?_)
                intro a691 hA692
                refine q_step hA692 rfl (d_pickF (wn rfl) (hA692.ev (v := (.bool false)) rfl) (hA692.ev (v := (.bool true)) rfl) ?_)
                intro a693 hA694
                refine q_step hA694 rfl (d_move (wn rfl) (hA694.ev (v := (.bool true)) rfl) ?_)
                intro a695 hA696
                refine q_step hA696 rfl (does_not (wno rfl rfl (.inl (hA696.get 50 _ rfl))) ?_)
                intro a697 hA698
                refine q_step hA698 rfl (does_not (wno rfl rfl (.inl (hA698.get 50 _ rfl))) ?_)
                intro a699 hA700
                refine q_step hA700 rfl (does_not (wno rfl rfl (.inl (hA700.get 50 _ rfl))) ?_)
                intro a701 hA702
                refine q_step hA702 rfl (does_not (wno rfl rfl (.inl (hA702.get 50 _ rfl))) ?_)
                intro a703 hA704
                refine q_step hA704 rfl (does_not (wno rfl rfl (.inl (hA704.get 50 _ rfl))) ?_)
                intro a705 hA706
                refine q_step hA706 rfl (does_not (wno rfl rfl (.inl (hA706.get 50 _ rfl))) ?_)
                intro a707 hA708
                refine q_step hA708 rfl (does_not (wno rfl rfl (.inl (hA708.get 50 _ rfl))) ?_)
                intro a709 hA710
                refine q_step hA710 rfl (does_not (wno rfl rfl (.inl (hA710.get 50 _ rfl))) ?_)
                intro a711 hA712
                refine q_step hA712 rfl (d_pickT (wn rfl) (hA712.ev (v := (.bool true)) rfl) (hA712.ev (v := (.bool true)) rfl) ?_)
                intro a713 hA714
                refine q_end ?_
                refine t_norm ?_
                refine c_true hA714 rfl ?_
                refine wp_seq ?_
                refine wp_region_lit ?_
                refine q_step hA714 rfl (d_assign (wn rfl) (hA714.ev (v := (.int .i64 0)) rfl) ?_)
                intro a715 hA716
                refine q_step hA716 rfl (d_assign (wn rfl) (hA716.ev (v := (.bool false)) rfl) ?_)
                intro a717 hA718
                refine q_end ?_
                refine t_norm ?_
                refine wp_ret ?_
                refine t_ret ?_
                refine i_ret ?_
                refine t_ret ?_
                refine t_ret ?_
                refine i_ret ?_
                refine t_ret ?_
                refine ret2 (x := (.int .i64 0)) (y := (.bool false)) rfl hA718 rfl rfl ?_
                rw [fits_bad hy628 (by omega)] at hnum
                exact ⟨by rw [hnum] <;> rfl, b635⟩
              · skip
                have hq719 := of_decide_eq_false hb689
                refine q_step hA688 rfl (d_bin (wy rfl rfl (hA688.get 45 _ rfl)) (hA688.ev (v := (.int .i64 (hxI y627))) rfl) (hA688.ev (v := (.int .i64 10)) rfl) (b_ge _ _ (hxI y627) 10 false _ hb689) ?_)
                intro a720 hA721
                refine q_step hA721 rfl (d_pickF (wn rfl) (hA721.ev (v := (.bool false)) rfl) (hA721.ev (v := (.bool false)) rfl) ?_)
                intro a722 hA723
                refine q_step hA723 rfl (d_move (wn rfl) (hA723.ev (v := (.bool false)) rfl) ?_)
                intro a724 hA725
                refine q_step hA725 rfl (d_move (wy rfl rfl (hA725.get 50 _ rfl)) (hA725.ev (v := (.int .u64 ((nv 10 (List.take j605 l) : Nat) : Int))) rfl) ?_)
                intro a726 hA727
                refine q_step hA727 rfl (d_move (wy rfl rfl (hA727.get 50 _ rfl)) (hA727.ev (v := (.int .i64 (hxI y627))) rfl) ?_)
                intro a728 hA729
                refine q_step hA729 rfl (d_conv (hxI y627) (wy rfl rfl (hA729.get 50 _ rfl)) (hA729.ev (v := (.int .i64 (hxI y627))) rfl) knd3 knd70 (wrap64 (by omega) (by omega)) ?_)
                intro a730 hA731
                refine q_step hA731 rfl (d_bin (wy rfl rfl (hA731.get 50 _ rfl)) (hA731.ev (v := (.int .u64 9223372036854775808)) rfl) (hA731.ev (v := (.int .u64 (hxI y627))) rfl) (b_subK (9223372036854775808 - (hxI y627)) (wrap64 (by omega) (by omega))) ?_)
                intro a732 hA733
                refine q_step hA733 rfl (d_move (wy rfl rfl (hA733.get 50 _ rfl)) (hA733.ev (v := (.int .i64 10)) rfl) ?_)
                intro a734 hA735
                refine q_step hA735 rfl (d_conv 10 (wy rfl rfl (hA735.get 50 _ rfl)) (hA735.ev (v := (.int .i64 10)) rfl) knd3 knd70 rfl ?_)
                intro a736 hA737
                refine q_step hA737 rfl (d_bin (wy rfl rfl (hA737.get 50 _ rfl)) (hA737.ev (v := (.int .u64 (9223372036854775808 - (hxI y627)))) rfl) (hA737.ev (v := (.int .u64 10)) rfl) (b_quo64 (by omega) (by omega) (by omega)) ?_)
                intro a738 hA739
                rcases Bool.eq_false_or_eq_true (decide (((nv 10 (List.take j605 l) : Nat) : Int) > (9223372036854775808 - (hxI y627)) / 10)) with hb740 | hb740
                · skip
                  have hq741 := of_decide_eq_true hb740
                  refine q_step hA739 rfl (d_bin (wy rfl rfl (hA739.get 50 _ rfl)) (hA739.ev (v := (.int .u64 ((nv 10 (List.take j605 l) : Nat) : Int))) rfl) (hA739.ev (v := (.int .u64 ((9223372036854775808 - (hxI y627)) / 10))) rfl) (b_gt _ _ ((nv 10 (List.take j605 l) : Nat) : Int) ((9223372036854775808 - (hxI y627)) / 10) true _ hb740) ?_)
                  intro a742 hA743
                  refine q_step hA743 rfl (d_pickF (wn rfl) (hA743.ev (v := (.bool false)) rfl) (hA743.ev (v := (.bool true)) rfl) ?_)
                  intro a744 hA745
                  refine q_end ?_
                  refine t_norm ?_
                  refine c_true hA745 rfl ?_
                  refine wp_seq ?_
                  refine wp_region_lit ?_
                  refine q_step hA745 rfl (d_assign (wn rfl) (hA745.ev (v := (.int .i64 0)) rfl) ?_)
                  intro a746 hA747
                  refine q_step hA747 rfl (d_assign (wn rfl) (hA747.ev (v := (.bool false)) rfl) ?_)
                  intro a748 hA749
                  refine q_end ?_
                  refine t_norm ?_
                  refine wp_ret ?_
                  refine t_ret ?_
                  refine i_ret ?_
                  refine t_ret ?_
                  refine t_ret ?_
                  refine i_ret ?_
                  refine t_ret ?_
                  refine ret2 (x := (.int .i64 0)) (y := (.bool false)) rfl hA749 rfl rfl ?_
                  have hgo := nv_go (bs := 10) hy628
                  rw [fits_over (by omega) (i := j605 + 1) (by omega)] at hnum
                  exact ⟨by rw [hnum] <;> rfl, b635⟩
                · skip
                  have hq750 := of_decide_eq_false hb740
                  refine q_step hA739 rfl (d_bin (wy rfl rfl (hA739.get 50 _ rfl)) (hA739.ev (v := (.int .u64 ((nv 10 (List.take j605 l) : Nat) : Int))) rfl) (hA739.ev (v := (.int .u64 ((9223372036854775808 - (hxI y627)) / 10))) rfl) (b_gt _ _ ((nv 10 (List.take j605 l) : Nat) : Int) ((9223372036854775808 - (hxI y627)) / 10) false _ hb740) ?_)
                  intro a751 hA752
                  refine q_step hA752 rfl (d_pickF (wn rfl) (hA752.ev (v := (.bool false)) rfl) (hA752.ev (v := (.bool false)) rfl) ?_)
                  intro a753 hA754
                  refine q_end ?_
                  refine t_norm ?_
                  refine c_false hA754 rfl ?_
                  refine wp_skip ?_
                  refine t_norm ?_
                  refine wp_region_lit ?_
                  refine q_step hA754 rfl (d_move (wn rfl) (hA754.ev (v := (.int .u64 ((nv 10 (List.take j605 l) : Nat) : Int))) rfl) ?_)
                  intro a755 hA756
                  refine q_step hA756 rfl (d_move (wn rfl) (hA756.ev (v := (.int .i64 10)) rfl) ?_)
                  intro a757 hA758
                  refine q_step hA758 rfl (d_conv 10 (wn rfl) (hA758.ev (v := (.int .i64 10)) rfl) knd3 knd70 rfl ?_)
                  intro a759 hA760
                  refine q_step hA760 rfl (d_bin (wn rfl) (hA760.ev (v := (.int .u64 ((nv 10 (List.take j605 l) : Nat) : Int))) rfl) (hA760.ev (v := (.int .u64 10)) rfl) (b_mulK (((nv 10 (List.take j605 l) : Nat) : Int) * 10) (wrap64 (by omega) (by omega))) ?_)
                  intro a761 hA762
                  refine q_step hA762 rfl (d_move (wn rfl) (hA762.ev (v := (.int .i64 (hxI y627))) rfl) ?_)
                  intro a763 hA764
                  refine q_step hA764 rfl (d_conv (hxI y627) (wn rfl) (hA764.ev (v := (.int .i64 (hxI y627))) rfl) knd3 knd70 (wrap64 (by omega) (by omega)) ?_)
                  intro a765 hA766
                  refine q_step hA766 rfl (d_bin (wn rfl) (hA766.ev (v := (.int .u64 (((nv 10 (List.take j605 l) : Nat) : Int) * 10))) rfl) (hA766.ev (v := (.int .u64 (hxI y627))) rfl) (b_addK (((nv 10 (List.take j605 l) : Nat) : Int) * 10 + (hxI y627)) (wrap64 (by omega) (by omega))) ?_)
                  intro a767 hA768
                  refine q_step hA768 rfl (d_assign (wn rfl) (hA768.ev (v := (.int .u64 (((nv 10 (List.take j605 l) : Nat) : Int) * 10 + (hxI y627)))) rfl) ?_)
                  intro a769 hA770
                  refine q_end ?_
                  refine i_norm ?_
                  refine t_norm ?_
                  refine wp_region_lit ?_
                  refine q_step hA770 rfl (d_move (wn rfl) (hA770.ev (v := (.int .i64 ((j605 : Nat) : Int))) rfl) ?_)
                  intro a771 hA772
                  refine q_step hA772 rfl (d_bin (wn rfl) (hA772.ev (v := (.int .i64 ((j605 : Nat) : Int))) rfl) (hA772.ev (v := (.int .i64 1)) rfl) (b_addE (j605 + 1) (by omega) (by omega)) ?_)
                  intro a773 hA774
                  refine q_step hA774 rfl (d_assign (wn rfl) (hA774.ev (v := (.int .i64 ((j605 + 1 : Nat) : Int))) rfl) ?_)
                  intro a775 hA776
                  refine q_end ?_
                  refine t_norm ?_
                  have hgo := nv_go (bs := 10) hy628
                  have hall2 := all_go hy628 hall (by omega)
                  exact ⟨l.length - (j605 + 1), (by rw [hm611]; omega), j605 + 1, rfl, ⟨by omega, hall2, by omega⟩, hA776.cut _ (fm_cons (hA776.get 0 _ rfl) (fm_cons (hA776.get 2 _ rfl) (fm_cons (hA776.get 3 _ rfl) (fm_cons (hA776.get 4 _ rfl) (fm_cons (hA776.get 5 _ rfl) (fm_cons ((hA776.get 6 _ rfl).trans (congrArg (Value.int .u64) (by omega))) (fm_cons (hA776.get 7 _ rfl) fm_nil))))))), b635⟩
          · skip
            have hq777 := of_decide_eq_false hb619
            refine q_step hA618 rfl (d_bin (wn rfl) (hA618.ev (v := (.int .i64 ((j605 : Nat) : Int))) rfl) (hA618.ev (v := (.int .i64 ((l.length : Nat) : Int))) rfl) (b_lt _ _ ((j605 : Nat) : Int) ((l.length : Nat) : Int) false _ hb619) ?_)
            intro a778 hA779
            refine q_end ?_
            refine t_norm ?_
            refine c_false hA779 rfl ?_
            refine wp_exit ?_
            refine t_exit ?_
            refine t_exit ?_
            refine i_here ?_
            refine t_norm ?_
            refine wp_seq ?_
            refine wp_region_lit ?_
            refine q_step hA779 rfl (d_move (wn rfl) (hA779.ev (v := (.int .u64 ((nv 10 (List.take j605 l) : Nat) : Int))) rfl) ?_)
            intro a780 hA781
            refine q_step hA781 rfl (d_conv (IntKind.wrap .i64 ((nv 10 (List.take j605 l) : Nat) : Int)) (wn rfl) (hA781.ev (v := (.int .u64 ((nv 10 (List.take j605 l) : Nat) : Int))) rfl) knd70 knd3 rfl ?_)
            intro a782 hA783
            refine q_step hA783 rfl (d_assign (wn rfl) (hA783.ev (v := (.int .i64 (IntKind.wrap .i64 ((nv 10 (List.take j605 l) : Nat) : Int)))) rfl) ?_)
            intro a784 hA785
            refine q_step hA785 rfl (d_assign (wn rfl) (hA785.ev (v := (.bool true)) rfl) ?_)
            intro a786 hA787
            refine q_end ?_
            refine t_norm ?_
            refine wp_ret ?_
            refine ret2 (x := (.int .i64 (IntKind.wrap .i64 ((nv 10 (List.take j605 l) : Nat) : Int)))) (y := (.bool true)) rfl hA787 rfl rfl ?_
            rw [fits_end (by intro h; rw [h] at hne; exact absurd hne (by simp)) hall (by omega) htop] at hnum
            exact ⟨by rw [hnum] <;> rfl, b610⟩
  · skip
    have hq788 := of_decide_eq_false hb15
    refine q_step hA14 rfl (d_bin (wn rfl) (hA14.ev (v := (.int .i64 ((l.length : Nat) : Int))) rfl) (hA14.ev (v := (.int .i64 2)) rfl) (b_gt _ _ ((l.length : Nat) : Int) 2 false _ hb15) ?_)
    intro a789 hA790
    refine q_step hA790 rfl (d_move (wn rfl) (hA790.ev (v := (.bool false)) rfl) ?_)
    intro a791 hA792
    refine q_step hA792 rfl (does_not (wno rfl rfl (.inl (hA792.get 12 _ rfl))) ?_)
    intro a793 hA794
    refine q_step hA794 rfl (does_not (wno rfl rfl (.inl (hA794.get 12 _ rfl))) ?_)
    intro a795 hA796
    refine q_step hA796 rfl (does_not (wno rfl rfl (.inl (hA796.get 12 _ rfl))) ?_)
    intro a797 hA798
    refine q_step hA798 rfl (d_pickF (wn rfl) (hA798.ev (v := (.bool false)) rfl) (hA798.ev (v := (.bool false)) rfl) ?_)
    intro a799 hA800
    refine q_step hA800 rfl (d_move (wn rfl) (hA800.ev (v := (.bool false)) rfl) ?_)
    intro a801 hA802
    refine q_step hA802 rfl (does_not (wno rfl rfl (.inl (hA802.get 17 _ rfl))) ?_)
    intro a803 hA804
    refine q_step hA804 rfl (does_not (wno rfl rfl (.inl (hA804.get 17 _ rfl))) ?_)
    intro a805 hA806
    refine q_step hA806 rfl (does_not (wno rfl rfl (.inl (hA806.get 17 _ rfl))) ?_)
    intro a807 hA808
    refine q_step hA808 rfl (d_pickF (wn rfl) (hA808.ev (v := (.bool false)) rfl) (hA808.ev (v := (.bool false)) rfl) ?_)
    intro a809 hA810
    refine q_end ?_
    refine t_norm ?_
    refine c_false hA810 rfl ?_
    refine wp_skip ?_
    refine t_norm ?_
    refine wp_seq ?_
    refine wp_seq ?_
    refine wp_region_lit ?_
    refine q_step hA810 rfl (d_move (wn rfl) (hA810.ev (v := (.string (S l))) rfl) ?_)
    intro a811 hA812
    have hnum := numd_short (l := l) (by omega)
    refine q_step hA812 rfl (d_slen (wn rfl) (hA812.ev (v := (.string (S l))) rfl) str9 ?_)
    intro a813 hA814
    rcases Bool.eq_false_or_eq_true (decide (((l.length : Nat) : Int) < 1)) with hb815 | hb815
    · skip
      have hq816 := of_decide_eq_true hb815
      refine q_step hA814 rfl (d_bin (wn rfl) (hA814.ev (v := (.int .i64 ((l.length : Nat) : Int))) rfl) (hA814.ev (v := (.int .i64 1)) rfl) (b_lt _ _ ((l.length : Nat) : Int) 1 true _ hb815) ?_)
      intro a817 hA818
      refine q_step hA818 rfl (d_move (wn rfl) (hA818.ev (v := (.bool true)) rfl) ?_)
      intro a819 hA820
      refine q_step hA820 rfl (does_not (wno rfl rfl (.inl (hA820.get 27 _ rfl))) ?_)
      intro a821 hA822
      refine q_step hA822 rfl (does_not (wno rfl rfl (.inl (hA822.get 27 _ rfl))) ?_)
      intro a823 hA824
      refine q_step hA824 rfl (does_not (wno rfl rfl (.inl (hA824.get 27 _ rfl))) ?_)
      intro a825 hA826
      refine q_step hA826 rfl (does_not (wno rfl rfl (.inl (hA826.get 27 _ rfl))) ?_)
      intro a827 hA828
      refine q_step hA828 rfl (d_pickT (wn rfl) (hA828.ev (v := (.bool true)) rfl) (hA828.ev (v := (.bool true)) rfl) ?_)
      intro a829 hA830
      refine q_end ?_
      refine t_norm ?_
      refine c_true hA830 rfl ?_
      refine wp_seq ?_
      refine wp_region_lit ?_
      refine q_step hA830 rfl (d_assign (wn rfl) (hA830.ev (v := (.int .i64 0)) rfl) ?_)
      intro a831 hA832
      refine q_step hA832 rfl (d_assign (wn rfl) (hA832.ev (v := (.bool false)) rfl) ?_)
      intro a833 hA834
      refine q_end ?_
      refine t_norm ?_
      refine wp_ret ?_
      refine t_ret ?_
      refine ret2 (x := (.int .i64 0)) (y := (.bool false)) rfl hA834 rfl rfl ?_
      rw [if_neg (by omega), val_nil (List.eq_nil_of_length_eq_zero (by omega))] at hnum
      exact ⟨by rw [hnum] <;> rfl, b0⟩
    · skip
      have hq835 := of_decide_eq_false hb815
      refine q_step hA814 rfl (d_bin (wn rfl) (hA814.ev (v := (.int .i64 ((l.length : Nat) : Int))) rfl) (hA814.ev (v := (.int .i64 1)) rfl) (b_lt _ _ ((l.length : Nat) : Int) 1 false _ hb815) ?_)
      intro a836 hA837
      refine q_step hA837 rfl (d_move (wn rfl) (hA837.ev (v := (.bool false)) rfl) ?_)
      intro a838 hA839
      refine q_step hA839 rfl (d_move (wy rfl rfl (hA839.get 27 _ rfl)) (hA839.ev (v := (.string (S l))) rfl) ?_)
      intro a840 hA841
      refine q_step hA841 rfl (d_slen (wy rfl rfl (hA841.get 27 _ rfl)) (hA841.ev (v := (.string (S l))) rfl) str9 ?_)
      intro a842 hA843
      refine q_step hA843 rfl (d_move (wy rfl rfl (hA843.get 27 _ rfl)) (hA843.ev (v := (.int .i64 19)) rfl) ?_)
      intro a844 hA845
      rcases Bool.eq_false_or_eq_true (decide (((l.length : Nat) : Int) > 19)) with hb846 | hb846
      · skip
        have hq847 := of_decide_eq_true hb846
        refine q_step hA845 rfl (d_bin (wy rfl rfl (hA845.get 27 _ rfl)) (hA845.ev (v := (.int .i64 ((l.length : Nat) : Int))) rfl) (hA845.ev (v := (.int .i64 19)) rfl) (b_gt _ _ ((l.length : Nat) : Int) 19 true _ hb846) ?_)
        intro a848 hA849
        refine q_step hA849 rfl (d_pickF (wn rfl) (hA849.ev (v := (.bool false)) rfl) (hA849.ev (v := (.bool true)) rfl) ?_)
        intro a850 hA851
        refine q_end ?_
        refine t_norm ?_
        refine c_true hA851 rfl ?_
        refine wp_seq ?_
        refine wp_region_lit ?_
        refine q_step hA851 rfl (d_assign (wn rfl) (hA851.ev (v := (.int .i64 0)) rfl) ?_)
        intro a852 hA853
        refine q_step hA853 rfl (d_assign (wn rfl) (hA853.ev (v := (.bool false)) rfl) ?_)
        intro a854 hA855
        refine q_end ?_
        refine t_norm ?_
        refine wp_ret ?_
        refine t_ret ?_
        refine ret2 (x := (.int .i64 0)) (y := (.bool false)) rfl hA855 rfl rfl ?_
        rw [if_pos (by omega)] at hnum
        exact ⟨by rw [hnum] <;> rfl, b0⟩
      · skip
        have hq856 := of_decide_eq_false hb846
        refine q_step hA845 rfl (d_bin (wy rfl rfl (hA845.get 27 _ rfl)) (hA845.ev (v := (.int .i64 ((l.length : Nat) : Int))) rfl) (hA845.ev (v := (.int .i64 19)) rfl) (b_gt _ _ ((l.length : Nat) : Int) 19 false _ hb846) ?_)
        intro a857 hA858
        refine q_step hA858 rfl (d_pickF (wn rfl) (hA858.ev (v := (.bool false)) rfl) (hA858.ev (v := (.bool false)) rfl) ?_)
        intro a859 hA860
        refine q_end ?_
        refine t_norm ?_
        refine c_false hA860 rfl ?_
        refine wp_skip ?_
        refine t_norm ?_
        refine wp_seq ?_
        refine wp_region_lit ?_
        refine q_step hA860 rfl (d_assign (wn rfl) (hA860.ev (v := (.int .u64 0)) rfl) ?_)
        intro a861 hA862
        refine q_end ?_
        refine t_norm ?_
        refine wp_seq ?_
        refine wp_seq ?_
        refine wp_region_lit ?_
        refine q_step hA862 rfl (d_assign (wn rfl) (hA862.ev (v := (.int .i64 0)) rfl) ?_)
        intro a863 hA864
        rw [if_neg (by omega)] at hnum
        refine q_end ?_
        refine t_norm ?_
        refine wp_block ?_
        have hne : 0 < l.length := by omega
        refine loop_by (fun m866 a867 w868 => ∃ j865 : Nat, m866 = l.length - j865 ∧ (j865 ≤ l.length ∧ allD 10 (List.take j865 l) = true ∧ nv 10 (List.take j865 l) ≤ 9223372036854775808) ∧ St 69 [(0, (.string (S l))), (2, (.int .i64 0)), (3, (.bool false)), (4, (.int .i64 10)), (5, (.int .i64 19)), (6, (.int .u64 ((nv 10 (List.take j865 l) : Nat) : Int))), (7, (.int .i64 ((j865 : Nat) : Int)))] a867 ∧ Below w.heap.size w w868) (l.length - 0) ⟨0, rfl, ⟨by omega, rfl, by rw [nv_zero]; omega⟩, hA864.cut _ (fm_cons (hA864.get 0 _ rfl) (fm_cons (hA864.get 2 _ rfl) (fm_cons (hA864.get 3 _ rfl) (fm_cons (hA864.get 4 _ rfl) (fm_cons (hA864.get 5 _ rfl) (fm_cons ((hA864.get 6 _ rfl).trans (congrArg (Value.int .u64) (rfl))) (fm_cons ((hA864.get 7 _ rfl).trans (congrArg (Value.int .i64) (by omega))) fm_nil))))))), b0⟩ ?_
        rintro m866 a867 w868 ⟨j865, hm871, hc872, hA869, b870⟩
        obtain ⟨hj, hall, htop⟩ := hc872
        refine wp_seq ?_
        refine wp_seq ?_
        refine wp_region_lit ?_
        refine q_step hA869 rfl (d_move (wn rfl) (hA869.ev (v := (.int .i64 ((j865 : Nat) : Int))) rfl) ?_)
        intro a873 hA874
        refine q_step hA874 rfl (d_move (wn rfl) (hA874.ev (v := (.string (S l))) rfl) ?_)
        intro a875 hA876
        refine q_step hA876 rfl (d_slen (wn rfl) (hA876.ev (v := (.string (S l))) rfl) str9 ?_)
        intro a877 hA878
        rcases Bool.eq_false_or_eq_true (decide (((j865 : Nat) : Int) < ((l.length : Nat) : Int))) with hb879 | hb879
        · skip
          have hq880 := of_decide_eq_true hb879
          refine q_step hA878 rfl (d_bin (wn rfl) (hA878.ev (v := (.int .i64 ((j865 : Nat) : Int))) rfl) (hA878.ev (v := (.int .i64 ((l.length : Nat) : Int))) rfl) (b_lt _ _ ((j865 : Nat) : Int) ((l.length : Nat) : Int) true _ hb879) ?_)
          intro a881 hA882
          refine q_end ?_
          refine t_norm ?_
          refine c_true hA882 rfl ?_
          refine wp_skip ?_
          refine t_norm ?_
          refine wp_seq ?_
          refine wp_block ?_
          refine wp_seq ?_
          refine wp_region_lit ?_
          refine q_step hA882 rfl (d_move (wn rfl) (hA882.ev (v := (.string (S l))) rfl) ?_)
          intro a883 hA884
          refine q_step hA884 rfl (d_move (wn rfl) (hA884.ev (v := (.int .i64 ((j865 : Nat) : Int))) rfl) ?_)
          intro a885 hA886
          obtain ⟨y887, hy888⟩ : ∃ y887, l[j865]? = some y887 := ⟨_, List.getElem?_eq_getElem (show j865 < l.length by first | omega | (rw [List.length_drop]; omega))⟩
          refine q_step hA886 rfl (d_sat (j := j865) (wn rfl) (hA886.ev (v := (.string (S l))) rfl) (hA886.ev (v := (.int .i64 ((j865 : Nat) : Int))) rfl) str9 hy888 ?_)
          intro a889 hA890
          have hxo := hx_or y887
          refine q_step hA890 rfl (d_call (wn rfl) ent47 (map1 (hA890.ev (v := (.int .u8 ((y887.toNat : Nat) : Int))) rfl)) (rhex_any y887 w868) ?_)
          rintro e894 w891 ⟨he893, hG892⟩
          have b895 := below_grow b870 hG892 b870.size
          refine ⟨(.int .i64 (hxI y887)), he893, ?_⟩
          intro a896 hA897
          refine q_step hA897 rfl (d_assign (wn rfl) (hA897.ev (v := (.int .i64 (hxI y887))) rfl) ?_)
          intro a898 hA899
          refine q_end ?_
          refine t_norm ?_
          refine wp_seq ?_
          refine wp_seq ?_
          refine wp_region_lit ?_
          refine q_step hA899 rfl (d_move (wn rfl) (hA899.ev (v := (.int .i64 (hxI y887))) rfl) ?_)
          intro a900 hA901
          rcases Bool.eq_false_or_eq_true (decide (hxI y887 < 0)) with hb902 | hb902
          · skip
            have hq903 := of_decide_eq_true hb902
            refine q_step hA901 rfl (d_bin (wn rfl) (hA901.ev (v := (.int .i64 (hxI y887))) rfl) (hA901.ev (v := (.int .i64 0)) rfl) (b_lt _ _ (hxI y887) 0 true _ hb902) ?_)
            intro a904 hA905
            refine q_step hA905 rfl (d_move (wn rfl) (hA905.ev (v := (.bool true)) rfl) ?_)
            intro a906 hA907
            refine q_step hA907 rfl (does_not (wno rfl rfl (.inl (hA907.get 45 _ rfl))) ?_)
            intro a908 hA909
            refine q_step hA909 rfl (does_not (wno rfl rfl (.inl (hA909.get 45 _ rfl))) ?_)
            intro a910 hA911
            refine q_step hA911 rfl (does_not (wno rfl rfl (.inl (hA911.get 45 _ rfl))) ?_)
            intro a912 hA913
            refine q_step hA913 rfl (d_pickT (wn rfl) (hA913.ev (v := (.bool true)) rfl) (hA913.ev (v := (.bool true)) rfl) ?_)
            intro a914 hA915
            refine q_step hA915 rfl (d_move (wn rfl) (hA915.ev (v := (.bool true)) rfl) ?_)
            intro a916 hA917
            refine q_step hA917 rfl (does_not (wno rfl rfl (.inl (hA917.get 50 _ rfl))) ?_)
            intro a918 hA919
            refine q_step hA919 rfl (does_not (wno rfl rfl (.inl (hA919.get 50 _ rfl))) ?_)
            intro a920 hA921
            refine q_step hA921 rfl (does_not (wno rfl rfl (.inl (hA921.get 50 _ rfl))) ?_)
            intro a922 hA923
            refine q_step hA923 rfl (does_not (wno rfl rfl (.inl (hA923.get 50 _ rfl))) ?_)
            intro a924 hA925
            refine q_step hA925 rfl (does_not (wno rfl rfl (.inl (hA925.get 50 _ rfl))) ?_)
            intro a926 hA927
            refine q_step hA927 rfl (does_not (wno rfl rfl (.inl (hA927.get 50 _ rfl))) ?_)
            intro a928 hA929
            refine q_step hA929 rfl (does_not (wno rfl rfl (.inl (hA929.get 50 _ rfl))) ?_)
            intro a930 hA931
            refine q_step hA931 rfl (does_not (wno rfl rfl (.inl (hA931.get 50 _ rfl))) ?_)
            intro a932 hA933
            refine q_step hA933 rfl (d_pickT (wn rfl) (hA933.ev (v := (.bool true)) rfl) (hA933.ev (v := (.bool true)) rfl) ?_)
            intro a934 hA935
            refine q_end ?_
            refine t_norm ?_
            refine c_true hA935 rfl ?_
            refine wp_seq ?_
            refine wp_region_lit ?_
            refine q_step hA935 rfl (d_assign (wn rfl) (hA935.ev (v := (.int .i64 0)) rfl) ?_)
            intro a936 hA937
            refine q_step hA937 rfl (d_assign (wn rfl) (hA937.ev (v := (.bool false)) rfl) ?_)
            intro a938 hA939
            refine q_end ?_
            refine t_norm ?_
            refine wp_ret ?_
            refine t_ret ?_
            refine i_ret ?_
            refine t_ret ?_
            refine t_ret ?_
            refine i_ret ?_
            refine t_ret ?_
            refine ret2 (x := (.int .i64 0)) (y := (.bool false)) rfl hA939 rfl rfl ?_
            rw [fits_bad hy888 (by omega)] at hnum
            exact ⟨by rw [hnum] <;> rfl, b895⟩
          · skip
            have hq940 := of_decide_eq_false hb902
            refine q_step hA901 rfl (d_bin (wn rfl) (hA901.ev (v := (.int .i64 (hxI y887))) rfl) (hA901.ev (v := (.int .i64 0)) rfl) (b_lt _ _ (hxI y887) 0 false _ hb902) ?_)
            intro a941 hA942
            refine q_step hA942 rfl (d_move (wn rfl) (hA942.ev (v := (.bool false)) rfl) ?_)
            intro a943 hA944
            refine q_step hA944 rfl (d_move (wy rfl rfl (hA944.get 45 _ rfl)) (hA944.ev (v := (.int .i64 (hxI y887))) rfl) ?_)
            intro a945 hA946
            refine q_step hA946 rfl (d_move (wy rfl rfl (hA946.get 45 _ rfl)) (hA946.ev (v := (.int .i64 10)) rfl) ?_)
            intro a947 hA948
            rcases Bool.eq_false_or_eq_true (decide (hxI y887 ≥ 10)) with hb949 | hb949
            · skip
              have hq950 := of_decide_eq_true hb949
              refine q_step hA948 rfl (d_bin (wy rfl rfl (hA948.get 45 _ rfl)) (hA948.ev (v := (.int .i64 (hxI y887))) rfl) (hA948.ev (v := (.int .i64 10)) rfl) (b_ge _ _ (hxI y887) 10 true _ hb949) ?_)
              intro a951 hA952
              refine q_step hA952 rfl (d_pickF (wn rfl) (hA952.ev (v := (.bool false)) rfl) (hA952.ev (v := (.bool true)) rfl) ?_)
              intro a953 hA954
              refine q_step hA954 rfl (d_move (wn rfl) (hA954.ev (v := (.bool true)) rfl) ?_)
              intro a955 hA956
              refine q_step hA956 rfl (does_not (wno rfl rfl (.inl (hA956.get 50 _ rfl))) ?_)
              intro a957 hA958
              refine q_step hA958 rfl (does_not (wno rfl rfl (.inl (hA958.get 50 _ rfl))) ?_)
              intro a959 hA960
              refine q_step hA960 rfl (does_not (wno rfl rfl (.inl (hA960.get 50 _ rfl))) ?_)
              intro a961 hA962
              refine q_step hA962 rfl (does_not (wno rfl rfl (.inl (hA962.get 50 _ rfl))) ?_)
              intro a963 hA964
              refine q_step hA964 rfl (does_not (wno rfl rfl (.inl (hA964.get 50 _ rfl))) ?_)
              intro a965 hA966
              refine q_step hA966 rfl (does_not (wno rfl rfl (.inl (hA966.get 50 _ rfl))) ?_)
              intro a967 hA968
              refine q_step hA968 rfl (does_not (wno rfl rfl (.inl (hA968.get 50 _ rfl))) ?_)
              intro a969 hA970
              refine q_step hA970 rfl (does_not (wno rfl rfl (.inl (hA970.get 50 _ rfl))) ?_)
              intro a971 hA972
              refine q_step hA972 rfl (d_pickT (wn rfl) (hA972.ev (v := (.bool true)) rfl) (hA972.ev (v := (.bool true)) rfl) ?_)
              intro a973 hA974
              refine q_end ?_
              refine t_norm ?_
              refine c_true hA974 rfl ?_
              refine wp_seq ?_
              refine wp_region_lit ?_
              refine q_step hA974 rfl (d_assign (wn rfl) (hA974.ev (v := (.int .i64 0)) rfl) ?_)
              intro a975 hA976
              refine q_step hA976 rfl (d_assign (wn rfl) (hA976.ev (v := (.bool false)) rfl) ?_)
              intro a977 hA978
              refine q_end ?_
              refine t_norm ?_
              refine wp_ret ?_
              refine t_ret ?_
              refine i_ret ?_
              refine t_ret ?_
              refine t_ret ?_
              refine i_ret ?_
              refine t_ret ?_
              refine ret2 (x := (.int .i64 0)) (y := (.bool false)) rfl hA978 rfl rfl ?_
              rw [fits_bad hy888 (by omega)] at hnum
              exact ⟨by rw [hnum] <;> rfl, b895⟩
            · skip
              have hq979 := of_decide_eq_false hb949
              refine q_step hA948 rfl (d_bin (wy rfl rfl (hA948.get 45 _ rfl)) (hA948.ev (v := (.int .i64 (hxI y887))) rfl) (hA948.ev (v := (.int .i64 10)) rfl) (b_ge _ _ (hxI y887) 10 false _ hb949) ?_)
              intro a980 hA981
              refine q_step hA981 rfl (d_pickF (wn rfl) (hA981.ev (v := (.bool false)) rfl) (hA981.ev (v := (.bool false)) rfl) ?_)
              intro a982 hA983
              refine q_step hA983 rfl (d_move (wn rfl) (hA983.ev (v := (.bool false)) rfl) ?_)
              intro a984 hA985
              refine q_step hA985 rfl (d_move (wy rfl rfl (hA985.get 50 _ rfl)) (hA985.ev (v := (.int .u64 ((nv 10 (List.take j865 l) : Nat) : Int))) rfl) ?_)
              intro a986 hA987
              refine q_step hA987 rfl (d_move (wy rfl rfl (hA987.get 50 _ rfl)) (hA987.ev (v := (.int .i64 (hxI y887))) rfl) ?_)
              intro a988 hA989
              refine q_step hA989 rfl (d_conv (hxI y887) (wy rfl rfl (hA989.get 50 _ rfl)) (hA989.ev (v := (.int .i64 (hxI y887))) rfl) knd3 knd70 (wrap64 (by omega) (by omega)) ?_)
              intro a990 hA991
              refine q_step hA991 rfl (d_bin (wy rfl rfl (hA991.get 50 _ rfl)) (hA991.ev (v := (.int .u64 9223372036854775808)) rfl) (hA991.ev (v := (.int .u64 (hxI y887))) rfl) (b_subK (9223372036854775808 - (hxI y887)) (wrap64 (by omega) (by omega))) ?_)
              intro a992 hA993
              refine q_step hA993 rfl (d_move (wy rfl rfl (hA993.get 50 _ rfl)) (hA993.ev (v := (.int .i64 10)) rfl) ?_)
              intro a994 hA995
              refine q_step hA995 rfl (d_conv 10 (wy rfl rfl (hA995.get 50 _ rfl)) (hA995.ev (v := (.int .i64 10)) rfl) knd3 knd70 rfl ?_)
              intro a996 hA997
              refine q_step hA997 rfl (d_bin (wy rfl rfl (hA997.get 50 _ rfl)) (hA997.ev (v := (.int .u64 (9223372036854775808 - (hxI y887)))) rfl) (hA997.ev (v := (.int .u64 10)) rfl) (b_quo64 (by omega) (by omega) (by omega)) ?_)
              intro a998 hA999
              rcases Bool.eq_false_or_eq_true (decide (((nv 10 (List.take j865 l) : Nat) : Int) > (9223372036854775808 - (hxI y887)) / 10)) with hb1000 | hb1000
              · skip
                have hq1001 := of_decide_eq_true hb1000
                refine q_step hA999 rfl (d_bin (wy rfl rfl (hA999.get 50 _ rfl)) (hA999.ev (v := (.int .u64 ((nv 10 (List.take j865 l) : Nat) : Int))) rfl) (hA999.ev (v := (.int .u64 ((9223372036854775808 - (hxI y887)) / 10))) rfl) (b_gt _ _ ((nv 10 (List.take j865 l) : Nat) : Int) ((9223372036854775808 - (hxI y887)) / 10) true _ hb1000) ?_)
                intro a1002 hA1003
                refine q_step hA1003 rfl (d_pickF (wn rfl) (hA1003.ev (v := (.bool false)) rfl) (hA1003.ev (v := (.bool true)) rfl) ?_)
                intro a1004 hA1005
                refine q_end ?_
                refine t_norm ?_
                refine c_true hA1005 rfl ?_
                refine wp_seq ?_
                refine wp_region_lit ?_
                refine q_step hA1005 rfl (d_assign (wn rfl) (hA1005.ev (v := (.int .i64 0)) rfl) ?_)
                intro a1006 hA1007
                refine q_step hA1007 rfl (d_assign (wn rfl) (hA1007.ev (v := (.bool false)) rfl) ?_)
                intro a1008 hA1009
                refine q_end ?_
                refine t_norm ?_
                refine wp_ret ?_
                refine t_ret ?_
                refine i_ret ?_
                refine t_ret ?_
                refine t_ret ?_
                refine i_ret ?_
                refine t_ret ?_
                refine ret2 (x := (.int .i64 0)) (y := (.bool false)) rfl hA1009 rfl rfl ?_
                have hgo := nv_go (bs := 10) hy888
                rw [fits_over (by omega) (i := j865 + 1) (by omega)] at hnum
                exact ⟨by rw [hnum] <;> rfl, b895⟩
              · skip
                have hq1010 := of_decide_eq_false hb1000
                refine q_step hA999 rfl (d_bin (wy rfl rfl (hA999.get 50 _ rfl)) (hA999.ev (v := (.int .u64 ((nv 10 (List.take j865 l) : Nat) : Int))) rfl) (hA999.ev (v := (.int .u64 ((9223372036854775808 - (hxI y887)) / 10))) rfl) (b_gt _ _ ((nv 10 (List.take j865 l) : Nat) : Int) ((9223372036854775808 - (hxI y887)) / 10) false _ hb1000) ?_)
                intro a1011 hA1012
                refine q_step hA1012 rfl (d_pickF (wn rfl) (hA1012.ev (v := (.bool false)) rfl) (hA1012.ev (v := (.bool false)) rfl) ?_)
                intro a1013 hA1014
                refine q_end ?_
                refine t_norm ?_
                refine c_false hA1014 rfl ?_
                refine wp_skip ?_
                refine t_norm ?_
                refine wp_region_lit ?_
                refine q_step hA1014 rfl (d_move (wn rfl) (hA1014.ev (v := (.int .u64 ((nv 10 (List.take j865 l) : Nat) : Int))) rfl) ?_)
                intro a1015 hA1016
                refine q_step hA1016 rfl (d_move (wn rfl) (hA1016.ev (v := (.int .i64 10)) rfl) ?_)
                intro a1017 hA1018
                refine q_step hA1018 rfl (d_conv 10 (wn rfl) (hA1018.ev (v := (.int .i64 10)) rfl) knd3 knd70 rfl ?_)
                intro a1019 hA1020
                refine q_step hA1020 rfl (d_bin (wn rfl) (hA1020.ev (v := (.int .u64 ((nv 10 (List.take j865 l) : Nat) : Int))) rfl) (hA1020.ev (v := (.int .u64 10)) rfl) (b_mulK (((nv 10 (List.take j865 l) : Nat) : Int) * 10) (wrap64 (by omega) (by omega))) ?_)
                intro a1021 hA1022
                refine q_step hA1022 rfl (d_move (wn rfl) (hA1022.ev (v := (.int .i64 (hxI y887))) rfl) ?_)
                intro a1023 hA1024
                refine q_step hA1024 rfl (d_conv (hxI y887) (wn rfl) (hA1024.ev (v := (.int .i64 (hxI y887))) rfl) knd3 knd70 (wrap64 (by omega) (by omega)) ?_)
                intro a1025 hA1026
                refine q_step hA1026 rfl (d_bin (wn rfl) (hA1026.ev (v := (.int .u64 (((nv 10 (List.take j865 l) : Nat) : Int) * 10))) rfl) (hA1026.ev (v := (.int .u64 (hxI y887))) rfl) (b_addK (((nv 10 (List.take j865 l) : Nat) : Int) * 10 + (hxI y887)) (wrap64 (by omega) (by omega))) ?_)
                intro a1027 hA1028
                refine q_step hA1028 rfl (d_assign (wn rfl) (hA1028.ev (v := (.int .u64 (((nv 10 (List.take j865 l) : Nat) : Int) * 10 + (hxI y887)))) rfl) ?_)
                intro a1029 hA1030
                refine q_end ?_
                refine i_norm ?_
                refine t_norm ?_
                refine wp_region_lit ?_
                refine q_step hA1030 rfl (d_move (wn rfl) (hA1030.ev (v := (.int .i64 ((j865 : Nat) : Int))) rfl) ?_)
                intro a1031 hA1032
                refine q_step hA1032 rfl (d_bin (wn rfl) (hA1032.ev (v := (.int .i64 ((j865 : Nat) : Int))) rfl) (hA1032.ev (v := (.int .i64 1)) rfl) (b_addE (j865 + 1) (by omega) (by omega)) ?_)
                intro a1033 hA1034
                refine q_step hA1034 rfl (d_assign (wn rfl) (hA1034.ev (v := (.int .i64 ((j865 + 1 : Nat) : Int))) rfl) ?_)
                intro a1035 hA1036
                refine q_end ?_
                refine t_norm ?_
                have hgo := nv_go (bs := 10) hy888
                have hall2 := all_go hy888 hall (by omega)
                exact ⟨l.length - (j865 + 1), (by rw [hm871]; omega), j865 + 1, rfl, ⟨by omega, hall2, by omega⟩, hA1036.cut _ (fm_cons (hA1036.get 0 _ rfl) (fm_cons (hA1036.get 2 _ rfl) (fm_cons (hA1036.get 3 _ rfl) (fm_cons (hA1036.get 4 _ rfl) (fm_cons (hA1036.get 5 _ rfl) (fm_cons ((hA1036.get 6 _ rfl).trans (congrArg (Value.int .u64) (by omega))) (fm_cons (hA1036.get 7 _ rfl) fm_nil))))))), b895⟩
        · skip
          have hq1037 := of_decide_eq_false hb879
          refine q_step hA878 rfl (d_bin (wn rfl) (hA878.ev (v := (.int .i64 ((j865 : Nat) : Int))) rfl) (hA878.ev (v := (.int .i64 ((l.length : Nat) : Int))) rfl) (b_lt _ _ ((j865 : Nat) : Int) ((l.length : Nat) : Int) false _ hb879) ?_)
          intro a1038 hA1039
          refine q_end ?_
          refine t_norm ?_
          refine c_false hA1039 rfl ?_
          refine wp_exit ?_
          refine t_exit ?_
          refine t_exit ?_
          refine i_here ?_
          refine t_norm ?_
          refine wp_seq ?_
          refine wp_region_lit ?_
          refine q_step hA1039 rfl (d_move (wn rfl) (hA1039.ev (v := (.int .u64 ((nv 10 (List.take j865 l) : Nat) : Int))) rfl) ?_)
          intro a1040 hA1041
          refine q_step hA1041 rfl (d_conv (IntKind.wrap .i64 ((nv 10 (List.take j865 l) : Nat) : Int)) (wn rfl) (hA1041.ev (v := (.int .u64 ((nv 10 (List.take j865 l) : Nat) : Int))) rfl) knd70 knd3 rfl ?_)
          intro a1042 hA1043
          refine q_step hA1043 rfl (d_assign (wn rfl) (hA1043.ev (v := (.int .i64 (IntKind.wrap .i64 ((nv 10 (List.take j865 l) : Nat) : Int)))) rfl) ?_)
          intro a1044 hA1045
          refine q_step hA1045 rfl (d_assign (wn rfl) (hA1045.ev (v := (.bool true)) rfl) ?_)
          intro a1046 hA1047
          refine q_end ?_
          refine t_norm ?_
          refine wp_ret ?_
          refine ret2 (x := (.int .i64 (IntKind.wrap .i64 ((nv 10 (List.take j865 l) : Nat) : Int)))) (y := (.bool true)) rfl hA1047 rfl rfl ?_
          rw [fits_end (by intro h; rw [h] at hne; exact absurd hne (by simp)) hall (by omega) htop] at hnum
          exact ⟨by rw [hnum] <;> rfl, b870⟩
end Go.Proofs.YtfehbkcfncioiaaDoor
/- Past blanks and remarks: the reference's blank. -/
namespace Go.Proofs.YtfehbkcfncioiaaDoor
open Go.RowKit
set_option linter.unusedSimpArgs false
set_option linter.unusedVariables false

set_option maxHeartbeats 4000000 in
set_option maxRecDepth 4000 in
theorem rblank_any (l : List UInt8) (at0 : Nat) (w : World) (hl : l.length ≤ 8192) (hat : at0 ≤ l.length) : Calls Tryd.prog 27 #[.string (S l), .int .i64 ((at0 : Nat) : Int)] w fun e w' => e = .returned (.tuple #[.int .i64 ((at0 + (skipL (List.drop at0 l)).1 : Nat) : Int), .int .i64 (if (skipL (List.drop at0 l)).2 then 24 else 0)]) ∧ Grow w w' := by
  have b0 : Below w.heap.size w w := Below.refl _ _
  refine enter (n := 80) Tryd.func27 rfl rfl (Nat.le_of_ble_eq_true rfl) ?_
  intro a1 hA2
  refine wp_seq ?_
  refine wp_region_lit ?_
  refine q_step hA2 rfl (d_assign (wn rfl) (hA2.ev (v := (.int .i64 0)) rfl) ?_)
  intro a3 hA4
  refine q_step hA4 rfl (d_assign (wn rfl) (hA4.ev (v := (.int .i64 0)) rfl) ?_)
  intro a5 hA6
  refine q_end ?_
  refine t_norm ?_
  refine wp_seq ?_
  refine wp_block ?_
  refine loop_by (fun m8 a9 w10 => ∃ j7 : Nat, m8 = l.length - j7 ∧ (j7 ≤ l.length ∧ at0 + (skipL (List.drop at0 l)).1 = j7 + (skipL (List.drop j7 l)).1 ∧ (skipL (List.drop at0 l)).2 = (skipL (List.drop j7 l)).2) ∧ St 80 [(0, (.string (S l))), (1, (.int .i64 ((j7 : Nat) : Int))), (4, (.int .i64 0)), (5, (.int .i64 0))] a9 ∧ Below w.heap.size w w10) (l.length - at0) ⟨at0, rfl, ⟨by omega, rfl, rfl⟩, hA6.cut _ (fm_cons (hA6.get 0 _ rfl) (fm_cons (hA6.get 1 _ rfl) (fm_cons (hA6.get 4 _ rfl) (fm_cons (hA6.get 5 _ rfl) fm_nil)))), b0⟩ ?_
  rintro m8 a9 w10 ⟨j7, hm13, hc14, hA11, b12⟩
  obtain ⟨hjl, hs1, hs2⟩ := hc14
  refine wp_seq ?_
  refine wp_seq ?_
  refine wp_region_lit ?_
  refine q_step hA11 rfl (d_move (wn rfl) (hA11.ev (v := (.int .i64 ((j7 : Nat) : Int))) rfl) ?_)
  intro a15 hA16
  refine q_step hA16 rfl (d_move (wn rfl) (hA16.ev (v := (.string (S l))) rfl) ?_)
  intro a17 hA18
  refine q_step hA18 rfl (d_slen (wn rfl) (hA18.ev (v := (.string (S l))) rfl) str9 ?_)
  intro a19 hA20
  rcases Bool.eq_false_or_eq_true (decide (((j7 : Nat) : Int) < ((l.length : Nat) : Int))) with hb21 | hb21
  · skip
    have hq22 := of_decide_eq_true hb21
    refine q_step hA20 rfl (d_bin (wn rfl) (hA20.ev (v := (.int .i64 ((j7 : Nat) : Int))) rfl) (hA20.ev (v := (.int .i64 ((l.length : Nat) : Int))) rfl) (b_lt _ _ ((j7 : Nat) : Int) ((l.length : Nat) : Int) true _ hb21) ?_)
    intro a23 hA24
    refine q_end ?_
    refine t_norm ?_
    refine c_true hA24 rfl ?_
    refine wp_skip ?_
    refine t_norm ?_
    refine wp_block ?_
    refine wp_seq ?_
    refine wp_seq ?_
    refine wp_region_lit ?_
    refine q_step hA24 rfl (d_move (wn rfl) (hA24.ev (v := (.string (S l))) rfl) ?_)
    intro a25 hA26
    refine q_step hA26 rfl (d_move (wn rfl) (hA26.ev (v := (.int .i64 ((j7 : Nat) : Int))) rfl) ?_)
    intro a27 hA28
    obtain ⟨y29, hy30⟩ : ∃ y29, l[j7]? = some y29 := ⟨_, List.getElem?_eq_getElem (show j7 < l.length by omega)⟩
    refine q_step hA28 rfl (d_sat (j := j7) (wn rfl) (hA28.ev (v := (.string (S l))) rfl) (hA28.ev (v := (.int .i64 ((j7 : Nat) : Int))) rfl) str9 hy30 ?_)
    intro a31 hA32
    rcases Bool.eq_false_or_eq_true (((y29.toNat : Nat) : Int) == 32) with hb33 | hb33
    · skip
      have hq34 := eq_of_beq hb33
      refine q_step hA32 rfl (d_bin (wn rfl) (hA32.ev (v := (.int .u8 ((y29.toNat : Nat) : Int))) rfl) (hA32.ev (v := (.int .u8 32)) rfl) (b_eq _ _ ((y29.toNat : Nat) : Int) 32 true _ hb33) ?_)
      intro a35 hA36
      refine q_step hA36 rfl (d_move (wn rfl) (hA36.ev (v := (.bool true)) rfl) ?_)
      intro a37 hA38
      refine q_step hA38 rfl (does_not (wno rfl rfl (.inl (hA38.get 15 _ rfl))) ?_)
      intro a39 hA40
      refine q_step hA40 rfl (does_not (wno rfl rfl (.inl (hA40.get 15 _ rfl))) ?_)
      intro a41 hA42
      refine q_step hA42 rfl (does_not (wno rfl rfl (.inl (hA42.get 15 _ rfl))) ?_)
      intro a43 hA44
      refine q_step hA44 rfl (does_not (wno rfl rfl (.inl (hA44.get 15 _ rfl))) ?_)
      intro a45 hA46
      refine q_step hA46 rfl (d_pickT (wn rfl) (hA46.ev (v := (.bool true)) rfl) (hA46.ev (v := (.bool true)) rfl) ?_)
      intro a47 hA48
      refine q_step hA48 rfl (d_move (wn rfl) (hA48.ev (v := (.bool true)) rfl) ?_)
      intro a49 hA50
      refine q_step hA50 rfl (does_not (wno rfl rfl (.inl (hA50.get 21 _ rfl))) ?_)
      intro a51 hA52
      refine q_step hA52 rfl (does_not (wno rfl rfl (.inl (hA52.get 21 _ rfl))) ?_)
      intro a53 hA54
      refine q_step hA54 rfl (does_not (wno rfl rfl (.inl (hA54.get 21 _ rfl))) ?_)
      intro a55 hA56
      refine q_step hA56 rfl (does_not (wno rfl rfl (.inl (hA56.get 21 _ rfl))) ?_)
      intro a57 hA58
      refine q_step hA58 rfl (d_pickT (wn rfl) (hA58.ev (v := (.bool true)) rfl) (hA58.ev (v := (.bool true)) rfl) ?_)
      intro a59 hA60
      refine q_end ?_
      refine t_norm ?_
      refine c_true hA60 rfl ?_
      refine wp_seq ?_
      refine wp_region_lit ?_
      refine q_step hA60 rfl (d_move (wn rfl) (hA60.ev (v := (.int .i64 ((j7 : Nat) : Int))) rfl) ?_)
      intro a61 hA62
      refine q_step hA62 rfl (d_bin (wn rfl) (hA62.ev (v := (.int .i64 ((j7 : Nat) : Int))) rfl) (hA62.ev (v := (.int .i64 1)) rfl) (b_addE (j7 + 1) (by omega) (by omega)) ?_)
      intro a63 hA64
      refine q_step hA64 rfl (d_assign (wn rfl) (hA64.ev (v := (.int .i64 ((j7 + 1 : Nat) : Int))) rfl) ?_)
      intro a65 hA66
      refine q_end ?_
      refine t_norm ?_
      refine wp_exit ?_
      refine t_exit ?_
      refine i_here ?_
      refine t_norm ?_
      have hsk := skip_blank hy30 (decide_eq_true (by omega))
      have hk1 := congrArg Prod.fst hsk
      have hk2 := congrArg Prod.snd hsk
      dsimp only at hk1 hk2
      exact ⟨l.length - (j7 + 1), (by rw [hm13]; omega), j7 + 1, rfl, ⟨by omega, by omega, hs2.trans hk2⟩, hA66.cut _ (fm_cons (hA66.get 0 _ rfl) (fm_cons (hA66.get 1 _ rfl) (fm_cons (hA66.get 4 _ rfl) (fm_cons (hA66.get 5 _ rfl) fm_nil)))), b12⟩
    · skip
      have hq67 := ne_of_beq hb33
      refine q_step hA32 rfl (d_bin (wn rfl) (hA32.ev (v := (.int .u8 ((y29.toNat : Nat) : Int))) rfl) (hA32.ev (v := (.int .u8 32)) rfl) (b_eq _ _ ((y29.toNat : Nat) : Int) 32 false _ hb33) ?_)
      intro a68 hA69
      refine q_step hA69 rfl (d_move (wn rfl) (hA69.ev (v := (.bool false)) rfl) ?_)
      intro a70 hA71
      refine q_step hA71 rfl (d_move (wy rfl rfl (hA71.get 15 _ rfl)) (hA71.ev (v := (.string (S l))) rfl) ?_)
      intro a72 hA73
      refine q_step hA73 rfl (d_move (wy rfl rfl (hA73.get 15 _ rfl)) (hA73.ev (v := (.int .i64 ((j7 : Nat) : Int))) rfl) ?_)
      intro a74 hA75
      refine q_step hA75 rfl (d_sat (j := j7) (wy rfl rfl (hA75.get 15 _ rfl)) (hA75.ev (v := (.string (S l))) rfl) (hA75.ev (v := (.int .i64 ((j7 : Nat) : Int))) rfl) str9 hy30 ?_)
      intro a76 hA77
      rcases Bool.eq_false_or_eq_true (((y29.toNat : Nat) : Int) == 9) with hb78 | hb78
      · skip
        have hq79 := eq_of_beq hb78
        refine q_step hA77 rfl (d_bin (wy rfl rfl (hA77.get 15 _ rfl)) (hA77.ev (v := (.int .u8 ((y29.toNat : Nat) : Int))) rfl) (hA77.ev (v := (.int .u8 9)) rfl) (b_eq _ _ ((y29.toNat : Nat) : Int) 9 true _ hb78) ?_)
        intro a80 hA81
        refine q_step hA81 rfl (d_pickF (wn rfl) (hA81.ev (v := (.bool false)) rfl) (hA81.ev (v := (.bool true)) rfl) ?_)
        intro a82 hA83
        refine q_step hA83 rfl (d_move (wn rfl) (hA83.ev (v := (.bool true)) rfl) ?_)
        intro a84 hA85
        refine q_step hA85 rfl (does_not (wno rfl rfl (.inl (hA85.get 21 _ rfl))) ?_)
        intro a86 hA87
        refine q_step hA87 rfl (does_not (wno rfl rfl (.inl (hA87.get 21 _ rfl))) ?_)
        intro a88 hA89
        refine q_step hA89 rfl (does_not (wno rfl rfl (.inl (hA89.get 21 _ rfl))) ?_)
        intro a90 hA91
        refine q_step hA91 rfl (does_not (wno rfl rfl (.inl (hA91.get 21 _ rfl))) ?_)
        intro a92 hA93
        refine q_step hA93 rfl (d_pickT (wn rfl) (hA93.ev (v := (.bool true)) rfl) (hA93.ev (v := (.bool true)) rfl) ?_)
        intro a94 hA95
        refine q_end ?_
        refine t_norm ?_
        refine c_true hA95 rfl ?_
        refine wp_seq ?_
        refine wp_region_lit ?_
        refine q_step hA95 rfl (d_move (wn rfl) (hA95.ev (v := (.int .i64 ((j7 : Nat) : Int))) rfl) ?_)
        intro a96 hA97
        refine q_step hA97 rfl (d_bin (wn rfl) (hA97.ev (v := (.int .i64 ((j7 : Nat) : Int))) rfl) (hA97.ev (v := (.int .i64 1)) rfl) (b_addE (j7 + 1) (by omega) (by omega)) ?_)
        intro a98 hA99
        refine q_step hA99 rfl (d_assign (wn rfl) (hA99.ev (v := (.int .i64 ((j7 + 1 : Nat) : Int))) rfl) ?_)
        intro a100 hA101
        refine q_end ?_
        refine t_norm ?_
        refine wp_exit ?_
        refine t_exit ?_
        refine i_here ?_
        refine t_norm ?_
        have hsk := skip_blank hy30 (decide_eq_true (by omega))
        have hk1 := congrArg Prod.fst hsk
        have hk2 := congrArg Prod.snd hsk
        dsimp only at hk1 hk2
        exact ⟨l.length - (j7 + 1), (by rw [hm13]; omega), j7 + 1, rfl, ⟨by omega, by omega, hs2.trans hk2⟩, hA101.cut _ (fm_cons (hA101.get 0 _ rfl) (fm_cons (hA101.get 1 _ rfl) (fm_cons (hA101.get 4 _ rfl) (fm_cons (hA101.get 5 _ rfl) fm_nil)))), b12⟩
      · skip
        have hq102 := ne_of_beq hb78
        refine q_step hA77 rfl (d_bin (wy rfl rfl (hA77.get 15 _ rfl)) (hA77.ev (v := (.int .u8 ((y29.toNat : Nat) : Int))) rfl) (hA77.ev (v := (.int .u8 9)) rfl) (b_eq _ _ ((y29.toNat : Nat) : Int) 9 false _ hb78) ?_)
        intro a103 hA104
        refine q_step hA104 rfl (d_pickF (wn rfl) (hA104.ev (v := (.bool false)) rfl) (hA104.ev (v := (.bool false)) rfl) ?_)
        intro a105 hA106
        refine q_step hA106 rfl (d_move (wn rfl) (hA106.ev (v := (.bool false)) rfl) ?_)
        intro a107 hA108
        refine q_step hA108 rfl (d_move (wy rfl rfl (hA108.get 21 _ rfl)) (hA108.ev (v := (.string (S l))) rfl) ?_)
        intro a109 hA110
        refine q_step hA110 rfl (d_move (wy rfl rfl (hA110.get 21 _ rfl)) (hA110.ev (v := (.int .i64 ((j7 : Nat) : Int))) rfl) ?_)
        intro a111 hA112
        refine q_step hA112 rfl (d_sat (j := j7) (wy rfl rfl (hA112.get 21 _ rfl)) (hA112.ev (v := (.string (S l))) rfl) (hA112.ev (v := (.int .i64 ((j7 : Nat) : Int))) rfl) str9 hy30 ?_)
        intro a113 hA114
        rcases Bool.eq_false_or_eq_true (((y29.toNat : Nat) : Int) == 10) with hb115 | hb115
        · skip
          have hq116 := eq_of_beq hb115
          refine q_step hA114 rfl (d_bin (wy rfl rfl (hA114.get 21 _ rfl)) (hA114.ev (v := (.int .u8 ((y29.toNat : Nat) : Int))) rfl) (hA114.ev (v := (.int .u8 10)) rfl) (b_eq _ _ ((y29.toNat : Nat) : Int) 10 true _ hb115) ?_)
          intro a117 hA118
          refine q_step hA118 rfl (d_pickF (wn rfl) (hA118.ev (v := (.bool false)) rfl) (hA118.ev (v := (.bool true)) rfl) ?_)
          intro a119 hA120
          refine q_end ?_
          refine t_norm ?_
          refine c_true hA120 rfl ?_
          refine wp_seq ?_
          refine wp_region_lit ?_
          refine q_step hA120 rfl (d_move (wn rfl) (hA120.ev (v := (.int .i64 ((j7 : Nat) : Int))) rfl) ?_)
          intro a121 hA122
          refine q_step hA122 rfl (d_bin (wn rfl) (hA122.ev (v := (.int .i64 ((j7 : Nat) : Int))) rfl) (hA122.ev (v := (.int .i64 1)) rfl) (b_addE (j7 + 1) (by omega) (by omega)) ?_)
          intro a123 hA124
          refine q_step hA124 rfl (d_assign (wn rfl) (hA124.ev (v := (.int .i64 ((j7 + 1 : Nat) : Int))) rfl) ?_)
          intro a125 hA126
          refine q_end ?_
          refine t_norm ?_
          refine wp_exit ?_
          refine t_exit ?_
          refine i_here ?_
          refine t_norm ?_
          have hsk := skip_blank hy30 (decide_eq_true (by omega))
          have hk1 := congrArg Prod.fst hsk
          have hk2 := congrArg Prod.snd hsk
          dsimp only at hk1 hk2
          exact ⟨l.length - (j7 + 1), (by rw [hm13]; omega), j7 + 1, rfl, ⟨by omega, by omega, hs2.trans hk2⟩, hA126.cut _ (fm_cons (hA126.get 0 _ rfl) (fm_cons (hA126.get 1 _ rfl) (fm_cons (hA126.get 4 _ rfl) (fm_cons (hA126.get 5 _ rfl) fm_nil)))), b12⟩
        · skip
          have hq127 := ne_of_beq hb115
          refine q_step hA114 rfl (d_bin (wy rfl rfl (hA114.get 21 _ rfl)) (hA114.ev (v := (.int .u8 ((y29.toNat : Nat) : Int))) rfl) (hA114.ev (v := (.int .u8 10)) rfl) (b_eq _ _ ((y29.toNat : Nat) : Int) 10 false _ hb115) ?_)
          intro a128 hA129
          refine q_step hA129 rfl (d_pickF (wn rfl) (hA129.ev (v := (.bool false)) rfl) (hA129.ev (v := (.bool false)) rfl) ?_)
          intro a130 hA131
          refine q_end ?_
          refine t_norm ?_
          refine c_false hA131 rfl ?_
          refine wp_skip ?_
          refine t_norm ?_
          refine wp_seq ?_
          refine wp_seq ?_
          refine wp_region_lit ?_
          refine q_step hA131 rfl (d_move (wn rfl) (hA131.ev (v := (.string (S l))) rfl) ?_)
          intro a132 hA133
          refine q_step hA133 rfl (d_move (wn rfl) (hA133.ev (v := (.int .i64 ((j7 : Nat) : Int))) rfl) ?_)
          intro a134 hA135
          refine q_step hA135 rfl (d_sat (j := j7) (wn rfl) (hA135.ev (v := (.string (S l))) rfl) (hA135.ev (v := (.int .i64 ((j7 : Nat) : Int))) rfl) str9 hy30 ?_)
          intro a136 hA137
          rcases Bool.eq_false_or_eq_true (((y29.toNat : Nat) : Int) == 40) with hb138 | hb138
          · skip
            have hq139 := eq_of_beq hb138
            refine q_step hA137 rfl (d_bin (wn rfl) (hA137.ev (v := (.int .u8 ((y29.toNat : Nat) : Int))) rfl) (hA137.ev (v := (.int .u8 40)) rfl) (b_ne _ _ ((y29.toNat : Nat) : Int) 40 false _ (notof hb138)) ?_)
            intro a140 hA141
            refine q_step hA141 rfl (d_move (wn rfl) (hA141.ev (v := (.bool false)) rfl) ?_)
            intro a142 hA143
            refine q_step hA143 rfl (d_move (wy rfl rfl (hA143.get 33 _ rfl)) (hA143.ev (v := (.int .i64 ((j7 : Nat) : Int))) rfl) ?_)
            intro a144 hA145
            refine q_step hA145 rfl (d_bin (wy rfl rfl (hA145.get 33 _ rfl)) (hA145.ev (v := (.int .i64 ((j7 : Nat) : Int))) rfl) (hA145.ev (v := (.int .i64 1)) rfl) (b_addE (j7 + 1) (by omega) (by omega)) ?_)
            intro a146 hA147
            refine q_step hA147 rfl (d_move (wy rfl rfl (hA147.get 33 _ rfl)) (hA147.ev (v := (.string (S l))) rfl) ?_)
            intro a148 hA149
            refine q_step hA149 rfl (d_slen (wy rfl rfl (hA149.get 33 _ rfl)) (hA149.ev (v := (.string (S l))) rfl) str9 ?_)
            intro a150 hA151
            rcases Bool.eq_false_or_eq_true (decide (((j7 + 1 : Nat) : Int) ≥ ((l.length : Nat) : Int))) with hb152 | hb152
            · skip
              have hq153 := of_decide_eq_true hb152
              refine q_step hA151 rfl (d_bin (wy rfl rfl (hA151.get 33 _ rfl)) (hA151.ev (v := (.int .i64 ((j7 + 1 : Nat) : Int))) rfl) (hA151.ev (v := (.int .i64 ((l.length : Nat) : Int))) rfl) (b_ge _ _ ((j7 + 1 : Nat) : Int) ((l.length : Nat) : Int) true _ hb152) ?_)
              intro a154 hA155
              refine q_step hA155 rfl (d_pickF (wn rfl) (hA155.ev (v := (.bool false)) rfl) (hA155.ev (v := (.bool true)) rfl) ?_)
              intro a156 hA157
              refine q_step hA157 rfl (d_move (wn rfl) (hA157.ev (v := (.bool true)) rfl) ?_)
              intro a158 hA159
              refine q_step hA159 rfl (does_not (wno rfl rfl (.inl (hA159.get 40 _ rfl))) ?_)
              intro a160 hA161
              refine q_step hA161 rfl (does_not (wno rfl rfl (.inl (hA161.get 40 _ rfl))) ?_)
              intro a162 hA163
              refine q_step hA163 rfl (does_not (wno rfl rfl (.inl (hA163.get 40 _ rfl))) ?_)
              intro a164 hA165
              refine q_step hA165 rfl (does_not (wno rfl rfl (.inl (hA165.get 40 _ rfl))) ?_)
              intro a166 hA167
              refine q_step hA167 rfl (does_not (wno rfl rfl (.inl (hA167.get 40 _ rfl))) ?_)
              intro a168 hA169
              refine q_step hA169 rfl (d_pickT (wn rfl) (hA169.ev (v := (.bool true)) rfl) (hA169.ev (v := (.bool true)) rfl) ?_)
              intro a170 hA171
              refine q_end ?_
              refine t_norm ?_
              refine c_true hA171 rfl ?_
              refine wp_seq ?_
              refine wp_region_lit ?_
              refine q_step hA171 rfl (d_move (wn rfl) (hA171.ev (v := (.int .i64 ((j7 : Nat) : Int))) rfl) ?_)
              intro a172 hA173
              refine q_step hA173 rfl (d_assign (wn rfl) (hA173.ev (v := (.int .i64 ((j7 : Nat) : Int))) rfl) ?_)
              intro a174 hA175
              refine q_step hA175 rfl (d_assign (wn rfl) (hA175.ev (v := (.int .i64 0)) rfl) ?_)
              intro a176 hA177
              refine q_end ?_
              refine t_norm ?_
              refine wp_ret ?_
              refine t_ret ?_
              refine i_ret ?_
              refine t_ret ?_
              refine i_ret ?_
              refine t_ret ?_
              refine ret2 (x := (.int .i64 ((j7 : Nat) : Int))) (y := (.int .i64 0)) rfl hA177 rfl rfl ?_
              have hsk := skip_word hy30 (decide_eq_false (by omega)) (by first | exact pre2_first hy30 (by omega) | exact pre2_short (by omega))
              rw [hsk] at hs1 hs2
              exact ⟨by rw [hs2, hs1]; rfl, b12⟩
            · skip
              have hq178 := of_decide_eq_false hb152
              refine q_step hA151 rfl (d_bin (wy rfl rfl (hA151.get 33 _ rfl)) (hA151.ev (v := (.int .i64 ((j7 + 1 : Nat) : Int))) rfl) (hA151.ev (v := (.int .i64 ((l.length : Nat) : Int))) rfl) (b_ge _ _ ((j7 + 1 : Nat) : Int) ((l.length : Nat) : Int) false _ hb152) ?_)
              intro a179 hA180
              refine q_step hA180 rfl (d_pickF (wn rfl) (hA180.ev (v := (.bool false)) rfl) (hA180.ev (v := (.bool false)) rfl) ?_)
              intro a181 hA182
              refine q_step hA182 rfl (d_move (wn rfl) (hA182.ev (v := (.bool false)) rfl) ?_)
              intro a183 hA184
              refine q_step hA184 rfl (d_move (wy rfl rfl (hA184.get 40 _ rfl)) (hA184.ev (v := (.string (S l))) rfl) ?_)
              intro a185 hA186
              refine q_step hA186 rfl (d_move (wy rfl rfl (hA186.get 40 _ rfl)) (hA186.ev (v := (.int .i64 ((j7 : Nat) : Int))) rfl) ?_)
              intro a187 hA188
              refine q_step hA188 rfl (d_bin (wy rfl rfl (hA188.get 40 _ rfl)) (hA188.ev (v := (.int .i64 ((j7 : Nat) : Int))) rfl) (hA188.ev (v := (.int .i64 1)) rfl) (b_addE (j7 + 1) (by omega) (by omega)) ?_)
              intro a189 hA190
              obtain ⟨y191, hy192⟩ : ∃ y191, l[j7 + 1]? = some y191 := ⟨_, List.getElem?_eq_getElem (show j7 + 1 < l.length by omega)⟩
              refine q_step hA190 rfl (d_sat (j := j7 + 1) (wy rfl rfl (hA190.get 40 _ rfl)) (hA190.ev (v := (.string (S l))) rfl) (hA190.ev (v := (.int .i64 ((j7 + 1 : Nat) : Int))) rfl) str9 hy192 ?_)
              intro a193 hA194
              rcases Bool.eq_false_or_eq_true (((y191.toNat : Nat) : Int) == 42) with hb195 | hb195
              · skip
                have hq196 := eq_of_beq hb195
                refine q_step hA194 rfl (d_bin (wy rfl rfl (hA194.get 40 _ rfl)) (hA194.ev (v := (.int .u8 ((y191.toNat : Nat) : Int))) rfl) (hA194.ev (v := (.int .u8 42)) rfl) (b_ne _ _ ((y191.toNat : Nat) : Int) 42 false _ (notof hb195)) ?_)
                intro a197 hA198
                refine q_step hA198 rfl (d_pickF (wn rfl) (hA198.ev (v := (.bool false)) rfl) (hA198.ev (v := (.bool false)) rfl) ?_)
                intro a199 hA200
                refine q_end ?_
                refine t_norm ?_
                refine c_false hA200 rfl ?_
                refine wp_skip ?_
                refine t_norm ?_
                refine wp_seq ?_
                refine wp_region_lit ?_
                refine q_step hA200 rfl (d_move (wn rfl) (hA200.ev (v := (.int .i64 ((j7 : Nat) : Int))) rfl) ?_)
                intro a201 hA202
                refine q_step hA202 rfl (d_bin (wn rfl) (hA202.ev (v := (.int .i64 ((j7 : Nat) : Int))) rfl) (hA202.ev (v := (.int .i64 2)) rfl) (b_addE (j7 + 2) (by omega) (by omega)) ?_)
                intro a203 hA204
                refine q_step hA204 rfl (d_assign (wn rfl) (hA204.ev (v := (.int .i64 ((j7 + 2 : Nat) : Int))) rfl) ?_)
                intro a205 hA206
                refine q_end ?_
                refine t_norm ?_
                refine wp_seq ?_
                refine wp_block ?_
                have hge := endR_ge (List.drop (j7 + 2) l)
                refine loop_by (fun m208 a209 w210 => ∃ e207 : Nat, m208 = l.length - e207 ∧ (j7 + 2 ≤ e207 ∧ e207 ≤ l.length ∧ (endR (List.drop (j7 + 2) l) < 0 ∧ endR (List.drop e207 l) < 0 ∨ 0 ≤ endR (List.drop e207 l) ∧ endR (List.drop (j7 + 2) l) = endR (List.drop e207 l) + ((e207 : Nat) : Int) - (((j7 + 2) : Nat) : Int))) ∧ St 80 [(0, (.string (S l))), (1, (.int .i64 ((j7 : Nat) : Int))), (4, (.int .i64 0)), (5, (.int .i64 0)), (6, (.int .i64 ((e207 : Nat) : Int)))] a209 ∧ Below w.heap.size w w210) (l.length - (j7 + 2)) ⟨j7 + 2, rfl, ⟨by omega, by omega, by omega⟩, hA206.cut _ (fm_cons (hA206.get 0 _ rfl) (fm_cons (hA206.get 1 _ rfl) (fm_cons (hA206.get 4 _ rfl) (fm_cons (hA206.get 5 _ rfl) (fm_cons (hA206.get 6 _ rfl) fm_nil))))), b12⟩ ?_
                rintro m208 a209 w210 ⟨e207, hm213, hc214, hA211, b212⟩
                obtain ⟨he1, he2, he3⟩ := hc214
                refine wp_seq ?_
                refine wp_seq ?_
                refine wp_region_lit ?_
                refine q_step hA211 rfl (d_move (wn rfl) (hA211.ev (v := (.int .i64 ((e207 : Nat) : Int))) rfl) ?_)
                intro a215 hA216
                refine q_step hA216 rfl (d_bin (wn rfl) (hA216.ev (v := (.int .i64 ((e207 : Nat) : Int))) rfl) (hA216.ev (v := (.int .i64 1)) rfl) (b_addE (e207 + 1) (by omega) (by omega)) ?_)
                intro a217 hA218
                refine q_step hA218 rfl (d_move (wn rfl) (hA218.ev (v := (.string (S l))) rfl) ?_)
                intro a219 hA220
                refine q_step hA220 rfl (d_slen (wn rfl) (hA220.ev (v := (.string (S l))) rfl) str9 ?_)
                intro a221 hA222
                rcases Bool.eq_false_or_eq_true (decide (((e207 + 1 : Nat) : Int) < ((l.length : Nat) : Int))) with hb223 | hb223
                · skip
                  have hq224 := of_decide_eq_true hb223
                  refine q_step hA222 rfl (d_bin (wn rfl) (hA222.ev (v := (.int .i64 ((e207 + 1 : Nat) : Int))) rfl) (hA222.ev (v := (.int .i64 ((l.length : Nat) : Int))) rfl) (b_lt _ _ ((e207 + 1 : Nat) : Int) ((l.length : Nat) : Int) true _ hb223) ?_)
                  intro a225 hA226
                  refine q_step hA226 rfl (d_move (wn rfl) (hA226.ev (v := (.bool true)) rfl) ?_)
                  intro a227 hA228
                  refine q_step hA228 rfl (d_move (wy rfl rfl (hA228.get 55 _ rfl)) (hA228.ev (v := (.string (S l))) rfl) ?_)
                  intro a229 hA230
                  refine q_step hA230 rfl (d_move (wy rfl rfl (hA230.get 55 _ rfl)) (hA230.ev (v := (.int .i64 ((e207 : Nat) : Int))) rfl) ?_)
                  intro a231 hA232
                  obtain ⟨y233, hy234⟩ : ∃ y233, l[e207]? = some y233 := ⟨_, List.getElem?_eq_getElem (show e207 < l.length by omega)⟩
                  refine q_step hA232 rfl (d_sat (j := e207) (wy rfl rfl (hA232.get 55 _ rfl)) (hA232.ev (v := (.string (S l))) rfl) (hA232.ev (v := (.int .i64 ((e207 : Nat) : Int))) rfl) str9 hy234 ?_)
                  intro a235 hA236
                  rcases Bool.eq_false_or_eq_true (((y233.toNat : Nat) : Int) == 42) with hb237 | hb237
                  · skip
                    have hq238 := eq_of_beq hb237
                    refine q_step hA236 rfl (d_bin (wy rfl rfl (hA236.get 55 _ rfl)) (hA236.ev (v := (.int .u8 ((y233.toNat : Nat) : Int))) rfl) (hA236.ev (v := (.int .u8 42)) rfl) (b_eq _ _ ((y233.toNat : Nat) : Int) 42 true _ hb237) ?_)
                    intro a239 hA240
                    refine q_step hA240 rfl (d_move (wy rfl rfl (hA240.get 55 _ rfl)) (hA240.ev (v := (.bool true)) rfl) ?_)
                    intro a241 hA242
                    refine q_step hA242 rfl (d_move (wy rfl rfl (hA242.get 60 _ rfl)) (hA242.ev (v := (.string (S l))) rfl) ?_)
                    intro a243 hA244
                    refine q_step hA244 rfl (d_move (wy rfl rfl (hA244.get 60 _ rfl)) (hA244.ev (v := (.int .i64 ((e207 : Nat) : Int))) rfl) ?_)
                    intro a245 hA246
                    refine q_step hA246 rfl (d_bin (wy rfl rfl (hA246.get 60 _ rfl)) (hA246.ev (v := (.int .i64 ((e207 : Nat) : Int))) rfl) (hA246.ev (v := (.int .i64 1)) rfl) (b_addE (e207 + 1) (by omega) (by omega)) ?_)
                    intro a247 hA248
                    obtain ⟨y249, hy250⟩ : ∃ y249, l[e207 + 1]? = some y249 := ⟨_, List.getElem?_eq_getElem (show e207 + 1 < l.length by omega)⟩
                    refine q_step hA248 rfl (d_sat (j := e207 + 1) (wy rfl rfl (hA248.get 60 _ rfl)) (hA248.ev (v := (.string (S l))) rfl) (hA248.ev (v := (.int .i64 ((e207 + 1 : Nat) : Int))) rfl) str9 hy250 ?_)
                    intro a251 hA252
                    rcases Bool.eq_false_or_eq_true (((y249.toNat : Nat) : Int) == 41) with hb253 | hb253
                    · skip
                      have hq254 := eq_of_beq hb253
                      refine q_step hA252 rfl (d_bin (wy rfl rfl (hA252.get 60 _ rfl)) (hA252.ev (v := (.int .u8 ((y249.toNat : Nat) : Int))) rfl) (hA252.ev (v := (.int .u8 41)) rfl) (b_eq _ _ ((y249.toNat : Nat) : Int) 41 true _ hb253) ?_)
                      intro a255 hA256
                      refine q_step hA256 rfl (d_pickT (wy rfl rfl (hA256.get 55 _ rfl)) (hA256.ev (v := (.bool true)) rfl) (hA256.ev (v := (.bool true)) rfl) ?_)
                      intro a257 hA258
                      refine q_step hA258 rfl (d_not (wy rfl rfl (hA258.get 55 _ rfl)) (hA258.ev (v := (.bool true)) rfl) ?_)
                      intro a259 hA260
                      refine q_step hA260 rfl (d_pickT (wn rfl) (hA260.ev (v := (.bool true)) rfl) (hA260.ev (v := (.bool false)) rfl) ?_)
                      intro a261 hA262
                      refine q_end ?_
                      refine t_norm ?_
                      refine c_false hA262 rfl ?_
                      refine wp_exit ?_
                      have hhit := endR_hit hy234 hy250 (by omega) (by omega)
                      refine t_exit ?_
                      have hhit := endR_hit hy234 hy250 (by omega) (by omega)
                      refine t_exit ?_
                      have hhit := endR_hit hy234 hy250 (by omega) (by omega)
                      refine i_here ?_
                      refine t_norm ?_
                      refine wp_seq ?_
                      refine wp_seq ?_
                      refine wp_region_lit ?_
                      refine q_step hA262 rfl (d_move (wn rfl) (hA262.ev (v := (.int .i64 ((e207 : Nat) : Int))) rfl) ?_)
                      intro a263 hA264
                      refine q_step hA264 rfl (d_bin (wn rfl) (hA264.ev (v := (.int .i64 ((e207 : Nat) : Int))) rfl) (hA264.ev (v := (.int .i64 1)) rfl) (b_addE (e207 + 1) (by omega) (by omega)) ?_)
                      intro a265 hA266
                      refine q_step hA266 rfl (d_move (wn rfl) (hA266.ev (v := (.string (S l))) rfl) ?_)
                      intro a267 hA268
                      refine q_step hA268 rfl (d_slen (wn rfl) (hA268.ev (v := (.string (S l))) rfl) str9 ?_)
                      intro a269 hA270
                      rcases Bool.eq_false_or_eq_true (decide (((e207 + 1 : Nat) : Int) ≥ ((l.length : Nat) : Int))) with hb271 | hb271
                      · skip
                        have hq272 := of_decide_eq_true hb271
                        refine q_step hA270 rfl (d_bin (wn rfl) (hA270.ev (v := (.int .i64 ((e207 + 1 : Nat) : Int))) rfl) (hA270.ev (v := (.int .i64 ((l.length : Nat) : Int))) rfl) (b_ge _ _ ((e207 + 1 : Nat) : Int) ((l.length : Nat) : Int) true _ hb271) ?_)
                        intro a273 hA274
                        refine q_end ?_
                        refine t_norm ?_
                        refine c_true hA274 rfl ?_
                        refine wp_seq ?_
                        refine wp_region_lit ?_
                        refine q_step hA274 rfl (d_move (wn rfl) (hA274.ev (v := (.int .i64 ((j7 : Nat) : Int))) rfl) ?_)
                        intro a275 hA276
                        refine q_step hA276 rfl (d_assign (wn rfl) (hA276.ev (v := (.int .i64 ((j7 : Nat) : Int))) rfl) ?_)
                        intro a277 hA278
                        refine q_step hA278 rfl (d_assign (wn rfl) (hA278.ev (v := (.int .i64 24)) rfl) ?_)
                        intro a279 hA280
                        refine q_end ?_
                        refine t_norm ?_
                        refine wp_ret ?_
                        refine t_ret ?_
                        refine i_ret ?_
                        refine t_ret ?_
                        refine i_ret ?_
                        refine t_ret ?_
                        refine ret2 (x := (.int .i64 ((j7 : Nat) : Int))) (y := (.int .i64 24)) rfl hA280 rfl rfl ?_
                        have hsk := skip_open hy30 (decide_eq_false (by omega)) (pre2_yes hy30 hy192 (by omega) (by omega)) (by omega)
                        rw [hsk] at hs1 hs2
                        exact ⟨by rw [hs2, hs1]; rfl, b212⟩
                      · skip
                        have hq281 := of_decide_eq_false hb271
                        refine q_step hA270 rfl (d_bin (wn rfl) (hA270.ev (v := (.int .i64 ((e207 + 1 : Nat) : Int))) rfl) (hA270.ev (v := (.int .i64 ((l.length : Nat) : Int))) rfl) (b_ge _ _ ((e207 + 1 : Nat) : Int) ((l.length : Nat) : Int) false _ hb271) ?_)
                        intro a282 hA283
                        refine q_end ?_
                        refine t_norm ?_
                        refine c_false hA283 rfl ?_
                        refine wp_skip ?_
                        refine t_norm ?_
                        refine wp_region_lit ?_
                        refine q_step hA283 rfl (d_move (wn rfl) (hA283.ev (v := (.int .i64 ((e207 : Nat) : Int))) rfl) ?_)
                        intro a284 hA285
                        refine q_step hA285 rfl (d_bin (wn rfl) (hA285.ev (v := (.int .i64 ((e207 : Nat) : Int))) rfl) (hA285.ev (v := (.int .i64 2)) rfl) (b_addE (e207 + 2) (by omega) (by omega)) ?_)
                        intro a286 hA287
                        refine q_step hA287 rfl (d_assign (wn rfl) (hA287.ev (v := (.int .i64 ((e207 + 2 : Nat) : Int))) rfl) ?_)
                        intro a288 hA289
                        refine q_end ?_
                        refine i_norm ?_
                        refine t_norm ?_
                        have hsk := skip_remark hy30 (decide_eq_false (by omega)) (pre2_yes hy30 hy192 (by omega) (by omega)) (by omega)
                        have hk1 := congrArg Prod.fst hsk
                        have hk2 := congrArg Prod.snd hsk
                        dsimp only at hk1 hk2
                        exact ⟨l.length - (j7 + 2 + (endR (List.drop (j7 + 2) l)).toNat + 2), (by rw [hm13]; omega), j7 + 2 + (endR (List.drop (j7 + 2) l)).toNat + 2, rfl, ⟨by omega, by omega, hs2.trans hk2⟩, hA289.cut _ (fm_cons (hA289.get 0 _ rfl) (fm_cons ((hA289.get 1 _ rfl).trans (congrArg (Value.int .i64) (by omega))) (fm_cons (hA289.get 4 _ rfl) (fm_cons (hA289.get 5 _ rfl) fm_nil)))), b212⟩
                    · skip
                      have hq290 := ne_of_beq hb253
                      refine q_step hA252 rfl (d_bin (wy rfl rfl (hA252.get 60 _ rfl)) (hA252.ev (v := (.int .u8 ((y249.toNat : Nat) : Int))) rfl) (hA252.ev (v := (.int .u8 41)) rfl) (b_eq _ _ ((y249.toNat : Nat) : Int) 41 false _ hb253) ?_)
                      intro a291 hA292
                      refine q_step hA292 rfl (d_pickT (wy rfl rfl (hA292.get 55 _ rfl)) (hA292.ev (v := (.bool true)) rfl) (hA292.ev (v := (.bool false)) rfl) ?_)
                      intro a293 hA294
                      refine q_step hA294 rfl (d_not (wy rfl rfl (hA294.get 55 _ rfl)) (hA294.ev (v := (.bool false)) rfl) ?_)
                      intro a295 hA296
                      refine q_step hA296 rfl (d_pickT (wn rfl) (hA296.ev (v := (.bool true)) rfl) (hA296.ev (v := (.bool true)) rfl) ?_)
                      intro a297 hA298
                      refine q_end ?_
                      refine t_norm ?_
                      refine c_true hA298 rfl ?_
                      refine wp_skip ?_
                      refine t_norm ?_
                      refine wp_block ?_
                      refine wp_region_lit ?_
                      refine q_step hA298 rfl (d_move (wn rfl) (hA298.ev (v := (.int .i64 ((e207 : Nat) : Int))) rfl) ?_)
                      intro a299 hA300
                      refine q_step hA300 rfl (d_bin (wn rfl) (hA300.ev (v := (.int .i64 ((e207 : Nat) : Int))) rfl) (hA300.ev (v := (.int .i64 1)) rfl) (b_addE (e207 + 1) (by omega) (by omega)) ?_)
                      intro a301 hA302
                      refine q_step hA302 rfl (d_assign (wn rfl) (hA302.ev (v := (.int .i64 ((e207 + 1 : Nat) : Int))) rfl) ?_)
                      intro a303 hA304
                      refine q_end ?_
                      refine i_norm ?_
                      refine t_norm ?_
                      have hgo := endR_go hy234 hy250 (by omega)
                      exact ⟨l.length - (e207 + 1), (by rw [hm213]; omega), e207 + 1, rfl, ⟨by omega, by omega, by omega⟩, hA304.cut _ (fm_cons (hA304.get 0 _ rfl) (fm_cons (hA304.get 1 _ rfl) (fm_cons (hA304.get 4 _ rfl) (fm_cons (hA304.get 5 _ rfl) (fm_cons (hA304.get 6 _ rfl) fm_nil))))), b212⟩
                  · skip
                    have hq305 := ne_of_beq hb237
                    refine q_step hA236 rfl (d_bin (wy rfl rfl (hA236.get 55 _ rfl)) (hA236.ev (v := (.int .u8 ((y233.toNat : Nat) : Int))) rfl) (hA236.ev (v := (.int .u8 42)) rfl) (b_eq _ _ ((y233.toNat : Nat) : Int) 42 false _ hb237) ?_)
                    intro a306 hA307
                    refine q_step hA307 rfl (d_move (wy rfl rfl (hA307.get 55 _ rfl)) (hA307.ev (v := (.bool false)) rfl) ?_)
                    intro a308 hA309
                    refine q_step hA309 rfl (does_not (wno rfl rfl (.inl (hA309.get 60 _ rfl))) ?_)
                    intro a310 hA311
                    refine q_step hA311 rfl (does_not (wno rfl rfl (.inl (hA311.get 60 _ rfl))) ?_)
                    intro a312 hA313
                    refine q_step hA313 rfl (does_not (wno rfl rfl (.inl (hA313.get 60 _ rfl))) ?_)
                    intro a314 hA315
                    refine q_step hA315 rfl (does_not (wno rfl rfl (.inl (hA315.get 60 _ rfl))) ?_)
                    intro a316 hA317
                    refine q_step hA317 rfl (does_not (wno rfl rfl (.inl (hA317.get 60 _ rfl))) ?_)
                    intro a318 hA319
                    refine q_step hA319 rfl (d_pickF (wy rfl rfl (hA319.get 55 _ rfl)) (hA319.ev (v := (.bool false)) rfl) (hA319.ev (v := (.bool false)) rfl) ?_)
                    intro a320 hA321
                    refine q_step hA321 rfl (d_not (wy rfl rfl (hA321.get 55 _ rfl)) (hA321.ev (v := (.bool false)) rfl) ?_)
                    intro a322 hA323
                    refine q_step hA323 rfl (d_pickT (wn rfl) (hA323.ev (v := (.bool true)) rfl) (hA323.ev (v := (.bool true)) rfl) ?_)
                    intro a324 hA325
                    refine q_end ?_
                    refine t_norm ?_
                    refine c_true hA325 rfl ?_
                    refine wp_skip ?_
                    refine t_norm ?_
                    refine wp_block ?_
                    refine wp_region_lit ?_
                    refine q_step hA325 rfl (d_move (wn rfl) (hA325.ev (v := (.int .i64 ((e207 : Nat) : Int))) rfl) ?_)
                    intro a326 hA327
                    refine q_step hA327 rfl (d_bin (wn rfl) (hA327.ev (v := (.int .i64 ((e207 : Nat) : Int))) rfl) (hA327.ev (v := (.int .i64 1)) rfl) (b_addE (e207 + 1) (by omega) (by omega)) ?_)
                    intro a328 hA329
                    refine q_step hA329 rfl (d_assign (wn rfl) (hA329.ev (v := (.int .i64 ((e207 + 1 : Nat) : Int))) rfl) ?_)
                    intro a330 hA331
                    refine q_end ?_
                    refine i_norm ?_
                    refine t_norm ?_
                    obtain ⟨y332, hy333⟩ : ∃ y332, l[e207 + 1]? = some y332 := ⟨_, List.getElem?_eq_getElem (show e207 + 1 < l.length by omega)⟩
                    have hgo := endR_go hy234 hy333 (by omega)
                    exact ⟨l.length - (e207 + 1), (by rw [hm213]; omega), e207 + 1, rfl, ⟨by omega, by omega, by omega⟩, hA331.cut _ (fm_cons (hA331.get 0 _ rfl) (fm_cons (hA331.get 1 _ rfl) (fm_cons (hA331.get 4 _ rfl) (fm_cons (hA331.get 5 _ rfl) (fm_cons (hA331.get 6 _ rfl) fm_nil))))), b212⟩
                · skip
                  have hq334 := of_decide_eq_false hb223
                  refine q_step hA222 rfl (d_bin (wn rfl) (hA222.ev (v := (.int .i64 ((e207 + 1 : Nat) : Int))) rfl) (hA222.ev (v := (.int .i64 ((l.length : Nat) : Int))) rfl) (b_lt _ _ ((e207 + 1 : Nat) : Int) ((l.length : Nat) : Int) false _ hb223) ?_)
                  intro a335 hA336
                  refine q_step hA336 rfl (d_move (wn rfl) (hA336.ev (v := (.bool false)) rfl) ?_)
                  intro a337 hA338
                  refine q_step hA338 rfl (does_not (wno rfl rfl (.inl (hA338.get 55 _ rfl))) ?_)
                  intro a339 hA340
                  refine q_step hA340 rfl (does_not (wno rfl rfl (.inl (hA340.get 55 _ rfl))) ?_)
                  intro a341 hA342
                  refine q_step hA342 rfl (does_not (wno rfl rfl (.inl (hA342.get 55 _ rfl))) ?_)
                  intro a343 hA344
                  refine q_step hA344 rfl (does_not (wno rfl rfl (.inl (hA344.get 55 _ rfl))) ?_)
                  intro a345 hA346
                  refine q_step hA346 rfl (does_not (wno rfl rfl (.inl (hA346.get 55 _ rfl))) ?_)
                  intro a347 hA348
                  refine q_step hA348 rfl (does_not (wno rfl rfl (.inr (hA348.get 60 _ rfl))) ?_)
                  intro a349 hA350
                  refine q_step hA350 rfl (does_not (wno rfl rfl (.inr (hA350.get 60 _ rfl))) ?_)
                  intro a351 hA352
                  refine q_step hA352 rfl (does_not (wno rfl rfl (.inr (hA352.get 60 _ rfl))) ?_)
                  intro a353 hA354
                  refine q_step hA354 rfl (does_not (wno rfl rfl (.inr (hA354.get 60 _ rfl))) ?_)
                  intro a355 hA356
                  refine q_step hA356 rfl (does_not (wno rfl rfl (.inr (hA356.get 60 _ rfl))) ?_)
                  intro a357 hA358
                  refine q_step hA358 rfl (does_not (wno rfl rfl (.inl (hA358.get 55 _ rfl))) ?_)
                  intro a359 hA360
                  refine q_step hA360 rfl (does_not (wno rfl rfl (.inl (hA360.get 55 _ rfl))) ?_)
                  intro a361 hA362
                  refine q_step hA362 rfl (d_pickF (wn rfl) (hA362.ev (v := (.bool false)) rfl) (hA362.ev (v := (.bool false)) rfl) ?_)
                  intro a363 hA364
                  refine q_end ?_
                  refine t_norm ?_
                  refine c_false hA364 rfl ?_
                  refine wp_exit ?_
                  have hhit := endR_stop (l := l) (n := e207) (by omega)
                  refine t_exit ?_
                  have hhit := endR_stop (l := l) (n := e207) (by omega)
                  refine t_exit ?_
                  have hhit := endR_stop (l := l) (n := e207) (by omega)
                  refine i_here ?_
                  refine t_norm ?_
                  refine wp_seq ?_
                  refine wp_seq ?_
                  refine wp_region_lit ?_
                  refine q_step hA364 rfl (d_move (wn rfl) (hA364.ev (v := (.int .i64 ((e207 : Nat) : Int))) rfl) ?_)
                  intro a365 hA366
                  refine q_step hA366 rfl (d_bin (wn rfl) (hA366.ev (v := (.int .i64 ((e207 : Nat) : Int))) rfl) (hA366.ev (v := (.int .i64 1)) rfl) (b_addE (e207 + 1) (by omega) (by omega)) ?_)
                  intro a367 hA368
                  refine q_step hA368 rfl (d_move (wn rfl) (hA368.ev (v := (.string (S l))) rfl) ?_)
                  intro a369 hA370
                  refine q_step hA370 rfl (d_slen (wn rfl) (hA370.ev (v := (.string (S l))) rfl) str9 ?_)
                  intro a371 hA372
                  rcases Bool.eq_false_or_eq_true (decide (((e207 + 1 : Nat) : Int) ≥ ((l.length : Nat) : Int))) with hb373 | hb373
                  · skip
                    have hq374 := of_decide_eq_true hb373
                    refine q_step hA372 rfl (d_bin (wn rfl) (hA372.ev (v := (.int .i64 ((e207 + 1 : Nat) : Int))) rfl) (hA372.ev (v := (.int .i64 ((l.length : Nat) : Int))) rfl) (b_ge _ _ ((e207 + 1 : Nat) : Int) ((l.length : Nat) : Int) true _ hb373) ?_)
                    intro a375 hA376
                    refine q_end ?_
                    refine t_norm ?_
                    refine c_true hA376 rfl ?_
                    refine wp_seq ?_
                    refine wp_region_lit ?_
                    refine q_step hA376 rfl (d_move (wn rfl) (hA376.ev (v := (.int .i64 ((j7 : Nat) : Int))) rfl) ?_)
                    intro a377 hA378
                    refine q_step hA378 rfl (d_assign (wn rfl) (hA378.ev (v := (.int .i64 ((j7 : Nat) : Int))) rfl) ?_)
                    intro a379 hA380
                    refine q_step hA380 rfl (d_assign (wn rfl) (hA380.ev (v := (.int .i64 24)) rfl) ?_)
                    intro a381 hA382
                    refine q_end ?_
                    refine t_norm ?_
                    refine wp_ret ?_
                    refine t_ret ?_
                    refine i_ret ?_
                    refine t_ret ?_
                    refine i_ret ?_
                    refine t_ret ?_
                    refine ret2 (x := (.int .i64 ((j7 : Nat) : Int))) (y := (.int .i64 24)) rfl hA382 rfl rfl ?_
                    have hsk := skip_open hy30 (decide_eq_false (by omega)) (pre2_yes hy30 hy192 (by omega) (by omega)) (by omega)
                    rw [hsk] at hs1 hs2
                    exact ⟨by rw [hs2, hs1]; rfl, b212⟩
                  · skip
                    have hq383 := of_decide_eq_false hb373
                    refine q_step hA372 rfl (d_bin (wn rfl) (hA372.ev (v := (.int .i64 ((e207 + 1 : Nat) : Int))) rfl) (hA372.ev (v := (.int .i64 ((l.length : Nat) : Int))) rfl) (b_ge _ _ ((e207 + 1 : Nat) : Int) ((l.length : Nat) : Int) false _ hb373) ?_)
                    intro a384 hA385
                    refine q_end ?_
                    refine t_norm ?_
                    refine c_false hA385 rfl ?_
                    refine wp_skip ?_
                    refine t_norm ?_
                    refine wp_region_lit ?_
                    refine q_step hA385 rfl (d_move (wn rfl) (hA385.ev (v := (.int .i64 ((e207 : Nat) : Int))) rfl) ?_)
                    intro a386 hA387
                    refine q_step hA387 rfl (d_bin (wn rfl) (hA387.ev (v := (.int .i64 ((e207 : Nat) : Int))) rfl) (hA387.ev (v := (.int .i64 2)) rfl) (b_addE (e207 + 2) (by omega) (by omega)) ?_)
                    intro a388 hA389
                    refine q_step hA389 rfl (d_assign (wn rfl) (hA389.ev (v := (.int .i64 ((e207 + 2 : Nat) : Int))) rfl) ?_)
                    intro a390 hA391
                    refine q_end ?_
                    refine i_norm ?_
                    refine t_norm ?_
                    have hsk := skip_remark hy30 (decide_eq_false (by omega)) (pre2_yes hy30 hy192 (by omega) (by omega)) (by omega)
                    have hk1 := congrArg Prod.fst hsk
                    have hk2 := congrArg Prod.snd hsk
                    dsimp only at hk1 hk2
                    exact ⟨l.length - (j7 + 2 + (endR (List.drop (j7 + 2) l)).toNat + 2), (by rw [hm13]; omega), j7 + 2 + (endR (List.drop (j7 + 2) l)).toNat + 2, rfl, ⟨by omega, by omega, hs2.trans hk2⟩, hA391.cut _ (fm_cons (hA391.get 0 _ rfl) (fm_cons ((hA391.get 1 _ rfl).trans (congrArg (Value.int .i64) (by omega))) (fm_cons (hA391.get 4 _ rfl) (fm_cons (hA391.get 5 _ rfl) fm_nil)))), b212⟩
              · skip
                have hq392 := ne_of_beq hb195
                refine q_step hA194 rfl (d_bin (wy rfl rfl (hA194.get 40 _ rfl)) (hA194.ev (v := (.int .u8 ((y191.toNat : Nat) : Int))) rfl) (hA194.ev (v := (.int .u8 42)) rfl) (b_ne _ _ ((y191.toNat : Nat) : Int) 42 true _ (notof hb195)) ?_)
                intro a393 hA394
                refine q_step hA394 rfl (d_pickF (wn rfl) (hA394.ev (v := (.bool false)) rfl) (hA394.ev (v := (.bool true)) rfl) ?_)
                intro a395 hA396
                refine q_end ?_
                refine t_norm ?_
                refine c_true hA396 rfl ?_
                refine wp_seq ?_
                refine wp_region_lit ?_
                refine q_step hA396 rfl (d_move (wn rfl) (hA396.ev (v := (.int .i64 ((j7 : Nat) : Int))) rfl) ?_)
                intro a397 hA398
                refine q_step hA398 rfl (d_assign (wn rfl) (hA398.ev (v := (.int .i64 ((j7 : Nat) : Int))) rfl) ?_)
                intro a399 hA400
                refine q_step hA400 rfl (d_assign (wn rfl) (hA400.ev (v := (.int .i64 0)) rfl) ?_)
                intro a401 hA402
                refine q_end ?_
                refine t_norm ?_
                refine wp_ret ?_
                refine t_ret ?_
                refine i_ret ?_
                refine t_ret ?_
                refine i_ret ?_
                refine t_ret ?_
                refine ret2 (x := (.int .i64 ((j7 : Nat) : Int))) (y := (.int .i64 0)) rfl hA402 rfl rfl ?_
                have hsk := skip_word hy30 (decide_eq_false (by omega)) (pre2_second hy30 hy192 (by omega))
                rw [hsk] at hs1 hs2
                exact ⟨by rw [hs2, hs1]; rfl, b12⟩
          · skip
            have hq403 := ne_of_beq hb138
            refine q_step hA137 rfl (d_bin (wn rfl) (hA137.ev (v := (.int .u8 ((y29.toNat : Nat) : Int))) rfl) (hA137.ev (v := (.int .u8 40)) rfl) (b_ne _ _ ((y29.toNat : Nat) : Int) 40 true _ (notof hb138)) ?_)
            intro a404 hA405
            refine q_step hA405 rfl (d_move (wn rfl) (hA405.ev (v := (.bool true)) rfl) ?_)
            intro a406 hA407
            refine q_step hA407 rfl (does_not (wno rfl rfl (.inl (hA407.get 33 _ rfl))) ?_)
            intro a408 hA409
            refine q_step hA409 rfl (does_not (wno rfl rfl (.inl (hA409.get 33 _ rfl))) ?_)
            intro a410 hA411
            refine q_step hA411 rfl (does_not (wno rfl rfl (.inl (hA411.get 33 _ rfl))) ?_)
            intro a412 hA413
            refine q_step hA413 rfl (does_not (wno rfl rfl (.inl (hA413.get 33 _ rfl))) ?_)
            intro a414 hA415
            refine q_step hA415 rfl (does_not (wno rfl rfl (.inl (hA415.get 33 _ rfl))) ?_)
            intro a416 hA417
            refine q_step hA417 rfl (d_pickT (wn rfl) (hA417.ev (v := (.bool true)) rfl) (hA417.ev (v := (.bool true)) rfl) ?_)
            intro a418 hA419
            refine q_step hA419 rfl (d_move (wn rfl) (hA419.ev (v := (.bool true)) rfl) ?_)
            intro a420 hA421
            refine q_step hA421 rfl (does_not (wno rfl rfl (.inl (hA421.get 40 _ rfl))) ?_)
            intro a422 hA423
            refine q_step hA423 rfl (does_not (wno rfl rfl (.inl (hA423.get 40 _ rfl))) ?_)
            intro a424 hA425
            refine q_step hA425 rfl (does_not (wno rfl rfl (.inl (hA425.get 40 _ rfl))) ?_)
            intro a426 hA427
            refine q_step hA427 rfl (does_not (wno rfl rfl (.inl (hA427.get 40 _ rfl))) ?_)
            intro a428 hA429
            refine q_step hA429 rfl (does_not (wno rfl rfl (.inl (hA429.get 40 _ rfl))) ?_)
            intro a430 hA431
            refine q_step hA431 rfl (d_pickT (wn rfl) (hA431.ev (v := (.bool true)) rfl) (hA431.ev (v := (.bool true)) rfl) ?_)
            intro a432 hA433
            refine q_end ?_
            refine t_norm ?_
            refine c_true hA433 rfl ?_
            refine wp_seq ?_
            refine wp_region_lit ?_
            refine q_step hA433 rfl (d_move (wn rfl) (hA433.ev (v := (.int .i64 ((j7 : Nat) : Int))) rfl) ?_)
            intro a434 hA435
            refine q_step hA435 rfl (d_assign (wn rfl) (hA435.ev (v := (.int .i64 ((j7 : Nat) : Int))) rfl) ?_)
            intro a436 hA437
            refine q_step hA437 rfl (d_assign (wn rfl) (hA437.ev (v := (.int .i64 0)) rfl) ?_)
            intro a438 hA439
            refine q_end ?_
            refine t_norm ?_
            refine wp_ret ?_
            refine t_ret ?_
            refine i_ret ?_
            refine t_ret ?_
            refine i_ret ?_
            refine t_ret ?_
            refine ret2 (x := (.int .i64 ((j7 : Nat) : Int))) (y := (.int .i64 0)) rfl hA439 rfl rfl ?_
            have hsk := skip_word hy30 (decide_eq_false (by omega)) (by first | exact pre2_first hy30 (by omega) | exact pre2_short (by omega))
            rw [hsk] at hs1 hs2
            exact ⟨by rw [hs2, hs1]; rfl, b12⟩
  · skip
    have hq440 := of_decide_eq_false hb21
    refine q_step hA20 rfl (d_bin (wn rfl) (hA20.ev (v := (.int .i64 ((j7 : Nat) : Int))) rfl) (hA20.ev (v := (.int .i64 ((l.length : Nat) : Int))) rfl) (b_lt _ _ ((j7 : Nat) : Int) ((l.length : Nat) : Int) false _ hb21) ?_)
    intro a441 hA442
    refine q_end ?_
    refine t_norm ?_
    refine c_false hA442 rfl ?_
    refine wp_exit ?_
    refine t_exit ?_
    refine t_exit ?_
    refine i_here ?_
    refine t_norm ?_
    refine wp_seq ?_
    refine wp_region_lit ?_
    refine q_step hA442 rfl (d_move (wn rfl) (hA442.ev (v := (.int .i64 ((j7 : Nat) : Int))) rfl) ?_)
    intro a443 hA444
    refine q_step hA444 rfl (d_assign (wn rfl) (hA444.ev (v := (.int .i64 ((j7 : Nat) : Int))) rfl) ?_)
    intro a445 hA446
    refine q_step hA446 rfl (d_assign (wn rfl) (hA446.ev (v := (.int .i64 0)) rfl) ?_)
    intro a447 hA448
    refine q_end ?_
    refine t_norm ?_
    refine wp_ret ?_
    refine ret2 (x := (.int .i64 ((j7 : Nat) : Int))) (y := (.int .i64 0)) rfl hA448 rfl rfl ?_
    have hsk : skipL (List.drop j7 l) = (0, false) := skip_end (by omega)
    rw [hsk] at hs1 hs2
    exact ⟨by rw [hs2, hs1]; rfl, b12⟩
end Go.Proofs.YtfehbkcfncioiaaDoor
/- The reference's way to a word, byte by byte. -/
namespace Go.Proofs.YtfehbkcfncioiaaDoor
set_option linter.unusedVariables false
open Go.RowKit

section
variable {P : Program} {ops : Array Oper} {a : Act} {w : World} {K : Value → World → Prop} {d : Option Tmp} {ty : TypeId} {pos : String} {af : Array Edge} {gd : Option (Nat × Bool)} {v : Value}
theorem d_spart2 {x y z : Operand} {t m n : Nat} {l : List UInt8} (hw : Region.wanted { dst := d, op := .slice t x (some y) (some z) none, type := ty, pos := pos, after := af, guard := gd } (yielded ops a.tmps) = true) (hx : a.eval x = .string (S l)) (hy : a.eval y = .int .i64 (m : Int)) (hz : a.eval z = .int .i64 ((m + n : Nat) : Int)) (ht : strB P t = true) (hn : m + n ≤ l.length)
    (h : K (.string (S ((l.drop m).take n))) w) : Does P ops { dst := d, op := .slice t x (some y) (some z) none, type := ty, pos := pos, after := af, guard := gd } a w K := by
  refine d_spart hw hx hy hz ht (by omega) hn ?_
  have e : (l.take (m + n)).drop m = (l.drop m).take n := by rw [List.drop_take]; congr 1; omega
  rw [e]; exact h
end
section
variable {l : List UInt8} {p : Nat} {y z : UInt8}
theorem at_zero (h : l[p]? = some y) : (l.drop p)[0]? = some y := by rw [drop_at h]; rfl
theorem at_one (h : l[p]? = some y) (h2 : l[p + 1]? = some z) : (l.drop p)[1]? = some z := by rw [drop_two h h2]; rfl
theorem nbg_let (h : letB y = true) : nbgB y = true := by unfold nbgB; rw [h, Bool.true_or]
theorem nbg_us (h : ((y.toNat : Nat) : Int) = 95) : nbgB y = true := by unfold nbgB; rw [Bool.or_eq_true]; right; exact beq_iff_eq.2 (by omega)
theorem nbg_no (h : letB y = false) (h2 : ¬ ((y.toNat : Nat) : Int) = 95) : nbgB y = false := by unfold nbgB; rw [h, Bool.false_or]; exact beq_eq_false_iff_ne.2 (by omega)
theorem eq_byte {a : UInt8} {n : Nat} (hn : n < 256) (h : ((a.toNat : Nat) : Int) = (n : Int)) : a = UInt8.ofNat n := UInt8.toNat_inj.1 (by rw [UInt8.toNat_ofNat']; omega)
theorem mkN_two_b (h : l[p]? = some y) (h2 : l[p + 1]? = some z) (h3 : (((y.toNat : Nat) : Int) = 47 ∧ ((z.toNat : Nat) : Int) = 92) ∨ (((y.toNat : Nat) : Int) = 92 ∧ ((z.toNat : Nat) : Int) = 47)) : mkN (l.drop p) = 2 := by
  rcases h3 with ⟨a, b⟩ | ⟨a, b⟩
  · exact mkN_two (by rw [pre_two (at_zero h) (at_one h h2), eq_byte (n := 47) (by decide) a, eq_byte (n := 92) (by decide) b]; rfl)
  · exact mkN_two' (by rw [pre_two (at_zero h) (at_one h h2), eq_byte (n := 92) (by decide) a, eq_byte (n := 47) (by decide) b]; rfl)
theorem mark_idx {b : UInt8} : decide (Lib.indexByte marksL b ≥ 0) = mrkB b := by unfold mrkB; exact indexByte_mark marksL b
theorem mkN_one_b (h : l[p]? = some y) (h2 : l[p + 1]? = some z) (h3 : ¬ ((((y.toNat : Nat) : Int) = 47 ∧ ((z.toNat : Nat) : Int) = 92) ∨ (((y.toNat : Nat) : Int) = 92 ∧ ((z.toNat : Nat) : Int) = 47))) (hm : mrkB y = true) : mkN (l.drop p) = 1 := by
  have h47 : preB (l.drop p) [47, 92] = false := by
    rw [pre_two (at_zero h) (at_one h h2)]
    cases hh : (y == 47 && z == 92)
    · rfl
    · rw [Bool.and_eq_true] at hh
      exact absurd (.inl ⟨by rw [eq_of_beq hh.1]; rfl, by rw [eq_of_beq hh.2]; rfl⟩) h3
  have h92 : preB (l.drop p) [92, 47] = false := by
    rw [pre_two (at_zero h) (at_one h h2)]
    cases hh : (y == 92 && z == 47)
    · rfl
    · rw [Bool.and_eq_true] at hh
      exact absurd (.inr ⟨by rw [eq_of_beq hh.1]; rfl, by rw [eq_of_beq hh.2]; rfl⟩) h3
  exact mkN_one h47 h92 (at_zero h) (by rw [mark_idx]; exact hm)
theorem mkN_last_b (h : l[p]? = some y) (h2 : l.length ≤ p + 1) (hm : mrkB y = true) : mkN (l.drop p) = 1 := by
  have hs : ∀ q : List UInt8, q.length = 2 → preB (l.drop p) q = false := fun q hq => pre_short (by rw [List.length_drop]; omega)
  exact mkN_one (hs _ rfl) (hs _ rfl) (at_zero h) (by rw [mark_idx]; exact hm)
theorem mkN_none_b (h : l[p]? = some y) (hm : mrkB y = false) : mkN (l.drop p) = 0 := by
  have h0 := at_zero h
  have hp : ∀ q r : UInt8, mrkB q = true → preB (l.drop p) [q, r] = false := fun q r hq => by
    cases hh : preB (l.drop p) [q, r]
    · rfl
    · exfalso
      unfold preB at hh
      rw [drop_at h] at hh
      simp at hh
      rw [hh.2.1] at hm; rw [hq] at hm; cases hm
  exact mkN_no (hp 47 92 (by decide)) (hp 92 47 (by decide)) h0 (by rw [mark_idx]; exact hm)
end
end Go.Proofs.YtfehbkcfncioiaaDoor
