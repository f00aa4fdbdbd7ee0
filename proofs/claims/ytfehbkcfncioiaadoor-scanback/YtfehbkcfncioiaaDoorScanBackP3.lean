/- internal/strconv's lower and ParseUint at 10 and 16. -/
import Derived.Test.YtfehbkcfncioiaaDoorScanBackP2
namespace Go.Proofs.YtfehbkcfncioiaaDoor
open Go.RowKit
set_option linter.unusedSimpArgs false
set_option linter.unusedVariables false
theorem conc84 : concB Tryd.prog 84 = true := by kernel_rfl
theorem ent63 : ((Tryd.prog.funcs[63]?).map fun fn => (fn.name == "runtime.NumGoroutine", fn.body.isNone)) = some (false, false) := by kernel_rfl
theorem knd3 : kindB Tryd.prog 3 .i64 = true := by kernel_rfl
theorem knd5 : kindB Tryd.prog 5 .u8 = true := by kernel_rfl
theorem knd70 : kindB Tryd.prog 70 .u64 = true := by kernel_rfl
theorem knd79 : kindB Tryd.prog 79 .u64 = true := by kernel_rfl
theorem one5 : oneB Tryd.prog 5 = true := by kernel_rfl
theorem slc86 : sliceB Tryd.prog 86 5 1 = true := by kernel_rfl
set_option maxHeartbeats 4000000 in
set_option maxRecDepth 4000 in
theorem lower_any (c : UInt8) (w : World) : Calls Tryd.prog 63 #[.int .u8 ((c.toNat : Nat) : Int)] w fun e w' => e = .returned (.int .u8 ((lowB c : Nat) : Int)) ∧ Grow w w' := by
  have b0 : Below w.heap.size w w := Below.refl _ _
  refine enter (n := 5) Tryd.func63 rfl rfl (Nat.le_of_ble_eq_true rfl) ?_
  intro a1 hA2
  refine wp_seq ?_
  refine wp_region_lit ?_
  refine q_step hA2 rfl (d_assign (wn rfl) (hA2.ev (v := (.int .u8 0)) rfl) ?_)
  intro a3 hA4
  refine q_end ?_
  refine t_norm ?_
  refine wp_seq ?_
  refine wp_region_lit ?_
  refine q_step hA4 rfl (d_move (wn rfl) (hA4.ev (v := (.int .u8 ((c.toNat : Nat) : Int))) rfl) ?_)
  intro a5 hA6
  refine q_step hA6 rfl (d_bin (wn rfl) (hA6.ev (v := (.int .u8 ((c.toNat : Nat) : Int))) rfl) (hA6.ev (v := (.int .u8 32)) rfl) (b_or8 c) ?_)
  intro a7 hA8
  refine q_step hA8 rfl (d_assign (wn rfl) (hA8.ev (v := (.int .u8 ((lowB c : Nat) : Int))) rfl) ?_)
  intro a9 hA10
  refine q_end ?_
  refine t_norm ?_
  refine wp_ret ?_
  refine ret1 rfl hA10 (v := (.int .u8 ((lowB c : Nat) : Int))) rfl ?_
  exact ⟨rfl, b0⟩
set_option maxHeartbeats 4000000 in
set_option maxRecDepth 4000 in
theorem parse10_in (l : List UInt8) (w : World) (hl : l.length ≤ 19) : Calls Tryd.prog 59 #[.string (S l), .int .i64 10, .int .i64 64] w fun e w' => e = .returned (puV 10 l) ∧ Grow w w' := by
  have b0 : Below w.heap.size w w := Below.refl _ _
  refine enter (n := 172) Tryd.func59 rfl rfl (Nat.le_of_ble_eq_true rfl) ?_
  intro a1 hA2
  refine wp_seq ?_
  refine wp_region_lit ?_
  refine q_step hA2 rfl (d_assign (wn rfl) (hA2.ev (v := (.int .u64 0)) rfl) ?_)
  intro a3 hA4
  refine q_step hA4 rfl (d_assign (wn rfl) (hA4.ev (v := (.nilIface)) rfl) ?_)
  intro a5 hA6
  refine q_end ?_
  refine t_norm ?_
  refine wp_seq ?_
  refine wp_seq ?_
  refine wp_region_lit ?_
  refine q_step hA6 rfl (d_move (wn rfl) (hA6.ev (v := (.string (S l))) rfl) ?_)
  intro a7 hA8
  rcases Bool.eq_false_or_eq_true (eqL l []) with hb9 | hb9
  · skip
    refine q_step hA8 rfl (d_bin (wn rfl) (hA8.ev (v := (.string (S l))) rfl) (hA8.ev (v := (.string (S []))) rfl) (b_seq (l := l) (m := []) (r := true) hb9) ?_)
    intro a11 hA12
    refine q_end ?_
    refine t_norm ?_
    refine c_true hA12 rfl ?_
    refine wp_seq ?_
    refine wp_region_lit ?_
    refine q_step hA12 rfl (d_iface (wn rfl) (hA12.ev (v := (.int .i64 2)) rfl) conc84 ?_)
    intro a13 hA14
    refine q_step hA14 rfl (d_assign (wn rfl) (hA14.ev (v := (.int .u64 0)) rfl) ?_)
    intro a15 hA16
    refine q_step hA16 rfl (d_assign (wn rfl) (hA16.ev (v := (.iface 84 (.int .i64 2))) rfl) ?_)
    intro a17 hA18
    refine q_end ?_
    refine t_norm ?_
    refine wp_ret ?_
    refine t_ret ?_
    refine ret2 (x := (.int .u64 0)) (y := (.iface 84 (.int .i64 2))) rfl hA18 rfl rfl ?_
    exact ⟨by rw [pu_none (val_nil (eqL_eq hb9))], b0⟩
  · skip
    refine q_step hA8 rfl (d_bin (wn rfl) (hA8.ev (v := (.string (S l))) rfl) (hA8.ev (v := (.string (S []))) rfl) (b_seq (l := l) (m := []) (r := false) hb9) ?_)
    intro a20 hA21
    refine q_end ?_
    refine t_norm ?_
    refine c_false hA21 rfl ?_
    refine wp_skip ?_
    refine t_norm ?_
    refine wp_seq ?_
    refine wp_region_lit ?_
    refine q_step hA21 rfl (d_move (wn rfl) (hA21.ev (v := (.int .i64 10)) rfl) ?_)
    intro a22 hA23
    refine q_step hA23 rfl (d_bin (wn rfl) (hA23.ev (v := (.int .i64 10)) rfl) (hA23.ev (v := (.int .i64 0)) rfl) (b_eq _ _ 10 0 false _ rfl) ?_)
    intro a24 hA25
    refine q_step hA25 rfl (d_assign (wn rfl) (hA25.ev (v := (.bool false)) rfl) ?_)
    intro a26 hA27
    refine q_end ?_
    refine t_norm ?_
    refine wp_seq ?_
    refine wp_region_lit ?_
    refine q_step hA27 rfl (d_move (wn rfl) (hA27.ev (v := (.string (S l))) rfl) ?_)
    intro a28 hA29
    refine q_step hA29 rfl (d_assign (wn rfl) (hA29.ev (v := (.string (S l))) rfl) ?_)
    intro a30 hA31
    refine q_end ?_
    refine t_norm ?_
    refine wp_seq ?_
    refine wp_block ?_
    refine wp_seq ?_
    refine wp_region_lit ?_
    refine q_step hA31 rfl (d_move (wn rfl) (hA31.ev (v := (.int .i64 10)) rfl) ?_)
    intro a32 hA33
    refine q_step hA33 rfl (d_bin (wn rfl) (hA33.ev (v := (.int .i64 2)) rfl) (hA33.ev (v := (.int .i64 10)) rfl) (b_le _ _ 2 10 true _ rfl) ?_)
    intro a34 hA35
    refine q_step hA35 rfl (d_move (wn rfl) (hA35.ev (v := (.bool true)) rfl) ?_)
    intro a36 hA37
    refine q_step hA37 rfl (d_move (wy rfl rfl (hA37.get 28 _ rfl)) (hA37.ev (v := (.int .i64 10)) rfl) ?_)
    intro a38 hA39
    refine q_step hA39 rfl (d_bin (wy rfl rfl (hA39.get 28 _ rfl)) (hA39.ev (v := (.int .i64 10)) rfl) (hA39.ev (v := (.int .i64 36)) rfl) (b_le _ _ 10 36 true _ rfl) ?_)
    intro a40 hA41
    refine q_step hA41 rfl (d_pickT (wn rfl) (hA41.ev (v := (.bool true)) rfl) (hA41.ev (v := (.bool true)) rfl) ?_)
    intro a42 hA43
    refine q_step hA43 rfl (d_assign (wn rfl) (hA43.ev (v := (.bool true)) rfl) ?_)
    intro a44 hA45
    refine q_end ?_
    refine t_norm ?_
    refine c_true hA45 rfl ?_
    refine wp_skip ?_
    refine i_norm ?_
    refine t_norm ?_
    refine wp_seq ?_
    refine wp_seq ?_
    refine wp_region_lit ?_
    refine q_step hA45 rfl (d_move (wn rfl) (hA45.ev (v := (.int .i64 64)) rfl) ?_)
    intro a46 hA47
    refine q_step hA47 rfl (d_bin (wn rfl) (hA47.ev (v := (.int .i64 64)) rfl) (hA47.ev (v := (.int .i64 0)) rfl) (b_eq _ _ 64 0 false _ rfl) ?_)
    intro a48 hA49
    refine q_end ?_
    refine t_norm ?_
    refine c_false hA49 rfl ?_
    refine wp_seq ?_
    refine wp_region_lit ?_
    refine q_step hA49 rfl (d_move (wn rfl) (hA49.ev (v := (.int .i64 64)) rfl) ?_)
    intro a50 hA51
    refine q_step hA51 rfl (d_bin (wn rfl) (hA51.ev (v := (.int .i64 64)) rfl) (hA51.ev (v := (.int .i64 0)) rfl) (b_lt _ _ 64 0 false _ rfl) ?_)
    intro a52 hA53
    refine q_step hA53 rfl (d_move (wn rfl) (hA53.ev (v := (.bool false)) rfl) ?_)
    intro a54 hA55
    refine q_step hA55 rfl (d_move (wy rfl rfl (hA55.get 80 _ rfl)) (hA55.ev (v := (.int .i64 64)) rfl) ?_)
    intro a56 hA57
    refine q_step hA57 rfl (d_bin (wy rfl rfl (hA57.get 80 _ rfl)) (hA57.ev (v := (.int .i64 64)) rfl) (hA57.ev (v := (.int .i64 64)) rfl) (b_gt _ _ 64 64 false _ rfl) ?_)
    intro a58 hA59
    refine q_step hA59 rfl (d_pickF (wn rfl) (hA59.ev (v := (.bool false)) rfl) (hA59.ev (v := (.bool false)) rfl) ?_)
    intro a60 hA61
    refine q_end ?_
    refine t_norm ?_
    refine c_false hA61 rfl ?_
    refine wp_skip ?_
    refine t_norm ?_
    refine wp_seq ?_
    refine wp_region_lit ?_
    refine q_step hA61 rfl (d_assign (wn rfl) (hA61.ev (v := (.int .u64 0)) rfl) ?_)
    intro a62 hA63
    refine q_end ?_
    refine t_norm ?_
    refine wp_seq ?_
    refine wp_seq ?_
    refine wp_region_lit ?_
    refine q_step hA63 rfl (d_move (wn rfl) (hA63.ev (v := (.int .i64 10)) rfl) ?_)
    intro a64 hA65
    refine q_end ?_
    refine t_norm ?_
    refine wp_block ?_
    refine wp_seq ?_
    refine wp_region_lit ?_
    refine q_step hA65 rfl (d_bin (wn rfl) (hA65.ev (v := (.int .i64 10)) rfl) (hA65.ev (v := (.int .i64 10)) rfl) (b_eq _ _ 10 10 true _ rfl) ?_)
    intro a66 hA67
    refine q_step hA67 rfl (d_assign (wn rfl) (hA67.ev (v := (.bool true)) rfl) ?_)
    intro a68 hA69
    refine q_end ?_
    refine t_norm ?_
    refine c_true hA69 rfl ?_
    refine wp_region_lit ?_
    refine q_step hA69 rfl (d_assign (wn rfl) (hA69.ev (v := (.int .u64 1844674407370955162)) rfl) ?_)
    intro a70 hA71
    refine q_end ?_
    refine i_norm ?_
    refine t_norm ?_
    refine wp_seq ?_
    refine wp_region_lit ?_
    refine q_step hA71 rfl (d_move (wn rfl) (hA71.ev (v := (.int .i64 64)) rfl) ?_)
    intro a72 hA73
    refine q_step hA73 rfl (d_conv 64 (wn rfl) (hA73.ev (v := (.int .i64 64)) rfl) knd3 knd79 rfl ?_)
    intro a74 hA75
    refine q_step hA75 rfl (d_bin (r := .int .u64 0) (wn rfl) (hA75.ev (v := (.int .u64 1)) rfl) (hA75.ev (v := (.int .u64 64)) rfl) ⟨rfl, rfl⟩ ?_)
    intro a76 hA77
    refine q_step hA77 rfl (d_bin (wn rfl) (hA77.ev (v := (.int .u64 0)) rfl) (hA77.ev (v := (.int .u64 1)) rfl) (b_subK (18446744073709551615) rfl) ?_)
    intro a78 hA79
    refine q_step hA79 rfl (d_assign (wn rfl) (hA79.ev (v := (.int .u64 18446744073709551615)) rfl) ?_)
    intro a80 hA81
    refine q_end ?_
    refine t_norm ?_
    refine wp_seq ?_
    refine wp_region_lit ?_
    refine q_step hA81 rfl (d_assign (wn rfl) (hA81.ev (v := (.bool false)) rfl) ?_)
    intro a82 hA83
    refine q_end ?_
    refine t_norm ?_
    refine wp_seq ?_
    refine wp_region_lit ?_
    refine q_step hA83 rfl (d_assign (wn rfl) (hA83.ev (v := (.int .u64 0)) rfl) ?_)
    intro a84 hA85
    refine q_end ?_
    refine t_norm ?_
    refine wp_seq ?_
    refine wp_seq ?_
    refine wp_region_lit ?_
    refine q_step hA85 rfl (d_move (wn rfl) (hA85.ev (v := (.string (S l))) rfl) ?_)
    intro a86 hA87
    refine q_step hA87 rfl (d_bytes (wn rfl) (hA87.ev (v := (.string (S l))) rfl) str9 slc86 knd5 (by omega) ?_)
    intro v88 w89 hG90 hS91
    have b92 := below_grow b0 hG90 b0.size
    intro a93 hA94
    refine q_step hA94 rfl (d_len (n := l.length) (wn rfl) (hA94.ev (v := v88) rfl) slc86 hS91.form ?_)
    intro a95 hA96
    refine q_step hA96 rfl (d_move (wn rfl) (hA96.ev (v := (.int .i64 0)) rfl) ?_)
    intro a97 hA98
    refine q_end ?_
    refine t_norm ?_
    refine wp_block ?_
    have b99 : Below w89.heap.size w89 w89 := Below.refl _ _
    refine loop_by (fun m101 a102 w103 => ∃ j100 : Nat, m101 = l.length - j100 ∧ (j100 ≤ l.length ∧ allD 10 (List.take j100 l) = true) ∧ St 172 [(1, (.int .i64 10)), (6, (.int .u64 0)), (7, (.nilIface)), (8, (.bool false)), (9, (.string (S l))), (10, (.int .u64 1844674407370955162)), (11, (.int .u64 18446744073709551615)), (12, (.bool false)), (13, (.int .u64 ((nv 10 (List.take j100 l) : Nat) : Int))), (99, v88), (100, (.int .i64 ((l.length : Nat) : Int))), (101, (.int .i64 ((j100 : Nat) : Int)))] a102 ∧ Below w89.heap.size w89 w103) (l.length - 0) ⟨0, rfl, ⟨by omega, rfl⟩, hA98.cut _ (fm_cons (hA98.get 1 _ rfl) (fm_cons (hA98.get 6 _ rfl) (fm_cons (hA98.get 7 _ rfl) (fm_cons (hA98.get 8 _ rfl) (fm_cons (hA98.get 9 _ rfl) (fm_cons (hA98.get 10 _ rfl) (fm_cons (hA98.get 11 _ rfl) (fm_cons (hA98.get 12 _ rfl) (fm_cons ((hA98.get 13 _ rfl).trans (congrArg (Value.int .u64) (rfl))) (fm_cons (hA98.get 99 _ rfl) (fm_cons (hA98.get 100 _ rfl) (fm_cons ((hA98.get 101 _ rfl).trans (congrArg (Value.int .i64) (by omega))) fm_nil)))))))))))), b99⟩ ?_
    rintro m101 a102 w103 ⟨j100, hm106, hc107, hA104, b105⟩
    obtain ⟨hj, hall⟩ := hc107
    have hpow : j100 ≤ 18 → nv 10 (List.take j100 l) < 1000000000000000000 := nv_10 hall
    refine wp_seq ?_
    refine wp_region_lit ?_
    rcases Bool.eq_false_or_eq_true (decide (((j100 : Nat) : Int) < ((l.length : Nat) : Int))) with hb108 | hb108
    · skip
      have hq109 := of_decide_eq_true hb108
      refine q_step hA104 rfl (d_bin (wn rfl) (hA104.ev (v := (.int .i64 ((j100 : Nat) : Int))) rfl) (hA104.ev (v := (.int .i64 ((l.length : Nat) : Int))) rfl) (b_lt _ _ ((j100 : Nat) : Int) ((l.length : Nat) : Int) true _ hb108) ?_)
      intro a110 hA111
      refine q_end ?_
      refine t_norm ?_
      refine wp_seq ?_
      refine c_true hA111 rfl ?_
      refine wp_skip ?_
      refine t_norm ?_
      refine wp_seq ?_
      refine wp_block ?_
      refine wp_seq ?_
      refine wp_region_lit ?_
      obtain ⟨y112, hy113⟩ : ∃ y112, l[j100]? = some y112 := ⟨_, List.getElem?_eq_getElem (show j100 < l.length by omega)⟩
      obtain ⟨b114, o115, lt116, hr117, hix118⟩ := (hS91.below b105).at hy113
      refine q_step hA111 rfl (d_indexAt (j := j100) (wn rfl) (hA111.ev (v := v88) rfl) (hA111.ev (v := (.int .i64 ((j100 : Nat) : Int))) rfl) slc86 hix118 (get_lt hy113) ?_)
      intro a119 hA120
      refine q_step hA120 rfl (d_load (v := (.int .u8 ((y112.toNat : Nat) : Int))) (wn rfl) (hA120.ev (v := (.pointer (some ⟨b114, o115, none⟩))) rfl) one5 (hr117 0 _ rfl) ?_)
      intro a121 hA122
      refine q_step hA122 rfl (d_assign (wn rfl) (hA122.ev (v := (.int .u8 ((y112.toNat : Nat) : Int))) rfl) ?_)
      intro a123 hA124
      refine q_end ?_
      refine t_norm ?_
      refine wp_seq ?_
      refine wp_region_lit ?_
      refine q_step hA124 rfl (d_assign (wn rfl) (hA124.ev (v := (.int .u8 0)) rfl) ?_)
      intro a125 hA126
      refine q_end ?_
      refine t_norm ?_
      refine wp_seq ?_
      refine wp_block ?_
      refine wp_seq ?_
      refine wp_region_lit ?_
      refine q_step hA126 rfl (d_move (wn rfl) (hA126.ev (v := (.int .u8 ((y112.toNat : Nat) : Int))) rfl) ?_)
      intro a127 hA128
      rcases Bool.eq_false_or_eq_true (((y112.toNat : Nat) : Int) == 95) with hb129 | hb129
      · skip
        have hq130 := eq_of_beq hb129
        refine q_step hA128 rfl (d_bin (wn rfl) (hA128.ev (v := (.int .u8 ((y112.toNat : Nat) : Int))) rfl) (hA128.ev (v := (.int .u8 95)) rfl) (b_eq _ _ ((y112.toNat : Nat) : Int) 95 true _ hb129) ?_)
        intro a131 hA132
        refine q_step hA132 rfl (d_move (wn rfl) (hA132.ev (v := (.bool true)) rfl) ?_)
        intro a133 hA134
        refine q_step hA134 rfl (d_move (wy rfl rfl (hA134.get 109 _ rfl)) (hA134.ev (v := (.bool false)) rfl) ?_)
        intro a135 hA136
        refine q_step hA136 rfl (d_pickT (wn rfl) (hA136.ev (v := (.bool true)) rfl) (hA136.ev (v := (.bool false)) rfl) ?_)
        intro a137 hA138
        refine q_step hA138 rfl (d_assign (wn rfl) (hA138.ev (v := (.bool false)) rfl) ?_)
        intro a139 hA140
        refine q_end ?_
        refine t_norm ?_
        refine c_false hA140 rfl ?_
        refine wp_seq ?_
        refine wp_region_lit ?_
        refine q_step hA140 rfl (d_move (wn rfl) (hA140.ev (v := (.int .u8 ((y112.toNat : Nat) : Int))) rfl) ?_)
        intro a141 hA142
        rcases Bool.eq_false_or_eq_true (decide ((48 : Int) ≤ ((y112.toNat : Nat) : Int))) with hb143 | hb143
        · skip
          have hq144 := of_decide_eq_true hb143
          refine q_step hA142 rfl (d_bin (wn rfl) (hA142.ev (v := (.int .u8 48)) rfl) (hA142.ev (v := (.int .u8 ((y112.toNat : Nat) : Int))) rfl) (b_le _ _ 48 ((y112.toNat : Nat) : Int) true _ hb143) ?_)
          intro a145 hA146
          refine q_step hA146 rfl (d_move (wn rfl) (hA146.ev (v := (.bool true)) rfl) ?_)
          intro a147 hA148
          refine q_step hA148 rfl (d_move (wy rfl rfl (hA148.get 115 _ rfl)) (hA148.ev (v := (.int .u8 ((y112.toNat : Nat) : Int))) rfl) ?_)
          intro a149 hA150
          rcases Bool.eq_false_or_eq_true (decide (((y112.toNat : Nat) : Int) ≤ 57)) with hb151 | hb151
          · skip
            have hq152 := of_decide_eq_true hb151
            refine q_step hA150 rfl (d_bin (wy rfl rfl (hA150.get 115 _ rfl)) (hA150.ev (v := (.int .u8 ((y112.toNat : Nat) : Int))) rfl) (hA150.ev (v := (.int .u8 57)) rfl) (b_le _ _ ((y112.toNat : Nat) : Int) 57 true _ hb151) ?_)
            intro a153 hA154
            refine q_step hA154 rfl (d_pickT (wn rfl) (hA154.ev (v := (.bool true)) rfl) (hA154.ev (v := (.bool true)) rfl) ?_)
            intro a155 hA156
            refine q_step hA156 rfl (d_assign (wn rfl) (hA156.ev (v := (.bool true)) rfl) ?_)
            intro a157 hA158
            refine q_end ?_
            refine t_norm ?_
            refine c_true hA158 rfl ?_
            refine wp_region_lit ?_
            refine q_step hA158 rfl (d_move (wn rfl) (hA158.ev (v := (.int .u8 ((y112.toNat : Nat) : Int))) rfl) ?_)
            intro a159 hA160
            refine q_step hA160 rfl (d_bin (wn rfl) (hA160.ev (v := (.int .u8 ((y112.toNat : Nat) : Int))) rfl) (hA160.ev (v := (.int .u8 48)) rfl) (b_subK (((y112.toNat : Nat) : Int) - 48) (wrap8 (by omega) (by omega))) ?_)
            intro a161 hA162
            refine q_step hA162 rfl (d_assign (wn rfl) (hA162.ev (v := (.int .u8 (((y112.toNat : Nat) : Int) - 48))) rfl) ?_)
            intro a163 hA164
            have hdv : dv y112 = y112.toNat - 48 := dv_dig (by omega) (by omega)
            refine q_end ?_
            refine i_norm ?_
            refine t_norm ?_
            refine wp_seq ?_
            refine wp_seq ?_
            refine wp_region_lit ?_
            refine q_step hA164 rfl (d_move (wn rfl) (hA164.ev (v := (.int .u8 (((y112.toNat : Nat) : Int) - 48))) rfl) ?_)
            intro a165 hA166
            refine q_step hA166 rfl (d_move (wn rfl) (hA166.ev (v := (.int .i64 10)) rfl) ?_)
            intro a167 hA168
            refine q_step hA168 rfl (d_conv 10 (wn rfl) (hA168.ev (v := (.int .i64 10)) rfl) knd3 knd5 rfl ?_)
            intro a169 hA170
            rcases Bool.eq_false_or_eq_true (decide (((y112.toNat : Nat) : Int) - 48 ≥ 10)) with hb171 | hb171
            · skip
              have hq172 := of_decide_eq_true hb171
              refine q_step hA170 rfl (d_bin (wn rfl) (hA170.ev (v := (.int .u8 (((y112.toNat : Nat) : Int) - 48))) rfl) (hA170.ev (v := (.int .u8 10)) rfl) (b_ge _ _ (((y112.toNat : Nat) : Int) - 48) 10 true _ hb171) ?_)
              intro a173 hA174
              refine q_end ?_
              refine t_norm ?_
              refine c_true hA174 rfl ?_
              refine wp_seq ?_
              refine wp_region_lit ?_
              refine q_step hA174 rfl (d_iface (wn rfl) (hA174.ev (v := (.int .i64 2)) rfl) conc84 ?_)
              intro a175 hA176
              refine q_step hA176 rfl (d_assign (wn rfl) (hA176.ev (v := (.int .u64 0)) rfl) ?_)
              intro a177 hA178
              refine q_step hA178 rfl (d_assign (wn rfl) (hA178.ev (v := (.iface 84 (.int .i64 2))) rfl) ?_)
              intro a179 hA180
              refine q_end ?_
              refine t_norm ?_
              refine wp_ret ?_
              refine t_ret ?_
              refine i_ret ?_
              refine t_ret ?_
              refine t_ret ?_
              refine i_ret ?_
              refine t_ret ?_
              refine ret2 (x := (.int .u64 0)) (y := (.iface 84 (.int .i64 2))) rfl hA180 rfl rfl ?_
              exact ⟨by rw [pu_none (val_bad hy113 (by first | omega | (rw [dv_bad (by omega) (by omega)]; omega)))], Grow.trans b92 b105⟩
            · skip
              have hq181 := of_decide_eq_false hb171
              refine q_step hA170 rfl (d_bin (wn rfl) (hA170.ev (v := (.int .u8 (((y112.toNat : Nat) : Int) - 48))) rfl) (hA170.ev (v := (.int .u8 10)) rfl) (b_ge _ _ (((y112.toNat : Nat) : Int) - 48) 10 false _ hb171) ?_)
              intro a182 hA183
              refine q_end ?_
              refine t_norm ?_
              refine c_false hA183 rfl ?_
              refine wp_skip ?_
              refine t_norm ?_
              refine wp_seq ?_
              refine wp_seq ?_
              refine wp_region_lit ?_
              refine q_step hA183 rfl (d_move (wn rfl) (hA183.ev (v := (.int .u64 ((nv 10 (List.take j100 l) : Nat) : Int))) rfl) ?_)
              intro a184 hA185
              refine q_step hA185 rfl (d_move (wn rfl) (hA185.ev (v := (.int .u64 1844674407370955162)) rfl) ?_)
              intro a186 hA187
              refine q_step hA187 rfl (d_bin (wn rfl) (hA187.ev (v := (.int .u64 ((nv 10 (List.take j100 l) : Nat) : Int))) rfl) (hA187.ev (v := (.int .u64 1844674407370955162)) rfl) (b_ge _ _ ((nv 10 (List.take j100 l) : Nat) : Int) 1844674407370955162 false _ (decide_eq_false (by omega))) ?_)
              intro a188 hA189
              refine q_end ?_
              refine t_norm ?_
              refine c_false hA189 rfl ?_
              refine wp_skip ?_
              refine t_norm ?_
              refine wp_seq ?_
              refine wp_region_lit ?_
              refine q_step hA189 rfl (d_move (wn rfl) (hA189.ev (v := (.int .u64 ((nv 10 (List.take j100 l) : Nat) : Int))) rfl) ?_)
              intro a190 hA191
              refine q_step hA191 rfl (d_move (wn rfl) (hA191.ev (v := (.int .i64 10)) rfl) ?_)
              intro a192 hA193
              refine q_step hA193 rfl (d_conv 10 (wn rfl) (hA193.ev (v := (.int .i64 10)) rfl) knd3 knd70 rfl ?_)
              intro a194 hA195
              refine q_step hA195 rfl (d_bin (wn rfl) (hA195.ev (v := (.int .u64 ((nv 10 (List.take j100 l) : Nat) : Int))) rfl) (hA195.ev (v := (.int .u64 10)) rfl) (b_mulK (((nv 10 (List.take j100 l) : Nat) : Int) * 10) (wrap64 (by omega) (by omega))) ?_)
              intro a196 hA197
              refine q_step hA197 rfl (d_assign (wn rfl) (hA197.ev (v := (.int .u64 (((nv 10 (List.take j100 l) : Nat) : Int) * 10))) rfl) ?_)
              intro a198 hA199
              refine q_end ?_
              refine t_norm ?_
              refine wp_seq ?_
              refine wp_region_lit ?_
              refine q_step hA199 rfl (d_move (wn rfl) (hA199.ev (v := (.int .u64 (((nv 10 (List.take j100 l) : Nat) : Int) * 10))) rfl) ?_)
              intro a200 hA201
              refine q_step hA201 rfl (d_move (wn rfl) (hA201.ev (v := (.int .u8 (((y112.toNat : Nat) : Int) - 48))) rfl) ?_)
              intro a202 hA203
              refine q_step hA203 rfl (d_conv (((y112.toNat : Nat) : Int) - 48) (wn rfl) (hA203.ev (v := (.int .u8 (((y112.toNat : Nat) : Int) - 48))) rfl) knd5 knd70 (wrap64 (by omega) (by omega)) ?_)
              intro a204 hA205
              refine q_step hA205 rfl (d_bin (wn rfl) (hA205.ev (v := (.int .u64 (((nv 10 (List.take j100 l) : Nat) : Int) * 10))) rfl) (hA205.ev (v := (.int .u64 (((y112.toNat : Nat) : Int) - 48))) rfl) (b_addK (((nv 10 (List.take j100 l) : Nat) : Int) * 10 + (((y112.toNat : Nat) : Int) - 48)) (wrap64 (by omega) (by omega))) ?_)
              intro a206 hA207
              refine q_step hA207 rfl (d_assign (wn rfl) (hA207.ev (v := (.int .u64 (((nv 10 (List.take j100 l) : Nat) : Int) * 10 + (((y112.toNat : Nat) : Int) - 48)))) rfl) ?_)
              intro a208 hA209
              refine q_end ?_
              have hA210 : St 172 [(1, (.int .i64 10)), (6, (.int .u64 0)), (7, (.nilIface)), (8, (.bool false)), (9, (.string (S l))), (10, (.int .u64 1844674407370955162)), (11, (.int .u64 18446744073709551615)), (12, (.bool false)), (13, (.int .u64 (((nv 10 (List.take j100 l) : Nat) : Int) * 10))), (17, (.int .u64 (((nv 10 (List.take j100 l) : Nat) : Int) * 10 + (((y112.toNat : Nat) : Int) - 48)))), (99, v88), (100, (.int .i64 ((l.length : Nat) : Int))), (101, (.int .i64 ((j100 : Nat) : Int)))] a208 := hA209.cut _ (fm_cons (hA209.get 1 _ rfl) (fm_cons (hA209.get 6 _ rfl) (fm_cons (hA209.get 7 _ rfl) (fm_cons (hA209.get 8 _ rfl) (fm_cons (hA209.get 9 _ rfl) (fm_cons (hA209.get 10 _ rfl) (fm_cons (hA209.get 11 _ rfl) (fm_cons (hA209.get 12 _ rfl) (fm_cons (hA209.get 13 _ rfl) (fm_cons (hA209.get 17 _ rfl) (fm_cons (hA209.get 99 _ rfl) (fm_cons (hA209.get 100 _ rfl) (fm_cons (hA209.get 101 _ rfl) fm_nil)))))))))))))
              refine t_norm ?_
              refine wp_seq ?_
              refine wp_seq ?_
              refine wp_region_lit ?_
              refine q_step hA210 rfl (d_move (wn rfl) (hA210.ev (v := (.int .u64 (((nv 10 (List.take j100 l) : Nat) : Int) * 10 + (((y112.toNat : Nat) : Int) - 48)))) rfl) ?_)
              intro a211 hA212
              refine q_step hA212 rfl (d_move (wn rfl) (hA212.ev (v := (.int .u64 (((nv 10 (List.take j100 l) : Nat) : Int) * 10))) rfl) ?_)
              intro a213 hA214
              refine q_step hA214 rfl (d_bin (wn rfl) (hA214.ev (v := (.int .u64 (((nv 10 (List.take j100 l) : Nat) : Int) * 10 + (((y112.toNat : Nat) : Int) - 48)))) rfl) (hA214.ev (v := (.int .u64 (((nv 10 (List.take j100 l) : Nat) : Int) * 10))) rfl) (b_lt _ _ (((nv 10 (List.take j100 l) : Nat) : Int) * 10 + (((y112.toNat : Nat) : Int) - 48)) (((nv 10 (List.take j100 l) : Nat) : Int) * 10) false _ (decide_eq_false (by omega))) ?_)
              intro a215 hA216
              refine q_step hA216 rfl (d_move (wn rfl) (hA216.ev (v := (.bool false)) rfl) ?_)
              intro a217 hA218
              refine q_step hA218 rfl (d_move (wy rfl rfl (hA218.get 155 _ rfl)) (hA218.ev (v := (.int .u64 (((nv 10 (List.take j100 l) : Nat) : Int) * 10 + (((y112.toNat : Nat) : Int) - 48)))) rfl) ?_)
              intro a219 hA220
              refine q_step hA220 rfl (d_move (wy rfl rfl (hA220.get 155 _ rfl)) (hA220.ev (v := (.int .u64 18446744073709551615)) rfl) ?_)
              intro a221 hA222
              refine q_step hA222 rfl (d_bin (wy rfl rfl (hA222.get 155 _ rfl)) (hA222.ev (v := (.int .u64 (((nv 10 (List.take j100 l) : Nat) : Int) * 10 + (((y112.toNat : Nat) : Int) - 48)))) rfl) (hA222.ev (v := (.int .u64 18446744073709551615)) rfl) (b_gt _ _ (((nv 10 (List.take j100 l) : Nat) : Int) * 10 + (((y112.toNat : Nat) : Int) - 48)) 18446744073709551615 false _ (decide_eq_false (by omega))) ?_)
              intro a223 hA224
              refine q_step hA224 rfl (d_pickF (wn rfl) (hA224.ev (v := (.bool false)) rfl) (hA224.ev (v := (.bool false)) rfl) ?_)
              intro a225 hA226
              refine q_end ?_
              refine t_norm ?_
              refine c_false hA226 rfl ?_
              refine wp_skip ?_
              refine t_norm ?_
              refine wp_region_lit ?_
              refine q_step hA226 rfl (d_move (wn rfl) (hA226.ev (v := (.int .u64 (((nv 10 (List.take j100 l) : Nat) : Int) * 10 + (((y112.toNat : Nat) : Int) - 48)))) rfl) ?_)
              intro a227 hA228
              refine q_step hA228 rfl (d_assign (wn rfl) (hA228.ev (v := (.int .u64 (((nv 10 (List.take j100 l) : Nat) : Int) * 10 + (((y112.toNat : Nat) : Int) - 48)))) rfl) ?_)
              intro a229 hA230
              refine q_end ?_
              refine i_norm ?_
              refine t_norm ?_
              refine wp_region_lit ?_
              refine q_step hA230 rfl (d_bin (wn rfl) (hA230.ev (v := (.int .i64 ((j100 : Nat) : Int))) rfl) (hA230.ev (v := (.int .i64 1)) rfl) (b_addE (j100 + 1) (by omega) (by omega)) ?_)
              intro a231 hA232
              refine q_step hA232 rfl (d_move (wn rfl) (hA232.ev (v := (.int .i64 ((j100 + 1 : Nat) : Int))) rfl) ?_)
              intro a233 hA234
              refine q_end ?_
              refine t_norm ?_
              have hgo := nv_go (bs := 10) hy113
              have hall2 := all_go hy113 hall (by omega)
              exact ⟨l.length - (j100 + 1), (by rw [hm106]; omega), j100 + 1, rfl, ⟨by omega, hall2⟩, hA234.cut _ (fm_cons (hA234.get 1 _ rfl) (fm_cons (hA234.get 6 _ rfl) (fm_cons (hA234.get 7 _ rfl) (fm_cons (hA234.get 8 _ rfl) (fm_cons (hA234.get 9 _ rfl) (fm_cons (hA234.get 10 _ rfl) (fm_cons (hA234.get 11 _ rfl) (fm_cons (hA234.get 12 _ rfl) (fm_cons ((hA234.get 13 _ rfl).trans (congrArg (Value.int .u64) (by omega))) (fm_cons (hA234.get 99 _ rfl) (fm_cons (hA234.get 100 _ rfl) (fm_cons (hA234.get 101 _ rfl) fm_nil)))))))))))), b105⟩
          · skip
            have hq235 := of_decide_eq_false hb151
            refine q_step hA150 rfl (d_bin (wy rfl rfl (hA150.get 115 _ rfl)) (hA150.ev (v := (.int .u8 ((y112.toNat : Nat) : Int))) rfl) (hA150.ev (v := (.int .u8 57)) rfl) (b_le _ _ ((y112.toNat : Nat) : Int) 57 false _ hb151) ?_)
            intro a236 hA237
            refine q_step hA237 rfl (d_pickT (wn rfl) (hA237.ev (v := (.bool true)) rfl) (hA237.ev (v := (.bool false)) rfl) ?_)
            intro a238 hA239
            refine q_step hA239 rfl (d_assign (wn rfl) (hA239.ev (v := (.bool false)) rfl) ?_)
            intro a240 hA241
            refine q_end ?_
            refine t_norm ?_
            refine c_false hA241 rfl ?_
            refine wp_seq ?_
            refine wp_region_lit ?_
            refine q_step hA241 rfl (d_move (wn rfl) (hA241.ev (v := (.int .u8 ((y112.toNat : Nat) : Int))) rfl) ?_)
            intro a242 hA243
            have hlw := lowB_le y112
            refine q_step hA243 rfl (d_call (wn rfl) ent63 (map1 (hA243.ev (v := (.int .u8 ((y112.toNat : Nat) : Int))) rfl)) (lower_any y112 w103) ?_)
            rintro e247 w244 ⟨he246, hG245⟩
            have hr248 := range_below hr117 hG245 (Nat.lt_of_lt_of_le lt116 b105.size)
            have b249 := below_grow b105 hG245 b105.size
            refine ⟨(.int .u8 ((lowB y112 : Nat) : Int)), he246, ?_⟩
            intro a250 hA251
            rcases Bool.eq_false_or_eq_true (decide ((97 : Int) ≤ ((lowB y112 : Nat) : Int))) with hb252 | hb252
            · skip
              have hq253 := of_decide_eq_true hb252
              refine q_step hA251 rfl (d_bin (wn rfl) (hA251.ev (v := (.int .u8 97)) rfl) (hA251.ev (v := (.int .u8 ((lowB y112 : Nat) : Int))) rfl) (b_le _ _ 97 ((lowB y112 : Nat) : Int) true _ hb252) ?_)
              intro a254 hA255
              refine q_step hA255 rfl (d_move (wn rfl) (hA255.ev (v := (.bool true)) rfl) ?_)
              intro a256 hA257
              refine q_step hA257 rfl (d_move (wy rfl rfl (hA257.get 125 _ rfl)) (hA257.ev (v := (.int .u8 ((y112.toNat : Nat) : Int))) rfl) ?_)
              intro a258 hA259
              have hlw := lowB_le y112
              refine q_step hA259 rfl (d_call (wy rfl rfl (hA259.get 125 _ rfl)) ent63 (map1 (hA259.ev (v := (.int .u8 ((y112.toNat : Nat) : Int))) rfl)) (lower_any y112 w244) ?_)
              rintro e263 w260 ⟨he262, hG261⟩
              have hr264 := range_below hr248 hG261 (Nat.lt_of_lt_of_le lt116 b249.size)
              have b265 := below_grow b249 hG261 b249.size
              refine ⟨(.int .u8 ((lowB y112 : Nat) : Int)), he262, ?_⟩
              intro a266 hA267
              rcases Bool.eq_false_or_eq_true (decide (((lowB y112 : Nat) : Int) ≤ 122)) with hb268 | hb268
              · skip
                have hq269 := of_decide_eq_true hb268
                refine q_step hA267 rfl (d_bin (wy rfl rfl (hA267.get 125 _ rfl)) (hA267.ev (v := (.int .u8 ((lowB y112 : Nat) : Int))) rfl) (hA267.ev (v := (.int .u8 122)) rfl) (b_le _ _ ((lowB y112 : Nat) : Int) 122 true _ hb268) ?_)
                intro a270 hA271
                refine q_step hA271 rfl (d_pickT (wn rfl) (hA271.ev (v := (.bool true)) rfl) (hA271.ev (v := (.bool true)) rfl) ?_)
                intro a272 hA273
                refine q_step hA273 rfl (d_assign (wn rfl) (hA273.ev (v := (.bool true)) rfl) ?_)
                intro a274 hA275
                refine q_end ?_
                refine t_norm ?_
                refine c_true hA275 rfl ?_
                refine wp_region_lit ?_
                refine q_step hA275 rfl (d_move (wn rfl) (hA275.ev (v := (.int .u8 ((y112.toNat : Nat) : Int))) rfl) ?_)
                intro a276 hA277
                have hlw := lowB_le y112
                refine q_step hA277 rfl (d_call (wn rfl) ent63 (map1 (hA277.ev (v := (.int .u8 ((y112.toNat : Nat) : Int))) rfl)) (lower_any y112 w260) ?_)
                rintro e281 w278 ⟨he280, hG279⟩
                have hr282 := range_below hr264 hG279 (Nat.lt_of_lt_of_le lt116 b265.size)
                have b283 := below_grow b265 hG279 b265.size
                refine ⟨(.int .u8 ((lowB y112 : Nat) : Int)), he280, ?_⟩
                intro a284 hA285
                refine q_step hA285 rfl (d_bin (wn rfl) (hA285.ev (v := (.int .u8 ((lowB y112 : Nat) : Int))) rfl) (hA285.ev (v := (.int .u8 97)) rfl) (b_subK (((lowB y112 : Nat) : Int) - 97) (wrap8 (by omega) (by omega))) ?_)
                intro a286 hA287
                refine q_step hA287 rfl (d_bin (wn rfl) (hA287.ev (v := (.int .u8 (((lowB y112 : Nat) : Int) - 97))) rfl) (hA287.ev (v := (.int .u8 10)) rfl) (b_addK (((lowB y112 : Nat) : Int) - 97 + 10) (wrap8 (by omega) (by omega))) ?_)
                intro a288 hA289
                refine q_step hA289 rfl (d_assign (wn rfl) (hA289.ev (v := (.int .u8 (((lowB y112 : Nat) : Int) - 97 + 10))) rfl) ?_)
                intro a290 hA291
                have hdv : dv y112 = lowB y112 - 97 + 10 := dv_let (by omega) (by omega) (by omega)
                refine q_end ?_
                refine i_norm ?_
                refine t_norm ?_
                refine wp_seq ?_
                refine wp_seq ?_
                refine wp_region_lit ?_
                refine q_step hA291 rfl (d_move (wn rfl) (hA291.ev (v := (.int .u8 (((lowB y112 : Nat) : Int) - 97 + 10))) rfl) ?_)
                intro a292 hA293
                refine q_step hA293 rfl (d_move (wn rfl) (hA293.ev (v := (.int .i64 10)) rfl) ?_)
                intro a294 hA295
                refine q_step hA295 rfl (d_conv 10 (wn rfl) (hA295.ev (v := (.int .i64 10)) rfl) knd3 knd5 rfl ?_)
                intro a296 hA297
                rcases Bool.eq_false_or_eq_true (decide (((lowB y112 : Nat) : Int) - 97 + 10 ≥ 10)) with hb298 | hb298
                · skip
                  have hq299 := of_decide_eq_true hb298
                  refine q_step hA297 rfl (d_bin (wn rfl) (hA297.ev (v := (.int .u8 (((lowB y112 : Nat) : Int) - 97 + 10))) rfl) (hA297.ev (v := (.int .u8 10)) rfl) (b_ge _ _ (((lowB y112 : Nat) : Int) - 97 + 10) 10 true _ hb298) ?_)
                  intro a300 hA301
                  refine q_end ?_
                  have hA302 : St 172 [(1, (.int .i64 10)), (6, (.int .u64 0)), (7, (.nilIface)), (8, (.bool false)), (9, (.string (S l))), (10, (.int .u64 1844674407370955162)), (11, (.int .u64 18446744073709551615)), (12, (.bool false)), (13, (.int .u64 ((nv 10 (List.take j100 l) : Nat) : Int))), (16, (.int .u8 (((lowB y112 : Nat) : Int) - 97 + 10))), (99, v88), (100, (.int .i64 ((l.length : Nat) : Int))), (101, (.int .i64 ((j100 : Nat) : Int))), (137, (.bool true))] a300 := hA301.cut _ (fm_cons (hA301.get 1 _ rfl) (fm_cons (hA301.get 6 _ rfl) (fm_cons (hA301.get 7 _ rfl) (fm_cons (hA301.get 8 _ rfl) (fm_cons (hA301.get 9 _ rfl) (fm_cons (hA301.get 10 _ rfl) (fm_cons (hA301.get 11 _ rfl) (fm_cons (hA301.get 12 _ rfl) (fm_cons (hA301.get 13 _ rfl) (fm_cons (hA301.get 16 _ rfl) (fm_cons (hA301.get 99 _ rfl) (fm_cons (hA301.get 100 _ rfl) (fm_cons (hA301.get 101 _ rfl) (fm_cons (hA301.get 137 _ rfl) fm_nil))))))))))))))
                  refine t_norm ?_
                  refine c_true hA302 rfl ?_
                  refine wp_seq ?_
                  refine wp_region_lit ?_
                  refine q_step hA302 rfl (d_iface (wn rfl) (hA302.ev (v := (.int .i64 2)) rfl) conc84 ?_)
                  intro a303 hA304
                  refine q_step hA304 rfl (d_assign (wn rfl) (hA304.ev (v := (.int .u64 0)) rfl) ?_)
                  intro a305 hA306
                  refine q_step hA306 rfl (d_assign (wn rfl) (hA306.ev (v := (.iface 84 (.int .i64 2))) rfl) ?_)
                  intro a307 hA308
                  refine q_end ?_
                  refine t_norm ?_
                  refine wp_ret ?_
                  refine t_ret ?_
                  refine i_ret ?_
                  refine t_ret ?_
                  refine t_ret ?_
                  refine i_ret ?_
                  refine t_ret ?_
                  refine ret2 (x := (.int .u64 0)) (y := (.iface 84 (.int .i64 2))) rfl hA308 rfl rfl ?_
                  exact ⟨by rw [pu_none (val_bad hy113 (by first | omega | (rw [dv_bad (by omega) (by omega)]; omega)))], Grow.trans b92 b283⟩
                · skip
                  have hq309 := of_decide_eq_false hb298
                  refine q_step hA297 rfl (d_bin (wn rfl) (hA297.ev (v := (.int .u8 (((lowB y112 : Nat) : Int) - 97 + 10))) rfl) (hA297.ev (v := (.int .u8 10)) rfl) (b_ge _ _ (((lowB y112 : Nat) : Int) - 97 + 10) 10 false _ hb298) ?_)
                  intro a310 hA311
                  refine q_end ?_
                  have hA312 : St 172 [(1, (.int .i64 10)), (6, (.int .u64 0)), (7, (.nilIface)), (8, (.bool false)), (9, (.string (S l))), (10, (.int .u64 1844674407370955162)), (11, (.int .u64 18446744073709551615)), (12, (.bool false)), (13, (.int .u64 ((nv 10 (List.take j100 l) : Nat) : Int))), (16, (.int .u8 (((lowB y112 : Nat) : Int) - 97 + 10))), (99, v88), (100, (.int .i64 ((l.length : Nat) : Int))), (101, (.int .i64 ((j100 : Nat) : Int))), (137, (.bool false))] a310 := hA311.cut _ (fm_cons (hA311.get 1 _ rfl) (fm_cons (hA311.get 6 _ rfl) (fm_cons (hA311.get 7 _ rfl) (fm_cons (hA311.get 8 _ rfl) (fm_cons (hA311.get 9 _ rfl) (fm_cons (hA311.get 10 _ rfl) (fm_cons (hA311.get 11 _ rfl) (fm_cons (hA311.get 12 _ rfl) (fm_cons (hA311.get 13 _ rfl) (fm_cons (hA311.get 16 _ rfl) (fm_cons (hA311.get 99 _ rfl) (fm_cons (hA311.get 100 _ rfl) (fm_cons (hA311.get 101 _ rfl) (fm_cons (hA311.get 137 _ rfl) fm_nil))))))))))))))
                  refine t_norm ?_
                  refine c_false hA312 rfl ?_
                  refine wp_skip ?_
                  refine t_norm ?_
                  refine wp_seq ?_
                  refine wp_seq ?_
                  refine wp_region_lit ?_
                  refine q_step hA312 rfl (d_move (wn rfl) (hA312.ev (v := (.int .u64 ((nv 10 (List.take j100 l) : Nat) : Int))) rfl) ?_)
                  intro a313 hA314
                  refine q_step hA314 rfl (d_move (wn rfl) (hA314.ev (v := (.int .u64 1844674407370955162)) rfl) ?_)
                  intro a315 hA316
                  refine q_step hA316 rfl (d_bin (wn rfl) (hA316.ev (v := (.int .u64 ((nv 10 (List.take j100 l) : Nat) : Int))) rfl) (hA316.ev (v := (.int .u64 1844674407370955162)) rfl) (b_ge _ _ ((nv 10 (List.take j100 l) : Nat) : Int) 1844674407370955162 false _ (decide_eq_false (by omega))) ?_)
                  intro a317 hA318
                  refine q_end ?_
                  refine t_norm ?_
                  refine c_false hA318 rfl ?_
                  refine wp_skip ?_
                  refine t_norm ?_
                  refine wp_seq ?_
                  refine wp_region_lit ?_
                  refine q_step hA318 rfl (d_move (wn rfl) (hA318.ev (v := (.int .u64 ((nv 10 (List.take j100 l) : Nat) : Int))) rfl) ?_)
                  intro a319 hA320
                  refine q_step hA320 rfl (d_move (wn rfl) (hA320.ev (v := (.int .i64 10)) rfl) ?_)
                  intro a321 hA322
                  refine q_step hA322 rfl (d_conv 10 (wn rfl) (hA322.ev (v := (.int .i64 10)) rfl) knd3 knd70 rfl ?_)
                  intro a323 hA324
                  refine q_step hA324 rfl (d_bin (wn rfl) (hA324.ev (v := (.int .u64 ((nv 10 (List.take j100 l) : Nat) : Int))) rfl) (hA324.ev (v := (.int .u64 10)) rfl) (b_mulK (((nv 10 (List.take j100 l) : Nat) : Int) * 10) (wrap64 (by omega) (by omega))) ?_)
                  intro a325 hA326
                  refine q_step hA326 rfl (d_assign (wn rfl) (hA326.ev (v := (.int .u64 (((nv 10 (List.take j100 l) : Nat) : Int) * 10))) rfl) ?_)
                  intro a327 hA328
                  refine q_end ?_
                  refine t_norm ?_
                  refine wp_seq ?_
                  refine wp_region_lit ?_
                  refine q_step hA328 rfl (d_move (wn rfl) (hA328.ev (v := (.int .u64 (((nv 10 (List.take j100 l) : Nat) : Int) * 10))) rfl) ?_)
                  intro a329 hA330
                  refine q_step hA330 rfl (d_move (wn rfl) (hA330.ev (v := (.int .u8 (((lowB y112 : Nat) : Int) - 97 + 10))) rfl) ?_)
                  intro a331 hA332
                  refine q_step hA332 rfl (d_conv (((lowB y112 : Nat) : Int) - 97 + 10) (wn rfl) (hA332.ev (v := (.int .u8 (((lowB y112 : Nat) : Int) - 97 + 10))) rfl) knd5 knd70 (wrap64 (by omega) (by omega)) ?_)
                  intro a333 hA334
                  refine q_step hA334 rfl (d_bin (wn rfl) (hA334.ev (v := (.int .u64 (((nv 10 (List.take j100 l) : Nat) : Int) * 10))) rfl) (hA334.ev (v := (.int .u64 (((lowB y112 : Nat) : Int) - 97 + 10))) rfl) (b_addK (((nv 10 (List.take j100 l) : Nat) : Int) * 10 + (((lowB y112 : Nat) : Int) - 97 + 10)) (wrap64 (by omega) (by omega))) ?_)
                  intro a335 hA336
                  refine q_step hA336 rfl (d_assign (wn rfl) (hA336.ev (v := (.int .u64 (((nv 10 (List.take j100 l) : Nat) : Int) * 10 + (((lowB y112 : Nat) : Int) - 97 + 10)))) rfl) ?_)
                  intro a337 hA338
                  refine q_end ?_
                  refine t_norm ?_
                  refine wp_seq ?_
                  refine wp_seq ?_
                  refine wp_region_lit ?_
                  refine q_step hA338 rfl (d_move (wn rfl) (hA338.ev (v := (.int .u64 (((nv 10 (List.take j100 l) : Nat) : Int) * 10 + (((lowB y112 : Nat) : Int) - 97 + 10)))) rfl) ?_)
                  intro a339 hA340
                  refine q_step hA340 rfl (d_move (wn rfl) (hA340.ev (v := (.int .u64 (((nv 10 (List.take j100 l) : Nat) : Int) * 10))) rfl) ?_)
                  intro a341 hA342
                  refine q_step hA342 rfl (d_bin (wn rfl) (hA342.ev (v := (.int .u64 (((nv 10 (List.take j100 l) : Nat) : Int) * 10 + (((lowB y112 : Nat) : Int) - 97 + 10)))) rfl) (hA342.ev (v := (.int .u64 (((nv 10 (List.take j100 l) : Nat) : Int) * 10))) rfl) (b_lt _ _ (((nv 10 (List.take j100 l) : Nat) : Int) * 10 + (((lowB y112 : Nat) : Int) - 97 + 10)) (((nv 10 (List.take j100 l) : Nat) : Int) * 10) false _ (decide_eq_false (by omega))) ?_)
                  intro a343 hA344
                  refine q_step hA344 rfl (d_move (wn rfl) (hA344.ev (v := (.bool false)) rfl) ?_)
                  intro a345 hA346
                  refine q_step hA346 rfl (d_move (wy rfl rfl (hA346.get 155 _ rfl)) (hA346.ev (v := (.int .u64 (((nv 10 (List.take j100 l) : Nat) : Int) * 10 + (((lowB y112 : Nat) : Int) - 97 + 10)))) rfl) ?_)
                  intro a347 hA348
                  refine q_step hA348 rfl (d_move (wy rfl rfl (hA348.get 155 _ rfl)) (hA348.ev (v := (.int .u64 18446744073709551615)) rfl) ?_)
                  intro a349 hA350
                  refine q_step hA350 rfl (d_bin (wy rfl rfl (hA350.get 155 _ rfl)) (hA350.ev (v := (.int .u64 (((nv 10 (List.take j100 l) : Nat) : Int) * 10 + (((lowB y112 : Nat) : Int) - 97 + 10)))) rfl) (hA350.ev (v := (.int .u64 18446744073709551615)) rfl) (b_gt _ _ (((nv 10 (List.take j100 l) : Nat) : Int) * 10 + (((lowB y112 : Nat) : Int) - 97 + 10)) 18446744073709551615 false _ (decide_eq_false (by omega))) ?_)
                  intro a351 hA352
                  refine q_step hA352 rfl (d_pickF (wn rfl) (hA352.ev (v := (.bool false)) rfl) (hA352.ev (v := (.bool false)) rfl) ?_)
                  intro a353 hA354
                  refine q_end ?_
                  refine t_norm ?_
                  refine c_false hA354 rfl ?_
                  refine wp_skip ?_
                  refine t_norm ?_
                  refine wp_region_lit ?_
                  refine q_step hA354 rfl (d_move (wn rfl) (hA354.ev (v := (.int .u64 (((nv 10 (List.take j100 l) : Nat) : Int) * 10 + (((lowB y112 : Nat) : Int) - 97 + 10)))) rfl) ?_)
                  intro a355 hA356
                  refine q_step hA356 rfl (d_assign (wn rfl) (hA356.ev (v := (.int .u64 (((nv 10 (List.take j100 l) : Nat) : Int) * 10 + (((lowB y112 : Nat) : Int) - 97 + 10)))) rfl) ?_)
                  intro a357 hA358
                  refine q_end ?_
                  refine i_norm ?_
                  refine t_norm ?_
                  refine wp_region_lit ?_
                  refine q_step hA358 rfl (d_bin (wn rfl) (hA358.ev (v := (.int .i64 ((j100 : Nat) : Int))) rfl) (hA358.ev (v := (.int .i64 1)) rfl) (b_addE (j100 + 1) (by omega) (by omega)) ?_)
                  intro a359 hA360
                  refine q_step hA360 rfl (d_move (wn rfl) (hA360.ev (v := (.int .i64 ((j100 + 1 : Nat) : Int))) rfl) ?_)
                  intro a361 hA362
                  refine q_end ?_
                  refine t_norm ?_
                  have hgo := nv_go (bs := 10) hy113
                  have hall2 := all_go hy113 hall (by omega)
                  exact ⟨l.length - (j100 + 1), (by rw [hm106]; omega), j100 + 1, rfl, ⟨by omega, hall2⟩, hA362.cut _ (fm_cons (hA362.get 1 _ rfl) (fm_cons (hA362.get 6 _ rfl) (fm_cons (hA362.get 7 _ rfl) (fm_cons (hA362.get 8 _ rfl) (fm_cons (hA362.get 9 _ rfl) (fm_cons (hA362.get 10 _ rfl) (fm_cons (hA362.get 11 _ rfl) (fm_cons (hA362.get 12 _ rfl) (fm_cons ((hA362.get 13 _ rfl).trans (congrArg (Value.int .u64) (by omega))) (fm_cons (hA362.get 99 _ rfl) (fm_cons (hA362.get 100 _ rfl) (fm_cons (hA362.get 101 _ rfl) fm_nil)))))))))))), b283⟩
              · skip
                have hq363 := of_decide_eq_false hb268
                refine q_step hA267 rfl (d_bin (wy rfl rfl (hA267.get 125 _ rfl)) (hA267.ev (v := (.int .u8 ((lowB y112 : Nat) : Int))) rfl) (hA267.ev (v := (.int .u8 122)) rfl) (b_le _ _ ((lowB y112 : Nat) : Int) 122 false _ hb268) ?_)
                intro a364 hA365
                refine q_step hA365 rfl (d_pickT (wn rfl) (hA365.ev (v := (.bool true)) rfl) (hA365.ev (v := (.bool false)) rfl) ?_)
                intro a366 hA367
                refine q_step hA367 rfl (d_assign (wn rfl) (hA367.ev (v := (.bool false)) rfl) ?_)
                intro a368 hA369
                refine q_end ?_
                refine t_norm ?_
                refine c_false hA369 rfl ?_
                refine wp_seq ?_
                refine wp_region_lit ?_
                refine q_step hA369 rfl (d_iface (wn rfl) (hA369.ev (v := (.int .i64 2)) rfl) conc84 ?_)
                intro a370 hA371
                refine q_step hA371 rfl (d_assign (wn rfl) (hA371.ev (v := (.int .u64 0)) rfl) ?_)
                intro a372 hA373
                refine q_step hA373 rfl (d_assign (wn rfl) (hA373.ev (v := (.iface 84 (.int .i64 2))) rfl) ?_)
                intro a374 hA375
                refine q_end ?_
                refine t_norm ?_
                refine wp_ret ?_
                refine i_ret ?_
                refine t_ret ?_
                refine i_ret ?_
                refine t_ret ?_
                refine t_ret ?_
                refine i_ret ?_
                refine t_ret ?_
                refine ret2 (x := (.int .u64 0)) (y := (.iface 84 (.int .i64 2))) rfl hA375 rfl rfl ?_
                exact ⟨by rw [pu_none (val_bad hy113 (by first | omega | (rw [dv_bad (by omega) (by omega)]; omega)))], Grow.trans b92 b265⟩
            · skip
              have hq376 := of_decide_eq_false hb252
              refine q_step hA251 rfl (d_bin (wn rfl) (hA251.ev (v := (.int .u8 97)) rfl) (hA251.ev (v := (.int .u8 ((lowB y112 : Nat) : Int))) rfl) (b_le _ _ 97 ((lowB y112 : Nat) : Int) false _ hb252) ?_)
              intro a377 hA378
              refine q_step hA378 rfl (d_move (wn rfl) (hA378.ev (v := (.bool false)) rfl) ?_)
              intro a379 hA380
              refine q_step hA380 rfl (does_not (wno rfl rfl (.inl (hA380.get 125 _ rfl))) ?_)
              intro a381 hA382
              refine q_step hA382 rfl (does_not (wno rfl rfl (.inl (hA382.get 125 _ rfl))) ?_)
              intro a383 hA384
              refine q_step hA384 rfl (does_not (wno rfl rfl (.inl (hA384.get 125 _ rfl))) ?_)
              intro a385 hA386
              refine q_step hA386 rfl (d_pickF (wn rfl) (hA386.ev (v := (.bool false)) rfl) (hA386.ev (v := (.bool false)) rfl) ?_)
              intro a387 hA388
              refine q_step hA388 rfl (d_assign (wn rfl) (hA388.ev (v := (.bool false)) rfl) ?_)
              intro a389 hA390
              refine q_end ?_
              refine t_norm ?_
              refine c_false hA390 rfl ?_
              refine wp_seq ?_
              refine wp_region_lit ?_
              refine q_step hA390 rfl (d_iface (wn rfl) (hA390.ev (v := (.int .i64 2)) rfl) conc84 ?_)
              intro a391 hA392
              refine q_step hA392 rfl (d_assign (wn rfl) (hA392.ev (v := (.int .u64 0)) rfl) ?_)
              intro a393 hA394
              refine q_step hA394 rfl (d_assign (wn rfl) (hA394.ev (v := (.iface 84 (.int .i64 2))) rfl) ?_)
              intro a395 hA396
              refine q_end ?_
              refine t_norm ?_
              refine wp_ret ?_
              refine i_ret ?_
              refine t_ret ?_
              refine i_ret ?_
              refine t_ret ?_
              refine t_ret ?_
              refine i_ret ?_
              refine t_ret ?_
              refine ret2 (x := (.int .u64 0)) (y := (.iface 84 (.int .i64 2))) rfl hA396 rfl rfl ?_
              exact ⟨by rw [pu_none (val_bad hy113 (by first | omega | (rw [dv_bad (by omega) (by omega)]; omega)))], Grow.trans b92 b249⟩
        · skip
          have hq397 := of_decide_eq_false hb143
          refine q_step hA142 rfl (d_bin (wn rfl) (hA142.ev (v := (.int .u8 48)) rfl) (hA142.ev (v := (.int .u8 ((y112.toNat : Nat) : Int))) rfl) (b_le _ _ 48 ((y112.toNat : Nat) : Int) false _ hb143) ?_)
          intro a398 hA399
          refine q_step hA399 rfl (d_move (wn rfl) (hA399.ev (v := (.bool false)) rfl) ?_)
          intro a400 hA401
          refine q_step hA401 rfl (does_not (wno rfl rfl (.inl (hA401.get 115 _ rfl))) ?_)
          intro a402 hA403
          refine q_step hA403 rfl (does_not (wno rfl rfl (.inl (hA403.get 115 _ rfl))) ?_)
          intro a404 hA405
          refine q_step hA405 rfl (d_pickF (wn rfl) (hA405.ev (v := (.bool false)) rfl) (hA405.ev (v := (.bool false)) rfl) ?_)
          intro a406 hA407
          refine q_step hA407 rfl (d_assign (wn rfl) (hA407.ev (v := (.bool false)) rfl) ?_)
          intro a408 hA409
          refine q_end ?_
          refine t_norm ?_
          refine c_false hA409 rfl ?_
          refine wp_seq ?_
          refine wp_region_lit ?_
          refine q_step hA409 rfl (d_move (wn rfl) (hA409.ev (v := (.int .u8 ((y112.toNat : Nat) : Int))) rfl) ?_)
          intro a410 hA411
          have hlw := lowB_le y112
          refine q_step hA411 rfl (d_call (wn rfl) ent63 (map1 (hA411.ev (v := (.int .u8 ((y112.toNat : Nat) : Int))) rfl)) (lower_any y112 w103) ?_)
          rintro e415 w412 ⟨he414, hG413⟩
          have hr416 := range_below hr117 hG413 (Nat.lt_of_lt_of_le lt116 b105.size)
          have b417 := below_grow b105 hG413 b105.size
          refine ⟨(.int .u8 ((lowB y112 : Nat) : Int)), he414, ?_⟩
          intro a418 hA419
          rcases Bool.eq_false_or_eq_true (decide ((97 : Int) ≤ ((lowB y112 : Nat) : Int))) with hb420 | hb420
          · skip
            have hq421 := of_decide_eq_true hb420
            refine q_step hA419 rfl (d_bin (wn rfl) (hA419.ev (v := (.int .u8 97)) rfl) (hA419.ev (v := (.int .u8 ((lowB y112 : Nat) : Int))) rfl) (b_le _ _ 97 ((lowB y112 : Nat) : Int) true _ hb420) ?_)
            intro a422 hA423
            refine q_step hA423 rfl (d_move (wn rfl) (hA423.ev (v := (.bool true)) rfl) ?_)
            intro a424 hA425
            refine q_step hA425 rfl (d_move (wy rfl rfl (hA425.get 125 _ rfl)) (hA425.ev (v := (.int .u8 ((y112.toNat : Nat) : Int))) rfl) ?_)
            intro a426 hA427
            have hlw := lowB_le y112
            refine q_step hA427 rfl (d_call (wy rfl rfl (hA427.get 125 _ rfl)) ent63 (map1 (hA427.ev (v := (.int .u8 ((y112.toNat : Nat) : Int))) rfl)) (lower_any y112 w412) ?_)
            rintro e431 w428 ⟨he430, hG429⟩
            have hr432 := range_below hr416 hG429 (Nat.lt_of_lt_of_le lt116 b417.size)
            have b433 := below_grow b417 hG429 b417.size
            refine ⟨(.int .u8 ((lowB y112 : Nat) : Int)), he430, ?_⟩
            intro a434 hA435
            rcases Bool.eq_false_or_eq_true (decide (((lowB y112 : Nat) : Int) ≤ 122)) with hb436 | hb436
            · skip
              have hq437 := of_decide_eq_true hb436
              refine q_step hA435 rfl (d_bin (wy rfl rfl (hA435.get 125 _ rfl)) (hA435.ev (v := (.int .u8 ((lowB y112 : Nat) : Int))) rfl) (hA435.ev (v := (.int .u8 122)) rfl) (b_le _ _ ((lowB y112 : Nat) : Int) 122 true _ hb436) ?_)
              intro a438 hA439
              refine q_step hA439 rfl (d_pickT (wn rfl) (hA439.ev (v := (.bool true)) rfl) (hA439.ev (v := (.bool true)) rfl) ?_)
              intro a440 hA441
              refine q_step hA441 rfl (d_assign (wn rfl) (hA441.ev (v := (.bool true)) rfl) ?_)
              intro a442 hA443
              refine q_end ?_
              refine t_norm ?_
              refine c_true hA443 rfl ?_
              refine wp_region_lit ?_
              refine q_step hA443 rfl (d_move (wn rfl) (hA443.ev (v := (.int .u8 ((y112.toNat : Nat) : Int))) rfl) ?_)
              intro a444 hA445
              have hlw := lowB_le y112
              refine q_step hA445 rfl (d_call (wn rfl) ent63 (map1 (hA445.ev (v := (.int .u8 ((y112.toNat : Nat) : Int))) rfl)) (lower_any y112 w428) ?_)
              rintro e449 w446 ⟨he448, hG447⟩
              have hr450 := range_below hr432 hG447 (Nat.lt_of_lt_of_le lt116 b433.size)
              have b451 := below_grow b433 hG447 b433.size
              refine ⟨(.int .u8 ((lowB y112 : Nat) : Int)), he448, ?_⟩
              intro a452 hA453
              refine q_step hA453 rfl (d_bin (wn rfl) (hA453.ev (v := (.int .u8 ((lowB y112 : Nat) : Int))) rfl) (hA453.ev (v := (.int .u8 97)) rfl) (b_subK (((lowB y112 : Nat) : Int) - 97) (wrap8 (by omega) (by omega))) ?_)
              intro a454 hA455
              refine q_step hA455 rfl (d_bin (wn rfl) (hA455.ev (v := (.int .u8 (((lowB y112 : Nat) : Int) - 97))) rfl) (hA455.ev (v := (.int .u8 10)) rfl) (b_addK (((lowB y112 : Nat) : Int) - 97 + 10) (wrap8 (by omega) (by omega))) ?_)
              intro a456 hA457
              refine q_step hA457 rfl (d_assign (wn rfl) (hA457.ev (v := (.int .u8 (((lowB y112 : Nat) : Int) - 97 + 10))) rfl) ?_)
              intro a458 hA459
              have hdv : dv y112 = lowB y112 - 97 + 10 := dv_let (by omega) (by omega) (by omega)
              refine q_end ?_
              refine i_norm ?_
              refine t_norm ?_
              refine wp_seq ?_
              refine wp_seq ?_
              refine wp_region_lit ?_
              refine q_step hA459 rfl (d_move (wn rfl) (hA459.ev (v := (.int .u8 (((lowB y112 : Nat) : Int) - 97 + 10))) rfl) ?_)
              intro a460 hA461
              refine q_step hA461 rfl (d_move (wn rfl) (hA461.ev (v := (.int .i64 10)) rfl) ?_)
              intro a462 hA463
              refine q_step hA463 rfl (d_conv 10 (wn rfl) (hA463.ev (v := (.int .i64 10)) rfl) knd3 knd5 rfl ?_)
              intro a464 hA465
              rcases Bool.eq_false_or_eq_true (decide (((lowB y112 : Nat) : Int) - 97 + 10 ≥ 10)) with hb466 | hb466
              · skip
                have hq467 := of_decide_eq_true hb466
                refine q_step hA465 rfl (d_bin (wn rfl) (hA465.ev (v := (.int .u8 (((lowB y112 : Nat) : Int) - 97 + 10))) rfl) (hA465.ev (v := (.int .u8 10)) rfl) (b_ge _ _ (((lowB y112 : Nat) : Int) - 97 + 10) 10 true _ hb466) ?_)
                intro a468 hA469
                refine q_end ?_
                have hA470 : St 172 [(1, (.int .i64 10)), (6, (.int .u64 0)), (7, (.nilIface)), (8, (.bool false)), (9, (.string (S l))), (10, (.int .u64 1844674407370955162)), (11, (.int .u64 18446744073709551615)), (12, (.bool false)), (13, (.int .u64 ((nv 10 (List.take j100 l) : Nat) : Int))), (16, (.int .u8 (((lowB y112 : Nat) : Int) - 97 + 10))), (99, v88), (100, (.int .i64 ((l.length : Nat) : Int))), (101, (.int .i64 ((j100 : Nat) : Int))), (137, (.bool true))] a468 := hA469.cut _ (fm_cons (hA469.get 1 _ rfl) (fm_cons (hA469.get 6 _ rfl) (fm_cons (hA469.get 7 _ rfl) (fm_cons (hA469.get 8 _ rfl) (fm_cons (hA469.get 9 _ rfl) (fm_cons (hA469.get 10 _ rfl) (fm_cons (hA469.get 11 _ rfl) (fm_cons (hA469.get 12 _ rfl) (fm_cons (hA469.get 13 _ rfl) (fm_cons (hA469.get 16 _ rfl) (fm_cons (hA469.get 99 _ rfl) (fm_cons (hA469.get 100 _ rfl) (fm_cons (hA469.get 101 _ rfl) (fm_cons (hA469.get 137 _ rfl) fm_nil))))))))))))))
                refine t_norm ?_
                refine c_true hA470 rfl ?_
                refine wp_seq ?_
                refine wp_region_lit ?_
                refine q_step hA470 rfl (d_iface (wn rfl) (hA470.ev (v := (.int .i64 2)) rfl) conc84 ?_)
                intro a471 hA472
                refine q_step hA472 rfl (d_assign (wn rfl) (hA472.ev (v := (.int .u64 0)) rfl) ?_)
                intro a473 hA474
                refine q_step hA474 rfl (d_assign (wn rfl) (hA474.ev (v := (.iface 84 (.int .i64 2))) rfl) ?_)
                intro a475 hA476
                refine q_end ?_
                refine t_norm ?_
                refine wp_ret ?_
                refine t_ret ?_
                refine i_ret ?_
                refine t_ret ?_
                refine t_ret ?_
                refine i_ret ?_
                refine t_ret ?_
                refine ret2 (x := (.int .u64 0)) (y := (.iface 84 (.int .i64 2))) rfl hA476 rfl rfl ?_
                exact ⟨by rw [pu_none (val_bad hy113 (by first | omega | (rw [dv_bad (by omega) (by omega)]; omega)))], Grow.trans b92 b451⟩
              · skip
                have hq477 := of_decide_eq_false hb466
                refine q_step hA465 rfl (d_bin (wn rfl) (hA465.ev (v := (.int .u8 (((lowB y112 : Nat) : Int) - 97 + 10))) rfl) (hA465.ev (v := (.int .u8 10)) rfl) (b_ge _ _ (((lowB y112 : Nat) : Int) - 97 + 10) 10 false _ hb466) ?_)
                intro a478 hA479
                refine q_end ?_
                have hA480 : St 172 [(1, (.int .i64 10)), (6, (.int .u64 0)), (7, (.nilIface)), (8, (.bool false)), (9, (.string (S l))), (10, (.int .u64 1844674407370955162)), (11, (.int .u64 18446744073709551615)), (12, (.bool false)), (13, (.int .u64 ((nv 10 (List.take j100 l) : Nat) : Int))), (16, (.int .u8 (((lowB y112 : Nat) : Int) - 97 + 10))), (99, v88), (100, (.int .i64 ((l.length : Nat) : Int))), (101, (.int .i64 ((j100 : Nat) : Int))), (137, (.bool false))] a478 := hA479.cut _ (fm_cons (hA479.get 1 _ rfl) (fm_cons (hA479.get 6 _ rfl) (fm_cons (hA479.get 7 _ rfl) (fm_cons (hA479.get 8 _ rfl) (fm_cons (hA479.get 9 _ rfl) (fm_cons (hA479.get 10 _ rfl) (fm_cons (hA479.get 11 _ rfl) (fm_cons (hA479.get 12 _ rfl) (fm_cons (hA479.get 13 _ rfl) (fm_cons (hA479.get 16 _ rfl) (fm_cons (hA479.get 99 _ rfl) (fm_cons (hA479.get 100 _ rfl) (fm_cons (hA479.get 101 _ rfl) (fm_cons (hA479.get 137 _ rfl) fm_nil))))))))))))))
                refine t_norm ?_
                refine c_false hA480 rfl ?_
                refine wp_skip ?_
                refine t_norm ?_
                refine wp_seq ?_
                refine wp_seq ?_
                refine wp_region_lit ?_
                refine q_step hA480 rfl (d_move (wn rfl) (hA480.ev (v := (.int .u64 ((nv 10 (List.take j100 l) : Nat) : Int))) rfl) ?_)
                intro a481 hA482
                refine q_step hA482 rfl (d_move (wn rfl) (hA482.ev (v := (.int .u64 1844674407370955162)) rfl) ?_)
                intro a483 hA484
                refine q_step hA484 rfl (d_bin (wn rfl) (hA484.ev (v := (.int .u64 ((nv 10 (List.take j100 l) : Nat) : Int))) rfl) (hA484.ev (v := (.int .u64 1844674407370955162)) rfl) (b_ge _ _ ((nv 10 (List.take j100 l) : Nat) : Int) 1844674407370955162 false _ (decide_eq_false (by omega))) ?_)
                intro a485 hA486
                refine q_end ?_
                refine t_norm ?_
                refine c_false hA486 rfl ?_
                refine wp_skip ?_
                refine t_norm ?_
                refine wp_seq ?_
                refine wp_region_lit ?_
                refine q_step hA486 rfl (d_move (wn rfl) (hA486.ev (v := (.int .u64 ((nv 10 (List.take j100 l) : Nat) : Int))) rfl) ?_)
                intro a487 hA488
                refine q_step hA488 rfl (d_move (wn rfl) (hA488.ev (v := (.int .i64 10)) rfl) ?_)
                intro a489 hA490
                refine q_step hA490 rfl (d_conv 10 (wn rfl) (hA490.ev (v := (.int .i64 10)) rfl) knd3 knd70 rfl ?_)
                intro a491 hA492
                refine q_step hA492 rfl (d_bin (wn rfl) (hA492.ev (v := (.int .u64 ((nv 10 (List.take j100 l) : Nat) : Int))) rfl) (hA492.ev (v := (.int .u64 10)) rfl) (b_mulK (((nv 10 (List.take j100 l) : Nat) : Int) * 10) (wrap64 (by omega) (by omega))) ?_)
                intro a493 hA494
                refine q_step hA494 rfl (d_assign (wn rfl) (hA494.ev (v := (.int .u64 (((nv 10 (List.take j100 l) : Nat) : Int) * 10))) rfl) ?_)
                intro a495 hA496
                refine q_end ?_
                refine t_norm ?_
                refine wp_seq ?_
                refine wp_region_lit ?_
                refine q_step hA496 rfl (d_move (wn rfl) (hA496.ev (v := (.int .u64 (((nv 10 (List.take j100 l) : Nat) : Int) * 10))) rfl) ?_)
                intro a497 hA498
                refine q_step hA498 rfl (d_move (wn rfl) (hA498.ev (v := (.int .u8 (((lowB y112 : Nat) : Int) - 97 + 10))) rfl) ?_)
                intro a499 hA500
                refine q_step hA500 rfl (d_conv (((lowB y112 : Nat) : Int) - 97 + 10) (wn rfl) (hA500.ev (v := (.int .u8 (((lowB y112 : Nat) : Int) - 97 + 10))) rfl) knd5 knd70 (wrap64 (by omega) (by omega)) ?_)
                intro a501 hA502
                refine q_step hA502 rfl (d_bin (wn rfl) (hA502.ev (v := (.int .u64 (((nv 10 (List.take j100 l) : Nat) : Int) * 10))) rfl) (hA502.ev (v := (.int .u64 (((lowB y112 : Nat) : Int) - 97 + 10))) rfl) (b_addK (((nv 10 (List.take j100 l) : Nat) : Int) * 10 + (((lowB y112 : Nat) : Int) - 97 + 10)) (wrap64 (by omega) (by omega))) ?_)
                intro a503 hA504
                refine q_step hA504 rfl (d_assign (wn rfl) (hA504.ev (v := (.int .u64 (((nv 10 (List.take j100 l) : Nat) : Int) * 10 + (((lowB y112 : Nat) : Int) - 97 + 10)))) rfl) ?_)
                intro a505 hA506
                refine q_end ?_
                refine t_norm ?_
                refine wp_seq ?_
                refine wp_seq ?_
                refine wp_region_lit ?_
                refine q_step hA506 rfl (d_move (wn rfl) (hA506.ev (v := (.int .u64 (((nv 10 (List.take j100 l) : Nat) : Int) * 10 + (((lowB y112 : Nat) : Int) - 97 + 10)))) rfl) ?_)
                intro a507 hA508
                refine q_step hA508 rfl (d_move (wn rfl) (hA508.ev (v := (.int .u64 (((nv 10 (List.take j100 l) : Nat) : Int) * 10))) rfl) ?_)
                intro a509 hA510
                refine q_step hA510 rfl (d_bin (wn rfl) (hA510.ev (v := (.int .u64 (((nv 10 (List.take j100 l) : Nat) : Int) * 10 + (((lowB y112 : Nat) : Int) - 97 + 10)))) rfl) (hA510.ev (v := (.int .u64 (((nv 10 (List.take j100 l) : Nat) : Int) * 10))) rfl) (b_lt _ _ (((nv 10 (List.take j100 l) : Nat) : Int) * 10 + (((lowB y112 : Nat) : Int) - 97 + 10)) (((nv 10 (List.take j100 l) : Nat) : Int) * 10) false _ (decide_eq_false (by omega))) ?_)
                intro a511 hA512
                refine q_step hA512 rfl (d_move (wn rfl) (hA512.ev (v := (.bool false)) rfl) ?_)
                intro a513 hA514
                refine q_step hA514 rfl (d_move (wy rfl rfl (hA514.get 155 _ rfl)) (hA514.ev (v := (.int .u64 (((nv 10 (List.take j100 l) : Nat) : Int) * 10 + (((lowB y112 : Nat) : Int) - 97 + 10)))) rfl) ?_)
                intro a515 hA516
                refine q_step hA516 rfl (d_move (wy rfl rfl (hA516.get 155 _ rfl)) (hA516.ev (v := (.int .u64 18446744073709551615)) rfl) ?_)
                intro a517 hA518
                refine q_step hA518 rfl (d_bin (wy rfl rfl (hA518.get 155 _ rfl)) (hA518.ev (v := (.int .u64 (((nv 10 (List.take j100 l) : Nat) : Int) * 10 + (((lowB y112 : Nat) : Int) - 97 + 10)))) rfl) (hA518.ev (v := (.int .u64 18446744073709551615)) rfl) (b_gt _ _ (((nv 10 (List.take j100 l) : Nat) : Int) * 10 + (((lowB y112 : Nat) : Int) - 97 + 10)) 18446744073709551615 false _ (decide_eq_false (by omega))) ?_)
                intro a519 hA520
                refine q_step hA520 rfl (d_pickF (wn rfl) (hA520.ev (v := (.bool false)) rfl) (hA520.ev (v := (.bool false)) rfl) ?_)
                intro a521 hA522
                refine q_end ?_
                refine t_norm ?_
                refine c_false hA522 rfl ?_
                refine wp_skip ?_
                refine t_norm ?_
                refine wp_region_lit ?_
                refine q_step hA522 rfl (d_move (wn rfl) (hA522.ev (v := (.int .u64 (((nv 10 (List.take j100 l) : Nat) : Int) * 10 + (((lowB y112 : Nat) : Int) - 97 + 10)))) rfl) ?_)
                intro a523 hA524
                refine q_step hA524 rfl (d_assign (wn rfl) (hA524.ev (v := (.int .u64 (((nv 10 (List.take j100 l) : Nat) : Int) * 10 + (((lowB y112 : Nat) : Int) - 97 + 10)))) rfl) ?_)
                intro a525 hA526
                refine q_end ?_
                refine i_norm ?_
                refine t_norm ?_
                refine wp_region_lit ?_
                refine q_step hA526 rfl (d_bin (wn rfl) (hA526.ev (v := (.int .i64 ((j100 : Nat) : Int))) rfl) (hA526.ev (v := (.int .i64 1)) rfl) (b_addE (j100 + 1) (by omega) (by omega)) ?_)
                intro a527 hA528
                refine q_step hA528 rfl (d_move (wn rfl) (hA528.ev (v := (.int .i64 ((j100 + 1 : Nat) : Int))) rfl) ?_)
                intro a529 hA530
                refine q_end ?_
                refine t_norm ?_
                have hgo := nv_go (bs := 10) hy113
                have hall2 := all_go hy113 hall (by omega)
                exact ⟨l.length - (j100 + 1), (by rw [hm106]; omega), j100 + 1, rfl, ⟨by omega, hall2⟩, hA530.cut _ (fm_cons (hA530.get 1 _ rfl) (fm_cons (hA530.get 6 _ rfl) (fm_cons (hA530.get 7 _ rfl) (fm_cons (hA530.get 8 _ rfl) (fm_cons (hA530.get 9 _ rfl) (fm_cons (hA530.get 10 _ rfl) (fm_cons (hA530.get 11 _ rfl) (fm_cons (hA530.get 12 _ rfl) (fm_cons ((hA530.get 13 _ rfl).trans (congrArg (Value.int .u64) (by omega))) (fm_cons (hA530.get 99 _ rfl) (fm_cons (hA530.get 100 _ rfl) (fm_cons (hA530.get 101 _ rfl) fm_nil)))))))))))), b451⟩
            · skip
              have hq531 := of_decide_eq_false hb436
              refine q_step hA435 rfl (d_bin (wy rfl rfl (hA435.get 125 _ rfl)) (hA435.ev (v := (.int .u8 ((lowB y112 : Nat) : Int))) rfl) (hA435.ev (v := (.int .u8 122)) rfl) (b_le _ _ ((lowB y112 : Nat) : Int) 122 false _ hb436) ?_)
              intro a532 hA533
              refine q_step hA533 rfl (d_pickT (wn rfl) (hA533.ev (v := (.bool true)) rfl) (hA533.ev (v := (.bool false)) rfl) ?_)
              intro a534 hA535
              refine q_step hA535 rfl (d_assign (wn rfl) (hA535.ev (v := (.bool false)) rfl) ?_)
              intro a536 hA537
              refine q_end ?_
              refine t_norm ?_
              refine c_false hA537 rfl ?_
              refine wp_seq ?_
              refine wp_region_lit ?_
              refine q_step hA537 rfl (d_iface (wn rfl) (hA537.ev (v := (.int .i64 2)) rfl) conc84 ?_)
              intro a538 hA539
              refine q_step hA539 rfl (d_assign (wn rfl) (hA539.ev (v := (.int .u64 0)) rfl) ?_)
              intro a540 hA541
              refine q_step hA541 rfl (d_assign (wn rfl) (hA541.ev (v := (.iface 84 (.int .i64 2))) rfl) ?_)
              intro a542 hA543
              refine q_end ?_
              refine t_norm ?_
              refine wp_ret ?_
              refine i_ret ?_
              refine t_ret ?_
              refine i_ret ?_
              refine t_ret ?_
              refine t_ret ?_
              refine i_ret ?_
              refine t_ret ?_
              refine ret2 (x := (.int .u64 0)) (y := (.iface 84 (.int .i64 2))) rfl hA543 rfl rfl ?_
              exact ⟨by rw [pu_none (val_bad hy113 (by first | omega | (rw [dv_bad (by omega) (by omega)]; omega)))], Grow.trans b92 b433⟩
          · skip
            have hq544 := of_decide_eq_false hb420
            refine q_step hA419 rfl (d_bin (wn rfl) (hA419.ev (v := (.int .u8 97)) rfl) (hA419.ev (v := (.int .u8 ((lowB y112 : Nat) : Int))) rfl) (b_le _ _ 97 ((lowB y112 : Nat) : Int) false _ hb420) ?_)
            intro a545 hA546
            refine q_step hA546 rfl (d_move (wn rfl) (hA546.ev (v := (.bool false)) rfl) ?_)
            intro a547 hA548
            refine q_step hA548 rfl (does_not (wno rfl rfl (.inl (hA548.get 125 _ rfl))) ?_)
            intro a549 hA550
            refine q_step hA550 rfl (does_not (wno rfl rfl (.inl (hA550.get 125 _ rfl))) ?_)
            intro a551 hA552
            refine q_step hA552 rfl (does_not (wno rfl rfl (.inl (hA552.get 125 _ rfl))) ?_)
            intro a553 hA554
            refine q_step hA554 rfl (d_pickF (wn rfl) (hA554.ev (v := (.bool false)) rfl) (hA554.ev (v := (.bool false)) rfl) ?_)
            intro a555 hA556
            refine q_step hA556 rfl (d_assign (wn rfl) (hA556.ev (v := (.bool false)) rfl) ?_)
            intro a557 hA558
            refine q_end ?_
            refine t_norm ?_
            refine c_false hA558 rfl ?_
            refine wp_seq ?_
            refine wp_region_lit ?_
            refine q_step hA558 rfl (d_iface (wn rfl) (hA558.ev (v := (.int .i64 2)) rfl) conc84 ?_)
            intro a559 hA560
            refine q_step hA560 rfl (d_assign (wn rfl) (hA560.ev (v := (.int .u64 0)) rfl) ?_)
            intro a561 hA562
            refine q_step hA562 rfl (d_assign (wn rfl) (hA562.ev (v := (.iface 84 (.int .i64 2))) rfl) ?_)
            intro a563 hA564
            refine q_end ?_
            refine t_norm ?_
            refine wp_ret ?_
            refine i_ret ?_
            refine t_ret ?_
            refine i_ret ?_
            refine t_ret ?_
            refine t_ret ?_
            refine i_ret ?_
            refine t_ret ?_
            refine ret2 (x := (.int .u64 0)) (y := (.iface 84 (.int .i64 2))) rfl hA564 rfl rfl ?_
            exact ⟨by rw [pu_none (val_bad hy113 (by first | omega | (rw [dv_bad (by omega) (by omega)]; omega)))], Grow.trans b92 b417⟩
      · skip
        have hq565 := ne_of_beq hb129
        refine q_step hA128 rfl (d_bin (wn rfl) (hA128.ev (v := (.int .u8 ((y112.toNat : Nat) : Int))) rfl) (hA128.ev (v := (.int .u8 95)) rfl) (b_eq _ _ ((y112.toNat : Nat) : Int) 95 false _ hb129) ?_)
        intro a566 hA567
        refine q_step hA567 rfl (d_move (wn rfl) (hA567.ev (v := (.bool false)) rfl) ?_)
        intro a568 hA569
        refine q_step hA569 rfl (does_not (wno rfl rfl (.inl (hA569.get 109 _ rfl))) ?_)
        intro a570 hA571
        refine q_step hA571 rfl (d_pickF (wn rfl) (hA571.ev (v := (.bool false)) rfl) (hA571.ev (v := (.bool false)) rfl) ?_)
        intro a572 hA573
        refine q_step hA573 rfl (d_assign (wn rfl) (hA573.ev (v := (.bool false)) rfl) ?_)
        intro a574 hA575
        refine q_end ?_
        refine t_norm ?_
        refine c_false hA575 rfl ?_
        refine wp_seq ?_
        refine wp_region_lit ?_
        refine q_step hA575 rfl (d_move (wn rfl) (hA575.ev (v := (.int .u8 ((y112.toNat : Nat) : Int))) rfl) ?_)
        intro a576 hA577
        rcases Bool.eq_false_or_eq_true (decide ((48 : Int) ≤ ((y112.toNat : Nat) : Int))) with hb578 | hb578
        · skip
          have hq579 := of_decide_eq_true hb578
          refine q_step hA577 rfl (d_bin (wn rfl) (hA577.ev (v := (.int .u8 48)) rfl) (hA577.ev (v := (.int .u8 ((y112.toNat : Nat) : Int))) rfl) (b_le _ _ 48 ((y112.toNat : Nat) : Int) true _ hb578) ?_)
          intro a580 hA581
          refine q_step hA581 rfl (d_move (wn rfl) (hA581.ev (v := (.bool true)) rfl) ?_)
          intro a582 hA583
          refine q_step hA583 rfl (d_move (wy rfl rfl (hA583.get 115 _ rfl)) (hA583.ev (v := (.int .u8 ((y112.toNat : Nat) : Int))) rfl) ?_)
          intro a584 hA585
          rcases Bool.eq_false_or_eq_true (decide (((y112.toNat : Nat) : Int) ≤ 57)) with hb586 | hb586
          · skip
            have hq587 := of_decide_eq_true hb586
            refine q_step hA585 rfl (d_bin (wy rfl rfl (hA585.get 115 _ rfl)) (hA585.ev (v := (.int .u8 ((y112.toNat : Nat) : Int))) rfl) (hA585.ev (v := (.int .u8 57)) rfl) (b_le _ _ ((y112.toNat : Nat) : Int) 57 true _ hb586) ?_)
            intro a588 hA589
            refine q_step hA589 rfl (d_pickT (wn rfl) (hA589.ev (v := (.bool true)) rfl) (hA589.ev (v := (.bool true)) rfl) ?_)
            intro a590 hA591
            refine q_step hA591 rfl (d_assign (wn rfl) (hA591.ev (v := (.bool true)) rfl) ?_)
            intro a592 hA593
            refine q_end ?_
            refine t_norm ?_
            refine c_true hA593 rfl ?_
            refine wp_region_lit ?_
            refine q_step hA593 rfl (d_move (wn rfl) (hA593.ev (v := (.int .u8 ((y112.toNat : Nat) : Int))) rfl) ?_)
            intro a594 hA595
            refine q_step hA595 rfl (d_bin (wn rfl) (hA595.ev (v := (.int .u8 ((y112.toNat : Nat) : Int))) rfl) (hA595.ev (v := (.int .u8 48)) rfl) (b_subK (((y112.toNat : Nat) : Int) - 48) (wrap8 (by omega) (by omega))) ?_)
            intro a596 hA597
            refine q_step hA597 rfl (d_assign (wn rfl) (hA597.ev (v := (.int .u8 (((y112.toNat : Nat) : Int) - 48))) rfl) ?_)
            intro a598 hA599
            have hdv : dv y112 = y112.toNat - 48 := dv_dig (by omega) (by omega)
            refine q_end ?_
            refine i_norm ?_
            refine t_norm ?_
            refine wp_seq ?_
            refine wp_seq ?_
            refine wp_region_lit ?_
            refine q_step hA599 rfl (d_move (wn rfl) (hA599.ev (v := (.int .u8 (((y112.toNat : Nat) : Int) - 48))) rfl) ?_)
            intro a600 hA601
            refine q_step hA601 rfl (d_move (wn rfl) (hA601.ev (v := (.int .i64 10)) rfl) ?_)
            intro a602 hA603
            refine q_step hA603 rfl (d_conv 10 (wn rfl) (hA603.ev (v := (.int .i64 10)) rfl) knd3 knd5 rfl ?_)
            intro a604 hA605
            rcases Bool.eq_false_or_eq_true (decide (((y112.toNat : Nat) : Int) - 48 ≥ 10)) with hb606 | hb606
            · skip
              have hq607 := of_decide_eq_true hb606
              refine q_step hA605 rfl (d_bin (wn rfl) (hA605.ev (v := (.int .u8 (((y112.toNat : Nat) : Int) - 48))) rfl) (hA605.ev (v := (.int .u8 10)) rfl) (b_ge _ _ (((y112.toNat : Nat) : Int) - 48) 10 true _ hb606) ?_)
              intro a608 hA609
              refine q_end ?_
              refine t_norm ?_
              refine c_true hA609 rfl ?_
              refine wp_seq ?_
              refine wp_region_lit ?_
              refine q_step hA609 rfl (d_iface (wn rfl) (hA609.ev (v := (.int .i64 2)) rfl) conc84 ?_)
              intro a610 hA611
              refine q_step hA611 rfl (d_assign (wn rfl) (hA611.ev (v := (.int .u64 0)) rfl) ?_)
              intro a612 hA613
              refine q_step hA613 rfl (d_assign (wn rfl) (hA613.ev (v := (.iface 84 (.int .i64 2))) rfl) ?_)
              intro a614 hA615
              refine q_end ?_
              refine t_norm ?_
              refine wp_ret ?_
              refine t_ret ?_
              refine i_ret ?_
              refine t_ret ?_
              refine t_ret ?_
              refine i_ret ?_
              refine t_ret ?_
              refine ret2 (x := (.int .u64 0)) (y := (.iface 84 (.int .i64 2))) rfl hA615 rfl rfl ?_
              exact ⟨by rw [pu_none (val_bad hy113 (by first | omega | (rw [dv_bad (by omega) (by omega)]; omega)))], Grow.trans b92 b105⟩
            · skip
              have hq616 := of_decide_eq_false hb606
              refine q_step hA605 rfl (d_bin (wn rfl) (hA605.ev (v := (.int .u8 (((y112.toNat : Nat) : Int) - 48))) rfl) (hA605.ev (v := (.int .u8 10)) rfl) (b_ge _ _ (((y112.toNat : Nat) : Int) - 48) 10 false _ hb606) ?_)
              intro a617 hA618
              refine q_end ?_
              refine t_norm ?_
              refine c_false hA618 rfl ?_
              refine wp_skip ?_
              refine t_norm ?_
              refine wp_seq ?_
              refine wp_seq ?_
              refine wp_region_lit ?_
              refine q_step hA618 rfl (d_move (wn rfl) (hA618.ev (v := (.int .u64 ((nv 10 (List.take j100 l) : Nat) : Int))) rfl) ?_)
              intro a619 hA620
              refine q_step hA620 rfl (d_move (wn rfl) (hA620.ev (v := (.int .u64 1844674407370955162)) rfl) ?_)
              intro a621 hA622
              refine q_step hA622 rfl (d_bin (wn rfl) (hA622.ev (v := (.int .u64 ((nv 10 (List.take j100 l) : Nat) : Int))) rfl) (hA622.ev (v := (.int .u64 1844674407370955162)) rfl) (b_ge _ _ ((nv 10 (List.take j100 l) : Nat) : Int) 1844674407370955162 false _ (decide_eq_false (by omega))) ?_)
              intro a623 hA624
              refine q_end ?_
              refine t_norm ?_
              refine c_false hA624 rfl ?_
              refine wp_skip ?_
              refine t_norm ?_
              refine wp_seq ?_
              refine wp_region_lit ?_
              refine q_step hA624 rfl (d_move (wn rfl) (hA624.ev (v := (.int .u64 ((nv 10 (List.take j100 l) : Nat) : Int))) rfl) ?_)
              intro a625 hA626
              refine q_step hA626 rfl (d_move (wn rfl) (hA626.ev (v := (.int .i64 10)) rfl) ?_)
              intro a627 hA628
              refine q_step hA628 rfl (d_conv 10 (wn rfl) (hA628.ev (v := (.int .i64 10)) rfl) knd3 knd70 rfl ?_)
              intro a629 hA630
              refine q_step hA630 rfl (d_bin (wn rfl) (hA630.ev (v := (.int .u64 ((nv 10 (List.take j100 l) : Nat) : Int))) rfl) (hA630.ev (v := (.int .u64 10)) rfl) (b_mulK (((nv 10 (List.take j100 l) : Nat) : Int) * 10) (wrap64 (by omega) (by omega))) ?_)
              intro a631 hA632
              refine q_step hA632 rfl (d_assign (wn rfl) (hA632.ev (v := (.int .u64 (((nv 10 (List.take j100 l) : Nat) : Int) * 10))) rfl) ?_)
              intro a633 hA634
              refine q_end ?_
              refine t_norm ?_
              refine wp_seq ?_
              refine wp_region_lit ?_
              refine q_step hA634 rfl (d_move (wn rfl) (hA634.ev (v := (.int .u64 (((nv 10 (List.take j100 l) : Nat) : Int) * 10))) rfl) ?_)
              intro a635 hA636
              refine q_step hA636 rfl (d_move (wn rfl) (hA636.ev (v := (.int .u8 (((y112.toNat : Nat) : Int) - 48))) rfl) ?_)
              intro a637 hA638
              refine q_step hA638 rfl (d_conv (((y112.toNat : Nat) : Int) - 48) (wn rfl) (hA638.ev (v := (.int .u8 (((y112.toNat : Nat) : Int) - 48))) rfl) knd5 knd70 (wrap64 (by omega) (by omega)) ?_)
              intro a639 hA640
              refine q_step hA640 rfl (d_bin (wn rfl) (hA640.ev (v := (.int .u64 (((nv 10 (List.take j100 l) : Nat) : Int) * 10))) rfl) (hA640.ev (v := (.int .u64 (((y112.toNat : Nat) : Int) - 48))) rfl) (b_addK (((nv 10 (List.take j100 l) : Nat) : Int) * 10 + (((y112.toNat : Nat) : Int) - 48)) (wrap64 (by omega) (by omega))) ?_)
              intro a641 hA642
              refine q_step hA642 rfl (d_assign (wn rfl) (hA642.ev (v := (.int .u64 (((nv 10 (List.take j100 l) : Nat) : Int) * 10 + (((y112.toNat : Nat) : Int) - 48)))) rfl) ?_)
              intro a643 hA644
              refine q_end ?_
              have hA645 : St 172 [(1, (.int .i64 10)), (6, (.int .u64 0)), (7, (.nilIface)), (8, (.bool false)), (9, (.string (S l))), (10, (.int .u64 1844674407370955162)), (11, (.int .u64 18446744073709551615)), (12, (.bool false)), (13, (.int .u64 (((nv 10 (List.take j100 l) : Nat) : Int) * 10))), (17, (.int .u64 (((nv 10 (List.take j100 l) : Nat) : Int) * 10 + (((y112.toNat : Nat) : Int) - 48)))), (99, v88), (100, (.int .i64 ((l.length : Nat) : Int))), (101, (.int .i64 ((j100 : Nat) : Int)))] a643 := hA644.cut _ (fm_cons (hA644.get 1 _ rfl) (fm_cons (hA644.get 6 _ rfl) (fm_cons (hA644.get 7 _ rfl) (fm_cons (hA644.get 8 _ rfl) (fm_cons (hA644.get 9 _ rfl) (fm_cons (hA644.get 10 _ rfl) (fm_cons (hA644.get 11 _ rfl) (fm_cons (hA644.get 12 _ rfl) (fm_cons (hA644.get 13 _ rfl) (fm_cons (hA644.get 17 _ rfl) (fm_cons (hA644.get 99 _ rfl) (fm_cons (hA644.get 100 _ rfl) (fm_cons (hA644.get 101 _ rfl) fm_nil)))))))))))))
              refine t_norm ?_
              refine wp_seq ?_
              refine wp_seq ?_
              refine wp_region_lit ?_
              refine q_step hA645 rfl (d_move (wn rfl) (hA645.ev (v := (.int .u64 (((nv 10 (List.take j100 l) : Nat) : Int) * 10 + (((y112.toNat : Nat) : Int) - 48)))) rfl) ?_)
              intro a646 hA647
              refine q_step hA647 rfl (d_move (wn rfl) (hA647.ev (v := (.int .u64 (((nv 10 (List.take j100 l) : Nat) : Int) * 10))) rfl) ?_)
              intro a648 hA649
              refine q_step hA649 rfl (d_bin (wn rfl) (hA649.ev (v := (.int .u64 (((nv 10 (List.take j100 l) : Nat) : Int) * 10 + (((y112.toNat : Nat) : Int) - 48)))) rfl) (hA649.ev (v := (.int .u64 (((nv 10 (List.take j100 l) : Nat) : Int) * 10))) rfl) (b_lt _ _ (((nv 10 (List.take j100 l) : Nat) : Int) * 10 + (((y112.toNat : Nat) : Int) - 48)) (((nv 10 (List.take j100 l) : Nat) : Int) * 10) false _ (decide_eq_false (by omega))) ?_)
              intro a650 hA651
              refine q_step hA651 rfl (d_move (wn rfl) (hA651.ev (v := (.bool false)) rfl) ?_)
              intro a652 hA653
              refine q_step hA653 rfl (d_move (wy rfl rfl (hA653.get 155 _ rfl)) (hA653.ev (v := (.int .u64 (((nv 10 (List.take j100 l) : Nat) : Int) * 10 + (((y112.toNat : Nat) : Int) - 48)))) rfl) ?_)
              intro a654 hA655
              refine q_step hA655 rfl (d_move (wy rfl rfl (hA655.get 155 _ rfl)) (hA655.ev (v := (.int .u64 18446744073709551615)) rfl) ?_)
              intro a656 hA657
              refine q_step hA657 rfl (d_bin (wy rfl rfl (hA657.get 155 _ rfl)) (hA657.ev (v := (.int .u64 (((nv 10 (List.take j100 l) : Nat) : Int) * 10 + (((y112.toNat : Nat) : Int) - 48)))) rfl) (hA657.ev (v := (.int .u64 18446744073709551615)) rfl) (b_gt _ _ (((nv 10 (List.take j100 l) : Nat) : Int) * 10 + (((y112.toNat : Nat) : Int) - 48)) 18446744073709551615 false _ (decide_eq_false (by omega))) ?_)
              intro a658 hA659
              refine q_step hA659 rfl (d_pickF (wn rfl) (hA659.ev (v := (.bool false)) rfl) (hA659.ev (v := (.bool false)) rfl) ?_)
              intro a660 hA661
              refine q_end ?_
              refine t_norm ?_
              refine c_false hA661 rfl ?_
              refine wp_skip ?_
              refine t_norm ?_
              refine wp_region_lit ?_
              refine q_step hA661 rfl (d_move (wn rfl) (hA661.ev (v := (.int .u64 (((nv 10 (List.take j100 l) : Nat) : Int) * 10 + (((y112.toNat : Nat) : Int) - 48)))) rfl) ?_)
              intro a662 hA663
              refine q_step hA663 rfl (d_assign (wn rfl) (hA663.ev (v := (.int .u64 (((nv 10 (List.take j100 l) : Nat) : Int) * 10 + (((y112.toNat : Nat) : Int) - 48)))) rfl) ?_)
              intro a664 hA665
              refine q_end ?_
              refine i_norm ?_
              refine t_norm ?_
              refine wp_region_lit ?_
              refine q_step hA665 rfl (d_bin (wn rfl) (hA665.ev (v := (.int .i64 ((j100 : Nat) : Int))) rfl) (hA665.ev (v := (.int .i64 1)) rfl) (b_addE (j100 + 1) (by omega) (by omega)) ?_)
              intro a666 hA667
              refine q_step hA667 rfl (d_move (wn rfl) (hA667.ev (v := (.int .i64 ((j100 + 1 : Nat) : Int))) rfl) ?_)
              intro a668 hA669
              refine q_end ?_
              refine t_norm ?_
              have hgo := nv_go (bs := 10) hy113
              have hall2 := all_go hy113 hall (by omega)
              exact ⟨l.length - (j100 + 1), (by rw [hm106]; omega), j100 + 1, rfl, ⟨by omega, hall2⟩, hA669.cut _ (fm_cons (hA669.get 1 _ rfl) (fm_cons (hA669.get 6 _ rfl) (fm_cons (hA669.get 7 _ rfl) (fm_cons (hA669.get 8 _ rfl) (fm_cons (hA669.get 9 _ rfl) (fm_cons (hA669.get 10 _ rfl) (fm_cons (hA669.get 11 _ rfl) (fm_cons (hA669.get 12 _ rfl) (fm_cons ((hA669.get 13 _ rfl).trans (congrArg (Value.int .u64) (by omega))) (fm_cons (hA669.get 99 _ rfl) (fm_cons (hA669.get 100 _ rfl) (fm_cons (hA669.get 101 _ rfl) fm_nil)))))))))))), b105⟩
          · skip
            have hq670 := of_decide_eq_false hb586
            refine q_step hA585 rfl (d_bin (wy rfl rfl (hA585.get 115 _ rfl)) (hA585.ev (v := (.int .u8 ((y112.toNat : Nat) : Int))) rfl) (hA585.ev (v := (.int .u8 57)) rfl) (b_le _ _ ((y112.toNat : Nat) : Int) 57 false _ hb586) ?_)
            intro a671 hA672
            refine q_step hA672 rfl (d_pickT (wn rfl) (hA672.ev (v := (.bool true)) rfl) (hA672.ev (v := (.bool false)) rfl) ?_)
            intro a673 hA674
            refine q_step hA674 rfl (d_assign (wn rfl) (hA674.ev (v := (.bool false)) rfl) ?_)
            intro a675 hA676
            refine q_end ?_
            refine t_norm ?_
            refine c_false hA676 rfl ?_
            refine wp_seq ?_
            refine wp_region_lit ?_
            refine q_step hA676 rfl (d_move (wn rfl) (hA676.ev (v := (.int .u8 ((y112.toNat : Nat) : Int))) rfl) ?_)
            intro a677 hA678
            have hlw := lowB_le y112
            refine q_step hA678 rfl (d_call (wn rfl) ent63 (map1 (hA678.ev (v := (.int .u8 ((y112.toNat : Nat) : Int))) rfl)) (lower_any y112 w103) ?_)
            rintro e682 w679 ⟨he681, hG680⟩
            have hr683 := range_below hr117 hG680 (Nat.lt_of_lt_of_le lt116 b105.size)
            have b684 := below_grow b105 hG680 b105.size
            refine ⟨(.int .u8 ((lowB y112 : Nat) : Int)), he681, ?_⟩
            intro a685 hA686
            rcases Bool.eq_false_or_eq_true (decide ((97 : Int) ≤ ((lowB y112 : Nat) : Int))) with hb687 | hb687
            · skip
              have hq688 := of_decide_eq_true hb687
              refine q_step hA686 rfl (d_bin (wn rfl) (hA686.ev (v := (.int .u8 97)) rfl) (hA686.ev (v := (.int .u8 ((lowB y112 : Nat) : Int))) rfl) (b_le _ _ 97 ((lowB y112 : Nat) : Int) true _ hb687) ?_)
              intro a689 hA690
              refine q_step hA690 rfl (d_move (wn rfl) (hA690.ev (v := (.bool true)) rfl) ?_)
              intro a691 hA692
              refine q_step hA692 rfl (d_move (wy rfl rfl (hA692.get 125 _ rfl)) (hA692.ev (v := (.int .u8 ((y112.toNat : Nat) : Int))) rfl) ?_)
              intro a693 hA694
              have hlw := lowB_le y112
              refine q_step hA694 rfl (d_call (wy rfl rfl (hA694.get 125 _ rfl)) ent63 (map1 (hA694.ev (v := (.int .u8 ((y112.toNat : Nat) : Int))) rfl)) (lower_any y112 w679) ?_)
              rintro e698 w695 ⟨he697, hG696⟩
              have hr699 := range_below hr683 hG696 (Nat.lt_of_lt_of_le lt116 b684.size)
              have b700 := below_grow b684 hG696 b684.size
              refine ⟨(.int .u8 ((lowB y112 : Nat) : Int)), he697, ?_⟩
              intro a701 hA702
              rcases Bool.eq_false_or_eq_true (decide (((lowB y112 : Nat) : Int) ≤ 122)) with hb703 | hb703
              · skip
                have hq704 := of_decide_eq_true hb703
                refine q_step hA702 rfl (d_bin (wy rfl rfl (hA702.get 125 _ rfl)) (hA702.ev (v := (.int .u8 ((lowB y112 : Nat) : Int))) rfl) (hA702.ev (v := (.int .u8 122)) rfl) (b_le _ _ ((lowB y112 : Nat) : Int) 122 true _ hb703) ?_)
                intro a705 hA706
                refine q_step hA706 rfl (d_pickT (wn rfl) (hA706.ev (v := (.bool true)) rfl) (hA706.ev (v := (.bool true)) rfl) ?_)
                intro a707 hA708
                refine q_step hA708 rfl (d_assign (wn rfl) (hA708.ev (v := (.bool true)) rfl) ?_)
                intro a709 hA710
                refine q_end ?_
                refine t_norm ?_
                refine c_true hA710 rfl ?_
                refine wp_region_lit ?_
                refine q_step hA710 rfl (d_move (wn rfl) (hA710.ev (v := (.int .u8 ((y112.toNat : Nat) : Int))) rfl) ?_)
                intro a711 hA712
                have hlw := lowB_le y112
                refine q_step hA712 rfl (d_call (wn rfl) ent63 (map1 (hA712.ev (v := (.int .u8 ((y112.toNat : Nat) : Int))) rfl)) (lower_any y112 w695) ?_)
                rintro e716 w713 ⟨he715, hG714⟩
                have hr717 := range_below hr699 hG714 (Nat.lt_of_lt_of_le lt116 b700.size)
                have b718 := below_grow b700 hG714 b700.size
                refine ⟨(.int .u8 ((lowB y112 : Nat) : Int)), he715, ?_⟩
                intro a719 hA720
                refine q_step hA720 rfl (d_bin (wn rfl) (hA720.ev (v := (.int .u8 ((lowB y112 : Nat) : Int))) rfl) (hA720.ev (v := (.int .u8 97)) rfl) (b_subK (((lowB y112 : Nat) : Int) - 97) (wrap8 (by omega) (by omega))) ?_)
                intro a721 hA722
                refine q_step hA722 rfl (d_bin (wn rfl) (hA722.ev (v := (.int .u8 (((lowB y112 : Nat) : Int) - 97))) rfl) (hA722.ev (v := (.int .u8 10)) rfl) (b_addK (((lowB y112 : Nat) : Int) - 97 + 10) (wrap8 (by omega) (by omega))) ?_)
                intro a723 hA724
                refine q_step hA724 rfl (d_assign (wn rfl) (hA724.ev (v := (.int .u8 (((lowB y112 : Nat) : Int) - 97 + 10))) rfl) ?_)
                intro a725 hA726
                have hdv : dv y112 = lowB y112 - 97 + 10 := dv_let (by omega) (by omega) (by omega)
                refine q_end ?_
                refine i_norm ?_
                refine t_norm ?_
                refine wp_seq ?_
                refine wp_seq ?_
                refine wp_region_lit ?_
                refine q_step hA726 rfl (d_move (wn rfl) (hA726.ev (v := (.int .u8 (((lowB y112 : Nat) : Int) - 97 + 10))) rfl) ?_)
                intro a727 hA728
                refine q_step hA728 rfl (d_move (wn rfl) (hA728.ev (v := (.int .i64 10)) rfl) ?_)
                intro a729 hA730
                refine q_step hA730 rfl (d_conv 10 (wn rfl) (hA730.ev (v := (.int .i64 10)) rfl) knd3 knd5 rfl ?_)
                intro a731 hA732
                rcases Bool.eq_false_or_eq_true (decide (((lowB y112 : Nat) : Int) - 97 + 10 ≥ 10)) with hb733 | hb733
                · skip
                  have hq734 := of_decide_eq_true hb733
                  refine q_step hA732 rfl (d_bin (wn rfl) (hA732.ev (v := (.int .u8 (((lowB y112 : Nat) : Int) - 97 + 10))) rfl) (hA732.ev (v := (.int .u8 10)) rfl) (b_ge _ _ (((lowB y112 : Nat) : Int) - 97 + 10) 10 true _ hb733) ?_)
                  intro a735 hA736
                  refine q_end ?_
                  have hA737 : St 172 [(1, (.int .i64 10)), (6, (.int .u64 0)), (7, (.nilIface)), (8, (.bool false)), (9, (.string (S l))), (10, (.int .u64 1844674407370955162)), (11, (.int .u64 18446744073709551615)), (12, (.bool false)), (13, (.int .u64 ((nv 10 (List.take j100 l) : Nat) : Int))), (16, (.int .u8 (((lowB y112 : Nat) : Int) - 97 + 10))), (99, v88), (100, (.int .i64 ((l.length : Nat) : Int))), (101, (.int .i64 ((j100 : Nat) : Int))), (137, (.bool true))] a735 := hA736.cut _ (fm_cons (hA736.get 1 _ rfl) (fm_cons (hA736.get 6 _ rfl) (fm_cons (hA736.get 7 _ rfl) (fm_cons (hA736.get 8 _ rfl) (fm_cons (hA736.get 9 _ rfl) (fm_cons (hA736.get 10 _ rfl) (fm_cons (hA736.get 11 _ rfl) (fm_cons (hA736.get 12 _ rfl) (fm_cons (hA736.get 13 _ rfl) (fm_cons (hA736.get 16 _ rfl) (fm_cons (hA736.get 99 _ rfl) (fm_cons (hA736.get 100 _ rfl) (fm_cons (hA736.get 101 _ rfl) (fm_cons (hA736.get 137 _ rfl) fm_nil))))))))))))))
                  refine t_norm ?_
                  refine c_true hA737 rfl ?_
                  refine wp_seq ?_
                  refine wp_region_lit ?_
                  refine q_step hA737 rfl (d_iface (wn rfl) (hA737.ev (v := (.int .i64 2)) rfl) conc84 ?_)
                  intro a738 hA739
                  refine q_step hA739 rfl (d_assign (wn rfl) (hA739.ev (v := (.int .u64 0)) rfl) ?_)
                  intro a740 hA741
                  refine q_step hA741 rfl (d_assign (wn rfl) (hA741.ev (v := (.iface 84 (.int .i64 2))) rfl) ?_)
                  intro a742 hA743
                  refine q_end ?_
                  refine t_norm ?_
                  refine wp_ret ?_
                  refine t_ret ?_
                  refine i_ret ?_
                  refine t_ret ?_
                  refine t_ret ?_
                  refine i_ret ?_
                  refine t_ret ?_
                  refine ret2 (x := (.int .u64 0)) (y := (.iface 84 (.int .i64 2))) rfl hA743 rfl rfl ?_
                  exact ⟨by rw [pu_none (val_bad hy113 (by first | omega | (rw [dv_bad (by omega) (by omega)]; omega)))], Grow.trans b92 b718⟩
                · skip
                  have hq744 := of_decide_eq_false hb733
                  refine q_step hA732 rfl (d_bin (wn rfl) (hA732.ev (v := (.int .u8 (((lowB y112 : Nat) : Int) - 97 + 10))) rfl) (hA732.ev (v := (.int .u8 10)) rfl) (b_ge _ _ (((lowB y112 : Nat) : Int) - 97 + 10) 10 false _ hb733) ?_)
                  intro a745 hA746
                  refine q_end ?_
                  have hA747 : St 172 [(1, (.int .i64 10)), (6, (.int .u64 0)), (7, (.nilIface)), (8, (.bool false)), (9, (.string (S l))), (10, (.int .u64 1844674407370955162)), (11, (.int .u64 18446744073709551615)), (12, (.bool false)), (13, (.int .u64 ((nv 10 (List.take j100 l) : Nat) : Int))), (16, (.int .u8 (((lowB y112 : Nat) : Int) - 97 + 10))), (99, v88), (100, (.int .i64 ((l.length : Nat) : Int))), (101, (.int .i64 ((j100 : Nat) : Int))), (137, (.bool false))] a745 := hA746.cut _ (fm_cons (hA746.get 1 _ rfl) (fm_cons (hA746.get 6 _ rfl) (fm_cons (hA746.get 7 _ rfl) (fm_cons (hA746.get 8 _ rfl) (fm_cons (hA746.get 9 _ rfl) (fm_cons (hA746.get 10 _ rfl) (fm_cons (hA746.get 11 _ rfl) (fm_cons (hA746.get 12 _ rfl) (fm_cons (hA746.get 13 _ rfl) (fm_cons (hA746.get 16 _ rfl) (fm_cons (hA746.get 99 _ rfl) (fm_cons (hA746.get 100 _ rfl) (fm_cons (hA746.get 101 _ rfl) (fm_cons (hA746.get 137 _ rfl) fm_nil))))))))))))))
                  refine t_norm ?_
                  refine c_false hA747 rfl ?_
                  refine wp_skip ?_
                  refine t_norm ?_
                  refine wp_seq ?_
                  refine wp_seq ?_
                  refine wp_region_lit ?_
                  refine q_step hA747 rfl (d_move (wn rfl) (hA747.ev (v := (.int .u64 ((nv 10 (List.take j100 l) : Nat) : Int))) rfl) ?_)
                  intro a748 hA749
                  refine q_step hA749 rfl (d_move (wn rfl) (hA749.ev (v := (.int .u64 1844674407370955162)) rfl) ?_)
                  intro a750 hA751
                  refine q_step hA751 rfl (d_bin (wn rfl) (hA751.ev (v := (.int .u64 ((nv 10 (List.take j100 l) : Nat) : Int))) rfl) (hA751.ev (v := (.int .u64 1844674407370955162)) rfl) (b_ge _ _ ((nv 10 (List.take j100 l) : Nat) : Int) 1844674407370955162 false _ (decide_eq_false (by omega))) ?_)
                  intro a752 hA753
                  refine q_end ?_
                  refine t_norm ?_
                  refine c_false hA753 rfl ?_
                  refine wp_skip ?_
                  refine t_norm ?_
                  refine wp_seq ?_
                  refine wp_region_lit ?_
                  refine q_step hA753 rfl (d_move (wn rfl) (hA753.ev (v := (.int .u64 ((nv 10 (List.take j100 l) : Nat) : Int))) rfl) ?_)
                  intro a754 hA755
                  refine q_step hA755 rfl (d_move (wn rfl) (hA755.ev (v := (.int .i64 10)) rfl) ?_)
                  intro a756 hA757
                  refine q_step hA757 rfl (d_conv 10 (wn rfl) (hA757.ev (v := (.int .i64 10)) rfl) knd3 knd70 rfl ?_)
                  intro a758 hA759
                  refine q_step hA759 rfl (d_bin (wn rfl) (hA759.ev (v := (.int .u64 ((nv 10 (List.take j100 l) : Nat) : Int))) rfl) (hA759.ev (v := (.int .u64 10)) rfl) (b_mulK (((nv 10 (List.take j100 l) : Nat) : Int) * 10) (wrap64 (by omega) (by omega))) ?_)
                  intro a760 hA761
                  refine q_step hA761 rfl (d_assign (wn rfl) (hA761.ev (v := (.int .u64 (((nv 10 (List.take j100 l) : Nat) : Int) * 10))) rfl) ?_)
                  intro a762 hA763
                  refine q_end ?_
                  refine t_norm ?_
                  refine wp_seq ?_
                  refine wp_region_lit ?_
                  refine q_step hA763 rfl (d_move (wn rfl) (hA763.ev (v := (.int .u64 (((nv 10 (List.take j100 l) : Nat) : Int) * 10))) rfl) ?_)
                  intro a764 hA765
                  refine q_step hA765 rfl (d_move (wn rfl) (hA765.ev (v := (.int .u8 (((lowB y112 : Nat) : Int) - 97 + 10))) rfl) ?_)
                  intro a766 hA767
                  refine q_step hA767 rfl (d_conv (((lowB y112 : Nat) : Int) - 97 + 10) (wn rfl) (hA767.ev (v := (.int .u8 (((lowB y112 : Nat) : Int) - 97 + 10))) rfl) knd5 knd70 (wrap64 (by omega) (by omega)) ?_)
                  intro a768 hA769
                  refine q_step hA769 rfl (d_bin (wn rfl) (hA769.ev (v := (.int .u64 (((nv 10 (List.take j100 l) : Nat) : Int) * 10))) rfl) (hA769.ev (v := (.int .u64 (((lowB y112 : Nat) : Int) - 97 + 10))) rfl) (b_addK (((nv 10 (List.take j100 l) : Nat) : Int) * 10 + (((lowB y112 : Nat) : Int) - 97 + 10)) (wrap64 (by omega) (by omega))) ?_)
                  intro a770 hA771
                  refine q_step hA771 rfl (d_assign (wn rfl) (hA771.ev (v := (.int .u64 (((nv 10 (List.take j100 l) : Nat) : Int) * 10 + (((lowB y112 : Nat) : Int) - 97 + 10)))) rfl) ?_)
                  intro a772 hA773
                  refine q_end ?_
                  refine t_norm ?_
                  refine wp_seq ?_
                  refine wp_seq ?_
                  refine wp_region_lit ?_
                  refine q_step hA773 rfl (d_move (wn rfl) (hA773.ev (v := (.int .u64 (((nv 10 (List.take j100 l) : Nat) : Int) * 10 + (((lowB y112 : Nat) : Int) - 97 + 10)))) rfl) ?_)
                  intro a774 hA775
                  refine q_step hA775 rfl (d_move (wn rfl) (hA775.ev (v := (.int .u64 (((nv 10 (List.take j100 l) : Nat) : Int) * 10))) rfl) ?_)
                  intro a776 hA777
                  refine q_step hA777 rfl (d_bin (wn rfl) (hA777.ev (v := (.int .u64 (((nv 10 (List.take j100 l) : Nat) : Int) * 10 + (((lowB y112 : Nat) : Int) - 97 + 10)))) rfl) (hA777.ev (v := (.int .u64 (((nv 10 (List.take j100 l) : Nat) : Int) * 10))) rfl) (b_lt _ _ (((nv 10 (List.take j100 l) : Nat) : Int) * 10 + (((lowB y112 : Nat) : Int) - 97 + 10)) (((nv 10 (List.take j100 l) : Nat) : Int) * 10) false _ (decide_eq_false (by omega))) ?_)
                  intro a778 hA779
                  refine q_step hA779 rfl (d_move (wn rfl) (hA779.ev (v := (.bool false)) rfl) ?_)
                  intro a780 hA781
                  refine q_step hA781 rfl (d_move (wy rfl rfl (hA781.get 155 _ rfl)) (hA781.ev (v := (.int .u64 (((nv 10 (List.take j100 l) : Nat) : Int) * 10 + (((lowB y112 : Nat) : Int) - 97 + 10)))) rfl) ?_)
                  intro a782 hA783
                  refine q_step hA783 rfl (d_move (wy rfl rfl (hA783.get 155 _ rfl)) (hA783.ev (v := (.int .u64 18446744073709551615)) rfl) ?_)
                  intro a784 hA785
                  refine q_step hA785 rfl (d_bin (wy rfl rfl (hA785.get 155 _ rfl)) (hA785.ev (v := (.int .u64 (((nv 10 (List.take j100 l) : Nat) : Int) * 10 + (((lowB y112 : Nat) : Int) - 97 + 10)))) rfl) (hA785.ev (v := (.int .u64 18446744073709551615)) rfl) (b_gt _ _ (((nv 10 (List.take j100 l) : Nat) : Int) * 10 + (((lowB y112 : Nat) : Int) - 97 + 10)) 18446744073709551615 false _ (decide_eq_false (by omega))) ?_)
                  intro a786 hA787
                  refine q_step hA787 rfl (d_pickF (wn rfl) (hA787.ev (v := (.bool false)) rfl) (hA787.ev (v := (.bool false)) rfl) ?_)
                  intro a788 hA789
                  refine q_end ?_
                  refine t_norm ?_
                  refine c_false hA789 rfl ?_
                  refine wp_skip ?_
                  refine t_norm ?_
                  refine wp_region_lit ?_
                  refine q_step hA789 rfl (d_move (wn rfl) (hA789.ev (v := (.int .u64 (((nv 10 (List.take j100 l) : Nat) : Int) * 10 + (((lowB y112 : Nat) : Int) - 97 + 10)))) rfl) ?_)
                  intro a790 hA791
                  refine q_step hA791 rfl (d_assign (wn rfl) (hA791.ev (v := (.int .u64 (((nv 10 (List.take j100 l) : Nat) : Int) * 10 + (((lowB y112 : Nat) : Int) - 97 + 10)))) rfl) ?_)
                  intro a792 hA793
                  refine q_end ?_
                  refine i_norm ?_
                  refine t_norm ?_
                  refine wp_region_lit ?_
                  refine q_step hA793 rfl (d_bin (wn rfl) (hA793.ev (v := (.int .i64 ((j100 : Nat) : Int))) rfl) (hA793.ev (v := (.int .i64 1)) rfl) (b_addE (j100 + 1) (by omega) (by omega)) ?_)
                  intro a794 hA795
                  refine q_step hA795 rfl (d_move (wn rfl) (hA795.ev (v := (.int .i64 ((j100 + 1 : Nat) : Int))) rfl) ?_)
                  intro a796 hA797
                  refine q_end ?_
                  refine t_norm ?_
                  have hgo := nv_go (bs := 10) hy113
                  have hall2 := all_go hy113 hall (by omega)
                  exact ⟨l.length - (j100 + 1), (by rw [hm106]; omega), j100 + 1, rfl, ⟨by omega, hall2⟩, hA797.cut _ (fm_cons (hA797.get 1 _ rfl) (fm_cons (hA797.get 6 _ rfl) (fm_cons (hA797.get 7 _ rfl) (fm_cons (hA797.get 8 _ rfl) (fm_cons (hA797.get 9 _ rfl) (fm_cons (hA797.get 10 _ rfl) (fm_cons (hA797.get 11 _ rfl) (fm_cons (hA797.get 12 _ rfl) (fm_cons ((hA797.get 13 _ rfl).trans (congrArg (Value.int .u64) (by omega))) (fm_cons (hA797.get 99 _ rfl) (fm_cons (hA797.get 100 _ rfl) (fm_cons (hA797.get 101 _ rfl) fm_nil)))))))))))), b718⟩
              · skip
                have hq798 := of_decide_eq_false hb703
                refine q_step hA702 rfl (d_bin (wy rfl rfl (hA702.get 125 _ rfl)) (hA702.ev (v := (.int .u8 ((lowB y112 : Nat) : Int))) rfl) (hA702.ev (v := (.int .u8 122)) rfl) (b_le _ _ ((lowB y112 : Nat) : Int) 122 false _ hb703) ?_)
                intro a799 hA800
                refine q_step hA800 rfl (d_pickT (wn rfl) (hA800.ev (v := (.bool true)) rfl) (hA800.ev (v := (.bool false)) rfl) ?_)
                intro a801 hA802
                refine q_step hA802 rfl (d_assign (wn rfl) (hA802.ev (v := (.bool false)) rfl) ?_)
                intro a803 hA804
                refine q_end ?_
                refine t_norm ?_
                refine c_false hA804 rfl ?_
                refine wp_seq ?_
                refine wp_region_lit ?_
                refine q_step hA804 rfl (d_iface (wn rfl) (hA804.ev (v := (.int .i64 2)) rfl) conc84 ?_)
                intro a805 hA806
                refine q_step hA806 rfl (d_assign (wn rfl) (hA806.ev (v := (.int .u64 0)) rfl) ?_)
                intro a807 hA808
                refine q_step hA808 rfl (d_assign (wn rfl) (hA808.ev (v := (.iface 84 (.int .i64 2))) rfl) ?_)
                intro a809 hA810
                refine q_end ?_
                refine t_norm ?_
                refine wp_ret ?_
                refine i_ret ?_
                refine t_ret ?_
                refine i_ret ?_
                refine t_ret ?_
                refine t_ret ?_
                refine i_ret ?_
                refine t_ret ?_
                refine ret2 (x := (.int .u64 0)) (y := (.iface 84 (.int .i64 2))) rfl hA810 rfl rfl ?_
                exact ⟨by rw [pu_none (val_bad hy113 (by first | omega | (rw [dv_bad (by omega) (by omega)]; omega)))], Grow.trans b92 b700⟩
            · skip
              have hq811 := of_decide_eq_false hb687
              refine q_step hA686 rfl (d_bin (wn rfl) (hA686.ev (v := (.int .u8 97)) rfl) (hA686.ev (v := (.int .u8 ((lowB y112 : Nat) : Int))) rfl) (b_le _ _ 97 ((lowB y112 : Nat) : Int) false _ hb687) ?_)
              intro a812 hA813
              refine q_step hA813 rfl (d_move (wn rfl) (hA813.ev (v := (.bool false)) rfl) ?_)
              intro a814 hA815
              refine q_step hA815 rfl (does_not (wno rfl rfl (.inl (hA815.get 125 _ rfl))) ?_)
              intro a816 hA817
              refine q_step hA817 rfl (does_not (wno rfl rfl (.inl (hA817.get 125 _ rfl))) ?_)
              intro a818 hA819
              refine q_step hA819 rfl (does_not (wno rfl rfl (.inl (hA819.get 125 _ rfl))) ?_)
              intro a820 hA821
              refine q_step hA821 rfl (d_pickF (wn rfl) (hA821.ev (v := (.bool false)) rfl) (hA821.ev (v := (.bool false)) rfl) ?_)
              intro a822 hA823
              refine q_step hA823 rfl (d_assign (wn rfl) (hA823.ev (v := (.bool false)) rfl) ?_)
              intro a824 hA825
              refine q_end ?_
              refine t_norm ?_
              refine c_false hA825 rfl ?_
              refine wp_seq ?_
              refine wp_region_lit ?_
              refine q_step hA825 rfl (d_iface (wn rfl) (hA825.ev (v := (.int .i64 2)) rfl) conc84 ?_)
              intro a826 hA827
              refine q_step hA827 rfl (d_assign (wn rfl) (hA827.ev (v := (.int .u64 0)) rfl) ?_)
              intro a828 hA829
              refine q_step hA829 rfl (d_assign (wn rfl) (hA829.ev (v := (.iface 84 (.int .i64 2))) rfl) ?_)
              intro a830 hA831
              refine q_end ?_
              refine t_norm ?_
              refine wp_ret ?_
              refine i_ret ?_
              refine t_ret ?_
              refine i_ret ?_
              refine t_ret ?_
              refine t_ret ?_
              refine i_ret ?_
              refine t_ret ?_
              refine ret2 (x := (.int .u64 0)) (y := (.iface 84 (.int .i64 2))) rfl hA831 rfl rfl ?_
              exact ⟨by rw [pu_none (val_bad hy113 (by first | omega | (rw [dv_bad (by omega) (by omega)]; omega)))], Grow.trans b92 b684⟩
        · skip
          have hq832 := of_decide_eq_false hb578
          refine q_step hA577 rfl (d_bin (wn rfl) (hA577.ev (v := (.int .u8 48)) rfl) (hA577.ev (v := (.int .u8 ((y112.toNat : Nat) : Int))) rfl) (b_le _ _ 48 ((y112.toNat : Nat) : Int) false _ hb578) ?_)
          intro a833 hA834
          refine q_step hA834 rfl (d_move (wn rfl) (hA834.ev (v := (.bool false)) rfl) ?_)
          intro a835 hA836
          refine q_step hA836 rfl (does_not (wno rfl rfl (.inl (hA836.get 115 _ rfl))) ?_)
          intro a837 hA838
          refine q_step hA838 rfl (does_not (wno rfl rfl (.inl (hA838.get 115 _ rfl))) ?_)
          intro a839 hA840
          refine q_step hA840 rfl (d_pickF (wn rfl) (hA840.ev (v := (.bool false)) rfl) (hA840.ev (v := (.bool false)) rfl) ?_)
          intro a841 hA842
          refine q_step hA842 rfl (d_assign (wn rfl) (hA842.ev (v := (.bool false)) rfl) ?_)
          intro a843 hA844
          refine q_end ?_
          refine t_norm ?_
          refine c_false hA844 rfl ?_
          refine wp_seq ?_
          refine wp_region_lit ?_
          refine q_step hA844 rfl (d_move (wn rfl) (hA844.ev (v := (.int .u8 ((y112.toNat : Nat) : Int))) rfl) ?_)
          intro a845 hA846
          have hlw := lowB_le y112
          refine q_step hA846 rfl (d_call (wn rfl) ent63 (map1 (hA846.ev (v := (.int .u8 ((y112.toNat : Nat) : Int))) rfl)) (lower_any y112 w103) ?_)
          rintro e850 w847 ⟨he849, hG848⟩
          have hr851 := range_below hr117 hG848 (Nat.lt_of_lt_of_le lt116 b105.size)
          have b852 := below_grow b105 hG848 b105.size
          refine ⟨(.int .u8 ((lowB y112 : Nat) : Int)), he849, ?_⟩
          intro a853 hA854
          rcases Bool.eq_false_or_eq_true (decide ((97 : Int) ≤ ((lowB y112 : Nat) : Int))) with hb855 | hb855
          · skip
            have hq856 := of_decide_eq_true hb855
            refine q_step hA854 rfl (d_bin (wn rfl) (hA854.ev (v := (.int .u8 97)) rfl) (hA854.ev (v := (.int .u8 ((lowB y112 : Nat) : Int))) rfl) (b_le _ _ 97 ((lowB y112 : Nat) : Int) true _ hb855) ?_)
            intro a857 hA858
            refine q_step hA858 rfl (d_move (wn rfl) (hA858.ev (v := (.bool true)) rfl) ?_)
            intro a859 hA860
            refine q_step hA860 rfl (d_move (wy rfl rfl (hA860.get 125 _ rfl)) (hA860.ev (v := (.int .u8 ((y112.toNat : Nat) : Int))) rfl) ?_)
            intro a861 hA862
            have hlw := lowB_le y112
            refine q_step hA862 rfl (d_call (wy rfl rfl (hA862.get 125 _ rfl)) ent63 (map1 (hA862.ev (v := (.int .u8 ((y112.toNat : Nat) : Int))) rfl)) (lower_any y112 w847) ?_)
            rintro e866 w863 ⟨he865, hG864⟩
            have hr867 := range_below hr851 hG864 (Nat.lt_of_lt_of_le lt116 b852.size)
            have b868 := below_grow b852 hG864 b852.size
            refine ⟨(.int .u8 ((lowB y112 : Nat) : Int)), he865, ?_⟩
            intro a869 hA870
            rcases Bool.eq_false_or_eq_true (decide (((lowB y112 : Nat) : Int) ≤ 122)) with hb871 | hb871
            · skip
              have hq872 := of_decide_eq_true hb871
              refine q_step hA870 rfl (d_bin (wy rfl rfl (hA870.get 125 _ rfl)) (hA870.ev (v := (.int .u8 ((lowB y112 : Nat) : Int))) rfl) (hA870.ev (v := (.int .u8 122)) rfl) (b_le _ _ ((lowB y112 : Nat) : Int) 122 true _ hb871) ?_)
              intro a873 hA874
              refine q_step hA874 rfl (d_pickT (wn rfl) (hA874.ev (v := (.bool true)) rfl) (hA874.ev (v := (.bool true)) rfl) ?_)
              intro a875 hA876
              refine q_step hA876 rfl (d_assign (wn rfl) (hA876.ev (v := (.bool true)) rfl) ?_)
              intro a877 hA878
              refine q_end ?_
              refine t_norm ?_
              refine c_true hA878 rfl ?_
              refine wp_region_lit ?_
              refine q_step hA878 rfl (d_move (wn rfl) (hA878.ev (v := (.int .u8 ((y112.toNat : Nat) : Int))) rfl) ?_)
              intro a879 hA880
              have hlw := lowB_le y112
              refine q_step hA880 rfl (d_call (wn rfl) ent63 (map1 (hA880.ev (v := (.int .u8 ((y112.toNat : Nat) : Int))) rfl)) (lower_any y112 w863) ?_)
              rintro e884 w881 ⟨he883, hG882⟩
              have hr885 := range_below hr867 hG882 (Nat.lt_of_lt_of_le lt116 b868.size)
              have b886 := below_grow b868 hG882 b868.size
              refine ⟨(.int .u8 ((lowB y112 : Nat) : Int)), he883, ?_⟩
              intro a887 hA888
              refine q_step hA888 rfl (d_bin (wn rfl) (hA888.ev (v := (.int .u8 ((lowB y112 : Nat) : Int))) rfl) (hA888.ev (v := (.int .u8 97)) rfl) (b_subK (((lowB y112 : Nat) : Int) - 97) (wrap8 (by omega) (by omega))) ?_)
              intro a889 hA890
              refine q_step hA890 rfl (d_bin (wn rfl) (hA890.ev (v := (.int .u8 (((lowB y112 : Nat) : Int) - 97))) rfl) (hA890.ev (v := (.int .u8 10)) rfl) (b_addK (((lowB y112 : Nat) : Int) - 97 + 10) (wrap8 (by omega) (by omega))) ?_)
              intro a891 hA892
              refine q_step hA892 rfl (d_assign (wn rfl) (hA892.ev (v := (.int .u8 (((lowB y112 : Nat) : Int) - 97 + 10))) rfl) ?_)
              intro a893 hA894
              have hdv : dv y112 = lowB y112 - 97 + 10 := dv_let (by omega) (by omega) (by omega)
              refine q_end ?_
              refine i_norm ?_
              refine t_norm ?_
              refine wp_seq ?_
              refine wp_seq ?_
              refine wp_region_lit ?_
              refine q_step hA894 rfl (d_move (wn rfl) (hA894.ev (v := (.int .u8 (((lowB y112 : Nat) : Int) - 97 + 10))) rfl) ?_)
              intro a895 hA896
              refine q_step hA896 rfl (d_move (wn rfl) (hA896.ev (v := (.int .i64 10)) rfl) ?_)
              intro a897 hA898
              refine q_step hA898 rfl (d_conv 10 (wn rfl) (hA898.ev (v := (.int .i64 10)) rfl) knd3 knd5 rfl ?_)
              intro a899 hA900
              rcases Bool.eq_false_or_eq_true (decide (((lowB y112 : Nat) : Int) - 97 + 10 ≥ 10)) with hb901 | hb901
              · skip
                have hq902 := of_decide_eq_true hb901
                refine q_step hA900 rfl (d_bin (wn rfl) (hA900.ev (v := (.int .u8 (((lowB y112 : Nat) : Int) - 97 + 10))) rfl) (hA900.ev (v := (.int .u8 10)) rfl) (b_ge _ _ (((lowB y112 : Nat) : Int) - 97 + 10) 10 true _ hb901) ?_)
                intro a903 hA904
                refine q_end ?_
                have hA905 : St 172 [(1, (.int .i64 10)), (6, (.int .u64 0)), (7, (.nilIface)), (8, (.bool false)), (9, (.string (S l))), (10, (.int .u64 1844674407370955162)), (11, (.int .u64 18446744073709551615)), (12, (.bool false)), (13, (.int .u64 ((nv 10 (List.take j100 l) : Nat) : Int))), (16, (.int .u8 (((lowB y112 : Nat) : Int) - 97 + 10))), (99, v88), (100, (.int .i64 ((l.length : Nat) : Int))), (101, (.int .i64 ((j100 : Nat) : Int))), (137, (.bool true))] a903 := hA904.cut _ (fm_cons (hA904.get 1 _ rfl) (fm_cons (hA904.get 6 _ rfl) (fm_cons (hA904.get 7 _ rfl) (fm_cons (hA904.get 8 _ rfl) (fm_cons (hA904.get 9 _ rfl) (fm_cons (hA904.get 10 _ rfl) (fm_cons (hA904.get 11 _ rfl) (fm_cons (hA904.get 12 _ rfl) (fm_cons (hA904.get 13 _ rfl) (fm_cons (hA904.get 16 _ rfl) (fm_cons (hA904.get 99 _ rfl) (fm_cons (hA904.get 100 _ rfl) (fm_cons (hA904.get 101 _ rfl) (fm_cons (hA904.get 137 _ rfl) fm_nil))))))))))))))
                refine t_norm ?_
                refine c_true hA905 rfl ?_
                refine wp_seq ?_
                refine wp_region_lit ?_
                refine q_step hA905 rfl (d_iface (wn rfl) (hA905.ev (v := (.int .i64 2)) rfl) conc84 ?_)
                intro a906 hA907
                refine q_step hA907 rfl (d_assign (wn rfl) (hA907.ev (v := (.int .u64 0)) rfl) ?_)
                intro a908 hA909
                refine q_step hA909 rfl (d_assign (wn rfl) (hA909.ev (v := (.iface 84 (.int .i64 2))) rfl) ?_)
                intro a910 hA911
                refine q_end ?_
                refine t_norm ?_
                refine wp_ret ?_
                refine t_ret ?_
                refine i_ret ?_
                refine t_ret ?_
                refine t_ret ?_
                refine i_ret ?_
                refine t_ret ?_
                refine ret2 (x := (.int .u64 0)) (y := (.iface 84 (.int .i64 2))) rfl hA911 rfl rfl ?_
                exact ⟨by rw [pu_none (val_bad hy113 (by first | omega | (rw [dv_bad (by omega) (by omega)]; omega)))], Grow.trans b92 b886⟩
              · skip
                have hq912 := of_decide_eq_false hb901
                refine q_step hA900 rfl (d_bin (wn rfl) (hA900.ev (v := (.int .u8 (((lowB y112 : Nat) : Int) - 97 + 10))) rfl) (hA900.ev (v := (.int .u8 10)) rfl) (b_ge _ _ (((lowB y112 : Nat) : Int) - 97 + 10) 10 false _ hb901) ?_)
                intro a913 hA914
                refine q_end ?_
                have hA915 : St 172 [(1, (.int .i64 10)), (6, (.int .u64 0)), (7, (.nilIface)), (8, (.bool false)), (9, (.string (S l))), (10, (.int .u64 1844674407370955162)), (11, (.int .u64 18446744073709551615)), (12, (.bool false)), (13, (.int .u64 ((nv 10 (List.take j100 l) : Nat) : Int))), (16, (.int .u8 (((lowB y112 : Nat) : Int) - 97 + 10))), (99, v88), (100, (.int .i64 ((l.length : Nat) : Int))), (101, (.int .i64 ((j100 : Nat) : Int))), (137, (.bool false))] a913 := hA914.cut _ (fm_cons (hA914.get 1 _ rfl) (fm_cons (hA914.get 6 _ rfl) (fm_cons (hA914.get 7 _ rfl) (fm_cons (hA914.get 8 _ rfl) (fm_cons (hA914.get 9 _ rfl) (fm_cons (hA914.get 10 _ rfl) (fm_cons (hA914.get 11 _ rfl) (fm_cons (hA914.get 12 _ rfl) (fm_cons (hA914.get 13 _ rfl) (fm_cons (hA914.get 16 _ rfl) (fm_cons (hA914.get 99 _ rfl) (fm_cons (hA914.get 100 _ rfl) (fm_cons (hA914.get 101 _ rfl) (fm_cons (hA914.get 137 _ rfl) fm_nil))))))))))))))
                refine t_norm ?_
                refine c_false hA915 rfl ?_
                refine wp_skip ?_
                refine t_norm ?_
                refine wp_seq ?_
                refine wp_seq ?_
                refine wp_region_lit ?_
                refine q_step hA915 rfl (d_move (wn rfl) (hA915.ev (v := (.int .u64 ((nv 10 (List.take j100 l) : Nat) : Int))) rfl) ?_)
                intro a916 hA917
                refine q_step hA917 rfl (d_move (wn rfl) (hA917.ev (v := (.int .u64 1844674407370955162)) rfl) ?_)
                intro a918 hA919
                refine q_step hA919 rfl (d_bin (wn rfl) (hA919.ev (v := (.int .u64 ((nv 10 (List.take j100 l) : Nat) : Int))) rfl) (hA919.ev (v := (.int .u64 1844674407370955162)) rfl) (b_ge _ _ ((nv 10 (List.take j100 l) : Nat) : Int) 1844674407370955162 false _ (decide_eq_false (by omega))) ?_)
                intro a920 hA921
                refine q_end ?_
                refine t_norm ?_
                refine c_false hA921 rfl ?_
                refine wp_skip ?_
                refine t_norm ?_
                refine wp_seq ?_
                refine wp_region_lit ?_
                refine q_step hA921 rfl (d_move (wn rfl) (hA921.ev (v := (.int .u64 ((nv 10 (List.take j100 l) : Nat) : Int))) rfl) ?_)
                intro a922 hA923
                refine q_step hA923 rfl (d_move (wn rfl) (hA923.ev (v := (.int .i64 10)) rfl) ?_)
                intro a924 hA925
                refine q_step hA925 rfl (d_conv 10 (wn rfl) (hA925.ev (v := (.int .i64 10)) rfl) knd3 knd70 rfl ?_)
                intro a926 hA927
                refine q_step hA927 rfl (d_bin (wn rfl) (hA927.ev (v := (.int .u64 ((nv 10 (List.take j100 l) : Nat) : Int))) rfl) (hA927.ev (v := (.int .u64 10)) rfl) (b_mulK (((nv 10 (List.take j100 l) : Nat) : Int) * 10) (wrap64 (by omega) (by omega))) ?_)
                intro a928 hA929
                refine q_step hA929 rfl (d_assign (wn rfl) (hA929.ev (v := (.int .u64 (((nv 10 (List.take j100 l) : Nat) : Int) * 10))) rfl) ?_)
                intro a930 hA931
                refine q_end ?_
                refine t_norm ?_
                refine wp_seq ?_
                refine wp_region_lit ?_
                refine q_step hA931 rfl (d_move (wn rfl) (hA931.ev (v := (.int .u64 (((nv 10 (List.take j100 l) : Nat) : Int) * 10))) rfl) ?_)
                intro a932 hA933
                refine q_step hA933 rfl (d_move (wn rfl) (hA933.ev (v := (.int .u8 (((lowB y112 : Nat) : Int) - 97 + 10))) rfl) ?_)
                intro a934 hA935
                refine q_step hA935 rfl (d_conv (((lowB y112 : Nat) : Int) - 97 + 10) (wn rfl) (hA935.ev (v := (.int .u8 (((lowB y112 : Nat) : Int) - 97 + 10))) rfl) knd5 knd70 (wrap64 (by omega) (by omega)) ?_)
                intro a936 hA937
                refine q_step hA937 rfl (d_bin (wn rfl) (hA937.ev (v := (.int .u64 (((nv 10 (List.take j100 l) : Nat) : Int) * 10))) rfl) (hA937.ev (v := (.int .u64 (((lowB y112 : Nat) : Int) - 97 + 10))) rfl) (b_addK (((nv 10 (List.take j100 l) : Nat) : Int) * 10 + (((lowB y112 : Nat) : Int) - 97 + 10)) (wrap64 (by omega) (by omega))) ?_)
                intro a938 hA939
                refine q_step hA939 rfl (d_assign (wn rfl) (hA939.ev (v := (.int .u64 (((nv 10 (List.take j100 l) : Nat) : Int) * 10 + (((lowB y112 : Nat) : Int) - 97 + 10)))) rfl) ?_)
                intro a940 hA941
                refine q_end ?_
                refine t_norm ?_
                refine wp_seq ?_
                refine wp_seq ?_
                refine wp_region_lit ?_
                refine q_step hA941 rfl (d_move (wn rfl) (hA941.ev (v := (.int .u64 (((nv 10 (List.take j100 l) : Nat) : Int) * 10 + (((lowB y112 : Nat) : Int) - 97 + 10)))) rfl) ?_)
                intro a942 hA943
                refine q_step hA943 rfl (d_move (wn rfl) (hA943.ev (v := (.int .u64 (((nv 10 (List.take j100 l) : Nat) : Int) * 10))) rfl) ?_)
                intro a944 hA945
                refine q_step hA945 rfl (d_bin (wn rfl) (hA945.ev (v := (.int .u64 (((nv 10 (List.take j100 l) : Nat) : Int) * 10 + (((lowB y112 : Nat) : Int) - 97 + 10)))) rfl) (hA945.ev (v := (.int .u64 (((nv 10 (List.take j100 l) : Nat) : Int) * 10))) rfl) (b_lt _ _ (((nv 10 (List.take j100 l) : Nat) : Int) * 10 + (((lowB y112 : Nat) : Int) - 97 + 10)) (((nv 10 (List.take j100 l) : Nat) : Int) * 10) false _ (decide_eq_false (by omega))) ?_)
                intro a946 hA947
                refine q_step hA947 rfl (d_move (wn rfl) (hA947.ev (v := (.bool false)) rfl) ?_)
                intro a948 hA949
                refine q_step hA949 rfl (d_move (wy rfl rfl (hA949.get 155 _ rfl)) (hA949.ev (v := (.int .u64 (((nv 10 (List.take j100 l) : Nat) : Int) * 10 + (((lowB y112 : Nat) : Int) - 97 + 10)))) rfl) ?_)
                intro a950 hA951
                refine q_step hA951 rfl (d_move (wy rfl rfl (hA951.get 155 _ rfl)) (hA951.ev (v := (.int .u64 18446744073709551615)) rfl) ?_)
                intro a952 hA953
                refine q_step hA953 rfl (d_bin (wy rfl rfl (hA953.get 155 _ rfl)) (hA953.ev (v := (.int .u64 (((nv 10 (List.take j100 l) : Nat) : Int) * 10 + (((lowB y112 : Nat) : Int) - 97 + 10)))) rfl) (hA953.ev (v := (.int .u64 18446744073709551615)) rfl) (b_gt _ _ (((nv 10 (List.take j100 l) : Nat) : Int) * 10 + (((lowB y112 : Nat) : Int) - 97 + 10)) 18446744073709551615 false _ (decide_eq_false (by omega))) ?_)
                intro a954 hA955
                refine q_step hA955 rfl (d_pickF (wn rfl) (hA955.ev (v := (.bool false)) rfl) (hA955.ev (v := (.bool false)) rfl) ?_)
                intro a956 hA957
                refine q_end ?_
                refine t_norm ?_
                refine c_false hA957 rfl ?_
                refine wp_skip ?_
                refine t_norm ?_
                refine wp_region_lit ?_
                refine q_step hA957 rfl (d_move (wn rfl) (hA957.ev (v := (.int .u64 (((nv 10 (List.take j100 l) : Nat) : Int) * 10 + (((lowB y112 : Nat) : Int) - 97 + 10)))) rfl) ?_)
                intro a958 hA959
                refine q_step hA959 rfl (d_assign (wn rfl) (hA959.ev (v := (.int .u64 (((nv 10 (List.take j100 l) : Nat) : Int) * 10 + (((lowB y112 : Nat) : Int) - 97 + 10)))) rfl) ?_)
                intro a960 hA961
                refine q_end ?_
                refine i_norm ?_
                refine t_norm ?_
                refine wp_region_lit ?_
                refine q_step hA961 rfl (d_bin (wn rfl) (hA961.ev (v := (.int .i64 ((j100 : Nat) : Int))) rfl) (hA961.ev (v := (.int .i64 1)) rfl) (b_addE (j100 + 1) (by omega) (by omega)) ?_)
                intro a962 hA963
                refine q_step hA963 rfl (d_move (wn rfl) (hA963.ev (v := (.int .i64 ((j100 + 1 : Nat) : Int))) rfl) ?_)
                intro a964 hA965
                refine q_end ?_
                refine t_norm ?_
                have hgo := nv_go (bs := 10) hy113
                have hall2 := all_go hy113 hall (by omega)
                exact ⟨l.length - (j100 + 1), (by rw [hm106]; omega), j100 + 1, rfl, ⟨by omega, hall2⟩, hA965.cut _ (fm_cons (hA965.get 1 _ rfl) (fm_cons (hA965.get 6 _ rfl) (fm_cons (hA965.get 7 _ rfl) (fm_cons (hA965.get 8 _ rfl) (fm_cons (hA965.get 9 _ rfl) (fm_cons (hA965.get 10 _ rfl) (fm_cons (hA965.get 11 _ rfl) (fm_cons (hA965.get 12 _ rfl) (fm_cons ((hA965.get 13 _ rfl).trans (congrArg (Value.int .u64) (by omega))) (fm_cons (hA965.get 99 _ rfl) (fm_cons (hA965.get 100 _ rfl) (fm_cons (hA965.get 101 _ rfl) fm_nil)))))))))))), b886⟩
            · skip
              have hq966 := of_decide_eq_false hb871
              refine q_step hA870 rfl (d_bin (wy rfl rfl (hA870.get 125 _ rfl)) (hA870.ev (v := (.int .u8 ((lowB y112 : Nat) : Int))) rfl) (hA870.ev (v := (.int .u8 122)) rfl) (b_le _ _ ((lowB y112 : Nat) : Int) 122 false _ hb871) ?_)
              intro a967 hA968
              refine q_step hA968 rfl (d_pickT (wn rfl) (hA968.ev (v := (.bool true)) rfl) (hA968.ev (v := (.bool false)) rfl) ?_)
              intro a969 hA970
              refine q_step hA970 rfl (d_assign (wn rfl) (hA970.ev (v := (.bool false)) rfl) ?_)
              intro a971 hA972
              refine q_end ?_
              refine t_norm ?_
              refine c_false hA972 rfl ?_
              refine wp_seq ?_
              refine wp_region_lit ?_
              refine q_step hA972 rfl (d_iface (wn rfl) (hA972.ev (v := (.int .i64 2)) rfl) conc84 ?_)
              intro a973 hA974
              refine q_step hA974 rfl (d_assign (wn rfl) (hA974.ev (v := (.int .u64 0)) rfl) ?_)
              intro a975 hA976
              refine q_step hA976 rfl (d_assign (wn rfl) (hA976.ev (v := (.iface 84 (.int .i64 2))) rfl) ?_)
              intro a977 hA978
              refine q_end ?_
              refine t_norm ?_
              refine wp_ret ?_
              refine i_ret ?_
              refine t_ret ?_
              refine i_ret ?_
              refine t_ret ?_
              refine t_ret ?_
              refine i_ret ?_
              refine t_ret ?_
              refine ret2 (x := (.int .u64 0)) (y := (.iface 84 (.int .i64 2))) rfl hA978 rfl rfl ?_
              exact ⟨by rw [pu_none (val_bad hy113 (by first | omega | (rw [dv_bad (by omega) (by omega)]; omega)))], Grow.trans b92 b868⟩
          · skip
            have hq979 := of_decide_eq_false hb855
            refine q_step hA854 rfl (d_bin (wn rfl) (hA854.ev (v := (.int .u8 97)) rfl) (hA854.ev (v := (.int .u8 ((lowB y112 : Nat) : Int))) rfl) (b_le _ _ 97 ((lowB y112 : Nat) : Int) false _ hb855) ?_)
            intro a980 hA981
            refine q_step hA981 rfl (d_move (wn rfl) (hA981.ev (v := (.bool false)) rfl) ?_)
            intro a982 hA983
            refine q_step hA983 rfl (does_not (wno rfl rfl (.inl (hA983.get 125 _ rfl))) ?_)
            intro a984 hA985
            refine q_step hA985 rfl (does_not (wno rfl rfl (.inl (hA985.get 125 _ rfl))) ?_)
            intro a986 hA987
            refine q_step hA987 rfl (does_not (wno rfl rfl (.inl (hA987.get 125 _ rfl))) ?_)
            intro a988 hA989
            refine q_step hA989 rfl (d_pickF (wn rfl) (hA989.ev (v := (.bool false)) rfl) (hA989.ev (v := (.bool false)) rfl) ?_)
            intro a990 hA991
            refine q_step hA991 rfl (d_assign (wn rfl) (hA991.ev (v := (.bool false)) rfl) ?_)
            intro a992 hA993
            refine q_end ?_
            refine t_norm ?_
            refine c_false hA993 rfl ?_
            refine wp_seq ?_
            refine wp_region_lit ?_
            refine q_step hA993 rfl (d_iface (wn rfl) (hA993.ev (v := (.int .i64 2)) rfl) conc84 ?_)
            intro a994 hA995
            refine q_step hA995 rfl (d_assign (wn rfl) (hA995.ev (v := (.int .u64 0)) rfl) ?_)
            intro a996 hA997
            refine q_step hA997 rfl (d_assign (wn rfl) (hA997.ev (v := (.iface 84 (.int .i64 2))) rfl) ?_)
            intro a998 hA999
            refine q_end ?_
            refine t_norm ?_
            refine wp_ret ?_
            refine i_ret ?_
            refine t_ret ?_
            refine i_ret ?_
            refine t_ret ?_
            refine t_ret ?_
            refine i_ret ?_
            refine t_ret ?_
            refine ret2 (x := (.int .u64 0)) (y := (.iface 84 (.int .i64 2))) rfl hA999 rfl rfl ?_
            exact ⟨by rw [pu_none (val_bad hy113 (by first | omega | (rw [dv_bad (by omega) (by omega)]; omega)))], Grow.trans b92 b852⟩
    · skip
      have hq1000 := of_decide_eq_false hb108
      refine q_step hA104 rfl (d_bin (wn rfl) (hA104.ev (v := (.int .i64 ((j100 : Nat) : Int))) rfl) (hA104.ev (v := (.int .i64 ((l.length : Nat) : Int))) rfl) (b_lt _ _ ((j100 : Nat) : Int) ((l.length : Nat) : Int) false _ hb108) ?_)
      intro a1001 hA1002
      refine q_end ?_
      refine t_norm ?_
      refine wp_seq ?_
      refine c_false hA1002 rfl ?_
      refine wp_exit ?_
      refine t_exit ?_
      refine t_exit ?_
      refine i_here ?_
      refine t_norm ?_
      refine wp_seq ?_
      refine wp_seq ?_
      refine wp_region_lit ?_
      refine q_step hA1002 rfl (d_move (wn rfl) (hA1002.ev (v := (.bool false)) rfl) ?_)
      intro a1003 hA1004
      refine q_step hA1004 rfl (d_move (wn rfl) (hA1004.ev (v := (.bool false)) rfl) ?_)
      intro a1005 hA1006
      refine q_step hA1006 rfl (does_not (wno rfl rfl (.inl (hA1006.get 165 _ rfl))) ?_)
      intro a1007 hA1008
      refine q_step hA1008 rfl (does_not (wno rfl rfl (.inl (hA1008.get 165 _ rfl))) ?_)
      intro a1009 hA1010
      refine q_step hA1010 rfl (does_not (wno rfl rfl (.inl (hA1010.get 165 _ rfl))) ?_)
      intro a1011 hA1012
      refine q_step hA1012 rfl (d_pickF (wn rfl) (hA1012.ev (v := (.bool false)) rfl) (hA1012.ev (v := (.bool false)) rfl) ?_)
      intro a1013 hA1014
      refine q_end ?_
      refine t_norm ?_
      refine c_false hA1014 rfl ?_
      refine wp_skip ?_
      refine t_norm ?_
      refine wp_seq ?_
      refine wp_region_lit ?_
      refine q_step hA1014 rfl (d_move (wn rfl) (hA1014.ev (v := (.int .u64 ((nv 10 (List.take j100 l) : Nat) : Int))) rfl) ?_)
      intro a1015 hA1016
      refine q_step hA1016 rfl (d_assign (wn rfl) (hA1016.ev (v := (.int .u64 ((nv 10 (List.take j100 l) : Nat) : Int))) rfl) ?_)
      intro a1017 hA1018
      refine q_step hA1018 rfl (d_assign (wn rfl) (hA1018.ev (v := (.nilIface)) rfl) ?_)
      intro a1019 hA1020
      refine q_end ?_
      refine t_norm ?_
      refine wp_ret ?_
      refine ret2 (x := (.int .u64 ((nv 10 (List.take j100 l) : Nat) : Int))) (y := (.nilIface)) rfl hA1020 rfl rfl ?_
      exact ⟨by rw [pu_some (val_end (eqL_ne hb9) hall (by omega))], Grow.trans b92 b105⟩
set_option maxHeartbeats 4000000 in
set_option maxRecDepth 4000 in
theorem parse16_in (l : List UInt8) (w : World) (hl : l.length ≤ 16) : Calls Tryd.prog 59 #[.string (S l), .int .i64 16, .int .i64 64] w fun e w' => e = .returned (puV 16 l) ∧ Grow w w' := by
  have b0 : Below w.heap.size w w := Below.refl _ _
  refine enter (n := 172) Tryd.func59 rfl rfl (Nat.le_of_ble_eq_true rfl) ?_
  intro a1 hA2
  refine wp_seq ?_
  refine wp_region_lit ?_
  refine q_step hA2 rfl (d_assign (wn rfl) (hA2.ev (v := (.int .u64 0)) rfl) ?_)
  intro a3 hA4
  refine q_step hA4 rfl (d_assign (wn rfl) (hA4.ev (v := (.nilIface)) rfl) ?_)
  intro a5 hA6
  refine q_end ?_
  refine t_norm ?_
  refine wp_seq ?_
  refine wp_seq ?_
  refine wp_region_lit ?_
  refine q_step hA6 rfl (d_move (wn rfl) (hA6.ev (v := (.string (S l))) rfl) ?_)
  intro a7 hA8
  rcases Bool.eq_false_or_eq_true (eqL l []) with hb9 | hb9
  · skip
    refine q_step hA8 rfl (d_bin (wn rfl) (hA8.ev (v := (.string (S l))) rfl) (hA8.ev (v := (.string (S []))) rfl) (b_seq (l := l) (m := []) (r := true) hb9) ?_)
    intro a11 hA12
    refine q_end ?_
    refine t_norm ?_
    refine c_true hA12 rfl ?_
    refine wp_seq ?_
    refine wp_region_lit ?_
    refine q_step hA12 rfl (d_iface (wn rfl) (hA12.ev (v := (.int .i64 2)) rfl) conc84 ?_)
    intro a13 hA14
    refine q_step hA14 rfl (d_assign (wn rfl) (hA14.ev (v := (.int .u64 0)) rfl) ?_)
    intro a15 hA16
    refine q_step hA16 rfl (d_assign (wn rfl) (hA16.ev (v := (.iface 84 (.int .i64 2))) rfl) ?_)
    intro a17 hA18
    refine q_end ?_
    refine t_norm ?_
    refine wp_ret ?_
    refine t_ret ?_
    refine ret2 (x := (.int .u64 0)) (y := (.iface 84 (.int .i64 2))) rfl hA18 rfl rfl ?_
    exact ⟨by rw [pu_none (val_nil (eqL_eq hb9))], b0⟩
  · skip
    refine q_step hA8 rfl (d_bin (wn rfl) (hA8.ev (v := (.string (S l))) rfl) (hA8.ev (v := (.string (S []))) rfl) (b_seq (l := l) (m := []) (r := false) hb9) ?_)
    intro a20 hA21
    refine q_end ?_
    refine t_norm ?_
    refine c_false hA21 rfl ?_
    refine wp_skip ?_
    refine t_norm ?_
    refine wp_seq ?_
    refine wp_region_lit ?_
    refine q_step hA21 rfl (d_move (wn rfl) (hA21.ev (v := (.int .i64 16)) rfl) ?_)
    intro a22 hA23
    refine q_step hA23 rfl (d_bin (wn rfl) (hA23.ev (v := (.int .i64 16)) rfl) (hA23.ev (v := (.int .i64 0)) rfl) (b_eq _ _ 16 0 false _ rfl) ?_)
    intro a24 hA25
    refine q_step hA25 rfl (d_assign (wn rfl) (hA25.ev (v := (.bool false)) rfl) ?_)
    intro a26 hA27
    refine q_end ?_
    refine t_norm ?_
    refine wp_seq ?_
    refine wp_region_lit ?_
    refine q_step hA27 rfl (d_move (wn rfl) (hA27.ev (v := (.string (S l))) rfl) ?_)
    intro a28 hA29
    refine q_step hA29 rfl (d_assign (wn rfl) (hA29.ev (v := (.string (S l))) rfl) ?_)
    intro a30 hA31
    refine q_end ?_
    refine t_norm ?_
    refine wp_seq ?_
    refine wp_block ?_
    refine wp_seq ?_
    refine wp_region_lit ?_
    refine q_step hA31 rfl (d_move (wn rfl) (hA31.ev (v := (.int .i64 16)) rfl) ?_)
    intro a32 hA33
    refine q_step hA33 rfl (d_bin (wn rfl) (hA33.ev (v := (.int .i64 2)) rfl) (hA33.ev (v := (.int .i64 16)) rfl) (b_le _ _ 2 16 true _ rfl) ?_)
    intro a34 hA35
    refine q_step hA35 rfl (d_move (wn rfl) (hA35.ev (v := (.bool true)) rfl) ?_)
    intro a36 hA37
    refine q_step hA37 rfl (d_move (wy rfl rfl (hA37.get 28 _ rfl)) (hA37.ev (v := (.int .i64 16)) rfl) ?_)
    intro a38 hA39
    refine q_step hA39 rfl (d_bin (wy rfl rfl (hA39.get 28 _ rfl)) (hA39.ev (v := (.int .i64 16)) rfl) (hA39.ev (v := (.int .i64 36)) rfl) (b_le _ _ 16 36 true _ rfl) ?_)
    intro a40 hA41
    refine q_step hA41 rfl (d_pickT (wn rfl) (hA41.ev (v := (.bool true)) rfl) (hA41.ev (v := (.bool true)) rfl) ?_)
    intro a42 hA43
    refine q_step hA43 rfl (d_assign (wn rfl) (hA43.ev (v := (.bool true)) rfl) ?_)
    intro a44 hA45
    refine q_end ?_
    refine t_norm ?_
    refine c_true hA45 rfl ?_
    refine wp_skip ?_
    refine i_norm ?_
    refine t_norm ?_
    refine wp_seq ?_
    refine wp_seq ?_
    refine wp_region_lit ?_
    refine q_step hA45 rfl (d_move (wn rfl) (hA45.ev (v := (.int .i64 64)) rfl) ?_)
    intro a46 hA47
    refine q_step hA47 rfl (d_bin (wn rfl) (hA47.ev (v := (.int .i64 64)) rfl) (hA47.ev (v := (.int .i64 0)) rfl) (b_eq _ _ 64 0 false _ rfl) ?_)
    intro a48 hA49
    refine q_end ?_
    refine t_norm ?_
    refine c_false hA49 rfl ?_
    refine wp_seq ?_
    refine wp_region_lit ?_
    refine q_step hA49 rfl (d_move (wn rfl) (hA49.ev (v := (.int .i64 64)) rfl) ?_)
    intro a50 hA51
    refine q_step hA51 rfl (d_bin (wn rfl) (hA51.ev (v := (.int .i64 64)) rfl) (hA51.ev (v := (.int .i64 0)) rfl) (b_lt _ _ 64 0 false _ rfl) ?_)
    intro a52 hA53
    refine q_step hA53 rfl (d_move (wn rfl) (hA53.ev (v := (.bool false)) rfl) ?_)
    intro a54 hA55
    refine q_step hA55 rfl (d_move (wy rfl rfl (hA55.get 80 _ rfl)) (hA55.ev (v := (.int .i64 64)) rfl) ?_)
    intro a56 hA57
    refine q_step hA57 rfl (d_bin (wy rfl rfl (hA57.get 80 _ rfl)) (hA57.ev (v := (.int .i64 64)) rfl) (hA57.ev (v := (.int .i64 64)) rfl) (b_gt _ _ 64 64 false _ rfl) ?_)
    intro a58 hA59
    refine q_step hA59 rfl (d_pickF (wn rfl) (hA59.ev (v := (.bool false)) rfl) (hA59.ev (v := (.bool false)) rfl) ?_)
    intro a60 hA61
    refine q_end ?_
    refine t_norm ?_
    refine c_false hA61 rfl ?_
    refine wp_skip ?_
    refine t_norm ?_
    refine wp_seq ?_
    refine wp_region_lit ?_
    refine q_step hA61 rfl (d_assign (wn rfl) (hA61.ev (v := (.int .u64 0)) rfl) ?_)
    intro a62 hA63
    refine q_end ?_
    refine t_norm ?_
    refine wp_seq ?_
    refine wp_seq ?_
    refine wp_region_lit ?_
    refine q_step hA63 rfl (d_move (wn rfl) (hA63.ev (v := (.int .i64 16)) rfl) ?_)
    intro a64 hA65
    refine q_end ?_
    refine t_norm ?_
    refine wp_block ?_
    refine wp_seq ?_
    refine wp_region_lit ?_
    refine q_step hA65 rfl (d_bin (wn rfl) (hA65.ev (v := (.int .i64 16)) rfl) (hA65.ev (v := (.int .i64 10)) rfl) (b_eq _ _ 16 10 false _ rfl) ?_)
    intro a66 hA67
    refine q_step hA67 rfl (d_assign (wn rfl) (hA67.ev (v := (.bool false)) rfl) ?_)
    intro a68 hA69
    refine q_end ?_
    refine t_norm ?_
    refine c_false hA69 rfl ?_
    refine wp_seq ?_
    refine wp_region_lit ?_
    refine q_step hA69 rfl (d_bin (wn rfl) (hA69.ev (v := (.int .i64 16)) rfl) (hA69.ev (v := (.int .i64 16)) rfl) (b_eq _ _ 16 16 true _ rfl) ?_)
    intro a70 hA71
    refine q_step hA71 rfl (d_assign (wn rfl) (hA71.ev (v := (.bool true)) rfl) ?_)
    intro a72 hA73
    refine q_end ?_
    refine t_norm ?_
    refine c_true hA73 rfl ?_
    refine wp_region_lit ?_
    refine q_step hA73 rfl (d_assign (wn rfl) (hA73.ev (v := (.int .u64 1152921504606846976)) rfl) ?_)
    intro a74 hA75
    refine q_end ?_
    refine i_norm ?_
    refine t_norm ?_
    refine wp_seq ?_
    refine wp_region_lit ?_
    refine q_step hA75 rfl (d_move (wn rfl) (hA75.ev (v := (.int .i64 64)) rfl) ?_)
    intro a76 hA77
    refine q_step hA77 rfl (d_conv 64 (wn rfl) (hA77.ev (v := (.int .i64 64)) rfl) knd3 knd79 rfl ?_)
    intro a78 hA79
    refine q_step hA79 rfl (d_bin (r := .int .u64 0) (wn rfl) (hA79.ev (v := (.int .u64 1)) rfl) (hA79.ev (v := (.int .u64 64)) rfl) ⟨rfl, rfl⟩ ?_)
    intro a80 hA81
    refine q_step hA81 rfl (d_bin (wn rfl) (hA81.ev (v := (.int .u64 0)) rfl) (hA81.ev (v := (.int .u64 1)) rfl) (b_subK (18446744073709551615) rfl) ?_)
    intro a82 hA83
    refine q_step hA83 rfl (d_assign (wn rfl) (hA83.ev (v := (.int .u64 18446744073709551615)) rfl) ?_)
    intro a84 hA85
    refine q_end ?_
    refine t_norm ?_
    refine wp_seq ?_
    refine wp_region_lit ?_
    refine q_step hA85 rfl (d_assign (wn rfl) (hA85.ev (v := (.bool false)) rfl) ?_)
    intro a86 hA87
    refine q_end ?_
    refine t_norm ?_
    refine wp_seq ?_
    refine wp_region_lit ?_
    refine q_step hA87 rfl (d_assign (wn rfl) (hA87.ev (v := (.int .u64 0)) rfl) ?_)
    intro a88 hA89
    refine q_end ?_
    refine t_norm ?_
    refine wp_seq ?_
    refine wp_seq ?_
    refine wp_region_lit ?_
    refine q_step hA89 rfl (d_move (wn rfl) (hA89.ev (v := (.string (S l))) rfl) ?_)
    intro a90 hA91
    refine q_step hA91 rfl (d_bytes (wn rfl) (hA91.ev (v := (.string (S l))) rfl) str9 slc86 knd5 (by omega) ?_)
    intro v92 w93 hG94 hS95
    have b96 := below_grow b0 hG94 b0.size
    intro a97 hA98
    refine q_step hA98 rfl (d_len (n := l.length) (wn rfl) (hA98.ev (v := v92) rfl) slc86 hS95.form ?_)
    intro a99 hA100
    refine q_step hA100 rfl (d_move (wn rfl) (hA100.ev (v := (.int .i64 0)) rfl) ?_)
    intro a101 hA102
    refine q_end ?_
    refine t_norm ?_
    refine wp_block ?_
    have b103 : Below w93.heap.size w93 w93 := Below.refl _ _
    refine loop_by (fun m105 a106 w107 => ∃ j104 : Nat, m105 = l.length - j104 ∧ (j104 ≤ l.length ∧ allD 16 (List.take j104 l) = true) ∧ St 172 [(1, (.int .i64 16)), (6, (.int .u64 0)), (7, (.nilIface)), (8, (.bool false)), (9, (.string (S l))), (10, (.int .u64 1152921504606846976)), (11, (.int .u64 18446744073709551615)), (12, (.bool false)), (13, (.int .u64 ((nv 16 (List.take j104 l) : Nat) : Int))), (99, v92), (100, (.int .i64 ((l.length : Nat) : Int))), (101, (.int .i64 ((j104 : Nat) : Int)))] a106 ∧ Below w93.heap.size w93 w107) (l.length - 0) ⟨0, rfl, ⟨by omega, rfl⟩, hA102.cut _ (fm_cons (hA102.get 1 _ rfl) (fm_cons (hA102.get 6 _ rfl) (fm_cons (hA102.get 7 _ rfl) (fm_cons (hA102.get 8 _ rfl) (fm_cons (hA102.get 9 _ rfl) (fm_cons (hA102.get 10 _ rfl) (fm_cons (hA102.get 11 _ rfl) (fm_cons (hA102.get 12 _ rfl) (fm_cons ((hA102.get 13 _ rfl).trans (congrArg (Value.int .u64) (rfl))) (fm_cons (hA102.get 99 _ rfl) (fm_cons (hA102.get 100 _ rfl) (fm_cons ((hA102.get 101 _ rfl).trans (congrArg (Value.int .i64) (by omega))) fm_nil)))))))))))), b103⟩ ?_
    rintro m105 a106 w107 ⟨j104, hm110, hc111, hA108, b109⟩
    obtain ⟨hj, hall⟩ := hc111
    have hpow : j104 ≤ 15 → nv 16 (List.take j104 l) < 1152921504606846976 := nv_16 hall
    refine wp_seq ?_
    refine wp_region_lit ?_
    rcases Bool.eq_false_or_eq_true (decide (((j104 : Nat) : Int) < ((l.length : Nat) : Int))) with hb112 | hb112
    · skip
      have hq113 := of_decide_eq_true hb112
      refine q_step hA108 rfl (d_bin (wn rfl) (hA108.ev (v := (.int .i64 ((j104 : Nat) : Int))) rfl) (hA108.ev (v := (.int .i64 ((l.length : Nat) : Int))) rfl) (b_lt _ _ ((j104 : Nat) : Int) ((l.length : Nat) : Int) true _ hb112) ?_)
      intro a114 hA115
      refine q_end ?_
      refine t_norm ?_
      refine wp_seq ?_
      refine c_true hA115 rfl ?_
      refine wp_skip ?_
      refine t_norm ?_
      refine wp_seq ?_
      refine wp_block ?_
      refine wp_seq ?_
      refine wp_region_lit ?_
      obtain ⟨y116, hy117⟩ : ∃ y116, l[j104]? = some y116 := ⟨_, List.getElem?_eq_getElem (show j104 < l.length by omega)⟩
      obtain ⟨b118, o119, lt120, hr121, hix122⟩ := (hS95.below b109).at hy117
      refine q_step hA115 rfl (d_indexAt (j := j104) (wn rfl) (hA115.ev (v := v92) rfl) (hA115.ev (v := (.int .i64 ((j104 : Nat) : Int))) rfl) slc86 hix122 (get_lt hy117) ?_)
      intro a123 hA124
      refine q_step hA124 rfl (d_load (v := (.int .u8 ((y116.toNat : Nat) : Int))) (wn rfl) (hA124.ev (v := (.pointer (some ⟨b118, o119, none⟩))) rfl) one5 (hr121 0 _ rfl) ?_)
      intro a125 hA126
      refine q_step hA126 rfl (d_assign (wn rfl) (hA126.ev (v := (.int .u8 ((y116.toNat : Nat) : Int))) rfl) ?_)
      intro a127 hA128
      refine q_end ?_
      refine t_norm ?_
      refine wp_seq ?_
      refine wp_region_lit ?_
      refine q_step hA128 rfl (d_assign (wn rfl) (hA128.ev (v := (.int .u8 0)) rfl) ?_)
      intro a129 hA130
      refine q_end ?_
      refine t_norm ?_
      refine wp_seq ?_
      refine wp_block ?_
      refine wp_seq ?_
      refine wp_region_lit ?_
      refine q_step hA130 rfl (d_move (wn rfl) (hA130.ev (v := (.int .u8 ((y116.toNat : Nat) : Int))) rfl) ?_)
      intro a131 hA132
      rcases Bool.eq_false_or_eq_true (((y116.toNat : Nat) : Int) == 95) with hb133 | hb133
      · skip
        have hq134 := eq_of_beq hb133
        refine q_step hA132 rfl (d_bin (wn rfl) (hA132.ev (v := (.int .u8 ((y116.toNat : Nat) : Int))) rfl) (hA132.ev (v := (.int .u8 95)) rfl) (b_eq _ _ ((y116.toNat : Nat) : Int) 95 true _ hb133) ?_)
        intro a135 hA136
        refine q_step hA136 rfl (d_move (wn rfl) (hA136.ev (v := (.bool true)) rfl) ?_)
        intro a137 hA138
        refine q_step hA138 rfl (d_move (wy rfl rfl (hA138.get 109 _ rfl)) (hA138.ev (v := (.bool false)) rfl) ?_)
        intro a139 hA140
        refine q_step hA140 rfl (d_pickT (wn rfl) (hA140.ev (v := (.bool true)) rfl) (hA140.ev (v := (.bool false)) rfl) ?_)
        intro a141 hA142
        refine q_step hA142 rfl (d_assign (wn rfl) (hA142.ev (v := (.bool false)) rfl) ?_)
        intro a143 hA144
        refine q_end ?_
        refine t_norm ?_
        refine c_false hA144 rfl ?_
        refine wp_seq ?_
        refine wp_region_lit ?_
        refine q_step hA144 rfl (d_move (wn rfl) (hA144.ev (v := (.int .u8 ((y116.toNat : Nat) : Int))) rfl) ?_)
        intro a145 hA146
        rcases Bool.eq_false_or_eq_true (decide ((48 : Int) ≤ ((y116.toNat : Nat) : Int))) with hb147 | hb147
        · skip
          have hq148 := of_decide_eq_true hb147
          refine q_step hA146 rfl (d_bin (wn rfl) (hA146.ev (v := (.int .u8 48)) rfl) (hA146.ev (v := (.int .u8 ((y116.toNat : Nat) : Int))) rfl) (b_le _ _ 48 ((y116.toNat : Nat) : Int) true _ hb147) ?_)
          intro a149 hA150
          refine q_step hA150 rfl (d_move (wn rfl) (hA150.ev (v := (.bool true)) rfl) ?_)
          intro a151 hA152
          refine q_step hA152 rfl (d_move (wy rfl rfl (hA152.get 115 _ rfl)) (hA152.ev (v := (.int .u8 ((y116.toNat : Nat) : Int))) rfl) ?_)
          intro a153 hA154
          rcases Bool.eq_false_or_eq_true (decide (((y116.toNat : Nat) : Int) ≤ 57)) with hb155 | hb155
          · skip
            have hq156 := of_decide_eq_true hb155
            refine q_step hA154 rfl (d_bin (wy rfl rfl (hA154.get 115 _ rfl)) (hA154.ev (v := (.int .u8 ((y116.toNat : Nat) : Int))) rfl) (hA154.ev (v := (.int .u8 57)) rfl) (b_le _ _ ((y116.toNat : Nat) : Int) 57 true _ hb155) ?_)
            intro a157 hA158
            refine q_step hA158 rfl (d_pickT (wn rfl) (hA158.ev (v := (.bool true)) rfl) (hA158.ev (v := (.bool true)) rfl) ?_)
            intro a159 hA160
            refine q_step hA160 rfl (d_assign (wn rfl) (hA160.ev (v := (.bool true)) rfl) ?_)
            intro a161 hA162
            refine q_end ?_
            refine t_norm ?_
            refine c_true hA162 rfl ?_
            refine wp_region_lit ?_
            refine q_step hA162 rfl (d_move (wn rfl) (hA162.ev (v := (.int .u8 ((y116.toNat : Nat) : Int))) rfl) ?_)
            intro a163 hA164
            refine q_step hA164 rfl (d_bin (wn rfl) (hA164.ev (v := (.int .u8 ((y116.toNat : Nat) : Int))) rfl) (hA164.ev (v := (.int .u8 48)) rfl) (b_subK (((y116.toNat : Nat) : Int) - 48) (wrap8 (by omega) (by omega))) ?_)
            intro a165 hA166
            refine q_step hA166 rfl (d_assign (wn rfl) (hA166.ev (v := (.int .u8 (((y116.toNat : Nat) : Int) - 48))) rfl) ?_)
            intro a167 hA168
            have hdv : dv y116 = y116.toNat - 48 := dv_dig (by omega) (by omega)
            refine q_end ?_
            refine i_norm ?_
            refine t_norm ?_
            refine wp_seq ?_
            refine wp_seq ?_
            refine wp_region_lit ?_
            refine q_step hA168 rfl (d_move (wn rfl) (hA168.ev (v := (.int .u8 (((y116.toNat : Nat) : Int) - 48))) rfl) ?_)
            intro a169 hA170
            refine q_step hA170 rfl (d_move (wn rfl) (hA170.ev (v := (.int .i64 16)) rfl) ?_)
            intro a171 hA172
            refine q_step hA172 rfl (d_conv 16 (wn rfl) (hA172.ev (v := (.int .i64 16)) rfl) knd3 knd5 rfl ?_)
            intro a173 hA174
            rcases Bool.eq_false_or_eq_true (decide (((y116.toNat : Nat) : Int) - 48 ≥ 16)) with hb175 | hb175
            · skip
              have hq176 := of_decide_eq_true hb175
              refine q_step hA174 rfl (d_bin (wn rfl) (hA174.ev (v := (.int .u8 (((y116.toNat : Nat) : Int) - 48))) rfl) (hA174.ev (v := (.int .u8 16)) rfl) (b_ge _ _ (((y116.toNat : Nat) : Int) - 48) 16 true _ hb175) ?_)
              intro a177 hA178
              refine q_end ?_
              refine t_norm ?_
              refine c_true hA178 rfl ?_
              refine wp_seq ?_
              refine wp_region_lit ?_
              refine q_step hA178 rfl (d_iface (wn rfl) (hA178.ev (v := (.int .i64 2)) rfl) conc84 ?_)
              intro a179 hA180
              refine q_step hA180 rfl (d_assign (wn rfl) (hA180.ev (v := (.int .u64 0)) rfl) ?_)
              intro a181 hA182
              refine q_step hA182 rfl (d_assign (wn rfl) (hA182.ev (v := (.iface 84 (.int .i64 2))) rfl) ?_)
              intro a183 hA184
              refine q_end ?_
              refine t_norm ?_
              refine wp_ret ?_
              refine t_ret ?_
              refine i_ret ?_
              refine t_ret ?_
              refine t_ret ?_
              refine i_ret ?_
              refine t_ret ?_
              refine ret2 (x := (.int .u64 0)) (y := (.iface 84 (.int .i64 2))) rfl hA184 rfl rfl ?_
              exact ⟨by rw [pu_none (val_bad hy117 (by first | omega | (rw [dv_bad (by omega) (by omega)]; omega)))], Grow.trans b96 b109⟩
            · skip
              have hq185 := of_decide_eq_false hb175
              refine q_step hA174 rfl (d_bin (wn rfl) (hA174.ev (v := (.int .u8 (((y116.toNat : Nat) : Int) - 48))) rfl) (hA174.ev (v := (.int .u8 16)) rfl) (b_ge _ _ (((y116.toNat : Nat) : Int) - 48) 16 false _ hb175) ?_)
              intro a186 hA187
              refine q_end ?_
              refine t_norm ?_
              refine c_false hA187 rfl ?_
              refine wp_skip ?_
              refine t_norm ?_
              refine wp_seq ?_
              refine wp_seq ?_
              refine wp_region_lit ?_
              refine q_step hA187 rfl (d_move (wn rfl) (hA187.ev (v := (.int .u64 ((nv 16 (List.take j104 l) : Nat) : Int))) rfl) ?_)
              intro a188 hA189
              refine q_step hA189 rfl (d_move (wn rfl) (hA189.ev (v := (.int .u64 1152921504606846976)) rfl) ?_)
              intro a190 hA191
              refine q_step hA191 rfl (d_bin (wn rfl) (hA191.ev (v := (.int .u64 ((nv 16 (List.take j104 l) : Nat) : Int))) rfl) (hA191.ev (v := (.int .u64 1152921504606846976)) rfl) (b_ge _ _ ((nv 16 (List.take j104 l) : Nat) : Int) 1152921504606846976 false _ (decide_eq_false (by omega))) ?_)
              intro a192 hA193
              refine q_end ?_
              refine t_norm ?_
              refine c_false hA193 rfl ?_
              refine wp_skip ?_
              refine t_norm ?_
              refine wp_seq ?_
              refine wp_region_lit ?_
              refine q_step hA193 rfl (d_move (wn rfl) (hA193.ev (v := (.int .u64 ((nv 16 (List.take j104 l) : Nat) : Int))) rfl) ?_)
              intro a194 hA195
              refine q_step hA195 rfl (d_move (wn rfl) (hA195.ev (v := (.int .i64 16)) rfl) ?_)
              intro a196 hA197
              refine q_step hA197 rfl (d_conv 16 (wn rfl) (hA197.ev (v := (.int .i64 16)) rfl) knd3 knd70 rfl ?_)
              intro a198 hA199
              refine q_step hA199 rfl (d_bin (wn rfl) (hA199.ev (v := (.int .u64 ((nv 16 (List.take j104 l) : Nat) : Int))) rfl) (hA199.ev (v := (.int .u64 16)) rfl) (b_mulK (((nv 16 (List.take j104 l) : Nat) : Int) * 16) (wrap64 (by omega) (by omega))) ?_)
              intro a200 hA201
              refine q_step hA201 rfl (d_assign (wn rfl) (hA201.ev (v := (.int .u64 (((nv 16 (List.take j104 l) : Nat) : Int) * 16))) rfl) ?_)
              intro a202 hA203
              refine q_end ?_
              refine t_norm ?_
              refine wp_seq ?_
              refine wp_region_lit ?_
              refine q_step hA203 rfl (d_move (wn rfl) (hA203.ev (v := (.int .u64 (((nv 16 (List.take j104 l) : Nat) : Int) * 16))) rfl) ?_)
              intro a204 hA205
              refine q_step hA205 rfl (d_move (wn rfl) (hA205.ev (v := (.int .u8 (((y116.toNat : Nat) : Int) - 48))) rfl) ?_)
              intro a206 hA207
              refine q_step hA207 rfl (d_conv (((y116.toNat : Nat) : Int) - 48) (wn rfl) (hA207.ev (v := (.int .u8 (((y116.toNat : Nat) : Int) - 48))) rfl) knd5 knd70 (wrap64 (by omega) (by omega)) ?_)
              intro a208 hA209
              refine q_step hA209 rfl (d_bin (wn rfl) (hA209.ev (v := (.int .u64 (((nv 16 (List.take j104 l) : Nat) : Int) * 16))) rfl) (hA209.ev (v := (.int .u64 (((y116.toNat : Nat) : Int) - 48))) rfl) (b_addK (((nv 16 (List.take j104 l) : Nat) : Int) * 16 + (((y116.toNat : Nat) : Int) - 48)) (wrap64 (by omega) (by omega))) ?_)
              intro a210 hA211
              refine q_step hA211 rfl (d_assign (wn rfl) (hA211.ev (v := (.int .u64 (((nv 16 (List.take j104 l) : Nat) : Int) * 16 + (((y116.toNat : Nat) : Int) - 48)))) rfl) ?_)
              intro a212 hA213
              refine q_end ?_
              have hA214 : St 172 [(1, (.int .i64 16)), (6, (.int .u64 0)), (7, (.nilIface)), (8, (.bool false)), (9, (.string (S l))), (10, (.int .u64 1152921504606846976)), (11, (.int .u64 18446744073709551615)), (12, (.bool false)), (13, (.int .u64 (((nv 16 (List.take j104 l) : Nat) : Int) * 16))), (17, (.int .u64 (((nv 16 (List.take j104 l) : Nat) : Int) * 16 + (((y116.toNat : Nat) : Int) - 48)))), (99, v92), (100, (.int .i64 ((l.length : Nat) : Int))), (101, (.int .i64 ((j104 : Nat) : Int)))] a212 := hA213.cut _ (fm_cons (hA213.get 1 _ rfl) (fm_cons (hA213.get 6 _ rfl) (fm_cons (hA213.get 7 _ rfl) (fm_cons (hA213.get 8 _ rfl) (fm_cons (hA213.get 9 _ rfl) (fm_cons (hA213.get 10 _ rfl) (fm_cons (hA213.get 11 _ rfl) (fm_cons (hA213.get 12 _ rfl) (fm_cons (hA213.get 13 _ rfl) (fm_cons (hA213.get 17 _ rfl) (fm_cons (hA213.get 99 _ rfl) (fm_cons (hA213.get 100 _ rfl) (fm_cons (hA213.get 101 _ rfl) fm_nil)))))))))))))
              refine t_norm ?_
              refine wp_seq ?_
              refine wp_seq ?_
              refine wp_region_lit ?_
              refine q_step hA214 rfl (d_move (wn rfl) (hA214.ev (v := (.int .u64 (((nv 16 (List.take j104 l) : Nat) : Int) * 16 + (((y116.toNat : Nat) : Int) - 48)))) rfl) ?_)
              intro a215 hA216
              refine q_step hA216 rfl (d_move (wn rfl) (hA216.ev (v := (.int .u64 (((nv 16 (List.take j104 l) : Nat) : Int) * 16))) rfl) ?_)
              intro a217 hA218
              refine q_step hA218 rfl (d_bin (wn rfl) (hA218.ev (v := (.int .u64 (((nv 16 (List.take j104 l) : Nat) : Int) * 16 + (((y116.toNat : Nat) : Int) - 48)))) rfl) (hA218.ev (v := (.int .u64 (((nv 16 (List.take j104 l) : Nat) : Int) * 16))) rfl) (b_lt _ _ (((nv 16 (List.take j104 l) : Nat) : Int) * 16 + (((y116.toNat : Nat) : Int) - 48)) (((nv 16 (List.take j104 l) : Nat) : Int) * 16) false _ (decide_eq_false (by omega))) ?_)
              intro a219 hA220
              refine q_step hA220 rfl (d_move (wn rfl) (hA220.ev (v := (.bool false)) rfl) ?_)
              intro a221 hA222
              refine q_step hA222 rfl (d_move (wy rfl rfl (hA222.get 155 _ rfl)) (hA222.ev (v := (.int .u64 (((nv 16 (List.take j104 l) : Nat) : Int) * 16 + (((y116.toNat : Nat) : Int) - 48)))) rfl) ?_)
              intro a223 hA224
              refine q_step hA224 rfl (d_move (wy rfl rfl (hA224.get 155 _ rfl)) (hA224.ev (v := (.int .u64 18446744073709551615)) rfl) ?_)
              intro a225 hA226
              refine q_step hA226 rfl (d_bin (wy rfl rfl (hA226.get 155 _ rfl)) (hA226.ev (v := (.int .u64 (((nv 16 (List.take j104 l) : Nat) : Int) * 16 + (((y116.toNat : Nat) : Int) - 48)))) rfl) (hA226.ev (v := (.int .u64 18446744073709551615)) rfl) (b_gt _ _ (((nv 16 (List.take j104 l) : Nat) : Int) * 16 + (((y116.toNat : Nat) : Int) - 48)) 18446744073709551615 false _ (decide_eq_false (by omega))) ?_)
              intro a227 hA228
              refine q_step hA228 rfl (d_pickF (wn rfl) (hA228.ev (v := (.bool false)) rfl) (hA228.ev (v := (.bool false)) rfl) ?_)
              intro a229 hA230
              refine q_end ?_
              refine t_norm ?_
              refine c_false hA230 rfl ?_
              refine wp_skip ?_
              refine t_norm ?_
              refine wp_region_lit ?_
              refine q_step hA230 rfl (d_move (wn rfl) (hA230.ev (v := (.int .u64 (((nv 16 (List.take j104 l) : Nat) : Int) * 16 + (((y116.toNat : Nat) : Int) - 48)))) rfl) ?_)
              intro a231 hA232
              refine q_step hA232 rfl (d_assign (wn rfl) (hA232.ev (v := (.int .u64 (((nv 16 (List.take j104 l) : Nat) : Int) * 16 + (((y116.toNat : Nat) : Int) - 48)))) rfl) ?_)
              intro a233 hA234
              refine q_end ?_
              refine i_norm ?_
              refine t_norm ?_
              refine wp_region_lit ?_
              refine q_step hA234 rfl (d_bin (wn rfl) (hA234.ev (v := (.int .i64 ((j104 : Nat) : Int))) rfl) (hA234.ev (v := (.int .i64 1)) rfl) (b_addE (j104 + 1) (by omega) (by omega)) ?_)
              intro a235 hA236
              refine q_step hA236 rfl (d_move (wn rfl) (hA236.ev (v := (.int .i64 ((j104 + 1 : Nat) : Int))) rfl) ?_)
              intro a237 hA238
              refine q_end ?_
              refine t_norm ?_
              have hgo := nv_go (bs := 16) hy117
              have hall2 := all_go hy117 hall (by omega)
              exact ⟨l.length - (j104 + 1), (by rw [hm110]; omega), j104 + 1, rfl, ⟨by omega, hall2⟩, hA238.cut _ (fm_cons (hA238.get 1 _ rfl) (fm_cons (hA238.get 6 _ rfl) (fm_cons (hA238.get 7 _ rfl) (fm_cons (hA238.get 8 _ rfl) (fm_cons (hA238.get 9 _ rfl) (fm_cons (hA238.get 10 _ rfl) (fm_cons (hA238.get 11 _ rfl) (fm_cons (hA238.get 12 _ rfl) (fm_cons ((hA238.get 13 _ rfl).trans (congrArg (Value.int .u64) (by omega))) (fm_cons (hA238.get 99 _ rfl) (fm_cons (hA238.get 100 _ rfl) (fm_cons (hA238.get 101 _ rfl) fm_nil)))))))))))), b109⟩
          · skip
            have hq239 := of_decide_eq_false hb155
            refine q_step hA154 rfl (d_bin (wy rfl rfl (hA154.get 115 _ rfl)) (hA154.ev (v := (.int .u8 ((y116.toNat : Nat) : Int))) rfl) (hA154.ev (v := (.int .u8 57)) rfl) (b_le _ _ ((y116.toNat : Nat) : Int) 57 false _ hb155) ?_)
            intro a240 hA241
            refine q_step hA241 rfl (d_pickT (wn rfl) (hA241.ev (v := (.bool true)) rfl) (hA241.ev (v := (.bool false)) rfl) ?_)
            intro a242 hA243
            refine q_step hA243 rfl (d_assign (wn rfl) (hA243.ev (v := (.bool false)) rfl) ?_)
            intro a244 hA245
            refine q_end ?_
            refine t_norm ?_
            refine c_false hA245 rfl ?_
            refine wp_seq ?_
            refine wp_region_lit ?_
            refine q_step hA245 rfl (d_move (wn rfl) (hA245.ev (v := (.int .u8 ((y116.toNat : Nat) : Int))) rfl) ?_)
            intro a246 hA247
            have hlw := lowB_le y116
            refine q_step hA247 rfl (d_call (wn rfl) ent63 (map1 (hA247.ev (v := (.int .u8 ((y116.toNat : Nat) : Int))) rfl)) (lower_any y116 w107) ?_)
            rintro e251 w248 ⟨he250, hG249⟩
            have hr252 := range_below hr121 hG249 (Nat.lt_of_lt_of_le lt120 b109.size)
            have b253 := below_grow b109 hG249 b109.size
            refine ⟨(.int .u8 ((lowB y116 : Nat) : Int)), he250, ?_⟩
            intro a254 hA255
            rcases Bool.eq_false_or_eq_true (decide ((97 : Int) ≤ ((lowB y116 : Nat) : Int))) with hb256 | hb256
            · skip
              have hq257 := of_decide_eq_true hb256
              refine q_step hA255 rfl (d_bin (wn rfl) (hA255.ev (v := (.int .u8 97)) rfl) (hA255.ev (v := (.int .u8 ((lowB y116 : Nat) : Int))) rfl) (b_le _ _ 97 ((lowB y116 : Nat) : Int) true _ hb256) ?_)
              intro a258 hA259
              refine q_step hA259 rfl (d_move (wn rfl) (hA259.ev (v := (.bool true)) rfl) ?_)
              intro a260 hA261
              refine q_step hA261 rfl (d_move (wy rfl rfl (hA261.get 125 _ rfl)) (hA261.ev (v := (.int .u8 ((y116.toNat : Nat) : Int))) rfl) ?_)
              intro a262 hA263
              have hlw := lowB_le y116
              refine q_step hA263 rfl (d_call (wy rfl rfl (hA263.get 125 _ rfl)) ent63 (map1 (hA263.ev (v := (.int .u8 ((y116.toNat : Nat) : Int))) rfl)) (lower_any y116 w248) ?_)
              rintro e267 w264 ⟨he266, hG265⟩
              have hr268 := range_below hr252 hG265 (Nat.lt_of_lt_of_le lt120 b253.size)
              have b269 := below_grow b253 hG265 b253.size
              refine ⟨(.int .u8 ((lowB y116 : Nat) : Int)), he266, ?_⟩
              intro a270 hA271
              rcases Bool.eq_false_or_eq_true (decide (((lowB y116 : Nat) : Int) ≤ 122)) with hb272 | hb272
              · skip
                have hq273 := of_decide_eq_true hb272
                refine q_step hA271 rfl (d_bin (wy rfl rfl (hA271.get 125 _ rfl)) (hA271.ev (v := (.int .u8 ((lowB y116 : Nat) : Int))) rfl) (hA271.ev (v := (.int .u8 122)) rfl) (b_le _ _ ((lowB y116 : Nat) : Int) 122 true _ hb272) ?_)
                intro a274 hA275
                refine q_step hA275 rfl (d_pickT (wn rfl) (hA275.ev (v := (.bool true)) rfl) (hA275.ev (v := (.bool true)) rfl) ?_)
                intro a276 hA277
                refine q_step hA277 rfl (d_assign (wn rfl) (hA277.ev (v := (.bool true)) rfl) ?_)
                intro a278 hA279
                refine q_end ?_
                refine t_norm ?_
                refine c_true hA279 rfl ?_
                refine wp_region_lit ?_
                refine q_step hA279 rfl (d_move (wn rfl) (hA279.ev (v := (.int .u8 ((y116.toNat : Nat) : Int))) rfl) ?_)
                intro a280 hA281
                have hlw := lowB_le y116
                refine q_step hA281 rfl (d_call (wn rfl) ent63 (map1 (hA281.ev (v := (.int .u8 ((y116.toNat : Nat) : Int))) rfl)) (lower_any y116 w264) ?_)
                rintro e285 w282 ⟨he284, hG283⟩
                have hr286 := range_below hr268 hG283 (Nat.lt_of_lt_of_le lt120 b269.size)
                have b287 := below_grow b269 hG283 b269.size
                refine ⟨(.int .u8 ((lowB y116 : Nat) : Int)), he284, ?_⟩
                intro a288 hA289
                refine q_step hA289 rfl (d_bin (wn rfl) (hA289.ev (v := (.int .u8 ((lowB y116 : Nat) : Int))) rfl) (hA289.ev (v := (.int .u8 97)) rfl) (b_subK (((lowB y116 : Nat) : Int) - 97) (wrap8 (by omega) (by omega))) ?_)
                intro a290 hA291
                refine q_step hA291 rfl (d_bin (wn rfl) (hA291.ev (v := (.int .u8 (((lowB y116 : Nat) : Int) - 97))) rfl) (hA291.ev (v := (.int .u8 10)) rfl) (b_addK (((lowB y116 : Nat) : Int) - 97 + 10) (wrap8 (by omega) (by omega))) ?_)
                intro a292 hA293
                refine q_step hA293 rfl (d_assign (wn rfl) (hA293.ev (v := (.int .u8 (((lowB y116 : Nat) : Int) - 97 + 10))) rfl) ?_)
                intro a294 hA295
                have hdv : dv y116 = lowB y116 - 97 + 10 := dv_let (by omega) (by omega) (by omega)
                refine q_end ?_
                refine i_norm ?_
                refine t_norm ?_
                refine wp_seq ?_
                refine wp_seq ?_
                refine wp_region_lit ?_
                refine q_step hA295 rfl (d_move (wn rfl) (hA295.ev (v := (.int .u8 (((lowB y116 : Nat) : Int) - 97 + 10))) rfl) ?_)
                intro a296 hA297
                refine q_step hA297 rfl (d_move (wn rfl) (hA297.ev (v := (.int .i64 16)) rfl) ?_)
                intro a298 hA299
                refine q_step hA299 rfl (d_conv 16 (wn rfl) (hA299.ev (v := (.int .i64 16)) rfl) knd3 knd5 rfl ?_)
                intro a300 hA301
                rcases Bool.eq_false_or_eq_true (decide (((lowB y116 : Nat) : Int) - 97 + 10 ≥ 16)) with hb302 | hb302
                · skip
                  have hq303 := of_decide_eq_true hb302
                  refine q_step hA301 rfl (d_bin (wn rfl) (hA301.ev (v := (.int .u8 (((lowB y116 : Nat) : Int) - 97 + 10))) rfl) (hA301.ev (v := (.int .u8 16)) rfl) (b_ge _ _ (((lowB y116 : Nat) : Int) - 97 + 10) 16 true _ hb302) ?_)
                  intro a304 hA305
                  refine q_end ?_
                  have hA306 : St 172 [(1, (.int .i64 16)), (6, (.int .u64 0)), (7, (.nilIface)), (8, (.bool false)), (9, (.string (S l))), (10, (.int .u64 1152921504606846976)), (11, (.int .u64 18446744073709551615)), (12, (.bool false)), (13, (.int .u64 ((nv 16 (List.take j104 l) : Nat) : Int))), (16, (.int .u8 (((lowB y116 : Nat) : Int) - 97 + 10))), (99, v92), (100, (.int .i64 ((l.length : Nat) : Int))), (101, (.int .i64 ((j104 : Nat) : Int))), (137, (.bool true))] a304 := hA305.cut _ (fm_cons (hA305.get 1 _ rfl) (fm_cons (hA305.get 6 _ rfl) (fm_cons (hA305.get 7 _ rfl) (fm_cons (hA305.get 8 _ rfl) (fm_cons (hA305.get 9 _ rfl) (fm_cons (hA305.get 10 _ rfl) (fm_cons (hA305.get 11 _ rfl) (fm_cons (hA305.get 12 _ rfl) (fm_cons (hA305.get 13 _ rfl) (fm_cons (hA305.get 16 _ rfl) (fm_cons (hA305.get 99 _ rfl) (fm_cons (hA305.get 100 _ rfl) (fm_cons (hA305.get 101 _ rfl) (fm_cons (hA305.get 137 _ rfl) fm_nil))))))))))))))
                  refine t_norm ?_
                  refine c_true hA306 rfl ?_
                  refine wp_seq ?_
                  refine wp_region_lit ?_
                  refine q_step hA306 rfl (d_iface (wn rfl) (hA306.ev (v := (.int .i64 2)) rfl) conc84 ?_)
                  intro a307 hA308
                  refine q_step hA308 rfl (d_assign (wn rfl) (hA308.ev (v := (.int .u64 0)) rfl) ?_)
                  intro a309 hA310
                  refine q_step hA310 rfl (d_assign (wn rfl) (hA310.ev (v := (.iface 84 (.int .i64 2))) rfl) ?_)
                  intro a311 hA312
                  refine q_end ?_
                  refine t_norm ?_
                  refine wp_ret ?_
                  refine t_ret ?_
                  refine i_ret ?_
                  refine t_ret ?_
                  refine t_ret ?_
                  refine i_ret ?_
                  refine t_ret ?_
                  refine ret2 (x := (.int .u64 0)) (y := (.iface 84 (.int .i64 2))) rfl hA312 rfl rfl ?_
                  exact ⟨by rw [pu_none (val_bad hy117 (by first | omega | (rw [dv_bad (by omega) (by omega)]; omega)))], Grow.trans b96 b287⟩
                · skip
                  have hq313 := of_decide_eq_false hb302
                  refine q_step hA301 rfl (d_bin (wn rfl) (hA301.ev (v := (.int .u8 (((lowB y116 : Nat) : Int) - 97 + 10))) rfl) (hA301.ev (v := (.int .u8 16)) rfl) (b_ge _ _ (((lowB y116 : Nat) : Int) - 97 + 10) 16 false _ hb302) ?_)
                  intro a314 hA315
                  refine q_end ?_
                  have hA316 : St 172 [(1, (.int .i64 16)), (6, (.int .u64 0)), (7, (.nilIface)), (8, (.bool false)), (9, (.string (S l))), (10, (.int .u64 1152921504606846976)), (11, (.int .u64 18446744073709551615)), (12, (.bool false)), (13, (.int .u64 ((nv 16 (List.take j104 l) : Nat) : Int))), (16, (.int .u8 (((lowB y116 : Nat) : Int) - 97 + 10))), (99, v92), (100, (.int .i64 ((l.length : Nat) : Int))), (101, (.int .i64 ((j104 : Nat) : Int))), (137, (.bool false))] a314 := hA315.cut _ (fm_cons (hA315.get 1 _ rfl) (fm_cons (hA315.get 6 _ rfl) (fm_cons (hA315.get 7 _ rfl) (fm_cons (hA315.get 8 _ rfl) (fm_cons (hA315.get 9 _ rfl) (fm_cons (hA315.get 10 _ rfl) (fm_cons (hA315.get 11 _ rfl) (fm_cons (hA315.get 12 _ rfl) (fm_cons (hA315.get 13 _ rfl) (fm_cons (hA315.get 16 _ rfl) (fm_cons (hA315.get 99 _ rfl) (fm_cons (hA315.get 100 _ rfl) (fm_cons (hA315.get 101 _ rfl) (fm_cons (hA315.get 137 _ rfl) fm_nil))))))))))))))
                  refine t_norm ?_
                  refine c_false hA316 rfl ?_
                  refine wp_skip ?_
                  refine t_norm ?_
                  refine wp_seq ?_
                  refine wp_seq ?_
                  refine wp_region_lit ?_
                  refine q_step hA316 rfl (d_move (wn rfl) (hA316.ev (v := (.int .u64 ((nv 16 (List.take j104 l) : Nat) : Int))) rfl) ?_)
                  intro a317 hA318
                  refine q_step hA318 rfl (d_move (wn rfl) (hA318.ev (v := (.int .u64 1152921504606846976)) rfl) ?_)
                  intro a319 hA320
                  refine q_step hA320 rfl (d_bin (wn rfl) (hA320.ev (v := (.int .u64 ((nv 16 (List.take j104 l) : Nat) : Int))) rfl) (hA320.ev (v := (.int .u64 1152921504606846976)) rfl) (b_ge _ _ ((nv 16 (List.take j104 l) : Nat) : Int) 1152921504606846976 false _ (decide_eq_false (by omega))) ?_)
                  intro a321 hA322
                  refine q_end ?_
                  refine t_norm ?_
                  refine c_false hA322 rfl ?_
                  refine wp_skip ?_
                  refine t_norm ?_
                  refine wp_seq ?_
                  refine wp_region_lit ?_
                  refine q_step hA322 rfl (d_move (wn rfl) (hA322.ev (v := (.int .u64 ((nv 16 (List.take j104 l) : Nat) : Int))) rfl) ?_)
                  intro a323 hA324
                  refine q_step hA324 rfl (d_move (wn rfl) (hA324.ev (v := (.int .i64 16)) rfl) ?_)
                  intro a325 hA326
                  refine q_step hA326 rfl (d_conv 16 (wn rfl) (hA326.ev (v := (.int .i64 16)) rfl) knd3 knd70 rfl ?_)
                  intro a327 hA328
                  refine q_step hA328 rfl (d_bin (wn rfl) (hA328.ev (v := (.int .u64 ((nv 16 (List.take j104 l) : Nat) : Int))) rfl) (hA328.ev (v := (.int .u64 16)) rfl) (b_mulK (((nv 16 (List.take j104 l) : Nat) : Int) * 16) (wrap64 (by omega) (by omega))) ?_)
                  intro a329 hA330
                  refine q_step hA330 rfl (d_assign (wn rfl) (hA330.ev (v := (.int .u64 (((nv 16 (List.take j104 l) : Nat) : Int) * 16))) rfl) ?_)
                  intro a331 hA332
                  refine q_end ?_
                  refine t_norm ?_
                  refine wp_seq ?_
                  refine wp_region_lit ?_
                  refine q_step hA332 rfl (d_move (wn rfl) (hA332.ev (v := (.int .u64 (((nv 16 (List.take j104 l) : Nat) : Int) * 16))) rfl) ?_)
                  intro a333 hA334
                  refine q_step hA334 rfl (d_move (wn rfl) (hA334.ev (v := (.int .u8 (((lowB y116 : Nat) : Int) - 97 + 10))) rfl) ?_)
                  intro a335 hA336
                  refine q_step hA336 rfl (d_conv (((lowB y116 : Nat) : Int) - 97 + 10) (wn rfl) (hA336.ev (v := (.int .u8 (((lowB y116 : Nat) : Int) - 97 + 10))) rfl) knd5 knd70 (wrap64 (by omega) (by omega)) ?_)
                  intro a337 hA338
                  refine q_step hA338 rfl (d_bin (wn rfl) (hA338.ev (v := (.int .u64 (((nv 16 (List.take j104 l) : Nat) : Int) * 16))) rfl) (hA338.ev (v := (.int .u64 (((lowB y116 : Nat) : Int) - 97 + 10))) rfl) (b_addK (((nv 16 (List.take j104 l) : Nat) : Int) * 16 + (((lowB y116 : Nat) : Int) - 97 + 10)) (wrap64 (by omega) (by omega))) ?_)
                  intro a339 hA340
                  refine q_step hA340 rfl (d_assign (wn rfl) (hA340.ev (v := (.int .u64 (((nv 16 (List.take j104 l) : Nat) : Int) * 16 + (((lowB y116 : Nat) : Int) - 97 + 10)))) rfl) ?_)
                  intro a341 hA342
                  refine q_end ?_
                  refine t_norm ?_
                  refine wp_seq ?_
                  refine wp_seq ?_
                  refine wp_region_lit ?_
                  refine q_step hA342 rfl (d_move (wn rfl) (hA342.ev (v := (.int .u64 (((nv 16 (List.take j104 l) : Nat) : Int) * 16 + (((lowB y116 : Nat) : Int) - 97 + 10)))) rfl) ?_)
                  intro a343 hA344
                  refine q_step hA344 rfl (d_move (wn rfl) (hA344.ev (v := (.int .u64 (((nv 16 (List.take j104 l) : Nat) : Int) * 16))) rfl) ?_)
                  intro a345 hA346
                  refine q_step hA346 rfl (d_bin (wn rfl) (hA346.ev (v := (.int .u64 (((nv 16 (List.take j104 l) : Nat) : Int) * 16 + (((lowB y116 : Nat) : Int) - 97 + 10)))) rfl) (hA346.ev (v := (.int .u64 (((nv 16 (List.take j104 l) : Nat) : Int) * 16))) rfl) (b_lt _ _ (((nv 16 (List.take j104 l) : Nat) : Int) * 16 + (((lowB y116 : Nat) : Int) - 97 + 10)) (((nv 16 (List.take j104 l) : Nat) : Int) * 16) false _ (decide_eq_false (by omega))) ?_)
                  intro a347 hA348
                  refine q_step hA348 rfl (d_move (wn rfl) (hA348.ev (v := (.bool false)) rfl) ?_)
                  intro a349 hA350
                  refine q_step hA350 rfl (d_move (wy rfl rfl (hA350.get 155 _ rfl)) (hA350.ev (v := (.int .u64 (((nv 16 (List.take j104 l) : Nat) : Int) * 16 + (((lowB y116 : Nat) : Int) - 97 + 10)))) rfl) ?_)
                  intro a351 hA352
                  refine q_step hA352 rfl (d_move (wy rfl rfl (hA352.get 155 _ rfl)) (hA352.ev (v := (.int .u64 18446744073709551615)) rfl) ?_)
                  intro a353 hA354
                  refine q_step hA354 rfl (d_bin (wy rfl rfl (hA354.get 155 _ rfl)) (hA354.ev (v := (.int .u64 (((nv 16 (List.take j104 l) : Nat) : Int) * 16 + (((lowB y116 : Nat) : Int) - 97 + 10)))) rfl) (hA354.ev (v := (.int .u64 18446744073709551615)) rfl) (b_gt _ _ (((nv 16 (List.take j104 l) : Nat) : Int) * 16 + (((lowB y116 : Nat) : Int) - 97 + 10)) 18446744073709551615 false _ (decide_eq_false (by omega))) ?_)
                  intro a355 hA356
                  refine q_step hA356 rfl (d_pickF (wn rfl) (hA356.ev (v := (.bool false)) rfl) (hA356.ev (v := (.bool false)) rfl) ?_)
                  intro a357 hA358
                  refine q_end ?_
                  refine t_norm ?_
                  refine c_false hA358 rfl ?_
                  refine wp_skip ?_
                  refine t_norm ?_
                  refine wp_region_lit ?_
                  refine q_step hA358 rfl (d_move (wn rfl) (hA358.ev (v := (.int .u64 (((nv 16 (List.take j104 l) : Nat) : Int) * 16 + (((lowB y116 : Nat) : Int) - 97 + 10)))) rfl) ?_)
                  intro a359 hA360
                  refine q_step hA360 rfl (d_assign (wn rfl) (hA360.ev (v := (.int .u64 (((nv 16 (List.take j104 l) : Nat) : Int) * 16 + (((lowB y116 : Nat) : Int) - 97 + 10)))) rfl) ?_)
                  intro a361 hA362
                  refine q_end ?_
                  refine i_norm ?_
                  refine t_norm ?_
                  refine wp_region_lit ?_
                  refine q_step hA362 rfl (d_bin (wn rfl) (hA362.ev (v := (.int .i64 ((j104 : Nat) : Int))) rfl) (hA362.ev (v := (.int .i64 1)) rfl) (b_addE (j104 + 1) (by omega) (by omega)) ?_)
                  intro a363 hA364
                  refine q_step hA364 rfl (d_move (wn rfl) (hA364.ev (v := (.int .i64 ((j104 + 1 : Nat) : Int))) rfl) ?_)
                  intro a365 hA366
                  refine q_end ?_
                  refine t_norm ?_
                  have hgo := nv_go (bs := 16) hy117
                  have hall2 := all_go hy117 hall (by omega)
                  exact ⟨l.length - (j104 + 1), (by rw [hm110]; omega), j104 + 1, rfl, ⟨by omega, hall2⟩, hA366.cut _ (fm_cons (hA366.get 1 _ rfl) (fm_cons (hA366.get 6 _ rfl) (fm_cons (hA366.get 7 _ rfl) (fm_cons (hA366.get 8 _ rfl) (fm_cons (hA366.get 9 _ rfl) (fm_cons (hA366.get 10 _ rfl) (fm_cons (hA366.get 11 _ rfl) (fm_cons (hA366.get 12 _ rfl) (fm_cons ((hA366.get 13 _ rfl).trans (congrArg (Value.int .u64) (by omega))) (fm_cons (hA366.get 99 _ rfl) (fm_cons (hA366.get 100 _ rfl) (fm_cons (hA366.get 101 _ rfl) fm_nil)))))))))))), b287⟩
              · skip
                have hq367 := of_decide_eq_false hb272
                refine q_step hA271 rfl (d_bin (wy rfl rfl (hA271.get 125 _ rfl)) (hA271.ev (v := (.int .u8 ((lowB y116 : Nat) : Int))) rfl) (hA271.ev (v := (.int .u8 122)) rfl) (b_le _ _ ((lowB y116 : Nat) : Int) 122 false _ hb272) ?_)
                intro a368 hA369
                refine q_step hA369 rfl (d_pickT (wn rfl) (hA369.ev (v := (.bool true)) rfl) (hA369.ev (v := (.bool false)) rfl) ?_)
                intro a370 hA371
                refine q_step hA371 rfl (d_assign (wn rfl) (hA371.ev (v := (.bool false)) rfl) ?_)
                intro a372 hA373
                refine q_end ?_
                refine t_norm ?_
                refine c_false hA373 rfl ?_
                refine wp_seq ?_
                refine wp_region_lit ?_
                refine q_step hA373 rfl (d_iface (wn rfl) (hA373.ev (v := (.int .i64 2)) rfl) conc84 ?_)
                intro a374 hA375
                refine q_step hA375 rfl (d_assign (wn rfl) (hA375.ev (v := (.int .u64 0)) rfl) ?_)
                intro a376 hA377
                refine q_step hA377 rfl (d_assign (wn rfl) (hA377.ev (v := (.iface 84 (.int .i64 2))) rfl) ?_)
                intro a378 hA379
                refine q_end ?_
                refine t_norm ?_
                refine wp_ret ?_
                refine i_ret ?_
                refine t_ret ?_
                refine i_ret ?_
                refine t_ret ?_
                refine t_ret ?_
                refine i_ret ?_
                refine t_ret ?_
                refine ret2 (x := (.int .u64 0)) (y := (.iface 84 (.int .i64 2))) rfl hA379 rfl rfl ?_
                exact ⟨by rw [pu_none (val_bad hy117 (by first | omega | (rw [dv_bad (by omega) (by omega)]; omega)))], Grow.trans b96 b269⟩
            · skip
              have hq380 := of_decide_eq_false hb256
              refine q_step hA255 rfl (d_bin (wn rfl) (hA255.ev (v := (.int .u8 97)) rfl) (hA255.ev (v := (.int .u8 ((lowB y116 : Nat) : Int))) rfl) (b_le _ _ 97 ((lowB y116 : Nat) : Int) false _ hb256) ?_)
              intro a381 hA382
              refine q_step hA382 rfl (d_move (wn rfl) (hA382.ev (v := (.bool false)) rfl) ?_)
              intro a383 hA384
              refine q_step hA384 rfl (does_not (wno rfl rfl (.inl (hA384.get 125 _ rfl))) ?_)
              intro a385 hA386
              refine q_step hA386 rfl (does_not (wno rfl rfl (.inl (hA386.get 125 _ rfl))) ?_)
              intro a387 hA388
              refine q_step hA388 rfl (does_not (wno rfl rfl (.inl (hA388.get 125 _ rfl))) ?_)
              intro a389 hA390
              refine q_step hA390 rfl (d_pickF (wn rfl) (hA390.ev (v := (.bool false)) rfl) (hA390.ev (v := (.bool false)) rfl) ?_)
              intro a391 hA392
              refine q_step hA392 rfl (d_assign (wn rfl) (hA392.ev (v := (.bool false)) rfl) ?_)
              intro a393 hA394
              refine q_end ?_
              refine t_norm ?_
              refine c_false hA394 rfl ?_
              refine wp_seq ?_
              refine wp_region_lit ?_
              refine q_step hA394 rfl (d_iface (wn rfl) (hA394.ev (v := (.int .i64 2)) rfl) conc84 ?_)
              intro a395 hA396
              refine q_step hA396 rfl (d_assign (wn rfl) (hA396.ev (v := (.int .u64 0)) rfl) ?_)
              intro a397 hA398
              refine q_step hA398 rfl (d_assign (wn rfl) (hA398.ev (v := (.iface 84 (.int .i64 2))) rfl) ?_)
              intro a399 hA400
              refine q_end ?_
              refine t_norm ?_
              refine wp_ret ?_
              refine i_ret ?_
              refine t_ret ?_
              refine i_ret ?_
              refine t_ret ?_
              refine t_ret ?_
              refine i_ret ?_
              refine t_ret ?_
              refine ret2 (x := (.int .u64 0)) (y := (.iface 84 (.int .i64 2))) rfl hA400 rfl rfl ?_
              exact ⟨by rw [pu_none (val_bad hy117 (by first | omega | (rw [dv_bad (by omega) (by omega)]; omega)))], Grow.trans b96 b253⟩
        · skip
          have hq401 := of_decide_eq_false hb147
          refine q_step hA146 rfl (d_bin (wn rfl) (hA146.ev (v := (.int .u8 48)) rfl) (hA146.ev (v := (.int .u8 ((y116.toNat : Nat) : Int))) rfl) (b_le _ _ 48 ((y116.toNat : Nat) : Int) false _ hb147) ?_)
          intro a402 hA403
          refine q_step hA403 rfl (d_move (wn rfl) (hA403.ev (v := (.bool false)) rfl) ?_)
          intro a404 hA405
          refine q_step hA405 rfl (does_not (wno rfl rfl (.inl (hA405.get 115 _ rfl))) ?_)
          intro a406 hA407
          refine q_step hA407 rfl (does_not (wno rfl rfl (.inl (hA407.get 115 _ rfl))) ?_)
          intro a408 hA409
          refine q_step hA409 rfl (d_pickF (wn rfl) (hA409.ev (v := (.bool false)) rfl) (hA409.ev (v := (.bool false)) rfl) ?_)
          intro a410 hA411
          refine q_step hA411 rfl (d_assign (wn rfl) (hA411.ev (v := (.bool false)) rfl) ?_)
          intro a412 hA413
          refine q_end ?_
          refine t_norm ?_
          refine c_false hA413 rfl ?_
          refine wp_seq ?_
          refine wp_region_lit ?_
          refine q_step hA413 rfl (d_move (wn rfl) (hA413.ev (v := (.int .u8 ((y116.toNat : Nat) : Int))) rfl) ?_)
          intro a414 hA415
          have hlw := lowB_le y116
          refine q_step hA415 rfl (d_call (wn rfl) ent63 (map1 (hA415.ev (v := (.int .u8 ((y116.toNat : Nat) : Int))) rfl)) (lower_any y116 w107) ?_)
          rintro e419 w416 ⟨he418, hG417⟩
          have hr420 := range_below hr121 hG417 (Nat.lt_of_lt_of_le lt120 b109.size)
          have b421 := below_grow b109 hG417 b109.size
          refine ⟨(.int .u8 ((lowB y116 : Nat) : Int)), he418, ?_⟩
          intro a422 hA423
          rcases Bool.eq_false_or_eq_true (decide ((97 : Int) ≤ ((lowB y116 : Nat) : Int))) with hb424 | hb424
          · skip
            have hq425 := of_decide_eq_true hb424
            refine q_step hA423 rfl (d_bin (wn rfl) (hA423.ev (v := (.int .u8 97)) rfl) (hA423.ev (v := (.int .u8 ((lowB y116 : Nat) : Int))) rfl) (b_le _ _ 97 ((lowB y116 : Nat) : Int) true _ hb424) ?_)
            intro a426 hA427
            refine q_step hA427 rfl (d_move (wn rfl) (hA427.ev (v := (.bool true)) rfl) ?_)
            intro a428 hA429
            refine q_step hA429 rfl (d_move (wy rfl rfl (hA429.get 125 _ rfl)) (hA429.ev (v := (.int .u8 ((y116.toNat : Nat) : Int))) rfl) ?_)
            intro a430 hA431
            have hlw := lowB_le y116
            refine q_step hA431 rfl (d_call (wy rfl rfl (hA431.get 125 _ rfl)) ent63 (map1 (hA431.ev (v := (.int .u8 ((y116.toNat : Nat) : Int))) rfl)) (lower_any y116 w416) ?_)
            rintro e435 w432 ⟨he434, hG433⟩
            have hr436 := range_below hr420 hG433 (Nat.lt_of_lt_of_le lt120 b421.size)
            have b437 := below_grow b421 hG433 b421.size
            refine ⟨(.int .u8 ((lowB y116 : Nat) : Int)), he434, ?_⟩
            intro a438 hA439
            rcases Bool.eq_false_or_eq_true (decide (((lowB y116 : Nat) : Int) ≤ 122)) with hb440 | hb440
            · skip
              have hq441 := of_decide_eq_true hb440
              refine q_step hA439 rfl (d_bin (wy rfl rfl (hA439.get 125 _ rfl)) (hA439.ev (v := (.int .u8 ((lowB y116 : Nat) : Int))) rfl) (hA439.ev (v := (.int .u8 122)) rfl) (b_le _ _ ((lowB y116 : Nat) : Int) 122 true _ hb440) ?_)
              intro a442 hA443
              refine q_step hA443 rfl (d_pickT (wn rfl) (hA443.ev (v := (.bool true)) rfl) (hA443.ev (v := (.bool true)) rfl) ?_)
              intro a444 hA445
              refine q_step hA445 rfl (d_assign (wn rfl) (hA445.ev (v := (.bool true)) rfl) ?_)
              intro a446 hA447
              refine q_end ?_
              refine t_norm ?_
              refine c_true hA447 rfl ?_
              refine wp_region_lit ?_
              refine q_step hA447 rfl (d_move (wn rfl) (hA447.ev (v := (.int .u8 ((y116.toNat : Nat) : Int))) rfl) ?_)
              intro a448 hA449
              have hlw := lowB_le y116
              refine q_step hA449 rfl (d_call (wn rfl) ent63 (map1 (hA449.ev (v := (.int .u8 ((y116.toNat : Nat) : Int))) rfl)) (lower_any y116 w432) ?_)
              rintro e453 w450 ⟨he452, hG451⟩
              have hr454 := range_below hr436 hG451 (Nat.lt_of_lt_of_le lt120 b437.size)
              have b455 := below_grow b437 hG451 b437.size
              refine ⟨(.int .u8 ((lowB y116 : Nat) : Int)), he452, ?_⟩
              intro a456 hA457
              refine q_step hA457 rfl (d_bin (wn rfl) (hA457.ev (v := (.int .u8 ((lowB y116 : Nat) : Int))) rfl) (hA457.ev (v := (.int .u8 97)) rfl) (b_subK (((lowB y116 : Nat) : Int) - 97) (wrap8 (by omega) (by omega))) ?_)
              intro a458 hA459
              refine q_step hA459 rfl (d_bin (wn rfl) (hA459.ev (v := (.int .u8 (((lowB y116 : Nat) : Int) - 97))) rfl) (hA459.ev (v := (.int .u8 10)) rfl) (b_addK (((lowB y116 : Nat) : Int) - 97 + 10) (wrap8 (by omega) (by omega))) ?_)
              intro a460 hA461
              refine q_step hA461 rfl (d_assign (wn rfl) (hA461.ev (v := (.int .u8 (((lowB y116 : Nat) : Int) - 97 + 10))) rfl) ?_)
              intro a462 hA463
              have hdv : dv y116 = lowB y116 - 97 + 10 := dv_let (by omega) (by omega) (by omega)
              refine q_end ?_
              refine i_norm ?_
              refine t_norm ?_
              refine wp_seq ?_
              refine wp_seq ?_
              refine wp_region_lit ?_
              refine q_step hA463 rfl (d_move (wn rfl) (hA463.ev (v := (.int .u8 (((lowB y116 : Nat) : Int) - 97 + 10))) rfl) ?_)
              intro a464 hA465
              refine q_step hA465 rfl (d_move (wn rfl) (hA465.ev (v := (.int .i64 16)) rfl) ?_)
              intro a466 hA467
              refine q_step hA467 rfl (d_conv 16 (wn rfl) (hA467.ev (v := (.int .i64 16)) rfl) knd3 knd5 rfl ?_)
              intro a468 hA469
              rcases Bool.eq_false_or_eq_true (decide (((lowB y116 : Nat) : Int) - 97 + 10 ≥ 16)) with hb470 | hb470
              · skip
                have hq471 := of_decide_eq_true hb470
                refine q_step hA469 rfl (d_bin (wn rfl) (hA469.ev (v := (.int .u8 (((lowB y116 : Nat) : Int) - 97 + 10))) rfl) (hA469.ev (v := (.int .u8 16)) rfl) (b_ge _ _ (((lowB y116 : Nat) : Int) - 97 + 10) 16 true _ hb470) ?_)
                intro a472 hA473
                refine q_end ?_
                have hA474 : St 172 [(1, (.int .i64 16)), (6, (.int .u64 0)), (7, (.nilIface)), (8, (.bool false)), (9, (.string (S l))), (10, (.int .u64 1152921504606846976)), (11, (.int .u64 18446744073709551615)), (12, (.bool false)), (13, (.int .u64 ((nv 16 (List.take j104 l) : Nat) : Int))), (16, (.int .u8 (((lowB y116 : Nat) : Int) - 97 + 10))), (99, v92), (100, (.int .i64 ((l.length : Nat) : Int))), (101, (.int .i64 ((j104 : Nat) : Int))), (137, (.bool true))] a472 := hA473.cut _ (fm_cons (hA473.get 1 _ rfl) (fm_cons (hA473.get 6 _ rfl) (fm_cons (hA473.get 7 _ rfl) (fm_cons (hA473.get 8 _ rfl) (fm_cons (hA473.get 9 _ rfl) (fm_cons (hA473.get 10 _ rfl) (fm_cons (hA473.get 11 _ rfl) (fm_cons (hA473.get 12 _ rfl) (fm_cons (hA473.get 13 _ rfl) (fm_cons (hA473.get 16 _ rfl) (fm_cons (hA473.get 99 _ rfl) (fm_cons (hA473.get 100 _ rfl) (fm_cons (hA473.get 101 _ rfl) (fm_cons (hA473.get 137 _ rfl) fm_nil))))))))))))))
                refine t_norm ?_
                refine c_true hA474 rfl ?_
                refine wp_seq ?_
                refine wp_region_lit ?_
                refine q_step hA474 rfl (d_iface (wn rfl) (hA474.ev (v := (.int .i64 2)) rfl) conc84 ?_)
                intro a475 hA476
                refine q_step hA476 rfl (d_assign (wn rfl) (hA476.ev (v := (.int .u64 0)) rfl) ?_)
                intro a477 hA478
                refine q_step hA478 rfl (d_assign (wn rfl) (hA478.ev (v := (.iface 84 (.int .i64 2))) rfl) ?_)
                intro a479 hA480
                refine q_end ?_
                refine t_norm ?_
                refine wp_ret ?_
                refine t_ret ?_
                refine i_ret ?_
                refine t_ret ?_
                refine t_ret ?_
                refine i_ret ?_
                refine t_ret ?_
                refine ret2 (x := (.int .u64 0)) (y := (.iface 84 (.int .i64 2))) rfl hA480 rfl rfl ?_
                exact ⟨by rw [pu_none (val_bad hy117 (by first | omega | (rw [dv_bad (by omega) (by omega)]; omega)))], Grow.trans b96 b455⟩
              · skip
                have hq481 := of_decide_eq_false hb470
                refine q_step hA469 rfl (d_bin (wn rfl) (hA469.ev (v := (.int .u8 (((lowB y116 : Nat) : Int) - 97 + 10))) rfl) (hA469.ev (v := (.int .u8 16)) rfl) (b_ge _ _ (((lowB y116 : Nat) : Int) - 97 + 10) 16 false _ hb470) ?_)
                intro a482 hA483
                refine q_end ?_
                have hA484 : St 172 [(1, (.int .i64 16)), (6, (.int .u64 0)), (7, (.nilIface)), (8, (.bool false)), (9, (.string (S l))), (10, (.int .u64 1152921504606846976)), (11, (.int .u64 18446744073709551615)), (12, (.bool false)), (13, (.int .u64 ((nv 16 (List.take j104 l) : Nat) : Int))), (16, (.int .u8 (((lowB y116 : Nat) : Int) - 97 + 10))), (99, v92), (100, (.int .i64 ((l.length : Nat) : Int))), (101, (.int .i64 ((j104 : Nat) : Int))), (137, (.bool false))] a482 := hA483.cut _ (fm_cons (hA483.get 1 _ rfl) (fm_cons (hA483.get 6 _ rfl) (fm_cons (hA483.get 7 _ rfl) (fm_cons (hA483.get 8 _ rfl) (fm_cons (hA483.get 9 _ rfl) (fm_cons (hA483.get 10 _ rfl) (fm_cons (hA483.get 11 _ rfl) (fm_cons (hA483.get 12 _ rfl) (fm_cons (hA483.get 13 _ rfl) (fm_cons (hA483.get 16 _ rfl) (fm_cons (hA483.get 99 _ rfl) (fm_cons (hA483.get 100 _ rfl) (fm_cons (hA483.get 101 _ rfl) (fm_cons (hA483.get 137 _ rfl) fm_nil))))))))))))))
                refine t_norm ?_
                refine c_false hA484 rfl ?_
                refine wp_skip ?_
                refine t_norm ?_
                refine wp_seq ?_
                refine wp_seq ?_
                refine wp_region_lit ?_
                refine q_step hA484 rfl (d_move (wn rfl) (hA484.ev (v := (.int .u64 ((nv 16 (List.take j104 l) : Nat) : Int))) rfl) ?_)
                intro a485 hA486
                refine q_step hA486 rfl (d_move (wn rfl) (hA486.ev (v := (.int .u64 1152921504606846976)) rfl) ?_)
                intro a487 hA488
                refine q_step hA488 rfl (d_bin (wn rfl) (hA488.ev (v := (.int .u64 ((nv 16 (List.take j104 l) : Nat) : Int))) rfl) (hA488.ev (v := (.int .u64 1152921504606846976)) rfl) (b_ge _ _ ((nv 16 (List.take j104 l) : Nat) : Int) 1152921504606846976 false _ (decide_eq_false (by omega))) ?_)
                intro a489 hA490
                refine q_end ?_
                refine t_norm ?_
                refine c_false hA490 rfl ?_
                refine wp_skip ?_
                refine t_norm ?_
                refine wp_seq ?_
                refine wp_region_lit ?_
                refine q_step hA490 rfl (d_move (wn rfl) (hA490.ev (v := (.int .u64 ((nv 16 (List.take j104 l) : Nat) : Int))) rfl) ?_)
                intro a491 hA492
                refine q_step hA492 rfl (d_move (wn rfl) (hA492.ev (v := (.int .i64 16)) rfl) ?_)
                intro a493 hA494
                refine q_step hA494 rfl (d_conv 16 (wn rfl) (hA494.ev (v := (.int .i64 16)) rfl) knd3 knd70 rfl ?_)
                intro a495 hA496
                refine q_step hA496 rfl (d_bin (wn rfl) (hA496.ev (v := (.int .u64 ((nv 16 (List.take j104 l) : Nat) : Int))) rfl) (hA496.ev (v := (.int .u64 16)) rfl) (b_mulK (((nv 16 (List.take j104 l) : Nat) : Int) * 16) (wrap64 (by omega) (by omega))) ?_)
                intro a497 hA498
                refine q_step hA498 rfl (d_assign (wn rfl) (hA498.ev (v := (.int .u64 (((nv 16 (List.take j104 l) : Nat) : Int) * 16))) rfl) ?_)
                intro a499 hA500
                refine q_end ?_
                refine t_norm ?_
                refine wp_seq ?_
                refine wp_region_lit ?_
                refine q_step hA500 rfl (d_move (wn rfl) (hA500.ev (v := (.int .u64 (((nv 16 (List.take j104 l) : Nat) : Int) * 16))) rfl) ?_)
                intro a501 hA502
                refine q_step hA502 rfl (d_move (wn rfl) (hA502.ev (v := (.int .u8 (((lowB y116 : Nat) : Int) - 97 + 10))) rfl) ?_)
                intro a503 hA504
                refine q_step hA504 rfl (d_conv (((lowB y116 : Nat) : Int) - 97 + 10) (wn rfl) (hA504.ev (v := (.int .u8 (((lowB y116 : Nat) : Int) - 97 + 10))) rfl) knd5 knd70 (wrap64 (by omega) (by omega)) ?_)
                intro a505 hA506
                refine q_step hA506 rfl (d_bin (wn rfl) (hA506.ev (v := (.int .u64 (((nv 16 (List.take j104 l) : Nat) : Int) * 16))) rfl) (hA506.ev (v := (.int .u64 (((lowB y116 : Nat) : Int) - 97 + 10))) rfl) (b_addK (((nv 16 (List.take j104 l) : Nat) : Int) * 16 + (((lowB y116 : Nat) : Int) - 97 + 10)) (wrap64 (by omega) (by omega))) ?_)
                intro a507 hA508
                refine q_step hA508 rfl (d_assign (wn rfl) (hA508.ev (v := (.int .u64 (((nv 16 (List.take j104 l) : Nat) : Int) * 16 + (((lowB y116 : Nat) : Int) - 97 + 10)))) rfl) ?_)
                intro a509 hA510
                refine q_end ?_
                refine t_norm ?_
                refine wp_seq ?_
                refine wp_seq ?_
                refine wp_region_lit ?_
                refine q_step hA510 rfl (d_move (wn rfl) (hA510.ev (v := (.int .u64 (((nv 16 (List.take j104 l) : Nat) : Int) * 16 + (((lowB y116 : Nat) : Int) - 97 + 10)))) rfl) ?_)
                intro a511 hA512
                refine q_step hA512 rfl (d_move (wn rfl) (hA512.ev (v := (.int .u64 (((nv 16 (List.take j104 l) : Nat) : Int) * 16))) rfl) ?_)
                intro a513 hA514
                refine q_step hA514 rfl (d_bin (wn rfl) (hA514.ev (v := (.int .u64 (((nv 16 (List.take j104 l) : Nat) : Int) * 16 + (((lowB y116 : Nat) : Int) - 97 + 10)))) rfl) (hA514.ev (v := (.int .u64 (((nv 16 (List.take j104 l) : Nat) : Int) * 16))) rfl) (b_lt _ _ (((nv 16 (List.take j104 l) : Nat) : Int) * 16 + (((lowB y116 : Nat) : Int) - 97 + 10)) (((nv 16 (List.take j104 l) : Nat) : Int) * 16) false _ (decide_eq_false (by omega))) ?_)
                intro a515 hA516
                refine q_step hA516 rfl (d_move (wn rfl) (hA516.ev (v := (.bool false)) rfl) ?_)
                intro a517 hA518
                refine q_step hA518 rfl (d_move (wy rfl rfl (hA518.get 155 _ rfl)) (hA518.ev (v := (.int .u64 (((nv 16 (List.take j104 l) : Nat) : Int) * 16 + (((lowB y116 : Nat) : Int) - 97 + 10)))) rfl) ?_)
                intro a519 hA520
                refine q_step hA520 rfl (d_move (wy rfl rfl (hA520.get 155 _ rfl)) (hA520.ev (v := (.int .u64 18446744073709551615)) rfl) ?_)
                intro a521 hA522
                refine q_step hA522 rfl (d_bin (wy rfl rfl (hA522.get 155 _ rfl)) (hA522.ev (v := (.int .u64 (((nv 16 (List.take j104 l) : Nat) : Int) * 16 + (((lowB y116 : Nat) : Int) - 97 + 10)))) rfl) (hA522.ev (v := (.int .u64 18446744073709551615)) rfl) (b_gt _ _ (((nv 16 (List.take j104 l) : Nat) : Int) * 16 + (((lowB y116 : Nat) : Int) - 97 + 10)) 18446744073709551615 false _ (decide_eq_false (by omega))) ?_)
                intro a523 hA524
                refine q_step hA524 rfl (d_pickF (wn rfl) (hA524.ev (v := (.bool false)) rfl) (hA524.ev (v := (.bool false)) rfl) ?_)
                intro a525 hA526
                refine q_end ?_
                refine t_norm ?_
                refine c_false hA526 rfl ?_
                refine wp_skip ?_
                refine t_norm ?_
                refine wp_region_lit ?_
                refine q_step hA526 rfl (d_move (wn rfl) (hA526.ev (v := (.int .u64 (((nv 16 (List.take j104 l) : Nat) : Int) * 16 + (((lowB y116 : Nat) : Int) - 97 + 10)))) rfl) ?_)
                intro a527 hA528
                refine q_step hA528 rfl (d_assign (wn rfl) (hA528.ev (v := (.int .u64 (((nv 16 (List.take j104 l) : Nat) : Int) * 16 + (((lowB y116 : Nat) : Int) - 97 + 10)))) rfl) ?_)
                intro a529 hA530
                refine q_end ?_
                refine i_norm ?_
                refine t_norm ?_
                refine wp_region_lit ?_
                refine q_step hA530 rfl (d_bin (wn rfl) (hA530.ev (v := (.int .i64 ((j104 : Nat) : Int))) rfl) (hA530.ev (v := (.int .i64 1)) rfl) (b_addE (j104 + 1) (by omega) (by omega)) ?_)
                intro a531 hA532
                refine q_step hA532 rfl (d_move (wn rfl) (hA532.ev (v := (.int .i64 ((j104 + 1 : Nat) : Int))) rfl) ?_)
                intro a533 hA534
                refine q_end ?_
                refine t_norm ?_
                have hgo := nv_go (bs := 16) hy117
                have hall2 := all_go hy117 hall (by omega)
                exact ⟨l.length - (j104 + 1), (by rw [hm110]; omega), j104 + 1, rfl, ⟨by omega, hall2⟩, hA534.cut _ (fm_cons (hA534.get 1 _ rfl) (fm_cons (hA534.get 6 _ rfl) (fm_cons (hA534.get 7 _ rfl) (fm_cons (hA534.get 8 _ rfl) (fm_cons (hA534.get 9 _ rfl) (fm_cons (hA534.get 10 _ rfl) (fm_cons (hA534.get 11 _ rfl) (fm_cons (hA534.get 12 _ rfl) (fm_cons ((hA534.get 13 _ rfl).trans (congrArg (Value.int .u64) (by omega))) (fm_cons (hA534.get 99 _ rfl) (fm_cons (hA534.get 100 _ rfl) (fm_cons (hA534.get 101 _ rfl) fm_nil)))))))))))), b455⟩
            · skip
              have hq535 := of_decide_eq_false hb440
              refine q_step hA439 rfl (d_bin (wy rfl rfl (hA439.get 125 _ rfl)) (hA439.ev (v := (.int .u8 ((lowB y116 : Nat) : Int))) rfl) (hA439.ev (v := (.int .u8 122)) rfl) (b_le _ _ ((lowB y116 : Nat) : Int) 122 false _ hb440) ?_)
              intro a536 hA537
              refine q_step hA537 rfl (d_pickT (wn rfl) (hA537.ev (v := (.bool true)) rfl) (hA537.ev (v := (.bool false)) rfl) ?_)
              intro a538 hA539
              refine q_step hA539 rfl (d_assign (wn rfl) (hA539.ev (v := (.bool false)) rfl) ?_)
              intro a540 hA541
              refine q_end ?_
              refine t_norm ?_
              refine c_false hA541 rfl ?_
              refine wp_seq ?_
              refine wp_region_lit ?_
              refine q_step hA541 rfl (d_iface (wn rfl) (hA541.ev (v := (.int .i64 2)) rfl) conc84 ?_)
              intro a542 hA543
              refine q_step hA543 rfl (d_assign (wn rfl) (hA543.ev (v := (.int .u64 0)) rfl) ?_)
              intro a544 hA545
              refine q_step hA545 rfl (d_assign (wn rfl) (hA545.ev (v := (.iface 84 (.int .i64 2))) rfl) ?_)
              intro a546 hA547
              refine q_end ?_
              refine t_norm ?_
              refine wp_ret ?_
              refine i_ret ?_
              refine t_ret ?_
              refine i_ret ?_
              refine t_ret ?_
              refine t_ret ?_
              refine i_ret ?_
              refine t_ret ?_
              refine ret2 (x := (.int .u64 0)) (y := (.iface 84 (.int .i64 2))) rfl hA547 rfl rfl ?_
              exact ⟨by rw [pu_none (val_bad hy117 (by first | omega | (rw [dv_bad (by omega) (by omega)]; omega)))], Grow.trans b96 b437⟩
          · skip
            have hq548 := of_decide_eq_false hb424
            refine q_step hA423 rfl (d_bin (wn rfl) (hA423.ev (v := (.int .u8 97)) rfl) (hA423.ev (v := (.int .u8 ((lowB y116 : Nat) : Int))) rfl) (b_le _ _ 97 ((lowB y116 : Nat) : Int) false _ hb424) ?_)
            intro a549 hA550
            refine q_step hA550 rfl (d_move (wn rfl) (hA550.ev (v := (.bool false)) rfl) ?_)
            intro a551 hA552
            refine q_step hA552 rfl (does_not (wno rfl rfl (.inl (hA552.get 125 _ rfl))) ?_)
            intro a553 hA554
            refine q_step hA554 rfl (does_not (wno rfl rfl (.inl (hA554.get 125 _ rfl))) ?_)
            intro a555 hA556
            refine q_step hA556 rfl (does_not (wno rfl rfl (.inl (hA556.get 125 _ rfl))) ?_)
            intro a557 hA558
            refine q_step hA558 rfl (d_pickF (wn rfl) (hA558.ev (v := (.bool false)) rfl) (hA558.ev (v := (.bool false)) rfl) ?_)
            intro a559 hA560
            refine q_step hA560 rfl (d_assign (wn rfl) (hA560.ev (v := (.bool false)) rfl) ?_)
            intro a561 hA562
            refine q_end ?_
            refine t_norm ?_
            refine c_false hA562 rfl ?_
            refine wp_seq ?_
            refine wp_region_lit ?_
            refine q_step hA562 rfl (d_iface (wn rfl) (hA562.ev (v := (.int .i64 2)) rfl) conc84 ?_)
            intro a563 hA564
            refine q_step hA564 rfl (d_assign (wn rfl) (hA564.ev (v := (.int .u64 0)) rfl) ?_)
            intro a565 hA566
            refine q_step hA566 rfl (d_assign (wn rfl) (hA566.ev (v := (.iface 84 (.int .i64 2))) rfl) ?_)
            intro a567 hA568
            refine q_end ?_
            refine t_norm ?_
            refine wp_ret ?_
            refine i_ret ?_
            refine t_ret ?_
            refine i_ret ?_
            refine t_ret ?_
            refine t_ret ?_
            refine i_ret ?_
            refine t_ret ?_
            refine ret2 (x := (.int .u64 0)) (y := (.iface 84 (.int .i64 2))) rfl hA568 rfl rfl ?_
            exact ⟨by rw [pu_none (val_bad hy117 (by first | omega | (rw [dv_bad (by omega) (by omega)]; omega)))], Grow.trans b96 b421⟩
      · skip
        have hq569 := ne_of_beq hb133
        refine q_step hA132 rfl (d_bin (wn rfl) (hA132.ev (v := (.int .u8 ((y116.toNat : Nat) : Int))) rfl) (hA132.ev (v := (.int .u8 95)) rfl) (b_eq _ _ ((y116.toNat : Nat) : Int) 95 false _ hb133) ?_)
        intro a570 hA571
        refine q_step hA571 rfl (d_move (wn rfl) (hA571.ev (v := (.bool false)) rfl) ?_)
        intro a572 hA573
        refine q_step hA573 rfl (does_not (wno rfl rfl (.inl (hA573.get 109 _ rfl))) ?_)
        intro a574 hA575
        refine q_step hA575 rfl (d_pickF (wn rfl) (hA575.ev (v := (.bool false)) rfl) (hA575.ev (v := (.bool false)) rfl) ?_)
        intro a576 hA577
        refine q_step hA577 rfl (d_assign (wn rfl) (hA577.ev (v := (.bool false)) rfl) ?_)
        intro a578 hA579
        refine q_end ?_
        refine t_norm ?_
        refine c_false hA579 rfl ?_
        refine wp_seq ?_
        refine wp_region_lit ?_
        refine q_step hA579 rfl (d_move (wn rfl) (hA579.ev (v := (.int .u8 ((y116.toNat : Nat) : Int))) rfl) ?_)
        intro a580 hA581
        rcases Bool.eq_false_or_eq_true (decide ((48 : Int) ≤ ((y116.toNat : Nat) : Int))) with hb582 | hb582
        · skip
          have hq583 := of_decide_eq_true hb582
          refine q_step hA581 rfl (d_bin (wn rfl) (hA581.ev (v := (.int .u8 48)) rfl) (hA581.ev (v := (.int .u8 ((y116.toNat : Nat) : Int))) rfl) (b_le _ _ 48 ((y116.toNat : Nat) : Int) true _ hb582) ?_)
          intro a584 hA585
          refine q_step hA585 rfl (d_move (wn rfl) (hA585.ev (v := (.bool true)) rfl) ?_)
          intro a586 hA587
          refine q_step hA587 rfl (d_move (wy rfl rfl (hA587.get 115 _ rfl)) (hA587.ev (v := (.int .u8 ((y116.toNat : Nat) : Int))) rfl) ?_)
          intro a588 hA589
          rcases Bool.eq_false_or_eq_true (decide (((y116.toNat : Nat) : Int) ≤ 57)) with hb590 | hb590
          · skip
            have hq591 := of_decide_eq_true hb590
            refine q_step hA589 rfl (d_bin (wy rfl rfl (hA589.get 115 _ rfl)) (hA589.ev (v := (.int .u8 ((y116.toNat : Nat) : Int))) rfl) (hA589.ev (v := (.int .u8 57)) rfl) (b_le _ _ ((y116.toNat : Nat) : Int) 57 true _ hb590) ?_)
            intro a592 hA593
            refine q_step hA593 rfl (d_pickT (wn rfl) (hA593.ev (v := (.bool true)) rfl) (hA593.ev (v := (.bool true)) rfl) ?_)
            intro a594 hA595
            refine q_step hA595 rfl (d_assign (wn rfl) (hA595.ev (v := (.bool true)) rfl) ?_)
            intro a596 hA597
            refine q_end ?_
            refine t_norm ?_
            refine c_true hA597 rfl ?_
            refine wp_region_lit ?_
            refine q_step hA597 rfl (d_move (wn rfl) (hA597.ev (v := (.int .u8 ((y116.toNat : Nat) : Int))) rfl) ?_)
            intro a598 hA599
            refine q_step hA599 rfl (d_bin (wn rfl) (hA599.ev (v := (.int .u8 ((y116.toNat : Nat) : Int))) rfl) (hA599.ev (v := (.int .u8 48)) rfl) (b_subK (((y116.toNat : Nat) : Int) - 48) (wrap8 (by omega) (by omega))) ?_)
            intro a600 hA601
            refine q_step hA601 rfl (d_assign (wn rfl) (hA601.ev (v := (.int .u8 (((y116.toNat : Nat) : Int) - 48))) rfl) ?_)
            intro a602 hA603
            have hdv : dv y116 = y116.toNat - 48 := dv_dig (by omega) (by omega)
            refine q_end ?_
            refine i_norm ?_
            refine t_norm ?_
            refine wp_seq ?_
            refine wp_seq ?_
            refine wp_region_lit ?_
            refine q_step hA603 rfl (d_move (wn rfl) (hA603.ev (v := (.int .u8 (((y116.toNat : Nat) : Int) - 48))) rfl) ?_)
            intro a604 hA605
            refine q_step hA605 rfl (d_move (wn rfl) (hA605.ev (v := (.int .i64 16)) rfl) ?_)
            intro a606 hA607
            refine q_step hA607 rfl (d_conv 16 (wn rfl) (hA607.ev (v := (.int .i64 16)) rfl) knd3 knd5 rfl ?_)
            intro a608 hA609
            rcases Bool.eq_false_or_eq_true (decide (((y116.toNat : Nat) : Int) - 48 ≥ 16)) with hb610 | hb610
            · skip
              have hq611 := of_decide_eq_true hb610
              refine q_step hA609 rfl (d_bin (wn rfl) (hA609.ev (v := (.int .u8 (((y116.toNat : Nat) : Int) - 48))) rfl) (hA609.ev (v := (.int .u8 16)) rfl) (b_ge _ _ (((y116.toNat : Nat) : Int) - 48) 16 true _ hb610) ?_)
              intro a612 hA613
              refine q_end ?_
              refine t_norm ?_
              refine c_true hA613 rfl ?_
              refine wp_seq ?_
              refine wp_region_lit ?_
              refine q_step hA613 rfl (d_iface (wn rfl) (hA613.ev (v := (.int .i64 2)) rfl) conc84 ?_)
              intro a614 hA615
              refine q_step hA615 rfl (d_assign (wn rfl) (hA615.ev (v := (.int .u64 0)) rfl) ?_)
              intro a616 hA617
              refine q_step hA617 rfl (d_assign (wn rfl) (hA617.ev (v := (.iface 84 (.int .i64 2))) rfl) ?_)
              intro a618 hA619
              refine q_end ?_
              refine t_norm ?_
              refine wp_ret ?_
              refine t_ret ?_
              refine i_ret ?_
              refine t_ret ?_
              refine t_ret ?_
              refine i_ret ?_
              refine t_ret ?_
              refine ret2 (x := (.int .u64 0)) (y := (.iface 84 (.int .i64 2))) rfl hA619 rfl rfl ?_
              exact ⟨by rw [pu_none (val_bad hy117 (by first | omega | (rw [dv_bad (by omega) (by omega)]; omega)))], Grow.trans b96 b109⟩
            · skip
              have hq620 := of_decide_eq_false hb610
              refine q_step hA609 rfl (d_bin (wn rfl) (hA609.ev (v := (.int .u8 (((y116.toNat : Nat) : Int) - 48))) rfl) (hA609.ev (v := (.int .u8 16)) rfl) (b_ge _ _ (((y116.toNat : Nat) : Int) - 48) 16 false _ hb610) ?_)
              intro a621 hA622
              refine q_end ?_
              refine t_norm ?_
              refine c_false hA622 rfl ?_
              refine wp_skip ?_
              refine t_norm ?_
              refine wp_seq ?_
              refine wp_seq ?_
              refine wp_region_lit ?_
              refine q_step hA622 rfl (d_move (wn rfl) (hA622.ev (v := (.int .u64 ((nv 16 (List.take j104 l) : Nat) : Int))) rfl) ?_)
              intro a623 hA624
              refine q_step hA624 rfl (d_move (wn rfl) (hA624.ev (v := (.int .u64 1152921504606846976)) rfl) ?_)
              intro a625 hA626
              refine q_step hA626 rfl (d_bin (wn rfl) (hA626.ev (v := (.int .u64 ((nv 16 (List.take j104 l) : Nat) : Int))) rfl) (hA626.ev (v := (.int .u64 1152921504606846976)) rfl) (b_ge _ _ ((nv 16 (List.take j104 l) : Nat) : Int) 1152921504606846976 false _ (decide_eq_false (by omega))) ?_)
              intro a627 hA628
              refine q_end ?_
              refine t_norm ?_
              refine c_false hA628 rfl ?_
              refine wp_skip ?_
              refine t_norm ?_
              refine wp_seq ?_
              refine wp_region_lit ?_
              refine q_step hA628 rfl (d_move (wn rfl) (hA628.ev (v := (.int .u64 ((nv 16 (List.take j104 l) : Nat) : Int))) rfl) ?_)
              intro a629 hA630
              refine q_step hA630 rfl (d_move (wn rfl) (hA630.ev (v := (.int .i64 16)) rfl) ?_)
              intro a631 hA632
              refine q_step hA632 rfl (d_conv 16 (wn rfl) (hA632.ev (v := (.int .i64 16)) rfl) knd3 knd70 rfl ?_)
              intro a633 hA634
              refine q_step hA634 rfl (d_bin (wn rfl) (hA634.ev (v := (.int .u64 ((nv 16 (List.take j104 l) : Nat) : Int))) rfl) (hA634.ev (v := (.int .u64 16)) rfl) (b_mulK (((nv 16 (List.take j104 l) : Nat) : Int) * 16) (wrap64 (by omega) (by omega))) ?_)
              intro a635 hA636
              refine q_step hA636 rfl (d_assign (wn rfl) (hA636.ev (v := (.int .u64 (((nv 16 (List.take j104 l) : Nat) : Int) * 16))) rfl) ?_)
              intro a637 hA638
              refine q_end ?_
              refine t_norm ?_
              refine wp_seq ?_
              refine wp_region_lit ?_
              refine q_step hA638 rfl (d_move (wn rfl) (hA638.ev (v := (.int .u64 (((nv 16 (List.take j104 l) : Nat) : Int) * 16))) rfl) ?_)
              intro a639 hA640
              refine q_step hA640 rfl (d_move (wn rfl) (hA640.ev (v := (.int .u8 (((y116.toNat : Nat) : Int) - 48))) rfl) ?_)
              intro a641 hA642
              refine q_step hA642 rfl (d_conv (((y116.toNat : Nat) : Int) - 48) (wn rfl) (hA642.ev (v := (.int .u8 (((y116.toNat : Nat) : Int) - 48))) rfl) knd5 knd70 (wrap64 (by omega) (by omega)) ?_)
              intro a643 hA644
              refine q_step hA644 rfl (d_bin (wn rfl) (hA644.ev (v := (.int .u64 (((nv 16 (List.take j104 l) : Nat) : Int) * 16))) rfl) (hA644.ev (v := (.int .u64 (((y116.toNat : Nat) : Int) - 48))) rfl) (b_addK (((nv 16 (List.take j104 l) : Nat) : Int) * 16 + (((y116.toNat : Nat) : Int) - 48)) (wrap64 (by omega) (by omega))) ?_)
              intro a645 hA646
              refine q_step hA646 rfl (d_assign (wn rfl) (hA646.ev (v := (.int .u64 (((nv 16 (List.take j104 l) : Nat) : Int) * 16 + (((y116.toNat : Nat) : Int) - 48)))) rfl) ?_)
              intro a647 hA648
              refine q_end ?_
              have hA649 : St 172 [(1, (.int .i64 16)), (6, (.int .u64 0)), (7, (.nilIface)), (8, (.bool false)), (9, (.string (S l))), (10, (.int .u64 1152921504606846976)), (11, (.int .u64 18446744073709551615)), (12, (.bool false)), (13, (.int .u64 (((nv 16 (List.take j104 l) : Nat) : Int) * 16))), (17, (.int .u64 (((nv 16 (List.take j104 l) : Nat) : Int) * 16 + (((y116.toNat : Nat) : Int) - 48)))), (99, v92), (100, (.int .i64 ((l.length : Nat) : Int))), (101, (.int .i64 ((j104 : Nat) : Int)))] a647 := hA648.cut _ (fm_cons (hA648.get 1 _ rfl) (fm_cons (hA648.get 6 _ rfl) (fm_cons (hA648.get 7 _ rfl) (fm_cons (hA648.get 8 _ rfl) (fm_cons (hA648.get 9 _ rfl) (fm_cons (hA648.get 10 _ rfl) (fm_cons (hA648.get 11 _ rfl) (fm_cons (hA648.get 12 _ rfl) (fm_cons (hA648.get 13 _ rfl) (fm_cons (hA648.get 17 _ rfl) (fm_cons (hA648.get 99 _ rfl) (fm_cons (hA648.get 100 _ rfl) (fm_cons (hA648.get 101 _ rfl) fm_nil)))))))))))))
              refine t_norm ?_
              refine wp_seq ?_
              refine wp_seq ?_
              refine wp_region_lit ?_
              refine q_step hA649 rfl (d_move (wn rfl) (hA649.ev (v := (.int .u64 (((nv 16 (List.take j104 l) : Nat) : Int) * 16 + (((y116.toNat : Nat) : Int) - 48)))) rfl) ?_)
              intro a650 hA651
              refine q_step hA651 rfl (d_move (wn rfl) (hA651.ev (v := (.int .u64 (((nv 16 (List.take j104 l) : Nat) : Int) * 16))) rfl) ?_)
              intro a652 hA653
              refine q_step hA653 rfl (d_bin (wn rfl) (hA653.ev (v := (.int .u64 (((nv 16 (List.take j104 l) : Nat) : Int) * 16 + (((y116.toNat : Nat) : Int) - 48)))) rfl) (hA653.ev (v := (.int .u64 (((nv 16 (List.take j104 l) : Nat) : Int) * 16))) rfl) (b_lt _ _ (((nv 16 (List.take j104 l) : Nat) : Int) * 16 + (((y116.toNat : Nat) : Int) - 48)) (((nv 16 (List.take j104 l) : Nat) : Int) * 16) false _ (decide_eq_false (by omega))) ?_)
              intro a654 hA655
              refine q_step hA655 rfl (d_move (wn rfl) (hA655.ev (v := (.bool false)) rfl) ?_)
              intro a656 hA657
              refine q_step hA657 rfl (d_move (wy rfl rfl (hA657.get 155 _ rfl)) (hA657.ev (v := (.int .u64 (((nv 16 (List.take j104 l) : Nat) : Int) * 16 + (((y116.toNat : Nat) : Int) - 48)))) rfl) ?_)
              intro a658 hA659
              refine q_step hA659 rfl (d_move (wy rfl rfl (hA659.get 155 _ rfl)) (hA659.ev (v := (.int .u64 18446744073709551615)) rfl) ?_)
              intro a660 hA661
              refine q_step hA661 rfl (d_bin (wy rfl rfl (hA661.get 155 _ rfl)) (hA661.ev (v := (.int .u64 (((nv 16 (List.take j104 l) : Nat) : Int) * 16 + (((y116.toNat : Nat) : Int) - 48)))) rfl) (hA661.ev (v := (.int .u64 18446744073709551615)) rfl) (b_gt _ _ (((nv 16 (List.take j104 l) : Nat) : Int) * 16 + (((y116.toNat : Nat) : Int) - 48)) 18446744073709551615 false _ (decide_eq_false (by omega))) ?_)
              intro a662 hA663
              refine q_step hA663 rfl (d_pickF (wn rfl) (hA663.ev (v := (.bool false)) rfl) (hA663.ev (v := (.bool false)) rfl) ?_)
              intro a664 hA665
              refine q_end ?_
              refine t_norm ?_
              refine c_false hA665 rfl ?_
              refine wp_skip ?_
              refine t_norm ?_
              refine wp_region_lit ?_
              refine q_step hA665 rfl (d_move (wn rfl) (hA665.ev (v := (.int .u64 (((nv 16 (List.take j104 l) : Nat) : Int) * 16 + (((y116.toNat : Nat) : Int) - 48)))) rfl) ?_)
              intro a666 hA667
              refine q_step hA667 rfl (d_assign (wn rfl) (hA667.ev (v := (.int .u64 (((nv 16 (List.take j104 l) : Nat) : Int) * 16 + (((y116.toNat : Nat) : Int) - 48)))) rfl) ?_)
              intro a668 hA669
              refine q_end ?_
              refine i_norm ?_
              refine t_norm ?_
              refine wp_region_lit ?_
              refine q_step hA669 rfl (d_bin (wn rfl) (hA669.ev (v := (.int .i64 ((j104 : Nat) : Int))) rfl) (hA669.ev (v := (.int .i64 1)) rfl) (b_addE (j104 + 1) (by omega) (by omega)) ?_)
              intro a670 hA671
              refine q_step hA671 rfl (d_move (wn rfl) (hA671.ev (v := (.int .i64 ((j104 + 1 : Nat) : Int))) rfl) ?_)
              intro a672 hA673
              refine q_end ?_
              refine t_norm ?_
              have hgo := nv_go (bs := 16) hy117
              have hall2 := all_go hy117 hall (by omega)
              exact ⟨l.length - (j104 + 1), (by rw [hm110]; omega), j104 + 1, rfl, ⟨by omega, hall2⟩, hA673.cut _ (fm_cons (hA673.get 1 _ rfl) (fm_cons (hA673.get 6 _ rfl) (fm_cons (hA673.get 7 _ rfl) (fm_cons (hA673.get 8 _ rfl) (fm_cons (hA673.get 9 _ rfl) (fm_cons (hA673.get 10 _ rfl) (fm_cons (hA673.get 11 _ rfl) (fm_cons (hA673.get 12 _ rfl) (fm_cons ((hA673.get 13 _ rfl).trans (congrArg (Value.int .u64) (by omega))) (fm_cons (hA673.get 99 _ rfl) (fm_cons (hA673.get 100 _ rfl) (fm_cons (hA673.get 101 _ rfl) fm_nil)))))))))))), b109⟩
          · skip
            have hq674 := of_decide_eq_false hb590
            refine q_step hA589 rfl (d_bin (wy rfl rfl (hA589.get 115 _ rfl)) (hA589.ev (v := (.int .u8 ((y116.toNat : Nat) : Int))) rfl) (hA589.ev (v := (.int .u8 57)) rfl) (b_le _ _ ((y116.toNat : Nat) : Int) 57 false _ hb590) ?_)
            intro a675 hA676
            refine q_step hA676 rfl (d_pickT (wn rfl) (hA676.ev (v := (.bool true)) rfl) (hA676.ev (v := (.bool false)) rfl) ?_)
            intro a677 hA678
            refine q_step hA678 rfl (d_assign (wn rfl) (hA678.ev (v := (.bool false)) rfl) ?_)
            intro a679 hA680
            refine q_end ?_
            refine t_norm ?_
            refine c_false hA680 rfl ?_
            refine wp_seq ?_
            refine wp_region_lit ?_
            refine q_step hA680 rfl (d_move (wn rfl) (hA680.ev (v := (.int .u8 ((y116.toNat : Nat) : Int))) rfl) ?_)
            intro a681 hA682
            have hlw := lowB_le y116
            refine q_step hA682 rfl (d_call (wn rfl) ent63 (map1 (hA682.ev (v := (.int .u8 ((y116.toNat : Nat) : Int))) rfl)) (lower_any y116 w107) ?_)
            rintro e686 w683 ⟨he685, hG684⟩
            have hr687 := range_below hr121 hG684 (Nat.lt_of_lt_of_le lt120 b109.size)
            have b688 := below_grow b109 hG684 b109.size
            refine ⟨(.int .u8 ((lowB y116 : Nat) : Int)), he685, ?_⟩
            intro a689 hA690
            rcases Bool.eq_false_or_eq_true (decide ((97 : Int) ≤ ((lowB y116 : Nat) : Int))) with hb691 | hb691
            · skip
              have hq692 := of_decide_eq_true hb691
              refine q_step hA690 rfl (d_bin (wn rfl) (hA690.ev (v := (.int .u8 97)) rfl) (hA690.ev (v := (.int .u8 ((lowB y116 : Nat) : Int))) rfl) (b_le _ _ 97 ((lowB y116 : Nat) : Int) true _ hb691) ?_)
              intro a693 hA694
              refine q_step hA694 rfl (d_move (wn rfl) (hA694.ev (v := (.bool true)) rfl) ?_)
              intro a695 hA696
              refine q_step hA696 rfl (d_move (wy rfl rfl (hA696.get 125 _ rfl)) (hA696.ev (v := (.int .u8 ((y116.toNat : Nat) : Int))) rfl) ?_)
              intro a697 hA698
              have hlw := lowB_le y116
              refine q_step hA698 rfl (d_call (wy rfl rfl (hA698.get 125 _ rfl)) ent63 (map1 (hA698.ev (v := (.int .u8 ((y116.toNat : Nat) : Int))) rfl)) (lower_any y116 w683) ?_)
              rintro e702 w699 ⟨he701, hG700⟩
              have hr703 := range_below hr687 hG700 (Nat.lt_of_lt_of_le lt120 b688.size)
              have b704 := below_grow b688 hG700 b688.size
              refine ⟨(.int .u8 ((lowB y116 : Nat) : Int)), he701, ?_⟩
              intro a705 hA706
              rcases Bool.eq_false_or_eq_true (decide (((lowB y116 : Nat) : Int) ≤ 122)) with hb707 | hb707
              · skip
                have hq708 := of_decide_eq_true hb707
                refine q_step hA706 rfl (d_bin (wy rfl rfl (hA706.get 125 _ rfl)) (hA706.ev (v := (.int .u8 ((lowB y116 : Nat) : Int))) rfl) (hA706.ev (v := (.int .u8 122)) rfl) (b_le _ _ ((lowB y116 : Nat) : Int) 122 true _ hb707) ?_)
                intro a709 hA710
                refine q_step hA710 rfl (d_pickT (wn rfl) (hA710.ev (v := (.bool true)) rfl) (hA710.ev (v := (.bool true)) rfl) ?_)
                intro a711 hA712
                refine q_step hA712 rfl (d_assign (wn rfl) (hA712.ev (v := (.bool true)) rfl) ?_)
                intro a713 hA714
                refine q_end ?_
                refine t_norm ?_
                refine c_true hA714 rfl ?_
                refine wp_region_lit ?_
                refine q_step hA714 rfl (d_move (wn rfl) (hA714.ev (v := (.int .u8 ((y116.toNat : Nat) : Int))) rfl) ?_)
                intro a715 hA716
                have hlw := lowB_le y116
                refine q_step hA716 rfl (d_call (wn rfl) ent63 (map1 (hA716.ev (v := (.int .u8 ((y116.toNat : Nat) : Int))) rfl)) (lower_any y116 w699) ?_)
                rintro e720 w717 ⟨he719, hG718⟩
                have hr721 := range_below hr703 hG718 (Nat.lt_of_lt_of_le lt120 b704.size)
                have b722 := below_grow b704 hG718 b704.size
                refine ⟨(.int .u8 ((lowB y116 : Nat) : Int)), he719, ?_⟩
                intro a723 hA724
                refine q_step hA724 rfl (d_bin (wn rfl) (hA724.ev (v := (.int .u8 ((lowB y116 : Nat) : Int))) rfl) (hA724.ev (v := (.int .u8 97)) rfl) (b_subK (((lowB y116 : Nat) : Int) - 97) (wrap8 (by omega) (by omega))) ?_)
                intro a725 hA726
                refine q_step hA726 rfl (d_bin (wn rfl) (hA726.ev (v := (.int .u8 (((lowB y116 : Nat) : Int) - 97))) rfl) (hA726.ev (v := (.int .u8 10)) rfl) (b_addK (((lowB y116 : Nat) : Int) - 97 + 10) (wrap8 (by omega) (by omega))) ?_)
                intro a727 hA728
                refine q_step hA728 rfl (d_assign (wn rfl) (hA728.ev (v := (.int .u8 (((lowB y116 : Nat) : Int) - 97 + 10))) rfl) ?_)
                intro a729 hA730
                have hdv : dv y116 = lowB y116 - 97 + 10 := dv_let (by omega) (by omega) (by omega)
                refine q_end ?_
                refine i_norm ?_
                refine t_norm ?_
                refine wp_seq ?_
                refine wp_seq ?_
                refine wp_region_lit ?_
                refine q_step hA730 rfl (d_move (wn rfl) (hA730.ev (v := (.int .u8 (((lowB y116 : Nat) : Int) - 97 + 10))) rfl) ?_)
                intro a731 hA732
                refine q_step hA732 rfl (d_move (wn rfl) (hA732.ev (v := (.int .i64 16)) rfl) ?_)
                intro a733 hA734
                refine q_step hA734 rfl (d_conv 16 (wn rfl) (hA734.ev (v := (.int .i64 16)) rfl) knd3 knd5 rfl ?_)
                intro a735 hA736
                rcases Bool.eq_false_or_eq_true (decide (((lowB y116 : Nat) : Int) - 97 + 10 ≥ 16)) with hb737 | hb737
                · skip
                  have hq738 := of_decide_eq_true hb737
                  refine q_step hA736 rfl (d_bin (wn rfl) (hA736.ev (v := (.int .u8 (((lowB y116 : Nat) : Int) - 97 + 10))) rfl) (hA736.ev (v := (.int .u8 16)) rfl) (b_ge _ _ (((lowB y116 : Nat) : Int) - 97 + 10) 16 true _ hb737) ?_)
                  intro a739 hA740
                  refine q_end ?_
                  have hA741 : St 172 [(1, (.int .i64 16)), (6, (.int .u64 0)), (7, (.nilIface)), (8, (.bool false)), (9, (.string (S l))), (10, (.int .u64 1152921504606846976)), (11, (.int .u64 18446744073709551615)), (12, (.bool false)), (13, (.int .u64 ((nv 16 (List.take j104 l) : Nat) : Int))), (16, (.int .u8 (((lowB y116 : Nat) : Int) - 97 + 10))), (99, v92), (100, (.int .i64 ((l.length : Nat) : Int))), (101, (.int .i64 ((j104 : Nat) : Int))), (137, (.bool true))] a739 := hA740.cut _ (fm_cons (hA740.get 1 _ rfl) (fm_cons (hA740.get 6 _ rfl) (fm_cons (hA740.get 7 _ rfl) (fm_cons (hA740.get 8 _ rfl) (fm_cons (hA740.get 9 _ rfl) (fm_cons (hA740.get 10 _ rfl) (fm_cons (hA740.get 11 _ rfl) (fm_cons (hA740.get 12 _ rfl) (fm_cons (hA740.get 13 _ rfl) (fm_cons (hA740.get 16 _ rfl) (fm_cons (hA740.get 99 _ rfl) (fm_cons (hA740.get 100 _ rfl) (fm_cons (hA740.get 101 _ rfl) (fm_cons (hA740.get 137 _ rfl) fm_nil))))))))))))))
                  refine t_norm ?_
                  refine c_true hA741 rfl ?_
                  refine wp_seq ?_
                  refine wp_region_lit ?_
                  refine q_step hA741 rfl (d_iface (wn rfl) (hA741.ev (v := (.int .i64 2)) rfl) conc84 ?_)
                  intro a742 hA743
                  refine q_step hA743 rfl (d_assign (wn rfl) (hA743.ev (v := (.int .u64 0)) rfl) ?_)
                  intro a744 hA745
                  refine q_step hA745 rfl (d_assign (wn rfl) (hA745.ev (v := (.iface 84 (.int .i64 2))) rfl) ?_)
                  intro a746 hA747
                  refine q_end ?_
                  refine t_norm ?_
                  refine wp_ret ?_
                  refine t_ret ?_
                  refine i_ret ?_
                  refine t_ret ?_
                  refine t_ret ?_
                  refine i_ret ?_
                  refine t_ret ?_
                  refine ret2 (x := (.int .u64 0)) (y := (.iface 84 (.int .i64 2))) rfl hA747 rfl rfl ?_
                  exact ⟨by rw [pu_none (val_bad hy117 (by first | omega | (rw [dv_bad (by omega) (by omega)]; omega)))], Grow.trans b96 b722⟩
                · skip
                  have hq748 := of_decide_eq_false hb737
                  refine q_step hA736 rfl (d_bin (wn rfl) (hA736.ev (v := (.int .u8 (((lowB y116 : Nat) : Int) - 97 + 10))) rfl) (hA736.ev (v := (.int .u8 16)) rfl) (b_ge _ _ (((lowB y116 : Nat) : Int) - 97 + 10) 16 false _ hb737) ?_)
                  intro a749 hA750
                  refine q_end ?_
                  have hA751 : St 172 [(1, (.int .i64 16)), (6, (.int .u64 0)), (7, (.nilIface)), (8, (.bool false)), (9, (.string (S l))), (10, (.int .u64 1152921504606846976)), (11, (.int .u64 18446744073709551615)), (12, (.bool false)), (13, (.int .u64 ((nv 16 (List.take j104 l) : Nat) : Int))), (16, (.int .u8 (((lowB y116 : Nat) : Int) - 97 + 10))), (99, v92), (100, (.int .i64 ((l.length : Nat) : Int))), (101, (.int .i64 ((j104 : Nat) : Int))), (137, (.bool false))] a749 := hA750.cut _ (fm_cons (hA750.get 1 _ rfl) (fm_cons (hA750.get 6 _ rfl) (fm_cons (hA750.get 7 _ rfl) (fm_cons (hA750.get 8 _ rfl) (fm_cons (hA750.get 9 _ rfl) (fm_cons (hA750.get 10 _ rfl) (fm_cons (hA750.get 11 _ rfl) (fm_cons (hA750.get 12 _ rfl) (fm_cons (hA750.get 13 _ rfl) (fm_cons (hA750.get 16 _ rfl) (fm_cons (hA750.get 99 _ rfl) (fm_cons (hA750.get 100 _ rfl) (fm_cons (hA750.get 101 _ rfl) (fm_cons (hA750.get 137 _ rfl) fm_nil))))))))))))))
                  refine t_norm ?_
                  refine c_false hA751 rfl ?_
                  refine wp_skip ?_
                  refine t_norm ?_
                  refine wp_seq ?_
                  refine wp_seq ?_
                  refine wp_region_lit ?_
                  refine q_step hA751 rfl (d_move (wn rfl) (hA751.ev (v := (.int .u64 ((nv 16 (List.take j104 l) : Nat) : Int))) rfl) ?_)
                  intro a752 hA753
                  refine q_step hA753 rfl (d_move (wn rfl) (hA753.ev (v := (.int .u64 1152921504606846976)) rfl) ?_)
                  intro a754 hA755
                  refine q_step hA755 rfl (d_bin (wn rfl) (hA755.ev (v := (.int .u64 ((nv 16 (List.take j104 l) : Nat) : Int))) rfl) (hA755.ev (v := (.int .u64 1152921504606846976)) rfl) (b_ge _ _ ((nv 16 (List.take j104 l) : Nat) : Int) 1152921504606846976 false _ (decide_eq_false (by omega))) ?_)
                  intro a756 hA757
                  refine q_end ?_
                  refine t_norm ?_
                  refine c_false hA757 rfl ?_
                  refine wp_skip ?_
                  refine t_norm ?_
                  refine wp_seq ?_
                  refine wp_region_lit ?_
                  refine q_step hA757 rfl (d_move (wn rfl) (hA757.ev (v := (.int .u64 ((nv 16 (List.take j104 l) : Nat) : Int))) rfl) ?_)
                  intro a758 hA759
                  refine q_step hA759 rfl (d_move (wn rfl) (hA759.ev (v := (.int .i64 16)) rfl) ?_)
                  intro a760 hA761
                  refine q_step hA761 rfl (d_conv 16 (wn rfl) (hA761.ev (v := (.int .i64 16)) rfl) knd3 knd70 rfl ?_)
                  intro a762 hA763
                  refine q_step hA763 rfl (d_bin (wn rfl) (hA763.ev (v := (.int .u64 ((nv 16 (List.take j104 l) : Nat) : Int))) rfl) (hA763.ev (v := (.int .u64 16)) rfl) (b_mulK (((nv 16 (List.take j104 l) : Nat) : Int) * 16) (wrap64 (by omega) (by omega))) ?_)
                  intro a764 hA765
                  refine q_step hA765 rfl (d_assign (wn rfl) (hA765.ev (v := (.int .u64 (((nv 16 (List.take j104 l) : Nat) : Int) * 16))) rfl) ?_)
                  intro a766 hA767
                  refine q_end ?_
                  refine t_norm ?_
                  refine wp_seq ?_
                  refine wp_region_lit ?_
                  refine q_step hA767 rfl (d_move (wn rfl) (hA767.ev (v := (.int .u64 (((nv 16 (List.take j104 l) : Nat) : Int) * 16))) rfl) ?_)
                  intro a768 hA769
                  refine q_step hA769 rfl (d_move (wn rfl) (hA769.ev (v := (.int .u8 (((lowB y116 : Nat) : Int) - 97 + 10))) rfl) ?_)
                  intro a770 hA771
                  refine q_step hA771 rfl (d_conv (((lowB y116 : Nat) : Int) - 97 + 10) (wn rfl) (hA771.ev (v := (.int .u8 (((lowB y116 : Nat) : Int) - 97 + 10))) rfl) knd5 knd70 (wrap64 (by omega) (by omega)) ?_)
                  intro a772 hA773
                  refine q_step hA773 rfl (d_bin (wn rfl) (hA773.ev (v := (.int .u64 (((nv 16 (List.take j104 l) : Nat) : Int) * 16))) rfl) (hA773.ev (v := (.int .u64 (((lowB y116 : Nat) : Int) - 97 + 10))) rfl) (b_addK (((nv 16 (List.take j104 l) : Nat) : Int) * 16 + (((lowB y116 : Nat) : Int) - 97 + 10)) (wrap64 (by omega) (by omega))) ?_)
                  intro a774 hA775
                  refine q_step hA775 rfl (d_assign (wn rfl) (hA775.ev (v := (.int .u64 (((nv 16 (List.take j104 l) : Nat) : Int) * 16 + (((lowB y116 : Nat) : Int) - 97 + 10)))) rfl) ?_)
                  intro a776 hA777
                  refine q_end ?_
                  refine t_norm ?_
                  refine wp_seq ?_
                  refine wp_seq ?_
                  refine wp_region_lit ?_
                  refine q_step hA777 rfl (d_move (wn rfl) (hA777.ev (v := (.int .u64 (((nv 16 (List.take j104 l) : Nat) : Int) * 16 + (((lowB y116 : Nat) : Int) - 97 + 10)))) rfl) ?_)
                  intro a778 hA779
                  refine q_step hA779 rfl (d_move (wn rfl) (hA779.ev (v := (.int .u64 (((nv 16 (List.take j104 l) : Nat) : Int) * 16))) rfl) ?_)
                  intro a780 hA781
                  refine q_step hA781 rfl (d_bin (wn rfl) (hA781.ev (v := (.int .u64 (((nv 16 (List.take j104 l) : Nat) : Int) * 16 + (((lowB y116 : Nat) : Int) - 97 + 10)))) rfl) (hA781.ev (v := (.int .u64 (((nv 16 (List.take j104 l) : Nat) : Int) * 16))) rfl) (b_lt _ _ (((nv 16 (List.take j104 l) : Nat) : Int) * 16 + (((lowB y116 : Nat) : Int) - 97 + 10)) (((nv 16 (List.take j104 l) : Nat) : Int) * 16) false _ (decide_eq_false (by omega))) ?_)
                  intro a782 hA783
                  refine q_step hA783 rfl (d_move (wn rfl) (hA783.ev (v := (.bool false)) rfl) ?_)
                  intro a784 hA785
                  refine q_step hA785 rfl (d_move (wy rfl rfl (hA785.get 155 _ rfl)) (hA785.ev (v := (.int .u64 (((nv 16 (List.take j104 l) : Nat) : Int) * 16 + (((lowB y116 : Nat) : Int) - 97 + 10)))) rfl) ?_)
                  intro a786 hA787
                  refine q_step hA787 rfl (d_move (wy rfl rfl (hA787.get 155 _ rfl)) (hA787.ev (v := (.int .u64 18446744073709551615)) rfl) ?_)
                  intro a788 hA789
                  refine q_step hA789 rfl (d_bin (wy rfl rfl (hA789.get 155 _ rfl)) (hA789.ev (v := (.int .u64 (((nv 16 (List.take j104 l) : Nat) : Int) * 16 + (((lowB y116 : Nat) : Int) - 97 + 10)))) rfl) (hA789.ev (v := (.int .u64 18446744073709551615)) rfl) (b_gt _ _ (((nv 16 (List.take j104 l) : Nat) : Int) * 16 + (((lowB y116 : Nat) : Int) - 97 + 10)) 18446744073709551615 false _ (decide_eq_false (by omega))) ?_)
                  intro a790 hA791
                  refine q_step hA791 rfl (d_pickF (wn rfl) (hA791.ev (v := (.bool false)) rfl) (hA791.ev (v := (.bool false)) rfl) ?_)
                  intro a792 hA793
                  refine q_end ?_
                  refine t_norm ?_
                  refine c_false hA793 rfl ?_
                  refine wp_skip ?_
                  refine t_norm ?_
                  refine wp_region_lit ?_
                  refine q_step hA793 rfl (d_move (wn rfl) (hA793.ev (v := (.int .u64 (((nv 16 (List.take j104 l) : Nat) : Int) * 16 + (((lowB y116 : Nat) : Int) - 97 + 10)))) rfl) ?_)
                  intro a794 hA795
                  refine q_step hA795 rfl (d_assign (wn rfl) (hA795.ev (v := (.int .u64 (((nv 16 (List.take j104 l) : Nat) : Int) * 16 + (((lowB y116 : Nat) : Int) - 97 + 10)))) rfl) ?_)
                  intro a796 hA797
                  refine q_end ?_
                  refine i_norm ?_
                  refine t_norm ?_
                  refine wp_region_lit ?_
                  refine q_step hA797 rfl (d_bin (wn rfl) (hA797.ev (v := (.int .i64 ((j104 : Nat) : Int))) rfl) (hA797.ev (v := (.int .i64 1)) rfl) (b_addE (j104 + 1) (by omega) (by omega)) ?_)
                  intro a798 hA799
                  refine q_step hA799 rfl (d_move (wn rfl) (hA799.ev (v := (.int .i64 ((j104 + 1 : Nat) : Int))) rfl) ?_)
                  intro a800 hA801
                  refine q_end ?_
                  refine t_norm ?_
                  have hgo := nv_go (bs := 16) hy117
                  have hall2 := all_go hy117 hall (by omega)
                  exact ⟨l.length - (j104 + 1), (by rw [hm110]; omega), j104 + 1, rfl, ⟨by omega, hall2⟩, hA801.cut _ (fm_cons (hA801.get 1 _ rfl) (fm_cons (hA801.get 6 _ rfl) (fm_cons (hA801.get 7 _ rfl) (fm_cons (hA801.get 8 _ rfl) (fm_cons (hA801.get 9 _ rfl) (fm_cons (hA801.get 10 _ rfl) (fm_cons (hA801.get 11 _ rfl) (fm_cons (hA801.get 12 _ rfl) (fm_cons ((hA801.get 13 _ rfl).trans (congrArg (Value.int .u64) (by omega))) (fm_cons (hA801.get 99 _ rfl) (fm_cons (hA801.get 100 _ rfl) (fm_cons (hA801.get 101 _ rfl) fm_nil)))))))))))), b722⟩
              · skip
                have hq802 := of_decide_eq_false hb707
                refine q_step hA706 rfl (d_bin (wy rfl rfl (hA706.get 125 _ rfl)) (hA706.ev (v := (.int .u8 ((lowB y116 : Nat) : Int))) rfl) (hA706.ev (v := (.int .u8 122)) rfl) (b_le _ _ ((lowB y116 : Nat) : Int) 122 false _ hb707) ?_)
                intro a803 hA804
                refine q_step hA804 rfl (d_pickT (wn rfl) (hA804.ev (v := (.bool true)) rfl) (hA804.ev (v := (.bool false)) rfl) ?_)
                intro a805 hA806
                refine q_step hA806 rfl (d_assign (wn rfl) (hA806.ev (v := (.bool false)) rfl) ?_)
                intro a807 hA808
                refine q_end ?_
                refine t_norm ?_
                refine c_false hA808 rfl ?_
                refine wp_seq ?_
                refine wp_region_lit ?_
                refine q_step hA808 rfl (d_iface (wn rfl) (hA808.ev (v := (.int .i64 2)) rfl) conc84 ?_)
                intro a809 hA810
                refine q_step hA810 rfl (d_assign (wn rfl) (hA810.ev (v := (.int .u64 0)) rfl) ?_)
                intro a811 hA812
                refine q_step hA812 rfl (d_assign (wn rfl) (hA812.ev (v := (.iface 84 (.int .i64 2))) rfl) ?_)
                intro a813 hA814
                refine q_end ?_
                refine t_norm ?_
                refine wp_ret ?_
                refine i_ret ?_
                refine t_ret ?_
                refine i_ret ?_
                refine t_ret ?_
                refine t_ret ?_
                refine i_ret ?_
                refine t_ret ?_
                refine ret2 (x := (.int .u64 0)) (y := (.iface 84 (.int .i64 2))) rfl hA814 rfl rfl ?_
                exact ⟨by rw [pu_none (val_bad hy117 (by first | omega | (rw [dv_bad (by omega) (by omega)]; omega)))], Grow.trans b96 b704⟩
            · skip
              have hq815 := of_decide_eq_false hb691
              refine q_step hA690 rfl (d_bin (wn rfl) (hA690.ev (v := (.int .u8 97)) rfl) (hA690.ev (v := (.int .u8 ((lowB y116 : Nat) : Int))) rfl) (b_le _ _ 97 ((lowB y116 : Nat) : Int) false _ hb691) ?_)
              intro a816 hA817
              refine q_step hA817 rfl (d_move (wn rfl) (hA817.ev (v := (.bool false)) rfl) ?_)
              intro a818 hA819
              refine q_step hA819 rfl (does_not (wno rfl rfl (.inl (hA819.get 125 _ rfl))) ?_)
              intro a820 hA821
              refine q_step hA821 rfl (does_not (wno rfl rfl (.inl (hA821.get 125 _ rfl))) ?_)
              intro a822 hA823
              refine q_step hA823 rfl (does_not (wno rfl rfl (.inl (hA823.get 125 _ rfl))) ?_)
              intro a824 hA825
              refine q_step hA825 rfl (d_pickF (wn rfl) (hA825.ev (v := (.bool false)) rfl) (hA825.ev (v := (.bool false)) rfl) ?_)
              intro a826 hA827
              refine q_step hA827 rfl (d_assign (wn rfl) (hA827.ev (v := (.bool false)) rfl) ?_)
              intro a828 hA829
              refine q_end ?_
              refine t_norm ?_
              refine c_false hA829 rfl ?_
              refine wp_seq ?_
              refine wp_region_lit ?_
              refine q_step hA829 rfl (d_iface (wn rfl) (hA829.ev (v := (.int .i64 2)) rfl) conc84 ?_)
              intro a830 hA831
              refine q_step hA831 rfl (d_assign (wn rfl) (hA831.ev (v := (.int .u64 0)) rfl) ?_)
              intro a832 hA833
              refine q_step hA833 rfl (d_assign (wn rfl) (hA833.ev (v := (.iface 84 (.int .i64 2))) rfl) ?_)
              intro a834 hA835
              refine q_end ?_
              refine t_norm ?_
              refine wp_ret ?_
              refine i_ret ?_
              refine t_ret ?_
              refine i_ret ?_
              refine t_ret ?_
              refine t_ret ?_
              refine i_ret ?_
              refine t_ret ?_
              refine ret2 (x := (.int .u64 0)) (y := (.iface 84 (.int .i64 2))) rfl hA835 rfl rfl ?_
              exact ⟨by rw [pu_none (val_bad hy117 (by first | omega | (rw [dv_bad (by omega) (by omega)]; omega)))], Grow.trans b96 b688⟩
        · skip
          have hq836 := of_decide_eq_false hb582
          refine q_step hA581 rfl (d_bin (wn rfl) (hA581.ev (v := (.int .u8 48)) rfl) (hA581.ev (v := (.int .u8 ((y116.toNat : Nat) : Int))) rfl) (b_le _ _ 48 ((y116.toNat : Nat) : Int) false _ hb582) ?_)
          intro a837 hA838
          refine q_step hA838 rfl (d_move (wn rfl) (hA838.ev (v := (.bool false)) rfl) ?_)
          intro a839 hA840
          refine q_step hA840 rfl (does_not (wno rfl rfl (.inl (hA840.get 115 _ rfl))) ?_)
          intro a841 hA842
          refine q_step hA842 rfl (does_not (wno rfl rfl (.inl (hA842.get 115 _ rfl))) ?_)
          intro a843 hA844
          refine q_step hA844 rfl (d_pickF (wn rfl) (hA844.ev (v := (.bool false)) rfl) (hA844.ev (v := (.bool false)) rfl) ?_)
          intro a845 hA846
          refine q_step hA846 rfl (d_assign (wn rfl) (hA846.ev (v := (.bool false)) rfl) ?_)
          intro a847 hA848
          refine q_end ?_
          refine t_norm ?_
          refine c_false hA848 rfl ?_
          refine wp_seq ?_
          refine wp_region_lit ?_
          refine q_step hA848 rfl (d_move (wn rfl) (hA848.ev (v := (.int .u8 ((y116.toNat : Nat) : Int))) rfl) ?_)
          intro a849 hA850
          have hlw := lowB_le y116
          refine q_step hA850 rfl (d_call (wn rfl) ent63 (map1 (hA850.ev (v := (.int .u8 ((y116.toNat : Nat) : Int))) rfl)) (lower_any y116 w107) ?_)
          rintro e854 w851 ⟨he853, hG852⟩
          have hr855 := range_below hr121 hG852 (Nat.lt_of_lt_of_le lt120 b109.size)
          have b856 := below_grow b109 hG852 b109.size
          refine ⟨(.int .u8 ((lowB y116 : Nat) : Int)), he853, ?_⟩
          intro a857 hA858
          rcases Bool.eq_false_or_eq_true (decide ((97 : Int) ≤ ((lowB y116 : Nat) : Int))) with hb859 | hb859
          · skip
            have hq860 := of_decide_eq_true hb859
            refine q_step hA858 rfl (d_bin (wn rfl) (hA858.ev (v := (.int .u8 97)) rfl) (hA858.ev (v := (.int .u8 ((lowB y116 : Nat) : Int))) rfl) (b_le _ _ 97 ((lowB y116 : Nat) : Int) true _ hb859) ?_)
            intro a861 hA862
            refine q_step hA862 rfl (d_move (wn rfl) (hA862.ev (v := (.bool true)) rfl) ?_)
            intro a863 hA864
            refine q_step hA864 rfl (d_move (wy rfl rfl (hA864.get 125 _ rfl)) (hA864.ev (v := (.int .u8 ((y116.toNat : Nat) : Int))) rfl) ?_)
            intro a865 hA866
            have hlw := lowB_le y116
            refine q_step hA866 rfl (d_call (wy rfl rfl (hA866.get 125 _ rfl)) ent63 (map1 (hA866.ev (v := (.int .u8 ((y116.toNat : Nat) : Int))) rfl)) (lower_any y116 w851) ?_)
            rintro e870 w867 ⟨he869, hG868⟩
            have hr871 := range_below hr855 hG868 (Nat.lt_of_lt_of_le lt120 b856.size)
            have b872 := below_grow b856 hG868 b856.size
            refine ⟨(.int .u8 ((lowB y116 : Nat) : Int)), he869, ?_⟩
            intro a873 hA874
            rcases Bool.eq_false_or_eq_true (decide (((lowB y116 : Nat) : Int) ≤ 122)) with hb875 | hb875
            · skip
              have hq876 := of_decide_eq_true hb875
              refine q_step hA874 rfl (d_bin (wy rfl rfl (hA874.get 125 _ rfl)) (hA874.ev (v := (.int .u8 ((lowB y116 : Nat) : Int))) rfl) (hA874.ev (v := (.int .u8 122)) rfl) (b_le _ _ ((lowB y116 : Nat) : Int) 122 true _ hb875) ?_)
              intro a877 hA878
              refine q_step hA878 rfl (d_pickT (wn rfl) (hA878.ev (v := (.bool true)) rfl) (hA878.ev (v := (.bool true)) rfl) ?_)
              intro a879 hA880
              refine q_step hA880 rfl (d_assign (wn rfl) (hA880.ev (v := (.bool true)) rfl) ?_)
              intro a881 hA882
              refine q_end ?_
              refine t_norm ?_
              refine c_true hA882 rfl ?_
              refine wp_region_lit ?_
              refine q_step hA882 rfl (d_move (wn rfl) (hA882.ev (v := (.int .u8 ((y116.toNat : Nat) : Int))) rfl) ?_)
              intro a883 hA884
              have hlw := lowB_le y116
              refine q_step hA884 rfl (d_call (wn rfl) ent63 (map1 (hA884.ev (v := (.int .u8 ((y116.toNat : Nat) : Int))) rfl)) (lower_any y116 w867) ?_)
              rintro e888 w885 ⟨he887, hG886⟩
              have hr889 := range_below hr871 hG886 (Nat.lt_of_lt_of_le lt120 b872.size)
              have b890 := below_grow b872 hG886 b872.size
              refine ⟨(.int .u8 ((lowB y116 : Nat) : Int)), he887, ?_⟩
              intro a891 hA892
              refine q_step hA892 rfl (d_bin (wn rfl) (hA892.ev (v := (.int .u8 ((lowB y116 : Nat) : Int))) rfl) (hA892.ev (v := (.int .u8 97)) rfl) (b_subK (((lowB y116 : Nat) : Int) - 97) (wrap8 (by omega) (by omega))) ?_)
              intro a893 hA894
              refine q_step hA894 rfl (d_bin (wn rfl) (hA894.ev (v := (.int .u8 (((lowB y116 : Nat) : Int) - 97))) rfl) (hA894.ev (v := (.int .u8 10)) rfl) (b_addK (((lowB y116 : Nat) : Int) - 97 + 10) (wrap8 (by omega) (by omega))) ?_)
              intro a895 hA896
              refine q_step hA896 rfl (d_assign (wn rfl) (hA896.ev (v := (.int .u8 (((lowB y116 : Nat) : Int) - 97 + 10))) rfl) ?_)
              intro a897 hA898
              have hdv : dv y116 = lowB y116 - 97 + 10 := dv_let (by omega) (by omega) (by omega)
              refine q_end ?_
              refine i_norm ?_
              refine t_norm ?_
              refine wp_seq ?_
              refine wp_seq ?_
              refine wp_region_lit ?_
              refine q_step hA898 rfl (d_move (wn rfl) (hA898.ev (v := (.int .u8 (((lowB y116 : Nat) : Int) - 97 + 10))) rfl) ?_)
              intro a899 hA900
              refine q_step hA900 rfl (d_move (wn rfl) (hA900.ev (v := (.int .i64 16)) rfl) ?_)
              intro a901 hA902
              refine q_step hA902 rfl (d_conv 16 (wn rfl) (hA902.ev (v := (.int .i64 16)) rfl) knd3 knd5 rfl ?_)
              intro a903 hA904
              rcases Bool.eq_false_or_eq_true (decide (((lowB y116 : Nat) : Int) - 97 + 10 ≥ 16)) with hb905 | hb905
              · skip
                have hq906 := of_decide_eq_true hb905
                refine q_step hA904 rfl (d_bin (wn rfl) (hA904.ev (v := (.int .u8 (((lowB y116 : Nat) : Int) - 97 + 10))) rfl) (hA904.ev (v := (.int .u8 16)) rfl) (b_ge _ _ (((lowB y116 : Nat) : Int) - 97 + 10) 16 true _ hb905) ?_)
                intro a907 hA908
                refine q_end ?_
                have hA909 : St 172 [(1, (.int .i64 16)), (6, (.int .u64 0)), (7, (.nilIface)), (8, (.bool false)), (9, (.string (S l))), (10, (.int .u64 1152921504606846976)), (11, (.int .u64 18446744073709551615)), (12, (.bool false)), (13, (.int .u64 ((nv 16 (List.take j104 l) : Nat) : Int))), (16, (.int .u8 (((lowB y116 : Nat) : Int) - 97 + 10))), (99, v92), (100, (.int .i64 ((l.length : Nat) : Int))), (101, (.int .i64 ((j104 : Nat) : Int))), (137, (.bool true))] a907 := hA908.cut _ (fm_cons (hA908.get 1 _ rfl) (fm_cons (hA908.get 6 _ rfl) (fm_cons (hA908.get 7 _ rfl) (fm_cons (hA908.get 8 _ rfl) (fm_cons (hA908.get 9 _ rfl) (fm_cons (hA908.get 10 _ rfl) (fm_cons (hA908.get 11 _ rfl) (fm_cons (hA908.get 12 _ rfl) (fm_cons (hA908.get 13 _ rfl) (fm_cons (hA908.get 16 _ rfl) (fm_cons (hA908.get 99 _ rfl) (fm_cons (hA908.get 100 _ rfl) (fm_cons (hA908.get 101 _ rfl) (fm_cons (hA908.get 137 _ rfl) fm_nil))))))))))))))
                refine t_norm ?_
                refine c_true hA909 rfl ?_
                refine wp_seq ?_
                refine wp_region_lit ?_
                refine q_step hA909 rfl (d_iface (wn rfl) (hA909.ev (v := (.int .i64 2)) rfl) conc84 ?_)
                intro a910 hA911
                refine q_step hA911 rfl (d_assign (wn rfl) (hA911.ev (v := (.int .u64 0)) rfl) ?_)
                intro a912 hA913
                refine q_step hA913 rfl (d_assign (wn rfl) (hA913.ev (v := (.iface 84 (.int .i64 2))) rfl) ?_)
                intro a914 hA915
                refine q_end ?_
                refine t_norm ?_
                refine wp_ret ?_
                refine t_ret ?_
                refine i_ret ?_
                refine t_ret ?_
                refine t_ret ?_
                refine i_ret ?_
                refine t_ret ?_
                refine ret2 (x := (.int .u64 0)) (y := (.iface 84 (.int .i64 2))) rfl hA915 rfl rfl ?_
                exact ⟨by rw [pu_none (val_bad hy117 (by first | omega | (rw [dv_bad (by omega) (by omega)]; omega)))], Grow.trans b96 b890⟩
              · skip
                have hq916 := of_decide_eq_false hb905
                refine q_step hA904 rfl (d_bin (wn rfl) (hA904.ev (v := (.int .u8 (((lowB y116 : Nat) : Int) - 97 + 10))) rfl) (hA904.ev (v := (.int .u8 16)) rfl) (b_ge _ _ (((lowB y116 : Nat) : Int) - 97 + 10) 16 false _ hb905) ?_)
                intro a917 hA918
                refine q_end ?_
                have hA919 : St 172 [(1, (.int .i64 16)), (6, (.int .u64 0)), (7, (.nilIface)), (8, (.bool false)), (9, (.string (S l))), (10, (.int .u64 1152921504606846976)), (11, (.int .u64 18446744073709551615)), (12, (.bool false)), (13, (.int .u64 ((nv 16 (List.take j104 l) : Nat) : Int))), (16, (.int .u8 (((lowB y116 : Nat) : Int) - 97 + 10))), (99, v92), (100, (.int .i64 ((l.length : Nat) : Int))), (101, (.int .i64 ((j104 : Nat) : Int))), (137, (.bool false))] a917 := hA918.cut _ (fm_cons (hA918.get 1 _ rfl) (fm_cons (hA918.get 6 _ rfl) (fm_cons (hA918.get 7 _ rfl) (fm_cons (hA918.get 8 _ rfl) (fm_cons (hA918.get 9 _ rfl) (fm_cons (hA918.get 10 _ rfl) (fm_cons (hA918.get 11 _ rfl) (fm_cons (hA918.get 12 _ rfl) (fm_cons (hA918.get 13 _ rfl) (fm_cons (hA918.get 16 _ rfl) (fm_cons (hA918.get 99 _ rfl) (fm_cons (hA918.get 100 _ rfl) (fm_cons (hA918.get 101 _ rfl) (fm_cons (hA918.get 137 _ rfl) fm_nil))))))))))))))
                refine t_norm ?_
                refine c_false hA919 rfl ?_
                refine wp_skip ?_
                refine t_norm ?_
                refine wp_seq ?_
                refine wp_seq ?_
                refine wp_region_lit ?_
                refine q_step hA919 rfl (d_move (wn rfl) (hA919.ev (v := (.int .u64 ((nv 16 (List.take j104 l) : Nat) : Int))) rfl) ?_)
                intro a920 hA921
                refine q_step hA921 rfl (d_move (wn rfl) (hA921.ev (v := (.int .u64 1152921504606846976)) rfl) ?_)
                intro a922 hA923
                refine q_step hA923 rfl (d_bin (wn rfl) (hA923.ev (v := (.int .u64 ((nv 16 (List.take j104 l) : Nat) : Int))) rfl) (hA923.ev (v := (.int .u64 1152921504606846976)) rfl) (b_ge _ _ ((nv 16 (List.take j104 l) : Nat) : Int) 1152921504606846976 false _ (decide_eq_false (by omega))) ?_)
                intro a924 hA925
                refine q_end ?_
                refine t_norm ?_
                refine c_false hA925 rfl ?_
                refine wp_skip ?_
                refine t_norm ?_
                refine wp_seq ?_
                refine wp_region_lit ?_
                refine q_step hA925 rfl (d_move (wn rfl) (hA925.ev (v := (.int .u64 ((nv 16 (List.take j104 l) : Nat) : Int))) rfl) ?_)
                intro a926 hA927
                refine q_step hA927 rfl (d_move (wn rfl) (hA927.ev (v := (.int .i64 16)) rfl) ?_)
                intro a928 hA929
                refine q_step hA929 rfl (d_conv 16 (wn rfl) (hA929.ev (v := (.int .i64 16)) rfl) knd3 knd70 rfl ?_)
                intro a930 hA931
                refine q_step hA931 rfl (d_bin (wn rfl) (hA931.ev (v := (.int .u64 ((nv 16 (List.take j104 l) : Nat) : Int))) rfl) (hA931.ev (v := (.int .u64 16)) rfl) (b_mulK (((nv 16 (List.take j104 l) : Nat) : Int) * 16) (wrap64 (by omega) (by omega))) ?_)
                intro a932 hA933
                refine q_step hA933 rfl (d_assign (wn rfl) (hA933.ev (v := (.int .u64 (((nv 16 (List.take j104 l) : Nat) : Int) * 16))) rfl) ?_)
                intro a934 hA935
                refine q_end ?_
                refine t_norm ?_
                refine wp_seq ?_
                refine wp_region_lit ?_
                refine q_step hA935 rfl (d_move (wn rfl) (hA935.ev (v := (.int .u64 (((nv 16 (List.take j104 l) : Nat) : Int) * 16))) rfl) ?_)
                intro a936 hA937
                refine q_step hA937 rfl (d_move (wn rfl) (hA937.ev (v := (.int .u8 (((lowB y116 : Nat) : Int) - 97 + 10))) rfl) ?_)
                intro a938 hA939
                refine q_step hA939 rfl (d_conv (((lowB y116 : Nat) : Int) - 97 + 10) (wn rfl) (hA939.ev (v := (.int .u8 (((lowB y116 : Nat) : Int) - 97 + 10))) rfl) knd5 knd70 (wrap64 (by omega) (by omega)) ?_)
                intro a940 hA941
                refine q_step hA941 rfl (d_bin (wn rfl) (hA941.ev (v := (.int .u64 (((nv 16 (List.take j104 l) : Nat) : Int) * 16))) rfl) (hA941.ev (v := (.int .u64 (((lowB y116 : Nat) : Int) - 97 + 10))) rfl) (b_addK (((nv 16 (List.take j104 l) : Nat) : Int) * 16 + (((lowB y116 : Nat) : Int) - 97 + 10)) (wrap64 (by omega) (by omega))) ?_)
                intro a942 hA943
                refine q_step hA943 rfl (d_assign (wn rfl) (hA943.ev (v := (.int .u64 (((nv 16 (List.take j104 l) : Nat) : Int) * 16 + (((lowB y116 : Nat) : Int) - 97 + 10)))) rfl) ?_)
                intro a944 hA945
                refine q_end ?_
                refine t_norm ?_
                refine wp_seq ?_
                refine wp_seq ?_
                refine wp_region_lit ?_
                refine q_step hA945 rfl (d_move (wn rfl) (hA945.ev (v := (.int .u64 (((nv 16 (List.take j104 l) : Nat) : Int) * 16 + (((lowB y116 : Nat) : Int) - 97 + 10)))) rfl) ?_)
                intro a946 hA947
                refine q_step hA947 rfl (d_move (wn rfl) (hA947.ev (v := (.int .u64 (((nv 16 (List.take j104 l) : Nat) : Int) * 16))) rfl) ?_)
                intro a948 hA949
                refine q_step hA949 rfl (d_bin (wn rfl) (hA949.ev (v := (.int .u64 (((nv 16 (List.take j104 l) : Nat) : Int) * 16 + (((lowB y116 : Nat) : Int) - 97 + 10)))) rfl) (hA949.ev (v := (.int .u64 (((nv 16 (List.take j104 l) : Nat) : Int) * 16))) rfl) (b_lt _ _ (((nv 16 (List.take j104 l) : Nat) : Int) * 16 + (((lowB y116 : Nat) : Int) - 97 + 10)) (((nv 16 (List.take j104 l) : Nat) : Int) * 16) false _ (decide_eq_false (by omega))) ?_)
                intro a950 hA951
                refine q_step hA951 rfl (d_move (wn rfl) (hA951.ev (v := (.bool false)) rfl) ?_)
                intro a952 hA953
                refine q_step hA953 rfl (d_move (wy rfl rfl (hA953.get 155 _ rfl)) (hA953.ev (v := (.int .u64 (((nv 16 (List.take j104 l) : Nat) : Int) * 16 + (((lowB y116 : Nat) : Int) - 97 + 10)))) rfl) ?_)
                intro a954 hA955
                refine q_step hA955 rfl (d_move (wy rfl rfl (hA955.get 155 _ rfl)) (hA955.ev (v := (.int .u64 18446744073709551615)) rfl) ?_)
                intro a956 hA957
                refine q_step hA957 rfl (d_bin (wy rfl rfl (hA957.get 155 _ rfl)) (hA957.ev (v := (.int .u64 (((nv 16 (List.take j104 l) : Nat) : Int) * 16 + (((lowB y116 : Nat) : Int) - 97 + 10)))) rfl) (hA957.ev (v := (.int .u64 18446744073709551615)) rfl) (b_gt _ _ (((nv 16 (List.take j104 l) : Nat) : Int) * 16 + (((lowB y116 : Nat) : Int) - 97 + 10)) 18446744073709551615 false _ (decide_eq_false (by omega))) ?_)
                intro a958 hA959
                refine q_step hA959 rfl (d_pickF (wn rfl) (hA959.ev (v := (.bool false)) rfl) (hA959.ev (v := (.bool false)) rfl) ?_)
                intro a960 hA961
                refine q_end ?_
                refine t_norm ?_
                refine c_false hA961 rfl ?_
                refine wp_skip ?_
                refine t_norm ?_
                refine wp_region_lit ?_
                refine q_step hA961 rfl (d_move (wn rfl) (hA961.ev (v := (.int .u64 (((nv 16 (List.take j104 l) : Nat) : Int) * 16 + (((lowB y116 : Nat) : Int) - 97 + 10)))) rfl) ?_)
                intro a962 hA963
                refine q_step hA963 rfl (d_assign (wn rfl) (hA963.ev (v := (.int .u64 (((nv 16 (List.take j104 l) : Nat) : Int) * 16 + (((lowB y116 : Nat) : Int) - 97 + 10)))) rfl) ?_)
                intro a964 hA965
                refine q_end ?_
                refine i_norm ?_
                refine t_norm ?_
                refine wp_region_lit ?_
                refine q_step hA965 rfl (d_bin (wn rfl) (hA965.ev (v := (.int .i64 ((j104 : Nat) : Int))) rfl) (hA965.ev (v := (.int .i64 1)) rfl) (b_addE (j104 + 1) (by omega) (by omega)) ?_)
                intro a966 hA967
                refine q_step hA967 rfl (d_move (wn rfl) (hA967.ev (v := (.int .i64 ((j104 + 1 : Nat) : Int))) rfl) ?_)
                intro a968 hA969
                refine q_end ?_
                refine t_norm ?_
                have hgo := nv_go (bs := 16) hy117
                have hall2 := all_go hy117 hall (by omega)
                exact ⟨l.length - (j104 + 1), (by rw [hm110]; omega), j104 + 1, rfl, ⟨by omega, hall2⟩, hA969.cut _ (fm_cons (hA969.get 1 _ rfl) (fm_cons (hA969.get 6 _ rfl) (fm_cons (hA969.get 7 _ rfl) (fm_cons (hA969.get 8 _ rfl) (fm_cons (hA969.get 9 _ rfl) (fm_cons (hA969.get 10 _ rfl) (fm_cons (hA969.get 11 _ rfl) (fm_cons (hA969.get 12 _ rfl) (fm_cons ((hA969.get 13 _ rfl).trans (congrArg (Value.int .u64) (by omega))) (fm_cons (hA969.get 99 _ rfl) (fm_cons (hA969.get 100 _ rfl) (fm_cons (hA969.get 101 _ rfl) fm_nil)))))))))))), b890⟩
            · skip
              have hq970 := of_decide_eq_false hb875
              refine q_step hA874 rfl (d_bin (wy rfl rfl (hA874.get 125 _ rfl)) (hA874.ev (v := (.int .u8 ((lowB y116 : Nat) : Int))) rfl) (hA874.ev (v := (.int .u8 122)) rfl) (b_le _ _ ((lowB y116 : Nat) : Int) 122 false _ hb875) ?_)
              intro a971 hA972
              refine q_step hA972 rfl (d_pickT (wn rfl) (hA972.ev (v := (.bool true)) rfl) (hA972.ev (v := (.bool false)) rfl) ?_)
              intro a973 hA974
              refine q_step hA974 rfl (d_assign (wn rfl) (hA974.ev (v := (.bool false)) rfl) ?_)
              intro a975 hA976
              refine q_end ?_
              refine t_norm ?_
              refine c_false hA976 rfl ?_
              refine wp_seq ?_
              refine wp_region_lit ?_
              refine q_step hA976 rfl (d_iface (wn rfl) (hA976.ev (v := (.int .i64 2)) rfl) conc84 ?_)
              intro a977 hA978
              refine q_step hA978 rfl (d_assign (wn rfl) (hA978.ev (v := (.int .u64 0)) rfl) ?_)
              intro a979 hA980
              refine q_step hA980 rfl (d_assign (wn rfl) (hA980.ev (v := (.iface 84 (.int .i64 2))) rfl) ?_)
              intro a981 hA982
              refine q_end ?_
              refine t_norm ?_
              refine wp_ret ?_
              refine i_ret ?_
              refine t_ret ?_
              refine i_ret ?_
              refine t_ret ?_
              refine t_ret ?_
              refine i_ret ?_
              refine t_ret ?_
              refine ret2 (x := (.int .u64 0)) (y := (.iface 84 (.int .i64 2))) rfl hA982 rfl rfl ?_
              exact ⟨by rw [pu_none (val_bad hy117 (by first | omega | (rw [dv_bad (by omega) (by omega)]; omega)))], Grow.trans b96 b872⟩
          · skip
            have hq983 := of_decide_eq_false hb859
            refine q_step hA858 rfl (d_bin (wn rfl) (hA858.ev (v := (.int .u8 97)) rfl) (hA858.ev (v := (.int .u8 ((lowB y116 : Nat) : Int))) rfl) (b_le _ _ 97 ((lowB y116 : Nat) : Int) false _ hb859) ?_)
            intro a984 hA985
            refine q_step hA985 rfl (d_move (wn rfl) (hA985.ev (v := (.bool false)) rfl) ?_)
            intro a986 hA987
            refine q_step hA987 rfl (does_not (wno rfl rfl (.inl (hA987.get 125 _ rfl))) ?_)
            intro a988 hA989
            refine q_step hA989 rfl (does_not (wno rfl rfl (.inl (hA989.get 125 _ rfl))) ?_)
            intro a990 hA991
            refine q_step hA991 rfl (does_not (wno rfl rfl (.inl (hA991.get 125 _ rfl))) ?_)
            intro a992 hA993
            refine q_step hA993 rfl (d_pickF (wn rfl) (hA993.ev (v := (.bool false)) rfl) (hA993.ev (v := (.bool false)) rfl) ?_)
            intro a994 hA995
            refine q_step hA995 rfl (d_assign (wn rfl) (hA995.ev (v := (.bool false)) rfl) ?_)
            intro a996 hA997
            refine q_end ?_
            refine t_norm ?_
            refine c_false hA997 rfl ?_
            refine wp_seq ?_
            refine wp_region_lit ?_
            refine q_step hA997 rfl (d_iface (wn rfl) (hA997.ev (v := (.int .i64 2)) rfl) conc84 ?_)
            intro a998 hA999
            refine q_step hA999 rfl (d_assign (wn rfl) (hA999.ev (v := (.int .u64 0)) rfl) ?_)
            intro a1000 hA1001
            refine q_step hA1001 rfl (d_assign (wn rfl) (hA1001.ev (v := (.iface 84 (.int .i64 2))) rfl) ?_)
            intro a1002 hA1003
            refine q_end ?_
            refine t_norm ?_
            refine wp_ret ?_
            refine i_ret ?_
            refine t_ret ?_
            refine i_ret ?_
            refine t_ret ?_
            refine t_ret ?_
            refine i_ret ?_
            refine t_ret ?_
            refine ret2 (x := (.int .u64 0)) (y := (.iface 84 (.int .i64 2))) rfl hA1003 rfl rfl ?_
            exact ⟨by rw [pu_none (val_bad hy117 (by first | omega | (rw [dv_bad (by omega) (by omega)]; omega)))], Grow.trans b96 b856⟩
    · skip
      have hq1004 := of_decide_eq_false hb112
      refine q_step hA108 rfl (d_bin (wn rfl) (hA108.ev (v := (.int .i64 ((j104 : Nat) : Int))) rfl) (hA108.ev (v := (.int .i64 ((l.length : Nat) : Int))) rfl) (b_lt _ _ ((j104 : Nat) : Int) ((l.length : Nat) : Int) false _ hb112) ?_)
      intro a1005 hA1006
      refine q_end ?_
      refine t_norm ?_
      refine wp_seq ?_
      refine c_false hA1006 rfl ?_
      refine wp_exit ?_
      refine t_exit ?_
      refine t_exit ?_
      refine i_here ?_
      refine t_norm ?_
      refine wp_seq ?_
      refine wp_seq ?_
      refine wp_region_lit ?_
      refine q_step hA1006 rfl (d_move (wn rfl) (hA1006.ev (v := (.bool false)) rfl) ?_)
      intro a1007 hA1008
      refine q_step hA1008 rfl (d_move (wn rfl) (hA1008.ev (v := (.bool false)) rfl) ?_)
      intro a1009 hA1010
      refine q_step hA1010 rfl (does_not (wno rfl rfl (.inl (hA1010.get 165 _ rfl))) ?_)
      intro a1011 hA1012
      refine q_step hA1012 rfl (does_not (wno rfl rfl (.inl (hA1012.get 165 _ rfl))) ?_)
      intro a1013 hA1014
      refine q_step hA1014 rfl (does_not (wno rfl rfl (.inl (hA1014.get 165 _ rfl))) ?_)
      intro a1015 hA1016
      refine q_step hA1016 rfl (d_pickF (wn rfl) (hA1016.ev (v := (.bool false)) rfl) (hA1016.ev (v := (.bool false)) rfl) ?_)
      intro a1017 hA1018
      refine q_end ?_
      refine t_norm ?_
      refine c_false hA1018 rfl ?_
      refine wp_skip ?_
      refine t_norm ?_
      refine wp_seq ?_
      refine wp_region_lit ?_
      refine q_step hA1018 rfl (d_move (wn rfl) (hA1018.ev (v := (.int .u64 ((nv 16 (List.take j104 l) : Nat) : Int))) rfl) ?_)
      intro a1019 hA1020
      refine q_step hA1020 rfl (d_assign (wn rfl) (hA1020.ev (v := (.int .u64 ((nv 16 (List.take j104 l) : Nat) : Int))) rfl) ?_)
      intro a1021 hA1022
      refine q_step hA1022 rfl (d_assign (wn rfl) (hA1022.ev (v := (.nilIface)) rfl) ?_)
      intro a1023 hA1024
      refine q_end ?_
      refine t_norm ?_
      refine wp_ret ?_
      refine ret2 (x := (.int .u64 ((nv 16 (List.take j104 l) : Nat) : Int))) (y := (.nilIface)) rfl hA1024 rfl rfl ?_
      exact ⟨by rw [pu_some (val_end (eqL_ne hb9) hall (by omega))], Grow.trans b96 b109⟩
end Go.Proofs.YtfehbkcfncioiaaDoor
