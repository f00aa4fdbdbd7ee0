/- ScanBack returns true. -/
import Derived.Test.YtfehbkcfncioiaaDoorScanBackP6
namespace Go.Proofs.YtfehbkcfncioiaaDoor
open Go.RowKit
set_option linter.unusedSimpArgs false
set_option linter.unusedVariables false
theorem ent7 : ((Tryd.prog.funcs[7]?).map fun fn => (fn.name == "runtime.NumGoroutine", fn.body.isNone)) = some (false, false) := by kernel_rfl
set_option maxHeartbeats 4000000 in
set_option maxRecDepth 4000 in
theorem scanBack_law (l : List UInt8) (w : World) (hlm : l.length ≤ 9223372036854775807) (m0 : Int) (hm : w.cell? ⟨0, 0, none⟩ = some (.int .i64 m0)) (ev : Value) (hev1 : w.cell? ⟨1, 0, none⟩ = some ev) (hev2 : ev = .nilIface ∨ ∃ te pe, ev = .iface te pe) : Calls Tryd.prog 5 #[.string (S l)] w fun e w' => e = .returned (.bool true) ∧ Grow w w' := by
  have b0 : Below w.heap.size w w := Below.refl _ _
  refine enter (n := 100) Tryd.func5 rfl rfl (Nat.le_of_ble_eq_true rfl) ?_
  intro a1 hA2
  refine wp_seq ?_
  refine wp_region_lit ?_
  refine q_step hA2 rfl (d_assign (wn rfl) (hA2.ev (v := (.bool false)) rfl) ?_)
  intro a3 hA4
  refine q_end ?_
  refine t_norm ?_
  refine wp_seq ?_
  refine wp_seq ?_
  refine wp_region_lit ?_
  refine q_step hA4 rfl (d_call (wn rfl) ent7 (map0) (able_any w m0 (cell_keep hm b0) ev (cell_keep hev1 b0) hev2) ?_)
  rintro e8 w5 ⟨he7, hG6⟩
  have b9 := below_grow b0 hG6 b0.size
  refine ⟨(.bool true), he7, ?_⟩
  intro a10 hA11
  refine q_step hA11 rfl (d_not (wn rfl) (hA11.ev (v := (.bool true)) rfl) ?_)
  intro a12 hA13
  refine q_end ?_
  refine t_norm ?_
  refine c_false hA13 rfl ?_
  refine wp_skip ?_
  refine t_norm ?_
  refine wp_seq ?_
  refine wp_seq ?_
  refine wp_region_lit ?_
  refine q_step hA13 rfl (d_move (wn rfl) (hA13.ev (v := (.string (S l))) rfl) ?_)
  intro a14 hA15
  refine q_step hA15 rfl (d_slen (wn rfl) (hA15.ev (v := (.string (S l))) rfl) str9 ?_)
  intro a16 hA17
  rcases Bool.eq_false_or_eq_true (decide (((l.length : Nat) : Int) > 4000)) with hb18 | hb18
  · skip
    have hq19 := of_decide_eq_true hb18
    refine q_step hA17 rfl (d_bin (wn rfl) (hA17.ev (v := (.int .i64 ((l.length : Nat) : Int))) rfl) (hA17.ev (v := (.int .i64 4000)) rfl) (b_gt _ _ ((l.length : Nat) : Int) 4000 true _ hb18) ?_)
    intro a20 hA21
    refine q_end ?_
    refine t_norm ?_
    refine c_true hA21 rfl ?_
    refine wp_seq ?_
    refine wp_region_lit ?_
    refine q_step hA21 rfl (d_assign (wn rfl) (hA21.ev (v := (.bool true)) rfl) ?_)
    intro a22 hA23
    refine q_end ?_
    refine t_norm ?_
    refine wp_ret ?_
    refine t_ret ?_
    refine ret1 rfl hA23 (v := (.bool true)) rfl ?_
    exact ⟨rfl, b9⟩
  · skip
    have hq24 := of_decide_eq_false hb18
    refine q_step hA17 rfl (d_bin (wn rfl) (hA17.ev (v := (.int .i64 ((l.length : Nat) : Int))) rfl) (hA17.ev (v := (.int .i64 4000)) rfl) (b_gt _ _ ((l.length : Nat) : Int) 4000 false _ hb18) ?_)
    intro a25 hA26
    refine q_end ?_
    refine t_norm ?_
    refine c_false hA26 rfl ?_
    refine wp_skip ?_
    refine t_norm ?_
    refine wp_seq ?_
    refine wp_region_lit ?_
    refine q_step hA26 rfl (d_move (wn rfl) (hA26.ev (v := (.string (S l))) rfl) ?_)
    intro a27 hA28
    refine q_step hA28 rfl (d_call (wn rfl) ent8 (map1 (hA28.ev (v := (.string (S l))) rfl)) (tokens_any l w5 (by omega) m0 (cell_keep hm b9) ev (cell_keep hev1 b9) hev2) ?_)
    rintro e32 w29 ⟨v33, he31, ho34, hG30⟩
    have b36 := below_grow b9 hG30 b9.size
    have hS35 := own_gen tokE_len ho34
    have b37 : Below w29.heap.size w29 w29 := Below.refl _ _
    refine ⟨(.tuple #[v33, (.int .i64 ((tokensR l).2.1)), (.int .i64 (((tokensR l).2.2 : Nat) : Int))]), he31, ?_⟩
    intro a38 hA39
    have htl := tokens_lie (l := l) (by omega)
    have htn := tokens_len l
    refine q_step hA39 rfl (d_move (wn rfl) (hA39.ev (v := (.tuple #[v33, (.int .i64 ((tokensR l).2.1)), (.int .i64 (((tokensR l).2.2 : Nat) : Int))])) rfl) ?_)
    intro a40 hA41
    refine q_step hA41 rfl (d_extract (v := v33) (wn rfl) (hA41.ev (v := (.tuple #[v33, (.int .i64 ((tokensR l).2.1)), (.int .i64 (((tokensR l).2.2 : Nat) : Int))])) rfl) rfl ?_)
    intro a42 hA43
    refine q_step hA43 rfl (d_extract (v := (.int .i64 ((tokensR l).2.1))) (wn rfl) (hA43.ev (v := (.tuple #[v33, (.int .i64 ((tokensR l).2.1)), (.int .i64 (((tokensR l).2.2 : Nat) : Int))])) rfl) rfl ?_)
    intro a44 hA45
    refine q_step hA45 rfl (d_extract (v := (.int .i64 (((tokensR l).2.2 : Nat) : Int))) (wn rfl) (hA45.ev (v := (.tuple #[v33, (.int .i64 ((tokensR l).2.1)), (.int .i64 (((tokensR l).2.2 : Nat) : Int))])) rfl) rfl ?_)
    intro a46 hA47
    refine q_step hA47 rfl (d_assign (wn rfl) (hA47.ev (v := v33) rfl) ?_)
    intro a48 hA49
    refine q_step hA49 rfl (d_assign (wn rfl) (hA49.ev (v := (.int .i64 ((tokensR l).2.1))) rfl) ?_)
    intro a50 hA51
    refine q_step hA51 rfl (d_assign (wn rfl) (hA51.ev (v := (.int .i64 (((tokensR l).2.2 : Nat) : Int))) rfl) ?_)
    intro a52 hA53
    refine q_end ?_
    refine t_norm ?_
    refine wp_seq ?_
    refine wp_seq ?_
    refine wp_region_lit ?_
    refine q_step hA53 rfl (d_move (wn rfl) (hA53.ev (v := (.int .i64 ((tokensR l).2.1))) rfl) ?_)
    intro a54 hA55
    rcases Bool.eq_false_or_eq_true ((tokensR l).2.1 == 0) with hb56 | hb56
    · skip
      have hq57 := eq_of_beq hb56
      refine q_step hA55 rfl (d_bin (wn rfl) (hA55.ev (v := (.int .i64 ((tokensR l).2.1))) rfl) (hA55.ev (v := (.int .i64 0)) rfl) (b_ne _ _ ((tokensR l).2.1) 0 false _ (notof hb56)) ?_)
      intro a58 hA59
      refine q_end ?_
      refine t_norm ?_
      refine c_false hA59 rfl ?_
      refine wp_skip ?_
      refine t_norm ?_
      refine wp_seq ?_
      refine wp_region_lit ?_
      refine q_step hA59 rfl (d_assign (wn rfl) (hA59.ev (v := (.string (S []))) rfl) ?_)
      intro a60 hA61
      refine q_end ?_
      refine t_norm ?_
      refine wp_seq ?_
      refine wp_seq ?_
      refine wp_region_lit ?_
      refine q_step hA61 rfl (d_assign (wn rfl) (hA61.ev (v := (.int .i64 0)) rfl) ?_)
      intro a62 hA63
      refine q_end ?_
      refine t_norm ?_
      refine wp_block ?_
      have hl0 : lies l 0 (tokensR l).1 := by rcases htl with ⟨_, h⟩ | ⟨h, _⟩ <;> first | exact h | exact absurd (eq_of_beq hb56) h
      have htj := tokens_join (by omega) hl0
      have hjL := htj.1
      refine loop_by (fun m65 a66 w67 => ∃ j64 : Nat, m65 = (tokensR l).1.length - j64 ∧ (j64 ≤ (tokensR l).1.length) ∧ St 100 [(3, v33), (6, (.string (S (joinT (List.take j64 (tokensR l).1))))), (7, (.int .i64 ((j64 : Nat) : Int)))] a66 ∧ Below w29.heap.size w29 w67) ((tokensR l).1.length - 0) ⟨0, rfl, (by omega), hA63.cut _ (fm_cons (hA63.get 3 _ rfl) (fm_cons ((hA63.get 6 _ rfl).trans (rfl)) (fm_cons ((hA63.get 7 _ rfl).trans (congrArg (Value.int .i64) (by omega))) fm_nil))), b37⟩ ?_
      rintro m65 a66 w67 ⟨j64, hm70, hc71, hA68, b69⟩
      refine wp_seq ?_
      refine wp_seq ?_
      refine wp_region_lit ?_
      refine q_step hA68 rfl (d_move (wn rfl) (hA68.ev (v := (.int .i64 ((j64 : Nat) : Int))) rfl) ?_)
      intro a72 hA73
      refine q_step hA73 rfl (d_move (wn rfl) (hA73.ev (v := v33) rfl) ?_)
      intro a74 hA75
      refine q_step hA75 rfl (d_len (n := ((tokensR l).1).length) (wn rfl) (hA75.ev (v := v33) rfl) slc23 hS35.form ?_)
      intro a76 hA77
      rcases Bool.eq_false_or_eq_true (decide (((j64 : Nat) : Int) < ((((tokensR l).1).length : Nat) : Int))) with hb78 | hb78
      · skip
        have hq79 := of_decide_eq_true hb78
        refine q_step hA77 rfl (d_bin (wn rfl) (hA77.ev (v := (.int .i64 ((j64 : Nat) : Int))) rfl) (hA77.ev (v := (.int .i64 ((((tokensR l).1).length : Nat) : Int))) rfl) (b_lt _ _ ((j64 : Nat) : Int) ((((tokensR l).1).length : Nat) : Int) true _ hb78) ?_)
        intro a80 hA81
        refine q_end ?_
        refine t_norm ?_
        refine c_true hA81 rfl ?_
        refine wp_skip ?_
        refine t_norm ?_
        refine wp_seq ?_
        refine wp_block ?_
        refine wp_region_lit ?_
        refine q_step hA81 rfl (d_move (wn rfl) (hA81.ev (v := (.string (S (joinT (List.take j64 (tokensR l).1))))) rfl) ?_)
        intro a82 hA83
        have hjt0 := join_take (tokensR l).1 j64
        refine q_step hA83 rfl (d_bin (wn rfl) (hA83.ev (v := (.string (S (joinT (List.take j64 (tokensR l).1))))) rfl) (hA83.ev (v := (.string (S [32]))) rfl) (b_sadd (l := joinT (List.take j64 (tokensR l).1)) (m := [32]) (by simp only [List.length_append, List.length_cons, List.length_nil]; omega)) ?_)
        intro a84 hA85
        refine q_step hA85 rfl (d_move (wn rfl) (hA85.ev (v := v33) rfl) ?_)
        intro a86 hA87
        refine q_step hA87 rfl (d_move (wn rfl) (hA87.ev (v := (.int .i64 ((j64 : Nat) : Int))) rfl) ?_)
        intro a88 hA89
        obtain ⟨y90, hy91⟩ : ∃ y90, ((tokensR l).1)[j64]? = some y90 := ⟨_, List.getElem?_eq_getElem (show j64 < ((tokensR l).1).length by omega)⟩
        obtain ⟨b92, o93, lt94, hr95, hix96⟩ := (hS35.below b69).at hy91
        refine q_step hA89 rfl (d_indexAt (j := j64) (wn rfl) (hA89.ev (v := v33) rfl) (hA89.ev (v := (.int .i64 ((j64 : Nat) : Int))) rfl) slc23 hix96 (get_lt hy91) ?_)
        intro a97 hA98
        refine q_step hA98 rfl (d_fieldAddr (wn rfl) (hA98.ev (v := (.pointer (some ⟨b92, o93, none⟩))) rfl) fo33_1 ?_)
        intro a99 hA100
        refine q_step hA100 rfl (d_load (v := (.string (S y90.text))) (wn rfl) (hA100.ev (v := (.pointer (some ⟨b92, o93 + 1, none⟩))) rfl) one9 (hr95 1 _ rfl) ?_)
        intro a101 hA102
        have hjg := congrArg List.length (join_go hy91)
        simp only [List.length_append, List.length_cons, List.length_nil] at hjg
        have hjt1 := join_take (tokensR l).1 (j64 + 1)
        refine q_step hA102 rfl (d_bin (wn rfl) (hA102.ev (v := (.string (S (joinT (List.take j64 (tokensR l).1) ++ [32])))) rfl) (hA102.ev (v := (.string (S y90.text))) rfl) (b_sadd (l := joinT (List.take j64 (tokensR l).1) ++ [32]) (m := y90.text) (by simp only [List.length_append, List.length_cons, List.length_nil]; omega)) ?_)
        intro a103 hA104
        refine q_step hA104 rfl (d_assign (wn rfl) (hA104.ev (v := (.string (S (joinT (List.take j64 (tokensR l).1) ++ [32] ++ y90.text)))) rfl) ?_)
        intro a105 hA106
        refine q_end ?_
        refine i_norm ?_
        refine t_norm ?_
        refine wp_region_lit ?_
        refine q_step hA106 rfl (d_move (wn rfl) (hA106.ev (v := (.int .i64 ((j64 : Nat) : Int))) rfl) ?_)
        intro a107 hA108
        refine q_step hA108 rfl (d_bin (wn rfl) (hA108.ev (v := (.int .i64 ((j64 : Nat) : Int))) rfl) (hA108.ev (v := (.int .i64 1)) rfl) (b_addE (j64 + 1) (by omega) (by omega)) ?_)
        intro a109 hA110
        refine q_step hA110 rfl (d_assign (wn rfl) (hA110.ev (v := (.int .i64 ((j64 + 1 : Nat) : Int))) rfl) ?_)
        intro a111 hA112
        refine q_end ?_
        refine t_norm ?_
        exact ⟨(tokensR l).1.length - (j64 + 1), (by rw [hm70]; omega), j64 + 1, rfl, (by omega), hA112.cut _ (fm_cons (hA112.get 3 _ rfl) (fm_cons ((hA112.get 6 _ rfl).trans (congrArg (fun z => Value.string (S z)) (join_go hy91))) (fm_cons (hA112.get 7 _ rfl) fm_nil))), b69⟩
      · skip
        have hq113 := of_decide_eq_false hb78
        refine q_step hA77 rfl (d_bin (wn rfl) (hA77.ev (v := (.int .i64 ((j64 : Nat) : Int))) rfl) (hA77.ev (v := (.int .i64 ((((tokensR l).1).length : Nat) : Int))) rfl) (b_lt _ _ ((j64 : Nat) : Int) ((((tokensR l).1).length : Nat) : Int) false _ hb78) ?_)
        intro a114 hA115
        refine q_end ?_
        refine t_norm ?_
        refine c_false hA115 rfl ?_
        refine wp_exit ?_
        refine t_exit ?_
        refine t_exit ?_
        refine i_here ?_
        refine t_norm ?_
        refine wp_seq ?_
        refine wp_region_lit ?_
        refine q_step hA115 rfl (d_move (wn rfl) (hA115.ev (v := (.string (S (joinT (List.take j64 (tokensR l).1))))) rfl) ?_)
        intro a116 hA117
        have hjt2 := join_take (tokensR l).1 j64
        refine q_step hA117 rfl (d_call (wn rfl) ent8 (map1 (hA117.ev (v := (.string (S (joinT (List.take j64 (tokensR l).1))))) rfl)) (tokens_any (joinT (List.take j64 (tokensR l).1)) w67 (by omega) m0 (cell_keep hm (Grow.trans b36 b69)) ev (cell_keep hev1 (Grow.trans b36 b69)) hev2) ?_)
        rintro e121 w118 ⟨v122, he120, ho123, hG119⟩
        have b125 := below_grow b69 hG119 b69.size
        rw [List.take_of_length_le (show (tokensR l).1.length ≤ j64 by omega), htj.2] at ho123 he120
        have hS124 := own_gen tokE_len ho123
        have b126 : Below w118.heap.size w118 w118 := Below.refl _ _
        have hS127 := (hS35.below b125).mono b125.size
        have hS128 := (hS35.below b125).mono b125.size
        refine ⟨(.tuple #[v122, (.int .i64 0), (.int .i64 0)]), he120, ?_⟩
        intro a129 hA130
        refine q_step hA130 rfl (d_move (wn rfl) (hA130.ev (v := (.tuple #[v122, (.int .i64 0), (.int .i64 0)])) rfl) ?_)
        intro a131 hA132
        refine q_step hA132 rfl (d_extract (v := v122) (wn rfl) (hA132.ev (v := (.tuple #[v122, (.int .i64 0), (.int .i64 0)])) rfl) rfl ?_)
        intro a133 hA134
        refine q_step hA134 rfl (d_extract (v := (.int .i64 0)) (wn rfl) (hA134.ev (v := (.tuple #[v122, (.int .i64 0), (.int .i64 0)])) rfl) rfl ?_)
        intro a135 hA136
        refine q_step hA136 rfl (d_extract (v := (.int .i64 0)) (wn rfl) (hA136.ev (v := (.tuple #[v122, (.int .i64 0), (.int .i64 0)])) rfl) rfl ?_)
        intro a137 hA138
        refine q_step hA138 rfl (d_assign (wn rfl) (hA138.ev (v := v122) rfl) ?_)
        intro a139 hA140
        refine q_step hA140 rfl (d_assign (wn rfl) (hA140.ev (v := (.int .i64 0)) rfl) ?_)
        intro a141 hA142
        refine q_step hA142 rfl (d_assign (wn rfl) (hA142.ev (v := (.int .i64 0)) rfl) ?_)
        intro a143 hA144
        refine q_end ?_
        refine t_norm ?_
        refine wp_seq ?_
        refine wp_seq ?_
        refine wp_region_lit ?_
        refine q_step hA144 rfl (d_move (wn rfl) (hA144.ev (v := (.int .i64 0)) rfl) ?_)
        intro a145 hA146
        refine q_step hA146 rfl (d_bin (wn rfl) (hA146.ev (v := (.int .i64 0)) rfl) (hA146.ev (v := (.int .i64 0)) rfl) (b_ne _ _ 0 0 false _ (notof rfl)) ?_)
        intro a147 hA148
        refine q_step hA148 rfl (d_move (wn rfl) (hA148.ev (v := (.bool false)) rfl) ?_)
        intro a149 hA150
        refine q_step hA150 rfl (d_move (wy rfl rfl (hA150.get 50 _ rfl)) (hA150.ev (v := v122) rfl) ?_)
        intro a151 hA152
        refine q_step hA152 rfl (d_len (n := (reloc 0 (tokensR l).1).length) (wy rfl rfl (hA152.get 50 _ rfl)) (hA152.ev (v := v122) rfl) slc23 hS124.form ?_)
        intro a153 hA154
        refine q_step hA154 rfl (d_move (wy rfl rfl (hA154.get 50 _ rfl)) (hA154.ev (v := v33) rfl) ?_)
        intro a155 hA156
        refine q_step hA156 rfl (d_len (n := ((tokensR l).1).length) (wy rfl rfl (hA156.get 50 _ rfl)) (hA156.ev (v := v33) rfl) slc23 hS127.form ?_)
        intro a157 hA158
        refine q_step hA158 rfl (d_bin (wy rfl rfl (hA158.get 50 _ rfl)) (hA158.ev (v := (.int .i64 (((reloc 0 (tokensR l).1).length : Nat) : Int))) rfl) (hA158.ev (v := (.int .i64 ((((tokensR l).1).length : Nat) : Int))) rfl) (b_ne _ _ (((reloc 0 (tokensR l).1).length : Nat) : Int) ((((tokensR l).1).length : Nat) : Int) false _ (notof (beq_iff_eq.2 (by rw [reloc_len])))) ?_)
        intro a159 hA160
        refine q_step hA160 rfl (d_pickF (wn rfl) (hA160.ev (v := (.bool false)) rfl) (hA160.ev (v := (.bool false)) rfl) ?_)
        intro a161 hA162
        refine q_end ?_
        refine t_norm ?_
        refine c_false hA162 rfl ?_
        refine wp_skip ?_
        refine t_norm ?_
        refine wp_seq ?_
        refine wp_seq ?_
        refine wp_region_lit ?_
        refine q_step hA162 rfl (d_assign (wn rfl) (hA162.ev (v := (.int .i64 0)) rfl) ?_)
        intro a163 hA164
        refine q_end ?_
        refine t_norm ?_
        refine wp_block ?_
        refine loop_by (fun m166 a167 w168 => ∃ j165 : Nat, m166 = (tokensR l).1.length - j165 ∧ (j165 ≤ (tokensR l).1.length) ∧ St 100 [(3, v33), (8, v122), (11, (.int .i64 ((j165 : Nat) : Int)))] a167 ∧ Below w118.heap.size w118 w168) ((tokensR l).1.length - 0) ⟨0, rfl, (by omega), hA164.cut _ (fm_cons (hA164.get 3 _ rfl) (fm_cons (hA164.get 8 _ rfl) (fm_cons ((hA164.get 11 _ rfl).trans (congrArg (Value.int .i64) (by omega))) fm_nil))), b126⟩ ?_
        rintro m166 a167 w168 ⟨j165, hm171, hc172, hA169, b170⟩
        refine wp_seq ?_
        refine wp_seq ?_
        refine wp_region_lit ?_
        refine q_step hA169 rfl (d_move (wn rfl) (hA169.ev (v := (.int .i64 ((j165 : Nat) : Int))) rfl) ?_)
        intro a173 hA174
        refine q_step hA174 rfl (d_move (wn rfl) (hA174.ev (v := v33) rfl) ?_)
        intro a175 hA176
        refine q_step hA176 rfl (d_len (n := ((tokensR l).1).length) (wn rfl) (hA176.ev (v := v33) rfl) slc23 hS127.form ?_)
        intro a177 hA178
        rcases Bool.eq_false_or_eq_true (decide (((j165 : Nat) : Int) < ((((tokensR l).1).length : Nat) : Int))) with hb179 | hb179
        · skip
          have hq180 := of_decide_eq_true hb179
          refine q_step hA178 rfl (d_bin (wn rfl) (hA178.ev (v := (.int .i64 ((j165 : Nat) : Int))) rfl) (hA178.ev (v := (.int .i64 ((((tokensR l).1).length : Nat) : Int))) rfl) (b_lt _ _ ((j165 : Nat) : Int) ((((tokensR l).1).length : Nat) : Int) true _ hb179) ?_)
          intro a181 hA182
          refine q_end ?_
          refine t_norm ?_
          refine c_true hA182 rfl ?_
          refine wp_skip ?_
          refine t_norm ?_
          refine wp_seq ?_
          refine wp_block ?_
          refine wp_seq ?_
          obtain ⟨y183, hy184⟩ : ∃ y183, (reloc 0 (tokensR l).1)[j165]? = some y183 := ⟨_, List.getElem?_eq_getElem (show j165 < (reloc 0 (tokensR l).1).length by rw [reloc_len]; omega)⟩
          obtain ⟨b185, o186, lt187, hr188, hix189⟩ := (hS124.below b170).at hy184
          obtain ⟨y190, hy191⟩ : ∃ y190, ((tokensR l).1)[j165]? = some y190 := ⟨_, List.getElem?_eq_getElem (show j165 < ((tokensR l).1).length by omega)⟩
          obtain ⟨n192, hn193⟩ := reloc_at (tokensR l).1 0 j165 y190 hy191
          obtain rfl := Option.some.inj (hy184.symm.trans hn193)
          obtain ⟨b194, o195, lt196, hr197, hix198⟩ := (hS127.below b170).at hy191
          have hA199 : St 100 [(3, v33), (8, v122), (11, (.int .i64 ((j165 : Nat) : Int)))] a181 := hA182.cut _ (fm_cons (hA182.get 3 _ rfl) (fm_cons (hA182.get 8 _ rfl) (fm_cons (hA182.get 11 _ rfl) fm_nil)))
          let M200 : Nat → Option (Array Value) := fun _ => none
          have hM200 : M200 = fun _ => none := rfl
          clear_value M200
          have hM200B : ∀ k, k < w118.heap.size → M200 k = none := (fun k hk => (congrFun hM200 k))
          refine drawn (S := SM M200) (tabL [cv v122, cv (.int .i64 ((j165 : Nat) : Int)), cv (.pointer (some ⟨b185, o186, none⟩)), cv (.pointer (some ⟨b185, o186, none⟩)), cv (.int .i64 y190.kind), cv v33, cv (.int .i64 ((j165 : Nat) : Int)), cv (.pointer (some ⟨b194, o195, none⟩)), cv (.pointer (some ⟨b194, o195, none⟩)), cv (.int .i64 y190.kind), cv (.bool false), cv (.bool false), cv v122, cv (.int .i64 ((j165 : Nat) : Int)), cv (.pointer (some ⟨b185, o186, none⟩)), cv (.pointer (some ⟨b185, o186 + 1, none⟩)), cv (.string (S y190.text)), cv v33, cv (.int .i64 ((j165 : Nat) : Int)), cv (.pointer (some ⟨b194, o195, none⟩)), cv (.pointer (some ⟨b194, o195 + 1, none⟩)), cv (.string (S y190.text)), cv (.bool false), cv (.bool false), cv (.bool false), cv v122, cv (.int .i64 ((j165 : Nat) : Int)), cv (.pointer (some ⟨b185, o186, none⟩)), cv (.pointer (some ⟨b185, o186 + 2, none⟩)), cv (.int .i64 y190.n), cv v33, cv (.int .i64 ((j165 : Nat) : Int)), cv (.pointer (some ⟨b194, o195, none⟩)), cv (.pointer (some ⟨b194, o195 + 2, none⟩)), cv (.int .i64 y190.n), cv (.bool false), cv (.bool false)]) mixedY SM.refl SM.trans SM.drew hA199 (by kernel_rfl) ?_ ?_
          · skip
            refine each_cons (fun x y hS hT hk => d_move (wn rfl) (hT.ev (v := v122) rfl) ⟨SM.refl _, rfl⟩) ?_
            refine each_cons (fun x y hS hT hk => d_move (wn rfl) (hT.ev (v := (.int .i64 ((j165 : Nat) : Int))) rfl) ⟨SM.refl _, rfl⟩) ?_
            refine each_cons (fun x y hS hT hk => d_indexAt (j := j165) (wn rfl) (hk 0 rfl) (hk 1 rfl) slc23 hix189 (get_lt hy184) ⟨SM.refl _, rfl⟩) ?_
            refine each_cons (fun x y hS hT hk => d_fieldAddr (wn rfl) (hk 2 rfl) fo33_0 ⟨SM.refl _, rfl⟩) ?_
            refine each_cons (fun x y hS hT hk => d_load (v := (.int .i64 y190.kind)) (wn rfl) (hk 3 rfl) one3 ((range_sm (w := w168.drew) hr188 hS (Nat.lt_of_lt_of_le lt187 b170.size) (hM200B _ lt187)) 0 _ rfl) ⟨SM.refl _, rfl⟩) ?_
            refine each_cons (fun x y hS hT hk => d_move (wn rfl) (hT.ev (v := v33) rfl) ⟨SM.refl _, rfl⟩) ?_
            refine each_cons (fun x y hS hT hk => d_move (wn rfl) (hT.ev (v := (.int .i64 ((j165 : Nat) : Int))) rfl) ⟨SM.refl _, rfl⟩) ?_
            refine each_cons (fun x y hS hT hk => d_indexAt (j := j165) (wn rfl) (hk 5 rfl) (hk 6 rfl) slc23 hix198 (get_lt hy191) ⟨SM.refl _, rfl⟩) ?_
            refine each_cons (fun x y hS hT hk => d_fieldAddr (wn rfl) (hk 7 rfl) fo33_0 ⟨SM.refl _, rfl⟩) ?_
            refine each_cons (fun x y hS hT hk => d_load (v := (.int .i64 y190.kind)) (wn rfl) (hk 8 rfl) one3 ((range_sm (w := w168.drew) hr197 hS (Nat.lt_of_lt_of_le lt196 b170.size) (hM200B _ lt196)) 0 _ rfl) ⟨SM.refl _, rfl⟩) ?_
            refine each_cons (fun x y hS hT hk => d_bin (wn rfl) (hk 4 rfl) (hk 9 rfl) (b_ne _ _ y190.kind y190.kind false _ (notof (beq_self_eq_true _))) ⟨SM.refl _, rfl⟩) ?_
            refine each_cons (fun x y hS hT hk => d_move (wn rfl) (hk 10 rfl) ⟨SM.refl _, rfl⟩) ?_
            refine each_cons (fun x y hS hT hk => d_move (wy rfl rfl (hk 11 rfl)) (hT.ev (v := v122) rfl) ⟨SM.refl _, rfl⟩) ?_
            refine each_cons (fun x y hS hT hk => d_move (wy rfl rfl (hk 11 rfl)) (hT.ev (v := (.int .i64 ((j165 : Nat) : Int))) rfl) ⟨SM.refl _, rfl⟩) ?_
            refine each_cons (fun x y hS hT hk => d_indexAt (j := j165) (wy rfl rfl (hk 11 rfl)) (hk 12 rfl) (hk 13 rfl) slc23 hix189 (get_lt hy184) ⟨SM.refl _, rfl⟩) ?_
            refine each_cons (fun x y hS hT hk => d_fieldAddr (wy rfl rfl (hk 11 rfl)) (hk 14 rfl) fo33_1 ⟨SM.refl _, rfl⟩) ?_
            refine each_cons (fun x y hS hT hk => d_load (v := (.string (S y190.text))) (wy rfl rfl (hk 11 rfl)) (hk 15 rfl) one9 ((range_sm (w := w168.drew) hr188 hS (Nat.lt_of_lt_of_le lt187 b170.size) (hM200B _ lt187)) 1 _ rfl) ⟨SM.refl _, rfl⟩) ?_
            refine each_cons (fun x y hS hT hk => d_move (wy rfl rfl (hk 11 rfl)) (hT.ev (v := v33) rfl) ⟨SM.refl _, rfl⟩) ?_
            refine each_cons (fun x y hS hT hk => d_move (wy rfl rfl (hk 11 rfl)) (hT.ev (v := (.int .i64 ((j165 : Nat) : Int))) rfl) ⟨SM.refl _, rfl⟩) ?_
            refine each_cons (fun x y hS hT hk => d_indexAt (j := j165) (wy rfl rfl (hk 11 rfl)) (hk 17 rfl) (hk 18 rfl) slc23 hix198 (get_lt hy191) ⟨SM.refl _, rfl⟩) ?_
            refine each_cons (fun x y hS hT hk => d_fieldAddr (wy rfl rfl (hk 11 rfl)) (hk 19 rfl) fo33_1 ⟨SM.refl _, rfl⟩) ?_
            refine each_cons (fun x y hS hT hk => d_load (v := (.string (S y190.text))) (wy rfl rfl (hk 11 rfl)) (hk 20 rfl) one9 ((range_sm (w := w168.drew) hr197 hS (Nat.lt_of_lt_of_le lt196 b170.size) (hM200B _ lt196)) 1 _ rfl) ⟨SM.refl _, rfl⟩) ?_
            refine each_cons (fun x y hS hT hk => d_bin (u := (.string (S y190.text))) (v := (.string (S y190.text))) (wy rfl rfl (hk 11 rfl)) (hk 16 rfl) (hk 21 rfl) (b_sne (l := y190.text) (m := y190.text) (r := false) (notof (eqL_same _))) ⟨SM.refl _, rfl⟩) ?_
            refine each_cons (fun x y hS hT hk => d_pickF (wn rfl) (hk 11 rfl) (hk 22 rfl) ⟨SM.refl _, rfl⟩) ?_
            refine each_cons (fun x y hS hT hk => d_move (wn rfl) (hk 23 rfl) ⟨SM.refl _, rfl⟩) ?_
            refine each_cons (fun x y hS hT hk => d_move (wy rfl rfl (hk 24 rfl)) (hT.ev (v := v122) rfl) ⟨SM.refl _, rfl⟩) ?_
            refine each_cons (fun x y hS hT hk => d_move (wy rfl rfl (hk 24 rfl)) (hT.ev (v := (.int .i64 ((j165 : Nat) : Int))) rfl) ⟨SM.refl _, rfl⟩) ?_
            refine each_cons (fun x y hS hT hk => d_indexAt (j := j165) (wy rfl rfl (hk 24 rfl)) (hk 25 rfl) (hk 26 rfl) slc23 hix189 (get_lt hy184) ⟨SM.refl _, rfl⟩) ?_
            refine each_cons (fun x y hS hT hk => d_fieldAddr (wy rfl rfl (hk 24 rfl)) (hk 27 rfl) fo33_2 ⟨SM.refl _, rfl⟩) ?_
            refine each_cons (fun x y hS hT hk => d_load (v := (.int .i64 y190.n)) (wy rfl rfl (hk 24 rfl)) (hk 28 rfl) one3 ((range_sm (w := w168.drew) hr188 hS (Nat.lt_of_lt_of_le lt187 b170.size) (hM200B _ lt187)) 2 _ rfl) ⟨SM.refl _, rfl⟩) ?_
            refine each_cons (fun x y hS hT hk => d_move (wy rfl rfl (hk 24 rfl)) (hT.ev (v := v33) rfl) ⟨SM.refl _, rfl⟩) ?_
            refine each_cons (fun x y hS hT hk => d_move (wy rfl rfl (hk 24 rfl)) (hT.ev (v := (.int .i64 ((j165 : Nat) : Int))) rfl) ⟨SM.refl _, rfl⟩) ?_
            refine each_cons (fun x y hS hT hk => d_indexAt (j := j165) (wy rfl rfl (hk 24 rfl)) (hk 30 rfl) (hk 31 rfl) slc23 hix198 (get_lt hy191) ⟨SM.refl _, rfl⟩) ?_
            refine each_cons (fun x y hS hT hk => d_fieldAddr (wy rfl rfl (hk 24 rfl)) (hk 32 rfl) fo33_2 ⟨SM.refl _, rfl⟩) ?_
            refine each_cons (fun x y hS hT hk => d_load (v := (.int .i64 y190.n)) (wy rfl rfl (hk 24 rfl)) (hk 33 rfl) one3 ((range_sm (w := w168.drew) hr197 hS (Nat.lt_of_lt_of_le lt196 b170.size) (hM200B _ lt196)) 2 _ rfl) ⟨SM.refl _, rfl⟩) ?_
            refine each_cons (fun x y hS hT hk => d_bin (wy rfl rfl (hk 24 rfl)) (hk 29 rfl) (hk 34 rfl) (b_ne _ _ y190.n y190.n false _ (notof (beq_self_eq_true _))) ⟨SM.refl _, rfl⟩) ?_
            refine each_cons (fun x y hS hT hk => d_pickF (wn rfl) (hk 24 rfl) (hk 35 rfl) ⟨SM.refl _, rfl⟩) ?_
            exact each_nil
          intro f201 a202 w203 hS204 hC205 hA206
          have hA207 : St 100 [(3, v33), (8, v122), (11, (.int .i64 ((j165 : Nat) : Int))), (99, (.bool false))] a202 := hA206.cut _ (fm_cons (hA206.get 3 _ rfl) (fm_cons (hA206.get 8 _ rfl) (fm_cons (hA206.get 11 _ rfl) (fm_cons ((hA206.get 99 _ rfl).trans (hC205 36 (Nat.le_of_ble_eq_true rfl))) fm_nil))))
          have b208 := hS204.below b170 b170.size hM200B
          have hr209 := range_sm hr188 hS204 (Nat.lt_of_lt_of_le lt187 b170.size) (hM200B _ lt187)
          have hr210 := range_sm hr197 hS204 (Nat.lt_of_lt_of_le lt196 b170.size) (hM200B _ lt196)
          refine t_norm ?_
          refine c_false hA207 rfl ?_
          refine wp_skip ?_
          refine i_norm ?_
          refine t_norm ?_
          refine wp_region_lit ?_
          refine q_step hA207 rfl (d_move (wn rfl) (hA207.ev (v := (.int .i64 ((j165 : Nat) : Int))) rfl) ?_)
          intro a211 hA212
          refine q_step hA212 rfl (d_bin (wn rfl) (hA212.ev (v := (.int .i64 ((j165 : Nat) : Int))) rfl) (hA212.ev (v := (.int .i64 1)) rfl) (b_addE (j165 + 1) (by omega) (by omega)) ?_)
          intro a213 hA214
          refine q_step hA214 rfl (d_assign (wn rfl) (hA214.ev (v := (.int .i64 ((j165 + 1 : Nat) : Int))) rfl) ?_)
          intro a215 hA216
          refine q_end ?_
          refine t_norm ?_
          exact ⟨(tokensR l).1.length - (j165 + 1), (by rw [hm171]; omega), j165 + 1, rfl, (by omega), hA216.cut _ (fm_cons (hA216.get 3 _ rfl) (fm_cons (hA216.get 8 _ rfl) (fm_cons (hA216.get 11 _ rfl) fm_nil))), b208⟩
        · skip
          have hq217 := of_decide_eq_false hb179
          refine q_step hA178 rfl (d_bin (wn rfl) (hA178.ev (v := (.int .i64 ((j165 : Nat) : Int))) rfl) (hA178.ev (v := (.int .i64 ((((tokensR l).1).length : Nat) : Int))) rfl) (b_lt _ _ ((j165 : Nat) : Int) ((((tokensR l).1).length : Nat) : Int) false _ hb179) ?_)
          intro a218 hA219
          refine q_end ?_
          refine t_norm ?_
          refine c_false hA219 rfl ?_
          refine wp_exit ?_
          refine t_exit ?_
          refine t_exit ?_
          refine i_here ?_
          refine t_norm ?_
          refine wp_seq ?_
          refine wp_region_lit ?_
          refine q_step hA219 rfl (d_assign (wn rfl) (hA219.ev (v := (.bool true)) rfl) ?_)
          intro a220 hA221
          refine q_end ?_
          refine t_norm ?_
          refine wp_ret ?_
          refine ret1 rfl hA221 (v := (.bool true)) rfl ?_
          exact ⟨rfl, (Grow.trans (Grow.trans b36 b125) b170)⟩
    · skip
      have hq222 := ne_of_beq hb56
      refine q_step hA55 rfl (d_bin (wn rfl) (hA55.ev (v := (.int .i64 ((tokensR l).2.1))) rfl) (hA55.ev (v := (.int .i64 0)) rfl) (b_ne _ _ ((tokensR l).2.1) 0 true _ (notof hb56)) ?_)
      intro a223 hA224
      refine q_end ?_
      refine t_norm ?_
      refine c_true hA224 rfl ?_
      refine wp_seq ?_
      refine wp_region_lit ?_
      refine q_step hA224 rfl (d_move (wn rfl) (hA224.ev (v := v33) rfl) ?_)
      intro a225 hA226
      refine q_step hA226 rfl (d_len (n := ((tokensR l).1).length) (wn rfl) (hA226.ev (v := v33) rfl) slc23 hS35.form ?_)
      intro a227 hA228
      refine q_step hA228 rfl (d_bin (wn rfl) (hA228.ev (v := (.int .i64 ((((tokensR l).1).length : Nat) : Int))) rfl) (hA228.ev (v := (.int .i64 0)) rfl) (b_eq _ _ ((((tokensR l).1).length : Nat) : Int) 0 true _ (beq_iff_eq.2 (by rcases htl with ⟨h, _⟩ | ⟨_, h, h2⟩ <;> first | exact absurd h (ne_of_beq hb56) | (rw [h] <;> rfl)))) ?_)
      intro a229 hA230
      refine q_step hA230 rfl (d_assign (wn rfl) (hA230.ev (v := (.bool true)) rfl) ?_)
      intro a231 hA232
      refine q_end ?_
      refine t_norm ?_
      refine wp_ret ?_
      refine t_ret ?_
      refine ret1 rfl hA232 (v := (.bool true)) rfl ?_
      exact ⟨rfl, (Grow.trans b36 b37)⟩
end Go.Proofs.YtfehbkcfncioiaaDoor
