/- Contracts of functions on single instructions. -/
import Derived.Test.YtlhompedcphnnaaU1
namespace Go.Proofs.Ytlhompedcphnnaa
open Go.RowKit
set_option linter.unusedSimpArgs false
set_option linter.unusedVariables false
set_option maxHeartbeats 4000000 in
set_option maxRecDepth 4000 in
theorem sound_any (i : Ins) (w : World) : Calls Try.prog 29 #[.agg (insC i)] w fun e w' => e = .returned (.bool (soundB i)) ∧ Grow w w' := by
  have b0 : Below w.heap.size w w := Below.refl _ _
  refine enter (n := 113) Try.func29 rfl rfl (Nat.le_of_ble_eq_true rfl) ?_
  intro a1 hA2
  refine wp_seq ?_
  refine wp_region_lit ?_
  refine q_step hA2 rfl (d_box (wn rfl) (hA2.ev (v := (.agg (insC i))) rfl) ?_)
  intro g3 w4 eg5 hG6 (m7 : Blk w4 g3 (insC i) 23)
  have ge8 : w.heap.size ≤ g3 := eg5 ▸ b0.size
  have b9 := below_grow b0 hG6 b0.size
  intro a10 hA11
  refine q_step hA11 rfl (d_assign (wn rfl) (hA11.ev (v := (.bool false)) rfl) ?_)
  intro a12 hA13
  refine q_end ?_
  have hA14 : St 113 [(1, (.pointer (some ⟨g3, 0, none⟩))), (2, (.bool false))] a12 := hA13.cut _ (fm_cons (hA13.get 1 _ rfl) (fm_cons (hA13.get 2 _ rfl) fm_nil))
  refine t_norm ?_
  refine wp_seq ?_
  refine wp_seq ?_
  refine wp_region_lit ?_
  refine q_step hA14 rfl (d_fieldAddr (wn rfl) (hA14.ev (v := (.pointer (some ⟨g3, 0, none⟩))) rfl) fo23_0 ?_)
  intro a15 hA16
  refine q_step hA16 rfl (d_load (v := (.int .i64 i.op)) (wn rfl) (hA16.ev (v := (.pointer (some ⟨g3, 0, none⟩))) rfl) one3 (m7.cell rfl) ?_)
  intro a17 hA18
  refine q_end ?_
  have hA19 : St 113 [(1, (.pointer (some ⟨g3, 0, none⟩))), (2, (.bool false)), (4, (.int .i64 i.op))] a17 := hA18.cut _ (fm_cons (hA18.get 1 _ rfl) (fm_cons (hA18.get 2 _ rfl) (fm_cons (hA18.get 4 _ rfl) fm_nil)))
  refine t_norm ?_
  refine wp_block ?_
  refine wp_seq ?_
  refine wp_region_lit ?_
  rcases Bool.eq_false_or_eq_true (i.op == 1) with hb20 | hb20
  · skip
    have hq21 := eq_of_beq hb20
    refine q_step hA19 rfl (d_bin (wn rfl) (hA19.ev (v := (.int .i64 i.op)) rfl) (hA19.ev (v := (.int .i64 1)) rfl) (b_eq _ _ i.op 1 true _ hb20) ?_)
    intro a22 hA23
    refine q_step hA23 rfl (d_assign (wn rfl) (hA23.ev (v := (.bool true)) rfl) ?_)
    intro a24 hA25
    refine q_end ?_
    have hA26 : St 113 [(1, (.pointer (some ⟨g3, 0, none⟩))), (2, (.bool false)), (4, (.int .i64 i.op)), (5, (.bool true))] a24 := hA25.cut _ (fm_cons (hA25.get 1 _ rfl) (fm_cons (hA25.get 2 _ rfl) (fm_cons (hA25.get 4 _ rfl) (fm_cons (hA25.get 5 _ rfl) fm_nil))))
    refine t_norm ?_
    refine c_true hA26 rfl ?_
    refine wp_seq ?_
    refine join_wp (K := fun a27 w28 => St 113 [(2, (.bool (regB i.dst)))] a27 ∧ Below w.heap.size w w28 ∧ Blk w28 g3 (insC i) 23) ?_ ?_
    · skip
      refine wp_region_lit ?_
      refine q_step hA26 rfl (d_fieldAddr (wn rfl) (hA26.ev (v := (.pointer (some ⟨g3, 0, none⟩))) rfl) fo23_1 ?_)
      intro a29 hA30
      refine q_step hA30 rfl (d_load (v := (.int .i64 i.dst)) (wn rfl) (hA30.ev (v := (.pointer (some ⟨g3, 1, none⟩))) rfl) one3 (m7.cell rfl) ?_)
      intro a31 hA32
      refine q_step hA32 rfl (d_call (wn rfl) ent40 (map1 (hA32.ev (v := (.int .i64 i.dst)) rfl)) (isReg_any i.dst w4) ?_)
      rintro e36 w33 ⟨he35, hG34⟩
      have m37 := m7.grow hG34
      have b38 := below_grow b9 hG34 b9.size
      rcases Bool.eq_false_or_eq_true (regB i.dst) with hb39 | hb39
      · skip
        refine ⟨.bool true, he35.trans (ret_bool hb39), ?_⟩
        intro a41 hA42
        refine q_step hA42 rfl (d_assign (wn rfl) (hA42.ev (v := (.bool true)) rfl) ?_)
        intro a43 hA44
        refine q_end ?_
        exact ⟨hA44.cut _ (fm_cons ((hA44.get 2 _ rfl).trans (congrArg Value.bool (by simp [hb39]))) fm_nil), b38, m37⟩
      · skip
        refine ⟨.bool false, he35.trans (ret_bool hb39), ?_⟩
        intro a46 hA47
        refine q_step hA47 rfl (d_assign (wn rfl) (hA47.ev (v := (.bool false)) rfl) ?_)
        intro a48 hA49
        refine q_end ?_
        exact ⟨hA49.cut _ (fm_cons ((hA49.get 2 _ rfl).trans (congrArg Value.bool (by simp [hb39]))) fm_nil), b38, m37⟩
    rintro a27 w28 ⟨hA50, b51, m52⟩
    refine t_norm ?_
    refine wp_ret ?_
    refine i_ret ?_
    refine t_ret ?_
    refine ret1 rfl hA50 (v := (.bool (regB i.dst))) rfl ?_
    exact ⟨ret_bool (by first | (simp [soundB, eq_of_beq hb20, Bool.or_assoc, Bool.and_assoc]; done) | (rw [Bool.eq_iff_iff]; simp [soundB, eq_of_beq hb20]; done) | (rw [Bool.eq_iff_iff]; simp [soundB, eq_of_beq hb20]; omega) | grind), b51⟩
  · skip
    have hq53 := ne_of_beq hb20
    refine q_step hA19 rfl (d_bin (wn rfl) (hA19.ev (v := (.int .i64 i.op)) rfl) (hA19.ev (v := (.int .i64 1)) rfl) (b_eq _ _ i.op 1 false _ hb20) ?_)
    intro a54 hA55
    refine q_step hA55 rfl (d_assign (wn rfl) (hA55.ev (v := (.bool false)) rfl) ?_)
    intro a56 hA57
    refine q_end ?_
    have hA58 : St 113 [(1, (.pointer (some ⟨g3, 0, none⟩))), (2, (.bool false)), (4, (.int .i64 i.op)), (5, (.bool false))] a56 := hA57.cut _ (fm_cons (hA57.get 1 _ rfl) (fm_cons (hA57.get 2 _ rfl) (fm_cons (hA57.get 4 _ rfl) (fm_cons (hA57.get 5 _ rfl) fm_nil))))
    refine t_norm ?_
    refine c_false hA58 rfl ?_
    refine wp_seq ?_
    refine wp_region_lit ?_
    rcases Bool.eq_false_or_eq_true (i.op == 2) with hb59 | hb59
    · skip
      have hq60 := eq_of_beq hb59
      refine q_step hA58 rfl (d_bin (wn rfl) (hA58.ev (v := (.int .i64 i.op)) rfl) (hA58.ev (v := (.int .i64 2)) rfl) (b_eq _ _ i.op 2 true _ hb59) ?_)
      intro a61 hA62
      refine q_step hA62 rfl (d_assign (wn rfl) (hA62.ev (v := (.bool true)) rfl) ?_)
      intro a63 hA64
      refine q_end ?_
      have hA65 : St 113 [(1, (.pointer (some ⟨g3, 0, none⟩))), (2, (.bool false)), (4, (.int .i64 i.op)), (10, (.bool true))] a63 := hA64.cut _ (fm_cons (hA64.get 1 _ rfl) (fm_cons (hA64.get 2 _ rfl) (fm_cons (hA64.get 4 _ rfl) (fm_cons (hA64.get 10 _ rfl) fm_nil))))
      refine t_norm ?_
      refine c_true hA65 rfl ?_
      refine wp_seq ?_
      refine join_wp (K := fun a66 w67 => St 113 [(2, (.bool ((regB i.dst) && (regB i.a))))] a66 ∧ Below w.heap.size w w67 ∧ Blk w67 g3 (insC i) 23) ?_ ?_
      · skip
        refine wp_region_lit ?_
        refine q_step hA65 rfl (d_fieldAddr (wn rfl) (hA65.ev (v := (.pointer (some ⟨g3, 0, none⟩))) rfl) fo23_1 ?_)
        intro a68 hA69
        refine q_step hA69 rfl (d_load (v := (.int .i64 i.dst)) (wn rfl) (hA69.ev (v := (.pointer (some ⟨g3, 1, none⟩))) rfl) one3 (m7.cell rfl) ?_)
        intro a70 hA71
        refine q_step hA71 rfl (d_call (wn rfl) ent40 (map1 (hA71.ev (v := (.int .i64 i.dst)) rfl)) (isReg_any i.dst w4) ?_)
        rintro e75 w72 ⟨he74, hG73⟩
        have m76 := m7.grow hG73
        have b77 := below_grow b9 hG73 b9.size
        rcases Bool.eq_false_or_eq_true (regB i.dst) with hb78 | hb78
        · skip
          refine ⟨.bool true, he74.trans (ret_bool hb78), ?_⟩
          intro a80 hA81
          refine q_step hA81 rfl (d_move (wn rfl) (hA81.ev (v := (.bool true)) rfl) ?_)
          intro a82 hA83
          refine q_step hA83 rfl (d_fieldAddr (wy rfl rfl (hA83.get 15 _ rfl)) (hA83.ev (v := (.pointer (some ⟨g3, 0, none⟩))) rfl) fo23_2 ?_)
          intro a84 hA85
          refine q_step hA85 rfl (d_load (v := (.int .i64 i.a)) (wy rfl rfl (hA85.get 15 _ rfl)) (hA85.ev (v := (.pointer (some ⟨g3, 2, none⟩))) rfl) one3 (m76.cell rfl) ?_)
          intro a86 hA87
          refine q_step hA87 rfl (d_call (wy rfl rfl (hA87.get 15 _ rfl)) ent40 (map1 (hA87.ev (v := (.int .i64 i.a)) rfl)) (isReg_any i.a w72) ?_)
          rintro e91 w88 ⟨he90, hG89⟩
          have m92 := m76.grow hG89
          have b93 := below_grow b77 hG89 b77.size
          rcases Bool.eq_false_or_eq_true (regB i.a) with hb94 | hb94
          · skip
            refine ⟨.bool true, he90.trans (ret_bool hb94), ?_⟩
            intro a96 hA97
            refine q_step hA97 rfl (d_pickT (wn rfl) (hA97.ev (v := (.bool true)) rfl) (hA97.ev (v := (.bool true)) rfl) ?_)
            intro a98 hA99
            refine q_step hA99 rfl (d_assign (wn rfl) (hA99.ev (v := (.bool true)) rfl) ?_)
            intro a100 hA101
            refine q_end ?_
            exact ⟨hA101.cut _ (fm_cons ((hA101.get 2 _ rfl).trans (congrArg Value.bool (by simp [hb78, hb94]))) fm_nil), b93, m92⟩
          · skip
            refine ⟨.bool false, he90.trans (ret_bool hb94), ?_⟩
            intro a103 hA104
            refine q_step hA104 rfl (d_pickT (wn rfl) (hA104.ev (v := (.bool true)) rfl) (hA104.ev (v := (.bool false)) rfl) ?_)
            intro a105 hA106
            refine q_step hA106 rfl (d_assign (wn rfl) (hA106.ev (v := (.bool false)) rfl) ?_)
            intro a107 hA108
            refine q_end ?_
            exact ⟨hA108.cut _ (fm_cons ((hA108.get 2 _ rfl).trans (congrArg Value.bool (by simp [hb78, hb94]))) fm_nil), b93, m92⟩
        · skip
          refine ⟨.bool false, he74.trans (ret_bool hb78), ?_⟩
          intro a110 hA111
          refine q_step hA111 rfl (d_move (wn rfl) (hA111.ev (v := (.bool false)) rfl) ?_)
          intro a112 hA113
          refine q_step hA113 rfl (does_not (wno rfl rfl (.inl (hA113.get 15 _ rfl))) ?_)
          intro a114 hA115
          refine q_step hA115 rfl (does_not (wno rfl rfl (.inl (hA115.get 15 _ rfl))) ?_)
          intro a116 hA117
          refine q_step hA117 rfl (does_not (wno rfl rfl (.inl (hA117.get 15 _ rfl))) ?_)
          intro a118 hA119
          refine q_step hA119 rfl (d_pickF (wn rfl) (hA119.ev (v := (.bool false)) rfl) (hA119.ev (v := (.bool false)) rfl) ?_)
          intro a120 hA121
          refine q_step hA121 rfl (d_assign (wn rfl) (hA121.ev (v := (.bool false)) rfl) ?_)
          intro a122 hA123
          refine q_end ?_
          exact ⟨hA123.cut _ (fm_cons ((hA123.get 2 _ rfl).trans (congrArg Value.bool (by simp [hb78]))) fm_nil), b77, m76⟩
      rintro a66 w67 ⟨hA124, b125, m126⟩
      refine t_norm ?_
      refine wp_ret ?_
      refine i_ret ?_
      refine t_ret ?_
      refine ret1 rfl hA124 (v := (.bool ((regB i.dst) && (regB i.a)))) rfl ?_
      exact ⟨ret_bool (by first | (simp [soundB, hb20, eq_of_beq hb59, Bool.or_assoc, Bool.and_assoc]; done) | (rw [Bool.eq_iff_iff]; simp [soundB, hb20, eq_of_beq hb59]; done) | (rw [Bool.eq_iff_iff]; simp [soundB, hb20, eq_of_beq hb59]; omega) | grind), b125⟩
    · skip
      have hq127 := ne_of_beq hb59
      refine q_step hA58 rfl (d_bin (wn rfl) (hA58.ev (v := (.int .i64 i.op)) rfl) (hA58.ev (v := (.int .i64 2)) rfl) (b_eq _ _ i.op 2 false _ hb59) ?_)
      intro a128 hA129
      refine q_step hA129 rfl (d_assign (wn rfl) (hA129.ev (v := (.bool false)) rfl) ?_)
      intro a130 hA131
      refine q_end ?_
      have hA132 : St 113 [(1, (.pointer (some ⟨g3, 0, none⟩))), (2, (.bool false)), (4, (.int .i64 i.op)), (10, (.bool false))] a130 := hA131.cut _ (fm_cons (hA131.get 1 _ rfl) (fm_cons (hA131.get 2 _ rfl) (fm_cons (hA131.get 4 _ rfl) (fm_cons (hA131.get 10 _ rfl) fm_nil))))
      refine t_norm ?_
      refine c_false hA132 rfl ?_
      refine wp_seq ?_
      refine wp_region_lit ?_
      rcases Bool.eq_false_or_eq_true (i.op == 3) with hb133 | hb133
      · skip
        have hq134 := eq_of_beq hb133
        refine q_step hA132 rfl (d_bin (wn rfl) (hA132.ev (v := (.int .i64 i.op)) rfl) (hA132.ev (v := (.int .i64 3)) rfl) (b_eq _ _ i.op 3 true _ hb133) ?_)
        intro a135 hA136
        refine q_step hA136 rfl (d_assign (wn rfl) (hA136.ev (v := (.bool true)) rfl) ?_)
        intro a137 hA138
        refine q_end ?_
        have hA139 : St 113 [(1, (.pointer (some ⟨g3, 0, none⟩))), (2, (.bool false)), (4, (.int .i64 i.op)), (20, (.bool true))] a137 := hA138.cut _ (fm_cons (hA138.get 1 _ rfl) (fm_cons (hA138.get 2 _ rfl) (fm_cons (hA138.get 4 _ rfl) (fm_cons (hA138.get 20 _ rfl) fm_nil))))
        refine t_norm ?_
        refine c_true hA139 rfl ?_
        refine wp_seq ?_
        refine join_wp (K := fun a140 w141 => St 113 [(2, (.bool ((regB i.dst) && ((regB i.a) && ((ronB i.b) && ((decide (i.fn ≥ 1)) && (decide (i.fn ≤ 5))))))))] a140 ∧ Below w.heap.size w w141 ∧ Blk w141 g3 (insC i) 23) ?_ ?_
        · skip
          refine wp_region_lit ?_
          refine q_step hA139 rfl (d_fieldAddr (wn rfl) (hA139.ev (v := (.pointer (some ⟨g3, 0, none⟩))) rfl) fo23_1 ?_)
          intro a142 hA143
          refine q_step hA143 rfl (d_load (v := (.int .i64 i.dst)) (wn rfl) (hA143.ev (v := (.pointer (some ⟨g3, 1, none⟩))) rfl) one3 (m7.cell rfl) ?_)
          intro a144 hA145
          refine q_step hA145 rfl (d_call (wn rfl) ent40 (map1 (hA145.ev (v := (.int .i64 i.dst)) rfl)) (isReg_any i.dst w4) ?_)
          rintro e149 w146 ⟨he148, hG147⟩
          have m150 := m7.grow hG147
          have b151 := below_grow b9 hG147 b9.size
          rcases Bool.eq_false_or_eq_true (regB i.dst) with hb152 | hb152
          · skip
            refine ⟨.bool true, he148.trans (ret_bool hb152), ?_⟩
            intro a154 hA155
            refine q_step hA155 rfl (d_move (wn rfl) (hA155.ev (v := (.bool true)) rfl) ?_)
            intro a156 hA157
            refine q_step hA157 rfl (d_fieldAddr (wy rfl rfl (hA157.get 25 _ rfl)) (hA157.ev (v := (.pointer (some ⟨g3, 0, none⟩))) rfl) fo23_2 ?_)
            intro a158 hA159
            refine q_step hA159 rfl (d_load (v := (.int .i64 i.a)) (wy rfl rfl (hA159.get 25 _ rfl)) (hA159.ev (v := (.pointer (some ⟨g3, 2, none⟩))) rfl) one3 (m150.cell rfl) ?_)
            intro a160 hA161
            refine q_step hA161 rfl (d_call (wy rfl rfl (hA161.get 25 _ rfl)) ent40 (map1 (hA161.ev (v := (.int .i64 i.a)) rfl)) (isReg_any i.a w146) ?_)
            rintro e165 w162 ⟨he164, hG163⟩
            have m166 := m150.grow hG163
            have b167 := below_grow b151 hG163 b151.size
            rcases Bool.eq_false_or_eq_true (regB i.a) with hb168 | hb168
            · skip
              refine ⟨.bool true, he164.trans (ret_bool hb168), ?_⟩
              intro a170 hA171
              refine q_step hA171 rfl (d_pickT (wn rfl) (hA171.ev (v := (.bool true)) rfl) (hA171.ev (v := (.bool true)) rfl) ?_)
              intro a172 hA173
              refine q_step hA173 rfl (d_move (wn rfl) (hA173.ev (v := (.bool true)) rfl) ?_)
              intro a174 hA175
              refine q_step hA175 rfl (d_fieldAddr (wy rfl rfl (hA175.get 30 _ rfl)) (hA175.ev (v := (.pointer (some ⟨g3, 0, none⟩))) rfl) fo23_3 ?_)
              intro a176 hA177
              refine q_step hA177 rfl (d_load (v := (.int .i64 i.b)) (wy rfl rfl (hA177.get 30 _ rfl)) (hA177.ev (v := (.pointer (some ⟨g3, 3, none⟩))) rfl) one3 (m166.cell rfl) ?_)
              intro a178 hA179
              refine q_step hA179 rfl (d_call (wy rfl rfl (hA179.get 30 _ rfl)) ent41 (map1 (hA179.ev (v := (.int .i64 i.b)) rfl)) (isRegOrNone_any i.b w162) ?_)
              rintro e183 w180 ⟨he182, hG181⟩
              have m184 := m166.grow hG181
              have b185 := below_grow b167 hG181 b167.size
              rcases Bool.eq_false_or_eq_true (ronB i.b) with hb186 | hb186
              · skip
                refine ⟨.bool true, he182.trans (ret_bool hb186), ?_⟩
                intro a188 hA189
                refine q_step hA189 rfl (d_pickT (wn rfl) (hA189.ev (v := (.bool true)) rfl) (hA189.ev (v := (.bool true)) rfl) ?_)
                intro a190 hA191
                refine q_step hA191 rfl (d_move (wn rfl) (hA191.ev (v := (.bool true)) rfl) ?_)
                intro a192 hA193
                refine q_step hA193 rfl (d_fieldAddr (wy rfl rfl (hA193.get 35 _ rfl)) (hA193.ev (v := (.pointer (some ⟨g3, 0, none⟩))) rfl) fo23_9 ?_)
                intro a194 hA195
                refine q_step hA195 rfl (d_load (v := (.int .i64 i.fn)) (wy rfl rfl (hA195.get 35 _ rfl)) (hA195.ev (v := (.pointer (some ⟨g3, 9, none⟩))) rfl) one3 (m184.cell rfl) ?_)
                intro a196 hA197
                rcases Bool.eq_false_or_eq_true (decide (i.fn ≥ 1)) with hb198 | hb198
                · skip
                  have hq199 := of_decide_eq_true hb198
                  refine q_step hA197 rfl (d_bin (wy rfl rfl (hA197.get 35 _ rfl)) (hA197.ev (v := (.int .i64 i.fn)) rfl) (hA197.ev (v := (.int .i64 1)) rfl) (b_ge _ _ i.fn 1 true _ hb198) ?_)
                  intro a200 hA201
                  refine q_step hA201 rfl (d_pickT (wn rfl) (hA201.ev (v := (.bool true)) rfl) (hA201.ev (v := (.bool true)) rfl) ?_)
                  intro a202 hA203
                  refine q_step hA203 rfl (d_move (wn rfl) (hA203.ev (v := (.bool true)) rfl) ?_)
                  intro a204 hA205
                  refine q_step hA205 rfl (d_fieldAddr (wy rfl rfl (hA205.get 40 _ rfl)) (hA205.ev (v := (.pointer (some ⟨g3, 0, none⟩))) rfl) fo23_9 ?_)
                  intro a206 hA207
                  refine q_step hA207 rfl (d_load (v := (.int .i64 i.fn)) (wy rfl rfl (hA207.get 40 _ rfl)) (hA207.ev (v := (.pointer (some ⟨g3, 9, none⟩))) rfl) one3 (m184.cell rfl) ?_)
                  intro a208 hA209
                  rcases Bool.eq_false_or_eq_true (decide (i.fn ≤ 5)) with hb210 | hb210
                  · skip
                    have hq211 := of_decide_eq_true hb210
                    refine q_step hA209 rfl (d_bin (wy rfl rfl (hA209.get 40 _ rfl)) (hA209.ev (v := (.int .i64 i.fn)) rfl) (hA209.ev (v := (.int .i64 5)) rfl) (b_le _ _ i.fn 5 true _ hb210) ?_)
                    intro a212 hA213
                    refine q_step hA213 rfl (d_pickT (wn rfl) (hA213.ev (v := (.bool true)) rfl) (hA213.ev (v := (.bool true)) rfl) ?_)
                    intro a214 hA215
                    refine q_step hA215 rfl (d_assign (wn rfl) (hA215.ev (v := (.bool true)) rfl) ?_)
                    intro a216 hA217
                    refine q_end ?_
                    exact ⟨hA217.cut _ (fm_cons ((hA217.get 2 _ rfl).trans (congrArg Value.bool (by simp [hb152, hb168, hb186, hb198, hb210]))) fm_nil), b185, m184⟩
                  · skip
                    have hq218 := of_decide_eq_false hb210
                    refine q_step hA209 rfl (d_bin (wy rfl rfl (hA209.get 40 _ rfl)) (hA209.ev (v := (.int .i64 i.fn)) rfl) (hA209.ev (v := (.int .i64 5)) rfl) (b_le _ _ i.fn 5 false _ hb210) ?_)
                    intro a219 hA220
                    refine q_step hA220 rfl (d_pickT (wn rfl) (hA220.ev (v := (.bool true)) rfl) (hA220.ev (v := (.bool false)) rfl) ?_)
                    intro a221 hA222
                    refine q_step hA222 rfl (d_assign (wn rfl) (hA222.ev (v := (.bool false)) rfl) ?_)
                    intro a223 hA224
                    refine q_end ?_
                    exact ⟨hA224.cut _ (fm_cons ((hA224.get 2 _ rfl).trans (congrArg Value.bool (by simp [hb152, hb168, hb186, hb198, hb210]))) fm_nil), b185, m184⟩
                · skip
                  have hq225 := of_decide_eq_false hb198
                  refine q_step hA197 rfl (d_bin (wy rfl rfl (hA197.get 35 _ rfl)) (hA197.ev (v := (.int .i64 i.fn)) rfl) (hA197.ev (v := (.int .i64 1)) rfl) (b_ge _ _ i.fn 1 false _ hb198) ?_)
                  intro a226 hA227
                  refine q_step hA227 rfl (d_pickT (wn rfl) (hA227.ev (v := (.bool true)) rfl) (hA227.ev (v := (.bool false)) rfl) ?_)
                  intro a228 hA229
                  refine q_step hA229 rfl (d_move (wn rfl) (hA229.ev (v := (.bool false)) rfl) ?_)
                  intro a230 hA231
                  refine q_step hA231 rfl (does_not (wno rfl rfl (.inl (hA231.get 40 _ rfl))) ?_)
                  intro a232 hA233
                  refine q_step hA233 rfl (does_not (wno rfl rfl (.inl (hA233.get 40 _ rfl))) ?_)
                  intro a234 hA235
                  refine q_step hA235 rfl (does_not (wno rfl rfl (.inl (hA235.get 40 _ rfl))) ?_)
                  intro a236 hA237
                  refine q_step hA237 rfl (d_pickF (wn rfl) (hA237.ev (v := (.bool false)) rfl) (hA237.ev (v := (.bool false)) rfl) ?_)
                  intro a238 hA239
                  refine q_step hA239 rfl (d_assign (wn rfl) (hA239.ev (v := (.bool false)) rfl) ?_)
                  intro a240 hA241
                  refine q_end ?_
                  exact ⟨hA241.cut _ (fm_cons ((hA241.get 2 _ rfl).trans (congrArg Value.bool (by simp [hb152, hb168, hb186, hb198]))) fm_nil), b185, m184⟩
              · skip
                refine ⟨.bool false, he182.trans (ret_bool hb186), ?_⟩
                intro a243 hA244
                refine q_step hA244 rfl (d_pickT (wn rfl) (hA244.ev (v := (.bool true)) rfl) (hA244.ev (v := (.bool false)) rfl) ?_)
                intro a245 hA246
                refine q_step hA246 rfl (d_move (wn rfl) (hA246.ev (v := (.bool false)) rfl) ?_)
                intro a247 hA248
                refine q_step hA248 rfl (does_not (wno rfl rfl (.inl (hA248.get 35 _ rfl))) ?_)
                intro a249 hA250
                refine q_step hA250 rfl (does_not (wno rfl rfl (.inl (hA250.get 35 _ rfl))) ?_)
                intro a251 hA252
                refine q_step hA252 rfl (does_not (wno rfl rfl (.inl (hA252.get 35 _ rfl))) ?_)
                intro a253 hA254
                refine q_step hA254 rfl (d_pickF (wn rfl) (hA254.ev (v := (.bool false)) rfl) (hA254.ev (v := (.bool false)) rfl) ?_)
                intro a255 hA256
                refine q_step hA256 rfl (d_move (wn rfl) (hA256.ev (v := (.bool false)) rfl) ?_)
                intro a257 hA258
                refine q_step hA258 rfl (does_not (wno rfl rfl (.inl (hA258.get 40 _ rfl))) ?_)
                intro a259 hA260
                refine q_step hA260 rfl (does_not (wno rfl rfl (.inl (hA260.get 40 _ rfl))) ?_)
                intro a261 hA262
                refine q_step hA262 rfl (does_not (wno rfl rfl (.inl (hA262.get 40 _ rfl))) ?_)
                intro a263 hA264
                refine q_step hA264 rfl (d_pickF (wn rfl) (hA264.ev (v := (.bool false)) rfl) (hA264.ev (v := (.bool false)) rfl) ?_)
                intro a265 hA266
                refine q_step hA266 rfl (d_assign (wn rfl) (hA266.ev (v := (.bool false)) rfl) ?_)
                intro a267 hA268
                refine q_end ?_
                exact ⟨hA268.cut _ (fm_cons ((hA268.get 2 _ rfl).trans (congrArg Value.bool (by simp [hb152, hb168, hb186]))) fm_nil), b185, m184⟩
            · skip
              refine ⟨.bool false, he164.trans (ret_bool hb168), ?_⟩
              intro a270 hA271
              refine q_step hA271 rfl (d_pickT (wn rfl) (hA271.ev (v := (.bool true)) rfl) (hA271.ev (v := (.bool false)) rfl) ?_)
              intro a272 hA273
              refine q_step hA273 rfl (d_move (wn rfl) (hA273.ev (v := (.bool false)) rfl) ?_)
              intro a274 hA275
              refine q_step hA275 rfl (does_not (wno rfl rfl (.inl (hA275.get 30 _ rfl))) ?_)
              intro a276 hA277
              refine q_step hA277 rfl (does_not (wno rfl rfl (.inl (hA277.get 30 _ rfl))) ?_)
              intro a278 hA279
              refine q_step hA279 rfl (does_not (wno rfl rfl (.inl (hA279.get 30 _ rfl))) ?_)
              intro a280 hA281
              refine q_step hA281 rfl (d_pickF (wn rfl) (hA281.ev (v := (.bool false)) rfl) (hA281.ev (v := (.bool false)) rfl) ?_)
              intro a282 hA283
              refine q_step hA283 rfl (d_move (wn rfl) (hA283.ev (v := (.bool false)) rfl) ?_)
              intro a284 hA285
              refine q_step hA285 rfl (does_not (wno rfl rfl (.inl (hA285.get 35 _ rfl))) ?_)
              intro a286 hA287
              refine q_step hA287 rfl (does_not (wno rfl rfl (.inl (hA287.get 35 _ rfl))) ?_)
              intro a288 hA289
              refine q_step hA289 rfl (does_not (wno rfl rfl (.inl (hA289.get 35 _ rfl))) ?_)
              intro a290 hA291
              refine q_step hA291 rfl (d_pickF (wn rfl) (hA291.ev (v := (.bool false)) rfl) (hA291.ev (v := (.bool false)) rfl) ?_)
              intro a292 hA293
              refine q_step hA293 rfl (d_move (wn rfl) (hA293.ev (v := (.bool false)) rfl) ?_)
              intro a294 hA295
              refine q_step hA295 rfl (does_not (wno rfl rfl (.inl (hA295.get 40 _ rfl))) ?_)
              intro a296 hA297
              refine q_step hA297 rfl (does_not (wno rfl rfl (.inl (hA297.get 40 _ rfl))) ?_)
              intro a298 hA299
              refine q_step hA299 rfl (does_not (wno rfl rfl (.inl (hA299.get 40 _ rfl))) ?_)
              intro a300 hA301
              refine q_step hA301 rfl (d_pickF (wn rfl) (hA301.ev (v := (.bool false)) rfl) (hA301.ev (v := (.bool false)) rfl) ?_)
              intro a302 hA303
              refine q_step hA303 rfl (d_assign (wn rfl) (hA303.ev (v := (.bool false)) rfl) ?_)
              intro a304 hA305
              refine q_end ?_
              exact ⟨hA305.cut _ (fm_cons ((hA305.get 2 _ rfl).trans (congrArg Value.bool (by simp [hb152, hb168]))) fm_nil), b167, m166⟩
          · skip
            refine ⟨.bool false, he148.trans (ret_bool hb152), ?_⟩
            intro a307 hA308
            refine q_step hA308 rfl (d_move (wn rfl) (hA308.ev (v := (.bool false)) rfl) ?_)
            intro a309 hA310
            refine q_step hA310 rfl (does_not (wno rfl rfl (.inl (hA310.get 25 _ rfl))) ?_)
            intro a311 hA312
            refine q_step hA312 rfl (does_not (wno rfl rfl (.inl (hA312.get 25 _ rfl))) ?_)
            intro a313 hA314
            refine q_step hA314 rfl (does_not (wno rfl rfl (.inl (hA314.get 25 _ rfl))) ?_)
            intro a315 hA316
            refine q_step hA316 rfl (d_pickF (wn rfl) (hA316.ev (v := (.bool false)) rfl) (hA316.ev (v := (.bool false)) rfl) ?_)
            intro a317 hA318
            refine q_step hA318 rfl (d_move (wn rfl) (hA318.ev (v := (.bool false)) rfl) ?_)
            intro a319 hA320
            refine q_step hA320 rfl (does_not (wno rfl rfl (.inl (hA320.get 30 _ rfl))) ?_)
            intro a321 hA322
            refine q_step hA322 rfl (does_not (wno rfl rfl (.inl (hA322.get 30 _ rfl))) ?_)
            intro a323 hA324
            refine q_step hA324 rfl (does_not (wno rfl rfl (.inl (hA324.get 30 _ rfl))) ?_)
            intro a325 hA326
            refine q_step hA326 rfl (d_pickF (wn rfl) (hA326.ev (v := (.bool false)) rfl) (hA326.ev (v := (.bool false)) rfl) ?_)
            intro a327 hA328
            refine q_step hA328 rfl (d_move (wn rfl) (hA328.ev (v := (.bool false)) rfl) ?_)
            intro a329 hA330
            refine q_step hA330 rfl (does_not (wno rfl rfl (.inl (hA330.get 35 _ rfl))) ?_)
            intro a331 hA332
            refine q_step hA332 rfl (does_not (wno rfl rfl (.inl (hA332.get 35 _ rfl))) ?_)
            intro a333 hA334
            refine q_step hA334 rfl (does_not (wno rfl rfl (.inl (hA334.get 35 _ rfl))) ?_)
            intro a335 hA336
            refine q_step hA336 rfl (d_pickF (wn rfl) (hA336.ev (v := (.bool false)) rfl) (hA336.ev (v := (.bool false)) rfl) ?_)
            intro a337 hA338
            refine q_step hA338 rfl (d_move (wn rfl) (hA338.ev (v := (.bool false)) rfl) ?_)
            intro a339 hA340
            refine q_step hA340 rfl (does_not (wno rfl rfl (.inl (hA340.get 40 _ rfl))) ?_)
            intro a341 hA342
            refine q_step hA342 rfl (does_not (wno rfl rfl (.inl (hA342.get 40 _ rfl))) ?_)
            intro a343 hA344
            refine q_step hA344 rfl (does_not (wno rfl rfl (.inl (hA344.get 40 _ rfl))) ?_)
            intro a345 hA346
            refine q_step hA346 rfl (d_pickF (wn rfl) (hA346.ev (v := (.bool false)) rfl) (hA346.ev (v := (.bool false)) rfl) ?_)
            intro a347 hA348
            refine q_step hA348 rfl (d_assign (wn rfl) (hA348.ev (v := (.bool false)) rfl) ?_)
            intro a349 hA350
            refine q_end ?_
            exact ⟨hA350.cut _ (fm_cons ((hA350.get 2 _ rfl).trans (congrArg Value.bool (by simp [hb152]))) fm_nil), b151, m150⟩
        rintro a140 w141 ⟨hA351, b352, m353⟩
        refine t_norm ?_
        refine wp_ret ?_
        refine i_ret ?_
        refine t_ret ?_
        refine ret1 rfl hA351 (v := (.bool ((regB i.dst) && ((regB i.a) && ((ronB i.b) && ((decide (i.fn ≥ 1)) && (decide (i.fn ≤ 5)))))))) rfl ?_
        exact ⟨ret_bool (by first | (simp [soundB, hb20, hb59, eq_of_beq hb133, Bool.or_assoc, Bool.and_assoc]; done) | (rw [Bool.eq_iff_iff]; simp [soundB, hb20, hb59, eq_of_beq hb133]; done) | (rw [Bool.eq_iff_iff]; simp [soundB, hb20, hb59, eq_of_beq hb133]; omega) | grind), b352⟩
      · skip
        have hq354 := ne_of_beq hb133
        refine q_step hA132 rfl (d_bin (wn rfl) (hA132.ev (v := (.int .i64 i.op)) rfl) (hA132.ev (v := (.int .i64 3)) rfl) (b_eq _ _ i.op 3 false _ hb133) ?_)
        intro a355 hA356
        refine q_step hA356 rfl (d_assign (wn rfl) (hA356.ev (v := (.bool false)) rfl) ?_)
        intro a357 hA358
        refine q_end ?_
        have hA359 : St 113 [(1, (.pointer (some ⟨g3, 0, none⟩))), (2, (.bool false)), (4, (.int .i64 i.op)), (20, (.bool false))] a357 := hA358.cut _ (fm_cons (hA358.get 1 _ rfl) (fm_cons (hA358.get 2 _ rfl) (fm_cons (hA358.get 4 _ rfl) (fm_cons (hA358.get 20 _ rfl) fm_nil))))
        refine t_norm ?_
        refine c_false hA359 rfl ?_
        refine wp_seq ?_
        refine wp_region_lit ?_
        rcases Bool.eq_false_or_eq_true (i.op == 4) with hb360 | hb360
        · skip
          have hq361 := eq_of_beq hb360
          refine q_step hA359 rfl (d_bin (wn rfl) (hA359.ev (v := (.int .i64 i.op)) rfl) (hA359.ev (v := (.int .i64 4)) rfl) (b_eq _ _ i.op 4 true _ hb360) ?_)
          intro a362 hA363
          refine q_step hA363 rfl (d_assign (wn rfl) (hA363.ev (v := (.bool true)) rfl) ?_)
          intro a364 hA365
          refine q_end ?_
          have hA366 : St 113 [(1, (.pointer (some ⟨g3, 0, none⟩))), (2, (.bool false)), (4, (.int .i64 i.op)), (45, (.bool true))] a364 := hA365.cut _ (fm_cons (hA365.get 1 _ rfl) (fm_cons (hA365.get 2 _ rfl) (fm_cons (hA365.get 4 _ rfl) (fm_cons (hA365.get 45 _ rfl) fm_nil))))
          refine t_norm ?_
          refine c_true hA366 rfl ?_
          refine wp_seq ?_
          refine join_wp (K := fun a367 w368 => St 113 [(2, (.bool ((regB i.dst) && ((accB i) && (cond i.acq (!i.weak) true)))))] a367 ∧ Below w.heap.size w w368 ∧ Blk w368 g3 (insC i) 23) ?_ ?_
          · skip
            refine wp_region_lit ?_
            refine q_step hA366 rfl (d_fieldAddr (wn rfl) (hA366.ev (v := (.pointer (some ⟨g3, 0, none⟩))) rfl) fo23_1 ?_)
            intro a369 hA370
            refine q_step hA370 rfl (d_load (v := (.int .i64 i.dst)) (wn rfl) (hA370.ev (v := (.pointer (some ⟨g3, 1, none⟩))) rfl) one3 (m7.cell rfl) ?_)
            intro a371 hA372
            refine q_step hA372 rfl (d_call (wn rfl) ent40 (map1 (hA372.ev (v := (.int .i64 i.dst)) rfl)) (isReg_any i.dst w4) ?_)
            rintro e376 w373 ⟨he375, hG374⟩
            have m377 := m7.grow hG374
            have b378 := below_grow b9 hG374 b9.size
            rcases Bool.eq_false_or_eq_true (regB i.dst) with hb379 | hb379
            · skip
              refine ⟨.bool true, he375.trans (ret_bool hb379), ?_⟩
              intro a381 hA382
              refine q_step hA382 rfl (d_move (wn rfl) (hA382.ev (v := (.bool true)) rfl) ?_)
              intro a383 hA384
              refine q_step hA384 rfl (d_loadRow (cs := (insC i)) (wy rfl rfl (hA384.get 50 _ rfl)) (hA384.ev (v := (.pointer (some ⟨g3, 0, none⟩))) rfl) row23 m377 ?_)
              intro a385 hA386
              refine q_step hA386 rfl (d_call (wy rfl rfl (hA386.get 50 _ rfl)) ent42 (map1 (hA386.ev (v := (.agg (insC i))) rfl)) (isAccess_any i w373) ?_)
              rintro e390 w387 ⟨he389, hG388⟩
              have m391 := m377.grow hG388
              have b392 := below_grow b378 hG388 b378.size
              rcases Bool.eq_false_or_eq_true (accB i) with hb393 | hb393
              · skip
                refine ⟨.bool true, he389.trans (ret_bool hb393), ?_⟩
                intro a395 hA396
                refine q_step hA396 rfl (d_pickT (wn rfl) (hA396.ev (v := (.bool true)) rfl) (hA396.ev (v := (.bool true)) rfl) ?_)
                intro a397 hA398
                refine q_step hA398 rfl (d_move (wn rfl) (hA398.ev (v := (.bool true)) rfl) ?_)
                intro a399 hA400
                refine q_step hA400 rfl (d_fieldAddr (wy rfl rfl (hA400.get 54 _ rfl)) (hA400.ev (v := (.pointer (some ⟨g3, 0, none⟩))) rfl) fo23_10 ?_)
                intro a401 hA402
                refine q_step hA402 rfl (d_load (v := (.bool i.acq)) (wy rfl rfl (hA402.get 54 _ rfl)) (hA402.ev (v := (.pointer (some ⟨g3, 10, none⟩))) rfl) one4 (m391.cell rfl) ?_)
                intro a403 hA404
                refine q_step hA404 rfl (d_move (wy rfl rfl (hA404.get 54 _ rfl)) (hA404.ev (v := (.bool i.acq)) rfl) ?_)
                intro a405 hA406
                rcases Bool.eq_false_or_eq_true (i.acq) with hb407 | hb407
                · skip
                  have hA409 : St 113 [(1, (.pointer (some ⟨g3, 0, none⟩))), (2, (.bool false)), (4, (.int .i64 i.op)), (45, (.bool true)), (47, (.pointer (some ⟨g3, 1, none⟩))), (48, (.int .i64 i.dst)), (49, (.bool true)), (50, (.bool true)), (51, (.agg (insC i))), (52, (.bool true)), (53, (.bool true)), (54, (.bool true)), (55, (.pointer (some ⟨g3, 10, none⟩))), (56, (.bool i.acq)), (57, (.bool true))] a405 := hA406.cut _ (fm_cons (hA406.get 1 _ rfl) (fm_cons (hA406.get 2 _ rfl) (fm_cons (hA406.get 4 _ rfl) (fm_cons (hA406.get 45 _ rfl) (fm_cons (hA406.get 47 _ rfl) (fm_cons (hA406.get 48 _ rfl) (fm_cons (hA406.get 49 _ rfl) (fm_cons (hA406.get 50 _ rfl) (fm_cons (hA406.get 51 _ rfl) (fm_cons (hA406.get 52 _ rfl) (fm_cons (hA406.get 53 _ rfl) (fm_cons (hA406.get 54 _ rfl) (fm_cons (hA406.get 55 _ rfl) (fm_cons (hA406.get 56 _ rfl) (fm_cons ((hA406.get 57 _ rfl).trans (congrArg Value.bool hb407)) fm_nil)))))))))))))))
                  refine q_step hA409 rfl (d_fieldAddr (wy rfl rfl (hA409.get 57 _ rfl)) (hA409.ev (v := (.pointer (some ⟨g3, 0, none⟩))) rfl) fo23_11 ?_)
                  intro a410 hA411
                  refine q_step hA411 rfl (d_load (v := (.bool i.weak)) (wy rfl rfl (hA411.get 57 _ rfl)) (hA411.ev (v := (.pointer (some ⟨g3, 11, none⟩))) rfl) one4 (m391.cell rfl) ?_)
                  intro a412 hA413
                  refine q_step hA413 rfl (d_pickT (wy rfl rfl (hA413.get 54 _ rfl)) (hA413.ev (v := (.bool true)) rfl) (hA413.ev (v := (.bool i.weak)) rfl) ?_)
                  intro a414 hA415
                  rcases Bool.eq_false_or_eq_true (i.weak) with hb416 | hb416
                  · skip
                    have hA418 : St 113 [(1, (.pointer (some ⟨g3, 0, none⟩))), (2, (.bool false)), (4, (.int .i64 i.op)), (45, (.bool true)), (47, (.pointer (some ⟨g3, 1, none⟩))), (48, (.int .i64 i.dst)), (49, (.bool true)), (50, (.bool true)), (51, (.agg (insC i))), (52, (.bool true)), (53, (.bool true)), (54, (.bool true)), (55, (.pointer (some ⟨g3, 10, none⟩))), (56, (.bool i.acq)), (57, (.bool true)), (58, (.pointer (some ⟨g3, 11, none⟩))), (59, (.bool i.weak)), (60, (.bool true))] a414 := hA415.cut _ (fm_cons (hA415.get 1 _ rfl) (fm_cons (hA415.get 2 _ rfl) (fm_cons (hA415.get 4 _ rfl) (fm_cons (hA415.get 45 _ rfl) (fm_cons (hA415.get 47 _ rfl) (fm_cons (hA415.get 48 _ rfl) (fm_cons (hA415.get 49 _ rfl) (fm_cons (hA415.get 50 _ rfl) (fm_cons (hA415.get 51 _ rfl) (fm_cons (hA415.get 52 _ rfl) (fm_cons (hA415.get 53 _ rfl) (fm_cons (hA415.get 54 _ rfl) (fm_cons (hA415.get 55 _ rfl) (fm_cons (hA415.get 56 _ rfl) (fm_cons (hA415.get 57 _ rfl) (fm_cons (hA415.get 58 _ rfl) (fm_cons (hA415.get 59 _ rfl) (fm_cons ((hA415.get 60 _ rfl).trans (congrArg Value.bool hb416)) fm_nil))))))))))))))))))
                    refine q_step hA418 rfl (d_not (wy rfl rfl (hA418.get 54 _ rfl)) (hA418.ev (v := (.bool true)) rfl) ?_)
                    intro a419 hA420
                    refine q_step hA420 rfl (d_pickT (wn rfl) (hA420.ev (v := (.bool true)) rfl) (hA420.ev (v := (.bool false)) rfl) ?_)
                    intro a421 hA422
                    refine q_step hA422 rfl (d_assign (wn rfl) (hA422.ev (v := (.bool false)) rfl) ?_)
                    intro a423 hA424
                    refine q_end ?_
                    exact ⟨hA424.cut _ (fm_cons ((hA424.get 2 _ rfl).trans (congrArg Value.bool (by simp [hb379, hb393, hb407, hb416]))) fm_nil), b392, m391⟩
                  · skip
                    have hA426 : St 113 [(1, (.pointer (some ⟨g3, 0, none⟩))), (2, (.bool false)), (4, (.int .i64 i.op)), (45, (.bool true)), (47, (.pointer (some ⟨g3, 1, none⟩))), (48, (.int .i64 i.dst)), (49, (.bool true)), (50, (.bool true)), (51, (.agg (insC i))), (52, (.bool true)), (53, (.bool true)), (54, (.bool true)), (55, (.pointer (some ⟨g3, 10, none⟩))), (56, (.bool i.acq)), (57, (.bool true)), (58, (.pointer (some ⟨g3, 11, none⟩))), (59, (.bool i.weak)), (60, (.bool false))] a414 := hA415.cut _ (fm_cons (hA415.get 1 _ rfl) (fm_cons (hA415.get 2 _ rfl) (fm_cons (hA415.get 4 _ rfl) (fm_cons (hA415.get 45 _ rfl) (fm_cons (hA415.get 47 _ rfl) (fm_cons (hA415.get 48 _ rfl) (fm_cons (hA415.get 49 _ rfl) (fm_cons (hA415.get 50 _ rfl) (fm_cons (hA415.get 51 _ rfl) (fm_cons (hA415.get 52 _ rfl) (fm_cons (hA415.get 53 _ rfl) (fm_cons (hA415.get 54 _ rfl) (fm_cons (hA415.get 55 _ rfl) (fm_cons (hA415.get 56 _ rfl) (fm_cons (hA415.get 57 _ rfl) (fm_cons (hA415.get 58 _ rfl) (fm_cons (hA415.get 59 _ rfl) (fm_cons ((hA415.get 60 _ rfl).trans (congrArg Value.bool hb416)) fm_nil))))))))))))))))))
                    refine q_step hA426 rfl (d_not (wy rfl rfl (hA426.get 54 _ rfl)) (hA426.ev (v := (.bool false)) rfl) ?_)
                    intro a427 hA428
                    refine q_step hA428 rfl (d_pickT (wn rfl) (hA428.ev (v := (.bool true)) rfl) (hA428.ev (v := (.bool true)) rfl) ?_)
                    intro a429 hA430
                    refine q_step hA430 rfl (d_assign (wn rfl) (hA430.ev (v := (.bool true)) rfl) ?_)
                    intro a431 hA432
                    refine q_end ?_
                    exact ⟨hA432.cut _ (fm_cons ((hA432.get 2 _ rfl).trans (congrArg Value.bool (by simp [hb379, hb393, hb407, hb416]))) fm_nil), b392, m391⟩
                · skip
                  have hA434 : St 113 [(1, (.pointer (some ⟨g3, 0, none⟩))), (2, (.bool false)), (4, (.int .i64 i.op)), (45, (.bool true)), (47, (.pointer (some ⟨g3, 1, none⟩))), (48, (.int .i64 i.dst)), (49, (.bool true)), (50, (.bool true)), (51, (.agg (insC i))), (52, (.bool true)), (53, (.bool true)), (54, (.bool true)), (55, (.pointer (some ⟨g3, 10, none⟩))), (56, (.bool i.acq)), (57, (.bool false))] a405 := hA406.cut _ (fm_cons (hA406.get 1 _ rfl) (fm_cons (hA406.get 2 _ rfl) (fm_cons (hA406.get 4 _ rfl) (fm_cons (hA406.get 45 _ rfl) (fm_cons (hA406.get 47 _ rfl) (fm_cons (hA406.get 48 _ rfl) (fm_cons (hA406.get 49 _ rfl) (fm_cons (hA406.get 50 _ rfl) (fm_cons (hA406.get 51 _ rfl) (fm_cons (hA406.get 52 _ rfl) (fm_cons (hA406.get 53 _ rfl) (fm_cons (hA406.get 54 _ rfl) (fm_cons (hA406.get 55 _ rfl) (fm_cons (hA406.get 56 _ rfl) (fm_cons ((hA406.get 57 _ rfl).trans (congrArg Value.bool hb407)) fm_nil)))))))))))))))
                  refine q_step hA434 rfl (does_not (wno rfl rfl (.inl (hA434.get 57 _ rfl))) ?_)
                  intro a435 hA436
                  refine q_step hA436 rfl (does_not (wno rfl rfl (.inl (hA436.get 57 _ rfl))) ?_)
                  intro a437 hA438
                  refine q_step hA438 rfl (d_pickF (wy rfl rfl (hA438.get 54 _ rfl)) (hA438.ev (v := (.bool false)) rfl) (hA438.ev (v := (.bool false)) rfl) ?_)
                  intro a439 hA440
                  refine q_step hA440 rfl (d_not (wy rfl rfl (hA440.get 54 _ rfl)) (hA440.ev (v := (.bool false)) rfl) ?_)
                  intro a441 hA442
                  refine q_step hA442 rfl (d_pickT (wn rfl) (hA442.ev (v := (.bool true)) rfl) (hA442.ev (v := (.bool true)) rfl) ?_)
                  intro a443 hA444
                  refine q_step hA444 rfl (d_assign (wn rfl) (hA444.ev (v := (.bool true)) rfl) ?_)
                  intro a445 hA446
                  refine q_end ?_
                  exact ⟨hA446.cut _ (fm_cons ((hA446.get 2 _ rfl).trans (congrArg Value.bool (by simp [hb379, hb393, hb407]))) fm_nil), b392, m391⟩
              · skip
                refine ⟨.bool false, he389.trans (ret_bool hb393), ?_⟩
                intro a448 hA449
                refine q_step hA449 rfl (d_pickT (wn rfl) (hA449.ev (v := (.bool true)) rfl) (hA449.ev (v := (.bool false)) rfl) ?_)
                intro a450 hA451
                refine q_step hA451 rfl (d_move (wn rfl) (hA451.ev (v := (.bool false)) rfl) ?_)
                intro a452 hA453
                refine q_step hA453 rfl (does_not (wno rfl rfl (.inl (hA453.get 54 _ rfl))) ?_)
                intro a454 hA455
                refine q_step hA455 rfl (does_not (wno rfl rfl (.inl (hA455.get 54 _ rfl))) ?_)
                intro a456 hA457
                refine q_step hA457 rfl (does_not (wno rfl rfl (.inl (hA457.get 54 _ rfl))) ?_)
                intro a458 hA459
                refine q_step hA459 rfl (does_not (wno rfl rfl (.inr (hA459.get 57 _ rfl))) ?_)
                intro a460 hA461
                refine q_step hA461 rfl (does_not (wno rfl rfl (.inr (hA461.get 57 _ rfl))) ?_)
                intro a462 hA463
                refine q_step hA463 rfl (does_not (wno rfl rfl (.inl (hA463.get 54 _ rfl))) ?_)
                intro a464 hA465
                refine q_step hA465 rfl (does_not (wno rfl rfl (.inl (hA465.get 54 _ rfl))) ?_)
                intro a466 hA467
                refine q_step hA467 rfl (d_pickF (wn rfl) (hA467.ev (v := (.bool false)) rfl) (hA467.ev (v := (.bool false)) rfl) ?_)
                intro a468 hA469
                refine q_step hA469 rfl (d_assign (wn rfl) (hA469.ev (v := (.bool false)) rfl) ?_)
                intro a470 hA471
                refine q_end ?_
                exact ⟨hA471.cut _ (fm_cons ((hA471.get 2 _ rfl).trans (congrArg Value.bool (by simp [hb379, hb393]))) fm_nil), b392, m391⟩
            · skip
              refine ⟨.bool false, he375.trans (ret_bool hb379), ?_⟩
              intro a473 hA474
              refine q_step hA474 rfl (d_move (wn rfl) (hA474.ev (v := (.bool false)) rfl) ?_)
              intro a475 hA476
              refine q_step hA476 rfl (does_not (wno rfl rfl (.inl (hA476.get 50 _ rfl))) ?_)
              intro a477 hA478
              refine q_step hA478 rfl (does_not (wno rfl rfl (.inl (hA478.get 50 _ rfl))) ?_)
              intro a479 hA480
              refine q_step hA480 rfl (d_pickF (wn rfl) (hA480.ev (v := (.bool false)) rfl) (hA480.ev (v := (.bool false)) rfl) ?_)
              intro a481 hA482
              refine q_step hA482 rfl (d_move (wn rfl) (hA482.ev (v := (.bool false)) rfl) ?_)
              intro a483 hA484
              refine q_step hA484 rfl (does_not (wno rfl rfl (.inl (hA484.get 54 _ rfl))) ?_)
              intro a485 hA486
              refine q_step hA486 rfl (does_not (wno rfl rfl (.inl (hA486.get 54 _ rfl))) ?_)
              intro a487 hA488
              refine q_step hA488 rfl (does_not (wno rfl rfl (.inl (hA488.get 54 _ rfl))) ?_)
              intro a489 hA490
              refine q_step hA490 rfl (does_not (wno rfl rfl (.inr (hA490.get 57 _ rfl))) ?_)
              intro a491 hA492
              refine q_step hA492 rfl (does_not (wno rfl rfl (.inr (hA492.get 57 _ rfl))) ?_)
              intro a493 hA494
              refine q_step hA494 rfl (does_not (wno rfl rfl (.inl (hA494.get 54 _ rfl))) ?_)
              intro a495 hA496
              refine q_step hA496 rfl (does_not (wno rfl rfl (.inl (hA496.get 54 _ rfl))) ?_)
              intro a497 hA498
              refine q_step hA498 rfl (d_pickF (wn rfl) (hA498.ev (v := (.bool false)) rfl) (hA498.ev (v := (.bool false)) rfl) ?_)
              intro a499 hA500
              refine q_step hA500 rfl (d_assign (wn rfl) (hA500.ev (v := (.bool false)) rfl) ?_)
              intro a501 hA502
              refine q_end ?_
              exact ⟨hA502.cut _ (fm_cons ((hA502.get 2 _ rfl).trans (congrArg Value.bool (by simp [hb379]))) fm_nil), b378, m377⟩
          rintro a367 w368 ⟨hA503, b504, m505⟩
          refine t_norm ?_
          refine wp_ret ?_
          refine i_ret ?_
          refine t_ret ?_
          refine ret1 rfl hA503 (v := (.bool ((regB i.dst) && ((accB i) && (cond i.acq (!i.weak) true))))) rfl ?_
          exact ⟨ret_bool (by first | (simp [soundB, hb20, hb59, hb133, eq_of_beq hb360, Bool.or_assoc, Bool.and_assoc]; done) | (rw [Bool.eq_iff_iff]; simp [soundB, hb20, hb59, hb133, eq_of_beq hb360]; done) | (rw [Bool.eq_iff_iff]; simp [soundB, hb20, hb59, hb133, eq_of_beq hb360]; omega) | grind), b504⟩
        · skip
          have hq506 := ne_of_beq hb360
          refine q_step hA359 rfl (d_bin (wn rfl) (hA359.ev (v := (.int .i64 i.op)) rfl) (hA359.ev (v := (.int .i64 4)) rfl) (b_eq _ _ i.op 4 false _ hb360) ?_)
          intro a507 hA508
          refine q_step hA508 rfl (d_assign (wn rfl) (hA508.ev (v := (.bool false)) rfl) ?_)
          intro a509 hA510
          refine q_end ?_
          have hA511 : St 113 [(1, (.pointer (some ⟨g3, 0, none⟩))), (2, (.bool false)), (4, (.int .i64 i.op)), (45, (.bool false))] a509 := hA510.cut _ (fm_cons (hA510.get 1 _ rfl) (fm_cons (hA510.get 2 _ rfl) (fm_cons (hA510.get 4 _ rfl) (fm_cons (hA510.get 45 _ rfl) fm_nil))))
          refine t_norm ?_
          refine c_false hA511 rfl ?_
          refine wp_seq ?_
          refine wp_region_lit ?_
          rcases Bool.eq_false_or_eq_true (i.op == 5) with hb512 | hb512
          · skip
            have hq513 := eq_of_beq hb512
            refine q_step hA511 rfl (d_bin (wn rfl) (hA511.ev (v := (.int .i64 i.op)) rfl) (hA511.ev (v := (.int .i64 5)) rfl) (b_eq _ _ i.op 5 true _ hb512) ?_)
            intro a514 hA515
            refine q_step hA515 rfl (d_assign (wn rfl) (hA515.ev (v := (.bool true)) rfl) ?_)
            intro a516 hA517
            refine q_end ?_
            have hA518 : St 113 [(1, (.pointer (some ⟨g3, 0, none⟩))), (2, (.bool false)), (4, (.int .i64 i.op)), (63, (.bool true))] a516 := hA517.cut _ (fm_cons (hA517.get 1 _ rfl) (fm_cons (hA517.get 2 _ rfl) (fm_cons (hA517.get 4 _ rfl) (fm_cons (hA517.get 63 _ rfl) fm_nil))))
            refine t_norm ?_
            refine c_true hA518 rfl ?_
            refine wp_seq ?_
            refine join_wp (K := fun a519 w520 => St 113 [(2, (.bool ((ronB i.a) && (accB i))))] a519 ∧ Below w.heap.size w w520 ∧ Blk w520 g3 (insC i) 23) ?_ ?_
            · skip
              refine wp_region_lit ?_
              refine q_step hA518 rfl (d_fieldAddr (wn rfl) (hA518.ev (v := (.pointer (some ⟨g3, 0, none⟩))) rfl) fo23_2 ?_)
              intro a521 hA522
              refine q_step hA522 rfl (d_load (v := (.int .i64 i.a)) (wn rfl) (hA522.ev (v := (.pointer (some ⟨g3, 2, none⟩))) rfl) one3 (m7.cell rfl) ?_)
              intro a523 hA524
              refine q_step hA524 rfl (d_call (wn rfl) ent41 (map1 (hA524.ev (v := (.int .i64 i.a)) rfl)) (isRegOrNone_any i.a w4) ?_)
              rintro e528 w525 ⟨he527, hG526⟩
              have m529 := m7.grow hG526
              have b530 := below_grow b9 hG526 b9.size
              rcases Bool.eq_false_or_eq_true (ronB i.a) with hb531 | hb531
              · skip
                refine ⟨.bool true, he527.trans (ret_bool hb531), ?_⟩
                intro a533 hA534
                refine q_step hA534 rfl (d_move (wn rfl) (hA534.ev (v := (.bool true)) rfl) ?_)
                intro a535 hA536
                refine q_step hA536 rfl (d_loadRow (cs := (insC i)) (wy rfl rfl (hA536.get 68 _ rfl)) (hA536.ev (v := (.pointer (some ⟨g3, 0, none⟩))) rfl) row23 m529 ?_)
                intro a537 hA538
                refine q_step hA538 rfl (d_call (wy rfl rfl (hA538.get 68 _ rfl)) ent42 (map1 (hA538.ev (v := (.agg (insC i))) rfl)) (isAccess_any i w525) ?_)
                rintro e542 w539 ⟨he541, hG540⟩
                have m543 := m529.grow hG540
                have b544 := below_grow b530 hG540 b530.size
                rcases Bool.eq_false_or_eq_true (accB i) with hb545 | hb545
                · skip
                  refine ⟨.bool true, he541.trans (ret_bool hb545), ?_⟩
                  intro a547 hA548
                  refine q_step hA548 rfl (d_pickT (wn rfl) (hA548.ev (v := (.bool true)) rfl) (hA548.ev (v := (.bool true)) rfl) ?_)
                  intro a549 hA550
                  refine q_step hA550 rfl (d_assign (wn rfl) (hA550.ev (v := (.bool true)) rfl) ?_)
                  intro a551 hA552
                  refine q_end ?_
                  exact ⟨hA552.cut _ (fm_cons ((hA552.get 2 _ rfl).trans (congrArg Value.bool (by simp [hb531, hb545]))) fm_nil), b544, m543⟩
                · skip
                  refine ⟨.bool false, he541.trans (ret_bool hb545), ?_⟩
                  intro a554 hA555
                  refine q_step hA555 rfl (d_pickT (wn rfl) (hA555.ev (v := (.bool true)) rfl) (hA555.ev (v := (.bool false)) rfl) ?_)
                  intro a556 hA557
                  refine q_step hA557 rfl (d_assign (wn rfl) (hA557.ev (v := (.bool false)) rfl) ?_)
                  intro a558 hA559
                  refine q_end ?_
                  exact ⟨hA559.cut _ (fm_cons ((hA559.get 2 _ rfl).trans (congrArg Value.bool (by simp [hb531, hb545]))) fm_nil), b544, m543⟩
              · skip
                refine ⟨.bool false, he527.trans (ret_bool hb531), ?_⟩
                intro a561 hA562
                refine q_step hA562 rfl (d_move (wn rfl) (hA562.ev (v := (.bool false)) rfl) ?_)
                intro a563 hA564
                refine q_step hA564 rfl (does_not (wno rfl rfl (.inl (hA564.get 68 _ rfl))) ?_)
                intro a565 hA566
                refine q_step hA566 rfl (does_not (wno rfl rfl (.inl (hA566.get 68 _ rfl))) ?_)
                intro a567 hA568
                refine q_step hA568 rfl (d_pickF (wn rfl) (hA568.ev (v := (.bool false)) rfl) (hA568.ev (v := (.bool false)) rfl) ?_)
                intro a569 hA570
                refine q_step hA570 rfl (d_assign (wn rfl) (hA570.ev (v := (.bool false)) rfl) ?_)
                intro a571 hA572
                refine q_end ?_
                exact ⟨hA572.cut _ (fm_cons ((hA572.get 2 _ rfl).trans (congrArg Value.bool (by simp [hb531]))) fm_nil), b530, m529⟩
            rintro a519 w520 ⟨hA573, b574, m575⟩
            refine t_norm ?_
            refine wp_ret ?_
            refine i_ret ?_
            refine t_ret ?_
            refine ret1 rfl hA573 (v := (.bool ((ronB i.a) && (accB i)))) rfl ?_
            exact ⟨ret_bool (by first | (simp [soundB, hb20, hb59, hb133, hb360, eq_of_beq hb512, Bool.or_assoc, Bool.and_assoc]; done) | (rw [Bool.eq_iff_iff]; simp [soundB, hb20, hb59, hb133, hb360, eq_of_beq hb512]; done) | (rw [Bool.eq_iff_iff]; simp [soundB, hb20, hb59, hb133, hb360, eq_of_beq hb512]; omega) | grind), b574⟩
          · skip
            have hq576 := ne_of_beq hb512
            refine q_step hA511 rfl (d_bin (wn rfl) (hA511.ev (v := (.int .i64 i.op)) rfl) (hA511.ev (v := (.int .i64 5)) rfl) (b_eq _ _ i.op 5 false _ hb512) ?_)
            intro a577 hA578
            refine q_step hA578 rfl (d_assign (wn rfl) (hA578.ev (v := (.bool false)) rfl) ?_)
            intro a579 hA580
            refine q_end ?_
            have hA581 : St 113 [(1, (.pointer (some ⟨g3, 0, none⟩))), (2, (.bool false)), (4, (.int .i64 i.op)), (63, (.bool false))] a579 := hA580.cut _ (fm_cons (hA580.get 1 _ rfl) (fm_cons (hA580.get 2 _ rfl) (fm_cons (hA580.get 4 _ rfl) (fm_cons (hA580.get 63 _ rfl) fm_nil))))
            refine t_norm ?_
            refine c_false hA581 rfl ?_
            refine wp_seq ?_
            refine wp_region_lit ?_
            rcases Bool.eq_false_or_eq_true (i.op == 6) with hb582 | hb582
            · skip
              have hq583 := eq_of_beq hb582
              refine q_step hA581 rfl (d_bin (wn rfl) (hA581.ev (v := (.int .i64 i.op)) rfl) (hA581.ev (v := (.int .i64 6)) rfl) (b_eq _ _ i.op 6 true _ hb582) ?_)
              intro a584 hA585
              refine q_step hA585 rfl (d_assign (wn rfl) (hA585.ev (v := (.bool true)) rfl) ?_)
              intro a586 hA587
              refine q_end ?_
              have hA588 : St 113 [(1, (.pointer (some ⟨g3, 0, none⟩))), (2, (.bool false)), (4, (.int .i64 i.op)), (72, (.bool true))] a586 := hA587.cut _ (fm_cons (hA587.get 1 _ rfl) (fm_cons (hA587.get 2 _ rfl) (fm_cons (hA587.get 4 _ rfl) (fm_cons (hA587.get 72 _ rfl) fm_nil))))
              refine t_norm ?_
              refine c_true hA588 rfl ?_
              refine wp_seq ?_
              refine join_wp (K := fun a589 w590 => St 113 [(2, (.bool ((regB i.dst) && ((regB i.a) && ((accB i) && ((i.fn == 6) || (i.fn == 1)))))))] a589 ∧ Below w.heap.size w w590 ∧ Blk w590 g3 (insC i) 23) ?_ ?_
              · skip
                refine wp_region_lit ?_
                refine q_step hA588 rfl (d_fieldAddr (wn rfl) (hA588.ev (v := (.pointer (some ⟨g3, 0, none⟩))) rfl) fo23_1 ?_)
                intro a591 hA592
                refine q_step hA592 rfl (d_load (v := (.int .i64 i.dst)) (wn rfl) (hA592.ev (v := (.pointer (some ⟨g3, 1, none⟩))) rfl) one3 (m7.cell rfl) ?_)
                intro a593 hA594
                refine q_step hA594 rfl (d_call (wn rfl) ent40 (map1 (hA594.ev (v := (.int .i64 i.dst)) rfl)) (isReg_any i.dst w4) ?_)
                rintro e598 w595 ⟨he597, hG596⟩
                have m599 := m7.grow hG596
                have b600 := below_grow b9 hG596 b9.size
                rcases Bool.eq_false_or_eq_true (regB i.dst) with hb601 | hb601
                · skip
                  refine ⟨.bool true, he597.trans (ret_bool hb601), ?_⟩
                  intro a603 hA604
                  refine q_step hA604 rfl (d_move (wn rfl) (hA604.ev (v := (.bool true)) rfl) ?_)
                  intro a605 hA606
                  refine q_step hA606 rfl (d_fieldAddr (wy rfl rfl (hA606.get 77 _ rfl)) (hA606.ev (v := (.pointer (some ⟨g3, 0, none⟩))) rfl) fo23_2 ?_)
                  intro a607 hA608
                  refine q_step hA608 rfl (d_load (v := (.int .i64 i.a)) (wy rfl rfl (hA608.get 77 _ rfl)) (hA608.ev (v := (.pointer (some ⟨g3, 2, none⟩))) rfl) one3 (m599.cell rfl) ?_)
                  intro a609 hA610
                  refine q_step hA610 rfl (d_call (wy rfl rfl (hA610.get 77 _ rfl)) ent40 (map1 (hA610.ev (v := (.int .i64 i.a)) rfl)) (isReg_any i.a w595) ?_)
                  rintro e614 w611 ⟨he613, hG612⟩
                  have m615 := m599.grow hG612
                  have b616 := below_grow b600 hG612 b600.size
                  rcases Bool.eq_false_or_eq_true (regB i.a) with hb617 | hb617
                  · skip
                    refine ⟨.bool true, he613.trans (ret_bool hb617), ?_⟩
                    intro a619 hA620
                    refine q_step hA620 rfl (d_pickT (wn rfl) (hA620.ev (v := (.bool true)) rfl) (hA620.ev (v := (.bool true)) rfl) ?_)
                    intro a621 hA622
                    refine q_step hA622 rfl (d_move (wn rfl) (hA622.ev (v := (.bool true)) rfl) ?_)
                    intro a623 hA624
                    refine q_step hA624 rfl (d_loadRow (cs := (insC i)) (wy rfl rfl (hA624.get 82 _ rfl)) (hA624.ev (v := (.pointer (some ⟨g3, 0, none⟩))) rfl) row23 m615 ?_)
                    intro a625 hA626
                    refine q_step hA626 rfl (d_call (wy rfl rfl (hA626.get 82 _ rfl)) ent42 (map1 (hA626.ev (v := (.agg (insC i))) rfl)) (isAccess_any i w611) ?_)
                    rintro e630 w627 ⟨he629, hG628⟩
                    have m631 := m615.grow hG628
                    have b632 := below_grow b616 hG628 b616.size
                    rcases Bool.eq_false_or_eq_true (accB i) with hb633 | hb633
                    · skip
                      refine ⟨.bool true, he629.trans (ret_bool hb633), ?_⟩
                      intro a635 hA636
                      refine q_step hA636 rfl (d_pickT (wn rfl) (hA636.ev (v := (.bool true)) rfl) (hA636.ev (v := (.bool true)) rfl) ?_)
                      intro a637 hA638
                      refine q_step hA638 rfl (d_move (wn rfl) (hA638.ev (v := (.bool true)) rfl) ?_)
                      intro a639 hA640
                      refine q_step hA640 rfl (d_fieldAddr (wy rfl rfl (hA640.get 86 _ rfl)) (hA640.ev (v := (.pointer (some ⟨g3, 0, none⟩))) rfl) fo23_9 ?_)
                      intro a641 hA642
                      refine q_step hA642 rfl (d_load (v := (.int .i64 i.fn)) (wy rfl rfl (hA642.get 86 _ rfl)) (hA642.ev (v := (.pointer (some ⟨g3, 9, none⟩))) rfl) one3 (m631.cell rfl) ?_)
                      intro a643 hA644
                      rcases Bool.eq_false_or_eq_true (i.fn == 6) with hb645 | hb645
                      · skip
                        have hq646 := eq_of_beq hb645
                        refine q_step hA644 rfl (d_bin (wy rfl rfl (hA644.get 86 _ rfl)) (hA644.ev (v := (.int .i64 i.fn)) rfl) (hA644.ev (v := (.int .i64 6)) rfl) (b_eq _ _ i.fn 6 true _ hb645) ?_)
                        intro a647 hA648
                        refine q_step hA648 rfl (d_move (wy rfl rfl (hA648.get 86 _ rfl)) (hA648.ev (v := (.bool true)) rfl) ?_)
                        intro a649 hA650
                        refine q_step hA650 rfl (does_not (wno rfl rfl (.inl (hA650.get 90 _ rfl))) ?_)
                        intro a651 hA652
                        refine q_step hA652 rfl (does_not (wno rfl rfl (.inl (hA652.get 90 _ rfl))) ?_)
                        intro a653 hA654
                        refine q_step hA654 rfl (does_not (wno rfl rfl (.inl (hA654.get 90 _ rfl))) ?_)
                        intro a655 hA656
                        refine q_step hA656 rfl (d_pickT (wy rfl rfl (hA656.get 86 _ rfl)) (hA656.ev (v := (.bool true)) rfl) (hA656.ev (v := (.bool true)) rfl) ?_)
                        intro a657 hA658
                        refine q_step hA658 rfl (d_pickT (wn rfl) (hA658.ev (v := (.bool true)) rfl) (hA658.ev (v := (.bool true)) rfl) ?_)
                        intro a659 hA660
                        refine q_step hA660 rfl (d_assign (wn rfl) (hA660.ev (v := (.bool true)) rfl) ?_)
                        intro a661 hA662
                        refine q_end ?_
                        exact ⟨hA662.cut _ (fm_cons ((hA662.get 2 _ rfl).trans (congrArg Value.bool (by simp [hb601, hb617, hb633, hb645]))) fm_nil), b632, m631⟩
                      · skip
                        have hq663 := ne_of_beq hb645
                        refine q_step hA644 rfl (d_bin (wy rfl rfl (hA644.get 86 _ rfl)) (hA644.ev (v := (.int .i64 i.fn)) rfl) (hA644.ev (v := (.int .i64 6)) rfl) (b_eq _ _ i.fn 6 false _ hb645) ?_)
                        intro a664 hA665
                        refine q_step hA665 rfl (d_move (wy rfl rfl (hA665.get 86 _ rfl)) (hA665.ev (v := (.bool false)) rfl) ?_)
                        intro a666 hA667
                        refine q_step hA667 rfl (d_fieldAddr (wy rfl rfl (hA667.get 90 _ rfl)) (hA667.ev (v := (.pointer (some ⟨g3, 0, none⟩))) rfl) fo23_9 ?_)
                        intro a668 hA669
                        refine q_step hA669 rfl (d_load (v := (.int .i64 i.fn)) (wy rfl rfl (hA669.get 90 _ rfl)) (hA669.ev (v := (.pointer (some ⟨g3, 9, none⟩))) rfl) one3 (m631.cell rfl) ?_)
                        intro a670 hA671
                        rcases Bool.eq_false_or_eq_true (i.fn == 1) with hb672 | hb672
                        · skip
                          have hq673 := eq_of_beq hb672
                          refine q_step hA671 rfl (d_bin (wy rfl rfl (hA671.get 90 _ rfl)) (hA671.ev (v := (.int .i64 i.fn)) rfl) (hA671.ev (v := (.int .i64 1)) rfl) (b_eq _ _ i.fn 1 true _ hb672) ?_)
                          intro a674 hA675
                          refine q_step hA675 rfl (d_pickF (wy rfl rfl (hA675.get 86 _ rfl)) (hA675.ev (v := (.bool false)) rfl) (hA675.ev (v := (.bool true)) rfl) ?_)
                          intro a676 hA677
                          refine q_step hA677 rfl (d_pickT (wn rfl) (hA677.ev (v := (.bool true)) rfl) (hA677.ev (v := (.bool true)) rfl) ?_)
                          intro a678 hA679
                          refine q_step hA679 rfl (d_assign (wn rfl) (hA679.ev (v := (.bool true)) rfl) ?_)
                          intro a680 hA681
                          refine q_end ?_
                          exact ⟨hA681.cut _ (fm_cons ((hA681.get 2 _ rfl).trans (congrArg Value.bool (by simp [hb601, hb617, hb633, hb645, hb672]))) fm_nil), b632, m631⟩
                        · skip
                          have hq682 := ne_of_beq hb672
                          refine q_step hA671 rfl (d_bin (wy rfl rfl (hA671.get 90 _ rfl)) (hA671.ev (v := (.int .i64 i.fn)) rfl) (hA671.ev (v := (.int .i64 1)) rfl) (b_eq _ _ i.fn 1 false _ hb672) ?_)
                          intro a683 hA684
                          refine q_step hA684 rfl (d_pickF (wy rfl rfl (hA684.get 86 _ rfl)) (hA684.ev (v := (.bool false)) rfl) (hA684.ev (v := (.bool false)) rfl) ?_)
                          intro a685 hA686
                          refine q_step hA686 rfl (d_pickT (wn rfl) (hA686.ev (v := (.bool true)) rfl) (hA686.ev (v := (.bool false)) rfl) ?_)
                          intro a687 hA688
                          refine q_step hA688 rfl (d_assign (wn rfl) (hA688.ev (v := (.bool false)) rfl) ?_)
                          intro a689 hA690
                          refine q_end ?_
                          exact ⟨hA690.cut _ (fm_cons ((hA690.get 2 _ rfl).trans (congrArg Value.bool (by simp [hb601, hb617, hb633, hb645, hb672]))) fm_nil), b632, m631⟩
                    · skip
                      refine ⟨.bool false, he629.trans (ret_bool hb633), ?_⟩
                      intro a692 hA693
                      refine q_step hA693 rfl (d_pickT (wn rfl) (hA693.ev (v := (.bool true)) rfl) (hA693.ev (v := (.bool false)) rfl) ?_)
                      intro a694 hA695
                      refine q_step hA695 rfl (d_move (wn rfl) (hA695.ev (v := (.bool false)) rfl) ?_)
                      intro a696 hA697
                      refine q_step hA697 rfl (does_not (wno rfl rfl (.inl (hA697.get 86 _ rfl))) ?_)
                      intro a698 hA699
                      refine q_step hA699 rfl (does_not (wno rfl rfl (.inl (hA699.get 86 _ rfl))) ?_)
                      intro a700 hA701
                      refine q_step hA701 rfl (does_not (wno rfl rfl (.inl (hA701.get 86 _ rfl))) ?_)
                      intro a702 hA703
                      refine q_step hA703 rfl (does_not (wno rfl rfl (.inl (hA703.get 86 _ rfl))) ?_)
                      intro a704 hA705
                      refine q_step hA705 rfl (does_not (wno rfl rfl (.inr (hA705.get 90 _ rfl))) ?_)
                      intro a706 hA707
                      refine q_step hA707 rfl (does_not (wno rfl rfl (.inr (hA707.get 90 _ rfl))) ?_)
                      intro a708 hA709
                      refine q_step hA709 rfl (does_not (wno rfl rfl (.inr (hA709.get 90 _ rfl))) ?_)
                      intro a710 hA711
                      refine q_step hA711 rfl (does_not (wno rfl rfl (.inl (hA711.get 86 _ rfl))) ?_)
                      intro a712 hA713
                      refine q_step hA713 rfl (d_pickF (wn rfl) (hA713.ev (v := (.bool false)) rfl) (hA713.ev (v := (.bool false)) rfl) ?_)
                      intro a714 hA715
                      refine q_step hA715 rfl (d_assign (wn rfl) (hA715.ev (v := (.bool false)) rfl) ?_)
                      intro a716 hA717
                      refine q_end ?_
                      exact ⟨hA717.cut _ (fm_cons ((hA717.get 2 _ rfl).trans (congrArg Value.bool (by simp [hb601, hb617, hb633]))) fm_nil), b632, m631⟩
                  · skip
                    refine ⟨.bool false, he613.trans (ret_bool hb617), ?_⟩
                    intro a719 hA720
                    refine q_step hA720 rfl (d_pickT (wn rfl) (hA720.ev (v := (.bool true)) rfl) (hA720.ev (v := (.bool false)) rfl) ?_)
                    intro a721 hA722
                    refine q_step hA722 rfl (d_move (wn rfl) (hA722.ev (v := (.bool false)) rfl) ?_)
                    intro a723 hA724
                    refine q_step hA724 rfl (does_not (wno rfl rfl (.inl (hA724.get 82 _ rfl))) ?_)
                    intro a725 hA726
                    refine q_step hA726 rfl (does_not (wno rfl rfl (.inl (hA726.get 82 _ rfl))) ?_)
                    intro a727 hA728
                    refine q_step hA728 rfl (d_pickF (wn rfl) (hA728.ev (v := (.bool false)) rfl) (hA728.ev (v := (.bool false)) rfl) ?_)
                    intro a729 hA730
                    refine q_step hA730 rfl (d_move (wn rfl) (hA730.ev (v := (.bool false)) rfl) ?_)
                    intro a731 hA732
                    refine q_step hA732 rfl (does_not (wno rfl rfl (.inl (hA732.get 86 _ rfl))) ?_)
                    intro a733 hA734
                    refine q_step hA734 rfl (does_not (wno rfl rfl (.inl (hA734.get 86 _ rfl))) ?_)
                    intro a735 hA736
                    refine q_step hA736 rfl (does_not (wno rfl rfl (.inl (hA736.get 86 _ rfl))) ?_)
                    intro a737 hA738
                    refine q_step hA738 rfl (does_not (wno rfl rfl (.inl (hA738.get 86 _ rfl))) ?_)
                    intro a739 hA740
                    refine q_step hA740 rfl (does_not (wno rfl rfl (.inr (hA740.get 90 _ rfl))) ?_)
                    intro a741 hA742
                    refine q_step hA742 rfl (does_not (wno rfl rfl (.inr (hA742.get 90 _ rfl))) ?_)
                    intro a743 hA744
                    refine q_step hA744 rfl (does_not (wno rfl rfl (.inr (hA744.get 90 _ rfl))) ?_)
                    intro a745 hA746
                    refine q_step hA746 rfl (does_not (wno rfl rfl (.inl (hA746.get 86 _ rfl))) ?_)
                    intro a747 hA748
                    refine q_step hA748 rfl (d_pickF (wn rfl) (hA748.ev (v := (.bool false)) rfl) (hA748.ev (v := (.bool false)) rfl) ?_)
                    intro a749 hA750
                    refine q_step hA750 rfl (d_assign (wn rfl) (hA750.ev (v := (.bool false)) rfl) ?_)
                    intro a751 hA752
                    refine q_end ?_
                    exact ⟨hA752.cut _ (fm_cons ((hA752.get 2 _ rfl).trans (congrArg Value.bool (by simp [hb601, hb617]))) fm_nil), b616, m615⟩
                · skip
                  refine ⟨.bool false, he597.trans (ret_bool hb601), ?_⟩
                  intro a754 hA755
                  refine q_step hA755 rfl (d_move (wn rfl) (hA755.ev (v := (.bool false)) rfl) ?_)
                  intro a756 hA757
                  refine q_step hA757 rfl (does_not (wno rfl rfl (.inl (hA757.get 77 _ rfl))) ?_)
                  intro a758 hA759
                  refine q_step hA759 rfl (does_not (wno rfl rfl (.inl (hA759.get 77 _ rfl))) ?_)
                  intro a760 hA761
                  refine q_step hA761 rfl (does_not (wno rfl rfl (.inl (hA761.get 77 _ rfl))) ?_)
                  intro a762 hA763
                  refine q_step hA763 rfl (d_pickF (wn rfl) (hA763.ev (v := (.bool false)) rfl) (hA763.ev (v := (.bool false)) rfl) ?_)
                  intro a764 hA765
                  refine q_step hA765 rfl (d_move (wn rfl) (hA765.ev (v := (.bool false)) rfl) ?_)
                  intro a766 hA767
                  refine q_step hA767 rfl (does_not (wno rfl rfl (.inl (hA767.get 82 _ rfl))) ?_)
                  intro a768 hA769
                  refine q_step hA769 rfl (does_not (wno rfl rfl (.inl (hA769.get 82 _ rfl))) ?_)
                  intro a770 hA771
                  refine q_step hA771 rfl (d_pickF (wn rfl) (hA771.ev (v := (.bool false)) rfl) (hA771.ev (v := (.bool false)) rfl) ?_)
                  intro a772 hA773
                  refine q_step hA773 rfl (d_move (wn rfl) (hA773.ev (v := (.bool false)) rfl) ?_)
                  intro a774 hA775
                  refine q_step hA775 rfl (does_not (wno rfl rfl (.inl (hA775.get 86 _ rfl))) ?_)
                  intro a776 hA777
                  refine q_step hA777 rfl (does_not (wno rfl rfl (.inl (hA777.get 86 _ rfl))) ?_)
                  intro a778 hA779
                  refine q_step hA779 rfl (does_not (wno rfl rfl (.inl (hA779.get 86 _ rfl))) ?_)
                  intro a780 hA781
                  refine q_step hA781 rfl (does_not (wno rfl rfl (.inl (hA781.get 86 _ rfl))) ?_)
                  intro a782 hA783
                  refine q_step hA783 rfl (does_not (wno rfl rfl (.inr (hA783.get 90 _ rfl))) ?_)
                  intro a784 hA785
                  refine q_step hA785 rfl (does_not (wno rfl rfl (.inr (hA785.get 90 _ rfl))) ?_)
                  intro a786 hA787
                  refine q_step hA787 rfl (does_not (wno rfl rfl (.inr (hA787.get 90 _ rfl))) ?_)
                  intro a788 hA789
                  refine q_step hA789 rfl (does_not (wno rfl rfl (.inl (hA789.get 86 _ rfl))) ?_)
                  intro a790 hA791
                  refine q_step hA791 rfl (d_pickF (wn rfl) (hA791.ev (v := (.bool false)) rfl) (hA791.ev (v := (.bool false)) rfl) ?_)
                  intro a792 hA793
                  refine q_step hA793 rfl (d_assign (wn rfl) (hA793.ev (v := (.bool false)) rfl) ?_)
                  intro a794 hA795
                  refine q_end ?_
                  exact ⟨hA795.cut _ (fm_cons ((hA795.get 2 _ rfl).trans (congrArg Value.bool (by simp [hb601]))) fm_nil), b600, m599⟩
              rintro a589 w590 ⟨hA796, b797, m798⟩
              refine t_norm ?_
              refine wp_ret ?_
              refine i_ret ?_
              refine t_ret ?_
              refine ret1 rfl hA796 (v := (.bool ((regB i.dst) && ((regB i.a) && ((accB i) && ((i.fn == 6) || (i.fn == 1))))))) rfl ?_
              exact ⟨ret_bool (by first | (simp [soundB, hb20, hb59, hb133, hb360, hb512, eq_of_beq hb582, Bool.or_assoc, Bool.and_assoc]; done) | (rw [Bool.eq_iff_iff]; simp [soundB, hb20, hb59, hb133, hb360, hb512, eq_of_beq hb582]; done) | (rw [Bool.eq_iff_iff]; simp [soundB, hb20, hb59, hb133, hb360, hb512, eq_of_beq hb582]; omega) | grind), b797⟩
            · skip
              have hq799 := ne_of_beq hb582
              refine q_step hA581 rfl (d_bin (wn rfl) (hA581.ev (v := (.int .i64 i.op)) rfl) (hA581.ev (v := (.int .i64 6)) rfl) (b_eq _ _ i.op 6 false _ hb582) ?_)
              intro a800 hA801
              refine q_step hA801 rfl (d_assign (wn rfl) (hA801.ev (v := (.bool false)) rfl) ?_)
              intro a802 hA803
              refine q_end ?_
              have hA804 : St 113 [(1, (.pointer (some ⟨g3, 0, none⟩))), (2, (.bool false)), (4, (.int .i64 i.op)), (72, (.bool false))] a802 := hA803.cut _ (fm_cons (hA803.get 1 _ rfl) (fm_cons (hA803.get 2 _ rfl) (fm_cons (hA803.get 4 _ rfl) (fm_cons (hA803.get 72 _ rfl) fm_nil))))
              refine t_norm ?_
              refine c_false hA804 rfl ?_
              refine wp_seq ?_
              refine wp_region_lit ?_
              rcases Bool.eq_false_or_eq_true (i.op == 7) with hb805 | hb805
              · skip
                have hq806 := eq_of_beq hb805
                refine q_step hA804 rfl (d_bin (wn rfl) (hA804.ev (v := (.int .i64 i.op)) rfl) (hA804.ev (v := (.int .i64 7)) rfl) (b_eq _ _ i.op 7 true _ hb805) ?_)
                intro a807 hA808
                refine q_step hA808 rfl (d_assign (wn rfl) (hA808.ev (v := (.bool true)) rfl) ?_)
                intro a809 hA810
                refine q_end ?_
                have hA811 : St 113 [(1, (.pointer (some ⟨g3, 0, none⟩))), (2, (.bool false)), (4, (.int .i64 i.op)), (96, (.bool true))] a809 := hA810.cut _ (fm_cons (hA810.get 1 _ rfl) (fm_cons (hA810.get 2 _ rfl) (fm_cons (hA810.get 4 _ rfl) (fm_cons (hA810.get 96 _ rfl) fm_nil))))
                refine t_norm ?_
                refine c_true hA811 rfl ?_
                refine wp_seq ?_
                refine join_wp (K := fun a812 w813 => St 113 [(2, (.bool ((fenB i.pred) && (fenB i.succ))))] a812 ∧ Below w.heap.size w w813 ∧ Blk w813 g3 (insC i) 23) ?_ ?_
                · skip
                  refine wp_region_lit ?_
                  refine q_step hA811 rfl (d_fieldAddr (wn rfl) (hA811.ev (v := (.pointer (some ⟨g3, 0, none⟩))) rfl) fo23_13 ?_)
                  intro a814 hA815
                  refine q_step hA815 rfl (d_load (v := (.int .i64 i.pred)) (wn rfl) (hA815.ev (v := (.pointer (some ⟨g3, 13, none⟩))) rfl) one3 (m7.cell rfl) ?_)
                  intro a816 hA817
                  refine q_step hA817 rfl (d_call (wn rfl) ent43 (map1 (hA817.ev (v := (.int .i64 i.pred)) rfl)) (isFenced_any i.pred w4) ?_)
                  rintro e821 w818 ⟨he820, hG819⟩
                  have m822 := m7.grow hG819
                  have b823 := below_grow b9 hG819 b9.size
                  rcases Bool.eq_false_or_eq_true (fenB i.pred) with hb824 | hb824
                  · skip
                    refine ⟨.bool true, he820.trans (ret_bool hb824), ?_⟩
                    intro a826 hA827
                    refine q_step hA827 rfl (d_move (wn rfl) (hA827.ev (v := (.bool true)) rfl) ?_)
                    intro a828 hA829
                    refine q_step hA829 rfl (d_fieldAddr (wy rfl rfl (hA829.get 101 _ rfl)) (hA829.ev (v := (.pointer (some ⟨g3, 0, none⟩))) rfl) fo23_14 ?_)
                    intro a830 hA831
                    refine q_step hA831 rfl (d_load (v := (.int .i64 i.succ)) (wy rfl rfl (hA831.get 101 _ rfl)) (hA831.ev (v := (.pointer (some ⟨g3, 14, none⟩))) rfl) one3 (m822.cell rfl) ?_)
                    intro a832 hA833
                    refine q_step hA833 rfl (d_call (wy rfl rfl (hA833.get 101 _ rfl)) ent43 (map1 (hA833.ev (v := (.int .i64 i.succ)) rfl)) (isFenced_any i.succ w818) ?_)
                    rintro e837 w834 ⟨he836, hG835⟩
                    have m838 := m822.grow hG835
                    have b839 := below_grow b823 hG835 b823.size
                    rcases Bool.eq_false_or_eq_true (fenB i.succ) with hb840 | hb840
                    · skip
                      refine ⟨.bool true, he836.trans (ret_bool hb840), ?_⟩
                      intro a842 hA843
                      refine q_step hA843 rfl (d_pickT (wn rfl) (hA843.ev (v := (.bool true)) rfl) (hA843.ev (v := (.bool true)) rfl) ?_)
                      intro a844 hA845
                      refine q_step hA845 rfl (d_assign (wn rfl) (hA845.ev (v := (.bool true)) rfl) ?_)
                      intro a846 hA847
                      refine q_end ?_
                      exact ⟨hA847.cut _ (fm_cons ((hA847.get 2 _ rfl).trans (congrArg Value.bool (by simp [hb824, hb840]))) fm_nil), b839, m838⟩
                    · skip
                      refine ⟨.bool false, he836.trans (ret_bool hb840), ?_⟩
                      intro a849 hA850
                      refine q_step hA850 rfl (d_pickT (wn rfl) (hA850.ev (v := (.bool true)) rfl) (hA850.ev (v := (.bool false)) rfl) ?_)
                      intro a851 hA852
                      refine q_step hA852 rfl (d_assign (wn rfl) (hA852.ev (v := (.bool false)) rfl) ?_)
                      intro a853 hA854
                      refine q_end ?_
                      exact ⟨hA854.cut _ (fm_cons ((hA854.get 2 _ rfl).trans (congrArg Value.bool (by simp [hb824, hb840]))) fm_nil), b839, m838⟩
                  · skip
                    refine ⟨.bool false, he820.trans (ret_bool hb824), ?_⟩
                    intro a856 hA857
                    refine q_step hA857 rfl (d_move (wn rfl) (hA857.ev (v := (.bool false)) rfl) ?_)
                    intro a858 hA859
                    refine q_step hA859 rfl (does_not (wno rfl rfl (.inl (hA859.get 101 _ rfl))) ?_)
                    intro a860 hA861
                    refine q_step hA861 rfl (does_not (wno rfl rfl (.inl (hA861.get 101 _ rfl))) ?_)
                    intro a862 hA863
                    refine q_step hA863 rfl (does_not (wno rfl rfl (.inl (hA863.get 101 _ rfl))) ?_)
                    intro a864 hA865
                    refine q_step hA865 rfl (d_pickF (wn rfl) (hA865.ev (v := (.bool false)) rfl) (hA865.ev (v := (.bool false)) rfl) ?_)
                    intro a866 hA867
                    refine q_step hA867 rfl (d_assign (wn rfl) (hA867.ev (v := (.bool false)) rfl) ?_)
                    intro a868 hA869
                    refine q_end ?_
                    exact ⟨hA869.cut _ (fm_cons ((hA869.get 2 _ rfl).trans (congrArg Value.bool (by simp [hb824]))) fm_nil), b823, m822⟩
                rintro a812 w813 ⟨hA870, b871, m872⟩
                refine t_norm ?_
                refine wp_ret ?_
                refine i_ret ?_
                refine t_ret ?_
                refine ret1 rfl hA870 (v := (.bool ((fenB i.pred) && (fenB i.succ)))) rfl ?_
                exact ⟨ret_bool (by first | (simp [soundB, hb20, hb59, hb133, hb360, hb512, hb582, eq_of_beq hb805, Bool.or_assoc, Bool.and_assoc]; done) | (rw [Bool.eq_iff_iff]; simp [soundB, hb20, hb59, hb133, hb360, hb512, hb582, eq_of_beq hb805]; done) | (rw [Bool.eq_iff_iff]; simp [soundB, hb20, hb59, hb133, hb360, hb512, hb582, eq_of_beq hb805]; omega) | grind), b871⟩
              · skip
                have hq873 := ne_of_beq hb805
                refine q_step hA804 rfl (d_bin (wn rfl) (hA804.ev (v := (.int .i64 i.op)) rfl) (hA804.ev (v := (.int .i64 7)) rfl) (b_eq _ _ i.op 7 false _ hb805) ?_)
                intro a874 hA875
                refine q_step hA875 rfl (d_assign (wn rfl) (hA875.ev (v := (.bool false)) rfl) ?_)
                intro a876 hA877
                refine q_end ?_
                have hA878 : St 113 [(1, (.pointer (some ⟨g3, 0, none⟩))), (2, (.bool false)), (4, (.int .i64 i.op)), (96, (.bool false))] a876 := hA877.cut _ (fm_cons (hA877.get 1 _ rfl) (fm_cons (hA877.get 2 _ rfl) (fm_cons (hA877.get 4 _ rfl) (fm_cons (hA877.get 96 _ rfl) fm_nil))))
                refine t_norm ?_
                refine c_false hA878 rfl ?_
                refine wp_seq ?_
                refine wp_region_lit ?_
                rcases Bool.eq_false_or_eq_true (i.op == 8) with hb879 | hb879
                · skip
                  have hq880 := eq_of_beq hb879
                  refine q_step hA878 rfl (d_bin (wn rfl) (hA878.ev (v := (.int .i64 i.op)) rfl) (hA878.ev (v := (.int .i64 8)) rfl) (b_eq _ _ i.op 8 true _ hb879) ?_)
                  intro a881 hA882
                  refine q_step hA882 rfl (d_assign (wn rfl) (hA882.ev (v := (.bool true)) rfl) ?_)
                  intro a883 hA884
                  refine q_end ?_
                  have hA885 : St 113 [(1, (.pointer (some ⟨g3, 0, none⟩))), (2, (.bool false)), (4, (.int .i64 i.op)), (106, (.bool true))] a883 := hA884.cut _ (fm_cons (hA884.get 1 _ rfl) (fm_cons (hA884.get 2 _ rfl) (fm_cons (hA884.get 4 _ rfl) (fm_cons (hA884.get 106 _ rfl) fm_nil))))
                  refine t_norm ?_
                  refine c_true hA885 rfl ?_
                  refine wp_seq ?_
                  refine wp_region_lit ?_
                  refine q_step hA885 rfl (d_assign (wn rfl) (hA885.ev (v := (.bool true)) rfl) ?_)
                  intro a886 hA887
                  refine q_end ?_
                  have hA888 : St 113 [(2, (.bool true))] a886 := hA887.cut _ (fm_cons (hA887.get 2 _ rfl) fm_nil)
                  refine t_norm ?_
                  refine wp_ret ?_
                  refine i_ret ?_
                  refine t_ret ?_
                  refine ret1 rfl hA888 (v := (.bool true)) rfl ?_
                  exact ⟨ret_bool (by first | (simp [soundB, hb20, hb59, hb133, hb360, hb512, hb582, hb805, eq_of_beq hb879, Bool.or_assoc, Bool.and_assoc]; done) | (rw [Bool.eq_iff_iff]; simp [soundB, hb20, hb59, hb133, hb360, hb512, hb582, hb805, eq_of_beq hb879]; done) | (rw [Bool.eq_iff_iff]; simp [soundB, hb20, hb59, hb133, hb360, hb512, hb582, hb805, eq_of_beq hb879]; omega) | grind), b9⟩
                · skip
                  have hq889 := ne_of_beq hb879
                  refine q_step hA878 rfl (d_bin (wn rfl) (hA878.ev (v := (.int .i64 i.op)) rfl) (hA878.ev (v := (.int .i64 8)) rfl) (b_eq _ _ i.op 8 false _ hb879) ?_)
                  intro a890 hA891
                  refine q_step hA891 rfl (d_assign (wn rfl) (hA891.ev (v := (.bool false)) rfl) ?_)
                  intro a892 hA893
                  refine q_end ?_
                  have hA894 : St 113 [(1, (.pointer (some ⟨g3, 0, none⟩))), (2, (.bool false)), (4, (.int .i64 i.op)), (106, (.bool false))] a892 := hA893.cut _ (fm_cons (hA893.get 1 _ rfl) (fm_cons (hA893.get 2 _ rfl) (fm_cons (hA893.get 4 _ rfl) (fm_cons (hA893.get 106 _ rfl) fm_nil))))
                  refine t_norm ?_
                  refine c_false hA894 rfl ?_
                  refine wp_seq ?_
                  refine wp_region_lit ?_
                  rcases Bool.eq_false_or_eq_true (i.op == 9) with hb895 | hb895
                  · skip
                    have hq896 := eq_of_beq hb895
                    refine q_step hA894 rfl (d_bin (wn rfl) (hA894.ev (v := (.int .i64 i.op)) rfl) (hA894.ev (v := (.int .i64 9)) rfl) (b_eq _ _ i.op 9 true _ hb895) ?_)
                    intro a897 hA898
                    refine q_step hA898 rfl (d_assign (wn rfl) (hA898.ev (v := (.bool true)) rfl) ?_)
                    intro a899 hA900
                    refine q_end ?_
                    have hA901 : St 113 [(1, (.pointer (some ⟨g3, 0, none⟩))), (2, (.bool false)), (108, (.bool true))] a899 := hA900.cut _ (fm_cons (hA900.get 1 _ rfl) (fm_cons (hA900.get 2 _ rfl) (fm_cons (hA900.get 108 _ rfl) fm_nil)))
                    refine t_norm ?_
                    refine c_true hA901 rfl ?_
                    refine wp_seq ?_
                    refine join_wp (K := fun a902 w903 => St 113 [(2, (.bool (regB i.a)))] a902 ∧ Below w.heap.size w w903 ∧ Blk w903 g3 (insC i) 23) ?_ ?_
                    · skip
                      refine wp_region_lit ?_
                      refine q_step hA901 rfl (d_fieldAddr (wn rfl) (hA901.ev (v := (.pointer (some ⟨g3, 0, none⟩))) rfl) fo23_2 ?_)
                      intro a904 hA905
                      refine q_step hA905 rfl (d_load (v := (.int .i64 i.a)) (wn rfl) (hA905.ev (v := (.pointer (some ⟨g3, 2, none⟩))) rfl) one3 (m7.cell rfl) ?_)
                      intro a906 hA907
                      refine q_step hA907 rfl (d_call (wn rfl) ent40 (map1 (hA907.ev (v := (.int .i64 i.a)) rfl)) (isReg_any i.a w4) ?_)
                      rintro e911 w908 ⟨he910, hG909⟩
                      have m912 := m7.grow hG909
                      have b913 := below_grow b9 hG909 b9.size
                      rcases Bool.eq_false_or_eq_true (regB i.a) with hb914 | hb914
                      · skip
                        refine ⟨.bool true, he910.trans (ret_bool hb914), ?_⟩
                        intro a916 hA917
                        refine q_step hA917 rfl (d_assign (wn rfl) (hA917.ev (v := (.bool true)) rfl) ?_)
                        intro a918 hA919
                        refine q_end ?_
                        exact ⟨hA919.cut _ (fm_cons ((hA919.get 2 _ rfl).trans (congrArg Value.bool (by simp [hb914]))) fm_nil), b913, m912⟩
                      · skip
                        refine ⟨.bool false, he910.trans (ret_bool hb914), ?_⟩
                        intro a921 hA922
                        refine q_step hA922 rfl (d_assign (wn rfl) (hA922.ev (v := (.bool false)) rfl) ?_)
                        intro a923 hA924
                        refine q_end ?_
                        exact ⟨hA924.cut _ (fm_cons ((hA924.get 2 _ rfl).trans (congrArg Value.bool (by simp [hb914]))) fm_nil), b913, m912⟩
                    rintro a902 w903 ⟨hA925, b926, m927⟩
                    refine t_norm ?_
                    refine wp_ret ?_
                    refine i_ret ?_
                    refine t_ret ?_
                    refine ret1 rfl hA925 (v := (.bool (regB i.a))) rfl ?_
                    exact ⟨ret_bool (by first | (simp [soundB, hb20, hb59, hb133, hb360, hb512, hb582, hb805, hb879, eq_of_beq hb895, Bool.or_assoc, Bool.and_assoc]; done) | (rw [Bool.eq_iff_iff]; simp [soundB, hb20, hb59, hb133, hb360, hb512, hb582, hb805, hb879, eq_of_beq hb895]; done) | (rw [Bool.eq_iff_iff]; simp [soundB, hb20, hb59, hb133, hb360, hb512, hb582, hb805, hb879, eq_of_beq hb895]; omega) | grind), b926⟩
                  · skip
                    have hq928 := ne_of_beq hb895
                    refine q_step hA894 rfl (d_bin (wn rfl) (hA894.ev (v := (.int .i64 i.op)) rfl) (hA894.ev (v := (.int .i64 9)) rfl) (b_eq _ _ i.op 9 false _ hb895) ?_)
                    intro a929 hA930
                    refine q_step hA930 rfl (d_assign (wn rfl) (hA930.ev (v := (.bool false)) rfl) ?_)
                    intro a931 hA932
                    refine q_end ?_
                    have hA933 : St 113 [(1, (.pointer (some ⟨g3, 0, none⟩))), (2, (.bool false)), (108, (.bool false))] a931 := hA932.cut _ (fm_cons (hA932.get 1 _ rfl) (fm_cons (hA932.get 2 _ rfl) (fm_cons (hA932.get 108 _ rfl) fm_nil)))
                    refine t_norm ?_
                    refine c_false hA933 rfl ?_
                    refine wp_skip ?_
                    refine i_norm ?_
                    refine t_norm ?_
                    refine wp_seq ?_
                    refine wp_region_lit ?_
                    refine q_step hA933 rfl (d_assign (wn rfl) (hA933.ev (v := (.bool false)) rfl) ?_)
                    intro a934 hA935
                    refine q_end ?_
                    have hA936 : St 113 [(2, (.bool false))] a934 := hA935.cut _ (fm_cons (hA935.get 2 _ rfl) fm_nil)
                    refine t_norm ?_
                    refine wp_ret ?_
                    refine ret1 rfl hA936 (v := (.bool false)) rfl ?_
                    exact ⟨ret_bool (by first | (simp [soundB, hb20, hb59, hb133, hb360, hb512, hb582, hb805, hb879, hb895, Bool.or_assoc, Bool.and_assoc]; done) | (rw [Bool.eq_iff_iff]; simp [soundB, hb20, hb59, hb133, hb360, hb512, hb582, hb805, hb879, hb895]; done) | (rw [Bool.eq_iff_iff]; simp [soundB, hb20, hb59, hb133, hb360, hb512, hb582, hb805, hb879, hb895]; omega) | grind), b9⟩
end Go.Proofs.Ytlhompedcphnnaa
