/- Contracts of functions on single instructions. -/
import Derived.Test.YtlhompedcphnnaaUirChecksP6
namespace Go.Proofs.Ytlhompedcphnnaa
open Go.RowKit
set_option linter.unusedSimpArgs false
set_option linter.unusedVariables false
set_option maxHeartbeats 4000000 in
set_option maxRecDepth 4000 in
theorem bare_any (i : Ins) (w : World) : Calls Try.prog 31 #[.agg (insC i)] w fun e w' => e = .returned (.tuple #[.agg (insC (bareF i)), .bool (fineB i)]) ∧ Grow w w' := by
 have b0 : Below w.heap.size w w := Below.refl _ _
 refine enter (n := 192) Try.func31 rfl rfl (Nat.le_of_ble_eq_true rfl) ?_
 intro a1 hA2
 refine wp_seq ?_
 refine wp_region_lit ?_
 refine q_step hA2 rfl (d_box (wn rfl) (hA2.ev rfl) ?_)
 intro g3 w4 eg5 hG6 (m7 : Blk w4 g3 (insC i) 23)
 have ge8 : w.heap.size ≤ g3 := eg5 ▸ b0.size
 have b9 := below_grow b0 hG6 b0.size
 intro a10 hA11
 refine q_step hA11 rfl (d_alloc (wn rfl) zero23 ?_)
 intro g12 w13 eg14 hG15 (m16 : Blk w13 g12 #[.int .i64 0, .int .i64 0, .int .i64 0, .int .i64 0, .int .i64 0, .int .i64 0, .int .i64 0, .int .i64 0, .int .i64 0, .int .i64 0, .bool false, .bool false, .bool false, .int .i64 0, .int .i64 0, .int .i64 0, .bool false] 23)
 have ge17 : w.heap.size ≤ g12 := eg14 ▸ b9.size
 have n18 : g3 ≠ g12 := fun h => Nat.lt_irrefl _ ((h.trans eg14) ▸ m7.lt)
 have m19 := m7.grow hG15
 have b20 := below_grow b9 hG15 b9.size
 intro a21 hA22
 refine q_step hA22 rfl (d_assign (wn rfl) (hA22.ev rfl) ?_)
 intro a23 hA24
 refine q_end ?_
 have hA25 : St 192 [(1, (.pointer (some ⟨g3, 0, none⟩))), (2, (.pointer (some ⟨g12, 0, none⟩))), (3, (.bool false))] a23 := hA24.cut _ (fm_cons (hA24.get 1 _ rfl) (fm_cons (hA24.get 2 _ rfl) (fm_cons (hA24.get 3 _ rfl) fm_nil)))
 refine t_norm ?_
 refine wp_seq ?_
 refine wp_region_lit ?_
 refine q_step hA25 rfl (d_loadRow (cs := (insC i)) (wn rfl) (hA25.ev rfl) row23 m19 ?_)
 intro a26 hA27
 refine q_step hA27 rfl (d_alloc (wn rfl) zero23 ?_)
 intro g28 w29 eg30 hG31 (m32 : Blk w29 g28 #[.int .i64 0, .int .i64 0, .int .i64 0, .int .i64 0, .int .i64 0, .int .i64 0, .int .i64 0, .int .i64 0, .int .i64 0, .int .i64 0, .bool false, .bool false, .bool false, .int .i64 0, .int .i64 0, .int .i64 0, .bool false] 23)
 have ge33 : w.heap.size ≤ g28 := eg30 ▸ b20.size
 have n34 : g3 ≠ g28 := fun h => Nat.lt_irrefl _ ((h.trans eg30) ▸ m19.lt)
 have n35 : g12 ≠ g28 := fun h => Nat.lt_irrefl _ ((h.trans eg30) ▸ m16.lt)
 have m36 := m19.grow hG31
 have m37 := m16.grow hG31
 have b38 := below_grow b20 hG31 b20.size
 intro a39 hA40
 refine q_step hA40 rfl (d_storeRow (wn rfl) (hA40.ev rfl) (hA40.ev rfl) row23 m32 rfl rfl ?_)
 intro w41 hU42 (m43 : Blk w41 g28 (insC i) 23)
 have m44 := m36.upd hU42 n34
 have m45 := m37.upd hU42 n35
 have b46 := hU42.below b38 ge33
 intro a47 hA48
 refine q_end ?_
 have hA49 : St 192 [(1, (.pointer (some ⟨g3, 0, none⟩))), (2, (.pointer (some ⟨g12, 0, none⟩))), (3, (.bool false)), (4, (.pointer (some ⟨g28, 0, none⟩)))] a47 := hA48.cut _ (fm_cons (hA48.get 1 _ rfl) (fm_cons (hA48.get 2 _ rfl) (fm_cons (hA48.get 3 _ rfl) (fm_cons (hA48.get 4 _ rfl) fm_nil))))
 refine t_norm ?_
 refine wp_seq ?_
 refine wp_region_lit ?_
 refine q_step hA49 rfl (d_assign (wn rfl) (hA49.ev rfl) ?_)
 intro a50 hA51
 refine q_end ?_
 have hA52 : St 192 [(1, (.pointer (some ⟨g3, 0, none⟩))), (2, (.pointer (some ⟨g12, 0, none⟩))), (3, (.bool false)), (4, (.pointer (some ⟨g28, 0, none⟩))), (5, (.bool true))] a50 := hA51.cut _ (fm_cons (hA51.get 1 _ rfl) (fm_cons (hA51.get 2 _ rfl) (fm_cons (hA51.get 3 _ rfl) (fm_cons (hA51.get 4 _ rfl) (fm_cons (hA51.get 5 _ rfl) fm_nil)))))
 refine t_norm ?_
 refine wp_seq ?_
 refine wp_region_lit ?_
 refine q_step hA52 rfl (d_fieldAddr (wn rfl) (hA52.ev rfl) fo23_0 ?_)
 intro a53 hA54
 refine q_step hA54 rfl (d_store (wn rfl) (hA54.ev rfl) (hA54.ev rfl) one3 rfl m43 (Nat.le_of_ble_eq_true rfl) ?_)
 intro w55 hU56 (m57 : Blk w55 g28 #[.int .i64 0, .int .i64 i.dst, .int .i64 i.a, .int .i64 i.b, .int .i64 i.imm, .int .i64 i.loc, .int .i64 i.off, .int .i64 i.index, .int .i64 i.size, .int .i64 i.fn, .bool i.acq, .bool i.weak, .bool i.rel, .int .i64 i.pred, .int .i64 i.succ, .int .i64 i.to, .bool i.zero] 23)
 have m58 := m44.upd hU56 n34
 have m59 := m45.upd hU56 n35
 have b60 := hU56.below b46 ge33
 intro a61 hA62
 refine q_end ?_
 have hA63 : St 192 [(1, (.pointer (some ⟨g3, 0, none⟩))), (2, (.pointer (some ⟨g12, 0, none⟩))), (3, (.bool false)), (4, (.pointer (some ⟨g28, 0, none⟩))), (5, (.bool true))] a61 := hA62.cut _ (fm_cons (hA62.get 1 _ rfl) (fm_cons (hA62.get 2 _ rfl) (fm_cons (hA62.get 3 _ rfl) (fm_cons (hA62.get 4 _ rfl) (fm_cons (hA62.get 5 _ rfl) fm_nil)))))
 refine t_norm ?_
 refine wp_seq ?_
 refine wp_seq ?_
 refine wp_region_lit ?_
 refine q_step hA63 rfl (d_fieldAddr (wn rfl) (hA63.ev rfl) fo23_0 ?_)
 intro a64 hA65
 refine q_step hA65 rfl (d_load (v := (.int .i64 i.op)) (wn rfl) (hA65.ev rfl) one3 (m58.cell rfl) ?_)
 intro a66 hA67
 refine q_end ?_
 have hA68 : St 192 [(1, (.pointer (some ⟨g3, 0, none⟩))), (2, (.pointer (some ⟨g12, 0, none⟩))), (3, (.bool false)), (4, (.pointer (some ⟨g28, 0, none⟩))), (5, (.bool true)), (9, (.int .i64 i.op))] a66 := hA67.cut _ (fm_cons (hA67.get 1 _ rfl) (fm_cons (hA67.get 2 _ rfl) (fm_cons (hA67.get 3 _ rfl) (fm_cons (hA67.get 4 _ rfl) (fm_cons (hA67.get 5 _ rfl) (fm_cons (hA67.get 9 _ rfl) fm_nil))))))
 refine t_norm ?_
 refine wp_block ?_
 refine wp_seq ?_
 refine wp_region_lit ?_
 rcases Bool.eq_false_or_eq_true (i.op == 1) with hb69 | hb69
 ·skip
  have hq70 := eq_of_beq hb69
  refine q_step hA68 rfl (d_bin (wn rfl) (hA68.ev rfl) (hA68.ev rfl) (b_eq _ _ i.op 1 true _ hb69) ?_)
  intro a71 hA72
  refine q_step hA72 rfl (d_assign (wn rfl) (hA72.ev rfl) ?_)
  intro a73 hA74
  refine q_end ?_
  have hA75 : St 192 [(1, (.pointer (some ⟨g3, 0, none⟩))), (2, (.pointer (some ⟨g12, 0, none⟩))), (3, (.bool false)), (4, (.pointer (some ⟨g28, 0, none⟩))), (5, (.bool true)), (9, (.int .i64 i.op)), (10, (.bool true))] a73 := hA74.cut _ (fm_cons (hA74.get 1 _ rfl) (fm_cons (hA74.get 2 _ rfl) (fm_cons (hA74.get 3 _ rfl) (fm_cons (hA74.get 4 _ rfl) (fm_cons (hA74.get 5 _ rfl) (fm_cons (hA74.get 9 _ rfl) (fm_cons (hA74.get 10 _ rfl) fm_nil)))))))
  refine t_norm ?_
  refine c_true hA75 rfl ?_
  refine wp_seq ?_
  refine join_wp (K := fun a76 w77 => St 192 [(1, (.pointer (some ⟨g3, 0, none⟩))), (2, (.pointer (some ⟨g12, 0, none⟩))), (3, (.bool false)), (4, (.pointer (some ⟨g28, 0, none⟩))), (5, (.bool (regB i.dst)))] a76 ∧ Below w.heap.size w w77 ∧ Blk w77 g3 (insC i) 23 ∧ Blk w77 g12 #[.int .i64 0, .int .i64 0, .int .i64 0, .int .i64 0, .int .i64 0, .int .i64 0, .int .i64 0, .int .i64 0, .int .i64 0, .int .i64 0, .bool false, .bool false, .bool false, .int .i64 0, .int .i64 0, .int .i64 0, .bool false] 23 ∧ Blk w77 g28 #[.int .i64 0, .int .i64 i.dst, .int .i64 i.a, .int .i64 i.b, .int .i64 i.imm, .int .i64 i.loc, .int .i64 i.off, .int .i64 i.index, .int .i64 i.size, .int .i64 i.fn, .bool i.acq, .bool i.weak, .bool i.rel, .int .i64 i.pred, .int .i64 i.succ, .int .i64 i.to, .bool i.zero] 23) ?_ ?_
  ·skip
   refine wp_region_lit ?_
   refine q_step hA75 rfl (d_fieldAddr (wn rfl) (hA75.ev rfl) fo23_1 ?_)
   intro a78 hA79
   refine q_step hA79 rfl (d_load (v := (.int .i64 i.dst)) (wn rfl) (hA79.ev rfl) one3 (m58.cell rfl) ?_)
   intro a80 hA81
   refine q_step hA81 rfl (d_call (wn rfl) ent44 (map1 (hA81.ev rfl)) (rreg_any i.dst w55) ?_)
   rintro e85 w82 ⟨he84, hG83⟩
   have m86 := m58.grow hG83
   have m87 := m59.grow hG83
   have m88 := m57.grow hG83
   have b89 := below_grow b60 hG83 b60.size
   rcases Bool.eq_false_or_eq_true (regB i.dst) with hb90 | hb90
   ·skip
    refine ⟨.bool true, he84.trans (ret_bool hb90), ?_⟩
    intro a92 hA93
    refine q_step hA93 rfl (d_assign (wn rfl) (hA93.ev rfl) ?_)
    intro a94 hA95
    refine q_end ?_
    exact ⟨hA95.cut _ (fm_cons (hA95.get 1 _ rfl) (fm_cons (hA95.get 2 _ rfl) (fm_cons (hA95.get 3 _ rfl) (fm_cons (hA95.get 4 _ rfl) (fm_cons ((hA95.get 5 _ rfl).trans (congrArg Value.bool (by simp [hb90]))) fm_nil))))), b89, m86, m87, m88⟩
   ·skip
    refine ⟨.bool false, he84.trans (ret_bool hb90), ?_⟩
    intro a97 hA98
    refine q_step hA98 rfl (d_assign (wn rfl) (hA98.ev rfl) ?_)
    intro a99 hA100
    refine q_end ?_
    exact ⟨hA100.cut _ (fm_cons (hA100.get 1 _ rfl) (fm_cons (hA100.get 2 _ rfl) (fm_cons (hA100.get 3 _ rfl) (fm_cons (hA100.get 4 _ rfl) (fm_cons ((hA100.get 5 _ rfl).trans (congrArg Value.bool (by simp [hb90]))) fm_nil))))), b89, m86, m87, m88⟩
  rintro a76 w77 ⟨hA101, b102, m103, m104, m105⟩
  refine t_norm ?_
  refine wp_seq ?_
  refine wp_region_lit ?_
  refine q_step hA101 rfl (d_fieldAddr (wn rfl) (hA101.ev rfl) fo23_1 ?_)
  intro a106 hA107
  refine q_step hA107 rfl (d_store (wn rfl) (hA107.ev rfl) (hA107.ev rfl) one3 rfl m105 (Nat.le_of_ble_eq_true rfl) ?_)
  intro w108 hU109 (m110 : Blk w108 g28 #[.int .i64 0, .int .i64 (-1), .int .i64 i.a, .int .i64 i.b, .int .i64 i.imm, .int .i64 i.loc, .int .i64 i.off, .int .i64 i.index, .int .i64 i.size, .int .i64 i.fn, .bool i.acq, .bool i.weak, .bool i.rel, .int .i64 i.pred, .int .i64 i.succ, .int .i64 i.to, .bool i.zero] 23)
  have m111 := m103.upd hU109 n34
  have m112 := m104.upd hU109 n35
  have b113 := hU109.below b102 ge33
  intro a114 hA115
  refine q_end ?_
  have hA116 : St 192 [(1, (.pointer (some ⟨g3, 0, none⟩))), (2, (.pointer (some ⟨g12, 0, none⟩))), (3, (.bool false)), (4, (.pointer (some ⟨g28, 0, none⟩))), (5, (.bool (regB i.dst)))] a114 := hA115.cut _ (fm_cons (hA115.get 1 _ rfl) (fm_cons (hA115.get 2 _ rfl) (fm_cons (hA115.get 3 _ rfl) (fm_cons (hA115.get 4 _ rfl) (fm_cons (hA115.get 5 _ rfl) fm_nil)))))
  refine t_norm ?_
  refine wp_region_lit ?_
  refine q_step hA116 rfl (d_fieldAddr (wn rfl) (hA116.ev rfl) fo23_4 ?_)
  intro a117 hA118
  refine q_step hA118 rfl (d_store (wn rfl) (hA118.ev rfl) (hA118.ev rfl) one3 rfl m110 (Nat.le_of_ble_eq_true rfl) ?_)
  intro w119 hU120 (m121 : Blk w119 g28 #[.int .i64 0, .int .i64 (-1), .int .i64 i.a, .int .i64 i.b, .int .i64 0, .int .i64 i.loc, .int .i64 i.off, .int .i64 i.index, .int .i64 i.size, .int .i64 i.fn, .bool i.acq, .bool i.weak, .bool i.rel, .int .i64 i.pred, .int .i64 i.succ, .int .i64 i.to, .bool i.zero] 23)
  have m122 := m111.upd hU120 n34
  have m123 := m112.upd hU120 n35
  have b124 := hU120.below b113 ge33
  intro a125 hA126
  refine q_end ?_
  have hA127 : St 192 [(1, (.pointer (some ⟨g3, 0, none⟩))), (2, (.pointer (some ⟨g12, 0, none⟩))), (3, (.bool false)), (4, (.pointer (some ⟨g28, 0, none⟩))), (5, (.bool (regB i.dst)))] a125 := hA126.cut _ (fm_cons (hA126.get 1 _ rfl) (fm_cons (hA126.get 2 _ rfl) (fm_cons (hA126.get 3 _ rfl) (fm_cons (hA126.get 4 _ rfl) (fm_cons (hA126.get 5 _ rfl) fm_nil)))))
  refine i_norm ?_
  refine t_norm ?_
  refine wp_seq ?_
  refine wp_seq ?_
  refine wp_region_lit ?_
  refine q_step hA127 rfl (d_fieldAddr (wn rfl) (hA127.ev rfl) fo23_0 ?_)
  intro a128 hA129
  refine q_step hA129 rfl (d_load (v := (.int .i64 i.op)) (wn rfl) (hA129.ev rfl) one3 (m122.cell rfl) ?_)
  intro a130 hA131
  refine q_step hA131 rfl (d_bin (wn rfl) (hA131.ev rfl) (hA131.ev rfl) (b_eq _ _ i.op 4 false _ (by rw [eq_of_beq hb69]; rfl)) ?_)
  intro a132 hA133
  refine q_step hA133 rfl (d_move (wn rfl) (hA133.ev rfl) ?_)
  intro a134 hA135
  refine q_step hA135 rfl (d_fieldAddr (wy rfl rfl (hA135.get 176 _ rfl)) (hA135.ev rfl) fo23_0 ?_)
  intro a136 hA137
  refine q_step hA137 rfl (d_load (v := (.int .i64 i.op)) (wy rfl rfl (hA137.get 176 _ rfl)) (hA137.ev rfl) one3 (m122.cell rfl) ?_)
  intro a138 hA139
  refine q_step hA139 rfl (d_bin (wy rfl rfl (hA139.get 176 _ rfl)) (hA139.ev rfl) (hA139.ev rfl) (b_eq _ _ i.op 5 false _ (by rw [eq_of_beq hb69]; rfl)) ?_)
  intro a140 hA141
  refine q_step hA141 rfl (d_pickF (wn rfl) (hA141.ev rfl) (hA141.ev rfl) ?_)
  intro a142 hA143
  refine q_step hA143 rfl (d_move (wn rfl) (hA143.ev rfl) ?_)
  intro a144 hA145
  refine q_step hA145 rfl (d_fieldAddr (wy rfl rfl (hA145.get 181 _ rfl)) (hA145.ev rfl) fo23_0 ?_)
  intro a146 hA147
  refine q_step hA147 rfl (d_load (v := (.int .i64 i.op)) (wy rfl rfl (hA147.get 181 _ rfl)) (hA147.ev rfl) one3 (m122.cell rfl) ?_)
  intro a148 hA149
  refine q_step hA149 rfl (d_bin (wy rfl rfl (hA149.get 181 _ rfl)) (hA149.ev rfl) (hA149.ev rfl) (b_eq _ _ i.op 6 false _ (by rw [eq_of_beq hb69]; rfl)) ?_)
  intro a150 hA151
  refine q_step hA151 rfl (d_pickF (wn rfl) (hA151.ev rfl) (hA151.ev rfl) ?_)
  intro a152 hA153
  refine q_end ?_
  have hA154 : St 192 [(2, (.pointer (some ⟨g12, 0, none⟩))), (3, (.bool false)), (4, (.pointer (some ⟨g28, 0, none⟩))), (5, (.bool (regB i.dst))), (185, (.bool false))] a152 := hA153.cut _ (fm_cons (hA153.get 2 _ rfl) (fm_cons (hA153.get 3 _ rfl) (fm_cons (hA153.get 4 _ rfl) (fm_cons (hA153.get 5 _ rfl) (fm_cons (hA153.get 185 _ rfl) fm_nil)))))
  refine t_norm ?_
  refine c_false hA154 rfl ?_
  refine wp_skip ?_
  refine t_norm ?_
  refine wp_seq ?_
  refine wp_region_lit ?_
  refine q_step hA154 rfl (d_loadRow (cs := #[.int .i64 0, .int .i64 (-1), .int .i64 i.a, .int .i64 i.b, .int .i64 0, .int .i64 i.loc, .int .i64 i.off, .int .i64 i.index, .int .i64 i.size, .int .i64 i.fn, .bool i.acq, .bool i.weak, .bool i.rel, .int .i64 i.pred, .int .i64 i.succ, .int .i64 i.to, .bool i.zero]) (wn rfl) (hA154.ev rfl) row23 m121 ?_)
  intro a155 hA156
  refine q_step hA156 rfl (d_move (wn rfl) (hA156.ev rfl) ?_)
  intro a157 hA158
  refine q_step hA158 rfl (d_storeRow (wn rfl) (hA158.ev rfl) (hA158.ev rfl) row23 m123 rfl rfl ?_)
  intro w159 hU160 (m161 : Blk w159 g12 #[.int .i64 0, .int .i64 (-1), .int .i64 i.a, .int .i64 i.b, .int .i64 0, .int .i64 i.loc, .int .i64 i.off, .int .i64 i.index, .int .i64 i.size, .int .i64 i.fn, .bool i.acq, .bool i.weak, .bool i.rel, .int .i64 i.pred, .int .i64 i.succ, .int .i64 i.to, .bool i.zero] 23)
  have m162 := m122.upd hU160 n18
  have m163 := m121.upd hU160 (Ne.symm n35)
  have b164 := hU160.below b124 ge17
  intro a165 hA166
  refine q_step hA166 rfl (d_assign (wn rfl) (hA166.ev rfl) ?_)
  intro a167 hA168
  refine q_end ?_
  have hA169 : St 192 [(2, (.pointer (some ⟨g12, 0, none⟩))), (3, (.bool (regB i.dst)))] a167 := hA168.cut _ (fm_cons (hA168.get 2 _ rfl) (fm_cons (hA168.get 3 _ rfl) fm_nil))
  refine t_norm ?_
  refine wp_ret ?_
  refine retCT (g := g12) (cs := #[.int .i64 0, .int .i64 (-1), .int .i64 i.a, .int .i64 i.b, .int .i64 0, .int .i64 i.loc, .int .i64 i.off, .int .i64 i.index, .int .i64 i.size, .int .i64 i.fn, .bool i.acq, .bool i.weak, .bool i.rel, .int .i64 i.pred, .int .i64 i.succ, .int .i64 i.to, .bool i.zero]) (v := (.bool (regB i.dst))) rfl hA169 rfl rfl m161 row23 ?_
  exact ⟨ret_two (by simp [insC, bareF, opB, rdB, wrB, eq_of_beq hb69]) (by first | (simp [fineB, eq_of_beq hb69, Bool.or_assoc, Bool.and_assoc]; done) | (rw [Bool.eq_iff_iff]; simp [fineB, eq_of_beq hb69]; done) | (rw [Bool.eq_iff_iff]; simp [fineB, eq_of_beq hb69]; omega) | grind), b164⟩
 ·skip
  have hq170 := ne_of_beq hb69
  refine q_step hA68 rfl (d_bin (wn rfl) (hA68.ev rfl) (hA68.ev rfl) (b_eq _ _ i.op 1 false _ hb69) ?_)
  intro a171 hA172
  refine q_step hA172 rfl (d_assign (wn rfl) (hA172.ev rfl) ?_)
  intro a173 hA174
  refine q_end ?_
  have hA175 : St 192 [(1, (.pointer (some ⟨g3, 0, none⟩))), (2, (.pointer (some ⟨g12, 0, none⟩))), (3, (.bool false)), (4, (.pointer (some ⟨g28, 0, none⟩))), (5, (.bool true)), (9, (.int .i64 i.op)), (10, (.bool false))] a173 := hA174.cut _ (fm_cons (hA174.get 1 _ rfl) (fm_cons (hA174.get 2 _ rfl) (fm_cons (hA174.get 3 _ rfl) (fm_cons (hA174.get 4 _ rfl) (fm_cons (hA174.get 5 _ rfl) (fm_cons (hA174.get 9 _ rfl) (fm_cons (hA174.get 10 _ rfl) fm_nil)))))))
  refine t_norm ?_
  refine c_false hA175 rfl ?_
  refine wp_seq ?_
  refine wp_region_lit ?_
  rcases Bool.eq_false_or_eq_true (i.op == 2) with hb176 | hb176
  ·skip
   have hq177 := eq_of_beq hb176
   refine q_step hA175 rfl (d_bin (wn rfl) (hA175.ev rfl) (hA175.ev rfl) (b_eq _ _ i.op 2 true _ hb176) ?_)
   intro a178 hA179
   refine q_step hA179 rfl (d_assign (wn rfl) (hA179.ev rfl) ?_)
   intro a180 hA181
   refine q_end ?_
   have hA182 : St 192 [(1, (.pointer (some ⟨g3, 0, none⟩))), (2, (.pointer (some ⟨g12, 0, none⟩))), (3, (.bool false)), (4, (.pointer (some ⟨g28, 0, none⟩))), (5, (.bool true)), (9, (.int .i64 i.op)), (17, (.bool true))] a180 := hA181.cut _ (fm_cons (hA181.get 1 _ rfl) (fm_cons (hA181.get 2 _ rfl) (fm_cons (hA181.get 3 _ rfl) (fm_cons (hA181.get 4 _ rfl) (fm_cons (hA181.get 5 _ rfl) (fm_cons (hA181.get 9 _ rfl) (fm_cons (hA181.get 17 _ rfl) fm_nil)))))))
   refine t_norm ?_
   refine c_true hA182 rfl ?_
   refine wp_seq ?_
   refine join_wp (K := fun a183 w184 => St 192 [(1, (.pointer (some ⟨g3, 0, none⟩))), (2, (.pointer (some ⟨g12, 0, none⟩))), (3, (.bool false)), (4, (.pointer (some ⟨g28, 0, none⟩))), (5, (.bool ((regB i.dst) && (regB i.a))))] a183 ∧ Below w.heap.size w w184 ∧ Blk w184 g3 (insC i) 23 ∧ Blk w184 g12 #[.int .i64 0, .int .i64 0, .int .i64 0, .int .i64 0, .int .i64 0, .int .i64 0, .int .i64 0, .int .i64 0, .int .i64 0, .int .i64 0, .bool false, .bool false, .bool false, .int .i64 0, .int .i64 0, .int .i64 0, .bool false] 23 ∧ Blk w184 g28 #[.int .i64 0, .int .i64 i.dst, .int .i64 i.a, .int .i64 i.b, .int .i64 i.imm, .int .i64 i.loc, .int .i64 i.off, .int .i64 i.index, .int .i64 i.size, .int .i64 i.fn, .bool i.acq, .bool i.weak, .bool i.rel, .int .i64 i.pred, .int .i64 i.succ, .int .i64 i.to, .bool i.zero] 23) ?_ ?_
   ·skip
    refine wp_region_lit ?_
    refine q_step hA182 rfl (d_fieldAddr (wn rfl) (hA182.ev rfl) fo23_1 ?_)
    intro a185 hA186
    refine q_step hA186 rfl (d_load (v := (.int .i64 i.dst)) (wn rfl) (hA186.ev rfl) one3 (m58.cell rfl) ?_)
    intro a187 hA188
    refine q_step hA188 rfl (d_call (wn rfl) ent44 (map1 (hA188.ev rfl)) (rreg_any i.dst w55) ?_)
    rintro e192 w189 ⟨he191, hG190⟩
    have m193 := m58.grow hG190
    have m194 := m59.grow hG190
    have m195 := m57.grow hG190
    have b196 := below_grow b60 hG190 b60.size
    rcases Bool.eq_false_or_eq_true (regB i.dst) with hb197 | hb197
    ·skip
     refine ⟨.bool true, he191.trans (ret_bool hb197), ?_⟩
     intro a199 hA200
     refine q_step hA200 rfl (d_move (wn rfl) (hA200.ev rfl) ?_)
     intro a201 hA202
     refine q_step hA202 rfl (d_fieldAddr (wy rfl rfl (hA202.get 22 _ rfl)) (hA202.ev rfl) fo23_2 ?_)
     intro a203 hA204
     refine q_step hA204 rfl (d_load (v := (.int .i64 i.a)) (wy rfl rfl (hA204.get 22 _ rfl)) (hA204.ev rfl) one3 (m193.cell rfl) ?_)
     intro a205 hA206
     refine q_step hA206 rfl (d_call (wy rfl rfl (hA206.get 22 _ rfl)) ent44 (map1 (hA206.ev rfl)) (rreg_any i.a w189) ?_)
     rintro e210 w207 ⟨he209, hG208⟩
     have m211 := m193.grow hG208
     have m212 := m194.grow hG208
     have m213 := m195.grow hG208
     have b214 := below_grow b196 hG208 b196.size
     rcases Bool.eq_false_or_eq_true (regB i.a) with hb215 | hb215
     ·skip
      refine ⟨.bool true, he209.trans (ret_bool hb215), ?_⟩
      intro a217 hA218
      refine q_step hA218 rfl (d_pickT (wn rfl) (hA218.ev rfl) (hA218.ev rfl) ?_)
      intro a219 hA220
      refine q_step hA220 rfl (d_assign (wn rfl) (hA220.ev rfl) ?_)
      intro a221 hA222
      refine q_end ?_
      exact ⟨hA222.cut _ (fm_cons (hA222.get 1 _ rfl) (fm_cons (hA222.get 2 _ rfl) (fm_cons (hA222.get 3 _ rfl) (fm_cons (hA222.get 4 _ rfl) (fm_cons ((hA222.get 5 _ rfl).trans (congrArg Value.bool (by simp [hb197, hb215]))) fm_nil))))), b214, m211, m212, m213⟩
     ·skip
      refine ⟨.bool false, he209.trans (ret_bool hb215), ?_⟩
      intro a224 hA225
      refine q_step hA225 rfl (d_pickT (wn rfl) (hA225.ev rfl) (hA225.ev rfl) ?_)
      intro a226 hA227
      refine q_step hA227 rfl (d_assign (wn rfl) (hA227.ev rfl) ?_)
      intro a228 hA229
      refine q_end ?_
      exact ⟨hA229.cut _ (fm_cons (hA229.get 1 _ rfl) (fm_cons (hA229.get 2 _ rfl) (fm_cons (hA229.get 3 _ rfl) (fm_cons (hA229.get 4 _ rfl) (fm_cons ((hA229.get 5 _ rfl).trans (congrArg Value.bool (by simp [hb197, hb215]))) fm_nil))))), b214, m211, m212, m213⟩
    ·skip
     refine ⟨.bool false, he191.trans (ret_bool hb197), ?_⟩
     intro a231 hA232
     refine q_step hA232 rfl (d_move (wn rfl) (hA232.ev rfl) ?_)
     intro a233 hA234
     refine q_step hA234 rfl (does_not (wno rfl rfl (.inl (hA234.get 22 _ rfl))) ?_)
     intro a235 hA236
     refine q_step hA236 rfl (does_not (wno rfl rfl (.inl (hA236.get 22 _ rfl))) ?_)
     intro a237 hA238
     refine q_step hA238 rfl (does_not (wno rfl rfl (.inl (hA238.get 22 _ rfl))) ?_)
     intro a239 hA240
     refine q_step hA240 rfl (d_pickF (wn rfl) (hA240.ev rfl) (hA240.ev rfl) ?_)
     intro a241 hA242
     refine q_step hA242 rfl (d_assign (wn rfl) (hA242.ev rfl) ?_)
     intro a243 hA244
     refine q_end ?_
     exact ⟨hA244.cut _ (fm_cons (hA244.get 1 _ rfl) (fm_cons (hA244.get 2 _ rfl) (fm_cons (hA244.get 3 _ rfl) (fm_cons (hA244.get 4 _ rfl) (fm_cons ((hA244.get 5 _ rfl).trans (congrArg Value.bool (by simp [hb197]))) fm_nil))))), b196, m193, m194, m195⟩
   rintro a183 w184 ⟨hA245, b246, m247, m248, m249⟩
   refine t_norm ?_
   refine wp_seq ?_
   refine wp_region_lit ?_
   refine q_step hA245 rfl (d_fieldAddr (wn rfl) (hA245.ev rfl) fo23_1 ?_)
   intro a250 hA251
   refine q_step hA251 rfl (d_store (wn rfl) (hA251.ev rfl) (hA251.ev rfl) one3 rfl m249 (Nat.le_of_ble_eq_true rfl) ?_)
   intro w252 hU253 (m254 : Blk w252 g28 #[.int .i64 0, .int .i64 (-1), .int .i64 i.a, .int .i64 i.b, .int .i64 i.imm, .int .i64 i.loc, .int .i64 i.off, .int .i64 i.index, .int .i64 i.size, .int .i64 i.fn, .bool i.acq, .bool i.weak, .bool i.rel, .int .i64 i.pred, .int .i64 i.succ, .int .i64 i.to, .bool i.zero] 23)
   have m255 := m247.upd hU253 n34
   have m256 := m248.upd hU253 n35
   have b257 := hU253.below b246 ge33
   intro a258 hA259
   refine q_end ?_
   have hA260 : St 192 [(1, (.pointer (some ⟨g3, 0, none⟩))), (2, (.pointer (some ⟨g12, 0, none⟩))), (3, (.bool false)), (4, (.pointer (some ⟨g28, 0, none⟩))), (5, (.bool ((regB i.dst) && (regB i.a))))] a258 := hA259.cut _ (fm_cons (hA259.get 1 _ rfl) (fm_cons (hA259.get 2 _ rfl) (fm_cons (hA259.get 3 _ rfl) (fm_cons (hA259.get 4 _ rfl) (fm_cons (hA259.get 5 _ rfl) fm_nil)))))
   refine t_norm ?_
   refine wp_region_lit ?_
   refine q_step hA260 rfl (d_fieldAddr (wn rfl) (hA260.ev rfl) fo23_2 ?_)
   intro a261 hA262
   refine q_step hA262 rfl (d_store (wn rfl) (hA262.ev rfl) (hA262.ev rfl) one3 rfl m254 (Nat.le_of_ble_eq_true rfl) ?_)
   intro w263 hU264 (m265 : Blk w263 g28 #[.int .i64 0, .int .i64 (-1), .int .i64 (-1), .int .i64 i.b, .int .i64 i.imm, .int .i64 i.loc, .int .i64 i.off, .int .i64 i.index, .int .i64 i.size, .int .i64 i.fn, .bool i.acq, .bool i.weak, .bool i.rel, .int .i64 i.pred, .int .i64 i.succ, .int .i64 i.to, .bool i.zero] 23)
   have m266 := m255.upd hU264 n34
   have m267 := m256.upd hU264 n35
   have b268 := hU264.below b257 ge33
   intro a269 hA270
   refine q_end ?_
   have hA271 : St 192 [(1, (.pointer (some ⟨g3, 0, none⟩))), (2, (.pointer (some ⟨g12, 0, none⟩))), (3, (.bool false)), (4, (.pointer (some ⟨g28, 0, none⟩))), (5, (.bool ((regB i.dst) && (regB i.a))))] a269 := hA270.cut _ (fm_cons (hA270.get 1 _ rfl) (fm_cons (hA270.get 2 _ rfl) (fm_cons (hA270.get 3 _ rfl) (fm_cons (hA270.get 4 _ rfl) (fm_cons (hA270.get 5 _ rfl) fm_nil)))))
   refine i_norm ?_
   refine t_norm ?_
   refine wp_seq ?_
   refine wp_seq ?_
   refine wp_region_lit ?_
   refine q_step hA271 rfl (d_fieldAddr (wn rfl) (hA271.ev rfl) fo23_0 ?_)
   intro a272 hA273
   refine q_step hA273 rfl (d_load (v := (.int .i64 i.op)) (wn rfl) (hA273.ev rfl) one3 (m266.cell rfl) ?_)
   intro a274 hA275
   refine q_step hA275 rfl (d_bin (wn rfl) (hA275.ev rfl) (hA275.ev rfl) (b_eq _ _ i.op 4 false _ (by rw [eq_of_beq hb176]; rfl)) ?_)
   intro a276 hA277
   refine q_step hA277 rfl (d_move (wn rfl) (hA277.ev rfl) ?_)
   intro a278 hA279
   refine q_step hA279 rfl (d_fieldAddr (wy rfl rfl (hA279.get 176 _ rfl)) (hA279.ev rfl) fo23_0 ?_)
   intro a280 hA281
   refine q_step hA281 rfl (d_load (v := (.int .i64 i.op)) (wy rfl rfl (hA281.get 176 _ rfl)) (hA281.ev rfl) one3 (m266.cell rfl) ?_)
   intro a282 hA283
   refine q_step hA283 rfl (d_bin (wy rfl rfl (hA283.get 176 _ rfl)) (hA283.ev rfl) (hA283.ev rfl) (b_eq _ _ i.op 5 false _ (by rw [eq_of_beq hb176]; rfl)) ?_)
   intro a284 hA285
   refine q_step hA285 rfl (d_pickF (wn rfl) (hA285.ev rfl) (hA285.ev rfl) ?_)
   intro a286 hA287
   refine q_step hA287 rfl (d_move (wn rfl) (hA287.ev rfl) ?_)
   intro a288 hA289
   refine q_step hA289 rfl (d_fieldAddr (wy rfl rfl (hA289.get 181 _ rfl)) (hA289.ev rfl) fo23_0 ?_)
   intro a290 hA291
   refine q_step hA291 rfl (d_load (v := (.int .i64 i.op)) (wy rfl rfl (hA291.get 181 _ rfl)) (hA291.ev rfl) one3 (m266.cell rfl) ?_)
   intro a292 hA293
   refine q_step hA293 rfl (d_bin (wy rfl rfl (hA293.get 181 _ rfl)) (hA293.ev rfl) (hA293.ev rfl) (b_eq _ _ i.op 6 false _ (by rw [eq_of_beq hb176]; rfl)) ?_)
   intro a294 hA295
   refine q_step hA295 rfl (d_pickF (wn rfl) (hA295.ev rfl) (hA295.ev rfl) ?_)
   intro a296 hA297
   refine q_end ?_
   have hA298 : St 192 [(2, (.pointer (some ⟨g12, 0, none⟩))), (3, (.bool false)), (4, (.pointer (some ⟨g28, 0, none⟩))), (5, (.bool ((regB i.dst) && (regB i.a)))), (185, (.bool false))] a296 := hA297.cut _ (fm_cons (hA297.get 2 _ rfl) (fm_cons (hA297.get 3 _ rfl) (fm_cons (hA297.get 4 _ rfl) (fm_cons (hA297.get 5 _ rfl) (fm_cons (hA297.get 185 _ rfl) fm_nil)))))
   refine t_norm ?_
   refine c_false hA298 rfl ?_
   refine wp_skip ?_
   refine t_norm ?_
   refine wp_seq ?_
   refine wp_region_lit ?_
   refine q_step hA298 rfl (d_loadRow (cs := #[.int .i64 0, .int .i64 (-1), .int .i64 (-1), .int .i64 i.b, .int .i64 i.imm, .int .i64 i.loc, .int .i64 i.off, .int .i64 i.index, .int .i64 i.size, .int .i64 i.fn, .bool i.acq, .bool i.weak, .bool i.rel, .int .i64 i.pred, .int .i64 i.succ, .int .i64 i.to, .bool i.zero]) (wn rfl) (hA298.ev rfl) row23 m265 ?_)
   intro a299 hA300
   refine q_step hA300 rfl (d_move (wn rfl) (hA300.ev rfl) ?_)
   intro a301 hA302
   refine q_step hA302 rfl (d_storeRow (wn rfl) (hA302.ev rfl) (hA302.ev rfl) row23 m267 rfl rfl ?_)
   intro w303 hU304 (m305 : Blk w303 g12 #[.int .i64 0, .int .i64 (-1), .int .i64 (-1), .int .i64 i.b, .int .i64 i.imm, .int .i64 i.loc, .int .i64 i.off, .int .i64 i.index, .int .i64 i.size, .int .i64 i.fn, .bool i.acq, .bool i.weak, .bool i.rel, .int .i64 i.pred, .int .i64 i.succ, .int .i64 i.to, .bool i.zero] 23)
   have m306 := m266.upd hU304 n18
   have m307 := m265.upd hU304 (Ne.symm n35)
   have b308 := hU304.below b268 ge17
   intro a309 hA310
   refine q_step hA310 rfl (d_assign (wn rfl) (hA310.ev rfl) ?_)
   intro a311 hA312
   refine q_end ?_
   have hA313 : St 192 [(2, (.pointer (some ⟨g12, 0, none⟩))), (3, (.bool ((regB i.dst) && (regB i.a))))] a311 := hA312.cut _ (fm_cons (hA312.get 2 _ rfl) (fm_cons (hA312.get 3 _ rfl) fm_nil))
   refine t_norm ?_
   refine wp_ret ?_
   refine retCT (g := g12) (cs := #[.int .i64 0, .int .i64 (-1), .int .i64 (-1), .int .i64 i.b, .int .i64 i.imm, .int .i64 i.loc, .int .i64 i.off, .int .i64 i.index, .int .i64 i.size, .int .i64 i.fn, .bool i.acq, .bool i.weak, .bool i.rel, .int .i64 i.pred, .int .i64 i.succ, .int .i64 i.to, .bool i.zero]) (v := (.bool ((regB i.dst) && (regB i.a)))) rfl hA313 rfl rfl m305 row23 ?_
   exact ⟨ret_two (by simp [insC, bareF, opB, rdB, wrB, hb69, eq_of_beq hb176]) (by first | (simp [fineB, hb69, eq_of_beq hb176, Bool.or_assoc, Bool.and_assoc]; done) | (rw [Bool.eq_iff_iff]; simp [fineB, hb69, eq_of_beq hb176]; done) | (rw [Bool.eq_iff_iff]; simp [fineB, hb69, eq_of_beq hb176]; omega) | grind), b308⟩
  ·skip
   have hq314 := ne_of_beq hb176
   refine q_step hA175 rfl (d_bin (wn rfl) (hA175.ev rfl) (hA175.ev rfl) (b_eq _ _ i.op 2 false _ hb176) ?_)
   intro a315 hA316
   refine q_step hA316 rfl (d_assign (wn rfl) (hA316.ev rfl) ?_)
   intro a317 hA318
   refine q_end ?_
   have hA319 : St 192 [(1, (.pointer (some ⟨g3, 0, none⟩))), (2, (.pointer (some ⟨g12, 0, none⟩))), (3, (.bool false)), (4, (.pointer (some ⟨g28, 0, none⟩))), (5, (.bool true)), (9, (.int .i64 i.op)), (17, (.bool false))] a317 := hA318.cut _ (fm_cons (hA318.get 1 _ rfl) (fm_cons (hA318.get 2 _ rfl) (fm_cons (hA318.get 3 _ rfl) (fm_cons (hA318.get 4 _ rfl) (fm_cons (hA318.get 5 _ rfl) (fm_cons (hA318.get 9 _ rfl) (fm_cons (hA318.get 17 _ rfl) fm_nil)))))))
   refine t_norm ?_
   refine c_false hA319 rfl ?_
   refine wp_seq ?_
   refine wp_region_lit ?_
   rcases Bool.eq_false_or_eq_true (i.op == 3) with hb320 | hb320
   ·skip
    have hq321 := eq_of_beq hb320
    refine q_step hA319 rfl (d_bin (wn rfl) (hA319.ev rfl) (hA319.ev rfl) (b_eq _ _ i.op 3 true _ hb320) ?_)
    intro a322 hA323
    refine q_step hA323 rfl (d_assign (wn rfl) (hA323.ev rfl) ?_)
    intro a324 hA325
    refine q_end ?_
    have hA326 : St 192 [(1, (.pointer (some ⟨g3, 0, none⟩))), (2, (.pointer (some ⟨g12, 0, none⟩))), (3, (.bool false)), (4, (.pointer (some ⟨g28, 0, none⟩))), (5, (.bool true)), (9, (.int .i64 i.op)), (29, (.bool true))] a324 := hA325.cut _ (fm_cons (hA325.get 1 _ rfl) (fm_cons (hA325.get 2 _ rfl) (fm_cons (hA325.get 3 _ rfl) (fm_cons (hA325.get 4 _ rfl) (fm_cons (hA325.get 5 _ rfl) (fm_cons (hA325.get 9 _ rfl) (fm_cons (hA325.get 29 _ rfl) fm_nil)))))))
    refine t_norm ?_
    refine c_true hA326 rfl ?_
    refine wp_seq ?_
    refine join_wp (K := fun a327 w328 => St 192 [(1, (.pointer (some ⟨g3, 0, none⟩))), (2, (.pointer (some ⟨g12, 0, none⟩))), (3, (.bool false)), (4, (.pointer (some ⟨g28, 0, none⟩))), (5, (.bool ((regB i.dst) && ((regB i.a) && ((decide (i.fn ≥ 1)) && ((decide (i.fn ≤ 5)) && ((i.b == (-1)) || ((regB i.b) && (i.imm == 0)))))))))] a327 ∧ Below w.heap.size w w328 ∧ Blk w328 g3 (insC i) 23 ∧ Blk w328 g12 #[.int .i64 0, .int .i64 0, .int .i64 0, .int .i64 0, .int .i64 0, .int .i64 0, .int .i64 0, .int .i64 0, .int .i64 0, .int .i64 0, .bool false, .bool false, .bool false, .int .i64 0, .int .i64 0, .int .i64 0, .bool false] 23 ∧ Blk w328 g28 #[.int .i64 0, .int .i64 i.dst, .int .i64 i.a, .int .i64 i.b, .int .i64 i.imm, .int .i64 i.loc, .int .i64 i.off, .int .i64 i.index, .int .i64 i.size, .int .i64 i.fn, .bool i.acq, .bool i.weak, .bool i.rel, .int .i64 i.pred, .int .i64 i.succ, .int .i64 i.to, .bool i.zero] 23) ?_ ?_
    ·skip
     refine wp_region_lit ?_
     refine q_step hA326 rfl (d_fieldAddr (wn rfl) (hA326.ev rfl) fo23_1 ?_)
     intro a329 hA330
     refine q_step hA330 rfl (d_load (v := (.int .i64 i.dst)) (wn rfl) (hA330.ev rfl) one3 (m58.cell rfl) ?_)
     intro a331 hA332
     refine q_step hA332 rfl (d_call (wn rfl) ent44 (map1 (hA332.ev rfl)) (rreg_any i.dst w55) ?_)
     rintro e336 w333 ⟨he335, hG334⟩
     have m337 := m58.grow hG334
     have m338 := m59.grow hG334
     have m339 := m57.grow hG334
     have b340 := below_grow b60 hG334 b60.size
     rcases Bool.eq_false_or_eq_true (regB i.dst) with hb341 | hb341
     ·skip
      refine ⟨.bool true, he335.trans (ret_bool hb341), ?_⟩
      intro a343 hA344
      refine q_step hA344 rfl (d_move (wn rfl) (hA344.ev rfl) ?_)
      intro a345 hA346
      refine q_step hA346 rfl (d_fieldAddr (wy rfl rfl (hA346.get 34 _ rfl)) (hA346.ev rfl) fo23_2 ?_)
      intro a347 hA348
      refine q_step hA348 rfl (d_load (v := (.int .i64 i.a)) (wy rfl rfl (hA348.get 34 _ rfl)) (hA348.ev rfl) one3 (m337.cell rfl) ?_)
      intro a349 hA350
      refine q_step hA350 rfl (d_call (wy rfl rfl (hA350.get 34 _ rfl)) ent44 (map1 (hA350.ev rfl)) (rreg_any i.a w333) ?_)
      rintro e354 w351 ⟨he353, hG352⟩
      have m355 := m337.grow hG352
      have m356 := m338.grow hG352
      have m357 := m339.grow hG352
      have b358 := below_grow b340 hG352 b340.size
      rcases Bool.eq_false_or_eq_true (regB i.a) with hb359 | hb359
      ·skip
       refine ⟨.bool true, he353.trans (ret_bool hb359), ?_⟩
       intro a361 hA362
       refine q_step hA362 rfl (d_pickT (wn rfl) (hA362.ev rfl) (hA362.ev rfl) ?_)
       intro a363 hA364
       refine q_step hA364 rfl (d_move (wn rfl) (hA364.ev rfl) ?_)
       intro a365 hA366
       refine q_step hA366 rfl (d_fieldAddr (wy rfl rfl (hA366.get 39 _ rfl)) (hA366.ev rfl) fo23_9 ?_)
       intro a367 hA368
       refine q_step hA368 rfl (d_load (v := (.int .i64 i.fn)) (wy rfl rfl (hA368.get 39 _ rfl)) (hA368.ev rfl) one3 (m355.cell rfl) ?_)
       intro a369 hA370
       rcases Bool.eq_false_or_eq_true (decide (i.fn ≥ 1)) with hb371 | hb371
       ·skip
        have hq372 := of_decide_eq_true hb371
        refine q_step hA370 rfl (d_bin (wy rfl rfl (hA370.get 39 _ rfl)) (hA370.ev rfl) (hA370.ev rfl) (b_ge _ _ i.fn 1 true _ hb371) ?_)
        intro a373 hA374
        refine q_step hA374 rfl (d_pickT (wn rfl) (hA374.ev rfl) (hA374.ev rfl) ?_)
        intro a375 hA376
        refine q_step hA376 rfl (d_move (wn rfl) (hA376.ev rfl) ?_)
        intro a377 hA378
        refine q_step hA378 rfl (d_fieldAddr (wy rfl rfl (hA378.get 44 _ rfl)) (hA378.ev rfl) fo23_9 ?_)
        intro a379 hA380
        refine q_step hA380 rfl (d_load (v := (.int .i64 i.fn)) (wy rfl rfl (hA380.get 44 _ rfl)) (hA380.ev rfl) one3 (m355.cell rfl) ?_)
        intro a381 hA382
        rcases Bool.eq_false_or_eq_true (decide (i.fn ≤ 5)) with hb383 | hb383
        ·skip
         have hq384 := of_decide_eq_true hb383
         refine q_step hA382 rfl (d_bin (wy rfl rfl (hA382.get 44 _ rfl)) (hA382.ev rfl) (hA382.ev rfl) (b_le _ _ i.fn 5 true _ hb383) ?_)
         intro a385 hA386
         refine q_step hA386 rfl (d_pickT (wn rfl) (hA386.ev rfl) (hA386.ev rfl) ?_)
         intro a387 hA388
         refine q_step hA388 rfl (d_move (wn rfl) (hA388.ev rfl) ?_)
         intro a389 hA390
         refine q_step hA390 rfl (d_fieldAddr (wy rfl rfl (hA390.get 49 _ rfl)) (hA390.ev rfl) fo23_3 ?_)
         intro a391 hA392
         refine q_step hA392 rfl (d_load (v := (.int .i64 i.b)) (wy rfl rfl (hA392.get 49 _ rfl)) (hA392.ev rfl) one3 (m355.cell rfl) ?_)
         intro a393 hA394
         rcases Bool.eq_false_or_eq_true (i.b == (-1)) with hb395 | hb395
         ·skip
          have hq396 := eq_of_beq hb395
          refine q_step hA394 rfl (d_bin (wy rfl rfl (hA394.get 49 _ rfl)) (hA394.ev rfl) (hA394.ev rfl) (b_eq _ _ i.b (-1) true _ hb395) ?_)
          intro a397 hA398
          refine q_step hA398 rfl (d_move (wy rfl rfl (hA398.get 49 _ rfl)) (hA398.ev rfl) ?_)
          intro a399 hA400
          refine q_step hA400 rfl (does_not (wno rfl rfl (.inl (hA400.get 53 _ rfl))) ?_)
          intro a401 hA402
          refine q_step hA402 rfl (does_not (wno rfl rfl (.inl (hA402.get 53 _ rfl))) ?_)
          intro a403 hA404
          refine q_step hA404 rfl (does_not (wno rfl rfl (.inl (hA404.get 53 _ rfl))) ?_)
          intro a405 hA406
          refine q_step hA406 rfl (does_not (wno rfl rfl (.inl (hA406.get 53 _ rfl))) ?_)
          intro a407 hA408
          refine q_step hA408 rfl (does_not (wno rfl rfl (.inr (hA408.get 57 _ rfl))) ?_)
          intro a409 hA410
          refine q_step hA410 rfl (does_not (wno rfl rfl (.inr (hA410.get 57 _ rfl))) ?_)
          intro a411 hA412
          refine q_step hA412 rfl (does_not (wno rfl rfl (.inr (hA412.get 57 _ rfl))) ?_)
          intro a413 hA414
          refine q_step hA414 rfl (does_not (wno rfl rfl (.inl (hA414.get 53 _ rfl))) ?_)
          intro a415 hA416
          refine q_step hA416 rfl (d_pickT (wy rfl rfl (hA416.get 49 _ rfl)) (hA416.ev rfl) (hA416.ev rfl) ?_)
          intro a417 hA418
          refine q_step hA418 rfl (d_pickT (wn rfl) (hA418.ev rfl) (hA418.ev rfl) ?_)
          intro a419 hA420
          refine q_step hA420 rfl (d_assign (wn rfl) (hA420.ev rfl) ?_)
          intro a421 hA422
          refine q_end ?_
          exact ⟨hA422.cut _ (fm_cons (hA422.get 1 _ rfl) (fm_cons (hA422.get 2 _ rfl) (fm_cons (hA422.get 3 _ rfl) (fm_cons (hA422.get 4 _ rfl) (fm_cons ((hA422.get 5 _ rfl).trans (congrArg Value.bool (by simp [hb341, hb359, hb371, hb383, hb395]))) fm_nil))))), b358, m355, m356, m357⟩
         ·skip
          have hq423 := ne_of_beq hb395
          refine q_step hA394 rfl (d_bin (wy rfl rfl (hA394.get 49 _ rfl)) (hA394.ev rfl) (hA394.ev rfl) (b_eq _ _ i.b (-1) false _ hb395) ?_)
          intro a424 hA425
          refine q_step hA425 rfl (d_move (wy rfl rfl (hA425.get 49 _ rfl)) (hA425.ev rfl) ?_)
          intro a426 hA427
          refine q_step hA427 rfl (d_fieldAddr (wy rfl rfl (hA427.get 53 _ rfl)) (hA427.ev rfl) fo23_3 ?_)
          intro a428 hA429
          refine q_step hA429 rfl (d_load (v := (.int .i64 i.b)) (wy rfl rfl (hA429.get 53 _ rfl)) (hA429.ev rfl) one3 (m355.cell rfl) ?_)
          intro a430 hA431
          refine q_step hA431 rfl (d_call (wy rfl rfl (hA431.get 53 _ rfl)) ent44 (map1 (hA431.ev rfl)) (rreg_any i.b w351) ?_)
          rintro e435 w432 ⟨he434, hG433⟩
          have m436 := m355.grow hG433
          have m437 := m356.grow hG433
          have m438 := m357.grow hG433
          have b439 := below_grow b358 hG433 b358.size
          rcases Bool.eq_false_or_eq_true (regB i.b) with hb440 | hb440
          ·skip
           refine ⟨.bool true, he434.trans (ret_bool hb440), ?_⟩
           intro a442 hA443
           refine q_step hA443 rfl (d_move (wy rfl rfl (hA443.get 53 _ rfl)) (hA443.ev rfl) ?_)
           intro a444 hA445
           refine q_step hA445 rfl (d_fieldAddr (wy rfl rfl (hA445.get 57 _ rfl)) (hA445.ev rfl) fo23_4 ?_)
           intro a446 hA447
           refine q_step hA447 rfl (d_load (v := (.int .i64 i.imm)) (wy rfl rfl (hA447.get 57 _ rfl)) (hA447.ev rfl) one3 (m436.cell rfl) ?_)
           intro a448 hA449
           rcases Bool.eq_false_or_eq_true (i.imm == 0) with hb450 | hb450
           ·skip
            have hq451 := eq_of_beq hb450
            refine q_step hA449 rfl (d_bin (wy rfl rfl (hA449.get 57 _ rfl)) (hA449.ev rfl) (hA449.ev rfl) (b_eq _ _ i.imm 0 true _ hb450) ?_)
            intro a452 hA453
            refine q_step hA453 rfl (d_pickT (wy rfl rfl (hA453.get 53 _ rfl)) (hA453.ev rfl) (hA453.ev rfl) ?_)
            intro a454 hA455
            refine q_step hA455 rfl (d_pickF (wy rfl rfl (hA455.get 49 _ rfl)) (hA455.ev rfl) (hA455.ev rfl) ?_)
            intro a456 hA457
            refine q_step hA457 rfl (d_pickT (wn rfl) (hA457.ev rfl) (hA457.ev rfl) ?_)
            intro a458 hA459
            refine q_step hA459 rfl (d_assign (wn rfl) (hA459.ev rfl) ?_)
            intro a460 hA461
            refine q_end ?_
            exact ⟨hA461.cut _ (fm_cons (hA461.get 1 _ rfl) (fm_cons (hA461.get 2 _ rfl) (fm_cons (hA461.get 3 _ rfl) (fm_cons (hA461.get 4 _ rfl) (fm_cons ((hA461.get 5 _ rfl).trans (congrArg Value.bool (by simp [hb341, hb359, hb371, hb383, hb395, hb440, hb450]))) fm_nil))))), b439, m436, m437, m438⟩
           ·skip
            have hq462 := ne_of_beq hb450
            refine q_step hA449 rfl (d_bin (wy rfl rfl (hA449.get 57 _ rfl)) (hA449.ev rfl) (hA449.ev rfl) (b_eq _ _ i.imm 0 false _ hb450) ?_)
            intro a463 hA464
            refine q_step hA464 rfl (d_pickT (wy rfl rfl (hA464.get 53 _ rfl)) (hA464.ev rfl) (hA464.ev rfl) ?_)
            intro a465 hA466
            refine q_step hA466 rfl (d_pickF (wy rfl rfl (hA466.get 49 _ rfl)) (hA466.ev rfl) (hA466.ev rfl) ?_)
            intro a467 hA468
            refine q_step hA468 rfl (d_pickT (wn rfl) (hA468.ev rfl) (hA468.ev rfl) ?_)
            intro a469 hA470
            refine q_step hA470 rfl (d_assign (wn rfl) (hA470.ev rfl) ?_)
            intro a471 hA472
            refine q_end ?_
            exact ⟨hA472.cut _ (fm_cons (hA472.get 1 _ rfl) (fm_cons (hA472.get 2 _ rfl) (fm_cons (hA472.get 3 _ rfl) (fm_cons (hA472.get 4 _ rfl) (fm_cons ((hA472.get 5 _ rfl).trans (congrArg Value.bool (by simp [hb341, hb359, hb371, hb383, hb395, hb440, hb450]))) fm_nil))))), b439, m436, m437, m438⟩
          ·skip
           refine ⟨.bool false, he434.trans (ret_bool hb440), ?_⟩
           intro a474 hA475
           refine q_step hA475 rfl (d_move (wy rfl rfl (hA475.get 53 _ rfl)) (hA475.ev rfl) ?_)
           intro a476 hA477
           refine q_step hA477 rfl (does_not (wno rfl rfl (.inl (hA477.get 57 _ rfl))) ?_)
           intro a478 hA479
           refine q_step hA479 rfl (does_not (wno rfl rfl (.inl (hA479.get 57 _ rfl))) ?_)
           intro a480 hA481
           refine q_step hA481 rfl (does_not (wno rfl rfl (.inl (hA481.get 57 _ rfl))) ?_)
           intro a482 hA483
           refine q_step hA483 rfl (d_pickF (wy rfl rfl (hA483.get 53 _ rfl)) (hA483.ev rfl) (hA483.ev rfl) ?_)
           intro a484 hA485
           refine q_step hA485 rfl (d_pickF (wy rfl rfl (hA485.get 49 _ rfl)) (hA485.ev rfl) (hA485.ev rfl) ?_)
           intro a486 hA487
           refine q_step hA487 rfl (d_pickT (wn rfl) (hA487.ev rfl) (hA487.ev rfl) ?_)
           intro a488 hA489
           refine q_step hA489 rfl (d_assign (wn rfl) (hA489.ev rfl) ?_)
           intro a490 hA491
           refine q_end ?_
           exact ⟨hA491.cut _ (fm_cons (hA491.get 1 _ rfl) (fm_cons (hA491.get 2 _ rfl) (fm_cons (hA491.get 3 _ rfl) (fm_cons (hA491.get 4 _ rfl) (fm_cons ((hA491.get 5 _ rfl).trans (congrArg Value.bool (by simp [hb341, hb359, hb371, hb383, hb395, hb440]))) fm_nil))))), b439, m436, m437, m438⟩
        ·skip
         have hq492 := of_decide_eq_false hb383
         refine q_step hA382 rfl (d_bin (wy rfl rfl (hA382.get 44 _ rfl)) (hA382.ev rfl) (hA382.ev rfl) (b_le _ _ i.fn 5 false _ hb383) ?_)
         intro a493 hA494
         refine q_step hA494 rfl (d_pickT (wn rfl) (hA494.ev rfl) (hA494.ev rfl) ?_)
         intro a495 hA496
         refine q_step hA496 rfl (d_move (wn rfl) (hA496.ev rfl) ?_)
         intro a497 hA498
         refine q_step hA498 rfl (does_not (wno rfl rfl (.inl (hA498.get 49 _ rfl))) ?_)
         intro a499 hA500
         refine q_step hA500 rfl (does_not (wno rfl rfl (.inl (hA500.get 49 _ rfl))) ?_)
         intro a501 hA502
         refine q_step hA502 rfl (does_not (wno rfl rfl (.inl (hA502.get 49 _ rfl))) ?_)
         intro a503 hA504
         refine q_step hA504 rfl (does_not (wno rfl rfl (.inl (hA504.get 49 _ rfl))) ?_)
         intro a505 hA506
         refine q_step hA506 rfl (does_not (wno rfl rfl (.inr (hA506.get 53 _ rfl))) ?_)
         intro a507 hA508
         refine q_step hA508 rfl (does_not (wno rfl rfl (.inr (hA508.get 53 _ rfl))) ?_)
         intro a509 hA510
         refine q_step hA510 rfl (does_not (wno rfl rfl (.inr (hA510.get 53 _ rfl))) ?_)
         intro a511 hA512
         refine q_step hA512 rfl (does_not (wno rfl rfl (.inr (hA512.get 53 _ rfl))) ?_)
         intro a513 hA514
         refine q_step hA514 rfl (does_not (wno rfl rfl (.inr (hA514.get 57 _ rfl))) ?_)
         intro a515 hA516
         refine q_step hA516 rfl (does_not (wno rfl rfl (.inr (hA516.get 57 _ rfl))) ?_)
         intro a517 hA518
         refine q_step hA518 rfl (does_not (wno rfl rfl (.inr (hA518.get 57 _ rfl))) ?_)
         intro a519 hA520
         refine q_step hA520 rfl (does_not (wno rfl rfl (.inr (hA520.get 53 _ rfl))) ?_)
         intro a521 hA522
         refine q_step hA522 rfl (does_not (wno rfl rfl (.inl (hA522.get 49 _ rfl))) ?_)
         intro a523 hA524
         refine q_step hA524 rfl (d_pickF (wn rfl) (hA524.ev rfl) (hA524.ev rfl) ?_)
         intro a525 hA526
         refine q_step hA526 rfl (d_assign (wn rfl) (hA526.ev rfl) ?_)
         intro a527 hA528
         refine q_end ?_
         exact ⟨hA528.cut _ (fm_cons (hA528.get 1 _ rfl) (fm_cons (hA528.get 2 _ rfl) (fm_cons (hA528.get 3 _ rfl) (fm_cons (hA528.get 4 _ rfl) (fm_cons ((hA528.get 5 _ rfl).trans (congrArg Value.bool (by simp [hb341, hb359, hb371, hb383]))) fm_nil))))), b358, m355, m356, m357⟩
       ·skip
        have hq529 := of_decide_eq_false hb371
        refine q_step hA370 rfl (d_bin (wy rfl rfl (hA370.get 39 _ rfl)) (hA370.ev rfl) (hA370.ev rfl) (b_ge _ _ i.fn 1 false _ hb371) ?_)
        intro a530 hA531
        refine q_step hA531 rfl (d_pickT (wn rfl) (hA531.ev rfl) (hA531.ev rfl) ?_)
        intro a532 hA533
        refine q_step hA533 rfl (d_move (wn rfl) (hA533.ev rfl) ?_)
        intro a534 hA535
        refine q_step hA535 rfl (does_not (wno rfl rfl (.inl (hA535.get 44 _ rfl))) ?_)
        intro a536 hA537
        refine q_step hA537 rfl (does_not (wno rfl rfl (.inl (hA537.get 44 _ rfl))) ?_)
        intro a538 hA539
        refine q_step hA539 rfl (does_not (wno rfl rfl (.inl (hA539.get 44 _ rfl))) ?_)
        intro a540 hA541
        refine q_step hA541 rfl (d_pickF (wn rfl) (hA541.ev rfl) (hA541.ev rfl) ?_)
        intro a542 hA543
        refine q_step hA543 rfl (d_move (wn rfl) (hA543.ev rfl) ?_)
        intro a544 hA545
        refine q_step hA545 rfl (does_not (wno rfl rfl (.inl (hA545.get 49 _ rfl))) ?_)
        intro a546 hA547
        refine q_step hA547 rfl (does_not (wno rfl rfl (.inl (hA547.get 49 _ rfl))) ?_)
        intro a548 hA549
        refine q_step hA549 rfl (does_not (wno rfl rfl (.inl (hA549.get 49 _ rfl))) ?_)
        intro a550 hA551
        refine q_step hA551 rfl (does_not (wno rfl rfl (.inl (hA551.get 49 _ rfl))) ?_)
        intro a552 hA553
        refine q_step hA553 rfl (does_not (wno rfl rfl (.inr (hA553.get 53 _ rfl))) ?_)
        intro a554 hA555
        refine q_step hA555 rfl (does_not (wno rfl rfl (.inr (hA555.get 53 _ rfl))) ?_)
        intro a556 hA557
        refine q_step hA557 rfl (does_not (wno rfl rfl (.inr (hA557.get 53 _ rfl))) ?_)
        intro a558 hA559
        refine q_step hA559 rfl (does_not (wno rfl rfl (.inr (hA559.get 53 _ rfl))) ?_)
        intro a560 hA561
        refine q_step hA561 rfl (does_not (wno rfl rfl (.inr (hA561.get 57 _ rfl))) ?_)
        intro a562 hA563
        refine q_step hA563 rfl (does_not (wno rfl rfl (.inr (hA563.get 57 _ rfl))) ?_)
        intro a564 hA565
        refine q_step hA565 rfl (does_not (wno rfl rfl (.inr (hA565.get 57 _ rfl))) ?_)
        intro a566 hA567
        refine q_step hA567 rfl (does_not (wno rfl rfl (.inr (hA567.get 53 _ rfl))) ?_)
        intro a568 hA569
        refine q_step hA569 rfl (does_not (wno rfl rfl (.inl (hA569.get 49 _ rfl))) ?_)
        intro a570 hA571
        refine q_step hA571 rfl (d_pickF (wn rfl) (hA571.ev rfl) (hA571.ev rfl) ?_)
        intro a572 hA573
        refine q_step hA573 rfl (d_assign (wn rfl) (hA573.ev rfl) ?_)
        intro a574 hA575
        refine q_end ?_
        exact ⟨hA575.cut _ (fm_cons (hA575.get 1 _ rfl) (fm_cons (hA575.get 2 _ rfl) (fm_cons (hA575.get 3 _ rfl) (fm_cons (hA575.get 4 _ rfl) (fm_cons ((hA575.get 5 _ rfl).trans (congrArg Value.bool (by simp [hb341, hb359, hb371]))) fm_nil))))), b358, m355, m356, m357⟩
      ·skip
       refine ⟨.bool false, he353.trans (ret_bool hb359), ?_⟩
       intro a577 hA578
       refine q_step hA578 rfl (d_pickT (wn rfl) (hA578.ev rfl) (hA578.ev rfl) ?_)
       intro a579 hA580
       refine q_step hA580 rfl (d_move (wn rfl) (hA580.ev rfl) ?_)
       intro a581 hA582
       refine q_step hA582 rfl (does_not (wno rfl rfl (.inl (hA582.get 39 _ rfl))) ?_)
       intro a583 hA584
       refine q_step hA584 rfl (does_not (wno rfl rfl (.inl (hA584.get 39 _ rfl))) ?_)
       intro a585 hA586
       refine q_step hA586 rfl (does_not (wno rfl rfl (.inl (hA586.get 39 _ rfl))) ?_)
       intro a587 hA588
       refine q_step hA588 rfl (d_pickF (wn rfl) (hA588.ev rfl) (hA588.ev rfl) ?_)
       intro a589 hA590
       refine q_step hA590 rfl (d_move (wn rfl) (hA590.ev rfl) ?_)
       intro a591 hA592
       refine q_step hA592 rfl (does_not (wno rfl rfl (.inl (hA592.get 44 _ rfl))) ?_)
       intro a593 hA594
       refine q_step hA594 rfl (does_not (wno rfl rfl (.inl (hA594.get 44 _ rfl))) ?_)
       intro a595 hA596
       refine q_step hA596 rfl (does_not (wno rfl rfl (.inl (hA596.get 44 _ rfl))) ?_)
       intro a597 hA598
       refine q_step hA598 rfl (d_pickF (wn rfl) (hA598.ev rfl) (hA598.ev rfl) ?_)
       intro a599 hA600
       refine q_step hA600 rfl (d_move (wn rfl) (hA600.ev rfl) ?_)
       intro a601 hA602
       refine q_step hA602 rfl (does_not (wno rfl rfl (.inl (hA602.get 49 _ rfl))) ?_)
       intro a603 hA604
       refine q_step hA604 rfl (does_not (wno rfl rfl (.inl (hA604.get 49 _ rfl))) ?_)
       intro a605 hA606
       refine q_step hA606 rfl (does_not (wno rfl rfl (.inl (hA606.get 49 _ rfl))) ?_)
       intro a607 hA608
       refine q_step hA608 rfl (does_not (wno rfl rfl (.inl (hA608.get 49 _ rfl))) ?_)
       intro a609 hA610
       refine q_step hA610 rfl (does_not (wno rfl rfl (.inr (hA610.get 53 _ rfl))) ?_)
       intro a611 hA612
       refine q_step hA612 rfl (does_not (wno rfl rfl (.inr (hA612.get 53 _ rfl))) ?_)
       intro a613 hA614
       refine q_step hA614 rfl (does_not (wno rfl rfl (.inr (hA614.get 53 _ rfl))) ?_)
       intro a615 hA616
       refine q_step hA616 rfl (does_not (wno rfl rfl (.inr (hA616.get 53 _ rfl))) ?_)
       intro a617 hA618
       refine q_step hA618 rfl (does_not (wno rfl rfl (.inr (hA618.get 57 _ rfl))) ?_)
       intro a619 hA620
       refine q_step hA620 rfl (does_not (wno rfl rfl (.inr (hA620.get 57 _ rfl))) ?_)
       intro a621 hA622
       refine q_step hA622 rfl (does_not (wno rfl rfl (.inr (hA622.get 57 _ rfl))) ?_)
       intro a623 hA624
       refine q_step hA624 rfl (does_not (wno rfl rfl (.inr (hA624.get 53 _ rfl))) ?_)
       intro a625 hA626
       refine q_step hA626 rfl (does_not (wno rfl rfl (.inl (hA626.get 49 _ rfl))) ?_)
       intro a627 hA628
       refine q_step hA628 rfl (d_pickF (wn rfl) (hA628.ev rfl) (hA628.ev rfl) ?_)
       intro a629 hA630
       refine q_step hA630 rfl (d_assign (wn rfl) (hA630.ev rfl) ?_)
       intro a631 hA632
       refine q_end ?_
       exact ⟨hA632.cut _ (fm_cons (hA632.get 1 _ rfl) (fm_cons (hA632.get 2 _ rfl) (fm_cons (hA632.get 3 _ rfl) (fm_cons (hA632.get 4 _ rfl) (fm_cons ((hA632.get 5 _ rfl).trans (congrArg Value.bool (by simp [hb341, hb359]))) fm_nil))))), b358, m355, m356, m357⟩
     ·skip
      refine ⟨.bool false, he335.trans (ret_bool hb341), ?_⟩
      intro a634 hA635
      refine q_step hA635 rfl (d_move (wn rfl) (hA635.ev rfl) ?_)
      intro a636 hA637
      refine q_step hA637 rfl (does_not (wno rfl rfl (.inl (hA637.get 34 _ rfl))) ?_)
      intro a638 hA639
      refine q_step hA639 rfl (does_not (wno rfl rfl (.inl (hA639.get 34 _ rfl))) ?_)
      intro a640 hA641
      refine q_step hA641 rfl (does_not (wno rfl rfl (.inl (hA641.get 34 _ rfl))) ?_)
      intro a642 hA643
      refine q_step hA643 rfl (d_pickF (wn rfl) (hA643.ev rfl) (hA643.ev rfl) ?_)
      intro a644 hA645
      refine q_step hA645 rfl (d_move (wn rfl) (hA645.ev rfl) ?_)
      intro a646 hA647
      refine q_step hA647 rfl (does_not (wno rfl rfl (.inl (hA647.get 39 _ rfl))) ?_)
      intro a648 hA649
      refine q_step hA649 rfl (does_not (wno rfl rfl (.inl (hA649.get 39 _ rfl))) ?_)
      intro a650 hA651
      refine q_step hA651 rfl (does_not (wno rfl rfl (.inl (hA651.get 39 _ rfl))) ?_)
      intro a652 hA653
      refine q_step hA653 rfl (d_pickF (wn rfl) (hA653.ev rfl) (hA653.ev rfl) ?_)
      intro a654 hA655
      refine q_step hA655 rfl (d_move (wn rfl) (hA655.ev rfl) ?_)
      intro a656 hA657
      refine q_step hA657 rfl (does_not (wno rfl rfl (.inl (hA657.get 44 _ rfl))) ?_)
      intro a658 hA659
      refine q_step hA659 rfl (does_not (wno rfl rfl (.inl (hA659.get 44 _ rfl))) ?_)
      intro a660 hA661
      refine q_step hA661 rfl (does_not (wno rfl rfl (.inl (hA661.get 44 _ rfl))) ?_)
      intro a662 hA663
      refine q_step hA663 rfl (d_pickF (wn rfl) (hA663.ev rfl) (hA663.ev rfl) ?_)
      intro a664 hA665
      refine q_step hA665 rfl (d_move (wn rfl) (hA665.ev rfl) ?_)
      intro a666 hA667
      refine q_step hA667 rfl (does_not (wno rfl rfl (.inl (hA667.get 49 _ rfl))) ?_)
      intro a668 hA669
      refine q_step hA669 rfl (does_not (wno rfl rfl (.inl (hA669.get 49 _ rfl))) ?_)
      intro a670 hA671
      refine q_step hA671 rfl (does_not (wno rfl rfl (.inl (hA671.get 49 _ rfl))) ?_)
      intro a672 hA673
      refine q_step hA673 rfl (does_not (wno rfl rfl (.inl (hA673.get 49 _ rfl))) ?_)
      intro a674 hA675
      refine q_step hA675 rfl (does_not (wno rfl rfl (.inr (hA675.get 53 _ rfl))) ?_)
      intro a676 hA677
      refine q_step hA677 rfl (does_not (wno rfl rfl (.inr (hA677.get 53 _ rfl))) ?_)
      intro a678 hA679
      refine q_step hA679 rfl (does_not (wno rfl rfl (.inr (hA679.get 53 _ rfl))) ?_)
      intro a680 hA681
      refine q_step hA681 rfl (does_not (wno rfl rfl (.inr (hA681.get 53 _ rfl))) ?_)
      intro a682 hA683
      refine q_step hA683 rfl (does_not (wno rfl rfl (.inr (hA683.get 57 _ rfl))) ?_)
      intro a684 hA685
      refine q_step hA685 rfl (does_not (wno rfl rfl (.inr (hA685.get 57 _ rfl))) ?_)
      intro a686 hA687
      refine q_step hA687 rfl (does_not (wno rfl rfl (.inr (hA687.get 57 _ rfl))) ?_)
      intro a688 hA689
      refine q_step hA689 rfl (does_not (wno rfl rfl (.inr (hA689.get 53 _ rfl))) ?_)
      intro a690 hA691
      refine q_step hA691 rfl (does_not (wno rfl rfl (.inl (hA691.get 49 _ rfl))) ?_)
      intro a692 hA693
      refine q_step hA693 rfl (d_pickF (wn rfl) (hA693.ev rfl) (hA693.ev rfl) ?_)
      intro a694 hA695
      refine q_step hA695 rfl (d_assign (wn rfl) (hA695.ev rfl) ?_)
      intro a696 hA697
      refine q_end ?_
      exact ⟨hA697.cut _ (fm_cons (hA697.get 1 _ rfl) (fm_cons (hA697.get 2 _ rfl) (fm_cons (hA697.get 3 _ rfl) (fm_cons (hA697.get 4 _ rfl) (fm_cons ((hA697.get 5 _ rfl).trans (congrArg Value.bool (by simp [hb341]))) fm_nil))))), b340, m337, m338, m339⟩
    rintro a327 w328 ⟨hA698, b699, m700, m701, m702⟩
    refine t_norm ?_
    refine wp_seq ?_
    refine wp_region_lit ?_
    refine q_step hA698 rfl (d_fieldAddr (wn rfl) (hA698.ev rfl) fo23_1 ?_)
    intro a703 hA704
    refine q_step hA704 rfl (d_store (wn rfl) (hA704.ev rfl) (hA704.ev rfl) one3 rfl m702 (Nat.le_of_ble_eq_true rfl) ?_)
    intro w705 hU706 (m707 : Blk w705 g28 #[.int .i64 0, .int .i64 (-1), .int .i64 i.a, .int .i64 i.b, .int .i64 i.imm, .int .i64 i.loc, .int .i64 i.off, .int .i64 i.index, .int .i64 i.size, .int .i64 i.fn, .bool i.acq, .bool i.weak, .bool i.rel, .int .i64 i.pred, .int .i64 i.succ, .int .i64 i.to, .bool i.zero] 23)
    have m708 := m700.upd hU706 n34
    have m709 := m701.upd hU706 n35
    have b710 := hU706.below b699 ge33
    intro a711 hA712
    refine q_end ?_
    have hA713 : St 192 [(1, (.pointer (some ⟨g3, 0, none⟩))), (2, (.pointer (some ⟨g12, 0, none⟩))), (3, (.bool false)), (4, (.pointer (some ⟨g28, 0, none⟩))), (5, (.bool ((regB i.dst) && ((regB i.a) && ((decide (i.fn ≥ 1)) && ((decide (i.fn ≤ 5)) && ((i.b == (-1)) || ((regB i.b) && (i.imm == 0)))))))))] a711 := hA712.cut _ (fm_cons (hA712.get 1 _ rfl) (fm_cons (hA712.get 2 _ rfl) (fm_cons (hA712.get 3 _ rfl) (fm_cons (hA712.get 4 _ rfl) (fm_cons (hA712.get 5 _ rfl) fm_nil)))))
    refine t_norm ?_
    refine wp_seq ?_
    refine wp_region_lit ?_
    refine q_step hA713 rfl (d_fieldAddr (wn rfl) (hA713.ev rfl) fo23_2 ?_)
    intro a714 hA715
    refine q_step hA715 rfl (d_store (wn rfl) (hA715.ev rfl) (hA715.ev rfl) one3 rfl m707 (Nat.le_of_ble_eq_true rfl) ?_)
    intro w716 hU717 (m718 : Blk w716 g28 #[.int .i64 0, .int .i64 (-1), .int .i64 (-1), .int .i64 i.b, .int .i64 i.imm, .int .i64 i.loc, .int .i64 i.off, .int .i64 i.index, .int .i64 i.size, .int .i64 i.fn, .bool i.acq, .bool i.weak, .bool i.rel, .int .i64 i.pred, .int .i64 i.succ, .int .i64 i.to, .bool i.zero] 23)
    have m719 := m708.upd hU717 n34
    have m720 := m709.upd hU717 n35
    have b721 := hU717.below b710 ge33
    intro a722 hA723
    refine q_end ?_
    have hA724 : St 192 [(1, (.pointer (some ⟨g3, 0, none⟩))), (2, (.pointer (some ⟨g12, 0, none⟩))), (3, (.bool false)), (4, (.pointer (some ⟨g28, 0, none⟩))), (5, (.bool ((regB i.dst) && ((regB i.a) && ((decide (i.fn ≥ 1)) && ((decide (i.fn ≤ 5)) && ((i.b == (-1)) || ((regB i.b) && (i.imm == 0)))))))))] a722 := hA723.cut _ (fm_cons (hA723.get 1 _ rfl) (fm_cons (hA723.get 2 _ rfl) (fm_cons (hA723.get 3 _ rfl) (fm_cons (hA723.get 4 _ rfl) (fm_cons (hA723.get 5 _ rfl) fm_nil)))))
    refine t_norm ?_
    refine wp_seq ?_
    refine wp_region_lit ?_
    refine q_step hA724 rfl (d_fieldAddr (wn rfl) (hA724.ev rfl) fo23_3 ?_)
    intro a725 hA726
    refine q_step hA726 rfl (d_store (wn rfl) (hA726.ev rfl) (hA726.ev rfl) one3 rfl m718 (Nat.le_of_ble_eq_true rfl) ?_)
    intro w727 hU728 (m729 : Blk w727 g28 #[.int .i64 0, .int .i64 (-1), .int .i64 (-1), .int .i64 (-1), .int .i64 i.imm, .int .i64 i.loc, .int .i64 i.off, .int .i64 i.index, .int .i64 i.size, .int .i64 i.fn, .bool i.acq, .bool i.weak, .bool i.rel, .int .i64 i.pred, .int .i64 i.succ, .int .i64 i.to, .bool i.zero] 23)
    have m730 := m719.upd hU728 n34
    have m731 := m720.upd hU728 n35
    have b732 := hU728.below b721 ge33
    intro a733 hA734
    refine q_end ?_
    have hA735 : St 192 [(1, (.pointer (some ⟨g3, 0, none⟩))), (2, (.pointer (some ⟨g12, 0, none⟩))), (3, (.bool false)), (4, (.pointer (some ⟨g28, 0, none⟩))), (5, (.bool ((regB i.dst) && ((regB i.a) && ((decide (i.fn ≥ 1)) && ((decide (i.fn ≤ 5)) && ((i.b == (-1)) || ((regB i.b) && (i.imm == 0)))))))))] a733 := hA734.cut _ (fm_cons (hA734.get 1 _ rfl) (fm_cons (hA734.get 2 _ rfl) (fm_cons (hA734.get 3 _ rfl) (fm_cons (hA734.get 4 _ rfl) (fm_cons (hA734.get 5 _ rfl) fm_nil)))))
    refine t_norm ?_
    refine wp_seq ?_
    refine wp_region_lit ?_
    refine q_step hA735 rfl (d_fieldAddr (wn rfl) (hA735.ev rfl) fo23_9 ?_)
    intro a736 hA737
    refine q_step hA737 rfl (d_store (wn rfl) (hA737.ev rfl) (hA737.ev rfl) one3 rfl m729 (Nat.le_of_ble_eq_true rfl) ?_)
    intro w738 hU739 (m740 : Blk w738 g28 #[.int .i64 0, .int .i64 (-1), .int .i64 (-1), .int .i64 (-1), .int .i64 i.imm, .int .i64 i.loc, .int .i64 i.off, .int .i64 i.index, .int .i64 i.size, .int .i64 0, .bool i.acq, .bool i.weak, .bool i.rel, .int .i64 i.pred, .int .i64 i.succ, .int .i64 i.to, .bool i.zero] 23)
    have m741 := m730.upd hU739 n34
    have m742 := m731.upd hU739 n35
    have b743 := hU739.below b732 ge33
    intro a744 hA745
    refine q_end ?_
    have hA746 : St 192 [(1, (.pointer (some ⟨g3, 0, none⟩))), (2, (.pointer (some ⟨g12, 0, none⟩))), (3, (.bool false)), (4, (.pointer (some ⟨g28, 0, none⟩))), (5, (.bool ((regB i.dst) && ((regB i.a) && ((decide (i.fn ≥ 1)) && ((decide (i.fn ≤ 5)) && ((i.b == (-1)) || ((regB i.b) && (i.imm == 0)))))))))] a744 := hA745.cut _ (fm_cons (hA745.get 1 _ rfl) (fm_cons (hA745.get 2 _ rfl) (fm_cons (hA745.get 3 _ rfl) (fm_cons (hA745.get 4 _ rfl) (fm_cons (hA745.get 5 _ rfl) fm_nil)))))
    refine t_norm ?_
    refine wp_region_lit ?_
    refine q_step hA746 rfl (d_fieldAddr (wn rfl) (hA746.ev rfl) fo23_4 ?_)
    intro a747 hA748
    refine q_step hA748 rfl (d_store (wn rfl) (hA748.ev rfl) (hA748.ev rfl) one3 rfl m740 (Nat.le_of_ble_eq_true rfl) ?_)
    intro w749 hU750 (m751 : Blk w749 g28 #[.int .i64 0, .int .i64 (-1), .int .i64 (-1), .int .i64 (-1), .int .i64 0, .int .i64 i.loc, .int .i64 i.off, .int .i64 i.index, .int .i64 i.size, .int .i64 0, .bool i.acq, .bool i.weak, .bool i.rel, .int .i64 i.pred, .int .i64 i.succ, .int .i64 i.to, .bool i.zero] 23)
    have m752 := m741.upd hU750 n34
    have m753 := m742.upd hU750 n35
    have b754 := hU750.below b743 ge33
    intro a755 hA756
    refine q_end ?_
    have hA757 : St 192 [(1, (.pointer (some ⟨g3, 0, none⟩))), (2, (.pointer (some ⟨g12, 0, none⟩))), (3, (.bool false)), (4, (.pointer (some ⟨g28, 0, none⟩))), (5, (.bool ((regB i.dst) && ((regB i.a) && ((decide (i.fn ≥ 1)) && ((decide (i.fn ≤ 5)) && ((i.b == (-1)) || ((regB i.b) && (i.imm == 0)))))))))] a755 := hA756.cut _ (fm_cons (hA756.get 1 _ rfl) (fm_cons (hA756.get 2 _ rfl) (fm_cons (hA756.get 3 _ rfl) (fm_cons (hA756.get 4 _ rfl) (fm_cons (hA756.get 5 _ rfl) fm_nil)))))
    refine i_norm ?_
    refine t_norm ?_
    refine wp_seq ?_
    refine wp_seq ?_
    refine wp_region_lit ?_
    refine q_step hA757 rfl (d_fieldAddr (wn rfl) (hA757.ev rfl) fo23_0 ?_)
    intro a758 hA759
    refine q_step hA759 rfl (d_load (v := (.int .i64 i.op)) (wn rfl) (hA759.ev rfl) one3 (m752.cell rfl) ?_)
    intro a760 hA761
    refine q_step hA761 rfl (d_bin (wn rfl) (hA761.ev rfl) (hA761.ev rfl) (b_eq _ _ i.op 4 false _ (by rw [eq_of_beq hb320]; rfl)) ?_)
    intro a762 hA763
    refine q_step hA763 rfl (d_move (wn rfl) (hA763.ev rfl) ?_)
    intro a764 hA765
    refine q_step hA765 rfl (d_fieldAddr (wy rfl rfl (hA765.get 176 _ rfl)) (hA765.ev rfl) fo23_0 ?_)
    intro a766 hA767
    refine q_step hA767 rfl (d_load (v := (.int .i64 i.op)) (wy rfl rfl (hA767.get 176 _ rfl)) (hA767.ev rfl) one3 (m752.cell rfl) ?_)
    intro a768 hA769
    refine q_step hA769 rfl (d_bin (wy rfl rfl (hA769.get 176 _ rfl)) (hA769.ev rfl) (hA769.ev rfl) (b_eq _ _ i.op 5 false _ (by rw [eq_of_beq hb320]; rfl)) ?_)
    intro a770 hA771
    refine q_step hA771 rfl (d_pickF (wn rfl) (hA771.ev rfl) (hA771.ev rfl) ?_)
    intro a772 hA773
    refine q_step hA773 rfl (d_move (wn rfl) (hA773.ev rfl) ?_)
    intro a774 hA775
    refine q_step hA775 rfl (d_fieldAddr (wy rfl rfl (hA775.get 181 _ rfl)) (hA775.ev rfl) fo23_0 ?_)
    intro a776 hA777
    refine q_step hA777 rfl (d_load (v := (.int .i64 i.op)) (wy rfl rfl (hA777.get 181 _ rfl)) (hA777.ev rfl) one3 (m752.cell rfl) ?_)
    intro a778 hA779
    refine q_step hA779 rfl (d_bin (wy rfl rfl (hA779.get 181 _ rfl)) (hA779.ev rfl) (hA779.ev rfl) (b_eq _ _ i.op 6 false _ (by rw [eq_of_beq hb320]; rfl)) ?_)
    intro a780 hA781
    refine q_step hA781 rfl (d_pickF (wn rfl) (hA781.ev rfl) (hA781.ev rfl) ?_)
    intro a782 hA783
    refine q_end ?_
    have hA784 : St 192 [(2, (.pointer (some ⟨g12, 0, none⟩))), (3, (.bool false)), (4, (.pointer (some ⟨g28, 0, none⟩))), (5, (.bool ((regB i.dst) && ((regB i.a) && ((decide (i.fn ≥ 1)) && ((decide (i.fn ≤ 5)) && ((i.b == (-1)) || ((regB i.b) && (i.imm == 0))))))))), (185, (.bool false))] a782 := hA783.cut _ (fm_cons (hA783.get 2 _ rfl) (fm_cons (hA783.get 3 _ rfl) (fm_cons (hA783.get 4 _ rfl) (fm_cons (hA783.get 5 _ rfl) (fm_cons (hA783.get 185 _ rfl) fm_nil)))))
    refine t_norm ?_
    refine c_false hA784 rfl ?_
    refine wp_skip ?_
    refine t_norm ?_
    refine wp_seq ?_
    refine wp_region_lit ?_
    refine q_step hA784 rfl (d_loadRow (cs := #[.int .i64 0, .int .i64 (-1), .int .i64 (-1), .int .i64 (-1), .int .i64 0, .int .i64 i.loc, .int .i64 i.off, .int .i64 i.index, .int .i64 i.size, .int .i64 0, .bool i.acq, .bool i.weak, .bool i.rel, .int .i64 i.pred, .int .i64 i.succ, .int .i64 i.to, .bool i.zero]) (wn rfl) (hA784.ev rfl) row23 m751 ?_)
    intro a785 hA786
    refine q_step hA786 rfl (d_move (wn rfl) (hA786.ev rfl) ?_)
    intro a787 hA788
    refine q_step hA788 rfl (d_storeRow (wn rfl) (hA788.ev rfl) (hA788.ev rfl) row23 m753 rfl rfl ?_)
    intro w789 hU790 (m791 : Blk w789 g12 #[.int .i64 0, .int .i64 (-1), .int .i64 (-1), .int .i64 (-1), .int .i64 0, .int .i64 i.loc, .int .i64 i.off, .int .i64 i.index, .int .i64 i.size, .int .i64 0, .bool i.acq, .bool i.weak, .bool i.rel, .int .i64 i.pred, .int .i64 i.succ, .int .i64 i.to, .bool i.zero] 23)
    have m792 := m752.upd hU790 n18
    have m793 := m751.upd hU790 (Ne.symm n35)
    have b794 := hU790.below b754 ge17
    intro a795 hA796
    refine q_step hA796 rfl (d_assign (wn rfl) (hA796.ev rfl) ?_)
    intro a797 hA798
    refine q_end ?_
    have hA799 : St 192 [(2, (.pointer (some ⟨g12, 0, none⟩))), (3, (.bool ((regB i.dst) && ((regB i.a) && ((decide (i.fn ≥ 1)) && ((decide (i.fn ≤ 5)) && ((i.b == (-1)) || ((regB i.b) && (i.imm == 0)))))))))] a797 := hA798.cut _ (fm_cons (hA798.get 2 _ rfl) (fm_cons (hA798.get 3 _ rfl) fm_nil))
    refine t_norm ?_
    refine wp_ret ?_
    refine retCT (g := g12) (cs := #[.int .i64 0, .int .i64 (-1), .int .i64 (-1), .int .i64 (-1), .int .i64 0, .int .i64 i.loc, .int .i64 i.off, .int .i64 i.index, .int .i64 i.size, .int .i64 0, .bool i.acq, .bool i.weak, .bool i.rel, .int .i64 i.pred, .int .i64 i.succ, .int .i64 i.to, .bool i.zero]) (v := (.bool ((regB i.dst) && ((regB i.a) && ((decide (i.fn ≥ 1)) && ((decide (i.fn ≤ 5)) && ((i.b == (-1)) || ((regB i.b) && (i.imm == 0))))))))) rfl hA799 rfl rfl m791 row23 ?_
    exact ⟨ret_two (by simp [insC, bareF, opB, rdB, wrB, hb69, hb176, eq_of_beq hb320]) (by first | (simp [fineB, hb69, hb176, eq_of_beq hb320, Bool.or_assoc, Bool.and_assoc]; done) | (rw [Bool.eq_iff_iff]; simp [fineB, hb69, hb176, eq_of_beq hb320]; done) | (rw [Bool.eq_iff_iff]; simp [fineB, hb69, hb176, eq_of_beq hb320]; omega) | grind), b794⟩
   ·skip
    have hq800 := ne_of_beq hb320
    refine q_step hA319 rfl (d_bin (wn rfl) (hA319.ev rfl) (hA319.ev rfl) (b_eq _ _ i.op 3 false _ hb320) ?_)
    intro a801 hA802
    refine q_step hA802 rfl (d_assign (wn rfl) (hA802.ev rfl) ?_)
    intro a803 hA804
    refine q_end ?_
    have hA805 : St 192 [(1, (.pointer (some ⟨g3, 0, none⟩))), (2, (.pointer (some ⟨g12, 0, none⟩))), (3, (.bool false)), (4, (.pointer (some ⟨g28, 0, none⟩))), (5, (.bool true)), (9, (.int .i64 i.op)), (29, (.bool false))] a803 := hA804.cut _ (fm_cons (hA804.get 1 _ rfl) (fm_cons (hA804.get 2 _ rfl) (fm_cons (hA804.get 3 _ rfl) (fm_cons (hA804.get 4 _ rfl) (fm_cons (hA804.get 5 _ rfl) (fm_cons (hA804.get 9 _ rfl) (fm_cons (hA804.get 29 _ rfl) fm_nil)))))))
    refine t_norm ?_
    refine c_false hA805 rfl ?_
    refine wp_seq ?_
    refine wp_region_lit ?_
    rcases Bool.eq_false_or_eq_true (i.op == 4) with hb806 | hb806
    ·skip
     have hq807 := eq_of_beq hb806
     refine q_step hA805 rfl (d_bin (wn rfl) (hA805.ev rfl) (hA805.ev rfl) (b_eq _ _ i.op 4 true _ hb806) ?_)
     intro a808 hA809
     refine q_step hA809 rfl (d_assign (wn rfl) (hA809.ev rfl) ?_)
     intro a810 hA811
     refine q_end ?_
     have hA812 : St 192 [(1, (.pointer (some ⟨g3, 0, none⟩))), (2, (.pointer (some ⟨g12, 0, none⟩))), (3, (.bool false)), (4, (.pointer (some ⟨g28, 0, none⟩))), (5, (.bool true)), (9, (.int .i64 i.op)), (69, (.bool true))] a810 := hA811.cut _ (fm_cons (hA811.get 1 _ rfl) (fm_cons (hA811.get 2 _ rfl) (fm_cons (hA811.get 3 _ rfl) (fm_cons (hA811.get 4 _ rfl) (fm_cons (hA811.get 5 _ rfl) (fm_cons (hA811.get 9 _ rfl) (fm_cons (hA811.get 69 _ rfl) fm_nil)))))))
     refine t_norm ?_
     refine c_true hA812 rfl ?_
     refine wp_seq ?_
     refine join_wp (K := fun a813 w814 => St 192 [(1, (.pointer (some ⟨g3, 0, none⟩))), (2, (.pointer (some ⟨g12, 0, none⟩))), (3, (.bool false)), (4, (.pointer (some ⟨g28, 0, none⟩))), (5, (.bool ((regB i.dst) && ((plcB i) && (cond i.acq (!i.weak) true)))))] a813 ∧ Below w.heap.size w w814 ∧ Blk w814 g3 (insC i) 23 ∧ Blk w814 g12 #[.int .i64 0, .int .i64 0, .int .i64 0, .int .i64 0, .int .i64 0, .int .i64 0, .int .i64 0, .int .i64 0, .int .i64 0, .int .i64 0, .bool false, .bool false, .bool false, .int .i64 0, .int .i64 0, .int .i64 0, .bool false] 23 ∧ Blk w814 g28 #[.int .i64 0, .int .i64 i.dst, .int .i64 i.a, .int .i64 i.b, .int .i64 i.imm, .int .i64 i.loc, .int .i64 i.off, .int .i64 i.index, .int .i64 i.size, .int .i64 i.fn, .bool i.acq, .bool i.weak, .bool i.rel, .int .i64 i.pred, .int .i64 i.succ, .int .i64 i.to, .bool i.zero] 23) ?_ ?_
     ·skip
      refine wp_region_lit ?_
      refine q_step hA812 rfl (d_fieldAddr (wn rfl) (hA812.ev rfl) fo23_1 ?_)
      intro a815 hA816
      refine q_step hA816 rfl (d_load (v := (.int .i64 i.dst)) (wn rfl) (hA816.ev rfl) one3 (m58.cell rfl) ?_)
      intro a817 hA818
      refine q_step hA818 rfl (d_call (wn rfl) ent44 (map1 (hA818.ev rfl)) (rreg_any i.dst w55) ?_)
      rintro e822 w819 ⟨he821, hG820⟩
      have m823 := m58.grow hG820
      have m824 := m59.grow hG820
      have m825 := m57.grow hG820
      have b826 := below_grow b60 hG820 b60.size
      rcases Bool.eq_false_or_eq_true (regB i.dst) with hb827 | hb827
      ·skip
       refine ⟨.bool true, he821.trans (ret_bool hb827), ?_⟩
       intro a829 hA830
       refine q_step hA830 rfl (d_move (wn rfl) (hA830.ev rfl) ?_)
       intro a831 hA832
       refine q_step hA832 rfl (d_loadRow (cs := (insC i)) (wy rfl rfl (hA832.get 74 _ rfl)) (hA832.ev rfl) row23 m823 ?_)
       intro a833 hA834
       refine q_step hA834 rfl (d_call (wy rfl rfl (hA834.get 74 _ rfl)) ent45 (map1 (hA834.ev rfl)) (place3_any i w819) ?_)
       rintro e838 w835 ⟨he837, hG836⟩
       have m839 := m823.grow hG836
       have m840 := m824.grow hG836
       have m841 := m825.grow hG836
       have b842 := below_grow b826 hG836 b826.size
       rcases Bool.eq_false_or_eq_true (plcB i) with hb843 | hb843
       ·skip
        refine ⟨.bool true, he837.trans (ret_bool hb843), ?_⟩
        intro a845 hA846
        refine q_step hA846 rfl (d_pickT (wn rfl) (hA846.ev rfl) (hA846.ev rfl) ?_)
        intro a847 hA848
        refine q_step hA848 rfl (d_move (wn rfl) (hA848.ev rfl) ?_)
        intro a849 hA850
        refine q_step hA850 rfl (d_fieldAddr (wy rfl rfl (hA850.get 78 _ rfl)) (hA850.ev rfl) fo23_10 ?_)
        intro a851 hA852
        refine q_step hA852 rfl (d_load (v := (.bool i.acq)) (wy rfl rfl (hA852.get 78 _ rfl)) (hA852.ev rfl) one4 (m839.cell rfl) ?_)
        intro a853 hA854
        refine q_step hA854 rfl (d_move (wy rfl rfl (hA854.get 78 _ rfl)) (hA854.ev rfl) ?_)
        intro a855 hA856
        rcases Bool.eq_false_or_eq_true (i.acq) with hb857 | hb857
        ·skip
         have hA859 : St 192 [(1, (.pointer (some ⟨g3, 0, none⟩))), (2, (.pointer (some ⟨g12, 0, none⟩))), (3, (.bool false)), (4, (.pointer (some ⟨g28, 0, none⟩))), (5, (.bool true)), (9, (.int .i64 i.op)), (69, (.bool true)), (71, (.pointer (some ⟨g3, 1, none⟩))), (72, (.int .i64 i.dst)), (73, (.bool true)), (74, (.bool true)), (75, (.agg (insC i))), (76, (.bool true)), (77, (.bool true)), (78, (.bool true)), (79, (.pointer (some ⟨g3, 10, none⟩))), (80, (.bool i.acq)), (81, (.bool true))] a855 := hA856.cut _ (fm_cons (hA856.get 1 _ rfl) (fm_cons (hA856.get 2 _ rfl) (fm_cons (hA856.get 3 _ rfl) (fm_cons (hA856.get 4 _ rfl) (fm_cons (hA856.get 5 _ rfl) (fm_cons (hA856.get 9 _ rfl) (fm_cons (hA856.get 69 _ rfl) (fm_cons (hA856.get 71 _ rfl) (fm_cons (hA856.get 72 _ rfl) (fm_cons (hA856.get 73 _ rfl) (fm_cons (hA856.get 74 _ rfl) (fm_cons (hA856.get 75 _ rfl) (fm_cons (hA856.get 76 _ rfl) (fm_cons (hA856.get 77 _ rfl) (fm_cons (hA856.get 78 _ rfl) (fm_cons (hA856.get 79 _ rfl) (fm_cons (hA856.get 80 _ rfl) (fm_cons ((hA856.get 81 _ rfl).trans (congrArg Value.bool hb857)) fm_nil))))))))))))))))))
         refine q_step hA859 rfl (d_fieldAddr (wy rfl rfl (hA859.get 81 _ rfl)) (hA859.ev rfl) fo23_11 ?_)
         intro a860 hA861
         refine q_step hA861 rfl (d_load (v := (.bool i.weak)) (wy rfl rfl (hA861.get 81 _ rfl)) (hA861.ev rfl) one4 (m839.cell rfl) ?_)
         intro a862 hA863
         refine q_step hA863 rfl (d_pickT (wy rfl rfl (hA863.get 78 _ rfl)) (hA863.ev rfl) (hA863.ev rfl) ?_)
         intro a864 hA865
         rcases Bool.eq_false_or_eq_true (i.weak) with hb866 | hb866
         ·skip
          have hA868 : St 192 [(1, (.pointer (some ⟨g3, 0, none⟩))), (2, (.pointer (some ⟨g12, 0, none⟩))), (3, (.bool false)), (4, (.pointer (some ⟨g28, 0, none⟩))), (5, (.bool true)), (9, (.int .i64 i.op)), (69, (.bool true)), (71, (.pointer (some ⟨g3, 1, none⟩))), (72, (.int .i64 i.dst)), (73, (.bool true)), (74, (.bool true)), (75, (.agg (insC i))), (76, (.bool true)), (77, (.bool true)), (78, (.bool true)), (79, (.pointer (some ⟨g3, 10, none⟩))), (80, (.bool i.acq)), (81, (.bool true)), (82, (.pointer (some ⟨g3, 11, none⟩))), (83, (.bool i.weak)), (84, (.bool true))] a864 := hA865.cut _ (fm_cons (hA865.get 1 _ rfl) (fm_cons (hA865.get 2 _ rfl) (fm_cons (hA865.get 3 _ rfl) (fm_cons (hA865.get 4 _ rfl) (fm_cons (hA865.get 5 _ rfl) (fm_cons (hA865.get 9 _ rfl) (fm_cons (hA865.get 69 _ rfl) (fm_cons (hA865.get 71 _ rfl) (fm_cons (hA865.get 72 _ rfl) (fm_cons (hA865.get 73 _ rfl) (fm_cons (hA865.get 74 _ rfl) (fm_cons (hA865.get 75 _ rfl) (fm_cons (hA865.get 76 _ rfl) (fm_cons (hA865.get 77 _ rfl) (fm_cons (hA865.get 78 _ rfl) (fm_cons (hA865.get 79 _ rfl) (fm_cons (hA865.get 80 _ rfl) (fm_cons (hA865.get 81 _ rfl) (fm_cons (hA865.get 82 _ rfl) (fm_cons (hA865.get 83 _ rfl) (fm_cons ((hA865.get 84 _ rfl).trans (congrArg Value.bool hb866)) fm_nil)))))))))))))))))))))
          refine q_step hA868 rfl (d_not (wy rfl rfl (hA868.get 78 _ rfl)) (hA868.ev rfl) ?_)
          intro a869 hA870
          refine q_step hA870 rfl (d_pickT (wn rfl) (hA870.ev rfl) (hA870.ev rfl) ?_)
          intro a871 hA872
          refine q_step hA872 rfl (d_assign (wn rfl) (hA872.ev rfl) ?_)
          intro a873 hA874
          refine q_end ?_
          exact ⟨hA874.cut _ (fm_cons (hA874.get 1 _ rfl) (fm_cons (hA874.get 2 _ rfl) (fm_cons (hA874.get 3 _ rfl) (fm_cons (hA874.get 4 _ rfl) (fm_cons ((hA874.get 5 _ rfl).trans (congrArg Value.bool (by simp [hb827, hb843, hb857, hb866]))) fm_nil))))), b842, m839, m840, m841⟩
         ·skip
          have hA876 : St 192 [(1, (.pointer (some ⟨g3, 0, none⟩))), (2, (.pointer (some ⟨g12, 0, none⟩))), (3, (.bool false)), (4, (.pointer (some ⟨g28, 0, none⟩))), (5, (.bool true)), (9, (.int .i64 i.op)), (69, (.bool true)), (71, (.pointer (some ⟨g3, 1, none⟩))), (72, (.int .i64 i.dst)), (73, (.bool true)), (74, (.bool true)), (75, (.agg (insC i))), (76, (.bool true)), (77, (.bool true)), (78, (.bool true)), (79, (.pointer (some ⟨g3, 10, none⟩))), (80, (.bool i.acq)), (81, (.bool true)), (82, (.pointer (some ⟨g3, 11, none⟩))), (83, (.bool i.weak)), (84, (.bool false))] a864 := hA865.cut _ (fm_cons (hA865.get 1 _ rfl) (fm_cons (hA865.get 2 _ rfl) (fm_cons (hA865.get 3 _ rfl) (fm_cons (hA865.get 4 _ rfl) (fm_cons (hA865.get 5 _ rfl) (fm_cons (hA865.get 9 _ rfl) (fm_cons (hA865.get 69 _ rfl) (fm_cons (hA865.get 71 _ rfl) (fm_cons (hA865.get 72 _ rfl) (fm_cons (hA865.get 73 _ rfl) (fm_cons (hA865.get 74 _ rfl) (fm_cons (hA865.get 75 _ rfl) (fm_cons (hA865.get 76 _ rfl) (fm_cons (hA865.get 77 _ rfl) (fm_cons (hA865.get 78 _ rfl) (fm_cons (hA865.get 79 _ rfl) (fm_cons (hA865.get 80 _ rfl) (fm_cons (hA865.get 81 _ rfl) (fm_cons (hA865.get 82 _ rfl) (fm_cons (hA865.get 83 _ rfl) (fm_cons ((hA865.get 84 _ rfl).trans (congrArg Value.bool hb866)) fm_nil)))))))))))))))))))))
          refine q_step hA876 rfl (d_not (wy rfl rfl (hA876.get 78 _ rfl)) (hA876.ev rfl) ?_)
          intro a877 hA878
          refine q_step hA878 rfl (d_pickT (wn rfl) (hA878.ev rfl) (hA878.ev rfl) ?_)
          intro a879 hA880
          refine q_step hA880 rfl (d_assign (wn rfl) (hA880.ev rfl) ?_)
          intro a881 hA882
          refine q_end ?_
          exact ⟨hA882.cut _ (fm_cons (hA882.get 1 _ rfl) (fm_cons (hA882.get 2 _ rfl) (fm_cons (hA882.get 3 _ rfl) (fm_cons (hA882.get 4 _ rfl) (fm_cons ((hA882.get 5 _ rfl).trans (congrArg Value.bool (by simp [hb827, hb843, hb857, hb866]))) fm_nil))))), b842, m839, m840, m841⟩
        ·skip
         have hA884 : St 192 [(1, (.pointer (some ⟨g3, 0, none⟩))), (2, (.pointer (some ⟨g12, 0, none⟩))), (3, (.bool false)), (4, (.pointer (some ⟨g28, 0, none⟩))), (5, (.bool true)), (9, (.int .i64 i.op)), (69, (.bool true)), (71, (.pointer (some ⟨g3, 1, none⟩))), (72, (.int .i64 i.dst)), (73, (.bool true)), (74, (.bool true)), (75, (.agg (insC i))), (76, (.bool true)), (77, (.bool true)), (78, (.bool true)), (79, (.pointer (some ⟨g3, 10, none⟩))), (80, (.bool i.acq)), (81, (.bool false))] a855 := hA856.cut _ (fm_cons (hA856.get 1 _ rfl) (fm_cons (hA856.get 2 _ rfl) (fm_cons (hA856.get 3 _ rfl) (fm_cons (hA856.get 4 _ rfl) (fm_cons (hA856.get 5 _ rfl) (fm_cons (hA856.get 9 _ rfl) (fm_cons (hA856.get 69 _ rfl) (fm_cons (hA856.get 71 _ rfl) (fm_cons (hA856.get 72 _ rfl) (fm_cons (hA856.get 73 _ rfl) (fm_cons (hA856.get 74 _ rfl) (fm_cons (hA856.get 75 _ rfl) (fm_cons (hA856.get 76 _ rfl) (fm_cons (hA856.get 77 _ rfl) (fm_cons (hA856.get 78 _ rfl) (fm_cons (hA856.get 79 _ rfl) (fm_cons (hA856.get 80 _ rfl) (fm_cons ((hA856.get 81 _ rfl).trans (congrArg Value.bool hb857)) fm_nil))))))))))))))))))
         refine q_step hA884 rfl (does_not (wno rfl rfl (.inl (hA884.get 81 _ rfl))) ?_)
         intro a885 hA886
         refine q_step hA886 rfl (does_not (wno rfl rfl (.inl (hA886.get 81 _ rfl))) ?_)
         intro a887 hA888
         refine q_step hA888 rfl (d_pickF (wy rfl rfl (hA888.get 78 _ rfl)) (hA888.ev rfl) (hA888.ev rfl) ?_)
         intro a889 hA890
         refine q_step hA890 rfl (d_not (wy rfl rfl (hA890.get 78 _ rfl)) (hA890.ev rfl) ?_)
         intro a891 hA892
         refine q_step hA892 rfl (d_pickT (wn rfl) (hA892.ev rfl) (hA892.ev rfl) ?_)
         intro a893 hA894
         refine q_step hA894 rfl (d_assign (wn rfl) (hA894.ev rfl) ?_)
         intro a895 hA896
         refine q_end ?_
         exact ⟨hA896.cut _ (fm_cons (hA896.get 1 _ rfl) (fm_cons (hA896.get 2 _ rfl) (fm_cons (hA896.get 3 _ rfl) (fm_cons (hA896.get 4 _ rfl) (fm_cons ((hA896.get 5 _ rfl).trans (congrArg Value.bool (by simp [hb827, hb843, hb857]))) fm_nil))))), b842, m839, m840, m841⟩
       ·skip
        refine ⟨.bool false, he837.trans (ret_bool hb843), ?_⟩
        intro a898 hA899
        refine q_step hA899 rfl (d_pickT (wn rfl) (hA899.ev rfl) (hA899.ev rfl) ?_)
        intro a900 hA901
        refine q_step hA901 rfl (d_move (wn rfl) (hA901.ev rfl) ?_)
        intro a902 hA903
        refine q_step hA903 rfl (does_not (wno rfl rfl (.inl (hA903.get 78 _ rfl))) ?_)
        intro a904 hA905
        refine q_step hA905 rfl (does_not (wno rfl rfl (.inl (hA905.get 78 _ rfl))) ?_)
        intro a906 hA907
        refine q_step hA907 rfl (does_not (wno rfl rfl (.inl (hA907.get 78 _ rfl))) ?_)
        intro a908 hA909
        refine q_step hA909 rfl (does_not (wno rfl rfl (.inr (hA909.get 81 _ rfl))) ?_)
        intro a910 hA911
        refine q_step hA911 rfl (does_not (wno rfl rfl (.inr (hA911.get 81 _ rfl))) ?_)
        intro a912 hA913
        refine q_step hA913 rfl (does_not (wno rfl rfl (.inl (hA913.get 78 _ rfl))) ?_)
        intro a914 hA915
        refine q_step hA915 rfl (does_not (wno rfl rfl (.inl (hA915.get 78 _ rfl))) ?_)
        intro a916 hA917
        refine q_step hA917 rfl (d_pickF (wn rfl) (hA917.ev rfl) (hA917.ev rfl) ?_)
        intro a918 hA919
        refine q_step hA919 rfl (d_assign (wn rfl) (hA919.ev rfl) ?_)
        intro a920 hA921
        refine q_end ?_
        exact ⟨hA921.cut _ (fm_cons (hA921.get 1 _ rfl) (fm_cons (hA921.get 2 _ rfl) (fm_cons (hA921.get 3 _ rfl) (fm_cons (hA921.get 4 _ rfl) (fm_cons ((hA921.get 5 _ rfl).trans (congrArg Value.bool (by simp [hb827, hb843]))) fm_nil))))), b842, m839, m840, m841⟩
      ·skip
       refine ⟨.bool false, he821.trans (ret_bool hb827), ?_⟩
       intro a923 hA924
       refine q_step hA924 rfl (d_move (wn rfl) (hA924.ev rfl) ?_)
       intro a925 hA926
       refine q_step hA926 rfl (does_not (wno rfl rfl (.inl (hA926.get 74 _ rfl))) ?_)
       intro a927 hA928
       refine q_step hA928 rfl (does_not (wno rfl rfl (.inl (hA928.get 74 _ rfl))) ?_)
       intro a929 hA930
       refine q_step hA930 rfl (d_pickF (wn rfl) (hA930.ev rfl) (hA930.ev rfl) ?_)
       intro a931 hA932
       refine q_step hA932 rfl (d_move (wn rfl) (hA932.ev rfl) ?_)
       intro a933 hA934
       refine q_step hA934 rfl (does_not (wno rfl rfl (.inl (hA934.get 78 _ rfl))) ?_)
       intro a935 hA936
       refine q_step hA936 rfl (does_not (wno rfl rfl (.inl (hA936.get 78 _ rfl))) ?_)
       intro a937 hA938
       refine q_step hA938 rfl (does_not (wno rfl rfl (.inl (hA938.get 78 _ rfl))) ?_)
       intro a939 hA940
       refine q_step hA940 rfl (does_not (wno rfl rfl (.inr (hA940.get 81 _ rfl))) ?_)
       intro a941 hA942
       refine q_step hA942 rfl (does_not (wno rfl rfl (.inr (hA942.get 81 _ rfl))) ?_)
       intro a943 hA944
       refine q_step hA944 rfl (does_not (wno rfl rfl (.inl (hA944.get 78 _ rfl))) ?_)
       intro a945 hA946
       refine q_step hA946 rfl (does_not (wno rfl rfl (.inl (hA946.get 78 _ rfl))) ?_)
       intro a947 hA948
       refine q_step hA948 rfl (d_pickF (wn rfl) (hA948.ev rfl) (hA948.ev rfl) ?_)
       intro a949 hA950
       refine q_step hA950 rfl (d_assign (wn rfl) (hA950.ev rfl) ?_)
       intro a951 hA952
       refine q_end ?_
       exact ⟨hA952.cut _ (fm_cons (hA952.get 1 _ rfl) (fm_cons (hA952.get 2 _ rfl) (fm_cons (hA952.get 3 _ rfl) (fm_cons (hA952.get 4 _ rfl) (fm_cons ((hA952.get 5 _ rfl).trans (congrArg Value.bool (by simp [hb827]))) fm_nil))))), b826, m823, m824, m825⟩
     rintro a813 w814 ⟨hA953, b954, m955, m956, m957⟩
     refine t_norm ?_
     refine wp_seq ?_
     refine wp_region_lit ?_
     refine q_step hA953 rfl (d_fieldAddr (wn rfl) (hA953.ev rfl) fo23_1 ?_)
     intro a958 hA959
     refine q_step hA959 rfl (d_store (wn rfl) (hA959.ev rfl) (hA959.ev rfl) one3 rfl m957 (Nat.le_of_ble_eq_true rfl) ?_)
     intro w960 hU961 (m962 : Blk w960 g28 #[.int .i64 0, .int .i64 (-1), .int .i64 i.a, .int .i64 i.b, .int .i64 i.imm, .int .i64 i.loc, .int .i64 i.off, .int .i64 i.index, .int .i64 i.size, .int .i64 i.fn, .bool i.acq, .bool i.weak, .bool i.rel, .int .i64 i.pred, .int .i64 i.succ, .int .i64 i.to, .bool i.zero] 23)
     have m963 := m955.upd hU961 n34
     have m964 := m956.upd hU961 n35
     have b965 := hU961.below b954 ge33
     intro a966 hA967
     refine q_end ?_
     have hA968 : St 192 [(1, (.pointer (some ⟨g3, 0, none⟩))), (2, (.pointer (some ⟨g12, 0, none⟩))), (3, (.bool false)), (4, (.pointer (some ⟨g28, 0, none⟩))), (5, (.bool ((regB i.dst) && ((plcB i) && (cond i.acq (!i.weak) true)))))] a966 := hA967.cut _ (fm_cons (hA967.get 1 _ rfl) (fm_cons (hA967.get 2 _ rfl) (fm_cons (hA967.get 3 _ rfl) (fm_cons (hA967.get 4 _ rfl) (fm_cons (hA967.get 5 _ rfl) fm_nil)))))
     refine t_norm ?_
     refine wp_seq ?_
     refine wp_region_lit ?_
     refine q_step hA968 rfl (d_fieldAddr (wn rfl) (hA968.ev rfl) fo23_10 ?_)
     intro a969 hA970
     refine q_step hA970 rfl (d_store (wn rfl) (hA970.ev rfl) (hA970.ev rfl) one4 rfl m962 (Nat.le_of_ble_eq_true rfl) ?_)
     intro w971 hU972 (m973 : Blk w971 g28 #[.int .i64 0, .int .i64 (-1), .int .i64 i.a, .int .i64 i.b, .int .i64 i.imm, .int .i64 i.loc, .int .i64 i.off, .int .i64 i.index, .int .i64 i.size, .int .i64 i.fn, .bool false, .bool i.weak, .bool i.rel, .int .i64 i.pred, .int .i64 i.succ, .int .i64 i.to, .bool i.zero] 23)
     have m974 := m963.upd hU972 n34
     have m975 := m964.upd hU972 n35
     have b976 := hU972.below b965 ge33
     intro a977 hA978
     refine q_end ?_
     have hA979 : St 192 [(1, (.pointer (some ⟨g3, 0, none⟩))), (2, (.pointer (some ⟨g12, 0, none⟩))), (3, (.bool false)), (4, (.pointer (some ⟨g28, 0, none⟩))), (5, (.bool ((regB i.dst) && ((plcB i) && (cond i.acq (!i.weak) true)))))] a977 := hA978.cut _ (fm_cons (hA978.get 1 _ rfl) (fm_cons (hA978.get 2 _ rfl) (fm_cons (hA978.get 3 _ rfl) (fm_cons (hA978.get 4 _ rfl) (fm_cons (hA978.get 5 _ rfl) fm_nil)))))
     refine t_norm ?_
     refine wp_region_lit ?_
     refine q_step hA979 rfl (d_fieldAddr (wn rfl) (hA979.ev rfl) fo23_11 ?_)
     intro a980 hA981
     refine q_step hA981 rfl (d_store (wn rfl) (hA981.ev rfl) (hA981.ev rfl) one4 rfl m973 (Nat.le_of_ble_eq_true rfl) ?_)
     intro w982 hU983 (m984 : Blk w982 g28 #[.int .i64 0, .int .i64 (-1), .int .i64 i.a, .int .i64 i.b, .int .i64 i.imm, .int .i64 i.loc, .int .i64 i.off, .int .i64 i.index, .int .i64 i.size, .int .i64 i.fn, .bool false, .bool false, .bool i.rel, .int .i64 i.pred, .int .i64 i.succ, .int .i64 i.to, .bool i.zero] 23)
     have m985 := m974.upd hU983 n34
     have m986 := m975.upd hU983 n35
     have b987 := hU983.below b976 ge33
     intro a988 hA989
     refine q_end ?_
     have hA990 : St 192 [(1, (.pointer (some ⟨g3, 0, none⟩))), (2, (.pointer (some ⟨g12, 0, none⟩))), (3, (.bool false)), (4, (.pointer (some ⟨g28, 0, none⟩))), (5, (.bool ((regB i.dst) && ((plcB i) && (cond i.acq (!i.weak) true)))))] a988 := hA989.cut _ (fm_cons (hA989.get 1 _ rfl) (fm_cons (hA989.get 2 _ rfl) (fm_cons (hA989.get 3 _ rfl) (fm_cons (hA989.get 4 _ rfl) (fm_cons (hA989.get 5 _ rfl) fm_nil)))))
     refine i_norm ?_
     refine t_norm ?_
     refine wp_seq ?_
     refine wp_seq ?_
     refine wp_region_lit ?_
     refine q_step hA990 rfl (d_fieldAddr (wn rfl) (hA990.ev rfl) fo23_0 ?_)
     intro a991 hA992
     refine q_step hA992 rfl (d_load (v := (.int .i64 i.op)) (wn rfl) (hA992.ev rfl) one3 (m985.cell rfl) ?_)
     intro a993 hA994
     refine q_step hA994 rfl (d_bin (wn rfl) (hA994.ev rfl) (hA994.ev rfl) (b_eq _ _ i.op 4 true _ hb806) ?_)
     intro a995 hA996
     refine q_step hA996 rfl (d_move (wn rfl) (hA996.ev rfl) ?_)
     intro a997 hA998
     refine q_step hA998 rfl (does_not (wno rfl rfl (.inl (hA998.get 176 _ rfl))) ?_)
     intro a999 hA1000
     refine q_step hA1000 rfl (does_not (wno rfl rfl (.inl (hA1000.get 176 _ rfl))) ?_)
     intro a1001 hA1002
     refine q_step hA1002 rfl (does_not (wno rfl rfl (.inl (hA1002.get 176 _ rfl))) ?_)
     intro a1003 hA1004
     refine q_step hA1004 rfl (d_pickT (wn rfl) (hA1004.ev rfl) (hA1004.ev rfl) ?_)
     intro a1005 hA1006
     refine q_step hA1006 rfl (d_move (wn rfl) (hA1006.ev rfl) ?_)
     intro a1007 hA1008
     refine q_step hA1008 rfl (does_not (wno rfl rfl (.inl (hA1008.get 181 _ rfl))) ?_)
     intro a1009 hA1010
     refine q_step hA1010 rfl (does_not (wno rfl rfl (.inl (hA1010.get 181 _ rfl))) ?_)
     intro a1011 hA1012
     refine q_step hA1012 rfl (does_not (wno rfl rfl (.inl (hA1012.get 181 _ rfl))) ?_)
     intro a1013 hA1014
     refine q_step hA1014 rfl (d_pickT (wn rfl) (hA1014.ev rfl) (hA1014.ev rfl) ?_)
     intro a1015 hA1016
     refine q_end ?_
     have hA1017 : St 192 [(2, (.pointer (some ⟨g12, 0, none⟩))), (3, (.bool false)), (4, (.pointer (some ⟨g28, 0, none⟩))), (5, (.bool ((regB i.dst) && ((plcB i) && (cond i.acq (!i.weak) true))))), (185, (.bool true))] a1015 := hA1016.cut _ (fm_cons (hA1016.get 2 _ rfl) (fm_cons (hA1016.get 3 _ rfl) (fm_cons (hA1016.get 4 _ rfl) (fm_cons (hA1016.get 5 _ rfl) (fm_cons (hA1016.get 185 _ rfl) fm_nil)))))
     refine t_norm ?_
     refine c_true hA1017 rfl ?_
     refine wp_seq ?_
     refine wp_region_lit ?_
     refine q_step hA1017 rfl (d_fieldAddr (wn rfl) (hA1017.ev rfl) fo23_5 ?_)
     intro a1018 hA1019
     refine q_step hA1019 rfl (d_store (wn rfl) (hA1019.ev rfl) (hA1019.ev rfl) one3 rfl m984 (Nat.le_of_ble_eq_true rfl) ?_)
     intro w1020 hU1021 (m1022 : Blk w1020 g28 #[.int .i64 0, .int .i64 (-1), .int .i64 i.a, .int .i64 i.b, .int .i64 i.imm, .int .i64 0, .int .i64 i.off, .int .i64 i.index, .int .i64 i.size, .int .i64 i.fn, .bool false, .bool false, .bool i.rel, .int .i64 i.pred, .int .i64 i.succ, .int .i64 i.to, .bool i.zero] 23)
     have m1023 := m985.upd hU1021 n34
     have m1024 := m986.upd hU1021 n35
     have b1025 := hU1021.below b987 ge33
     intro a1026 hA1027
     refine q_end ?_
     have hA1028 : St 192 [(2, (.pointer (some ⟨g12, 0, none⟩))), (3, (.bool false)), (4, (.pointer (some ⟨g28, 0, none⟩))), (5, (.bool ((regB i.dst) && ((plcB i) && (cond i.acq (!i.weak) true)))))] a1026 := hA1027.cut _ (fm_cons (hA1027.get 2 _ rfl) (fm_cons (hA1027.get 3 _ rfl) (fm_cons (hA1027.get 4 _ rfl) (fm_cons (hA1027.get 5 _ rfl) fm_nil))))
     refine t_norm ?_
     refine wp_seq ?_
     refine wp_region_lit ?_
     refine q_step hA1028 rfl (d_fieldAddr (wn rfl) (hA1028.ev rfl) fo23_6 ?_)
     intro a1029 hA1030
     refine q_step hA1030 rfl (d_store (wn rfl) (hA1030.ev rfl) (hA1030.ev rfl) one3 rfl m1022 (Nat.le_of_ble_eq_true rfl) ?_)
     intro w1031 hU1032 (m1033 : Blk w1031 g28 #[.int .i64 0, .int .i64 (-1), .int .i64 i.a, .int .i64 i.b, .int .i64 i.imm, .int .i64 0, .int .i64 0, .int .i64 i.index, .int .i64 i.size, .int .i64 i.fn, .bool false, .bool false, .bool i.rel, .int .i64 i.pred, .int .i64 i.succ, .int .i64 i.to, .bool i.zero] 23)
     have m1034 := m1023.upd hU1032 n34
     have m1035 := m1024.upd hU1032 n35
     have b1036 := hU1032.below b1025 ge33
     intro a1037 hA1038
     refine q_end ?_
     have hA1039 : St 192 [(2, (.pointer (some ⟨g12, 0, none⟩))), (3, (.bool false)), (4, (.pointer (some ⟨g28, 0, none⟩))), (5, (.bool ((regB i.dst) && ((plcB i) && (cond i.acq (!i.weak) true)))))] a1037 := hA1038.cut _ (fm_cons (hA1038.get 2 _ rfl) (fm_cons (hA1038.get 3 _ rfl) (fm_cons (hA1038.get 4 _ rfl) (fm_cons (hA1038.get 5 _ rfl) fm_nil))))
     refine t_norm ?_
     refine wp_seq ?_
     refine wp_region_lit ?_
     refine q_step hA1039 rfl (d_fieldAddr (wn rfl) (hA1039.ev rfl) fo23_7 ?_)
     intro a1040 hA1041
     refine q_step hA1041 rfl (d_store (wn rfl) (hA1041.ev rfl) (hA1041.ev rfl) one3 rfl m1033 (Nat.le_of_ble_eq_true rfl) ?_)
     intro w1042 hU1043 (m1044 : Blk w1042 g28 #[.int .i64 0, .int .i64 (-1), .int .i64 i.a, .int .i64 i.b, .int .i64 i.imm, .int .i64 0, .int .i64 0, .int .i64 (-1), .int .i64 i.size, .int .i64 i.fn, .bool false, .bool false, .bool i.rel, .int .i64 i.pred, .int .i64 i.succ, .int .i64 i.to, .bool i.zero] 23)
     have m1045 := m1034.upd hU1043 n34
     have m1046 := m1035.upd hU1043 n35
     have b1047 := hU1043.below b1036 ge33
     intro a1048 hA1049
     refine q_end ?_
     have hA1050 : St 192 [(2, (.pointer (some ⟨g12, 0, none⟩))), (3, (.bool false)), (4, (.pointer (some ⟨g28, 0, none⟩))), (5, (.bool ((regB i.dst) && ((plcB i) && (cond i.acq (!i.weak) true)))))] a1048 := hA1049.cut _ (fm_cons (hA1049.get 2 _ rfl) (fm_cons (hA1049.get 3 _ rfl) (fm_cons (hA1049.get 4 _ rfl) (fm_cons (hA1049.get 5 _ rfl) fm_nil))))
     refine t_norm ?_
     refine wp_region_lit ?_
     refine q_step hA1050 rfl (d_fieldAddr (wn rfl) (hA1050.ev rfl) fo23_8 ?_)
     intro a1051 hA1052
     refine q_step hA1052 rfl (d_store (wn rfl) (hA1052.ev rfl) (hA1052.ev rfl) one3 rfl m1044 (Nat.le_of_ble_eq_true rfl) ?_)
     intro w1053 hU1054 (m1055 : Blk w1053 g28 #[.int .i64 0, .int .i64 (-1), .int .i64 i.a, .int .i64 i.b, .int .i64 i.imm, .int .i64 0, .int .i64 0, .int .i64 (-1), .int .i64 0, .int .i64 i.fn, .bool false, .bool false, .bool i.rel, .int .i64 i.pred, .int .i64 i.succ, .int .i64 i.to, .bool i.zero] 23)
     have m1056 := m1045.upd hU1054 n34
     have m1057 := m1046.upd hU1054 n35
     have b1058 := hU1054.below b1047 ge33
     intro a1059 hA1060
     refine q_end ?_
     have hA1061 : St 192 [(2, (.pointer (some ⟨g12, 0, none⟩))), (3, (.bool false)), (4, (.pointer (some ⟨g28, 0, none⟩))), (5, (.bool ((regB i.dst) && ((plcB i) && (cond i.acq (!i.weak) true)))))] a1059 := hA1060.cut _ (fm_cons (hA1060.get 2 _ rfl) (fm_cons (hA1060.get 3 _ rfl) (fm_cons (hA1060.get 4 _ rfl) (fm_cons (hA1060.get 5 _ rfl) fm_nil))))
     refine t_norm ?_
     refine wp_seq ?_
     refine wp_region_lit ?_
     refine q_step hA1061 rfl (d_loadRow (cs := #[.int .i64 0, .int .i64 (-1), .int .i64 i.a, .int .i64 i.b, .int .i64 i.imm, .int .i64 0, .int .i64 0, .int .i64 (-1), .int .i64 0, .int .i64 i.fn, .bool false, .bool false, .bool i.rel, .int .i64 i.pred, .int .i64 i.succ, .int .i64 i.to, .bool i.zero]) (wn rfl) (hA1061.ev rfl) row23 m1055 ?_)
     intro a1062 hA1063
     refine q_step hA1063 rfl (d_move (wn rfl) (hA1063.ev rfl) ?_)
     intro a1064 hA1065
     refine q_step hA1065 rfl (d_storeRow (wn rfl) (hA1065.ev rfl) (hA1065.ev rfl) row23 m1057 rfl rfl ?_)
     intro w1066 hU1067 (m1068 : Blk w1066 g12 #[.int .i64 0, .int .i64 (-1), .int .i64 i.a, .int .i64 i.b, .int .i64 i.imm, .int .i64 0, .int .i64 0, .int .i64 (-1), .int .i64 0, .int .i64 i.fn, .bool false, .bool false, .bool i.rel, .int .i64 i.pred, .int .i64 i.succ, .int .i64 i.to, .bool i.zero] 23)
     have m1069 := m1056.upd hU1067 n18
     have m1070 := m1055.upd hU1067 (Ne.symm n35)
     have b1071 := hU1067.below b1058 ge17
     intro a1072 hA1073
     refine q_step hA1073 rfl (d_assign (wn rfl) (hA1073.ev rfl) ?_)
     intro a1074 hA1075
     refine q_end ?_
     have hA1076 : St 192 [(2, (.pointer (some ⟨g12, 0, none⟩))), (3, (.bool ((regB i.dst) && ((plcB i) && (cond i.acq (!i.weak) true)))))] a1074 := hA1075.cut _ (fm_cons (hA1075.get 2 _ rfl) (fm_cons (hA1075.get 3 _ rfl) fm_nil))
     refine t_norm ?_
     refine wp_ret ?_
     refine retCT (g := g12) (cs := #[.int .i64 0, .int .i64 (-1), .int .i64 i.a, .int .i64 i.b, .int .i64 i.imm, .int .i64 0, .int .i64 0, .int .i64 (-1), .int .i64 0, .int .i64 i.fn, .bool false, .bool false, .bool i.rel, .int .i64 i.pred, .int .i64 i.succ, .int .i64 i.to, .bool i.zero]) (v := (.bool ((regB i.dst) && ((plcB i) && (cond i.acq (!i.weak) true))))) rfl hA1076 rfl rfl m1068 row23 ?_
     exact ⟨ret_two (by simp [insC, bareF, opB, rdB, wrB, hb69, hb176, hb320, eq_of_beq hb806]) (by first | (simp [fineB, hb69, hb176, hb320, eq_of_beq hb806, Bool.or_assoc, Bool.and_assoc]; done) | (rw [Bool.eq_iff_iff]; simp [fineB, hb69, hb176, hb320, eq_of_beq hb806]; done) | (rw [Bool.eq_iff_iff]; simp [fineB, hb69, hb176, hb320, eq_of_beq hb806]; omega) | grind), b1071⟩
    ·skip
     have hq1077 := ne_of_beq hb806
     refine q_step hA805 rfl (d_bin (wn rfl) (hA805.ev rfl) (hA805.ev rfl) (b_eq _ _ i.op 4 false _ hb806) ?_)
     intro a1078 hA1079
     refine q_step hA1079 rfl (d_assign (wn rfl) (hA1079.ev rfl) ?_)
     intro a1080 hA1081
     refine q_end ?_
     have hA1082 : St 192 [(1, (.pointer (some ⟨g3, 0, none⟩))), (2, (.pointer (some ⟨g12, 0, none⟩))), (3, (.bool false)), (4, (.pointer (some ⟨g28, 0, none⟩))), (5, (.bool true)), (9, (.int .i64 i.op)), (69, (.bool false))] a1080 := hA1081.cut _ (fm_cons (hA1081.get 1 _ rfl) (fm_cons (hA1081.get 2 _ rfl) (fm_cons (hA1081.get 3 _ rfl) (fm_cons (hA1081.get 4 _ rfl) (fm_cons (hA1081.get 5 _ rfl) (fm_cons (hA1081.get 9 _ rfl) (fm_cons (hA1081.get 69 _ rfl) fm_nil)))))))
     refine t_norm ?_
     refine c_false hA1082 rfl ?_
     refine wp_seq ?_
     refine wp_region_lit ?_
     rcases Bool.eq_false_or_eq_true (i.op == 5) with hb1083 | hb1083
     ·skip
      have hq1084 := eq_of_beq hb1083
      refine q_step hA1082 rfl (d_bin (wn rfl) (hA1082.ev rfl) (hA1082.ev rfl) (b_eq _ _ i.op 5 true _ hb1083) ?_)
      intro a1085 hA1086
      refine q_step hA1086 rfl (d_assign (wn rfl) (hA1086.ev rfl) ?_)
      intro a1087 hA1088
      refine q_end ?_
      have hA1089 : St 192 [(1, (.pointer (some ⟨g3, 0, none⟩))), (2, (.pointer (some ⟨g12, 0, none⟩))), (3, (.bool false)), (4, (.pointer (some ⟨g28, 0, none⟩))), (5, (.bool true)), (9, (.int .i64 i.op)), (90, (.bool true))] a1087 := hA1088.cut _ (fm_cons (hA1088.get 1 _ rfl) (fm_cons (hA1088.get 2 _ rfl) (fm_cons (hA1088.get 3 _ rfl) (fm_cons (hA1088.get 4 _ rfl) (fm_cons (hA1088.get 5 _ rfl) (fm_cons (hA1088.get 9 _ rfl) (fm_cons (hA1088.get 90 _ rfl) fm_nil)))))))
      refine t_norm ?_
      refine c_true hA1089 rfl ?_
      refine wp_seq ?_
      refine join_wp (K := fun a1090 w1091 => St 192 [(1, (.pointer (some ⟨g3, 0, none⟩))), (2, (.pointer (some ⟨g12, 0, none⟩))), (3, (.bool false)), (4, (.pointer (some ⟨g28, 0, none⟩))), (5, (.bool ((plcB i) && ((i.a == (-1)) || ((regB i.a) && (i.imm == 0))))))] a1090 ∧ Below w.heap.size w w1091 ∧ Blk w1091 g3 (insC i) 23 ∧ Blk w1091 g12 #[.int .i64 0, .int .i64 0, .int .i64 0, .int .i64 0, .int .i64 0, .int .i64 0, .int .i64 0, .int .i64 0, .int .i64 0, .int .i64 0, .bool false, .bool false, .bool false, .int .i64 0, .int .i64 0, .int .i64 0, .bool false] 23 ∧ Blk w1091 g28 #[.int .i64 0, .int .i64 i.dst, .int .i64 i.a, .int .i64 i.b, .int .i64 i.imm, .int .i64 i.loc, .int .i64 i.off, .int .i64 i.index, .int .i64 i.size, .int .i64 i.fn, .bool i.acq, .bool i.weak, .bool i.rel, .int .i64 i.pred, .int .i64 i.succ, .int .i64 i.to, .bool i.zero] 23) ?_ ?_
      ·skip
       refine wp_region_lit ?_
       refine q_step hA1089 rfl (d_loadRow (cs := (insC i)) (wn rfl) (hA1089.ev rfl) row23 m58 ?_)
       intro a1092 hA1093
       refine q_step hA1093 rfl (d_call (wn rfl) ent45 (map1 (hA1093.ev rfl)) (place3_any i w55) ?_)
       rintro e1097 w1094 ⟨he1096, hG1095⟩
       have m1098 := m58.grow hG1095
       have m1099 := m59.grow hG1095
       have m1100 := m57.grow hG1095
       have b1101 := below_grow b60 hG1095 b60.size
       rcases Bool.eq_false_or_eq_true (plcB i) with hb1102 | hb1102
       ·skip
        refine ⟨.bool true, he1096.trans (ret_bool hb1102), ?_⟩
        intro a1104 hA1105
        refine q_step hA1105 rfl (d_move (wn rfl) (hA1105.ev rfl) ?_)
        intro a1106 hA1107
        refine q_step hA1107 rfl (d_fieldAddr (wy rfl rfl (hA1107.get 94 _ rfl)) (hA1107.ev rfl) fo23_2 ?_)
        intro a1108 hA1109
        refine q_step hA1109 rfl (d_load (v := (.int .i64 i.a)) (wy rfl rfl (hA1109.get 94 _ rfl)) (hA1109.ev rfl) one3 (m1098.cell rfl) ?_)
        intro a1110 hA1111
        rcases Bool.eq_false_or_eq_true (i.a == (-1)) with hb1112 | hb1112
        ·skip
         have hq1113 := eq_of_beq hb1112
         refine q_step hA1111 rfl (d_bin (wy rfl rfl (hA1111.get 94 _ rfl)) (hA1111.ev rfl) (hA1111.ev rfl) (b_eq _ _ i.a (-1) true _ hb1112) ?_)
         intro a1114 hA1115
         refine q_step hA1115 rfl (d_move (wy rfl rfl (hA1115.get 94 _ rfl)) (hA1115.ev rfl) ?_)
         intro a1116 hA1117
         refine q_step hA1117 rfl (does_not (wno rfl rfl (.inl (hA1117.get 98 _ rfl))) ?_)
         intro a1118 hA1119
         refine q_step hA1119 rfl (does_not (wno rfl rfl (.inl (hA1119.get 98 _ rfl))) ?_)
         intro a1120 hA1121
         refine q_step hA1121 rfl (does_not (wno rfl rfl (.inl (hA1121.get 98 _ rfl))) ?_)
         intro a1122 hA1123
         refine q_step hA1123 rfl (does_not (wno rfl rfl (.inl (hA1123.get 98 _ rfl))) ?_)
         intro a1124 hA1125
         refine q_step hA1125 rfl (does_not (wno rfl rfl (.inr (hA1125.get 102 _ rfl))) ?_)
         intro a1126 hA1127
         refine q_step hA1127 rfl (does_not (wno rfl rfl (.inr (hA1127.get 102 _ rfl))) ?_)
         intro a1128 hA1129
         refine q_step hA1129 rfl (does_not (wno rfl rfl (.inr (hA1129.get 102 _ rfl))) ?_)
         intro a1130 hA1131
         refine q_step hA1131 rfl (does_not (wno rfl rfl (.inl (hA1131.get 98 _ rfl))) ?_)
         intro a1132 hA1133
         refine q_step hA1133 rfl (d_pickT (wy rfl rfl (hA1133.get 94 _ rfl)) (hA1133.ev rfl) (hA1133.ev rfl) ?_)
         intro a1134 hA1135
         refine q_step hA1135 rfl (d_pickT (wn rfl) (hA1135.ev rfl) (hA1135.ev rfl) ?_)
         intro a1136 hA1137
         refine q_step hA1137 rfl (d_assign (wn rfl) (hA1137.ev rfl) ?_)
         intro a1138 hA1139
         refine q_end ?_
         exact ⟨hA1139.cut _ (fm_cons (hA1139.get 1 _ rfl) (fm_cons (hA1139.get 2 _ rfl) (fm_cons (hA1139.get 3 _ rfl) (fm_cons (hA1139.get 4 _ rfl) (fm_cons ((hA1139.get 5 _ rfl).trans (congrArg Value.bool (by simp [hb1102, hb1112]))) fm_nil))))), b1101, m1098, m1099, m1100⟩
        ·skip
         have hq1140 := ne_of_beq hb1112
         refine q_step hA1111 rfl (d_bin (wy rfl rfl (hA1111.get 94 _ rfl)) (hA1111.ev rfl) (hA1111.ev rfl) (b_eq _ _ i.a (-1) false _ hb1112) ?_)
         intro a1141 hA1142
         refine q_step hA1142 rfl (d_move (wy rfl rfl (hA1142.get 94 _ rfl)) (hA1142.ev rfl) ?_)
         intro a1143 hA1144
         refine q_step hA1144 rfl (d_fieldAddr (wy rfl rfl (hA1144.get 98 _ rfl)) (hA1144.ev rfl) fo23_2 ?_)
         intro a1145 hA1146
         refine q_step hA1146 rfl (d_load (v := (.int .i64 i.a)) (wy rfl rfl (hA1146.get 98 _ rfl)) (hA1146.ev rfl) one3 (m1098.cell rfl) ?_)
         intro a1147 hA1148
         refine q_step hA1148 rfl (d_call (wy rfl rfl (hA1148.get 98 _ rfl)) ent44 (map1 (hA1148.ev rfl)) (rreg_any i.a w1094) ?_)
         rintro e1152 w1149 ⟨he1151, hG1150⟩
         have m1153 := m1098.grow hG1150
         have m1154 := m1099.grow hG1150
         have m1155 := m1100.grow hG1150
         have b1156 := below_grow b1101 hG1150 b1101.size
         rcases Bool.eq_false_or_eq_true (regB i.a) with hb1157 | hb1157
         ·skip
          refine ⟨.bool true, he1151.trans (ret_bool hb1157), ?_⟩
          intro a1159 hA1160
          refine q_step hA1160 rfl (d_move (wy rfl rfl (hA1160.get 98 _ rfl)) (hA1160.ev rfl) ?_)
          intro a1161 hA1162
          refine q_step hA1162 rfl (d_fieldAddr (wy rfl rfl (hA1162.get 102 _ rfl)) (hA1162.ev rfl) fo23_4 ?_)
          intro a1163 hA1164
          refine q_step hA1164 rfl (d_load (v := (.int .i64 i.imm)) (wy rfl rfl (hA1164.get 102 _ rfl)) (hA1164.ev rfl) one3 (m1153.cell rfl) ?_)
          intro a1165 hA1166
          rcases Bool.eq_false_or_eq_true (i.imm == 0) with hb1167 | hb1167
          ·skip
           have hq1168 := eq_of_beq hb1167
           refine q_step hA1166 rfl (d_bin (wy rfl rfl (hA1166.get 102 _ rfl)) (hA1166.ev rfl) (hA1166.ev rfl) (b_eq _ _ i.imm 0 true _ hb1167) ?_)
           intro a1169 hA1170
           refine q_step hA1170 rfl (d_pickT (wy rfl rfl (hA1170.get 98 _ rfl)) (hA1170.ev rfl) (hA1170.ev rfl) ?_)
           intro a1171 hA1172
           refine q_step hA1172 rfl (d_pickF (wy rfl rfl (hA1172.get 94 _ rfl)) (hA1172.ev rfl) (hA1172.ev rfl) ?_)
           intro a1173 hA1174
           refine q_step hA1174 rfl (d_pickT (wn rfl) (hA1174.ev rfl) (hA1174.ev rfl) ?_)
           intro a1175 hA1176
           refine q_step hA1176 rfl (d_assign (wn rfl) (hA1176.ev rfl) ?_)
           intro a1177 hA1178
           refine q_end ?_
           exact ⟨hA1178.cut _ (fm_cons (hA1178.get 1 _ rfl) (fm_cons (hA1178.get 2 _ rfl) (fm_cons (hA1178.get 3 _ rfl) (fm_cons (hA1178.get 4 _ rfl) (fm_cons ((hA1178.get 5 _ rfl).trans (congrArg Value.bool (by simp [hb1102, hb1112, hb1157, hb1167]))) fm_nil))))), b1156, m1153, m1154, m1155⟩
          ·skip
           have hq1179 := ne_of_beq hb1167
           refine q_step hA1166 rfl (d_bin (wy rfl rfl (hA1166.get 102 _ rfl)) (hA1166.ev rfl) (hA1166.ev rfl) (b_eq _ _ i.imm 0 false _ hb1167) ?_)
           intro a1180 hA1181
           refine q_step hA1181 rfl (d_pickT (wy rfl rfl (hA1181.get 98 _ rfl)) (hA1181.ev rfl) (hA1181.ev rfl) ?_)
           intro a1182 hA1183
           refine q_step hA1183 rfl (d_pickF (wy rfl rfl (hA1183.get 94 _ rfl)) (hA1183.ev rfl) (hA1183.ev rfl) ?_)
           intro a1184 hA1185
           refine q_step hA1185 rfl (d_pickT (wn rfl) (hA1185.ev rfl) (hA1185.ev rfl) ?_)
           intro a1186 hA1187
           refine q_step hA1187 rfl (d_assign (wn rfl) (hA1187.ev rfl) ?_)
           intro a1188 hA1189
           refine q_end ?_
           exact ⟨hA1189.cut _ (fm_cons (hA1189.get 1 _ rfl) (fm_cons (hA1189.get 2 _ rfl) (fm_cons (hA1189.get 3 _ rfl) (fm_cons (hA1189.get 4 _ rfl) (fm_cons ((hA1189.get 5 _ rfl).trans (congrArg Value.bool (by simp [hb1102, hb1112, hb1157, hb1167]))) fm_nil))))), b1156, m1153, m1154, m1155⟩
         ·skip
          refine ⟨.bool false, he1151.trans (ret_bool hb1157), ?_⟩
          intro a1191 hA1192
          refine q_step hA1192 rfl (d_move (wy rfl rfl (hA1192.get 98 _ rfl)) (hA1192.ev rfl) ?_)
          intro a1193 hA1194
          refine q_step hA1194 rfl (does_not (wno rfl rfl (.inl (hA1194.get 102 _ rfl))) ?_)
          intro a1195 hA1196
          refine q_step hA1196 rfl (does_not (wno rfl rfl (.inl (hA1196.get 102 _ rfl))) ?_)
          intro a1197 hA1198
          refine q_step hA1198 rfl (does_not (wno rfl rfl (.inl (hA1198.get 102 _ rfl))) ?_)
          intro a1199 hA1200
          refine q_step hA1200 rfl (d_pickF (wy rfl rfl (hA1200.get 98 _ rfl)) (hA1200.ev rfl) (hA1200.ev rfl) ?_)
          intro a1201 hA1202
          refine q_step hA1202 rfl (d_pickF (wy rfl rfl (hA1202.get 94 _ rfl)) (hA1202.ev rfl) (hA1202.ev rfl) ?_)
          intro a1203 hA1204
          refine q_step hA1204 rfl (d_pickT (wn rfl) (hA1204.ev rfl) (hA1204.ev rfl) ?_)
          intro a1205 hA1206
          refine q_step hA1206 rfl (d_assign (wn rfl) (hA1206.ev rfl) ?_)
          intro a1207 hA1208
          refine q_end ?_
          exact ⟨hA1208.cut _ (fm_cons (hA1208.get 1 _ rfl) (fm_cons (hA1208.get 2 _ rfl) (fm_cons (hA1208.get 3 _ rfl) (fm_cons (hA1208.get 4 _ rfl) (fm_cons ((hA1208.get 5 _ rfl).trans (congrArg Value.bool (by simp [hb1102, hb1112, hb1157]))) fm_nil))))), b1156, m1153, m1154, m1155⟩
       ·skip
        refine ⟨.bool false, he1096.trans (ret_bool hb1102), ?_⟩
        intro a1210 hA1211
        refine q_step hA1211 rfl (d_move (wn rfl) (hA1211.ev rfl) ?_)
        intro a1212 hA1213
        refine q_step hA1213 rfl (does_not (wno rfl rfl (.inl (hA1213.get 94 _ rfl))) ?_)
        intro a1214 hA1215
        refine q_step hA1215 rfl (does_not (wno rfl rfl (.inl (hA1215.get 94 _ rfl))) ?_)
        intro a1216 hA1217
        refine q_step hA1217 rfl (does_not (wno rfl rfl (.inl (hA1217.get 94 _ rfl))) ?_)
        intro a1218 hA1219
        refine q_step hA1219 rfl (does_not (wno rfl rfl (.inl (hA1219.get 94 _ rfl))) ?_)
        intro a1220 hA1221
        refine q_step hA1221 rfl (does_not (wno rfl rfl (.inr (hA1221.get 98 _ rfl))) ?_)
        intro a1222 hA1223
        refine q_step hA1223 rfl (does_not (wno rfl rfl (.inr (hA1223.get 98 _ rfl))) ?_)
        intro a1224 hA1225
        refine q_step hA1225 rfl (does_not (wno rfl rfl (.inr (hA1225.get 98 _ rfl))) ?_)
        intro a1226 hA1227
        refine q_step hA1227 rfl (does_not (wno rfl rfl (.inr (hA1227.get 98 _ rfl))) ?_)
        intro a1228 hA1229
        refine q_step hA1229 rfl (does_not (wno rfl rfl (.inr (hA1229.get 102 _ rfl))) ?_)
        intro a1230 hA1231
        refine q_step hA1231 rfl (does_not (wno rfl rfl (.inr (hA1231.get 102 _ rfl))) ?_)
        intro a1232 hA1233
        refine q_step hA1233 rfl (does_not (wno rfl rfl (.inr (hA1233.get 102 _ rfl))) ?_)
        intro a1234 hA1235
        refine q_step hA1235 rfl (does_not (wno rfl rfl (.inr (hA1235.get 98 _ rfl))) ?_)
        intro a1236 hA1237
        refine q_step hA1237 rfl (does_not (wno rfl rfl (.inl (hA1237.get 94 _ rfl))) ?_)
        intro a1238 hA1239
        refine q_step hA1239 rfl (d_pickF (wn rfl) (hA1239.ev rfl) (hA1239.ev rfl) ?_)
        intro a1240 hA1241
        refine q_step hA1241 rfl (d_assign (wn rfl) (hA1241.ev rfl) ?_)
        intro a1242 hA1243
        refine q_end ?_
        exact ⟨hA1243.cut _ (fm_cons (hA1243.get 1 _ rfl) (fm_cons (hA1243.get 2 _ rfl) (fm_cons (hA1243.get 3 _ rfl) (fm_cons (hA1243.get 4 _ rfl) (fm_cons ((hA1243.get 5 _ rfl).trans (congrArg Value.bool (by simp [hb1102]))) fm_nil))))), b1101, m1098, m1099, m1100⟩
      rintro a1090 w1091 ⟨hA1244, b1245, m1246, m1247, m1248⟩
      refine t_norm ?_
      refine wp_seq ?_
      refine wp_region_lit ?_
      refine q_step hA1244 rfl (d_fieldAddr (wn rfl) (hA1244.ev rfl) fo23_2 ?_)
      intro a1249 hA1250
      refine q_step hA1250 rfl (d_store (wn rfl) (hA1250.ev rfl) (hA1250.ev rfl) one3 rfl m1248 (Nat.le_of_ble_eq_true rfl) ?_)
      intro w1251 hU1252 (m1253 : Blk w1251 g28 #[.int .i64 0, .int .i64 i.dst, .int .i64 (-1), .int .i64 i.b, .int .i64 i.imm, .int .i64 i.loc, .int .i64 i.off, .int .i64 i.index, .int .i64 i.size, .int .i64 i.fn, .bool i.acq, .bool i.weak, .bool i.rel, .int .i64 i.pred, .int .i64 i.succ, .int .i64 i.to, .bool i.zero] 23)
      have m1254 := m1246.upd hU1252 n34
      have m1255 := m1247.upd hU1252 n35
      have b1256 := hU1252.below b1245 ge33
      intro a1257 hA1258
      refine q_end ?_
      have hA1259 : St 192 [(1, (.pointer (some ⟨g3, 0, none⟩))), (2, (.pointer (some ⟨g12, 0, none⟩))), (3, (.bool false)), (4, (.pointer (some ⟨g28, 0, none⟩))), (5, (.bool ((plcB i) && ((i.a == (-1)) || ((regB i.a) && (i.imm == 0))))))] a1257 := hA1258.cut _ (fm_cons (hA1258.get 1 _ rfl) (fm_cons (hA1258.get 2 _ rfl) (fm_cons (hA1258.get 3 _ rfl) (fm_cons (hA1258.get 4 _ rfl) (fm_cons (hA1258.get 5 _ rfl) fm_nil)))))
      refine t_norm ?_
      refine wp_seq ?_
      refine wp_region_lit ?_
      refine q_step hA1259 rfl (d_fieldAddr (wn rfl) (hA1259.ev rfl) fo23_4 ?_)
      intro a1260 hA1261
      refine q_step hA1261 rfl (d_store (wn rfl) (hA1261.ev rfl) (hA1261.ev rfl) one3 rfl m1253 (Nat.le_of_ble_eq_true rfl) ?_)
      intro w1262 hU1263 (m1264 : Blk w1262 g28 #[.int .i64 0, .int .i64 i.dst, .int .i64 (-1), .int .i64 i.b, .int .i64 0, .int .i64 i.loc, .int .i64 i.off, .int .i64 i.index, .int .i64 i.size, .int .i64 i.fn, .bool i.acq, .bool i.weak, .bool i.rel, .int .i64 i.pred, .int .i64 i.succ, .int .i64 i.to, .bool i.zero] 23)
      have m1265 := m1254.upd hU1263 n34
      have m1266 := m1255.upd hU1263 n35
      have b1267 := hU1263.below b1256 ge33
      intro a1268 hA1269
      refine q_end ?_
      have hA1270 : St 192 [(1, (.pointer (some ⟨g3, 0, none⟩))), (2, (.pointer (some ⟨g12, 0, none⟩))), (3, (.bool false)), (4, (.pointer (some ⟨g28, 0, none⟩))), (5, (.bool ((plcB i) && ((i.a == (-1)) || ((regB i.a) && (i.imm == 0))))))] a1268 := hA1269.cut _ (fm_cons (hA1269.get 1 _ rfl) (fm_cons (hA1269.get 2 _ rfl) (fm_cons (hA1269.get 3 _ rfl) (fm_cons (hA1269.get 4 _ rfl) (fm_cons (hA1269.get 5 _ rfl) fm_nil)))))
      refine t_norm ?_
      refine wp_region_lit ?_
      refine q_step hA1270 rfl (d_fieldAddr (wn rfl) (hA1270.ev rfl) fo23_12 ?_)
      intro a1271 hA1272
      refine q_step hA1272 rfl (d_store (wn rfl) (hA1272.ev rfl) (hA1272.ev rfl) one4 rfl m1264 (Nat.le_of_ble_eq_true rfl) ?_)
      intro w1273 hU1274 (m1275 : Blk w1273 g28 #[.int .i64 0, .int .i64 i.dst, .int .i64 (-1), .int .i64 i.b, .int .i64 0, .int .i64 i.loc, .int .i64 i.off, .int .i64 i.index, .int .i64 i.size, .int .i64 i.fn, .bool i.acq, .bool i.weak, .bool false, .int .i64 i.pred, .int .i64 i.succ, .int .i64 i.to, .bool i.zero] 23)
      have m1276 := m1265.upd hU1274 n34
      have m1277 := m1266.upd hU1274 n35
      have b1278 := hU1274.below b1267 ge33
      intro a1279 hA1280
      refine q_end ?_
      have hA1281 : St 192 [(1, (.pointer (some ⟨g3, 0, none⟩))), (2, (.pointer (some ⟨g12, 0, none⟩))), (3, (.bool false)), (4, (.pointer (some ⟨g28, 0, none⟩))), (5, (.bool ((plcB i) && ((i.a == (-1)) || ((regB i.a) && (i.imm == 0))))))] a1279 := hA1280.cut _ (fm_cons (hA1280.get 1 _ rfl) (fm_cons (hA1280.get 2 _ rfl) (fm_cons (hA1280.get 3 _ rfl) (fm_cons (hA1280.get 4 _ rfl) (fm_cons (hA1280.get 5 _ rfl) fm_nil)))))
      refine i_norm ?_
      refine t_norm ?_
      refine wp_seq ?_
      refine wp_seq ?_
      refine wp_region_lit ?_
      refine q_step hA1281 rfl (d_fieldAddr (wn rfl) (hA1281.ev rfl) fo23_0 ?_)
      intro a1282 hA1283
      refine q_step hA1283 rfl (d_load (v := (.int .i64 i.op)) (wn rfl) (hA1283.ev rfl) one3 (m1276.cell rfl) ?_)
      intro a1284 hA1285
      refine q_step hA1285 rfl (d_bin (wn rfl) (hA1285.ev rfl) (hA1285.ev rfl) (b_eq _ _ i.op 4 false _ hb806) ?_)
      intro a1286 hA1287
      refine q_step hA1287 rfl (d_move (wn rfl) (hA1287.ev rfl) ?_)
      intro a1288 hA1289
      refine q_step hA1289 rfl (d_fieldAddr (wy rfl rfl (hA1289.get 176 _ rfl)) (hA1289.ev rfl) fo23_0 ?_)
      intro a1290 hA1291
      refine q_step hA1291 rfl (d_load (v := (.int .i64 i.op)) (wy rfl rfl (hA1291.get 176 _ rfl)) (hA1291.ev rfl) one3 (m1276.cell rfl) ?_)
      intro a1292 hA1293
      refine q_step hA1293 rfl (d_bin (wy rfl rfl (hA1293.get 176 _ rfl)) (hA1293.ev rfl) (hA1293.ev rfl) (b_eq _ _ i.op 5 true _ hb1083) ?_)
      intro a1294 hA1295
      refine q_step hA1295 rfl (d_pickF (wn rfl) (hA1295.ev rfl) (hA1295.ev rfl) ?_)
      intro a1296 hA1297
      refine q_step hA1297 rfl (d_move (wn rfl) (hA1297.ev rfl) ?_)
      intro a1298 hA1299
      refine q_step hA1299 rfl (does_not (wno rfl rfl (.inl (hA1299.get 181 _ rfl))) ?_)
      intro a1300 hA1301
      refine q_step hA1301 rfl (does_not (wno rfl rfl (.inl (hA1301.get 181 _ rfl))) ?_)
      intro a1302 hA1303
      refine q_step hA1303 rfl (does_not (wno rfl rfl (.inl (hA1303.get 181 _ rfl))) ?_)
      intro a1304 hA1305
      refine q_step hA1305 rfl (d_pickT (wn rfl) (hA1305.ev rfl) (hA1305.ev rfl) ?_)
      intro a1306 hA1307
      refine q_end ?_
      have hA1308 : St 192 [(2, (.pointer (some ⟨g12, 0, none⟩))), (3, (.bool false)), (4, (.pointer (some ⟨g28, 0, none⟩))), (5, (.bool ((plcB i) && ((i.a == (-1)) || ((regB i.a) && (i.imm == 0)))))), (185, (.bool true))] a1306 := hA1307.cut _ (fm_cons (hA1307.get 2 _ rfl) (fm_cons (hA1307.get 3 _ rfl) (fm_cons (hA1307.get 4 _ rfl) (fm_cons (hA1307.get 5 _ rfl) (fm_cons (hA1307.get 185 _ rfl) fm_nil)))))
      refine t_norm ?_
      refine c_true hA1308 rfl ?_
      refine wp_seq ?_
      refine wp_region_lit ?_
      refine q_step hA1308 rfl (d_fieldAddr (wn rfl) (hA1308.ev rfl) fo23_5 ?_)
      intro a1309 hA1310
      refine q_step hA1310 rfl (d_store (wn rfl) (hA1310.ev rfl) (hA1310.ev rfl) one3 rfl m1275 (Nat.le_of_ble_eq_true rfl) ?_)
      intro w1311 hU1312 (m1313 : Blk w1311 g28 #[.int .i64 0, .int .i64 i.dst, .int .i64 (-1), .int .i64 i.b, .int .i64 0, .int .i64 0, .int .i64 i.off, .int .i64 i.index, .int .i64 i.size, .int .i64 i.fn, .bool i.acq, .bool i.weak, .bool false, .int .i64 i.pred, .int .i64 i.succ, .int .i64 i.to, .bool i.zero] 23)
      have m1314 := m1276.upd hU1312 n34
      have m1315 := m1277.upd hU1312 n35
      have b1316 := hU1312.below b1278 ge33
      intro a1317 hA1318
      refine q_end ?_
      have hA1319 : St 192 [(2, (.pointer (some ⟨g12, 0, none⟩))), (3, (.bool false)), (4, (.pointer (some ⟨g28, 0, none⟩))), (5, (.bool ((plcB i) && ((i.a == (-1)) || ((regB i.a) && (i.imm == 0))))))] a1317 := hA1318.cut _ (fm_cons (hA1318.get 2 _ rfl) (fm_cons (hA1318.get 3 _ rfl) (fm_cons (hA1318.get 4 _ rfl) (fm_cons (hA1318.get 5 _ rfl) fm_nil))))
      refine t_norm ?_
      refine wp_seq ?_
      refine wp_region_lit ?_
      refine q_step hA1319 rfl (d_fieldAddr (wn rfl) (hA1319.ev rfl) fo23_6 ?_)
      intro a1320 hA1321
      refine q_step hA1321 rfl (d_store (wn rfl) (hA1321.ev rfl) (hA1321.ev rfl) one3 rfl m1313 (Nat.le_of_ble_eq_true rfl) ?_)
      intro w1322 hU1323 (m1324 : Blk w1322 g28 #[.int .i64 0, .int .i64 i.dst, .int .i64 (-1), .int .i64 i.b, .int .i64 0, .int .i64 0, .int .i64 0, .int .i64 i.index, .int .i64 i.size, .int .i64 i.fn, .bool i.acq, .bool i.weak, .bool false, .int .i64 i.pred, .int .i64 i.succ, .int .i64 i.to, .bool i.zero] 23)
      have m1325 := m1314.upd hU1323 n34
      have m1326 := m1315.upd hU1323 n35
      have b1327 := hU1323.below b1316 ge33
      intro a1328 hA1329
      refine q_end ?_
      have hA1330 : St 192 [(2, (.pointer (some ⟨g12, 0, none⟩))), (3, (.bool false)), (4, (.pointer (some ⟨g28, 0, none⟩))), (5, (.bool ((plcB i) && ((i.a == (-1)) || ((regB i.a) && (i.imm == 0))))))] a1328 := hA1329.cut _ (fm_cons (hA1329.get 2 _ rfl) (fm_cons (hA1329.get 3 _ rfl) (fm_cons (hA1329.get 4 _ rfl) (fm_cons (hA1329.get 5 _ rfl) fm_nil))))
      refine t_norm ?_
      refine wp_seq ?_
      refine wp_region_lit ?_
      refine q_step hA1330 rfl (d_fieldAddr (wn rfl) (hA1330.ev rfl) fo23_7 ?_)
      intro a1331 hA1332
      refine q_step hA1332 rfl (d_store (wn rfl) (hA1332.ev rfl) (hA1332.ev rfl) one3 rfl m1324 (Nat.le_of_ble_eq_true rfl) ?_)
      intro w1333 hU1334 (m1335 : Blk w1333 g28 #[.int .i64 0, .int .i64 i.dst, .int .i64 (-1), .int .i64 i.b, .int .i64 0, .int .i64 0, .int .i64 0, .int .i64 (-1), .int .i64 i.size, .int .i64 i.fn, .bool i.acq, .bool i.weak, .bool false, .int .i64 i.pred, .int .i64 i.succ, .int .i64 i.to, .bool i.zero] 23)
      have m1336 := m1325.upd hU1334 n34
      have m1337 := m1326.upd hU1334 n35
      have b1338 := hU1334.below b1327 ge33
      intro a1339 hA1340
      refine q_end ?_
      have hA1341 : St 192 [(2, (.pointer (some ⟨g12, 0, none⟩))), (3, (.bool false)), (4, (.pointer (some ⟨g28, 0, none⟩))), (5, (.bool ((plcB i) && ((i.a == (-1)) || ((regB i.a) && (i.imm == 0))))))] a1339 := hA1340.cut _ (fm_cons (hA1340.get 2 _ rfl) (fm_cons (hA1340.get 3 _ rfl) (fm_cons (hA1340.get 4 _ rfl) (fm_cons (hA1340.get 5 _ rfl) fm_nil))))
      refine t_norm ?_
      refine wp_region_lit ?_
      refine q_step hA1341 rfl (d_fieldAddr (wn rfl) (hA1341.ev rfl) fo23_8 ?_)
      intro a1342 hA1343
      refine q_step hA1343 rfl (d_store (wn rfl) (hA1343.ev rfl) (hA1343.ev rfl) one3 rfl m1335 (Nat.le_of_ble_eq_true rfl) ?_)
      intro w1344 hU1345 (m1346 : Blk w1344 g28 #[.int .i64 0, .int .i64 i.dst, .int .i64 (-1), .int .i64 i.b, .int .i64 0, .int .i64 0, .int .i64 0, .int .i64 (-1), .int .i64 0, .int .i64 i.fn, .bool i.acq, .bool i.weak, .bool false, .int .i64 i.pred, .int .i64 i.succ, .int .i64 i.to, .bool i.zero] 23)
      have m1347 := m1336.upd hU1345 n34
      have m1348 := m1337.upd hU1345 n35
      have b1349 := hU1345.below b1338 ge33
      intro a1350 hA1351
      refine q_end ?_
      have hA1352 : St 192 [(2, (.pointer (some ⟨g12, 0, none⟩))), (3, (.bool false)), (4, (.pointer (some ⟨g28, 0, none⟩))), (5, (.bool ((plcB i) && ((i.a == (-1)) || ((regB i.a) && (i.imm == 0))))))] a1350 := hA1351.cut _ (fm_cons (hA1351.get 2 _ rfl) (fm_cons (hA1351.get 3 _ rfl) (fm_cons (hA1351.get 4 _ rfl) (fm_cons (hA1351.get 5 _ rfl) fm_nil))))
      refine t_norm ?_
      refine wp_seq ?_
      refine wp_region_lit ?_
      refine q_step hA1352 rfl (d_loadRow (cs := #[.int .i64 0, .int .i64 i.dst, .int .i64 (-1), .int .i64 i.b, .int .i64 0, .int .i64 0, .int .i64 0, .int .i64 (-1), .int .i64 0, .int .i64 i.fn, .bool i.acq, .bool i.weak, .bool false, .int .i64 i.pred, .int .i64 i.succ, .int .i64 i.to, .bool i.zero]) (wn rfl) (hA1352.ev rfl) row23 m1346 ?_)
      intro a1353 hA1354
      refine q_step hA1354 rfl (d_move (wn rfl) (hA1354.ev rfl) ?_)
      intro a1355 hA1356
      refine q_step hA1356 rfl (d_storeRow (wn rfl) (hA1356.ev rfl) (hA1356.ev rfl) row23 m1348 rfl rfl ?_)
      intro w1357 hU1358 (m1359 : Blk w1357 g12 #[.int .i64 0, .int .i64 i.dst, .int .i64 (-1), .int .i64 i.b, .int .i64 0, .int .i64 0, .int .i64 0, .int .i64 (-1), .int .i64 0, .int .i64 i.fn, .bool i.acq, .bool i.weak, .bool false, .int .i64 i.pred, .int .i64 i.succ, .int .i64 i.to, .bool i.zero] 23)
      have m1360 := m1347.upd hU1358 n18
      have m1361 := m1346.upd hU1358 (Ne.symm n35)
      have b1362 := hU1358.below b1349 ge17
      intro a1363 hA1364
      refine q_step hA1364 rfl (d_assign (wn rfl) (hA1364.ev rfl) ?_)
      intro a1365 hA1366
      refine q_end ?_
      have hA1367 : St 192 [(2, (.pointer (some ⟨g12, 0, none⟩))), (3, (.bool ((plcB i) && ((i.a == (-1)) || ((regB i.a) && (i.imm == 0))))))] a1365 := hA1366.cut _ (fm_cons (hA1366.get 2 _ rfl) (fm_cons (hA1366.get 3 _ rfl) fm_nil))
      refine t_norm ?_
      refine wp_ret ?_
      refine retCT (g := g12) (cs := #[.int .i64 0, .int .i64 i.dst, .int .i64 (-1), .int .i64 i.b, .int .i64 0, .int .i64 0, .int .i64 0, .int .i64 (-1), .int .i64 0, .int .i64 i.fn, .bool i.acq, .bool i.weak, .bool false, .int .i64 i.pred, .int .i64 i.succ, .int .i64 i.to, .bool i.zero]) (v := (.bool ((plcB i) && ((i.a == (-1)) || ((regB i.a) && (i.imm == 0)))))) rfl hA1367 rfl rfl m1359 row23 ?_
      exact ⟨ret_two (by simp [insC, bareF, opB, rdB, wrB, hb69, hb176, hb320, hb806, eq_of_beq hb1083]) (by first | (simp [fineB, hb69, hb176, hb320, hb806, eq_of_beq hb1083, Bool.or_assoc, Bool.and_assoc]; done) | (rw [Bool.eq_iff_iff]; simp [fineB, hb69, hb176, hb320, hb806, eq_of_beq hb1083]; done) | (rw [Bool.eq_iff_iff]; simp [fineB, hb69, hb176, hb320, hb806, eq_of_beq hb1083]; omega) | grind), b1362⟩
     ·skip
      have hq1368 := ne_of_beq hb1083
      refine q_step hA1082 rfl (d_bin (wn rfl) (hA1082.ev rfl) (hA1082.ev rfl) (b_eq _ _ i.op 5 false _ hb1083) ?_)
      intro a1369 hA1370
      refine q_step hA1370 rfl (d_assign (wn rfl) (hA1370.ev rfl) ?_)
      intro a1371 hA1372
      refine q_end ?_
      have hA1373 : St 192 [(1, (.pointer (some ⟨g3, 0, none⟩))), (2, (.pointer (some ⟨g12, 0, none⟩))), (3, (.bool false)), (4, (.pointer (some ⟨g28, 0, none⟩))), (5, (.bool true)), (9, (.int .i64 i.op)), (90, (.bool false))] a1371 := hA1372.cut _ (fm_cons (hA1372.get 1 _ rfl) (fm_cons (hA1372.get 2 _ rfl) (fm_cons (hA1372.get 3 _ rfl) (fm_cons (hA1372.get 4 _ rfl) (fm_cons (hA1372.get 5 _ rfl) (fm_cons (hA1372.get 9 _ rfl) (fm_cons (hA1372.get 90 _ rfl) fm_nil)))))))
      refine t_norm ?_
      refine c_false hA1373 rfl ?_
      refine wp_seq ?_
      refine wp_region_lit ?_
      rcases Bool.eq_false_or_eq_true (i.op == 6) with hb1374 | hb1374
      ·skip
       have hq1375 := eq_of_beq hb1374
       refine q_step hA1373 rfl (d_bin (wn rfl) (hA1373.ev rfl) (hA1373.ev rfl) (b_eq _ _ i.op 6 true _ hb1374) ?_)
       intro a1376 hA1377
       refine q_step hA1377 rfl (d_assign (wn rfl) (hA1377.ev rfl) ?_)
       intro a1378 hA1379
       refine q_end ?_
       have hA1380 : St 192 [(1, (.pointer (some ⟨g3, 0, none⟩))), (2, (.pointer (some ⟨g12, 0, none⟩))), (3, (.bool false)), (4, (.pointer (some ⟨g28, 0, none⟩))), (5, (.bool true)), (9, (.int .i64 i.op)), (112, (.bool true))] a1378 := hA1379.cut _ (fm_cons (hA1379.get 1 _ rfl) (fm_cons (hA1379.get 2 _ rfl) (fm_cons (hA1379.get 3 _ rfl) (fm_cons (hA1379.get 4 _ rfl) (fm_cons (hA1379.get 5 _ rfl) (fm_cons (hA1379.get 9 _ rfl) (fm_cons (hA1379.get 112 _ rfl) fm_nil)))))))
       refine t_norm ?_
       refine c_true hA1380 rfl ?_
       refine wp_seq ?_
       refine join_wp (K := fun a1381 w1382 => St 192 [(1, (.pointer (some ⟨g3, 0, none⟩))), (2, (.pointer (some ⟨g12, 0, none⟩))), (3, (.bool false)), (4, (.pointer (some ⟨g28, 0, none⟩))), (5, (.bool ((regB i.dst) && ((regB i.a) && ((plcB i) && ((i.fn == 6) || (i.fn == 1)))))))] a1381 ∧ Below w.heap.size w w1382 ∧ Blk w1382 g3 (insC i) 23 ∧ Blk w1382 g12 #[.int .i64 0, .int .i64 0, .int .i64 0, .int .i64 0, .int .i64 0, .int .i64 0, .int .i64 0, .int .i64 0, .int .i64 0, .int .i64 0, .bool false, .bool false, .bool false, .int .i64 0, .int .i64 0, .int .i64 0, .bool false] 23 ∧ Blk w1382 g28 #[.int .i64 0, .int .i64 i.dst, .int .i64 i.a, .int .i64 i.b, .int .i64 i.imm, .int .i64 i.loc, .int .i64 i.off, .int .i64 i.index, .int .i64 i.size, .int .i64 i.fn, .bool i.acq, .bool i.weak, .bool i.rel, .int .i64 i.pred, .int .i64 i.succ, .int .i64 i.to, .bool i.zero] 23) ?_ ?_
       ·skip
        refine wp_region_lit ?_
        refine q_step hA1380 rfl (d_fieldAddr (wn rfl) (hA1380.ev rfl) fo23_1 ?_)
        intro a1383 hA1384
        refine q_step hA1384 rfl (d_load (v := (.int .i64 i.dst)) (wn rfl) (hA1384.ev rfl) one3 (m58.cell rfl) ?_)
        intro a1385 hA1386
        refine q_step hA1386 rfl (d_call (wn rfl) ent44 (map1 (hA1386.ev rfl)) (rreg_any i.dst w55) ?_)
        rintro e1390 w1387 ⟨he1389, hG1388⟩
        have m1391 := m58.grow hG1388
        have m1392 := m59.grow hG1388
        have m1393 := m57.grow hG1388
        have b1394 := below_grow b60 hG1388 b60.size
        rcases Bool.eq_false_or_eq_true (regB i.dst) with hb1395 | hb1395
        ·skip
         refine ⟨.bool true, he1389.trans (ret_bool hb1395), ?_⟩
         intro a1397 hA1398
         refine q_step hA1398 rfl (d_move (wn rfl) (hA1398.ev rfl) ?_)
         intro a1399 hA1400
         refine q_step hA1400 rfl (d_fieldAddr (wy rfl rfl (hA1400.get 117 _ rfl)) (hA1400.ev rfl) fo23_2 ?_)
         intro a1401 hA1402
         refine q_step hA1402 rfl (d_load (v := (.int .i64 i.a)) (wy rfl rfl (hA1402.get 117 _ rfl)) (hA1402.ev rfl) one3 (m1391.cell rfl) ?_)
         intro a1403 hA1404
         refine q_step hA1404 rfl (d_call (wy rfl rfl (hA1404.get 117 _ rfl)) ent44 (map1 (hA1404.ev rfl)) (rreg_any i.a w1387) ?_)
         rintro e1408 w1405 ⟨he1407, hG1406⟩
         have m1409 := m1391.grow hG1406
         have m1410 := m1392.grow hG1406
         have m1411 := m1393.grow hG1406
         have b1412 := below_grow b1394 hG1406 b1394.size
         rcases Bool.eq_false_or_eq_true (regB i.a) with hb1413 | hb1413
         ·skip
          refine ⟨.bool true, he1407.trans (ret_bool hb1413), ?_⟩
          intro a1415 hA1416
          refine q_step hA1416 rfl (d_pickT (wn rfl) (hA1416.ev rfl) (hA1416.ev rfl) ?_)
          intro a1417 hA1418
          refine q_step hA1418 rfl (d_move (wn rfl) (hA1418.ev rfl) ?_)
          intro a1419 hA1420
          refine q_step hA1420 rfl (d_loadRow (cs := (insC i)) (wy rfl rfl (hA1420.get 122 _ rfl)) (hA1420.ev rfl) row23 m1409 ?_)
          intro a1421 hA1422
          refine q_step hA1422 rfl (d_call (wy rfl rfl (hA1422.get 122 _ rfl)) ent45 (map1 (hA1422.ev rfl)) (place3_any i w1405) ?_)
          rintro e1426 w1423 ⟨he1425, hG1424⟩
          have m1427 := m1409.grow hG1424
          have m1428 := m1410.grow hG1424
          have m1429 := m1411.grow hG1424
          have b1430 := below_grow b1412 hG1424 b1412.size
          rcases Bool.eq_false_or_eq_true (plcB i) with hb1431 | hb1431
          ·skip
           refine ⟨.bool true, he1425.trans (ret_bool hb1431), ?_⟩
           intro a1433 hA1434
           refine q_step hA1434 rfl (d_pickT (wn rfl) (hA1434.ev rfl) (hA1434.ev rfl) ?_)
           intro a1435 hA1436
           refine q_step hA1436 rfl (d_move (wn rfl) (hA1436.ev rfl) ?_)
           intro a1437 hA1438
           refine q_step hA1438 rfl (d_fieldAddr (wy rfl rfl (hA1438.get 126 _ rfl)) (hA1438.ev rfl) fo23_9 ?_)
           intro a1439 hA1440
           refine q_step hA1440 rfl (d_load (v := (.int .i64 i.fn)) (wy rfl rfl (hA1440.get 126 _ rfl)) (hA1440.ev rfl) one3 (m1427.cell rfl) ?_)
           intro a1441 hA1442
           rcases Bool.eq_false_or_eq_true (i.fn == 6) with hb1443 | hb1443
           ·skip
            have hq1444 := eq_of_beq hb1443
            refine q_step hA1442 rfl (d_bin (wy rfl rfl (hA1442.get 126 _ rfl)) (hA1442.ev rfl) (hA1442.ev rfl) (b_eq _ _ i.fn 6 true _ hb1443) ?_)
            intro a1445 hA1446
            refine q_step hA1446 rfl (d_move (wy rfl rfl (hA1446.get 126 _ rfl)) (hA1446.ev rfl) ?_)
            intro a1447 hA1448
            refine q_step hA1448 rfl (does_not (wno rfl rfl (.inl (hA1448.get 130 _ rfl))) ?_)
            intro a1449 hA1450
            refine q_step hA1450 rfl (does_not (wno rfl rfl (.inl (hA1450.get 130 _ rfl))) ?_)
            intro a1451 hA1452
            refine q_step hA1452 rfl (does_not (wno rfl rfl (.inl (hA1452.get 130 _ rfl))) ?_)
            intro a1453 hA1454
            refine q_step hA1454 rfl (d_pickT (wy rfl rfl (hA1454.get 126 _ rfl)) (hA1454.ev rfl) (hA1454.ev rfl) ?_)
            intro a1455 hA1456
            refine q_step hA1456 rfl (d_pickT (wn rfl) (hA1456.ev rfl) (hA1456.ev rfl) ?_)
            intro a1457 hA1458
            refine q_step hA1458 rfl (d_assign (wn rfl) (hA1458.ev rfl) ?_)
            intro a1459 hA1460
            refine q_end ?_
            exact ⟨hA1460.cut _ (fm_cons (hA1460.get 1 _ rfl) (fm_cons (hA1460.get 2 _ rfl) (fm_cons (hA1460.get 3 _ rfl) (fm_cons (hA1460.get 4 _ rfl) (fm_cons ((hA1460.get 5 _ rfl).trans (congrArg Value.bool (by simp [hb1395, hb1413, hb1431, hb1443]))) fm_nil))))), b1430, m1427, m1428, m1429⟩
           ·skip
            have hq1461 := ne_of_beq hb1443
            refine q_step hA1442 rfl (d_bin (wy rfl rfl (hA1442.get 126 _ rfl)) (hA1442.ev rfl) (hA1442.ev rfl) (b_eq _ _ i.fn 6 false _ hb1443) ?_)
            intro a1462 hA1463
            refine q_step hA1463 rfl (d_move (wy rfl rfl (hA1463.get 126 _ rfl)) (hA1463.ev rfl) ?_)
            intro a1464 hA1465
            refine q_step hA1465 rfl (d_fieldAddr (wy rfl rfl (hA1465.get 130 _ rfl)) (hA1465.ev rfl) fo23_9 ?_)
            intro a1466 hA1467
            refine q_step hA1467 rfl (d_load (v := (.int .i64 i.fn)) (wy rfl rfl (hA1467.get 130 _ rfl)) (hA1467.ev rfl) one3 (m1427.cell rfl) ?_)
            intro a1468 hA1469
            rcases Bool.eq_false_or_eq_true (i.fn == 1) with hb1470 | hb1470
            ·skip
             have hq1471 := eq_of_beq hb1470
             refine q_step hA1469 rfl (d_bin (wy rfl rfl (hA1469.get 130 _ rfl)) (hA1469.ev rfl) (hA1469.ev rfl) (b_eq _ _ i.fn 1 true _ hb1470) ?_)
             intro a1472 hA1473
             refine q_step hA1473 rfl (d_pickF (wy rfl rfl (hA1473.get 126 _ rfl)) (hA1473.ev rfl) (hA1473.ev rfl) ?_)
             intro a1474 hA1475
             refine q_step hA1475 rfl (d_pickT (wn rfl) (hA1475.ev rfl) (hA1475.ev rfl) ?_)
             intro a1476 hA1477
             refine q_step hA1477 rfl (d_assign (wn rfl) (hA1477.ev rfl) ?_)
             intro a1478 hA1479
             refine q_end ?_
             exact ⟨hA1479.cut _ (fm_cons (hA1479.get 1 _ rfl) (fm_cons (hA1479.get 2 _ rfl) (fm_cons (hA1479.get 3 _ rfl) (fm_cons (hA1479.get 4 _ rfl) (fm_cons ((hA1479.get 5 _ rfl).trans (congrArg Value.bool (by simp [hb1395, hb1413, hb1431, hb1443, hb1470]))) fm_nil))))), b1430, m1427, m1428, m1429⟩
            ·skip
             have hq1480 := ne_of_beq hb1470
             refine q_step hA1469 rfl (d_bin (wy rfl rfl (hA1469.get 130 _ rfl)) (hA1469.ev rfl) (hA1469.ev rfl) (b_eq _ _ i.fn 1 false _ hb1470) ?_)
             intro a1481 hA1482
             refine q_step hA1482 rfl (d_pickF (wy rfl rfl (hA1482.get 126 _ rfl)) (hA1482.ev rfl) (hA1482.ev rfl) ?_)
             intro a1483 hA1484
             refine q_step hA1484 rfl (d_pickT (wn rfl) (hA1484.ev rfl) (hA1484.ev rfl) ?_)
             intro a1485 hA1486
             refine q_step hA1486 rfl (d_assign (wn rfl) (hA1486.ev rfl) ?_)
             intro a1487 hA1488
             refine q_end ?_
             exact ⟨hA1488.cut _ (fm_cons (hA1488.get 1 _ rfl) (fm_cons (hA1488.get 2 _ rfl) (fm_cons (hA1488.get 3 _ rfl) (fm_cons (hA1488.get 4 _ rfl) (fm_cons ((hA1488.get 5 _ rfl).trans (congrArg Value.bool (by simp [hb1395, hb1413, hb1431, hb1443, hb1470]))) fm_nil))))), b1430, m1427, m1428, m1429⟩
          ·skip
           refine ⟨.bool false, he1425.trans (ret_bool hb1431), ?_⟩
           intro a1490 hA1491
           refine q_step hA1491 rfl (d_pickT (wn rfl) (hA1491.ev rfl) (hA1491.ev rfl) ?_)
           intro a1492 hA1493
           refine q_step hA1493 rfl (d_move (wn rfl) (hA1493.ev rfl) ?_)
           intro a1494 hA1495
           refine q_step hA1495 rfl (does_not (wno rfl rfl (.inl (hA1495.get 126 _ rfl))) ?_)
           intro a1496 hA1497
           refine q_step hA1497 rfl (does_not (wno rfl rfl (.inl (hA1497.get 126 _ rfl))) ?_)
           intro a1498 hA1499
           refine q_step hA1499 rfl (does_not (wno rfl rfl (.inl (hA1499.get 126 _ rfl))) ?_)
           intro a1500 hA1501
           refine q_step hA1501 rfl (does_not (wno rfl rfl (.inl (hA1501.get 126 _ rfl))) ?_)
           intro a1502 hA1503
           refine q_step hA1503 rfl (does_not (wno rfl rfl (.inr (hA1503.get 130 _ rfl))) ?_)
           intro a1504 hA1505
           refine q_step hA1505 rfl (does_not (wno rfl rfl (.inr (hA1505.get 130 _ rfl))) ?_)
           intro a1506 hA1507
           refine q_step hA1507 rfl (does_not (wno rfl rfl (.inr (hA1507.get 130 _ rfl))) ?_)
           intro a1508 hA1509
           refine q_step hA1509 rfl (does_not (wno rfl rfl (.inl (hA1509.get 126 _ rfl))) ?_)
           intro a1510 hA1511
           refine q_step hA1511 rfl (d_pickF (wn rfl) (hA1511.ev rfl) (hA1511.ev rfl) ?_)
           intro a1512 hA1513
           refine q_step hA1513 rfl (d_assign (wn rfl) (hA1513.ev rfl) ?_)
           intro a1514 hA1515
           refine q_end ?_
           exact ⟨hA1515.cut _ (fm_cons (hA1515.get 1 _ rfl) (fm_cons (hA1515.get 2 _ rfl) (fm_cons (hA1515.get 3 _ rfl) (fm_cons (hA1515.get 4 _ rfl) (fm_cons ((hA1515.get 5 _ rfl).trans (congrArg Value.bool (by simp [hb1395, hb1413, hb1431]))) fm_nil))))), b1430, m1427, m1428, m1429⟩
         ·skip
          refine ⟨.bool false, he1407.trans (ret_bool hb1413), ?_⟩
          intro a1517 hA1518
          refine q_step hA1518 rfl (d_pickT (wn rfl) (hA1518.ev rfl) (hA1518.ev rfl) ?_)
          intro a1519 hA1520
          refine q_step hA1520 rfl (d_move (wn rfl) (hA1520.ev rfl) ?_)
          intro a1521 hA1522
          refine q_step hA1522 rfl (does_not (wno rfl rfl (.inl (hA1522.get 122 _ rfl))) ?_)
          intro a1523 hA1524
          refine q_step hA1524 rfl (does_not (wno rfl rfl (.inl (hA1524.get 122 _ rfl))) ?_)
          intro a1525 hA1526
          refine q_step hA1526 rfl (d_pickF (wn rfl) (hA1526.ev rfl) (hA1526.ev rfl) ?_)
          intro a1527 hA1528
          refine q_step hA1528 rfl (d_move (wn rfl) (hA1528.ev rfl) ?_)
          intro a1529 hA1530
          refine q_step hA1530 rfl (does_not (wno rfl rfl (.inl (hA1530.get 126 _ rfl))) ?_)
          intro a1531 hA1532
          refine q_step hA1532 rfl (does_not (wno rfl rfl (.inl (hA1532.get 126 _ rfl))) ?_)
          intro a1533 hA1534
          refine q_step hA1534 rfl (does_not (wno rfl rfl (.inl (hA1534.get 126 _ rfl))) ?_)
          intro a1535 hA1536
          refine q_step hA1536 rfl (does_not (wno rfl rfl (.inl (hA1536.get 126 _ rfl))) ?_)
          intro a1537 hA1538
          refine q_step hA1538 rfl (does_not (wno rfl rfl (.inr (hA1538.get 130 _ rfl))) ?_)
          intro a1539 hA1540
          refine q_step hA1540 rfl (does_not (wno rfl rfl (.inr (hA1540.get 130 _ rfl))) ?_)
          intro a1541 hA1542
          refine q_step hA1542 rfl (does_not (wno rfl rfl (.inr (hA1542.get 130 _ rfl))) ?_)
          intro a1543 hA1544
          refine q_step hA1544 rfl (does_not (wno rfl rfl (.inl (hA1544.get 126 _ rfl))) ?_)
          intro a1545 hA1546
          refine q_step hA1546 rfl (d_pickF (wn rfl) (hA1546.ev rfl) (hA1546.ev rfl) ?_)
          intro a1547 hA1548
          refine q_step hA1548 rfl (d_assign (wn rfl) (hA1548.ev rfl) ?_)
          intro a1549 hA1550
          refine q_end ?_
          exact ⟨hA1550.cut _ (fm_cons (hA1550.get 1 _ rfl) (fm_cons (hA1550.get 2 _ rfl) (fm_cons (hA1550.get 3 _ rfl) (fm_cons (hA1550.get 4 _ rfl) (fm_cons ((hA1550.get 5 _ rfl).trans (congrArg Value.bool (by simp [hb1395, hb1413]))) fm_nil))))), b1412, m1409, m1410, m1411⟩
        ·skip
         refine ⟨.bool false, he1389.trans (ret_bool hb1395), ?_⟩
         intro a1552 hA1553
         refine q_step hA1553 rfl (d_move (wn rfl) (hA1553.ev rfl) ?_)
         intro a1554 hA1555
         refine q_step hA1555 rfl (does_not (wno rfl rfl (.inl (hA1555.get 117 _ rfl))) ?_)
         intro a1556 hA1557
         refine q_step hA1557 rfl (does_not (wno rfl rfl (.inl (hA1557.get 117 _ rfl))) ?_)
         intro a1558 hA1559
         refine q_step hA1559 rfl (does_not (wno rfl rfl (.inl (hA1559.get 117 _ rfl))) ?_)
         intro a1560 hA1561
         refine q_step hA1561 rfl (d_pickF (wn rfl) (hA1561.ev rfl) (hA1561.ev rfl) ?_)
         intro a1562 hA1563
         refine q_step hA1563 rfl (d_move (wn rfl) (hA1563.ev rfl) ?_)
         intro a1564 hA1565
         refine q_step hA1565 rfl (does_not (wno rfl rfl (.inl (hA1565.get 122 _ rfl))) ?_)
         intro a1566 hA1567
         refine q_step hA1567 rfl (does_not (wno rfl rfl (.inl (hA1567.get 122 _ rfl))) ?_)
         intro a1568 hA1569
         refine q_step hA1569 rfl (d_pickF (wn rfl) (hA1569.ev rfl) (hA1569.ev rfl) ?_)
         intro a1570 hA1571
         refine q_step hA1571 rfl (d_move (wn rfl) (hA1571.ev rfl) ?_)
         intro a1572 hA1573
         refine q_step hA1573 rfl (does_not (wno rfl rfl (.inl (hA1573.get 126 _ rfl))) ?_)
         intro a1574 hA1575
         refine q_step hA1575 rfl (does_not (wno rfl rfl (.inl (hA1575.get 126 _ rfl))) ?_)
         intro a1576 hA1577
         refine q_step hA1577 rfl (does_not (wno rfl rfl (.inl (hA1577.get 126 _ rfl))) ?_)
         intro a1578 hA1579
         refine q_step hA1579 rfl (does_not (wno rfl rfl (.inl (hA1579.get 126 _ rfl))) ?_)
         intro a1580 hA1581
         refine q_step hA1581 rfl (does_not (wno rfl rfl (.inr (hA1581.get 130 _ rfl))) ?_)
         intro a1582 hA1583
         refine q_step hA1583 rfl (does_not (wno rfl rfl (.inr (hA1583.get 130 _ rfl))) ?_)
         intro a1584 hA1585
         refine q_step hA1585 rfl (does_not (wno rfl rfl (.inr (hA1585.get 130 _ rfl))) ?_)
         intro a1586 hA1587
         refine q_step hA1587 rfl (does_not (wno rfl rfl (.inl (hA1587.get 126 _ rfl))) ?_)
         intro a1588 hA1589
         refine q_step hA1589 rfl (d_pickF (wn rfl) (hA1589.ev rfl) (hA1589.ev rfl) ?_)
         intro a1590 hA1591
         refine q_step hA1591 rfl (d_assign (wn rfl) (hA1591.ev rfl) ?_)
         intro a1592 hA1593
         refine q_end ?_
         exact ⟨hA1593.cut _ (fm_cons (hA1593.get 1 _ rfl) (fm_cons (hA1593.get 2 _ rfl) (fm_cons (hA1593.get 3 _ rfl) (fm_cons (hA1593.get 4 _ rfl) (fm_cons ((hA1593.get 5 _ rfl).trans (congrArg Value.bool (by simp [hb1395]))) fm_nil))))), b1394, m1391, m1392, m1393⟩
       rintro a1381 w1382 ⟨hA1594, b1595, m1596, m1597, m1598⟩
       refine t_norm ?_
       refine wp_seq ?_
       refine wp_region_lit ?_
       refine q_step hA1594 rfl (d_fieldAddr (wn rfl) (hA1594.ev rfl) fo23_1 ?_)
       intro a1599 hA1600
       refine q_step hA1600 rfl (d_store (wn rfl) (hA1600.ev rfl) (hA1600.ev rfl) one3 rfl m1598 (Nat.le_of_ble_eq_true rfl) ?_)
       intro w1601 hU1602 (m1603 : Blk w1601 g28 #[.int .i64 0, .int .i64 (-1), .int .i64 i.a, .int .i64 i.b, .int .i64 i.imm, .int .i64 i.loc, .int .i64 i.off, .int .i64 i.index, .int .i64 i.size, .int .i64 i.fn, .bool i.acq, .bool i.weak, .bool i.rel, .int .i64 i.pred, .int .i64 i.succ, .int .i64 i.to, .bool i.zero] 23)
       have m1604 := m1596.upd hU1602 n34
       have m1605 := m1597.upd hU1602 n35
       have b1606 := hU1602.below b1595 ge33
       intro a1607 hA1608
       refine q_end ?_
       have hA1609 : St 192 [(1, (.pointer (some ⟨g3, 0, none⟩))), (2, (.pointer (some ⟨g12, 0, none⟩))), (3, (.bool false)), (4, (.pointer (some ⟨g28, 0, none⟩))), (5, (.bool ((regB i.dst) && ((regB i.a) && ((plcB i) && ((i.fn == 6) || (i.fn == 1)))))))] a1607 := hA1608.cut _ (fm_cons (hA1608.get 1 _ rfl) (fm_cons (hA1608.get 2 _ rfl) (fm_cons (hA1608.get 3 _ rfl) (fm_cons (hA1608.get 4 _ rfl) (fm_cons (hA1608.get 5 _ rfl) fm_nil)))))
       refine t_norm ?_
       refine wp_seq ?_
       refine wp_region_lit ?_
       refine q_step hA1609 rfl (d_fieldAddr (wn rfl) (hA1609.ev rfl) fo23_2 ?_)
       intro a1610 hA1611
       refine q_step hA1611 rfl (d_store (wn rfl) (hA1611.ev rfl) (hA1611.ev rfl) one3 rfl m1603 (Nat.le_of_ble_eq_true rfl) ?_)
       intro w1612 hU1613 (m1614 : Blk w1612 g28 #[.int .i64 0, .int .i64 (-1), .int .i64 (-1), .int .i64 i.b, .int .i64 i.imm, .int .i64 i.loc, .int .i64 i.off, .int .i64 i.index, .int .i64 i.size, .int .i64 i.fn, .bool i.acq, .bool i.weak, .bool i.rel, .int .i64 i.pred, .int .i64 i.succ, .int .i64 i.to, .bool i.zero] 23)
       have m1615 := m1604.upd hU1613 n34
       have m1616 := m1605.upd hU1613 n35
       have b1617 := hU1613.below b1606 ge33
       intro a1618 hA1619
       refine q_end ?_
       have hA1620 : St 192 [(1, (.pointer (some ⟨g3, 0, none⟩))), (2, (.pointer (some ⟨g12, 0, none⟩))), (3, (.bool false)), (4, (.pointer (some ⟨g28, 0, none⟩))), (5, (.bool ((regB i.dst) && ((regB i.a) && ((plcB i) && ((i.fn == 6) || (i.fn == 1)))))))] a1618 := hA1619.cut _ (fm_cons (hA1619.get 1 _ rfl) (fm_cons (hA1619.get 2 _ rfl) (fm_cons (hA1619.get 3 _ rfl) (fm_cons (hA1619.get 4 _ rfl) (fm_cons (hA1619.get 5 _ rfl) fm_nil)))))
       refine t_norm ?_
       refine wp_seq ?_
       refine wp_region_lit ?_
       refine q_step hA1620 rfl (d_fieldAddr (wn rfl) (hA1620.ev rfl) fo23_9 ?_)
       intro a1621 hA1622
       refine q_step hA1622 rfl (d_store (wn rfl) (hA1622.ev rfl) (hA1622.ev rfl) one3 rfl m1614 (Nat.le_of_ble_eq_true rfl) ?_)
       intro w1623 hU1624 (m1625 : Blk w1623 g28 #[.int .i64 0, .int .i64 (-1), .int .i64 (-1), .int .i64 i.b, .int .i64 i.imm, .int .i64 i.loc, .int .i64 i.off, .int .i64 i.index, .int .i64 i.size, .int .i64 0, .bool i.acq, .bool i.weak, .bool i.rel, .int .i64 i.pred, .int .i64 i.succ, .int .i64 i.to, .bool i.zero] 23)
       have m1626 := m1615.upd hU1624 n34
       have m1627 := m1616.upd hU1624 n35
       have b1628 := hU1624.below b1617 ge33
       intro a1629 hA1630
       refine q_end ?_
       have hA1631 : St 192 [(1, (.pointer (some ⟨g3, 0, none⟩))), (2, (.pointer (some ⟨g12, 0, none⟩))), (3, (.bool false)), (4, (.pointer (some ⟨g28, 0, none⟩))), (5, (.bool ((regB i.dst) && ((regB i.a) && ((plcB i) && ((i.fn == 6) || (i.fn == 1)))))))] a1629 := hA1630.cut _ (fm_cons (hA1630.get 1 _ rfl) (fm_cons (hA1630.get 2 _ rfl) (fm_cons (hA1630.get 3 _ rfl) (fm_cons (hA1630.get 4 _ rfl) (fm_cons (hA1630.get 5 _ rfl) fm_nil)))))
       refine t_norm ?_
       refine wp_seq ?_
       refine wp_region_lit ?_
       refine q_step hA1631 rfl (d_fieldAddr (wn rfl) (hA1631.ev rfl) fo23_10 ?_)
       intro a1632 hA1633
       refine q_step hA1633 rfl (d_store (wn rfl) (hA1633.ev rfl) (hA1633.ev rfl) one4 rfl m1625 (Nat.le_of_ble_eq_true rfl) ?_)
       intro w1634 hU1635 (m1636 : Blk w1634 g28 #[.int .i64 0, .int .i64 (-1), .int .i64 (-1), .int .i64 i.b, .int .i64 i.imm, .int .i64 i.loc, .int .i64 i.off, .int .i64 i.index, .int .i64 i.size, .int .i64 0, .bool false, .bool i.weak, .bool i.rel, .int .i64 i.pred, .int .i64 i.succ, .int .i64 i.to, .bool i.zero] 23)
       have m1637 := m1626.upd hU1635 n34
       have m1638 := m1627.upd hU1635 n35
       have b1639 := hU1635.below b1628 ge33
       intro a1640 hA1641
       refine q_end ?_
       have hA1642 : St 192 [(1, (.pointer (some ⟨g3, 0, none⟩))), (2, (.pointer (some ⟨g12, 0, none⟩))), (3, (.bool false)), (4, (.pointer (some ⟨g28, 0, none⟩))), (5, (.bool ((regB i.dst) && ((regB i.a) && ((plcB i) && ((i.fn == 6) || (i.fn == 1)))))))] a1640 := hA1641.cut _ (fm_cons (hA1641.get 1 _ rfl) (fm_cons (hA1641.get 2 _ rfl) (fm_cons (hA1641.get 3 _ rfl) (fm_cons (hA1641.get 4 _ rfl) (fm_cons (hA1641.get 5 _ rfl) fm_nil)))))
       refine t_norm ?_
       refine wp_region_lit ?_
       refine q_step hA1642 rfl (d_fieldAddr (wn rfl) (hA1642.ev rfl) fo23_12 ?_)
       intro a1643 hA1644
       refine q_step hA1644 rfl (d_store (wn rfl) (hA1644.ev rfl) (hA1644.ev rfl) one4 rfl m1636 (Nat.le_of_ble_eq_true rfl) ?_)
       intro w1645 hU1646 (m1647 : Blk w1645 g28 #[.int .i64 0, .int .i64 (-1), .int .i64 (-1), .int .i64 i.b, .int .i64 i.imm, .int .i64 i.loc, .int .i64 i.off, .int .i64 i.index, .int .i64 i.size, .int .i64 0, .bool false, .bool i.weak, .bool false, .int .i64 i.pred, .int .i64 i.succ, .int .i64 i.to, .bool i.zero] 23)
       have m1648 := m1637.upd hU1646 n34
       have m1649 := m1638.upd hU1646 n35
       have b1650 := hU1646.below b1639 ge33
       intro a1651 hA1652
       refine q_end ?_
       have hA1653 : St 192 [(1, (.pointer (some ⟨g3, 0, none⟩))), (2, (.pointer (some ⟨g12, 0, none⟩))), (3, (.bool false)), (4, (.pointer (some ⟨g28, 0, none⟩))), (5, (.bool ((regB i.dst) && ((regB i.a) && ((plcB i) && ((i.fn == 6) || (i.fn == 1)))))))] a1651 := hA1652.cut _ (fm_cons (hA1652.get 1 _ rfl) (fm_cons (hA1652.get 2 _ rfl) (fm_cons (hA1652.get 3 _ rfl) (fm_cons (hA1652.get 4 _ rfl) (fm_cons (hA1652.get 5 _ rfl) fm_nil)))))
       refine i_norm ?_
       refine t_norm ?_
       refine wp_seq ?_
       refine wp_seq ?_
       refine wp_region_lit ?_
       refine q_step hA1653 rfl (d_fieldAddr (wn rfl) (hA1653.ev rfl) fo23_0 ?_)
       intro a1654 hA1655
       refine q_step hA1655 rfl (d_load (v := (.int .i64 i.op)) (wn rfl) (hA1655.ev rfl) one3 (m1648.cell rfl) ?_)
       intro a1656 hA1657
       refine q_step hA1657 rfl (d_bin (wn rfl) (hA1657.ev rfl) (hA1657.ev rfl) (b_eq _ _ i.op 4 false _ hb806) ?_)
       intro a1658 hA1659
       refine q_step hA1659 rfl (d_move (wn rfl) (hA1659.ev rfl) ?_)
       intro a1660 hA1661
       refine q_step hA1661 rfl (d_fieldAddr (wy rfl rfl (hA1661.get 176 _ rfl)) (hA1661.ev rfl) fo23_0 ?_)
       intro a1662 hA1663
       refine q_step hA1663 rfl (d_load (v := (.int .i64 i.op)) (wy rfl rfl (hA1663.get 176 _ rfl)) (hA1663.ev rfl) one3 (m1648.cell rfl) ?_)
       intro a1664 hA1665
       refine q_step hA1665 rfl (d_bin (wy rfl rfl (hA1665.get 176 _ rfl)) (hA1665.ev rfl) (hA1665.ev rfl) (b_eq _ _ i.op 5 false _ hb1083) ?_)
       intro a1666 hA1667
       refine q_step hA1667 rfl (d_pickF (wn rfl) (hA1667.ev rfl) (hA1667.ev rfl) ?_)
       intro a1668 hA1669
       refine q_step hA1669 rfl (d_move (wn rfl) (hA1669.ev rfl) ?_)
       intro a1670 hA1671
       refine q_step hA1671 rfl (d_fieldAddr (wy rfl rfl (hA1671.get 181 _ rfl)) (hA1671.ev rfl) fo23_0 ?_)
       intro a1672 hA1673
       refine q_step hA1673 rfl (d_load (v := (.int .i64 i.op)) (wy rfl rfl (hA1673.get 181 _ rfl)) (hA1673.ev rfl) one3 (m1648.cell rfl) ?_)
       intro a1674 hA1675
       refine q_step hA1675 rfl (d_bin (wy rfl rfl (hA1675.get 181 _ rfl)) (hA1675.ev rfl) (hA1675.ev rfl) (b_eq _ _ i.op 6 true _ hb1374) ?_)
       intro a1676 hA1677
       refine q_step hA1677 rfl (d_pickF (wn rfl) (hA1677.ev rfl) (hA1677.ev rfl) ?_)
       intro a1678 hA1679
       refine q_end ?_
       have hA1680 : St 192 [(2, (.pointer (some ⟨g12, 0, none⟩))), (3, (.bool false)), (4, (.pointer (some ⟨g28, 0, none⟩))), (5, (.bool ((regB i.dst) && ((regB i.a) && ((plcB i) && ((i.fn == 6) || (i.fn == 1))))))), (185, (.bool true))] a1678 := hA1679.cut _ (fm_cons (hA1679.get 2 _ rfl) (fm_cons (hA1679.get 3 _ rfl) (fm_cons (hA1679.get 4 _ rfl) (fm_cons (hA1679.get 5 _ rfl) (fm_cons (hA1679.get 185 _ rfl) fm_nil)))))
       refine t_norm ?_
       refine c_true hA1680 rfl ?_
       refine wp_seq ?_
       refine wp_region_lit ?_
       refine q_step hA1680 rfl (d_fieldAddr (wn rfl) (hA1680.ev rfl) fo23_5 ?_)
       intro a1681 hA1682
       refine q_step hA1682 rfl (d_store (wn rfl) (hA1682.ev rfl) (hA1682.ev rfl) one3 rfl m1647 (Nat.le_of_ble_eq_true rfl) ?_)
       intro w1683 hU1684 (m1685 : Blk w1683 g28 #[.int .i64 0, .int .i64 (-1), .int .i64 (-1), .int .i64 i.b, .int .i64 i.imm, .int .i64 0, .int .i64 i.off, .int .i64 i.index, .int .i64 i.size, .int .i64 0, .bool false, .bool i.weak, .bool false, .int .i64 i.pred, .int .i64 i.succ, .int .i64 i.to, .bool i.zero] 23)
       have m1686 := m1648.upd hU1684 n34
       have m1687 := m1649.upd hU1684 n35
       have b1688 := hU1684.below b1650 ge33
       intro a1689 hA1690
       refine q_end ?_
       have hA1691 : St 192 [(2, (.pointer (some ⟨g12, 0, none⟩))), (3, (.bool false)), (4, (.pointer (some ⟨g28, 0, none⟩))), (5, (.bool ((regB i.dst) && ((regB i.a) && ((plcB i) && ((i.fn == 6) || (i.fn == 1)))))))] a1689 := hA1690.cut _ (fm_cons (hA1690.get 2 _ rfl) (fm_cons (hA1690.get 3 _ rfl) (fm_cons (hA1690.get 4 _ rfl) (fm_cons (hA1690.get 5 _ rfl) fm_nil))))
       refine t_norm ?_
       refine wp_seq ?_
       refine wp_region_lit ?_
       refine q_step hA1691 rfl (d_fieldAddr (wn rfl) (hA1691.ev rfl) fo23_6 ?_)
       intro a1692 hA1693
       refine q_step hA1693 rfl (d_store (wn rfl) (hA1693.ev rfl) (hA1693.ev rfl) one3 rfl m1685 (Nat.le_of_ble_eq_true rfl) ?_)
       intro w1694 hU1695 (m1696 : Blk w1694 g28 #[.int .i64 0, .int .i64 (-1), .int .i64 (-1), .int .i64 i.b, .int .i64 i.imm, .int .i64 0, .int .i64 0, .int .i64 i.index, .int .i64 i.size, .int .i64 0, .bool false, .bool i.weak, .bool false, .int .i64 i.pred, .int .i64 i.succ, .int .i64 i.to, .bool i.zero] 23)
       have m1697 := m1686.upd hU1695 n34
       have m1698 := m1687.upd hU1695 n35
       have b1699 := hU1695.below b1688 ge33
       intro a1700 hA1701
       refine q_end ?_
       have hA1702 : St 192 [(2, (.pointer (some ⟨g12, 0, none⟩))), (3, (.bool false)), (4, (.pointer (some ⟨g28, 0, none⟩))), (5, (.bool ((regB i.dst) && ((regB i.a) && ((plcB i) && ((i.fn == 6) || (i.fn == 1)))))))] a1700 := hA1701.cut _ (fm_cons (hA1701.get 2 _ rfl) (fm_cons (hA1701.get 3 _ rfl) (fm_cons (hA1701.get 4 _ rfl) (fm_cons (hA1701.get 5 _ rfl) fm_nil))))
       refine t_norm ?_
       refine wp_seq ?_
       refine wp_region_lit ?_
       refine q_step hA1702 rfl (d_fieldAddr (wn rfl) (hA1702.ev rfl) fo23_7 ?_)
       intro a1703 hA1704
       refine q_step hA1704 rfl (d_store (wn rfl) (hA1704.ev rfl) (hA1704.ev rfl) one3 rfl m1696 (Nat.le_of_ble_eq_true rfl) ?_)
       intro w1705 hU1706 (m1707 : Blk w1705 g28 #[.int .i64 0, .int .i64 (-1), .int .i64 (-1), .int .i64 i.b, .int .i64 i.imm, .int .i64 0, .int .i64 0, .int .i64 (-1), .int .i64 i.size, .int .i64 0, .bool false, .bool i.weak, .bool false, .int .i64 i.pred, .int .i64 i.succ, .int .i64 i.to, .bool i.zero] 23)
       have m1708 := m1697.upd hU1706 n34
       have m1709 := m1698.upd hU1706 n35
       have b1710 := hU1706.below b1699 ge33
       intro a1711 hA1712
       refine q_end ?_
       have hA1713 : St 192 [(2, (.pointer (some ⟨g12, 0, none⟩))), (3, (.bool false)), (4, (.pointer (some ⟨g28, 0, none⟩))), (5, (.bool ((regB i.dst) && ((regB i.a) && ((plcB i) && ((i.fn == 6) || (i.fn == 1)))))))] a1711 := hA1712.cut _ (fm_cons (hA1712.get 2 _ rfl) (fm_cons (hA1712.get 3 _ rfl) (fm_cons (hA1712.get 4 _ rfl) (fm_cons (hA1712.get 5 _ rfl) fm_nil))))
       refine t_norm ?_
       refine wp_region_lit ?_
       refine q_step hA1713 rfl (d_fieldAddr (wn rfl) (hA1713.ev rfl) fo23_8 ?_)
       intro a1714 hA1715
       refine q_step hA1715 rfl (d_store (wn rfl) (hA1715.ev rfl) (hA1715.ev rfl) one3 rfl m1707 (Nat.le_of_ble_eq_true rfl) ?_)
       intro w1716 hU1717 (m1718 : Blk w1716 g28 #[.int .i64 0, .int .i64 (-1), .int .i64 (-1), .int .i64 i.b, .int .i64 i.imm, .int .i64 0, .int .i64 0, .int .i64 (-1), .int .i64 0, .int .i64 0, .bool false, .bool i.weak, .bool false, .int .i64 i.pred, .int .i64 i.succ, .int .i64 i.to, .bool i.zero] 23)
       have m1719 := m1708.upd hU1717 n34
       have m1720 := m1709.upd hU1717 n35
       have b1721 := hU1717.below b1710 ge33
       intro a1722 hA1723
       refine q_end ?_
       have hA1724 : St 192 [(2, (.pointer (some ⟨g12, 0, none⟩))), (3, (.bool false)), (4, (.pointer (some ⟨g28, 0, none⟩))), (5, (.bool ((regB i.dst) && ((regB i.a) && ((plcB i) && ((i.fn == 6) || (i.fn == 1)))))))] a1722 := hA1723.cut _ (fm_cons (hA1723.get 2 _ rfl) (fm_cons (hA1723.get 3 _ rfl) (fm_cons (hA1723.get 4 _ rfl) (fm_cons (hA1723.get 5 _ rfl) fm_nil))))
       refine t_norm ?_
       refine wp_seq ?_
       refine wp_region_lit ?_
       refine q_step hA1724 rfl (d_loadRow (cs := #[.int .i64 0, .int .i64 (-1), .int .i64 (-1), .int .i64 i.b, .int .i64 i.imm, .int .i64 0, .int .i64 0, .int .i64 (-1), .int .i64 0, .int .i64 0, .bool false, .bool i.weak, .bool false, .int .i64 i.pred, .int .i64 i.succ, .int .i64 i.to, .bool i.zero]) (wn rfl) (hA1724.ev rfl) row23 m1718 ?_)
       intro a1725 hA1726
       refine q_step hA1726 rfl (d_move (wn rfl) (hA1726.ev rfl) ?_)
       intro a1727 hA1728
       refine q_step hA1728 rfl (d_storeRow (wn rfl) (hA1728.ev rfl) (hA1728.ev rfl) row23 m1720 rfl rfl ?_)
       intro w1729 hU1730 (m1731 : Blk w1729 g12 #[.int .i64 0, .int .i64 (-1), .int .i64 (-1), .int .i64 i.b, .int .i64 i.imm, .int .i64 0, .int .i64 0, .int .i64 (-1), .int .i64 0, .int .i64 0, .bool false, .bool i.weak, .bool false, .int .i64 i.pred, .int .i64 i.succ, .int .i64 i.to, .bool i.zero] 23)
       have m1732 := m1719.upd hU1730 n18
       have m1733 := m1718.upd hU1730 (Ne.symm n35)
       have b1734 := hU1730.below b1721 ge17
       intro a1735 hA1736
       refine q_step hA1736 rfl (d_assign (wn rfl) (hA1736.ev rfl) ?_)
       intro a1737 hA1738
       refine q_end ?_
       have hA1739 : St 192 [(2, (.pointer (some ⟨g12, 0, none⟩))), (3, (.bool ((regB i.dst) && ((regB i.a) && ((plcB i) && ((i.fn == 6) || (i.fn == 1)))))))] a1737 := hA1738.cut _ (fm_cons (hA1738.get 2 _ rfl) (fm_cons (hA1738.get 3 _ rfl) fm_nil))
       refine t_norm ?_
       refine wp_ret ?_
       refine retCT (g := g12) (cs := #[.int .i64 0, .int .i64 (-1), .int .i64 (-1), .int .i64 i.b, .int .i64 i.imm, .int .i64 0, .int .i64 0, .int .i64 (-1), .int .i64 0, .int .i64 0, .bool false, .bool i.weak, .bool false, .int .i64 i.pred, .int .i64 i.succ, .int .i64 i.to, .bool i.zero]) (v := (.bool ((regB i.dst) && ((regB i.a) && ((plcB i) && ((i.fn == 6) || (i.fn == 1))))))) rfl hA1739 rfl rfl m1731 row23 ?_
       exact ⟨ret_two (by simp [insC, bareF, opB, rdB, wrB, hb69, hb176, hb320, hb806, hb1083, eq_of_beq hb1374]) (by first | (simp [fineB, hb69, hb176, hb320, hb806, hb1083, eq_of_beq hb1374, Bool.or_assoc, Bool.and_assoc]; done) | (rw [Bool.eq_iff_iff]; simp [fineB, hb69, hb176, hb320, hb806, hb1083, eq_of_beq hb1374]; done) | (rw [Bool.eq_iff_iff]; simp [fineB, hb69, hb176, hb320, hb806, hb1083, eq_of_beq hb1374]; omega) | grind), b1734⟩
      ·skip
       have hq1740 := ne_of_beq hb1374
       refine q_step hA1373 rfl (d_bin (wn rfl) (hA1373.ev rfl) (hA1373.ev rfl) (b_eq _ _ i.op 6 false _ hb1374) ?_)
       intro a1741 hA1742
       refine q_step hA1742 rfl (d_assign (wn rfl) (hA1742.ev rfl) ?_)
       intro a1743 hA1744
       refine q_end ?_
       have hA1745 : St 192 [(1, (.pointer (some ⟨g3, 0, none⟩))), (2, (.pointer (some ⟨g12, 0, none⟩))), (3, (.bool false)), (4, (.pointer (some ⟨g28, 0, none⟩))), (5, (.bool true)), (9, (.int .i64 i.op)), (112, (.bool false))] a1743 := hA1744.cut _ (fm_cons (hA1744.get 1 _ rfl) (fm_cons (hA1744.get 2 _ rfl) (fm_cons (hA1744.get 3 _ rfl) (fm_cons (hA1744.get 4 _ rfl) (fm_cons (hA1744.get 5 _ rfl) (fm_cons (hA1744.get 9 _ rfl) (fm_cons (hA1744.get 112 _ rfl) fm_nil)))))))
       refine t_norm ?_
       refine c_false hA1745 rfl ?_
       refine wp_seq ?_
       refine wp_region_lit ?_
       rcases Bool.eq_false_or_eq_true (i.op == 7) with hb1746 | hb1746
       ·skip
        have hq1747 := eq_of_beq hb1746
        refine q_step hA1745 rfl (d_bin (wn rfl) (hA1745.ev rfl) (hA1745.ev rfl) (b_eq _ _ i.op 7 true _ hb1746) ?_)
        intro a1748 hA1749
        refine q_step hA1749 rfl (d_assign (wn rfl) (hA1749.ev rfl) ?_)
        intro a1750 hA1751
        refine q_end ?_
        have hA1752 : St 192 [(1, (.pointer (some ⟨g3, 0, none⟩))), (2, (.pointer (some ⟨g12, 0, none⟩))), (3, (.bool false)), (4, (.pointer (some ⟨g28, 0, none⟩))), (5, (.bool true)), (9, (.int .i64 i.op)), (141, (.bool true))] a1750 := hA1751.cut _ (fm_cons (hA1751.get 1 _ rfl) (fm_cons (hA1751.get 2 _ rfl) (fm_cons (hA1751.get 3 _ rfl) (fm_cons (hA1751.get 4 _ rfl) (fm_cons (hA1751.get 5 _ rfl) (fm_cons (hA1751.get 9 _ rfl) (fm_cons (hA1751.get 141 _ rfl) fm_nil)))))))
        refine t_norm ?_
        refine c_true hA1752 rfl ?_
        refine wp_seq ?_
        refine join_wp (K := fun a1753 w1754 => St 192 [(1, (.pointer (some ⟨g3, 0, none⟩))), (2, (.pointer (some ⟨g12, 0, none⟩))), (3, (.bool false)), (4, (.pointer (some ⟨g28, 0, none⟩))), (5, (.bool ((decide (i.pred ≥ 1)) && ((decide (i.pred ≤ 3)) && ((decide (i.succ ≥ 1)) && (decide (i.succ ≤ 3)))))))] a1753 ∧ Below w.heap.size w w1754 ∧ Blk w1754 g3 (insC i) 23 ∧ Blk w1754 g12 #[.int .i64 0, .int .i64 0, .int .i64 0, .int .i64 0, .int .i64 0, .int .i64 0, .int .i64 0, .int .i64 0, .int .i64 0, .int .i64 0, .bool false, .bool false, .bool false, .int .i64 0, .int .i64 0, .int .i64 0, .bool false] 23 ∧ Blk w1754 g28 #[.int .i64 0, .int .i64 i.dst, .int .i64 i.a, .int .i64 i.b, .int .i64 i.imm, .int .i64 i.loc, .int .i64 i.off, .int .i64 i.index, .int .i64 i.size, .int .i64 i.fn, .bool i.acq, .bool i.weak, .bool i.rel, .int .i64 i.pred, .int .i64 i.succ, .int .i64 i.to, .bool i.zero] 23) ?_ ?_
        ·skip
         refine wp_region_lit ?_
         refine q_step hA1752 rfl (d_fieldAddr (wn rfl) (hA1752.ev rfl) fo23_13 ?_)
         intro a1755 hA1756
         refine q_step hA1756 rfl (d_load (v := (.int .i64 i.pred)) (wn rfl) (hA1756.ev rfl) one3 (m58.cell rfl) ?_)
         intro a1757 hA1758
         rcases Bool.eq_false_or_eq_true (decide (i.pred ≥ 1)) with hb1759 | hb1759
         ·skip
          have hq1760 := of_decide_eq_true hb1759
          refine q_step hA1758 rfl (d_bin (wn rfl) (hA1758.ev rfl) (hA1758.ev rfl) (b_ge _ _ i.pred 1 true _ hb1759) ?_)
          intro a1761 hA1762
          refine q_step hA1762 rfl (d_move (wn rfl) (hA1762.ev rfl) ?_)
          intro a1763 hA1764
          refine q_step hA1764 rfl (d_fieldAddr (wy rfl rfl (hA1764.get 146 _ rfl)) (hA1764.ev rfl) fo23_13 ?_)
          intro a1765 hA1766
          refine q_step hA1766 rfl (d_load (v := (.int .i64 i.pred)) (wy rfl rfl (hA1766.get 146 _ rfl)) (hA1766.ev rfl) one3 (m58.cell rfl) ?_)
          intro a1767 hA1768
          rcases Bool.eq_false_or_eq_true (decide (i.pred ≤ 3)) with hb1769 | hb1769
          ·skip
           have hq1770 := of_decide_eq_true hb1769
           refine q_step hA1768 rfl (d_bin (wy rfl rfl (hA1768.get 146 _ rfl)) (hA1768.ev rfl) (hA1768.ev rfl) (b_le _ _ i.pred 3 true _ hb1769) ?_)
           intro a1771 hA1772
           refine q_step hA1772 rfl (d_pickT (wn rfl) (hA1772.ev rfl) (hA1772.ev rfl) ?_)
           intro a1773 hA1774
           refine q_step hA1774 rfl (d_move (wn rfl) (hA1774.ev rfl) ?_)
           intro a1775 hA1776
           refine q_step hA1776 rfl (d_fieldAddr (wy rfl rfl (hA1776.get 151 _ rfl)) (hA1776.ev rfl) fo23_14 ?_)
           intro a1777 hA1778
           refine q_step hA1778 rfl (d_load (v := (.int .i64 i.succ)) (wy rfl rfl (hA1778.get 151 _ rfl)) (hA1778.ev rfl) one3 (m58.cell rfl) ?_)
           intro a1779 hA1780
           rcases Bool.eq_false_or_eq_true (decide (i.succ ≥ 1)) with hb1781 | hb1781
           ·skip
            have hq1782 := of_decide_eq_true hb1781
            refine q_step hA1780 rfl (d_bin (wy rfl rfl (hA1780.get 151 _ rfl)) (hA1780.ev rfl) (hA1780.ev rfl) (b_ge _ _ i.succ 1 true _ hb1781) ?_)
            intro a1783 hA1784
            refine q_step hA1784 rfl (d_pickT (wn rfl) (hA1784.ev rfl) (hA1784.ev rfl) ?_)
            intro a1785 hA1786
            refine q_step hA1786 rfl (d_move (wn rfl) (hA1786.ev rfl) ?_)
            intro a1787 hA1788
            refine q_step hA1788 rfl (d_fieldAddr (wy rfl rfl (hA1788.get 156 _ rfl)) (hA1788.ev rfl) fo23_14 ?_)
            intro a1789 hA1790
            refine q_step hA1790 rfl (d_load (v := (.int .i64 i.succ)) (wy rfl rfl (hA1790.get 156 _ rfl)) (hA1790.ev rfl) one3 (m58.cell rfl) ?_)
            intro a1791 hA1792
            rcases Bool.eq_false_or_eq_true (decide (i.succ ≤ 3)) with hb1793 | hb1793
            ·skip
             have hq1794 := of_decide_eq_true hb1793
             refine q_step hA1792 rfl (d_bin (wy rfl rfl (hA1792.get 156 _ rfl)) (hA1792.ev rfl) (hA1792.ev rfl) (b_le _ _ i.succ 3 true _ hb1793) ?_)
             intro a1795 hA1796
             refine q_step hA1796 rfl (d_pickT (wn rfl) (hA1796.ev rfl) (hA1796.ev rfl) ?_)
             intro a1797 hA1798
             refine q_step hA1798 rfl (d_assign (wn rfl) (hA1798.ev rfl) ?_)
             intro a1799 hA1800
             refine q_end ?_
             exact ⟨hA1800.cut _ (fm_cons (hA1800.get 1 _ rfl) (fm_cons (hA1800.get 2 _ rfl) (fm_cons (hA1800.get 3 _ rfl) (fm_cons (hA1800.get 4 _ rfl) (fm_cons ((hA1800.get 5 _ rfl).trans (congrArg Value.bool (by simp [hb1759, hb1769, hb1781, hb1793]))) fm_nil))))), b60, m58, m59, m57⟩
            ·skip
             have hq1801 := of_decide_eq_false hb1793
             refine q_step hA1792 rfl (d_bin (wy rfl rfl (hA1792.get 156 _ rfl)) (hA1792.ev rfl) (hA1792.ev rfl) (b_le _ _ i.succ 3 false _ hb1793) ?_)
             intro a1802 hA1803
             refine q_step hA1803 rfl (d_pickT (wn rfl) (hA1803.ev rfl) (hA1803.ev rfl) ?_)
             intro a1804 hA1805
             refine q_step hA1805 rfl (d_assign (wn rfl) (hA1805.ev rfl) ?_)
             intro a1806 hA1807
             refine q_end ?_
             exact ⟨hA1807.cut _ (fm_cons (hA1807.get 1 _ rfl) (fm_cons (hA1807.get 2 _ rfl) (fm_cons (hA1807.get 3 _ rfl) (fm_cons (hA1807.get 4 _ rfl) (fm_cons ((hA1807.get 5 _ rfl).trans (congrArg Value.bool (by simp [hb1759, hb1769, hb1781, hb1793]))) fm_nil))))), b60, m58, m59, m57⟩
           ·skip
            have hq1808 := of_decide_eq_false hb1781
            refine q_step hA1780 rfl (d_bin (wy rfl rfl (hA1780.get 151 _ rfl)) (hA1780.ev rfl) (hA1780.ev rfl) (b_ge _ _ i.succ 1 false _ hb1781) ?_)
            intro a1809 hA1810
            refine q_step hA1810 rfl (d_pickT (wn rfl) (hA1810.ev rfl) (hA1810.ev rfl) ?_)
            intro a1811 hA1812
            refine q_step hA1812 rfl (d_move (wn rfl) (hA1812.ev rfl) ?_)
            intro a1813 hA1814
            refine q_step hA1814 rfl (does_not (wno rfl rfl (.inl (hA1814.get 156 _ rfl))) ?_)
            intro a1815 hA1816
            refine q_step hA1816 rfl (does_not (wno rfl rfl (.inl (hA1816.get 156 _ rfl))) ?_)
            intro a1817 hA1818
            refine q_step hA1818 rfl (does_not (wno rfl rfl (.inl (hA1818.get 156 _ rfl))) ?_)
            intro a1819 hA1820
            refine q_step hA1820 rfl (d_pickF (wn rfl) (hA1820.ev rfl) (hA1820.ev rfl) ?_)
            intro a1821 hA1822
            refine q_step hA1822 rfl (d_assign (wn rfl) (hA1822.ev rfl) ?_)
            intro a1823 hA1824
            refine q_end ?_
            exact ⟨hA1824.cut _ (fm_cons (hA1824.get 1 _ rfl) (fm_cons (hA1824.get 2 _ rfl) (fm_cons (hA1824.get 3 _ rfl) (fm_cons (hA1824.get 4 _ rfl) (fm_cons ((hA1824.get 5 _ rfl).trans (congrArg Value.bool (by simp [hb1759, hb1769, hb1781]))) fm_nil))))), b60, m58, m59, m57⟩
          ·skip
           have hq1825 := of_decide_eq_false hb1769
           refine q_step hA1768 rfl (d_bin (wy rfl rfl (hA1768.get 146 _ rfl)) (hA1768.ev rfl) (hA1768.ev rfl) (b_le _ _ i.pred 3 false _ hb1769) ?_)
           intro a1826 hA1827
           refine q_step hA1827 rfl (d_pickT (wn rfl) (hA1827.ev rfl) (hA1827.ev rfl) ?_)
           intro a1828 hA1829
           refine q_step hA1829 rfl (d_move (wn rfl) (hA1829.ev rfl) ?_)
           intro a1830 hA1831
           refine q_step hA1831 rfl (does_not (wno rfl rfl (.inl (hA1831.get 151 _ rfl))) ?_)
           intro a1832 hA1833
           refine q_step hA1833 rfl (does_not (wno rfl rfl (.inl (hA1833.get 151 _ rfl))) ?_)
           intro a1834 hA1835
           refine q_step hA1835 rfl (does_not (wno rfl rfl (.inl (hA1835.get 151 _ rfl))) ?_)
           intro a1836 hA1837
           refine q_step hA1837 rfl (d_pickF (wn rfl) (hA1837.ev rfl) (hA1837.ev rfl) ?_)
           intro a1838 hA1839
           refine q_step hA1839 rfl (d_move (wn rfl) (hA1839.ev rfl) ?_)
           intro a1840 hA1841
           refine q_step hA1841 rfl (does_not (wno rfl rfl (.inl (hA1841.get 156 _ rfl))) ?_)
           intro a1842 hA1843
           refine q_step hA1843 rfl (does_not (wno rfl rfl (.inl (hA1843.get 156 _ rfl))) ?_)
           intro a1844 hA1845
           refine q_step hA1845 rfl (does_not (wno rfl rfl (.inl (hA1845.get 156 _ rfl))) ?_)
           intro a1846 hA1847
           refine q_step hA1847 rfl (d_pickF (wn rfl) (hA1847.ev rfl) (hA1847.ev rfl) ?_)
           intro a1848 hA1849
           refine q_step hA1849 rfl (d_assign (wn rfl) (hA1849.ev rfl) ?_)
           intro a1850 hA1851
           refine q_end ?_
           exact ⟨hA1851.cut _ (fm_cons (hA1851.get 1 _ rfl) (fm_cons (hA1851.get 2 _ rfl) (fm_cons (hA1851.get 3 _ rfl) (fm_cons (hA1851.get 4 _ rfl) (fm_cons ((hA1851.get 5 _ rfl).trans (congrArg Value.bool (by simp [hb1759, hb1769]))) fm_nil))))), b60, m58, m59, m57⟩
         ·skip
          have hq1852 := of_decide_eq_false hb1759
          refine q_step hA1758 rfl (d_bin (wn rfl) (hA1758.ev rfl) (hA1758.ev rfl) (b_ge _ _ i.pred 1 false _ hb1759) ?_)
          intro a1853 hA1854
          refine q_step hA1854 rfl (d_move (wn rfl) (hA1854.ev rfl) ?_)
          intro a1855 hA1856
          refine q_step hA1856 rfl (does_not (wno rfl rfl (.inl (hA1856.get 146 _ rfl))) ?_)
          intro a1857 hA1858
          refine q_step hA1858 rfl (does_not (wno rfl rfl (.inl (hA1858.get 146 _ rfl))) ?_)
          intro a1859 hA1860
          refine q_step hA1860 rfl (does_not (wno rfl rfl (.inl (hA1860.get 146 _ rfl))) ?_)
          intro a1861 hA1862
          refine q_step hA1862 rfl (d_pickF (wn rfl) (hA1862.ev rfl) (hA1862.ev rfl) ?_)
          intro a1863 hA1864
          refine q_step hA1864 rfl (d_move (wn rfl) (hA1864.ev rfl) ?_)
          intro a1865 hA1866
          refine q_step hA1866 rfl (does_not (wno rfl rfl (.inl (hA1866.get 151 _ rfl))) ?_)
          intro a1867 hA1868
          refine q_step hA1868 rfl (does_not (wno rfl rfl (.inl (hA1868.get 151 _ rfl))) ?_)
          intro a1869 hA1870
          refine q_step hA1870 rfl (does_not (wno rfl rfl (.inl (hA1870.get 151 _ rfl))) ?_)
          intro a1871 hA1872
          refine q_step hA1872 rfl (d_pickF (wn rfl) (hA1872.ev rfl) (hA1872.ev rfl) ?_)
          intro a1873 hA1874
          refine q_step hA1874 rfl (d_move (wn rfl) (hA1874.ev rfl) ?_)
          intro a1875 hA1876
          refine q_step hA1876 rfl (does_not (wno rfl rfl (.inl (hA1876.get 156 _ rfl))) ?_)
          intro a1877 hA1878
          refine q_step hA1878 rfl (does_not (wno rfl rfl (.inl (hA1878.get 156 _ rfl))) ?_)
          intro a1879 hA1880
          refine q_step hA1880 rfl (does_not (wno rfl rfl (.inl (hA1880.get 156 _ rfl))) ?_)
          intro a1881 hA1882
          refine q_step hA1882 rfl (d_pickF (wn rfl) (hA1882.ev rfl) (hA1882.ev rfl) ?_)
          intro a1883 hA1884
          refine q_step hA1884 rfl (d_assign (wn rfl) (hA1884.ev rfl) ?_)
          intro a1885 hA1886
          refine q_end ?_
          exact ⟨hA1886.cut _ (fm_cons (hA1886.get 1 _ rfl) (fm_cons (hA1886.get 2 _ rfl) (fm_cons (hA1886.get 3 _ rfl) (fm_cons (hA1886.get 4 _ rfl) (fm_cons ((hA1886.get 5 _ rfl).trans (congrArg Value.bool (by simp [hb1759]))) fm_nil))))), b60, m58, m59, m57⟩
        rintro a1753 w1754 ⟨hA1887, b1888, m1889, m1890, m1891⟩
        refine t_norm ?_
        refine wp_seq ?_
        refine wp_region_lit ?_
        refine q_step hA1887 rfl (d_fieldAddr (wn rfl) (hA1887.ev rfl) fo23_13 ?_)
        intro a1892 hA1893
        refine q_step hA1893 rfl (d_store (wn rfl) (hA1893.ev rfl) (hA1893.ev rfl) one3 rfl m1891 (Nat.le_of_ble_eq_true rfl) ?_)
        intro w1894 hU1895 (m1896 : Blk w1894 g28 #[.int .i64 0, .int .i64 i.dst, .int .i64 i.a, .int .i64 i.b, .int .i64 i.imm, .int .i64 i.loc, .int .i64 i.off, .int .i64 i.index, .int .i64 i.size, .int .i64 i.fn, .bool i.acq, .bool i.weak, .bool i.rel, .int .i64 0, .int .i64 i.succ, .int .i64 i.to, .bool i.zero] 23)
        have m1897 := m1889.upd hU1895 n34
        have m1898 := m1890.upd hU1895 n35
        have b1899 := hU1895.below b1888 ge33
        intro a1900 hA1901
        refine q_end ?_
        have hA1902 : St 192 [(1, (.pointer (some ⟨g3, 0, none⟩))), (2, (.pointer (some ⟨g12, 0, none⟩))), (3, (.bool false)), (4, (.pointer (some ⟨g28, 0, none⟩))), (5, (.bool ((decide (i.pred ≥ 1)) && ((decide (i.pred ≤ 3)) && ((decide (i.succ ≥ 1)) && (decide (i.succ ≤ 3)))))))] a1900 := hA1901.cut _ (fm_cons (hA1901.get 1 _ rfl) (fm_cons (hA1901.get 2 _ rfl) (fm_cons (hA1901.get 3 _ rfl) (fm_cons (hA1901.get 4 _ rfl) (fm_cons (hA1901.get 5 _ rfl) fm_nil)))))
        refine t_norm ?_
        refine wp_region_lit ?_
        refine q_step hA1902 rfl (d_fieldAddr (wn rfl) (hA1902.ev rfl) fo23_14 ?_)
        intro a1903 hA1904
        refine q_step hA1904 rfl (d_store (wn rfl) (hA1904.ev rfl) (hA1904.ev rfl) one3 rfl m1896 (Nat.le_of_ble_eq_true rfl) ?_)
        intro w1905 hU1906 (m1907 : Blk w1905 g28 #[.int .i64 0, .int .i64 i.dst, .int .i64 i.a, .int .i64 i.b, .int .i64 i.imm, .int .i64 i.loc, .int .i64 i.off, .int .i64 i.index, .int .i64 i.size, .int .i64 i.fn, .bool i.acq, .bool i.weak, .bool i.rel, .int .i64 0, .int .i64 0, .int .i64 i.to, .bool i.zero] 23)
        have m1908 := m1897.upd hU1906 n34
        have m1909 := m1898.upd hU1906 n35
        have b1910 := hU1906.below b1899 ge33
        intro a1911 hA1912
        refine q_end ?_
        have hA1913 : St 192 [(1, (.pointer (some ⟨g3, 0, none⟩))), (2, (.pointer (some ⟨g12, 0, none⟩))), (3, (.bool false)), (4, (.pointer (some ⟨g28, 0, none⟩))), (5, (.bool ((decide (i.pred ≥ 1)) && ((decide (i.pred ≤ 3)) && ((decide (i.succ ≥ 1)) && (decide (i.succ ≤ 3)))))))] a1911 := hA1912.cut _ (fm_cons (hA1912.get 1 _ rfl) (fm_cons (hA1912.get 2 _ rfl) (fm_cons (hA1912.get 3 _ rfl) (fm_cons (hA1912.get 4 _ rfl) (fm_cons (hA1912.get 5 _ rfl) fm_nil)))))
        refine i_norm ?_
        refine t_norm ?_
        refine wp_seq ?_
        refine wp_seq ?_
        refine wp_region_lit ?_
        refine q_step hA1913 rfl (d_fieldAddr (wn rfl) (hA1913.ev rfl) fo23_0 ?_)
        intro a1914 hA1915
        refine q_step hA1915 rfl (d_load (v := (.int .i64 i.op)) (wn rfl) (hA1915.ev rfl) one3 (m1908.cell rfl) ?_)
        intro a1916 hA1917
        refine q_step hA1917 rfl (d_bin (wn rfl) (hA1917.ev rfl) (hA1917.ev rfl) (b_eq _ _ i.op 4 false _ hb806) ?_)
        intro a1918 hA1919
        refine q_step hA1919 rfl (d_move (wn rfl) (hA1919.ev rfl) ?_)
        intro a1920 hA1921
        refine q_step hA1921 rfl (d_fieldAddr (wy rfl rfl (hA1921.get 176 _ rfl)) (hA1921.ev rfl) fo23_0 ?_)
        intro a1922 hA1923
        refine q_step hA1923 rfl (d_load (v := (.int .i64 i.op)) (wy rfl rfl (hA1923.get 176 _ rfl)) (hA1923.ev rfl) one3 (m1908.cell rfl) ?_)
        intro a1924 hA1925
        refine q_step hA1925 rfl (d_bin (wy rfl rfl (hA1925.get 176 _ rfl)) (hA1925.ev rfl) (hA1925.ev rfl) (b_eq _ _ i.op 5 false _ hb1083) ?_)
        intro a1926 hA1927
        refine q_step hA1927 rfl (d_pickF (wn rfl) (hA1927.ev rfl) (hA1927.ev rfl) ?_)
        intro a1928 hA1929
        refine q_step hA1929 rfl (d_move (wn rfl) (hA1929.ev rfl) ?_)
        intro a1930 hA1931
        refine q_step hA1931 rfl (d_fieldAddr (wy rfl rfl (hA1931.get 181 _ rfl)) (hA1931.ev rfl) fo23_0 ?_)
        intro a1932 hA1933
        refine q_step hA1933 rfl (d_load (v := (.int .i64 i.op)) (wy rfl rfl (hA1933.get 181 _ rfl)) (hA1933.ev rfl) one3 (m1908.cell rfl) ?_)
        intro a1934 hA1935
        refine q_step hA1935 rfl (d_bin (wy rfl rfl (hA1935.get 181 _ rfl)) (hA1935.ev rfl) (hA1935.ev rfl) (b_eq _ _ i.op 6 false _ hb1374) ?_)
        intro a1936 hA1937
        refine q_step hA1937 rfl (d_pickF (wn rfl) (hA1937.ev rfl) (hA1937.ev rfl) ?_)
        intro a1938 hA1939
        refine q_end ?_
        have hA1940 : St 192 [(2, (.pointer (some ⟨g12, 0, none⟩))), (3, (.bool false)), (4, (.pointer (some ⟨g28, 0, none⟩))), (5, (.bool ((decide (i.pred ≥ 1)) && ((decide (i.pred ≤ 3)) && ((decide (i.succ ≥ 1)) && (decide (i.succ ≤ 3))))))), (185, (.bool false))] a1938 := hA1939.cut _ (fm_cons (hA1939.get 2 _ rfl) (fm_cons (hA1939.get 3 _ rfl) (fm_cons (hA1939.get 4 _ rfl) (fm_cons (hA1939.get 5 _ rfl) (fm_cons (hA1939.get 185 _ rfl) fm_nil)))))
        refine t_norm ?_
        refine c_false hA1940 rfl ?_
        refine wp_skip ?_
        refine t_norm ?_
        refine wp_seq ?_
        refine wp_region_lit ?_
        refine q_step hA1940 rfl (d_loadRow (cs := #[.int .i64 0, .int .i64 i.dst, .int .i64 i.a, .int .i64 i.b, .int .i64 i.imm, .int .i64 i.loc, .int .i64 i.off, .int .i64 i.index, .int .i64 i.size, .int .i64 i.fn, .bool i.acq, .bool i.weak, .bool i.rel, .int .i64 0, .int .i64 0, .int .i64 i.to, .bool i.zero]) (wn rfl) (hA1940.ev rfl) row23 m1907 ?_)
        intro a1941 hA1942
        refine q_step hA1942 rfl (d_move (wn rfl) (hA1942.ev rfl) ?_)
        intro a1943 hA1944
        refine q_step hA1944 rfl (d_storeRow (wn rfl) (hA1944.ev rfl) (hA1944.ev rfl) row23 m1909 rfl rfl ?_)
        intro w1945 hU1946 (m1947 : Blk w1945 g12 #[.int .i64 0, .int .i64 i.dst, .int .i64 i.a, .int .i64 i.b, .int .i64 i.imm, .int .i64 i.loc, .int .i64 i.off, .int .i64 i.index, .int .i64 i.size, .int .i64 i.fn, .bool i.acq, .bool i.weak, .bool i.rel, .int .i64 0, .int .i64 0, .int .i64 i.to, .bool i.zero] 23)
        have m1948 := m1908.upd hU1946 n18
        have m1949 := m1907.upd hU1946 (Ne.symm n35)
        have b1950 := hU1946.below b1910 ge17
        intro a1951 hA1952
        refine q_step hA1952 rfl (d_assign (wn rfl) (hA1952.ev rfl) ?_)
        intro a1953 hA1954
        refine q_end ?_
        have hA1955 : St 192 [(2, (.pointer (some ⟨g12, 0, none⟩))), (3, (.bool ((decide (i.pred ≥ 1)) && ((decide (i.pred ≤ 3)) && ((decide (i.succ ≥ 1)) && (decide (i.succ ≤ 3)))))))] a1953 := hA1954.cut _ (fm_cons (hA1954.get 2 _ rfl) (fm_cons (hA1954.get 3 _ rfl) fm_nil))
        refine t_norm ?_
        refine wp_ret ?_
        refine retCT (g := g12) (cs := #[.int .i64 0, .int .i64 i.dst, .int .i64 i.a, .int .i64 i.b, .int .i64 i.imm, .int .i64 i.loc, .int .i64 i.off, .int .i64 i.index, .int .i64 i.size, .int .i64 i.fn, .bool i.acq, .bool i.weak, .bool i.rel, .int .i64 0, .int .i64 0, .int .i64 i.to, .bool i.zero]) (v := (.bool ((decide (i.pred ≥ 1)) && ((decide (i.pred ≤ 3)) && ((decide (i.succ ≥ 1)) && (decide (i.succ ≤ 3))))))) rfl hA1955 rfl rfl m1947 row23 ?_
        exact ⟨ret_two (by simp [insC, bareF, opB, rdB, wrB, hb69, hb176, hb320, hb806, hb1083, hb1374, eq_of_beq hb1746]) (by first | (simp [fineB, hb69, hb176, hb320, hb806, hb1083, hb1374, eq_of_beq hb1746, Bool.or_assoc, Bool.and_assoc]; done) | (rw [Bool.eq_iff_iff]; simp [fineB, hb69, hb176, hb320, hb806, hb1083, hb1374, eq_of_beq hb1746]; done) | (rw [Bool.eq_iff_iff]; simp [fineB, hb69, hb176, hb320, hb806, hb1083, hb1374, eq_of_beq hb1746]; omega) | grind), b1950⟩
       ·skip
        have hq1956 := ne_of_beq hb1746
        refine q_step hA1745 rfl (d_bin (wn rfl) (hA1745.ev rfl) (hA1745.ev rfl) (b_eq _ _ i.op 7 false _ hb1746) ?_)
        intro a1957 hA1958
        refine q_step hA1958 rfl (d_assign (wn rfl) (hA1958.ev rfl) ?_)
        intro a1959 hA1960
        refine q_end ?_
        have hA1961 : St 192 [(1, (.pointer (some ⟨g3, 0, none⟩))), (2, (.pointer (some ⟨g12, 0, none⟩))), (3, (.bool false)), (4, (.pointer (some ⟨g28, 0, none⟩))), (5, (.bool true)), (9, (.int .i64 i.op)), (141, (.bool false))] a1959 := hA1960.cut _ (fm_cons (hA1960.get 1 _ rfl) (fm_cons (hA1960.get 2 _ rfl) (fm_cons (hA1960.get 3 _ rfl) (fm_cons (hA1960.get 4 _ rfl) (fm_cons (hA1960.get 5 _ rfl) (fm_cons (hA1960.get 9 _ rfl) (fm_cons (hA1960.get 141 _ rfl) fm_nil)))))))
        refine t_norm ?_
        refine c_false hA1961 rfl ?_
        refine wp_seq ?_
        refine wp_region_lit ?_
        rcases Bool.eq_false_or_eq_true (i.op == 8) with hb1962 | hb1962
        ·skip
         have hq1963 := eq_of_beq hb1962
         refine q_step hA1961 rfl (d_bin (wn rfl) (hA1961.ev rfl) (hA1961.ev rfl) (b_eq _ _ i.op 8 true _ hb1962) ?_)
         intro a1964 hA1965
         refine q_step hA1965 rfl (d_assign (wn rfl) (hA1965.ev rfl) ?_)
         intro a1966 hA1967
         refine q_end ?_
         have hA1968 : St 192 [(1, (.pointer (some ⟨g3, 0, none⟩))), (2, (.pointer (some ⟨g12, 0, none⟩))), (3, (.bool false)), (4, (.pointer (some ⟨g28, 0, none⟩))), (5, (.bool true)), (9, (.int .i64 i.op)), (163, (.bool true))] a1966 := hA1967.cut _ (fm_cons (hA1967.get 1 _ rfl) (fm_cons (hA1967.get 2 _ rfl) (fm_cons (hA1967.get 3 _ rfl) (fm_cons (hA1967.get 4 _ rfl) (fm_cons (hA1967.get 5 _ rfl) (fm_cons (hA1967.get 9 _ rfl) (fm_cons (hA1967.get 163 _ rfl) fm_nil)))))))
         refine t_norm ?_
         refine c_true hA1968 rfl ?_
         refine wp_skip ?_
         refine i_norm ?_
         refine t_norm ?_
         refine wp_seq ?_
         refine wp_seq ?_
         refine wp_region_lit ?_
         refine q_step hA1968 rfl (d_fieldAddr (wn rfl) (hA1968.ev rfl) fo23_0 ?_)
         intro a1969 hA1970
         refine q_step hA1970 rfl (d_load (v := (.int .i64 i.op)) (wn rfl) (hA1970.ev rfl) one3 (m58.cell rfl) ?_)
         intro a1971 hA1972
         refine q_step hA1972 rfl (d_bin (wn rfl) (hA1972.ev rfl) (hA1972.ev rfl) (b_eq _ _ i.op 4 false _ hb806) ?_)
         intro a1973 hA1974
         refine q_step hA1974 rfl (d_move (wn rfl) (hA1974.ev rfl) ?_)
         intro a1975 hA1976
         refine q_step hA1976 rfl (d_fieldAddr (wy rfl rfl (hA1976.get 176 _ rfl)) (hA1976.ev rfl) fo23_0 ?_)
         intro a1977 hA1978
         refine q_step hA1978 rfl (d_load (v := (.int .i64 i.op)) (wy rfl rfl (hA1978.get 176 _ rfl)) (hA1978.ev rfl) one3 (m58.cell rfl) ?_)
         intro a1979 hA1980
         refine q_step hA1980 rfl (d_bin (wy rfl rfl (hA1980.get 176 _ rfl)) (hA1980.ev rfl) (hA1980.ev rfl) (b_eq _ _ i.op 5 false _ hb1083) ?_)
         intro a1981 hA1982
         refine q_step hA1982 rfl (d_pickF (wn rfl) (hA1982.ev rfl) (hA1982.ev rfl) ?_)
         intro a1983 hA1984
         refine q_step hA1984 rfl (d_move (wn rfl) (hA1984.ev rfl) ?_)
         intro a1985 hA1986
         refine q_step hA1986 rfl (d_fieldAddr (wy rfl rfl (hA1986.get 181 _ rfl)) (hA1986.ev rfl) fo23_0 ?_)
         intro a1987 hA1988
         refine q_step hA1988 rfl (d_load (v := (.int .i64 i.op)) (wy rfl rfl (hA1988.get 181 _ rfl)) (hA1988.ev rfl) one3 (m58.cell rfl) ?_)
         intro a1989 hA1990
         refine q_step hA1990 rfl (d_bin (wy rfl rfl (hA1990.get 181 _ rfl)) (hA1990.ev rfl) (hA1990.ev rfl) (b_eq _ _ i.op 6 false _ hb1374) ?_)
         intro a1991 hA1992
         refine q_step hA1992 rfl (d_pickF (wn rfl) (hA1992.ev rfl) (hA1992.ev rfl) ?_)
         intro a1993 hA1994
         refine q_end ?_
         have hA1995 : St 192 [(2, (.pointer (some ⟨g12, 0, none⟩))), (3, (.bool false)), (4, (.pointer (some ⟨g28, 0, none⟩))), (5, (.bool true)), (185, (.bool false))] a1993 := hA1994.cut _ (fm_cons (hA1994.get 2 _ rfl) (fm_cons (hA1994.get 3 _ rfl) (fm_cons (hA1994.get 4 _ rfl) (fm_cons (hA1994.get 5 _ rfl) (fm_cons (hA1994.get 185 _ rfl) fm_nil)))))
         refine t_norm ?_
         refine c_false hA1995 rfl ?_
         refine wp_skip ?_
         refine t_norm ?_
         refine wp_seq ?_
         refine wp_region_lit ?_
         refine q_step hA1995 rfl (d_loadRow (cs := #[.int .i64 0, .int .i64 i.dst, .int .i64 i.a, .int .i64 i.b, .int .i64 i.imm, .int .i64 i.loc, .int .i64 i.off, .int .i64 i.index, .int .i64 i.size, .int .i64 i.fn, .bool i.acq, .bool i.weak, .bool i.rel, .int .i64 i.pred, .int .i64 i.succ, .int .i64 i.to, .bool i.zero]) (wn rfl) (hA1995.ev rfl) row23 m57 ?_)
         intro a1996 hA1997
         refine q_step hA1997 rfl (d_move (wn rfl) (hA1997.ev rfl) ?_)
         intro a1998 hA1999
         refine q_step hA1999 rfl (d_storeRow (wn rfl) (hA1999.ev rfl) (hA1999.ev rfl) row23 m59 rfl rfl ?_)
         intro w2000 hU2001 (m2002 : Blk w2000 g12 #[.int .i64 0, .int .i64 i.dst, .int .i64 i.a, .int .i64 i.b, .int .i64 i.imm, .int .i64 i.loc, .int .i64 i.off, .int .i64 i.index, .int .i64 i.size, .int .i64 i.fn, .bool i.acq, .bool i.weak, .bool i.rel, .int .i64 i.pred, .int .i64 i.succ, .int .i64 i.to, .bool i.zero] 23)
         have m2003 := m58.upd hU2001 n18
         have m2004 := m57.upd hU2001 (Ne.symm n35)
         have b2005 := hU2001.below b60 ge17
         intro a2006 hA2007
         refine q_step hA2007 rfl (d_assign (wn rfl) (hA2007.ev rfl) ?_)
         intro a2008 hA2009
         refine q_end ?_
         have hA2010 : St 192 [(2, (.pointer (some ⟨g12, 0, none⟩))), (3, (.bool true))] a2008 := hA2009.cut _ (fm_cons (hA2009.get 2 _ rfl) (fm_cons (hA2009.get 3 _ rfl) fm_nil))
         refine t_norm ?_
         refine wp_ret ?_
         refine retCT (g := g12) (cs := #[.int .i64 0, .int .i64 i.dst, .int .i64 i.a, .int .i64 i.b, .int .i64 i.imm, .int .i64 i.loc, .int .i64 i.off, .int .i64 i.index, .int .i64 i.size, .int .i64 i.fn, .bool i.acq, .bool i.weak, .bool i.rel, .int .i64 i.pred, .int .i64 i.succ, .int .i64 i.to, .bool i.zero]) (v := (.bool true)) rfl hA2010 rfl rfl m2002 row23 ?_
         exact ⟨ret_two (by simp [insC, bareF, opB, rdB, wrB, hb69, hb176, hb320, hb806, hb1083, hb1374, hb1746, eq_of_beq hb1962]) (by first | (simp [fineB, hb69, hb176, hb320, hb806, hb1083, hb1374, hb1746, eq_of_beq hb1962, Bool.or_assoc, Bool.and_assoc]; done) | (rw [Bool.eq_iff_iff]; simp [fineB, hb69, hb176, hb320, hb806, hb1083, hb1374, hb1746, eq_of_beq hb1962]; done) | (rw [Bool.eq_iff_iff]; simp [fineB, hb69, hb176, hb320, hb806, hb1083, hb1374, hb1746, eq_of_beq hb1962]; omega) | grind), b2005⟩
        ·skip
         have hq2011 := ne_of_beq hb1962
         refine q_step hA1961 rfl (d_bin (wn rfl) (hA1961.ev rfl) (hA1961.ev rfl) (b_eq _ _ i.op 8 false _ hb1962) ?_)
         intro a2012 hA2013
         refine q_step hA2013 rfl (d_assign (wn rfl) (hA2013.ev rfl) ?_)
         intro a2014 hA2015
         refine q_end ?_
         have hA2016 : St 192 [(1, (.pointer (some ⟨g3, 0, none⟩))), (2, (.pointer (some ⟨g12, 0, none⟩))), (3, (.bool false)), (4, (.pointer (some ⟨g28, 0, none⟩))), (5, (.bool true)), (9, (.int .i64 i.op)), (163, (.bool false))] a2014 := hA2015.cut _ (fm_cons (hA2015.get 1 _ rfl) (fm_cons (hA2015.get 2 _ rfl) (fm_cons (hA2015.get 3 _ rfl) (fm_cons (hA2015.get 4 _ rfl) (fm_cons (hA2015.get 5 _ rfl) (fm_cons (hA2015.get 9 _ rfl) (fm_cons (hA2015.get 163 _ rfl) fm_nil)))))))
         refine t_norm ?_
         refine c_false hA2016 rfl ?_
         refine wp_seq ?_
         refine wp_region_lit ?_
         rcases Bool.eq_false_or_eq_true (i.op == 9) with hb2017 | hb2017
         ·skip
          have hq2018 := eq_of_beq hb2017
          refine q_step hA2016 rfl (d_bin (wn rfl) (hA2016.ev rfl) (hA2016.ev rfl) (b_eq _ _ i.op 9 true _ hb2017) ?_)
          intro a2019 hA2020
          refine q_step hA2020 rfl (d_assign (wn rfl) (hA2020.ev rfl) ?_)
          intro a2021 hA2022
          refine q_end ?_
          have hA2023 : St 192 [(1, (.pointer (some ⟨g3, 0, none⟩))), (2, (.pointer (some ⟨g12, 0, none⟩))), (3, (.bool false)), (4, (.pointer (some ⟨g28, 0, none⟩))), (5, (.bool true)), (165, (.bool true))] a2021 := hA2022.cut _ (fm_cons (hA2022.get 1 _ rfl) (fm_cons (hA2022.get 2 _ rfl) (fm_cons (hA2022.get 3 _ rfl) (fm_cons (hA2022.get 4 _ rfl) (fm_cons (hA2022.get 5 _ rfl) (fm_cons (hA2022.get 165 _ rfl) fm_nil))))))
          refine t_norm ?_
          refine c_true hA2023 rfl ?_
          refine wp_seq ?_
          refine join_wp (K := fun a2024 w2025 => St 192 [(1, (.pointer (some ⟨g3, 0, none⟩))), (2, (.pointer (some ⟨g12, 0, none⟩))), (3, (.bool false)), (4, (.pointer (some ⟨g28, 0, none⟩))), (5, (.bool (regB i.a)))] a2024 ∧ Below w.heap.size w w2025 ∧ Blk w2025 g3 (insC i) 23 ∧ Blk w2025 g12 #[.int .i64 0, .int .i64 0, .int .i64 0, .int .i64 0, .int .i64 0, .int .i64 0, .int .i64 0, .int .i64 0, .int .i64 0, .int .i64 0, .bool false, .bool false, .bool false, .int .i64 0, .int .i64 0, .int .i64 0, .bool false] 23 ∧ Blk w2025 g28 #[.int .i64 0, .int .i64 i.dst, .int .i64 i.a, .int .i64 i.b, .int .i64 i.imm, .int .i64 i.loc, .int .i64 i.off, .int .i64 i.index, .int .i64 i.size, .int .i64 i.fn, .bool i.acq, .bool i.weak, .bool i.rel, .int .i64 i.pred, .int .i64 i.succ, .int .i64 i.to, .bool i.zero] 23) ?_ ?_
          ·skip
           refine wp_region_lit ?_
           refine q_step hA2023 rfl (d_fieldAddr (wn rfl) (hA2023.ev rfl) fo23_2 ?_)
           intro a2026 hA2027
           refine q_step hA2027 rfl (d_load (v := (.int .i64 i.a)) (wn rfl) (hA2027.ev rfl) one3 (m58.cell rfl) ?_)
           intro a2028 hA2029
           refine q_step hA2029 rfl (d_call (wn rfl) ent44 (map1 (hA2029.ev rfl)) (rreg_any i.a w55) ?_)
           rintro e2033 w2030 ⟨he2032, hG2031⟩
           have m2034 := m58.grow hG2031
           have m2035 := m59.grow hG2031
           have m2036 := m57.grow hG2031
           have b2037 := below_grow b60 hG2031 b60.size
           rcases Bool.eq_false_or_eq_true (regB i.a) with hb2038 | hb2038
           ·skip
            refine ⟨.bool true, he2032.trans (ret_bool hb2038), ?_⟩
            intro a2040 hA2041
            refine q_step hA2041 rfl (d_assign (wn rfl) (hA2041.ev rfl) ?_)
            intro a2042 hA2043
            refine q_end ?_
            exact ⟨hA2043.cut _ (fm_cons (hA2043.get 1 _ rfl) (fm_cons (hA2043.get 2 _ rfl) (fm_cons (hA2043.get 3 _ rfl) (fm_cons (hA2043.get 4 _ rfl) (fm_cons ((hA2043.get 5 _ rfl).trans (congrArg Value.bool (by simp [hb2038]))) fm_nil))))), b2037, m2034, m2035, m2036⟩
           ·skip
            refine ⟨.bool false, he2032.trans (ret_bool hb2038), ?_⟩
            intro a2045 hA2046
            refine q_step hA2046 rfl (d_assign (wn rfl) (hA2046.ev rfl) ?_)
            intro a2047 hA2048
            refine q_end ?_
            exact ⟨hA2048.cut _ (fm_cons (hA2048.get 1 _ rfl) (fm_cons (hA2048.get 2 _ rfl) (fm_cons (hA2048.get 3 _ rfl) (fm_cons (hA2048.get 4 _ rfl) (fm_cons ((hA2048.get 5 _ rfl).trans (congrArg Value.bool (by simp [hb2038]))) fm_nil))))), b2037, m2034, m2035, m2036⟩
          rintro a2024 w2025 ⟨hA2049, b2050, m2051, m2052, m2053⟩
          refine t_norm ?_
          refine wp_seq ?_
          refine wp_region_lit ?_
          refine q_step hA2049 rfl (d_fieldAddr (wn rfl) (hA2049.ev rfl) fo23_2 ?_)
          intro a2054 hA2055
          refine q_step hA2055 rfl (d_store (wn rfl) (hA2055.ev rfl) (hA2055.ev rfl) one3 rfl m2053 (Nat.le_of_ble_eq_true rfl) ?_)
          intro w2056 hU2057 (m2058 : Blk w2056 g28 #[.int .i64 0, .int .i64 i.dst, .int .i64 (-1), .int .i64 i.b, .int .i64 i.imm, .int .i64 i.loc, .int .i64 i.off, .int .i64 i.index, .int .i64 i.size, .int .i64 i.fn, .bool i.acq, .bool i.weak, .bool i.rel, .int .i64 i.pred, .int .i64 i.succ, .int .i64 i.to, .bool i.zero] 23)
          have m2059 := m2051.upd hU2057 n34
          have m2060 := m2052.upd hU2057 n35
          have b2061 := hU2057.below b2050 ge33
          intro a2062 hA2063
          refine q_end ?_
          have hA2064 : St 192 [(1, (.pointer (some ⟨g3, 0, none⟩))), (2, (.pointer (some ⟨g12, 0, none⟩))), (3, (.bool false)), (4, (.pointer (some ⟨g28, 0, none⟩))), (5, (.bool (regB i.a)))] a2062 := hA2063.cut _ (fm_cons (hA2063.get 1 _ rfl) (fm_cons (hA2063.get 2 _ rfl) (fm_cons (hA2063.get 3 _ rfl) (fm_cons (hA2063.get 4 _ rfl) (fm_cons (hA2063.get 5 _ rfl) fm_nil)))))
          refine t_norm ?_
          refine wp_seq ?_
          refine wp_region_lit ?_
          refine q_step hA2064 rfl (d_fieldAddr (wn rfl) (hA2064.ev rfl) fo23_16 ?_)
          intro a2065 hA2066
          refine q_step hA2066 rfl (d_store (wn rfl) (hA2066.ev rfl) (hA2066.ev rfl) one4 rfl m2058 (Nat.le_of_ble_eq_true rfl) ?_)
          intro w2067 hU2068 (m2069 : Blk w2067 g28 #[.int .i64 0, .int .i64 i.dst, .int .i64 (-1), .int .i64 i.b, .int .i64 i.imm, .int .i64 i.loc, .int .i64 i.off, .int .i64 i.index, .int .i64 i.size, .int .i64 i.fn, .bool i.acq, .bool i.weak, .bool i.rel, .int .i64 i.pred, .int .i64 i.succ, .int .i64 i.to, .bool false] 23)
          have m2070 := m2059.upd hU2068 n34
          have m2071 := m2060.upd hU2068 n35
          have b2072 := hU2068.below b2061 ge33
          intro a2073 hA2074
          refine q_end ?_
          have hA2075 : St 192 [(1, (.pointer (some ⟨g3, 0, none⟩))), (2, (.pointer (some ⟨g12, 0, none⟩))), (3, (.bool false)), (4, (.pointer (some ⟨g28, 0, none⟩))), (5, (.bool (regB i.a)))] a2073 := hA2074.cut _ (fm_cons (hA2074.get 1 _ rfl) (fm_cons (hA2074.get 2 _ rfl) (fm_cons (hA2074.get 3 _ rfl) (fm_cons (hA2074.get 4 _ rfl) (fm_cons (hA2074.get 5 _ rfl) fm_nil)))))
          refine t_norm ?_
          refine wp_region_lit ?_
          refine q_step hA2075 rfl (d_fieldAddr (wn rfl) (hA2075.ev rfl) fo23_15 ?_)
          intro a2076 hA2077
          refine q_step hA2077 rfl (d_store (wn rfl) (hA2077.ev rfl) (hA2077.ev rfl) one3 rfl m2069 (Nat.le_of_ble_eq_true rfl) ?_)
          intro w2078 hU2079 (m2080 : Blk w2078 g28 #[.int .i64 0, .int .i64 i.dst, .int .i64 (-1), .int .i64 i.b, .int .i64 i.imm, .int .i64 i.loc, .int .i64 i.off, .int .i64 i.index, .int .i64 i.size, .int .i64 i.fn, .bool i.acq, .bool i.weak, .bool i.rel, .int .i64 i.pred, .int .i64 i.succ, .int .i64 0, .bool false] 23)
          have m2081 := m2070.upd hU2079 n34
          have m2082 := m2071.upd hU2079 n35
          have b2083 := hU2079.below b2072 ge33
          intro a2084 hA2085
          refine q_end ?_
          have hA2086 : St 192 [(1, (.pointer (some ⟨g3, 0, none⟩))), (2, (.pointer (some ⟨g12, 0, none⟩))), (3, (.bool false)), (4, (.pointer (some ⟨g28, 0, none⟩))), (5, (.bool (regB i.a)))] a2084 := hA2085.cut _ (fm_cons (hA2085.get 1 _ rfl) (fm_cons (hA2085.get 2 _ rfl) (fm_cons (hA2085.get 3 _ rfl) (fm_cons (hA2085.get 4 _ rfl) (fm_cons (hA2085.get 5 _ rfl) fm_nil)))))
          refine i_norm ?_
          refine t_norm ?_
          refine wp_seq ?_
          refine wp_seq ?_
          refine wp_region_lit ?_
          refine q_step hA2086 rfl (d_fieldAddr (wn rfl) (hA2086.ev rfl) fo23_0 ?_)
          intro a2087 hA2088
          refine q_step hA2088 rfl (d_load (v := (.int .i64 i.op)) (wn rfl) (hA2088.ev rfl) one3 (m2081.cell rfl) ?_)
          intro a2089 hA2090
          refine q_step hA2090 rfl (d_bin (wn rfl) (hA2090.ev rfl) (hA2090.ev rfl) (b_eq _ _ i.op 4 false _ hb806) ?_)
          intro a2091 hA2092
          refine q_step hA2092 rfl (d_move (wn rfl) (hA2092.ev rfl) ?_)
          intro a2093 hA2094
          refine q_step hA2094 rfl (d_fieldAddr (wy rfl rfl (hA2094.get 176 _ rfl)) (hA2094.ev rfl) fo23_0 ?_)
          intro a2095 hA2096
          refine q_step hA2096 rfl (d_load (v := (.int .i64 i.op)) (wy rfl rfl (hA2096.get 176 _ rfl)) (hA2096.ev rfl) one3 (m2081.cell rfl) ?_)
          intro a2097 hA2098
          refine q_step hA2098 rfl (d_bin (wy rfl rfl (hA2098.get 176 _ rfl)) (hA2098.ev rfl) (hA2098.ev rfl) (b_eq _ _ i.op 5 false _ hb1083) ?_)
          intro a2099 hA2100
          refine q_step hA2100 rfl (d_pickF (wn rfl) (hA2100.ev rfl) (hA2100.ev rfl) ?_)
          intro a2101 hA2102
          refine q_step hA2102 rfl (d_move (wn rfl) (hA2102.ev rfl) ?_)
          intro a2103 hA2104
          refine q_step hA2104 rfl (d_fieldAddr (wy rfl rfl (hA2104.get 181 _ rfl)) (hA2104.ev rfl) fo23_0 ?_)
          intro a2105 hA2106
          refine q_step hA2106 rfl (d_load (v := (.int .i64 i.op)) (wy rfl rfl (hA2106.get 181 _ rfl)) (hA2106.ev rfl) one3 (m2081.cell rfl) ?_)
          intro a2107 hA2108
          refine q_step hA2108 rfl (d_bin (wy rfl rfl (hA2108.get 181 _ rfl)) (hA2108.ev rfl) (hA2108.ev rfl) (b_eq _ _ i.op 6 false _ hb1374) ?_)
          intro a2109 hA2110
          refine q_step hA2110 rfl (d_pickF (wn rfl) (hA2110.ev rfl) (hA2110.ev rfl) ?_)
          intro a2111 hA2112
          refine q_end ?_
          have hA2113 : St 192 [(2, (.pointer (some ⟨g12, 0, none⟩))), (3, (.bool false)), (4, (.pointer (some ⟨g28, 0, none⟩))), (5, (.bool (regB i.a))), (185, (.bool false))] a2111 := hA2112.cut _ (fm_cons (hA2112.get 2 _ rfl) (fm_cons (hA2112.get 3 _ rfl) (fm_cons (hA2112.get 4 _ rfl) (fm_cons (hA2112.get 5 _ rfl) (fm_cons (hA2112.get 185 _ rfl) fm_nil)))))
          refine t_norm ?_
          refine c_false hA2113 rfl ?_
          refine wp_skip ?_
          refine t_norm ?_
          refine wp_seq ?_
          refine wp_region_lit ?_
          refine q_step hA2113 rfl (d_loadRow (cs := #[.int .i64 0, .int .i64 i.dst, .int .i64 (-1), .int .i64 i.b, .int .i64 i.imm, .int .i64 i.loc, .int .i64 i.off, .int .i64 i.index, .int .i64 i.size, .int .i64 i.fn, .bool i.acq, .bool i.weak, .bool i.rel, .int .i64 i.pred, .int .i64 i.succ, .int .i64 0, .bool false]) (wn rfl) (hA2113.ev rfl) row23 m2080 ?_)
          intro a2114 hA2115
          refine q_step hA2115 rfl (d_move (wn rfl) (hA2115.ev rfl) ?_)
          intro a2116 hA2117
          refine q_step hA2117 rfl (d_storeRow (wn rfl) (hA2117.ev rfl) (hA2117.ev rfl) row23 m2082 rfl rfl ?_)
          intro w2118 hU2119 (m2120 : Blk w2118 g12 #[.int .i64 0, .int .i64 i.dst, .int .i64 (-1), .int .i64 i.b, .int .i64 i.imm, .int .i64 i.loc, .int .i64 i.off, .int .i64 i.index, .int .i64 i.size, .int .i64 i.fn, .bool i.acq, .bool i.weak, .bool i.rel, .int .i64 i.pred, .int .i64 i.succ, .int .i64 0, .bool false] 23)
          have m2121 := m2081.upd hU2119 n18
          have m2122 := m2080.upd hU2119 (Ne.symm n35)
          have b2123 := hU2119.below b2083 ge17
          intro a2124 hA2125
          refine q_step hA2125 rfl (d_assign (wn rfl) (hA2125.ev rfl) ?_)
          intro a2126 hA2127
          refine q_end ?_
          have hA2128 : St 192 [(2, (.pointer (some ⟨g12, 0, none⟩))), (3, (.bool (regB i.a)))] a2126 := hA2127.cut _ (fm_cons (hA2127.get 2 _ rfl) (fm_cons (hA2127.get 3 _ rfl) fm_nil))
          refine t_norm ?_
          refine wp_ret ?_
          refine retCT (g := g12) (cs := #[.int .i64 0, .int .i64 i.dst, .int .i64 (-1), .int .i64 i.b, .int .i64 i.imm, .int .i64 i.loc, .int .i64 i.off, .int .i64 i.index, .int .i64 i.size, .int .i64 i.fn, .bool i.acq, .bool i.weak, .bool i.rel, .int .i64 i.pred, .int .i64 i.succ, .int .i64 0, .bool false]) (v := (.bool (regB i.a))) rfl hA2128 rfl rfl m2120 row23 ?_
          exact ⟨ret_two (by simp [insC, bareF, opB, rdB, wrB, hb69, hb176, hb320, hb806, hb1083, hb1374, hb1746, hb1962, eq_of_beq hb2017]) (by first | (simp [fineB, hb69, hb176, hb320, hb806, hb1083, hb1374, hb1746, hb1962, eq_of_beq hb2017, Bool.or_assoc, Bool.and_assoc]; done) | (rw [Bool.eq_iff_iff]; simp [fineB, hb69, hb176, hb320, hb806, hb1083, hb1374, hb1746, hb1962, eq_of_beq hb2017]; done) | (rw [Bool.eq_iff_iff]; simp [fineB, hb69, hb176, hb320, hb806, hb1083, hb1374, hb1746, hb1962, eq_of_beq hb2017]; omega) | grind), b2123⟩
         ·skip
          have hq2129 := ne_of_beq hb2017
          refine q_step hA2016 rfl (d_bin (wn rfl) (hA2016.ev rfl) (hA2016.ev rfl) (b_eq _ _ i.op 9 false _ hb2017) ?_)
          intro a2130 hA2131
          refine q_step hA2131 rfl (d_assign (wn rfl) (hA2131.ev rfl) ?_)
          intro a2132 hA2133
          refine q_end ?_
          have hA2134 : St 192 [(1, (.pointer (some ⟨g3, 0, none⟩))), (2, (.pointer (some ⟨g12, 0, none⟩))), (3, (.bool false)), (4, (.pointer (some ⟨g28, 0, none⟩))), (5, (.bool true)), (165, (.bool false))] a2132 := hA2133.cut _ (fm_cons (hA2133.get 1 _ rfl) (fm_cons (hA2133.get 2 _ rfl) (fm_cons (hA2133.get 3 _ rfl) (fm_cons (hA2133.get 4 _ rfl) (fm_cons (hA2133.get 5 _ rfl) (fm_cons (hA2133.get 165 _ rfl) fm_nil))))))
          refine t_norm ?_
          refine c_false hA2134 rfl ?_
          refine wp_region_lit ?_
          refine q_step hA2134 rfl (d_assign (wn rfl) (hA2134.ev rfl) ?_)
          intro a2135 hA2136
          refine q_end ?_
          have hA2137 : St 192 [(1, (.pointer (some ⟨g3, 0, none⟩))), (2, (.pointer (some ⟨g12, 0, none⟩))), (3, (.bool false)), (4, (.pointer (some ⟨g28, 0, none⟩))), (5, (.bool false))] a2135 := hA2136.cut _ (fm_cons (hA2136.get 1 _ rfl) (fm_cons (hA2136.get 2 _ rfl) (fm_cons (hA2136.get 3 _ rfl) (fm_cons (hA2136.get 4 _ rfl) (fm_cons (hA2136.get 5 _ rfl) fm_nil)))))
          refine i_norm ?_
          refine t_norm ?_
          refine wp_seq ?_
          refine wp_seq ?_
          refine wp_region_lit ?_
          refine q_step hA2137 rfl (d_fieldAddr (wn rfl) (hA2137.ev rfl) fo23_0 ?_)
          intro a2138 hA2139
          refine q_step hA2139 rfl (d_load (v := (.int .i64 i.op)) (wn rfl) (hA2139.ev rfl) one3 (m58.cell rfl) ?_)
          intro a2140 hA2141
          refine q_step hA2141 rfl (d_bin (wn rfl) (hA2141.ev rfl) (hA2141.ev rfl) (b_eq _ _ i.op 4 false _ hb806) ?_)
          intro a2142 hA2143
          refine q_step hA2143 rfl (d_move (wn rfl) (hA2143.ev rfl) ?_)
          intro a2144 hA2145
          refine q_step hA2145 rfl (d_fieldAddr (wy rfl rfl (hA2145.get 176 _ rfl)) (hA2145.ev rfl) fo23_0 ?_)
          intro a2146 hA2147
          refine q_step hA2147 rfl (d_load (v := (.int .i64 i.op)) (wy rfl rfl (hA2147.get 176 _ rfl)) (hA2147.ev rfl) one3 (m58.cell rfl) ?_)
          intro a2148 hA2149
          refine q_step hA2149 rfl (d_bin (wy rfl rfl (hA2149.get 176 _ rfl)) (hA2149.ev rfl) (hA2149.ev rfl) (b_eq _ _ i.op 5 false _ hb1083) ?_)
          intro a2150 hA2151
          refine q_step hA2151 rfl (d_pickF (wn rfl) (hA2151.ev rfl) (hA2151.ev rfl) ?_)
          intro a2152 hA2153
          refine q_step hA2153 rfl (d_move (wn rfl) (hA2153.ev rfl) ?_)
          intro a2154 hA2155
          refine q_step hA2155 rfl (d_fieldAddr (wy rfl rfl (hA2155.get 181 _ rfl)) (hA2155.ev rfl) fo23_0 ?_)
          intro a2156 hA2157
          refine q_step hA2157 rfl (d_load (v := (.int .i64 i.op)) (wy rfl rfl (hA2157.get 181 _ rfl)) (hA2157.ev rfl) one3 (m58.cell rfl) ?_)
          intro a2158 hA2159
          refine q_step hA2159 rfl (d_bin (wy rfl rfl (hA2159.get 181 _ rfl)) (hA2159.ev rfl) (hA2159.ev rfl) (b_eq _ _ i.op 6 false _ hb1374) ?_)
          intro a2160 hA2161
          refine q_step hA2161 rfl (d_pickF (wn rfl) (hA2161.ev rfl) (hA2161.ev rfl) ?_)
          intro a2162 hA2163
          refine q_end ?_
          have hA2164 : St 192 [(2, (.pointer (some ⟨g12, 0, none⟩))), (3, (.bool false)), (4, (.pointer (some ⟨g28, 0, none⟩))), (5, (.bool false)), (185, (.bool false))] a2162 := hA2163.cut _ (fm_cons (hA2163.get 2 _ rfl) (fm_cons (hA2163.get 3 _ rfl) (fm_cons (hA2163.get 4 _ rfl) (fm_cons (hA2163.get 5 _ rfl) (fm_cons (hA2163.get 185 _ rfl) fm_nil)))))
          refine t_norm ?_
          refine c_false hA2164 rfl ?_
          refine wp_skip ?_
          refine t_norm ?_
          refine wp_seq ?_
          refine wp_region_lit ?_
          refine q_step hA2164 rfl (d_loadRow (cs := #[.int .i64 0, .int .i64 i.dst, .int .i64 i.a, .int .i64 i.b, .int .i64 i.imm, .int .i64 i.loc, .int .i64 i.off, .int .i64 i.index, .int .i64 i.size, .int .i64 i.fn, .bool i.acq, .bool i.weak, .bool i.rel, .int .i64 i.pred, .int .i64 i.succ, .int .i64 i.to, .bool i.zero]) (wn rfl) (hA2164.ev rfl) row23 m57 ?_)
          intro a2165 hA2166
          refine q_step hA2166 rfl (d_move (wn rfl) (hA2166.ev rfl) ?_)
          intro a2167 hA2168
          refine q_step hA2168 rfl (d_storeRow (wn rfl) (hA2168.ev rfl) (hA2168.ev rfl) row23 m59 rfl rfl ?_)
          intro w2169 hU2170 (m2171 : Blk w2169 g12 #[.int .i64 0, .int .i64 i.dst, .int .i64 i.a, .int .i64 i.b, .int .i64 i.imm, .int .i64 i.loc, .int .i64 i.off, .int .i64 i.index, .int .i64 i.size, .int .i64 i.fn, .bool i.acq, .bool i.weak, .bool i.rel, .int .i64 i.pred, .int .i64 i.succ, .int .i64 i.to, .bool i.zero] 23)
          have m2172 := m58.upd hU2170 n18
          have m2173 := m57.upd hU2170 (Ne.symm n35)
          have b2174 := hU2170.below b60 ge17
          intro a2175 hA2176
          refine q_step hA2176 rfl (d_assign (wn rfl) (hA2176.ev rfl) ?_)
          intro a2177 hA2178
          refine q_end ?_
          have hA2179 : St 192 [(2, (.pointer (some ⟨g12, 0, none⟩))), (3, (.bool false))] a2177 := hA2178.cut _ (fm_cons (hA2178.get 2 _ rfl) (fm_cons (hA2178.get 3 _ rfl) fm_nil))
          refine t_norm ?_
          refine wp_ret ?_
          refine retCT (g := g12) (cs := #[.int .i64 0, .int .i64 i.dst, .int .i64 i.a, .int .i64 i.b, .int .i64 i.imm, .int .i64 i.loc, .int .i64 i.off, .int .i64 i.index, .int .i64 i.size, .int .i64 i.fn, .bool i.acq, .bool i.weak, .bool i.rel, .int .i64 i.pred, .int .i64 i.succ, .int .i64 i.to, .bool i.zero]) (v := (.bool false)) rfl hA2179 rfl rfl m2171 row23 ?_
          exact ⟨ret_two (by simp [insC, bareF, opB, rdB, wrB, hb69, hb176, hb320, hb806, hb1083, hb1374, hb1746, hb1962, hb2017]) (by first | (simp [fineB, hb69, hb176, hb320, hb806, hb1083, hb1374, hb1746, hb1962, hb2017, Bool.or_assoc, Bool.and_assoc]; done) | (rw [Bool.eq_iff_iff]; simp [fineB, hb69, hb176, hb320, hb806, hb1083, hb1374, hb1746, hb1962, hb2017]; done) | (rw [Bool.eq_iff_iff]; simp [fineB, hb69, hb176, hb320, hb806, hb1083, hb1374, hb1746, hb1962, hb2017]; omega) | grind), b2174⟩
end Go.Proofs.Ytlhompedcphnnaa
/- The document's rule for an instruction, said in two ways, is one. -/
namespace Go.Proofs.Ytlhompedcphnnaa

theorem ieq {i j : Ins} : insEq i j = true ↔ i = j := by unfold insEq; simp
theorem right_same (i : Ins) : (insEq (bareF i) blank && fineB i) = (insEq i (plainF i) && soundB i) := by
  rw [Bool.eq_iff_iff, Bool.and_eq_true, Bool.and_eq_true, ieq, ieq]
  obtain ⟨op, dst, a, b, imm, loc, off, index, size, fn, acq, weak, rel, pred, succ, to, zero⟩ := i
  by_cases h1 : op = 1
  · subst h1; simp [bareF, plainF, blank, fineB, soundB, opB, rdB, wrB]
  by_cases h2 : op = 2
  · subst h2; simp [bareF, plainF, blank, fineB, soundB, opB, rdB, wrB]
  by_cases h3 : op = 3
  · subst h3; simp [bareF, plainF, blank, fineB, soundB, opB, rdB, wrB, immF, ronB]; grind
  by_cases h4 : op = 4
  · subst h4; simp [bareF, plainF, blank, fineB, soundB, opB, rdB, wrB, plc_acc]
  by_cases h5 : op = 5
  · subst h5; simp [bareF, plainF, blank, fineB, soundB, opB, rdB, wrB, plc_acc, immF, ronB]; grind
  by_cases h6 : op = 6
  · subst h6; simp [bareF, plainF, blank, fineB, soundB, opB, rdB, wrB, plc_acc]
  by_cases h7 : op = 7
  · subst h7; simp [bareF, plainF, blank, fineB, soundB, opB, rdB, wrB, fenB]; grind
  by_cases h8 : op = 8
  · subst h8; simp [bareF, plainF, blank, fineB, soundB, opB, rdB, wrB]
  by_cases h9 : op = 9
  · subst h9; simp [bareF, plainF, blank, fineB, soundB, opB, rdB, wrB]
  simp [fineB, soundB, h1, h2, h3, h4, h5, h6, h7, h8, h9]
end Go.Proofs.Ytlhompedcphnnaa
