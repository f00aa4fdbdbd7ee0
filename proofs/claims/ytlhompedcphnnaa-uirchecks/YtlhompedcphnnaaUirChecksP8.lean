/- Contracts of functions on single instructions. -/
import Derived.Test.YtlhompedcphnnaaUirChecksP7
namespace Go.Proofs.Ytlhompedcphnnaa
open Go.RowKit
set_option linter.unusedSimpArgs false
set_option linter.unusedVariables false
set_option maxHeartbeats 4000000 in
set_option maxRecDepth 4000 in
theorem rgives_any (i : Ins) (w : World) : Calls Try.prog 19 #[.agg (insC i)] w fun e w' => e = .returned (.int .i64 (givesF i)) ∧ Grow w w' := by
 have b0 : Below w.heap.size w w := Below.refl _ _
 refine enter (n := 13) Try.func19 rfl rfl (Nat.le_of_ble_eq_true rfl) ?_
 intro a1 hA2
 refine wp_seq ?_
 refine wp_region_lit ?_
 refine q_step hA2 rfl (d_box (wn rfl) (hA2.ev rfl) ?_)
 intro g3 w4 eg5 hG6 (m7 : Blk w4 g3 (insC i) 23)
 have ge8 : w.heap.size ≤ g3 := eg5 ▸ b0.size
 have b9 := below_grow b0 hG6 b0.size
 intro a10 hA11
 refine q_step hA11 rfl (d_assign (wn rfl) (hA11.ev rfl) ?_)
 intro a12 hA13
 refine q_end ?_
 have hA14 : St 13 [(1, (.pointer (some ⟨g3, 0, none⟩))), (2, (.int .i64 0))] a12 := hA13.cut _ (fm_cons (hA13.get 1 _ rfl) (fm_cons (hA13.get 2 _ rfl) fm_nil))
 refine t_norm ?_
 refine wp_seq ?_
 refine wp_seq ?_
 refine wp_region_lit ?_
 refine q_step hA14 rfl (d_fieldAddr (wn rfl) (hA14.ev rfl) fo23_0 ?_)
 intro a15 hA16
 refine q_step hA16 rfl (d_load (v := (.int .i64 i.op)) (wn rfl) (hA16.ev rfl) one3 (m7.cell rfl) ?_)
 intro a17 hA18
 refine q_end ?_
 have hA19 : St 13 [(1, (.pointer (some ⟨g3, 0, none⟩))), (2, (.int .i64 0)), (4, (.int .i64 i.op))] a17 := hA18.cut _ (fm_cons (hA18.get 1 _ rfl) (fm_cons (hA18.get 2 _ rfl) (fm_cons (hA18.get 4 _ rfl) fm_nil)))
 refine t_norm ?_
 refine wp_block ?_
 refine wp_seq ?_
 refine wp_seq ?_
 refine wp_region_lit ?_
 rcases Bool.eq_false_or_eq_true (i.op == 1) with hb20 | hb20
 ·skip
  have hq21 := eq_of_beq hb20
  refine q_step hA19 rfl (d_bin (wn rfl) (hA19.ev rfl) (hA19.ev rfl) (b_eq _ _ i.op 1 true _ hb20) ?_)
  intro a22 hA23
  refine q_step hA23 rfl (d_assign (wn rfl) (hA23.ev rfl) ?_)
  intro a24 hA25
  refine q_end ?_
  have hA26 : St 13 [(1, (.pointer (some ⟨g3, 0, none⟩))), (2, (.int .i64 0)), (4, (.int .i64 i.op)), (5, (.bool true))] a24 := hA25.cut _ (fm_cons (hA25.get 1 _ rfl) (fm_cons (hA25.get 2 _ rfl) (fm_cons (hA25.get 4 _ rfl) (fm_cons (hA25.get 5 _ rfl) fm_nil))))
  refine t_norm ?_
  refine c_true hA26 rfl ?_
  refine wp_skip ?_
  refine t_norm ?_
  refine c_true hA26 rfl ?_
  refine wp_seq ?_
  refine wp_region_lit ?_
  refine q_step hA26 rfl (d_fieldAddr (wn rfl) (hA26.ev rfl) fo23_1 ?_)
  intro a27 hA28
  refine q_step hA28 rfl (d_load (v := (.int .i64 i.dst)) (wn rfl) (hA28.ev rfl) one3 (m7.cell rfl) ?_)
  intro a29 hA30
  refine q_step hA30 rfl (d_assign (wn rfl) (hA30.ev rfl) ?_)
  intro a31 hA32
  refine q_end ?_
  have hA33 : St 13 [(2, (.int .i64 i.dst))] a31 := hA32.cut _ (fm_cons (hA32.get 2 _ rfl) fm_nil)
  refine t_norm ?_
  refine wp_ret ?_
  refine i_ret ?_
  refine t_ret ?_
  refine ret1 rfl hA33 (v := (.int .i64 i.dst)) rfl ?_
  exact ⟨ret_int (by simp [givesF, plainF, eq_of_beq hb20]), b9⟩
 ·skip
  have hq34 := ne_of_beq hb20
  refine q_step hA19 rfl (d_bin (wn rfl) (hA19.ev rfl) (hA19.ev rfl) (b_eq _ _ i.op 1 false _ hb20) ?_)
  intro a35 hA36
  refine q_step hA36 rfl (d_assign (wn rfl) (hA36.ev rfl) ?_)
  intro a37 hA38
  refine q_end ?_
  have hA39 : St 13 [(1, (.pointer (some ⟨g3, 0, none⟩))), (2, (.int .i64 0)), (4, (.int .i64 i.op)), (5, (.bool false))] a37 := hA38.cut _ (fm_cons (hA38.get 1 _ rfl) (fm_cons (hA38.get 2 _ rfl) (fm_cons (hA38.get 4 _ rfl) (fm_cons (hA38.get 5 _ rfl) fm_nil))))
  refine t_norm ?_
  refine c_false hA39 rfl ?_
  refine wp_seq ?_
  refine wp_region_lit ?_
  rcases Bool.eq_false_or_eq_true (i.op == 2) with hb40 | hb40
  ·skip
   have hq41 := eq_of_beq hb40
   refine q_step hA39 rfl (d_bin (wn rfl) (hA39.ev rfl) (hA39.ev rfl) (b_eq _ _ i.op 2 true _ hb40) ?_)
   intro a42 hA43
   refine q_step hA43 rfl (d_assign (wn rfl) (hA43.ev rfl) ?_)
   intro a44 hA45
   refine q_end ?_
   have hA46 : St 13 [(1, (.pointer (some ⟨g3, 0, none⟩))), (2, (.int .i64 0)), (4, (.int .i64 i.op)), (5, (.bool true))] a44 := hA45.cut _ (fm_cons (hA45.get 1 _ rfl) (fm_cons (hA45.get 2 _ rfl) (fm_cons (hA45.get 4 _ rfl) (fm_cons (hA45.get 5 _ rfl) fm_nil))))
   refine t_norm ?_
   refine c_true hA46 rfl ?_
   refine wp_skip ?_
   refine t_norm ?_
   refine c_true hA46 rfl ?_
   refine wp_seq ?_
   refine wp_region_lit ?_
   refine q_step hA46 rfl (d_fieldAddr (wn rfl) (hA46.ev rfl) fo23_1 ?_)
   intro a47 hA48
   refine q_step hA48 rfl (d_load (v := (.int .i64 i.dst)) (wn rfl) (hA48.ev rfl) one3 (m7.cell rfl) ?_)
   intro a49 hA50
   refine q_step hA50 rfl (d_assign (wn rfl) (hA50.ev rfl) ?_)
   intro a51 hA52
   refine q_end ?_
   have hA53 : St 13 [(2, (.int .i64 i.dst))] a51 := hA52.cut _ (fm_cons (hA52.get 2 _ rfl) fm_nil)
   refine t_norm ?_
   refine wp_ret ?_
   refine i_ret ?_
   refine t_ret ?_
   refine ret1 rfl hA53 (v := (.int .i64 i.dst)) rfl ?_
   exact ⟨ret_int (by simp [givesF, plainF, hb20, eq_of_beq hb40]), b9⟩
  ·skip
   have hq54 := ne_of_beq hb40
   refine q_step hA39 rfl (d_bin (wn rfl) (hA39.ev rfl) (hA39.ev rfl) (b_eq _ _ i.op 2 false _ hb40) ?_)
   intro a55 hA56
   refine q_step hA56 rfl (d_assign (wn rfl) (hA56.ev rfl) ?_)
   intro a57 hA58
   refine q_end ?_
   have hA59 : St 13 [(1, (.pointer (some ⟨g3, 0, none⟩))), (2, (.int .i64 0)), (4, (.int .i64 i.op)), (5, (.bool false))] a57 := hA58.cut _ (fm_cons (hA58.get 1 _ rfl) (fm_cons (hA58.get 2 _ rfl) (fm_cons (hA58.get 4 _ rfl) (fm_cons (hA58.get 5 _ rfl) fm_nil))))
   refine t_norm ?_
   refine c_false hA59 rfl ?_
   refine wp_seq ?_
   refine wp_region_lit ?_
   rcases Bool.eq_false_or_eq_true (i.op == 3) with hb60 | hb60
   ·skip
    have hq61 := eq_of_beq hb60
    refine q_step hA59 rfl (d_bin (wn rfl) (hA59.ev rfl) (hA59.ev rfl) (b_eq _ _ i.op 3 true _ hb60) ?_)
    intro a62 hA63
    refine q_step hA63 rfl (d_assign (wn rfl) (hA63.ev rfl) ?_)
    intro a64 hA65
    refine q_end ?_
    have hA66 : St 13 [(1, (.pointer (some ⟨g3, 0, none⟩))), (2, (.int .i64 0)), (4, (.int .i64 i.op)), (5, (.bool true))] a64 := hA65.cut _ (fm_cons (hA65.get 1 _ rfl) (fm_cons (hA65.get 2 _ rfl) (fm_cons (hA65.get 4 _ rfl) (fm_cons (hA65.get 5 _ rfl) fm_nil))))
    refine t_norm ?_
    refine c_true hA66 rfl ?_
    refine wp_skip ?_
    refine t_norm ?_
    refine c_true hA66 rfl ?_
    refine wp_seq ?_
    refine wp_region_lit ?_
    refine q_step hA66 rfl (d_fieldAddr (wn rfl) (hA66.ev rfl) fo23_1 ?_)
    intro a67 hA68
    refine q_step hA68 rfl (d_load (v := (.int .i64 i.dst)) (wn rfl) (hA68.ev rfl) one3 (m7.cell rfl) ?_)
    intro a69 hA70
    refine q_step hA70 rfl (d_assign (wn rfl) (hA70.ev rfl) ?_)
    intro a71 hA72
    refine q_end ?_
    have hA73 : St 13 [(2, (.int .i64 i.dst))] a71 := hA72.cut _ (fm_cons (hA72.get 2 _ rfl) fm_nil)
    refine t_norm ?_
    refine wp_ret ?_
    refine i_ret ?_
    refine t_ret ?_
    refine ret1 rfl hA73 (v := (.int .i64 i.dst)) rfl ?_
    exact ⟨ret_int (by simp [givesF, plainF, hb20, hb40, eq_of_beq hb60]), b9⟩
   ·skip
    have hq74 := ne_of_beq hb60
    refine q_step hA59 rfl (d_bin (wn rfl) (hA59.ev rfl) (hA59.ev rfl) (b_eq _ _ i.op 3 false _ hb60) ?_)
    intro a75 hA76
    refine q_step hA76 rfl (d_assign (wn rfl) (hA76.ev rfl) ?_)
    intro a77 hA78
    refine q_end ?_
    have hA79 : St 13 [(1, (.pointer (some ⟨g3, 0, none⟩))), (2, (.int .i64 0)), (4, (.int .i64 i.op)), (5, (.bool false))] a77 := hA78.cut _ (fm_cons (hA78.get 1 _ rfl) (fm_cons (hA78.get 2 _ rfl) (fm_cons (hA78.get 4 _ rfl) (fm_cons (hA78.get 5 _ rfl) fm_nil))))
    refine t_norm ?_
    refine c_false hA79 rfl ?_
    refine wp_seq ?_
    refine wp_region_lit ?_
    rcases Bool.eq_false_or_eq_true (i.op == 4) with hb80 | hb80
    ·skip
     have hq81 := eq_of_beq hb80
     refine q_step hA79 rfl (d_bin (wn rfl) (hA79.ev rfl) (hA79.ev rfl) (b_eq _ _ i.op 4 true _ hb80) ?_)
     intro a82 hA83
     refine q_step hA83 rfl (d_assign (wn rfl) (hA83.ev rfl) ?_)
     intro a84 hA85
     refine q_end ?_
     have hA86 : St 13 [(1, (.pointer (some ⟨g3, 0, none⟩))), (2, (.int .i64 0)), (4, (.int .i64 i.op)), (5, (.bool true))] a84 := hA85.cut _ (fm_cons (hA85.get 1 _ rfl) (fm_cons (hA85.get 2 _ rfl) (fm_cons (hA85.get 4 _ rfl) (fm_cons (hA85.get 5 _ rfl) fm_nil))))
     refine t_norm ?_
     refine c_true hA86 rfl ?_
     refine wp_skip ?_
     refine t_norm ?_
     refine c_true hA86 rfl ?_
     refine wp_seq ?_
     refine wp_region_lit ?_
     refine q_step hA86 rfl (d_fieldAddr (wn rfl) (hA86.ev rfl) fo23_1 ?_)
     intro a87 hA88
     refine q_step hA88 rfl (d_load (v := (.int .i64 i.dst)) (wn rfl) (hA88.ev rfl) one3 (m7.cell rfl) ?_)
     intro a89 hA90
     refine q_step hA90 rfl (d_assign (wn rfl) (hA90.ev rfl) ?_)
     intro a91 hA92
     refine q_end ?_
     have hA93 : St 13 [(2, (.int .i64 i.dst))] a91 := hA92.cut _ (fm_cons (hA92.get 2 _ rfl) fm_nil)
     refine t_norm ?_
     refine wp_ret ?_
     refine i_ret ?_
     refine t_ret ?_
     refine ret1 rfl hA93 (v := (.int .i64 i.dst)) rfl ?_
     exact ⟨ret_int (by simp [givesF, plainF, hb20, hb40, hb60, eq_of_beq hb80]), b9⟩
    ·skip
     have hq94 := ne_of_beq hb80
     refine q_step hA79 rfl (d_bin (wn rfl) (hA79.ev rfl) (hA79.ev rfl) (b_eq _ _ i.op 4 false _ hb80) ?_)
     intro a95 hA96
     refine q_step hA96 rfl (d_assign (wn rfl) (hA96.ev rfl) ?_)
     intro a97 hA98
     refine q_end ?_
     have hA99 : St 13 [(1, (.pointer (some ⟨g3, 0, none⟩))), (2, (.int .i64 0)), (4, (.int .i64 i.op)), (5, (.bool false))] a97 := hA98.cut _ (fm_cons (hA98.get 1 _ rfl) (fm_cons (hA98.get 2 _ rfl) (fm_cons (hA98.get 4 _ rfl) (fm_cons (hA98.get 5 _ rfl) fm_nil))))
     refine t_norm ?_
     refine c_false hA99 rfl ?_
     refine wp_region_lit ?_
     rcases Bool.eq_false_or_eq_true (i.op == 6) with hb100 | hb100
     ·skip
      have hq101 := eq_of_beq hb100
      refine q_step hA99 rfl (d_bin (wn rfl) (hA99.ev rfl) (hA99.ev rfl) (b_eq _ _ i.op 6 true _ hb100) ?_)
      intro a102 hA103
      refine q_step hA103 rfl (d_assign (wn rfl) (hA103.ev rfl) ?_)
      intro a104 hA105
      refine q_end ?_
      have hA106 : St 13 [(1, (.pointer (some ⟨g3, 0, none⟩))), (2, (.int .i64 0)), (5, (.bool true))] a104 := hA105.cut _ (fm_cons (hA105.get 1 _ rfl) (fm_cons (hA105.get 2 _ rfl) (fm_cons (hA105.get 5 _ rfl) fm_nil)))
      refine t_norm ?_
      refine c_true hA106 rfl ?_
      refine wp_seq ?_
      refine wp_region_lit ?_
      refine q_step hA106 rfl (d_fieldAddr (wn rfl) (hA106.ev rfl) fo23_1 ?_)
      intro a107 hA108
      refine q_step hA108 rfl (d_load (v := (.int .i64 i.dst)) (wn rfl) (hA108.ev rfl) one3 (m7.cell rfl) ?_)
      intro a109 hA110
      refine q_step hA110 rfl (d_assign (wn rfl) (hA110.ev rfl) ?_)
      intro a111 hA112
      refine q_end ?_
      have hA113 : St 13 [(2, (.int .i64 i.dst))] a111 := hA112.cut _ (fm_cons (hA112.get 2 _ rfl) fm_nil)
      refine t_norm ?_
      refine wp_ret ?_
      refine i_ret ?_
      refine t_ret ?_
      refine ret1 rfl hA113 (v := (.int .i64 i.dst)) rfl ?_
      exact ⟨ret_int (by simp [givesF, plainF, hb20, hb40, hb60, hb80, eq_of_beq hb100]), b9⟩
     ·skip
      have hq114 := ne_of_beq hb100
      refine q_step hA99 rfl (d_bin (wn rfl) (hA99.ev rfl) (hA99.ev rfl) (b_eq _ _ i.op 6 false _ hb100) ?_)
      intro a115 hA116
      refine q_step hA116 rfl (d_assign (wn rfl) (hA116.ev rfl) ?_)
      intro a117 hA118
      refine q_end ?_
      have hA119 : St 13 [(1, (.pointer (some ⟨g3, 0, none⟩))), (2, (.int .i64 0)), (5, (.bool false))] a117 := hA118.cut _ (fm_cons (hA118.get 1 _ rfl) (fm_cons (hA118.get 2 _ rfl) (fm_cons (hA118.get 5 _ rfl) fm_nil)))
      refine t_norm ?_
      refine c_false hA119 rfl ?_
      refine wp_skip ?_
      refine i_norm ?_
      refine t_norm ?_
      refine wp_seq ?_
      refine wp_region_lit ?_
      refine q_step hA119 rfl (d_assign (wn rfl) (hA119.ev rfl) ?_)
      intro a120 hA121
      refine q_end ?_
      have hA122 : St 13 [(2, (.int .i64 (-1)))] a120 := hA121.cut _ (fm_cons (hA121.get 2 _ rfl) fm_nil)
      refine t_norm ?_
      refine wp_ret ?_
      refine ret1 rfl hA122 (v := (.int .i64 (-1))) rfl ?_
      exact ⟨ret_int (by simp [givesF, plainF, hb20, hb40, hb60, hb80, hb100]), b9⟩
set_option maxHeartbeats 4000000 in
set_option maxRecDepth 4000 in
theorem rright_any (i : Ins) (p q : Int) (w : World) : Calls Try.prog 10 #[.agg (insC i), .int .i64 p, .int .i64 q] w fun e w' => e = .returned (.int .i64 (rightR i p q)) ∧ Grow w w' := by
 have b0 : Below w.heap.size w w := Below.refl _ _
 refine enter (n := 36) Try.func10 rfl rfl (Nat.le_of_ble_eq_true rfl) ?_
 intro a1 hA2
 refine wp_seq ?_
 refine wp_region_lit ?_
 refine q_step hA2 rfl (d_box (wn rfl) (hA2.ev rfl) ?_)
 intro g3 w4 eg5 hG6 (m7 : Blk w4 g3 (insC i) 23)
 have ge8 : w.heap.size ≤ g3 := eg5 ▸ b0.size
 have b9 := below_grow b0 hG6 b0.size
 intro a10 hA11
 refine q_step hA11 rfl (d_assign (wn rfl) (hA11.ev rfl) ?_)
 intro a12 hA13
 refine q_end ?_
 have hA14 : St 36 [(1, (.int .i64 p)), (2, (.int .i64 q)), (3, (.pointer (some ⟨g3, 0, none⟩))), (6, (.int .i64 0))] a12 := hA13.cut _ (fm_cons (hA13.get 1 _ rfl) (fm_cons (hA13.get 2 _ rfl) (fm_cons (hA13.get 3 _ rfl) (fm_cons (hA13.get 6 _ rfl) fm_nil))))
 refine t_norm ?_
 refine wp_seq ?_
 refine wp_region_lit ?_
 refine q_step hA14 rfl (d_loadRow (cs := (insC i)) (wn rfl) (hA14.ev rfl) row23 m7 ?_)
 intro a15 hA16
 refine q_step hA16 rfl (d_call (wn rfl) ent31 (map1 (hA16.ev rfl)) (bare_any i w4) ?_)
 rintro e20 w17 ⟨he19, hG18⟩
 have m21 := m7.grow hG18
 have b22 := below_grow b9 hG18 b9.size
 refine ⟨(.tuple #[(.agg (insC (bareF i))), (.bool (fineB i))]), he19, ?_⟩
 intro a23 hA24
 refine q_step hA24 rfl (d_move (wn rfl) (hA24.ev rfl) ?_)
 intro a25 hA26
 refine q_step hA26 rfl (d_extract (v := (.agg (insC (bareF i)))) (wn rfl) (hA26.ev rfl) rfl ?_)
 intro a27 hA28
 refine q_step hA28 rfl (d_extract (v := (.bool (fineB i))) (wn rfl) (hA28.ev rfl) rfl ?_)
 intro a29 hA30
 refine q_step hA30 rfl (d_alloc (wn rfl) zero23 ?_)
 intro g31 w32 eg33 hG34 (m35 : Blk w32 g31 #[.int .i64 0, .int .i64 0, .int .i64 0, .int .i64 0, .int .i64 0, .int .i64 0, .int .i64 0, .int .i64 0, .int .i64 0, .int .i64 0, .bool false, .bool false, .bool false, .int .i64 0, .int .i64 0, .int .i64 0, .bool false] 23)
 have ge36 : w.heap.size ≤ g31 := eg33 ▸ b22.size
 have n37 : g3 ≠ g31 := fun h => Nat.lt_irrefl _ ((h.trans eg33) ▸ m21.lt)
 have m38 := m21.grow hG34
 have b39 := below_grow b22 hG34 b22.size
 intro a40 hA41
 refine q_step hA41 rfl (d_storeRow (wn rfl) (hA41.ev rfl) (hA41.ev rfl) row23 m35 rfl rfl ?_)
 intro w42 hU43 (m44 : Blk w42 g31 (insC (bareF i)) 23)
 have m45 := m38.upd hU43 n37
 have b46 := hU43.below b39 ge36
 intro a47 hA48
 refine q_step hA48 rfl (d_assign (wn rfl) (hA48.ev rfl) ?_)
 intro a49 hA50
 refine q_end ?_
 have hA51 : St 36 [(1, (.int .i64 p)), (2, (.int .i64 q)), (3, (.pointer (some ⟨g3, 0, none⟩))), (6, (.int .i64 0)), (7, (.pointer (some ⟨g31, 0, none⟩))), (8, (.bool (fineB i)))] a49 := hA50.cut _ (fm_cons (hA50.get 1 _ rfl) (fm_cons (hA50.get 2 _ rfl) (fm_cons (hA50.get 3 _ rfl) (fm_cons (hA50.get 6 _ rfl) (fm_cons (hA50.get 7 _ rfl) (fm_cons (hA50.get 8 _ rfl) fm_nil))))))
 refine t_norm ?_
 refine wp_seq ?_
 refine wp_seq ?_
 refine wp_region_lit ?_
 refine q_step hA51 rfl (d_move (wn rfl) (hA51.ev rfl) ?_)
 intro a52 hA53
 rcases Bool.eq_false_or_eq_true (fineB i) with hb54 | hb54
 ·skip
  have hA56 : St 36 [(1, (.int .i64 p)), (2, (.int .i64 q)), (3, (.pointer (some ⟨g3, 0, none⟩))), (6, (.int .i64 0)), (7, (.pointer (some ⟨g31, 0, none⟩))), (8, (.bool (fineB i))), (14, (.bool true))] a52 := hA53.cut _ (fm_cons (hA53.get 1 _ rfl) (fm_cons (hA53.get 2 _ rfl) (fm_cons (hA53.get 3 _ rfl) (fm_cons (hA53.get 6 _ rfl) (fm_cons (hA53.get 7 _ rfl) (fm_cons (hA53.get 8 _ rfl) (fm_cons ((hA53.get 14 _ rfl).trans (congrArg Value.bool hb54)) fm_nil)))))))
  refine q_step hA56 rfl (d_not (wn rfl) (hA56.ev rfl) ?_)
  intro a57 hA58
  refine q_step hA58 rfl (d_move (wn rfl) (hA58.ev rfl) ?_)
  intro a59 hA60
  refine q_step hA60 rfl (d_loadRow (cs := (insC (bareF i))) (wy rfl rfl (hA60.get 16 _ rfl)) (hA60.ev rfl) row23 m44 ?_)
  intro a61 hA62
  refine q_step hA62 rfl (d_build (cs := #[.int .i64 0, .int .i64 (-1), .int .i64 (-1), .int .i64 (-1), .int .i64 0, .int .i64 0, .int .i64 0, .int .i64 (-1), .int .i64 0, .int .i64 0, .bool false, .bool false, .bool false, .int .i64 0, .int .i64 0, .int .i64 0, .bool false]) (wy rfl rfl (hA62.get 16 _ rfl)) (bp_of (bq_cons (hA62.ev rfl) (bq_cons (hA62.ev rfl) (bq_cons (hA62.ev rfl) (bq_cons (hA62.ev rfl) bq_nil))))) zero23 places23 (by kernel_rfl) ?_)
  intro a63 hA64
  rcases Bool.eq_false_or_eq_true (insEq (bareF i) blank) with hb65 | hb65
  ·skip
   refine q_step hA64 rfl (d_bin (u := .agg (insC (bareF i))) (v := .agg (insC blank)) (wy rfl rfl (hA64.get 16 _ rfl)) (hA64.ev rfl) (hA64.ev rfl) (ne_ins (bareF i) blank _ _ _ false (notof hb65)) ?_)
   intro a67 hA68
   refine q_step hA68 rfl (d_pickF (wn rfl) (hA68.ev rfl) (hA68.ev rfl) ?_)
   intro a69 hA70
   refine q_end ?_
   have hA71 : St 36 [(1, (.int .i64 p)), (2, (.int .i64 q)), (3, (.pointer (some ⟨g3, 0, none⟩))), (6, (.int .i64 0)), (20, (.bool false))] a69 := hA70.cut _ (fm_cons (hA70.get 1 _ rfl) (fm_cons (hA70.get 2 _ rfl) (fm_cons (hA70.get 3 _ rfl) (fm_cons (hA70.get 6 _ rfl) (fm_cons (hA70.get 20 _ rfl) fm_nil)))))
   refine t_norm ?_
   refine c_false hA71 rfl ?_
   refine wp_skip ?_
   refine t_norm ?_
   refine wp_seq ?_
   refine wp_seq ?_
   refine wp_region_lit ?_
   refine q_step hA71 rfl (d_fieldAddr (wn rfl) (hA71.ev rfl) fo23_0 ?_)
   intro a72 hA73
   refine q_step hA73 rfl (d_load (v := (.int .i64 i.op)) (wn rfl) (hA73.ev rfl) one3 (m45.cell rfl) ?_)
   intro a74 hA75
   rcases Bool.eq_false_or_eq_true (i.op == 9) with hb76 | hb76
   ·skip
    have hq77 := eq_of_beq hb76
    refine q_step hA75 rfl (d_bin (wn rfl) (hA75.ev rfl) (hA75.ev rfl) (b_eq _ _ i.op 9 true _ hb76) ?_)
    intro a78 hA79
    refine q_step hA79 rfl (d_move (wn rfl) (hA79.ev rfl) ?_)
    intro a80 hA81
    refine q_step hA81 rfl (d_fieldAddr (wy rfl rfl (hA81.get 24 _ rfl)) (hA81.ev rfl) fo23_15 ?_)
    intro a82 hA83
    refine q_step hA83 rfl (d_load (v := (.int .i64 i.to)) (wy rfl rfl (hA83.get 24 _ rfl)) (hA83.ev rfl) one3 (m45.cell rfl) ?_)
    intro a84 hA85
    refine q_step hA85 rfl (d_move (wy rfl rfl (hA85.get 24 _ rfl)) (hA85.ev rfl) ?_)
    intro a86 hA87
    rcases Bool.eq_false_or_eq_true (decide (i.to ≤ p)) with hb88 | hb88
    ·skip
     have hq89 := of_decide_eq_true hb88
     refine q_step hA87 rfl (d_bin (wy rfl rfl (hA87.get 24 _ rfl)) (hA87.ev rfl) (hA87.ev rfl) (b_le _ _ i.to p true _ hb88) ?_)
     intro a90 hA91
     refine q_step hA91 rfl (d_move (wy rfl rfl (hA91.get 24 _ rfl)) (hA91.ev rfl) ?_)
     intro a92 hA93
     refine q_step hA93 rfl (does_not (wno rfl rfl (.inl (hA93.get 29 _ rfl))) ?_)
     intro a94 hA95
     refine q_step hA95 rfl (does_not (wno rfl rfl (.inl (hA95.get 29 _ rfl))) ?_)
     intro a96 hA97
     refine q_step hA97 rfl (does_not (wno rfl rfl (.inl (hA97.get 29 _ rfl))) ?_)
     intro a98 hA99
     refine q_step hA99 rfl (does_not (wno rfl rfl (.inl (hA99.get 29 _ rfl))) ?_)
     intro a100 hA101
     refine q_step hA101 rfl (d_pickT (wy rfl rfl (hA101.get 24 _ rfl)) (hA101.ev rfl) (hA101.ev rfl) ?_)
     intro a102 hA103
     refine q_step hA103 rfl (d_pickT (wn rfl) (hA103.ev rfl) (hA103.ev rfl) ?_)
     intro a104 hA105
     refine q_end ?_
     have hA106 : St 36 [(6, (.int .i64 0)), (35, (.bool true))] a104 := hA105.cut _ (fm_cons (hA105.get 6 _ rfl) (fm_cons (hA105.get 35 _ rfl) fm_nil))
     refine t_norm ?_
     refine c_true hA106 rfl ?_
     refine wp_seq ?_
     refine wp_region_lit ?_
     refine q_step hA106 rfl (d_assign (wn rfl) (hA106.ev rfl) ?_)
     intro a107 hA108
     refine q_end ?_
     have hA109 : St 36 [(6, (.int .i64 35))] a107 := hA108.cut _ (fm_cons (hA108.get 6 _ rfl) fm_nil)
     refine t_norm ?_
     refine wp_ret ?_
     refine t_ret ?_
     refine ret1 rfl hA109 (v := (.int .i64 35)) rfl ?_
     exact ⟨ret_int (by simp [rightR, ← right_same, hb54, hb65, eq_of_beq hb76, hb88]), b46⟩
    ·skip
     have hq110 := of_decide_eq_false hb88
     refine q_step hA87 rfl (d_bin (wy rfl rfl (hA87.get 24 _ rfl)) (hA87.ev rfl) (hA87.ev rfl) (b_le _ _ i.to p false _ hb88) ?_)
     intro a111 hA112
     refine q_step hA112 rfl (d_move (wy rfl rfl (hA112.get 24 _ rfl)) (hA112.ev rfl) ?_)
     intro a113 hA114
     refine q_step hA114 rfl (d_fieldAddr (wy rfl rfl (hA114.get 29 _ rfl)) (hA114.ev rfl) fo23_15 ?_)
     intro a115 hA116
     refine q_step hA116 rfl (d_load (v := (.int .i64 i.to)) (wy rfl rfl (hA116.get 29 _ rfl)) (hA116.ev rfl) one3 (m45.cell rfl) ?_)
     intro a117 hA118
     refine q_step hA118 rfl (d_move (wy rfl rfl (hA118.get 29 _ rfl)) (hA118.ev rfl) ?_)
     intro a119 hA120
     rcases Bool.eq_false_or_eq_true (decide (i.to > q)) with hb121 | hb121
     ·skip
      have hq122 := of_decide_eq_true hb121
      refine q_step hA120 rfl (d_bin (wy rfl rfl (hA120.get 29 _ rfl)) (hA120.ev rfl) (hA120.ev rfl) (b_gt _ _ i.to q true _ hb121) ?_)
      intro a123 hA124
      refine q_step hA124 rfl (d_pickF (wy rfl rfl (hA124.get 24 _ rfl)) (hA124.ev rfl) (hA124.ev rfl) ?_)
      intro a125 hA126
      refine q_step hA126 rfl (d_pickT (wn rfl) (hA126.ev rfl) (hA126.ev rfl) ?_)
      intro a127 hA128
      refine q_end ?_
      have hA129 : St 36 [(6, (.int .i64 0)), (35, (.bool true))] a127 := hA128.cut _ (fm_cons (hA128.get 6 _ rfl) (fm_cons (hA128.get 35 _ rfl) fm_nil))
      refine t_norm ?_
      refine c_true hA129 rfl ?_
      refine wp_seq ?_
      refine wp_region_lit ?_
      refine q_step hA129 rfl (d_assign (wn rfl) (hA129.ev rfl) ?_)
      intro a130 hA131
      refine q_end ?_
      have hA132 : St 36 [(6, (.int .i64 35))] a130 := hA131.cut _ (fm_cons (hA131.get 6 _ rfl) fm_nil)
      refine t_norm ?_
      refine wp_ret ?_
      refine t_ret ?_
      refine ret1 rfl hA132 (v := (.int .i64 35)) rfl ?_
      exact ⟨ret_int (by simp [rightR, ← right_same, hb54, hb65, eq_of_beq hb76, hb88, hb121]), b46⟩
     ·skip
      have hq133 := of_decide_eq_false hb121
      refine q_step hA120 rfl (d_bin (wy rfl rfl (hA120.get 29 _ rfl)) (hA120.ev rfl) (hA120.ev rfl) (b_gt _ _ i.to q false _ hb121) ?_)
      intro a134 hA135
      refine q_step hA135 rfl (d_pickF (wy rfl rfl (hA135.get 24 _ rfl)) (hA135.ev rfl) (hA135.ev rfl) ?_)
      intro a136 hA137
      refine q_step hA137 rfl (d_pickT (wn rfl) (hA137.ev rfl) (hA137.ev rfl) ?_)
      intro a138 hA139
      refine q_end ?_
      have hA140 : St 36 [(6, (.int .i64 0)), (35, (.bool false))] a138 := hA139.cut _ (fm_cons (hA139.get 6 _ rfl) (fm_cons (hA139.get 35 _ rfl) fm_nil))
      refine t_norm ?_
      refine c_false hA140 rfl ?_
      refine wp_skip ?_
      refine t_norm ?_
      refine wp_seq ?_
      refine wp_region_lit ?_
      refine q_step hA140 rfl (d_assign (wn rfl) (hA140.ev rfl) ?_)
      intro a141 hA142
      refine q_end ?_
      have hA143 : St 36 [(6, (.int .i64 0))] a141 := hA142.cut _ (fm_cons (hA142.get 6 _ rfl) fm_nil)
      refine t_norm ?_
      refine wp_ret ?_
      refine ret1 rfl hA143 (v := (.int .i64 0)) rfl ?_
      exact ⟨ret_int (by simp [rightR, ← right_same, hb54, hb65, eq_of_beq hb76, hb88, hb121]), b46⟩
   ·skip
    have hq144 := ne_of_beq hb76
    refine q_step hA75 rfl (d_bin (wn rfl) (hA75.ev rfl) (hA75.ev rfl) (b_eq _ _ i.op 9 false _ hb76) ?_)
    intro a145 hA146
    refine q_step hA146 rfl (d_move (wn rfl) (hA146.ev rfl) ?_)
    intro a147 hA148
    refine q_step hA148 rfl (does_not (wno rfl rfl (.inl (hA148.get 24 _ rfl))) ?_)
    intro a149 hA150
    refine q_step hA150 rfl (does_not (wno rfl rfl (.inl (hA150.get 24 _ rfl))) ?_)
    intro a151 hA152
    refine q_step hA152 rfl (does_not (wno rfl rfl (.inl (hA152.get 24 _ rfl))) ?_)
    intro a153 hA154
    refine q_step hA154 rfl (does_not (wno rfl rfl (.inl (hA154.get 24 _ rfl))) ?_)
    intro a155 hA156
    refine q_step hA156 rfl (does_not (wno rfl rfl (.inl (hA156.get 24 _ rfl))) ?_)
    intro a157 hA158
    refine q_step hA158 rfl (does_not (wno rfl rfl (.inr (hA158.get 29 _ rfl))) ?_)
    intro a159 hA160
    refine q_step hA160 rfl (does_not (wno rfl rfl (.inr (hA160.get 29 _ rfl))) ?_)
    intro a161 hA162
    refine q_step hA162 rfl (does_not (wno rfl rfl (.inr (hA162.get 29 _ rfl))) ?_)
    intro a163 hA164
    refine q_step hA164 rfl (does_not (wno rfl rfl (.inr (hA164.get 29 _ rfl))) ?_)
    intro a165 hA166
    refine q_step hA166 rfl (does_not (wno rfl rfl (.inl (hA166.get 24 _ rfl))) ?_)
    intro a167 hA168
    refine q_step hA168 rfl (d_pickF (wn rfl) (hA168.ev rfl) (hA168.ev rfl) ?_)
    intro a169 hA170
    refine q_end ?_
    have hA171 : St 36 [(6, (.int .i64 0)), (35, (.bool false))] a169 := hA170.cut _ (fm_cons (hA170.get 6 _ rfl) (fm_cons (hA170.get 35 _ rfl) fm_nil))
    refine t_norm ?_
    refine c_false hA171 rfl ?_
    refine wp_skip ?_
    refine t_norm ?_
    refine wp_seq ?_
    refine wp_region_lit ?_
    refine q_step hA171 rfl (d_assign (wn rfl) (hA171.ev rfl) ?_)
    intro a172 hA173
    refine q_end ?_
    have hA174 : St 36 [(6, (.int .i64 0))] a172 := hA173.cut _ (fm_cons (hA173.get 6 _ rfl) fm_nil)
    refine t_norm ?_
    refine wp_ret ?_
    refine ret1 rfl hA174 (v := (.int .i64 0)) rfl ?_
    exact ⟨ret_int (by simp [rightR, ← right_same, hb54, hb65, hb76]), b46⟩
  ·skip
   refine q_step hA64 rfl (d_bin (u := .agg (insC (bareF i))) (v := .agg (insC blank)) (wy rfl rfl (hA64.get 16 _ rfl)) (hA64.ev rfl) (hA64.ev rfl) (ne_ins (bareF i) blank _ _ _ true (notof hb65)) ?_)
   intro a176 hA177
   refine q_step hA177 rfl (d_pickF (wn rfl) (hA177.ev rfl) (hA177.ev rfl) ?_)
   intro a178 hA179
   refine q_end ?_
   have hA180 : St 36 [(1, (.int .i64 p)), (2, (.int .i64 q)), (3, (.pointer (some ⟨g3, 0, none⟩))), (6, (.int .i64 0)), (20, (.bool true))] a178 := hA179.cut _ (fm_cons (hA179.get 1 _ rfl) (fm_cons (hA179.get 2 _ rfl) (fm_cons (hA179.get 3 _ rfl) (fm_cons (hA179.get 6 _ rfl) (fm_cons (hA179.get 20 _ rfl) fm_nil)))))
   refine t_norm ?_
   refine c_true hA180 rfl ?_
   refine wp_seq ?_
   refine wp_region_lit ?_
   refine q_step hA180 rfl (d_assign (wn rfl) (hA180.ev rfl) ?_)
   intro a181 hA182
   refine q_end ?_
   have hA183 : St 36 [(1, (.int .i64 p)), (2, (.int .i64 q)), (3, (.pointer (some ⟨g3, 0, none⟩))), (6, (.int .i64 34))] a181 := hA182.cut _ (fm_cons (hA182.get 1 _ rfl) (fm_cons (hA182.get 2 _ rfl) (fm_cons (hA182.get 3 _ rfl) (fm_cons (hA182.get 6 _ rfl) fm_nil))))
   refine t_norm ?_
   refine wp_ret ?_
   refine t_ret ?_
   refine ret1 rfl hA183 (v := (.int .i64 34)) rfl ?_
   exact ⟨ret_int (by simp [rightR, ← right_same, hb54, hb65]), b46⟩
 ·skip
  have hA185 : St 36 [(1, (.int .i64 p)), (2, (.int .i64 q)), (3, (.pointer (some ⟨g3, 0, none⟩))), (6, (.int .i64 0)), (7, (.pointer (some ⟨g31, 0, none⟩))), (8, (.bool (fineB i))), (14, (.bool false))] a52 := hA53.cut _ (fm_cons (hA53.get 1 _ rfl) (fm_cons (hA53.get 2 _ rfl) (fm_cons (hA53.get 3 _ rfl) (fm_cons (hA53.get 6 _ rfl) (fm_cons (hA53.get 7 _ rfl) (fm_cons (hA53.get 8 _ rfl) (fm_cons ((hA53.get 14 _ rfl).trans (congrArg Value.bool hb54)) fm_nil)))))))
  refine q_step hA185 rfl (d_not (wn rfl) (hA185.ev rfl) ?_)
  intro a186 hA187
  refine q_step hA187 rfl (d_move (wn rfl) (hA187.ev rfl) ?_)
  intro a188 hA189
  refine q_step hA189 rfl (does_not (wno rfl rfl (.inl (hA189.get 16 _ rfl))) ?_)
  intro a190 hA191
  refine q_step hA191 rfl (does_not (wno rfl rfl (.inl (hA191.get 16 _ rfl))) ?_)
  intro a192 hA193
  refine q_step hA193 rfl (does_not (wno rfl rfl (.inl (hA193.get 16 _ rfl))) ?_)
  intro a194 hA195
  refine q_step hA195 rfl (d_pickT (wn rfl) (hA195.ev rfl) (hA195.ev rfl) ?_)
  intro a196 hA197
  refine q_end ?_
  have hA198 : St 36 [(1, (.int .i64 p)), (2, (.int .i64 q)), (3, (.pointer (some ⟨g3, 0, none⟩))), (6, (.int .i64 0)), (20, (.bool true))] a196 := hA197.cut _ (fm_cons (hA197.get 1 _ rfl) (fm_cons (hA197.get 2 _ rfl) (fm_cons (hA197.get 3 _ rfl) (fm_cons (hA197.get 6 _ rfl) (fm_cons (hA197.get 20 _ rfl) fm_nil)))))
  refine t_norm ?_
  refine c_true hA198 rfl ?_
  refine wp_seq ?_
  refine wp_region_lit ?_
  refine q_step hA198 rfl (d_assign (wn rfl) (hA198.ev rfl) ?_)
  intro a199 hA200
  refine q_end ?_
  have hA201 : St 36 [(1, (.int .i64 p)), (2, (.int .i64 q)), (3, (.pointer (some ⟨g3, 0, none⟩))), (6, (.int .i64 34))] a199 := hA200.cut _ (fm_cons (hA200.get 1 _ rfl) (fm_cons (hA200.get 2 _ rfl) (fm_cons (hA200.get 3 _ rfl) (fm_cons (hA200.get 6 _ rfl) fm_nil))))
  refine t_norm ?_
  refine wp_ret ?_
  refine t_ret ?_
  refine ret1 rfl hA201 (v := (.int .i64 34)) rfl ?_
  exact ⟨ret_int (by simp [rightR, ← right_same, hb54]), b46⟩
end Go.Proofs.Ytlhompedcphnnaa
/- What the reference for Check returns. -/
namespace Go.Proofs.Ytlhompedcphnnaa
open Go.RowKit
set_option linter.unusedSimpArgs false
set_option linter.unusedVariables false
set_option maxHeartbeats 4000000 in
set_option maxRecDepth 4000 in
theorem rcheck_any (cs : List (List Ins)) (v : Value) (w : World) (hCs : Cs w.heap.size w v cs) (hn : cs.length ≤ 10000) (ht : totN cs ≤ 1000000) : Calls Try.prog 21 #[v] w fun e w' => e = .returned (.tuple #[.int .i64 (checkR cs).1, .int .i64 (checkR cs).2.1, .int .i64 (checkR cs).2.2]) ∧ Grow w w' := by
 obtain ⟨us, hus, hul, hin⟩ := id hCs
 have b0 : Below w.heap.size w w := Below.refl _ _
 refine enter (n := 84) Try.func21 rfl rfl (Nat.le_of_ble_eq_true rfl) ?_
 intro a1 hA2
 refine wp_seq ?_
 refine wp_region_lit ?_
 refine q_step hA2 rfl (d_assign (wn rfl) (hA2.ev rfl) ?_)
 intro a3 hA4
 refine q_step hA4 rfl (d_assign (wn rfl) (hA4.ev rfl) ?_)
 intro a5 hA6
 refine q_step hA6 rfl (d_assign (wn rfl) (hA6.ev rfl) ?_)
 intro a7 hA8
 refine q_end ?_
 have hA9 : St 84 [(0, v), (2, (.int .i64 0)), (3, (.int .i64 0)), (4, (.int .i64 0))] a7 := hA8.cut _ (fm_cons (hA8.get 0 _ rfl) (fm_cons (hA8.get 2 _ rfl) (fm_cons (hA8.get 3 _ rfl) (fm_cons (hA8.get 4 _ rfl) fm_nil))))
 refine t_norm ?_
 refine wp_seq ?_
 refine wp_seq ?_
 refine wp_region_lit ?_
 refine q_step hA9 rfl (d_move (wn rfl) (hA9.ev rfl) ?_)
 intro a10 hA11
 refine q_step hA11 rfl (d_len (n := us.length) (wn rfl) (hA11.ev rfl) slc34 hus.form ?_)
 intro a12 hA13
 rcases Bool.eq_false_or_eq_true (decide (((us.length : Nat) : Int) < 1)) with hb14 | hb14
 ·skip
  have hq15 := of_decide_eq_true hb14
  refine q_step hA13 rfl (d_bin (wn rfl) (hA13.ev rfl) (hA13.ev rfl) (b_lt _ _ ((us.length : Nat) : Int) 1 true _ hb14) ?_)
  intro a16 hA17
  refine q_step hA17 rfl (d_move (wn rfl) (hA17.ev rfl) ?_)
  intro a18 hA19
  refine q_step hA19 rfl (does_not (wno rfl rfl (.inl (hA19.get 14 _ rfl))) ?_)
  intro a20 hA21
  refine q_step hA21 rfl (does_not (wno rfl rfl (.inl (hA21.get 14 _ rfl))) ?_)
  intro a22 hA23
  refine q_step hA23 rfl (does_not (wno rfl rfl (.inl (hA23.get 14 _ rfl))) ?_)
  intro a24 hA25
  refine q_step hA25 rfl (d_pickT (wn rfl) (hA25.ev rfl) (hA25.ev rfl) ?_)
  intro a26 hA27
  refine q_end ?_
  have hA28 : St 84 [(0, v), (2, (.int .i64 0)), (3, (.int .i64 0)), (4, (.int .i64 0)), (18, (.bool true))] a26 := hA27.cut _ (fm_cons (hA27.get 0 _ rfl) (fm_cons (hA27.get 2 _ rfl) (fm_cons (hA27.get 3 _ rfl) (fm_cons (hA27.get 4 _ rfl) (fm_cons (hA27.get 18 _ rfl) fm_nil)))))
  refine t_norm ?_
  refine c_true hA28 rfl ?_
  refine wp_seq ?_
  refine wp_region_lit ?_
  refine q_step hA28 rfl (d_assign (wn rfl) (hA28.ev rfl) ?_)
  intro a29 hA30
  refine q_step hA30 rfl (d_assign (wn rfl) (hA30.ev rfl) ?_)
  intro a31 hA32
  refine q_step hA32 rfl (d_assign (wn rfl) (hA32.ev rfl) ?_)
  intro a33 hA34
  refine q_end ?_
  have hA35 : St 84 [(0, v), (2, (.int .i64 0)), (3, (.int .i64 0)), (4, (.int .i64 30))] a33 := hA34.cut _ (fm_cons (hA34.get 0 _ rfl) (fm_cons (hA34.get 2 _ rfl) (fm_cons (hA34.get 3 _ rfl) (fm_cons (hA34.get 4 _ rfl) fm_nil))))
  refine t_norm ?_
  refine wp_ret ?_
  refine t_ret ?_
  refine ret3 (x := (.int .i64 0)) (y := (.int .i64 0)) (z := (.int .i64 30)) rfl hA35 rfl rfl rfl ?_
  have hr := check_threads (cs := cs) (by omega)
  exact ⟨ret_three (by rw [hr]) (by rw [hr]) (by rw [hr]), b0⟩
 ·skip
  have hq36 := of_decide_eq_false hb14
  refine q_step hA13 rfl (d_bin (wn rfl) (hA13.ev rfl) (hA13.ev rfl) (b_lt _ _ ((us.length : Nat) : Int) 1 false _ hb14) ?_)
  intro a37 hA38
  refine q_step hA38 rfl (d_move (wn rfl) (hA38.ev rfl) ?_)
  intro a39 hA40
  refine q_step hA40 rfl (d_move (wy rfl rfl (hA40.get 14 _ rfl)) (hA40.ev rfl) ?_)
  intro a41 hA42
  refine q_step hA42 rfl (d_len (n := us.length) (wy rfl rfl (hA42.get 14 _ rfl)) (hA42.ev rfl) slc34 hus.form ?_)
  intro a43 hA44
  rcases Bool.eq_false_or_eq_true (decide (((us.length : Nat) : Int) > 3)) with hb45 | hb45
  ·skip
   have hq46 := of_decide_eq_true hb45
   refine q_step hA44 rfl (d_bin (wy rfl rfl (hA44.get 14 _ rfl)) (hA44.ev rfl) (hA44.ev rfl) (b_gt _ _ ((us.length : Nat) : Int) 3 true _ hb45) ?_)
   intro a47 hA48
   refine q_step hA48 rfl (d_pickF (wn rfl) (hA48.ev rfl) (hA48.ev rfl) ?_)
   intro a49 hA50
   refine q_end ?_
   have hA51 : St 84 [(0, v), (2, (.int .i64 0)), (3, (.int .i64 0)), (4, (.int .i64 0)), (18, (.bool true))] a49 := hA50.cut _ (fm_cons (hA50.get 0 _ rfl) (fm_cons (hA50.get 2 _ rfl) (fm_cons (hA50.get 3 _ rfl) (fm_cons (hA50.get 4 _ rfl) (fm_cons (hA50.get 18 _ rfl) fm_nil)))))
   refine t_norm ?_
   refine c_true hA51 rfl ?_
   refine wp_seq ?_
   refine wp_region_lit ?_
   refine q_step hA51 rfl (d_assign (wn rfl) (hA51.ev rfl) ?_)
   intro a52 hA53
   refine q_step hA53 rfl (d_assign (wn rfl) (hA53.ev rfl) ?_)
   intro a54 hA55
   refine q_step hA55 rfl (d_assign (wn rfl) (hA55.ev rfl) ?_)
   intro a56 hA57
   refine q_end ?_
   have hA58 : St 84 [(0, v), (2, (.int .i64 0)), (3, (.int .i64 0)), (4, (.int .i64 30))] a56 := hA57.cut _ (fm_cons (hA57.get 0 _ rfl) (fm_cons (hA57.get 2 _ rfl) (fm_cons (hA57.get 3 _ rfl) (fm_cons (hA57.get 4 _ rfl) fm_nil))))
   refine t_norm ?_
   refine wp_ret ?_
   refine t_ret ?_
   refine ret3 (x := (.int .i64 0)) (y := (.int .i64 0)) (z := (.int .i64 30)) rfl hA58 rfl rfl rfl ?_
   have hr := check_threads (cs := cs) (by omega)
   exact ⟨ret_three (by rw [hr]) (by rw [hr]) (by rw [hr]), b0⟩
  ·skip
   have hq59 := of_decide_eq_false hb45
   refine q_step hA44 rfl (d_bin (wy rfl rfl (hA44.get 14 _ rfl)) (hA44.ev rfl) (hA44.ev rfl) (b_gt _ _ ((us.length : Nat) : Int) 3 false _ hb45) ?_)
   intro a60 hA61
   refine q_step hA61 rfl (d_pickF (wn rfl) (hA61.ev rfl) (hA61.ev rfl) ?_)
   intro a62 hA63
   refine q_end ?_
   have hA64 : St 84 [(0, v), (2, (.int .i64 0)), (3, (.int .i64 0)), (4, (.int .i64 0)), (18, (.bool false))] a62 := hA63.cut _ (fm_cons (hA63.get 0 _ rfl) (fm_cons (hA63.get 2 _ rfl) (fm_cons (hA63.get 3 _ rfl) (fm_cons (hA63.get 4 _ rfl) (fm_cons (hA63.get 18 _ rfl) fm_nil)))))
   refine t_norm ?_
   refine c_false hA64 rfl ?_
   refine wp_skip ?_
   refine t_norm ?_
   refine wp_seq ?_
   refine wp_region_lit ?_
   refine q_step hA64 rfl (d_assign (wn rfl) (hA64.ev rfl) ?_)
   intro a65 hA66
   refine q_end ?_
   have hA67 : St 84 [(0, v), (2, (.int .i64 0)), (3, (.int .i64 0)), (4, (.int .i64 0)), (5, (.int .i64 0))] a65 := hA66.cut _ (fm_cons (hA66.get 0 _ rfl) (fm_cons (hA66.get 2 _ rfl) (fm_cons (hA66.get 3 _ rfl) (fm_cons (hA66.get 4 _ rfl) (fm_cons (hA66.get 5 _ rfl) fm_nil)))))
   refine t_norm ?_
   refine wp_seq ?_
   refine wp_region_lit ?_
   refine q_step hA67 rfl (d_assign (wn rfl) (hA67.ev rfl) ?_)
   intro a68 hA69
   refine q_end ?_
   have hA70 : St 84 [(0, v), (2, (.int .i64 0)), (3, (.int .i64 0)), (4, (.int .i64 0)), (5, (.int .i64 0)), (6, (.int .i64 0))] a68 := hA69.cut _ (fm_cons (hA69.get 0 _ rfl) (fm_cons (hA69.get 2 _ rfl) (fm_cons (hA69.get 3 _ rfl) (fm_cons (hA69.get 4 _ rfl) (fm_cons (hA69.get 5 _ rfl) (fm_cons (hA69.get 6 _ rfl) fm_nil))))))
   refine t_norm ?_
   refine wp_seq ?_
   refine wp_seq ?_
   refine wp_region_lit ?_
   refine q_step hA70 rfl (d_assign (wn rfl) (hA70.ev rfl) ?_)
   intro a71 hA72
   refine q_end ?_
   have hA73 : St 84 [(0, v), (2, (.int .i64 0)), (3, (.int .i64 0)), (4, (.int .i64 0)), (5, (.int .i64 0)), (6, (.int .i64 0)), (7, (.int .i64 0))] a71 := hA72.cut _ (fm_cons (hA72.get 0 _ rfl) (fm_cons (hA72.get 2 _ rfl) (fm_cons (hA72.get 3 _ rfl) (fm_cons (hA72.get 4 _ rfl) (fm_cons (hA72.get 5 _ rfl) (fm_cons (hA72.get 6 _ rfl) (fm_cons (hA72.get 7 _ rfl) fm_nil)))))))
   refine t_norm ?_
   refine wp_block ?_
   refine loop_by (fun m75 a76 w77 => ∃ j74 : Nat, m75 = cs.length - j74 ∧ (j74 ≤ cs.length ∧ longR cs 0 = longR (cs.drop j74) j74) ∧ St 84 [(0, v), (5, (.int .i64 0)), (6, (.int .i64 0)), (7, (.int .i64 ((j74 : Nat) : Int)))] a76 ∧ Below w.heap.size w w77) (cs.length - 0) ⟨0, rfl, ⟨by omega, rfl⟩, hA73.cut _ (fm_cons (hA73.get 0 _ rfl) (fm_cons (hA73.get 5 _ rfl) (fm_cons (hA73.get 6 _ rfl) (fm_cons ((hA73.get 7 _ rfl).trans (congrArg (Value.int .i64) (by omega))) fm_nil)))), b0⟩ ?_
   rintro m75 a76 w77 ⟨j74, hm80, hc81, hA78, b79⟩
   refine wp_seq ?_
   refine wp_seq ?_
   refine wp_region_lit ?_
   refine q_step hA78 rfl (d_move (wn rfl) (hA78.ev rfl) ?_)
   intro a82 hA83
   refine q_step hA83 rfl (d_move (wn rfl) (hA83.ev rfl) ?_)
   intro a84 hA85
   refine q_step hA85 rfl (d_len (n := us.length) (wn rfl) (hA85.ev rfl) slc34 hus.form ?_)
   intro a86 hA87
   rcases Bool.eq_false_or_eq_true (decide (((j74 : Nat) : Int) < ((us.length : Nat) : Int))) with hb88 | hb88
   ·skip
    have hq89 := of_decide_eq_true hb88
    refine q_step hA87 rfl (d_bin (wn rfl) (hA87.ev rfl) (hA87.ev rfl) (b_lt _ _ ((j74 : Nat) : Int) ((us.length : Nat) : Int) true _ hb88) ?_)
    intro a90 hA91
    refine q_end ?_
    have hA92 : St 84 [(0, v), (5, (.int .i64 0)), (6, (.int .i64 0)), (7, (.int .i64 ((j74 : Nat) : Int))), (22, (.bool true))] a90 := hA91.cut _ (fm_cons (hA91.get 0 _ rfl) (fm_cons (hA91.get 5 _ rfl) (fm_cons (hA91.get 6 _ rfl) (fm_cons (hA91.get 7 _ rfl) (fm_cons (hA91.get 22 _ rfl) fm_nil)))))
    refine t_norm ?_
    refine c_true hA92 rfl ?_
    refine wp_skip ?_
    refine t_norm ?_
    refine wp_seq ?_
    refine wp_block ?_
    refine wp_seq ?_
    refine wp_region_lit ?_
    refine q_step hA92 rfl (d_move (wn rfl) (hA92.ev rfl) ?_)
    intro a93 hA94
    refine q_step hA94 rfl (d_move (wn rfl) (hA94.ev rfl) ?_)
    intro a95 hA96
    obtain ⟨y97, hy98⟩ : ∃ y97, us[j74]? = some y97 := ⟨_, List.getElem?_eq_getElem (show j74 < us.length by omega)⟩
    obtain ⟨b99, o100, lt101, hr102, hix103⟩ := (hus.below b79).at hy98
    obtain ⟨c104, hc105⟩ : ∃ c, cs[j74]? = some c := ⟨_, List.getElem?_eq_getElem (show j74 < cs.length by have := get_lt hy98; omega)⟩
    have hsl106 := hin j74 y97 c104 hy98 hc105
    have hlc104 := len_le hc105
    have hoc104 := ops_le c104
    have hbc104 := br_le c104
    refine q_step hA96 rfl (d_indexAt (j := j74) (wn rfl) (hA96.ev rfl) (hA96.ev rfl) slc34 hix103 (get_lt hy98) ?_)
    intro a107 hA108
    refine q_step hA108 rfl (d_load (v := y97) (wn rfl) (hA108.ev rfl) one35 (hr102 0 _ rfl) ?_)
    intro a109 hA110
    refine q_step hA110 rfl (d_len (n := c104.length) (wn rfl) (hA110.ev rfl) slc35 hsl106.form ?_)
    intro a111 hA112
    rcases Bool.eq_false_or_eq_true (decide (((c104.length : Nat) : Int) > 8)) with hb113 | hb113
    ·skip
     have hq114 := of_decide_eq_true hb113
     refine q_step hA112 rfl (d_bin (wn rfl) (hA112.ev rfl) (hA112.ev rfl) (b_gt _ _ ((c104.length : Nat) : Int) 8 true _ hb113) ?_)
     intro a115 hA116
     refine q_end ?_
     have hA117 : St 84 [(0, v), (5, (.int .i64 0)), (6, (.int .i64 0)), (7, (.int .i64 ((j74 : Nat) : Int))), (30, (.bool true))] a115 := hA116.cut _ (fm_cons (hA116.get 0 _ rfl) (fm_cons (hA116.get 5 _ rfl) (fm_cons (hA116.get 6 _ rfl) (fm_cons (hA116.get 7 _ rfl) (fm_cons (hA116.get 30 _ rfl) fm_nil)))))
     refine t_norm ?_
     refine c_true hA117 rfl ?_
     refine wp_seq ?_
     refine wp_region_lit ?_
     refine q_step hA117 rfl (d_move (wn rfl) (hA117.ev rfl) ?_)
     intro a118 hA119
     refine q_step hA119 rfl (d_assign (wn rfl) (hA119.ev rfl) ?_)
     intro a120 hA121
     refine q_step hA121 rfl (d_assign (wn rfl) (hA121.ev rfl) ?_)
     intro a122 hA123
     refine q_step hA123 rfl (d_assign (wn rfl) (hA123.ev rfl) ?_)
     intro a124 hA125
     refine q_end ?_
     have hA126 : St 84 [(0, v), (2, (.int .i64 ((j74 : Nat) : Int))), (3, (.int .i64 0)), (4, (.int .i64 31)), (5, (.int .i64 0)), (6, (.int .i64 0)), (7, (.int .i64 ((j74 : Nat) : Int)))] a124 := hA125.cut _ (fm_cons (hA125.get 0 _ rfl) (fm_cons (hA125.get 2 _ rfl) (fm_cons (hA125.get 3 _ rfl) (fm_cons (hA125.get 4 _ rfl) (fm_cons (hA125.get 5 _ rfl) (fm_cons (hA125.get 6 _ rfl) (fm_cons (hA125.get 7 _ rfl) fm_nil)))))))
     refine t_norm ?_
     refine wp_ret ?_
     refine i_ret ?_
     refine t_ret ?_
     refine t_ret ?_
     refine i_ret ?_
     refine t_ret ?_
     refine ret3 (x := (.int .i64 ((j74 : Nat) : Int))) (y := (.int .i64 0)) (z := (.int .i64 31)) rfl hA126 rfl rfl rfl ?_
     have hr := check_long (cs := cs) (by omega) (by omega) (hc81.2.trans (long_yes hc105 hb113))
     exact ⟨ret_three (by rw [hr]) (by rw [hr]) (by rw [hr]), b79⟩
    ·skip
     have hq127 := of_decide_eq_false hb113
     refine q_step hA112 rfl (d_bin (wn rfl) (hA112.ev rfl) (hA112.ev rfl) (b_gt _ _ ((c104.length : Nat) : Int) 8 false _ hb113) ?_)
     intro a128 hA129
     refine q_end ?_
     have hA130 : St 84 [(0, v), (5, (.int .i64 0)), (6, (.int .i64 0)), (7, (.int .i64 ((j74 : Nat) : Int))), (30, (.bool false))] a128 := hA129.cut _ (fm_cons (hA129.get 0 _ rfl) (fm_cons (hA129.get 5 _ rfl) (fm_cons (hA129.get 6 _ rfl) (fm_cons (hA129.get 7 _ rfl) (fm_cons (hA129.get 30 _ rfl) fm_nil)))))
     refine t_norm ?_
     refine c_false hA130 rfl ?_
     refine wp_skip ?_
     refine i_norm ?_
     refine t_norm ?_
     refine wp_region_lit ?_
     refine q_step hA130 rfl (d_move (wn rfl) (hA130.ev rfl) ?_)
     intro a131 hA132
     refine q_step hA132 rfl (d_bin (wn rfl) (hA132.ev rfl) (hA132.ev rfl) (b_add _ _ ((j74 : Nat) : Int) 1 _ (by omega) (by omega)) ?_)
     intro a133 hA134
     refine q_step hA134 rfl (d_assign (wn rfl) (hA134.ev rfl) ?_)
     intro a135 hA136
     refine q_end ?_
     have hA137 : St 84 [(0, v), (5, (.int .i64 0)), (6, (.int .i64 0)), (7, (.int .i64 (((j74 : Nat) : Int) + 1)))] a135 := hA136.cut _ (fm_cons (hA136.get 0 _ rfl) (fm_cons (hA136.get 5 _ rfl) (fm_cons (hA136.get 6 _ rfl) (fm_cons (hA136.get 7 _ rfl) fm_nil))))
     refine t_norm ?_
     exact ⟨cs.length - (j74 + 1), (by rw [hm80]; omega), j74 + 1, rfl, ⟨by have := get_lt hc105; omega, hc81.2.trans (long_at hc105 hb113)⟩, hA137.cut _ (fm_cons (hA137.get 0 _ rfl) (fm_cons (hA137.get 5 _ rfl) (fm_cons (hA137.get 6 _ rfl) (fm_cons ((hA137.get 7 _ rfl).trans (congrArg (Value.int .i64) (by omega))) fm_nil)))), b79⟩
   ·skip
    have hq138 := of_decide_eq_false hb88
    refine q_step hA87 rfl (d_bin (wn rfl) (hA87.ev rfl) (hA87.ev rfl) (b_lt _ _ ((j74 : Nat) : Int) ((us.length : Nat) : Int) false _ hb88) ?_)
    intro a139 hA140
    refine q_end ?_
    have hA141 : St 84 [(0, v), (5, (.int .i64 0)), (6, (.int .i64 0)), (7, (.int .i64 ((j74 : Nat) : Int))), (22, (.bool false))] a139 := hA140.cut _ (fm_cons (hA140.get 0 _ rfl) (fm_cons (hA140.get 5 _ rfl) (fm_cons (hA140.get 6 _ rfl) (fm_cons (hA140.get 7 _ rfl) (fm_cons (hA140.get 22 _ rfl) fm_nil)))))
    refine t_norm ?_
    refine c_false hA141 rfl ?_
    refine wp_exit ?_
    refine t_exit ?_
    refine t_exit ?_
    refine i_here ?_
    refine t_norm ?_
    refine wp_seq ?_
    refine wp_seq ?_
    refine wp_region_lit ?_
    refine q_step hA141 rfl (d_assign (wn rfl) (hA141.ev rfl) ?_)
    intro a142 hA143
    refine q_end ?_
    have hA144 : St 84 [(0, v), (5, (.int .i64 0)), (6, (.int .i64 0)), (8, (.int .i64 0))] a142 := hA143.cut _ (fm_cons (hA143.get 0 _ rfl) (fm_cons (hA143.get 5 _ rfl) (fm_cons (hA143.get 6 _ rfl) (fm_cons (hA143.get 8 _ rfl) fm_nil))))
    refine t_norm ?_
    refine wp_block ?_
    have hlong : longR cs 0 = none := hc81.2.trans (by rw [drop_end (by omega)]; rfl)
    refine loop_by (fun m146 a147 w148 => ∃ j145 : Nat, m146 = cs.length - j145 ∧ (j145 ≤ cs.length ∧ bad2 cs 0 = bad2 (cs.drop j145) j145) ∧ St 84 [(0, v), (5, (.int .i64 (((cs.map opsN).sum - ((cs.drop j145).map opsN).sum : Nat) : Int))), (6, (.int .i64 (((cs.map brN).sum - ((cs.drop j145).map brN).sum : Nat) : Int))), (8, (.int .i64 ((j145 : Nat) : Int)))] a147 ∧ Below w.heap.size w w148) (cs.length - 0) ⟨0, rfl, ⟨by omega, rfl⟩, hA144.cut _ (fm_cons (hA144.get 0 _ rfl) (fm_cons ((hA144.get 5 _ rfl).trans (congrArg (Value.int .i64) (by simp))) (fm_cons ((hA144.get 6 _ rfl).trans (congrArg (Value.int .i64) (by simp))) (fm_cons ((hA144.get 8 _ rfl).trans (congrArg (Value.int .i64) (by simp))) fm_nil)))), b79⟩ ?_
    rintro m146 a147 w148 ⟨j145, hm151, hc152, hA149, b150⟩
    have hkopsN := drop_sum_le opsN cs j145
    have hmopsN := sum_le opsN ops_le cs
    have hkbrN := drop_sum_le brN cs j145
    have hmbrN := sum_le brN br_le cs
    refine wp_seq ?_
    refine wp_seq ?_
    refine wp_region_lit ?_
    refine q_step hA149 rfl (d_move (wn rfl) (hA149.ev rfl) ?_)
    intro a153 hA154
    refine q_step hA154 rfl (d_move (wn rfl) (hA154.ev rfl) ?_)
    intro a155 hA156
    refine q_step hA156 rfl (d_len (n := us.length) (wn rfl) (hA156.ev rfl) slc34 hus.form ?_)
    intro a157 hA158
    rcases Bool.eq_false_or_eq_true (decide (((j145 : Nat) : Int) < ((us.length : Nat) : Int))) with hb159 | hb159
    ·skip
     have hq160 := of_decide_eq_true hb159
     refine q_step hA158 rfl (d_bin (wn rfl) (hA158.ev rfl) (hA158.ev rfl) (b_lt _ _ ((j145 : Nat) : Int) ((us.length : Nat) : Int) true _ hb159) ?_)
     intro a161 hA162
     refine q_end ?_
     have hA163 : St 84 [(0, v), (5, (.int .i64 (((cs.map opsN).sum - ((cs.drop j145).map opsN).sum : Nat) : Int))), (6, (.int .i64 (((cs.map brN).sum - ((cs.drop j145).map brN).sum : Nat) : Int))), (8, (.int .i64 ((j145 : Nat) : Int))), (35, (.bool true))] a161 := hA162.cut _ (fm_cons (hA162.get 0 _ rfl) (fm_cons (hA162.get 5 _ rfl) (fm_cons (hA162.get 6 _ rfl) (fm_cons (hA162.get 8 _ rfl) (fm_cons (hA162.get 35 _ rfl) fm_nil)))))
     refine t_norm ?_
     refine c_true hA163 rfl ?_
     refine wp_skip ?_
     refine t_norm ?_
     refine wp_seq ?_
     refine wp_block ?_
     refine wp_seq ?_
     refine wp_seq ?_
     refine wp_region_lit ?_
     refine q_step hA163 rfl (d_assign (wn rfl) (hA163.ev rfl) ?_)
     intro a164 hA165
     refine q_end ?_
     have hA166 : St 84 [(0, v), (5, (.int .i64 (((cs.map opsN).sum - ((cs.drop j145).map opsN).sum : Nat) : Int))), (6, (.int .i64 (((cs.map brN).sum - ((cs.drop j145).map brN).sum : Nat) : Int))), (8, (.int .i64 ((j145 : Nat) : Int))), (9, (.int .i64 0))] a164 := hA165.cut _ (fm_cons (hA165.get 0 _ rfl) (fm_cons (hA165.get 5 _ rfl) (fm_cons (hA165.get 6 _ rfl) (fm_cons (hA165.get 8 _ rfl) (fm_cons (hA165.get 9 _ rfl) fm_nil)))))
     refine t_norm ?_
     refine wp_block ?_
     obtain ⟨y167, hy168⟩ : ∃ y167, us[j145]? = some y167 := ⟨_, List.getElem?_eq_getElem (show j145 < us.length by omega)⟩
     obtain ⟨b169, o170, lt171, hr172, hix173⟩ := (hus.below b150).at hy168
     obtain ⟨c174, hc175⟩ : ∃ c, cs[j145]? = some c := ⟨_, List.getElem?_eq_getElem (show j145 < cs.length by have := get_lt hy168; omega)⟩
     have hsl176 := hin j145 y167 c174 hy168 hc175
     have hlc174 := len_le hc175
     have hoc174 := ops_le c174
     have hbc174 := br_le c174
     refine loop_by (fun m178 a179 w180 => ∃ k177 : Nat, m178 = c174.length - k177 ∧ (k177 ≤ c174.length ∧ bad1 c174.length c174 0 = bad1 c174.length (c174.drop k177) k177) ∧ St 84 [(0, v), (5, (.int .i64 (((cs.map opsN).sum - ((cs.drop j145).map opsN).sum : Nat) : Int))), (6, (.int .i64 (((cs.map brN).sum - ((cs.drop j145).map brN).sum : Nat) : Int))), (8, (.int .i64 ((j145 : Nat) : Int))), (9, (.int .i64 ((k177 : Nat) : Int)))] a179 ∧ Below w.heap.size w w180) (c174.length - 0) ⟨0, rfl, ⟨by omega, rfl⟩, hA166.cut _ (fm_cons (hA166.get 0 _ rfl) (fm_cons (hA166.get 5 _ rfl) (fm_cons (hA166.get 6 _ rfl) (fm_cons (hA166.get 8 _ rfl) (fm_cons ((hA166.get 9 _ rfl).trans (congrArg (Value.int .i64) (by simp))) fm_nil))))), b150⟩ ?_
     rintro m178 a179 w180 ⟨k177, hm183, hc184, hA181, b182⟩
     refine wp_seq ?_
     refine wp_seq ?_
     refine wp_region_lit ?_
     refine q_step hA181 rfl (d_move (wn rfl) (hA181.ev rfl) ?_)
     intro a185 hA186
     refine q_step hA186 rfl (d_move (wn rfl) (hA186.ev rfl) ?_)
     intro a187 hA188
     refine q_step hA188 rfl (d_move (wn rfl) (hA188.ev rfl) ?_)
     intro a189 hA190
     obtain ⟨b191, o192, lt193, hr194, hix195⟩ := (hus.below b182).at hy168
     refine q_step hA190 rfl (d_indexAt (j := j145) (wn rfl) (hA190.ev rfl) (hA190.ev rfl) slc34 hix195 (get_lt hy168) ?_)
     intro a196 hA197
     refine q_step hA197 rfl (d_load (v := y167) (wn rfl) (hA197.ev rfl) one35 (hr194 0 _ rfl) ?_)
     intro a198 hA199
     refine q_step hA199 rfl (d_len (n := c174.length) (wn rfl) (hA199.ev rfl) slc35 hsl176.form ?_)
     intro a200 hA201
     rcases Bool.eq_false_or_eq_true (decide (((k177 : Nat) : Int) < ((c174.length : Nat) : Int))) with hb202 | hb202
     ·skip
      have hq203 := of_decide_eq_true hb202
      refine q_step hA201 rfl (d_bin (wn rfl) (hA201.ev rfl) (hA201.ev rfl) (b_lt _ _ ((k177 : Nat) : Int) ((c174.length : Nat) : Int) true _ hb202) ?_)
      intro a204 hA205
      refine q_end ?_
      have hA206 : St 84 [(0, v), (5, (.int .i64 (((cs.map opsN).sum - ((cs.drop j145).map opsN).sum : Nat) : Int))), (6, (.int .i64 (((cs.map brN).sum - ((cs.drop j145).map brN).sum : Nat) : Int))), (8, (.int .i64 ((j145 : Nat) : Int))), (9, (.int .i64 ((k177 : Nat) : Int))), (44, (.bool true))] a204 := hA205.cut _ (fm_cons (hA205.get 0 _ rfl) (fm_cons (hA205.get 5 _ rfl) (fm_cons (hA205.get 6 _ rfl) (fm_cons (hA205.get 8 _ rfl) (fm_cons (hA205.get 9 _ rfl) (fm_cons (hA205.get 44 _ rfl) fm_nil))))))
      refine t_norm ?_
      refine c_true hA206 rfl ?_
      refine wp_skip ?_
      refine t_norm ?_
      refine wp_seq ?_
      refine wp_block ?_
      refine wp_seq ?_
      obtain ⟨b207, o208, lt209, hr210, hix211⟩ := (hus.below b182).at hy168
      obtain ⟨y212, hy213⟩ : ∃ y212, c174[k177]? = some y212 := ⟨_, List.getElem?_eq_getElem (show k177 < c174.length by omega)⟩
      obtain ⟨b214, o215, lt216, hr217, hix218⟩ := (hsl176.below b182).at hy213
      have hA219 : St 84 [(0, v), (5, (.int .i64 (((cs.map opsN).sum - ((cs.drop j145).map opsN).sum : Nat) : Int))), (6, (.int .i64 (((cs.map brN).sum - ((cs.drop j145).map brN).sum : Nat) : Int))), (8, (.int .i64 ((j145 : Nat) : Int))), (9, (.int .i64 ((k177 : Nat) : Int)))] a204 := hA206.cut _ (fm_cons (hA206.get 0 _ rfl) (fm_cons (hA206.get 5 _ rfl) (fm_cons (hA206.get 6 _ rfl) (fm_cons (hA206.get 8 _ rfl) (fm_cons (hA206.get 9 _ rfl) fm_nil)))))
      let M220 : Nat → Option (Array Value) := fun _ => none
      have hM220 : M220 = fun _ => none := rfl
      clear_value M220
      have hM220B : ∀ k, k < w.heap.size → M220 k = none := (fun k hk => (congrFun hM220 k))
      refine drawn (S := SM M220) (tabL [cv v, cv (.int .i64 ((j145 : Nat) : Int)), cv (.pointer (some ⟨b207, o208, none⟩)), cv y167, cv (.int .i64 ((k177 : Nat) : Int)), cv (.pointer (some ⟨b214, o215, none⟩)), cv (.agg (insC y212)), cv (.int .i64 ((k177 : Nat) : Int)), cv v, cv (.int .i64 ((j145 : Nat) : Int)), cv (.pointer (some ⟨b207, o208, none⟩)), cv y167, cv (.int .i64 ((c174.length : Nat) : Int)), cv (.int .i64 (rightR y212 ((k177 : Nat) : Int) ((c174.length : Nat) : Int))), cv (.int .i64 (rightR y212 ((k177 : Nat) : Int) ((c174.length : Nat) : Int)))]) mixedY SM.refl SM.trans SM.drew hA219 (by kernel_rfl) ?_ ?_
      ·skip
       refine each_cons (fun x y hS hT hk => d_move (wn rfl) (hT.ev rfl) ⟨SM.refl _, rfl⟩) ?_
       refine each_cons (fun x y hS hT hk => d_move (wn rfl) (hT.ev rfl) ⟨SM.refl _, rfl⟩) ?_
       refine each_cons (fun x y hS hT hk => d_indexAt (j := j145) (wn rfl) (hk 0 rfl) (hk 1 rfl) slc34 hix211 (get_lt hy168) ⟨SM.refl _, rfl⟩) ?_
       refine each_cons (fun x y hS hT hk => d_load (v := y167) (wn rfl) (hk 2 rfl) one35 ((range_sm (w := w180.drew) hr210 hS (Nat.lt_of_lt_of_le lt209 b182.size) (hM220B _ lt209)) 0 _ rfl) ⟨SM.refl _, rfl⟩) ?_
       refine each_cons (fun x y hS hT hk => d_move (wn rfl) (hT.ev rfl) ⟨SM.refl _, rfl⟩) ?_
       refine each_cons (fun x y hS hT hk => d_indexAt (j := k177) (wn rfl) (hk 3 rfl) (hk 4 rfl) slc35 hix218 (get_lt hy213) ⟨SM.refl _, rfl⟩) ?_
       refine each_cons (fun x y hS hT hk => d_loadMid (cs := (insC y212)) (wn rfl) (hk 5 rfl) row23 (range_sm (w := w180.drew) hr217 hS (Nat.lt_of_lt_of_le lt216 b182.size) (hM220B _ lt216)) ⟨SM.refl _, rfl⟩) ?_
       refine each_cons (fun x y hS hT hk => d_move (wn rfl) (hT.ev rfl) ⟨SM.refl _, rfl⟩) ?_
       refine each_cons (fun x y hS hT hk => d_move (wn rfl) (hT.ev rfl) ⟨SM.refl _, rfl⟩) ?_
       refine each_cons (fun x y hS hT hk => d_move (wn rfl) (hT.ev rfl) ⟨SM.refl _, rfl⟩) ?_
       refine each_cons (fun x y hS hT hk => d_indexAt (j := j145) (wn rfl) (hk 8 rfl) (hk 9 rfl) slc34 hix211 (get_lt hy168) ⟨SM.refl _, rfl⟩) ?_
       refine each_cons (fun x y hS hT hk => d_load (v := y167) (wn rfl) (hk 10 rfl) one35 ((range_sm (w := w180.drew) hr210 hS (Nat.lt_of_lt_of_le lt209 b182.size) (hM220B _ lt209)) 0 _ rfl) ⟨SM.refl _, rfl⟩) ?_
       refine each_cons (fun x y hS hT hk => d_len (n := c174.length) (wn rfl) (hk 11 rfl) slc35 hsl176.form ⟨SM.refl _, rfl⟩) ?_
       refine each_cons (fun x y hS hT hk => d_call (wn rfl) ent10 (map3 (show x.eval _ = (.agg (insC y212)) from (hk 6 rfl)) (show x.eval _ = (.int .i64 ((k177 : Nat) : Int)) from (hk 7 rfl)) (show x.eval _ = (.int .i64 ((c174.length : Nat) : Int)) from (hk 12 rfl))) (rright_any y212 ((k177 : Nat) : Int) ((c174.length : Nat) : Int) y) (fun _ _ ⟨he, hG⟩ => ⟨(.int .i64 (rightR y212 ((k177 : Nat) : Int) ((c174.length : Nat) : Int))), he, SM.grow hG, rfl⟩)) ?_
       refine each_cons (fun x y hS hT hk => d_assign (wn rfl) (hk 13 rfl) ⟨SM.refl _, rfl⟩) ?_
       exact each_nil
      intro f221 a222 w223 hS224 hC225 hA226
      have hA227 : St 84 [(0, v), (5, (.int .i64 (((cs.map opsN).sum - ((cs.drop j145).map opsN).sum : Nat) : Int))), (6, (.int .i64 (((cs.map brN).sum - ((cs.drop j145).map brN).sum : Nat) : Int))), (8, (.int .i64 ((j145 : Nat) : Int))), (9, (.int .i64 ((k177 : Nat) : Int))), (10, (.int .i64 (rightR y212 ((k177 : Nat) : Int) ((c174.length : Nat) : Int))))] a222 := hA226.cut _ (fm_cons (hA226.get 0 _ rfl) (fm_cons (hA226.get 5 _ rfl) (fm_cons (hA226.get 6 _ rfl) (fm_cons (hA226.get 8 _ rfl) (fm_cons (hA226.get 9 _ rfl) (fm_cons ((hA226.get 10 _ rfl).trans (hC225 14 (Nat.le_of_ble_eq_true rfl))) fm_nil))))))
      have b228 := hS224.below b182 b182.size hM220B
      have hr229 := range_sm hr210 hS224 (Nat.lt_of_lt_of_le lt209 b182.size) (hM220B _ lt209)
      have hr230 := range_sm hr217 hS224 (Nat.lt_of_lt_of_le lt216 b182.size) (hM220B _ lt216)
      refine t_norm ?_
      refine wp_seq ?_
      refine wp_region_lit ?_
      refine q_step hA227 rfl (d_move (wn rfl) (hA227.ev rfl) ?_)
      intro a231 hA232
      rcases Bool.eq_false_or_eq_true (rightR y212 ((k177 : Nat) : Int) ((c174.length : Nat) : Int) == 0) with hb233 | hb233
      ·skip
       have hq234 := eq_of_beq hb233
       refine q_step hA232 rfl (d_bin (wn rfl) (hA232.ev rfl) (hA232.ev rfl) (b_ne _ _ (rightR y212 ((k177 : Nat) : Int) ((c174.length : Nat) : Int)) 0 false _ (notof hb233)) ?_)
       intro a235 hA236
       refine q_end ?_
       have hA237 : St 84 [(0, v), (5, (.int .i64 (((cs.map opsN).sum - ((cs.drop j145).map opsN).sum : Nat) : Int))), (6, (.int .i64 (((cs.map brN).sum - ((cs.drop j145).map brN).sum : Nat) : Int))), (8, (.int .i64 ((j145 : Nat) : Int))), (9, (.int .i64 ((k177 : Nat) : Int))), (10, (.int .i64 (rightR y212 ((k177 : Nat) : Int) ((c174.length : Nat) : Int)))), (62, (.bool false))] a235 := hA236.cut _ (fm_cons (hA236.get 0 _ rfl) (fm_cons (hA236.get 5 _ rfl) (fm_cons (hA236.get 6 _ rfl) (fm_cons (hA236.get 8 _ rfl) (fm_cons (hA236.get 9 _ rfl) (fm_cons (hA236.get 10 _ rfl) (fm_cons (hA236.get 62 _ rfl) fm_nil)))))))
       refine t_norm ?_
       refine c_false hA237 rfl ?_
       refine wp_skip ?_
       refine i_norm ?_
       refine t_norm ?_
       refine wp_region_lit ?_
       refine q_step hA237 rfl (d_move (wn rfl) (hA237.ev rfl) ?_)
       intro a238 hA239
       refine q_step hA239 rfl (d_bin (wn rfl) (hA239.ev rfl) (hA239.ev rfl) (b_add _ _ ((k177 : Nat) : Int) 1 _ (by omega) (by omega)) ?_)
       intro a240 hA241
       refine q_step hA241 rfl (d_assign (wn rfl) (hA241.ev rfl) ?_)
       intro a242 hA243
       refine q_end ?_
       have hA244 : St 84 [(0, v), (5, (.int .i64 (((cs.map opsN).sum - ((cs.drop j145).map opsN).sum : Nat) : Int))), (6, (.int .i64 (((cs.map brN).sum - ((cs.drop j145).map brN).sum : Nat) : Int))), (8, (.int .i64 ((j145 : Nat) : Int))), (9, (.int .i64 (((k177 : Nat) : Int) + 1)))] a242 := hA243.cut _ (fm_cons (hA243.get 0 _ rfl) (fm_cons (hA243.get 5 _ rfl) (fm_cons (hA243.get 6 _ rfl) (fm_cons (hA243.get 8 _ rfl) (fm_cons (hA243.get 9 _ rfl) fm_nil)))))
       refine t_norm ?_
       exact ⟨c174.length - (k177 + 1), (by rw [hm183]; omega), k177 + 1, rfl, ⟨by have := get_lt hy213; omega, hc184.2.trans (bad1_at hy213 hb233)⟩, hA244.cut _ (fm_cons (hA244.get 0 _ rfl) (fm_cons (hA244.get 5 _ rfl) (fm_cons (hA244.get 6 _ rfl) (fm_cons (hA244.get 8 _ rfl) (fm_cons ((hA244.get 9 _ rfl).trans (congrArg (Value.int .i64) (by omega))) fm_nil))))), b228⟩
      ·skip
       have hq245 := ne_of_beq hb233
       refine q_step hA232 rfl (d_bin (wn rfl) (hA232.ev rfl) (hA232.ev rfl) (b_ne _ _ (rightR y212 ((k177 : Nat) : Int) ((c174.length : Nat) : Int)) 0 true _ (notof hb233)) ?_)
       intro a246 hA247
       refine q_end ?_
       have hA248 : St 84 [(0, v), (5, (.int .i64 (((cs.map opsN).sum - ((cs.drop j145).map opsN).sum : Nat) : Int))), (6, (.int .i64 (((cs.map brN).sum - ((cs.drop j145).map brN).sum : Nat) : Int))), (8, (.int .i64 ((j145 : Nat) : Int))), (9, (.int .i64 ((k177 : Nat) : Int))), (10, (.int .i64 (rightR y212 ((k177 : Nat) : Int) ((c174.length : Nat) : Int)))), (62, (.bool true))] a246 := hA247.cut _ (fm_cons (hA247.get 0 _ rfl) (fm_cons (hA247.get 5 _ rfl) (fm_cons (hA247.get 6 _ rfl) (fm_cons (hA247.get 8 _ rfl) (fm_cons (hA247.get 9 _ rfl) (fm_cons (hA247.get 10 _ rfl) (fm_cons (hA247.get 62 _ rfl) fm_nil)))))))
       refine t_norm ?_
       refine c_true hA248 rfl ?_
       refine wp_seq ?_
       refine wp_region_lit ?_
       refine q_step hA248 rfl (d_move (wn rfl) (hA248.ev rfl) ?_)
       intro a249 hA250
       refine q_step hA250 rfl (d_move (wn rfl) (hA250.ev rfl) ?_)
       intro a251 hA252
       refine q_step hA252 rfl (d_move (wn rfl) (hA252.ev rfl) ?_)
       intro a253 hA254
       refine q_step hA254 rfl (d_assign (wn rfl) (hA254.ev rfl) ?_)
       intro a255 hA256
       refine q_step hA256 rfl (d_assign (wn rfl) (hA256.ev rfl) ?_)
       intro a257 hA258
       refine q_step hA258 rfl (d_assign (wn rfl) (hA258.ev rfl) ?_)
       intro a259 hA260
       refine q_end ?_
       have hA261 : St 84 [(0, v), (2, (.int .i64 ((j145 : Nat) : Int))), (3, (.int .i64 ((k177 : Nat) : Int))), (4, (.int .i64 (rightR y212 ((k177 : Nat) : Int) ((c174.length : Nat) : Int)))), (5, (.int .i64 (((cs.map opsN).sum - ((cs.drop j145).map opsN).sum : Nat) : Int))), (6, (.int .i64 (((cs.map brN).sum - ((cs.drop j145).map brN).sum : Nat) : Int))), (8, (.int .i64 ((j145 : Nat) : Int))), (9, (.int .i64 ((k177 : Nat) : Int)))] a259 := hA260.cut _ (fm_cons (hA260.get 0 _ rfl) (fm_cons (hA260.get 2 _ rfl) (fm_cons (hA260.get 3 _ rfl) (fm_cons (hA260.get 4 _ rfl) (fm_cons (hA260.get 5 _ rfl) (fm_cons (hA260.get 6 _ rfl) (fm_cons (hA260.get 8 _ rfl) (fm_cons (hA260.get 9 _ rfl) fm_nil))))))))
       refine t_norm ?_
       refine wp_ret ?_
       refine i_ret ?_
       refine t_ret ?_
       refine t_ret ?_
       refine i_ret ?_
       refine t_ret ?_
       refine i_ret ?_
       refine t_ret ?_
       refine t_ret ?_
       refine i_ret ?_
       refine t_ret ?_
       refine ret3 (x := (.int .i64 ((j145 : Nat) : Int))) (y := (.int .i64 ((k177 : Nat) : Int))) (z := (.int .i64 (rightR y212 ((k177 : Nat) : Int) ((c174.length : Nat) : Int)))) rfl hA261 rfl rfl rfl ?_
       have hr := check_bad (cs := cs) (by omega) (by omega) hlong (hc152.2.trans (bad2_yes hc175 (hc184.2.trans (bad1_yes hy213 hb233))))
       exact ⟨ret_three (by rw [hr]) (by rw [hr]) (by rw [hr]), b228⟩
     ·skip
      have hq262 := of_decide_eq_false hb202
      refine q_step hA201 rfl (d_bin (wn rfl) (hA201.ev rfl) (hA201.ev rfl) (b_lt _ _ ((k177 : Nat) : Int) ((c174.length : Nat) : Int) false _ hb202) ?_)
      intro a263 hA264
      refine q_end ?_
      have hA265 : St 84 [(0, v), (5, (.int .i64 (((cs.map opsN).sum - ((cs.drop j145).map opsN).sum : Nat) : Int))), (6, (.int .i64 (((cs.map brN).sum - ((cs.drop j145).map brN).sum : Nat) : Int))), (8, (.int .i64 ((j145 : Nat) : Int))), (9, (.int .i64 ((k177 : Nat) : Int))), (44, (.bool false))] a263 := hA264.cut _ (fm_cons (hA264.get 0 _ rfl) (fm_cons (hA264.get 5 _ rfl) (fm_cons (hA264.get 6 _ rfl) (fm_cons (hA264.get 8 _ rfl) (fm_cons (hA264.get 9 _ rfl) (fm_cons (hA264.get 44 _ rfl) fm_nil))))))
      refine t_norm ?_
      refine c_false hA265 rfl ?_
      refine wp_exit ?_
      refine t_exit ?_
      refine t_exit ?_
      refine i_here ?_
      refine t_norm ?_
      refine wp_seq ?_
      refine wp_region_lit ?_
      refine q_step hA265 rfl (d_move (wn rfl) (hA265.ev rfl) ?_)
      intro a266 hA267
      refine q_step hA267 rfl (d_move (wn rfl) (hA267.ev rfl) ?_)
      intro a268 hA269
      refine q_step hA269 rfl (d_move (wn rfl) (hA269.ev rfl) ?_)
      intro a270 hA271
      obtain ⟨b272, o273, lt274, hr275, hix276⟩ := (hus.below b182).at hy168
      refine q_step hA271 rfl (d_indexAt (j := j145) (wn rfl) (hA271.ev rfl) (hA271.ev rfl) slc34 hix276 (get_lt hy168) ?_)
      intro a277 hA278
      refine q_step hA278 rfl (d_load (v := y167) (wn rfl) (hA278.ev rfl) one35 (hr275 0 _ rfl) ?_)
      intro a279 hA280
      refine q_step hA280 rfl (d_call (wn rfl) ent23 (map1 (hA280.ev rfl)) (rops_any c174 y167 w180 ((hsl176.below b182).mono b182.size) (by omega)) ?_)
      rintro e284 w281 ⟨he283, hG282⟩
      have hr285 := range_below hr275 hG282 (Nat.lt_of_lt_of_le lt274 b182.size)
      have b286 := below_grow b182 hG282 b182.size
      refine ⟨(.int .i64 ((opsN c174 : Nat) : Int)), he283, ?_⟩
      intro a287 hA288
      refine q_step hA288 rfl (d_bin (wn rfl) (hA288.ev rfl) (hA288.ev rfl) (b_add _ _ (((cs.map opsN).sum - ((cs.drop j145).map opsN).sum : Nat) : Int) ((opsN c174 : Nat) : Int) _ (by omega) (by omega)) ?_)
      intro a289 hA290
      refine q_step hA290 rfl (d_assign (wn rfl) (hA290.ev rfl) ?_)
      intro a291 hA292
      refine q_end ?_
      have hA293 : St 84 [(0, v), (5, (.int .i64 ((((cs.map opsN).sum - ((cs.drop j145).map opsN).sum : Nat) : Int) + ((opsN c174 : Nat) : Int)))), (6, (.int .i64 (((cs.map brN).sum - ((cs.drop j145).map brN).sum : Nat) : Int))), (8, (.int .i64 ((j145 : Nat) : Int)))] a291 := hA292.cut _ (fm_cons (hA292.get 0 _ rfl) (fm_cons (hA292.get 5 _ rfl) (fm_cons (hA292.get 6 _ rfl) (fm_cons (hA292.get 8 _ rfl) fm_nil))))
      refine t_norm ?_
      refine wp_region_lit ?_
      refine q_step hA293 rfl (d_move (wn rfl) (hA293.ev rfl) ?_)
      intro a294 hA295
      refine q_step hA295 rfl (d_move (wn rfl) (hA295.ev rfl) ?_)
      intro a296 hA297
      refine q_step hA297 rfl (d_move (wn rfl) (hA297.ev rfl) ?_)
      intro a298 hA299
      obtain ⟨b300, o301, lt302, hr303, hix304⟩ := (hus.below b286).at hy168
      refine q_step hA299 rfl (d_indexAt (j := j145) (wn rfl) (hA299.ev rfl) (hA299.ev rfl) slc34 hix304 (get_lt hy168) ?_)
      intro a305 hA306
      refine q_step hA306 rfl (d_load (v := y167) (wn rfl) (hA306.ev rfl) one35 (hr303 0 _ rfl) ?_)
      intro a307 hA308
      refine q_step hA308 rfl (d_call (wn rfl) ent25 (map1 (hA308.ev rfl)) (rbranches_any c174 y167 w281 ((hsl176.below b286).mono b286.size) (by omega)) ?_)
      rintro e312 w309 ⟨he311, hG310⟩
      have hr313 := range_below hr303 hG310 (Nat.lt_of_lt_of_le lt302 b286.size)
      have b314 := below_grow b286 hG310 b286.size
      refine ⟨(.int .i64 ((brN c174 : Nat) : Int)), he311, ?_⟩
      intro a315 hA316
      refine q_step hA316 rfl (d_bin (wn rfl) (hA316.ev rfl) (hA316.ev rfl) (b_add _ _ (((cs.map brN).sum - ((cs.drop j145).map brN).sum : Nat) : Int) ((brN c174 : Nat) : Int) _ (by omega) (by omega)) ?_)
      intro a317 hA318
      refine q_step hA318 rfl (d_assign (wn rfl) (hA318.ev rfl) ?_)
      intro a319 hA320
      refine q_end ?_
      have hA321 : St 84 [(0, v), (5, (.int .i64 ((((cs.map opsN).sum - ((cs.drop j145).map opsN).sum : Nat) : Int) + ((opsN c174 : Nat) : Int)))), (6, (.int .i64 ((((cs.map brN).sum - ((cs.drop j145).map brN).sum : Nat) : Int) + ((brN c174 : Nat) : Int)))), (8, (.int .i64 ((j145 : Nat) : Int)))] a319 := hA320.cut _ (fm_cons (hA320.get 0 _ rfl) (fm_cons (hA320.get 5 _ rfl) (fm_cons (hA320.get 6 _ rfl) (fm_cons (hA320.get 8 _ rfl) fm_nil))))
      refine i_norm ?_
      refine t_norm ?_
      refine wp_region_lit ?_
      refine q_step hA321 rfl (d_move (wn rfl) (hA321.ev rfl) ?_)
      intro a322 hA323
      refine q_step hA323 rfl (d_bin (wn rfl) (hA323.ev rfl) (hA323.ev rfl) (b_add _ _ ((j145 : Nat) : Int) 1 _ (by omega) (by omega)) ?_)
      intro a324 hA325
      refine q_step hA325 rfl (d_assign (wn rfl) (hA325.ev rfl) ?_)
      intro a326 hA327
      refine q_end ?_
      have hA328 : St 84 [(0, v), (5, (.int .i64 ((((cs.map opsN).sum - ((cs.drop j145).map opsN).sum : Nat) : Int) + ((opsN c174 : Nat) : Int)))), (6, (.int .i64 ((((cs.map brN).sum - ((cs.drop j145).map brN).sum : Nat) : Int) + ((brN c174 : Nat) : Int)))), (8, (.int .i64 (((j145 : Nat) : Int) + 1)))] a326 := hA327.cut _ (fm_cons (hA327.get 0 _ rfl) (fm_cons (hA327.get 5 _ rfl) (fm_cons (hA327.get 6 _ rfl) (fm_cons (hA327.get 8 _ rfl) fm_nil))))
      refine t_norm ?_
      exact ⟨cs.length - (j145 + 1), (by rw [hm151]; omega), j145 + 1, rfl, ⟨by have := get_lt hc175; omega, hc152.2.trans (bad2_at hc175 (hc184.2.trans (by rw [drop_end (by omega)]; rfl)))⟩, hA328.cut _ (fm_cons (hA328.get 0 _ rfl) (fm_cons ((hA328.get 5 _ rfl).trans (congrArg (Value.int .i64) (by have h1 := sum_at opsN hc175; have h2 := drop_sum_le opsN cs j145; omega))) (fm_cons ((hA328.get 6 _ rfl).trans (congrArg (Value.int .i64) (by have h1 := sum_at brN hc175; have h2 := drop_sum_le brN cs j145; omega))) (fm_cons ((hA328.get 8 _ rfl).trans (congrArg (Value.int .i64) (by omega))) fm_nil)))), b314⟩
    ·skip
     have hq329 := of_decide_eq_false hb159
     refine q_step hA158 rfl (d_bin (wn rfl) (hA158.ev rfl) (hA158.ev rfl) (b_lt _ _ ((j145 : Nat) : Int) ((us.length : Nat) : Int) false _ hb159) ?_)
     intro a330 hA331
     refine q_end ?_
     have hA332 : St 84 [(0, v), (5, (.int .i64 (((cs.map opsN).sum - ((cs.drop j145).map opsN).sum : Nat) : Int))), (6, (.int .i64 (((cs.map brN).sum - ((cs.drop j145).map brN).sum : Nat) : Int))), (8, (.int .i64 ((j145 : Nat) : Int))), (35, (.bool false))] a330 := hA331.cut _ (fm_cons (hA331.get 0 _ rfl) (fm_cons (hA331.get 5 _ rfl) (fm_cons (hA331.get 6 _ rfl) (fm_cons (hA331.get 8 _ rfl) (fm_cons (hA331.get 35 _ rfl) fm_nil)))))
     refine t_norm ?_
     refine c_false hA332 rfl ?_
     refine wp_exit ?_
     refine t_exit ?_
     refine t_exit ?_
     refine i_here ?_
     refine t_norm ?_
     refine wp_seq ?_
     refine wp_seq ?_
     refine wp_region_lit ?_
     refine q_step hA332 rfl (d_move (wn rfl) (hA332.ev rfl) ?_)
     intro a333 hA334
     rcases Bool.eq_false_or_eq_true (decide ((((cs.map opsN).sum - ((cs.drop j145).map opsN).sum : Nat) : Int) > 6)) with hb335 | hb335
     ·skip
      have hq336 := of_decide_eq_true hb335
      refine q_step hA334 rfl (d_bin (wn rfl) (hA334.ev rfl) (hA334.ev rfl) (b_gt _ _ (((cs.map opsN).sum - ((cs.drop j145).map opsN).sum : Nat) : Int) 6 true _ hb335) ?_)
      intro a337 hA338
      refine q_end ?_
      have hA339 : St 84 [(6, (.int .i64 (((cs.map brN).sum - ((cs.drop j145).map brN).sum : Nat) : Int))), (81, (.bool true))] a337 := hA338.cut _ (fm_cons (hA338.get 6 _ rfl) (fm_cons (hA338.get 81 _ rfl) fm_nil))
      refine t_norm ?_
      refine c_true hA339 rfl ?_
      refine wp_seq ?_
      refine wp_region_lit ?_
      refine q_step hA339 rfl (d_assign (wn rfl) (hA339.ev rfl) ?_)
      intro a340 hA341
      refine q_step hA341 rfl (d_assign (wn rfl) (hA341.ev rfl) ?_)
      intro a342 hA343
      refine q_step hA343 rfl (d_assign (wn rfl) (hA343.ev rfl) ?_)
      intro a344 hA345
      refine q_end ?_
      have hA346 : St 84 [(2, (.int .i64 0)), (3, (.int .i64 0)), (4, (.int .i64 32)), (6, (.int .i64 (((cs.map brN).sum - ((cs.drop j145).map brN).sum : Nat) : Int)))] a344 := hA345.cut _ (fm_cons (hA345.get 2 _ rfl) (fm_cons (hA345.get 3 _ rfl) (fm_cons (hA345.get 4 _ rfl) (fm_cons (hA345.get 6 _ rfl) fm_nil))))
      refine t_norm ?_
      refine wp_ret ?_
      refine t_ret ?_
      refine ret3 (x := (.int .i64 0)) (y := (.int .i64 0)) (z := (.int .i64 32)) rfl hA346 rfl rfl rfl ?_
      have hr := check_none (cs := cs) (by omega) (by omega) hlong ((hc152.2).trans (by rw [drop_end (by omega)]; rfl))
      have hz : cntsR cs = 32 := by have h0 := drop_end (l := cs) (j := j145) (by omega); have h1 : (cs.map opsN).sum = sumO cs := rfl; have h2 : (cs.map brN).sum = sumB cs := rfl; simp only [h0, List.map_nil, List.sum_nil, Nat.sub_zero, h1, h2] at *; simp [cntsR, hb14, hb45, hul, hb88, hb159, hb335]
      exact ⟨ret_three (by rw [hr]) (by rw [hr]) (by rw [hr]; exact hz.symm), b150⟩
     ·skip
      have hq347 := of_decide_eq_false hb335
      refine q_step hA334 rfl (d_bin (wn rfl) (hA334.ev rfl) (hA334.ev rfl) (b_gt _ _ (((cs.map opsN).sum - ((cs.drop j145).map opsN).sum : Nat) : Int) 6 false _ hb335) ?_)
      intro a348 hA349
      refine q_end ?_
      have hA350 : St 84 [(6, (.int .i64 (((cs.map brN).sum - ((cs.drop j145).map brN).sum : Nat) : Int))), (81, (.bool false))] a348 := hA349.cut _ (fm_cons (hA349.get 6 _ rfl) (fm_cons (hA349.get 81 _ rfl) fm_nil))
      refine t_norm ?_
      refine c_false hA350 rfl ?_
      refine wp_skip ?_
      refine t_norm ?_
      refine wp_seq ?_
      refine wp_seq ?_
      refine wp_region_lit ?_
      refine q_step hA350 rfl (d_move (wn rfl) (hA350.ev rfl) ?_)
      intro a351 hA352
      rcases Bool.eq_false_or_eq_true (decide ((((cs.map brN).sum - ((cs.drop j145).map brN).sum : Nat) : Int) > 3)) with hb353 | hb353
      ·skip
       have hq354 := of_decide_eq_true hb353
       refine q_step hA352 rfl (d_bin (wn rfl) (hA352.ev rfl) (hA352.ev rfl) (b_gt _ _ (((cs.map brN).sum - ((cs.drop j145).map brN).sum : Nat) : Int) 3 true _ hb353) ?_)
       intro a355 hA356
       refine q_end ?_
       have hA357 : St 84 [(83, (.bool true))] a355 := hA356.cut _ (fm_cons (hA356.get 83 _ rfl) fm_nil)
       refine t_norm ?_
       refine c_true hA357 rfl ?_
       refine wp_seq ?_
       refine wp_region_lit ?_
       refine q_step hA357 rfl (d_assign (wn rfl) (hA357.ev rfl) ?_)
       intro a358 hA359
       refine q_step hA359 rfl (d_assign (wn rfl) (hA359.ev rfl) ?_)
       intro a360 hA361
       refine q_step hA361 rfl (d_assign (wn rfl) (hA361.ev rfl) ?_)
       intro a362 hA363
       refine q_end ?_
       have hA364 : St 84 [(2, (.int .i64 0)), (3, (.int .i64 0)), (4, (.int .i64 33))] a362 := hA363.cut _ (fm_cons (hA363.get 2 _ rfl) (fm_cons (hA363.get 3 _ rfl) (fm_cons (hA363.get 4 _ rfl) fm_nil)))
       refine t_norm ?_
       refine wp_ret ?_
       refine t_ret ?_
       refine ret3 (x := (.int .i64 0)) (y := (.int .i64 0)) (z := (.int .i64 33)) rfl hA364 rfl rfl rfl ?_
       have hr := check_none (cs := cs) (by omega) (by omega) hlong ((hc152.2).trans (by rw [drop_end (by omega)]; rfl))
       have hz : cntsR cs = 33 := by have h0 := drop_end (l := cs) (j := j145) (by omega); have h1 : (cs.map opsN).sum = sumO cs := rfl; have h2 : (cs.map brN).sum = sumB cs := rfl; simp only [h0, List.map_nil, List.sum_nil, Nat.sub_zero, h1, h2] at *; simp [cntsR, hb14, hb45, hul, hb88, hb159, hb335, hb353]
       exact ⟨ret_three (by rw [hr]) (by rw [hr]) (by rw [hr]; exact hz.symm), b150⟩
      ·skip
       have hq365 := of_decide_eq_false hb353
       refine q_step hA352 rfl (d_bin (wn rfl) (hA352.ev rfl) (hA352.ev rfl) (b_gt _ _ (((cs.map brN).sum - ((cs.drop j145).map brN).sum : Nat) : Int) 3 false _ hb353) ?_)
       intro a366 hA367
       refine q_end ?_
       have hA368 : St 84 [(83, (.bool false))] a366 := hA367.cut _ (fm_cons (hA367.get 83 _ rfl) fm_nil)
       refine t_norm ?_
       refine c_false hA368 rfl ?_
       refine wp_skip ?_
       refine t_norm ?_
       refine wp_seq ?_
       refine wp_region_lit ?_
       refine q_step hA368 rfl (d_assign (wn rfl) (hA368.ev rfl) ?_)
       intro a369 hA370
       refine q_step hA370 rfl (d_assign (wn rfl) (hA370.ev rfl) ?_)
       intro a371 hA372
       refine q_step hA372 rfl (d_assign (wn rfl) (hA372.ev rfl) ?_)
       intro a373 hA374
       refine q_end ?_
       have hA375 : St 84 [(2, (.int .i64 0)), (3, (.int .i64 0)), (4, (.int .i64 0))] a373 := hA374.cut _ (fm_cons (hA374.get 2 _ rfl) (fm_cons (hA374.get 3 _ rfl) (fm_cons (hA374.get 4 _ rfl) fm_nil)))
       refine t_norm ?_
       refine wp_ret ?_
       refine ret3 (x := (.int .i64 0)) (y := (.int .i64 0)) (z := (.int .i64 0)) rfl hA375 rfl rfl rfl ?_
       have hr := check_none (cs := cs) (by omega) (by omega) hlong ((hc152.2).trans (by rw [drop_end (by omega)]; rfl))
       have hz : cntsR cs = 0 := by have h0 := drop_end (l := cs) (j := j145) (by omega); have h1 : (cs.map opsN).sum = sumO cs := rfl; have h2 : (cs.map brN).sum = sumB cs := rfl; simp only [h0, List.map_nil, List.sum_nil, Nat.sub_zero, h1, h2] at *; simp [cntsR, hb14, hb45, hul, hb88, hb159, hb335, hb353]
       exact ⟨ret_three (by rw [hr]) (by rw [hr]) (by rw [hr]; exact hz.symm), b150⟩
end Go.Proofs.Ytlhompedcphnnaa
/- Copies of codes in new memory; sums of lengths; how codes that are handed in are read. -/
namespace Go.Proofs.Ytlhompedcphnnaa
open Go.ChangeShapes Go.WideShapes Go.ChangeAt Go.RowKit Go.Deep

/-- a row of the call's own, of slices of the call's own: copies of codes -/
def Cp (B : Nat) (w : World) (v : Value) (l : List (List Ins)) : Prop :=
  ∃ us : List Value, w.ownsRow B 35 1 v l.length us ∧ ∀ (k : Nat) u c, us[k]? = some u → l[k]? = some c → ∃ b, w.ownsRow b 23 17 u c.length (c.flatMap insE)
theorem Cp.nil (B : Nat) (w : World) : Cp B w (.slice none 0 0) [] := ⟨[], ⟨rfl, .inl ⟨rfl, rfl⟩⟩, fun k u c h => by simp at h⟩
theorem Cp.grow {B : Nat} {w w' : World} {v : Value} {l : List (List Ins)} (h : Cp B w v l) (hG : Grow w w') : Cp B w' v l := by
  obtain ⟨us, h1, h2⟩ := h
  exact ⟨us, own_grow hG h1, fun k u c hu hc => let ⟨b, h3⟩ := h2 k u c hu hc; ⟨b, own_grow hG h3⟩⟩
theorem flat_cell (us : List Value) : us.flatMap cellE = us := by
  induction us with
  | nil => rfl
  | cons u us ih => rw [List.flatMap_cons, ih]; rfl
theorem Cp.cs {B : Nat} {w : World} {v : Value} {l : List (List Ins)} (h : Cp B w v l) : Cs w.heap.size w v l := by
  obtain ⟨us, h1, h2⟩ := h
  have hl : us.length = l.length := by have := h1.1; omega
  refine ⟨us, ?_, hl, fun j u c hu hc => let ⟨b, h3⟩ := h2 j u c hu hc; own_gen insE_len h3⟩
  refine own_gen (enc := cellE) (fun _ => rfl) (b := B) (e := 35) ?_
  rw [flat_cell, hl]; exact h1
theorem Cp.form {B : Nat} {w : World} {v : Value} {l : List (List Ins)} (h : Cp B w v l) : ∃ ao cap, v = .slice ao l.length cap := let ⟨_, h1, _⟩ := h; own_form h1
/-- one copy more -/
theorem Cp.snoc {B n m : Nat} {w w' : World} {v v' u : Value} {l : List (List Ins)} {c : List Ins} {us xs : List Value} (h1 : w.ownsRow B 35 1 v n us) (hn : n = l.length) (h2 : ∀ (k : Nat) u c, us[k]? = some u → l[k]? = some c → ∃ b, w.ownsRow b 23 17 u c.length (c.flatMap insE)) (hu : ∃ b, w.ownsRow b 23 17 u c.length (c.flatMap insE))
    (h' : w'.ownsRow B 35 1 v' m xs) (hx : xs = us ++ [u]) (hm : m = n + 1) (hg : w.grownBy w' v.ownBlock) : Cp B w' v' (l ++ [c]) := by
  subst hx; subst hm; subst hn
  have keep : ∀ (u : Value) (c : List Ins) (b : Nat), w.ownsRow b 23 17 u c.length (c.flatMap insE) → w'.ownsRow b 23 17 u c.length (c.flatMap insE) := fun u c b h => own_by h hg fun k hk e => by
    rcases h1.2 with ⟨rfl, _⟩ | ⟨g, cap, cur, rfl, _, hg1, _⟩
    · simp [Value.ownBlock] at e
    · rcases h.2 with ⟨rfl, _⟩ | ⟨g', cap', cur', rfl, _, hg2, _⟩
      · simp [Value.ownBlock] at hk
      · simp [Value.ownBlock] at e hk
        subst e; subst hk
        rw [hg1] at hg2
        injection hg2 with hg2; injection hg2 with _ h4
        exact absurd h4 (by decide)
  have hul : us.length = l.length := by have := h1.1; omega
  refine ⟨us ++ [u], by rw [List.length_append]; exact h', fun k x d hx hd => ?_⟩
  rcases snoc_at hx with h | ⟨rfl, rfl⟩
  · have hk := get_lt h
    rw [List.getElem?_append_left (by omega)] at hd
    obtain ⟨b, h3⟩ := h2 k x d h hd
    exact ⟨b, keep _ _ _ h3⟩
  · rw [hul] at hd
    simp at hd
    subst hd
    obtain ⟨b, h3⟩ := hu
    exact ⟨b, keep _ _ _ h3⟩
def lenN (cs : List (List Ins)) (j : Nat) : Nat := ((cs.take j).map List.length).sum
theorem len_at {cs : List (List Ins)} {j : Nat} {c : List Ins} (h : cs[j]? = some c) : lenN cs (j + 1) = lenN cs j + c.length := by
  unfold lenN; rw [List.take_add_one, h]; simp
theorem len_all {cs : List (List Ins)} {j : Nat} (h : cs.length ≤ j) : lenN cs j = totN cs := by unfold lenN totN; rw [List.take_of_length_le h]
theorem take_snoc {cs : List (List Ins)} {j : Nat} {c : List Ins} (h : cs[j]? = some c) : cs.take (j + 1) = cs.take j ++ [c] := by rw [List.take_add_one, h]; rfl
section
variable {H : Type} {enc : TypeId × Value → H} {W : World} {base : Nat} {spare : Nat → Bool} {held : Bool} {base' : Nat}
theorem weights_mem {P : Program} {e : Nat} {d : DataW H} : ∀ {l : List (DataW H)}, d ∈ l → (DataW.weightsAll P e l).all (· ≤ reachBytes) = true → (d.weights P e).all (· ≤ reachBytes) = true
  | [], h, _ => by cases h
  | x :: l, h, hw => by
    unfold DataW.weightsAll at hw
    rw [List.all_append, Bool.and_eq_true] at hw
    rcases List.mem_cons.1 h with rfl | h
    · exact hw.1
    · exact weights_mem h hw.2
theorem open_listW {α : Type} [Inhabited α] {en : α → List Value} {Q : α → Prop} {t e s fuel : Nat} {cells : List Value} {x : DataW H × List MemPlace} (ht : Try.prog.underlying t = some (.slice e)) (hc : Try.prog.cellsOf e = s) (h0 : 0 < s)
    (hel : ∀ cs n x, DataW.trod enc Try.prog W base' spare held n e cs = some x → cs.length = s → (x.1.weights Try.prog e).all (· ≤ reachBytes) = true → ∃ y : α, cs = en y ∧ Q y)
    (hf : DataW.trod enc Try.prog W base' spare held fuel t cells = some x) (hwt : (x.1.weights Try.prog t).all (· ≤ reachBytes) = true) :
    ∃ (v : Value) (ao : Option Addr) (l : List α) (cap : Nat), cells = [v] ∧ v = .slice ao l.length cap ∧ l.length * Try.prog.bytesOf e ≤ reachBytes ∧ Sl en s W.heap.size W v l ∧ ∀ y ∈ l, Q y := by
  rcases open_slice ht hf with ⟨hcs, _⟩ | ⟨a, len0, cap0, m, n, D, Pl, hcs, hb, hl, hm, hmm, hxe, hx⟩
  · exact ⟨_, none, [], 0, hcs, rfl, by simp, Sl.nil, fun y hy => by cases hy⟩
  · have hlm : len0 ≤ m := by rw [hmm]; split <;> omega
    rw [hxe] at hwt
    unfold DataW.weights at hwt
    rw [ht] at hwt
    simp only [List.all_cons, List.all_append, Bool.and_eq_true, decide_eq_true_eq, List.length_map, List.length_range] at hwt
    have hbl : len0 * Try.prog.bytesOf e ≤ reachBytes := Nat.le_trans (Nat.mul_le_mul_right _ (Nat.le_add_right _ _)) hwt.1
    rw [hc] at hx
    obtain ⟨Y, hY⟩ := choose_lt (α := α) (n := len0) (p := fun i y => Q y ∧ (en y).length = s ∧ ∀ k, k < s → W.cell? ((a.add (i * s)).add k) = (en y)[k]?) (fun i hi => by
      obtain ⟨cs', h1, h2⟩ := hx i (by omega)
      obtain ⟨_, hlen, hcell⟩ := World.cells?_some h1
      obtain ⟨y, rfl, hq⟩ := hel cs' n _ h2 hlen (weights_mem (l := (List.range len0).map D) (List.mem_map.2 ⟨i, List.mem_range.2 hi, rfl⟩) hwt.2.1)
      exact ⟨y, hq, hlen, hcell⟩)
    have hlen : ((List.range len0).map Y).length = len0 := by simp
    refine ⟨_, some a, (List.range len0).map Y, cap0, hcs, by rw [hlen], by rw [hlen]; exact hbl, ⟨some a, cap0, by rw [hlen], by rw [hlen]; exact hl, fun j x hj => ?_⟩, fun y hy => ?_⟩
    · have hjl : j < len0 := by have := (List.getElem?_eq_some_iff.1 hj).1; simpa using this
      have hxe : x = Y j := by simp [hjl] at hj; exact hj.symm
      subst hxe
      obtain ⟨_, hyl, hcell⟩ := hY j hjl
      obtain ⟨b, o, spot⟩ := a
      obtain ⟨_, hy0, hcell0⟩ := hY 0 (by omega)
      have h00 := hcell0 0 h0
      rw [List.getElem?_eq_getElem (by omega)] at h00
      have hspot : spot = none := by simpa [Addr.add] using World.cell?_spot h00
      subst hspot
      refine ⟨b, o, rfl, ?_, fun k u hu => ?_⟩
      · have := World.block_lt_of_cell? W _ h00
        rw [Addr.add_mid, Addr.add_mid] at this
        exact this
      · have hk : k < s := by have := (List.getElem?_eq_some_iff.1 hu).1; omega
        have := hcell k hk
        rw [hu, Addr.add_mid, Addr.add_mid] at this
        exact this
    · obtain ⟨i, hi, rfl⟩ := List.mem_map.1 hy
      exact (hY i (by simpa using hi)).1
theorem pick_all {α β : Type} {R : α → β → Prop} : ∀ l : List α, (∀ x ∈ l, ∃ y, R x y) → ∃ m : List β, m.length = l.length ∧ ∀ (j : Nat) x y, l[j]? = some x → m[j]? = some y → R x y
  | [], _ => ⟨[], rfl, fun j x y h => by simp at h⟩
  | x :: l, h => by
    obtain ⟨y, hy⟩ := h x (by simp)
    obtain ⟨m, h1, h2⟩ := pick_all l (fun z hz => h z (by simp [hz]))
    refine ⟨y :: m, by simp [h1], fun j a b ha hb => ?_⟩
    cases j with
    | zero => simp at ha hb; subst ha; subst hb; exact hy
    | succ j => exact h2 j a b (by simpa using ha) (by simpa using hb)
theorem open_codes {v : Value} {d : DataW H} {ps : List MemPlace} (h : DataW.Trod enc Try.prog W base' spare held 34 v d ps) (hv : v.cells.toList = [v]) (hwt : (d.weights Try.prog 34).all (· ≤ reachBytes) = true) :
    ∃ cs : List (List Ins), Cs W.heap.size W v cs ∧ cs.length ≤ reachBytes ∧ ∀ c ∈ cs, c.length ≤ reachBytes := by
  haveI : Inhabited Value := ⟨.bool false⟩
  haveI : Inhabited Ins := ⟨blank⟩
  have hb1 : Try.prog.bytesOf 35 = 24 := by kernel_rfl
  have hb2 : Try.prog.bytesOf 23 = 120 := by kernel_rfl
  obtain ⟨fuel, hf⟩ := h
  obtain ⟨v', ao, us, cap, hc, _, hlm, hs, hq⟩ := open_listW (α := Value) (t := 34) (e := 35) (s := 1) (en := cellE) (Q := fun u => ∃ c : List Ins, Sl insE 17 W.heap.size W u c ∧ c.length ≤ reachBytes) (by kernel_rfl) (by kernel_rfl) (by decide) (fun cs n x h _ hw => by
    obtain ⟨u, ao, c, cap, h1, _, h3, h4, _⟩ := open_listW (α := Ins) (t := 35) (e := 23) (s := 17) (en := insE) (Q := fun i => wfI i.imm ∧ wfI i.off) (by kernel_rfl) (by kernel_rfl) (by decide) (fun cs n x h hl _ => open_insL cs n x h hl) h hw
    exact ⟨u, h1, c, h4, by rw [hb2] at h3; omega⟩) hf hwt
  rw [hv] at hc
  obtain rfl : v = v' := by simpa using hc
  obtain ⟨cs, h1, h2⟩ := pick_all us hq
  refine ⟨cs, ⟨us, hs, h1.symm, fun j u c hu hc => (h2 j u c hu hc).1⟩, by rw [hb1] at hlm; omega, fun c hc => ?_⟩
  obtain ⟨j, hj⟩ := List.getElem?_of_mem hc
  have hjl := get_lt hj
  exact (h2 j us[j] c (List.getElem?_eq_getElem (by omega)) hj).2
end
theorem ins_same (i : Ins) : insEq i i = true := decide_eq_true rfl
theorem Cs.form {B : Nat} {w : World} {v : Value} {l : List (List Ins)} (h : Cs B w v l) : ∃ ao cap, v = .slice ao l.length cap := by
  obtain ⟨us, h1, h2, _⟩ := h
  rw [← h2]; exact h1.form
end Go.Proofs.Ytlhompedcphnnaa
/- UirChecks returns true. -/
namespace Go.Proofs.Ytlhompedcphnnaa
open Go.RowKit
set_option linter.unusedSimpArgs false
set_option linter.unusedVariables false
theorem ent21 : ((Try.prog.funcs[21]?).map fun fn => (fn.name == "runtime.NumGoroutine", fn.body.isNone)) = some (false, false) := by kernel_rfl
theorem ent8 : ((Try.prog.funcs[8]?).map fun fn => (fn.name == "runtime.NumGoroutine", fn.body.isNone)) = some (false, false) := by kernel_rfl
set_option maxHeartbeats 4000000 in
set_option maxRecDepth 4000 in
theorem checks_law (cs : List (List Ins)) (v : Value) (w : World) (hCs : Cs w.heap.size w v cs) (hcm : cs.length ≤ 140737488351232) (hcl : ∀ c ∈ cs, c.length ≤ 140737488351232) : Calls Try.prog 4 #[v] w fun e w' => e = .returned (.bool true) ∧ Grow w w' := by
 obtain ⟨us, hus, hul, hin⟩ := id hCs
 have hform := Cs.form hCs
 have b0 : Below w.heap.size w w := Below.refl _ _
 refine enter (n := 139) Try.func4 rfl rfl (Nat.le_of_ble_eq_true rfl) ?_
 intro a1 hA2
 refine wp_seq ?_
 refine wp_region_lit ?_
 refine q_step hA2 rfl (d_assign (wn rfl) (hA2.ev rfl) ?_)
 intro a3 hA4
 refine q_end ?_
 have hA5 : St 139 [(0, v), (2, (.bool false))] a3 := hA4.cut _ (fm_cons (hA4.get 0 _ rfl) (fm_cons (hA4.get 2 _ rfl) fm_nil))
 refine t_norm ?_
 refine wp_seq ?_
 refine wp_seq ?_
 refine wp_region_lit ?_
 refine q_step hA5 rfl (d_call (wn rfl) ent8 (map0) (able_any w) ?_)
 rintro e9 w6 ⟨he8, hG7⟩
 have b10 := below_grow b0 hG7 b0.size
 refine ⟨(.bool true), he8, ?_⟩
 intro a11 hA12
 refine q_step hA12 rfl (d_not (wn rfl) (hA12.ev rfl) ?_)
 intro a13 hA14
 refine q_end ?_
 have hA15 : St 139 [(0, v), (2, (.bool false)), (16, (.bool false))] a13 := hA14.cut _ (fm_cons (hA14.get 0 _ rfl) (fm_cons (hA14.get 2 _ rfl) (fm_cons (hA14.get 16 _ rfl) fm_nil)))
 refine t_norm ?_
 refine c_false hA15 rfl ?_
 refine wp_skip ?_
 refine t_norm ?_
 refine wp_seq ?_
 refine wp_region_lit ?_
 refine q_step hA15 rfl (d_move (wn rfl) (hA15.ev rfl) ?_)
 intro a16 hA17
 refine q_step hA17 rfl (d_len (n := cs.length) (wn rfl) (hA17.ev rfl) slc34 hform ?_)
 intro a18 hA19
 refine q_step hA19 rfl (d_assign (wn rfl) (hA19.ev rfl) ?_)
 intro a20 hA21
 refine q_end ?_
 have hA22 : St 139 [(0, v), (2, (.bool false)), (3, (.int .i64 ((cs.length : Nat) : Int)))] a20 := hA21.cut _ (fm_cons (hA21.get 0 _ rfl) (fm_cons (hA21.get 2 _ rfl) (fm_cons (hA21.get 3 _ rfl) fm_nil)))
 refine t_norm ?_
 refine wp_seq ?_
 refine wp_seq ?_
 refine wp_region_lit ?_
 refine q_step hA22 rfl (d_assign (wn rfl) (hA22.ev rfl) ?_)
 intro a23 hA24
 refine q_end ?_
 have hA25 : St 139 [(0, v), (2, (.bool false)), (3, (.int .i64 ((cs.length : Nat) : Int))), (4, (.int .i64 0))] a23 := hA24.cut _ (fm_cons (hA24.get 0 _ rfl) (fm_cons (hA24.get 2 _ rfl) (fm_cons (hA24.get 3 _ rfl) (fm_cons (hA24.get 4 _ rfl) fm_nil))))
 refine t_norm ?_
 refine wp_block ?_
 refine loop_by (fun m27 a28 w29 => ∃ j26 : Nat, m27 = cs.length - j26 ∧ (j26 ≤ cs.length) ∧ St 139 [(0, v), (3, (.int .i64 ((cs.length + lenN cs j26 : Nat) : Int))), (4, (.int .i64 ((j26 : Nat) : Int)))] a28 ∧ Below w.heap.size w w29) (cs.length - 0) ⟨0, rfl, (by omega), hA25.cut _ (fm_cons (hA25.get 0 _ rfl) (fm_cons ((hA25.get 3 _ rfl).trans (congrArg (Value.int .i64) (by simp [lenN]))) (fm_cons ((hA25.get 4 _ rfl).trans (congrArg (Value.int .i64) (by simp [lenN]))) fm_nil))), b10⟩ ?_
 rintro m27 a28 w29 ⟨j26, hm32, hc33, hA30, b31⟩
 refine wp_seq ?_
 refine wp_seq ?_
 refine wp_region_lit ?_
 refine q_step hA30 rfl (d_move (wn rfl) (hA30.ev rfl) ?_)
 intro a34 hA35
 refine q_step hA35 rfl (d_move (wn rfl) (hA35.ev rfl) ?_)
 intro a36 hA37
 refine q_step hA37 rfl (d_len (n := cs.length) (wn rfl) (hA37.ev rfl) slc34 hform ?_)
 intro a38 hA39
 rcases Bool.eq_false_or_eq_true (decide (((j26 : Nat) : Int) < ((cs.length : Nat) : Int))) with hb40 | hb40
 ·skip
  have hq41 := of_decide_eq_true hb40
  refine q_step hA39 rfl (d_bin (wn rfl) (hA39.ev rfl) (hA39.ev rfl) (b_lt _ _ ((j26 : Nat) : Int) ((cs.length : Nat) : Int) true _ hb40) ?_)
  intro a42 hA43
  refine q_step hA43 rfl (d_move (wn rfl) (hA43.ev rfl) ?_)
  intro a44 hA45
  refine q_step hA45 rfl (d_move (wy rfl rfl (hA45.get 23 _ rfl)) (hA45.ev rfl) ?_)
  intro a46 hA47
  rcases Bool.eq_false_or_eq_true (decide (((cs.length + lenN cs j26 : Nat) : Int) ≤ 2000)) with hb48 | hb48
  ·skip
   have hq49 := of_decide_eq_true hb48
   refine q_step hA47 rfl (d_bin (wy rfl rfl (hA47.get 23 _ rfl)) (hA47.ev rfl) (hA47.ev rfl) (b_le _ _ ((cs.length + lenN cs j26 : Nat) : Int) 2000 true _ hb48) ?_)
   intro a50 hA51
   refine q_step hA51 rfl (d_pickT (wn rfl) (hA51.ev rfl) (hA51.ev rfl) ?_)
   intro a52 hA53
   refine q_end ?_
   have hA54 : St 139 [(0, v), (3, (.int .i64 ((cs.length + lenN cs j26 : Nat) : Int))), (4, (.int .i64 ((j26 : Nat) : Int))), (26, (.bool true))] a52 := hA53.cut _ (fm_cons (hA53.get 0 _ rfl) (fm_cons (hA53.get 3 _ rfl) (fm_cons (hA53.get 4 _ rfl) (fm_cons (hA53.get 26 _ rfl) fm_nil))))
   refine t_norm ?_
   refine c_true hA54 rfl ?_
   refine wp_skip ?_
   refine t_norm ?_
   refine wp_seq ?_
   refine wp_block ?_
   refine wp_region_lit ?_
   refine q_step hA54 rfl (d_move (wn rfl) (hA54.ev rfl) ?_)
   intro a55 hA56
   refine q_step hA56 rfl (d_move (wn rfl) (hA56.ev rfl) ?_)
   intro a57 hA58
   refine q_step hA58 rfl (d_move (wn rfl) (hA58.ev rfl) ?_)
   intro a59 hA60
   obtain ⟨y61, hy62⟩ : ∃ y61, us[j26]? = some y61 := ⟨_, List.getElem?_eq_getElem (show j26 < us.length by omega)⟩
   obtain ⟨b63, o64, lt65, hr66, hix67⟩ := (hus.below b31).at hy62
   obtain ⟨c68, hc69⟩ : ∃ c, cs[j26]? = some c := ⟨_, List.getElem?_eq_getElem (show j26 < cs.length by have := get_lt hy62; omega)⟩
   have hlc68 := len_le hc69
   have hmc68 := hcl c68 (List.mem_of_getElem? hc69)
   have hsl70 := hin j26 y61 c68 hy62 hc69
   refine q_step hA60 rfl (d_indexAt (j := j26) (wn rfl) (hA60.ev rfl) (hA60.ev rfl) slc34 hix67 (get_lt hy62) ?_)
   intro a71 hA72
   refine q_step hA72 rfl (d_load (v := y61) (wn rfl) (hA72.ev rfl) one35 (hr66 0 _ rfl) ?_)
   intro a73 hA74
   refine q_step hA74 rfl (d_len (n := c68.length) (wn rfl) (hA74.ev rfl) slc35 hsl70.form ?_)
   intro a75 hA76
   refine q_step hA76 rfl (d_bin (wn rfl) (hA76.ev rfl) (hA76.ev rfl) (b_add _ _ ((cs.length + lenN cs j26 : Nat) : Int) ((c68.length : Nat) : Int) _ (by omega) (by omega)) ?_)
   intro a77 hA78
   refine q_step hA78 rfl (d_assign (wn rfl) (hA78.ev rfl) ?_)
   intro a79 hA80
   refine q_end ?_
   have hA81 : St 139 [(0, v), (3, (.int .i64 (((cs.length + lenN cs j26 : Nat) : Int) + ((c68.length : Nat) : Int)))), (4, (.int .i64 ((j26 : Nat) : Int)))] a79 := hA80.cut _ (fm_cons (hA80.get 0 _ rfl) (fm_cons (hA80.get 3 _ rfl) (fm_cons (hA80.get 4 _ rfl) fm_nil)))
   refine i_norm ?_
   refine t_norm ?_
   refine wp_region_lit ?_
   refine q_step hA81 rfl (d_move (wn rfl) (hA81.ev rfl) ?_)
   intro a82 hA83
   refine q_step hA83 rfl (d_bin (wn rfl) (hA83.ev rfl) (hA83.ev rfl) (b_add _ _ ((j26 : Nat) : Int) 1 _ (by omega) (by omega)) ?_)
   intro a84 hA85
   refine q_step hA85 rfl (d_assign (wn rfl) (hA85.ev rfl) ?_)
   intro a86 hA87
   refine q_end ?_
   have hA88 : St 139 [(0, v), (3, (.int .i64 (((cs.length + lenN cs j26 : Nat) : Int) + ((c68.length : Nat) : Int)))), (4, (.int .i64 (((j26 : Nat) : Int) + 1)))] a86 := hA87.cut _ (fm_cons (hA87.get 0 _ rfl) (fm_cons (hA87.get 3 _ rfl) (fm_cons (hA87.get 4 _ rfl) fm_nil)))
   refine t_norm ?_
   exact ⟨cs.length - (j26 + 1), (by rw [hm32]; omega), j26 + 1, rfl, (by omega), hA88.cut _ (fm_cons (hA88.get 0 _ rfl) (fm_cons ((hA88.get 3 _ rfl).trans (congrArg (Value.int .i64) (by have := len_at hc69; omega))) (fm_cons ((hA88.get 4 _ rfl).trans (congrArg (Value.int .i64) (by omega))) fm_nil))), b31⟩
  ·skip
   have hq89 := of_decide_eq_false hb48
   refine q_step hA47 rfl (d_bin (wy rfl rfl (hA47.get 23 _ rfl)) (hA47.ev rfl) (hA47.ev rfl) (b_le _ _ ((cs.length + lenN cs j26 : Nat) : Int) 2000 false _ hb48) ?_)
   intro a90 hA91
   refine q_step hA91 rfl (d_pickT (wn rfl) (hA91.ev rfl) (hA91.ev rfl) ?_)
   intro a92 hA93
   refine q_end ?_
   have hA94 : St 139 [(0, v), (3, (.int .i64 ((cs.length + lenN cs j26 : Nat) : Int))), (4, (.int .i64 ((j26 : Nat) : Int))), (26, (.bool false))] a92 := hA93.cut _ (fm_cons (hA93.get 0 _ rfl) (fm_cons (hA93.get 3 _ rfl) (fm_cons (hA93.get 4 _ rfl) (fm_cons (hA93.get 26 _ rfl) fm_nil))))
   refine t_norm ?_
   refine c_false hA94 rfl ?_
   refine wp_exit ?_
   refine t_exit ?_
   refine t_exit ?_
   refine i_here ?_
   refine t_norm ?_
   refine wp_seq ?_
   refine wp_seq ?_
   refine wp_region_lit ?_
   refine q_step hA94 rfl (d_move (wn rfl) (hA94.ev rfl) ?_)
   intro a95 hA96
   refine q_step hA96 rfl (d_bin (wn rfl) (hA96.ev rfl) (hA96.ev rfl) (b_gt _ _ ((cs.length + lenN cs j26 : Nat) : Int) 2000 true _ (decide_eq_true (by omega))) ?_)
   intro a97 hA98
   refine q_end ?_
   have hA99 : St 139 [(0, v), (37, (.bool true))] a97 := hA98.cut _ (fm_cons (hA98.get 0 _ rfl) (fm_cons (hA98.get 37 _ rfl) fm_nil))
   refine t_norm ?_
   refine c_true hA99 rfl ?_
   refine wp_seq ?_
   refine wp_region_lit ?_
   refine q_step hA99 rfl (d_assign (wn rfl) (hA99.ev rfl) ?_)
   intro a100 hA101
   refine q_end ?_
   have hA102 : St 139 [(0, v), (2, (.bool true))] a100 := hA101.cut _ (fm_cons (hA101.get 0 _ rfl) (fm_cons (hA101.get 2 _ rfl) fm_nil))
   refine t_norm ?_
   refine wp_ret ?_
   refine t_ret ?_
   refine ret1 rfl hA102 (v := (.bool true)) rfl ?_
   exact ⟨rfl, b31⟩
 ·skip
  have hq103 := of_decide_eq_false hb40
  refine q_step hA39 rfl (d_bin (wn rfl) (hA39.ev rfl) (hA39.ev rfl) (b_lt _ _ ((j26 : Nat) : Int) ((cs.length : Nat) : Int) false _ hb40) ?_)
  intro a104 hA105
  refine q_step hA105 rfl (d_move (wn rfl) (hA105.ev rfl) ?_)
  intro a106 hA107
  refine q_step hA107 rfl (does_not (wno rfl rfl (.inl (hA107.get 23 _ rfl))) ?_)
  intro a108 hA109
  refine q_step hA109 rfl (does_not (wno rfl rfl (.inl (hA109.get 23 _ rfl))) ?_)
  intro a110 hA111
  refine q_step hA111 rfl (d_pickF (wn rfl) (hA111.ev rfl) (hA111.ev rfl) ?_)
  intro a112 hA113
  refine q_end ?_
  have hA114 : St 139 [(0, v), (3, (.int .i64 ((cs.length + lenN cs j26 : Nat) : Int))), (4, (.int .i64 ((j26 : Nat) : Int))), (26, (.bool false))] a112 := hA113.cut _ (fm_cons (hA113.get 0 _ rfl) (fm_cons (hA113.get 3 _ rfl) (fm_cons (hA113.get 4 _ rfl) (fm_cons (hA113.get 26 _ rfl) fm_nil))))
  refine t_norm ?_
  refine c_false hA114 rfl ?_
  refine wp_exit ?_
  refine t_exit ?_
  refine t_exit ?_
  refine i_here ?_
  refine t_norm ?_
  refine wp_seq ?_
  refine wp_seq ?_
  refine wp_region_lit ?_
  refine q_step hA114 rfl (d_move (wn rfl) (hA114.ev rfl) ?_)
  intro a115 hA116
  rcases Bool.eq_false_or_eq_true (decide (((cs.length + lenN cs j26 : Nat) : Int) > 2000)) with hb117 | hb117
  ·skip
   have hq118 := of_decide_eq_true hb117
   refine q_step hA116 rfl (d_bin (wn rfl) (hA116.ev rfl) (hA116.ev rfl) (b_gt _ _ ((cs.length + lenN cs j26 : Nat) : Int) 2000 true _ hb117) ?_)
   intro a119 hA120
   refine q_end ?_
   have hA121 : St 139 [(0, v), (37, (.bool true))] a119 := hA120.cut _ (fm_cons (hA120.get 0 _ rfl) (fm_cons (hA120.get 37 _ rfl) fm_nil))
   refine t_norm ?_
   refine c_true hA121 rfl ?_
   refine wp_seq ?_
   refine wp_region_lit ?_
   refine q_step hA121 rfl (d_assign (wn rfl) (hA121.ev rfl) ?_)
   intro a122 hA123
   refine q_end ?_
   have hA124 : St 139 [(0, v), (2, (.bool true))] a122 := hA123.cut _ (fm_cons (hA123.get 0 _ rfl) (fm_cons (hA123.get 2 _ rfl) fm_nil))
   refine t_norm ?_
   refine wp_ret ?_
   refine t_ret ?_
   refine ret1 rfl hA124 (v := (.bool true)) rfl ?_
   exact ⟨rfl, b31⟩
  ·skip
   have hq125 := of_decide_eq_false hb117
   refine q_step hA116 rfl (d_bin (wn rfl) (hA116.ev rfl) (hA116.ev rfl) (b_gt _ _ ((cs.length + lenN cs j26 : Nat) : Int) 2000 false _ hb117) ?_)
   intro a126 hA127
   refine q_end ?_
   have hA128 : St 139 [(0, v), (37, (.bool false))] a126 := hA127.cut _ (fm_cons (hA127.get 0 _ rfl) (fm_cons (hA127.get 37 _ rfl) fm_nil))
   refine t_norm ?_
   refine c_false hA128 rfl ?_
   refine wp_skip ?_
   refine t_norm ?_
   refine wp_seq ?_
   refine wp_region_lit ?_
   refine q_step hA128 rfl (d_assign (wn rfl) (hA128.ev rfl) ?_)
   intro a129 hA130
   refine q_end ?_
   have hA131 : St 139 [(0, v), (5, (.slice none 0 0))] a129 := hA130.cut _ (fm_cons (hA130.get 0 _ rfl) (fm_cons (hA130.get 5 _ rfl) fm_nil))
   refine t_norm ?_
   refine wp_seq ?_
   refine wp_seq ?_
   refine wp_region_lit ?_
   refine q_step hA131 rfl (d_assign (wn rfl) (hA131.ev rfl) ?_)
   intro a132 hA133
   refine q_end ?_
   have hA134 : St 139 [(0, v), (5, (.slice none 0 0)), (6, (.int .i64 0))] a132 := hA133.cut _ (fm_cons (hA133.get 0 _ rfl) (fm_cons (hA133.get 5 _ rfl) (fm_cons (hA133.get 6 _ rfl) fm_nil)))
   refine t_norm ?_
   refine wp_block ?_
   have htot := len_all (cs := cs) (j := j26) (by omega)
   refine loop_by (fun m a' w' => ∃ (j : Nat) (v5 : Value), m = cs.length - j ∧ j ≤ cs.length ∧ St 139 [(0, v), (5, v5), (6, (.int .i64 ((j : Nat) : Int)))] a' ∧ Below w.heap.size w w' ∧ Cp w.heap.size w' v5 (cs.take j)) (cs.length - 0) ⟨0, .slice none 0 0, rfl, Nat.zero_le _, hA134.cut _ (fm_cons (hA134.get 0 _ rfl) (fm_cons (hA134.get 5 _ rfl) (fm_cons (hA134.get 6 _ rfl) fm_nil))), b31, (by rw [List.take_zero]; exact Cp.nil _ _)⟩ ?_
   rintro m135 a136 w137 ⟨j138, v139, hm140, hj141, hA142, b143, cp144⟩
   refine wp_seq ?_
   refine wp_seq ?_
   refine wp_region_lit ?_
   refine q_step hA142 rfl (d_move (wn rfl) (hA142.ev rfl) ?_)
   intro a145 hA146
   refine q_step hA146 rfl (d_move (wn rfl) (hA146.ev rfl) ?_)
   intro a147 hA148
   refine q_step hA148 rfl (d_len (n := cs.length) (wn rfl) (hA148.ev rfl) slc34 hform ?_)
   intro a149 hA150
   rcases Bool.eq_false_or_eq_true (decide (((j138 : Nat) : Int) < ((cs.length : Nat) : Int))) with hb151 | hb151
   ·skip
    have hq152 := of_decide_eq_true hb151
    refine q_step hA150 rfl (d_bin (wn rfl) (hA150.ev rfl) (hA150.ev rfl) (b_lt _ _ ((j138 : Nat) : Int) ((cs.length : Nat) : Int) true _ hb151) ?_)
    intro a153 hA154
    refine q_end ?_
    have hA155 : St 139 [(0, v), (5, v139), (6, (.int .i64 ((j138 : Nat) : Int))), (41, (.bool true))] a153 := hA154.cut _ (fm_cons (hA154.get 0 _ rfl) (fm_cons (hA154.get 5 _ rfl) (fm_cons (hA154.get 6 _ rfl) (fm_cons (hA154.get 41 _ rfl) fm_nil))))
    refine t_norm ?_
    refine c_true hA155 rfl ?_
    refine wp_skip ?_
    refine t_norm ?_
    refine wp_seq ?_
    refine wp_block ?_
    refine wp_region_lit ?_
    refine q_step hA155 rfl (d_move (wn rfl) (hA155.ev rfl) ?_)
    intro a156 hA157
    refine q_step hA157 rfl (d_none (wn rfl) elm35 ?_)
    intro g158 w159 eg160 hG161 (m162 : Blk w159 g158 #[] 23)
    have ge163 : w.heap.size ≤ g158 := eg160 ▸ b143.size
    have b164 := below_grow b143 hG161 b143.size
    have cp165 := Cp.grow cp144 hG161
    intro a166 hA167
    refine q_step hA167 rfl (d_move (wn rfl) (hA167.ev rfl) ?_)
    intro a168 hA169
    refine q_step hA169 rfl (d_move (wn rfl) (hA169.ev rfl) ?_)
    intro a170 hA171
    obtain ⟨y172, hy173⟩ : ∃ y172, us[j138]? = some y172 := ⟨_, List.getElem?_eq_getElem (show j138 < us.length by omega)⟩
    obtain ⟨b174, o175, lt176, hr177, hix178⟩ := (hus.below b164).at hy173
    obtain ⟨c179, hc180⟩ : ∃ c, cs[j138]? = some c := ⟨_, List.getElem?_eq_getElem (show j138 < cs.length by have := get_lt hy173; omega)⟩
    have hlc179 := len_le hc180
    have hmc179 := hcl c179 (List.mem_of_getElem? hc180)
    have hsl181 := hin j138 y172 c179 hy173 hc180
    refine q_step hA171 rfl (d_indexAt (j := j138) (wn rfl) (hA171.ev rfl) (hA171.ev rfl) slc34 hix178 (get_lt hy173) ?_)
    intro a182 hA183
    refine q_step hA183 rfl (d_load (v := y172) (wn rfl) (hA183.ev rfl) one35 (hr177 0 _ rfl) ?_)
    intro a184 hA185
    refine q_step hA185 rfl (d_copy (wn rfl) (hA185.ev rfl) m162 (hA185.ev rfl) elm35 (hsl181.below b164) insE_len insE_one (by omega) (by decide) ?_)
    intro v186 w187 hG188 ho189
    obtain ⟨ao190, cap191, rfl⟩ := own_form ho189
    have m192 := m162.grow hG188
    have hr193 := range_below hr177 hG188 (Nat.lt_of_lt_of_le lt176 b164.size)
    have b194 := below_grow b164 hG188 b164.size
    have cp195 := Cp.grow cp165 hG188
    intro a196 hA197
    refine q_step hA197 rfl (d_slice1 (wn rfl) (hA197.ev rfl) elm34 rfl (by decide) ?_)
    intro g198 w199 eg200 hG201 (m202 : Blk w199 g198 #[.slice ao190 c179.length cap191] 35)
    have ge203 : w.heap.size ≤ g198 := eg200 ▸ b194.size
    have n204 : g158 ≠ g198 := fun h => Nat.lt_irrefl _ ((h.trans eg200) ▸ m192.lt)
    have off205 := own_new ho189 eg200
    have m206 := m192.grow hG201
    have hr207 := range_below hr193 hG201 (Nat.lt_of_lt_of_le lt176 b194.size)
    have b208 := below_grow b194 hG201 b194.size
    have ho209 := own_grow hG201 ho189
    have cp210 := Cp.grow cp195 hG201
    intro a211 hA212
    obtain ⟨us213, hown214, hel215⟩ := cp210
    refine q_step hA212 rfl (d_append (wn rfl) (hA212.ev rfl) (hA212.ev rfl) elm34 hown214 m202 rfl rfl (by simp; omega) (by decide) b208.size ?_)
    intro v216 w217 ho218 hg219 hl220
    have b221 := below_by b208 hg219 b208.size (fun k hk => (own_lt hown214 k hk).1)
    have cp222 := Cp.snoc hown214 rfl hel215 ⟨_, ho209⟩ ho218 rfl rfl hg219
    intro a223 hA224
    refine q_step hA224 rfl (d_assign (wn rfl) (hA224.ev rfl) ?_)
    intro a225 hA226
    refine q_end ?_
    have hA227 : St 139 [(0, v), (5, v216), (6, (.int .i64 ((j138 : Nat) : Int)))] a225 := hA226.cut _ (fm_cons (hA226.get 0 _ rfl) (fm_cons (hA226.get 5 _ rfl) (fm_cons (hA226.get 6 _ rfl) fm_nil)))
    refine i_norm ?_
    refine t_norm ?_
    refine wp_region_lit ?_
    refine q_step hA227 rfl (d_move (wn rfl) (hA227.ev rfl) ?_)
    intro a228 hA229
    refine q_step hA229 rfl (d_bin (wn rfl) (hA229.ev rfl) (hA229.ev rfl) (b_add _ _ ((j138 : Nat) : Int) 1 _ (by omega) (by omega)) ?_)
    intro a230 hA231
    refine q_step hA231 rfl (d_assign (wn rfl) (hA231.ev rfl) ?_)
    intro a232 hA233
    refine q_end ?_
    have hA234 : St 139 [(0, v), (5, v216), (6, (.int .i64 (((j138 : Nat) : Int) + 1)))] a232 := hA233.cut _ (fm_cons (hA233.get 0 _ rfl) (fm_cons (hA233.get 5 _ rfl) (fm_cons (hA233.get 6 _ rfl) fm_nil)))
    refine t_norm ?_
    exact ⟨cs.length - (j138 + 1), (by have := get_lt hc180; rw [hm140]; omega), j138 + 1, v216, rfl, (by have := get_lt hc180; omega), hA234.cut _ (fm_cons (hA234.get 0 _ rfl) (fm_cons (hA234.get 5 _ rfl) (fm_cons ((hA234.get 6 _ rfl).trans (congrArg (Value.int .i64) (by omega))) fm_nil))), b221, (by rw [take_snoc hc180]; exact cp222)⟩
   ·skip
    have hq235 := of_decide_eq_false hb151
    refine q_step hA150 rfl (d_bin (wn rfl) (hA150.ev rfl) (hA150.ev rfl) (b_lt _ _ ((j138 : Nat) : Int) ((cs.length : Nat) : Int) false _ hb151) ?_)
    intro a236 hA237
    refine q_end ?_
    have hA238 : St 139 [(0, v), (5, v139), (6, (.int .i64 ((j138 : Nat) : Int))), (41, (.bool false))] a236 := hA237.cut _ (fm_cons (hA237.get 0 _ rfl) (fm_cons (hA237.get 5 _ rfl) (fm_cons (hA237.get 6 _ rfl) (fm_cons (hA237.get 41 _ rfl) fm_nil))))
    refine t_norm ?_
    refine c_false hA238 rfl ?_
    refine wp_exit ?_
    refine t_exit ?_
    refine t_exit ?_
    have cp239 := cp144
    rw [List.take_of_length_le (show cs.length ≤ j138 by omega)] at cp239
    refine i_here ?_
    refine t_norm ?_
    refine wp_seq ?_
    refine wp_region_lit ?_
    refine q_step hA238 rfl (d_move (wn rfl) (hA238.ev rfl) ?_)
    intro a240 hA241
    refine q_step hA241 rfl (d_call (wn rfl) ent20 (map1 (hA241.ev rfl)) (check_any cs v139 w137 (Cp.cs cp239) (by omega) (by omega)) ?_)
    rintro e245 w242 ⟨he244, hG243⟩
    have b246 := below_grow b143 hG243 b143.size
    have cp247 := Cp.grow cp239 hG243
    refine ⟨(.tuple #[(.int .i64 ((checkR cs).1)), (.int .i64 ((checkR cs).2.1)), (.int .i64 ((checkR cs).2.2))]), he244, ?_⟩
    intro a248 hA249
    refine q_step hA249 rfl (d_move (wn rfl) (hA249.ev rfl) ?_)
    intro a250 hA251
    refine q_step hA251 rfl (d_extract (v := (.int .i64 ((checkR cs).1))) (wn rfl) (hA251.ev rfl) rfl ?_)
    intro a252 hA253
    refine q_step hA253 rfl (d_extract (v := (.int .i64 ((checkR cs).2.1))) (wn rfl) (hA253.ev rfl) rfl ?_)
    intro a254 hA255
    refine q_step hA255 rfl (d_extract (v := (.int .i64 ((checkR cs).2.2))) (wn rfl) (hA255.ev rfl) rfl ?_)
    intro a256 hA257
    refine q_step hA257 rfl (d_assign (wn rfl) (hA257.ev rfl) ?_)
    intro a258 hA259
    refine q_step hA259 rfl (d_assign (wn rfl) (hA259.ev rfl) ?_)
    intro a260 hA261
    refine q_step hA261 rfl (d_assign (wn rfl) (hA261.ev rfl) ?_)
    intro a262 hA263
    refine q_end ?_
    have hA264 : St 139 [(0, v), (5, v139), (7, (.int .i64 ((checkR cs).1))), (8, (.int .i64 ((checkR cs).2.1))), (9, (.int .i64 ((checkR cs).2.2)))] a262 := hA263.cut _ (fm_cons (hA263.get 0 _ rfl) (fm_cons (hA263.get 5 _ rfl) (fm_cons (hA263.get 7 _ rfl) (fm_cons (hA263.get 8 _ rfl) (fm_cons (hA263.get 9 _ rfl) fm_nil)))))
    refine t_norm ?_
    refine wp_seq ?_
    refine wp_region_lit ?_
    refine q_step hA264 rfl (d_move (wn rfl) (hA264.ev rfl) ?_)
    intro a265 hA266
    refine q_step hA266 rfl (d_call (wn rfl) ent21 (map1 (hA266.ev rfl)) (rcheck_any cs v w242 ((hCs.below b246).mono b246.size) (by omega) (by omega)) ?_)
    rintro e270 w267 ⟨he269, hG268⟩
    have b271 := below_grow b246 hG268 b246.size
    have cp272 := Cp.grow cp247 hG268
    refine ⟨(.tuple #[(.int .i64 ((checkR cs).1)), (.int .i64 ((checkR cs).2.1)), (.int .i64 ((checkR cs).2.2))]), he269, ?_⟩
    intro a273 hA274
    refine q_step hA274 rfl (d_move (wn rfl) (hA274.ev rfl) ?_)
    intro a275 hA276
    refine q_step hA276 rfl (d_extract (v := (.int .i64 ((checkR cs).1))) (wn rfl) (hA276.ev rfl) rfl ?_)
    intro a277 hA278
    refine q_step hA278 rfl (d_extract (v := (.int .i64 ((checkR cs).2.1))) (wn rfl) (hA278.ev rfl) rfl ?_)
    intro a279 hA280
    refine q_step hA280 rfl (d_extract (v := (.int .i64 ((checkR cs).2.2))) (wn rfl) (hA280.ev rfl) rfl ?_)
    intro a281 hA282
    refine q_step hA282 rfl (d_assign (wn rfl) (hA282.ev rfl) ?_)
    intro a283 hA284
    refine q_step hA284 rfl (d_assign (wn rfl) (hA284.ev rfl) ?_)
    intro a285 hA286
    refine q_step hA286 rfl (d_assign (wn rfl) (hA286.ev rfl) ?_)
    intro a287 hA288
    refine q_end ?_
    have hA289 : St 139 [(0, v), (5, v139), (7, (.int .i64 ((checkR cs).1))), (8, (.int .i64 ((checkR cs).2.1))), (9, (.int .i64 ((checkR cs).2.2))), (10, (.int .i64 ((checkR cs).1))), (11, (.int .i64 ((checkR cs).2.1))), (12, (.int .i64 ((checkR cs).2.2)))] a287 := hA288.cut _ (fm_cons (hA288.get 0 _ rfl) (fm_cons (hA288.get 5 _ rfl) (fm_cons (hA288.get 7 _ rfl) (fm_cons (hA288.get 8 _ rfl) (fm_cons (hA288.get 9 _ rfl) (fm_cons (hA288.get 10 _ rfl) (fm_cons (hA288.get 11 _ rfl) (fm_cons (hA288.get 12 _ rfl) fm_nil))))))))
    refine t_norm ?_
    refine wp_seq ?_
    refine wp_seq ?_
    refine wp_region_lit ?_
    refine q_step hA289 rfl (d_move (wn rfl) (hA289.ev rfl) ?_)
    intro a290 hA291
    refine q_step hA291 rfl (d_move (wn rfl) (hA291.ev rfl) ?_)
    intro a292 hA293
    refine q_step hA293 rfl (d_bin (wn rfl) (hA293.ev rfl) (hA293.ev rfl) (b_ne _ _ ((checkR cs).1) ((checkR cs).1) false _ (notof (beq_self_eq_true _))) ?_)
    intro a294 hA295
    refine q_step hA295 rfl (d_move (wn rfl) (hA295.ev rfl) ?_)
    intro a296 hA297
    refine q_step hA297 rfl (d_move (wy rfl rfl (hA297.get 68 _ rfl)) (hA297.ev rfl) ?_)
    intro a298 hA299
    refine q_step hA299 rfl (d_move (wy rfl rfl (hA299.get 68 _ rfl)) (hA299.ev rfl) ?_)
    intro a300 hA301
    refine q_step hA301 rfl (d_bin (wy rfl rfl (hA301.get 68 _ rfl)) (hA301.ev rfl) (hA301.ev rfl) (b_ne _ _ ((checkR cs).2.1) ((checkR cs).2.1) false _ (notof (beq_self_eq_true _))) ?_)
    intro a302 hA303
    refine q_step hA303 rfl (d_pickF (wn rfl) (hA303.ev rfl) (hA303.ev rfl) ?_)
    intro a304 hA305
    refine q_step hA305 rfl (d_move (wn rfl) (hA305.ev rfl) ?_)
    intro a306 hA307
    refine q_step hA307 rfl (d_move (wy rfl rfl (hA307.get 73 _ rfl)) (hA307.ev rfl) ?_)
    intro a308 hA309
    refine q_step hA309 rfl (d_move (wy rfl rfl (hA309.get 73 _ rfl)) (hA309.ev rfl) ?_)
    intro a310 hA311
    refine q_step hA311 rfl (d_bin (wy rfl rfl (hA311.get 73 _ rfl)) (hA311.ev rfl) (hA311.ev rfl) (b_ne _ _ ((checkR cs).2.2) ((checkR cs).2.2) false _ (notof (beq_self_eq_true _))) ?_)
    intro a312 hA313
    refine q_step hA313 rfl (d_pickF (wn rfl) (hA313.ev rfl) (hA313.ev rfl) ?_)
    intro a314 hA315
    refine q_step hA315 rfl (d_move (wn rfl) (hA315.ev rfl) ?_)
    intro a316 hA317
    refine q_step hA317 rfl (d_move (wy rfl rfl (hA317.get 78 _ rfl)) (hA317.ev rfl) ?_)
    intro a318 hA319
    refine q_step hA319 rfl (d_len (n := cs.length) (wy rfl rfl (hA319.get 78 _ rfl)) (hA319.ev rfl) slc34 (Cp.form cp272) ?_)
    intro a320 hA321
    refine q_step hA321 rfl (d_move (wy rfl rfl (hA321.get 78 _ rfl)) (hA321.ev rfl) ?_)
    intro a322 hA323
    refine q_step hA323 rfl (d_len (n := cs.length) (wy rfl rfl (hA323.get 78 _ rfl)) (hA323.ev rfl) slc34 hform ?_)
    intro a324 hA325
    refine q_step hA325 rfl (d_bin (wy rfl rfl (hA325.get 78 _ rfl)) (hA325.ev rfl) (hA325.ev rfl) (b_ne _ _ ((cs.length : Nat) : Int) ((cs.length : Nat) : Int) false _ (notof (beq_self_eq_true _))) ?_)
    intro a326 hA327
    refine q_step hA327 rfl (d_pickF (wn rfl) (hA327.ev rfl) (hA327.ev rfl) ?_)
    intro a328 hA329
    refine q_end ?_
    have hA330 : St 139 [(0, v), (5, v139), (84, (.bool false))] a328 := hA329.cut _ (fm_cons (hA329.get 0 _ rfl) (fm_cons (hA329.get 5 _ rfl) (fm_cons (hA329.get 84 _ rfl) fm_nil)))
    refine t_norm ?_
    refine c_false hA330 rfl ?_
    refine wp_skip ?_
    refine t_norm ?_
    refine wp_seq ?_
    refine wp_seq ?_
    refine wp_region_lit ?_
    refine q_step hA330 rfl (d_assign (wn rfl) (hA330.ev rfl) ?_)
    intro a331 hA332
    refine q_end ?_
    have hA333 : St 139 [(0, v), (5, v139), (13, (.int .i64 0))] a331 := hA332.cut _ (fm_cons (hA332.get 0 _ rfl) (fm_cons (hA332.get 5 _ rfl) (fm_cons (hA332.get 13 _ rfl) fm_nil)))
    refine t_norm ?_
    refine wp_block ?_
    have hC2 := (hCs.below b271).mono b271.size
    obtain ⟨us2, hus2, hul2, hin2⟩ := id hC2
    have hf5 := Cp.form cp272
    obtain ⟨us3, hus3, hul3, hin3⟩ := Cp.cs cp272
    have b334 : Below w267.heap.size w267 w267 := Below.refl _ _
    refine loop_by (fun m336 a337 w338 => ∃ j335 : Nat, m336 = cs.length - j335 ∧ (j335 ≤ cs.length) ∧ St 139 [(0, v), (5, v139), (13, (.int .i64 ((j335 : Nat) : Int)))] a337 ∧ Below w267.heap.size w267 w338) (cs.length - 0) ⟨0, rfl, (by omega), hA333.cut _ (fm_cons (hA333.get 0 _ rfl) (fm_cons (hA333.get 5 _ rfl) (fm_cons ((hA333.get 13 _ rfl).trans (congrArg (Value.int .i64) (by omega))) fm_nil))), b334⟩ ?_
    rintro m336 a337 w338 ⟨j335, hm341, hc342, hA339, b340⟩
    refine wp_seq ?_
    refine wp_seq ?_
    refine wp_region_lit ?_
    refine q_step hA339 rfl (d_move (wn rfl) (hA339.ev rfl) ?_)
    intro a343 hA344
    refine q_step hA344 rfl (d_move (wn rfl) (hA344.ev rfl) ?_)
    intro a345 hA346
    refine q_step hA346 rfl (d_len (n := cs.length) (wn rfl) (hA346.ev rfl) slc34 hform ?_)
    intro a347 hA348
    rcases Bool.eq_false_or_eq_true (decide (((j335 : Nat) : Int) < ((cs.length : Nat) : Int))) with hb349 | hb349
    ·skip
     have hq350 := of_decide_eq_true hb349
     refine q_step hA348 rfl (d_bin (wn rfl) (hA348.ev rfl) (hA348.ev rfl) (b_lt _ _ ((j335 : Nat) : Int) ((cs.length : Nat) : Int) true _ hb349) ?_)
     intro a351 hA352
     refine q_end ?_
     have hA353 : St 139 [(0, v), (5, v139), (13, (.int .i64 ((j335 : Nat) : Int))), (88, (.bool true))] a351 := hA352.cut _ (fm_cons (hA352.get 0 _ rfl) (fm_cons (hA352.get 5 _ rfl) (fm_cons (hA352.get 13 _ rfl) (fm_cons (hA352.get 88 _ rfl) fm_nil))))
     refine t_norm ?_
     refine c_true hA353 rfl ?_
     refine wp_skip ?_
     refine t_norm ?_
     refine wp_seq ?_
     refine wp_block ?_
     refine wp_seq ?_
     refine wp_seq ?_
     obtain ⟨y354, hy355⟩ : ∃ y354, us3[j335]? = some y354 := ⟨_, List.getElem?_eq_getElem (show j335 < us3.length by omega)⟩
     obtain ⟨b356, o357, lt358, hr359, hix360⟩ := (hus3.below b340).at hy355
     obtain ⟨c361, hc362⟩ : ∃ c, cs[j335]? = some c := ⟨_, List.getElem?_eq_getElem (show j335 < cs.length by have := get_lt hy355; omega)⟩
     have hlc361 := len_le hc362
     have hmc361 := hcl c361 (List.mem_of_getElem? hc362)
     have hsl363 := hin3 j335 y354 c361 hy355 hc362
     obtain ⟨y364, hy365⟩ : ∃ y364, us2[j335]? = some y364 := ⟨_, List.getElem?_eq_getElem (show j335 < us2.length by omega)⟩
     obtain ⟨b366, o367, lt368, hr369, hix370⟩ := (hus2.below b340).at hy365
     have hsl371 := hin2 j335 y364 c361 hy365 hc362
     have hA372 : St 139 [(0, v), (5, v139), (13, (.int .i64 ((j335 : Nat) : Int)))] a351 := hA353.cut _ (fm_cons (hA353.get 0 _ rfl) (fm_cons (hA353.get 5 _ rfl) (fm_cons (hA353.get 13 _ rfl) fm_nil)))
     let M373 : Nat → Option (Array Value) := fun _ => none
     have hM373 : M373 = fun _ => none := rfl
     clear_value M373
     have hM373B : ∀ k, k < w267.heap.size → M373 k = none := (fun k hk => (congrFun hM373 k))
     refine drawn (S := SM M373) (tabL [cv v139, cv (.int .i64 ((j335 : Nat) : Int)), cv (.pointer (some ⟨b356, o357, none⟩)), cv y354, cv (.int .i64 ((opsN c361 : Nat) : Int)), cv v, cv (.int .i64 ((j335 : Nat) : Int)), cv (.pointer (some ⟨b366, o367, none⟩)), cv y364, cv (.int .i64 ((opsN c361 : Nat) : Int)), cv (.bool false), cv (.bool false), cv v139, cv (.int .i64 ((j335 : Nat) : Int)), cv (.pointer (some ⟨b356, o357, none⟩)), cv y354, cv (.int .i64 ((brN c361 : Nat) : Int)), cv v, cv (.int .i64 ((j335 : Nat) : Int)), cv (.pointer (some ⟨b366, o367, none⟩)), cv y364, cv (.int .i64 ((brN c361 : Nat) : Int)), cv (.bool false), cv (.bool false)]) mixedY SM.refl SM.trans SM.drew hA372 (by kernel_rfl) ?_ ?_
     ·skip
      have bD374 := below_grow b340 ((Grow.refl w338).drew) b340.size
      refine each_cons (fun x y hS hT hk => d_move (wn rfl) (hT.ev rfl) ⟨SM.refl _, rfl⟩) ?_
      refine each_cons (fun x y hS hT hk => d_move (wn rfl) (hT.ev rfl) ⟨SM.refl _, rfl⟩) ?_
      refine each_cons (fun x y hS hT hk => d_indexAt (j := j335) (wn rfl) (hk 0 rfl) (hk 1 rfl) slc34 hix360 (get_lt hy355) ⟨SM.refl _, rfl⟩) ?_
      refine each_cons (fun x y hS hT hk => d_load (v := y354) (wn rfl) (hk 2 rfl) one35 ((range_sm (w := w338.drew) hr359 hS (Nat.lt_of_lt_of_le lt358 b340.size) (hM373B _ lt358)) 0 _ rfl) ⟨SM.refl _, rfl⟩) ?_
      refine each_cons (fun x y hS hT hk => d_call (wn rfl) ent22 (map1 (show x.eval _ = y354 from (hk 3 rfl))) (ops_any c361 y354 y ((hsl363.below (hS.below bD374 b340.size hM373B)).mono (Nat.le_trans b340.size hS.size)) (by omega)) (fun _ _ ⟨he, hG⟩ => ⟨(.int .i64 ((opsN c361 : Nat) : Int)), he, SM.grow hG, rfl⟩)) ?_
      refine each_cons (fun x y hS hT hk => d_move (wn rfl) (hT.ev rfl) ⟨SM.refl _, rfl⟩) ?_
      refine each_cons (fun x y hS hT hk => d_move (wn rfl) (hT.ev rfl) ⟨SM.refl _, rfl⟩) ?_
      refine each_cons (fun x y hS hT hk => d_indexAt (j := j335) (wn rfl) (hk 5 rfl) (hk 6 rfl) slc34 hix370 (get_lt hy365) ⟨SM.refl _, rfl⟩) ?_
      refine each_cons (fun x y hS hT hk => d_load (v := y364) (wn rfl) (hk 7 rfl) one35 ((range_sm (w := w338.drew) hr369 hS (Nat.lt_of_lt_of_le lt368 b340.size) (hM373B _ lt368)) 0 _ rfl) ⟨SM.refl _, rfl⟩) ?_
      refine each_cons (fun x y hS hT hk => d_call (wn rfl) ent23 (map1 (show x.eval _ = y364 from (hk 8 rfl))) (rops_any c361 y364 y ((hsl371.below (hS.below bD374 b340.size hM373B)).mono (Nat.le_trans b340.size hS.size)) (by omega)) (fun _ _ ⟨he, hG⟩ => ⟨(.int .i64 ((opsN c361 : Nat) : Int)), he, SM.grow hG, rfl⟩)) ?_
      refine each_cons (fun x y hS hT hk => d_bin (wn rfl) (hk 4 rfl) (hk 9 rfl) (b_ne _ _ ((opsN c361 : Nat) : Int) ((opsN c361 : Nat) : Int) false _ (notof (beq_self_eq_true _))) ⟨SM.refl _, rfl⟩) ?_
      refine each_cons (fun x y hS hT hk => d_move (wn rfl) (hk 10 rfl) ⟨SM.refl _, rfl⟩) ?_
      refine each_cons (fun x y hS hT hk => d_move (wy rfl rfl (hk 11 rfl)) (hT.ev rfl) ⟨SM.refl _, rfl⟩) ?_
      refine each_cons (fun x y hS hT hk => d_move (wy rfl rfl (hk 11 rfl)) (hT.ev rfl) ⟨SM.refl _, rfl⟩) ?_
      refine each_cons (fun x y hS hT hk => d_indexAt (j := j335) (wy rfl rfl (hk 11 rfl)) (hk 12 rfl) (hk 13 rfl) slc34 hix360 (get_lt hy355) ⟨SM.refl _, rfl⟩) ?_
      refine each_cons (fun x y hS hT hk => d_load (v := y354) (wy rfl rfl (hk 11 rfl)) (hk 14 rfl) one35 ((range_sm (w := w338.drew) hr359 hS (Nat.lt_of_lt_of_le lt358 b340.size) (hM373B _ lt358)) 0 _ rfl) ⟨SM.refl _, rfl⟩) ?_
      refine each_cons (fun x y hS hT hk => d_call (wy rfl rfl (hk 11 rfl)) ent24 (map1 (show x.eval _ = y354 from (hk 15 rfl))) (branches_any c361 y354 y ((hsl363.below (hS.below bD374 b340.size hM373B)).mono (Nat.le_trans b340.size hS.size)) (by omega)) (fun _ _ ⟨he, hG⟩ => ⟨(.int .i64 ((brN c361 : Nat) : Int)), he, SM.grow hG, rfl⟩)) ?_
      refine each_cons (fun x y hS hT hk => d_move (wy rfl rfl (hk 11 rfl)) (hT.ev rfl) ⟨SM.refl _, rfl⟩) ?_
      refine each_cons (fun x y hS hT hk => d_move (wy rfl rfl (hk 11 rfl)) (hT.ev rfl) ⟨SM.refl _, rfl⟩) ?_
      refine each_cons (fun x y hS hT hk => d_indexAt (j := j335) (wy rfl rfl (hk 11 rfl)) (hk 17 rfl) (hk 18 rfl) slc34 hix370 (get_lt hy365) ⟨SM.refl _, rfl⟩) ?_
      refine each_cons (fun x y hS hT hk => d_load (v := y364) (wy rfl rfl (hk 11 rfl)) (hk 19 rfl) one35 ((range_sm (w := w338.drew) hr369 hS (Nat.lt_of_lt_of_le lt368 b340.size) (hM373B _ lt368)) 0 _ rfl) ⟨SM.refl _, rfl⟩) ?_
      refine each_cons (fun x y hS hT hk => d_call (wy rfl rfl (hk 11 rfl)) ent25 (map1 (show x.eval _ = y364 from (hk 20 rfl))) (rbranches_any c361 y364 y ((hsl371.below (hS.below bD374 b340.size hM373B)).mono (Nat.le_trans b340.size hS.size)) (by omega)) (fun _ _ ⟨he, hG⟩ => ⟨(.int .i64 ((brN c361 : Nat) : Int)), he, SM.grow hG, rfl⟩)) ?_
      refine each_cons (fun x y hS hT hk => d_bin (wy rfl rfl (hk 11 rfl)) (hk 16 rfl) (hk 21 rfl) (b_ne _ _ ((brN c361 : Nat) : Int) ((brN c361 : Nat) : Int) false _ (notof (beq_self_eq_true _))) ⟨SM.refl _, rfl⟩) ?_
      refine each_cons (fun x y hS hT hk => d_pickF (wn rfl) (hk 11 rfl) (hk 22 rfl) ⟨SM.refl _, rfl⟩) ?_
      exact each_nil
     intro f375 a376 w377 hS378 hC379 hA380
     have hA381 : St 139 [(0, v), (5, v139), (13, (.int .i64 ((j335 : Nat) : Int))), (114, (.bool false))] a376 := hA380.cut _ (fm_cons (hA380.get 0 _ rfl) (fm_cons (hA380.get 5 _ rfl) (fm_cons (hA380.get 13 _ rfl) (fm_cons ((hA380.get 114 _ rfl).trans (hC379 23 (Nat.le_of_ble_eq_true rfl))) fm_nil))))
     have b382 := hS378.below b340 b340.size hM373B
     have hr383 := range_sm hr359 hS378 (Nat.lt_of_lt_of_le lt358 b340.size) (hM373B _ lt358)
     have hr384 := range_sm hr369 hS378 (Nat.lt_of_lt_of_le lt368 b340.size) (hM373B _ lt368)
     refine t_norm ?_
     refine c_false hA381 rfl ?_
     refine wp_skip ?_
     refine t_norm ?_
     refine wp_seq ?_
     refine wp_region_lit ?_
     refine q_step hA381 rfl (d_assign (wn rfl) (hA381.ev rfl) ?_)
     intro a385 hA386
     refine q_end ?_
     have hA387 : St 139 [(0, v), (5, v139), (13, (.int .i64 ((j335 : Nat) : Int))), (14, (.int .i64 0))] a385 := hA386.cut _ (fm_cons (hA386.get 0 _ rfl) (fm_cons (hA386.get 5 _ rfl) (fm_cons (hA386.get 13 _ rfl) (fm_cons (hA386.get 14 _ rfl) fm_nil))))
     refine t_norm ?_
     refine wp_block ?_
     refine loop_by (fun m389 a390 w391 => ∃ k388 : Nat, m389 = c361.length - k388 ∧ (k388 ≤ c361.length) ∧ St 139 [(0, v), (5, v139), (13, (.int .i64 ((j335 : Nat) : Int))), (14, (.int .i64 ((k388 : Nat) : Int)))] a390 ∧ Below w267.heap.size w267 w391) (c361.length - 0) ⟨0, rfl, (by omega), hA387.cut _ (fm_cons (hA387.get 0 _ rfl) (fm_cons (hA387.get 5 _ rfl) (fm_cons (hA387.get 13 _ rfl) (fm_cons ((hA387.get 14 _ rfl).trans (congrArg (Value.int .i64) (by omega))) fm_nil)))), b382⟩ ?_
     rintro m389 a390 w391 ⟨k388, hm394, hc395, hA392, b393⟩
     refine wp_seq ?_
     refine wp_seq ?_
     refine wp_region_lit ?_
     refine q_step hA392 rfl (d_move (wn rfl) (hA392.ev rfl) ?_)
     intro a396 hA397
     refine q_step hA397 rfl (d_move (wn rfl) (hA397.ev rfl) ?_)
     intro a398 hA399
     refine q_step hA399 rfl (d_move (wn rfl) (hA399.ev rfl) ?_)
     intro a400 hA401
     obtain ⟨b402, o403, lt404, hr405, hix406⟩ := (hus2.below b393).at hy365
     refine q_step hA401 rfl (d_indexAt (j := j335) (wn rfl) (hA401.ev rfl) (hA401.ev rfl) slc34 hix406 (get_lt hy365) ?_)
     intro a407 hA408
     refine q_step hA408 rfl (d_load (v := y364) (wn rfl) (hA408.ev rfl) one35 (hr405 0 _ rfl) ?_)
     intro a409 hA410
     refine q_step hA410 rfl (d_len (n := c361.length) (wn rfl) (hA410.ev rfl) slc35 hsl371.form ?_)
     intro a411 hA412
     rcases Bool.eq_false_or_eq_true (decide (((k388 : Nat) : Int) < ((c361.length : Nat) : Int))) with hb413 | hb413
     ·skip
      have hq414 := of_decide_eq_true hb413
      refine q_step hA412 rfl (d_bin (wn rfl) (hA412.ev rfl) (hA412.ev rfl) (b_lt _ _ ((k388 : Nat) : Int) ((c361.length : Nat) : Int) true _ hb413) ?_)
      intro a415 hA416
      refine q_end ?_
      have hA417 : St 139 [(0, v), (5, v139), (13, (.int .i64 ((j335 : Nat) : Int))), (14, (.int .i64 ((k388 : Nat) : Int))), (121, (.bool true))] a415 := hA416.cut _ (fm_cons (hA416.get 0 _ rfl) (fm_cons (hA416.get 5 _ rfl) (fm_cons (hA416.get 13 _ rfl) (fm_cons (hA416.get 14 _ rfl) (fm_cons (hA416.get 121 _ rfl) fm_nil)))))
      refine t_norm ?_
      refine c_true hA417 rfl ?_
      refine wp_skip ?_
      refine t_norm ?_
      refine wp_seq ?_
      refine wp_block ?_
      refine wp_seq ?_
      obtain ⟨b418, o419, lt420, hr421, hix422⟩ := (hus3.below b393).at hy355
      obtain ⟨y423, hy424⟩ : ∃ y423, c361[k388]? = some y423 := ⟨_, List.getElem?_eq_getElem (show k388 < c361.length by omega)⟩
      obtain ⟨b425, o426, lt427, hr428, hix429⟩ := (hsl363.below b393).at hy424
      obtain ⟨b430, o431, lt432, hr433, hix434⟩ := (hus2.below b393).at hy365
      obtain ⟨b435, o436, lt437, hr438, hix439⟩ := (hsl371.below b393).at hy424
      have hA440 : St 139 [(0, v), (5, v139), (13, (.int .i64 ((j335 : Nat) : Int))), (14, (.int .i64 ((k388 : Nat) : Int)))] a415 := hA417.cut _ (fm_cons (hA417.get 0 _ rfl) (fm_cons (hA417.get 5 _ rfl) (fm_cons (hA417.get 13 _ rfl) (fm_cons (hA417.get 14 _ rfl) fm_nil))))
      let M441 : Nat → Option (Array Value) := fun _ => none
      have hM441 : M441 = fun _ => none := rfl
      clear_value M441
      have hM441B : ∀ k, k < w267.heap.size → M441 k = none := (fun k hk => (congrFun hM441 k))
      refine drawn (S := SM M441) (tabL [cv v139, cv (.int .i64 ((j335 : Nat) : Int)), cv (.pointer (some ⟨b418, o419, none⟩)), cv y354, cv (.int .i64 ((k388 : Nat) : Int)), cv (.pointer (some ⟨b425, o426, none⟩)), cv (.agg (insC y423)), cv v, cv (.int .i64 ((j335 : Nat) : Int)), cv (.pointer (some ⟨b430, o431, none⟩)), cv y364, cv (.int .i64 ((k388 : Nat) : Int)), cv (.pointer (some ⟨b435, o436, none⟩)), cv (.agg (insC y423)), cv (.bool false)]) mixedY SM.refl SM.trans SM.drew hA440 (by kernel_rfl) ?_ ?_
      ·skip
       have bD442 := below_grow b393 ((Grow.refl w391).drew) b393.size
       refine each_cons (fun x y hS hT hk => d_move (wn rfl) (hT.ev rfl) ⟨SM.refl _, rfl⟩) ?_
       refine each_cons (fun x y hS hT hk => d_move (wn rfl) (hT.ev rfl) ⟨SM.refl _, rfl⟩) ?_
       refine each_cons (fun x y hS hT hk => d_indexAt (j := j335) (wn rfl) (hk 0 rfl) (hk 1 rfl) slc34 hix422 (get_lt hy355) ⟨SM.refl _, rfl⟩) ?_
       refine each_cons (fun x y hS hT hk => d_load (v := y354) (wn rfl) (hk 2 rfl) one35 ((range_sm (w := w391.drew) hr421 hS (Nat.lt_of_lt_of_le lt420 b393.size) (hM441B _ lt420)) 0 _ rfl) ⟨SM.refl _, rfl⟩) ?_
       refine each_cons (fun x y hS hT hk => d_move (wn rfl) (hT.ev rfl) ⟨SM.refl _, rfl⟩) ?_
       refine each_cons (fun x y hS hT hk => d_indexAt (j := k388) (wn rfl) (hk 3 rfl) (hk 4 rfl) slc35 hix429 (get_lt hy424) ⟨SM.refl _, rfl⟩) ?_
       refine each_cons (fun x y hS hT hk => d_loadMid (cs := (insC y423)) (wn rfl) (hk 5 rfl) row23 (range_sm (w := w391.drew) hr428 hS (Nat.lt_of_lt_of_le lt427 b393.size) (hM441B _ lt427)) ⟨SM.refl _, rfl⟩) ?_
       refine each_cons (fun x y hS hT hk => d_move (wn rfl) (hT.ev rfl) ⟨SM.refl _, rfl⟩) ?_
       refine each_cons (fun x y hS hT hk => d_move (wn rfl) (hT.ev rfl) ⟨SM.refl _, rfl⟩) ?_
       refine each_cons (fun x y hS hT hk => d_indexAt (j := j335) (wn rfl) (hk 7 rfl) (hk 8 rfl) slc34 hix434 (get_lt hy365) ⟨SM.refl _, rfl⟩) ?_
       refine each_cons (fun x y hS hT hk => d_load (v := y364) (wn rfl) (hk 9 rfl) one35 ((range_sm (w := w391.drew) hr433 hS (Nat.lt_of_lt_of_le lt432 b393.size) (hM441B _ lt432)) 0 _ rfl) ⟨SM.refl _, rfl⟩) ?_
       refine each_cons (fun x y hS hT hk => d_move (wn rfl) (hT.ev rfl) ⟨SM.refl _, rfl⟩) ?_
       refine each_cons (fun x y hS hT hk => d_indexAt (j := k388) (wn rfl) (hk 10 rfl) (hk 11 rfl) slc35 hix439 (get_lt hy424) ⟨SM.refl _, rfl⟩) ?_
       refine each_cons (fun x y hS hT hk => d_loadMid (cs := (insC y423)) (wn rfl) (hk 12 rfl) row23 (range_sm (w := w391.drew) hr438 hS (Nat.lt_of_lt_of_le lt437 b393.size) (hM441B _ lt437)) ⟨SM.refl _, rfl⟩) ?_
       refine each_cons (fun x y hS hT hk => d_bin (u := .agg (insC y423)) (v := .agg (insC y423)) (wn rfl) (hk 6 rfl) (hk 13 rfl) (ne_ins y423 y423 _ _ _ false (notof (ins_same y423))) ⟨SM.refl _, rfl⟩) ?_
       exact each_nil
      intro f443 a444 w445 hS446 hC447 hA448
      have hA449 : St 139 [(0, v), (5, v139), (13, (.int .i64 ((j335 : Nat) : Int))), (14, (.int .i64 ((k388 : Nat) : Int))), (138, (.bool false))] a444 := hA448.cut _ (fm_cons (hA448.get 0 _ rfl) (fm_cons (hA448.get 5 _ rfl) (fm_cons (hA448.get 13 _ rfl) (fm_cons (hA448.get 14 _ rfl) (fm_cons ((hA448.get 138 _ rfl).trans (hC447 14 (Nat.le_of_ble_eq_true rfl))) fm_nil)))))
      have b450 := hS446.below b393 b393.size hM441B
      have hr451 := range_sm hr421 hS446 (Nat.lt_of_lt_of_le lt420 b393.size) (hM441B _ lt420)
      have hr452 := range_sm hr428 hS446 (Nat.lt_of_lt_of_le lt427 b393.size) (hM441B _ lt427)
      have hr453 := range_sm hr433 hS446 (Nat.lt_of_lt_of_le lt432 b393.size) (hM441B _ lt432)
      have hr454 := range_sm hr438 hS446 (Nat.lt_of_lt_of_le lt437 b393.size) (hM441B _ lt437)
      refine t_norm ?_
      refine c_false hA449 rfl ?_
      refine wp_skip ?_
      refine i_norm ?_
      refine t_norm ?_
      refine wp_region_lit ?_
      refine q_step hA449 rfl (d_move (wn rfl) (hA449.ev rfl) ?_)
      intro a455 hA456
      refine q_step hA456 rfl (d_bin (wn rfl) (hA456.ev rfl) (hA456.ev rfl) (b_add _ _ ((k388 : Nat) : Int) 1 _ (by omega) (by omega)) ?_)
      intro a457 hA458
      refine q_step hA458 rfl (d_assign (wn rfl) (hA458.ev rfl) ?_)
      intro a459 hA460
      refine q_end ?_
      have hA461 : St 139 [(0, v), (5, v139), (13, (.int .i64 ((j335 : Nat) : Int))), (14, (.int .i64 (((k388 : Nat) : Int) + 1)))] a459 := hA460.cut _ (fm_cons (hA460.get 0 _ rfl) (fm_cons (hA460.get 5 _ rfl) (fm_cons (hA460.get 13 _ rfl) (fm_cons (hA460.get 14 _ rfl) fm_nil))))
      refine t_norm ?_
      exact ⟨c361.length - (k388 + 1), (by rw [hm394]; omega), k388 + 1, rfl, (by omega), hA461.cut _ (fm_cons (hA461.get 0 _ rfl) (fm_cons (hA461.get 5 _ rfl) (fm_cons (hA461.get 13 _ rfl) (fm_cons ((hA461.get 14 _ rfl).trans (congrArg (Value.int .i64) (by omega))) fm_nil)))), b450⟩
     ·skip
      have hq462 := of_decide_eq_false hb413
      refine q_step hA412 rfl (d_bin (wn rfl) (hA412.ev rfl) (hA412.ev rfl) (b_lt _ _ ((k388 : Nat) : Int) ((c361.length : Nat) : Int) false _ hb413) ?_)
      intro a463 hA464
      refine q_end ?_
      have hA465 : St 139 [(0, v), (5, v139), (13, (.int .i64 ((j335 : Nat) : Int))), (14, (.int .i64 ((k388 : Nat) : Int))), (121, (.bool false))] a463 := hA464.cut _ (fm_cons (hA464.get 0 _ rfl) (fm_cons (hA464.get 5 _ rfl) (fm_cons (hA464.get 13 _ rfl) (fm_cons (hA464.get 14 _ rfl) (fm_cons (hA464.get 121 _ rfl) fm_nil)))))
      refine t_norm ?_
      refine c_false hA465 rfl ?_
      refine wp_exit ?_
      refine t_exit ?_
      refine t_exit ?_
      refine i_here ?_
      refine i_norm ?_
      refine t_norm ?_
      refine wp_region_lit ?_
      refine q_step hA465 rfl (d_move (wn rfl) (hA465.ev rfl) ?_)
      intro a466 hA467
      refine q_step hA467 rfl (d_bin (wn rfl) (hA467.ev rfl) (hA467.ev rfl) (b_add _ _ ((j335 : Nat) : Int) 1 _ (by omega) (by omega)) ?_)
      intro a468 hA469
      refine q_step hA469 rfl (d_assign (wn rfl) (hA469.ev rfl) ?_)
      intro a470 hA471
      refine q_end ?_
      have hA472 : St 139 [(0, v), (5, v139), (13, (.int .i64 (((j335 : Nat) : Int) + 1)))] a470 := hA471.cut _ (fm_cons (hA471.get 0 _ rfl) (fm_cons (hA471.get 5 _ rfl) (fm_cons (hA471.get 13 _ rfl) fm_nil)))
      refine t_norm ?_
      exact ⟨cs.length - (j335 + 1), (by rw [hm341]; omega), j335 + 1, rfl, (by omega), hA472.cut _ (fm_cons (hA472.get 0 _ rfl) (fm_cons (hA472.get 5 _ rfl) (fm_cons ((hA472.get 13 _ rfl).trans (congrArg (Value.int .i64) (by omega))) fm_nil))), b393⟩
    ·skip
     have hq473 := of_decide_eq_false hb349
     refine q_step hA348 rfl (d_bin (wn rfl) (hA348.ev rfl) (hA348.ev rfl) (b_lt _ _ ((j335 : Nat) : Int) ((cs.length : Nat) : Int) false _ hb349) ?_)
     intro a474 hA475
     refine q_end ?_
     have hA476 : St 139 [(0, v), (5, v139), (13, (.int .i64 ((j335 : Nat) : Int))), (88, (.bool false))] a474 := hA475.cut _ (fm_cons (hA475.get 0 _ rfl) (fm_cons (hA475.get 5 _ rfl) (fm_cons (hA475.get 13 _ rfl) (fm_cons (hA475.get 88 _ rfl) fm_nil))))
     refine t_norm ?_
     refine c_false hA476 rfl ?_
     refine wp_exit ?_
     refine t_exit ?_
     refine t_exit ?_
     refine i_here ?_
     refine t_norm ?_
     refine wp_seq ?_
     refine wp_region_lit ?_
     refine q_step hA476 rfl (d_assign (wn rfl) (hA476.ev rfl) ?_)
     intro a477 hA478
     refine q_end ?_
     have hA479 : St 139 [(2, (.bool true))] a477 := hA478.cut _ (fm_cons (hA478.get 2 _ rfl) fm_nil)
     refine t_norm ?_
     refine wp_ret ?_
     refine ret1 rfl hA479 (v := (.bool true)) rfl ?_
     exact ⟨rfl, Grow.trans b271 b340⟩
end Go.Proofs.Ytlhompedcphnnaa
