/- Contracts of functions on single instructions. -/
import Derived.Test.YtlhompedcphnnaaUirRightP7
namespace Go.Proofs.Ytlhompedcphnnaa
open Go.RowKit
set_option linter.unusedSimpArgs false
set_option linter.unusedVariables false
set_option maxHeartbeats 4000000 in
set_option maxRecDepth 4000 in
theorem rgives_any (i : Ins) (w : World) : Calls Try.prog 19 #[.agg (insC i)] w fun e w' => e = .returned (.int .i64 (givesF i)) ∧ Grow w w' := by
 have b0 : Below w.heap.size w w := Below.refl _ _
 refine enter (n := 13) Try.func19 rfl rfl (Nat.le_of_ble_eq_true rfl) ?_
 intro a1 hA2
 refine wp_seq ?_
 refine wp_region_lit ?_
 refine q_step hA2 rfl (d_box (wn rfl) (hA2.ev rfl) ?_)
 intro g3 w4 eg5 hG6 (m7 : Blk w4 g3 (insC i) 23)
 have ge8 : w.heap.size ≤ g3 := eg5 ▸ b0.size
 have b9 := below_grow b0 hG6 b0.size
 intro a10 hA11
 refine q_step hA11 rfl (d_assign (wn rfl) (hA11.ev rfl) ?_)
 intro a12 hA13
 refine q_end ?_
 have hA14 : St 13 [(1, (.pointer (some ⟨g3, 0, none⟩))), (2, (.int .i64 0))] a12 := hA13.cut _ (fm_cons (hA13.get 1 _ rfl) (fm_cons (hA13.get 2 _ rfl) fm_nil))
 refine t_norm ?_
 refine wp_seq ?_
 refine wp_seq ?_
 refine wp_region_lit ?_
 refine q_step hA14 rfl (d_fieldAddr (wn rfl) (hA14.ev rfl) fo23_0 ?_)
 intro a15 hA16
 refine q_step hA16 rfl (d_load (v := (.int .i64 i.op)) (wn rfl) (hA16.ev rfl) one3 (m7.cell rfl) ?_)
 intro a17 hA18
 refine q_end ?_
 have hA19 : St 13 [(1, (.pointer (some ⟨g3, 0, none⟩))), (2, (.int .i64 0)), (4, (.int .i64 i.op))] a17 := hA18.cut _ (fm_cons (hA18.get 1 _ rfl) (fm_cons (hA18.get 2 _ rfl) (fm_cons (hA18.get 4 _ rfl) fm_nil)))
 refine t_norm ?_
 refine wp_block ?_
 refine wp_seq ?_
 refine wp_seq ?_
 refine wp_region_lit ?_
 rcases Bool.eq_false_or_eq_true (i.op == 1) with hb20 | hb20
 ·skip
  have hq21 := eq_of_beq hb20
  refine q_step hA19 rfl (d_bin (wn rfl) (hA19.ev rfl) (hA19.ev rfl) (b_eq _ _ i.op 1 true _ hb20) ?_)
  intro a22 hA23
  refine q_step hA23 rfl (d_assign (wn rfl) (hA23.ev rfl) ?_)
  intro a24 hA25
  refine q_end ?_
  have hA26 : St 13 [(1, (.pointer (some ⟨g3, 0, none⟩))), (2, (.int .i64 0)), (4, (.int .i64 i.op)), (5, (.bool true))] a24 := hA25.cut _ (fm_cons (hA25.get 1 _ rfl) (fm_cons (hA25.get 2 _ rfl) (fm_cons (hA25.get 4 _ rfl) (fm_cons (hA25.get 5 _ rfl) fm_nil))))
  refine t_norm ?_
  refine c_true hA26 rfl ?_
  refine wp_skip ?_
  refine t_norm ?_
  refine c_true hA26 rfl ?_
  refine wp_seq ?_
  refine wp_region_lit ?_
  refine q_step hA26 rfl (d_fieldAddr (wn rfl) (hA26.ev rfl) fo23_1 ?_)
  intro a27 hA28
  refine q_step hA28 rfl (d_load (v := (.int .i64 i.dst)) (wn rfl) (hA28.ev rfl) one3 (m7.cell rfl) ?_)
  intro a29 hA30
  refine q_step hA30 rfl (d_assign (wn rfl) (hA30.ev rfl) ?_)
  intro a31 hA32
  refine q_end ?_
  have hA33 : St 13 [(2, (.int .i64 i.dst))] a31 := hA32.cut _ (fm_cons (hA32.get 2 _ rfl) fm_nil)
  refine t_norm ?_
  refine wp_ret ?_
  refine i_ret ?_
  refine t_ret ?_
  refine ret1 rfl hA33 (v := (.int .i64 i.dst)) rfl ?_
  exact ⟨ret_int (by simp [givesF, plainF, eq_of_beq hb20]), b9⟩
 ·skip
  have hq34 := ne_of_beq hb20
  refine q_step hA19 rfl (d_bin (wn rfl) (hA19.ev rfl) (hA19.ev rfl) (b_eq _ _ i.op 1 false _ hb20) ?_)
  intro a35 hA36
  refine q_step hA36 rfl (d_assign (wn rfl) (hA36.ev rfl) ?_)
  intro a37 hA38
  refine q_end ?_
  have hA39 : St 13 [(1, (.pointer (some ⟨g3, 0, none⟩))), (2, (.int .i64 0)), (4, (.int .i64 i.op)), (5, (.bool false))] a37 := hA38.cut _ (fm_cons (hA38.get 1 _ rfl) (fm_cons (hA38.get 2 _ rfl) (fm_cons (hA38.get 4 _ rfl) (fm_cons (hA38.get 5 _ rfl) fm_nil))))
  refine t_norm ?_
  refine c_false hA39 rfl ?_
  refine wp_seq ?_
  refine wp_region_lit ?_
  rcases Bool.eq_false_or_eq_true (i.op == 2) with hb40 | hb40
  ·skip
   have hq41 := eq_of_beq hb40
   refine q_step hA39 rfl (d_bin (wn rfl) (hA39.ev rfl) (hA39.ev rfl) (b_eq _ _ i.op 2 true _ hb40) ?_)
   intro a42 hA43
   refine q_step hA43 rfl (d_assign (wn rfl) (hA43.ev rfl) ?_)
   intro a44 hA45
   refine q_end ?_
   have hA46 : St 13 [(1, (.pointer (some ⟨g3, 0, none⟩))), (2, (.int .i64 0)), (4, (.int .i64 i.op)), (5, (.bool true))] a44 := hA45.cut _ (fm_cons (hA45.get 1 _ rfl) (fm_cons (hA45.get 2 _ rfl) (fm_cons (hA45.get 4 _ rfl) (fm_cons (hA45.get 5 _ rfl) fm_nil))))
   refine t_norm ?_
   refine c_true hA46 rfl ?_
   refine wp_skip ?_
   refine t_norm ?_
   refine c_true hA46 rfl ?_
   refine wp_seq ?_
   refine wp_region_lit ?_
   refine q_step hA46 rfl (d_fieldAddr (wn rfl) (hA46.ev rfl) fo23_1 ?_)
   intro a47 hA48
   refine q_step hA48 rfl (d_load (v := (.int .i64 i.dst)) (wn rfl) (hA48.ev rfl) one3 (m7.cell rfl) ?_)
   intro a49 hA50
   refine q_step hA50 rfl (d_assign (wn rfl) (hA50.ev rfl) ?_)
   intro a51 hA52
   refine q_end ?_
   have hA53 : St 13 [(2, (.int .i64 i.dst))] a51 := hA52.cut _ (fm_cons (hA52.get 2 _ rfl) fm_nil)
   refine t_norm ?_
   refine wp_ret ?_
   refine i_ret ?_
   refine t_ret ?_
   refine ret1 rfl hA53 (v := (.int .i64 i.dst)) rfl ?_
   exact ⟨ret_int (by simp [givesF, plainF, hb20, eq_of_beq hb40]), b9⟩
  ·skip
   have hq54 := ne_of_beq hb40
   refine q_step hA39 rfl (d_bin (wn rfl) (hA39.ev rfl) (hA39.ev rfl) (b_eq _ _ i.op 2 false _ hb40) ?_)
   intro a55 hA56
   refine q_step hA56 rfl (d_assign (wn rfl) (hA56.ev rfl) ?_)
   intro a57 hA58
   refine q_end ?_
   have hA59 : St 13 [(1, (.pointer (some ⟨g3, 0, none⟩))), (2, (.int .i64 0)), (4, (.int .i64 i.op)), (5, (.bool false))] a57 := hA58.cut _ (fm_cons (hA58.get 1 _ rfl) (fm_cons (hA58.get 2 _ rfl) (fm_cons (hA58.get 4 _ rfl) (fm_cons (hA58.get 5 _ rfl) fm_nil))))
   refine t_norm ?_
   refine c_false hA59 rfl ?_
   refine wp_seq ?_
   refine wp_region_lit ?_
   rcases Bool.eq_false_or_eq_true (i.op == 3) with hb60 | hb60
   ·skip
    have hq61 := eq_of_beq hb60
    refine q_step hA59 rfl (d_bin (wn rfl) (hA59.ev rfl) (hA59.ev rfl) (b_eq _ _ i.op 3 true _ hb60) ?_)
    intro a62 hA63
    refine q_step hA63 rfl (d_assign (wn rfl) (hA63.ev rfl) ?_)
    intro a64 hA65
    refine q_end ?_
    have hA66 : St 13 [(1, (.pointer (some ⟨g3, 0, none⟩))), (2, (.int .i64 0)), (4, (.int .i64 i.op)), (5, (.bool true))] a64 := hA65.cut _ (fm_cons (hA65.get 1 _ rfl) (fm_cons (hA65.get 2 _ rfl) (fm_cons (hA65.get 4 _ rfl) (fm_cons (hA65.get 5 _ rfl) fm_nil))))
    refine t_norm ?_
    refine c_true hA66 rfl ?_
    refine wp_skip ?_
    refine t_norm ?_
    refine c_true hA66 rfl ?_
    refine wp_seq ?_
    refine wp_region_lit ?_
    refine q_step hA66 rfl (d_fieldAddr (wn rfl) (hA66.ev rfl) fo23_1 ?_)
    intro a67 hA68
    refine q_step hA68 rfl (d_load (v := (.int .i64 i.dst)) (wn rfl) (hA68.ev rfl) one3 (m7.cell rfl) ?_)
    intro a69 hA70
    refine q_step hA70 rfl (d_assign (wn rfl) (hA70.ev rfl) ?_)
    intro a71 hA72
    refine q_end ?_
    have hA73 : St 13 [(2, (.int .i64 i.dst))] a71 := hA72.cut _ (fm_cons (hA72.get 2 _ rfl) fm_nil)
    refine t_norm ?_
    refine wp_ret ?_
    refine i_ret ?_
    refine t_ret ?_
    refine ret1 rfl hA73 (v := (.int .i64 i.dst)) rfl ?_
    exact ⟨ret_int (by simp [givesF, plainF, hb20, hb40, eq_of_beq hb60]), b9⟩
   ·skip
    have hq74 := ne_of_beq hb60
    refine q_step hA59 rfl (d_bin (wn rfl) (hA59.ev rfl) (hA59.ev rfl) (b_eq _ _ i.op 3 false _ hb60) ?_)
    intro a75 hA76
    refine q_step hA76 rfl (d_assign (wn rfl) (hA76.ev rfl) ?_)
    intro a77 hA78
    refine q_end ?_
    have hA79 : St 13 [(1, (.pointer (some ⟨g3, 0, none⟩))), (2, (.int .i64 0)), (4, (.int .i64 i.op)), (5, (.bool false))] a77 := hA78.cut _ (fm_cons (hA78.get 1 _ rfl) (fm_cons (hA78.get 2 _ rfl) (fm_cons (hA78.get 4 _ rfl) (fm_cons (hA78.get 5 _ rfl) fm_nil))))
    refine t_norm ?_
    refine c_false hA79 rfl ?_
    refine wp_seq ?_
    refine wp_region_lit ?_
    rcases Bool.eq_false_or_eq_true (i.op == 4) with hb80 | hb80
    ·skip
     have hq81 := eq_of_beq hb80
     refine q_step hA79 rfl (d_bin (wn rfl) (hA79.ev rfl) (hA79.ev rfl) (b_eq _ _ i.op 4 true _ hb80) ?_)
     intro a82 hA83
     refine q_step hA83 rfl (d_assign (wn rfl) (hA83.ev rfl) ?_)
     intro a84 hA85
     refine q_end ?_
     have hA86 : St 13 [(1, (.pointer (some ⟨g3, 0, none⟩))), (2, (.int .i64 0)), (4, (.int .i64 i.op)), (5, (.bool true))] a84 := hA85.cut _ (fm_cons (hA85.get 1 _ rfl) (fm_cons (hA85.get 2 _ rfl) (fm_cons (hA85.get 4 _ rfl) (fm_cons (hA85.get 5 _ rfl) fm_nil))))
     refine t_norm ?_
     refine c_true hA86 rfl ?_
     refine wp_skip ?_
     refine t_norm ?_
     refine c_true hA86 rfl ?_
     refine wp_seq ?_
     refine wp_region_lit ?_
     refine q_step hA86 rfl (d_fieldAddr (wn rfl) (hA86.ev rfl) fo23_1 ?_)
     intro a87 hA88
     refine q_step hA88 rfl (d_load (v := (.int .i64 i.dst)) (wn rfl) (hA88.ev rfl) one3 (m7.cell rfl) ?_)
     intro a89 hA90
     refine q_step hA90 rfl (d_assign (wn rfl) (hA90.ev rfl) ?_)
     intro a91 hA92
     refine q_end ?_
     have hA93 : St 13 [(2, (.int .i64 i.dst))] a91 := hA92.cut _ (fm_cons (hA92.get 2 _ rfl) fm_nil)
     refine t_norm ?_
     refine wp_ret ?_
     refine i_ret ?_
     refine t_ret ?_
     refine ret1 rfl hA93 (v := (.int .i64 i.dst)) rfl ?_
     exact ⟨ret_int (by simp [givesF, plainF, hb20, hb40, hb60, eq_of_beq hb80]), b9⟩
    ·skip
     have hq94 := ne_of_beq hb80
     refine q_step hA79 rfl (d_bin (wn rfl) (hA79.ev rfl) (hA79.ev rfl) (b_eq _ _ i.op 4 false _ hb80) ?_)
     intro a95 hA96
     refine q_step hA96 rfl (d_assign (wn rfl) (hA96.ev rfl) ?_)
     intro a97 hA98
     refine q_end ?_
     have hA99 : St 13 [(1, (.pointer (some ⟨g3, 0, none⟩))), (2, (.int .i64 0)), (4, (.int .i64 i.op)), (5, (.bool false))] a97 := hA98.cut _ (fm_cons (hA98.get 1 _ rfl) (fm_cons (hA98.get 2 _ rfl) (fm_cons (hA98.get 4 _ rfl) (fm_cons (hA98.get 5 _ rfl) fm_nil))))
     refine t_norm ?_
     refine c_false hA99 rfl ?_
     refine wp_region_lit ?_
     rcases Bool.eq_false_or_eq_true (i.op == 6) with hb100 | hb100
     ·skip
      have hq101 := eq_of_beq hb100
      refine q_step hA99 rfl (d_bin (wn rfl) (hA99.ev rfl) (hA99.ev rfl) (b_eq _ _ i.op 6 true _ hb100) ?_)
      intro a102 hA103
      refine q_step hA103 rfl (d_assign (wn rfl) (hA103.ev rfl) ?_)
      intro a104 hA105
      refine q_end ?_
      have hA106 : St 13 [(1, (.pointer (some ⟨g3, 0, none⟩))), (2, (.int .i64 0)), (5, (.bool true))] a104 := hA105.cut _ (fm_cons (hA105.get 1 _ rfl) (fm_cons (hA105.get 2 _ rfl) (fm_cons (hA105.get 5 _ rfl) fm_nil)))
      refine t_norm ?_
      refine c_true hA106 rfl ?_
      refine wp_seq ?_
      refine wp_region_lit ?_
      refine q_step hA106 rfl (d_fieldAddr (wn rfl) (hA106.ev rfl) fo23_1 ?_)
      intro a107 hA108
      refine q_step hA108 rfl (d_load (v := (.int .i64 i.dst)) (wn rfl) (hA108.ev rfl) one3 (m7.cell rfl) ?_)
      intro a109 hA110
      refine q_step hA110 rfl (d_assign (wn rfl) (hA110.ev rfl) ?_)
      intro a111 hA112
      refine q_end ?_
      have hA113 : St 13 [(2, (.int .i64 i.dst))] a111 := hA112.cut _ (fm_cons (hA112.get 2 _ rfl) fm_nil)
      refine t_norm ?_
      refine wp_ret ?_
      refine i_ret ?_
      refine t_ret ?_
      refine ret1 rfl hA113 (v := (.int .i64 i.dst)) rfl ?_
      exact ⟨ret_int (by simp [givesF, plainF, hb20, hb40, hb60, hb80, eq_of_beq hb100]), b9⟩
     ·skip
      have hq114 := ne_of_beq hb100
      refine q_step hA99 rfl (d_bin (wn rfl) (hA99.ev rfl) (hA99.ev rfl) (b_eq _ _ i.op 6 false _ hb100) ?_)
      intro a115 hA116
      refine q_step hA116 rfl (d_assign (wn rfl) (hA116.ev rfl) ?_)
      intro a117 hA118
      refine q_end ?_
      have hA119 : St 13 [(1, (.pointer (some ⟨g3, 0, none⟩))), (2, (.int .i64 0)), (5, (.bool false))] a117 := hA118.cut _ (fm_cons (hA118.get 1 _ rfl) (fm_cons (hA118.get 2 _ rfl) (fm_cons (hA118.get 5 _ rfl) fm_nil)))
      refine t_norm ?_
      refine c_false hA119 rfl ?_
      refine wp_skip ?_
      refine i_norm ?_
      refine t_norm ?_
      refine wp_seq ?_
      refine wp_region_lit ?_
      refine q_step hA119 rfl (d_assign (wn rfl) (hA119.ev rfl) ?_)
      intro a120 hA121
      refine q_end ?_
      have hA122 : St 13 [(2, (.int .i64 (-1)))] a120 := hA121.cut _ (fm_cons (hA121.get 2 _ rfl) fm_nil)
      refine t_norm ?_
      refine wp_ret ?_
      refine ret1 rfl hA122 (v := (.int .i64 (-1))) rfl ?_
      exact ⟨ret_int (by simp [givesF, plainF, hb20, hb40, hb60, hb80, hb100]), b9⟩
set_option maxHeartbeats 4000000 in
set_option maxRecDepth 4000 in
theorem rright_any (i : Ins) (p q : Int) (w : World) : Calls Try.prog 10 #[.agg (insC i), .int .i64 p, .int .i64 q] w fun e w' => e = .returned (.int .i64 (rightR i p q)) ∧ Grow w w' := by
 have b0 : Below w.heap.size w w := Below.refl _ _
 refine enter (n := 36) Try.func10 rfl rfl (Nat.le_of_ble_eq_true rfl) ?_
 intro a1 hA2
 refine wp_seq ?_
 refine wp_region_lit ?_
 refine q_step hA2 rfl (d_box (wn rfl) (hA2.ev rfl) ?_)
 intro g3 w4 eg5 hG6 (m7 : Blk w4 g3 (insC i) 23)
 have ge8 : w.heap.size ≤ g3 := eg5 ▸ b0.size
 have b9 := below_grow b0 hG6 b0.size
 intro a10 hA11
 refine q_step hA11 rfl (d_assign (wn rfl) (hA11.ev rfl) ?_)
 intro a12 hA13
 refine q_end ?_
 have hA14 : St 36 [(1, (.int .i64 p)), (2, (.int .i64 q)), (3, (.pointer (some ⟨g3, 0, none⟩))), (6, (.int .i64 0))] a12 := hA13.cut _ (fm_cons (hA13.get 1 _ rfl) (fm_cons (hA13.get 2 _ rfl) (fm_cons (hA13.get 3 _ rfl) (fm_cons (hA13.get 6 _ rfl) fm_nil))))
 refine t_norm ?_
 refine wp_seq ?_
 refine wp_region_lit ?_
 refine q_step hA14 rfl (d_loadRow (cs := (insC i)) (wn rfl) (hA14.ev rfl) row23 m7 ?_)
 intro a15 hA16
 refine q_step hA16 rfl (d_call (wn rfl) ent31 (map1 (hA16.ev rfl)) (bare_any i w4) ?_)
 rintro e20 w17 ⟨he19, hG18⟩
 have m21 := m7.grow hG18
 have b22 := below_grow b9 hG18 b9.size
 refine ⟨(.tuple #[(.agg (insC (bareF i))), (.bool (fineB i))]), he19, ?_⟩
 intro a23 hA24
 refine q_step hA24 rfl (d_move (wn rfl) (hA24.ev rfl) ?_)
 intro a25 hA26
 refine q_step hA26 rfl (d_extract (v := (.agg (insC (bareF i)))) (wn rfl) (hA26.ev rfl) rfl ?_)
 intro a27 hA28
 refine q_step hA28 rfl (d_extract (v := (.bool (fineB i))) (wn rfl) (hA28.ev rfl) rfl ?_)
 intro a29 hA30
 refine q_step hA30 rfl (d_alloc (wn rfl) zero23 ?_)
 intro g31 w32 eg33 hG34 (m35 : Blk w32 g31 #[.int .i64 0, .int .i64 0, .int .i64 0, .int .i64 0, .int .i64 0, .int .i64 0, .int .i64 0, .int .i64 0, .int .i64 0, .int .i64 0, .bool false, .bool false, .bool false, .int .i64 0, .int .i64 0, .int .i64 0, .bool false] 23)
 have ge36 : w.heap.size ≤ g31 := eg33 ▸ b22.size
 have n37 : g3 ≠ g31 := fun h => Nat.lt_irrefl _ ((h.trans eg33) ▸ m21.lt)
 have m38 := m21.grow hG34
 have b39 := below_grow b22 hG34 b22.size
 intro a40 hA41
 refine q_step hA41 rfl (d_storeRow (wn rfl) (hA41.ev rfl) (hA41.ev rfl) row23 m35 rfl rfl ?_)
 intro w42 hU43 (m44 : Blk w42 g31 (insC (bareF i)) 23)
 have m45 := m38.upd hU43 n37
 have b46 := hU43.below b39 ge36
 intro a47 hA48
 refine q_step hA48 rfl (d_assign (wn rfl) (hA48.ev rfl) ?_)
 intro a49 hA50
 refine q_end ?_
 have hA51 : St 36 [(1, (.int .i64 p)), (2, (.int .i64 q)), (3, (.pointer (some ⟨g3, 0, none⟩))), (6, (.int .i64 0)), (7, (.pointer (some ⟨g31, 0, none⟩))), (8, (.bool (fineB i)))] a49 := hA50.cut _ (fm_cons (hA50.get 1 _ rfl) (fm_cons (hA50.get 2 _ rfl) (fm_cons (hA50.get 3 _ rfl) (fm_cons (hA50.get 6 _ rfl) (fm_cons (hA50.get 7 _ rfl) (fm_cons (hA50.get 8 _ rfl) fm_nil))))))
 refine t_norm ?_
 refine wp_seq ?_
 refine wp_seq ?_
 refine wp_region_lit ?_
 refine q_step hA51 rfl (d_move (wn rfl) (hA51.ev rfl) ?_)
 intro a52 hA53
 rcases Bool.eq_false_or_eq_true (fineB i) with hb54 | hb54
 ·skip
  have hA56 : St 36 [(1, (.int .i64 p)), (2, (.int .i64 q)), (3, (.pointer (some ⟨g3, 0, none⟩))), (6, (.int .i64 0)), (7, (.pointer (some ⟨g31, 0, none⟩))), (8, (.bool (fineB i))), (14, (.bool true))] a52 := hA53.cut _ (fm_cons (hA53.get 1 _ rfl) (fm_cons (hA53.get 2 _ rfl) (fm_cons (hA53.get 3 _ rfl) (fm_cons (hA53.get 6 _ rfl) (fm_cons (hA53.get 7 _ rfl) (fm_cons (hA53.get 8 _ rfl) (fm_cons ((hA53.get 14 _ rfl).trans (congrArg Value.bool hb54)) fm_nil)))))))
  refine q_step hA56 rfl (d_not (wn rfl) (hA56.ev rfl) ?_)
  intro a57 hA58
  refine q_step hA58 rfl (d_move (wn rfl) (hA58.ev rfl) ?_)
  intro a59 hA60
  refine q_step hA60 rfl (d_loadRow (cs := (insC (bareF i))) (wy rfl rfl (hA60.get 16 _ rfl)) (hA60.ev rfl) row23 m44 ?_)
  intro a61 hA62
  refine q_step hA62 rfl (d_build (cs := #[.int .i64 0, .int .i64 (-1), .int .i64 (-1), .int .i64 (-1), .int .i64 0, .int .i64 0, .int .i64 0, .int .i64 (-1), .int .i64 0, .int .i64 0, .bool false, .bool false, .bool false, .int .i64 0, .int .i64 0, .int .i64 0, .bool false]) (wy rfl rfl (hA62.get 16 _ rfl)) (bp_of (bq_cons (hA62.ev rfl) (bq_cons (hA62.ev rfl) (bq_cons (hA62.ev rfl) (bq_cons (hA62.ev rfl) bq_nil))))) zero23 places23 (by kernel_rfl) ?_)
  intro a63 hA64
  rcases Bool.eq_false_or_eq_true (insEq (bareF i) blank) with hb65 | hb65
  ·skip
   refine q_step hA64 rfl (d_bin (u := .agg (insC (bareF i))) (v := .agg (insC blank)) (wy rfl rfl (hA64.get 16 _ rfl)) (hA64.ev rfl) (hA64.ev rfl) (ne_ins (bareF i) blank _ _ _ false (notof hb65)) ?_)
   intro a67 hA68
   refine q_step hA68 rfl (d_pickF (wn rfl) (hA68.ev rfl) (hA68.ev rfl) ?_)
   intro a69 hA70
   refine q_end ?_
   have hA71 : St 36 [(1, (.int .i64 p)), (2, (.int .i64 q)), (3, (.pointer (some ⟨g3, 0, none⟩))), (6, (.int .i64 0)), (20, (.bool false))] a69 := hA70.cut _ (fm_cons (hA70.get 1 _ rfl) (fm_cons (hA70.get 2 _ rfl) (fm_cons (hA70.get 3 _ rfl) (fm_cons (hA70.get 6 _ rfl) (fm_cons (hA70.get 20 _ rfl) fm_nil)))))
   refine t_norm ?_
   refine c_false hA71 rfl ?_
   refine wp_skip ?_
   refine t_norm ?_
   refine wp_seq ?_
   refine wp_seq ?_
   refine wp_region_lit ?_
   refine q_step hA71 rfl (d_fieldAddr (wn rfl) (hA71.ev rfl) fo23_0 ?_)
   intro a72 hA73
   refine q_step hA73 rfl (d_load (v := (.int .i64 i.op)) (wn rfl) (hA73.ev rfl) one3 (m45.cell rfl) ?_)
   intro a74 hA75
   rcases Bool.eq_false_or_eq_true (i.op == 9) with hb76 | hb76
   ·skip
    have hq77 := eq_of_beq hb76
    refine q_step hA75 rfl (d_bin (wn rfl) (hA75.ev rfl) (hA75.ev rfl) (b_eq _ _ i.op 9 true _ hb76) ?_)
    intro a78 hA79
    refine q_step hA79 rfl (d_move (wn rfl) (hA79.ev rfl) ?_)
    intro a80 hA81
    refine q_step hA81 rfl (d_fieldAddr (wy rfl rfl (hA81.get 24 _ rfl)) (hA81.ev rfl) fo23_15 ?_)
    intro a82 hA83
    refine q_step hA83 rfl (d_load (v := (.int .i64 i.to)) (wy rfl rfl (hA83.get 24 _ rfl)) (hA83.ev rfl) one3 (m45.cell rfl) ?_)
    intro a84 hA85
    refine q_step hA85 rfl (d_move (wy rfl rfl (hA85.get 24 _ rfl)) (hA85.ev rfl) ?_)
    intro a86 hA87
    rcases Bool.eq_false_or_eq_true (decide (i.to ≤ p)) with hb88 | hb88
    ·skip
     have hq89 := of_decide_eq_true hb88
     refine q_step hA87 rfl (d_bin (wy rfl rfl (hA87.get 24 _ rfl)) (hA87.ev rfl) (hA87.ev rfl) (b_le _ _ i.to p true _ hb88) ?_)
     intro a90 hA91
     refine q_step hA91 rfl (d_move (wy rfl rfl (hA91.get 24 _ rfl)) (hA91.ev rfl) ?_)
     intro a92 hA93
     refine q_step hA93 rfl (does_not (wno rfl rfl (.inl (hA93.get 29 _ rfl))) ?_)
     intro a94 hA95
     refine q_step hA95 rfl (does_not (wno rfl rfl (.inl (hA95.get 29 _ rfl))) ?_)
     intro a96 hA97
     refine q_step hA97 rfl (does_not (wno rfl rfl (.inl (hA97.get 29 _ rfl))) ?_)
     intro a98 hA99
     refine q_step hA99 rfl (does_not (wno rfl rfl (.inl (hA99.get 29 _ rfl))) ?_)
     intro a100 hA101
     refine q_step hA101 rfl (d_pickT (wy rfl rfl (hA101.get 24 _ rfl)) (hA101.ev rfl) (hA101.ev rfl) ?_)
     intro a102 hA103
     refine q_step hA103 rfl (d_pickT (wn rfl) (hA103.ev rfl) (hA103.ev rfl) ?_)
     intro a104 hA105
     refine q_end ?_
     have hA106 : St 36 [(6, (.int .i64 0)), (35, (.bool true))] a104 := hA105.cut _ (fm_cons (hA105.get 6 _ rfl) (fm_cons (hA105.get 35 _ rfl) fm_nil))
     refine t_norm ?_
     refine c_true hA106 rfl ?_
     refine wp_seq ?_
     refine wp_region_lit ?_
     refine q_step hA106 rfl (d_assign (wn rfl) (hA106.ev rfl) ?_)
     intro a107 hA108
     refine q_end ?_
     have hA109 : St 36 [(6, (.int .i64 35))] a107 := hA108.cut _ (fm_cons (hA108.get 6 _ rfl) fm_nil)
     refine t_norm ?_
     refine wp_ret ?_
     refine t_ret ?_
     refine ret1 rfl hA109 (v := (.int .i64 35)) rfl ?_
     exact ⟨ret_int (by simp [rightR, ← right_same, hb54, hb65, eq_of_beq hb76, hb88]), b46⟩
    ·skip
     have hq110 := of_decide_eq_false hb88
     refine q_step hA87 rfl (d_bin (wy rfl rfl (hA87.get 24 _ rfl)) (hA87.ev rfl) (hA87.ev rfl) (b_le _ _ i.to p false _ hb88) ?_)
     intro a111 hA112
     refine q_step hA112 rfl (d_move (wy rfl rfl (hA112.get 24 _ rfl)) (hA112.ev rfl) ?_)
     intro a113 hA114
     refine q_step hA114 rfl (d_fieldAddr (wy rfl rfl (hA114.get 29 _ rfl)) (hA114.ev rfl) fo23_15 ?_)
     intro a115 hA116
     refine q_step hA116 rfl (d_load (v := (.int .i64 i.to)) (wy rfl rfl (hA116.get 29 _ rfl)) (hA116.ev rfl) one3 (m45.cell rfl) ?_)
     intro a117 hA118
     refine q_step hA118 rfl (d_move (wy rfl rfl (hA118.get 29 _ rfl)) (hA118.ev rfl) ?_)
     intro a119 hA120
     rcases Bool.eq_false_or_eq_true (decide (i.to > q)) with hb121 | hb121
     ·skip
      have hq122 := of_decide_eq_true hb121
      refine q_step hA120 rfl (d_bin (wy rfl rfl (hA120.get 29 _ rfl)) (hA120.ev rfl) (hA120.ev rfl) (b_gt _ _ i.to q true _ hb121) ?_)
      intro a123 hA124
      refine q_step hA124 rfl (d_pickF (wy rfl rfl (hA124.get 24 _ rfl)) (hA124.ev rfl) (hA124.ev rfl) ?_)
      intro a125 hA126
      refine q_step hA126 rfl (d_pickT (wn rfl) (hA126.ev rfl) (hA126.ev rfl) ?_)
      intro a127 hA128
      refine q_end ?_
      have hA129 : St 36 [(6, (.int .i64 0)), (35, (.bool true))] a127 := hA128.cut _ (fm_cons (hA128.get 6 _ rfl) (fm_cons (hA128.get 35 _ rfl) fm_nil))
      refine t_norm ?_
      refine c_true hA129 rfl ?_
      refine wp_seq ?_
      refine wp_region_lit ?_
      refine q_step hA129 rfl (d_assign (wn rfl) (hA129.ev rfl) ?_)
      intro a130 hA131
      refine q_end ?_
      have hA132 : St 36 [(6, (.int .i64 35))] a130 := hA131.cut _ (fm_cons (hA131.get 6 _ rfl) fm_nil)
      refine t_norm ?_
      refine wp_ret ?_
      refine t_ret ?_
      refine ret1 rfl hA132 (v := (.int .i64 35)) rfl ?_
      exact ⟨ret_int (by simp [rightR, ← right_same, hb54, hb65, eq_of_beq hb76, hb88, hb121]), b46⟩
     ·skip
      have hq133 := of_decide_eq_false hb121
      refine q_step hA120 rfl (d_bin (wy rfl rfl (hA120.get 29 _ rfl)) (hA120.ev rfl) (hA120.ev rfl) (b_gt _ _ i.to q false _ hb121) ?_)
      intro a134 hA135
      refine q_step hA135 rfl (d_pickF (wy rfl rfl (hA135.get 24 _ rfl)) (hA135.ev rfl) (hA135.ev rfl) ?_)
      intro a136 hA137
      refine q_step hA137 rfl (d_pickT (wn rfl) (hA137.ev rfl) (hA137.ev rfl) ?_)
      intro a138 hA139
      refine q_end ?_
      have hA140 : St 36 [(6, (.int .i64 0)), (35, (.bool false))] a138 := hA139.cut _ (fm_cons (hA139.get 6 _ rfl) (fm_cons (hA139.get 35 _ rfl) fm_nil))
      refine t_norm ?_
      refine c_false hA140 rfl ?_
      refine wp_skip ?_
      refine t_norm ?_
      refine wp_seq ?_
      refine wp_region_lit ?_
      refine q_step hA140 rfl (d_assign (wn rfl) (hA140.ev rfl) ?_)
      intro a141 hA142
      refine q_end ?_
      have hA143 : St 36 [(6, (.int .i64 0))] a141 := hA142.cut _ (fm_cons (hA142.get 6 _ rfl) fm_nil)
      refine t_norm ?_
      refine wp_ret ?_
      refine ret1 rfl hA143 (v := (.int .i64 0)) rfl ?_
      exact ⟨ret_int (by simp [rightR, ← right_same, hb54, hb65, eq_of_beq hb76, hb88, hb121]), b46⟩
   ·skip
    have hq144 := ne_of_beq hb76
    refine q_step hA75 rfl (d_bin (wn rfl) (hA75.ev rfl) (hA75.ev rfl) (b_eq _ _ i.op 9 false _ hb76) ?_)
    intro a145 hA146
    refine q_step hA146 rfl (d_move (wn rfl) (hA146.ev rfl) ?_)
    intro a147 hA148
    refine q_step hA148 rfl (does_not (wno rfl rfl (.inl (hA148.get 24 _ rfl))) ?_)
    intro a149 hA150
    refine q_step hA150 rfl (does_not (wno rfl rfl (.inl (hA150.get 24 _ rfl))) ?_)
    intro a151 hA152
    refine q_step hA152 rfl (does_not (wno rfl rfl (.inl (hA152.get 24 _ rfl))) ?_)
    intro a153 hA154
    refine q_step hA154 rfl (does_not (wno rfl rfl (.inl (hA154.get 24 _ rfl))) ?_)
    intro a155 hA156
    refine q_step hA156 rfl (does_not (wno rfl rfl (.inl (hA156.get 24 _ rfl))) ?_)
    intro a157 hA158
    refine q_step hA158 rfl (does_not (wno rfl rfl (.inr (hA158.get 29 _ rfl))) ?_)
    intro a159 hA160
    refine q_step hA160 rfl (does_not (wno rfl rfl (.inr (hA160.get 29 _ rfl))) ?_)
    intro a161 hA162
    refine q_step hA162 rfl (does_not (wno rfl rfl (.inr (hA162.get 29 _ rfl))) ?_)
    intro a163 hA164
    refine q_step hA164 rfl (does_not (wno rfl rfl (.inr (hA164.get 29 _ rfl))) ?_)
    intro a165 hA166
    refine q_step hA166 rfl (does_not (wno rfl rfl (.inl (hA166.get 24 _ rfl))) ?_)
    intro a167 hA168
    refine q_step hA168 rfl (d_pickF (wn rfl) (hA168.ev rfl) (hA168.ev rfl) ?_)
    intro a169 hA170
    refine q_end ?_
    have hA171 : St 36 [(6, (.int .i64 0)), (35, (.bool false))] a169 := hA170.cut _ (fm_cons (hA170.get 6 _ rfl) (fm_cons (hA170.get 35 _ rfl) fm_nil))
    refine t_norm ?_
    refine c_false hA171 rfl ?_
    refine wp_skip ?_
    refine t_norm ?_
    refine wp_seq ?_
    refine wp_region_lit ?_
    refine q_step hA171 rfl (d_assign (wn rfl) (hA171.ev rfl) ?_)
    intro a172 hA173
    refine q_end ?_
    have hA174 : St 36 [(6, (.int .i64 0))] a172 := hA173.cut _ (fm_cons (hA173.get 6 _ rfl) fm_nil)
    refine t_norm ?_
    refine wp_ret ?_
    refine ret1 rfl hA174 (v := (.int .i64 0)) rfl ?_
    exact ⟨ret_int (by simp [rightR, ← right_same, hb54, hb65, hb76]), b46⟩
  ·skip
   refine q_step hA64 rfl (d_bin (u := .agg (insC (bareF i))) (v := .agg (insC blank)) (wy rfl rfl (hA64.get 16 _ rfl)) (hA64.ev rfl) (hA64.ev rfl) (ne_ins (bareF i) blank _ _ _ true (notof hb65)) ?_)
   intro a176 hA177
   refine q_step hA177 rfl (d_pickF (wn rfl) (hA177.ev rfl) (hA177.ev rfl) ?_)
   intro a178 hA179
   refine q_end ?_
   have hA180 : St 36 [(1, (.int .i64 p)), (2, (.int .i64 q)), (3, (.pointer (some ⟨g3, 0, none⟩))), (6, (.int .i64 0)), (20, (.bool true))] a178 := hA179.cut _ (fm_cons (hA179.get 1 _ rfl) (fm_cons (hA179.get 2 _ rfl) (fm_cons (hA179.get 3 _ rfl) (fm_cons (hA179.get 6 _ rfl) (fm_cons (hA179.get 20 _ rfl) fm_nil)))))
   refine t_norm ?_
   refine c_true hA180 rfl ?_
   refine wp_seq ?_
   refine wp_region_lit ?_
   refine q_step hA180 rfl (d_assign (wn rfl) (hA180.ev rfl) ?_)
   intro a181 hA182
   refine q_end ?_
   have hA183 : St 36 [(1, (.int .i64 p)), (2, (.int .i64 q)), (3, (.pointer (some ⟨g3, 0, none⟩))), (6, (.int .i64 34))] a181 := hA182.cut _ (fm_cons (hA182.get 1 _ rfl) (fm_cons (hA182.get 2 _ rfl) (fm_cons (hA182.get 3 _ rfl) (fm_cons (hA182.get 6 _ rfl) fm_nil))))
   refine t_norm ?_
   refine wp_ret ?_
   refine t_ret ?_
   refine ret1 rfl hA183 (v := (.int .i64 34)) rfl ?_
   exact ⟨ret_int (by simp [rightR, ← right_same, hb54, hb65]), b46⟩
 ·skip
  have hA185 : St 36 [(1, (.int .i64 p)), (2, (.int .i64 q)), (3, (.pointer (some ⟨g3, 0, none⟩))), (6, (.int .i64 0)), (7, (.pointer (some ⟨g31, 0, none⟩))), (8, (.bool (fineB i))), (14, (.bool false))] a52 := hA53.cut _ (fm_cons (hA53.get 1 _ rfl) (fm_cons (hA53.get 2 _ rfl) (fm_cons (hA53.get 3 _ rfl) (fm_cons (hA53.get 6 _ rfl) (fm_cons (hA53.get 7 _ rfl) (fm_cons (hA53.get 8 _ rfl) (fm_cons ((hA53.get 14 _ rfl).trans (congrArg Value.bool hb54)) fm_nil)))))))
  refine q_step hA185 rfl (d_not (wn rfl) (hA185.ev rfl) ?_)
  intro a186 hA187
  refine q_step hA187 rfl (d_move (wn rfl) (hA187.ev rfl) ?_)
  intro a188 hA189
  refine q_step hA189 rfl (does_not (wno rfl rfl (.inl (hA189.get 16 _ rfl))) ?_)
  intro a190 hA191
  refine q_step hA191 rfl (does_not (wno rfl rfl (.inl (hA191.get 16 _ rfl))) ?_)
  intro a192 hA193
  refine q_step hA193 rfl (does_not (wno rfl rfl (.inl (hA193.get 16 _ rfl))) ?_)
  intro a194 hA195
  refine q_step hA195 rfl (d_pickT (wn rfl) (hA195.ev rfl) (hA195.ev rfl) ?_)
  intro a196 hA197
  refine q_end ?_
  have hA198 : St 36 [(1, (.int .i64 p)), (2, (.int .i64 q)), (3, (.pointer (some ⟨g3, 0, none⟩))), (6, (.int .i64 0)), (20, (.bool true))] a196 := hA197.cut _ (fm_cons (hA197.get 1 _ rfl) (fm_cons (hA197.get 2 _ rfl) (fm_cons (hA197.get 3 _ rfl) (fm_cons (hA197.get 6 _ rfl) (fm_cons (hA197.get 20 _ rfl) fm_nil)))))
  refine t_norm ?_
  refine c_true hA198 rfl ?_
  refine wp_seq ?_
  refine wp_region_lit ?_
  refine q_step hA198 rfl (d_assign (wn rfl) (hA198.ev rfl) ?_)
  intro a199 hA200
  refine q_end ?_
  have hA201 : St 36 [(1, (.int .i64 p)), (2, (.int .i64 q)), (3, (.pointer (some ⟨g3, 0, none⟩))), (6, (.int .i64 34))] a199 := hA200.cut _ (fm_cons (hA200.get 1 _ rfl) (fm_cons (hA200.get 2 _ rfl) (fm_cons (hA200.get 3 _ rfl) (fm_cons (hA200.get 6 _ rfl) fm_nil))))
  refine t_norm ?_
  refine wp_ret ?_
  refine t_ret ?_
  refine ret1 rfl hA201 (v := (.int .i64 34)) rfl ?_
  exact ⟨ret_int (by simp [rightR, ← right_same, hb54]), b46⟩
end Go.Proofs.Ytlhompedcphnnaa
/- UirRight returns true. -/
namespace Go.Proofs.Ytlhompedcphnnaa
open Go.RowKit
set_option linter.unusedSimpArgs false
set_option linter.unusedVariables false
theorem ent12 : ((Try.prog.funcs[12]?).map fun fn => (fn.name == "runtime.NumGoroutine", fn.body.isNone)) = some (false, false) := by kernel_rfl
theorem ent14 : ((Try.prog.funcs[14]?).map fun fn => (fn.name == "runtime.NumGoroutine", fn.body.isNone)) = some (false, false) := by kernel_rfl
theorem ent15 : ((Try.prog.funcs[15]?).map fun fn => (fn.name == "runtime.NumGoroutine", fn.body.isNone)) = some (false, false) := by kernel_rfl
theorem ent16 : ((Try.prog.funcs[16]?).map fun fn => (fn.name == "runtime.NumGoroutine", fn.body.isNone)) = some (false, false) := by kernel_rfl
theorem ent17 : ((Try.prog.funcs[17]?).map fun fn => (fn.name == "runtime.NumGoroutine", fn.body.isNone)) = some (false, false) := by kernel_rfl
theorem ent19 : ((Try.prog.funcs[19]?).map fun fn => (fn.name == "runtime.NumGoroutine", fn.body.isNone)) = some (false, false) := by kernel_rfl
theorem ent8 : ((Try.prog.funcs[8]?).map fun fn => (fn.name == "runtime.NumGoroutine", fn.body.isNone)) = some (false, false) := by kernel_rfl
set_option maxHeartbeats 4000000 in
set_option maxRecDepth 4000 in
theorem right_law (i : Ins) (p q : Int) (w : World) : Calls Try.prog 3 #[.agg (insC i), .int .i64 p, .int .i64 q] w fun e w' => e = .returned (.bool true) ∧ Grow w w' := by
 have b0 : Below w.heap.size w w := Below.refl _ _
 refine enter (n := 47) Try.func3 rfl rfl (Nat.le_of_ble_eq_true rfl) ?_
 intro a1 hA2
 refine wp_seq ?_
 refine wp_region_lit ?_
 refine q_step hA2 rfl (d_box (wn rfl) (hA2.ev rfl) ?_)
 intro g3 w4 eg5 hG6 (m7 : Blk w4 g3 (insC i) 23)
 have ge8 : w.heap.size ≤ g3 := eg5 ▸ b0.size
 have b9 := below_grow b0 hG6 b0.size
 intro a10 hA11
 refine q_step hA11 rfl (d_assign (wn rfl) (hA11.ev rfl) ?_)
 intro a12 hA13
 refine q_end ?_
 have hA14 : St 47 [(1, (.int .i64 p)), (2, (.int .i64 q)), (3, (.pointer (some ⟨g3, 0, none⟩))), (6, (.bool false))] a12 := hA13.cut _ (fm_cons (hA13.get 1 _ rfl) (fm_cons (hA13.get 2 _ rfl) (fm_cons (hA13.get 3 _ rfl) (fm_cons (hA13.get 6 _ rfl) fm_nil))))
 refine t_norm ?_
 refine wp_seq ?_
 rcases Bool.eq_false_or_eq_true (rdB i) with hb15 | hb15
 ·skip
  rcases Bool.eq_false_or_eq_true (wrB i) with hb17 | hb17
  ·skip
   have hA19 : St 47 [(1, (.int .i64 p)), (2, (.int .i64 q)), (3, (.pointer (some ⟨g3, 0, none⟩)))] a12 := hA14.cut _ (fm_cons (hA14.get 1 _ rfl) (fm_cons (hA14.get 2 _ rfl) (fm_cons (hA14.get 3 _ rfl) fm_nil)))
   let M20 : Nat → Option (Array Value) := fun _ => none
   have hM20 : M20 = fun _ => none := rfl
   clear_value M20
   have hM21 : M20 g3 = none := (congrFun hM20 g3)
   have hM20B : ∀ k, k < w.heap.size → M20 k = none := (fun k hk => (congrFun hM20 k))
   refine drawn (S := SM M20) (tabL [cv (.bool true), cv (.bool true), cv (.agg (insC i)), cv (.int .i64 p), cv (.int .i64 q), cv (.int .i64 (rightR i p q)), cv (.agg (insC i)), cv (.int .i64 p), cv (.int .i64 q), cv (.int .i64 (rightR i p q)), cv (.bool true), cv (.bool true), cv (.bool true), cv (.agg (insC i)), cv (.bool true), cv (.agg (insC i)), cv (.bool true), cv (.bool true), cv (.bool true), cv (.bool true), cv (.agg (insC i)), cv (.bool true), cv (.agg (insC i)), cv (.bool true), cv (.bool true), cv (.bool true), cv (.bool true), cv (.agg (insC i)), cu M20 (fun k => congrFun hM20 k) (useF i), cv (.agg (insC i)), cu M20 (fun k => congrFun hM20 k) (useF i), cv (.bool true), cv (.bool true), cv (.bool true), cv (.agg (insC i)), cv (.int .i64 (givesF i)), cv (.agg (insC i)), cv (.int .i64 (givesF i)), cv (.bool true), cv (.bool true), cv (.bool true)]) mixedY SM.refl SM.trans SM.drew hA19 (by kernel_rfl) ?_ ?_
   ·skip
    refine each_cons (fun x y hS hT hk => d_call (wn rfl) ent8 (map0) (able_any y) (fun _ _ ⟨he, hG⟩ => ⟨(.bool true), he, SM.grow hG, rfl⟩)) ?_
    refine each_cons (fun x y hS hT hk => d_move (wn rfl) (hk 0 rfl) ⟨SM.refl _, rfl⟩) ?_
    refine each_cons (fun x y hS hT hk => d_loadRow (cs := (insC i)) (wy rfl rfl (hk 1 rfl)) (hT.ev rfl) row23 (Blk.sm (w := w4.drew) m7 hS hM21) ⟨SM.refl _, rfl⟩) ?_
    refine each_cons (fun x y hS hT hk => d_move (wy rfl rfl (hk 1 rfl)) (hT.ev rfl) ⟨SM.refl _, rfl⟩) ?_
    refine each_cons (fun x y hS hT hk => d_move (wy rfl rfl (hk 1 rfl)) (hT.ev rfl) ⟨SM.refl _, rfl⟩) ?_
    refine each_cons (fun x y hS hT hk => d_call (wy rfl rfl (hk 1 rfl)) ent9 (map3 (show x.eval _ = (.agg (insC i)) from (hk 2 rfl)) (show x.eval _ = (.int .i64 p) from (hk 3 rfl)) (show x.eval _ = (.int .i64 q) from (hk 4 rfl))) (right_any i p q y) (fun _ _ ⟨he, hG⟩ => ⟨(.int .i64 (rightR i p q)), he, SM.grow hG, rfl⟩)) ?_
    refine each_cons (fun x y hS hT hk => d_loadRow (cs := (insC i)) (wy rfl rfl (hk 1 rfl)) (hT.ev rfl) row23 (Blk.sm (w := w4.drew) m7 hS hM21) ⟨SM.refl _, rfl⟩) ?_
    refine each_cons (fun x y hS hT hk => d_move (wy rfl rfl (hk 1 rfl)) (hT.ev rfl) ⟨SM.refl _, rfl⟩) ?_
    refine each_cons (fun x y hS hT hk => d_move (wy rfl rfl (hk 1 rfl)) (hT.ev rfl) ⟨SM.refl _, rfl⟩) ?_
    refine each_cons (fun x y hS hT hk => d_call (wy rfl rfl (hk 1 rfl)) ent10 (map3 (show x.eval _ = (.agg (insC i)) from (hk 6 rfl)) (show x.eval _ = (.int .i64 p) from (hk 7 rfl)) (show x.eval _ = (.int .i64 q) from (hk 8 rfl))) (rright_any i p q y) (fun _ _ ⟨he, hG⟩ => ⟨(.int .i64 (rightR i p q)), he, SM.grow hG, rfl⟩)) ?_
    refine each_cons (fun x y hS hT hk => d_bin (wy rfl rfl (hk 1 rfl)) (hk 5 rfl) (hk 9 rfl) (b_eq _ _ (rightR i p q) (rightR i p q) true _ (beq_self_eq_true _)) ⟨SM.refl _, rfl⟩) ?_
    refine each_cons (fun x y hS hT hk => d_pickT (wn rfl) (hk 1 rfl) (hk 10 rfl) ⟨SM.refl _, rfl⟩) ?_
    refine each_cons (fun x y hS hT hk => d_move (wn rfl) (hk 11 rfl) ⟨SM.refl _, rfl⟩) ?_
    refine each_cons (fun x y hS hT hk => d_loadRow (cs := (insC i)) (wy rfl rfl (hk 12 rfl)) (hT.ev rfl) row23 (Blk.sm (w := w4.drew) m7 hS hM21) ⟨SM.refl _, rfl⟩) ?_
    refine each_cons (fun x y hS hT hk => d_call (wy rfl rfl (hk 12 rfl)) ent11 (map1 (show x.eval _ = (.agg (insC i)) from (hk 13 rfl))) (reads_any i y) (fun _ _ ⟨he, hG⟩ => ⟨(.bool true), (he.trans (ret_bool hb15)), SM.grow hG, rfl⟩)) ?_
    refine each_cons (fun x y hS hT hk => d_loadRow (cs := (insC i)) (wy rfl rfl (hk 12 rfl)) (hT.ev rfl) row23 (Blk.sm (w := w4.drew) m7 hS hM21) ⟨SM.refl _, rfl⟩) ?_
    refine each_cons (fun x y hS hT hk => d_call (wy rfl rfl (hk 12 rfl)) ent12 (map1 (show x.eval _ = (.agg (insC i)) from (hk 15 rfl))) (rreads_any i y) (fun _ _ ⟨he, hG⟩ => ⟨(.bool true), (he.trans (ret_bool hb15)), SM.grow hG, rfl⟩)) ?_
    refine each_cons (fun x y hS hT hk => d_bin (wy rfl rfl (hk 12 rfl)) (hk 14 rfl) (hk 16 rfl) (b_eqb _ _ true true true _ Try.underlying4 rfl) ⟨SM.refl _, rfl⟩) ?_
    refine each_cons (fun x y hS hT hk => d_pickT (wn rfl) (hk 12 rfl) (hk 17 rfl) ⟨SM.refl _, rfl⟩) ?_
    refine each_cons (fun x y hS hT hk => d_move (wn rfl) (hk 18 rfl) ⟨SM.refl _, rfl⟩) ?_
    refine each_cons (fun x y hS hT hk => d_loadRow (cs := (insC i)) (wy rfl rfl (hk 19 rfl)) (hT.ev rfl) row23 (Blk.sm (w := w4.drew) m7 hS hM21) ⟨SM.refl _, rfl⟩) ?_
    refine each_cons (fun x y hS hT hk => d_call (wy rfl rfl (hk 19 rfl)) ent13 (map1 (show x.eval _ = (.agg (insC i)) from (hk 20 rfl))) (writes_any i y) (fun _ _ ⟨he, hG⟩ => ⟨(.bool true), (he.trans (ret_bool hb17)), SM.grow hG, rfl⟩)) ?_
    refine each_cons (fun x y hS hT hk => d_loadRow (cs := (insC i)) (wy rfl rfl (hk 19 rfl)) (hT.ev rfl) row23 (Blk.sm (w := w4.drew) m7 hS hM21) ⟨SM.refl _, rfl⟩) ?_
    refine each_cons (fun x y hS hT hk => d_call (wy rfl rfl (hk 19 rfl)) ent14 (map1 (show x.eval _ = (.agg (insC i)) from (hk 22 rfl))) (rwrites_any i y) (fun _ _ ⟨he, hG⟩ => ⟨(.bool true), (he.trans (ret_bool hb17)), SM.grow hG, rfl⟩)) ?_
    refine each_cons (fun x y hS hT hk => d_bin (wy rfl rfl (hk 19 rfl)) (hk 21 rfl) (hk 23 rfl) (b_eqb _ _ true true true _ Try.underlying4 rfl) ⟨SM.refl _, rfl⟩) ?_
    refine each_cons (fun x y hS hT hk => d_pickT (wn rfl) (hk 19 rfl) (hk 24 rfl) ⟨SM.refl _, rfl⟩) ?_
    refine each_cons (fun x y hS hT hk => d_move (wn rfl) (hk 25 rfl) ⟨SM.refl _, rfl⟩) ?_
    refine each_cons (fun x y hS hT hk => d_loadRow (cs := (insC i)) (wy rfl rfl (hk 26 rfl)) (hT.ev rfl) row23 (Blk.sm (w := w4.drew) m7 hS hM21) ⟨SM.refl _, rfl⟩) ?_
    refine each_cons (fun x y hS hT hk => d_call (wy rfl rfl (hk 26 rfl)) ent16 (map1 (show x.eval _ = (.agg (insC i)) from (hk 27 rfl))) (uses_any i y) (fun _ _ ⟨v, he, hG, ho⟩ => ⟨v, he, SM.grow hG, _, ho⟩)) ?_
    refine each_cons (fun x y hS hT hk => d_loadRow (cs := (insC i)) (wy rfl rfl (hk 26 rfl)) (hT.ev rfl) row23 (Blk.sm (w := w4.drew) m7 hS hM21) ⟨SM.refl _, rfl⟩) ?_
    refine each_cons (fun x y hS hT hk => d_call (wy rfl rfl (hk 26 rfl)) ent17 (map1 (show x.eval _ = (.agg (insC i)) from (hk 29 rfl))) (ruses_any i y) (fun _ _ ⟨v, he, hG, ho⟩ => ⟨v, he, SM.grow hG, _, ho⟩)) ?_
    refine each_cons (fun x y hS hT hk => d_call (wy rfl rfl (hk 26 rfl)) ent15 (map2 (show x.eval _ = x.tmps.getD 35 undef from rfl) (show x.eval _ = x.tmps.getD 37 undef from rfl)) (ints_any (useF i) (useF i) _ _ y (cu_sl (hk 28 rfl)) (cu_sl (hk 30 rfl)) (use_le i)) (fun _ _ ⟨he, hG⟩ => ⟨.bool true, he.trans (ret_bool (decide_eq_true rfl)), SM.grow hG, rfl⟩)) ?_
    refine each_cons (fun x y hS hT hk => d_pickT (wn rfl) (hk 26 rfl) (hk 31 rfl) ⟨SM.refl _, rfl⟩) ?_
    refine each_cons (fun x y hS hT hk => d_move (wn rfl) (hk 32 rfl) ⟨SM.refl _, rfl⟩) ?_
    refine each_cons (fun x y hS hT hk => d_loadRow (cs := (insC i)) (wy rfl rfl (hk 33 rfl)) (hT.ev rfl) row23 (Blk.sm (w := w4.drew) m7 hS hM21) ⟨SM.refl _, rfl⟩) ?_
    refine each_cons (fun x y hS hT hk => d_call (wy rfl rfl (hk 33 rfl)) ent18 (map1 (show x.eval _ = (.agg (insC i)) from (hk 34 rfl))) (gives_any i y) (fun _ _ ⟨he, hG⟩ => ⟨(.int .i64 (givesF i)), he, SM.grow hG, rfl⟩)) ?_
    refine each_cons (fun x y hS hT hk => d_loadRow (cs := (insC i)) (wy rfl rfl (hk 33 rfl)) (hT.ev rfl) row23 (Blk.sm (w := w4.drew) m7 hS hM21) ⟨SM.refl _, rfl⟩) ?_
    refine each_cons (fun x y hS hT hk => d_call (wy rfl rfl (hk 33 rfl)) ent19 (map1 (show x.eval _ = (.agg (insC i)) from (hk 36 rfl))) (rgives_any i y) (fun _ _ ⟨he, hG⟩ => ⟨(.int .i64 (givesF i)), he, SM.grow hG, rfl⟩)) ?_
    refine each_cons (fun x y hS hT hk => d_bin (wy rfl rfl (hk 33 rfl)) (hk 35 rfl) (hk 37 rfl) (b_eq _ _ (givesF i) (givesF i) true _ (beq_self_eq_true _)) ⟨SM.refl _, rfl⟩) ?_
    refine each_cons (fun x y hS hT hk => d_pickT (wn rfl) (hk 33 rfl) (hk 38 rfl) ⟨SM.refl _, rfl⟩) ?_
    refine each_cons (fun x y hS hT hk => d_assign (wn rfl) (hk 39 rfl) ⟨SM.refl _, rfl⟩) ?_
    exact each_nil
   intro f22 a23 w24 hS25 hC26 hA27
   have hA28 : St 47 [(6, (.bool true))] a23 := hA27.cut _ (fm_cons ((hA27.get 6 _ rfl).trans (hC26 40 (Nat.le_of_ble_eq_true rfl))) fm_nil)
   have m29 := m7.sm hS25 hM21
   have b30 := hS25.below b9 b9.size hM20B
   refine t_norm ?_
   refine wp_ret ?_
   refine ret1 rfl hA28 (v := (.bool true)) rfl ?_
   exact ⟨rfl, b30⟩
  ·skip
   have hA32 : St 47 [(1, (.int .i64 p)), (2, (.int .i64 q)), (3, (.pointer (some ⟨g3, 0, none⟩)))] a12 := hA14.cut _ (fm_cons (hA14.get 1 _ rfl) (fm_cons (hA14.get 2 _ rfl) (fm_cons (hA14.get 3 _ rfl) fm_nil)))
   let M33 : Nat → Option (Array Value) := fun _ => none
   have hM33 : M33 = fun _ => none := rfl
   clear_value M33
   have hM34 : M33 g3 = none := (congrFun hM33 g3)
   have hM33B : ∀ k, k < w.heap.size → M33 k = none := (fun k hk => (congrFun hM33 k))
   refine drawn (S := SM M33) (tabL [cv (.bool true), cv (.bool true), cv (.agg (insC i)), cv (.int .i64 p), cv (.int .i64 q), cv (.int .i64 (rightR i p q)), cv (.agg (insC i)), cv (.int .i64 p), cv (.int .i64 q), cv (.int .i64 (rightR i p q)), cv (.bool true), cv (.bool true), cv (.bool true), cv (.agg (insC i)), cv (.bool true), cv (.agg (insC i)), cv (.bool true), cv (.bool true), cv (.bool true), cv (.bool true), cv (.agg (insC i)), cv (.bool false), cv (.agg (insC i)), cv (.bool false), cv (.bool true), cv (.bool true), cv (.bool true), cv (.agg (insC i)), cu M33 (fun k => congrFun hM33 k) (useF i), cv (.agg (insC i)), cu M33 (fun k => congrFun hM33 k) (useF i), cv (.bool true), cv (.bool true), cv (.bool true), cv (.agg (insC i)), cv (.int .i64 (givesF i)), cv (.agg (insC i)), cv (.int .i64 (givesF i)), cv (.bool true), cv (.bool true), cv (.bool true)]) mixedY SM.refl SM.trans SM.drew hA32 (by kernel_rfl) ?_ ?_
   ·skip
    refine each_cons (fun x y hS hT hk => d_call (wn rfl) ent8 (map0) (able_any y) (fun _ _ ⟨he, hG⟩ => ⟨(.bool true), he, SM.grow hG, rfl⟩)) ?_
    refine each_cons (fun x y hS hT hk => d_move (wn rfl) (hk 0 rfl) ⟨SM.refl _, rfl⟩) ?_
    refine each_cons (fun x y hS hT hk => d_loadRow (cs := (insC i)) (wy rfl rfl (hk 1 rfl)) (hT.ev rfl) row23 (Blk.sm (w := w4.drew) m7 hS hM34) ⟨SM.refl _, rfl⟩) ?_
    refine each_cons (fun x y hS hT hk => d_move (wy rfl rfl (hk 1 rfl)) (hT.ev rfl) ⟨SM.refl _, rfl⟩) ?_
    refine each_cons (fun x y hS hT hk => d_move (wy rfl rfl (hk 1 rfl)) (hT.ev rfl) ⟨SM.refl _, rfl⟩) ?_
    refine each_cons (fun x y hS hT hk => d_call (wy rfl rfl (hk 1 rfl)) ent9 (map3 (show x.eval _ = (.agg (insC i)) from (hk 2 rfl)) (show x.eval _ = (.int .i64 p) from (hk 3 rfl)) (show x.eval _ = (.int .i64 q) from (hk 4 rfl))) (right_any i p q y) (fun _ _ ⟨he, hG⟩ => ⟨(.int .i64 (rightR i p q)), he, SM.grow hG, rfl⟩)) ?_
    refine each_cons (fun x y hS hT hk => d_loadRow (cs := (insC i)) (wy rfl rfl (hk 1 rfl)) (hT.ev rfl) row23 (Blk.sm (w := w4.drew) m7 hS hM34) ⟨SM.refl _, rfl⟩) ?_
    refine each_cons (fun x y hS hT hk => d_move (wy rfl rfl (hk 1 rfl)) (hT.ev rfl) ⟨SM.refl _, rfl⟩) ?_
    refine each_cons (fun x y hS hT hk => d_move (wy rfl rfl (hk 1 rfl)) (hT.ev rfl) ⟨SM.refl _, rfl⟩) ?_
    refine each_cons (fun x y hS hT hk => d_call (wy rfl rfl (hk 1 rfl)) ent10 (map3 (show x.eval _ = (.agg (insC i)) from (hk 6 rfl)) (show x.eval _ = (.int .i64 p) from (hk 7 rfl)) (show x.eval _ = (.int .i64 q) from (hk 8 rfl))) (rright_any i p q y) (fun _ _ ⟨he, hG⟩ => ⟨(.int .i64 (rightR i p q)), he, SM.grow hG, rfl⟩)) ?_
    refine each_cons (fun x y hS hT hk => d_bin (wy rfl rfl (hk 1 rfl)) (hk 5 rfl) (hk 9 rfl) (b_eq _ _ (rightR i p q) (rightR i p q) true _ (beq_self_eq_true _)) ⟨SM.refl _, rfl⟩) ?_
    refine each_cons (fun x y hS hT hk => d_pickT (wn rfl) (hk 1 rfl) (hk 10 rfl) ⟨SM.refl _, rfl⟩) ?_
    refine each_cons (fun x y hS hT hk => d_move (wn rfl) (hk 11 rfl) ⟨SM.refl _, rfl⟩) ?_
    refine each_cons (fun x y hS hT hk => d_loadRow (cs := (insC i)) (wy rfl rfl (hk 12 rfl)) (hT.ev rfl) row23 (Blk.sm (w := w4.drew) m7 hS hM34) ⟨SM.refl _, rfl⟩) ?_
    refine each_cons (fun x y hS hT hk => d_call (wy rfl rfl (hk 12 rfl)) ent11 (map1 (show x.eval _ = (.agg (insC i)) from (hk 13 rfl))) (reads_any i y) (fun _ _ ⟨he, hG⟩ => ⟨(.bool true), (he.trans (ret_bool hb15)), SM.grow hG, rfl⟩)) ?_
    refine each_cons (fun x y hS hT hk => d_loadRow (cs := (insC i)) (wy rfl rfl (hk 12 rfl)) (hT.ev rfl) row23 (Blk.sm (w := w4.drew) m7 hS hM34) ⟨SM.refl _, rfl⟩) ?_
    refine each_cons (fun x y hS hT hk => d_call (wy rfl rfl (hk 12 rfl)) ent12 (map1 (show x.eval _ = (.agg (insC i)) from (hk 15 rfl))) (rreads_any i y) (fun _ _ ⟨he, hG⟩ => ⟨(.bool true), (he.trans (ret_bool hb15)), SM.grow hG, rfl⟩)) ?_
    refine each_cons (fun x y hS hT hk => d_bin (wy rfl rfl (hk 12 rfl)) (hk 14 rfl) (hk 16 rfl) (b_eqb _ _ true true true _ Try.underlying4 rfl) ⟨SM.refl _, rfl⟩) ?_
    refine each_cons (fun x y hS hT hk => d_pickT (wn rfl) (hk 12 rfl) (hk 17 rfl) ⟨SM.refl _, rfl⟩) ?_
    refine each_cons (fun x y hS hT hk => d_move (wn rfl) (hk 18 rfl) ⟨SM.refl _, rfl⟩) ?_
    refine each_cons (fun x y hS hT hk => d_loadRow (cs := (insC i)) (wy rfl rfl (hk 19 rfl)) (hT.ev rfl) row23 (Blk.sm (w := w4.drew) m7 hS hM34) ⟨SM.refl _, rfl⟩) ?_
    refine each_cons (fun x y hS hT hk => d_call (wy rfl rfl (hk 19 rfl)) ent13 (map1 (show x.eval _ = (.agg (insC i)) from (hk 20 rfl))) (writes_any i y) (fun _ _ ⟨he, hG⟩ => ⟨(.bool false), (he.trans (ret_bool hb17)), SM.grow hG, rfl⟩)) ?_
    refine each_cons (fun x y hS hT hk => d_loadRow (cs := (insC i)) (wy rfl rfl (hk 19 rfl)) (hT.ev rfl) row23 (Blk.sm (w := w4.drew) m7 hS hM34) ⟨SM.refl _, rfl⟩) ?_
    refine each_cons (fun x y hS hT hk => d_call (wy rfl rfl (hk 19 rfl)) ent14 (map1 (show x.eval _ = (.agg (insC i)) from (hk 22 rfl))) (rwrites_any i y) (fun _ _ ⟨he, hG⟩ => ⟨(.bool false), (he.trans (ret_bool hb17)), SM.grow hG, rfl⟩)) ?_
    refine each_cons (fun x y hS hT hk => d_bin (wy rfl rfl (hk 19 rfl)) (hk 21 rfl) (hk 23 rfl) (b_eqb _ _ false false true _ Try.underlying4 rfl) ⟨SM.refl _, rfl⟩) ?_
    refine each_cons (fun x y hS hT hk => d_pickT (wn rfl) (hk 19 rfl) (hk 24 rfl) ⟨SM.refl _, rfl⟩) ?_
    refine each_cons (fun x y hS hT hk => d_move (wn rfl) (hk 25 rfl) ⟨SM.refl _, rfl⟩) ?_
    refine each_cons (fun x y hS hT hk => d_loadRow (cs := (insC i)) (wy rfl rfl (hk 26 rfl)) (hT.ev rfl) row23 (Blk.sm (w := w4.drew) m7 hS hM34) ⟨SM.refl _, rfl⟩) ?_
    refine each_cons (fun x y hS hT hk => d_call (wy rfl rfl (hk 26 rfl)) ent16 (map1 (show x.eval _ = (.agg (insC i)) from (hk 27 rfl))) (uses_any i y) (fun _ _ ⟨v, he, hG, ho⟩ => ⟨v, he, SM.grow hG, _, ho⟩)) ?_
    refine each_cons (fun x y hS hT hk => d_loadRow (cs := (insC i)) (wy rfl rfl (hk 26 rfl)) (hT.ev rfl) row23 (Blk.sm (w := w4.drew) m7 hS hM34) ⟨SM.refl _, rfl⟩) ?_
    refine each_cons (fun x y hS hT hk => d_call (wy rfl rfl (hk 26 rfl)) ent17 (map1 (show x.eval _ = (.agg (insC i)) from (hk 29 rfl))) (ruses_any i y) (fun _ _ ⟨v, he, hG, ho⟩ => ⟨v, he, SM.grow hG, _, ho⟩)) ?_
    refine each_cons (fun x y hS hT hk => d_call (wy rfl rfl (hk 26 rfl)) ent15 (map2 (show x.eval _ = x.tmps.getD 35 undef from rfl) (show x.eval _ = x.tmps.getD 37 undef from rfl)) (ints_any (useF i) (useF i) _ _ y (cu_sl (hk 28 rfl)) (cu_sl (hk 30 rfl)) (use_le i)) (fun _ _ ⟨he, hG⟩ => ⟨.bool true, he.trans (ret_bool (decide_eq_true rfl)), SM.grow hG, rfl⟩)) ?_
    refine each_cons (fun x y hS hT hk => d_pickT (wn rfl) (hk 26 rfl) (hk 31 rfl) ⟨SM.refl _, rfl⟩) ?_
    refine each_cons (fun x y hS hT hk => d_move (wn rfl) (hk 32 rfl) ⟨SM.refl _, rfl⟩) ?_
    refine each_cons (fun x y hS hT hk => d_loadRow (cs := (insC i)) (wy rfl rfl (hk 33 rfl)) (hT.ev rfl) row23 (Blk.sm (w := w4.drew) m7 hS hM34) ⟨SM.refl _, rfl⟩) ?_
    refine each_cons (fun x y hS hT hk => d_call (wy rfl rfl (hk 33 rfl)) ent18 (map1 (show x.eval _ = (.agg (insC i)) from (hk 34 rfl))) (gives_any i y) (fun _ _ ⟨he, hG⟩ => ⟨(.int .i64 (givesF i)), he, SM.grow hG, rfl⟩)) ?_
    refine each_cons (fun x y hS hT hk => d_loadRow (cs := (insC i)) (wy rfl rfl (hk 33 rfl)) (hT.ev rfl) row23 (Blk.sm (w := w4.drew) m7 hS hM34) ⟨SM.refl _, rfl⟩) ?_
    refine each_cons (fun x y hS hT hk => d_call (wy rfl rfl (hk 33 rfl)) ent19 (map1 (show x.eval _ = (.agg (insC i)) from (hk 36 rfl))) (rgives_any i y) (fun _ _ ⟨he, hG⟩ => ⟨(.int .i64 (givesF i)), he, SM.grow hG, rfl⟩)) ?_
    refine each_cons (fun x y hS hT hk => d_bin (wy rfl rfl (hk 33 rfl)) (hk 35 rfl) (hk 37 rfl) (b_eq _ _ (givesF i) (givesF i) true _ (beq_self_eq_true _)) ⟨SM.refl _, rfl⟩) ?_
    refine each_cons (fun x y hS hT hk => d_pickT (wn rfl) (hk 33 rfl) (hk 38 rfl) ⟨SM.refl _, rfl⟩) ?_
    refine each_cons (fun x y hS hT hk => d_assign (wn rfl) (hk 39 rfl) ⟨SM.refl _, rfl⟩) ?_
    exact each_nil
   intro f35 a36 w37 hS38 hC39 hA40
   have hA41 : St 47 [(6, (.bool true))] a36 := hA40.cut _ (fm_cons ((hA40.get 6 _ rfl).trans (hC39 40 (Nat.le_of_ble_eq_true rfl))) fm_nil)
   have m42 := m7.sm hS38 hM34
   have b43 := hS38.below b9 b9.size hM33B
   refine t_norm ?_
   refine wp_ret ?_
   refine ret1 rfl hA41 (v := (.bool true)) rfl ?_
   exact ⟨rfl, b43⟩
 ·skip
  rcases Bool.eq_false_or_eq_true (wrB i) with hb45 | hb45
  ·skip
   have hA47 : St 47 [(1, (.int .i64 p)), (2, (.int .i64 q)), (3, (.pointer (some ⟨g3, 0, none⟩)))] a12 := hA14.cut _ (fm_cons (hA14.get 1 _ rfl) (fm_cons (hA14.get 2 _ rfl) (fm_cons (hA14.get 3 _ rfl) fm_nil)))
   let M48 : Nat → Option (Array Value) := fun _ => none
   have hM48 : M48 = fun _ => none := rfl
   clear_value M48
   have hM49 : M48 g3 = none := (congrFun hM48 g3)
   have hM48B : ∀ k, k < w.heap.size → M48 k = none := (fun k hk => (congrFun hM48 k))
   refine drawn (S := SM M48) (tabL [cv (.bool true), cv (.bool true), cv (.agg (insC i)), cv (.int .i64 p), cv (.int .i64 q), cv (.int .i64 (rightR i p q)), cv (.agg (insC i)), cv (.int .i64 p), cv (.int .i64 q), cv (.int .i64 (rightR i p q)), cv (.bool true), cv (.bool true), cv (.bool true), cv (.agg (insC i)), cv (.bool false), cv (.agg (insC i)), cv (.bool false), cv (.bool true), cv (.bool true), cv (.bool true), cv (.agg (insC i)), cv (.bool true), cv (.agg (insC i)), cv (.bool true), cv (.bool true), cv (.bool true), cv (.bool true), cv (.agg (insC i)), cu M48 (fun k => congrFun hM48 k) (useF i), cv (.agg (insC i)), cu M48 (fun k => congrFun hM48 k) (useF i), cv (.bool true), cv (.bool true), cv (.bool true), cv (.agg (insC i)), cv (.int .i64 (givesF i)), cv (.agg (insC i)), cv (.int .i64 (givesF i)), cv (.bool true), cv (.bool true), cv (.bool true)]) mixedY SM.refl SM.trans SM.drew hA47 (by kernel_rfl) ?_ ?_
   ·skip
    refine each_cons (fun x y hS hT hk => d_call (wn rfl) ent8 (map0) (able_any y) (fun _ _ ⟨he, hG⟩ => ⟨(.bool true), he, SM.grow hG, rfl⟩)) ?_
    refine each_cons (fun x y hS hT hk => d_move (wn rfl) (hk 0 rfl) ⟨SM.refl _, rfl⟩) ?_
    refine each_cons (fun x y hS hT hk => d_loadRow (cs := (insC i)) (wy rfl rfl (hk 1 rfl)) (hT.ev rfl) row23 (Blk.sm (w := w4.drew) m7 hS hM49) ⟨SM.refl _, rfl⟩) ?_
    refine each_cons (fun x y hS hT hk => d_move (wy rfl rfl (hk 1 rfl)) (hT.ev rfl) ⟨SM.refl _, rfl⟩) ?_
    refine each_cons (fun x y hS hT hk => d_move (wy rfl rfl (hk 1 rfl)) (hT.ev rfl) ⟨SM.refl _, rfl⟩) ?_
    refine each_cons (fun x y hS hT hk => d_call (wy rfl rfl (hk 1 rfl)) ent9 (map3 (show x.eval _ = (.agg (insC i)) from (hk 2 rfl)) (show x.eval _ = (.int .i64 p) from (hk 3 rfl)) (show x.eval _ = (.int .i64 q) from (hk 4 rfl))) (right_any i p q y) (fun _ _ ⟨he, hG⟩ => ⟨(.int .i64 (rightR i p q)), he, SM.grow hG, rfl⟩)) ?_
    refine each_cons (fun x y hS hT hk => d_loadRow (cs := (insC i)) (wy rfl rfl (hk 1 rfl)) (hT.ev rfl) row23 (Blk.sm (w := w4.drew) m7 hS hM49) ⟨SM.refl _, rfl⟩) ?_
    refine each_cons (fun x y hS hT hk => d_move (wy rfl rfl (hk 1 rfl)) (hT.ev rfl) ⟨SM.refl _, rfl⟩) ?_
    refine each_cons (fun x y hS hT hk => d_move (wy rfl rfl (hk 1 rfl)) (hT.ev rfl) ⟨SM.refl _, rfl⟩) ?_
    refine each_cons (fun x y hS hT hk => d_call (wy rfl rfl (hk 1 rfl)) ent10 (map3 (show x.eval _ = (.agg (insC i)) from (hk 6 rfl)) (show x.eval _ = (.int .i64 p) from (hk 7 rfl)) (show x.eval _ = (.int .i64 q) from (hk 8 rfl))) (rright_any i p q y) (fun _ _ ⟨he, hG⟩ => ⟨(.int .i64 (rightR i p q)), he, SM.grow hG, rfl⟩)) ?_
    refine each_cons (fun x y hS hT hk => d_bin (wy rfl rfl (hk 1 rfl)) (hk 5 rfl) (hk 9 rfl) (b_eq _ _ (rightR i p q) (rightR i p q) true _ (beq_self_eq_true _)) ⟨SM.refl _, rfl⟩) ?_
    refine each_cons (fun x y hS hT hk => d_pickT (wn rfl) (hk 1 rfl) (hk 10 rfl) ⟨SM.refl _, rfl⟩) ?_
    refine each_cons (fun x y hS hT hk => d_move (wn rfl) (hk 11 rfl) ⟨SM.refl _, rfl⟩) ?_
    refine each_cons (fun x y hS hT hk => d_loadRow (cs := (insC i)) (wy rfl rfl (hk 12 rfl)) (hT.ev rfl) row23 (Blk.sm (w := w4.drew) m7 hS hM49) ⟨SM.refl _, rfl⟩) ?_
    refine each_cons (fun x y hS hT hk => d_call (wy rfl rfl (hk 12 rfl)) ent11 (map1 (show x.eval _ = (.agg (insC i)) from (hk 13 rfl))) (reads_any i y) (fun _ _ ⟨he, hG⟩ => ⟨(.bool false), (he.trans (ret_bool hb15)), SM.grow hG, rfl⟩)) ?_
    refine each_cons (fun x y hS hT hk => d_loadRow (cs := (insC i)) (wy rfl rfl (hk 12 rfl)) (hT.ev rfl) row23 (Blk.sm (w := w4.drew) m7 hS hM49) ⟨SM.refl _, rfl⟩) ?_
    refine each_cons (fun x y hS hT hk => d_call (wy rfl rfl (hk 12 rfl)) ent12 (map1 (show x.eval _ = (.agg (insC i)) from (hk 15 rfl))) (rreads_any i y) (fun _ _ ⟨he, hG⟩ => ⟨(.bool false), (he.trans (ret_bool hb15)), SM.grow hG, rfl⟩)) ?_
    refine each_cons (fun x y hS hT hk => d_bin (wy rfl rfl (hk 12 rfl)) (hk 14 rfl) (hk 16 rfl) (b_eqb _ _ false false true _ Try.underlying4 rfl) ⟨SM.refl _, rfl⟩) ?_
    refine each_cons (fun x y hS hT hk => d_pickT (wn rfl) (hk 12 rfl) (hk 17 rfl) ⟨SM.refl _, rfl⟩) ?_
    refine each_cons (fun x y hS hT hk => d_move (wn rfl) (hk 18 rfl) ⟨SM.refl _, rfl⟩) ?_
    refine each_cons (fun x y hS hT hk => d_loadRow (cs := (insC i)) (wy rfl rfl (hk 19 rfl)) (hT.ev rfl) row23 (Blk.sm (w := w4.drew) m7 hS hM49) ⟨SM.refl _, rfl⟩) ?_
    refine each_cons (fun x y hS hT hk => d_call (wy rfl rfl (hk 19 rfl)) ent13 (map1 (show x.eval _ = (.agg (insC i)) from (hk 20 rfl))) (writes_any i y) (fun _ _ ⟨he, hG⟩ => ⟨(.bool true), (he.trans (ret_bool hb45)), SM.grow hG, rfl⟩)) ?_
    refine each_cons (fun x y hS hT hk => d_loadRow (cs := (insC i)) (wy rfl rfl (hk 19 rfl)) (hT.ev rfl) row23 (Blk.sm (w := w4.drew) m7 hS hM49) ⟨SM.refl _, rfl⟩) ?_
    refine each_cons (fun x y hS hT hk => d_call (wy rfl rfl (hk 19 rfl)) ent14 (map1 (show x.eval _ = (.agg (insC i)) from (hk 22 rfl))) (rwrites_any i y) (fun _ _ ⟨he, hG⟩ => ⟨(.bool true), (he.trans (ret_bool hb45)), SM.grow hG, rfl⟩)) ?_
    refine each_cons (fun x y hS hT hk => d_bin (wy rfl rfl (hk 19 rfl)) (hk 21 rfl) (hk 23 rfl) (b_eqb _ _ true true true _ Try.underlying4 rfl) ⟨SM.refl _, rfl⟩) ?_
    refine each_cons (fun x y hS hT hk => d_pickT (wn rfl) (hk 19 rfl) (hk 24 rfl) ⟨SM.refl _, rfl⟩) ?_
    refine each_cons (fun x y hS hT hk => d_move (wn rfl) (hk 25 rfl) ⟨SM.refl _, rfl⟩) ?_
    refine each_cons (fun x y hS hT hk => d_loadRow (cs := (insC i)) (wy rfl rfl (hk 26 rfl)) (hT.ev rfl) row23 (Blk.sm (w := w4.drew) m7 hS hM49) ⟨SM.refl _, rfl⟩) ?_
    refine each_cons (fun x y hS hT hk => d_call (wy rfl rfl (hk 26 rfl)) ent16 (map1 (show x.eval _ = (.agg (insC i)) from (hk 27 rfl))) (uses_any i y) (fun _ _ ⟨v, he, hG, ho⟩ => ⟨v, he, SM.grow hG, _, ho⟩)) ?_
    refine each_cons (fun x y hS hT hk => d_loadRow (cs := (insC i)) (wy rfl rfl (hk 26 rfl)) (hT.ev rfl) row23 (Blk.sm (w := w4.drew) m7 hS hM49) ⟨SM.refl _, rfl⟩) ?_
    refine each_cons (fun x y hS hT hk => d_call (wy rfl rfl (hk 26 rfl)) ent17 (map1 (show x.eval _ = (.agg (insC i)) from (hk 29 rfl))) (ruses_any i y) (fun _ _ ⟨v, he, hG, ho⟩ => ⟨v, he, SM.grow hG, _, ho⟩)) ?_
    refine each_cons (fun x y hS hT hk => d_call (wy rfl rfl (hk 26 rfl)) ent15 (map2 (show x.eval _ = x.tmps.getD 35 undef from rfl) (show x.eval _ = x.tmps.getD 37 undef from rfl)) (ints_any (useF i) (useF i) _ _ y (cu_sl (hk 28 rfl)) (cu_sl (hk 30 rfl)) (use_le i)) (fun _ _ ⟨he, hG⟩ => ⟨.bool true, he.trans (ret_bool (decide_eq_true rfl)), SM.grow hG, rfl⟩)) ?_
    refine each_cons (fun x y hS hT hk => d_pickT (wn rfl) (hk 26 rfl) (hk 31 rfl) ⟨SM.refl _, rfl⟩) ?_
    refine each_cons (fun x y hS hT hk => d_move (wn rfl) (hk 32 rfl) ⟨SM.refl _, rfl⟩) ?_
    refine each_cons (fun x y hS hT hk => d_loadRow (cs := (insC i)) (wy rfl rfl (hk 33 rfl)) (hT.ev rfl) row23 (Blk.sm (w := w4.drew) m7 hS hM49) ⟨SM.refl _, rfl⟩) ?_
    refine each_cons (fun x y hS hT hk => d_call (wy rfl rfl (hk 33 rfl)) ent18 (map1 (show x.eval _ = (.agg (insC i)) from (hk 34 rfl))) (gives_any i y) (fun _ _ ⟨he, hG⟩ => ⟨(.int .i64 (givesF i)), he, SM.grow hG, rfl⟩)) ?_
    refine each_cons (fun x y hS hT hk => d_loadRow (cs := (insC i)) (wy rfl rfl (hk 33 rfl)) (hT.ev rfl) row23 (Blk.sm (w := w4.drew) m7 hS hM49) ⟨SM.refl _, rfl⟩) ?_
    refine each_cons (fun x y hS hT hk => d_call (wy rfl rfl (hk 33 rfl)) ent19 (map1 (show x.eval _ = (.agg (insC i)) from (hk 36 rfl))) (rgives_any i y) (fun _ _ ⟨he, hG⟩ => ⟨(.int .i64 (givesF i)), he, SM.grow hG, rfl⟩)) ?_
    refine each_cons (fun x y hS hT hk => d_bin (wy rfl rfl (hk 33 rfl)) (hk 35 rfl) (hk 37 rfl) (b_eq _ _ (givesF i) (givesF i) true _ (beq_self_eq_true _)) ⟨SM.refl _, rfl⟩) ?_
    refine each_cons (fun x y hS hT hk => d_pickT (wn rfl) (hk 33 rfl) (hk 38 rfl) ⟨SM.refl _, rfl⟩) ?_
    refine each_cons (fun x y hS hT hk => d_assign (wn rfl) (hk 39 rfl) ⟨SM.refl _, rfl⟩) ?_
    exact each_nil
   intro f50 a51 w52 hS53 hC54 hA55
   have hA56 : St 47 [(6, (.bool true))] a51 := hA55.cut _ (fm_cons ((hA55.get 6 _ rfl).trans (hC54 40 (Nat.le_of_ble_eq_true rfl))) fm_nil)
   have m57 := m7.sm hS53 hM49
   have b58 := hS53.below b9 b9.size hM48B
   refine t_norm ?_
   refine wp_ret ?_
   refine ret1 rfl hA56 (v := (.bool true)) rfl ?_
   exact ⟨rfl, b58⟩
  ·skip
   have hA60 : St 47 [(1, (.int .i64 p)), (2, (.int .i64 q)), (3, (.pointer (some ⟨g3, 0, none⟩)))] a12 := hA14.cut _ (fm_cons (hA14.get 1 _ rfl) (fm_cons (hA14.get 2 _ rfl) (fm_cons (hA14.get 3 _ rfl) fm_nil)))
   let M61 : Nat → Option (Array Value) := fun _ => none
   have hM61 : M61 = fun _ => none := rfl
   clear_value M61
   have hM62 : M61 g3 = none := (congrFun hM61 g3)
   have hM61B : ∀ k, k < w.heap.size → M61 k = none := (fun k hk => (congrFun hM61 k))
   refine drawn (S := SM M61) (tabL [cv (.bool true), cv (.bool true), cv (.agg (insC i)), cv (.int .i64 p), cv (.int .i64 q), cv (.int .i64 (rightR i p q)), cv (.agg (insC i)), cv (.int .i64 p), cv (.int .i64 q), cv (.int .i64 (rightR i p q)), cv (.bool true), cv (.bool true), cv (.bool true), cv (.agg (insC i)), cv (.bool false), cv (.agg (insC i)), cv (.bool false), cv (.bool true), cv (.bool true), cv (.bool true), cv (.agg (insC i)), cv (.bool false), cv (.agg (insC i)), cv (.bool false), cv (.bool true), cv (.bool true), cv (.bool true), cv (.agg (insC i)), cu M61 (fun k => congrFun hM61 k) (useF i), cv (.agg (insC i)), cu M61 (fun k => congrFun hM61 k) (useF i), cv (.bool true), cv (.bool true), cv (.bool true), cv (.agg (insC i)), cv (.int .i64 (givesF i)), cv (.agg (insC i)), cv (.int .i64 (givesF i)), cv (.bool true), cv (.bool true), cv (.bool true)]) mixedY SM.refl SM.trans SM.drew hA60 (by kernel_rfl) ?_ ?_
   ·skip
    refine each_cons (fun x y hS hT hk => d_call (wn rfl) ent8 (map0) (able_any y) (fun _ _ ⟨he, hG⟩ => ⟨(.bool true), he, SM.grow hG, rfl⟩)) ?_
    refine each_cons (fun x y hS hT hk => d_move (wn rfl) (hk 0 rfl) ⟨SM.refl _, rfl⟩) ?_
    refine each_cons (fun x y hS hT hk => d_loadRow (cs := (insC i)) (wy rfl rfl (hk 1 rfl)) (hT.ev rfl) row23 (Blk.sm (w := w4.drew) m7 hS hM62) ⟨SM.refl _, rfl⟩) ?_
    refine each_cons (fun x y hS hT hk => d_move (wy rfl rfl (hk 1 rfl)) (hT.ev rfl) ⟨SM.refl _, rfl⟩) ?_
    refine each_cons (fun x y hS hT hk => d_move (wy rfl rfl (hk 1 rfl)) (hT.ev rfl) ⟨SM.refl _, rfl⟩) ?_
    refine each_cons (fun x y hS hT hk => d_call (wy rfl rfl (hk 1 rfl)) ent9 (map3 (show x.eval _ = (.agg (insC i)) from (hk 2 rfl)) (show x.eval _ = (.int .i64 p) from (hk 3 rfl)) (show x.eval _ = (.int .i64 q) from (hk 4 rfl))) (right_any i p q y) (fun _ _ ⟨he, hG⟩ => ⟨(.int .i64 (rightR i p q)), he, SM.grow hG, rfl⟩)) ?_
    refine each_cons (fun x y hS hT hk => d_loadRow (cs := (insC i)) (wy rfl rfl (hk 1 rfl)) (hT.ev rfl) row23 (Blk.sm (w := w4.drew) m7 hS hM62) ⟨SM.refl _, rfl⟩) ?_
    refine each_cons (fun x y hS hT hk => d_move (wy rfl rfl (hk 1 rfl)) (hT.ev rfl) ⟨SM.refl _, rfl⟩) ?_
    refine each_cons (fun x y hS hT hk => d_move (wy rfl rfl (hk 1 rfl)) (hT.ev rfl) ⟨SM.refl _, rfl⟩) ?_
    refine each_cons (fun x y hS hT hk => d_call (wy rfl rfl (hk 1 rfl)) ent10 (map3 (show x.eval _ = (.agg (insC i)) from (hk 6 rfl)) (show x.eval _ = (.int .i64 p) from (hk 7 rfl)) (show x.eval _ = (.int .i64 q) from (hk 8 rfl))) (rright_any i p q y) (fun _ _ ⟨he, hG⟩ => ⟨(.int .i64 (rightR i p q)), he, SM.grow hG, rfl⟩)) ?_
    refine each_cons (fun x y hS hT hk => d_bin (wy rfl rfl (hk 1 rfl)) (hk 5 rfl) (hk 9 rfl) (b_eq _ _ (rightR i p q) (rightR i p q) true _ (beq_self_eq_true _)) ⟨SM.refl _, rfl⟩) ?_
    refine each_cons (fun x y hS hT hk => d_pickT (wn rfl) (hk 1 rfl) (hk 10 rfl) ⟨SM.refl _, rfl⟩) ?_
    refine each_cons (fun x y hS hT hk => d_move (wn rfl) (hk 11 rfl) ⟨SM.refl _, rfl⟩) ?_
    refine each_cons (fun x y hS hT hk => d_loadRow (cs := (insC i)) (wy rfl rfl (hk 12 rfl)) (hT.ev rfl) row23 (Blk.sm (w := w4.drew) m7 hS hM62) ⟨SM.refl _, rfl⟩) ?_
    refine each_cons (fun x y hS hT hk => d_call (wy rfl rfl (hk 12 rfl)) ent11 (map1 (show x.eval _ = (.agg (insC i)) from (hk 13 rfl))) (reads_any i y) (fun _ _ ⟨he, hG⟩ => ⟨(.bool false), (he.trans (ret_bool hb15)), SM.grow hG, rfl⟩)) ?_
    refine each_cons (fun x y hS hT hk => d_loadRow (cs := (insC i)) (wy rfl rfl (hk 12 rfl)) (hT.ev rfl) row23 (Blk.sm (w := w4.drew) m7 hS hM62) ⟨SM.refl _, rfl⟩) ?_
    refine each_cons (fun x y hS hT hk => d_call (wy rfl rfl (hk 12 rfl)) ent12 (map1 (show x.eval _ = (.agg (insC i)) from (hk 15 rfl))) (rreads_any i y) (fun _ _ ⟨he, hG⟩ => ⟨(.bool false), (he.trans (ret_bool hb15)), SM.grow hG, rfl⟩)) ?_
    refine each_cons (fun x y hS hT hk => d_bin (wy rfl rfl (hk 12 rfl)) (hk 14 rfl) (hk 16 rfl) (b_eqb _ _ false false true _ Try.underlying4 rfl) ⟨SM.refl _, rfl⟩) ?_
    refine each_cons (fun x y hS hT hk => d_pickT (wn rfl) (hk 12 rfl) (hk 17 rfl) ⟨SM.refl _, rfl⟩) ?_
    refine each_cons (fun x y hS hT hk => d_move (wn rfl) (hk 18 rfl) ⟨SM.refl _, rfl⟩) ?_
    refine each_cons (fun x y hS hT hk => d_loadRow (cs := (insC i)) (wy rfl rfl (hk 19 rfl)) (hT.ev rfl) row23 (Blk.sm (w := w4.drew) m7 hS hM62) ⟨SM.refl _, rfl⟩) ?_
    refine each_cons (fun x y hS hT hk => d_call (wy rfl rfl (hk 19 rfl)) ent13 (map1 (show x.eval _ = (.agg (insC i)) from (hk 20 rfl))) (writes_any i y) (fun _ _ ⟨he, hG⟩ => ⟨(.bool false), (he.trans (ret_bool hb45)), SM.grow hG, rfl⟩)) ?_
    refine each_cons (fun x y hS hT hk => d_loadRow (cs := (insC i)) (wy rfl rfl (hk 19 rfl)) (hT.ev rfl) row23 (Blk.sm (w := w4.drew) m7 hS hM62) ⟨SM.refl _, rfl⟩) ?_
    refine each_cons (fun x y hS hT hk => d_call (wy rfl rfl (hk 19 rfl)) ent14 (map1 (show x.eval _ = (.agg (insC i)) from (hk 22 rfl))) (rwrites_any i y) (fun _ _ ⟨he, hG⟩ => ⟨(.bool false), (he.trans (ret_bool hb45)), SM.grow hG, rfl⟩)) ?_
    refine each_cons (fun x y hS hT hk => d_bin (wy rfl rfl (hk 19 rfl)) (hk 21 rfl) (hk 23 rfl) (b_eqb _ _ false false true _ Try.underlying4 rfl) ⟨SM.refl _, rfl⟩) ?_
    refine each_cons (fun x y hS hT hk => d_pickT (wn rfl) (hk 19 rfl) (hk 24 rfl) ⟨SM.refl _, rfl⟩) ?_
    refine each_cons (fun x y hS hT hk => d_move (wn rfl) (hk 25 rfl) ⟨SM.refl _, rfl⟩) ?_
    refine each_cons (fun x y hS hT hk => d_loadRow (cs := (insC i)) (wy rfl rfl (hk 26 rfl)) (hT.ev rfl) row23 (Blk.sm (w := w4.drew) m7 hS hM62) ⟨SM.refl _, rfl⟩) ?_
    refine each_cons (fun x y hS hT hk => d_call (wy rfl rfl (hk 26 rfl)) ent16 (map1 (show x.eval _ = (.agg (insC i)) from (hk 27 rfl))) (uses_any i y) (fun _ _ ⟨v, he, hG, ho⟩ => ⟨v, he, SM.grow hG, _, ho⟩)) ?_
    refine each_cons (fun x y hS hT hk => d_loadRow (cs := (insC i)) (wy rfl rfl (hk 26 rfl)) (hT.ev rfl) row23 (Blk.sm (w := w4.drew) m7 hS hM62) ⟨SM.refl _, rfl⟩) ?_
    refine each_cons (fun x y hS hT hk => d_call (wy rfl rfl (hk 26 rfl)) ent17 (map1 (show x.eval _ = (.agg (insC i)) from (hk 29 rfl))) (ruses_any i y) (fun _ _ ⟨v, he, hG, ho⟩ => ⟨v, he, SM.grow hG, _, ho⟩)) ?_
    refine each_cons (fun x y hS hT hk => d_call (wy rfl rfl (hk 26 rfl)) ent15 (map2 (show x.eval _ = x.tmps.getD 35 undef from rfl) (show x.eval _ = x.tmps.getD 37 undef from rfl)) (ints_any (useF i) (useF i) _ _ y (cu_sl (hk 28 rfl)) (cu_sl (hk 30 rfl)) (use_le i)) (fun _ _ ⟨he, hG⟩ => ⟨.bool true, he.trans (ret_bool (decide_eq_true rfl)), SM.grow hG, rfl⟩)) ?_
    refine each_cons (fun x y hS hT hk => d_pickT (wn rfl) (hk 26 rfl) (hk 31 rfl) ⟨SM.refl _, rfl⟩) ?_
    refine each_cons (fun x y hS hT hk => d_move (wn rfl) (hk 32 rfl) ⟨SM.refl _, rfl⟩) ?_
    refine each_cons (fun x y hS hT hk => d_loadRow (cs := (insC i)) (wy rfl rfl (hk 33 rfl)) (hT.ev rfl) row23 (Blk.sm (w := w4.drew) m7 hS hM62) ⟨SM.refl _, rfl⟩) ?_
    refine each_cons (fun x y hS hT hk => d_call (wy rfl rfl (hk 33 rfl)) ent18 (map1 (show x.eval _ = (.agg (insC i)) from (hk 34 rfl))) (gives_any i y) (fun _ _ ⟨he, hG⟩ => ⟨(.int .i64 (givesF i)), he, SM.grow hG, rfl⟩)) ?_
    refine each_cons (fun x y hS hT hk => d_loadRow (cs := (insC i)) (wy rfl rfl (hk 33 rfl)) (hT.ev rfl) row23 (Blk.sm (w := w4.drew) m7 hS hM62) ⟨SM.refl _, rfl⟩) ?_
    refine each_cons (fun x y hS hT hk => d_call (wy rfl rfl (hk 33 rfl)) ent19 (map1 (show x.eval _ = (.agg (insC i)) from (hk 36 rfl))) (rgives_any i y) (fun _ _ ⟨he, hG⟩ => ⟨(.int .i64 (givesF i)), he, SM.grow hG, rfl⟩)) ?_
    refine each_cons (fun x y hS hT hk => d_bin (wy rfl rfl (hk 33 rfl)) (hk 35 rfl) (hk 37 rfl) (b_eq _ _ (givesF i) (givesF i) true _ (beq_self_eq_true _)) ⟨SM.refl _, rfl⟩) ?_
    refine each_cons (fun x y hS hT hk => d_pickT (wn rfl) (hk 33 rfl) (hk 38 rfl) ⟨SM.refl _, rfl⟩) ?_
    refine each_cons (fun x y hS hT hk => d_assign (wn rfl) (hk 39 rfl) ⟨SM.refl _, rfl⟩) ?_
    exact each_nil
   intro f63 a64 w65 hS66 hC67 hA68
   have hA69 : St 47 [(6, (.bool true))] a64 := hA68.cut _ (fm_cons ((hA68.get 6 _ rfl).trans (hC67 40 (Nat.le_of_ble_eq_true rfl))) fm_nil)
   have m70 := m7.sm hS66 hM62
   have b71 := hS66.below b9 b9.size hM61B
   refine t_norm ?_
   refine wp_ret ?_
   refine ret1 rfl hA69 (v := (.bool true)) rfl ?_
   exact ⟨rfl, b71⟩
end Go.Proofs.Ytlhompedcphnnaa
