/- Contracts of functions on single instructions. -/
import Derived.Test.YtlhompedcphnnaaUirChecksP1
namespace Go.Proofs.Ytlhompedcphnnaa
open Go.RowKit
set_option linter.unusedSimpArgs false
set_option linter.unusedVariables false
set_option maxHeartbeats 4000000 in
set_option maxRecDepth 4000 in
theorem plain_any (i : Ins) (w : World) : Calls Try.prog 28 #[.agg (insC i)] w fun e w' => e = .returned (.agg (insC (plainF i))) ∧ Grow w w' := by
 have b0 : Below w.heap.size w w := Below.refl _ _
 refine enter (n := 119) Try.func28 rfl rfl (Nat.le_of_ble_eq_true rfl) ?_
 intro a1 hA2
 refine wp_seq ?_
 refine wp_region_lit ?_
 refine q_step hA2 rfl (d_box (wn rfl) (hA2.ev rfl) ?_)
 intro g3 w4 eg5 hG6 (m7 : Blk w4 g3 (insC i) 23)
 have ge8 : w.heap.size ≤ g3 := eg5 ▸ b0.size
 have b9 := below_grow b0 hG6 b0.size
 intro a10 hA11
 refine q_step hA11 rfl (d_alloc (wn rfl) zero23 ?_)
 intro g12 w13 eg14 hG15 (m16 : Blk w13 g12 #[.int .i64 0, .int .i64 0, .int .i64 0, .int .i64 0, .int .i64 0, .int .i64 0, .int .i64 0, .int .i64 0, .int .i64 0, .int .i64 0, .bool false, .bool false, .bool false, .int .i64 0, .int .i64 0, .int .i64 0, .bool false] 23)
 have ge17 : w.heap.size ≤ g12 := eg14 ▸ b9.size
 have n18 : g3 ≠ g12 := fun h => Nat.lt_irrefl _ ((h.trans eg14) ▸ m7.lt)
 have m19 := m7.grow hG15
 have b20 := below_grow b9 hG15 b9.size
 intro a21 hA22
 refine q_end ?_
 have hA23 : St 119 [(1, (.pointer (some ⟨g3, 0, none⟩))), (2, (.pointer (some ⟨g12, 0, none⟩)))] a21 := hA22.cut _ (fm_cons (hA22.get 1 _ rfl) (fm_cons (hA22.get 2 _ rfl) fm_nil))
 refine t_norm ?_
 refine wp_seq ?_
 refine wp_region_lit ?_
 refine q_step hA23 rfl (d_fieldAddr (wn rfl) (hA23.ev rfl) fo23_0 ?_)
 intro a24 hA25
 refine q_step hA25 rfl (d_load (v := (.int .i64 i.op)) (wn rfl) (hA25.ev rfl) one3 (m19.cell rfl) ?_)
 intro a26 hA27
 refine q_step hA27 rfl (d_build (cs := #[.int .i64 i.op, .int .i64 (-1), .int .i64 (-1), .int .i64 (-1), .int .i64 0, .int .i64 0, .int .i64 0, .int .i64 (-1), .int .i64 0, .int .i64 0, .bool false, .bool false, .bool false, .int .i64 0, .int .i64 0, .int .i64 0, .bool false]) (wn rfl) (bp_of (bq_cons (hA27.ev rfl) (bq_cons (hA27.ev rfl) (bq_cons (hA27.ev rfl) (bq_cons (hA27.ev rfl) (bq_cons (hA27.ev rfl) bq_nil)))))) zero23 places23 (by kernel_rfl) ?_)
 intro a28 hA29
 refine q_step hA29 rfl (d_alloc (wn rfl) zero23 ?_)
 intro g30 w31 eg32 hG33 (m34 : Blk w31 g30 #[.int .i64 0, .int .i64 0, .int .i64 0, .int .i64 0, .int .i64 0, .int .i64 0, .int .i64 0, .int .i64 0, .int .i64 0, .int .i64 0, .bool false, .bool false, .bool false, .int .i64 0, .int .i64 0, .int .i64 0, .bool false] 23)
 have ge35 : w.heap.size ≤ g30 := eg32 ▸ b20.size
 have n36 : g3 ≠ g30 := fun h => Nat.lt_irrefl _ ((h.trans eg32) ▸ m19.lt)
 have n37 : g12 ≠ g30 := fun h => Nat.lt_irrefl _ ((h.trans eg32) ▸ m16.lt)
 have m38 := m19.grow hG33
 have m39 := m16.grow hG33
 have b40 := below_grow b20 hG33 b20.size
 intro a41 hA42
 refine q_step hA42 rfl (d_storeRow (wn rfl) (hA42.ev rfl) (hA42.ev rfl) row23 m34 rfl rfl ?_)
 intro w43 hU44 (m45 : Blk w43 g30 #[.int .i64 i.op, .int .i64 (-1), .int .i64 (-1), .int .i64 (-1), .int .i64 0, .int .i64 0, .int .i64 0, .int .i64 (-1), .int .i64 0, .int .i64 0, .bool false, .bool false, .bool false, .int .i64 0, .int .i64 0, .int .i64 0, .bool false] 23)
 have m46 := m38.upd hU44 n36
 have m47 := m39.upd hU44 n37
 have b48 := hU44.below b40 ge35
 intro a49 hA50
 refine q_end ?_
 have hA51 : St 119 [(1, (.pointer (some ⟨g3, 0, none⟩))), (2, (.pointer (some ⟨g12, 0, none⟩))), (3, (.pointer (some ⟨g30, 0, none⟩)))] a49 := hA50.cut _ (fm_cons (hA50.get 1 _ rfl) (fm_cons (hA50.get 2 _ rfl) (fm_cons (hA50.get 3 _ rfl) fm_nil)))
 refine t_norm ?_
 refine wp_seq ?_
 refine wp_seq ?_
 refine wp_region_lit ?_
 refine q_step hA51 rfl (d_fieldAddr (wn rfl) (hA51.ev rfl) fo23_0 ?_)
 intro a52 hA53
 refine q_step hA53 rfl (d_load (v := (.int .i64 i.op)) (wn rfl) (hA53.ev rfl) one3 (m46.cell rfl) ?_)
 intro a54 hA55
 refine q_end ?_
 have hA56 : St 119 [(1, (.pointer (some ⟨g3, 0, none⟩))), (2, (.pointer (some ⟨g12, 0, none⟩))), (3, (.pointer (some ⟨g30, 0, none⟩))), (8, (.int .i64 i.op))] a54 := hA55.cut _ (fm_cons (hA55.get 1 _ rfl) (fm_cons (hA55.get 2 _ rfl) (fm_cons (hA55.get 3 _ rfl) (fm_cons (hA55.get 8 _ rfl) fm_nil))))
 refine t_norm ?_
 refine wp_block ?_
 refine wp_seq ?_
 refine wp_region_lit ?_
 rcases Bool.eq_false_or_eq_true (i.op == 1) with hb57 | hb57
 ·skip
  have hq58 := eq_of_beq hb57
  refine q_step hA56 rfl (d_bin (wn rfl) (hA56.ev rfl) (hA56.ev rfl) (b_eq _ _ i.op 1 true _ hb57) ?_)
  intro a59 hA60
  refine q_step hA60 rfl (d_assign (wn rfl) (hA60.ev rfl) ?_)
  intro a61 hA62
  refine q_end ?_
  have hA63 : St 119 [(1, (.pointer (some ⟨g3, 0, none⟩))), (2, (.pointer (some ⟨g12, 0, none⟩))), (3, (.pointer (some ⟨g30, 0, none⟩))), (8, (.int .i64 i.op)), (9, (.bool true))] a61 := hA62.cut _ (fm_cons (hA62.get 1 _ rfl) (fm_cons (hA62.get 2 _ rfl) (fm_cons (hA62.get 3 _ rfl) (fm_cons (hA62.get 8 _ rfl) (fm_cons (hA62.get 9 _ rfl) fm_nil)))))
  refine t_norm ?_
  refine c_true hA63 rfl ?_
  have hA64 : St 119 [(1, (.pointer (some ⟨g3, 0, none⟩))), (2, (.pointer (some ⟨g12, 0, none⟩))), (3, (.pointer (some ⟨g30, 0, none⟩)))] a61 := hA63.cut _ (fm_cons (hA63.get 1 _ rfl) (fm_cons (hA63.get 2 _ rfl) (fm_cons (hA63.get 3 _ rfl) fm_nil)))
  let M65 : Nat → Option (Array Value) := fun k => if k = g30 then some #[.int .i64 i.op, .int .i64 i.dst, .int .i64 (-1), .int .i64 (-1), .int .i64 i.imm, .int .i64 0, .int .i64 0, .int .i64 (-1), .int .i64 0, .int .i64 0, .bool false, .bool false, .bool false, .int .i64 0, .int .i64 0, .int .i64 0, .bool false] else none
  have hM65 : M65 = fun k => if k = g30 then some #[.int .i64 i.op, .int .i64 i.dst, .int .i64 (-1), .int .i64 (-1), .int .i64 i.imm, .int .i64 0, .int .i64 0, .int .i64 (-1), .int .i64 0, .int .i64 0, .bool false, .bool false, .bool false, .int .i64 0, .int .i64 0, .int .i64 0, .bool false] else none := rfl
  clear_value M65
  have hM66 : M65 g3 = none := ((congrFun hM65 g3).trans (if_neg n36))
  have hM67 : M65 g12 = none := ((congrFun hM65 g12).trans (if_neg n37))
  have hM68 : M65 g30 = some #[.int .i64 i.op, .int .i64 i.dst, .int .i64 (-1), .int .i64 (-1), .int .i64 i.imm, .int .i64 0, .int .i64 0, .int .i64 (-1), .int .i64 0, .int .i64 0, .bool false, .bool false, .bool false, .int .i64 0, .int .i64 0, .int .i64 0, .bool false] := ((congrFun hM65 g30).trans (if_pos rfl))
  have hM65B : ∀ k, k < w.heap.size → M65 k = none := (fun k hk => (congrFun hM65 k).trans (if_neg (fun h => Nat.lt_irrefl _ (Nat.lt_of_lt_of_le (h ▸ hk) ge35))))
  refine drawn (S := SM M65) (tabL [cv (.pointer (some ⟨g3, 1, none⟩)), cv (.int .i64 i.dst), cv (.pointer (some ⟨g3, 4, none⟩)), cv (.int .i64 i.imm), cv (.pointer (some ⟨g30, 1, none⟩)), cm M65 g30 1 (.int .i64 i.dst) ⟨_, hM68, rfl⟩, cv (.pointer (some ⟨g30, 4, none⟩)), cm M65 g30 4 (.int .i64 i.imm) ⟨_, hM68, rfl⟩]) mixedY SM.refl SM.trans SM.drew hA64 (by kernel_rfl) ?_ ?_
  ·skip
   refine each_cons (fun x y hS hT hk => d_fieldAddr (wn rfl) (hT.ev rfl) fo23_1 ⟨SM.refl _, rfl⟩) ?_
   refine each_cons (fun x y hS hT hk => d_load (v := (.int .i64 i.dst)) (wn rfl) (hk 0 rfl) one3 ((Blk.sm (w := w43.drew) m46 hS hM66).cell rfl) ⟨SM.refl _, rfl⟩) ?_
   refine each_cons (fun x y hS hT hk => d_fieldAddr (wn rfl) (hT.ev rfl) fo23_4 ⟨SM.refl _, rfl⟩) ?_
   refine each_cons (fun x y hS hT hk => d_load (v := (.int .i64 i.imm)) (wn rfl) (hk 2 rfl) one3 ((Blk.sm (w := w43.drew) m46 hS hM66).cell rfl) ⟨SM.refl _, rfl⟩) ?_
   refine each_cons (fun x y hS hT hk => d_fieldAddr (wn rfl) (hT.ev rfl) fo23_1 ⟨SM.refl _, rfl⟩) ?_
   refine each_cons (fun x y hS hT hk => d_storeM (v := (.int .i64 i.dst)) (w0 := w43.drew) (wn rfl) (hk 4 rfl) (hk 1 rfl) one3 rfl hS hM68 m45 (Nat.le_of_ble_eq_true rfl) rfl (fun _ h => h)) ?_
   refine each_cons (fun x y hS hT hk => d_fieldAddr (wn rfl) (hT.ev rfl) fo23_4 ⟨SM.refl _, rfl⟩) ?_
   refine each_cons (fun x y hS hT hk => d_storeM (v := (.int .i64 i.imm)) (w0 := w43.drew) (wn rfl) (hk 6 rfl) (hk 3 rfl) one3 rfl hS hM68 m45 (Nat.le_of_ble_eq_true rfl) rfl (fun _ h => h)) ?_
   exact each_nil
  intro f69 a70 w71 hS72 hC73 hA74
  have hA75 : St 119 [(1, (.pointer (some ⟨g3, 0, none⟩))), (2, (.pointer (some ⟨g12, 0, none⟩))), (3, (.pointer (some ⟨g30, 0, none⟩)))] a70 := hA74.cut _ (fm_cons (hA74.get 1 _ rfl) (fm_cons (hA74.get 2 _ rfl) (fm_cons (hA74.get 3 _ rfl) fm_nil)))
  have m76 := m46.sm hS72 hM66
  have m77 := m47.sm hS72 hM67
  have m78 : Blk w71 g30 #[.int .i64 i.op, .int .i64 i.dst, .int .i64 (-1), .int .i64 (-1), .int .i64 i.imm, .int .i64 0, .int .i64 0, .int .i64 (-1), .int .i64 0, .int .i64 0, .bool false, .bool false, .bool false, .int .i64 0, .int .i64 0, .int .i64 0, .bool false] 23 := hS72.finL [(1, (.int .i64 i.dst)), (4, (.int .i64 i.imm))] hM68 (by kernel_rfl) m45 (fm_cons (hC73 5 (Nat.le_of_ble_eq_true rfl)) (fm_cons (hC73 7 (Nat.le_of_ble_eq_true rfl)) fm_nil))
  have b79 := hS72.below b48 b48.size hM65B
  refine i_norm ?_
  refine t_norm ?_
  refine wp_seq ?_
  refine wp_seq ?_
  refine wp_region_lit ?_
  refine q_step hA75 rfl (d_loadRow (cs := (insC i)) (wn rfl) (hA75.ev rfl) row23 m76 ?_)
  intro a80 hA81
  refine q_step hA81 rfl (d_call (wn rfl) ent35 (map1 (hA81.ev rfl)) (isOp_any i w71) ?_)
  rintro e85 w82 ⟨he84, hG83⟩
  have m86 := m76.grow hG83
  have m87 := m77.grow hG83
  have m88 := m78.grow hG83
  have b89 := below_grow b79 hG83 b79.size
  refine ⟨.bool false, he84.trans (ret_bool (by simp [opB, rdB, wrB, eq_of_beq hb57])), ?_⟩
  intro a90 hA91
  refine q_end ?_
  have hA92 : St 119 [(1, (.pointer (some ⟨g3, 0, none⟩))), (2, (.pointer (some ⟨g12, 0, none⟩))), (3, (.pointer (some ⟨g30, 0, none⟩))), (105, (.bool false))] a90 := hA91.cut _ (fm_cons (hA91.get 1 _ rfl) (fm_cons (hA91.get 2 _ rfl) (fm_cons (hA91.get 3 _ rfl) (fm_cons (hA91.get 105 _ rfl) fm_nil))))
  refine t_norm ?_
  refine c_false hA92 rfl ?_
  refine wp_skip ?_
  refine t_norm ?_
  refine wp_seq ?_
  refine wp_region_lit ?_
  refine q_step hA92 rfl (d_loadRow (cs := #[.int .i64 i.op, .int .i64 i.dst, .int .i64 (-1), .int .i64 (-1), .int .i64 i.imm, .int .i64 0, .int .i64 0, .int .i64 (-1), .int .i64 0, .int .i64 0, .bool false, .bool false, .bool false, .int .i64 0, .int .i64 0, .int .i64 0, .bool false]) (wn rfl) (hA92.ev rfl) row23 m88 ?_)
  intro a93 hA94
  refine q_step hA94 rfl (d_storeRow (wn rfl) (hA94.ev rfl) (hA94.ev rfl) row23 m87 rfl rfl ?_)
  intro w95 hU96 (m97 : Blk w95 g12 #[.int .i64 i.op, .int .i64 i.dst, .int .i64 (-1), .int .i64 (-1), .int .i64 i.imm, .int .i64 0, .int .i64 0, .int .i64 (-1), .int .i64 0, .int .i64 0, .bool false, .bool false, .bool false, .int .i64 0, .int .i64 0, .int .i64 0, .bool false] 23)
  have m98 := m86.upd hU96 n18
  have m99 := m88.upd hU96 (Ne.symm n37)
  have b100 := hU96.below b89 ge17
  intro a101 hA102
  refine q_end ?_
  have hA103 : St 119 [(2, (.pointer (some ⟨g12, 0, none⟩)))] a101 := hA102.cut _ (fm_cons (hA102.get 2 _ rfl) fm_nil)
  refine t_norm ?_
  refine wp_ret ?_
  refine retRow (g := g12) (cs := #[.int .i64 i.op, .int .i64 i.dst, .int .i64 (-1), .int .i64 (-1), .int .i64 i.imm, .int .i64 0, .int .i64 0, .int .i64 (-1), .int .i64 0, .int .i64 0, .bool false, .bool false, .bool false, .int .i64 0, .int .i64 0, .int .i64 0, .bool false]) rfl hA103 rfl m97 row23 ?_
  exact ⟨ret_agg (by simp [insC, plainF, opB, rdB, wrB, eq_of_beq hb57]), b100⟩
 ·skip
  have hq104 := ne_of_beq hb57
  refine q_step hA56 rfl (d_bin (wn rfl) (hA56.ev rfl) (hA56.ev rfl) (b_eq _ _ i.op 1 false _ hb57) ?_)
  intro a105 hA106
  refine q_step hA106 rfl (d_assign (wn rfl) (hA106.ev rfl) ?_)
  intro a107 hA108
  refine q_end ?_
  have hA109 : St 119 [(1, (.pointer (some ⟨g3, 0, none⟩))), (2, (.pointer (some ⟨g12, 0, none⟩))), (3, (.pointer (some ⟨g30, 0, none⟩))), (8, (.int .i64 i.op)), (9, (.bool false))] a107 := hA108.cut _ (fm_cons (hA108.get 1 _ rfl) (fm_cons (hA108.get 2 _ rfl) (fm_cons (hA108.get 3 _ rfl) (fm_cons (hA108.get 8 _ rfl) (fm_cons (hA108.get 9 _ rfl) fm_nil)))))
  refine t_norm ?_
  refine c_false hA109 rfl ?_
  refine wp_seq ?_
  refine wp_region_lit ?_
  rcases Bool.eq_false_or_eq_true (i.op == 2) with hb110 | hb110
  ·skip
   have hq111 := eq_of_beq hb110
   refine q_step hA109 rfl (d_bin (wn rfl) (hA109.ev rfl) (hA109.ev rfl) (b_eq _ _ i.op 2 true _ hb110) ?_)
   intro a112 hA113
   refine q_step hA113 rfl (d_assign (wn rfl) (hA113.ev rfl) ?_)
   intro a114 hA115
   refine q_end ?_
   have hA116 : St 119 [(1, (.pointer (some ⟨g3, 0, none⟩))), (2, (.pointer (some ⟨g12, 0, none⟩))), (3, (.pointer (some ⟨g30, 0, none⟩))), (8, (.int .i64 i.op)), (17, (.bool true))] a114 := hA115.cut _ (fm_cons (hA115.get 1 _ rfl) (fm_cons (hA115.get 2 _ rfl) (fm_cons (hA115.get 3 _ rfl) (fm_cons (hA115.get 8 _ rfl) (fm_cons (hA115.get 17 _ rfl) fm_nil)))))
   refine t_norm ?_
   refine c_true hA116 rfl ?_
   have hA117 : St 119 [(1, (.pointer (some ⟨g3, 0, none⟩))), (2, (.pointer (some ⟨g12, 0, none⟩))), (3, (.pointer (some ⟨g30, 0, none⟩)))] a114 := hA116.cut _ (fm_cons (hA116.get 1 _ rfl) (fm_cons (hA116.get 2 _ rfl) (fm_cons (hA116.get 3 _ rfl) fm_nil)))
   let M118 : Nat → Option (Array Value) := fun k => if k = g30 then some #[.int .i64 i.op, .int .i64 i.dst, .int .i64 i.a, .int .i64 (-1), .int .i64 0, .int .i64 0, .int .i64 0, .int .i64 (-1), .int .i64 0, .int .i64 0, .bool false, .bool false, .bool false, .int .i64 0, .int .i64 0, .int .i64 0, .bool false] else none
   have hM118 : M118 = fun k => if k = g30 then some #[.int .i64 i.op, .int .i64 i.dst, .int .i64 i.a, .int .i64 (-1), .int .i64 0, .int .i64 0, .int .i64 0, .int .i64 (-1), .int .i64 0, .int .i64 0, .bool false, .bool false, .bool false, .int .i64 0, .int .i64 0, .int .i64 0, .bool false] else none := rfl
   clear_value M118
   have hM119 : M118 g3 = none := ((congrFun hM118 g3).trans (if_neg n36))
   have hM120 : M118 g12 = none := ((congrFun hM118 g12).trans (if_neg n37))
   have hM121 : M118 g30 = some #[.int .i64 i.op, .int .i64 i.dst, .int .i64 i.a, .int .i64 (-1), .int .i64 0, .int .i64 0, .int .i64 0, .int .i64 (-1), .int .i64 0, .int .i64 0, .bool false, .bool false, .bool false, .int .i64 0, .int .i64 0, .int .i64 0, .bool false] := ((congrFun hM118 g30).trans (if_pos rfl))
   have hM118B : ∀ k, k < w.heap.size → M118 k = none := (fun k hk => (congrFun hM118 k).trans (if_neg (fun h => Nat.lt_irrefl _ (Nat.lt_of_lt_of_le (h ▸ hk) ge35))))
   refine drawn (S := SM M118) (tabL [cv (.pointer (some ⟨g3, 1, none⟩)), cv (.int .i64 i.dst), cv (.pointer (some ⟨g3, 2, none⟩)), cv (.int .i64 i.a), cv (.pointer (some ⟨g30, 1, none⟩)), cm M118 g30 1 (.int .i64 i.dst) ⟨_, hM121, rfl⟩, cv (.pointer (some ⟨g30, 2, none⟩)), cm M118 g30 2 (.int .i64 i.a) ⟨_, hM121, rfl⟩]) mixedY SM.refl SM.trans SM.drew hA117 (by kernel_rfl) ?_ ?_
   ·skip
    refine each_cons (fun x y hS hT hk => d_fieldAddr (wn rfl) (hT.ev rfl) fo23_1 ⟨SM.refl _, rfl⟩) ?_
    refine each_cons (fun x y hS hT hk => d_load (v := (.int .i64 i.dst)) (wn rfl) (hk 0 rfl) one3 ((Blk.sm (w := w43.drew) m46 hS hM119).cell rfl) ⟨SM.refl _, rfl⟩) ?_
    refine each_cons (fun x y hS hT hk => d_fieldAddr (wn rfl) (hT.ev rfl) fo23_2 ⟨SM.refl _, rfl⟩) ?_
    refine each_cons (fun x y hS hT hk => d_load (v := (.int .i64 i.a)) (wn rfl) (hk 2 rfl) one3 ((Blk.sm (w := w43.drew) m46 hS hM119).cell rfl) ⟨SM.refl _, rfl⟩) ?_
    refine each_cons (fun x y hS hT hk => d_fieldAddr (wn rfl) (hT.ev rfl) fo23_1 ⟨SM.refl _, rfl⟩) ?_
    refine each_cons (fun x y hS hT hk => d_storeM (v := (.int .i64 i.dst)) (w0 := w43.drew) (wn rfl) (hk 4 rfl) (hk 1 rfl) one3 rfl hS hM121 m45 (Nat.le_of_ble_eq_true rfl) rfl (fun _ h => h)) ?_
    refine each_cons (fun x y hS hT hk => d_fieldAddr (wn rfl) (hT.ev rfl) fo23_2 ⟨SM.refl _, rfl⟩) ?_
    refine each_cons (fun x y hS hT hk => d_storeM (v := (.int .i64 i.a)) (w0 := w43.drew) (wn rfl) (hk 6 rfl) (hk 3 rfl) one3 rfl hS hM121 m45 (Nat.le_of_ble_eq_true rfl) rfl (fun _ h => h)) ?_
    exact each_nil
   intro f122 a123 w124 hS125 hC126 hA127
   have hA128 : St 119 [(1, (.pointer (some ⟨g3, 0, none⟩))), (2, (.pointer (some ⟨g12, 0, none⟩))), (3, (.pointer (some ⟨g30, 0, none⟩)))] a123 := hA127.cut _ (fm_cons (hA127.get 1 _ rfl) (fm_cons (hA127.get 2 _ rfl) (fm_cons (hA127.get 3 _ rfl) fm_nil)))
   have m129 := m46.sm hS125 hM119
   have m130 := m47.sm hS125 hM120
   have m131 : Blk w124 g30 #[.int .i64 i.op, .int .i64 i.dst, .int .i64 i.a, .int .i64 (-1), .int .i64 0, .int .i64 0, .int .i64 0, .int .i64 (-1), .int .i64 0, .int .i64 0, .bool false, .bool false, .bool false, .int .i64 0, .int .i64 0, .int .i64 0, .bool false] 23 := hS125.finL [(1, (.int .i64 i.dst)), (2, (.int .i64 i.a))] hM121 (by kernel_rfl) m45 (fm_cons (hC126 5 (Nat.le_of_ble_eq_true rfl)) (fm_cons (hC126 7 (Nat.le_of_ble_eq_true rfl)) fm_nil))
   have b132 := hS125.below b48 b48.size hM118B
   refine i_norm ?_
   refine t_norm ?_
   refine wp_seq ?_
   refine wp_seq ?_
   refine wp_region_lit ?_
   refine q_step hA128 rfl (d_loadRow (cs := (insC i)) (wn rfl) (hA128.ev rfl) row23 m129 ?_)
   intro a133 hA134
   refine q_step hA134 rfl (d_call (wn rfl) ent35 (map1 (hA134.ev rfl)) (isOp_any i w124) ?_)
   rintro e138 w135 ⟨he137, hG136⟩
   have m139 := m129.grow hG136
   have m140 := m130.grow hG136
   have m141 := m131.grow hG136
   have b142 := below_grow b132 hG136 b132.size
   refine ⟨.bool false, he137.trans (ret_bool (by simp [opB, rdB, wrB, eq_of_beq hb110])), ?_⟩
   intro a143 hA144
   refine q_end ?_
   have hA145 : St 119 [(1, (.pointer (some ⟨g3, 0, none⟩))), (2, (.pointer (some ⟨g12, 0, none⟩))), (3, (.pointer (some ⟨g30, 0, none⟩))), (105, (.bool false))] a143 := hA144.cut _ (fm_cons (hA144.get 1 _ rfl) (fm_cons (hA144.get 2 _ rfl) (fm_cons (hA144.get 3 _ rfl) (fm_cons (hA144.get 105 _ rfl) fm_nil))))
   refine t_norm ?_
   refine c_false hA145 rfl ?_
   refine wp_skip ?_
   refine t_norm ?_
   refine wp_seq ?_
   refine wp_region_lit ?_
   refine q_step hA145 rfl (d_loadRow (cs := #[.int .i64 i.op, .int .i64 i.dst, .int .i64 i.a, .int .i64 (-1), .int .i64 0, .int .i64 0, .int .i64 0, .int .i64 (-1), .int .i64 0, .int .i64 0, .bool false, .bool false, .bool false, .int .i64 0, .int .i64 0, .int .i64 0, .bool false]) (wn rfl) (hA145.ev rfl) row23 m141 ?_)
   intro a146 hA147
   refine q_step hA147 rfl (d_storeRow (wn rfl) (hA147.ev rfl) (hA147.ev rfl) row23 m140 rfl rfl ?_)
   intro w148 hU149 (m150 : Blk w148 g12 #[.int .i64 i.op, .int .i64 i.dst, .int .i64 i.a, .int .i64 (-1), .int .i64 0, .int .i64 0, .int .i64 0, .int .i64 (-1), .int .i64 0, .int .i64 0, .bool false, .bool false, .bool false, .int .i64 0, .int .i64 0, .int .i64 0, .bool false] 23)
   have m151 := m139.upd hU149 n18
   have m152 := m141.upd hU149 (Ne.symm n37)
   have b153 := hU149.below b142 ge17
   intro a154 hA155
   refine q_end ?_
   have hA156 : St 119 [(2, (.pointer (some ⟨g12, 0, none⟩)))] a154 := hA155.cut _ (fm_cons (hA155.get 2 _ rfl) fm_nil)
   refine t_norm ?_
   refine wp_ret ?_
   refine retRow (g := g12) (cs := #[.int .i64 i.op, .int .i64 i.dst, .int .i64 i.a, .int .i64 (-1), .int .i64 0, .int .i64 0, .int .i64 0, .int .i64 (-1), .int .i64 0, .int .i64 0, .bool false, .bool false, .bool false, .int .i64 0, .int .i64 0, .int .i64 0, .bool false]) rfl hA156 rfl m150 row23 ?_
   exact ⟨ret_agg (by simp [insC, plainF, opB, rdB, wrB, hb57, eq_of_beq hb110]), b153⟩
  ·skip
   have hq157 := ne_of_beq hb110
   refine q_step hA109 rfl (d_bin (wn rfl) (hA109.ev rfl) (hA109.ev rfl) (b_eq _ _ i.op 2 false _ hb110) ?_)
   intro a158 hA159
   refine q_step hA159 rfl (d_assign (wn rfl) (hA159.ev rfl) ?_)
   intro a160 hA161
   refine q_end ?_
   have hA162 : St 119 [(1, (.pointer (some ⟨g3, 0, none⟩))), (2, (.pointer (some ⟨g12, 0, none⟩))), (3, (.pointer (some ⟨g30, 0, none⟩))), (8, (.int .i64 i.op)), (17, (.bool false))] a160 := hA161.cut _ (fm_cons (hA161.get 1 _ rfl) (fm_cons (hA161.get 2 _ rfl) (fm_cons (hA161.get 3 _ rfl) (fm_cons (hA161.get 8 _ rfl) (fm_cons (hA161.get 17 _ rfl) fm_nil)))))
   refine t_norm ?_
   refine c_false hA162 rfl ?_
   refine wp_seq ?_
   refine wp_region_lit ?_
   rcases Bool.eq_false_or_eq_true (i.op == 3) with hb163 | hb163
   ·skip
    have hq164 := eq_of_beq hb163
    refine q_step hA162 rfl (d_bin (wn rfl) (hA162.ev rfl) (hA162.ev rfl) (b_eq _ _ i.op 3 true _ hb163) ?_)
    intro a165 hA166
    refine q_step hA166 rfl (d_assign (wn rfl) (hA166.ev rfl) ?_)
    intro a167 hA168
    refine q_end ?_
    have hA169 : St 119 [(1, (.pointer (some ⟨g3, 0, none⟩))), (2, (.pointer (some ⟨g12, 0, none⟩))), (3, (.pointer (some ⟨g30, 0, none⟩))), (8, (.int .i64 i.op)), (25, (.bool true))] a167 := hA168.cut _ (fm_cons (hA168.get 1 _ rfl) (fm_cons (hA168.get 2 _ rfl) (fm_cons (hA168.get 3 _ rfl) (fm_cons (hA168.get 8 _ rfl) (fm_cons (hA168.get 25 _ rfl) fm_nil)))))
    refine t_norm ?_
    refine c_true hA169 rfl ?_
    have hA170 : St 119 [(1, (.pointer (some ⟨g3, 0, none⟩))), (2, (.pointer (some ⟨g12, 0, none⟩))), (3, (.pointer (some ⟨g30, 0, none⟩)))] a167 := hA169.cut _ (fm_cons (hA169.get 1 _ rfl) (fm_cons (hA169.get 2 _ rfl) (fm_cons (hA169.get 3 _ rfl) fm_nil)))
    let M171 : Nat → Option (Array Value) := fun k => if k = g30 then some #[.int .i64 i.op, .int .i64 i.dst, .int .i64 i.a, .int .i64 i.b, .int .i64 (immF i i.b), .int .i64 0, .int .i64 0, .int .i64 (-1), .int .i64 0, .int .i64 i.fn, .bool false, .bool false, .bool false, .int .i64 0, .int .i64 0, .int .i64 0, .bool false] else none
    have hM171 : M171 = fun k => if k = g30 then some #[.int .i64 i.op, .int .i64 i.dst, .int .i64 i.a, .int .i64 i.b, .int .i64 (immF i i.b), .int .i64 0, .int .i64 0, .int .i64 (-1), .int .i64 0, .int .i64 i.fn, .bool false, .bool false, .bool false, .int .i64 0, .int .i64 0, .int .i64 0, .bool false] else none := rfl
    clear_value M171
    have hM172 : M171 g3 = none := ((congrFun hM171 g3).trans (if_neg n36))
    have hM173 : M171 g12 = none := ((congrFun hM171 g12).trans (if_neg n37))
    have hM174 : M171 g30 = some #[.int .i64 i.op, .int .i64 i.dst, .int .i64 i.a, .int .i64 i.b, .int .i64 (immF i i.b), .int .i64 0, .int .i64 0, .int .i64 (-1), .int .i64 0, .int .i64 i.fn, .bool false, .bool false, .bool false, .int .i64 0, .int .i64 0, .int .i64 0, .bool false] := ((congrFun hM171 g30).trans (if_pos rfl))
    have hM171B : ∀ k, k < w.heap.size → M171 k = none := (fun k hk => (congrFun hM171 k).trans (if_neg (fun h => Nat.lt_irrefl _ (Nat.lt_of_lt_of_le (h ▸ hk) ge35))))
    refine drawn (S := SM M171) (tabL [cv (.pointer (some ⟨g3, 1, none⟩)), cv (.int .i64 i.dst), cv (.pointer (some ⟨g3, 9, none⟩)), cv (.int .i64 i.fn), cv (.pointer (some ⟨g3, 2, none⟩)), cv (.int .i64 i.a), cv (.pointer (some ⟨g3, 3, none⟩)), cv (.int .i64 i.b), cv (.agg (insC i)), cv (.pointer (some ⟨g3, 3, none⟩)), cv (.int .i64 i.b), cv (.int .i64 (immF i i.b)), cv (.pointer (some ⟨g30, 1, none⟩)), cm M171 g30 1 (.int .i64 i.dst) ⟨_, hM174, rfl⟩, cv (.pointer (some ⟨g30, 9, none⟩)), cm M171 g30 9 (.int .i64 i.fn) ⟨_, hM174, rfl⟩, cv (.pointer (some ⟨g30, 2, none⟩)), cm M171 g30 2 (.int .i64 i.a) ⟨_, hM174, rfl⟩, cv (.pointer (some ⟨g30, 3, none⟩)), cm M171 g30 3 (.int .i64 i.b) ⟨_, hM174, rfl⟩, cv (.pointer (some ⟨g30, 4, none⟩)), cm M171 g30 4 (.int .i64 (immF i i.b)) ⟨_, hM174, rfl⟩]) mixedY SM.refl SM.trans SM.drew hA170 (by kernel_rfl) ?_ ?_
    ·skip
     refine each_cons (fun x y hS hT hk => d_fieldAddr (wn rfl) (hT.ev rfl) fo23_1 ⟨SM.refl _, rfl⟩) ?_
     refine each_cons (fun x y hS hT hk => d_load (v := (.int .i64 i.dst)) (wn rfl) (hk 0 rfl) one3 ((Blk.sm (w := w43.drew) m46 hS hM172).cell rfl) ⟨SM.refl _, rfl⟩) ?_
     refine each_cons (fun x y hS hT hk => d_fieldAddr (wn rfl) (hT.ev rfl) fo23_9 ⟨SM.refl _, rfl⟩) ?_
     refine each_cons (fun x y hS hT hk => d_load (v := (.int .i64 i.fn)) (wn rfl) (hk 2 rfl) one3 ((Blk.sm (w := w43.drew) m46 hS hM172).cell rfl) ⟨SM.refl _, rfl⟩) ?_
     refine each_cons (fun x y hS hT hk => d_fieldAddr (wn rfl) (hT.ev rfl) fo23_2 ⟨SM.refl _, rfl⟩) ?_
     refine each_cons (fun x y hS hT hk => d_load (v := (.int .i64 i.a)) (wn rfl) (hk 4 rfl) one3 ((Blk.sm (w := w43.drew) m46 hS hM172).cell rfl) ⟨SM.refl _, rfl⟩) ?_
     refine each_cons (fun x y hS hT hk => d_fieldAddr (wn rfl) (hT.ev rfl) fo23_3 ⟨SM.refl _, rfl⟩) ?_
     refine each_cons (fun x y hS hT hk => d_load (v := (.int .i64 i.b)) (wn rfl) (hk 6 rfl) one3 ((Blk.sm (w := w43.drew) m46 hS hM172).cell rfl) ⟨SM.refl _, rfl⟩) ?_
     refine each_cons (fun x y hS hT hk => d_loadRow (cs := (insC i)) (wn rfl) (hT.ev rfl) row23 (Blk.sm (w := w43.drew) m46 hS hM172) ⟨SM.refl _, rfl⟩) ?_
     refine each_cons (fun x y hS hT hk => d_fieldAddr (wn rfl) (hT.ev rfl) fo23_3 ⟨SM.refl _, rfl⟩) ?_
     refine each_cons (fun x y hS hT hk => d_load (v := (.int .i64 i.b)) (wn rfl) (hk 9 rfl) one3 ((Blk.sm (w := w43.drew) m46 hS hM172).cell rfl) ⟨SM.refl _, rfl⟩) ?_
     refine each_cons (fun x y hS hT hk => d_call (wn rfl) ent39 (map2 (show x.eval _ = (.agg (insC i)) from (hk 8 rfl)) (show x.eval _ = (.int .i64 i.b) from (hk 10 rfl))) (immFor_any i i.b y) (fun _ _ ⟨he, hG⟩ => ⟨(.int .i64 (immF i i.b)), he, SM.grow hG, rfl⟩)) ?_
     refine each_cons (fun x y hS hT hk => d_fieldAddr (wn rfl) (hT.ev rfl) fo23_1 ⟨SM.refl _, rfl⟩) ?_
     refine each_cons (fun x y hS hT hk => d_storeM (v := (.int .i64 i.dst)) (w0 := w43.drew) (wn rfl) (hk 12 rfl) (hk 1 rfl) one3 rfl hS hM174 m45 (Nat.le_of_ble_eq_true rfl) rfl (fun _ h => h)) ?_
     refine each_cons (fun x y hS hT hk => d_fieldAddr (wn rfl) (hT.ev rfl) fo23_9 ⟨SM.refl _, rfl⟩) ?_
     refine each_cons (fun x y hS hT hk => d_storeM (v := (.int .i64 i.fn)) (w0 := w43.drew) (wn rfl) (hk 14 rfl) (hk 3 rfl) one3 rfl hS hM174 m45 (Nat.le_of_ble_eq_true rfl) rfl (fun _ h => h)) ?_
     refine each_cons (fun x y hS hT hk => d_fieldAddr (wn rfl) (hT.ev rfl) fo23_2 ⟨SM.refl _, rfl⟩) ?_
     refine each_cons (fun x y hS hT hk => d_storeM (v := (.int .i64 i.a)) (w0 := w43.drew) (wn rfl) (hk 16 rfl) (hk 5 rfl) one3 rfl hS hM174 m45 (Nat.le_of_ble_eq_true rfl) rfl (fun _ h => h)) ?_
     refine each_cons (fun x y hS hT hk => d_fieldAddr (wn rfl) (hT.ev rfl) fo23_3 ⟨SM.refl _, rfl⟩) ?_
     refine each_cons (fun x y hS hT hk => d_storeM (v := (.int .i64 i.b)) (w0 := w43.drew) (wn rfl) (hk 18 rfl) (hk 7 rfl) one3 rfl hS hM174 m45 (Nat.le_of_ble_eq_true rfl) rfl (fun _ h => h)) ?_
     refine each_cons (fun x y hS hT hk => d_fieldAddr (wn rfl) (hT.ev rfl) fo23_4 ⟨SM.refl _, rfl⟩) ?_
     refine each_cons (fun x y hS hT hk => d_storeM (v := (.int .i64 (immF i i.b))) (w0 := w43.drew) (wn rfl) (hk 20 rfl) (hk 11 rfl) one3 rfl hS hM174 m45 (Nat.le_of_ble_eq_true rfl) rfl (fun _ h => h)) ?_
     exact each_nil
    intro f175 a176 w177 hS178 hC179 hA180
    have hA181 : St 119 [(1, (.pointer (some ⟨g3, 0, none⟩))), (2, (.pointer (some ⟨g12, 0, none⟩))), (3, (.pointer (some ⟨g30, 0, none⟩)))] a176 := hA180.cut _ (fm_cons (hA180.get 1 _ rfl) (fm_cons (hA180.get 2 _ rfl) (fm_cons (hA180.get 3 _ rfl) fm_nil)))
    have m182 := m46.sm hS178 hM172
    have m183 := m47.sm hS178 hM173
    have m184 : Blk w177 g30 #[.int .i64 i.op, .int .i64 i.dst, .int .i64 i.a, .int .i64 i.b, .int .i64 (immF i i.b), .int .i64 0, .int .i64 0, .int .i64 (-1), .int .i64 0, .int .i64 i.fn, .bool false, .bool false, .bool false, .int .i64 0, .int .i64 0, .int .i64 0, .bool false] 23 := hS178.finL [(1, (.int .i64 i.dst)), (9, (.int .i64 i.fn)), (2, (.int .i64 i.a)), (3, (.int .i64 i.b)), (4, (.int .i64 (immF i i.b)))] hM174 (by kernel_rfl) m45 (fm_cons (hC179 13 (Nat.le_of_ble_eq_true rfl)) (fm_cons (hC179 15 (Nat.le_of_ble_eq_true rfl)) (fm_cons (hC179 17 (Nat.le_of_ble_eq_true rfl)) (fm_cons (hC179 19 (Nat.le_of_ble_eq_true rfl)) (fm_cons (hC179 21 (Nat.le_of_ble_eq_true rfl)) fm_nil)))))
    have b185 := hS178.below b48 b48.size hM171B
    refine i_norm ?_
    refine t_norm ?_
    refine wp_seq ?_
    refine wp_seq ?_
    refine wp_region_lit ?_
    refine q_step hA181 rfl (d_loadRow (cs := (insC i)) (wn rfl) (hA181.ev rfl) row23 m182 ?_)
    intro a186 hA187
    refine q_step hA187 rfl (d_call (wn rfl) ent35 (map1 (hA187.ev rfl)) (isOp_any i w177) ?_)
    rintro e191 w188 ⟨he190, hG189⟩
    have m192 := m182.grow hG189
    have m193 := m183.grow hG189
    have m194 := m184.grow hG189
    have b195 := below_grow b185 hG189 b185.size
    refine ⟨.bool false, he190.trans (ret_bool (by simp [opB, rdB, wrB, eq_of_beq hb163])), ?_⟩
    intro a196 hA197
    refine q_end ?_
    have hA198 : St 119 [(1, (.pointer (some ⟨g3, 0, none⟩))), (2, (.pointer (some ⟨g12, 0, none⟩))), (3, (.pointer (some ⟨g30, 0, none⟩))), (105, (.bool false))] a196 := hA197.cut _ (fm_cons (hA197.get 1 _ rfl) (fm_cons (hA197.get 2 _ rfl) (fm_cons (hA197.get 3 _ rfl) (fm_cons (hA197.get 105 _ rfl) fm_nil))))
    refine t_norm ?_
    refine c_false hA198 rfl ?_
    refine wp_skip ?_
    refine t_norm ?_
    refine wp_seq ?_
    refine wp_region_lit ?_
    refine q_step hA198 rfl (d_loadRow (cs := #[.int .i64 i.op, .int .i64 i.dst, .int .i64 i.a, .int .i64 i.b, .int .i64 (immF i i.b), .int .i64 0, .int .i64 0, .int .i64 (-1), .int .i64 0, .int .i64 i.fn, .bool false, .bool false, .bool false, .int .i64 0, .int .i64 0, .int .i64 0, .bool false]) (wn rfl) (hA198.ev rfl) row23 m194 ?_)
    intro a199 hA200
    refine q_step hA200 rfl (d_storeRow (wn rfl) (hA200.ev rfl) (hA200.ev rfl) row23 m193 rfl rfl ?_)
    intro w201 hU202 (m203 : Blk w201 g12 #[.int .i64 i.op, .int .i64 i.dst, .int .i64 i.a, .int .i64 i.b, .int .i64 (immF i i.b), .int .i64 0, .int .i64 0, .int .i64 (-1), .int .i64 0, .int .i64 i.fn, .bool false, .bool false, .bool false, .int .i64 0, .int .i64 0, .int .i64 0, .bool false] 23)
    have m204 := m192.upd hU202 n18
    have m205 := m194.upd hU202 (Ne.symm n37)
    have b206 := hU202.below b195 ge17
    intro a207 hA208
    refine q_end ?_
    have hA209 : St 119 [(2, (.pointer (some ⟨g12, 0, none⟩)))] a207 := hA208.cut _ (fm_cons (hA208.get 2 _ rfl) fm_nil)
    refine t_norm ?_
    refine wp_ret ?_
    refine retRow (g := g12) (cs := #[.int .i64 i.op, .int .i64 i.dst, .int .i64 i.a, .int .i64 i.b, .int .i64 (immF i i.b), .int .i64 0, .int .i64 0, .int .i64 (-1), .int .i64 0, .int .i64 i.fn, .bool false, .bool false, .bool false, .int .i64 0, .int .i64 0, .int .i64 0, .bool false]) rfl hA209 rfl m203 row23 ?_
    exact ⟨ret_agg (by simp [insC, plainF, opB, rdB, wrB, hb57, hb110, eq_of_beq hb163]), b206⟩
   ·skip
    have hq210 := ne_of_beq hb163
    refine q_step hA162 rfl (d_bin (wn rfl) (hA162.ev rfl) (hA162.ev rfl) (b_eq _ _ i.op 3 false _ hb163) ?_)
    intro a211 hA212
    refine q_step hA212 rfl (d_assign (wn rfl) (hA212.ev rfl) ?_)
    intro a213 hA214
    refine q_end ?_
    have hA215 : St 119 [(1, (.pointer (some ⟨g3, 0, none⟩))), (2, (.pointer (some ⟨g12, 0, none⟩))), (3, (.pointer (some ⟨g30, 0, none⟩))), (8, (.int .i64 i.op)), (25, (.bool false))] a213 := hA214.cut _ (fm_cons (hA214.get 1 _ rfl) (fm_cons (hA214.get 2 _ rfl) (fm_cons (hA214.get 3 _ rfl) (fm_cons (hA214.get 8 _ rfl) (fm_cons (hA214.get 25 _ rfl) fm_nil)))))
    refine t_norm ?_
    refine c_false hA215 rfl ?_
    refine wp_seq ?_
    refine wp_region_lit ?_
    rcases Bool.eq_false_or_eq_true (i.op == 4) with hb216 | hb216
    ·skip
     have hq217 := eq_of_beq hb216
     refine q_step hA215 rfl (d_bin (wn rfl) (hA215.ev rfl) (hA215.ev rfl) (b_eq _ _ i.op 4 true _ hb216) ?_)
     intro a218 hA219
     refine q_step hA219 rfl (d_assign (wn rfl) (hA219.ev rfl) ?_)
     intro a220 hA221
     refine q_end ?_
     have hA222 : St 119 [(1, (.pointer (some ⟨g3, 0, none⟩))), (2, (.pointer (some ⟨g12, 0, none⟩))), (3, (.pointer (some ⟨g30, 0, none⟩))), (8, (.int .i64 i.op)), (44, (.bool true))] a220 := hA221.cut _ (fm_cons (hA221.get 1 _ rfl) (fm_cons (hA221.get 2 _ rfl) (fm_cons (hA221.get 3 _ rfl) (fm_cons (hA221.get 8 _ rfl) (fm_cons (hA221.get 44 _ rfl) fm_nil)))))
     refine t_norm ?_
     refine c_true hA222 rfl ?_
     have hA223 : St 119 [(1, (.pointer (some ⟨g3, 0, none⟩))), (2, (.pointer (some ⟨g12, 0, none⟩))), (3, (.pointer (some ⟨g30, 0, none⟩)))] a220 := hA222.cut _ (fm_cons (hA222.get 1 _ rfl) (fm_cons (hA222.get 2 _ rfl) (fm_cons (hA222.get 3 _ rfl) fm_nil)))
     let M224 : Nat → Option (Array Value) := fun k => if k = g30 then some #[.int .i64 i.op, .int .i64 i.dst, .int .i64 (-1), .int .i64 (-1), .int .i64 0, .int .i64 0, .int .i64 0, .int .i64 (-1), .int .i64 0, .int .i64 0, .bool i.acq, .bool i.weak, .bool false, .int .i64 0, .int .i64 0, .int .i64 0, .bool false] else none
     have hM224 : M224 = fun k => if k = g30 then some #[.int .i64 i.op, .int .i64 i.dst, .int .i64 (-1), .int .i64 (-1), .int .i64 0, .int .i64 0, .int .i64 0, .int .i64 (-1), .int .i64 0, .int .i64 0, .bool i.acq, .bool i.weak, .bool false, .int .i64 0, .int .i64 0, .int .i64 0, .bool false] else none := rfl
     clear_value M224
     have hM225 : M224 g3 = none := ((congrFun hM224 g3).trans (if_neg n36))
     have hM226 : M224 g12 = none := ((congrFun hM224 g12).trans (if_neg n37))
     have hM227 : M224 g30 = some #[.int .i64 i.op, .int .i64 i.dst, .int .i64 (-1), .int .i64 (-1), .int .i64 0, .int .i64 0, .int .i64 0, .int .i64 (-1), .int .i64 0, .int .i64 0, .bool i.acq, .bool i.weak, .bool false, .int .i64 0, .int .i64 0, .int .i64 0, .bool false] := ((congrFun hM224 g30).trans (if_pos rfl))
     have hM224B : ∀ k, k < w.heap.size → M224 k = none := (fun k hk => (congrFun hM224 k).trans (if_neg (fun h => Nat.lt_irrefl _ (Nat.lt_of_lt_of_le (h ▸ hk) ge35))))
     refine drawn (S := SM M224) (tabL [cv (.pointer (some ⟨g3, 1, none⟩)), cv (.int .i64 i.dst), cv (.pointer (some ⟨g3, 10, none⟩)), cv (.bool i.acq), cv (.pointer (some ⟨g3, 11, none⟩)), cv (.bool i.weak), cv (.pointer (some ⟨g30, 1, none⟩)), cm M224 g30 1 (.int .i64 i.dst) ⟨_, hM227, rfl⟩, cv (.pointer (some ⟨g30, 10, none⟩)), cm M224 g30 10 (.bool i.acq) ⟨_, hM227, rfl⟩, cv (.pointer (some ⟨g30, 11, none⟩)), cm M224 g30 11 (.bool i.weak) ⟨_, hM227, rfl⟩]) mixedY SM.refl SM.trans SM.drew hA223 (by kernel_rfl) ?_ ?_
     ·skip
      refine each_cons (fun x y hS hT hk => d_fieldAddr (wn rfl) (hT.ev rfl) fo23_1 ⟨SM.refl _, rfl⟩) ?_
      refine each_cons (fun x y hS hT hk => d_load (v := (.int .i64 i.dst)) (wn rfl) (hk 0 rfl) one3 ((Blk.sm (w := w43.drew) m46 hS hM225).cell rfl) ⟨SM.refl _, rfl⟩) ?_
      refine each_cons (fun x y hS hT hk => d_fieldAddr (wn rfl) (hT.ev rfl) fo23_10 ⟨SM.refl _, rfl⟩) ?_
      refine each_cons (fun x y hS hT hk => d_load (v := (.bool i.acq)) (wn rfl) (hk 2 rfl) one4 ((Blk.sm (w := w43.drew) m46 hS hM225).cell rfl) ⟨SM.refl _, rfl⟩) ?_
      refine each_cons (fun x y hS hT hk => d_fieldAddr (wn rfl) (hT.ev rfl) fo23_11 ⟨SM.refl _, rfl⟩) ?_
      refine each_cons (fun x y hS hT hk => d_load (v := (.bool i.weak)) (wn rfl) (hk 4 rfl) one4 ((Blk.sm (w := w43.drew) m46 hS hM225).cell rfl) ⟨SM.refl _, rfl⟩) ?_
      refine each_cons (fun x y hS hT hk => d_fieldAddr (wn rfl) (hT.ev rfl) fo23_1 ⟨SM.refl _, rfl⟩) ?_
      refine each_cons (fun x y hS hT hk => d_storeM (v := (.int .i64 i.dst)) (w0 := w43.drew) (wn rfl) (hk 6 rfl) (hk 1 rfl) one3 rfl hS hM227 m45 (Nat.le_of_ble_eq_true rfl) rfl (fun _ h => h)) ?_
      refine each_cons (fun x y hS hT hk => d_fieldAddr (wn rfl) (hT.ev rfl) fo23_10 ⟨SM.refl _, rfl⟩) ?_
      refine each_cons (fun x y hS hT hk => d_storeM (v := (.bool i.acq)) (w0 := w43.drew) (wn rfl) (hk 8 rfl) (hk 3 rfl) one4 rfl hS hM227 m45 (Nat.le_of_ble_eq_true rfl) rfl (fun _ h => h)) ?_
      refine each_cons (fun x y hS hT hk => d_fieldAddr (wn rfl) (hT.ev rfl) fo23_11 ⟨SM.refl _, rfl⟩) ?_
      refine each_cons (fun x y hS hT hk => d_storeM (v := (.bool i.weak)) (w0 := w43.drew) (wn rfl) (hk 10 rfl) (hk 5 rfl) one4 rfl hS hM227 m45 (Nat.le_of_ble_eq_true rfl) rfl (fun _ h => h)) ?_
      exact each_nil
     intro f228 a229 w230 hS231 hC232 hA233
     have hA234 : St 119 [(1, (.pointer (some ⟨g3, 0, none⟩))), (2, (.pointer (some ⟨g12, 0, none⟩))), (3, (.pointer (some ⟨g30, 0, none⟩)))] a229 := hA233.cut _ (fm_cons (hA233.get 1 _ rfl) (fm_cons (hA233.get 2 _ rfl) (fm_cons (hA233.get 3 _ rfl) fm_nil)))
     have m235 := m46.sm hS231 hM225
     have m236 := m47.sm hS231 hM226
     have m237 : Blk w230 g30 #[.int .i64 i.op, .int .i64 i.dst, .int .i64 (-1), .int .i64 (-1), .int .i64 0, .int .i64 0, .int .i64 0, .int .i64 (-1), .int .i64 0, .int .i64 0, .bool i.acq, .bool i.weak, .bool false, .int .i64 0, .int .i64 0, .int .i64 0, .bool false] 23 := hS231.finL [(1, (.int .i64 i.dst)), (10, (.bool i.acq)), (11, (.bool i.weak))] hM227 (by kernel_rfl) m45 (fm_cons (hC232 7 (Nat.le_of_ble_eq_true rfl)) (fm_cons (hC232 9 (Nat.le_of_ble_eq_true rfl)) (fm_cons (hC232 11 (Nat.le_of_ble_eq_true rfl)) fm_nil)))
     have b238 := hS231.below b48 b48.size hM224B
     refine i_norm ?_
     refine t_norm ?_
     refine wp_seq ?_
     refine wp_seq ?_
     refine wp_region_lit ?_
     refine q_step hA234 rfl (d_loadRow (cs := (insC i)) (wn rfl) (hA234.ev rfl) row23 m235 ?_)
     intro a239 hA240
     refine q_step hA240 rfl (d_call (wn rfl) ent35 (map1 (hA240.ev rfl)) (isOp_any i w230) ?_)
     rintro e244 w241 ⟨he243, hG242⟩
     have m245 := m235.grow hG242
     have m246 := m236.grow hG242
     have m247 := m237.grow hG242
     have b248 := below_grow b238 hG242 b238.size
     refine ⟨.bool true, he243.trans (ret_bool (by simp [opB, rdB, wrB, eq_of_beq hb216])), ?_⟩
     intro a249 hA250
     refine q_end ?_
     have hA251 : St 119 [(1, (.pointer (some ⟨g3, 0, none⟩))), (2, (.pointer (some ⟨g12, 0, none⟩))), (3, (.pointer (some ⟨g30, 0, none⟩))), (105, (.bool true))] a249 := hA250.cut _ (fm_cons (hA250.get 1 _ rfl) (fm_cons (hA250.get 2 _ rfl) (fm_cons (hA250.get 3 _ rfl) (fm_cons (hA250.get 105 _ rfl) fm_nil))))
     refine t_norm ?_
     refine c_true hA251 rfl ?_
     have hA252 : St 119 [(1, (.pointer (some ⟨g3, 0, none⟩))), (2, (.pointer (some ⟨g12, 0, none⟩))), (3, (.pointer (some ⟨g30, 0, none⟩)))] a249 := hA251.cut _ (fm_cons (hA251.get 1 _ rfl) (fm_cons (hA251.get 2 _ rfl) (fm_cons (hA251.get 3 _ rfl) fm_nil)))
     let M253 : Nat → Option (Array Value) := fun k => if k = g30 then some #[.int .i64 i.op, .int .i64 i.dst, .int .i64 (-1), .int .i64 (-1), .int .i64 0, .int .i64 i.loc, .int .i64 i.off, .int .i64 i.index, .int .i64 i.size, .int .i64 0, .bool i.acq, .bool i.weak, .bool false, .int .i64 0, .int .i64 0, .int .i64 0, .bool false] else none
     have hM253 : M253 = fun k => if k = g30 then some #[.int .i64 i.op, .int .i64 i.dst, .int .i64 (-1), .int .i64 (-1), .int .i64 0, .int .i64 i.loc, .int .i64 i.off, .int .i64 i.index, .int .i64 i.size, .int .i64 0, .bool i.acq, .bool i.weak, .bool false, .int .i64 0, .int .i64 0, .int .i64 0, .bool false] else none := rfl
     clear_value M253
     have hM254 : M253 g3 = none := ((congrFun hM253 g3).trans (if_neg n36))
     have hM255 : M253 g12 = none := ((congrFun hM253 g12).trans (if_neg n37))
     have hM256 : M253 g30 = some #[.int .i64 i.op, .int .i64 i.dst, .int .i64 (-1), .int .i64 (-1), .int .i64 0, .int .i64 i.loc, .int .i64 i.off, .int .i64 i.index, .int .i64 i.size, .int .i64 0, .bool i.acq, .bool i.weak, .bool false, .int .i64 0, .int .i64 0, .int .i64 0, .bool false] := ((congrFun hM253 g30).trans (if_pos rfl))
     have hM253B : ∀ k, k < w.heap.size → M253 k = none := (fun k hk => (congrFun hM253 k).trans (if_neg (fun h => Nat.lt_irrefl _ (Nat.lt_of_lt_of_le (h ▸ hk) ge35))))
     refine drawn (S := SM M253) (tabL [cv (.pointer (some ⟨g3, 5, none⟩)), cv (.int .i64 i.loc), cv (.pointer (some ⟨g3, 6, none⟩)), cv (.int .i64 i.off), cv (.pointer (some ⟨g3, 7, none⟩)), cv (.int .i64 i.index), cv (.pointer (some ⟨g3, 8, none⟩)), cv (.int .i64 i.size), cv (.pointer (some ⟨g30, 5, none⟩)), cm M253 g30 5 (.int .i64 i.loc) ⟨_, hM256, rfl⟩, cv (.pointer (some ⟨g30, 6, none⟩)), cm M253 g30 6 (.int .i64 i.off) ⟨_, hM256, rfl⟩, cv (.pointer (some ⟨g30, 7, none⟩)), cm M253 g30 7 (.int .i64 i.index) ⟨_, hM256, rfl⟩, cv (.pointer (some ⟨g30, 8, none⟩)), cm M253 g30 8 (.int .i64 i.size) ⟨_, hM256, rfl⟩]) mixedY SM.refl SM.trans SM.drew hA252 (by kernel_rfl) ?_ ?_
     ·skip
      refine each_cons (fun x y hS hT hk => d_fieldAddr (wn rfl) (hT.ev rfl) fo23_5 ⟨SM.refl _, rfl⟩) ?_
      refine each_cons (fun x y hS hT hk => d_load (v := (.int .i64 i.loc)) (wn rfl) (hk 0 rfl) one3 ((Blk.sm (w := w241.drew) m245 hS hM254).cell rfl) ⟨SM.refl _, rfl⟩) ?_
      refine each_cons (fun x y hS hT hk => d_fieldAddr (wn rfl) (hT.ev rfl) fo23_6 ⟨SM.refl _, rfl⟩) ?_
      refine each_cons (fun x y hS hT hk => d_load (v := (.int .i64 i.off)) (wn rfl) (hk 2 rfl) one3 ((Blk.sm (w := w241.drew) m245 hS hM254).cell rfl) ⟨SM.refl _, rfl⟩) ?_
      refine each_cons (fun x y hS hT hk => d_fieldAddr (wn rfl) (hT.ev rfl) fo23_7 ⟨SM.refl _, rfl⟩) ?_
      refine each_cons (fun x y hS hT hk => d_load (v := (.int .i64 i.index)) (wn rfl) (hk 4 rfl) one3 ((Blk.sm (w := w241.drew) m245 hS hM254).cell rfl) ⟨SM.refl _, rfl⟩) ?_
      refine each_cons (fun x y hS hT hk => d_fieldAddr (wn rfl) (hT.ev rfl) fo23_8 ⟨SM.refl _, rfl⟩) ?_
      refine each_cons (fun x y hS hT hk => d_load (v := (.int .i64 i.size)) (wn rfl) (hk 6 rfl) one3 ((Blk.sm (w := w241.drew) m245 hS hM254).cell rfl) ⟨SM.refl _, rfl⟩) ?_
      refine each_cons (fun x y hS hT hk => d_fieldAddr (wn rfl) (hT.ev rfl) fo23_5 ⟨SM.refl _, rfl⟩) ?_
      refine each_cons (fun x y hS hT hk => d_storeM (v := (.int .i64 i.loc)) (w0 := w241.drew) (wn rfl) (hk 8 rfl) (hk 1 rfl) one3 rfl hS hM256 m247 (Nat.le_of_ble_eq_true rfl) rfl (fun _ h => h)) ?_
      refine each_cons (fun x y hS hT hk => d_fieldAddr (wn rfl) (hT.ev rfl) fo23_6 ⟨SM.refl _, rfl⟩) ?_
      refine each_cons (fun x y hS hT hk => d_storeM (v := (.int .i64 i.off)) (w0 := w241.drew) (wn rfl) (hk 10 rfl) (hk 3 rfl) one3 rfl hS hM256 m247 (Nat.le_of_ble_eq_true rfl) rfl (fun _ h => h)) ?_
      refine each_cons (fun x y hS hT hk => d_fieldAddr (wn rfl) (hT.ev rfl) fo23_7 ⟨SM.refl _, rfl⟩) ?_
      refine each_cons (fun x y hS hT hk => d_storeM (v := (.int .i64 i.index)) (w0 := w241.drew) (wn rfl) (hk 12 rfl) (hk 5 rfl) one3 rfl hS hM256 m247 (Nat.le_of_ble_eq_true rfl) rfl (fun _ h => h)) ?_
      refine each_cons (fun x y hS hT hk => d_fieldAddr (wn rfl) (hT.ev rfl) fo23_8 ⟨SM.refl _, rfl⟩) ?_
      refine each_cons (fun x y hS hT hk => d_storeM (v := (.int .i64 i.size)) (w0 := w241.drew) (wn rfl) (hk 14 rfl) (hk 7 rfl) one3 rfl hS hM256 m247 (Nat.le_of_ble_eq_true rfl) rfl (fun _ h => h)) ?_
      exact each_nil
     intro f257 a258 w259 hS260 hC261 hA262
     have hA263 : St 119 [(2, (.pointer (some ⟨g12, 0, none⟩))), (3, (.pointer (some ⟨g30, 0, none⟩)))] a258 := hA262.cut _ (fm_cons (hA262.get 2 _ rfl) (fm_cons (hA262.get 3 _ rfl) fm_nil))
     have m264 := m245.sm hS260 hM254
     have m265 := m246.sm hS260 hM255
     have m266 : Blk w259 g30 #[.int .i64 i.op, .int .i64 i.dst, .int .i64 (-1), .int .i64 (-1), .int .i64 0, .int .i64 i.loc, .int .i64 i.off, .int .i64 i.index, .int .i64 i.size, .int .i64 0, .bool i.acq, .bool i.weak, .bool false, .int .i64 0, .int .i64 0, .int .i64 0, .bool false] 23 := hS260.finL [(5, (.int .i64 i.loc)), (6, (.int .i64 i.off)), (7, (.int .i64 i.index)), (8, (.int .i64 i.size))] hM256 (by kernel_rfl) m247 (fm_cons (hC261 9 (Nat.le_of_ble_eq_true rfl)) (fm_cons (hC261 11 (Nat.le_of_ble_eq_true rfl)) (fm_cons (hC261 13 (Nat.le_of_ble_eq_true rfl)) (fm_cons (hC261 15 (Nat.le_of_ble_eq_true rfl)) fm_nil))))
     have b267 := hS260.below b248 b248.size hM253B
     refine t_norm ?_
     refine wp_seq ?_
     refine wp_region_lit ?_
     refine q_step hA263 rfl (d_loadRow (cs := #[.int .i64 i.op, .int .i64 i.dst, .int .i64 (-1), .int .i64 (-1), .int .i64 0, .int .i64 i.loc, .int .i64 i.off, .int .i64 i.index, .int .i64 i.size, .int .i64 0, .bool i.acq, .bool i.weak, .bool false, .int .i64 0, .int .i64 0, .int .i64 0, .bool false]) (wn rfl) (hA263.ev rfl) row23 m266 ?_)
     intro a268 hA269
     refine q_step hA269 rfl (d_storeRow (wn rfl) (hA269.ev rfl) (hA269.ev rfl) row23 m265 rfl rfl ?_)
     intro w270 hU271 (m272 : Blk w270 g12 #[.int .i64 i.op, .int .i64 i.dst, .int .i64 (-1), .int .i64 (-1), .int .i64 0, .int .i64 i.loc, .int .i64 i.off, .int .i64 i.index, .int .i64 i.size, .int .i64 0, .bool i.acq, .bool i.weak, .bool false, .int .i64 0, .int .i64 0, .int .i64 0, .bool false] 23)
     have m273 := m264.upd hU271 n18
     have m274 := m266.upd hU271 (Ne.symm n37)
     have b275 := hU271.below b267 ge17
     intro a276 hA277
     refine q_end ?_
     have hA278 : St 119 [(2, (.pointer (some ⟨g12, 0, none⟩)))] a276 := hA277.cut _ (fm_cons (hA277.get 2 _ rfl) fm_nil)
     refine t_norm ?_
     refine wp_ret ?_
     refine retRow (g := g12) (cs := #[.int .i64 i.op, .int .i64 i.dst, .int .i64 (-1), .int .i64 (-1), .int .i64 0, .int .i64 i.loc, .int .i64 i.off, .int .i64 i.index, .int .i64 i.size, .int .i64 0, .bool i.acq, .bool i.weak, .bool false, .int .i64 0, .int .i64 0, .int .i64 0, .bool false]) rfl hA278 rfl m272 row23 ?_
     exact ⟨ret_agg (by simp [insC, plainF, opB, rdB, wrB, hb57, hb110, hb163, eq_of_beq hb216]), b275⟩
    ·skip
     have hq279 := ne_of_beq hb216
     refine q_step hA215 rfl (d_bin (wn rfl) (hA215.ev rfl) (hA215.ev rfl) (b_eq _ _ i.op 4 false _ hb216) ?_)
     intro a280 hA281
     refine q_step hA281 rfl (d_assign (wn rfl) (hA281.ev rfl) ?_)
     intro a282 hA283
     refine q_end ?_
     have hA284 : St 119 [(1, (.pointer (some ⟨g3, 0, none⟩))), (2, (.pointer (some ⟨g12, 0, none⟩))), (3, (.pointer (some ⟨g30, 0, none⟩))), (8, (.int .i64 i.op)), (44, (.bool false))] a282 := hA283.cut _ (fm_cons (hA283.get 1 _ rfl) (fm_cons (hA283.get 2 _ rfl) (fm_cons (hA283.get 3 _ rfl) (fm_cons (hA283.get 8 _ rfl) (fm_cons (hA283.get 44 _ rfl) fm_nil)))))
     refine t_norm ?_
     refine c_false hA284 rfl ?_
     refine wp_seq ?_
     refine wp_region_lit ?_
     rcases Bool.eq_false_or_eq_true (i.op == 5) with hb285 | hb285
     ·skip
      have hq286 := eq_of_beq hb285
      refine q_step hA284 rfl (d_bin (wn rfl) (hA284.ev rfl) (hA284.ev rfl) (b_eq _ _ i.op 5 true _ hb285) ?_)
      intro a287 hA288
      refine q_step hA288 rfl (d_assign (wn rfl) (hA288.ev rfl) ?_)
      intro a289 hA290
      refine q_end ?_
      have hA291 : St 119 [(1, (.pointer (some ⟨g3, 0, none⟩))), (2, (.pointer (some ⟨g12, 0, none⟩))), (3, (.pointer (some ⟨g30, 0, none⟩))), (8, (.int .i64 i.op)), (55, (.bool true))] a289 := hA290.cut _ (fm_cons (hA290.get 1 _ rfl) (fm_cons (hA290.get 2 _ rfl) (fm_cons (hA290.get 3 _ rfl) (fm_cons (hA290.get 8 _ rfl) (fm_cons (hA290.get 55 _ rfl) fm_nil)))))
      refine t_norm ?_
      refine c_true hA291 rfl ?_
      have hA292 : St 119 [(1, (.pointer (some ⟨g3, 0, none⟩))), (2, (.pointer (some ⟨g12, 0, none⟩))), (3, (.pointer (some ⟨g30, 0, none⟩)))] a289 := hA291.cut _ (fm_cons (hA291.get 1 _ rfl) (fm_cons (hA291.get 2 _ rfl) (fm_cons (hA291.get 3 _ rfl) fm_nil)))
      let M293 : Nat → Option (Array Value) := fun k => if k = g30 then some #[.int .i64 i.op, .int .i64 (-1), .int .i64 i.a, .int .i64 (-1), .int .i64 (immF i i.a), .int .i64 0, .int .i64 0, .int .i64 (-1), .int .i64 0, .int .i64 0, .bool false, .bool false, .bool i.rel, .int .i64 0, .int .i64 0, .int .i64 0, .bool false] else none
      have hM293 : M293 = fun k => if k = g30 then some #[.int .i64 i.op, .int .i64 (-1), .int .i64 i.a, .int .i64 (-1), .int .i64 (immF i i.a), .int .i64 0, .int .i64 0, .int .i64 (-1), .int .i64 0, .int .i64 0, .bool false, .bool false, .bool i.rel, .int .i64 0, .int .i64 0, .int .i64 0, .bool false] else none := rfl
      clear_value M293
      have hM294 : M293 g3 = none := ((congrFun hM293 g3).trans (if_neg n36))
      have hM295 : M293 g12 = none := ((congrFun hM293 g12).trans (if_neg n37))
      have hM296 : M293 g30 = some #[.int .i64 i.op, .int .i64 (-1), .int .i64 i.a, .int .i64 (-1), .int .i64 (immF i i.a), .int .i64 0, .int .i64 0, .int .i64 (-1), .int .i64 0, .int .i64 0, .bool false, .bool false, .bool i.rel, .int .i64 0, .int .i64 0, .int .i64 0, .bool false] := ((congrFun hM293 g30).trans (if_pos rfl))
      have hM293B : ∀ k, k < w.heap.size → M293 k = none := (fun k hk => (congrFun hM293 k).trans (if_neg (fun h => Nat.lt_irrefl _ (Nat.lt_of_lt_of_le (h ▸ hk) ge35))))
      refine drawn (S := SM M293) (tabL [cv (.pointer (some ⟨g3, 2, none⟩)), cv (.int .i64 i.a), cv (.agg (insC i)), cv (.pointer (some ⟨g3, 2, none⟩)), cv (.int .i64 i.a), cv (.int .i64 (immF i i.a)), cv (.pointer (some ⟨g3, 12, none⟩)), cv (.bool i.rel), cv (.pointer (some ⟨g30, 2, none⟩)), cm M293 g30 2 (.int .i64 i.a) ⟨_, hM296, rfl⟩, cv (.pointer (some ⟨g30, 4, none⟩)), cm M293 g30 4 (.int .i64 (immF i i.a)) ⟨_, hM296, rfl⟩, cv (.pointer (some ⟨g30, 12, none⟩)), cm M293 g30 12 (.bool i.rel) ⟨_, hM296, rfl⟩]) mixedY SM.refl SM.trans SM.drew hA292 (by kernel_rfl) ?_ ?_
      ·skip
       refine each_cons (fun x y hS hT hk => d_fieldAddr (wn rfl) (hT.ev rfl) fo23_2 ⟨SM.refl _, rfl⟩) ?_
       refine each_cons (fun x y hS hT hk => d_load (v := (.int .i64 i.a)) (wn rfl) (hk 0 rfl) one3 ((Blk.sm (w := w43.drew) m46 hS hM294).cell rfl) ⟨SM.refl _, rfl⟩) ?_
       refine each_cons (fun x y hS hT hk => d_loadRow (cs := (insC i)) (wn rfl) (hT.ev rfl) row23 (Blk.sm (w := w43.drew) m46 hS hM294) ⟨SM.refl _, rfl⟩) ?_
       refine each_cons (fun x y hS hT hk => d_fieldAddr (wn rfl) (hT.ev rfl) fo23_2 ⟨SM.refl _, rfl⟩) ?_
       refine each_cons (fun x y hS hT hk => d_load (v := (.int .i64 i.a)) (wn rfl) (hk 3 rfl) one3 ((Blk.sm (w := w43.drew) m46 hS hM294).cell rfl) ⟨SM.refl _, rfl⟩) ?_
       refine each_cons (fun x y hS hT hk => d_call (wn rfl) ent39 (map2 (show x.eval _ = (.agg (insC i)) from (hk 2 rfl)) (show x.eval _ = (.int .i64 i.a) from (hk 4 rfl))) (immFor_any i i.a y) (fun _ _ ⟨he, hG⟩ => ⟨(.int .i64 (immF i i.a)), he, SM.grow hG, rfl⟩)) ?_
       refine each_cons (fun x y hS hT hk => d_fieldAddr (wn rfl) (hT.ev rfl) fo23_12 ⟨SM.refl _, rfl⟩) ?_
       refine each_cons (fun x y hS hT hk => d_load (v := (.bool i.rel)) (wn rfl) (hk 6 rfl) one4 ((Blk.sm (w := w43.drew) m46 hS hM294).cell rfl) ⟨SM.refl _, rfl⟩) ?_
       refine each_cons (fun x y hS hT hk => d_fieldAddr (wn rfl) (hT.ev rfl) fo23_2 ⟨SM.refl _, rfl⟩) ?_
       refine each_cons (fun x y hS hT hk => d_storeM (v := (.int .i64 i.a)) (w0 := w43.drew) (wn rfl) (hk 8 rfl) (hk 1 rfl) one3 rfl hS hM296 m45 (Nat.le_of_ble_eq_true rfl) rfl (fun _ h => h)) ?_
       refine each_cons (fun x y hS hT hk => d_fieldAddr (wn rfl) (hT.ev rfl) fo23_4 ⟨SM.refl _, rfl⟩) ?_
       refine each_cons (fun x y hS hT hk => d_storeM (v := (.int .i64 (immF i i.a))) (w0 := w43.drew) (wn rfl) (hk 10 rfl) (hk 5 rfl) one3 rfl hS hM296 m45 (Nat.le_of_ble_eq_true rfl) rfl (fun _ h => h)) ?_
       refine each_cons (fun x y hS hT hk => d_fieldAddr (wn rfl) (hT.ev rfl) fo23_12 ⟨SM.refl _, rfl⟩) ?_
       refine each_cons (fun x y hS hT hk => d_storeM (v := (.bool i.rel)) (w0 := w43.drew) (wn rfl) (hk 12 rfl) (hk 7 rfl) one4 rfl hS hM296 m45 (Nat.le_of_ble_eq_true rfl) rfl (fun _ h => h)) ?_
       exact each_nil
      intro f297 a298 w299 hS300 hC301 hA302
      have hA303 : St 119 [(1, (.pointer (some ⟨g3, 0, none⟩))), (2, (.pointer (some ⟨g12, 0, none⟩))), (3, (.pointer (some ⟨g30, 0, none⟩)))] a298 := hA302.cut _ (fm_cons (hA302.get 1 _ rfl) (fm_cons (hA302.get 2 _ rfl) (fm_cons (hA302.get 3 _ rfl) fm_nil)))
      have m304 := m46.sm hS300 hM294
      have m305 := m47.sm hS300 hM295
      have m306 : Blk w299 g30 #[.int .i64 i.op, .int .i64 (-1), .int .i64 i.a, .int .i64 (-1), .int .i64 (immF i i.a), .int .i64 0, .int .i64 0, .int .i64 (-1), .int .i64 0, .int .i64 0, .bool false, .bool false, .bool i.rel, .int .i64 0, .int .i64 0, .int .i64 0, .bool false] 23 := hS300.finL [(2, (.int .i64 i.a)), (4, (.int .i64 (immF i i.a))), (12, (.bool i.rel))] hM296 (by kernel_rfl) m45 (fm_cons (hC301 9 (Nat.le_of_ble_eq_true rfl)) (fm_cons (hC301 11 (Nat.le_of_ble_eq_true rfl)) (fm_cons (hC301 13 (Nat.le_of_ble_eq_true rfl)) fm_nil)))
      have b307 := hS300.below b48 b48.size hM293B
      refine i_norm ?_
      refine t_norm ?_
      refine wp_seq ?_
      refine wp_seq ?_
      refine wp_region_lit ?_
      refine q_step hA303 rfl (d_loadRow (cs := (insC i)) (wn rfl) (hA303.ev rfl) row23 m304 ?_)
      intro a308 hA309
      refine q_step hA309 rfl (d_call (wn rfl) ent35 (map1 (hA309.ev rfl)) (isOp_any i w299) ?_)
      rintro e313 w310 ⟨he312, hG311⟩
      have m314 := m304.grow hG311
      have m315 := m305.grow hG311
      have m316 := m306.grow hG311
      have b317 := below_grow b307 hG311 b307.size
      refine ⟨.bool true, he312.trans (ret_bool (by simp [opB, rdB, wrB, eq_of_beq hb285])), ?_⟩
      intro a318 hA319
      refine q_end ?_
      have hA320 : St 119 [(1, (.pointer (some ⟨g3, 0, none⟩))), (2, (.pointer (some ⟨g12, 0, none⟩))), (3, (.pointer (some ⟨g30, 0, none⟩))), (105, (.bool true))] a318 := hA319.cut _ (fm_cons (hA319.get 1 _ rfl) (fm_cons (hA319.get 2 _ rfl) (fm_cons (hA319.get 3 _ rfl) (fm_cons (hA319.get 105 _ rfl) fm_nil))))
      refine t_norm ?_
      refine c_true hA320 rfl ?_
      have hA321 : St 119 [(1, (.pointer (some ⟨g3, 0, none⟩))), (2, (.pointer (some ⟨g12, 0, none⟩))), (3, (.pointer (some ⟨g30, 0, none⟩)))] a318 := hA320.cut _ (fm_cons (hA320.get 1 _ rfl) (fm_cons (hA320.get 2 _ rfl) (fm_cons (hA320.get 3 _ rfl) fm_nil)))
      let M322 : Nat → Option (Array Value) := fun k => if k = g30 then some #[.int .i64 i.op, .int .i64 (-1), .int .i64 i.a, .int .i64 (-1), .int .i64 (immF i i.a), .int .i64 i.loc, .int .i64 i.off, .int .i64 i.index, .int .i64 i.size, .int .i64 0, .bool false, .bool false, .bool i.rel, .int .i64 0, .int .i64 0, .int .i64 0, .bool false] else none
      have hM322 : M322 = fun k => if k = g30 then some #[.int .i64 i.op, .int .i64 (-1), .int .i64 i.a, .int .i64 (-1), .int .i64 (immF i i.a), .int .i64 i.loc, .int .i64 i.off, .int .i64 i.index, .int .i64 i.size, .int .i64 0, .bool false, .bool false, .bool i.rel, .int .i64 0, .int .i64 0, .int .i64 0, .bool false] else none := rfl
      clear_value M322
      have hM323 : M322 g3 = none := ((congrFun hM322 g3).trans (if_neg n36))
      have hM324 : M322 g12 = none := ((congrFun hM322 g12).trans (if_neg n37))
      have hM325 : M322 g30 = some #[.int .i64 i.op, .int .i64 (-1), .int .i64 i.a, .int .i64 (-1), .int .i64 (immF i i.a), .int .i64 i.loc, .int .i64 i.off, .int .i64 i.index, .int .i64 i.size, .int .i64 0, .bool false, .bool false, .bool i.rel, .int .i64 0, .int .i64 0, .int .i64 0, .bool false] := ((congrFun hM322 g30).trans (if_pos rfl))
      have hM322B : ∀ k, k < w.heap.size → M322 k = none := (fun k hk => (congrFun hM322 k).trans (if_neg (fun h => Nat.lt_irrefl _ (Nat.lt_of_lt_of_le (h ▸ hk) ge35))))
      refine drawn (S := SM M322) (tabL [cv (.pointer (some ⟨g3, 5, none⟩)), cv (.int .i64 i.loc), cv (.pointer (some ⟨g3, 6, none⟩)), cv (.int .i64 i.off), cv (.pointer (some ⟨g3, 7, none⟩)), cv (.int .i64 i.index), cv (.pointer (some ⟨g3, 8, none⟩)), cv (.int .i64 i.size), cv (.pointer (some ⟨g30, 5, none⟩)), cm M322 g30 5 (.int .i64 i.loc) ⟨_, hM325, rfl⟩, cv (.pointer (some ⟨g30, 6, none⟩)), cm M322 g30 6 (.int .i64 i.off) ⟨_, hM325, rfl⟩, cv (.pointer (some ⟨g30, 7, none⟩)), cm M322 g30 7 (.int .i64 i.index) ⟨_, hM325, rfl⟩, cv (.pointer (some ⟨g30, 8, none⟩)), cm M322 g30 8 (.int .i64 i.size) ⟨_, hM325, rfl⟩]) mixedY SM.refl SM.trans SM.drew hA321 (by kernel_rfl) ?_ ?_
      ·skip
       refine each_cons (fun x y hS hT hk => d_fieldAddr (wn rfl) (hT.ev rfl) fo23_5 ⟨SM.refl _, rfl⟩) ?_
       refine each_cons (fun x y hS hT hk => d_load (v := (.int .i64 i.loc)) (wn rfl) (hk 0 rfl) one3 ((Blk.sm (w := w310.drew) m314 hS hM323).cell rfl) ⟨SM.refl _, rfl⟩) ?_
       refine each_cons (fun x y hS hT hk => d_fieldAddr (wn rfl) (hT.ev rfl) fo23_6 ⟨SM.refl _, rfl⟩) ?_
       refine each_cons (fun x y hS hT hk => d_load (v := (.int .i64 i.off)) (wn rfl) (hk 2 rfl) one3 ((Blk.sm (w := w310.drew) m314 hS hM323).cell rfl) ⟨SM.refl _, rfl⟩) ?_
       refine each_cons (fun x y hS hT hk => d_fieldAddr (wn rfl) (hT.ev rfl) fo23_7 ⟨SM.refl _, rfl⟩) ?_
       refine each_cons (fun x y hS hT hk => d_load (v := (.int .i64 i.index)) (wn rfl) (hk 4 rfl) one3 ((Blk.sm (w := w310.drew) m314 hS hM323).cell rfl) ⟨SM.refl _, rfl⟩) ?_
       refine each_cons (fun x y hS hT hk => d_fieldAddr (wn rfl) (hT.ev rfl) fo23_8 ⟨SM.refl _, rfl⟩) ?_
       refine each_cons (fun x y hS hT hk => d_load (v := (.int .i64 i.size)) (wn rfl) (hk 6 rfl) one3 ((Blk.sm (w := w310.drew) m314 hS hM323).cell rfl) ⟨SM.refl _, rfl⟩) ?_
       refine each_cons (fun x y hS hT hk => d_fieldAddr (wn rfl) (hT.ev rfl) fo23_5 ⟨SM.refl _, rfl⟩) ?_
       refine each_cons (fun x y hS hT hk => d_storeM (v := (.int .i64 i.loc)) (w0 := w310.drew) (wn rfl) (hk 8 rfl) (hk 1 rfl) one3 rfl hS hM325 m316 (Nat.le_of_ble_eq_true rfl) rfl (fun _ h => h)) ?_
       refine each_cons (fun x y hS hT hk => d_fieldAddr (wn rfl) (hT.ev rfl) fo23_6 ⟨SM.refl _, rfl⟩) ?_
       refine each_cons (fun x y hS hT hk => d_storeM (v := (.int .i64 i.off)) (w0 := w310.drew) (wn rfl) (hk 10 rfl) (hk 3 rfl) one3 rfl hS hM325 m316 (Nat.le_of_ble_eq_true rfl) rfl (fun _ h => h)) ?_
       refine each_cons (fun x y hS hT hk => d_fieldAddr (wn rfl) (hT.ev rfl) fo23_7 ⟨SM.refl _, rfl⟩) ?_
       refine each_cons (fun x y hS hT hk => d_storeM (v := (.int .i64 i.index)) (w0 := w310.drew) (wn rfl) (hk 12 rfl) (hk 5 rfl) one3 rfl hS hM325 m316 (Nat.le_of_ble_eq_true rfl) rfl (fun _ h => h)) ?_
       refine each_cons (fun x y hS hT hk => d_fieldAddr (wn rfl) (hT.ev rfl) fo23_8 ⟨SM.refl _, rfl⟩) ?_
       refine each_cons (fun x y hS hT hk => d_storeM (v := (.int .i64 i.size)) (w0 := w310.drew) (wn rfl) (hk 14 rfl) (hk 7 rfl) one3 rfl hS hM325 m316 (Nat.le_of_ble_eq_true rfl) rfl (fun _ h => h)) ?_
       exact each_nil
      intro f326 a327 w328 hS329 hC330 hA331
      have hA332 : St 119 [(2, (.pointer (some ⟨g12, 0, none⟩))), (3, (.pointer (some ⟨g30, 0, none⟩)))] a327 := hA331.cut _ (fm_cons (hA331.get 2 _ rfl) (fm_cons (hA331.get 3 _ rfl) fm_nil))
      have m333 := m314.sm hS329 hM323
      have m334 := m315.sm hS329 hM324
      have m335 : Blk w328 g30 #[.int .i64 i.op, .int .i64 (-1), .int .i64 i.a, .int .i64 (-1), .int .i64 (immF i i.a), .int .i64 i.loc, .int .i64 i.off, .int .i64 i.index, .int .i64 i.size, .int .i64 0, .bool false, .bool false, .bool i.rel, .int .i64 0, .int .i64 0, .int .i64 0, .bool false] 23 := hS329.finL [(5, (.int .i64 i.loc)), (6, (.int .i64 i.off)), (7, (.int .i64 i.index)), (8, (.int .i64 i.size))] hM325 (by kernel_rfl) m316 (fm_cons (hC330 9 (Nat.le_of_ble_eq_true rfl)) (fm_cons (hC330 11 (Nat.le_of_ble_eq_true rfl)) (fm_cons (hC330 13 (Nat.le_of_ble_eq_true rfl)) (fm_cons (hC330 15 (Nat.le_of_ble_eq_true rfl)) fm_nil))))
      have b336 := hS329.below b317 b317.size hM322B
      refine t_norm ?_
      refine wp_seq ?_
      refine wp_region_lit ?_
      refine q_step hA332 rfl (d_loadRow (cs := #[.int .i64 i.op, .int .i64 (-1), .int .i64 i.a, .int .i64 (-1), .int .i64 (immF i i.a), .int .i64 i.loc, .int .i64 i.off, .int .i64 i.index, .int .i64 i.size, .int .i64 0, .bool false, .bool false, .bool i.rel, .int .i64 0, .int .i64 0, .int .i64 0, .bool false]) (wn rfl) (hA332.ev rfl) row23 m335 ?_)
      intro a337 hA338
      refine q_step hA338 rfl (d_storeRow (wn rfl) (hA338.ev rfl) (hA338.ev rfl) row23 m334 rfl rfl ?_)
      intro w339 hU340 (m341 : Blk w339 g12 #[.int .i64 i.op, .int .i64 (-1), .int .i64 i.a, .int .i64 (-1), .int .i64 (immF i i.a), .int .i64 i.loc, .int .i64 i.off, .int .i64 i.index, .int .i64 i.size, .int .i64 0, .bool false, .bool false, .bool i.rel, .int .i64 0, .int .i64 0, .int .i64 0, .bool false] 23)
      have m342 := m333.upd hU340 n18
      have m343 := m335.upd hU340 (Ne.symm n37)
      have b344 := hU340.below b336 ge17
      intro a345 hA346
      refine q_end ?_
      have hA347 : St 119 [(2, (.pointer (some ⟨g12, 0, none⟩)))] a345 := hA346.cut _ (fm_cons (hA346.get 2 _ rfl) fm_nil)
      refine t_norm ?_
      refine wp_ret ?_
      refine retRow (g := g12) (cs := #[.int .i64 i.op, .int .i64 (-1), .int .i64 i.a, .int .i64 (-1), .int .i64 (immF i i.a), .int .i64 i.loc, .int .i64 i.off, .int .i64 i.index, .int .i64 i.size, .int .i64 0, .bool false, .bool false, .bool i.rel, .int .i64 0, .int .i64 0, .int .i64 0, .bool false]) rfl hA347 rfl m341 row23 ?_
      exact ⟨ret_agg (by simp [insC, plainF, opB, rdB, wrB, hb57, hb110, hb163, hb216, eq_of_beq hb285]), b344⟩
     ·skip
      have hq348 := ne_of_beq hb285
      refine q_step hA284 rfl (d_bin (wn rfl) (hA284.ev rfl) (hA284.ev rfl) (b_eq _ _ i.op 5 false _ hb285) ?_)
      intro a349 hA350
      refine q_step hA350 rfl (d_assign (wn rfl) (hA350.ev rfl) ?_)
      intro a351 hA352
      refine q_end ?_
      have hA353 : St 119 [(1, (.pointer (some ⟨g3, 0, none⟩))), (2, (.pointer (some ⟨g12, 0, none⟩))), (3, (.pointer (some ⟨g30, 0, none⟩))), (8, (.int .i64 i.op)), (55, (.bool false))] a351 := hA352.cut _ (fm_cons (hA352.get 1 _ rfl) (fm_cons (hA352.get 2 _ rfl) (fm_cons (hA352.get 3 _ rfl) (fm_cons (hA352.get 8 _ rfl) (fm_cons (hA352.get 55 _ rfl) fm_nil)))))
      refine t_norm ?_
      refine c_false hA353 rfl ?_
      refine wp_seq ?_
      refine wp_region_lit ?_
      rcases Bool.eq_false_or_eq_true (i.op == 6) with hb354 | hb354
      ·skip
       have hq355 := eq_of_beq hb354
       refine q_step hA353 rfl (d_bin (wn rfl) (hA353.ev rfl) (hA353.ev rfl) (b_eq _ _ i.op 6 true _ hb354) ?_)
       intro a356 hA357
       refine q_step hA357 rfl (d_assign (wn rfl) (hA357.ev rfl) ?_)
       intro a358 hA359
       refine q_end ?_
       have hA360 : St 119 [(1, (.pointer (some ⟨g3, 0, none⟩))), (2, (.pointer (some ⟨g12, 0, none⟩))), (3, (.pointer (some ⟨g30, 0, none⟩))), (8, (.int .i64 i.op)), (68, (.bool true))] a358 := hA359.cut _ (fm_cons (hA359.get 1 _ rfl) (fm_cons (hA359.get 2 _ rfl) (fm_cons (hA359.get 3 _ rfl) (fm_cons (hA359.get 8 _ rfl) (fm_cons (hA359.get 68 _ rfl) fm_nil)))))
       refine t_norm ?_
       refine c_true hA360 rfl ?_
       have hA361 : St 119 [(1, (.pointer (some ⟨g3, 0, none⟩))), (2, (.pointer (some ⟨g12, 0, none⟩))), (3, (.pointer (some ⟨g30, 0, none⟩)))] a358 := hA360.cut _ (fm_cons (hA360.get 1 _ rfl) (fm_cons (hA360.get 2 _ rfl) (fm_cons (hA360.get 3 _ rfl) fm_nil)))
       let M362 : Nat → Option (Array Value) := fun k => if k = g30 then some #[.int .i64 i.op, .int .i64 i.dst, .int .i64 i.a, .int .i64 (-1), .int .i64 0, .int .i64 0, .int .i64 0, .int .i64 (-1), .int .i64 0, .int .i64 i.fn, .bool i.acq, .bool false, .bool i.rel, .int .i64 0, .int .i64 0, .int .i64 0, .bool false] else none
       have hM362 : M362 = fun k => if k = g30 then some #[.int .i64 i.op, .int .i64 i.dst, .int .i64 i.a, .int .i64 (-1), .int .i64 0, .int .i64 0, .int .i64 0, .int .i64 (-1), .int .i64 0, .int .i64 i.fn, .bool i.acq, .bool false, .bool i.rel, .int .i64 0, .int .i64 0, .int .i64 0, .bool false] else none := rfl
       clear_value M362
       have hM363 : M362 g3 = none := ((congrFun hM362 g3).trans (if_neg n36))
       have hM364 : M362 g12 = none := ((congrFun hM362 g12).trans (if_neg n37))
       have hM365 : M362 g30 = some #[.int .i64 i.op, .int .i64 i.dst, .int .i64 i.a, .int .i64 (-1), .int .i64 0, .int .i64 0, .int .i64 0, .int .i64 (-1), .int .i64 0, .int .i64 i.fn, .bool i.acq, .bool false, .bool i.rel, .int .i64 0, .int .i64 0, .int .i64 0, .bool false] := ((congrFun hM362 g30).trans (if_pos rfl))
       have hM362B : ∀ k, k < w.heap.size → M362 k = none := (fun k hk => (congrFun hM362 k).trans (if_neg (fun h => Nat.lt_irrefl _ (Nat.lt_of_lt_of_le (h ▸ hk) ge35))))
       refine drawn (S := SM M362) (tabL [cv (.pointer (some ⟨g3, 1, none⟩)), cv (.int .i64 i.dst), cv (.pointer (some ⟨g3, 2, none⟩)), cv (.int .i64 i.a), cv (.pointer (some ⟨g3, 9, none⟩)), cv (.int .i64 i.fn), cv (.pointer (some ⟨g3, 10, none⟩)), cv (.bool i.acq), cv (.pointer (some ⟨g3, 12, none⟩)), cv (.bool i.rel), cv (.pointer (some ⟨g30, 1, none⟩)), cm M362 g30 1 (.int .i64 i.dst) ⟨_, hM365, rfl⟩, cv (.pointer (some ⟨g30, 2, none⟩)), cm M362 g30 2 (.int .i64 i.a) ⟨_, hM365, rfl⟩, cv (.pointer (some ⟨g30, 9, none⟩)), cm M362 g30 9 (.int .i64 i.fn) ⟨_, hM365, rfl⟩, cv (.pointer (some ⟨g30, 10, none⟩)), cm M362 g30 10 (.bool i.acq) ⟨_, hM365, rfl⟩, cv (.pointer (some ⟨g30, 12, none⟩)), cm M362 g30 12 (.bool i.rel) ⟨_, hM365, rfl⟩]) mixedY SM.refl SM.trans SM.drew hA361 (by kernel_rfl) ?_ ?_
       ·skip
        refine each_cons (fun x y hS hT hk => d_fieldAddr (wn rfl) (hT.ev rfl) fo23_1 ⟨SM.refl _, rfl⟩) ?_
        refine each_cons (fun x y hS hT hk => d_load (v := (.int .i64 i.dst)) (wn rfl) (hk 0 rfl) one3 ((Blk.sm (w := w43.drew) m46 hS hM363).cell rfl) ⟨SM.refl _, rfl⟩) ?_
        refine each_cons (fun x y hS hT hk => d_fieldAddr (wn rfl) (hT.ev rfl) fo23_2 ⟨SM.refl _, rfl⟩) ?_
        refine each_cons (fun x y hS hT hk => d_load (v := (.int .i64 i.a)) (wn rfl) (hk 2 rfl) one3 ((Blk.sm (w := w43.drew) m46 hS hM363).cell rfl) ⟨SM.refl _, rfl⟩) ?_
        refine each_cons (fun x y hS hT hk => d_fieldAddr (wn rfl) (hT.ev rfl) fo23_9 ⟨SM.refl _, rfl⟩) ?_
        refine each_cons (fun x y hS hT hk => d_load (v := (.int .i64 i.fn)) (wn rfl) (hk 4 rfl) one3 ((Blk.sm (w := w43.drew) m46 hS hM363).cell rfl) ⟨SM.refl _, rfl⟩) ?_
        refine each_cons (fun x y hS hT hk => d_fieldAddr (wn rfl) (hT.ev rfl) fo23_10 ⟨SM.refl _, rfl⟩) ?_
        refine each_cons (fun x y hS hT hk => d_load (v := (.bool i.acq)) (wn rfl) (hk 6 rfl) one4 ((Blk.sm (w := w43.drew) m46 hS hM363).cell rfl) ⟨SM.refl _, rfl⟩) ?_
        refine each_cons (fun x y hS hT hk => d_fieldAddr (wn rfl) (hT.ev rfl) fo23_12 ⟨SM.refl _, rfl⟩) ?_
        refine each_cons (fun x y hS hT hk => d_load (v := (.bool i.rel)) (wn rfl) (hk 8 rfl) one4 ((Blk.sm (w := w43.drew) m46 hS hM363).cell rfl) ⟨SM.refl _, rfl⟩) ?_
        refine each_cons (fun x y hS hT hk => d_fieldAddr (wn rfl) (hT.ev rfl) fo23_1 ⟨SM.refl _, rfl⟩) ?_
        refine each_cons (fun x y hS hT hk => d_storeM (v := (.int .i64 i.dst)) (w0 := w43.drew) (wn rfl) (hk 10 rfl) (hk 1 rfl) one3 rfl hS hM365 m45 (Nat.le_of_ble_eq_true rfl) rfl (fun _ h => h)) ?_
        refine each_cons (fun x y hS hT hk => d_fieldAddr (wn rfl) (hT.ev rfl) fo23_2 ⟨SM.refl _, rfl⟩) ?_
        refine each_cons (fun x y hS hT hk => d_storeM (v := (.int .i64 i.a)) (w0 := w43.drew) (wn rfl) (hk 12 rfl) (hk 3 rfl) one3 rfl hS hM365 m45 (Nat.le_of_ble_eq_true rfl) rfl (fun _ h => h)) ?_
        refine each_cons (fun x y hS hT hk => d_fieldAddr (wn rfl) (hT.ev rfl) fo23_9 ⟨SM.refl _, rfl⟩) ?_
        refine each_cons (fun x y hS hT hk => d_storeM (v := (.int .i64 i.fn)) (w0 := w43.drew) (wn rfl) (hk 14 rfl) (hk 5 rfl) one3 rfl hS hM365 m45 (Nat.le_of_ble_eq_true rfl) rfl (fun _ h => h)) ?_
        refine each_cons (fun x y hS hT hk => d_fieldAddr (wn rfl) (hT.ev rfl) fo23_10 ⟨SM.refl _, rfl⟩) ?_
        refine each_cons (fun x y hS hT hk => d_storeM (v := (.bool i.acq)) (w0 := w43.drew) (wn rfl) (hk 16 rfl) (hk 7 rfl) one4 rfl hS hM365 m45 (Nat.le_of_ble_eq_true rfl) rfl (fun _ h => h)) ?_
        refine each_cons (fun x y hS hT hk => d_fieldAddr (wn rfl) (hT.ev rfl) fo23_12 ⟨SM.refl _, rfl⟩) ?_
        refine each_cons (fun x y hS hT hk => d_storeM (v := (.bool i.rel)) (w0 := w43.drew) (wn rfl) (hk 18 rfl) (hk 9 rfl) one4 rfl hS hM365 m45 (Nat.le_of_ble_eq_true rfl) rfl (fun _ h => h)) ?_
        exact each_nil
       intro f366 a367 w368 hS369 hC370 hA371
       have hA372 : St 119 [(1, (.pointer (some ⟨g3, 0, none⟩))), (2, (.pointer (some ⟨g12, 0, none⟩))), (3, (.pointer (some ⟨g30, 0, none⟩)))] a367 := hA371.cut _ (fm_cons (hA371.get 1 _ rfl) (fm_cons (hA371.get 2 _ rfl) (fm_cons (hA371.get 3 _ rfl) fm_nil)))
       have m373 := m46.sm hS369 hM363
       have m374 := m47.sm hS369 hM364
       have m375 : Blk w368 g30 #[.int .i64 i.op, .int .i64 i.dst, .int .i64 i.a, .int .i64 (-1), .int .i64 0, .int .i64 0, .int .i64 0, .int .i64 (-1), .int .i64 0, .int .i64 i.fn, .bool i.acq, .bool false, .bool i.rel, .int .i64 0, .int .i64 0, .int .i64 0, .bool false] 23 := hS369.finL [(1, (.int .i64 i.dst)), (2, (.int .i64 i.a)), (9, (.int .i64 i.fn)), (10, (.bool i.acq)), (12, (.bool i.rel))] hM365 (by kernel_rfl) m45 (fm_cons (hC370 11 (Nat.le_of_ble_eq_true rfl)) (fm_cons (hC370 13 (Nat.le_of_ble_eq_true rfl)) (fm_cons (hC370 15 (Nat.le_of_ble_eq_true rfl)) (fm_cons (hC370 17 (Nat.le_of_ble_eq_true rfl)) (fm_cons (hC370 19 (Nat.le_of_ble_eq_true rfl)) fm_nil)))))
       have b376 := hS369.below b48 b48.size hM362B
       refine i_norm ?_
       refine t_norm ?_
       refine wp_seq ?_
       refine wp_seq ?_
       refine wp_region_lit ?_
       refine q_step hA372 rfl (d_loadRow (cs := (insC i)) (wn rfl) (hA372.ev rfl) row23 m373 ?_)
       intro a377 hA378
       refine q_step hA378 rfl (d_call (wn rfl) ent35 (map1 (hA378.ev rfl)) (isOp_any i w368) ?_)
       rintro e382 w379 ⟨he381, hG380⟩
       have m383 := m373.grow hG380
       have m384 := m374.grow hG380
       have m385 := m375.grow hG380
       have b386 := below_grow b376 hG380 b376.size
       refine ⟨.bool true, he381.trans (ret_bool (by simp [opB, rdB, wrB, eq_of_beq hb354])), ?_⟩
       intro a387 hA388
       refine q_end ?_
       have hA389 : St 119 [(1, (.pointer (some ⟨g3, 0, none⟩))), (2, (.pointer (some ⟨g12, 0, none⟩))), (3, (.pointer (some ⟨g30, 0, none⟩))), (105, (.bool true))] a387 := hA388.cut _ (fm_cons (hA388.get 1 _ rfl) (fm_cons (hA388.get 2 _ rfl) (fm_cons (hA388.get 3 _ rfl) (fm_cons (hA388.get 105 _ rfl) fm_nil))))
       refine t_norm ?_
       refine c_true hA389 rfl ?_
       have hA390 : St 119 [(1, (.pointer (some ⟨g3, 0, none⟩))), (2, (.pointer (some ⟨g12, 0, none⟩))), (3, (.pointer (some ⟨g30, 0, none⟩)))] a387 := hA389.cut _ (fm_cons (hA389.get 1 _ rfl) (fm_cons (hA389.get 2 _ rfl) (fm_cons (hA389.get 3 _ rfl) fm_nil)))
       let M391 : Nat → Option (Array Value) := fun k => if k = g30 then some #[.int .i64 i.op, .int .i64 i.dst, .int .i64 i.a, .int .i64 (-1), .int .i64 0, .int .i64 i.loc, .int .i64 i.off, .int .i64 i.index, .int .i64 i.size, .int .i64 i.fn, .bool i.acq, .bool false, .bool i.rel, .int .i64 0, .int .i64 0, .int .i64 0, .bool false] else none
       have hM391 : M391 = fun k => if k = g30 then some #[.int .i64 i.op, .int .i64 i.dst, .int .i64 i.a, .int .i64 (-1), .int .i64 0, .int .i64 i.loc, .int .i64 i.off, .int .i64 i.index, .int .i64 i.size, .int .i64 i.fn, .bool i.acq, .bool false, .bool i.rel, .int .i64 0, .int .i64 0, .int .i64 0, .bool false] else none := rfl
       clear_value M391
       have hM392 : M391 g3 = none := ((congrFun hM391 g3).trans (if_neg n36))
       have hM393 : M391 g12 = none := ((congrFun hM391 g12).trans (if_neg n37))
       have hM394 : M391 g30 = some #[.int .i64 i.op, .int .i64 i.dst, .int .i64 i.a, .int .i64 (-1), .int .i64 0, .int .i64 i.loc, .int .i64 i.off, .int .i64 i.index, .int .i64 i.size, .int .i64 i.fn, .bool i.acq, .bool false, .bool i.rel, .int .i64 0, .int .i64 0, .int .i64 0, .bool false] := ((congrFun hM391 g30).trans (if_pos rfl))
       have hM391B : ∀ k, k < w.heap.size → M391 k = none := (fun k hk => (congrFun hM391 k).trans (if_neg (fun h => Nat.lt_irrefl _ (Nat.lt_of_lt_of_le (h ▸ hk) ge35))))
       refine drawn (S := SM M391) (tabL [cv (.pointer (some ⟨g3, 5, none⟩)), cv (.int .i64 i.loc), cv (.pointer (some ⟨g3, 6, none⟩)), cv (.int .i64 i.off), cv (.pointer (some ⟨g3, 7, none⟩)), cv (.int .i64 i.index), cv (.pointer (some ⟨g3, 8, none⟩)), cv (.int .i64 i.size), cv (.pointer (some ⟨g30, 5, none⟩)), cm M391 g30 5 (.int .i64 i.loc) ⟨_, hM394, rfl⟩, cv (.pointer (some ⟨g30, 6, none⟩)), cm M391 g30 6 (.int .i64 i.off) ⟨_, hM394, rfl⟩, cv (.pointer (some ⟨g30, 7, none⟩)), cm M391 g30 7 (.int .i64 i.index) ⟨_, hM394, rfl⟩, cv (.pointer (some ⟨g30, 8, none⟩)), cm M391 g30 8 (.int .i64 i.size) ⟨_, hM394, rfl⟩]) mixedY SM.refl SM.trans SM.drew hA390 (by kernel_rfl) ?_ ?_
       ·skip
        refine each_cons (fun x y hS hT hk => d_fieldAddr (wn rfl) (hT.ev rfl) fo23_5 ⟨SM.refl _, rfl⟩) ?_
        refine each_cons (fun x y hS hT hk => d_load (v := (.int .i64 i.loc)) (wn rfl) (hk 0 rfl) one3 ((Blk.sm (w := w379.drew) m383 hS hM392).cell rfl) ⟨SM.refl _, rfl⟩) ?_
        refine each_cons (fun x y hS hT hk => d_fieldAddr (wn rfl) (hT.ev rfl) fo23_6 ⟨SM.refl _, rfl⟩) ?_
        refine each_cons (fun x y hS hT hk => d_load (v := (.int .i64 i.off)) (wn rfl) (hk 2 rfl) one3 ((Blk.sm (w := w379.drew) m383 hS hM392).cell rfl) ⟨SM.refl _, rfl⟩) ?_
        refine each_cons (fun x y hS hT hk => d_fieldAddr (wn rfl) (hT.ev rfl) fo23_7 ⟨SM.refl _, rfl⟩) ?_
        refine each_cons (fun x y hS hT hk => d_load (v := (.int .i64 i.index)) (wn rfl) (hk 4 rfl) one3 ((Blk.sm (w := w379.drew) m383 hS hM392).cell rfl) ⟨SM.refl _, rfl⟩) ?_
        refine each_cons (fun x y hS hT hk => d_fieldAddr (wn rfl) (hT.ev rfl) fo23_8 ⟨SM.refl _, rfl⟩) ?_
        refine each_cons (fun x y hS hT hk => d_load (v := (.int .i64 i.size)) (wn rfl) (hk 6 rfl) one3 ((Blk.sm (w := w379.drew) m383 hS hM392).cell rfl) ⟨SM.refl _, rfl⟩) ?_
        refine each_cons (fun x y hS hT hk => d_fieldAddr (wn rfl) (hT.ev rfl) fo23_5 ⟨SM.refl _, rfl⟩) ?_
        refine each_cons (fun x y hS hT hk => d_storeM (v := (.int .i64 i.loc)) (w0 := w379.drew) (wn rfl) (hk 8 rfl) (hk 1 rfl) one3 rfl hS hM394 m385 (Nat.le_of_ble_eq_true rfl) rfl (fun _ h => h)) ?_
        refine each_cons (fun x y hS hT hk => d_fieldAddr (wn rfl) (hT.ev rfl) fo23_6 ⟨SM.refl _, rfl⟩) ?_
        refine each_cons (fun x y hS hT hk => d_storeM (v := (.int .i64 i.off)) (w0 := w379.drew) (wn rfl) (hk 10 rfl) (hk 3 rfl) one3 rfl hS hM394 m385 (Nat.le_of_ble_eq_true rfl) rfl (fun _ h => h)) ?_
        refine each_cons (fun x y hS hT hk => d_fieldAddr (wn rfl) (hT.ev rfl) fo23_7 ⟨SM.refl _, rfl⟩) ?_
        refine each_cons (fun x y hS hT hk => d_storeM (v := (.int .i64 i.index)) (w0 := w379.drew) (wn rfl) (hk 12 rfl) (hk 5 rfl) one3 rfl hS hM394 m385 (Nat.le_of_ble_eq_true rfl) rfl (fun _ h => h)) ?_
        refine each_cons (fun x y hS hT hk => d_fieldAddr (wn rfl) (hT.ev rfl) fo23_8 ⟨SM.refl _, rfl⟩) ?_
        refine each_cons (fun x y hS hT hk => d_storeM (v := (.int .i64 i.size)) (w0 := w379.drew) (wn rfl) (hk 14 rfl) (hk 7 rfl) one3 rfl hS hM394 m385 (Nat.le_of_ble_eq_true rfl) rfl (fun _ h => h)) ?_
        exact each_nil
       intro f395 a396 w397 hS398 hC399 hA400
       have hA401 : St 119 [(2, (.pointer (some ⟨g12, 0, none⟩))), (3, (.pointer (some ⟨g30, 0, none⟩)))] a396 := hA400.cut _ (fm_cons (hA400.get 2 _ rfl) (fm_cons (hA400.get 3 _ rfl) fm_nil))
       have m402 := m383.sm hS398 hM392
       have m403 := m384.sm hS398 hM393
       have m404 : Blk w397 g30 #[.int .i64 i.op, .int .i64 i.dst, .int .i64 i.a, .int .i64 (-1), .int .i64 0, .int .i64 i.loc, .int .i64 i.off, .int .i64 i.index, .int .i64 i.size, .int .i64 i.fn, .bool i.acq, .bool false, .bool i.rel, .int .i64 0, .int .i64 0, .int .i64 0, .bool false] 23 := hS398.finL [(5, (.int .i64 i.loc)), (6, (.int .i64 i.off)), (7, (.int .i64 i.index)), (8, (.int .i64 i.size))] hM394 (by kernel_rfl) m385 (fm_cons (hC399 9 (Nat.le_of_ble_eq_true rfl)) (fm_cons (hC399 11 (Nat.le_of_ble_eq_true rfl)) (fm_cons (hC399 13 (Nat.le_of_ble_eq_true rfl)) (fm_cons (hC399 15 (Nat.le_of_ble_eq_true rfl)) fm_nil))))
       have b405 := hS398.below b386 b386.size hM391B
       refine t_norm ?_
       refine wp_seq ?_
       refine wp_region_lit ?_
       refine q_step hA401 rfl (d_loadRow (cs := #[.int .i64 i.op, .int .i64 i.dst, .int .i64 i.a, .int .i64 (-1), .int .i64 0, .int .i64 i.loc, .int .i64 i.off, .int .i64 i.index, .int .i64 i.size, .int .i64 i.fn, .bool i.acq, .bool false, .bool i.rel, .int .i64 0, .int .i64 0, .int .i64 0, .bool false]) (wn rfl) (hA401.ev rfl) row23 m404 ?_)
       intro a406 hA407
       refine q_step hA407 rfl (d_storeRow (wn rfl) (hA407.ev rfl) (hA407.ev rfl) row23 m403 rfl rfl ?_)
       intro w408 hU409 (m410 : Blk w408 g12 #[.int .i64 i.op, .int .i64 i.dst, .int .i64 i.a, .int .i64 (-1), .int .i64 0, .int .i64 i.loc, .int .i64 i.off, .int .i64 i.index, .int .i64 i.size, .int .i64 i.fn, .bool i.acq, .bool false, .bool i.rel, .int .i64 0, .int .i64 0, .int .i64 0, .bool false] 23)
       have m411 := m402.upd hU409 n18
       have m412 := m404.upd hU409 (Ne.symm n37)
       have b413 := hU409.below b405 ge17
       intro a414 hA415
       refine q_end ?_
       have hA416 : St 119 [(2, (.pointer (some ⟨g12, 0, none⟩)))] a414 := hA415.cut _ (fm_cons (hA415.get 2 _ rfl) fm_nil)
       refine t_norm ?_
       refine wp_ret ?_
       refine retRow (g := g12) (cs := #[.int .i64 i.op, .int .i64 i.dst, .int .i64 i.a, .int .i64 (-1), .int .i64 0, .int .i64 i.loc, .int .i64 i.off, .int .i64 i.index, .int .i64 i.size, .int .i64 i.fn, .bool i.acq, .bool false, .bool i.rel, .int .i64 0, .int .i64 0, .int .i64 0, .bool false]) rfl hA416 rfl m410 row23 ?_
       exact ⟨ret_agg (by simp [insC, plainF, opB, rdB, wrB, hb57, hb110, hb163, hb216, hb285, eq_of_beq hb354]), b413⟩
      ·skip
       have hq417 := ne_of_beq hb354
       refine q_step hA353 rfl (d_bin (wn rfl) (hA353.ev rfl) (hA353.ev rfl) (b_eq _ _ i.op 6 false _ hb354) ?_)
       intro a418 hA419
       refine q_step hA419 rfl (d_assign (wn rfl) (hA419.ev rfl) ?_)
       intro a420 hA421
       refine q_end ?_
       have hA422 : St 119 [(1, (.pointer (some ⟨g3, 0, none⟩))), (2, (.pointer (some ⟨g12, 0, none⟩))), (3, (.pointer (some ⟨g30, 0, none⟩))), (8, (.int .i64 i.op)), (68, (.bool false))] a420 := hA421.cut _ (fm_cons (hA421.get 1 _ rfl) (fm_cons (hA421.get 2 _ rfl) (fm_cons (hA421.get 3 _ rfl) (fm_cons (hA421.get 8 _ rfl) (fm_cons (hA421.get 68 _ rfl) fm_nil)))))
       refine t_norm ?_
       refine c_false hA422 rfl ?_
       refine wp_seq ?_
       refine wp_region_lit ?_
       rcases Bool.eq_false_or_eq_true (i.op == 7) with hb423 | hb423
       ·skip
        have hq424 := eq_of_beq hb423
        refine q_step hA422 rfl (d_bin (wn rfl) (hA422.ev rfl) (hA422.ev rfl) (b_eq _ _ i.op 7 true _ hb423) ?_)
        intro a425 hA426
        refine q_step hA426 rfl (d_assign (wn rfl) (hA426.ev rfl) ?_)
        intro a427 hA428
        refine q_end ?_
        have hA429 : St 119 [(1, (.pointer (some ⟨g3, 0, none⟩))), (2, (.pointer (some ⟨g12, 0, none⟩))), (3, (.pointer (some ⟨g30, 0, none⟩))), (8, (.int .i64 i.op)), (85, (.bool true))] a427 := hA428.cut _ (fm_cons (hA428.get 1 _ rfl) (fm_cons (hA428.get 2 _ rfl) (fm_cons (hA428.get 3 _ rfl) (fm_cons (hA428.get 8 _ rfl) (fm_cons (hA428.get 85 _ rfl) fm_nil)))))
        refine t_norm ?_
        refine c_true hA429 rfl ?_
        have hA430 : St 119 [(1, (.pointer (some ⟨g3, 0, none⟩))), (2, (.pointer (some ⟨g12, 0, none⟩))), (3, (.pointer (some ⟨g30, 0, none⟩)))] a427 := hA429.cut _ (fm_cons (hA429.get 1 _ rfl) (fm_cons (hA429.get 2 _ rfl) (fm_cons (hA429.get 3 _ rfl) fm_nil)))
        let M431 : Nat → Option (Array Value) := fun k => if k = g30 then some #[.int .i64 i.op, .int .i64 (-1), .int .i64 (-1), .int .i64 (-1), .int .i64 0, .int .i64 0, .int .i64 0, .int .i64 (-1), .int .i64 0, .int .i64 0, .bool false, .bool false, .bool false, .int .i64 i.pred, .int .i64 i.succ, .int .i64 0, .bool false] else none
        have hM431 : M431 = fun k => if k = g30 then some #[.int .i64 i.op, .int .i64 (-1), .int .i64 (-1), .int .i64 (-1), .int .i64 0, .int .i64 0, .int .i64 0, .int .i64 (-1), .int .i64 0, .int .i64 0, .bool false, .bool false, .bool false, .int .i64 i.pred, .int .i64 i.succ, .int .i64 0, .bool false] else none := rfl
        clear_value M431
        have hM432 : M431 g3 = none := ((congrFun hM431 g3).trans (if_neg n36))
        have hM433 : M431 g12 = none := ((congrFun hM431 g12).trans (if_neg n37))
        have hM434 : M431 g30 = some #[.int .i64 i.op, .int .i64 (-1), .int .i64 (-1), .int .i64 (-1), .int .i64 0, .int .i64 0, .int .i64 0, .int .i64 (-1), .int .i64 0, .int .i64 0, .bool false, .bool false, .bool false, .int .i64 i.pred, .int .i64 i.succ, .int .i64 0, .bool false] := ((congrFun hM431 g30).trans (if_pos rfl))
        have hM431B : ∀ k, k < w.heap.size → M431 k = none := (fun k hk => (congrFun hM431 k).trans (if_neg (fun h => Nat.lt_irrefl _ (Nat.lt_of_lt_of_le (h ▸ hk) ge35))))
        refine drawn (S := SM M431) (tabL [cv (.pointer (some ⟨g3, 13, none⟩)), cv (.int .i64 i.pred), cv (.pointer (some ⟨g3, 14, none⟩)), cv (.int .i64 i.succ), cv (.pointer (some ⟨g30, 13, none⟩)), cm M431 g30 13 (.int .i64 i.pred) ⟨_, hM434, rfl⟩, cv (.pointer (some ⟨g30, 14, none⟩)), cm M431 g30 14 (.int .i64 i.succ) ⟨_, hM434, rfl⟩]) mixedY SM.refl SM.trans SM.drew hA430 (by kernel_rfl) ?_ ?_
        ·skip
         refine each_cons (fun x y hS hT hk => d_fieldAddr (wn rfl) (hT.ev rfl) fo23_13 ⟨SM.refl _, rfl⟩) ?_
         refine each_cons (fun x y hS hT hk => d_load (v := (.int .i64 i.pred)) (wn rfl) (hk 0 rfl) one3 ((Blk.sm (w := w43.drew) m46 hS hM432).cell rfl) ⟨SM.refl _, rfl⟩) ?_
         refine each_cons (fun x y hS hT hk => d_fieldAddr (wn rfl) (hT.ev rfl) fo23_14 ⟨SM.refl _, rfl⟩) ?_
         refine each_cons (fun x y hS hT hk => d_load (v := (.int .i64 i.succ)) (wn rfl) (hk 2 rfl) one3 ((Blk.sm (w := w43.drew) m46 hS hM432).cell rfl) ⟨SM.refl _, rfl⟩) ?_
         refine each_cons (fun x y hS hT hk => d_fieldAddr (wn rfl) (hT.ev rfl) fo23_13 ⟨SM.refl _, rfl⟩) ?_
         refine each_cons (fun x y hS hT hk => d_storeM (v := (.int .i64 i.pred)) (w0 := w43.drew) (wn rfl) (hk 4 rfl) (hk 1 rfl) one3 rfl hS hM434 m45 (Nat.le_of_ble_eq_true rfl) rfl (fun _ h => h)) ?_
         refine each_cons (fun x y hS hT hk => d_fieldAddr (wn rfl) (hT.ev rfl) fo23_14 ⟨SM.refl _, rfl⟩) ?_
         refine each_cons (fun x y hS hT hk => d_storeM (v := (.int .i64 i.succ)) (w0 := w43.drew) (wn rfl) (hk 6 rfl) (hk 3 rfl) one3 rfl hS hM434 m45 (Nat.le_of_ble_eq_true rfl) rfl (fun _ h => h)) ?_
         exact each_nil
        intro f435 a436 w437 hS438 hC439 hA440
        have hA441 : St 119 [(1, (.pointer (some ⟨g3, 0, none⟩))), (2, (.pointer (some ⟨g12, 0, none⟩))), (3, (.pointer (some ⟨g30, 0, none⟩)))] a436 := hA440.cut _ (fm_cons (hA440.get 1 _ rfl) (fm_cons (hA440.get 2 _ rfl) (fm_cons (hA440.get 3 _ rfl) fm_nil)))
        have m442 := m46.sm hS438 hM432
        have m443 := m47.sm hS438 hM433
        have m444 : Blk w437 g30 #[.int .i64 i.op, .int .i64 (-1), .int .i64 (-1), .int .i64 (-1), .int .i64 0, .int .i64 0, .int .i64 0, .int .i64 (-1), .int .i64 0, .int .i64 0, .bool false, .bool false, .bool false, .int .i64 i.pred, .int .i64 i.succ, .int .i64 0, .bool false] 23 := hS438.finL [(13, (.int .i64 i.pred)), (14, (.int .i64 i.succ))] hM434 (by kernel_rfl) m45 (fm_cons (hC439 5 (Nat.le_of_ble_eq_true rfl)) (fm_cons (hC439 7 (Nat.le_of_ble_eq_true rfl)) fm_nil))
        have b445 := hS438.below b48 b48.size hM431B
        refine i_norm ?_
        refine t_norm ?_
        refine wp_seq ?_
        refine wp_seq ?_
        refine wp_region_lit ?_
        refine q_step hA441 rfl (d_loadRow (cs := (insC i)) (wn rfl) (hA441.ev rfl) row23 m442 ?_)
        intro a446 hA447
        refine q_step hA447 rfl (d_call (wn rfl) ent35 (map1 (hA447.ev rfl)) (isOp_any i w437) ?_)
        rintro e451 w448 ⟨he450, hG449⟩
        have m452 := m442.grow hG449
        have m453 := m443.grow hG449
        have m454 := m444.grow hG449
        have b455 := below_grow b445 hG449 b445.size
        refine ⟨.bool false, he450.trans (ret_bool (by simp [opB, rdB, wrB, eq_of_beq hb423])), ?_⟩
        intro a456 hA457
        refine q_end ?_
        have hA458 : St 119 [(1, (.pointer (some ⟨g3, 0, none⟩))), (2, (.pointer (some ⟨g12, 0, none⟩))), (3, (.pointer (some ⟨g30, 0, none⟩))), (105, (.bool false))] a456 := hA457.cut _ (fm_cons (hA457.get 1 _ rfl) (fm_cons (hA457.get 2 _ rfl) (fm_cons (hA457.get 3 _ rfl) (fm_cons (hA457.get 105 _ rfl) fm_nil))))
        refine t_norm ?_
        refine c_false hA458 rfl ?_
        refine wp_skip ?_
        refine t_norm ?_
        refine wp_seq ?_
        refine wp_region_lit ?_
        refine q_step hA458 rfl (d_loadRow (cs := #[.int .i64 i.op, .int .i64 (-1), .int .i64 (-1), .int .i64 (-1), .int .i64 0, .int .i64 0, .int .i64 0, .int .i64 (-1), .int .i64 0, .int .i64 0, .bool false, .bool false, .bool false, .int .i64 i.pred, .int .i64 i.succ, .int .i64 0, .bool false]) (wn rfl) (hA458.ev rfl) row23 m454 ?_)
        intro a459 hA460
        refine q_step hA460 rfl (d_storeRow (wn rfl) (hA460.ev rfl) (hA460.ev rfl) row23 m453 rfl rfl ?_)
        intro w461 hU462 (m463 : Blk w461 g12 #[.int .i64 i.op, .int .i64 (-1), .int .i64 (-1), .int .i64 (-1), .int .i64 0, .int .i64 0, .int .i64 0, .int .i64 (-1), .int .i64 0, .int .i64 0, .bool false, .bool false, .bool false, .int .i64 i.pred, .int .i64 i.succ, .int .i64 0, .bool false] 23)
        have m464 := m452.upd hU462 n18
        have m465 := m454.upd hU462 (Ne.symm n37)
        have b466 := hU462.below b455 ge17
        intro a467 hA468
        refine q_end ?_
        have hA469 : St 119 [(2, (.pointer (some ⟨g12, 0, none⟩)))] a467 := hA468.cut _ (fm_cons (hA468.get 2 _ rfl) fm_nil)
        refine t_norm ?_
        refine wp_ret ?_
        refine retRow (g := g12) (cs := #[.int .i64 i.op, .int .i64 (-1), .int .i64 (-1), .int .i64 (-1), .int .i64 0, .int .i64 0, .int .i64 0, .int .i64 (-1), .int .i64 0, .int .i64 0, .bool false, .bool false, .bool false, .int .i64 i.pred, .int .i64 i.succ, .int .i64 0, .bool false]) rfl hA469 rfl m463 row23 ?_
        exact ⟨ret_agg (by simp [insC, plainF, opB, rdB, wrB, hb57, hb110, hb163, hb216, hb285, hb354, eq_of_beq hb423]), b466⟩
       ·skip
        have hq470 := ne_of_beq hb423
        refine q_step hA422 rfl (d_bin (wn rfl) (hA422.ev rfl) (hA422.ev rfl) (b_eq _ _ i.op 7 false _ hb423) ?_)
        intro a471 hA472
        refine q_step hA472 rfl (d_assign (wn rfl) (hA472.ev rfl) ?_)
        intro a473 hA474
        refine q_end ?_
        have hA475 : St 119 [(1, (.pointer (some ⟨g3, 0, none⟩))), (2, (.pointer (some ⟨g12, 0, none⟩))), (3, (.pointer (some ⟨g30, 0, none⟩))), (8, (.int .i64 i.op)), (85, (.bool false))] a473 := hA474.cut _ (fm_cons (hA474.get 1 _ rfl) (fm_cons (hA474.get 2 _ rfl) (fm_cons (hA474.get 3 _ rfl) (fm_cons (hA474.get 8 _ rfl) (fm_cons (hA474.get 85 _ rfl) fm_nil)))))
        refine t_norm ?_
        refine c_false hA475 rfl ?_
        refine wp_seq ?_
        refine wp_region_lit ?_
        rcases Bool.eq_false_or_eq_true (i.op == 9) with hb476 | hb476
        ·skip
         have hq477 := eq_of_beq hb476
         refine q_step hA475 rfl (d_bin (wn rfl) (hA475.ev rfl) (hA475.ev rfl) (b_eq _ _ i.op 9 true _ hb476) ?_)
         intro a478 hA479
         refine q_step hA479 rfl (d_assign (wn rfl) (hA479.ev rfl) ?_)
         intro a480 hA481
         refine q_end ?_
         have hA482 : St 119 [(1, (.pointer (some ⟨g3, 0, none⟩))), (2, (.pointer (some ⟨g12, 0, none⟩))), (3, (.pointer (some ⟨g30, 0, none⟩))), (93, (.bool true))] a480 := hA481.cut _ (fm_cons (hA481.get 1 _ rfl) (fm_cons (hA481.get 2 _ rfl) (fm_cons (hA481.get 3 _ rfl) (fm_cons (hA481.get 93 _ rfl) fm_nil))))
         refine t_norm ?_
         refine c_true hA482 rfl ?_
         have hA483 : St 119 [(1, (.pointer (some ⟨g3, 0, none⟩))), (2, (.pointer (some ⟨g12, 0, none⟩))), (3, (.pointer (some ⟨g30, 0, none⟩)))] a480 := hA482.cut _ (fm_cons (hA482.get 1 _ rfl) (fm_cons (hA482.get 2 _ rfl) (fm_cons (hA482.get 3 _ rfl) fm_nil)))
         let M484 : Nat → Option (Array Value) := fun k => if k = g30 then some #[.int .i64 i.op, .int .i64 (-1), .int .i64 i.a, .int .i64 (-1), .int .i64 0, .int .i64 0, .int .i64 0, .int .i64 (-1), .int .i64 0, .int .i64 0, .bool false, .bool false, .bool false, .int .i64 0, .int .i64 0, .int .i64 i.to, .bool i.zero] else none
         have hM484 : M484 = fun k => if k = g30 then some #[.int .i64 i.op, .int .i64 (-1), .int .i64 i.a, .int .i64 (-1), .int .i64 0, .int .i64 0, .int .i64 0, .int .i64 (-1), .int .i64 0, .int .i64 0, .bool false, .bool false, .bool false, .int .i64 0, .int .i64 0, .int .i64 i.to, .bool i.zero] else none := rfl
         clear_value M484
         have hM485 : M484 g3 = none := ((congrFun hM484 g3).trans (if_neg n36))
         have hM486 : M484 g12 = none := ((congrFun hM484 g12).trans (if_neg n37))
         have hM487 : M484 g30 = some #[.int .i64 i.op, .int .i64 (-1), .int .i64 i.a, .int .i64 (-1), .int .i64 0, .int .i64 0, .int .i64 0, .int .i64 (-1), .int .i64 0, .int .i64 0, .bool false, .bool false, .bool false, .int .i64 0, .int .i64 0, .int .i64 i.to, .bool i.zero] := ((congrFun hM484 g30).trans (if_pos rfl))
         have hM484B : ∀ k, k < w.heap.size → M484 k = none := (fun k hk => (congrFun hM484 k).trans (if_neg (fun h => Nat.lt_irrefl _ (Nat.lt_of_lt_of_le (h ▸ hk) ge35))))
         refine drawn (S := SM M484) (tabL [cv (.pointer (some ⟨g3, 2, none⟩)), cv (.int .i64 i.a), cv (.pointer (some ⟨g3, 16, none⟩)), cv (.bool i.zero), cv (.pointer (some ⟨g3, 15, none⟩)), cv (.int .i64 i.to), cv (.pointer (some ⟨g30, 2, none⟩)), cm M484 g30 2 (.int .i64 i.a) ⟨_, hM487, rfl⟩, cv (.pointer (some ⟨g30, 16, none⟩)), cm M484 g30 16 (.bool i.zero) ⟨_, hM487, rfl⟩, cv (.pointer (some ⟨g30, 15, none⟩)), cm M484 g30 15 (.int .i64 i.to) ⟨_, hM487, rfl⟩]) mixedY SM.refl SM.trans SM.drew hA483 (by kernel_rfl) ?_ ?_
         ·skip
          refine each_cons (fun x y hS hT hk => d_fieldAddr (wn rfl) (hT.ev rfl) fo23_2 ⟨SM.refl _, rfl⟩) ?_
          refine each_cons (fun x y hS hT hk => d_load (v := (.int .i64 i.a)) (wn rfl) (hk 0 rfl) one3 ((Blk.sm (w := w43.drew) m46 hS hM485).cell rfl) ⟨SM.refl _, rfl⟩) ?_
          refine each_cons (fun x y hS hT hk => d_fieldAddr (wn rfl) (hT.ev rfl) fo23_16 ⟨SM.refl _, rfl⟩) ?_
          refine each_cons (fun x y hS hT hk => d_load (v := (.bool i.zero)) (wn rfl) (hk 2 rfl) one4 ((Blk.sm (w := w43.drew) m46 hS hM485).cell rfl) ⟨SM.refl _, rfl⟩) ?_
          refine each_cons (fun x y hS hT hk => d_fieldAddr (wn rfl) (hT.ev rfl) fo23_15 ⟨SM.refl _, rfl⟩) ?_
          refine each_cons (fun x y hS hT hk => d_load (v := (.int .i64 i.to)) (wn rfl) (hk 4 rfl) one3 ((Blk.sm (w := w43.drew) m46 hS hM485).cell rfl) ⟨SM.refl _, rfl⟩) ?_
          refine each_cons (fun x y hS hT hk => d_fieldAddr (wn rfl) (hT.ev rfl) fo23_2 ⟨SM.refl _, rfl⟩) ?_
          refine each_cons (fun x y hS hT hk => d_storeM (v := (.int .i64 i.a)) (w0 := w43.drew) (wn rfl) (hk 6 rfl) (hk 1 rfl) one3 rfl hS hM487 m45 (Nat.le_of_ble_eq_true rfl) rfl (fun _ h => h)) ?_
          refine each_cons (fun x y hS hT hk => d_fieldAddr (wn rfl) (hT.ev rfl) fo23_16 ⟨SM.refl _, rfl⟩) ?_
          refine each_cons (fun x y hS hT hk => d_storeM (v := (.bool i.zero)) (w0 := w43.drew) (wn rfl) (hk 8 rfl) (hk 3 rfl) one4 rfl hS hM487 m45 (Nat.le_of_ble_eq_true rfl) rfl (fun _ h => h)) ?_
          refine each_cons (fun x y hS hT hk => d_fieldAddr (wn rfl) (hT.ev rfl) fo23_15 ⟨SM.refl _, rfl⟩) ?_
          refine each_cons (fun x y hS hT hk => d_storeM (v := (.int .i64 i.to)) (w0 := w43.drew) (wn rfl) (hk 10 rfl) (hk 5 rfl) one3 rfl hS hM487 m45 (Nat.le_of_ble_eq_true rfl) rfl (fun _ h => h)) ?_
          exact each_nil
         intro f488 a489 w490 hS491 hC492 hA493
         have hA494 : St 119 [(1, (.pointer (some ⟨g3, 0, none⟩))), (2, (.pointer (some ⟨g12, 0, none⟩))), (3, (.pointer (some ⟨g30, 0, none⟩)))] a489 := hA493.cut _ (fm_cons (hA493.get 1 _ rfl) (fm_cons (hA493.get 2 _ rfl) (fm_cons (hA493.get 3 _ rfl) fm_nil)))
         have m495 := m46.sm hS491 hM485
         have m496 := m47.sm hS491 hM486
         have m497 : Blk w490 g30 #[.int .i64 i.op, .int .i64 (-1), .int .i64 i.a, .int .i64 (-1), .int .i64 0, .int .i64 0, .int .i64 0, .int .i64 (-1), .int .i64 0, .int .i64 0, .bool false, .bool false, .bool false, .int .i64 0, .int .i64 0, .int .i64 i.to, .bool i.zero] 23 := hS491.finL [(2, (.int .i64 i.a)), (16, (.bool i.zero)), (15, (.int .i64 i.to))] hM487 (by kernel_rfl) m45 (fm_cons (hC492 7 (Nat.le_of_ble_eq_true rfl)) (fm_cons (hC492 9 (Nat.le_of_ble_eq_true rfl)) (fm_cons (hC492 11 (Nat.le_of_ble_eq_true rfl)) fm_nil)))
         have b498 := hS491.below b48 b48.size hM484B
         refine i_norm ?_
         refine t_norm ?_
         refine wp_seq ?_
         refine wp_seq ?_
         refine wp_region_lit ?_
         refine q_step hA494 rfl (d_loadRow (cs := (insC i)) (wn rfl) (hA494.ev rfl) row23 m495 ?_)
         intro a499 hA500
         refine q_step hA500 rfl (d_call (wn rfl) ent35 (map1 (hA500.ev rfl)) (isOp_any i w490) ?_)
         rintro e504 w501 ⟨he503, hG502⟩
         have m505 := m495.grow hG502
         have m506 := m496.grow hG502
         have m507 := m497.grow hG502
         have b508 := below_grow b498 hG502 b498.size
         refine ⟨.bool false, he503.trans (ret_bool (by simp [opB, rdB, wrB, eq_of_beq hb476])), ?_⟩
         intro a509 hA510
         refine q_end ?_
         have hA511 : St 119 [(1, (.pointer (some ⟨g3, 0, none⟩))), (2, (.pointer (some ⟨g12, 0, none⟩))), (3, (.pointer (some ⟨g30, 0, none⟩))), (105, (.bool false))] a509 := hA510.cut _ (fm_cons (hA510.get 1 _ rfl) (fm_cons (hA510.get 2 _ rfl) (fm_cons (hA510.get 3 _ rfl) (fm_cons (hA510.get 105 _ rfl) fm_nil))))
         refine t_norm ?_
         refine c_false hA511 rfl ?_
         refine wp_skip ?_
         refine t_norm ?_
         refine wp_seq ?_
         refine wp_region_lit ?_
         refine q_step hA511 rfl (d_loadRow (cs := #[.int .i64 i.op, .int .i64 (-1), .int .i64 i.a, .int .i64 (-1), .int .i64 0, .int .i64 0, .int .i64 0, .int .i64 (-1), .int .i64 0, .int .i64 0, .bool false, .bool false, .bool false, .int .i64 0, .int .i64 0, .int .i64 i.to, .bool i.zero]) (wn rfl) (hA511.ev rfl) row23 m507 ?_)
         intro a512 hA513
         refine q_step hA513 rfl (d_storeRow (wn rfl) (hA513.ev rfl) (hA513.ev rfl) row23 m506 rfl rfl ?_)
         intro w514 hU515 (m516 : Blk w514 g12 #[.int .i64 i.op, .int .i64 (-1), .int .i64 i.a, .int .i64 (-1), .int .i64 0, .int .i64 0, .int .i64 0, .int .i64 (-1), .int .i64 0, .int .i64 0, .bool false, .bool false, .bool false, .int .i64 0, .int .i64 0, .int .i64 i.to, .bool i.zero] 23)
         have m517 := m505.upd hU515 n18
         have m518 := m507.upd hU515 (Ne.symm n37)
         have b519 := hU515.below b508 ge17
         intro a520 hA521
         refine q_end ?_
         have hA522 : St 119 [(2, (.pointer (some ⟨g12, 0, none⟩)))] a520 := hA521.cut _ (fm_cons (hA521.get 2 _ rfl) fm_nil)
         refine t_norm ?_
         refine wp_ret ?_
         refine retRow (g := g12) (cs := #[.int .i64 i.op, .int .i64 (-1), .int .i64 i.a, .int .i64 (-1), .int .i64 0, .int .i64 0, .int .i64 0, .int .i64 (-1), .int .i64 0, .int .i64 0, .bool false, .bool false, .bool false, .int .i64 0, .int .i64 0, .int .i64 i.to, .bool i.zero]) rfl hA522 rfl m516 row23 ?_
         exact ⟨ret_agg (by simp [insC, plainF, opB, rdB, wrB, hb57, hb110, hb163, hb216, hb285, hb354, hb423, eq_of_beq hb476]), b519⟩
        ·skip
         have hq523 := ne_of_beq hb476
         refine q_step hA475 rfl (d_bin (wn rfl) (hA475.ev rfl) (hA475.ev rfl) (b_eq _ _ i.op 9 false _ hb476) ?_)
         intro a524 hA525
         refine q_step hA525 rfl (d_assign (wn rfl) (hA525.ev rfl) ?_)
         intro a526 hA527
         refine q_end ?_
         have hA528 : St 119 [(1, (.pointer (some ⟨g3, 0, none⟩))), (2, (.pointer (some ⟨g12, 0, none⟩))), (3, (.pointer (some ⟨g30, 0, none⟩))), (93, (.bool false))] a526 := hA527.cut _ (fm_cons (hA527.get 1 _ rfl) (fm_cons (hA527.get 2 _ rfl) (fm_cons (hA527.get 3 _ rfl) (fm_cons (hA527.get 93 _ rfl) fm_nil))))
         refine t_norm ?_
         refine c_false hA528 rfl ?_
         refine wp_skip ?_
         refine i_norm ?_
         refine t_norm ?_
         refine wp_seq ?_
         refine wp_seq ?_
         refine wp_region_lit ?_
         refine q_step hA528 rfl (d_loadRow (cs := (insC i)) (wn rfl) (hA528.ev rfl) row23 m46 ?_)
         intro a529 hA530
         refine q_step hA530 rfl (d_call (wn rfl) ent35 (map1 (hA530.ev rfl)) (isOp_any i w43) ?_)
         rintro e534 w531 ⟨he533, hG532⟩
         have m535 := m46.grow hG532
         have m536 := m47.grow hG532
         have m537 := m45.grow hG532
         have b538 := below_grow b48 hG532 b48.size
         refine ⟨.bool false, he533.trans (ret_bool (by simp [opB, rdB, wrB, hb57, hb110, hb163, hb216, hb285, hb354, hb423, hb476])), ?_⟩
         intro a539 hA540
         refine q_end ?_
         have hA541 : St 119 [(1, (.pointer (some ⟨g3, 0, none⟩))), (2, (.pointer (some ⟨g12, 0, none⟩))), (3, (.pointer (some ⟨g30, 0, none⟩))), (105, (.bool false))] a539 := hA540.cut _ (fm_cons (hA540.get 1 _ rfl) (fm_cons (hA540.get 2 _ rfl) (fm_cons (hA540.get 3 _ rfl) (fm_cons (hA540.get 105 _ rfl) fm_nil))))
         refine t_norm ?_
         refine c_false hA541 rfl ?_
         refine wp_skip ?_
         refine t_norm ?_
         refine wp_seq ?_
         refine wp_region_lit ?_
         refine q_step hA541 rfl (d_loadRow (cs := #[.int .i64 i.op, .int .i64 (-1), .int .i64 (-1), .int .i64 (-1), .int .i64 0, .int .i64 0, .int .i64 0, .int .i64 (-1), .int .i64 0, .int .i64 0, .bool false, .bool false, .bool false, .int .i64 0, .int .i64 0, .int .i64 0, .bool false]) (wn rfl) (hA541.ev rfl) row23 m537 ?_)
         intro a542 hA543
         refine q_step hA543 rfl (d_storeRow (wn rfl) (hA543.ev rfl) (hA543.ev rfl) row23 m536 rfl rfl ?_)
         intro w544 hU545 (m546 : Blk w544 g12 #[.int .i64 i.op, .int .i64 (-1), .int .i64 (-1), .int .i64 (-1), .int .i64 0, .int .i64 0, .int .i64 0, .int .i64 (-1), .int .i64 0, .int .i64 0, .bool false, .bool false, .bool false, .int .i64 0, .int .i64 0, .int .i64 0, .bool false] 23)
         have m547 := m535.upd hU545 n18
         have m548 := m537.upd hU545 (Ne.symm n37)
         have b549 := hU545.below b538 ge17
         intro a550 hA551
         refine q_end ?_
         have hA552 : St 119 [(2, (.pointer (some ⟨g12, 0, none⟩)))] a550 := hA551.cut _ (fm_cons (hA551.get 2 _ rfl) fm_nil)
         refine t_norm ?_
         refine wp_ret ?_
         refine retRow (g := g12) (cs := #[.int .i64 i.op, .int .i64 (-1), .int .i64 (-1), .int .i64 (-1), .int .i64 0, .int .i64 0, .int .i64 0, .int .i64 (-1), .int .i64 0, .int .i64 0, .bool false, .bool false, .bool false, .int .i64 0, .int .i64 0, .int .i64 0, .bool false]) rfl hA552 rfl m546 row23 ?_
         exact ⟨ret_agg (by simp [insC, plainF, opB, rdB, wrB, hb57, hb110, hb163, hb216, hb285, hb354, hb423, hb476]), b549⟩
end Go.Proofs.Ytlhompedcphnnaa
/- Contracts of functions on single instructions. -/
namespace Go.Proofs.Ytlhompedcphnnaa
open Go.RowKit
set_option linter.unusedSimpArgs false
set_option linter.unusedVariables false
set_option maxHeartbeats 4000000 in
set_option maxRecDepth 4000 in
theorem sound_any (i : Ins) (w : World) : Calls Try.prog 29 #[.agg (insC i)] w fun e w' => e = .returned (.bool (soundB i)) ∧ Grow w w' := by
 have b0 : Below w.heap.size w w := Below.refl _ _
 refine enter (n := 113) Try.func29 rfl rfl (Nat.le_of_ble_eq_true rfl) ?_
 intro a1 hA2
 refine wp_seq ?_
 refine wp_region_lit ?_
 refine q_step hA2 rfl (d_box (wn rfl) (hA2.ev rfl) ?_)
 intro g3 w4 eg5 hG6 (m7 : Blk w4 g3 (insC i) 23)
 have ge8 : w.heap.size ≤ g3 := eg5 ▸ b0.size
 have b9 := below_grow b0 hG6 b0.size
 intro a10 hA11
 refine q_step hA11 rfl (d_assign (wn rfl) (hA11.ev rfl) ?_)
 intro a12 hA13
 refine q_end ?_
 have hA14 : St 113 [(1, (.pointer (some ⟨g3, 0, none⟩))), (2, (.bool false))] a12 := hA13.cut _ (fm_cons (hA13.get 1 _ rfl) (fm_cons (hA13.get 2 _ rfl) fm_nil))
 refine t_norm ?_
 refine wp_seq ?_
 refine wp_seq ?_
 refine wp_region_lit ?_
 refine q_step hA14 rfl (d_fieldAddr (wn rfl) (hA14.ev rfl) fo23_0 ?_)
 intro a15 hA16
 refine q_step hA16 rfl (d_load (v := (.int .i64 i.op)) (wn rfl) (hA16.ev rfl) one3 (m7.cell rfl) ?_)
 intro a17 hA18
 refine q_end ?_
 have hA19 : St 113 [(1, (.pointer (some ⟨g3, 0, none⟩))), (2, (.bool false)), (4, (.int .i64 i.op))] a17 := hA18.cut _ (fm_cons (hA18.get 1 _ rfl) (fm_cons (hA18.get 2 _ rfl) (fm_cons (hA18.get 4 _ rfl) fm_nil)))
 refine t_norm ?_
 refine wp_block ?_
 refine wp_seq ?_
 refine wp_region_lit ?_
 rcases Bool.eq_false_or_eq_true (i.op == 1) with hb20 | hb20
 ·skip
  have hq21 := eq_of_beq hb20
  refine q_step hA19 rfl (d_bin (wn rfl) (hA19.ev rfl) (hA19.ev rfl) (b_eq _ _ i.op 1 true _ hb20) ?_)
  intro a22 hA23
  refine q_step hA23 rfl (d_assign (wn rfl) (hA23.ev rfl) ?_)
  intro a24 hA25
  refine q_end ?_
  have hA26 : St 113 [(1, (.pointer (some ⟨g3, 0, none⟩))), (2, (.bool false)), (4, (.int .i64 i.op)), (5, (.bool true))] a24 := hA25.cut _ (fm_cons (hA25.get 1 _ rfl) (fm_cons (hA25.get 2 _ rfl) (fm_cons (hA25.get 4 _ rfl) (fm_cons (hA25.get 5 _ rfl) fm_nil))))
  refine t_norm ?_
  refine c_true hA26 rfl ?_
  refine wp_seq ?_
  refine join_wp (K := fun a27 w28 => St 113 [(2, (.bool (regB i.dst)))] a27 ∧ Below w.heap.size w w28 ∧ Blk w28 g3 (insC i) 23) ?_ ?_
  ·skip
   refine wp_region_lit ?_
   refine q_step hA26 rfl (d_fieldAddr (wn rfl) (hA26.ev rfl) fo23_1 ?_)
   intro a29 hA30
   refine q_step hA30 rfl (d_load (v := (.int .i64 i.dst)) (wn rfl) (hA30.ev rfl) one3 (m7.cell rfl) ?_)
   intro a31 hA32
   refine q_step hA32 rfl (d_call (wn rfl) ent40 (map1 (hA32.ev rfl)) (isReg_any i.dst w4) ?_)
   rintro e36 w33 ⟨he35, hG34⟩
   have m37 := m7.grow hG34
   have b38 := below_grow b9 hG34 b9.size
   rcases Bool.eq_false_or_eq_true (regB i.dst) with hb39 | hb39
   ·skip
    refine ⟨.bool true, he35.trans (ret_bool hb39), ?_⟩
    intro a41 hA42
    refine q_step hA42 rfl (d_assign (wn rfl) (hA42.ev rfl) ?_)
    intro a43 hA44
    refine q_end ?_
    exact ⟨hA44.cut _ (fm_cons ((hA44.get 2 _ rfl).trans (congrArg Value.bool (by simp [hb39]))) fm_nil), b38, m37⟩
   ·skip
    refine ⟨.bool false, he35.trans (ret_bool hb39), ?_⟩
    intro a46 hA47
    refine q_step hA47 rfl (d_assign (wn rfl) (hA47.ev rfl) ?_)
    intro a48 hA49
    refine q_end ?_
    exact ⟨hA49.cut _ (fm_cons ((hA49.get 2 _ rfl).trans (congrArg Value.bool (by simp [hb39]))) fm_nil), b38, m37⟩
  rintro a27 w28 ⟨hA50, b51, m52⟩
  refine t_norm ?_
  refine wp_ret ?_
  refine i_ret ?_
  refine t_ret ?_
  refine ret1 rfl hA50 (v := (.bool (regB i.dst))) rfl ?_
  exact ⟨ret_bool (by first | (simp [soundB, eq_of_beq hb20, Bool.or_assoc, Bool.and_assoc]; done) | (rw [Bool.eq_iff_iff]; simp [soundB, eq_of_beq hb20]; done) | (rw [Bool.eq_iff_iff]; simp [soundB, eq_of_beq hb20]; omega) | grind), b51⟩
 ·skip
  have hq53 := ne_of_beq hb20
  refine q_step hA19 rfl (d_bin (wn rfl) (hA19.ev rfl) (hA19.ev rfl) (b_eq _ _ i.op 1 false _ hb20) ?_)
  intro a54 hA55
  refine q_step hA55 rfl (d_assign (wn rfl) (hA55.ev rfl) ?_)
  intro a56 hA57
  refine q_end ?_
  have hA58 : St 113 [(1, (.pointer (some ⟨g3, 0, none⟩))), (2, (.bool false)), (4, (.int .i64 i.op)), (5, (.bool false))] a56 := hA57.cut _ (fm_cons (hA57.get 1 _ rfl) (fm_cons (hA57.get 2 _ rfl) (fm_cons (hA57.get 4 _ rfl) (fm_cons (hA57.get 5 _ rfl) fm_nil))))
  refine t_norm ?_
  refine c_false hA58 rfl ?_
  refine wp_seq ?_
  refine wp_region_lit ?_
  rcases Bool.eq_false_or_eq_true (i.op == 2) with hb59 | hb59
  ·skip
   have hq60 := eq_of_beq hb59
   refine q_step hA58 rfl (d_bin (wn rfl) (hA58.ev rfl) (hA58.ev rfl) (b_eq _ _ i.op 2 true _ hb59) ?_)
   intro a61 hA62
   refine q_step hA62 rfl (d_assign (wn rfl) (hA62.ev rfl) ?_)
   intro a63 hA64
   refine q_end ?_
   have hA65 : St 113 [(1, (.pointer (some ⟨g3, 0, none⟩))), (2, (.bool false)), (4, (.int .i64 i.op)), (10, (.bool true))] a63 := hA64.cut _ (fm_cons (hA64.get 1 _ rfl) (fm_cons (hA64.get 2 _ rfl) (fm_cons (hA64.get 4 _ rfl) (fm_cons (hA64.get 10 _ rfl) fm_nil))))
   refine t_norm ?_
   refine c_true hA65 rfl ?_
   refine wp_seq ?_
   refine join_wp (K := fun a66 w67 => St 113 [(2, (.bool ((regB i.dst) && (regB i.a))))] a66 ∧ Below w.heap.size w w67 ∧ Blk w67 g3 (insC i) 23) ?_ ?_
   ·skip
    refine wp_region_lit ?_
    refine q_step hA65 rfl (d_fieldAddr (wn rfl) (hA65.ev rfl) fo23_1 ?_)
    intro a68 hA69
    refine q_step hA69 rfl (d_load (v := (.int .i64 i.dst)) (wn rfl) (hA69.ev rfl) one3 (m7.cell rfl) ?_)
    intro a70 hA71
    refine q_step hA71 rfl (d_call (wn rfl) ent40 (map1 (hA71.ev rfl)) (isReg_any i.dst w4) ?_)
    rintro e75 w72 ⟨he74, hG73⟩
    have m76 := m7.grow hG73
    have b77 := below_grow b9 hG73 b9.size
    rcases Bool.eq_false_or_eq_true (regB i.dst) with hb78 | hb78
    ·skip
     refine ⟨.bool true, he74.trans (ret_bool hb78), ?_⟩
     intro a80 hA81
     refine q_step hA81 rfl (d_move (wn rfl) (hA81.ev rfl) ?_)
     intro a82 hA83
     refine q_step hA83 rfl (d_fieldAddr (wy rfl rfl (hA83.get 15 _ rfl)) (hA83.ev rfl) fo23_2 ?_)
     intro a84 hA85
     refine q_step hA85 rfl (d_load (v := (.int .i64 i.a)) (wy rfl rfl (hA85.get 15 _ rfl)) (hA85.ev rfl) one3 (m76.cell rfl) ?_)
     intro a86 hA87
     refine q_step hA87 rfl (d_call (wy rfl rfl (hA87.get 15 _ rfl)) ent40 (map1 (hA87.ev rfl)) (isReg_any i.a w72) ?_)
     rintro e91 w88 ⟨he90, hG89⟩
     have m92 := m76.grow hG89
     have b93 := below_grow b77 hG89 b77.size
     rcases Bool.eq_false_or_eq_true (regB i.a) with hb94 | hb94
     ·skip
      refine ⟨.bool true, he90.trans (ret_bool hb94), ?_⟩
      intro a96 hA97
      refine q_step hA97 rfl (d_pickT (wn rfl) (hA97.ev rfl) (hA97.ev rfl) ?_)
      intro a98 hA99
      refine q_step hA99 rfl (d_assign (wn rfl) (hA99.ev rfl) ?_)
      intro a100 hA101
      refine q_end ?_
      exact ⟨hA101.cut _ (fm_cons ((hA101.get 2 _ rfl).trans (congrArg Value.bool (by simp [hb78, hb94]))) fm_nil), b93, m92⟩
     ·skip
      refine ⟨.bool false, he90.trans (ret_bool hb94), ?_⟩
      intro a103 hA104
      refine q_step hA104 rfl (d_pickT (wn rfl) (hA104.ev rfl) (hA104.ev rfl) ?_)
      intro a105 hA106
      refine q_step hA106 rfl (d_assign (wn rfl) (hA106.ev rfl) ?_)
      intro a107 hA108
      refine q_end ?_
      exact ⟨hA108.cut _ (fm_cons ((hA108.get 2 _ rfl).trans (congrArg Value.bool (by simp [hb78, hb94]))) fm_nil), b93, m92⟩
    ·skip
     refine ⟨.bool false, he74.trans (ret_bool hb78), ?_⟩
     intro a110 hA111
     refine q_step hA111 rfl (d_move (wn rfl) (hA111.ev rfl) ?_)
     intro a112 hA113
     refine q_step hA113 rfl (does_not (wno rfl rfl (.inl (hA113.get 15 _ rfl))) ?_)
     intro a114 hA115
     refine q_step hA115 rfl (does_not (wno rfl rfl (.inl (hA115.get 15 _ rfl))) ?_)
     intro a116 hA117
     refine q_step hA117 rfl (does_not (wno rfl rfl (.inl (hA117.get 15 _ rfl))) ?_)
     intro a118 hA119
     refine q_step hA119 rfl (d_pickF (wn rfl) (hA119.ev rfl) (hA119.ev rfl) ?_)
     intro a120 hA121
     refine q_step hA121 rfl (d_assign (wn rfl) (hA121.ev rfl) ?_)
     intro a122 hA123
     refine q_end ?_
     exact ⟨hA123.cut _ (fm_cons ((hA123.get 2 _ rfl).trans (congrArg Value.bool (by simp [hb78]))) fm_nil), b77, m76⟩
   rintro a66 w67 ⟨hA124, b125, m126⟩
   refine t_norm ?_
   refine wp_ret ?_
   refine i_ret ?_
   refine t_ret ?_
   refine ret1 rfl hA124 (v := (.bool ((regB i.dst) && (regB i.a)))) rfl ?_
   exact ⟨ret_bool (by first | (simp [soundB, hb20, eq_of_beq hb59, Bool.or_assoc, Bool.and_assoc]; done) | (rw [Bool.eq_iff_iff]; simp [soundB, hb20, eq_of_beq hb59]; done) | (rw [Bool.eq_iff_iff]; simp [soundB, hb20, eq_of_beq hb59]; omega) | grind), b125⟩
  ·skip
   have hq127 := ne_of_beq hb59
   refine q_step hA58 rfl (d_bin (wn rfl) (hA58.ev rfl) (hA58.ev rfl) (b_eq _ _ i.op 2 false _ hb59) ?_)
   intro a128 hA129
   refine q_step hA129 rfl (d_assign (wn rfl) (hA129.ev rfl) ?_)
   intro a130 hA131
   refine q_end ?_
   have hA132 : St 113 [(1, (.pointer (some ⟨g3, 0, none⟩))), (2, (.bool false)), (4, (.int .i64 i.op)), (10, (.bool false))] a130 := hA131.cut _ (fm_cons (hA131.get 1 _ rfl) (fm_cons (hA131.get 2 _ rfl) (fm_cons (hA131.get 4 _ rfl) (fm_cons (hA131.get 10 _ rfl) fm_nil))))
   refine t_norm ?_
   refine c_false hA132 rfl ?_
   refine wp_seq ?_
   refine wp_region_lit ?_
   rcases Bool.eq_false_or_eq_true (i.op == 3) with hb133 | hb133
   ·skip
    have hq134 := eq_of_beq hb133
    refine q_step hA132 rfl (d_bin (wn rfl) (hA132.ev rfl) (hA132.ev rfl) (b_eq _ _ i.op 3 true _ hb133) ?_)
    intro a135 hA136
    refine q_step hA136 rfl (d_assign (wn rfl) (hA136.ev rfl) ?_)
    intro a137 hA138
    refine q_end ?_
    have hA139 : St 113 [(1, (.pointer (some ⟨g3, 0, none⟩))), (2, (.bool false)), (4, (.int .i64 i.op)), (20, (.bool true))] a137 := hA138.cut _ (fm_cons (hA138.get 1 _ rfl) (fm_cons (hA138.get 2 _ rfl) (fm_cons (hA138.get 4 _ rfl) (fm_cons (hA138.get 20 _ rfl) fm_nil))))
    refine t_norm ?_
    refine c_true hA139 rfl ?_
    refine wp_seq ?_
    refine join_wp (K := fun a140 w141 => St 113 [(2, (.bool ((regB i.dst) && ((regB i.a) && ((ronB i.b) && ((decide (i.fn ≥ 1)) && (decide (i.fn ≤ 5))))))))] a140 ∧ Below w.heap.size w w141 ∧ Blk w141 g3 (insC i) 23) ?_ ?_
    ·skip
     refine wp_region_lit ?_
     refine q_step hA139 rfl (d_fieldAddr (wn rfl) (hA139.ev rfl) fo23_1 ?_)
     intro a142 hA143
     refine q_step hA143 rfl (d_load (v := (.int .i64 i.dst)) (wn rfl) (hA143.ev rfl) one3 (m7.cell rfl) ?_)
     intro a144 hA145
     refine q_step hA145 rfl (d_call (wn rfl) ent40 (map1 (hA145.ev rfl)) (isReg_any i.dst w4) ?_)
     rintro e149 w146 ⟨he148, hG147⟩
     have m150 := m7.grow hG147
     have b151 := below_grow b9 hG147 b9.size
     rcases Bool.eq_false_or_eq_true (regB i.dst) with hb152 | hb152
     ·skip
      refine ⟨.bool true, he148.trans (ret_bool hb152), ?_⟩
      intro a154 hA155
      refine q_step hA155 rfl (d_move (wn rfl) (hA155.ev rfl) ?_)
      intro a156 hA157
      refine q_step hA157 rfl (d_fieldAddr (wy rfl rfl (hA157.get 25 _ rfl)) (hA157.ev rfl) fo23_2 ?_)
      intro a158 hA159
      refine q_step hA159 rfl (d_load (v := (.int .i64 i.a)) (wy rfl rfl (hA159.get 25 _ rfl)) (hA159.ev rfl) one3 (m150.cell rfl) ?_)
      intro a160 hA161
      refine q_step hA161 rfl (d_call (wy rfl rfl (hA161.get 25 _ rfl)) ent40 (map1 (hA161.ev rfl)) (isReg_any i.a w146) ?_)
      rintro e165 w162 ⟨he164, hG163⟩
      have m166 := m150.grow hG163
      have b167 := below_grow b151 hG163 b151.size
      rcases Bool.eq_false_or_eq_true (regB i.a) with hb168 | hb168
      ·skip
       refine ⟨.bool true, he164.trans (ret_bool hb168), ?_⟩
       intro a170 hA171
       refine q_step hA171 rfl (d_pickT (wn rfl) (hA171.ev rfl) (hA171.ev rfl) ?_)
       intro a172 hA173
       refine q_step hA173 rfl (d_move (wn rfl) (hA173.ev rfl) ?_)
       intro a174 hA175
       refine q_step hA175 rfl (d_fieldAddr (wy rfl rfl (hA175.get 30 _ rfl)) (hA175.ev rfl) fo23_3 ?_)
       intro a176 hA177
       refine q_step hA177 rfl (d_load (v := (.int .i64 i.b)) (wy rfl rfl (hA177.get 30 _ rfl)) (hA177.ev rfl) one3 (m166.cell rfl) ?_)
       intro a178 hA179
       refine q_step hA179 rfl (d_call (wy rfl rfl (hA179.get 30 _ rfl)) ent41 (map1 (hA179.ev rfl)) (isRegOrNone_any i.b w162) ?_)
       rintro e183 w180 ⟨he182, hG181⟩
       have m184 := m166.grow hG181
       have b185 := below_grow b167 hG181 b167.size
       rcases Bool.eq_false_or_eq_true (ronB i.b) with hb186 | hb186
       ·skip
        refine ⟨.bool true, he182.trans (ret_bool hb186), ?_⟩
        intro a188 hA189
        refine q_step hA189 rfl (d_pickT (wn rfl) (hA189.ev rfl) (hA189.ev rfl) ?_)
        intro a190 hA191
        refine q_step hA191 rfl (d_move (wn rfl) (hA191.ev rfl) ?_)
        intro a192 hA193
        refine q_step hA193 rfl (d_fieldAddr (wy rfl rfl (hA193.get 35 _ rfl)) (hA193.ev rfl) fo23_9 ?_)
        intro a194 hA195
        refine q_step hA195 rfl (d_load (v := (.int .i64 i.fn)) (wy rfl rfl (hA195.get 35 _ rfl)) (hA195.ev rfl) one3 (m184.cell rfl) ?_)
        intro a196 hA197
        rcases Bool.eq_false_or_eq_true (decide (i.fn ≥ 1)) with hb198 | hb198
        ·skip
         have hq199 := of_decide_eq_true hb198
         refine q_step hA197 rfl (d_bin (wy rfl rfl (hA197.get 35 _ rfl)) (hA197.ev rfl) (hA197.ev rfl) (b_ge _ _ i.fn 1 true _ hb198) ?_)
         intro a200 hA201
         refine q_step hA201 rfl (d_pickT (wn rfl) (hA201.ev rfl) (hA201.ev rfl) ?_)
         intro a202 hA203
         refine q_step hA203 rfl (d_move (wn rfl) (hA203.ev rfl) ?_)
         intro a204 hA205
         refine q_step hA205 rfl (d_fieldAddr (wy rfl rfl (hA205.get 40 _ rfl)) (hA205.ev rfl) fo23_9 ?_)
         intro a206 hA207
         refine q_step hA207 rfl (d_load (v := (.int .i64 i.fn)) (wy rfl rfl (hA207.get 40 _ rfl)) (hA207.ev rfl) one3 (m184.cell rfl) ?_)
         intro a208 hA209
         rcases Bool.eq_false_or_eq_true (decide (i.fn ≤ 5)) with hb210 | hb210
         ·skip
          have hq211 := of_decide_eq_true hb210
          refine q_step hA209 rfl (d_bin (wy rfl rfl (hA209.get 40 _ rfl)) (hA209.ev rfl) (hA209.ev rfl) (b_le _ _ i.fn 5 true _ hb210) ?_)
          intro a212 hA213
          refine q_step hA213 rfl (d_pickT (wn rfl) (hA213.ev rfl) (hA213.ev rfl) ?_)
          intro a214 hA215
          refine q_step hA215 rfl (d_assign (wn rfl) (hA215.ev rfl) ?_)
          intro a216 hA217
          refine q_end ?_
          exact ⟨hA217.cut _ (fm_cons ((hA217.get 2 _ rfl).trans (congrArg Value.bool (by simp [hb152, hb168, hb186, hb198, hb210]))) fm_nil), b185, m184⟩
         ·skip
          have hq218 := of_decide_eq_false hb210
          refine q_step hA209 rfl (d_bin (wy rfl rfl (hA209.get 40 _ rfl)) (hA209.ev rfl) (hA209.ev rfl) (b_le _ _ i.fn 5 false _ hb210) ?_)
          intro a219 hA220
          refine q_step hA220 rfl (d_pickT (wn rfl) (hA220.ev rfl) (hA220.ev rfl) ?_)
          intro a221 hA222
          refine q_step hA222 rfl (d_assign (wn rfl) (hA222.ev rfl) ?_)
          intro a223 hA224
          refine q_end ?_
          exact ⟨hA224.cut _ (fm_cons ((hA224.get 2 _ rfl).trans (congrArg Value.bool (by simp [hb152, hb168, hb186, hb198, hb210]))) fm_nil), b185, m184⟩
        ·skip
         have hq225 := of_decide_eq_false hb198
         refine q_step hA197 rfl (d_bin (wy rfl rfl (hA197.get 35 _ rfl)) (hA197.ev rfl) (hA197.ev rfl) (b_ge _ _ i.fn 1 false _ hb198) ?_)
         intro a226 hA227
         refine q_step hA227 rfl (d_pickT (wn rfl) (hA227.ev rfl) (hA227.ev rfl) ?_)
         intro a228 hA229
         refine q_step hA229 rfl (d_move (wn rfl) (hA229.ev rfl) ?_)
         intro a230 hA231
         refine q_step hA231 rfl (does_not (wno rfl rfl (.inl (hA231.get 40 _ rfl))) ?_)
         intro a232 hA233
         refine q_step hA233 rfl (does_not (wno rfl rfl (.inl (hA233.get 40 _ rfl))) ?_)
         intro a234 hA235
         refine q_step hA235 rfl (does_not (wno rfl rfl (.inl (hA235.get 40 _ rfl))) ?_)
         intro a236 hA237
         refine q_step hA237 rfl (d_pickF (wn rfl) (hA237.ev rfl) (hA237.ev rfl) ?_)
         intro a238 hA239
         refine q_step hA239 rfl (d_assign (wn rfl) (hA239.ev rfl) ?_)
         intro a240 hA241
         refine q_end ?_
         exact ⟨hA241.cut _ (fm_cons ((hA241.get 2 _ rfl).trans (congrArg Value.bool (by simp [hb152, hb168, hb186, hb198]))) fm_nil), b185, m184⟩
       ·skip
        refine ⟨.bool false, he182.trans (ret_bool hb186), ?_⟩
        intro a243 hA244
        refine q_step hA244 rfl (d_pickT (wn rfl) (hA244.ev rfl) (hA244.ev rfl) ?_)
        intro a245 hA246
        refine q_step hA246 rfl (d_move (wn rfl) (hA246.ev rfl) ?_)
        intro a247 hA248
        refine q_step hA248 rfl (does_not (wno rfl rfl (.inl (hA248.get 35 _ rfl))) ?_)
        intro a249 hA250
        refine q_step hA250 rfl (does_not (wno rfl rfl (.inl (hA250.get 35 _ rfl))) ?_)
        intro a251 hA252
        refine q_step hA252 rfl (does_not (wno rfl rfl (.inl (hA252.get 35 _ rfl))) ?_)
        intro a253 hA254
        refine q_step hA254 rfl (d_pickF (wn rfl) (hA254.ev rfl) (hA254.ev rfl) ?_)
        intro a255 hA256
        refine q_step hA256 rfl (d_move (wn rfl) (hA256.ev rfl) ?_)
        intro a257 hA258
        refine q_step hA258 rfl (does_not (wno rfl rfl (.inl (hA258.get 40 _ rfl))) ?_)
        intro a259 hA260
        refine q_step hA260 rfl (does_not (wno rfl rfl (.inl (hA260.get 40 _ rfl))) ?_)
        intro a261 hA262
        refine q_step hA262 rfl (does_not (wno rfl rfl (.inl (hA262.get 40 _ rfl))) ?_)
        intro a263 hA264
        refine q_step hA264 rfl (d_pickF (wn rfl) (hA264.ev rfl) (hA264.ev rfl) ?_)
        intro a265 hA266
        refine q_step hA266 rfl (d_assign (wn rfl) (hA266.ev rfl) ?_)
        intro a267 hA268
        refine q_end ?_
        exact ⟨hA268.cut _ (fm_cons ((hA268.get 2 _ rfl).trans (congrArg Value.bool (by simp [hb152, hb168, hb186]))) fm_nil), b185, m184⟩
      ·skip
       refine ⟨.bool false, he164.trans (ret_bool hb168), ?_⟩
       intro a270 hA271
       refine q_step hA271 rfl (d_pickT (wn rfl) (hA271.ev rfl) (hA271.ev rfl) ?_)
       intro a272 hA273
       refine q_step hA273 rfl (d_move (wn rfl) (hA273.ev rfl) ?_)
       intro a274 hA275
       refine q_step hA275 rfl (does_not (wno rfl rfl (.inl (hA275.get 30 _ rfl))) ?_)
       intro a276 hA277
       refine q_step hA277 rfl (does_not (wno rfl rfl (.inl (hA277.get 30 _ rfl))) ?_)
       intro a278 hA279
       refine q_step hA279 rfl (does_not (wno rfl rfl (.inl (hA279.get 30 _ rfl))) ?_)
       intro a280 hA281
       refine q_step hA281 rfl (d_pickF (wn rfl) (hA281.ev rfl) (hA281.ev rfl) ?_)
       intro a282 hA283
       refine q_step hA283 rfl (d_move (wn rfl) (hA283.ev rfl) ?_)
       intro a284 hA285
       refine q_step hA285 rfl (does_not (wno rfl rfl (.inl (hA285.get 35 _ rfl))) ?_)
       intro a286 hA287
       refine q_step hA287 rfl (does_not (wno rfl rfl (.inl (hA287.get 35 _ rfl))) ?_)
       intro a288 hA289
       refine q_step hA289 rfl (does_not (wno rfl rfl (.inl (hA289.get 35 _ rfl))) ?_)
       intro a290 hA291
       refine q_step hA291 rfl (d_pickF (wn rfl) (hA291.ev rfl) (hA291.ev rfl) ?_)
       intro a292 hA293
       refine q_step hA293 rfl (d_move (wn rfl) (hA293.ev rfl) ?_)
       intro a294 hA295
       refine q_step hA295 rfl (does_not (wno rfl rfl (.inl (hA295.get 40 _ rfl))) ?_)
       intro a296 hA297
       refine q_step hA297 rfl (does_not (wno rfl rfl (.inl (hA297.get 40 _ rfl))) ?_)
       intro a298 hA299
       refine q_step hA299 rfl (does_not (wno rfl rfl (.inl (hA299.get 40 _ rfl))) ?_)
       intro a300 hA301
       refine q_step hA301 rfl (d_pickF (wn rfl) (hA301.ev rfl) (hA301.ev rfl) ?_)
       intro a302 hA303
       refine q_step hA303 rfl (d_assign (wn rfl) (hA303.ev rfl) ?_)
       intro a304 hA305
       refine q_end ?_
       exact ⟨hA305.cut _ (fm_cons ((hA305.get 2 _ rfl).trans (congrArg Value.bool (by simp [hb152, hb168]))) fm_nil), b167, m166⟩
     ·skip
      refine ⟨.bool false, he148.trans (ret_bool hb152), ?_⟩
      intro a307 hA308
      refine q_step hA308 rfl (d_move (wn rfl) (hA308.ev rfl) ?_)
      intro a309 hA310
      refine q_step hA310 rfl (does_not (wno rfl rfl (.inl (hA310.get 25 _ rfl))) ?_)
      intro a311 hA312
      refine q_step hA312 rfl (does_not (wno rfl rfl (.inl (hA312.get 25 _ rfl))) ?_)
      intro a313 hA314
      refine q_step hA314 rfl (does_not (wno rfl rfl (.inl (hA314.get 25 _ rfl))) ?_)
      intro a315 hA316
      refine q_step hA316 rfl (d_pickF (wn rfl) (hA316.ev rfl) (hA316.ev rfl) ?_)
      intro a317 hA318
      refine q_step hA318 rfl (d_move (wn rfl) (hA318.ev rfl) ?_)
      intro a319 hA320
      refine q_step hA320 rfl (does_not (wno rfl rfl (.inl (hA320.get 30 _ rfl))) ?_)
      intro a321 hA322
      refine q_step hA322 rfl (does_not (wno rfl rfl (.inl (hA322.get 30 _ rfl))) ?_)
      intro a323 hA324
      refine q_step hA324 rfl (does_not (wno rfl rfl (.inl (hA324.get 30 _ rfl))) ?_)
      intro a325 hA326
      refine q_step hA326 rfl (d_pickF (wn rfl) (hA326.ev rfl) (hA326.ev rfl) ?_)
      intro a327 hA328
      refine q_step hA328 rfl (d_move (wn rfl) (hA328.ev rfl) ?_)
      intro a329 hA330
      refine q_step hA330 rfl (does_not (wno rfl rfl (.inl (hA330.get 35 _ rfl))) ?_)
      intro a331 hA332
      refine q_step hA332 rfl (does_not (wno rfl rfl (.inl (hA332.get 35 _ rfl))) ?_)
      intro a333 hA334
      refine q_step hA334 rfl (does_not (wno rfl rfl (.inl (hA334.get 35 _ rfl))) ?_)
      intro a335 hA336
      refine q_step hA336 rfl (d_pickF (wn rfl) (hA336.ev rfl) (hA336.ev rfl) ?_)
      intro a337 hA338
      refine q_step hA338 rfl (d_move (wn rfl) (hA338.ev rfl) ?_)
      intro a339 hA340
      refine q_step hA340 rfl (does_not (wno rfl rfl (.inl (hA340.get 40 _ rfl))) ?_)
      intro a341 hA342
      refine q_step hA342 rfl (does_not (wno rfl rfl (.inl (hA342.get 40 _ rfl))) ?_)
      intro a343 hA344
      refine q_step hA344 rfl (does_not (wno rfl rfl (.inl (hA344.get 40 _ rfl))) ?_)
      intro a345 hA346
      refine q_step hA346 rfl (d_pickF (wn rfl) (hA346.ev rfl) (hA346.ev rfl) ?_)
      intro a347 hA348
      refine q_step hA348 rfl (d_assign (wn rfl) (hA348.ev rfl) ?_)
      intro a349 hA350
      refine q_end ?_
      exact ⟨hA350.cut _ (fm_cons ((hA350.get 2 _ rfl).trans (congrArg Value.bool (by simp [hb152]))) fm_nil), b151, m150⟩
    rintro a140 w141 ⟨hA351, b352, m353⟩
    refine t_norm ?_
    refine wp_ret ?_
    refine i_ret ?_
    refine t_ret ?_
    refine ret1 rfl hA351 (v := (.bool ((regB i.dst) && ((regB i.a) && ((ronB i.b) && ((decide (i.fn ≥ 1)) && (decide (i.fn ≤ 5)))))))) rfl ?_
    exact ⟨ret_bool (by first | (simp [soundB, hb20, hb59, eq_of_beq hb133, Bool.or_assoc, Bool.and_assoc]; done) | (rw [Bool.eq_iff_iff]; simp [soundB, hb20, hb59, eq_of_beq hb133]; done) | (rw [Bool.eq_iff_iff]; simp [soundB, hb20, hb59, eq_of_beq hb133]; omega) | grind), b352⟩
   ·skip
    have hq354 := ne_of_beq hb133
    refine q_step hA132 rfl (d_bin (wn rfl) (hA132.ev rfl) (hA132.ev rfl) (b_eq _ _ i.op 3 false _ hb133) ?_)
    intro a355 hA356
    refine q_step hA356 rfl (d_assign (wn rfl) (hA356.ev rfl) ?_)
    intro a357 hA358
    refine q_end ?_
    have hA359 : St 113 [(1, (.pointer (some ⟨g3, 0, none⟩))), (2, (.bool false)), (4, (.int .i64 i.op)), (20, (.bool false))] a357 := hA358.cut _ (fm_cons (hA358.get 1 _ rfl) (fm_cons (hA358.get 2 _ rfl) (fm_cons (hA358.get 4 _ rfl) (fm_cons (hA358.get 20 _ rfl) fm_nil))))
    refine t_norm ?_
    refine c_false hA359 rfl ?_
    refine wp_seq ?_
    refine wp_region_lit ?_
    rcases Bool.eq_false_or_eq_true (i.op == 4) with hb360 | hb360
    ·skip
     have hq361 := eq_of_beq hb360
     refine q_step hA359 rfl (d_bin (wn rfl) (hA359.ev rfl) (hA359.ev rfl) (b_eq _ _ i.op 4 true _ hb360) ?_)
     intro a362 hA363
     refine q_step hA363 rfl (d_assign (wn rfl) (hA363.ev rfl) ?_)
     intro a364 hA365
     refine q_end ?_
     have hA366 : St 113 [(1, (.pointer (some ⟨g3, 0, none⟩))), (2, (.bool false)), (4, (.int .i64 i.op)), (45, (.bool true))] a364 := hA365.cut _ (fm_cons (hA365.get 1 _ rfl) (fm_cons (hA365.get 2 _ rfl) (fm_cons (hA365.get 4 _ rfl) (fm_cons (hA365.get 45 _ rfl) fm_nil))))
     refine t_norm ?_
     refine c_true hA366 rfl ?_
     refine wp_seq ?_
     refine join_wp (K := fun a367 w368 => St 113 [(2, (.bool ((regB i.dst) && ((accB i) && (cond i.acq (!i.weak) true)))))] a367 ∧ Below w.heap.size w w368 ∧ Blk w368 g3 (insC i) 23) ?_ ?_
     ·skip
      refine wp_region_lit ?_
      refine q_step hA366 rfl (d_fieldAddr (wn rfl) (hA366.ev rfl) fo23_1 ?_)
      intro a369 hA370
      refine q_step hA370 rfl (d_load (v := (.int .i64 i.dst)) (wn rfl) (hA370.ev rfl) one3 (m7.cell rfl) ?_)
      intro a371 hA372
      refine q_step hA372 rfl (d_call (wn rfl) ent40 (map1 (hA372.ev rfl)) (isReg_any i.dst w4) ?_)
      rintro e376 w373 ⟨he375, hG374⟩
      have m377 := m7.grow hG374
      have b378 := below_grow b9 hG374 b9.size
      rcases Bool.eq_false_or_eq_true (regB i.dst) with hb379 | hb379
      ·skip
       refine ⟨.bool true, he375.trans (ret_bool hb379), ?_⟩
       intro a381 hA382
       refine q_step hA382 rfl (d_move (wn rfl) (hA382.ev rfl) ?_)
       intro a383 hA384
       refine q_step hA384 rfl (d_loadRow (cs := (insC i)) (wy rfl rfl (hA384.get 50 _ rfl)) (hA384.ev rfl) row23 m377 ?_)
       intro a385 hA386
       refine q_step hA386 rfl (d_call (wy rfl rfl (hA386.get 50 _ rfl)) ent42 (map1 (hA386.ev rfl)) (isAccess_any i w373) ?_)
       rintro e390 w387 ⟨he389, hG388⟩
       have m391 := m377.grow hG388
       have b392 := below_grow b378 hG388 b378.size
       rcases Bool.eq_false_or_eq_true (accB i) with hb393 | hb393
       ·skip
        refine ⟨.bool true, he389.trans (ret_bool hb393), ?_⟩
        intro a395 hA396
        refine q_step hA396 rfl (d_pickT (wn rfl) (hA396.ev rfl) (hA396.ev rfl) ?_)
        intro a397 hA398
        refine q_step hA398 rfl (d_move (wn rfl) (hA398.ev rfl) ?_)
        intro a399 hA400
        refine q_step hA400 rfl (d_fieldAddr (wy rfl rfl (hA400.get 54 _ rfl)) (hA400.ev rfl) fo23_10 ?_)
        intro a401 hA402
        refine q_step hA402 rfl (d_load (v := (.bool i.acq)) (wy rfl rfl (hA402.get 54 _ rfl)) (hA402.ev rfl) one4 (m391.cell rfl) ?_)
        intro a403 hA404
        refine q_step hA404 rfl (d_move (wy rfl rfl (hA404.get 54 _ rfl)) (hA404.ev rfl) ?_)
        intro a405 hA406
        rcases Bool.eq_false_or_eq_true (i.acq) with hb407 | hb407
        ·skip
         have hA409 : St 113 [(1, (.pointer (some ⟨g3, 0, none⟩))), (2, (.bool false)), (4, (.int .i64 i.op)), (45, (.bool true)), (47, (.pointer (some ⟨g3, 1, none⟩))), (48, (.int .i64 i.dst)), (49, (.bool true)), (50, (.bool true)), (51, (.agg (insC i))), (52, (.bool true)), (53, (.bool true)), (54, (.bool true)), (55, (.pointer (some ⟨g3, 10, none⟩))), (56, (.bool i.acq)), (57, (.bool true))] a405 := hA406.cut _ (fm_cons (hA406.get 1 _ rfl) (fm_cons (hA406.get 2 _ rfl) (fm_cons (hA406.get 4 _ rfl) (fm_cons (hA406.get 45 _ rfl) (fm_cons (hA406.get 47 _ rfl) (fm_cons (hA406.get 48 _ rfl) (fm_cons (hA406.get 49 _ rfl) (fm_cons (hA406.get 50 _ rfl) (fm_cons (hA406.get 51 _ rfl) (fm_cons (hA406.get 52 _ rfl) (fm_cons (hA406.get 53 _ rfl) (fm_cons (hA406.get 54 _ rfl) (fm_cons (hA406.get 55 _ rfl) (fm_cons (hA406.get 56 _ rfl) (fm_cons ((hA406.get 57 _ rfl).trans (congrArg Value.bool hb407)) fm_nil)))))))))))))))
         refine q_step hA409 rfl (d_fieldAddr (wy rfl rfl (hA409.get 57 _ rfl)) (hA409.ev rfl) fo23_11 ?_)
         intro a410 hA411
         refine q_step hA411 rfl (d_load (v := (.bool i.weak)) (wy rfl rfl (hA411.get 57 _ rfl)) (hA411.ev rfl) one4 (m391.cell rfl) ?_)
         intro a412 hA413
         refine q_step hA413 rfl (d_pickT (wy rfl rfl (hA413.get 54 _ rfl)) (hA413.ev rfl) (hA413.ev rfl) ?_)
         intro a414 hA415
         rcases Bool.eq_false_or_eq_true (i.weak) with hb416 | hb416
         ·skip
          have hA418 : St 113 [(1, (.pointer (some ⟨g3, 0, none⟩))), (2, (.bool false)), (4, (.int .i64 i.op)), (45, (.bool true)), (47, (.pointer (some ⟨g3, 1, none⟩))), (48, (.int .i64 i.dst)), (49, (.bool true)), (50, (.bool true)), (51, (.agg (insC i))), (52, (.bool true)), (53, (.bool true)), (54, (.bool true)), (55, (.pointer (some ⟨g3, 10, none⟩))), (56, (.bool i.acq)), (57, (.bool true)), (58, (.pointer (some ⟨g3, 11, none⟩))), (59, (.bool i.weak)), (60, (.bool true))] a414 := hA415.cut _ (fm_cons (hA415.get 1 _ rfl) (fm_cons (hA415.get 2 _ rfl) (fm_cons (hA415.get 4 _ rfl) (fm_cons (hA415.get 45 _ rfl) (fm_cons (hA415.get 47 _ rfl) (fm_cons (hA415.get 48 _ rfl) (fm_cons (hA415.get 49 _ rfl) (fm_cons (hA415.get 50 _ rfl) (fm_cons (hA415.get 51 _ rfl) (fm_cons (hA415.get 52 _ rfl) (fm_cons (hA415.get 53 _ rfl) (fm_cons (hA415.get 54 _ rfl) (fm_cons (hA415.get 55 _ rfl) (fm_cons (hA415.get 56 _ rfl) (fm_cons (hA415.get 57 _ rfl) (fm_cons (hA415.get 58 _ rfl) (fm_cons (hA415.get 59 _ rfl) (fm_cons ((hA415.get 60 _ rfl).trans (congrArg Value.bool hb416)) fm_nil))))))))))))))))))
          refine q_step hA418 rfl (d_not (wy rfl rfl (hA418.get 54 _ rfl)) (hA418.ev rfl) ?_)
          intro a419 hA420
          refine q_step hA420 rfl (d_pickT (wn rfl) (hA420.ev rfl) (hA420.ev rfl) ?_)
          intro a421 hA422
          refine q_step hA422 rfl (d_assign (wn rfl) (hA422.ev rfl) ?_)
          intro a423 hA424
          refine q_end ?_
          exact ⟨hA424.cut _ (fm_cons ((hA424.get 2 _ rfl).trans (congrArg Value.bool (by simp [hb379, hb393, hb407, hb416]))) fm_nil), b392, m391⟩
         ·skip
          have hA426 : St 113 [(1, (.pointer (some ⟨g3, 0, none⟩))), (2, (.bool false)), (4, (.int .i64 i.op)), (45, (.bool true)), (47, (.pointer (some ⟨g3, 1, none⟩))), (48, (.int .i64 i.dst)), (49, (.bool true)), (50, (.bool true)), (51, (.agg (insC i))), (52, (.bool true)), (53, (.bool true)), (54, (.bool true)), (55, (.pointer (some ⟨g3, 10, none⟩))), (56, (.bool i.acq)), (57, (.bool true)), (58, (.pointer (some ⟨g3, 11, none⟩))), (59, (.bool i.weak)), (60, (.bool false))] a414 := hA415.cut _ (fm_cons (hA415.get 1 _ rfl) (fm_cons (hA415.get 2 _ rfl) (fm_cons (hA415.get 4 _ rfl) (fm_cons (hA415.get 45 _ rfl) (fm_cons (hA415.get 47 _ rfl) (fm_cons (hA415.get 48 _ rfl) (fm_cons (hA415.get 49 _ rfl) (fm_cons (hA415.get 50 _ rfl) (fm_cons (hA415.get 51 _ rfl) (fm_cons (hA415.get 52 _ rfl) (fm_cons (hA415.get 53 _ rfl) (fm_cons (hA415.get 54 _ rfl) (fm_cons (hA415.get 55 _ rfl) (fm_cons (hA415.get 56 _ rfl) (fm_cons (hA415.get 57 _ rfl) (fm_cons (hA415.get 58 _ rfl) (fm_cons (hA415.get 59 _ rfl) (fm_cons ((hA415.get 60 _ rfl).trans (congrArg Value.bool hb416)) fm_nil))))))))))))))))))
          refine q_step hA426 rfl (d_not (wy rfl rfl (hA426.get 54 _ rfl)) (hA426.ev rfl) ?_)
          intro a427 hA428
          refine q_step hA428 rfl (d_pickT (wn rfl) (hA428.ev rfl) (hA428.ev rfl) ?_)
          intro a429 hA430
          refine q_step hA430 rfl (d_assign (wn rfl) (hA430.ev rfl) ?_)
          intro a431 hA432
          refine q_end ?_
          exact ⟨hA432.cut _ (fm_cons ((hA432.get 2 _ rfl).trans (congrArg Value.bool (by simp [hb379, hb393, hb407, hb416]))) fm_nil), b392, m391⟩
        ·skip
         have hA434 : St 113 [(1, (.pointer (some ⟨g3, 0, none⟩))), (2, (.bool false)), (4, (.int .i64 i.op)), (45, (.bool true)), (47, (.pointer (some ⟨g3, 1, none⟩))), (48, (.int .i64 i.dst)), (49, (.bool true)), (50, (.bool true)), (51, (.agg (insC i))), (52, (.bool true)), (53, (.bool true)), (54, (.bool true)), (55, (.pointer (some ⟨g3, 10, none⟩))), (56, (.bool i.acq)), (57, (.bool false))] a405 := hA406.cut _ (fm_cons (hA406.get 1 _ rfl) (fm_cons (hA406.get 2 _ rfl) (fm_cons (hA406.get 4 _ rfl) (fm_cons (hA406.get 45 _ rfl) (fm_cons (hA406.get 47 _ rfl) (fm_cons (hA406.get 48 _ rfl) (fm_cons (hA406.get 49 _ rfl) (fm_cons (hA406.get 50 _ rfl) (fm_cons (hA406.get 51 _ rfl) (fm_cons (hA406.get 52 _ rfl) (fm_cons (hA406.get 53 _ rfl) (fm_cons (hA406.get 54 _ rfl) (fm_cons (hA406.get 55 _ rfl) (fm_cons (hA406.get 56 _ rfl) (fm_cons ((hA406.get 57 _ rfl).trans (congrArg Value.bool hb407)) fm_nil)))))))))))))))
         refine q_step hA434 rfl (does_not (wno rfl rfl (.inl (hA434.get 57 _ rfl))) ?_)
         intro a435 hA436
         refine q_step hA436 rfl (does_not (wno rfl rfl (.inl (hA436.get 57 _ rfl))) ?_)
         intro a437 hA438
         refine q_step hA438 rfl (d_pickF (wy rfl rfl (hA438.get 54 _ rfl)) (hA438.ev rfl) (hA438.ev rfl) ?_)
         intro a439 hA440
         refine q_step hA440 rfl (d_not (wy rfl rfl (hA440.get 54 _ rfl)) (hA440.ev rfl) ?_)
         intro a441 hA442
         refine q_step hA442 rfl (d_pickT (wn rfl) (hA442.ev rfl) (hA442.ev rfl) ?_)
         intro a443 hA444
         refine q_step hA444 rfl (d_assign (wn rfl) (hA444.ev rfl) ?_)
         intro a445 hA446
         refine q_end ?_
         exact ⟨hA446.cut _ (fm_cons ((hA446.get 2 _ rfl).trans (congrArg Value.bool (by simp [hb379, hb393, hb407]))) fm_nil), b392, m391⟩
       ·skip
        refine ⟨.bool false, he389.trans (ret_bool hb393), ?_⟩
        intro a448 hA449
        refine q_step hA449 rfl (d_pickT (wn rfl) (hA449.ev rfl) (hA449.ev rfl) ?_)
        intro a450 hA451
        refine q_step hA451 rfl (d_move (wn rfl) (hA451.ev rfl) ?_)
        intro a452 hA453
        refine q_step hA453 rfl (does_not (wno rfl rfl (.inl (hA453.get 54 _ rfl))) ?_)
        intro a454 hA455
        refine q_step hA455 rfl (does_not (wno rfl rfl (.inl (hA455.get 54 _ rfl))) ?_)
        intro a456 hA457
        refine q_step hA457 rfl (does_not (wno rfl rfl (.inl (hA457.get 54 _ rfl))) ?_)
        intro a458 hA459
        refine q_step hA459 rfl (does_not (wno rfl rfl (.inr (hA459.get 57 _ rfl))) ?_)
        intro a460 hA461
        refine q_step hA461 rfl (does_not (wno rfl rfl (.inr (hA461.get 57 _ rfl))) ?_)
        intro a462 hA463
        refine q_step hA463 rfl (does_not (wno rfl rfl (.inl (hA463.get 54 _ rfl))) ?_)
        intro a464 hA465
        refine q_step hA465 rfl (does_not (wno rfl rfl (.inl (hA465.get 54 _ rfl))) ?_)
        intro a466 hA467
        refine q_step hA467 rfl (d_pickF (wn rfl) (hA467.ev rfl) (hA467.ev rfl) ?_)
        intro a468 hA469
        refine q_step hA469 rfl (d_assign (wn rfl) (hA469.ev rfl) ?_)
        intro a470 hA471
        refine q_end ?_
        exact ⟨hA471.cut _ (fm_cons ((hA471.get 2 _ rfl).trans (congrArg Value.bool (by simp [hb379, hb393]))) fm_nil), b392, m391⟩
      ·skip
       refine ⟨.bool false, he375.trans (ret_bool hb379), ?_⟩
       intro a473 hA474
       refine q_step hA474 rfl (d_move (wn rfl) (hA474.ev rfl) ?_)
       intro a475 hA476
       refine q_step hA476 rfl (does_not (wno rfl rfl (.inl (hA476.get 50 _ rfl))) ?_)
       intro a477 hA478
       refine q_step hA478 rfl (does_not (wno rfl rfl (.inl (hA478.get 50 _ rfl))) ?_)
       intro a479 hA480
       refine q_step hA480 rfl (d_pickF (wn rfl) (hA480.ev rfl) (hA480.ev rfl) ?_)
       intro a481 hA482
       refine q_step hA482 rfl (d_move (wn rfl) (hA482.ev rfl) ?_)
       intro a483 hA484
       refine q_step hA484 rfl (does_not (wno rfl rfl (.inl (hA484.get 54 _ rfl))) ?_)
       intro a485 hA486
       refine q_step hA486 rfl (does_not (wno rfl rfl (.inl (hA486.get 54 _ rfl))) ?_)
       intro a487 hA488
       refine q_step hA488 rfl (does_not (wno rfl rfl (.inl (hA488.get 54 _ rfl))) ?_)
       intro a489 hA490
       refine q_step hA490 rfl (does_not (wno rfl rfl (.inr (hA490.get 57 _ rfl))) ?_)
       intro a491 hA492
       refine q_step hA492 rfl (does_not (wno rfl rfl (.inr (hA492.get 57 _ rfl))) ?_)
       intro a493 hA494
       refine q_step hA494 rfl (does_not (wno rfl rfl (.inl (hA494.get 54 _ rfl))) ?_)
       intro a495 hA496
       refine q_step hA496 rfl (does_not (wno rfl rfl (.inl (hA496.get 54 _ rfl))) ?_)
       intro a497 hA498
       refine q_step hA498 rfl (d_pickF (wn rfl) (hA498.ev rfl) (hA498.ev rfl) ?_)
       intro a499 hA500
       refine q_step hA500 rfl (d_assign (wn rfl) (hA500.ev rfl) ?_)
       intro a501 hA502
       refine q_end ?_
       exact ⟨hA502.cut _ (fm_cons ((hA502.get 2 _ rfl).trans (congrArg Value.bool (by simp [hb379]))) fm_nil), b378, m377⟩
     rintro a367 w368 ⟨hA503, b504, m505⟩
     refine t_norm ?_
     refine wp_ret ?_
     refine i_ret ?_
     refine t_ret ?_
     refine ret1 rfl hA503 (v := (.bool ((regB i.dst) && ((accB i) && (cond i.acq (!i.weak) true))))) rfl ?_
     exact ⟨ret_bool (by first | (simp [soundB, hb20, hb59, hb133, eq_of_beq hb360, Bool.or_assoc, Bool.and_assoc]; done) | (rw [Bool.eq_iff_iff]; simp [soundB, hb20, hb59, hb133, eq_of_beq hb360]; done) | (rw [Bool.eq_iff_iff]; simp [soundB, hb20, hb59, hb133, eq_of_beq hb360]; omega) | grind), b504⟩
    ·skip
     have hq506 := ne_of_beq hb360
     refine q_step hA359 rfl (d_bin (wn rfl) (hA359.ev rfl) (hA359.ev rfl) (b_eq _ _ i.op 4 false _ hb360) ?_)
     intro a507 hA508
     refine q_step hA508 rfl (d_assign (wn rfl) (hA508.ev rfl) ?_)
     intro a509 hA510
     refine q_end ?_
     have hA511 : St 113 [(1, (.pointer (some ⟨g3, 0, none⟩))), (2, (.bool false)), (4, (.int .i64 i.op)), (45, (.bool false))] a509 := hA510.cut _ (fm_cons (hA510.get 1 _ rfl) (fm_cons (hA510.get 2 _ rfl) (fm_cons (hA510.get 4 _ rfl) (fm_cons (hA510.get 45 _ rfl) fm_nil))))
     refine t_norm ?_
     refine c_false hA511 rfl ?_
     refine wp_seq ?_
     refine wp_region_lit ?_
     rcases Bool.eq_false_or_eq_true (i.op == 5) with hb512 | hb512
     ·skip
      have hq513 := eq_of_beq hb512
      refine q_step hA511 rfl (d_bin (wn rfl) (hA511.ev rfl) (hA511.ev rfl) (b_eq _ _ i.op 5 true _ hb512) ?_)
      intro a514 hA515
      refine q_step hA515 rfl (d_assign (wn rfl) (hA515.ev rfl) ?_)
      intro a516 hA517
      refine q_end ?_
      have hA518 : St 113 [(1, (.pointer (some ⟨g3, 0, none⟩))), (2, (.bool false)), (4, (.int .i64 i.op)), (63, (.bool true))] a516 := hA517.cut _ (fm_cons (hA517.get 1 _ rfl) (fm_cons (hA517.get 2 _ rfl) (fm_cons (hA517.get 4 _ rfl) (fm_cons (hA517.get 63 _ rfl) fm_nil))))
      refine t_norm ?_
      refine c_true hA518 rfl ?_
      refine wp_seq ?_
      refine join_wp (K := fun a519 w520 => St 113 [(2, (.bool ((ronB i.a) && (accB i))))] a519 ∧ Below w.heap.size w w520 ∧ Blk w520 g3 (insC i) 23) ?_ ?_
      ·skip
       refine wp_region_lit ?_
       refine q_step hA518 rfl (d_fieldAddr (wn rfl) (hA518.ev rfl) fo23_2 ?_)
       intro a521 hA522
       refine q_step hA522 rfl (d_load (v := (.int .i64 i.a)) (wn rfl) (hA522.ev rfl) one3 (m7.cell rfl) ?_)
       intro a523 hA524
       refine q_step hA524 rfl (d_call (wn rfl) ent41 (map1 (hA524.ev rfl)) (isRegOrNone_any i.a w4) ?_)
       rintro e528 w525 ⟨he527, hG526⟩
       have m529 := m7.grow hG526
       have b530 := below_grow b9 hG526 b9.size
       rcases Bool.eq_false_or_eq_true (ronB i.a) with hb531 | hb531
       ·skip
        refine ⟨.bool true, he527.trans (ret_bool hb531), ?_⟩
        intro a533 hA534
        refine q_step hA534 rfl (d_move (wn rfl) (hA534.ev rfl) ?_)
        intro a535 hA536
        refine q_step hA536 rfl (d_loadRow (cs := (insC i)) (wy rfl rfl (hA536.get 68 _ rfl)) (hA536.ev rfl) row23 m529 ?_)
        intro a537 hA538
        refine q_step hA538 rfl (d_call (wy rfl rfl (hA538.get 68 _ rfl)) ent42 (map1 (hA538.ev rfl)) (isAccess_any i w525) ?_)
        rintro e542 w539 ⟨he541, hG540⟩
        have m543 := m529.grow hG540
        have b544 := below_grow b530 hG540 b530.size
        rcases Bool.eq_false_or_eq_true (accB i) with hb545 | hb545
        ·skip
         refine ⟨.bool true, he541.trans (ret_bool hb545), ?_⟩
         intro a547 hA548
         refine q_step hA548 rfl (d_pickT (wn rfl) (hA548.ev rfl) (hA548.ev rfl) ?_)
         intro a549 hA550
         refine q_step hA550 rfl (d_assign (wn rfl) (hA550.ev rfl) ?_)
         intro a551 hA552
         refine q_end ?_
         exact ⟨hA552.cut _ (fm_cons ((hA552.get 2 _ rfl).trans (congrArg Value.bool (by simp [hb531, hb545]))) fm_nil), b544, m543⟩
        ·skip
         refine ⟨.bool false, he541.trans (ret_bool hb545), ?_⟩
         intro a554 hA555
         refine q_step hA555 rfl (d_pickT (wn rfl) (hA555.ev rfl) (hA555.ev rfl) ?_)
         intro a556 hA557
         refine q_step hA557 rfl (d_assign (wn rfl) (hA557.ev rfl) ?_)
         intro a558 hA559
         refine q_end ?_
         exact ⟨hA559.cut _ (fm_cons ((hA559.get 2 _ rfl).trans (congrArg Value.bool (by simp [hb531, hb545]))) fm_nil), b544, m543⟩
       ·skip
        refine ⟨.bool false, he527.trans (ret_bool hb531), ?_⟩
        intro a561 hA562
        refine q_step hA562 rfl (d_move (wn rfl) (hA562.ev rfl) ?_)
        intro a563 hA564
        refine q_step hA564 rfl (does_not (wno rfl rfl (.inl (hA564.get 68 _ rfl))) ?_)
        intro a565 hA566
        refine q_step hA566 rfl (does_not (wno rfl rfl (.inl (hA566.get 68 _ rfl))) ?_)
        intro a567 hA568
        refine q_step hA568 rfl (d_pickF (wn rfl) (hA568.ev rfl) (hA568.ev rfl) ?_)
        intro a569 hA570
        refine q_step hA570 rfl (d_assign (wn rfl) (hA570.ev rfl) ?_)
        intro a571 hA572
        refine q_end ?_
        exact ⟨hA572.cut _ (fm_cons ((hA572.get 2 _ rfl).trans (congrArg Value.bool (by simp [hb531]))) fm_nil), b530, m529⟩
      rintro a519 w520 ⟨hA573, b574, m575⟩
      refine t_norm ?_
      refine wp_ret ?_
      refine i_ret ?_
      refine t_ret ?_
      refine ret1 rfl hA573 (v := (.bool ((ronB i.a) && (accB i)))) rfl ?_
      exact ⟨ret_bool (by first | (simp [soundB, hb20, hb59, hb133, hb360, eq_of_beq hb512, Bool.or_assoc, Bool.and_assoc]; done) | (rw [Bool.eq_iff_iff]; simp [soundB, hb20, hb59, hb133, hb360, eq_of_beq hb512]; done) | (rw [Bool.eq_iff_iff]; simp [soundB, hb20, hb59, hb133, hb360, eq_of_beq hb512]; omega) | grind), b574⟩
     ·skip
      have hq576 := ne_of_beq hb512
      refine q_step hA511 rfl (d_bin (wn rfl) (hA511.ev rfl) (hA511.ev rfl) (b_eq _ _ i.op 5 false _ hb512) ?_)
      intro a577 hA578
      refine q_step hA578 rfl (d_assign (wn rfl) (hA578.ev rfl) ?_)
      intro a579 hA580
      refine q_end ?_
      have hA581 : St 113 [(1, (.pointer (some ⟨g3, 0, none⟩))), (2, (.bool false)), (4, (.int .i64 i.op)), (63, (.bool false))] a579 := hA580.cut _ (fm_cons (hA580.get 1 _ rfl) (fm_cons (hA580.get 2 _ rfl) (fm_cons (hA580.get 4 _ rfl) (fm_cons (hA580.get 63 _ rfl) fm_nil))))
      refine t_norm ?_
      refine c_false hA581 rfl ?_
      refine wp_seq ?_
      refine wp_region_lit ?_
      rcases Bool.eq_false_or_eq_true (i.op == 6) with hb582 | hb582
      ·skip
       have hq583 := eq_of_beq hb582
       refine q_step hA581 rfl (d_bin (wn rfl) (hA581.ev rfl) (hA581.ev rfl) (b_eq _ _ i.op 6 true _ hb582) ?_)
       intro a584 hA585
       refine q_step hA585 rfl (d_assign (wn rfl) (hA585.ev rfl) ?_)
       intro a586 hA587
       refine q_end ?_
       have hA588 : St 113 [(1, (.pointer (some ⟨g3, 0, none⟩))), (2, (.bool false)), (4, (.int .i64 i.op)), (72, (.bool true))] a586 := hA587.cut _ (fm_cons (hA587.get 1 _ rfl) (fm_cons (hA587.get 2 _ rfl) (fm_cons (hA587.get 4 _ rfl) (fm_cons (hA587.get 72 _ rfl) fm_nil))))
       refine t_norm ?_
       refine c_true hA588 rfl ?_
       refine wp_seq ?_
       refine join_wp (K := fun a589 w590 => St 113 [(2, (.bool ((regB i.dst) && ((regB i.a) && ((accB i) && ((i.fn == 6) || (i.fn == 1)))))))] a589 ∧ Below w.heap.size w w590 ∧ Blk w590 g3 (insC i) 23) ?_ ?_
       ·skip
        refine wp_region_lit ?_
        refine q_step hA588 rfl (d_fieldAddr (wn rfl) (hA588.ev rfl) fo23_1 ?_)
        intro a591 hA592
        refine q_step hA592 rfl (d_load (v := (.int .i64 i.dst)) (wn rfl) (hA592.ev rfl) one3 (m7.cell rfl) ?_)
        intro a593 hA594
        refine q_step hA594 rfl (d_call (wn rfl) ent40 (map1 (hA594.ev rfl)) (isReg_any i.dst w4) ?_)
        rintro e598 w595 ⟨he597, hG596⟩
        have m599 := m7.grow hG596
        have b600 := below_grow b9 hG596 b9.size
        rcases Bool.eq_false_or_eq_true (regB i.dst) with hb601 | hb601
        ·skip
         refine ⟨.bool true, he597.trans (ret_bool hb601), ?_⟩
         intro a603 hA604
         refine q_step hA604 rfl (d_move (wn rfl) (hA604.ev rfl) ?_)
         intro a605 hA606
         refine q_step hA606 rfl (d_fieldAddr (wy rfl rfl (hA606.get 77 _ rfl)) (hA606.ev rfl) fo23_2 ?_)
         intro a607 hA608
         refine q_step hA608 rfl (d_load (v := (.int .i64 i.a)) (wy rfl rfl (hA608.get 77 _ rfl)) (hA608.ev rfl) one3 (m599.cell rfl) ?_)
         intro a609 hA610
         refine q_step hA610 rfl (d_call (wy rfl rfl (hA610.get 77 _ rfl)) ent40 (map1 (hA610.ev rfl)) (isReg_any i.a w595) ?_)
         rintro e614 w611 ⟨he613, hG612⟩
         have m615 := m599.grow hG612
         have b616 := below_grow b600 hG612 b600.size
         rcases Bool.eq_false_or_eq_true (regB i.a) with hb617 | hb617
         ·skip
          refine ⟨.bool true, he613.trans (ret_bool hb617), ?_⟩
          intro a619 hA620
          refine q_step hA620 rfl (d_pickT (wn rfl) (hA620.ev rfl) (hA620.ev rfl) ?_)
          intro a621 hA622
          refine q_step hA622 rfl (d_move (wn rfl) (hA622.ev rfl) ?_)
          intro a623 hA624
          refine q_step hA624 rfl (d_loadRow (cs := (insC i)) (wy rfl rfl (hA624.get 82 _ rfl)) (hA624.ev rfl) row23 m615 ?_)
          intro a625 hA626
          refine q_step hA626 rfl (d_call (wy rfl rfl (hA626.get 82 _ rfl)) ent42 (map1 (hA626.ev rfl)) (isAccess_any i w611) ?_)
          rintro e630 w627 ⟨he629, hG628⟩
          have m631 := m615.grow hG628
          have b632 := below_grow b616 hG628 b616.size
          rcases Bool.eq_false_or_eq_true (accB i) with hb633 | hb633
          ·skip
           refine ⟨.bool true, he629.trans (ret_bool hb633), ?_⟩
           intro a635 hA636
           refine q_step hA636 rfl (d_pickT (wn rfl) (hA636.ev rfl) (hA636.ev rfl) ?_)
           intro a637 hA638
           refine q_step hA638 rfl (d_move (wn rfl) (hA638.ev rfl) ?_)
           intro a639 hA640
           refine q_step hA640 rfl (d_fieldAddr (wy rfl rfl (hA640.get 86 _ rfl)) (hA640.ev rfl) fo23_9 ?_)
           intro a641 hA642
           refine q_step hA642 rfl (d_load (v := (.int .i64 i.fn)) (wy rfl rfl (hA642.get 86 _ rfl)) (hA642.ev rfl) one3 (m631.cell rfl) ?_)
           intro a643 hA644
           rcases Bool.eq_false_or_eq_true (i.fn == 6) with hb645 | hb645
           ·skip
            have hq646 := eq_of_beq hb645
            refine q_step hA644 rfl (d_bin (wy rfl rfl (hA644.get 86 _ rfl)) (hA644.ev rfl) (hA644.ev rfl) (b_eq _ _ i.fn 6 true _ hb645) ?_)
            intro a647 hA648
            refine q_step hA648 rfl (d_move (wy rfl rfl (hA648.get 86 _ rfl)) (hA648.ev rfl) ?_)
            intro a649 hA650
            refine q_step hA650 rfl (does_not (wno rfl rfl (.inl (hA650.get 90 _ rfl))) ?_)
            intro a651 hA652
            refine q_step hA652 rfl (does_not (wno rfl rfl (.inl (hA652.get 90 _ rfl))) ?_)
            intro a653 hA654
            refine q_step hA654 rfl (does_not (wno rfl rfl (.inl (hA654.get 90 _ rfl))) ?_)
            intro a655 hA656
            refine q_step hA656 rfl (d_pickT (wy rfl rfl (hA656.get 86 _ rfl)) (hA656.ev rfl) (hA656.ev rfl) ?_)
            intro a657 hA658
            refine q_step hA658 rfl (d_pickT (wn rfl) (hA658.ev rfl) (hA658.ev rfl) ?_)
            intro a659 hA660
            refine q_step hA660 rfl (d_assign (wn rfl) (hA660.ev rfl) ?_)
            intro a661 hA662
            refine q_end ?_
            exact ⟨hA662.cut _ (fm_cons ((hA662.get 2 _ rfl).trans (congrArg Value.bool (by simp [hb601, hb617, hb633, hb645]))) fm_nil), b632, m631⟩
           ·skip
            have hq663 := ne_of_beq hb645
            refine q_step hA644 rfl (d_bin (wy rfl rfl (hA644.get 86 _ rfl)) (hA644.ev rfl) (hA644.ev rfl) (b_eq _ _ i.fn 6 false _ hb645) ?_)
            intro a664 hA665
            refine q_step hA665 rfl (d_move (wy rfl rfl (hA665.get 86 _ rfl)) (hA665.ev rfl) ?_)
            intro a666 hA667
            refine q_step hA667 rfl (d_fieldAddr (wy rfl rfl (hA667.get 90 _ rfl)) (hA667.ev rfl) fo23_9 ?_)
            intro a668 hA669
            refine q_step hA669 rfl (d_load (v := (.int .i64 i.fn)) (wy rfl rfl (hA669.get 90 _ rfl)) (hA669.ev rfl) one3 (m631.cell rfl) ?_)
            intro a670 hA671
            rcases Bool.eq_false_or_eq_true (i.fn == 1) with hb672 | hb672
            ·skip
             have hq673 := eq_of_beq hb672
             refine q_step hA671 rfl (d_bin (wy rfl rfl (hA671.get 90 _ rfl)) (hA671.ev rfl) (hA671.ev rfl) (b_eq _ _ i.fn 1 true _ hb672) ?_)
             intro a674 hA675
             refine q_step hA675 rfl (d_pickF (wy rfl rfl (hA675.get 86 _ rfl)) (hA675.ev rfl) (hA675.ev rfl) ?_)
             intro a676 hA677
             refine q_step hA677 rfl (d_pickT (wn rfl) (hA677.ev rfl) (hA677.ev rfl) ?_)
             intro a678 hA679
             refine q_step hA679 rfl (d_assign (wn rfl) (hA679.ev rfl) ?_)
             intro a680 hA681
             refine q_end ?_
             exact ⟨hA681.cut _ (fm_cons ((hA681.get 2 _ rfl).trans (congrArg Value.bool (by simp [hb601, hb617, hb633, hb645, hb672]))) fm_nil), b632, m631⟩
            ·skip
             have hq682 := ne_of_beq hb672
             refine q_step hA671 rfl (d_bin (wy rfl rfl (hA671.get 90 _ rfl)) (hA671.ev rfl) (hA671.ev rfl) (b_eq _ _ i.fn 1 false _ hb672) ?_)
             intro a683 hA684
             refine q_step hA684 rfl (d_pickF (wy rfl rfl (hA684.get 86 _ rfl)) (hA684.ev rfl) (hA684.ev rfl) ?_)
             intro a685 hA686
             refine q_step hA686 rfl (d_pickT (wn rfl) (hA686.ev rfl) (hA686.ev rfl) ?_)
             intro a687 hA688
             refine q_step hA688 rfl (d_assign (wn rfl) (hA688.ev rfl) ?_)
             intro a689 hA690
             refine q_end ?_
             exact ⟨hA690.cut _ (fm_cons ((hA690.get 2 _ rfl).trans (congrArg Value.bool (by simp [hb601, hb617, hb633, hb645, hb672]))) fm_nil), b632, m631⟩
          ·skip
           refine ⟨.bool false, he629.trans (ret_bool hb633), ?_⟩
           intro a692 hA693
           refine q_step hA693 rfl (d_pickT (wn rfl) (hA693.ev rfl) (hA693.ev rfl) ?_)
           intro a694 hA695
           refine q_step hA695 rfl (d_move (wn rfl) (hA695.ev rfl) ?_)
           intro a696 hA697
           refine q_step hA697 rfl (does_not (wno rfl rfl (.inl (hA697.get 86 _ rfl))) ?_)
           intro a698 hA699
           refine q_step hA699 rfl (does_not (wno rfl rfl (.inl (hA699.get 86 _ rfl))) ?_)
           intro a700 hA701
           refine q_step hA701 rfl (does_not (wno rfl rfl (.inl (hA701.get 86 _ rfl))) ?_)
           intro a702 hA703
           refine q_step hA703 rfl (does_not (wno rfl rfl (.inl (hA703.get 86 _ rfl))) ?_)
           intro a704 hA705
           refine q_step hA705 rfl (does_not (wno rfl rfl (.inr (hA705.get 90 _ rfl))) ?_)
           intro a706 hA707
           refine q_step hA707 rfl (does_not (wno rfl rfl (.inr (hA707.get 90 _ rfl))) ?_)
           intro a708 hA709
           refine q_step hA709 rfl (does_not (wno rfl rfl (.inr (hA709.get 90 _ rfl))) ?_)
           intro a710 hA711
           refine q_step hA711 rfl (does_not (wno rfl rfl (.inl (hA711.get 86 _ rfl))) ?_)
           intro a712 hA713
           refine q_step hA713 rfl (d_pickF (wn rfl) (hA713.ev rfl) (hA713.ev rfl) ?_)
           intro a714 hA715
           refine q_step hA715 rfl (d_assign (wn rfl) (hA715.ev rfl) ?_)
           intro a716 hA717
           refine q_end ?_
           exact ⟨hA717.cut _ (fm_cons ((hA717.get 2 _ rfl).trans (congrArg Value.bool (by simp [hb601, hb617, hb633]))) fm_nil), b632, m631⟩
         ·skip
          refine ⟨.bool false, he613.trans (ret_bool hb617), ?_⟩
          intro a719 hA720
          refine q_step hA720 rfl (d_pickT (wn rfl) (hA720.ev rfl) (hA720.ev rfl) ?_)
          intro a721 hA722
          refine q_step hA722 rfl (d_move (wn rfl) (hA722.ev rfl) ?_)
          intro a723 hA724
          refine q_step hA724 rfl (does_not (wno rfl rfl (.inl (hA724.get 82 _ rfl))) ?_)
          intro a725 hA726
          refine q_step hA726 rfl (does_not (wno rfl rfl (.inl (hA726.get 82 _ rfl))) ?_)
          intro a727 hA728
          refine q_step hA728 rfl (d_pickF (wn rfl) (hA728.ev rfl) (hA728.ev rfl) ?_)
          intro a729 hA730
          refine q_step hA730 rfl (d_move (wn rfl) (hA730.ev rfl) ?_)
          intro a731 hA732
          refine q_step hA732 rfl (does_not (wno rfl rfl (.inl (hA732.get 86 _ rfl))) ?_)
          intro a733 hA734
          refine q_step hA734 rfl (does_not (wno rfl rfl (.inl (hA734.get 86 _ rfl))) ?_)
          intro a735 hA736
          refine q_step hA736 rfl (does_not (wno rfl rfl (.inl (hA736.get 86 _ rfl))) ?_)
          intro a737 hA738
          refine q_step hA738 rfl (does_not (wno rfl rfl (.inl (hA738.get 86 _ rfl))) ?_)
          intro a739 hA740
          refine q_step hA740 rfl (does_not (wno rfl rfl (.inr (hA740.get 90 _ rfl))) ?_)
          intro a741 hA742
          refine q_step hA742 rfl (does_not (wno rfl rfl (.inr (hA742.get 90 _ rfl))) ?_)
          intro a743 hA744
          refine q_step hA744 rfl (does_not (wno rfl rfl (.inr (hA744.get 90 _ rfl))) ?_)
          intro a745 hA746
          refine q_step hA746 rfl (does_not (wno rfl rfl (.inl (hA746.get 86 _ rfl))) ?_)
          intro a747 hA748
          refine q_step hA748 rfl (d_pickF (wn rfl) (hA748.ev rfl) (hA748.ev rfl) ?_)
          intro a749 hA750
          refine q_step hA750 rfl (d_assign (wn rfl) (hA750.ev rfl) ?_)
          intro a751 hA752
          refine q_end ?_
          exact ⟨hA752.cut _ (fm_cons ((hA752.get 2 _ rfl).trans (congrArg Value.bool (by simp [hb601, hb617]))) fm_nil), b616, m615⟩
        ·skip
         refine ⟨.bool false, he597.trans (ret_bool hb601), ?_⟩
         intro a754 hA755
         refine q_step hA755 rfl (d_move (wn rfl) (hA755.ev rfl) ?_)
         intro a756 hA757
         refine q_step hA757 rfl (does_not (wno rfl rfl (.inl (hA757.get 77 _ rfl))) ?_)
         intro a758 hA759
         refine q_step hA759 rfl (does_not (wno rfl rfl (.inl (hA759.get 77 _ rfl))) ?_)
         intro a760 hA761
         refine q_step hA761 rfl (does_not (wno rfl rfl (.inl (hA761.get 77 _ rfl))) ?_)
         intro a762 hA763
         refine q_step hA763 rfl (d_pickF (wn rfl) (hA763.ev rfl) (hA763.ev rfl) ?_)
         intro a764 hA765
         refine q_step hA765 rfl (d_move (wn rfl) (hA765.ev rfl) ?_)
         intro a766 hA767
         refine q_step hA767 rfl (does_not (wno rfl rfl (.inl (hA767.get 82 _ rfl))) ?_)
         intro a768 hA769
         refine q_step hA769 rfl (does_not (wno rfl rfl (.inl (hA769.get 82 _ rfl))) ?_)
         intro a770 hA771
         refine q_step hA771 rfl (d_pickF (wn rfl) (hA771.ev rfl) (hA771.ev rfl) ?_)
         intro a772 hA773
         refine q_step hA773 rfl (d_move (wn rfl) (hA773.ev rfl) ?_)
         intro a774 hA775
         refine q_step hA775 rfl (does_not (wno rfl rfl (.inl (hA775.get 86 _ rfl))) ?_)
         intro a776 hA777
         refine q_step hA777 rfl (does_not (wno rfl rfl (.inl (hA777.get 86 _ rfl))) ?_)
         intro a778 hA779
         refine q_step hA779 rfl (does_not (wno rfl rfl (.inl (hA779.get 86 _ rfl))) ?_)
         intro a780 hA781
         refine q_step hA781 rfl (does_not (wno rfl rfl (.inl (hA781.get 86 _ rfl))) ?_)
         intro a782 hA783
         refine q_step hA783 rfl (does_not (wno rfl rfl (.inr (hA783.get 90 _ rfl))) ?_)
         intro a784 hA785
         refine q_step hA785 rfl (does_not (wno rfl rfl (.inr (hA785.get 90 _ rfl))) ?_)
         intro a786 hA787
         refine q_step hA787 rfl (does_not (wno rfl rfl (.inr (hA787.get 90 _ rfl))) ?_)
         intro a788 hA789
         refine q_step hA789 rfl (does_not (wno rfl rfl (.inl (hA789.get 86 _ rfl))) ?_)
         intro a790 hA791
         refine q_step hA791 rfl (d_pickF (wn rfl) (hA791.ev rfl) (hA791.ev rfl) ?_)
         intro a792 hA793
         refine q_step hA793 rfl (d_assign (wn rfl) (hA793.ev rfl) ?_)
         intro a794 hA795
         refine q_end ?_
         exact ⟨hA795.cut _ (fm_cons ((hA795.get 2 _ rfl).trans (congrArg Value.bool (by simp [hb601]))) fm_nil), b600, m599⟩
       rintro a589 w590 ⟨hA796, b797, m798⟩
       refine t_norm ?_
       refine wp_ret ?_
       refine i_ret ?_
       refine t_ret ?_
       refine ret1 rfl hA796 (v := (.bool ((regB i.dst) && ((regB i.a) && ((accB i) && ((i.fn == 6) || (i.fn == 1))))))) rfl ?_
       exact ⟨ret_bool (by first | (simp [soundB, hb20, hb59, hb133, hb360, hb512, eq_of_beq hb582, Bool.or_assoc, Bool.and_assoc]; done) | (rw [Bool.eq_iff_iff]; simp [soundB, hb20, hb59, hb133, hb360, hb512, eq_of_beq hb582]; done) | (rw [Bool.eq_iff_iff]; simp [soundB, hb20, hb59, hb133, hb360, hb512, eq_of_beq hb582]; omega) | grind), b797⟩
      ·skip
       have hq799 := ne_of_beq hb582
       refine q_step hA581 rfl (d_bin (wn rfl) (hA581.ev rfl) (hA581.ev rfl) (b_eq _ _ i.op 6 false _ hb582) ?_)
       intro a800 hA801
       refine q_step hA801 rfl (d_assign (wn rfl) (hA801.ev rfl) ?_)
       intro a802 hA803
       refine q_end ?_
       have hA804 : St 113 [(1, (.pointer (some ⟨g3, 0, none⟩))), (2, (.bool false)), (4, (.int .i64 i.op)), (72, (.bool false))] a802 := hA803.cut _ (fm_cons (hA803.get 1 _ rfl) (fm_cons (hA803.get 2 _ rfl) (fm_cons (hA803.get 4 _ rfl) (fm_cons (hA803.get 72 _ rfl) fm_nil))))
       refine t_norm ?_
       refine c_false hA804 rfl ?_
       refine wp_seq ?_
       refine wp_region_lit ?_
       rcases Bool.eq_false_or_eq_true (i.op == 7) with hb805 | hb805
       ·skip
        have hq806 := eq_of_beq hb805
        refine q_step hA804 rfl (d_bin (wn rfl) (hA804.ev rfl) (hA804.ev rfl) (b_eq _ _ i.op 7 true _ hb805) ?_)
        intro a807 hA808
        refine q_step hA808 rfl (d_assign (wn rfl) (hA808.ev rfl) ?_)
        intro a809 hA810
        refine q_end ?_
        have hA811 : St 113 [(1, (.pointer (some ⟨g3, 0, none⟩))), (2, (.bool false)), (4, (.int .i64 i.op)), (96, (.bool true))] a809 := hA810.cut _ (fm_cons (hA810.get 1 _ rfl) (fm_cons (hA810.get 2 _ rfl) (fm_cons (hA810.get 4 _ rfl) (fm_cons (hA810.get 96 _ rfl) fm_nil))))
        refine t_norm ?_
        refine c_true hA811 rfl ?_
        refine wp_seq ?_
        refine join_wp (K := fun a812 w813 => St 113 [(2, (.bool ((fenB i.pred) && (fenB i.succ))))] a812 ∧ Below w.heap.size w w813 ∧ Blk w813 g3 (insC i) 23) ?_ ?_
        ·skip
         refine wp_region_lit ?_
         refine q_step hA811 rfl (d_fieldAddr (wn rfl) (hA811.ev rfl) fo23_13 ?_)
         intro a814 hA815
         refine q_step hA815 rfl (d_load (v := (.int .i64 i.pred)) (wn rfl) (hA815.ev rfl) one3 (m7.cell rfl) ?_)
         intro a816 hA817
         refine q_step hA817 rfl (d_call (wn rfl) ent43 (map1 (hA817.ev rfl)) (isFenced_any i.pred w4) ?_)
         rintro e821 w818 ⟨he820, hG819⟩
         have m822 := m7.grow hG819
         have b823 := below_grow b9 hG819 b9.size
         rcases Bool.eq_false_or_eq_true (fenB i.pred) with hb824 | hb824
         ·skip
          refine ⟨.bool true, he820.trans (ret_bool hb824), ?_⟩
          intro a826 hA827
          refine q_step hA827 rfl (d_move (wn rfl) (hA827.ev rfl) ?_)
          intro a828 hA829
          refine q_step hA829 rfl (d_fieldAddr (wy rfl rfl (hA829.get 101 _ rfl)) (hA829.ev rfl) fo23_14 ?_)
          intro a830 hA831
          refine q_step hA831 rfl (d_load (v := (.int .i64 i.succ)) (wy rfl rfl (hA831.get 101 _ rfl)) (hA831.ev rfl) one3 (m822.cell rfl) ?_)
          intro a832 hA833
          refine q_step hA833 rfl (d_call (wy rfl rfl (hA833.get 101 _ rfl)) ent43 (map1 (hA833.ev rfl)) (isFenced_any i.succ w818) ?_)
          rintro e837 w834 ⟨he836, hG835⟩
          have m838 := m822.grow hG835
          have b839 := below_grow b823 hG835 b823.size
          rcases Bool.eq_false_or_eq_true (fenB i.succ) with hb840 | hb840
          ·skip
           refine ⟨.bool true, he836.trans (ret_bool hb840), ?_⟩
           intro a842 hA843
           refine q_step hA843 rfl (d_pickT (wn rfl) (hA843.ev rfl) (hA843.ev rfl) ?_)
           intro a844 hA845
           refine q_step hA845 rfl (d_assign (wn rfl) (hA845.ev rfl) ?_)
           intro a846 hA847
           refine q_end ?_
           exact ⟨hA847.cut _ (fm_cons ((hA847.get 2 _ rfl).trans (congrArg Value.bool (by simp [hb824, hb840]))) fm_nil), b839, m838⟩
          ·skip
           refine ⟨.bool false, he836.trans (ret_bool hb840), ?_⟩
           intro a849 hA850
           refine q_step hA850 rfl (d_pickT (wn rfl) (hA850.ev rfl) (hA850.ev rfl) ?_)
           intro a851 hA852
           refine q_step hA852 rfl (d_assign (wn rfl) (hA852.ev rfl) ?_)
           intro a853 hA854
           refine q_end ?_
           exact ⟨hA854.cut _ (fm_cons ((hA854.get 2 _ rfl).trans (congrArg Value.bool (by simp [hb824, hb840]))) fm_nil), b839, m838⟩
         ·skip
          refine ⟨.bool false, he820.trans (ret_bool hb824), ?_⟩
          intro a856 hA857
          refine q_step hA857 rfl (d_move (wn rfl) (hA857.ev rfl) ?_)
          intro a858 hA859
          refine q_step hA859 rfl (does_not (wno rfl rfl (.inl (hA859.get 101 _ rfl))) ?_)
          intro a860 hA861
          refine q_step hA861 rfl (does_not (wno rfl rfl (.inl (hA861.get 101 _ rfl))) ?_)
          intro a862 hA863
          refine q_step hA863 rfl (does_not (wno rfl rfl (.inl (hA863.get 101 _ rfl))) ?_)
          intro a864 hA865
          refine q_step hA865 rfl (d_pickF (wn rfl) (hA865.ev rfl) (hA865.ev rfl) ?_)
          intro a866 hA867
          refine q_step hA867 rfl (d_assign (wn rfl) (hA867.ev rfl) ?_)
          intro a868 hA869
          refine q_end ?_
          exact ⟨hA869.cut _ (fm_cons ((hA869.get 2 _ rfl).trans (congrArg Value.bool (by simp [hb824]))) fm_nil), b823, m822⟩
        rintro a812 w813 ⟨hA870, b871, m872⟩
        refine t_norm ?_
        refine wp_ret ?_
        refine i_ret ?_
        refine t_ret ?_
        refine ret1 rfl hA870 (v := (.bool ((fenB i.pred) && (fenB i.succ)))) rfl ?_
        exact ⟨ret_bool (by first | (simp [soundB, hb20, hb59, hb133, hb360, hb512, hb582, eq_of_beq hb805, Bool.or_assoc, Bool.and_assoc]; done) | (rw [Bool.eq_iff_iff]; simp [soundB, hb20, hb59, hb133, hb360, hb512, hb582, eq_of_beq hb805]; done) | (rw [Bool.eq_iff_iff]; simp [soundB, hb20, hb59, hb133, hb360, hb512, hb582, eq_of_beq hb805]; omega) | grind), b871⟩
       ·skip
        have hq873 := ne_of_beq hb805
        refine q_step hA804 rfl (d_bin (wn rfl) (hA804.ev rfl) (hA804.ev rfl) (b_eq _ _ i.op 7 false _ hb805) ?_)
        intro a874 hA875
        refine q_step hA875 rfl (d_assign (wn rfl) (hA875.ev rfl) ?_)
        intro a876 hA877
        refine q_end ?_
        have hA878 : St 113 [(1, (.pointer (some ⟨g3, 0, none⟩))), (2, (.bool false)), (4, (.int .i64 i.op)), (96, (.bool false))] a876 := hA877.cut _ (fm_cons (hA877.get 1 _ rfl) (fm_cons (hA877.get 2 _ rfl) (fm_cons (hA877.get 4 _ rfl) (fm_cons (hA877.get 96 _ rfl) fm_nil))))
        refine t_norm ?_
        refine c_false hA878 rfl ?_
        refine wp_seq ?_
        refine wp_region_lit ?_
        rcases Bool.eq_false_or_eq_true (i.op == 8) with hb879 | hb879
        ·skip
         have hq880 := eq_of_beq hb879
         refine q_step hA878 rfl (d_bin (wn rfl) (hA878.ev rfl) (hA878.ev rfl) (b_eq _ _ i.op 8 true _ hb879) ?_)
         intro a881 hA882
         refine q_step hA882 rfl (d_assign (wn rfl) (hA882.ev rfl) ?_)
         intro a883 hA884
         refine q_end ?_
         have hA885 : St 113 [(1, (.pointer (some ⟨g3, 0, none⟩))), (2, (.bool false)), (4, (.int .i64 i.op)), (106, (.bool true))] a883 := hA884.cut _ (fm_cons (hA884.get 1 _ rfl) (fm_cons (hA884.get 2 _ rfl) (fm_cons (hA884.get 4 _ rfl) (fm_cons (hA884.get 106 _ rfl) fm_nil))))
         refine t_norm ?_
         refine c_true hA885 rfl ?_
         refine wp_seq ?_
         refine wp_region_lit ?_
         refine q_step hA885 rfl (d_assign (wn rfl) (hA885.ev rfl) ?_)
         intro a886 hA887
         refine q_end ?_
         have hA888 : St 113 [(2, (.bool true))] a886 := hA887.cut _ (fm_cons (hA887.get 2 _ rfl) fm_nil)
         refine t_norm ?_
         refine wp_ret ?_
         refine i_ret ?_
         refine t_ret ?_
         refine ret1 rfl hA888 (v := (.bool true)) rfl ?_
         exact ⟨ret_bool (by first | (simp [soundB, hb20, hb59, hb133, hb360, hb512, hb582, hb805, eq_of_beq hb879, Bool.or_assoc, Bool.and_assoc]; done) | (rw [Bool.eq_iff_iff]; simp [soundB, hb20, hb59, hb133, hb360, hb512, hb582, hb805, eq_of_beq hb879]; done) | (rw [Bool.eq_iff_iff]; simp [soundB, hb20, hb59, hb133, hb360, hb512, hb582, hb805, eq_of_beq hb879]; omega) | grind), b9⟩
        ·skip
         have hq889 := ne_of_beq hb879
         refine q_step hA878 rfl (d_bin (wn rfl) (hA878.ev rfl) (hA878.ev rfl) (b_eq _ _ i.op 8 false _ hb879) ?_)
         intro a890 hA891
         refine q_step hA891 rfl (d_assign (wn rfl) (hA891.ev rfl) ?_)
         intro a892 hA893
         refine q_end ?_
         have hA894 : St 113 [(1, (.pointer (some ⟨g3, 0, none⟩))), (2, (.bool false)), (4, (.int .i64 i.op)), (106, (.bool false))] a892 := hA893.cut _ (fm_cons (hA893.get 1 _ rfl) (fm_cons (hA893.get 2 _ rfl) (fm_cons (hA893.get 4 _ rfl) (fm_cons (hA893.get 106 _ rfl) fm_nil))))
         refine t_norm ?_
         refine c_false hA894 rfl ?_
         refine wp_seq ?_
         refine wp_region_lit ?_
         rcases Bool.eq_false_or_eq_true (i.op == 9) with hb895 | hb895
         ·skip
          have hq896 := eq_of_beq hb895
          refine q_step hA894 rfl (d_bin (wn rfl) (hA894.ev rfl) (hA894.ev rfl) (b_eq _ _ i.op 9 true _ hb895) ?_)
          intro a897 hA898
          refine q_step hA898 rfl (d_assign (wn rfl) (hA898.ev rfl) ?_)
          intro a899 hA900
          refine q_end ?_
          have hA901 : St 113 [(1, (.pointer (some ⟨g3, 0, none⟩))), (2, (.bool false)), (108, (.bool true))] a899 := hA900.cut _ (fm_cons (hA900.get 1 _ rfl) (fm_cons (hA900.get 2 _ rfl) (fm_cons (hA900.get 108 _ rfl) fm_nil)))
          refine t_norm ?_
          refine c_true hA901 rfl ?_
          refine wp_seq ?_
          refine join_wp (K := fun a902 w903 => St 113 [(2, (.bool (regB i.a)))] a902 ∧ Below w.heap.size w w903 ∧ Blk w903 g3 (insC i) 23) ?_ ?_
          ·skip
           refine wp_region_lit ?_
           refine q_step hA901 rfl (d_fieldAddr (wn rfl) (hA901.ev rfl) fo23_2 ?_)
           intro a904 hA905
           refine q_step hA905 rfl (d_load (v := (.int .i64 i.a)) (wn rfl) (hA905.ev rfl) one3 (m7.cell rfl) ?_)
           intro a906 hA907
           refine q_step hA907 rfl (d_call (wn rfl) ent40 (map1 (hA907.ev rfl)) (isReg_any i.a w4) ?_)
           rintro e911 w908 ⟨he910, hG909⟩
           have m912 := m7.grow hG909
           have b913 := below_grow b9 hG909 b9.size
           rcases Bool.eq_false_or_eq_true (regB i.a) with hb914 | hb914
           ·skip
            refine ⟨.bool true, he910.trans (ret_bool hb914), ?_⟩
            intro a916 hA917
            refine q_step hA917 rfl (d_assign (wn rfl) (hA917.ev rfl) ?_)
            intro a918 hA919
            refine q_end ?_
            exact ⟨hA919.cut _ (fm_cons ((hA919.get 2 _ rfl).trans (congrArg Value.bool (by simp [hb914]))) fm_nil), b913, m912⟩
           ·skip
            refine ⟨.bool false, he910.trans (ret_bool hb914), ?_⟩
            intro a921 hA922
            refine q_step hA922 rfl (d_assign (wn rfl) (hA922.ev rfl) ?_)
            intro a923 hA924
            refine q_end ?_
            exact ⟨hA924.cut _ (fm_cons ((hA924.get 2 _ rfl).trans (congrArg Value.bool (by simp [hb914]))) fm_nil), b913, m912⟩
          rintro a902 w903 ⟨hA925, b926, m927⟩
          refine t_norm ?_
          refine wp_ret ?_
          refine i_ret ?_
          refine t_ret ?_
          refine ret1 rfl hA925 (v := (.bool (regB i.a))) rfl ?_
          exact ⟨ret_bool (by first | (simp [soundB, hb20, hb59, hb133, hb360, hb512, hb582, hb805, hb879, eq_of_beq hb895, Bool.or_assoc, Bool.and_assoc]; done) | (rw [Bool.eq_iff_iff]; simp [soundB, hb20, hb59, hb133, hb360, hb512, hb582, hb805, hb879, eq_of_beq hb895]; done) | (rw [Bool.eq_iff_iff]; simp [soundB, hb20, hb59, hb133, hb360, hb512, hb582, hb805, hb879, eq_of_beq hb895]; omega) | grind), b926⟩
         ·skip
          have hq928 := ne_of_beq hb895
          refine q_step hA894 rfl (d_bin (wn rfl) (hA894.ev rfl) (hA894.ev rfl) (b_eq _ _ i.op 9 false _ hb895) ?_)
          intro a929 hA930
          refine q_step hA930 rfl (d_assign (wn rfl) (hA930.ev rfl) ?_)
          intro a931 hA932
          refine q_end ?_
          have hA933 : St 113 [(1, (.pointer (some ⟨g3, 0, none⟩))), (2, (.bool false)), (108, (.bool false))] a931 := hA932.cut _ (fm_cons (hA932.get 1 _ rfl) (fm_cons (hA932.get 2 _ rfl) (fm_cons (hA932.get 108 _ rfl) fm_nil)))
          refine t_norm ?_
          refine c_false hA933 rfl ?_
          refine wp_skip ?_
          refine i_norm ?_
          refine t_norm ?_
          refine wp_seq ?_
          refine wp_region_lit ?_
          refine q_step hA933 rfl (d_assign (wn rfl) (hA933.ev rfl) ?_)
          intro a934 hA935
          refine q_end ?_
          have hA936 : St 113 [(2, (.bool false))] a934 := hA935.cut _ (fm_cons (hA935.get 2 _ rfl) fm_nil)
          refine t_norm ?_
          refine wp_ret ?_
          refine ret1 rfl hA936 (v := (.bool false)) rfl ?_
          exact ⟨ret_bool (by first | (simp [soundB, hb20, hb59, hb133, hb360, hb512, hb582, hb805, hb879, hb895, Bool.or_assoc, Bool.and_assoc]; done) | (rw [Bool.eq_iff_iff]; simp [soundB, hb20, hb59, hb133, hb360, hb512, hb582, hb805, hb879, hb895]; done) | (rw [Bool.eq_iff_iff]; simp [soundB, hb20, hb59, hb133, hb360, hb512, hb582, hb805, hb879, hb895]; omega) | grind), b9⟩
end Go.Proofs.Ytlhompedcphnnaa
/- Contracts of functions on single instructions. -/
namespace Go.Proofs.Ytlhompedcphnnaa
open Go.RowKit
set_option linter.unusedSimpArgs false
set_option linter.unusedVariables false
set_option maxHeartbeats 4000000 in
set_option maxRecDepth 4000 in
theorem right_any (i : Ins) (p q : Int) (w : World) : Calls Try.prog 9 #[.agg (insC i), .int .i64 p, .int .i64 q] w fun e w' => e = .returned (.int .i64 (rightR i p q)) ∧ Grow w w' := by
 have b0 : Below w.heap.size w w := Below.refl _ _
 refine enter (n := 30) Try.func9 rfl rfl (Nat.le_of_ble_eq_true rfl) ?_
 intro a1 hA2
 refine wp_seq ?_
 refine wp_region_lit ?_
 refine q_step hA2 rfl (d_box (wn rfl) (hA2.ev rfl) ?_)
 intro g3 w4 eg5 hG6 (m7 : Blk w4 g3 (insC i) 23)
 have ge8 : w.heap.size ≤ g3 := eg5 ▸ b0.size
 have b9 := below_grow b0 hG6 b0.size
 intro a10 hA11
 refine q_step hA11 rfl (d_assign (wn rfl) (hA11.ev rfl) ?_)
 intro a12 hA13
 refine q_end ?_
 have hA14 : St 30 [(1, (.int .i64 p)), (2, (.int .i64 q)), (3, (.pointer (some ⟨g3, 0, none⟩))), (6, (.int .i64 0))] a12 := hA13.cut _ (fm_cons (hA13.get 1 _ rfl) (fm_cons (hA13.get 2 _ rfl) (fm_cons (hA13.get 3 _ rfl) (fm_cons (hA13.get 6 _ rfl) fm_nil))))
 refine t_norm ?_
 refine wp_seq ?_
 refine wp_seq ?_
 rcases Bool.eq_false_or_eq_true (insEq i (plainF i)) with hb15 | hb15
 ·skip
  rcases Bool.eq_false_or_eq_true (soundB i) with hb17 | hb17
  ·skip
   have hA19 : St 30 [(1, (.int .i64 p)), (2, (.int .i64 q)), (3, (.pointer (some ⟨g3, 0, none⟩))), (6, (.int .i64 0))] a12 := hA14.cut _ (fm_cons (hA14.get 1 _ rfl) (fm_cons (hA14.get 2 _ rfl) (fm_cons (hA14.get 3 _ rfl) (fm_cons (hA14.get 6 _ rfl) fm_nil))))
   let M20 : Nat → Option (Array Value) := fun _ => none
   have hM20 : M20 = fun _ => none := rfl
   clear_value M20
   have hM21 : M20 g3 = none := (congrFun hM20 g3)
   have hM20B : ∀ k, k < w.heap.size → M20 k = none := (fun k hk => (congrFun hM20 k))
   refine drawn (S := SM M20) (tabL [cv (.agg (insC i)), cv (.agg (insC i)), cv (.agg (insC (plainF i))), cv (.bool false), cv (.bool false), cv (.agg (insC i)), cv (.bool true), cv (.bool false), cv (.bool false)]) mixedY SM.refl SM.trans SM.drew hA19 (by kernel_rfl) ?_ ?_
   ·skip
    refine each_cons (fun x y hS hT hk => d_loadRow (cs := (insC i)) (wn rfl) (hT.ev rfl) row23 (Blk.sm (w := w4.drew) m7 hS hM21) ⟨SM.refl _, rfl⟩) ?_
    refine each_cons (fun x y hS hT hk => d_loadRow (cs := (insC i)) (wn rfl) (hT.ev rfl) row23 (Blk.sm (w := w4.drew) m7 hS hM21) ⟨SM.refl _, rfl⟩) ?_
    refine each_cons (fun x y hS hT hk => d_call (wn rfl) ent28 (map1 (show x.eval _ = (.agg (insC i)) from (hk 1 rfl))) (plain_any i y) (fun _ _ ⟨he, hG⟩ => ⟨(.agg (insC (plainF i))), he, SM.grow hG, rfl⟩)) ?_
    refine each_cons (fun x y hS hT hk => d_bin (u := .agg (insC i)) (v := .agg (insC (plainF i))) (wn rfl) (hk 0 rfl) (hk 2 rfl) (ne_ins i (plainF i) _ _ _ false (notof hb15)) ⟨SM.refl _, rfl⟩) ?_
    refine each_cons (fun x y hS hT hk => d_move (wn rfl) (hk 3 rfl) ⟨SM.refl _, rfl⟩) ?_
    refine each_cons (fun x y hS hT hk => d_loadRow (cs := (insC i)) (wy rfl rfl (hk 4 rfl)) (hT.ev rfl) row23 (Blk.sm (w := w4.drew) m7 hS hM21) ⟨SM.refl _, rfl⟩) ?_
    refine each_cons (fun x y hS hT hk => d_call (wy rfl rfl (hk 4 rfl)) ent29 (map1 (show x.eval _ = (.agg (insC i)) from (hk 5 rfl))) (sound_any i y) (fun _ _ ⟨he, hG⟩ => ⟨(.bool true), (he.trans (ret_bool hb17)), SM.grow hG, rfl⟩)) ?_
    refine each_cons (fun x y hS hT hk => d_not (wy rfl rfl (hk 4 rfl)) (hk 6 rfl) ⟨SM.refl _, rfl⟩) ?_
    refine each_cons (fun x y hS hT hk => d_pickF (wn rfl) (hk 4 rfl) (hk 7 rfl) ⟨SM.refl _, rfl⟩) ?_
    exact each_nil
   intro f22 a23 w24 hS25 hC26 hA27
   have hA28 : St 30 [(1, (.int .i64 p)), (2, (.int .i64 q)), (3, (.pointer (some ⟨g3, 0, none⟩))), (6, (.int .i64 0)), (15, (.bool false))] a23 := hA27.cut _ (fm_cons (hA27.get 1 _ rfl) (fm_cons (hA27.get 2 _ rfl) (fm_cons (hA27.get 3 _ rfl) (fm_cons (hA27.get 6 _ rfl) (fm_cons ((hA27.get 15 _ rfl).trans (hC26 8 (Nat.le_of_ble_eq_true rfl))) fm_nil)))))
   have m29 := m7.sm hS25 hM21
   have b30 := hS25.below b9 b9.size hM20B
   refine t_norm ?_
   refine c_false hA28 rfl ?_
   refine wp_skip ?_
   refine t_norm ?_
   refine wp_seq ?_
   refine wp_seq ?_
   refine wp_region_lit ?_
   refine q_step hA28 rfl (d_loadRow (cs := (insC i)) (wn rfl) (hA28.ev rfl) row23 m29 ?_)
   intro a31 hA32
   refine q_step hA32 rfl (d_call (wn rfl) ent30 (map1 (hA32.ev rfl)) (isBranch_any i w24) ?_)
   rintro e36 w33 ⟨he35, hG34⟩
   have m37 := m29.grow hG34
   have b38 := below_grow b30 hG34 b30.size
   rcases Bool.eq_false_or_eq_true (i.op == 9) with hb39 | hb39
   ·skip
    have hq40 := eq_of_beq hb39
    refine ⟨.bool true, he35.trans (ret_bool hb39), ?_⟩
    intro a41 hA42
    refine q_step hA42 rfl (d_move (wn rfl) (hA42.ev rfl) ?_)
    intro a43 hA44
    refine q_step hA44 rfl (d_fieldAddr (wy rfl rfl (hA44.get 18 _ rfl)) (hA44.ev rfl) fo23_15 ?_)
    intro a45 hA46
    refine q_step hA46 rfl (d_load (v := (.int .i64 i.to)) (wy rfl rfl (hA46.get 18 _ rfl)) (hA46.ev rfl) one3 (m37.cell rfl) ?_)
    intro a47 hA48
    refine q_step hA48 rfl (d_move (wy rfl rfl (hA48.get 18 _ rfl)) (hA48.ev rfl) ?_)
    intro a49 hA50
    rcases Bool.eq_false_or_eq_true (decide (i.to ≤ p)) with hb51 | hb51
    ·skip
     have hq52 := of_decide_eq_true hb51
     refine q_step hA50 rfl (d_bin (wy rfl rfl (hA50.get 18 _ rfl)) (hA50.ev rfl) (hA50.ev rfl) (b_le _ _ i.to p true _ hb51) ?_)
     intro a53 hA54
     refine q_step hA54 rfl (d_move (wy rfl rfl (hA54.get 18 _ rfl)) (hA54.ev rfl) ?_)
     intro a55 hA56
     refine q_step hA56 rfl (does_not (wno rfl rfl (.inl (hA56.get 23 _ rfl))) ?_)
     intro a57 hA58
     refine q_step hA58 rfl (does_not (wno rfl rfl (.inl (hA58.get 23 _ rfl))) ?_)
     intro a59 hA60
     refine q_step hA60 rfl (does_not (wno rfl rfl (.inl (hA60.get 23 _ rfl))) ?_)
     intro a61 hA62
     refine q_step hA62 rfl (does_not (wno rfl rfl (.inl (hA62.get 23 _ rfl))) ?_)
     intro a63 hA64
     refine q_step hA64 rfl (d_pickT (wy rfl rfl (hA64.get 18 _ rfl)) (hA64.ev rfl) (hA64.ev rfl) ?_)
     intro a65 hA66
     refine q_step hA66 rfl (d_pickT (wn rfl) (hA66.ev rfl) (hA66.ev rfl) ?_)
     intro a67 hA68
     refine q_end ?_
     have hA69 : St 30 [(6, (.int .i64 0)), (29, (.bool true))] a67 := hA68.cut _ (fm_cons (hA68.get 6 _ rfl) (fm_cons (hA68.get 29 _ rfl) fm_nil))
     refine t_norm ?_
     refine c_true hA69 rfl ?_
     refine wp_seq ?_
     refine wp_region_lit ?_
     refine q_step hA69 rfl (d_assign (wn rfl) (hA69.ev rfl) ?_)
     intro a70 hA71
     refine q_end ?_
     have hA72 : St 30 [(6, (.int .i64 35))] a70 := hA71.cut _ (fm_cons (hA71.get 6 _ rfl) fm_nil)
     refine t_norm ?_
     refine wp_ret ?_
     refine t_ret ?_
     refine ret1 rfl hA72 (v := (.int .i64 35)) rfl ?_
     exact ⟨ret_int (by simp [rightR, hb15, hb17, eq_of_beq hb39, hb51]), b38⟩
    ·skip
     have hq73 := of_decide_eq_false hb51
     refine q_step hA50 rfl (d_bin (wy rfl rfl (hA50.get 18 _ rfl)) (hA50.ev rfl) (hA50.ev rfl) (b_le _ _ i.to p false _ hb51) ?_)
     intro a74 hA75
     refine q_step hA75 rfl (d_move (wy rfl rfl (hA75.get 18 _ rfl)) (hA75.ev rfl) ?_)
     intro a76 hA77
     refine q_step hA77 rfl (d_fieldAddr (wy rfl rfl (hA77.get 23 _ rfl)) (hA77.ev rfl) fo23_15 ?_)
     intro a78 hA79
     refine q_step hA79 rfl (d_load (v := (.int .i64 i.to)) (wy rfl rfl (hA79.get 23 _ rfl)) (hA79.ev rfl) one3 (m37.cell rfl) ?_)
     intro a80 hA81
     refine q_step hA81 rfl (d_move (wy rfl rfl (hA81.get 23 _ rfl)) (hA81.ev rfl) ?_)
     intro a82 hA83
     rcases Bool.eq_false_or_eq_true (decide (i.to > q)) with hb84 | hb84
     ·skip
      have hq85 := of_decide_eq_true hb84
      refine q_step hA83 rfl (d_bin (wy rfl rfl (hA83.get 23 _ rfl)) (hA83.ev rfl) (hA83.ev rfl) (b_gt _ _ i.to q true _ hb84) ?_)
      intro a86 hA87
      refine q_step hA87 rfl (d_pickF (wy rfl rfl (hA87.get 18 _ rfl)) (hA87.ev rfl) (hA87.ev rfl) ?_)
      intro a88 hA89
      refine q_step hA89 rfl (d_pickT (wn rfl) (hA89.ev rfl) (hA89.ev rfl) ?_)
      intro a90 hA91
      refine q_end ?_
      have hA92 : St 30 [(6, (.int .i64 0)), (29, (.bool true))] a90 := hA91.cut _ (fm_cons (hA91.get 6 _ rfl) (fm_cons (hA91.get 29 _ rfl) fm_nil))
      refine t_norm ?_
      refine c_true hA92 rfl ?_
      refine wp_seq ?_
      refine wp_region_lit ?_
      refine q_step hA92 rfl (d_assign (wn rfl) (hA92.ev rfl) ?_)
      intro a93 hA94
      refine q_end ?_
      have hA95 : St 30 [(6, (.int .i64 35))] a93 := hA94.cut _ (fm_cons (hA94.get 6 _ rfl) fm_nil)
      refine t_norm ?_
      refine wp_ret ?_
      refine t_ret ?_
      refine ret1 rfl hA95 (v := (.int .i64 35)) rfl ?_
      exact ⟨ret_int (by simp [rightR, hb15, hb17, eq_of_beq hb39, hb51, hb84]), b38⟩
     ·skip
      have hq96 := of_decide_eq_false hb84
      refine q_step hA83 rfl (d_bin (wy rfl rfl (hA83.get 23 _ rfl)) (hA83.ev rfl) (hA83.ev rfl) (b_gt _ _ i.to q false _ hb84) ?_)
      intro a97 hA98
      refine q_step hA98 rfl (d_pickF (wy rfl rfl (hA98.get 18 _ rfl)) (hA98.ev rfl) (hA98.ev rfl) ?_)
      intro a99 hA100
      refine q_step hA100 rfl (d_pickT (wn rfl) (hA100.ev rfl) (hA100.ev rfl) ?_)
      intro a101 hA102
      refine q_end ?_
      have hA103 : St 30 [(6, (.int .i64 0)), (29, (.bool false))] a101 := hA102.cut _ (fm_cons (hA102.get 6 _ rfl) (fm_cons (hA102.get 29 _ rfl) fm_nil))
      refine t_norm ?_
      refine c_false hA103 rfl ?_
      refine wp_skip ?_
      refine t_norm ?_
      refine wp_seq ?_
      refine wp_region_lit ?_
      refine q_step hA103 rfl (d_assign (wn rfl) (hA103.ev rfl) ?_)
      intro a104 hA105
      refine q_end ?_
      have hA106 : St 30 [(6, (.int .i64 0))] a104 := hA105.cut _ (fm_cons (hA105.get 6 _ rfl) fm_nil)
      refine t_norm ?_
      refine wp_ret ?_
      refine ret1 rfl hA106 (v := (.int .i64 0)) rfl ?_
      exact ⟨ret_int (by simp [rightR, hb15, hb17, eq_of_beq hb39, hb51, hb84]), b38⟩
   ·skip
    have hq107 := ne_of_beq hb39
    refine ⟨.bool false, he35.trans (ret_bool hb39), ?_⟩
    intro a108 hA109
    refine q_step hA109 rfl (d_move (wn rfl) (hA109.ev rfl) ?_)
    intro a110 hA111
    refine q_step hA111 rfl (does_not (wno rfl rfl (.inl (hA111.get 18 _ rfl))) ?_)
    intro a112 hA113
    refine q_step hA113 rfl (does_not (wno rfl rfl (.inl (hA113.get 18 _ rfl))) ?_)
    intro a114 hA115
    refine q_step hA115 rfl (does_not (wno rfl rfl (.inl (hA115.get 18 _ rfl))) ?_)
    intro a116 hA117
    refine q_step hA117 rfl (does_not (wno rfl rfl (.inl (hA117.get 18 _ rfl))) ?_)
    intro a118 hA119
    refine q_step hA119 rfl (does_not (wno rfl rfl (.inl (hA119.get 18 _ rfl))) ?_)
    intro a120 hA121
    refine q_step hA121 rfl (does_not (wno rfl rfl (.inr (hA121.get 23 _ rfl))) ?_)
    intro a122 hA123
    refine q_step hA123 rfl (does_not (wno rfl rfl (.inr (hA123.get 23 _ rfl))) ?_)
    intro a124 hA125
    refine q_step hA125 rfl (does_not (wno rfl rfl (.inr (hA125.get 23 _ rfl))) ?_)
    intro a126 hA127
    refine q_step hA127 rfl (does_not (wno rfl rfl (.inr (hA127.get 23 _ rfl))) ?_)
    intro a128 hA129
    refine q_step hA129 rfl (does_not (wno rfl rfl (.inl (hA129.get 18 _ rfl))) ?_)
    intro a130 hA131
    refine q_step hA131 rfl (d_pickF (wn rfl) (hA131.ev rfl) (hA131.ev rfl) ?_)
    intro a132 hA133
    refine q_end ?_
    have hA134 : St 30 [(6, (.int .i64 0)), (29, (.bool false))] a132 := hA133.cut _ (fm_cons (hA133.get 6 _ rfl) (fm_cons (hA133.get 29 _ rfl) fm_nil))
    refine t_norm ?_
    refine c_false hA134 rfl ?_
    refine wp_skip ?_
    refine t_norm ?_
    refine wp_seq ?_
    refine wp_region_lit ?_
    refine q_step hA134 rfl (d_assign (wn rfl) (hA134.ev rfl) ?_)
    intro a135 hA136
    refine q_end ?_
    have hA137 : St 30 [(6, (.int .i64 0))] a135 := hA136.cut _ (fm_cons (hA136.get 6 _ rfl) fm_nil)
    refine t_norm ?_
    refine wp_ret ?_
    refine ret1 rfl hA137 (v := (.int .i64 0)) rfl ?_
    exact ⟨ret_int (by simp [rightR, hb15, hb17, hb39]), b38⟩
  ·skip
   have hA139 : St 30 [(1, (.int .i64 p)), (2, (.int .i64 q)), (3, (.pointer (some ⟨g3, 0, none⟩))), (6, (.int .i64 0))] a12 := hA14.cut _ (fm_cons (hA14.get 1 _ rfl) (fm_cons (hA14.get 2 _ rfl) (fm_cons (hA14.get 3 _ rfl) (fm_cons (hA14.get 6 _ rfl) fm_nil))))
   let M140 : Nat → Option (Array Value) := fun _ => none
   have hM140 : M140 = fun _ => none := rfl
   clear_value M140
   have hM141 : M140 g3 = none := (congrFun hM140 g3)
   have hM140B : ∀ k, k < w.heap.size → M140 k = none := (fun k hk => (congrFun hM140 k))
   refine drawn (S := SM M140) (tabL [cv (.agg (insC i)), cv (.agg (insC i)), cv (.agg (insC (plainF i))), cv (.bool false), cv (.bool false), cv (.agg (insC i)), cv (.bool false), cv (.bool true), cv (.bool true)]) mixedY SM.refl SM.trans SM.drew hA139 (by kernel_rfl) ?_ ?_
   ·skip
    refine each_cons (fun x y hS hT hk => d_loadRow (cs := (insC i)) (wn rfl) (hT.ev rfl) row23 (Blk.sm (w := w4.drew) m7 hS hM141) ⟨SM.refl _, rfl⟩) ?_
    refine each_cons (fun x y hS hT hk => d_loadRow (cs := (insC i)) (wn rfl) (hT.ev rfl) row23 (Blk.sm (w := w4.drew) m7 hS hM141) ⟨SM.refl _, rfl⟩) ?_
    refine each_cons (fun x y hS hT hk => d_call (wn rfl) ent28 (map1 (show x.eval _ = (.agg (insC i)) from (hk 1 rfl))) (plain_any i y) (fun _ _ ⟨he, hG⟩ => ⟨(.agg (insC (plainF i))), he, SM.grow hG, rfl⟩)) ?_
    refine each_cons (fun x y hS hT hk => d_bin (u := .agg (insC i)) (v := .agg (insC (plainF i))) (wn rfl) (hk 0 rfl) (hk 2 rfl) (ne_ins i (plainF i) _ _ _ false (notof hb15)) ⟨SM.refl _, rfl⟩) ?_
    refine each_cons (fun x y hS hT hk => d_move (wn rfl) (hk 3 rfl) ⟨SM.refl _, rfl⟩) ?_
    refine each_cons (fun x y hS hT hk => d_loadRow (cs := (insC i)) (wy rfl rfl (hk 4 rfl)) (hT.ev rfl) row23 (Blk.sm (w := w4.drew) m7 hS hM141) ⟨SM.refl _, rfl⟩) ?_
    refine each_cons (fun x y hS hT hk => d_call (wy rfl rfl (hk 4 rfl)) ent29 (map1 (show x.eval _ = (.agg (insC i)) from (hk 5 rfl))) (sound_any i y) (fun _ _ ⟨he, hG⟩ => ⟨(.bool false), (he.trans (ret_bool hb17)), SM.grow hG, rfl⟩)) ?_
    refine each_cons (fun x y hS hT hk => d_not (wy rfl rfl (hk 4 rfl)) (hk 6 rfl) ⟨SM.refl _, rfl⟩) ?_
    refine each_cons (fun x y hS hT hk => d_pickF (wn rfl) (hk 4 rfl) (hk 7 rfl) ⟨SM.refl _, rfl⟩) ?_
    exact each_nil
   intro f142 a143 w144 hS145 hC146 hA147
   have hA148 : St 30 [(1, (.int .i64 p)), (2, (.int .i64 q)), (3, (.pointer (some ⟨g3, 0, none⟩))), (6, (.int .i64 0)), (15, (.bool true))] a143 := hA147.cut _ (fm_cons (hA147.get 1 _ rfl) (fm_cons (hA147.get 2 _ rfl) (fm_cons (hA147.get 3 _ rfl) (fm_cons (hA147.get 6 _ rfl) (fm_cons ((hA147.get 15 _ rfl).trans (hC146 8 (Nat.le_of_ble_eq_true rfl))) fm_nil)))))
   have m149 := m7.sm hS145 hM141
   have b150 := hS145.below b9 b9.size hM140B
   refine t_norm ?_
   refine c_true hA148 rfl ?_
   refine wp_seq ?_
   refine wp_region_lit ?_
   refine q_step hA148 rfl (d_assign (wn rfl) (hA148.ev rfl) ?_)
   intro a151 hA152
   refine q_end ?_
   have hA153 : St 30 [(1, (.int .i64 p)), (2, (.int .i64 q)), (3, (.pointer (some ⟨g3, 0, none⟩))), (6, (.int .i64 34))] a151 := hA152.cut _ (fm_cons (hA152.get 1 _ rfl) (fm_cons (hA152.get 2 _ rfl) (fm_cons (hA152.get 3 _ rfl) (fm_cons (hA152.get 6 _ rfl) fm_nil))))
   refine t_norm ?_
   refine wp_ret ?_
   refine t_ret ?_
   refine ret1 rfl hA153 (v := (.int .i64 34)) rfl ?_
   exact ⟨ret_int (by simp [rightR, hb15, hb17]), b150⟩
 ·skip
  have hA155 : St 30 [(1, (.int .i64 p)), (2, (.int .i64 q)), (3, (.pointer (some ⟨g3, 0, none⟩))), (6, (.int .i64 0))] a12 := hA14.cut _ (fm_cons (hA14.get 1 _ rfl) (fm_cons (hA14.get 2 _ rfl) (fm_cons (hA14.get 3 _ rfl) (fm_cons (hA14.get 6 _ rfl) fm_nil))))
  let M156 : Nat → Option (Array Value) := fun _ => none
  have hM156 : M156 = fun _ => none := rfl
  clear_value M156
  have hM157 : M156 g3 = none := (congrFun hM156 g3)
  have hM156B : ∀ k, k < w.heap.size → M156 k = none := (fun k hk => (congrFun hM156 k))
  refine drawn (S := SM M156) (tabL [cv (.agg (insC i)), cv (.agg (insC i)), cv (.agg (insC (plainF i))), cv (.bool true), cv (.bool true), cv undef, cv undef, cv undef, cv (.bool true)]) mixedY SM.refl SM.trans SM.drew hA155 (by kernel_rfl) ?_ ?_
  ·skip
   refine each_cons (fun x y hS hT hk => d_loadRow (cs := (insC i)) (wn rfl) (hT.ev rfl) row23 (Blk.sm (w := w4.drew) m7 hS hM157) ⟨SM.refl _, rfl⟩) ?_
   refine each_cons (fun x y hS hT hk => d_loadRow (cs := (insC i)) (wn rfl) (hT.ev rfl) row23 (Blk.sm (w := w4.drew) m7 hS hM157) ⟨SM.refl _, rfl⟩) ?_
   refine each_cons (fun x y hS hT hk => d_call (wn rfl) ent28 (map1 (show x.eval _ = (.agg (insC i)) from (hk 1 rfl))) (plain_any i y) (fun _ _ ⟨he, hG⟩ => ⟨(.agg (insC (plainF i))), he, SM.grow hG, rfl⟩)) ?_
   refine each_cons (fun x y hS hT hk => d_bin (u := .agg (insC i)) (v := .agg (insC (plainF i))) (wn rfl) (hk 0 rfl) (hk 2 rfl) (ne_ins i (plainF i) _ _ _ true (notof hb15)) ⟨SM.refl _, rfl⟩) ?_
   refine each_cons (fun x y hS hT hk => d_move (wn rfl) (hk 3 rfl) ⟨SM.refl _, rfl⟩) ?_
   refine each_cons (fun x y hS hT hk => does_not (wno rfl rfl (.inl (hk 4 rfl))) ⟨SM.refl _, rfl⟩) ?_
   refine each_cons (fun x y hS hT hk => does_not (wno rfl rfl (.inl (hk 4 rfl))) ⟨SM.refl _, rfl⟩) ?_
   refine each_cons (fun x y hS hT hk => does_not (wno rfl rfl (.inl (hk 4 rfl))) ⟨SM.refl _, rfl⟩) ?_
   refine each_cons (fun x y hS hT hk => d_pickT (wn rfl) (hk 4 rfl) (hT.ev rfl) ⟨SM.refl _, rfl⟩) ?_
   exact each_nil
  intro f158 a159 w160 hS161 hC162 hA163
  have hA164 : St 30 [(1, (.int .i64 p)), (2, (.int .i64 q)), (3, (.pointer (some ⟨g3, 0, none⟩))), (6, (.int .i64 0)), (15, (.bool true))] a159 := hA163.cut _ (fm_cons (hA163.get 1 _ rfl) (fm_cons (hA163.get 2 _ rfl) (fm_cons (hA163.get 3 _ rfl) (fm_cons (hA163.get 6 _ rfl) (fm_cons ((hA163.get 15 _ rfl).trans (hC162 8 (Nat.le_of_ble_eq_true rfl))) fm_nil)))))
  have m165 := m7.sm hS161 hM157
  have b166 := hS161.below b9 b9.size hM156B
  refine t_norm ?_
  refine c_true hA164 rfl ?_
  refine wp_seq ?_
  refine wp_region_lit ?_
  refine q_step hA164 rfl (d_assign (wn rfl) (hA164.ev rfl) ?_)
  intro a167 hA168
  refine q_end ?_
  have hA169 : St 30 [(1, (.int .i64 p)), (2, (.int .i64 q)), (3, (.pointer (some ⟨g3, 0, none⟩))), (6, (.int .i64 34))] a167 := hA168.cut _ (fm_cons (hA168.get 1 _ rfl) (fm_cons (hA168.get 2 _ rfl) (fm_cons (hA168.get 3 _ rfl) (fm_cons (hA168.get 6 _ rfl) fm_nil))))
  refine t_norm ?_
  refine wp_ret ?_
  refine t_ret ?_
  refine ret1 rfl hA169 (v := (.int .i64 34)) rfl ?_
  exact ⟨ret_int (by simp [rightR, hb15]), b166⟩
set_option maxHeartbeats 4000000 in
set_option maxRecDepth 4000 in
theorem gives_any (i : Ins) (w : World) : Calls Try.prog 18 #[.agg (insC i)] w fun e w' => e = .returned (.int .i64 (givesF i)) ∧ Grow w w' := by
 have b0 : Below w.heap.size w w := Below.refl _ _
 refine enter (n := 6) Try.func18 rfl rfl (Nat.le_of_ble_eq_true rfl) ?_
 intro a1 hA2
 refine wp_seq ?_
 refine wp_region_lit ?_
 refine q_step hA2 rfl (d_box (wn rfl) (hA2.ev rfl) ?_)
 intro g3 w4 eg5 hG6 (m7 : Blk w4 g3 (insC i) 23)
 have ge8 : w.heap.size ≤ g3 := eg5 ▸ b0.size
 have b9 := below_grow b0 hG6 b0.size
 intro a10 hA11
 refine q_step hA11 rfl (d_assign (wn rfl) (hA11.ev rfl) ?_)
 intro a12 hA13
 refine q_end ?_
 have hA14 : St 6 [(1, (.pointer (some ⟨g3, 0, none⟩))), (2, (.int .i64 0))] a12 := hA13.cut _ (fm_cons (hA13.get 1 _ rfl) (fm_cons (hA13.get 2 _ rfl) fm_nil))
 refine t_norm ?_
 refine wp_seq ?_
 refine wp_region_lit ?_
 refine q_step hA14 rfl (d_loadRow (cs := (insC i)) (wn rfl) (hA14.ev rfl) row23 m7 ?_)
 intro a15 hA16
 refine q_step hA16 rfl (d_call (wn rfl) ent28 (map1 (hA16.ev rfl)) (plain_any i w4) ?_)
 rintro e20 w17 ⟨he19, hG18⟩
 have m21 := m7.grow hG18
 have b22 := below_grow b9 hG18 b9.size
 refine ⟨(.agg (insC (plainF i))), he19, ?_⟩
 intro a23 hA24
 refine q_step hA24 rfl (d_field (v := (.int .i64 ((plainF i).dst))) (wn rfl) (hA24.ev rfl) fi23_1 one3 rfl ?_)
 intro a25 hA26
 refine q_step hA26 rfl (d_assign (wn rfl) (hA26.ev rfl) ?_)
 intro a27 hA28
 refine q_end ?_
 have hA29 : St 6 [(2, (.int .i64 ((plainF i).dst)))] a27 := hA28.cut _ (fm_cons (hA28.get 2 _ rfl) fm_nil)
 refine t_norm ?_
 refine wp_ret ?_
 refine ret1 rfl hA29 (v := (.int .i64 ((plainF i).dst))) rfl ?_
 exact ⟨ret_int (by simp [givesF, ]), b22⟩
end Go.Proofs.Ytlhompedcphnnaa
/- What Check and its parts come to. -/
namespace Go.Proofs.Ytlhompedcphnnaa
open Go.RowKit

def insE (i : Ins) : List Value := (insC i).toList
def cellE (v : Value) : List Value := [v]
/-- codes: a slice of slices of instructions -/
def Cs (B : Nat) (w : World) (v : Value) (cs : List (List Ins)) : Prop :=
  ∃ us : List Value, Sl cellE 1 B w v us ∧ us.length = cs.length ∧ ∀ (j : Nat) u c, us[j]? = some u → cs[j]? = some c → Sl insE 17 B w u c
def longR : List (List Ins) → Nat → Option Nat
  | [], _ => none
  | c :: r, t => if decide ((c.length : Int) > 8) then some t else longR r (t + 1)
def bad1 (n : Nat) : List Ins → Nat → Option (Nat × Int)
  | [], _ => none
  | i :: r, k => if rightR i (k : Int) (n : Int) == 0 then bad1 n r (k + 1) else some (k, rightR i (k : Int) (n : Int))
def bad2 : List (List Ins) → Nat → Option (Nat × Nat × Int)
  | [], _ => none
  | c :: r, t => match bad1 c.length c 0 with
    | some (k, e) => some (t, k, e)
    | none => bad2 r (t + 1)
def opsN (c : List Ins) : Nat := c.countP opB
def brN (c : List Ins) : Nat := c.countP fun i => i.op == 9
def sumO (cs : List (List Ins)) : Nat := (cs.map opsN).sum
def sumB (cs : List (List Ins)) : Nat := (cs.map brN).sum
def cntsR (cs : List (List Ins)) : Int := if decide ((sumO cs : Int) > 6) then 32 else if decide ((sumB cs : Int) > 3) then 33 else 0
def checkR (cs : List (List Ins)) : Int × Int × Int :=
  if decide ((cs.length : Int) < 1) || decide ((cs.length : Int) > 3) then (0, 0, 30) else
  match longR cs 0 with
  | some t => ((t : Int), 0, 31)
  | none => match bad2 cs 0 with
    | some (t, k, e) => ((t : Int), (k : Int), e)
    | none => (0, 0, cntsR cs)
theorem drop_at {α : Type} {l : List α} {j : Nat} {y : α} (h : l[j]? = some y) : l.drop j = y :: l.drop (j + 1) := by
  obtain ⟨hj, rfl⟩ := List.getElem?_eq_some_iff.1 h
  exact List.drop_eq_getElem_cons hj
theorem drop_end {α : Type} {l : List α} {j : Nat} (h : l.length ≤ j) : l.drop j = [] := List.drop_eq_nil_of_le h
theorem count_at {α : Type} {l : List α} {j : Nat} {y : α} (p : α → Bool) (h : l[j]? = some y) : (l.drop j).countP p = (l.drop (j + 1)).countP p + if p y then 1 else 0 := by
  rw [drop_at h, List.countP_cons]
theorem countP_drop_le {α : Type} (p : α → Bool) (l : List α) (j : Nat) : (l.drop j).countP p ≤ l.countP p := List.Sublist.countP_le (List.drop_sublist j l)
theorem cnt_le {α : Type} (p : α → Bool) (l : List α) (j : Nat) : (l.drop j).countP p ≤ l.length := by
  have := List.countP_le_length (p := p) (l := l.drop j); simp at this; omega
theorem sum_at {l : List (List Ins)} {j : Nat} {y : List Ins} (f : List Ins → Nat) (h : l[j]? = some y) : ((l.drop j).map f).sum = f y + ((l.drop (j + 1)).map f).sum := by
  rw [drop_at h]; simp
theorem long_at {l : List (List Ins)} {j : Nat} {y : List Ins} (h : l[j]? = some y) (hy : decide ((y.length : Int) > 8) = false) : longR (l.drop j) j = longR (l.drop (j + 1)) (j + 1) := by
  rw [drop_at h, longR, hy]; simp
theorem long_yes {l : List (List Ins)} {j : Nat} {y : List Ins} (h : l[j]? = some y) (hy : decide ((y.length : Int) > 8) = true) : longR (l.drop j) j = some j := by
  rw [drop_at h, longR, hy]; simp
theorem bad1_at {n : Nat} {l : List Ins} {j : Nat} {y : Ins} (h : l[j]? = some y) (hy : (rightR y (j : Int) (n : Int) == 0) = true) : bad1 n (l.drop j) j = bad1 n (l.drop (j + 1)) (j + 1) := by
  rw [drop_at h, bad1, hy]; simp
theorem bad1_yes {n : Nat} {l : List Ins} {j : Nat} {y : Ins} (h : l[j]? = some y) (hy : (rightR y (j : Int) (n : Int) == 0) = false) : bad1 n (l.drop j) j = some (j, rightR y (j : Int) (n : Int)) := by
  rw [drop_at h, bad1, hy]; simp
theorem bad2_at {l : List (List Ins)} {j : Nat} {y : List Ins} (h : l[j]? = some y) (hy : bad1 y.length y 0 = none) : bad2 (l.drop j) j = bad2 (l.drop (j + 1)) (j + 1) := by
  rw [drop_at h, bad2, hy]
theorem bad2_yes {l : List (List Ins)} {j k : Nat} {e : Int} {y : List Ins} (h : l[j]? = some y) (hy : bad1 y.length y 0 = some (k, e)) : bad2 (l.drop j) j = some (j, k, e) := by
  rw [drop_at h, bad2, hy]
theorem ops_le (c : List Ins) : opsN c ≤ c.length := List.countP_le_length
theorem br_le (c : List Ins) : brN c ≤ c.length := List.countP_le_length
def totN (cs : List (List Ins)) : Nat := (cs.map List.length).sum
theorem len_le {cs : List (List Ins)} {j : Nat} {c : List Ins} (h : cs[j]? = some c) : c.length ≤ totN cs := by
  unfold totN
  induction cs generalizing j with
  | nil => simp at h
  | cons d cs ih => cases j with
    | zero => simp at h; subst h; simp
    | succ j => have := ih (j := j) (by simpa using h); simp; omega
theorem sum_le0 (f : List Ins → Nat) (hf : ∀ c, f c ≤ c.length) : ∀ cs : List (List Ins), (cs.map f).sum ≤ (cs.map List.length).sum
  | [] => by simp
  | c :: cs => by have := sum_le0 f hf cs; have := hf c; simp; omega
theorem sum_le (f : List Ins → Nat) (hf : ∀ c, f c ≤ c.length) (cs : List (List Ins)) : (cs.map f).sum ≤ totN cs := sum_le0 f hf cs
theorem Cs.below {B : Nat} {w w' : World} {v : Value} {cs : List (List Ins)} (h : Cs B w v cs) (hb : Below B w w') : Cs B w' v cs := by
  obtain ⟨us, h1, h2, h3⟩ := h
  exact ⟨us, h1.below hb, h2, fun j u c hu hc => (h3 j u c hu hc).below hb⟩
theorem Cs.mono {B B' : Nat} {w : World} {v : Value} {cs : List (List Ins)} (h : Cs B w v cs) (hb : B ≤ B') : Cs B' w v cs := by
  obtain ⟨us, h1, h2, h3⟩ := h
  exact ⟨us, h1.mono hb, h2, fun j u c hu hc => (h3 j u c hu hc).mono hb⟩
theorem drop_sum_le (f : List Ins → Nat) (cs : List (List Ins)) : ∀ j, ((cs.drop j).map f).sum ≤ (cs.map f).sum := fun j => by
  induction cs generalizing j with
  | nil => simp
  | cons c cs ih => cases j with
    | zero => simp
    | succ j => have := ih j; rw [List.drop_succ_cons, List.map_cons, List.sum_cons]; omega
theorem ret_three {a b c a' b' c' : Int} (h1 : a = a') (h2 : b = b') (h3 : c = c') : Ending.returned (.tuple #[.int .i64 a, .int .i64 b, .int .i64 c]) = .returned (.tuple #[.int .i64 a', .int .i64 b', .int .i64 c']) := by rw [h1, h2, h3]
theorem check_threads {cs : List (List Ins)} (h : (cs.length : Int) < 1 ∨ (cs.length : Int) > 3) : checkR cs = (0, 0, 30) := by
  unfold checkR; rw [if_pos]; simp only [Bool.or_eq_true, decide_eq_true_eq]; exact h
theorem check_long {cs : List (List Ins)} {t : Nat} (h1 : ¬ (cs.length : Int) < 1) (h2 : ¬ (cs.length : Int) > 3) (h : longR cs 0 = some t) : checkR cs = ((t : Int), 0, 31) := by
  unfold checkR; rw [if_neg (by simp only [Bool.or_eq_true, decide_eq_true_eq]; omega), h]
theorem check_bad {cs : List (List Ins)} {t k : Nat} {e : Int} (h1 : ¬ (cs.length : Int) < 1) (h2 : ¬ (cs.length : Int) > 3) (h : longR cs 0 = none) (hb : bad2 cs 0 = some (t, k, e)) : checkR cs = ((t : Int), (k : Int), e) := by
  unfold checkR; rw [if_neg (by simp only [Bool.or_eq_true, decide_eq_true_eq]; omega), h, hb]
theorem check_none {cs : List (List Ins)} (h1 : ¬ (cs.length : Int) < 1) (h2 : ¬ (cs.length : Int) > 3) (h : longR cs 0 = none) (hb : bad2 cs 0 = none) : checkR cs = (0, 0, cntsR cs) := by
  unfold checkR; rw [if_neg (by simp only [Bool.or_eq_true, decide_eq_true_eq]; omega), h, hb]
end Go.Proofs.Ytlhompedcphnnaa
/- Closed facts on the types and functions of the program. -/
namespace Go.Proofs.Ytlhompedcphnnaa
open Go.RowKit
set_option linter.unusedSimpArgs false
set_option linter.unusedVariables false
theorem ent10 : ((Try.prog.funcs[10]?).map fun fn => (fn.name == "runtime.NumGoroutine", fn.body.isNone)) = some (false, false) := by kernel_rfl
theorem ent22 : ((Try.prog.funcs[22]?).map fun fn => (fn.name == "runtime.NumGoroutine", fn.body.isNone)) = some (false, false) := by kernel_rfl
theorem ent23 : ((Try.prog.funcs[23]?).map fun fn => (fn.name == "runtime.NumGoroutine", fn.body.isNone)) = some (false, false) := by kernel_rfl
theorem ent24 : ((Try.prog.funcs[24]?).map fun fn => (fn.name == "runtime.NumGoroutine", fn.body.isNone)) = some (false, false) := by kernel_rfl
theorem ent25 : ((Try.prog.funcs[25]?).map fun fn => (fn.name == "runtime.NumGoroutine", fn.body.isNone)) = some (false, false) := by kernel_rfl
theorem ent32 : ((Try.prog.funcs[32]?).map fun fn => (fn.name == "runtime.NumGoroutine", fn.body.isNone)) = some (false, false) := by kernel_rfl
theorem ent33 : ((Try.prog.funcs[33]?).map fun fn => (fn.name == "runtime.NumGoroutine", fn.body.isNone)) = some (false, false) := by kernel_rfl
theorem ent34 : ((Try.prog.funcs[34]?).map fun fn => (fn.name == "runtime.NumGoroutine", fn.body.isNone)) = some (false, false) := by kernel_rfl
theorem ent9 : ((Try.prog.funcs[9]?).map fun fn => (fn.name == "runtime.NumGoroutine", fn.body.isNone)) = some (false, false) := by kernel_rfl
theorem one35 : oneB Try.prog 35 = true := by kernel_rfl
theorem slc34 : sliceB Try.prog 34 35 1 = true := by kernel_rfl
theorem slc35 : sliceB Try.prog 35 23 17 = true := by kernel_rfl
end Go.Proofs.Ytlhompedcphnnaa
/- How many instructions of a code are of a kind. -/
namespace Go.Proofs.Ytlhompedcphnnaa
open Go.RowKit
set_option linter.unusedSimpArgs false
set_option linter.unusedVariables false
set_option maxHeartbeats 4000000 in
set_option maxRecDepth 4000 in
theorem count_any (f : Nat) (p : Ins → Bool) (l : List Ins) (v : Value) (w : World) (hent : ((Try.prog.funcs[f]?).map fun fn => (fn.name == "runtime.NumGoroutine", fn.body.isNone)) = some (false, false)) (hcon : ∀ i w, Calls Try.prog f #[.agg (insC i)] w fun e w' => e = .returned (.bool (p i)) ∧ Grow w w') (hs : Sl insE 17 w.heap.size w v l) (hl : l.length ≤ 1000000) : Calls Try.prog 34 #[v, .func (.func f) #[] #[]] w fun e w' => e = .returned (.int .i64 (l.countP p : Nat)) ∧ Grow w w' := by
 have b0 : Below w.heap.size w w := Below.refl _ _
 refine enter (n := 21) Try.func34 rfl rfl (Nat.le_of_ble_eq_true rfl) ?_
 intro a1 hA2
 refine wp_seq ?_
 refine wp_region_lit ?_
 refine q_step hA2 rfl (d_assign (wn rfl) (hA2.ev rfl) ?_)
 intro a3 hA4
 refine q_end ?_
 have hA5 : St 21 [(0, v), (1, (.func (.func f) #[] #[])), (4, (.int .i64 0))] a3 := hA4.cut _ (fm_cons (hA4.get 0 _ rfl) (fm_cons (hA4.get 1 _ rfl) (fm_cons (hA4.get 4 _ rfl) fm_nil)))
 refine t_norm ?_
 refine wp_seq ?_
 refine wp_region_lit ?_
 refine q_step hA5 rfl (d_assign (wn rfl) (hA5.ev rfl) ?_)
 intro a6 hA7
 refine q_end ?_
 have hA8 : St 21 [(0, v), (1, (.func (.func f) #[] #[])), (4, (.int .i64 0)), (5, (.int .i64 0))] a6 := hA7.cut _ (fm_cons (hA7.get 0 _ rfl) (fm_cons (hA7.get 1 _ rfl) (fm_cons (hA7.get 4 _ rfl) (fm_cons (hA7.get 5 _ rfl) fm_nil))))
 refine t_norm ?_
 refine wp_seq ?_
 refine wp_seq ?_
 refine wp_region_lit ?_
 refine q_step hA8 rfl (d_move (wn rfl) (hA8.ev rfl) ?_)
 intro a9 hA10
 refine q_step hA10 rfl (d_len (n := l.length) (wn rfl) (hA10.ev rfl) slc35 hs.form ?_)
 intro a11 hA12
 refine q_step hA12 rfl (d_move (wn rfl) (hA12.ev rfl) ?_)
 intro a13 hA14
 refine q_end ?_
 have hA15 : St 21 [(1, (.func (.func f) #[] #[])), (4, (.int .i64 0)), (5, (.int .i64 0)), (8, v), (9, (.int .i64 ((l.length : Nat) : Int))), (10, (.int .i64 0))] a13 := hA14.cut _ (fm_cons (hA14.get 1 _ rfl) (fm_cons (hA14.get 4 _ rfl) (fm_cons (hA14.get 5 _ rfl) (fm_cons (hA14.get 8 _ rfl) (fm_cons (hA14.get 9 _ rfl) (fm_cons (hA14.get 10 _ rfl) fm_nil))))))
 refine t_norm ?_
 refine wp_block ?_
 refine loop_by (fun m17 a18 w19 => ∃ j16 : Nat, m17 = l.length - j16 ∧ (j16 ≤ l.length) ∧ St 21 [(1, (.func (.func f) #[] #[])), (5, (.int .i64 ((l.countP p - (l.drop j16).countP p : Nat) : Int))), (8, v), (9, (.int .i64 ((l.length : Nat) : Int))), (10, (.int .i64 ((j16 : Nat) : Int)))] a18 ∧ Below w.heap.size w w19) (l.length - 0) ⟨0, rfl, (by omega), hA15.cut _ (fm_cons (hA15.get 1 _ rfl) (fm_cons ((hA15.get 5 _ rfl).trans (congrArg (Value.int .i64) (by simp))) (fm_cons (hA15.get 8 _ rfl) (fm_cons (hA15.get 9 _ rfl) (fm_cons ((hA15.get 10 _ rfl).trans (congrArg (Value.int .i64) (by simp))) fm_nil))))), b0⟩ ?_
 rintro m17 a18 w19 ⟨j16, hm22, hc23, hA20, b21⟩
 have hk1 := cnt_le p l j16
 have hk2 := countP_drop_le p l j16
 have hk3 := List.countP_le_length (p := p) (l := l)
 refine wp_seq ?_
 refine wp_region_lit ?_
 rcases Bool.eq_false_or_eq_true (decide (((j16 : Nat) : Int) < ((l.length : Nat) : Int))) with hb24 | hb24
 ·skip
  have hq25 := of_decide_eq_true hb24
  refine q_step hA20 rfl (d_bin (wn rfl) (hA20.ev rfl) (hA20.ev rfl) (b_lt _ _ ((j16 : Nat) : Int) ((l.length : Nat) : Int) true _ hb24) ?_)
  intro a26 hA27
  refine q_end ?_
  have hA28 : St 21 [(1, (.func (.func f) #[] #[])), (5, (.int .i64 ((l.countP p - (l.drop j16).countP p : Nat) : Int))), (8, v), (9, (.int .i64 ((l.length : Nat) : Int))), (10, (.int .i64 ((j16 : Nat) : Int))), (11, (.bool true))] a26 := hA27.cut _ (fm_cons (hA27.get 1 _ rfl) (fm_cons (hA27.get 5 _ rfl) (fm_cons (hA27.get 8 _ rfl) (fm_cons (hA27.get 9 _ rfl) (fm_cons (hA27.get 10 _ rfl) (fm_cons (hA27.get 11 _ rfl) fm_nil))))))
  refine t_norm ?_
  refine wp_seq ?_
  refine c_true hA28 rfl ?_
  refine wp_skip ?_
  refine t_norm ?_
  refine wp_seq ?_
  refine wp_block ?_
  refine wp_seq ?_
  refine wp_region_lit ?_
  obtain ⟨y29, hy30⟩ : ∃ y29, l[j16]? = some y29 := ⟨_, List.getElem?_eq_getElem (show j16 < l.length by omega)⟩
  obtain ⟨b31, o32, lt33, hr34, hix35⟩ := (hs.below b21).at hy30
  refine q_step hA28 rfl (d_indexAt (j := j16) (wn rfl) (hA28.ev rfl) (hA28.ev rfl) slc35 hix35 (get_lt hy30) ?_)
  intro a36 hA37
  refine q_step hA37 rfl (d_loadMid (cs := (insC y29)) (wn rfl) (hA37.ev rfl) row23 hr34 ?_)
  intro a38 hA39
  refine q_step hA39 rfl (d_alloc (wn rfl) zero23 ?_)
  intro g40 w41 eg42 hG43 (m44 : Blk w41 g40 #[.int .i64 0, .int .i64 0, .int .i64 0, .int .i64 0, .int .i64 0, .int .i64 0, .int .i64 0, .int .i64 0, .int .i64 0, .int .i64 0, .bool false, .bool false, .bool false, .int .i64 0, .int .i64 0, .int .i64 0, .bool false] 23)
  have ge45 : w.heap.size ≤ g40 := eg42 ▸ b21.size
  have hr46 := range_below hr34 hG43 (Nat.lt_of_lt_of_le lt33 b21.size)
  have b47 := below_grow b21 hG43 b21.size
  intro a48 hA49
  refine q_step hA49 rfl (d_storeRow (wn rfl) (hA49.ev rfl) (hA49.ev rfl) row23 m44 rfl rfl ?_)
  intro w50 hU51 (m52 : Blk w50 g40 (insC y29) 23)
  have hr53 := range_upd hr46 hU51 (Nat.ne_of_lt (Nat.lt_of_lt_of_le lt33 ge45))
  have b54 := hU51.below b47 ge45
  intro a55 hA56
  refine q_end ?_
  have hA57 : St 21 [(1, (.func (.func f) #[] #[])), (5, (.int .i64 ((l.countP p - (l.drop j16).countP p : Nat) : Int))), (7, (.pointer (some ⟨g40, 0, none⟩))), (8, v), (9, (.int .i64 ((l.length : Nat) : Int))), (10, (.int .i64 ((j16 : Nat) : Int)))] a55 := hA56.cut _ (fm_cons (hA56.get 1 _ rfl) (fm_cons (hA56.get 5 _ rfl) (fm_cons (hA56.get 7 _ rfl) (fm_cons (hA56.get 8 _ rfl) (fm_cons (hA56.get 9 _ rfl) (fm_cons (hA56.get 10 _ rfl) fm_nil))))))
  refine t_norm ?_
  refine wp_seq ?_
  refine wp_region_lit ?_
  refine q_step hA57 rfl (d_move (wn rfl) (hA57.ev rfl) ?_)
  intro a58 hA59
  refine q_step hA59 rfl (d_loadRow (cs := (insC y29)) (wn rfl) (hA59.ev rfl) row23 m52 ?_)
  intro a60 hA61
  refine q_step hA61 rfl (d_callv (f := f) (wn rfl) (hA61.ev rfl) hent (map1 (hA61.ev rfl)) (hcon y29 w50) ?_)
  rintro e65 w62 ⟨he64, hG63⟩
  have m66 := m52.grow hG63
  have b67 := below_grow b54 hG63 b54.size
  rcases Bool.eq_false_or_eq_true (p y29) with hb68 | hb68
  ·skip
   refine ⟨.bool true, he64.trans (ret_bool hb68), ?_⟩
   intro a70 hA71
   refine q_end ?_
   have hA72 : St 21 [(1, (.func (.func f) #[] #[])), (5, (.int .i64 ((l.countP p - (l.drop j16).countP p : Nat) : Int))), (8, v), (9, (.int .i64 ((l.length : Nat) : Int))), (10, (.int .i64 ((j16 : Nat) : Int))), (16, (.bool true))] a70 := hA71.cut _ (fm_cons (hA71.get 1 _ rfl) (fm_cons (hA71.get 5 _ rfl) (fm_cons (hA71.get 8 _ rfl) (fm_cons (hA71.get 9 _ rfl) (fm_cons (hA71.get 10 _ rfl) (fm_cons (hA71.get 16 _ rfl) fm_nil))))))
   refine t_norm ?_
   refine c_true hA72 rfl ?_
   refine wp_region_lit ?_
   refine q_step hA72 rfl (d_move (wn rfl) (hA72.ev rfl) ?_)
   intro a73 hA74
   refine q_step hA74 rfl (d_bin (wn rfl) (hA74.ev rfl) (hA74.ev rfl) (b_add _ _ ((l.countP p - (l.drop j16).countP p : Nat) : Int) 1 _ (by omega) (by omega)) ?_)
   intro a75 hA76
   refine q_step hA76 rfl (d_assign (wn rfl) (hA76.ev rfl) ?_)
   intro a77 hA78
   refine q_end ?_
   have hA79 : St 21 [(1, (.func (.func f) #[] #[])), (5, (.int .i64 (((l.countP p - (l.drop j16).countP p : Nat) : Int) + 1))), (8, v), (9, (.int .i64 ((l.length : Nat) : Int))), (10, (.int .i64 ((j16 : Nat) : Int)))] a77 := hA78.cut _ (fm_cons (hA78.get 1 _ rfl) (fm_cons (hA78.get 5 _ rfl) (fm_cons (hA78.get 8 _ rfl) (fm_cons (hA78.get 9 _ rfl) (fm_cons (hA78.get 10 _ rfl) fm_nil)))))
   refine i_norm ?_
   refine t_norm ?_
   refine wp_region_lit ?_
   refine q_step hA79 rfl (d_bin (wn rfl) (hA79.ev rfl) (hA79.ev rfl) (b_add _ _ ((j16 : Nat) : Int) 1 _ (by omega) (by omega)) ?_)
   intro a80 hA81
   refine q_step hA81 rfl (d_move (wn rfl) (hA81.ev rfl) ?_)
   intro a82 hA83
   refine q_end ?_
   have hA84 : St 21 [(1, (.func (.func f) #[] #[])), (5, (.int .i64 (((l.countP p - (l.drop j16).countP p : Nat) : Int) + 1))), (8, v), (9, (.int .i64 ((l.length : Nat) : Int))), (10, (.int .i64 (((j16 : Nat) : Int) + 1)))] a82 := hA83.cut _ (fm_cons (hA83.get 1 _ rfl) (fm_cons (hA83.get 5 _ rfl) (fm_cons (hA83.get 8 _ rfl) (fm_cons (hA83.get 9 _ rfl) (fm_cons (hA83.get 10 _ rfl) fm_nil)))))
   refine t_norm ?_
   exact ⟨l.length - (j16 + 1), (by rw [hm22]; omega), j16 + 1, rfl, (by omega), hA84.cut _ (fm_cons (hA84.get 1 _ rfl) (fm_cons ((hA84.get 5 _ rfl).trans (congrArg (Value.int .i64) (by have h1 := count_at p hy30; have h2 := countP_drop_le p l j16; simp [hb68] at h1; omega))) (fm_cons (hA84.get 8 _ rfl) (fm_cons (hA84.get 9 _ rfl) (fm_cons ((hA84.get 10 _ rfl).trans (congrArg (Value.int .i64) (by omega))) fm_nil))))), b67⟩
  ·skip
   refine ⟨.bool false, he64.trans (ret_bool hb68), ?_⟩
   intro a86 hA87
   refine q_end ?_
   have hA88 : St 21 [(1, (.func (.func f) #[] #[])), (5, (.int .i64 ((l.countP p - (l.drop j16).countP p : Nat) : Int))), (8, v), (9, (.int .i64 ((l.length : Nat) : Int))), (10, (.int .i64 ((j16 : Nat) : Int))), (16, (.bool false))] a86 := hA87.cut _ (fm_cons (hA87.get 1 _ rfl) (fm_cons (hA87.get 5 _ rfl) (fm_cons (hA87.get 8 _ rfl) (fm_cons (hA87.get 9 _ rfl) (fm_cons (hA87.get 10 _ rfl) (fm_cons (hA87.get 16 _ rfl) fm_nil))))))
   refine t_norm ?_
   refine c_false hA88 rfl ?_
   refine wp_skip ?_
   refine i_norm ?_
   refine t_norm ?_
   refine wp_region_lit ?_
   refine q_step hA88 rfl (d_bin (wn rfl) (hA88.ev rfl) (hA88.ev rfl) (b_add _ _ ((j16 : Nat) : Int) 1 _ (by omega) (by omega)) ?_)
   intro a89 hA90
   refine q_step hA90 rfl (d_move (wn rfl) (hA90.ev rfl) ?_)
   intro a91 hA92
   refine q_end ?_
   have hA93 : St 21 [(1, (.func (.func f) #[] #[])), (5, (.int .i64 ((l.countP p - (l.drop j16).countP p : Nat) : Int))), (8, v), (9, (.int .i64 ((l.length : Nat) : Int))), (10, (.int .i64 (((j16 : Nat) : Int) + 1)))] a91 := hA92.cut _ (fm_cons (hA92.get 1 _ rfl) (fm_cons (hA92.get 5 _ rfl) (fm_cons (hA92.get 8 _ rfl) (fm_cons (hA92.get 9 _ rfl) (fm_cons (hA92.get 10 _ rfl) fm_nil)))))
   refine t_norm ?_
   exact ⟨l.length - (j16 + 1), (by rw [hm22]; omega), j16 + 1, rfl, (by omega), hA93.cut _ (fm_cons (hA93.get 1 _ rfl) (fm_cons ((hA93.get 5 _ rfl).trans (congrArg (Value.int .i64) (by have h1 := count_at p hy30; have h2 := countP_drop_le p l j16; simp [hb68] at h1; omega))) (fm_cons (hA93.get 8 _ rfl) (fm_cons (hA93.get 9 _ rfl) (fm_cons ((hA93.get 10 _ rfl).trans (congrArg (Value.int .i64) (by omega))) fm_nil))))), b67⟩
 ·skip
  have hq94 := of_decide_eq_false hb24
  refine q_step hA20 rfl (d_bin (wn rfl) (hA20.ev rfl) (hA20.ev rfl) (b_lt _ _ ((j16 : Nat) : Int) ((l.length : Nat) : Int) false _ hb24) ?_)
  intro a95 hA96
  refine q_end ?_
  have hA97 : St 21 [(1, (.func (.func f) #[] #[])), (5, (.int .i64 ((l.countP p - (l.drop j16).countP p : Nat) : Int))), (8, v), (9, (.int .i64 ((l.length : Nat) : Int))), (10, (.int .i64 ((j16 : Nat) : Int))), (11, (.bool false))] a95 := hA96.cut _ (fm_cons (hA96.get 1 _ rfl) (fm_cons (hA96.get 5 _ rfl) (fm_cons (hA96.get 8 _ rfl) (fm_cons (hA96.get 9 _ rfl) (fm_cons (hA96.get 10 _ rfl) (fm_cons (hA96.get 11 _ rfl) fm_nil))))))
  refine t_norm ?_
  refine wp_seq ?_
  refine c_false hA97 rfl ?_
  refine wp_exit ?_
  refine t_exit ?_
  refine t_exit ?_
  refine i_here ?_
  refine t_norm ?_
  refine wp_seq ?_
  refine wp_region_lit ?_
  refine q_step hA97 rfl (d_move (wn rfl) (hA97.ev rfl) ?_)
  intro a98 hA99
  refine q_step hA99 rfl (d_assign (wn rfl) (hA99.ev rfl) ?_)
  intro a100 hA101
  refine q_end ?_
  have hA102 : St 21 [(4, (.int .i64 ((l.countP p - (l.drop j16).countP p : Nat) : Int)))] a100 := hA101.cut _ (fm_cons (hA101.get 4 _ rfl) fm_nil)
  refine t_norm ?_
  refine wp_ret ?_
  refine ret1 rfl hA102 (v := (.int .i64 ((l.countP p - (l.drop j16).countP p : Nat) : Int))) rfl ?_
  exact ⟨ret_int (by have := drop_end (l := l) (j := j16) (by omega); simp [this, opsN, brN]), b21⟩
end Go.Proofs.Ytlhompedcphnnaa
