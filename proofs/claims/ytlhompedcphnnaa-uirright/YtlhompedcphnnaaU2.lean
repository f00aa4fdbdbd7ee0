/- Contracts of functions on single instructions. -/
import Derived.Test.YtlhompedcphnnaaU1
namespace Go.Proofs.Ytlhompedcphnnaa
open Go.RowKit
set_option linter.unusedSimpArgs false
set_option linter.unusedVariables false
set_option maxHeartbeats 4000000 in
set_option maxRecDepth 4000 in
theorem plain_any (i : Ins) (w : World) : Calls Try.prog 28 #[.agg (insC i)] w fun e w' => e = .returned (.agg (insC (plainF i))) ∧ Grow w w' := by
  have b0 : Below w.heap.size w w := Below.refl _ _
  refine enter (n := 119) Try.func28 rfl rfl (Nat.le_of_ble_eq_true rfl) ?_
  intro a1 hA2
  refine wp_seq ?_
  refine wp_region_lit ?_
  refine q_step hA2 rfl (d_box (wn rfl) (hA2.ev (v := (.agg (insC i))) rfl) ?_)
  intro g3 w4 eg5 hG6 (m7 : Blk w4 g3 (insC i) 23)
  have ge8 : w.heap.size ≤ g3 := eg5 ▸ b0.size
  have b9 := below_grow b0 hG6 b0.size
  intro a10 hA11
  refine q_step hA11 rfl (d_alloc (wn rfl) zero23 ?_)
  intro g12 w13 eg14 hG15 (m16 : Blk w13 g12 #[.int .i64 0, .int .i64 0, .int .i64 0, .int .i64 0, .int .i64 0, .int .i64 0, .int .i64 0, .int .i64 0, .int .i64 0, .int .i64 0, .bool false, .bool false, .bool false, .int .i64 0, .int .i64 0, .int .i64 0, .bool false] 23)
  have ge17 : w.heap.size ≤ g12 := eg14 ▸ b9.size
  have n18 : g3 ≠ g12 := fun h => Nat.lt_irrefl _ ((h.trans eg14) ▸ m7.lt)
  have m19 := m7.grow hG15
  have b20 := below_grow b9 hG15 b9.size
  intro a21 hA22
  refine q_end ?_
  have hA23 : St 119 [(1, (.pointer (some ⟨g3, 0, none⟩))), (2, (.pointer (some ⟨g12, 0, none⟩)))] a21 := hA22.cut _ (fm_cons (hA22.get 1 _ rfl) (fm_cons (hA22.get 2 _ rfl) fm_nil))
  refine t_norm ?_
  refine wp_seq ?_
  refine wp_region_lit ?_
  refine q_step hA23 rfl (d_fieldAddr (wn rfl) (hA23.ev (v := (.pointer (some ⟨g3, 0, none⟩))) rfl) fo23_0 ?_)
  intro a24 hA25
  refine q_step hA25 rfl (d_load (v := (.int .i64 i.op)) (wn rfl) (hA25.ev (v := (.pointer (some ⟨g3, 0, none⟩))) rfl) one3 (m19.cell rfl) ?_)
  intro a26 hA27
  refine q_step hA27 rfl (d_build (cs := #[.int .i64 i.op, .int .i64 (-1), .int .i64 (-1), .int .i64 (-1), .int .i64 0, .int .i64 0, .int .i64 0, .int .i64 (-1), .int .i64 0, .int .i64 0, .bool false, .bool false, .bool false, .int .i64 0, .int .i64 0, .int .i64 0, .bool false]) (wn rfl) (bp_of (bq_cons (hA27.ev (v := (.int .i64 i.op)) rfl) (bq_cons (hA27.ev (v := (.int .i64 (-1))) rfl) (bq_cons (hA27.ev (v := (.int .i64 (-1))) rfl) (bq_cons (hA27.ev (v := (.int .i64 (-1))) rfl) (bq_cons (hA27.ev (v := (.int .i64 (-1))) rfl) bq_nil)))))) zero23 places23 (by kernel_rfl) ?_)
  intro a28 hA29
  refine q_step hA29 rfl (d_alloc (wn rfl) zero23 ?_)
  intro g30 w31 eg32 hG33 (m34 : Blk w31 g30 #[.int .i64 0, .int .i64 0, .int .i64 0, .int .i64 0, .int .i64 0, .int .i64 0, .int .i64 0, .int .i64 0, .int .i64 0, .int .i64 0, .bool false, .bool false, .bool false, .int .i64 0, .int .i64 0, .int .i64 0, .bool false] 23)
  have ge35 : w.heap.size ≤ g30 := eg32 ▸ b20.size
  have n36 : g3 ≠ g30 := fun h => Nat.lt_irrefl _ ((h.trans eg32) ▸ m19.lt)
  have n37 : g12 ≠ g30 := fun h => Nat.lt_irrefl _ ((h.trans eg32) ▸ m16.lt)
  have m38 := m19.grow hG33
  have m39 := m16.grow hG33
  have b40 := below_grow b20 hG33 b20.size
  intro a41 hA42
  refine q_step hA42 rfl (d_storeRow (wn rfl) (hA42.ev (v := (.pointer (some ⟨g30, 0, none⟩))) rfl) (hA42.ev (v := (.agg #[.int .i64 i.op, .int .i64 (-1), .int .i64 (-1), .int .i64 (-1), .int .i64 0, .int .i64 0, .int .i64 0, .int .i64 (-1), .int .i64 0, .int .i64 0, .bool false, .bool false, .bool false, .int .i64 0, .int .i64 0, .int .i64 0, .bool false])) rfl) row23 m34 rfl rfl ?_)
  intro w43 hU44 (m45 : Blk w43 g30 #[.int .i64 i.op, .int .i64 (-1), .int .i64 (-1), .int .i64 (-1), .int .i64 0, .int .i64 0, .int .i64 0, .int .i64 (-1), .int .i64 0, .int .i64 0, .bool false, .bool false, .bool false, .int .i64 0, .int .i64 0, .int .i64 0, .bool false] 23)
  have m46 := m38.upd hU44 n36
  have m47 := m39.upd hU44 n37
  have b48 := hU44.below b40 ge35
  intro a49 hA50
  refine q_end ?_
  have hA51 : St 119 [(1, (.pointer (some ⟨g3, 0, none⟩))), (2, (.pointer (some ⟨g12, 0, none⟩))), (3, (.pointer (some ⟨g30, 0, none⟩)))] a49 := hA50.cut _ (fm_cons (hA50.get 1 _ rfl) (fm_cons (hA50.get 2 _ rfl) (fm_cons (hA50.get 3 _ rfl) fm_nil)))
  refine t_norm ?_
  refine wp_seq ?_
  refine wp_seq ?_
  refine wp_region_lit ?_
  refine q_step hA51 rfl (d_fieldAddr (wn rfl) (hA51.ev (v := (.pointer (some ⟨g3, 0, none⟩))) rfl) fo23_0 ?_)
  intro a52 hA53
  refine q_step hA53 rfl (d_load (v := (.int .i64 i.op)) (wn rfl) (hA53.ev (v := (.pointer (some ⟨g3, 0, none⟩))) rfl) one3 (m46.cell rfl) ?_)
  intro a54 hA55
  refine q_end ?_
  have hA56 : St 119 [(1, (.pointer (some ⟨g3, 0, none⟩))), (2, (.pointer (some ⟨g12, 0, none⟩))), (3, (.pointer (some ⟨g30, 0, none⟩))), (8, (.int .i64 i.op))] a54 := hA55.cut _ (fm_cons (hA55.get 1 _ rfl) (fm_cons (hA55.get 2 _ rfl) (fm_cons (hA55.get 3 _ rfl) (fm_cons (hA55.get 8 _ rfl) fm_nil))))
  refine t_norm ?_
  refine wp_block ?_
  refine wp_seq ?_
  refine wp_region_lit ?_
  rcases Bool.eq_false_or_eq_true (i.op == 1) with hb57 | hb57
  · skip
    have hq58 := eq_of_beq hb57
    refine q_step hA56 rfl (d_bin (wn rfl) (hA56.ev (v := (.int .i64 i.op)) rfl) (hA56.ev (v := (.int .i64 1)) rfl) (b_eq _ _ i.op 1 true _ hb57) ?_)
    intro a59 hA60
    refine q_step hA60 rfl (d_assign (wn rfl) (hA60.ev (v := (.bool true)) rfl) ?_)
    intro a61 hA62
    refine q_end ?_
    have hA63 : St 119 [(1, (.pointer (some ⟨g3, 0, none⟩))), (2, (.pointer (some ⟨g12, 0, none⟩))), (3, (.pointer (some ⟨g30, 0, none⟩))), (8, (.int .i64 i.op)), (9, (.bool true))] a61 := hA62.cut _ (fm_cons (hA62.get 1 _ rfl) (fm_cons (hA62.get 2 _ rfl) (fm_cons (hA62.get 3 _ rfl) (fm_cons (hA62.get 8 _ rfl) (fm_cons (hA62.get 9 _ rfl) fm_nil)))))
    refine t_norm ?_
    refine c_true hA63 rfl ?_
    have hA64 : St 119 [(1, (.pointer (some ⟨g3, 0, none⟩))), (2, (.pointer (some ⟨g12, 0, none⟩))), (3, (.pointer (some ⟨g30, 0, none⟩)))] a61 := hA63.cut _ (fm_cons (hA63.get 1 _ rfl) (fm_cons (hA63.get 2 _ rfl) (fm_cons (hA63.get 3 _ rfl) fm_nil)))
    let M65 : Nat → Option (Array Value) := fun k => if k = g30 then some #[.int .i64 i.op, .int .i64 i.dst, .int .i64 (-1), .int .i64 (-1), .int .i64 i.imm, .int .i64 0, .int .i64 0, .int .i64 (-1), .int .i64 0, .int .i64 0, .bool false, .bool false, .bool false, .int .i64 0, .int .i64 0, .int .i64 0, .bool false] else none
    have hM65 : M65 = fun k => if k = g30 then some #[.int .i64 i.op, .int .i64 i.dst, .int .i64 (-1), .int .i64 (-1), .int .i64 i.imm, .int .i64 0, .int .i64 0, .int .i64 (-1), .int .i64 0, .int .i64 0, .bool false, .bool false, .bool false, .int .i64 0, .int .i64 0, .int .i64 0, .bool false] else none := rfl
    clear_value M65
    have hM66 : M65 g3 = none := ((congrFun hM65 g3).trans (if_neg n36))
    have hM67 : M65 g12 = none := ((congrFun hM65 g12).trans (if_neg n37))
    have hM68 : M65 g30 = some #[.int .i64 i.op, .int .i64 i.dst, .int .i64 (-1), .int .i64 (-1), .int .i64 i.imm, .int .i64 0, .int .i64 0, .int .i64 (-1), .int .i64 0, .int .i64 0, .bool false, .bool false, .bool false, .int .i64 0, .int .i64 0, .int .i64 0, .bool false] := ((congrFun hM65 g30).trans (if_pos rfl))
    have hM65B : ∀ k, k < w.heap.size → M65 k = none := (fun k hk => (congrFun hM65 k).trans (if_neg (fun h => Nat.lt_irrefl _ (Nat.lt_of_lt_of_le (h ▸ hk) ge35))))
    refine drawn (S := SM M65) (tabL [cv (.pointer (some ⟨g3, 1, none⟩)), cv (.int .i64 i.dst), cv (.pointer (some ⟨g3, 4, none⟩)), cv (.int .i64 i.imm), cv (.pointer (some ⟨g30, 1, none⟩)), cm M65 g30 1 (.int .i64 i.dst) ⟨_, hM68, rfl⟩, cv (.pointer (some ⟨g30, 4, none⟩)), cm M65 g30 4 (.int .i64 i.imm) ⟨_, hM68, rfl⟩]) mixedY SM.refl SM.trans SM.drew hA64 (by kernel_rfl) ?_ ?_
    · skip
      refine each_cons (fun x y hS hT hk => d_fieldAddr (wn rfl) (hT.ev (v := (.pointer (some ⟨g3, 0, none⟩))) rfl) fo23_1 ⟨SM.refl _, rfl⟩) ?_
      refine each_cons (fun x y hS hT hk => d_load (v := (.int .i64 i.dst)) (wn rfl) (hk 0 rfl) one3 ((Blk.sm (w := w43.drew) m46 hS hM66).cell rfl) ⟨SM.refl _, rfl⟩) ?_
      refine each_cons (fun x y hS hT hk => d_fieldAddr (wn rfl) (hT.ev (v := (.pointer (some ⟨g3, 0, none⟩))) rfl) fo23_4 ⟨SM.refl _, rfl⟩) ?_
      refine each_cons (fun x y hS hT hk => d_load (v := (.int .i64 i.imm)) (wn rfl) (hk 2 rfl) one3 ((Blk.sm (w := w43.drew) m46 hS hM66).cell rfl) ⟨SM.refl _, rfl⟩) ?_
      refine each_cons (fun x y hS hT hk => d_fieldAddr (wn rfl) (hT.ev (v := (.pointer (some ⟨g30, 0, none⟩))) rfl) fo23_1 ⟨SM.refl _, rfl⟩) ?_
      refine each_cons (fun x y hS hT hk => d_storeM (v := (.int .i64 i.dst)) (w0 := w43.drew) (wn rfl) (hk 4 rfl) (hk 1 rfl) one3 rfl hS hM68 m45 (Nat.le_of_ble_eq_true rfl) rfl (fun _ h => h)) ?_
      refine each_cons (fun x y hS hT hk => d_fieldAddr (wn rfl) (hT.ev (v := (.pointer (some ⟨g30, 0, none⟩))) rfl) fo23_4 ⟨SM.refl _, rfl⟩) ?_
      refine each_cons (fun x y hS hT hk => d_storeM (v := (.int .i64 i.imm)) (w0 := w43.drew) (wn rfl) (hk 6 rfl) (hk 3 rfl) one3 rfl hS hM68 m45 (Nat.le_of_ble_eq_true rfl) rfl (fun _ h => h)) ?_
      exact each_nil
    intro f69 a70 w71 hS72 hC73 hA74
    have hA75 : St 119 [(1, (.pointer (some ⟨g3, 0, none⟩))), (2, (.pointer (some ⟨g12, 0, none⟩))), (3, (.pointer (some ⟨g30, 0, none⟩)))] a70 := hA74.cut _ (fm_cons (hA74.get 1 _ rfl) (fm_cons (hA74.get 2 _ rfl) (fm_cons (hA74.get 3 _ rfl) fm_nil)))
    have m76 := m46.sm hS72 hM66
    have m77 := m47.sm hS72 hM67
    have m78 : Blk w71 g30 #[.int .i64 i.op, .int .i64 i.dst, .int .i64 (-1), .int .i64 (-1), .int .i64 i.imm, .int .i64 0, .int .i64 0, .int .i64 (-1), .int .i64 0, .int .i64 0, .bool false, .bool false, .bool false, .int .i64 0, .int .i64 0, .int .i64 0, .bool false] 23 := hS72.finL [(1, (.int .i64 i.dst)), (4, (.int .i64 i.imm))] hM68 (by kernel_rfl) m45 (fm_cons (hC73 5 (Nat.le_of_ble_eq_true rfl)) (fm_cons (hC73 7 (Nat.le_of_ble_eq_true rfl)) fm_nil))
    have b79 := hS72.below b48 b48.size hM65B
    refine i_norm ?_
    refine t_norm ?_
    refine wp_seq ?_
    refine wp_seq ?_
    refine wp_region_lit ?_
    refine q_step hA75 rfl (d_loadRow (cs := (insC i)) (wn rfl) (hA75.ev (v := (.pointer (some ⟨g3, 0, none⟩))) rfl) row23 m76 ?_)
    intro a80 hA81
    refine q_step hA81 rfl (d_call (wn rfl) ent35 (map1 (hA81.ev (v := (.agg (insC i))) rfl)) (isOp_any i w71) ?_)
    rintro e85 w82 ⟨he84, hG83⟩
    have m86 := m76.grow hG83
    have m87 := m77.grow hG83
    have m88 := m78.grow hG83
    have b89 := below_grow b79 hG83 b79.size
    refine ⟨.bool false, he84.trans (ret_bool (by simp [opB, rdB, wrB, eq_of_beq hb57])), ?_⟩
    intro a90 hA91
    refine q_end ?_
    have hA92 : St 119 [(1, (.pointer (some ⟨g3, 0, none⟩))), (2, (.pointer (some ⟨g12, 0, none⟩))), (3, (.pointer (some ⟨g30, 0, none⟩))), (105, (.bool false))] a90 := hA91.cut _ (fm_cons (hA91.get 1 _ rfl) (fm_cons (hA91.get 2 _ rfl) (fm_cons (hA91.get 3 _ rfl) (fm_cons (hA91.get 105 _ rfl) fm_nil))))
    refine t_norm ?_
    refine c_false hA92 rfl ?_
    refine wp_skip ?_
    refine t_norm ?_
    refine wp_seq ?_
    refine wp_region_lit ?_
    refine q_step hA92 rfl (d_loadRow (cs := #[.int .i64 i.op, .int .i64 i.dst, .int .i64 (-1), .int .i64 (-1), .int .i64 i.imm, .int .i64 0, .int .i64 0, .int .i64 (-1), .int .i64 0, .int .i64 0, .bool false, .bool false, .bool false, .int .i64 0, .int .i64 0, .int .i64 0, .bool false]) (wn rfl) (hA92.ev (v := (.pointer (some ⟨g30, 0, none⟩))) rfl) row23 m88 ?_)
    intro a93 hA94
    refine q_step hA94 rfl (d_storeRow (wn rfl) (hA94.ev (v := (.pointer (some ⟨g12, 0, none⟩))) rfl) (hA94.ev (v := (.agg #[.int .i64 i.op, .int .i64 i.dst, .int .i64 (-1), .int .i64 (-1), .int .i64 i.imm, .int .i64 0, .int .i64 0, .int .i64 (-1), .int .i64 0, .int .i64 0, .bool false, .bool false, .bool false, .int .i64 0, .int .i64 0, .int .i64 0, .bool false])) rfl) row23 m87 rfl rfl ?_)
    intro w95 hU96 (m97 : Blk w95 g12 #[.int .i64 i.op, .int .i64 i.dst, .int .i64 (-1), .int .i64 (-1), .int .i64 i.imm, .int .i64 0, .int .i64 0, .int .i64 (-1), .int .i64 0, .int .i64 0, .bool false, .bool false, .bool false, .int .i64 0, .int .i64 0, .int .i64 0, .bool false] 23)
    have m98 := m86.upd hU96 n18
    have m99 := m88.upd hU96 (Ne.symm n37)
    have b100 := hU96.below b89 ge17
    intro a101 hA102
    refine q_end ?_
    have hA103 : St 119 [(2, (.pointer (some ⟨g12, 0, none⟩)))] a101 := hA102.cut _ (fm_cons (hA102.get 2 _ rfl) fm_nil)
    refine t_norm ?_
    refine wp_ret ?_
    refine retRow (g := g12) (cs := #[.int .i64 i.op, .int .i64 i.dst, .int .i64 (-1), .int .i64 (-1), .int .i64 i.imm, .int .i64 0, .int .i64 0, .int .i64 (-1), .int .i64 0, .int .i64 0, .bool false, .bool false, .bool false, .int .i64 0, .int .i64 0, .int .i64 0, .bool false]) rfl hA103 rfl m97 row23 ?_
    exact ⟨ret_agg (by simp [insC, plainF, opB, rdB, wrB, eq_of_beq hb57]), b100⟩
  · skip
    have hq104 := ne_of_beq hb57
    refine q_step hA56 rfl (d_bin (wn rfl) (hA56.ev (v := (.int .i64 i.op)) rfl) (hA56.ev (v := (.int .i64 1)) rfl) (b_eq _ _ i.op 1 false _ hb57) ?_)
    intro a105 hA106
    refine q_step hA106 rfl (d_assign (wn rfl) (hA106.ev (v := (.bool false)) rfl) ?_)
    intro a107 hA108
    refine q_end ?_
    have hA109 : St 119 [(1, (.pointer (some ⟨g3, 0, none⟩))), (2, (.pointer (some ⟨g12, 0, none⟩))), (3, (.pointer (some ⟨g30, 0, none⟩))), (8, (.int .i64 i.op)), (9, (.bool false))] a107 := hA108.cut _ (fm_cons (hA108.get 1 _ rfl) (fm_cons (hA108.get 2 _ rfl) (fm_cons (hA108.get 3 _ rfl) (fm_cons (hA108.get 8 _ rfl) (fm_cons (hA108.get 9 _ rfl) fm_nil)))))
    refine t_norm ?_
    refine c_false hA109 rfl ?_
    refine wp_seq ?_
    refine wp_region_lit ?_
    rcases Bool.eq_false_or_eq_true (i.op == 2) with hb110 | hb110
    · skip
      have hq111 := eq_of_beq hb110
      refine q_step hA109 rfl (d_bin (wn rfl) (hA109.ev (v := (.int .i64 i.op)) rfl) (hA109.ev (v := (.int .i64 2)) rfl) (b_eq _ _ i.op 2 true _ hb110) ?_)
      intro a112 hA113
      refine q_step hA113 rfl (d_assign (wn rfl) (hA113.ev (v := (.bool true)) rfl) ?_)
      intro a114 hA115
      refine q_end ?_
      have hA116 : St 119 [(1, (.pointer (some ⟨g3, 0, none⟩))), (2, (.pointer (some ⟨g12, 0, none⟩))), (3, (.pointer (some ⟨g30, 0, none⟩))), (8, (.int .i64 i.op)), (17, (.bool true))] a114 := hA115.cut _ (fm_cons (hA115.get 1 _ rfl) (fm_cons (hA115.get 2 _ rfl) (fm_cons (hA115.get 3 _ rfl) (fm_cons (hA115.get 8 _ rfl) (fm_cons (hA115.get 17 _ rfl) fm_nil)))))
      refine t_norm ?_
      refine c_true hA116 rfl ?_
      have hA117 : St 119 [(1, (.pointer (some ⟨g3, 0, none⟩))), (2, (.pointer (some ⟨g12, 0, none⟩))), (3, (.pointer (some ⟨g30, 0, none⟩)))] a114 := hA116.cut _ (fm_cons (hA116.get 1 _ rfl) (fm_cons (hA116.get 2 _ rfl) (fm_cons (hA116.get 3 _ rfl) fm_nil)))
      let M118 : Nat → Option (Array Value) := fun k => if k = g30 then some #[.int .i64 i.op, .int .i64 i.dst, .int .i64 i.a, .int .i64 (-1), .int .i64 0, .int .i64 0, .int .i64 0, .int .i64 (-1), .int .i64 0, .int .i64 0, .bool false, .bool false, .bool false, .int .i64 0, .int .i64 0, .int .i64 0, .bool false] else none
      have hM118 : M118 = fun k => if k = g30 then some #[.int .i64 i.op, .int .i64 i.dst, .int .i64 i.a, .int .i64 (-1), .int .i64 0, .int .i64 0, .int .i64 0, .int .i64 (-1), .int .i64 0, .int .i64 0, .bool false, .bool false, .bool false, .int .i64 0, .int .i64 0, .int .i64 0, .bool false] else none := rfl
      clear_value M118
      have hM119 : M118 g3 = none := ((congrFun hM118 g3).trans (if_neg n36))
      have hM120 : M118 g12 = none := ((congrFun hM118 g12).trans (if_neg n37))
      have hM121 : M118 g30 = some #[.int .i64 i.op, .int .i64 i.dst, .int .i64 i.a, .int .i64 (-1), .int .i64 0, .int .i64 0, .int .i64 0, .int .i64 (-1), .int .i64 0, .int .i64 0, .bool false, .bool false, .bool false, .int .i64 0, .int .i64 0, .int .i64 0, .bool false] := ((congrFun hM118 g30).trans (if_pos rfl))
      have hM118B : ∀ k, k < w.heap.size → M118 k = none := (fun k hk => (congrFun hM118 k).trans (if_neg (fun h => Nat.lt_irrefl _ (Nat.lt_of_lt_of_le (h ▸ hk) ge35))))
      refine drawn (S := SM M118) (tabL [cv (.pointer (some ⟨g3, 1, none⟩)), cv (.int .i64 i.dst), cv (.pointer (some ⟨g3, 2, none⟩)), cv (.int .i64 i.a), cv (.pointer (some ⟨g30, 1, none⟩)), cm M118 g30 1 (.int .i64 i.dst) ⟨_, hM121, rfl⟩, cv (.pointer (some ⟨g30, 2, none⟩)), cm M118 g30 2 (.int .i64 i.a) ⟨_, hM121, rfl⟩]) mixedY SM.refl SM.trans SM.drew hA117 (by kernel_rfl) ?_ ?_
      · skip
        refine each_cons (fun x y hS hT hk => d_fieldAddr (wn rfl) (hT.ev (v := (.pointer (some ⟨g3, 0, none⟩))) rfl) fo23_1 ⟨SM.refl _, rfl⟩) ?_
        refine each_cons (fun x y hS hT hk => d_load (v := (.int .i64 i.dst)) (wn rfl) (hk 0 rfl) one3 ((Blk.sm (w := w43.drew) m46 hS hM119).cell rfl) ⟨SM.refl _, rfl⟩) ?_
        refine each_cons (fun x y hS hT hk => d_fieldAddr (wn rfl) (hT.ev (v := (.pointer (some ⟨g3, 0, none⟩))) rfl) fo23_2 ⟨SM.refl _, rfl⟩) ?_
        refine each_cons (fun x y hS hT hk => d_load (v := (.int .i64 i.a)) (wn rfl) (hk 2 rfl) one3 ((Blk.sm (w := w43.drew) m46 hS hM119).cell rfl) ⟨SM.refl _, rfl⟩) ?_
        refine each_cons (fun x y hS hT hk => d_fieldAddr (wn rfl) (hT.ev (v := (.pointer (some ⟨g30, 0, none⟩))) rfl) fo23_1 ⟨SM.refl _, rfl⟩) ?_
        refine each_cons (fun x y hS hT hk => d_storeM (v := (.int .i64 i.dst)) (w0 := w43.drew) (wn rfl) (hk 4 rfl) (hk 1 rfl) one3 rfl hS hM121 m45 (Nat.le_of_ble_eq_true rfl) rfl (fun _ h => h)) ?_
        refine each_cons (fun x y hS hT hk => d_fieldAddr (wn rfl) (hT.ev (v := (.pointer (some ⟨g30, 0, none⟩))) rfl) fo23_2 ⟨SM.refl _, rfl⟩) ?_
        refine each_cons (fun x y hS hT hk => d_storeM (v := (.int .i64 i.a)) (w0 := w43.drew) (wn rfl) (hk 6 rfl) (hk 3 rfl) one3 rfl hS hM121 m45 (Nat.le_of_ble_eq_true rfl) rfl (fun _ h => h)) ?_
        exact each_nil
      intro f122 a123 w124 hS125 hC126 hA127
      have hA128 : St 119 [(1, (.pointer (some ⟨g3, 0, none⟩))), (2, (.pointer (some ⟨g12, 0, none⟩))), (3, (.pointer (some ⟨g30, 0, none⟩)))] a123 := hA127.cut _ (fm_cons (hA127.get 1 _ rfl) (fm_cons (hA127.get 2 _ rfl) (fm_cons (hA127.get 3 _ rfl) fm_nil)))
      have m129 := m46.sm hS125 hM119
      have m130 := m47.sm hS125 hM120
      have m131 : Blk w124 g30 #[.int .i64 i.op, .int .i64 i.dst, .int .i64 i.a, .int .i64 (-1), .int .i64 0, .int .i64 0, .int .i64 0, .int .i64 (-1), .int .i64 0, .int .i64 0, .bool false, .bool false, .bool false, .int .i64 0, .int .i64 0, .int .i64 0, .bool false] 23 := hS125.finL [(1, (.int .i64 i.dst)), (2, (.int .i64 i.a))] hM121 (by kernel_rfl) m45 (fm_cons (hC126 5 (Nat.le_of_ble_eq_true rfl)) (fm_cons (hC126 7 (Nat.le_of_ble_eq_true rfl)) fm_nil))
      have b132 := hS125.below b48 b48.size hM118B
      refine i_norm ?_
      refine t_norm ?_
      refine wp_seq ?_
      refine wp_seq ?_
      refine wp_region_lit ?_
      refine q_step hA128 rfl (d_loadRow (cs := (insC i)) (wn rfl) (hA128.ev (v := (.pointer (some ⟨g3, 0, none⟩))) rfl) row23 m129 ?_)
      intro a133 hA134
      refine q_step hA134 rfl (d_call (wn rfl) ent35 (map1 (hA134.ev (v := (.agg (insC i))) rfl)) (isOp_any i w124) ?_)
      rintro e138 w135 ⟨he137, hG136⟩
      have m139 := m129.grow hG136
      have m140 := m130.grow hG136
      have m141 := m131.grow hG136
      have b142 := below_grow b132 hG136 b132.size
      refine ⟨.bool false, he137.trans (ret_bool (by simp [opB, rdB, wrB, eq_of_beq hb110])), ?_⟩
      intro a143 hA144
      refine q_end ?_
      have hA145 : St 119 [(1, (.pointer (some ⟨g3, 0, none⟩))), (2, (.pointer (some ⟨g12, 0, none⟩))), (3, (.pointer (some ⟨g30, 0, none⟩))), (105, (.bool false))] a143 := hA144.cut _ (fm_cons (hA144.get 1 _ rfl) (fm_cons (hA144.get 2 _ rfl) (fm_cons (hA144.get 3 _ rfl) (fm_cons (hA144.get 105 _ rfl) fm_nil))))
      refine t_norm ?_
      refine c_false hA145 rfl ?_
      refine wp_skip ?_
      refine t_norm ?_
      refine wp_seq ?_
      refine wp_region_lit ?_
      refine q_step hA145 rfl (d_loadRow (cs := #[.int .i64 i.op, .int .i64 i.dst, .int .i64 i.a, .int .i64 (-1), .int .i64 0, .int .i64 0, .int .i64 0, .int .i64 (-1), .int .i64 0, .int .i64 0, .bool false, .bool false, .bool false, .int .i64 0, .int .i64 0, .int .i64 0, .bool false]) (wn rfl) (hA145.ev (v := (.pointer (some ⟨g30, 0, none⟩))) rfl) row23 m141 ?_)
      intro a146 hA147
      refine q_step hA147 rfl (d_storeRow (wn rfl) (hA147.ev (v := (.pointer (some ⟨g12, 0, none⟩))) rfl) (hA147.ev (v := (.agg #[.int .i64 i.op, .int .i64 i.dst, .int .i64 i.a, .int .i64 (-1), .int .i64 0, .int .i64 0, .int .i64 0, .int .i64 (-1), .int .i64 0, .int .i64 0, .bool false, .bool false, .bool false, .int .i64 0, .int .i64 0, .int .i64 0, .bool false])) rfl) row23 m140 rfl rfl ?_)
      intro w148 hU149 (m150 : Blk w148 g12 #[.int .i64 i.op, .int .i64 i.dst, .int .i64 i.a, .int .i64 (-1), .int .i64 0, .int .i64 0, .int .i64 0, .int .i64 (-1), .int .i64 0, .int .i64 0, .bool false, .bool false, .bool false, .int .i64 0, .int .i64 0, .int .i64 0, .bool false] 23)
      have m151 := m139.upd hU149 n18
      have m152 := m141.upd hU149 (Ne.symm n37)
      have b153 := hU149.below b142 ge17
      intro a154 hA155
      refine q_end ?_
      have hA156 : St 119 [(2, (.pointer (some ⟨g12, 0, none⟩)))] a154 := hA155.cut _ (fm_cons (hA155.get 2 _ rfl) fm_nil)
      refine t_norm ?_
      refine wp_ret ?_
      refine retRow (g := g12) (cs := #[.int .i64 i.op, .int .i64 i.dst, .int .i64 i.a, .int .i64 (-1), .int .i64 0, .int .i64 0, .int .i64 0, .int .i64 (-1), .int .i64 0, .int .i64 0, .bool false, .bool false, .bool false, .int .i64 0, .int .i64 0, .int .i64 0, .bool false]) rfl hA156 rfl m150 row23 ?_
      exact ⟨ret_agg (by simp [insC, plainF, opB, rdB, wrB, hb57, eq_of_beq hb110]), b153⟩
    · skip
      have hq157 := ne_of_beq hb110
      refine q_step hA109 rfl (d_bin (wn rfl) (hA109.ev (v := (.int .i64 i.op)) rfl) (hA109.ev (v := (.int .i64 2)) rfl) (b_eq _ _ i.op 2 false _ hb110) ?_)
      intro a158 hA159
      refine q_step hA159 rfl (d_assign (wn rfl) (hA159.ev (v := (.bool false)) rfl) ?_)
      intro a160 hA161
      refine q_end ?_
      have hA162 : St 119 [(1, (.pointer (some ⟨g3, 0, none⟩))), (2, (.pointer (some ⟨g12, 0, none⟩))), (3, (.pointer (some ⟨g30, 0, none⟩))), (8, (.int .i64 i.op)), (17, (.bool false))] a160 := hA161.cut _ (fm_cons (hA161.get 1 _ rfl) (fm_cons (hA161.get 2 _ rfl) (fm_cons (hA161.get 3 _ rfl) (fm_cons (hA161.get 8 _ rfl) (fm_cons (hA161.get 17 _ rfl) fm_nil)))))
      refine t_norm ?_
      refine c_false hA162 rfl ?_
      refine wp_seq ?_
      refine wp_region_lit ?_
      rcases Bool.eq_false_or_eq_true (i.op == 3) with hb163 | hb163
      · skip
        have hq164 := eq_of_beq hb163
        refine q_step hA162 rfl (d_bin (wn rfl) (hA162.ev (v := (.int .i64 i.op)) rfl) (hA162.ev (v := (.int .i64 3)) rfl) (b_eq _ _ i.op 3 true _ hb163) ?_)
        intro a165 hA166
        refine q_step hA166 rfl (d_assign (wn rfl) (hA166.ev (v := (.bool true)) rfl) ?_)
        intro a167 hA168
        refine q_end ?_
        have hA169 : St 119 [(1, (.pointer (some ⟨g3, 0, none⟩))), (2, (.pointer (some ⟨g12, 0, none⟩))), (3, (.pointer (some ⟨g30, 0, none⟩))), (8, (.int .i64 i.op)), (25, (.bool true))] a167 := hA168.cut _ (fm_cons (hA168.get 1 _ rfl) (fm_cons (hA168.get 2 _ rfl) (fm_cons (hA168.get 3 _ rfl) (fm_cons (hA168.get 8 _ rfl) (fm_cons (hA168.get 25 _ rfl) fm_nil)))))
        refine t_norm ?_
        refine c_true hA169 rfl ?_
        have hA170 : St 119 [(1, (.pointer (some ⟨g3, 0, none⟩))), (2, (.pointer (some ⟨g12, 0, none⟩))), (3, (.pointer (some ⟨g30, 0, none⟩)))] a167 := hA169.cut _ (fm_cons (hA169.get 1 _ rfl) (fm_cons (hA169.get 2 _ rfl) (fm_cons (hA169.get 3 _ rfl) fm_nil)))
        let M171 : Nat → Option (Array Value) := fun k => if k = g30 then some #[.int .i64 i.op, .int .i64 i.dst, .int .i64 i.a, .int .i64 i.b, .int .i64 (immF i i.b), .int .i64 0, .int .i64 0, .int .i64 (-1), .int .i64 0, .int .i64 i.fn, .bool false, .bool false, .bool false, .int .i64 0, .int .i64 0, .int .i64 0, .bool false] else none
        have hM171 : M171 = fun k => if k = g30 then some #[.int .i64 i.op, .int .i64 i.dst, .int .i64 i.a, .int .i64 i.b, .int .i64 (immF i i.b), .int .i64 0, .int .i64 0, .int .i64 (-1), .int .i64 0, .int .i64 i.fn, .bool false, .bool false, .bool false, .int .i64 0, .int .i64 0, .int .i64 0, .bool false] else none := rfl
        clear_value M171
        have hM172 : M171 g3 = none := ((congrFun hM171 g3).trans (if_neg n36))
        have hM173 : M171 g12 = none := ((congrFun hM171 g12).trans (if_neg n37))
        have hM174 : M171 g30 = some #[.int .i64 i.op, .int .i64 i.dst, .int .i64 i.a, .int .i64 i.b, .int .i64 (immF i i.b), .int .i64 0, .int .i64 0, .int .i64 (-1), .int .i64 0, .int .i64 i.fn, .bool false, .bool false, .bool false, .int .i64 0, .int .i64 0, .int .i64 0, .bool false] := ((congrFun hM171 g30).trans (if_pos rfl))
        have hM171B : ∀ k, k < w.heap.size → M171 k = none := (fun k hk => (congrFun hM171 k).trans (if_neg (fun h => Nat.lt_irrefl _ (Nat.lt_of_lt_of_le (h ▸ hk) ge35))))
        refine drawn (S := SM M171) (tabL [cv (.pointer (some ⟨g3, 1, none⟩)), cv (.int .i64 i.dst), cv (.pointer (some ⟨g3, 9, none⟩)), cv (.int .i64 i.fn), cv (.pointer (some ⟨g3, 2, none⟩)), cv (.int .i64 i.a), cv (.pointer (some ⟨g3, 3, none⟩)), cv (.int .i64 i.b), cv (.agg (insC i)), cv (.pointer (some ⟨g3, 3, none⟩)), cv (.int .i64 i.b), cv (.int .i64 (immF i i.b)), cv (.pointer (some ⟨g30, 1, none⟩)), cm M171 g30 1 (.int .i64 i.dst) ⟨_, hM174, rfl⟩, cv (.pointer (some ⟨g30, 9, none⟩)), cm M171 g30 9 (.int .i64 i.fn) ⟨_, hM174, rfl⟩, cv (.pointer (some ⟨g30, 2, none⟩)), cm M171 g30 2 (.int .i64 i.a) ⟨_, hM174, rfl⟩, cv (.pointer (some ⟨g30, 3, none⟩)), cm M171 g30 3 (.int .i64 i.b) ⟨_, hM174, rfl⟩, cv (.pointer (some ⟨g30, 4, none⟩)), cm M171 g30 4 (.int .i64 (immF i i.b)) ⟨_, hM174, rfl⟩]) mixedY SM.refl SM.trans SM.drew hA170 (by kernel_rfl) ?_ ?_
        · skip
          refine each_cons (fun x y hS hT hk => d_fieldAddr (wn rfl) (hT.ev (v := (.pointer (some ⟨g3, 0, none⟩))) rfl) fo23_1 ⟨SM.refl _, rfl⟩) ?_
          refine each_cons (fun x y hS hT hk => d_load (v := (.int .i64 i.dst)) (wn rfl) (hk 0 rfl) one3 ((Blk.sm (w := w43.drew) m46 hS hM172).cell rfl) ⟨SM.refl _, rfl⟩) ?_
          refine each_cons (fun x y hS hT hk => d_fieldAddr (wn rfl) (hT.ev (v := (.pointer (some ⟨g3, 0, none⟩))) rfl) fo23_9 ⟨SM.refl _, rfl⟩) ?_
          refine each_cons (fun x y hS hT hk => d_load (v := (.int .i64 i.fn)) (wn rfl) (hk 2 rfl) one3 ((Blk.sm (w := w43.drew) m46 hS hM172).cell rfl) ⟨SM.refl _, rfl⟩) ?_
          refine each_cons (fun x y hS hT hk => d_fieldAddr (wn rfl) (hT.ev (v := (.pointer (some ⟨g3, 0, none⟩))) rfl) fo23_2 ⟨SM.refl _, rfl⟩) ?_
          refine each_cons (fun x y hS hT hk => d_load (v := (.int .i64 i.a)) (wn rfl) (hk 4 rfl) one3 ((Blk.sm (w := w43.drew) m46 hS hM172).cell rfl) ⟨SM.refl _, rfl⟩) ?_
          refine each_cons (fun x y hS hT hk => d_fieldAddr (wn rfl) (hT.ev (v := (.pointer (some ⟨g3, 0, none⟩))) rfl) fo23_3 ⟨SM.refl _, rfl⟩) ?_
          refine each_cons (fun x y hS hT hk => d_load (v := (.int .i64 i.b)) (wn rfl) (hk 6 rfl) one3 ((Blk.sm (w := w43.drew) m46 hS hM172).cell rfl) ⟨SM.refl _, rfl⟩) ?_
          refine each_cons (fun x y hS hT hk => d_loadRow (cs := (insC i)) (wn rfl) (hT.ev (v := (.pointer (some ⟨g3, 0, none⟩))) rfl) row23 (Blk.sm (w := w43.drew) m46 hS hM172) ⟨SM.refl _, rfl⟩) ?_
          refine each_cons (fun x y hS hT hk => d_fieldAddr (wn rfl) (hT.ev (v := (.pointer (some ⟨g3, 0, none⟩))) rfl) fo23_3 ⟨SM.refl _, rfl⟩) ?_
          refine each_cons (fun x y hS hT hk => d_load (v := (.int .i64 i.b)) (wn rfl) (hk 9 rfl) one3 ((Blk.sm (w := w43.drew) m46 hS hM172).cell rfl) ⟨SM.refl _, rfl⟩) ?_
          refine each_cons (fun x y hS hT hk => d_call (wn rfl) ent39 (map2 (show x.eval _ = (.agg (insC i)) from (hk 8 rfl)) (show x.eval _ = (.int .i64 i.b) from (hk 10 rfl))) (immFor_any i i.b y) (fun _ _ ⟨he, hG⟩ => ⟨(.int .i64 (immF i i.b)), he, SM.grow hG, rfl⟩)) ?_
          refine each_cons (fun x y hS hT hk => d_fieldAddr (wn rfl) (hT.ev (v := (.pointer (some ⟨g30, 0, none⟩))) rfl) fo23_1 ⟨SM.refl _, rfl⟩) ?_
          refine each_cons (fun x y hS hT hk => d_storeM (v := (.int .i64 i.dst)) (w0 := w43.drew) (wn rfl) (hk 12 rfl) (hk 1 rfl) one3 rfl hS hM174 m45 (Nat.le_of_ble_eq_true rfl) rfl (fun _ h => h)) ?_
          refine each_cons (fun x y hS hT hk => d_fieldAddr (wn rfl) (hT.ev (v := (.pointer (some ⟨g30, 0, none⟩))) rfl) fo23_9 ⟨SM.refl _, rfl⟩) ?_
          refine each_cons (fun x y hS hT hk => d_storeM (v := (.int .i64 i.fn)) (w0 := w43.drew) (wn rfl) (hk 14 rfl) (hk 3 rfl) one3 rfl hS hM174 m45 (Nat.le_of_ble_eq_true rfl) rfl (fun _ h => h)) ?_
          refine each_cons (fun x y hS hT hk => d_fieldAddr (wn rfl) (hT.ev (v := (.pointer (some ⟨g30, 0, none⟩))) rfl) fo23_2 ⟨SM.refl _, rfl⟩) ?_
          refine each_cons (fun x y hS hT hk => d_storeM (v := (.int .i64 i.a)) (w0 := w43.drew) (wn rfl) (hk 16 rfl) (hk 5 rfl) one3 rfl hS hM174 m45 (Nat.le_of_ble_eq_true rfl) rfl (fun _ h => h)) ?_
          refine each_cons (fun x y hS hT hk => d_fieldAddr (wn rfl) (hT.ev (v := (.pointer (some ⟨g30, 0, none⟩))) rfl) fo23_3 ⟨SM.refl _, rfl⟩) ?_
          refine each_cons (fun x y hS hT hk => d_storeM (v := (.int .i64 i.b)) (w0 := w43.drew) (wn rfl) (hk 18 rfl) (hk 7 rfl) one3 rfl hS hM174 m45 (Nat.le_of_ble_eq_true rfl) rfl (fun _ h => h)) ?_
          refine each_cons (fun x y hS hT hk => d_fieldAddr (wn rfl) (hT.ev (v := (.pointer (some ⟨g30, 0, none⟩))) rfl) fo23_4 ⟨SM.refl _, rfl⟩) ?_
          refine each_cons (fun x y hS hT hk => d_storeM (v := (.int .i64 (immF i i.b))) (w0 := w43.drew) (wn rfl) (hk 20 rfl) (hk 11 rfl) one3 rfl hS hM174 m45 (Nat.le_of_ble_eq_true rfl) rfl (fun _ h => h)) ?_
          exact each_nil
        intro f175 a176 w177 hS178 hC179 hA180
        have hA181 : St 119 [(1, (.pointer (some ⟨g3, 0, none⟩))), (2, (.pointer (some ⟨g12, 0, none⟩))), (3, (.pointer (some ⟨g30, 0, none⟩)))] a176 := hA180.cut _ (fm_cons (hA180.get 1 _ rfl) (fm_cons (hA180.get 2 _ rfl) (fm_cons (hA180.get 3 _ rfl) fm_nil)))
        have m182 := m46.sm hS178 hM172
        have m183 := m47.sm hS178 hM173
        have m184 : Blk w177 g30 #[.int .i64 i.op, .int .i64 i.dst, .int .i64 i.a, .int .i64 i.b, .int .i64 (immF i i.b), .int .i64 0, .int .i64 0, .int .i64 (-1), .int .i64 0, .int .i64 i.fn, .bool false, .bool false, .bool false, .int .i64 0, .int .i64 0, .int .i64 0, .bool false] 23 := hS178.finL [(1, (.int .i64 i.dst)), (9, (.int .i64 i.fn)), (2, (.int .i64 i.a)), (3, (.int .i64 i.b)), (4, (.int .i64 (immF i i.b)))] hM174 (by kernel_rfl) m45 (fm_cons (hC179 13 (Nat.le_of_ble_eq_true rfl)) (fm_cons (hC179 15 (Nat.le_of_ble_eq_true rfl)) (fm_cons (hC179 17 (Nat.le_of_ble_eq_true rfl)) (fm_cons (hC179 19 (Nat.le_of_ble_eq_true rfl)) (fm_cons (hC179 21 (Nat.le_of_ble_eq_true rfl)) fm_nil)))))
        have b185 := hS178.below b48 b48.size hM171B
        refine i_norm ?_
        refine t_norm ?_
        refine wp_seq ?_
        refine wp_seq ?_
        refine wp_region_lit ?_
        refine q_step hA181 rfl (d_loadRow (cs := (insC i)) (wn rfl) (hA181.ev (v := (.pointer (some ⟨g3, 0, none⟩))) rfl) row23 m182 ?_)
        intro a186 hA187
        refine q_step hA187 rfl (d_call (wn rfl) ent35 (map1 (hA187.ev (v := (.agg (insC i))) rfl)) (isOp_any i w177) ?_)
        rintro e191 w188 ⟨he190, hG189⟩
        have m192 := m182.grow hG189
        have m193 := m183.grow hG189
        have m194 := m184.grow hG189
        have b195 := below_grow b185 hG189 b185.size
        refine ⟨.bool false, he190.trans (ret_bool (by simp [opB, rdB, wrB, eq_of_beq hb163])), ?_⟩
        intro a196 hA197
        refine q_end ?_
        have hA198 : St 119 [(1, (.pointer (some ⟨g3, 0, none⟩))), (2, (.pointer (some ⟨g12, 0, none⟩))), (3, (.pointer (some ⟨g30, 0, none⟩))), (105, (.bool false))] a196 := hA197.cut _ (fm_cons (hA197.get 1 _ rfl) (fm_cons (hA197.get 2 _ rfl) (fm_cons (hA197.get 3 _ rfl) (fm_cons (hA197.get 105 _ rfl) fm_nil))))
        refine t_norm ?_
        refine c_false hA198 rfl ?_
        refine wp_skip ?_
        refine t_norm ?_
        refine wp_seq ?_
        refine wp_region_lit ?_
        refine q_step hA198 rfl (d_loadRow (cs := #[.int .i64 i.op, .int .i64 i.dst, .int .i64 i.a, .int .i64 i.b, .int .i64 (immF i i.b), .int .i64 0, .int .i64 0, .int .i64 (-1), .int .i64 0, .int .i64 i.fn, .bool false, .bool false, .bool false, .int .i64 0, .int .i64 0, .int .i64 0, .bool false]) (wn rfl) (hA198.ev (v := (.pointer (some ⟨g30, 0, none⟩))) rfl) row23 m194 ?_)
        intro a199 hA200
        refine q_step hA200 rfl (d_storeRow (wn rfl) (hA200.ev (v := (.pointer (some ⟨g12, 0, none⟩))) rfl) (hA200.ev (v := (.agg #[.int .i64 i.op, .int .i64 i.dst, .int .i64 i.a, .int .i64 i.b, .int .i64 (immF i i.b), .int .i64 0, .int .i64 0, .int .i64 (-1), .int .i64 0, .int .i64 i.fn, .bool false, .bool false, .bool false, .int .i64 0, .int .i64 0, .int .i64 0, .bool false])) rfl) row23 m193 rfl rfl ?_)
        intro w201 hU202 (m203 : Blk w201 g12 #[.int .i64 i.op, .int .i64 i.dst, .int .i64 i.a, .int .i64 i.b, .int .i64 (immF i i.b), .int .i64 0, .int .i64 0, .int .i64 (-1), .int .i64 0, .int .i64 i.fn, .bool false, .bool false, .bool false, .int .i64 0, .int .i64 0, .int .i64 0, .bool false] 23)
        have m204 := m192.upd hU202 n18
        have m205 := m194.upd hU202 (Ne.symm n37)
        have b206 := hU202.below b195 ge17
        intro a207 hA208
        refine q_end ?_
        have hA209 : St 119 [(2, (.pointer (some ⟨g12, 0, none⟩)))] a207 := hA208.cut _ (fm_cons (hA208.get 2 _ rfl) fm_nil)
        refine t_norm ?_
        refine wp_ret ?_
        refine retRow (g := g12) (cs := #[.int .i64 i.op, .int .i64 i.dst, .int .i64 i.a, .int .i64 i.b, .int .i64 (immF i i.b), .int .i64 0, .int .i64 0, .int .i64 (-1), .int .i64 0, .int .i64 i.fn, .bool false, .bool false, .bool false, .int .i64 0, .int .i64 0, .int .i64 0, .bool false]) rfl hA209 rfl m203 row23 ?_
        exact ⟨ret_agg (by simp [insC, plainF, opB, rdB, wrB, hb57, hb110, eq_of_beq hb163]), b206⟩
      · skip
        have hq210 := ne_of_beq hb163
        refine q_step hA162 rfl (d_bin (wn rfl) (hA162.ev (v := (.int .i64 i.op)) rfl) (hA162.ev (v := (.int .i64 3)) rfl) (b_eq _ _ i.op 3 false _ hb163) ?_)
        intro a211 hA212
        refine q_step hA212 rfl (d_assign (wn rfl) (hA212.ev (v := (.bool false)) rfl) ?_)
        intro a213 hA214
        refine q_end ?_
        have hA215 : St 119 [(1, (.pointer (some ⟨g3, 0, none⟩))), (2, (.pointer (some ⟨g12, 0, none⟩))), (3, (.pointer (some ⟨g30, 0, none⟩))), (8, (.int .i64 i.op)), (25, (.bool false))] a213 := hA214.cut _ (fm_cons (hA214.get 1 _ rfl) (fm_cons (hA214.get 2 _ rfl) (fm_cons (hA214.get 3 _ rfl) (fm_cons (hA214.get 8 _ rfl) (fm_cons (hA214.get 25 _ rfl) fm_nil)))))
        refine t_norm ?_
        refine c_false hA215 rfl ?_
        refine wp_seq ?_
        refine wp_region_lit ?_
        rcases Bool.eq_false_or_eq_true (i.op == 4) with hb216 | hb216
        · skip
          have hq217 := eq_of_beq hb216
          refine q_step hA215 rfl (d_bin (wn rfl) (hA215.ev (v := (.int .i64 i.op)) rfl) (hA215.ev (v := (.int .i64 4)) rfl) (b_eq _ _ i.op 4 true _ hb216) ?_)
          intro a218 hA219
          refine q_step hA219 rfl (d_assign (wn rfl) (hA219.ev (v := (.bool true)) rfl) ?_)
          intro a220 hA221
          refine q_end ?_
          have hA222 : St 119 [(1, (.pointer (some ⟨g3, 0, none⟩))), (2, (.pointer (some ⟨g12, 0, none⟩))), (3, (.pointer (some ⟨g30, 0, none⟩))), (8, (.int .i64 i.op)), (44, (.bool true))] a220 := hA221.cut _ (fm_cons (hA221.get 1 _ rfl) (fm_cons (hA221.get 2 _ rfl) (fm_cons (hA221.get 3 _ rfl) (fm_cons (hA221.get 8 _ rfl) (fm_cons (hA221.get 44 _ rfl) fm_nil)))))
          refine t_norm ?_
          refine c_true hA222 rfl ?_
          have hA223 : St 119 [(1, (.pointer (some ⟨g3, 0, none⟩))), (2, (.pointer (some ⟨g12, 0, none⟩))), (3, (.pointer (some ⟨g30, 0, none⟩)))] a220 := hA222.cut _ (fm_cons (hA222.get 1 _ rfl) (fm_cons (hA222.get 2 _ rfl) (fm_cons (hA222.get 3 _ rfl) fm_nil)))
          let M224 : Nat → Option (Array Value) := fun k => if k = g30 then some #[.int .i64 i.op, .int .i64 i.dst, .int .i64 (-1), .int .i64 (-1), .int .i64 0, .int .i64 0, .int .i64 0, .int .i64 (-1), .int .i64 0, .int .i64 0, .bool i.acq, .bool i.weak, .bool false, .int .i64 0, .int .i64 0, .int .i64 0, .bool false] else none
          have hM224 : M224 = fun k => if k = g30 then some #[.int .i64 i.op, .int .i64 i.dst, .int .i64 (-1), .int .i64 (-1), .int .i64 0, .int .i64 0, .int .i64 0, .int .i64 (-1), .int .i64 0, .int .i64 0, .bool i.acq, .bool i.weak, .bool false, .int .i64 0, .int .i64 0, .int .i64 0, .bool false] else none := rfl
          clear_value M224
          have hM225 : M224 g3 = none := ((congrFun hM224 g3).trans (if_neg n36))
          have hM226 : M224 g12 = none := ((congrFun hM224 g12).trans (if_neg n37))
          have hM227 : M224 g30 = some #[.int .i64 i.op, .int .i64 i.dst, .int .i64 (-1), .int .i64 (-1), .int .i64 0, .int .i64 0, .int .i64 0, .int .i64 (-1), .int .i64 0, .int .i64 0, .bool i.acq, .bool i.weak, .bool false, .int .i64 0, .int .i64 0, .int .i64 0, .bool false] := ((congrFun hM224 g30).trans (if_pos rfl))
          have hM224B : ∀ k, k < w.heap.size → M224 k = none := (fun k hk => (congrFun hM224 k).trans (if_neg (fun h => Nat.lt_irrefl _ (Nat.lt_of_lt_of_le (h ▸ hk) ge35))))
          refine drawn (S := SM M224) (tabL [cv (.pointer (some ⟨g3, 1, none⟩)), cv (.int .i64 i.dst), cv (.pointer (some ⟨g3, 10, none⟩)), cv (.bool i.acq), cv (.pointer (some ⟨g3, 11, none⟩)), cv (.bool i.weak), cv (.pointer (some ⟨g30, 1, none⟩)), cm M224 g30 1 (.int .i64 i.dst) ⟨_, hM227, rfl⟩, cv (.pointer (some ⟨g30, 10, none⟩)), cm M224 g30 10 (.bool i.acq) ⟨_, hM227, rfl⟩, cv (.pointer (some ⟨g30, 11, none⟩)), cm M224 g30 11 (.bool i.weak) ⟨_, hM227, rfl⟩]) mixedY SM.refl SM.trans SM.drew hA223 (by kernel_rfl) ?_ ?_
          · skip
            refine each_cons (fun x y hS hT hk => d_fieldAddr (wn rfl) (hT.ev (v := (.pointer (some ⟨g3, 0, none⟩))) rfl) fo23_1 ⟨SM.refl _, rfl⟩) ?_
            refine each_cons (fun x y hS hT hk => d_load (v := (.int .i64 i.dst)) (wn rfl) (hk 0 rfl) one3 ((Blk.sm (w := w43.drew) m46 hS hM225).cell rfl) ⟨SM.refl _, rfl⟩) ?_
            refine each_cons (fun x y hS hT hk => d_fieldAddr (wn rfl) (hT.ev (v := (.pointer (some ⟨g3, 0, none⟩))) rfl) fo23_10 ⟨SM.refl _, rfl⟩) ?_
            refine each_cons (fun x y hS hT hk => d_load (v := (.bool i.acq)) (wn rfl) (hk 2 rfl) one4 ((Blk.sm (w := w43.drew) m46 hS hM225).cell rfl) ⟨SM.refl _, rfl⟩) ?_
            refine each_cons (fun x y hS hT hk => d_fieldAddr (wn rfl) (hT.ev (v := (.pointer (some ⟨g3, 0, none⟩))) rfl) fo23_11 ⟨SM.refl _, rfl⟩) ?_
            refine each_cons (fun x y hS hT hk => d_load (v := (.bool i.weak)) (wn rfl) (hk 4 rfl) one4 ((Blk.sm (w := w43.drew) m46 hS hM225).cell rfl) ⟨SM.refl _, rfl⟩) ?_
            refine each_cons (fun x y hS hT hk => d_fieldAddr (wn rfl) (hT.ev (v := (.pointer (some ⟨g30, 0, none⟩))) rfl) fo23_1 ⟨SM.refl _, rfl⟩) ?_
            refine each_cons (fun x y hS hT hk => d_storeM (v := (.int .i64 i.dst)) (w0 := w43.drew) (wn rfl) (hk 6 rfl) (hk 1 rfl) one3 rfl hS hM227 m45 (Nat.le_of_ble_eq_true rfl) rfl (fun _ h => h)) ?_
            refine each_cons (fun x y hS hT hk => d_fieldAddr (wn rfl) (hT.ev (v := (.pointer (some ⟨g30, 0, none⟩))) rfl) fo23_10 ⟨SM.refl _, rfl⟩) ?_
            refine each_cons (fun x y hS hT hk => d_storeM (v := (.bool i.acq)) (w0 := w43.drew) (wn rfl) (hk 8 rfl) (hk 3 rfl) one4 rfl hS hM227 m45 (Nat.le_of_ble_eq_true rfl) rfl (fun _ h => h)) ?_
            refine each_cons (fun x y hS hT hk => d_fieldAddr (wn rfl) (hT.ev (v := (.pointer (some ⟨g30, 0, none⟩))) rfl) fo23_11 ⟨SM.refl _, rfl⟩) ?_
            refine each_cons (fun x y hS hT hk => d_storeM (v := (.bool i.weak)) (w0 := w43.drew) (wn rfl) (hk 10 rfl) (hk 5 rfl) one4 rfl hS hM227 m45 (Nat.le_of_ble_eq_true rfl) rfl (fun _ h => h)) ?_
            exact each_nil
          intro f228 a229 w230 hS231 hC232 hA233
          have hA234 : St 119 [(1, (.pointer (some ⟨g3, 0, none⟩))), (2, (.pointer (some ⟨g12, 0, none⟩))), (3, (.pointer (some ⟨g30, 0, none⟩)))] a229 := hA233.cut _ (fm_cons (hA233.get 1 _ rfl) (fm_cons (hA233.get 2 _ rfl) (fm_cons (hA233.get 3 _ rfl) fm_nil)))
          have m235 := m46.sm hS231 hM225
          have m236 := m47.sm hS231 hM226
          have m237 : Blk w230 g30 #[.int .i64 i.op, .int .i64 i.dst, .int .i64 (-1), .int .i64 (-1), .int .i64 0, .int .i64 0, .int .i64 0, .int .i64 (-1), .int .i64 0, .int .i64 0, .bool i.acq, .bool i.weak, .bool false, .int .i64 0, .int .i64 0, .int .i64 0, .bool false] 23 := hS231.finL [(1, (.int .i64 i.dst)), (10, (.bool i.acq)), (11, (.bool i.weak))] hM227 (by kernel_rfl) m45 (fm_cons (hC232 7 (Nat.le_of_ble_eq_true rfl)) (fm_cons (hC232 9 (Nat.le_of_ble_eq_true rfl)) (fm_cons (hC232 11 (Nat.le_of_ble_eq_true rfl)) fm_nil)))
          have b238 := hS231.below b48 b48.size hM224B
          refine i_norm ?_
          refine t_norm ?_
          refine wp_seq ?_
          refine wp_seq ?_
          refine wp_region_lit ?_
          refine q_step hA234 rfl (d_loadRow (cs := (insC i)) (wn rfl) (hA234.ev (v := (.pointer (some ⟨g3, 0, none⟩))) rfl) row23 m235 ?_)
          intro a239 hA240
          refine q_step hA240 rfl (d_call (wn rfl) ent35 (map1 (hA240.ev (v := (.agg (insC i))) rfl)) (isOp_any i w230) ?_)
          rintro e244 w241 ⟨he243, hG242⟩
          have m245 := m235.grow hG242
          have m246 := m236.grow hG242
          have m247 := m237.grow hG242
          have b248 := below_grow b238 hG242 b238.size
          refine ⟨.bool true, he243.trans (ret_bool (by simp [opB, rdB, wrB, eq_of_beq hb216])), ?_⟩
          intro a249 hA250
          refine q_end ?_
          have hA251 : St 119 [(1, (.pointer (some ⟨g3, 0, none⟩))), (2, (.pointer (some ⟨g12, 0, none⟩))), (3, (.pointer (some ⟨g30, 0, none⟩))), (105, (.bool true))] a249 := hA250.cut _ (fm_cons (hA250.get 1 _ rfl) (fm_cons (hA250.get 2 _ rfl) (fm_cons (hA250.get 3 _ rfl) (fm_cons (hA250.get 105 _ rfl) fm_nil))))
          refine t_norm ?_
          refine c_true hA251 rfl ?_
          have hA252 : St 119 [(1, (.pointer (some ⟨g3, 0, none⟩))), (2, (.pointer (some ⟨g12, 0, none⟩))), (3, (.pointer (some ⟨g30, 0, none⟩)))] a249 := hA251.cut _ (fm_cons (hA251.get 1 _ rfl) (fm_cons (hA251.get 2 _ rfl) (fm_cons (hA251.get 3 _ rfl) fm_nil)))
          let M253 : Nat → Option (Array Value) := fun k => if k = g30 then some #[.int .i64 i.op, .int .i64 i.dst, .int .i64 (-1), .int .i64 (-1), .int .i64 0, .int .i64 i.loc, .int .i64 i.off, .int .i64 i.index, .int .i64 i.size, .int .i64 0, .bool i.acq, .bool i.weak, .bool false, .int .i64 0, .int .i64 0, .int .i64 0, .bool false] else none
          have hM253 : M253 = fun k => if k = g30 then some #[.int .i64 i.op, .int .i64 i.dst, .int .i64 (-1), .int .i64 (-1), .int .i64 0, .int .i64 i.loc, .int .i64 i.off, .int .i64 i.index, .int .i64 i.size, .int .i64 0, .bool i.acq, .bool i.weak, .bool false, .int .i64 0, .int .i64 0, .int .i64 0, .bool false] else none := rfl
          clear_value M253
          have hM254 : M253 g3 = none := ((congrFun hM253 g3).trans (if_neg n36))
          have hM255 : M253 g12 = none := ((congrFun hM253 g12).trans (if_neg n37))
          have hM256 : M253 g30 = some #[.int .i64 i.op, .int .i64 i.dst, .int .i64 (-1), .int .i64 (-1), .int .i64 0, .int .i64 i.loc, .int .i64 i.off, .int .i64 i.index, .int .i64 i.size, .int .i64 0, .bool i.acq, .bool i.weak, .bool false, .int .i64 0, .int .i64 0, .int .i64 0, .bool false] := ((congrFun hM253 g30).trans (if_pos rfl))
          have hM253B : ∀ k, k < w.heap.size → M253 k = none := (fun k hk => (congrFun hM253 k).trans (if_neg (fun h => Nat.lt_irrefl _ (Nat.lt_of_lt_of_le (h ▸ hk) ge35))))
          refine drawn (S := SM M253) (tabL [cv (.pointer (some ⟨g3, 5, none⟩)), cv (.int .i64 i.loc), cv (.pointer (some ⟨g3, 6, none⟩)), cv (.int .i64 i.off), cv (.pointer (some ⟨g3, 7, none⟩)), cv (.int .i64 i.index), cv (.pointer (some ⟨g3, 8, none⟩)), cv (.int .i64 i.size), cv (.pointer (some ⟨g30, 5, none⟩)), cm M253 g30 5 (.int .i64 i.loc) ⟨_, hM256, rfl⟩, cv (.pointer (some ⟨g30, 6, none⟩)), cm M253 g30 6 (.int .i64 i.off) ⟨_, hM256, rfl⟩, cv (.pointer (some ⟨g30, 7, none⟩)), cm M253 g30 7 (.int .i64 i.index) ⟨_, hM256, rfl⟩, cv (.pointer (some ⟨g30, 8, none⟩)), cm M253 g30 8 (.int .i64 i.size) ⟨_, hM256, rfl⟩]) mixedY SM.refl SM.trans SM.drew hA252 (by kernel_rfl) ?_ ?_
          · skip
            refine each_cons (fun x y hS hT hk => d_fieldAddr (wn rfl) (hT.ev (v := (.pointer (some ⟨g3, 0, none⟩))) rfl) fo23_5 ⟨SM.refl _, rfl⟩) ?_
            refine each_cons (fun x y hS hT hk => d_load (v := (.int .i64 i.loc)) (wn rfl) (hk 0 rfl) one3 ((Blk.sm (w := w241.drew) m245 hS hM254).cell rfl) ⟨SM.refl _, rfl⟩) ?_
            refine each_cons (fun x y hS hT hk => d_fieldAddr (wn rfl) (hT.ev (v := (.pointer (some ⟨g3, 0, none⟩))) rfl) fo23_6 ⟨SM.refl _, rfl⟩) ?_
            refine each_cons (fun x y hS hT hk => d_load (v := (.int .i64 i.off)) (wn rfl) (hk 2 rfl) one3 ((Blk.sm (w := w241.drew) m245 hS hM254).cell rfl) ⟨SM.refl _, rfl⟩) ?_
            refine each_cons (fun x y hS hT hk => d_fieldAddr (wn rfl) (hT.ev (v := (.pointer (some ⟨g3, 0, none⟩))) rfl) fo23_7 ⟨SM.refl _, rfl⟩) ?_
            refine each_cons (fun x y hS hT hk => d_load (v := (.int .i64 i.index)) (wn rfl) (hk 4 rfl) one3 ((Blk.sm (w := w241.drew) m245 hS hM254).cell rfl) ⟨SM.refl _, rfl⟩) ?_
            refine each_cons (fun x y hS hT hk => d_fieldAddr (wn rfl) (hT.ev (v := (.pointer (some ⟨g3, 0, none⟩))) rfl) fo23_8 ⟨SM.refl _, rfl⟩) ?_
            refine each_cons (fun x y hS hT hk => d_load (v := (.int .i64 i.size)) (wn rfl) (hk 6 rfl) one3 ((Blk.sm (w := w241.drew) m245 hS hM254).cell rfl) ⟨SM.refl _, rfl⟩) ?_
            refine each_cons (fun x y hS hT hk => d_fieldAddr (wn rfl) (hT.ev (v := (.pointer (some ⟨g30, 0, none⟩))) rfl) fo23_5 ⟨SM.refl _, rfl⟩) ?_
            refine each_cons (fun x y hS hT hk => d_storeM (v := (.int .i64 i.loc)) (w0 := w241.drew) (wn rfl) (hk 8 rfl) (hk 1 rfl) one3 rfl hS hM256 m247 (Nat.le_of_ble_eq_true rfl) rfl (fun _ h => h)) ?_
            refine each_cons (fun x y hS hT hk => d_fieldAddr (wn rfl) (hT.ev (v := (.pointer (some ⟨g30, 0, none⟩))) rfl) fo23_6 ⟨SM.refl _, rfl⟩) ?_
            refine each_cons (fun x y hS hT hk => d_storeM (v := (.int .i64 i.off)) (w0 := w241.drew) (wn rfl) (hk 10 rfl) (hk 3 rfl) one3 rfl hS hM256 m247 (Nat.le_of_ble_eq_true rfl) rfl (fun _ h => h)) ?_
            refine each_cons (fun x y hS hT hk => d_fieldAddr (wn rfl) (hT.ev (v := (.pointer (some ⟨g30, 0, none⟩))) rfl) fo23_7 ⟨SM.refl _, rfl⟩) ?_
            refine each_cons (fun x y hS hT hk => d_storeM (v := (.int .i64 i.index)) (w0 := w241.drew) (wn rfl) (hk 12 rfl) (hk 5 rfl) one3 rfl hS hM256 m247 (Nat.le_of_ble_eq_true rfl) rfl (fun _ h => h)) ?_
            refine each_cons (fun x y hS hT hk => d_fieldAddr (wn rfl) (hT.ev (v := (.pointer (some ⟨g30, 0, none⟩))) rfl) fo23_8 ⟨SM.refl _, rfl⟩) ?_
            refine each_cons (fun x y hS hT hk => d_storeM (v := (.int .i64 i.size)) (w0 := w241.drew) (wn rfl) (hk 14 rfl) (hk 7 rfl) one3 rfl hS hM256 m247 (Nat.le_of_ble_eq_true rfl) rfl (fun _ h => h)) ?_
            exact each_nil
          intro f257 a258 w259 hS260 hC261 hA262
          have hA263 : St 119 [(2, (.pointer (some ⟨g12, 0, none⟩))), (3, (.pointer (some ⟨g30, 0, none⟩)))] a258 := hA262.cut _ (fm_cons (hA262.get 2 _ rfl) (fm_cons (hA262.get 3 _ rfl) fm_nil))
          have m264 := m245.sm hS260 hM254
          have m265 := m246.sm hS260 hM255
          have m266 : Blk w259 g30 #[.int .i64 i.op, .int .i64 i.dst, .int .i64 (-1), .int .i64 (-1), .int .i64 0, .int .i64 i.loc, .int .i64 i.off, .int .i64 i.index, .int .i64 i.size, .int .i64 0, .bool i.acq, .bool i.weak, .bool false, .int .i64 0, .int .i64 0, .int .i64 0, .bool false] 23 := hS260.finL [(5, (.int .i64 i.loc)), (6, (.int .i64 i.off)), (7, (.int .i64 i.index)), (8, (.int .i64 i.size))] hM256 (by kernel_rfl) m247 (fm_cons (hC261 9 (Nat.le_of_ble_eq_true rfl)) (fm_cons (hC261 11 (Nat.le_of_ble_eq_true rfl)) (fm_cons (hC261 13 (Nat.le_of_ble_eq_true rfl)) (fm_cons (hC261 15 (Nat.le_of_ble_eq_true rfl)) fm_nil))))
          have b267 := hS260.below b248 b248.size hM253B
          refine t_norm ?_
          refine wp_seq ?_
          refine wp_region_lit ?_
          refine q_step hA263 rfl (d_loadRow (cs := #[.int .i64 i.op, .int .i64 i.dst, .int .i64 (-1), .int .i64 (-1), .int .i64 0, .int .i64 i.loc, .int .i64 i.off, .int .i64 i.index, .int .i64 i.size, .int .i64 0, .bool i.acq, .bool i.weak, .bool false, .int .i64 0, .int .i64 0, .int .i64 0, .bool false]) (wn rfl) (hA263.ev (v := (.pointer (some ⟨g30, 0, none⟩))) rfl) row23 m266 ?_)
          intro a268 hA269
          refine q_step hA269 rfl (d_storeRow (wn rfl) (hA269.ev (v := (.pointer (some ⟨g12, 0, none⟩))) rfl) (hA269.ev (v := (.agg #[.int .i64 i.op, .int .i64 i.dst, .int .i64 (-1), .int .i64 (-1), .int .i64 0, .int .i64 i.loc, .int .i64 i.off, .int .i64 i.index, .int .i64 i.size, .int .i64 0, .bool i.acq, .bool i.weak, .bool false, .int .i64 0, .int .i64 0, .int .i64 0, .bool false])) rfl) row23 m265 rfl rfl ?_)
          intro w270 hU271 (m272 : Blk w270 g12 #[.int .i64 i.op, .int .i64 i.dst, .int .i64 (-1), .int .i64 (-1), .int .i64 0, .int .i64 i.loc, .int .i64 i.off, .int .i64 i.index, .int .i64 i.size, .int .i64 0, .bool i.acq, .bool i.weak, .bool false, .int .i64 0, .int .i64 0, .int .i64 0, .bool false] 23)
          have m273 := m264.upd hU271 n18
          have m274 := m266.upd hU271 (Ne.symm n37)
          have b275 := hU271.below b267 ge17
          intro a276 hA277
          refine q_end ?_
          have hA278 : St 119 [(2, (.pointer (some ⟨g12, 0, none⟩)))] a276 := hA277.cut _ (fm_cons (hA277.get 2 _ rfl) fm_nil)
          refine t_norm ?_
          refine wp_ret ?_
          refine retRow (g := g12) (cs := #[.int .i64 i.op, .int .i64 i.dst, .int .i64 (-1), .int .i64 (-1), .int .i64 0, .int .i64 i.loc, .int .i64 i.off, .int .i64 i.index, .int .i64 i.size, .int .i64 0, .bool i.acq, .bool i.weak, .bool false, .int .i64 0, .int .i64 0, .int .i64 0, .bool false]) rfl hA278 rfl m272 row23 ?_
          exact ⟨ret_agg (by simp [insC, plainF, opB, rdB, wrB, hb57, hb110, hb163, eq_of_beq hb216]), b275⟩
        · skip
          have hq279 := ne_of_beq hb216
          refine q_step hA215 rfl (d_bin (wn rfl) (hA215.ev (v := (.int .i64 i.op)) rfl) (hA215.ev (v := (.int .i64 4)) rfl) (b_eq _ _ i.op 4 false _ hb216) ?_)
          intro a280 hA281
          refine q_step hA281 rfl (d_assign (wn rfl) (hA281.ev (v := (.bool false)) rfl) ?_)
          intro a282 hA283
          refine q_end ?_
          have hA284 : St 119 [(1, (.pointer (some ⟨g3, 0, none⟩))), (2, (.pointer (some ⟨g12, 0, none⟩))), (3, (.pointer (some ⟨g30, 0, none⟩))), (8, (.int .i64 i.op)), (44, (.bool false))] a282 := hA283.cut _ (fm_cons (hA283.get 1 _ rfl) (fm_cons (hA283.get 2 _ rfl) (fm_cons (hA283.get 3 _ rfl) (fm_cons (hA283.get 8 _ rfl) (fm_cons (hA283.get 44 _ rfl) fm_nil)))))
          refine t_norm ?_
          refine c_false hA284 rfl ?_
          refine wp_seq ?_
          refine wp_region_lit ?_
          rcases Bool.eq_false_or_eq_true (i.op == 5) with hb285 | hb285
          · skip
            have hq286 := eq_of_beq hb285
            refine q_step hA284 rfl (d_bin (wn rfl) (hA284.ev (v := (.int .i64 i.op)) rfl) (hA284.ev (v := (.int .i64 5)) rfl) (b_eq _ _ i.op 5 true _ hb285) ?_)
            intro a287 hA288
            refine q_step hA288 rfl (d_assign (wn rfl) (hA288.ev (v := (.bool true)) rfl) ?_)
            intro a289 hA290
            refine q_end ?_
            have hA291 : St 119 [(1, (.pointer (some ⟨g3, 0, none⟩))), (2, (.pointer (some ⟨g12, 0, none⟩))), (3, (.pointer (some ⟨g30, 0, none⟩))), (8, (.int .i64 i.op)), (55, (.bool true))] a289 := hA290.cut _ (fm_cons (hA290.get 1 _ rfl) (fm_cons (hA290.get 2 _ rfl) (fm_cons (hA290.get 3 _ rfl) (fm_cons (hA290.get 8 _ rfl) (fm_cons (hA290.get 55 _ rfl) fm_nil)))))
            refine t_norm ?_
            refine c_true hA291 rfl ?_
            have hA292 : St 119 [(1, (.pointer (some ⟨g3, 0, none⟩))), (2, (.pointer (some ⟨g12, 0, none⟩))), (3, (.pointer (some ⟨g30, 0, none⟩)))] a289 := hA291.cut _ (fm_cons (hA291.get 1 _ rfl) (fm_cons (hA291.get 2 _ rfl) (fm_cons (hA291.get 3 _ rfl) fm_nil)))
            let M293 : Nat → Option (Array Value) := fun k => if k = g30 then some #[.int .i64 i.op, .int .i64 (-1), .int .i64 i.a, .int .i64 (-1), .int .i64 (immF i i.a), .int .i64 0, .int .i64 0, .int .i64 (-1), .int .i64 0, .int .i64 0, .bool false, .bool false, .bool i.rel, .int .i64 0, .int .i64 0, .int .i64 0, .bool false] else none
            have hM293 : M293 = fun k => if k = g30 then some #[.int .i64 i.op, .int .i64 (-1), .int .i64 i.a, .int .i64 (-1), .int .i64 (immF i i.a), .int .i64 0, .int .i64 0, .int .i64 (-1), .int .i64 0, .int .i64 0, .bool false, .bool false, .bool i.rel, .int .i64 0, .int .i64 0, .int .i64 0, .bool false] else none := rfl
            clear_value M293
            have hM294 : M293 g3 = none := ((congrFun hM293 g3).trans (if_neg n36))
            have hM295 : M293 g12 = none := ((congrFun hM293 g12).trans (if_neg n37))
            have hM296 : M293 g30 = some #[.int .i64 i.op, .int .i64 (-1), .int .i64 i.a, .int .i64 (-1), .int .i64 (immF i i.a), .int .i64 0, .int .i64 0, .int .i64 (-1), .int .i64 0, .int .i64 0, .bool false, .bool false, .bool i.rel, .int .i64 0, .int .i64 0, .int .i64 0, .bool false] := ((congrFun hM293 g30).trans (if_pos rfl))
            have hM293B : ∀ k, k < w.heap.size → M293 k = none := (fun k hk => (congrFun hM293 k).trans (if_neg (fun h => Nat.lt_irrefl _ (Nat.lt_of_lt_of_le (h ▸ hk) ge35))))
            refine drawn (S := SM M293) (tabL [cv (.pointer (some ⟨g3, 2, none⟩)), cv (.int .i64 i.a), cv (.agg (insC i)), cv (.pointer (some ⟨g3, 2, none⟩)), cv (.int .i64 i.a), cv (.int .i64 (immF i i.a)), cv (.pointer (some ⟨g3, 12, none⟩)), cv (.bool i.rel), cv (.pointer (some ⟨g30, 2, none⟩)), cm M293 g30 2 (.int .i64 i.a) ⟨_, hM296, rfl⟩, cv (.pointer (some ⟨g30, 4, none⟩)), cm M293 g30 4 (.int .i64 (immF i i.a)) ⟨_, hM296, rfl⟩, cv (.pointer (some ⟨g30, 12, none⟩)), cm M293 g30 12 (.bool i.rel) ⟨_, hM296, rfl⟩]) mixedY SM.refl SM.trans SM.drew hA292 (by kernel_rfl) ?_ ?_
            · skip
              refine each_cons (fun x y hS hT hk => d_fieldAddr (wn rfl) (hT.ev (v := (.pointer (some ⟨g3, 0, none⟩))) rfl) fo23_2 ⟨SM.refl _, rfl⟩) ?_
              refine each_cons (fun x y hS hT hk => d_load (v := (.int .i64 i.a)) (wn rfl) (hk 0 rfl) one3 ((Blk.sm (w := w43.drew) m46 hS hM294).cell rfl) ⟨SM.refl _, rfl⟩) ?_
              refine each_cons (fun x y hS hT hk => d_loadRow (cs := (insC i)) (wn rfl) (hT.ev (v := (.pointer (some ⟨g3, 0, none⟩))) rfl) row23 (Blk.sm (w := w43.drew) m46 hS hM294) ⟨SM.refl _, rfl⟩) ?_
              refine each_cons (fun x y hS hT hk => d_fieldAddr (wn rfl) (hT.ev (v := (.pointer (some ⟨g3, 0, none⟩))) rfl) fo23_2 ⟨SM.refl _, rfl⟩) ?_
              refine each_cons (fun x y hS hT hk => d_load (v := (.int .i64 i.a)) (wn rfl) (hk 3 rfl) one3 ((Blk.sm (w := w43.drew) m46 hS hM294).cell rfl) ⟨SM.refl _, rfl⟩) ?_
              refine each_cons (fun x y hS hT hk => d_call (wn rfl) ent39 (map2 (show x.eval _ = (.agg (insC i)) from (hk 2 rfl)) (show x.eval _ = (.int .i64 i.a) from (hk 4 rfl))) (immFor_any i i.a y) (fun _ _ ⟨he, hG⟩ => ⟨(.int .i64 (immF i i.a)), he, SM.grow hG, rfl⟩)) ?_
              refine each_cons (fun x y hS hT hk => d_fieldAddr (wn rfl) (hT.ev (v := (.pointer (some ⟨g3, 0, none⟩))) rfl) fo23_12 ⟨SM.refl _, rfl⟩) ?_
              refine each_cons (fun x y hS hT hk => d_load (v := (.bool i.rel)) (wn rfl) (hk 6 rfl) one4 ((Blk.sm (w := w43.drew) m46 hS hM294).cell rfl) ⟨SM.refl _, rfl⟩) ?_
              refine each_cons (fun x y hS hT hk => d_fieldAddr (wn rfl) (hT.ev (v := (.pointer (some ⟨g30, 0, none⟩))) rfl) fo23_2 ⟨SM.refl _, rfl⟩) ?_
              refine each_cons (fun x y hS hT hk => d_storeM (v := (.int .i64 i.a)) (w0 := w43.drew) (wn rfl) (hk 8 rfl) (hk 1 rfl) one3 rfl hS hM296 m45 (Nat.le_of_ble_eq_true rfl) rfl (fun _ h => h)) ?_
              refine each_cons (fun x y hS hT hk => d_fieldAddr (wn rfl) (hT.ev (v := (.pointer (some ⟨g30, 0, none⟩))) rfl) fo23_4 ⟨SM.refl _, rfl⟩) ?_
              refine each_cons (fun x y hS hT hk => d_storeM (v := (.int .i64 (immF i i.a))) (w0 := w43.drew) (wn rfl) (hk 10 rfl) (hk 5 rfl) one3 rfl hS hM296 m45 (Nat.le_of_ble_eq_true rfl) rfl (fun _ h => h)) ?_
              refine each_cons (fun x y hS hT hk => d_fieldAddr (wn rfl) (hT.ev (v := (.pointer (some ⟨g30, 0, none⟩))) rfl) fo23_12 ⟨SM.refl _, rfl⟩) ?_
              refine each_cons (fun x y hS hT hk => d_storeM (v := (.bool i.rel)) (w0 := w43.drew) (wn rfl) (hk 12 rfl) (hk 7 rfl) one4 rfl hS hM296 m45 (Nat.le_of_ble_eq_true rfl) rfl (fun _ h => h)) ?_
              exact each_nil
            intro f297 a298 w299 hS300 hC301 hA302
            have hA303 : St 119 [(1, (.pointer (some ⟨g3, 0, none⟩))), (2, (.pointer (some ⟨g12, 0, none⟩))), (3, (.pointer (some ⟨g30, 0, none⟩)))] a298 := hA302.cut _ (fm_cons (hA302.get 1 _ rfl) (fm_cons (hA302.get 2 _ rfl) (fm_cons (hA302.get 3 _ rfl) fm_nil)))
            have m304 := m46.sm hS300 hM294
            have m305 := m47.sm hS300 hM295
            have m306 : Blk w299 g30 #[.int .i64 i.op, .int .i64 (-1), .int .i64 i.a, .int .i64 (-1), .int .i64 (immF i i.a), .int .i64 0, .int .i64 0, .int .i64 (-1), .int .i64 0, .int .i64 0, .bool false, .bool false, .bool i.rel, .int .i64 0, .int .i64 0, .int .i64 0, .bool false] 23 := hS300.finL [(2, (.int .i64 i.a)), (4, (.int .i64 (immF i i.a))), (12, (.bool i.rel))] hM296 (by kernel_rfl) m45 (fm_cons (hC301 9 (Nat.le_of_ble_eq_true rfl)) (fm_cons (hC301 11 (Nat.le_of_ble_eq_true rfl)) (fm_cons (hC301 13 (Nat.le_of_ble_eq_true rfl)) fm_nil)))
            have b307 := hS300.below b48 b48.size hM293B
            refine i_norm ?_
            refine t_norm ?_
            refine wp_seq ?_
            refine wp_seq ?_
            refine wp_region_lit ?_
            refine q_step hA303 rfl (d_loadRow (cs := (insC i)) (wn rfl) (hA303.ev (v := (.pointer (some ⟨g3, 0, none⟩))) rfl) row23 m304 ?_)
            intro a308 hA309
            refine q_step hA309 rfl (d_call (wn rfl) ent35 (map1 (hA309.ev (v := (.agg (insC i))) rfl)) (isOp_any i w299) ?_)
            rintro e313 w310 ⟨he312, hG311⟩
            have m314 := m304.grow hG311
            have m315 := m305.grow hG311
            have m316 := m306.grow hG311
            have b317 := below_grow b307 hG311 b307.size
            refine ⟨.bool true, he312.trans (ret_bool (by simp [opB, rdB, wrB, eq_of_beq hb285])), ?_⟩
            intro a318 hA319
            refine q_end ?_
            have hA320 : St 119 [(1, (.pointer (some ⟨g3, 0, none⟩))), (2, (.pointer (some ⟨g12, 0, none⟩))), (3, (.pointer (some ⟨g30, 0, none⟩))), (105, (.bool true))] a318 := hA319.cut _ (fm_cons (hA319.get 1 _ rfl) (fm_cons (hA319.get 2 _ rfl) (fm_cons (hA319.get 3 _ rfl) (fm_cons (hA319.get 105 _ rfl) fm_nil))))
            refine t_norm ?_
            refine c_true hA320 rfl ?_
            have hA321 : St 119 [(1, (.pointer (some ⟨g3, 0, none⟩))), (2, (.pointer (some ⟨g12, 0, none⟩))), (3, (.pointer (some ⟨g30, 0, none⟩)))] a318 := hA320.cut _ (fm_cons (hA320.get 1 _ rfl) (fm_cons (hA320.get 2 _ rfl) (fm_cons (hA320.get 3 _ rfl) fm_nil)))
            let M322 : Nat → Option (Array Value) := fun k => if k = g30 then some #[.int .i64 i.op, .int .i64 (-1), .int .i64 i.a, .int .i64 (-1), .int .i64 (immF i i.a), .int .i64 i.loc, .int .i64 i.off, .int .i64 i.index, .int .i64 i.size, .int .i64 0, .bool false, .bool false, .bool i.rel, .int .i64 0, .int .i64 0, .int .i64 0, .bool false] else none
            have hM322 : M322 = fun k => if k = g30 then some #[.int .i64 i.op, .int .i64 (-1), .int .i64 i.a, .int .i64 (-1), .int .i64 (immF i i.a), .int .i64 i.loc, .int .i64 i.off, .int .i64 i.index, .int .i64 i.size, .int .i64 0, .bool false, .bool false, .bool i.rel, .int .i64 0, .int .i64 0, .int .i64 0, .bool false] else none := rfl
            clear_value M322
            have hM323 : M322 g3 = none := ((congrFun hM322 g3).trans (if_neg n36))
            have hM324 : M322 g12 = none := ((congrFun hM322 g12).trans (if_neg n37))
            have hM325 : M322 g30 = some #[.int .i64 i.op, .int .i64 (-1), .int .i64 i.a, .int .i64 (-1), .int .i64 (immF i i.a), .int .i64 i.loc, .int .i64 i.off, .int .i64 i.index, .int .i64 i.size, .int .i64 0, .bool false, .bool false, .bool i.rel, .int .i64 0, .int .i64 0, .int .i64 0, .bool false] := ((congrFun hM322 g30).trans (if_pos rfl))
            have hM322B : ∀ k, k < w.heap.size → M322 k = none := (fun k hk => (congrFun hM322 k).trans (if_neg (fun h => Nat.lt_irrefl _ (Nat.lt_of_lt_of_le (h ▸ hk) ge35))))
            refine drawn (S := SM M322) (tabL [cv (.pointer (some ⟨g3, 5, none⟩)), cv (.int .i64 i.loc), cv (.pointer (some ⟨g3, 6, none⟩)), cv (.int .i64 i.off), cv (.pointer (some ⟨g3, 7, none⟩)), cv (.int .i64 i.index), cv (.pointer (some ⟨g3, 8, none⟩)), cv (.int .i64 i.size), cv (.pointer (some ⟨g30, 5, none⟩)), cm M322 g30 5 (.int .i64 i.loc) ⟨_, hM325, rfl⟩, cv (.pointer (some ⟨g30, 6, none⟩)), cm M322 g30 6 (.int .i64 i.off) ⟨_, hM325, rfl⟩, cv (.pointer (some ⟨g30, 7, none⟩)), cm M322 g30 7 (.int .i64 i.index) ⟨_, hM325, rfl⟩, cv (.pointer (some ⟨g30, 8, none⟩)), cm M322 g30 8 (.int .i64 i.size) ⟨_, hM325, rfl⟩]) mixedY SM.refl SM.trans SM.drew hA321 (by kernel_rfl) ?_ ?_
            · skip
              refine each_cons (fun x y hS hT hk => d_fieldAddr (wn rfl) (hT.ev (v := (.pointer (some ⟨g3, 0, none⟩))) rfl) fo23_5 ⟨SM.refl _, rfl⟩) ?_
              refine each_cons (fun x y hS hT hk => d_load (v := (.int .i64 i.loc)) (wn rfl) (hk 0 rfl) one3 ((Blk.sm (w := w310.drew) m314 hS hM323).cell rfl) ⟨SM.refl _, rfl⟩) ?_
              refine each_cons (fun x y hS hT hk => d_fieldAddr (wn rfl) (hT.ev (v := (.pointer (some ⟨g3, 0, none⟩))) rfl) fo23_6 ⟨SM.refl _, rfl⟩) ?_
              refine each_cons (fun x y hS hT hk => d_load (v := (.int .i64 i.off)) (wn rfl) (hk 2 rfl) one3 ((Blk.sm (w := w310.drew) m314 hS hM323).cell rfl) ⟨SM.refl _, rfl⟩) ?_
              refine each_cons (fun x y hS hT hk => d_fieldAddr (wn rfl) (hT.ev (v := (.pointer (some ⟨g3, 0, none⟩))) rfl) fo23_7 ⟨SM.refl _, rfl⟩) ?_
              refine each_cons (fun x y hS hT hk => d_load (v := (.int .i64 i.index)) (wn rfl) (hk 4 rfl) one3 ((Blk.sm (w := w310.drew) m314 hS hM323).cell rfl) ⟨SM.refl _, rfl⟩) ?_
              refine each_cons (fun x y hS hT hk => d_fieldAddr (wn rfl) (hT.ev (v := (.pointer (some ⟨g3, 0, none⟩))) rfl) fo23_8 ⟨SM.refl _, rfl⟩) ?_
              refine each_cons (fun x y hS hT hk => d_load (v := (.int .i64 i.size)) (wn rfl) (hk 6 rfl) one3 ((Blk.sm (w := w310.drew) m314 hS hM323).cell rfl) ⟨SM.refl _, rfl⟩) ?_
              refine each_cons (fun x y hS hT hk => d_fieldAddr (wn rfl) (hT.ev (v := (.pointer (some ⟨g30, 0, none⟩))) rfl) fo23_5 ⟨SM.refl _, rfl⟩) ?_
              refine each_cons (fun x y hS hT hk => d_storeM (v := (.int .i64 i.loc)) (w0 := w310.drew) (wn rfl) (hk 8 rfl) (hk 1 rfl) one3 rfl hS hM325 m316 (Nat.le_of_ble_eq_true rfl) rfl (fun _ h => h)) ?_
              refine each_cons (fun x y hS hT hk => d_fieldAddr (wn rfl) (hT.ev (v := (.pointer (some ⟨g30, 0, none⟩))) rfl) fo23_6 ⟨SM.refl _, rfl⟩) ?_
              refine each_cons (fun x y hS hT hk => d_storeM (v := (.int .i64 i.off)) (w0 := w310.drew) (wn rfl) (hk 10 rfl) (hk 3 rfl) one3 rfl hS hM325 m316 (Nat.le_of_ble_eq_true rfl) rfl (fun _ h => h)) ?_
              refine each_cons (fun x y hS hT hk => d_fieldAddr (wn rfl) (hT.ev (v := (.pointer (some ⟨g30, 0, none⟩))) rfl) fo23_7 ⟨SM.refl _, rfl⟩) ?_
              refine each_cons (fun x y hS hT hk => d_storeM (v := (.int .i64 i.index)) (w0 := w310.drew) (wn rfl) (hk 12 rfl) (hk 5 rfl) one3 rfl hS hM325 m316 (Nat.le_of_ble_eq_true rfl) rfl (fun _ h => h)) ?_
              refine each_cons (fun x y hS hT hk => d_fieldAddr (wn rfl) (hT.ev (v := (.pointer (some ⟨g30, 0, none⟩))) rfl) fo23_8 ⟨SM.refl _, rfl⟩) ?_
              refine each_cons (fun x y hS hT hk => d_storeM (v := (.int .i64 i.size)) (w0 := w310.drew) (wn rfl) (hk 14 rfl) (hk 7 rfl) one3 rfl hS hM325 m316 (Nat.le_of_ble_eq_true rfl) rfl (fun _ h => h)) ?_
              exact each_nil
            intro f326 a327 w328 hS329 hC330 hA331
            have hA332 : St 119 [(2, (.pointer (some ⟨g12, 0, none⟩))), (3, (.pointer (some ⟨g30, 0, none⟩)))] a327 := hA331.cut _ (fm_cons (hA331.get 2 _ rfl) (fm_cons (hA331.get 3 _ rfl) fm_nil))
            have m333 := m314.sm hS329 hM323
            have m334 := m315.sm hS329 hM324
            have m335 : Blk w328 g30 #[.int .i64 i.op, .int .i64 (-1), .int .i64 i.a, .int .i64 (-1), .int .i64 (immF i i.a), .int .i64 i.loc, .int .i64 i.off, .int .i64 i.index, .int .i64 i.size, .int .i64 0, .bool false, .bool false, .bool i.rel, .int .i64 0, .int .i64 0, .int .i64 0, .bool false] 23 := hS329.finL [(5, (.int .i64 i.loc)), (6, (.int .i64 i.off)), (7, (.int .i64 i.index)), (8, (.int .i64 i.size))] hM325 (by kernel_rfl) m316 (fm_cons (hC330 9 (Nat.le_of_ble_eq_true rfl)) (fm_cons (hC330 11 (Nat.le_of_ble_eq_true rfl)) (fm_cons (hC330 13 (Nat.le_of_ble_eq_true rfl)) (fm_cons (hC330 15 (Nat.le_of_ble_eq_true rfl)) fm_nil))))
            have b336 := hS329.below b317 b317.size hM322B
            refine t_norm ?_
            refine wp_seq ?_
            refine wp_region_lit ?_
            refine q_step hA332 rfl (d_loadRow (cs := #[.int .i64 i.op, .int .i64 (-1), .int .i64 i.a, .int .i64 (-1), .int .i64 (immF i i.a), .int .i64 i.loc, .int .i64 i.off, .int .i64 i.index, .int .i64 i.size, .int .i64 0, .bool false, .bool false, .bool i.rel, .int .i64 0, .int .i64 0, .int .i64 0, .bool false]) (wn rfl) (hA332.ev (v := (.pointer (some ⟨g30, 0, none⟩))) rfl) row23 m335 ?_)
            intro a337 hA338
            refine q_step hA338 rfl (d_storeRow (wn rfl) (hA338.ev (v := (.pointer (some ⟨g12, 0, none⟩))) rfl) (hA338.ev (v := (.agg #[.int .i64 i.op, .int .i64 (-1), .int .i64 i.a, .int .i64 (-1), .int .i64 (immF i i.a), .int .i64 i.loc, .int .i64 i.off, .int .i64 i.index, .int .i64 i.size, .int .i64 0, .bool false, .bool false, .bool i.rel, .int .i64 0, .int .i64 0, .int .i64 0, .bool false])) rfl) row23 m334 rfl rfl ?_)
            intro w339 hU340 (m341 : Blk w339 g12 #[.int .i64 i.op, .int .i64 (-1), .int .i64 i.a, .int .i64 (-1), .int .i64 (immF i i.a), .int .i64 i.loc, .int .i64 i.off, .int .i64 i.index, .int .i64 i.size, .int .i64 0, .bool false, .bool false, .bool i.rel, .int .i64 0, .int .i64 0, .int .i64 0, .bool false] 23)
            have m342 := m333.upd hU340 n18
            have m343 := m335.upd hU340 (Ne.symm n37)
            have b344 := hU340.below b336 ge17
            intro a345 hA346
            refine q_end ?_
            have hA347 : St 119 [(2, (.pointer (some ⟨g12, 0, none⟩)))] a345 := hA346.cut _ (fm_cons (hA346.get 2 _ rfl) fm_nil)
            refine t_norm ?_
            refine wp_ret ?_
            refine retRow (g := g12) (cs := #[.int .i64 i.op, .int .i64 (-1), .int .i64 i.a, .int .i64 (-1), .int .i64 (immF i i.a), .int .i64 i.loc, .int .i64 i.off, .int .i64 i.index, .int .i64 i.size, .int .i64 0, .bool false, .bool false, .bool i.rel, .int .i64 0, .int .i64 0, .int .i64 0, .bool false]) rfl hA347 rfl m341 row23 ?_
            exact ⟨ret_agg (by simp [insC, plainF, opB, rdB, wrB, hb57, hb110, hb163, hb216, eq_of_beq hb285]), b344⟩
          · skip
            have hq348 := ne_of_beq hb285
            refine q_step hA284 rfl (d_bin (wn rfl) (hA284.ev (v := (.int .i64 i.op)) rfl) (hA284.ev (v := (.int .i64 5)) rfl) (b_eq _ _ i.op 5 false _ hb285) ?_)
            intro a349 hA350
            refine q_step hA350 rfl (d_assign (wn rfl) (hA350.ev (v := (.bool false)) rfl) ?_)
            intro a351 hA352
            refine q_end ?_
            have hA353 : St 119 [(1, (.pointer (some ⟨g3, 0, none⟩))), (2, (.pointer (some ⟨g12, 0, none⟩))), (3, (.pointer (some ⟨g30, 0, none⟩))), (8, (.int .i64 i.op)), (55, (.bool false))] a351 := hA352.cut _ (fm_cons (hA352.get 1 _ rfl) (fm_cons (hA352.get 2 _ rfl) (fm_cons (hA352.get 3 _ rfl) (fm_cons (hA352.get 8 _ rfl) (fm_cons (hA352.get 55 _ rfl) fm_nil)))))
            refine t_norm ?_
            refine c_false hA353 rfl ?_
            refine wp_seq ?_
            refine wp_region_lit ?_
            rcases Bool.eq_false_or_eq_true (i.op == 6) with hb354 | hb354
            · skip
              have hq355 := eq_of_beq hb354
              refine q_step hA353 rfl (d_bin (wn rfl) (hA353.ev (v := (.int .i64 i.op)) rfl) (hA353.ev (v := (.int .i64 6)) rfl) (b_eq _ _ i.op 6 true _ hb354) ?_)
              intro a356 hA357
              refine q_step hA357 rfl (d_assign (wn rfl) (hA357.ev (v := (.bool true)) rfl) ?_)
              intro a358 hA359
              refine q_end ?_
              have hA360 : St 119 [(1, (.pointer (some ⟨g3, 0, none⟩))), (2, (.pointer (some ⟨g12, 0, none⟩))), (3, (.pointer (some ⟨g30, 0, none⟩))), (8, (.int .i64 i.op)), (68, (.bool true))] a358 := hA359.cut _ (fm_cons (hA359.get 1 _ rfl) (fm_cons (hA359.get 2 _ rfl) (fm_cons (hA359.get 3 _ rfl) (fm_cons (hA359.get 8 _ rfl) (fm_cons (hA359.get 68 _ rfl) fm_nil)))))
              refine t_norm ?_
              refine c_true hA360 rfl ?_
              have hA361 : St 119 [(1, (.pointer (some ⟨g3, 0, none⟩))), (2, (.pointer (some ⟨g12, 0, none⟩))), (3, (.pointer (some ⟨g30, 0, none⟩)))] a358 := hA360.cut _ (fm_cons (hA360.get 1 _ rfl) (fm_cons (hA360.get 2 _ rfl) (fm_cons (hA360.get 3 _ rfl) fm_nil)))
              let M362 : Nat → Option (Array Value) := fun k => if k = g30 then some #[.int .i64 i.op, .int .i64 i.dst, .int .i64 i.a, .int .i64 (-1), .int .i64 0, .int .i64 0, .int .i64 0, .int .i64 (-1), .int .i64 0, .int .i64 i.fn, .bool i.acq, .bool false, .bool i.rel, .int .i64 0, .int .i64 0, .int .i64 0, .bool false] else none
              have hM362 : M362 = fun k => if k = g30 then some #[.int .i64 i.op, .int .i64 i.dst, .int .i64 i.a, .int .i64 (-1), .int .i64 0, .int .i64 0, .int .i64 0, .int .i64 (-1), .int .i64 0, .int .i64 i.fn, .bool i.acq, .bool false, .bool i.rel, .int .i64 0, .int .i64 0, .int .i64 0, .bool false] else none := rfl
              clear_value M362
              have hM363 : M362 g3 = none := ((congrFun hM362 g3).trans (if_neg n36))
              have hM364 : M362 g12 = none := ((congrFun hM362 g12).trans (if_neg n37))
              have hM365 : M362 g30 = some #[.int .i64 i.op, .int .i64 i.dst, .int .i64 i.a, .int .i64 (-1), .int .i64 0, .int .i64 0, .int .i64 0, .int .i64 (-1), .int .i64 0, .int .i64 i.fn, .bool i.acq, .bool false, .bool i.rel, .int .i64 0, .int .i64 0, .int .i64 0, .bool false] := ((congrFun hM362 g30).trans (if_pos rfl))
              have hM362B : ∀ k, k < w.heap.size → M362 k = none := (fun k hk => (congrFun hM362 k).trans (if_neg (fun h => Nat.lt_irrefl _ (Nat.lt_of_lt_of_le (h ▸ hk) ge35))))
              refine drawn (S := SM M362) (tabL [cv (.pointer (some ⟨g3, 1, none⟩)), cv (.int .i64 i.dst), cv (.pointer (some ⟨g3, 2, none⟩)), cv (.int .i64 i.a), cv (.pointer (some ⟨g3, 9, none⟩)), cv (.int .i64 i.fn), cv (.pointer (some ⟨g3, 10, none⟩)), cv (.bool i.acq), cv (.pointer (some ⟨g3, 12, none⟩)), cv (.bool i.rel), cv (.pointer (some ⟨g30, 1, none⟩)), cm M362 g30 1 (.int .i64 i.dst) ⟨_, hM365, rfl⟩, cv (.pointer (some ⟨g30, 2, none⟩)), cm M362 g30 2 (.int .i64 i.a) ⟨_, hM365, rfl⟩, cv (.pointer (some ⟨g30, 9, none⟩)), cm M362 g30 9 (.int .i64 i.fn) ⟨_, hM365, rfl⟩, cv (.pointer (some ⟨g30, 10, none⟩)), cm M362 g30 10 (.bool i.acq) ⟨_, hM365, rfl⟩, cv (.pointer (some ⟨g30, 12, none⟩)), cm M362 g30 12 (.bool i.rel) ⟨_, hM365, rfl⟩]) mixedY SM.refl SM.trans SM.drew hA361 (by kernel_rfl) ?_ ?_
              · skip
                refine each_cons (fun x y hS hT hk => d_fieldAddr (wn rfl) (hT.ev (v := (.pointer (some ⟨g3, 0, none⟩))) rfl) fo23_1 ⟨SM.refl _, rfl⟩) ?_
                refine each_cons (fun x y hS hT hk => d_load (v := (.int .i64 i.dst)) (wn rfl) (hk 0 rfl) one3 ((Blk.sm (w := w43.drew) m46 hS hM363).cell rfl) ⟨SM.refl _, rfl⟩) ?_
                refine each_cons (fun x y hS hT hk => d_fieldAddr (wn rfl) (hT.ev (v := (.pointer (some ⟨g3, 0, none⟩))) rfl) fo23_2 ⟨SM.refl _, rfl⟩) ?_
                refine each_cons (fun x y hS hT hk => d_load (v := (.int .i64 i.a)) (wn rfl) (hk 2 rfl) one3 ((Blk.sm (w := w43.drew) m46 hS hM363).cell rfl) ⟨SM.refl _, rfl⟩) ?_
                refine each_cons (fun x y hS hT hk => d_fieldAddr (wn rfl) (hT.ev (v := (.pointer (some ⟨g3, 0, none⟩))) rfl) fo23_9 ⟨SM.refl _, rfl⟩) ?_
                refine each_cons (fun x y hS hT hk => d_load (v := (.int .i64 i.fn)) (wn rfl) (hk 4 rfl) one3 ((Blk.sm (w := w43.drew) m46 hS hM363).cell rfl) ⟨SM.refl _, rfl⟩) ?_
                refine each_cons (fun x y hS hT hk => d_fieldAddr (wn rfl) (hT.ev (v := (.pointer (some ⟨g3, 0, none⟩))) rfl) fo23_10 ⟨SM.refl _, rfl⟩) ?_
                refine each_cons (fun x y hS hT hk => d_load (v := (.bool i.acq)) (wn rfl) (hk 6 rfl) one4 ((Blk.sm (w := w43.drew) m46 hS hM363).cell rfl) ⟨SM.refl _, rfl⟩) ?_
                refine each_cons (fun x y hS hT hk => d_fieldAddr (wn rfl) (hT.ev (v := (.pointer (some ⟨g3, 0, none⟩))) rfl) fo23_12 ⟨SM.refl _, rfl⟩) ?_
                refine each_cons (fun x y hS hT hk => d_load (v := (.bool i.rel)) (wn rfl) (hk 8 rfl) one4 ((Blk.sm (w := w43.drew) m46 hS hM363).cell rfl) ⟨SM.refl _, rfl⟩) ?_
                refine each_cons (fun x y hS hT hk => d_fieldAddr (wn rfl) (hT.ev (v := (.pointer (some ⟨g30, 0, none⟩))) rfl) fo23_1 ⟨SM.refl _, rfl⟩) ?_
                refine each_cons (fun x y hS hT hk => d_storeM (v := (.int .i64 i.dst)) (w0 := w43.drew) (wn rfl) (hk 10 rfl) (hk 1 rfl) one3 rfl hS hM365 m45 (Nat.le_of_ble_eq_true rfl) rfl (fun _ h => h)) ?_
                refine each_cons (fun x y hS hT hk => d_fieldAddr (wn rfl) (hT.ev (v := (.pointer (some ⟨g30, 0, none⟩))) rfl) fo23_2 ⟨SM.refl _, rfl⟩) ?_
                refine each_cons (fun x y hS hT hk => d_storeM (v := (.int .i64 i.a)) (w0 := w43.drew) (wn rfl) (hk 12 rfl) (hk 3 rfl) one3 rfl hS hM365 m45 (Nat.le_of_ble_eq_true rfl) rfl (fun _ h => h)) ?_
                refine each_cons (fun x y hS hT hk => d_fieldAddr (wn rfl) (hT.ev (v := (.pointer (some ⟨g30, 0, none⟩))) rfl) fo23_9 ⟨SM.refl _, rfl⟩) ?_
                refine each_cons (fun x y hS hT hk => d_storeM (v := (.int .i64 i.fn)) (w0 := w43.drew) (wn rfl) (hk 14 rfl) (hk 5 rfl) one3 rfl hS hM365 m45 (Nat.le_of_ble_eq_true rfl) rfl (fun _ h => h)) ?_
                refine each_cons (fun x y hS hT hk => d_fieldAddr (wn rfl) (hT.ev (v := (.pointer (some ⟨g30, 0, none⟩))) rfl) fo23_10 ⟨SM.refl _, rfl⟩) ?_
                refine each_cons (fun x y hS hT hk => d_storeM (v := (.bool i.acq)) (w0 := w43.drew) (wn rfl) (hk 16 rfl) (hk 7 rfl) one4 rfl hS hM365 m45 (Nat.le_of_ble_eq_true rfl) rfl (fun _ h => h)) ?_
                refine each_cons (fun x y hS hT hk => d_fieldAddr (wn rfl) (hT.ev (v := (.pointer (some ⟨g30, 0, none⟩))) rfl) fo23_12 ⟨SM.refl _, rfl⟩) ?_
                refine each_cons (fun x y hS hT hk => d_storeM (v := (.bool i.rel)) (w0 := w43.drew) (wn rfl) (hk 18 rfl) (hk 9 rfl) one4 rfl hS hM365 m45 (Nat.le_of_ble_eq_true rfl) rfl (fun _ h => h)) ?_
                exact each_nil
              intro f366 a367 w368 hS369 hC370 hA371
              have hA372 : St 119 [(1, (.pointer (some ⟨g3, 0, none⟩))), (2, (.pointer (some ⟨g12, 0, none⟩))), (3, (.pointer (some ⟨g30, 0, none⟩)))] a367 := hA371.cut _ (fm_cons (hA371.get 1 _ rfl) (fm_cons (hA371.get 2 _ rfl) (fm_cons (hA371.get 3 _ rfl) fm_nil)))
              have m373 := m46.sm hS369 hM363
              have m374 := m47.sm hS369 hM364
              have m375 : Blk w368 g30 #[.int .i64 i.op, .int .i64 i.dst, .int .i64 i.a, .int .i64 (-1), .int .i64 0, .int .i64 0, .int .i64 0, .int .i64 (-1), .int .i64 0, .int .i64 i.fn, .bool i.acq, .bool false, .bool i.rel, .int .i64 0, .int .i64 0, .int .i64 0, .bool false] 23 := hS369.finL [(1, (.int .i64 i.dst)), (2, (.int .i64 i.a)), (9, (.int .i64 i.fn)), (10, (.bool i.acq)), (12, (.bool i.rel))] hM365 (by kernel_rfl) m45 (fm_cons (hC370 11 (Nat.le_of_ble_eq_true rfl)) (fm_cons (hC370 13 (Nat.le_of_ble_eq_true rfl)) (fm_cons (hC370 15 (Nat.le_of_ble_eq_true rfl)) (fm_cons (hC370 17 (Nat.le_of_ble_eq_true rfl)) (fm_cons (hC370 19 (Nat.le_of_ble_eq_true rfl)) fm_nil)))))
              have b376 := hS369.below b48 b48.size hM362B
              refine i_norm ?_
              refine t_norm ?_
              refine wp_seq ?_
              refine wp_seq ?_
              refine wp_region_lit ?_
              refine q_step hA372 rfl (d_loadRow (cs := (insC i)) (wn rfl) (hA372.ev (v := (.pointer (some ⟨g3, 0, none⟩))) rfl) row23 m373 ?_)
              intro a377 hA378
              refine q_step hA378 rfl (d_call (wn rfl) ent35 (map1 (hA378.ev (v := (.agg (insC i))) rfl)) (isOp_any i w368) ?_)
              rintro e382 w379 ⟨he381, hG380⟩
              have m383 := m373.grow hG380
              have m384 := m374.grow hG380
              have m385 := m375.grow hG380
              have b386 := below_grow b376 hG380 b376.size
              refine ⟨.bool true, he381.trans (ret_bool (by simp [opB, rdB, wrB, eq_of_beq hb354])), ?_⟩
              intro a387 hA388
              refine q_end ?_
              have hA389 : St 119 [(1, (.pointer (some ⟨g3, 0, none⟩))), (2, (.pointer (some ⟨g12, 0, none⟩))), (3, (.pointer (some ⟨g30, 0, none⟩))), (105, (.bool true))] a387 := hA388.cut _ (fm_cons (hA388.get 1 _ rfl) (fm_cons (hA388.get 2 _ rfl) (fm_cons (hA388.get 3 _ rfl) (fm_cons (hA388.get 105 _ rfl) fm_nil))))
              refine t_norm ?_
              refine c_true hA389 rfl ?_
              have hA390 : St 119 [(1, (.pointer (some ⟨g3, 0, none⟩))), (2, (.pointer (some ⟨g12, 0, none⟩))), (3, (.pointer (some ⟨g30, 0, none⟩)))] a387 := hA389.cut _ (fm_cons (hA389.get 1 _ rfl) (fm_cons (hA389.get 2 _ rfl) (fm_cons (hA389.get 3 _ rfl) fm_nil)))
              let M391 : Nat → Option (Array Value) := fun k => if k = g30 then some #[.int .i64 i.op, .int .i64 i.dst, .int .i64 i.a, .int .i64 (-1), .int .i64 0, .int .i64 i.loc, .int .i64 i.off, .int .i64 i.index, .int .i64 i.size, .int .i64 i.fn, .bool i.acq, .bool false, .bool i.rel, .int .i64 0, .int .i64 0, .int .i64 0, .bool false] else none
              have hM391 : M391 = fun k => if k = g30 then some #[.int .i64 i.op, .int .i64 i.dst, .int .i64 i.a, .int .i64 (-1), .int .i64 0, .int .i64 i.loc, .int .i64 i.off, .int .i64 i.index, .int .i64 i.size, .int .i64 i.fn, .bool i.acq, .bool false, .bool i.rel, .int .i64 0, .int .i64 0, .int .i64 0, .bool false] else none := rfl
              clear_value M391
              have hM392 : M391 g3 = none := ((congrFun hM391 g3).trans (if_neg n36))
              have hM393 : M391 g12 = none := ((congrFun hM391 g12).trans (if_neg n37))
              have hM394 : M391 g30 = some #[.int .i64 i.op, .int .i64 i.dst, .int .i64 i.a, .int .i64 (-1), .int .i64 0, .int .i64 i.loc, .int .i64 i.off, .int .i64 i.index, .int .i64 i.size, .int .i64 i.fn, .bool i.acq, .bool false, .bool i.rel, .int .i64 0, .int .i64 0, .int .i64 0, .bool false] := ((congrFun hM391 g30).trans (if_pos rfl))
              have hM391B : ∀ k, k < w.heap.size → M391 k = none := (fun k hk => (congrFun hM391 k).trans (if_neg (fun h => Nat.lt_irrefl _ (Nat.lt_of_lt_of_le (h ▸ hk) ge35))))
              refine drawn (S := SM M391) (tabL [cv (.pointer (some ⟨g3, 5, none⟩)), cv (.int .i64 i.loc), cv (.pointer (some ⟨g3, 6, none⟩)), cv (.int .i64 i.off), cv (.pointer (some ⟨g3, 7, none⟩)), cv (.int .i64 i.index), cv (.pointer (some ⟨g3, 8, none⟩)), cv (.int .i64 i.size), cv (.pointer (some ⟨g30, 5, none⟩)), cm M391 g30 5 (.int .i64 i.loc) ⟨_, hM394, rfl⟩, cv (.pointer (some ⟨g30, 6, none⟩)), cm M391 g30 6 (.int .i64 i.off) ⟨_, hM394, rfl⟩, cv (.pointer (some ⟨g30, 7, none⟩)), cm M391 g30 7 (.int .i64 i.index) ⟨_, hM394, rfl⟩, cv (.pointer (some ⟨g30, 8, none⟩)), cm M391 g30 8 (.int .i64 i.size) ⟨_, hM394, rfl⟩]) mixedY SM.refl SM.trans SM.drew hA390 (by kernel_rfl) ?_ ?_
              · skip
                refine each_cons (fun x y hS hT hk => d_fieldAddr (wn rfl) (hT.ev (v := (.pointer (some ⟨g3, 0, none⟩))) rfl) fo23_5 ⟨SM.refl _, rfl⟩) ?_
                refine each_cons (fun x y hS hT hk => d_load (v := (.int .i64 i.loc)) (wn rfl) (hk 0 rfl) one3 ((Blk.sm (w := w379.drew) m383 hS hM392).cell rfl) ⟨SM.refl _, rfl⟩) ?_
                refine each_cons (fun x y hS hT hk => d_fieldAddr (wn rfl) (hT.ev (v := (.pointer (some ⟨g3, 0, none⟩))) rfl) fo23_6 ⟨SM.refl _, rfl⟩) ?_
                refine each_cons (fun x y hS hT hk => d_load (v := (.int .i64 i.off)) (wn rfl) (hk 2 rfl) one3 ((Blk.sm (w := w379.drew) m383 hS hM392).cell rfl) ⟨SM.refl _, rfl⟩) ?_
                refine each_cons (fun x y hS hT hk => d_fieldAddr (wn rfl) (hT.ev (v := (.pointer (some ⟨g3, 0, none⟩))) rfl) fo23_7 ⟨SM.refl _, rfl⟩) ?_
                refine each_cons (fun x y hS hT hk => d_load (v := (.int .i64 i.index)) (wn rfl) (hk 4 rfl) one3 ((Blk.sm (w := w379.drew) m383 hS hM392).cell rfl) ⟨SM.refl _, rfl⟩) ?_
                refine each_cons (fun x y hS hT hk => d_fieldAddr (wn rfl) (hT.ev (v := (.pointer (some ⟨g3, 0, none⟩))) rfl) fo23_8 ⟨SM.refl _, rfl⟩) ?_
                refine each_cons (fun x y hS hT hk => d_load (v := (.int .i64 i.size)) (wn rfl) (hk 6 rfl) one3 ((Blk.sm (w := w379.drew) m383 hS hM392).cell rfl) ⟨SM.refl _, rfl⟩) ?_
                refine each_cons (fun x y hS hT hk => d_fieldAddr (wn rfl) (hT.ev (v := (.pointer (some ⟨g30, 0, none⟩))) rfl) fo23_5 ⟨SM.refl _, rfl⟩) ?_
                refine each_cons (fun x y hS hT hk => d_storeM (v := (.int .i64 i.loc)) (w0 := w379.drew) (wn rfl) (hk 8 rfl) (hk 1 rfl) one3 rfl hS hM394 m385 (Nat.le_of_ble_eq_true rfl) rfl (fun _ h => h)) ?_
                refine each_cons (fun x y hS hT hk => d_fieldAddr (wn rfl) (hT.ev (v := (.pointer (some ⟨g30, 0, none⟩))) rfl) fo23_6 ⟨SM.refl _, rfl⟩) ?_
                refine each_cons (fun x y hS hT hk => d_storeM (v := (.int .i64 i.off)) (w0 := w379.drew) (wn rfl) (hk 10 rfl) (hk 3 rfl) one3 rfl hS hM394 m385 (Nat.le_of_ble_eq_true rfl) rfl (fun _ h => h)) ?_
                refine each_cons (fun x y hS hT hk => d_fieldAddr (wn rfl) (hT.ev (v := (.pointer (some ⟨g30, 0, none⟩))) rfl) fo23_7 ⟨SM.refl _, rfl⟩) ?_
                refine each_cons (fun x y hS hT hk => d_storeM (v := (.int .i64 i.index)) (w0 := w379.drew) (wn rfl) (hk 12 rfl) (hk 5 rfl) one3 rfl hS hM394 m385 (Nat.le_of_ble_eq_true rfl) rfl (fun _ h => h)) ?_
                refine each_cons (fun x y hS hT hk => d_fieldAddr (wn rfl) (hT.ev (v := (.pointer (some ⟨g30, 0, none⟩))) rfl) fo23_8 ⟨SM.refl _, rfl⟩) ?_
                refine each_cons (fun x y hS hT hk => d_storeM (v := (.int .i64 i.size)) (w0 := w379.drew) (wn rfl) (hk 14 rfl) (hk 7 rfl) one3 rfl hS hM394 m385 (Nat.le_of_ble_eq_true rfl) rfl (fun _ h => h)) ?_
                exact each_nil
              intro f395 a396 w397 hS398 hC399 hA400
              have hA401 : St 119 [(2, (.pointer (some ⟨g12, 0, none⟩))), (3, (.pointer (some ⟨g30, 0, none⟩)))] a396 := hA400.cut _ (fm_cons (hA400.get 2 _ rfl) (fm_cons (hA400.get 3 _ rfl) fm_nil))
              have m402 := m383.sm hS398 hM392
              have m403 := m384.sm hS398 hM393
              have m404 : Blk w397 g30 #[.int .i64 i.op, .int .i64 i.dst, .int .i64 i.a, .int .i64 (-1), .int .i64 0, .int .i64 i.loc, .int .i64 i.off, .int .i64 i.index, .int .i64 i.size, .int .i64 i.fn, .bool i.acq, .bool false, .bool i.rel, .int .i64 0, .int .i64 0, .int .i64 0, .bool false] 23 := hS398.finL [(5, (.int .i64 i.loc)), (6, (.int .i64 i.off)), (7, (.int .i64 i.index)), (8, (.int .i64 i.size))] hM394 (by kernel_rfl) m385 (fm_cons (hC399 9 (Nat.le_of_ble_eq_true rfl)) (fm_cons (hC399 11 (Nat.le_of_ble_eq_true rfl)) (fm_cons (hC399 13 (Nat.le_of_ble_eq_true rfl)) (fm_cons (hC399 15 (Nat.le_of_ble_eq_true rfl)) fm_nil))))
              have b405 := hS398.below b386 b386.size hM391B
              refine t_norm ?_
              refine wp_seq ?_
              refine wp_region_lit ?_
              refine q_step hA401 rfl (d_loadRow (cs := #[.int .i64 i.op, .int .i64 i.dst, .int .i64 i.a, .int .i64 (-1), .int .i64 0, .int .i64 i.loc, .int .i64 i.off, .int .i64 i.index, .int .i64 i.size, .int .i64 i.fn, .bool i.acq, .bool false, .bool i.rel, .int .i64 0, .int .i64 0, .int .i64 0, .bool false]) (wn rfl) (hA401.ev (v := (.pointer (some ⟨g30, 0, none⟩))) rfl) row23 m404 ?_)
              intro a406 hA407
              refine q_step hA407 rfl (d_storeRow (wn rfl) (hA407.ev (v := (.pointer (some ⟨g12, 0, none⟩))) rfl) (hA407.ev (v := (.agg #[.int .i64 i.op, .int .i64 i.dst, .int .i64 i.a, .int .i64 (-1), .int .i64 0, .int .i64 i.loc, .int .i64 i.off, .int .i64 i.index, .int .i64 i.size, .int .i64 i.fn, .bool i.acq, .bool false, .bool i.rel, .int .i64 0, .int .i64 0, .int .i64 0, .bool false])) rfl) row23 m403 rfl rfl ?_)
              intro w408 hU409 (m410 : Blk w408 g12 #[.int .i64 i.op, .int .i64 i.dst, .int .i64 i.a, .int .i64 (-1), .int .i64 0, .int .i64 i.loc, .int .i64 i.off, .int .i64 i.index, .int .i64 i.size, .int .i64 i.fn, .bool i.acq, .bool false, .bool i.rel, .int .i64 0, .int .i64 0, .int .i64 0, .bool false] 23)
              have m411 := m402.upd hU409 n18
              have m412 := m404.upd hU409 (Ne.symm n37)
              have b413 := hU409.below b405 ge17
              intro a414 hA415
              refine q_end ?_
              have hA416 : St 119 [(2, (.pointer (some ⟨g12, 0, none⟩)))] a414 := hA415.cut _ (fm_cons (hA415.get 2 _ rfl) fm_nil)
              refine t_norm ?_
              refine wp_ret ?_
              refine retRow (g := g12) (cs := #[.int .i64 i.op, .int .i64 i.dst, .int .i64 i.a, .int .i64 (-1), .int .i64 0, .int .i64 i.loc, .int .i64 i.off, .int .i64 i.index, .int .i64 i.size, .int .i64 i.fn, .bool i.acq, .bool false, .bool i.rel, .int .i64 0, .int .i64 0, .int .i64 0, .bool false]) rfl hA416 rfl m410 row23 ?_
              exact ⟨ret_agg (by simp [insC, plainF, opB, rdB, wrB, hb57, hb110, hb163, hb216, hb285, eq_of_beq hb354]), b413⟩
            · skip
              have hq417 := ne_of_beq hb354
              refine q_step hA353 rfl (d_bin (wn rfl) (hA353.ev (v := (.int .i64 i.op)) rfl) (hA353.ev (v := (.int .i64 6)) rfl) (b_eq _ _ i.op 6 false _ hb354) ?_)
              intro a418 hA419
              refine q_step hA419 rfl (d_assign (wn rfl) (hA419.ev (v := (.bool false)) rfl) ?_)
              intro a420 hA421
              refine q_end ?_
              have hA422 : St 119 [(1, (.pointer (some ⟨g3, 0, none⟩))), (2, (.pointer (some ⟨g12, 0, none⟩))), (3, (.pointer (some ⟨g30, 0, none⟩))), (8, (.int .i64 i.op)), (68, (.bool false))] a420 := hA421.cut _ (fm_cons (hA421.get 1 _ rfl) (fm_cons (hA421.get 2 _ rfl) (fm_cons (hA421.get 3 _ rfl) (fm_cons (hA421.get 8 _ rfl) (fm_cons (hA421.get 68 _ rfl) fm_nil)))))
              refine t_norm ?_
              refine c_false hA422 rfl ?_
              refine wp_seq ?_
              refine wp_region_lit ?_
              rcases Bool.eq_false_or_eq_true (i.op == 7) with hb423 | hb423
              · skip
                have hq424 := eq_of_beq hb423
                refine q_step hA422 rfl (d_bin (wn rfl) (hA422.ev (v := (.int .i64 i.op)) rfl) (hA422.ev (v := (.int .i64 7)) rfl) (b_eq _ _ i.op 7 true _ hb423) ?_)
                intro a425 hA426
                refine q_step hA426 rfl (d_assign (wn rfl) (hA426.ev (v := (.bool true)) rfl) ?_)
                intro a427 hA428
                refine q_end ?_
                have hA429 : St 119 [(1, (.pointer (some ⟨g3, 0, none⟩))), (2, (.pointer (some ⟨g12, 0, none⟩))), (3, (.pointer (some ⟨g30, 0, none⟩))), (8, (.int .i64 i.op)), (85, (.bool true))] a427 := hA428.cut _ (fm_cons (hA428.get 1 _ rfl) (fm_cons (hA428.get 2 _ rfl) (fm_cons (hA428.get 3 _ rfl) (fm_cons (hA428.get 8 _ rfl) (fm_cons (hA428.get 85 _ rfl) fm_nil)))))
                refine t_norm ?_
                refine c_true hA429 rfl ?_
                have hA430 : St 119 [(1, (.pointer (some ⟨g3, 0, none⟩))), (2, (.pointer (some ⟨g12, 0, none⟩))), (3, (.pointer (some ⟨g30, 0, none⟩)))] a427 := hA429.cut _ (fm_cons (hA429.get 1 _ rfl) (fm_cons (hA429.get 2 _ rfl) (fm_cons (hA429.get 3 _ rfl) fm_nil)))
                let M431 : Nat → Option (Array Value) := fun k => if k = g30 then some #[.int .i64 i.op, .int .i64 (-1), .int .i64 (-1), .int .i64 (-1), .int .i64 0, .int .i64 0, .int .i64 0, .int .i64 (-1), .int .i64 0, .int .i64 0, .bool false, .bool false, .bool false, .int .i64 i.pred, .int .i64 i.succ, .int .i64 0, .bool false] else none
                have hM431 : M431 = fun k => if k = g30 then some #[.int .i64 i.op, .int .i64 (-1), .int .i64 (-1), .int .i64 (-1), .int .i64 0, .int .i64 0, .int .i64 0, .int .i64 (-1), .int .i64 0, .int .i64 0, .bool false, .bool false, .bool false, .int .i64 i.pred, .int .i64 i.succ, .int .i64 0, .bool false] else none := rfl
                clear_value M431
                have hM432 : M431 g3 = none := ((congrFun hM431 g3).trans (if_neg n36))
                have hM433 : M431 g12 = none := ((congrFun hM431 g12).trans (if_neg n37))
                have hM434 : M431 g30 = some #[.int .i64 i.op, .int .i64 (-1), .int .i64 (-1), .int .i64 (-1), .int .i64 0, .int .i64 0, .int .i64 0, .int .i64 (-1), .int .i64 0, .int .i64 0, .bool false, .bool false, .bool false, .int .i64 i.pred, .int .i64 i.succ, .int .i64 0, .bool false] := ((congrFun hM431 g30).trans (if_pos rfl))
                have hM431B : ∀ k, k < w.heap.size → M431 k = none := (fun k hk => (congrFun hM431 k).trans (if_neg (fun h => Nat.lt_irrefl _ (Nat.lt_of_lt_of_le (h ▸ hk) ge35))))
                refine drawn (S := SM M431) (tabL [cv (.pointer (some ⟨g3, 13, none⟩)), cv (.int .i64 i.pred), cv (.pointer (some ⟨g3, 14, none⟩)), cv (.int .i64 i.succ), cv (.pointer (some ⟨g30, 13, none⟩)), cm M431 g30 13 (.int .i64 i.pred) ⟨_, hM434, rfl⟩, cv (.pointer (some ⟨g30, 14, none⟩)), cm M431 g30 14 (.int .i64 i.succ) ⟨_, hM434, rfl⟩]) mixedY SM.refl SM.trans SM.drew hA430 (by kernel_rfl) ?_ ?_
                · skip
                  refine each_cons (fun x y hS hT hk => d_fieldAddr (wn rfl) (hT.ev (v := (.pointer (some ⟨g3, 0, none⟩))) rfl) fo23_13 ⟨SM.refl _, rfl⟩) ?_
                  refine each_cons (fun x y hS hT hk => d_load (v := (.int .i64 i.pred)) (wn rfl) (hk 0 rfl) one3 ((Blk.sm (w := w43.drew) m46 hS hM432).cell rfl) ⟨SM.refl _, rfl⟩) ?_
                  refine each_cons (fun x y hS hT hk => d_fieldAddr (wn rfl) (hT.ev (v := (.pointer (some ⟨g3, 0, none⟩))) rfl) fo23_14 ⟨SM.refl _, rfl⟩) ?_
                  refine each_cons (fun x y hS hT hk => d_load (v := (.int .i64 i.succ)) (wn rfl) (hk 2 rfl) one3 ((Blk.sm (w := w43.drew) m46 hS hM432).cell rfl) ⟨SM.refl _, rfl⟩) ?_
                  refine each_cons (fun x y hS hT hk => d_fieldAddr (wn rfl) (hT.ev (v := (.pointer (some ⟨g30, 0, none⟩))) rfl) fo23_13 ⟨SM.refl _, rfl⟩) ?_
                  refine each_cons (fun x y hS hT hk => d_storeM (v := (.int .i64 i.pred)) (w0 := w43.drew) (wn rfl) (hk 4 rfl) (hk 1 rfl) one3 rfl hS hM434 m45 (Nat.le_of_ble_eq_true rfl) rfl (fun _ h => h)) ?_
                  refine each_cons (fun x y hS hT hk => d_fieldAddr (wn rfl) (hT.ev (v := (.pointer (some ⟨g30, 0, none⟩))) rfl) fo23_14 ⟨SM.refl _, rfl⟩) ?_
                  refine each_cons (fun x y hS hT hk => d_storeM (v := (.int .i64 i.succ)) (w0 := w43.drew) (wn rfl) (hk 6 rfl) (hk 3 rfl) one3 rfl hS hM434 m45 (Nat.le_of_ble_eq_true rfl) rfl (fun _ h => h)) ?_
                  exact each_nil
                intro f435 a436 w437 hS438 hC439 hA440
                have hA441 : St 119 [(1, (.pointer (some ⟨g3, 0, none⟩))), (2, (.pointer (some ⟨g12, 0, none⟩))), (3, (.pointer (some ⟨g30, 0, none⟩)))] a436 := hA440.cut _ (fm_cons (hA440.get 1 _ rfl) (fm_cons (hA440.get 2 _ rfl) (fm_cons (hA440.get 3 _ rfl) fm_nil)))
                have m442 := m46.sm hS438 hM432
                have m443 := m47.sm hS438 hM433
                have m444 : Blk w437 g30 #[.int .i64 i.op, .int .i64 (-1), .int .i64 (-1), .int .i64 (-1), .int .i64 0, .int .i64 0, .int .i64 0, .int .i64 (-1), .int .i64 0, .int .i64 0, .bool false, .bool false, .bool false, .int .i64 i.pred, .int .i64 i.succ, .int .i64 0, .bool false] 23 := hS438.finL [(13, (.int .i64 i.pred)), (14, (.int .i64 i.succ))] hM434 (by kernel_rfl) m45 (fm_cons (hC439 5 (Nat.le_of_ble_eq_true rfl)) (fm_cons (hC439 7 (Nat.le_of_ble_eq_true rfl)) fm_nil))
                have b445 := hS438.below b48 b48.size hM431B
                refine i_norm ?_
                refine t_norm ?_
                refine wp_seq ?_
                refine wp_seq ?_
                refine wp_region_lit ?_
                refine q_step hA441 rfl (d_loadRow (cs := (insC i)) (wn rfl) (hA441.ev (v := (.pointer (some ⟨g3, 0, none⟩))) rfl) row23 m442 ?_)
                intro a446 hA447
                refine q_step hA447 rfl (d_call (wn rfl) ent35 (map1 (hA447.ev (v := (.agg (insC i))) rfl)) (isOp_any i w437) ?_)
                rintro e451 w448 ⟨he450, hG449⟩
                have m452 := m442.grow hG449
                have m453 := m443.grow hG449
                have m454 := m444.grow hG449
                have b455 := below_grow b445 hG449 b445.size
                refine ⟨.bool false, he450.trans (ret_bool (by simp [opB, rdB, wrB, eq_of_beq hb423])), ?_⟩
                intro a456 hA457
                refine q_end ?_
                have hA458 : St 119 [(1, (.pointer (some ⟨g3, 0, none⟩))), (2, (.pointer (some ⟨g12, 0, none⟩))), (3, (.pointer (some ⟨g30, 0, none⟩))), (105, (.bool false))] a456 := hA457.cut _ (fm_cons (hA457.get 1 _ rfl) (fm_cons (hA457.get 2 _ rfl) (fm_cons (hA457.get 3 _ rfl) (fm_cons (hA457.get 105 _ rfl) fm_nil))))
                refine t_norm ?_
                refine c_false hA458 rfl ?_
                refine wp_skip ?_
                refine t_norm ?_
                refine wp_seq ?_
                refine wp_region_lit ?_
                refine q_step hA458 rfl (d_loadRow (cs := #[.int .i64 i.op, .int .i64 (-1), .int .i64 (-1), .int .i64 (-1), .int .i64 0, .int .i64 0, .int .i64 0, .int .i64 (-1), .int .i64 0, .int .i64 0, .bool false, .bool false, .bool false, .int .i64 i.pred, .int .i64 i.succ, .int .i64 0, .bool false]) (wn rfl) (hA458.ev (v := (.pointer (some ⟨g30, 0, none⟩))) rfl) row23 m454 ?_)
                intro a459 hA460
                refine q_step hA460 rfl (d_storeRow (wn rfl) (hA460.ev (v := (.pointer (some ⟨g12, 0, none⟩))) rfl) (hA460.ev (v := (.agg #[.int .i64 i.op, .int .i64 (-1), .int .i64 (-1), .int .i64 (-1), .int .i64 0, .int .i64 0, .int .i64 0, .int .i64 (-1), .int .i64 0, .int .i64 0, .bool false, .bool false, .bool false, .int .i64 i.pred, .int .i64 i.succ, .int .i64 0, .bool false])) rfl) row23 m453 rfl rfl ?_)
                intro w461 hU462 (m463 : Blk w461 g12 #[.int .i64 i.op, .int .i64 (-1), .int .i64 (-1), .int .i64 (-1), .int .i64 0, .int .i64 0, .int .i64 0, .int .i64 (-1), .int .i64 0, .int .i64 0, .bool false, .bool false, .bool false, .int .i64 i.pred, .int .i64 i.succ, .int .i64 0, .bool false] 23)
                have m464 := m452.upd hU462 n18
                have m465 := m454.upd hU462 (Ne.symm n37)
                have b466 := hU462.below b455 ge17
                intro a467 hA468
                refine q_end ?_
                have hA469 : St 119 [(2, (.pointer (some ⟨g12, 0, none⟩)))] a467 := hA468.cut _ (fm_cons (hA468.get 2 _ rfl) fm_nil)
                refine t_norm ?_
                refine wp_ret ?_
                refine retRow (g := g12) (cs := #[.int .i64 i.op, .int .i64 (-1), .int .i64 (-1), .int .i64 (-1), .int .i64 0, .int .i64 0, .int .i64 0, .int .i64 (-1), .int .i64 0, .int .i64 0, .bool false, .bool false, .bool false, .int .i64 i.pred, .int .i64 i.succ, .int .i64 0, .bool false]) rfl hA469 rfl m463 row23 ?_
                exact ⟨ret_agg (by simp [insC, plainF, opB, rdB, wrB, hb57, hb110, hb163, hb216, hb285, hb354, eq_of_beq hb423]), b466⟩
              · skip
                have hq470 := ne_of_beq hb423
                refine q_step hA422 rfl (d_bin (wn rfl) (hA422.ev (v := (.int .i64 i.op)) rfl) (hA422.ev (v := (.int .i64 7)) rfl) (b_eq _ _ i.op 7 false _ hb423) ?_)
                intro a471 hA472
                refine q_step hA472 rfl (d_assign (wn rfl) (hA472.ev (v := (.bool false)) rfl) ?_)
                intro a473 hA474
                refine q_end ?_
                have hA475 : St 119 [(1, (.pointer (some ⟨g3, 0, none⟩))), (2, (.pointer (some ⟨g12, 0, none⟩))), (3, (.pointer (some ⟨g30, 0, none⟩))), (8, (.int .i64 i.op)), (85, (.bool false))] a473 := hA474.cut _ (fm_cons (hA474.get 1 _ rfl) (fm_cons (hA474.get 2 _ rfl) (fm_cons (hA474.get 3 _ rfl) (fm_cons (hA474.get 8 _ rfl) (fm_cons (hA474.get 85 _ rfl) fm_nil)))))
                refine t_norm ?_
                refine c_false hA475 rfl ?_
                refine wp_seq ?_
                refine wp_region_lit ?_
                rcases Bool.eq_false_or_eq_true (i.op == 9) with hb476 | hb476
                · skip
                  have hq477 := eq_of_beq hb476
                  refine q_step hA475 rfl (d_bin (wn rfl) (hA475.ev (v := (.int .i64 i.op)) rfl) (hA475.ev (v := (.int .i64 9)) rfl) (b_eq _ _ i.op 9 true _ hb476) ?_)
                  intro a478 hA479
                  refine q_step hA479 rfl (d_assign (wn rfl) (hA479.ev (v := (.bool true)) rfl) ?_)
                  intro a480 hA481
                  refine q_end ?_
                  have hA482 : St 119 [(1, (.pointer (some ⟨g3, 0, none⟩))), (2, (.pointer (some ⟨g12, 0, none⟩))), (3, (.pointer (some ⟨g30, 0, none⟩))), (93, (.bool true))] a480 := hA481.cut _ (fm_cons (hA481.get 1 _ rfl) (fm_cons (hA481.get 2 _ rfl) (fm_cons (hA481.get 3 _ rfl) (fm_cons (hA481.get 93 _ rfl) fm_nil))))
                  refine t_norm ?_
                  refine c_true hA482 rfl ?_
                  have hA483 : St 119 [(1, (.pointer (some ⟨g3, 0, none⟩))), (2, (.pointer (some ⟨g12, 0, none⟩))), (3, (.pointer (some ⟨g30, 0, none⟩)))] a480 := hA482.cut _ (fm_cons (hA482.get 1 _ rfl) (fm_cons (hA482.get 2 _ rfl) (fm_cons (hA482.get 3 _ rfl) fm_nil)))
                  let M484 : Nat → Option (Array Value) := fun k => if k = g30 then some #[.int .i64 i.op, .int .i64 (-1), .int .i64 i.a, .int .i64 (-1), .int .i64 0, .int .i64 0, .int .i64 0, .int .i64 (-1), .int .i64 0, .int .i64 0, .bool false, .bool false, .bool false, .int .i64 0, .int .i64 0, .int .i64 i.to, .bool i.zero] else none
                  have hM484 : M484 = fun k => if k = g30 then some #[.int .i64 i.op, .int .i64 (-1), .int .i64 i.a, .int .i64 (-1), .int .i64 0, .int .i64 0, .int .i64 0, .int .i64 (-1), .int .i64 0, .int .i64 0, .bool false, .bool false, .bool false, .int .i64 0, .int .i64 0, .int .i64 i.to, .bool i.zero] else none := rfl
                  clear_value M484
                  have hM485 : M484 g3 = none := ((congrFun hM484 g3).trans (if_neg n36))
                  have hM486 : M484 g12 = none := ((congrFun hM484 g12).trans (if_neg n37))
                  have hM487 : M484 g30 = some #[.int .i64 i.op, .int .i64 (-1), .int .i64 i.a, .int .i64 (-1), .int .i64 0, .int .i64 0, .int .i64 0, .int .i64 (-1), .int .i64 0, .int .i64 0, .bool false, .bool false, .bool false, .int .i64 0, .int .i64 0, .int .i64 i.to, .bool i.zero] := ((congrFun hM484 g30).trans (if_pos rfl))
                  have hM484B : ∀ k, k < w.heap.size → M484 k = none := (fun k hk => (congrFun hM484 k).trans (if_neg (fun h => Nat.lt_irrefl _ (Nat.lt_of_lt_of_le (h ▸ hk) ge35))))
                  refine drawn (S := SM M484) (tabL [cv (.pointer (some ⟨g3, 2, none⟩)), cv (.int .i64 i.a), cv (.pointer (some ⟨g3, 16, none⟩)), cv (.bool i.zero), cv (.pointer (some ⟨g3, 15, none⟩)), cv (.int .i64 i.to), cv (.pointer (some ⟨g30, 2, none⟩)), cm M484 g30 2 (.int .i64 i.a) ⟨_, hM487, rfl⟩, cv (.pointer (some ⟨g30, 16, none⟩)), cm M484 g30 16 (.bool i.zero) ⟨_, hM487, rfl⟩, cv (.pointer (some ⟨g30, 15, none⟩)), cm M484 g30 15 (.int .i64 i.to) ⟨_, hM487, rfl⟩]) mixedY SM.refl SM.trans SM.drew hA483 (by kernel_rfl) ?_ ?_
                  · skip
                    refine each_cons (fun x y hS hT hk => d_fieldAddr (wn rfl) (hT.ev (v := (.pointer (some ⟨g3, 0, none⟩))) rfl) fo23_2 ⟨SM.refl _, rfl⟩) ?_
                    refine each_cons (fun x y hS hT hk => d_load (v := (.int .i64 i.a)) (wn rfl) (hk 0 rfl) one3 ((Blk.sm (w := w43.drew) m46 hS hM485).cell rfl) ⟨SM.refl _, rfl⟩) ?_
                    refine each_cons (fun x y hS hT hk => d_fieldAddr (wn rfl) (hT.ev (v := (.pointer (some ⟨g3, 0, none⟩))) rfl) fo23_16 ⟨SM.refl _, rfl⟩) ?_
                    refine each_cons (fun x y hS hT hk => d_load (v := (.bool i.zero)) (wn rfl) (hk 2 rfl) one4 ((Blk.sm (w := w43.drew) m46 hS hM485).cell rfl) ⟨SM.refl _, rfl⟩) ?_
                    refine each_cons (fun x y hS hT hk => d_fieldAddr (wn rfl) (hT.ev (v := (.pointer (some ⟨g3, 0, none⟩))) rfl) fo23_15 ⟨SM.refl _, rfl⟩) ?_
                    refine each_cons (fun x y hS hT hk => d_load (v := (.int .i64 i.to)) (wn rfl) (hk 4 rfl) one3 ((Blk.sm (w := w43.drew) m46 hS hM485).cell rfl) ⟨SM.refl _, rfl⟩) ?_
                    refine each_cons (fun x y hS hT hk => d_fieldAddr (wn rfl) (hT.ev (v := (.pointer (some ⟨g30, 0, none⟩))) rfl) fo23_2 ⟨SM.refl _, rfl⟩) ?_
                    refine each_cons (fun x y hS hT hk => d_storeM (v := (.int .i64 i.a)) (w0 := w43.drew) (wn rfl) (hk 6 rfl) (hk 1 rfl) one3 rfl hS hM487 m45 (Nat.le_of_ble_eq_true rfl) rfl (fun _ h => h)) ?_
                    refine each_cons (fun x y hS hT hk => d_fieldAddr (wn rfl) (hT.ev (v := (.pointer (some ⟨g30, 0, none⟩))) rfl) fo23_16 ⟨SM.refl _, rfl⟩) ?_
                    refine each_cons (fun x y hS hT hk => d_storeM (v := (.bool i.zero)) (w0 := w43.drew) (wn rfl) (hk 8 rfl) (hk 3 rfl) one4 rfl hS hM487 m45 (Nat.le_of_ble_eq_true rfl) rfl (fun _ h => h)) ?_
                    refine each_cons (fun x y hS hT hk => d_fieldAddr (wn rfl) (hT.ev (v := (.pointer (some ⟨g30, 0, none⟩))) rfl) fo23_15 ⟨SM.refl _, rfl⟩) ?_
                    refine each_cons (fun x y hS hT hk => d_storeM (v := (.int .i64 i.to)) (w0 := w43.drew) (wn rfl) (hk 10 rfl) (hk 5 rfl) one3 rfl hS hM487 m45 (Nat.le_of_ble_eq_true rfl) rfl (fun _ h => h)) ?_
                    exact each_nil
                  intro f488 a489 w490 hS491 hC492 hA493
                  have hA494 : St 119 [(1, (.pointer (some ⟨g3, 0, none⟩))), (2, (.pointer (some ⟨g12, 0, none⟩))), (3, (.pointer (some ⟨g30, 0, none⟩)))] a489 := hA493.cut _ (fm_cons (hA493.get 1 _ rfl) (fm_cons (hA493.get 2 _ rfl) (fm_cons (hA493.get 3 _ rfl) fm_nil)))
                  have m495 := m46.sm hS491 hM485
                  have m496 := m47.sm hS491 hM486
                  have m497 : Blk w490 g30 #[.int .i64 i.op, .int .i64 (-1), .int .i64 i.a, .int .i64 (-1), .int .i64 0, .int .i64 0, .int .i64 0, .int .i64 (-1), .int .i64 0, .int .i64 0, .bool false, .bool false, .bool false, .int .i64 0, .int .i64 0, .int .i64 i.to, .bool i.zero] 23 := hS491.finL [(2, (.int .i64 i.a)), (16, (.bool i.zero)), (15, (.int .i64 i.to))] hM487 (by kernel_rfl) m45 (fm_cons (hC492 7 (Nat.le_of_ble_eq_true rfl)) (fm_cons (hC492 9 (Nat.le_of_ble_eq_true rfl)) (fm_cons (hC492 11 (Nat.le_of_ble_eq_true rfl)) fm_nil)))
                  have b498 := hS491.below b48 b48.size hM484B
                  refine i_norm ?_
                  refine t_norm ?_
                  refine wp_seq ?_
                  refine wp_seq ?_
                  refine wp_region_lit ?_
                  refine q_step hA494 rfl (d_loadRow (cs := (insC i)) (wn rfl) (hA494.ev (v := (.pointer (some ⟨g3, 0, none⟩))) rfl) row23 m495 ?_)
                  intro a499 hA500
                  refine q_step hA500 rfl (d_call (wn rfl) ent35 (map1 (hA500.ev (v := (.agg (insC i))) rfl)) (isOp_any i w490) ?_)
                  rintro e504 w501 ⟨he503, hG502⟩
                  have m505 := m495.grow hG502
                  have m506 := m496.grow hG502
                  have m507 := m497.grow hG502
                  have b508 := below_grow b498 hG502 b498.size
                  refine ⟨.bool false, he503.trans (ret_bool (by simp [opB, rdB, wrB, eq_of_beq hb476])), ?_⟩
                  intro a509 hA510
                  refine q_end ?_
                  have hA511 : St 119 [(1, (.pointer (some ⟨g3, 0, none⟩))), (2, (.pointer (some ⟨g12, 0, none⟩))), (3, (.pointer (some ⟨g30, 0, none⟩))), (105, (.bool false))] a509 := hA510.cut _ (fm_cons (hA510.get 1 _ rfl) (fm_cons (hA510.get 2 _ rfl) (fm_cons (hA510.get 3 _ rfl) (fm_cons (hA510.get 105 _ rfl) fm_nil))))
                  refine t_norm ?_
                  refine c_false hA511 rfl ?_
                  refine wp_skip ?_
                  refine t_norm ?_
                  refine wp_seq ?_
                  refine wp_region_lit ?_
                  refine q_step hA511 rfl (d_loadRow (cs := #[.int .i64 i.op, .int .i64 (-1), .int .i64 i.a, .int .i64 (-1), .int .i64 0, .int .i64 0, .int .i64 0, .int .i64 (-1), .int .i64 0, .int .i64 0, .bool false, .bool false, .bool false, .int .i64 0, .int .i64 0, .int .i64 i.to, .bool i.zero]) (wn rfl) (hA511.ev (v := (.pointer (some ⟨g30, 0, none⟩))) rfl) row23 m507 ?_)
                  intro a512 hA513
                  refine q_step hA513 rfl (d_storeRow (wn rfl) (hA513.ev (v := (.pointer (some ⟨g12, 0, none⟩))) rfl) (hA513.ev (v := (.agg #[.int .i64 i.op, .int .i64 (-1), .int .i64 i.a, .int .i64 (-1), .int .i64 0, .int .i64 0, .int .i64 0, .int .i64 (-1), .int .i64 0, .int .i64 0, .bool false, .bool false, .bool false, .int .i64 0, .int .i64 0, .int .i64 i.to, .bool i.zero])) rfl) row23 m506 rfl rfl ?_)
                  intro w514 hU515 (m516 : Blk w514 g12 #[.int .i64 i.op, .int .i64 (-1), .int .i64 i.a, .int .i64 (-1), .int .i64 0, .int .i64 0, .int .i64 0, .int .i64 (-1), .int .i64 0, .int .i64 0, .bool false, .bool false, .bool false, .int .i64 0, .int .i64 0, .int .i64 i.to, .bool i.zero] 23)
                  have m517 := m505.upd hU515 n18
                  have m518 := m507.upd hU515 (Ne.symm n37)
                  have b519 := hU515.below b508 ge17
                  intro a520 hA521
                  refine q_end ?_
                  have hA522 : St 119 [(2, (.pointer (some ⟨g12, 0, none⟩)))] a520 := hA521.cut _ (fm_cons (hA521.get 2 _ rfl) fm_nil)
                  refine t_norm ?_
                  refine wp_ret ?_
                  refine retRow (g := g12) (cs := #[.int .i64 i.op, .int .i64 (-1), .int .i64 i.a, .int .i64 (-1), .int .i64 0, .int .i64 0, .int .i64 0, .int .i64 (-1), .int .i64 0, .int .i64 0, .bool false, .bool false, .bool false, .int .i64 0, .int .i64 0, .int .i64 i.to, .bool i.zero]) rfl hA522 rfl m516 row23 ?_
                  exact ⟨ret_agg (by simp [insC, plainF, opB, rdB, wrB, hb57, hb110, hb163, hb216, hb285, hb354, hb423, eq_of_beq hb476]), b519⟩
                · skip
                  have hq523 := ne_of_beq hb476
                  refine q_step hA475 rfl (d_bin (wn rfl) (hA475.ev (v := (.int .i64 i.op)) rfl) (hA475.ev (v := (.int .i64 9)) rfl) (b_eq _ _ i.op 9 false _ hb476) ?_)
                  intro a524 hA525
                  refine q_step hA525 rfl (d_assign (wn rfl) (hA525.ev (v := (.bool false)) rfl) ?_)
                  intro a526 hA527
                  refine q_end ?_
                  have hA528 : St 119 [(1, (.pointer (some ⟨g3, 0, none⟩))), (2, (.pointer (some ⟨g12, 0, none⟩))), (3, (.pointer (some ⟨g30, 0, none⟩))), (93, (.bool false))] a526 := hA527.cut _ (fm_cons (hA527.get 1 _ rfl) (fm_cons (hA527.get 2 _ rfl) (fm_cons (hA527.get 3 _ rfl) (fm_cons (hA527.get 93 _ rfl) fm_nil))))
                  refine t_norm ?_
                  refine c_false hA528 rfl ?_
                  refine wp_skip ?_
                  refine i_norm ?_
                  refine t_norm ?_
                  refine wp_seq ?_
                  refine wp_seq ?_
                  refine wp_region_lit ?_
                  refine q_step hA528 rfl (d_loadRow (cs := (insC i)) (wn rfl) (hA528.ev (v := (.pointer (some ⟨g3, 0, none⟩))) rfl) row23 m46 ?_)
                  intro a529 hA530
                  refine q_step hA530 rfl (d_call (wn rfl) ent35 (map1 (hA530.ev (v := (.agg (insC i))) rfl)) (isOp_any i w43) ?_)
                  rintro e534 w531 ⟨he533, hG532⟩
                  have m535 := m46.grow hG532
                  have m536 := m47.grow hG532
                  have m537 := m45.grow hG532
                  have b538 := below_grow b48 hG532 b48.size
                  refine ⟨.bool false, he533.trans (ret_bool (by simp [opB, rdB, wrB, hb57, hb110, hb163, hb216, hb285, hb354, hb423, hb476])), ?_⟩
                  intro a539 hA540
                  refine q_end ?_
                  have hA541 : St 119 [(1, (.pointer (some ⟨g3, 0, none⟩))), (2, (.pointer (some ⟨g12, 0, none⟩))), (3, (.pointer (some ⟨g30, 0, none⟩))), (105, (.bool false))] a539 := hA540.cut _ (fm_cons (hA540.get 1 _ rfl) (fm_cons (hA540.get 2 _ rfl) (fm_cons (hA540.get 3 _ rfl) (fm_cons (hA540.get 105 _ rfl) fm_nil))))
                  refine t_norm ?_
                  refine c_false hA541 rfl ?_
                  refine wp_skip ?_
                  refine t_norm ?_
                  refine wp_seq ?_
                  refine wp_region_lit ?_
                  refine q_step hA541 rfl (d_loadRow (cs := #[.int .i64 i.op, .int .i64 (-1), .int .i64 (-1), .int .i64 (-1), .int .i64 0, .int .i64 0, .int .i64 0, .int .i64 (-1), .int .i64 0, .int .i64 0, .bool false, .bool false, .bool false, .int .i64 0, .int .i64 0, .int .i64 0, .bool false]) (wn rfl) (hA541.ev (v := (.pointer (some ⟨g30, 0, none⟩))) rfl) row23 m537 ?_)
                  intro a542 hA543
                  refine q_step hA543 rfl (d_storeRow (wn rfl) (hA543.ev (v := (.pointer (some ⟨g12, 0, none⟩))) rfl) (hA543.ev (v := (.agg #[.int .i64 i.op, .int .i64 (-1), .int .i64 (-1), .int .i64 (-1), .int .i64 0, .int .i64 0, .int .i64 0, .int .i64 (-1), .int .i64 0, .int .i64 0, .bool false, .bool false, .bool false, .int .i64 0, .int .i64 0, .int .i64 0, .bool false])) rfl) row23 m536 rfl rfl ?_)
                  intro w544 hU545 (m546 : Blk w544 g12 #[.int .i64 i.op, .int .i64 (-1), .int .i64 (-1), .int .i64 (-1), .int .i64 0, .int .i64 0, .int .i64 0, .int .i64 (-1), .int .i64 0, .int .i64 0, .bool false, .bool false, .bool false, .int .i64 0, .int .i64 0, .int .i64 0, .bool false] 23)
                  have m547 := m535.upd hU545 n18
                  have m548 := m537.upd hU545 (Ne.symm n37)
                  have b549 := hU545.below b538 ge17
                  intro a550 hA551
                  refine q_end ?_
                  have hA552 : St 119 [(2, (.pointer (some ⟨g12, 0, none⟩)))] a550 := hA551.cut _ (fm_cons (hA551.get 2 _ rfl) fm_nil)
                  refine t_norm ?_
                  refine wp_ret ?_
                  refine retRow (g := g12) (cs := #[.int .i64 i.op, .int .i64 (-1), .int .i64 (-1), .int .i64 (-1), .int .i64 0, .int .i64 0, .int .i64 0, .int .i64 (-1), .int .i64 0, .int .i64 0, .bool false, .bool false, .bool false, .int .i64 0, .int .i64 0, .int .i64 0, .bool false]) rfl hA552 rfl m546 row23 ?_
                  exact ⟨ret_agg (by simp [insC, plainF, opB, rdB, wrB, hb57, hb110, hb163, hb216, hb285, hb354, hb423, hb476]), b549⟩
end Go.Proofs.Ytlhompedcphnnaa
