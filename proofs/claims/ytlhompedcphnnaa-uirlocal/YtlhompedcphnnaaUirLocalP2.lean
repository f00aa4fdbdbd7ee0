/- Contracts of functions on single instructions. -/
import Derived.Test.YtlhompedcphnnaaUirLocalP1
namespace Go.Proofs.Ytlhompedcphnnaa
open Go.RowKit
set_option linter.unusedSimpArgs false
set_option linter.unusedVariables false
set_option maxHeartbeats 4000000 in
set_option maxRecDepth 4000 in
theorem plain_any (i : Ins) (w : World) : Calls Try.prog 28 #[.agg (insC i)] w fun e w' => e = .returned (.agg (insC (plainF i))) ∧ Grow w w' := by
 have b0 : Below w.heap.size w w := Below.refl _ _
 refine enter (n := 119) Try.func28 rfl rfl (Nat.le_of_ble_eq_true rfl) ?_
 intro a1 hA2
 refine wp_seq ?_
 refine wp_region_lit ?_
 refine qs hA2 rfl (d_box (wn rfl) (hA2.ev rfl) ?_)
 intro g3 w4 eg5 hG6 (m7 : Blk w4 g3 (insC i) 23)
 have ge8 : w.heap.size ≤ g3 := eg5 ▸ b0.size
 have b9 := blg b0 hG6 b0.size
 intro a10 hA11
 refine qs hA11 rfl (dal (wn rfl) zero23 ?_)
 intro g12 w13 eg14 hG15 (m16 : Blk w13 g12 #[.int .i64 0, .int .i64 0, .int .i64 0, .int .i64 0, .int .i64 0, .int .i64 0, .int .i64 0, .int .i64 0, .int .i64 0, .int .i64 0, .bool false, .bool false, .bool false, .int .i64 0, .int .i64 0, .int .i64 0, .bool false] 23)
 have ge17 : w.heap.size ≤ g12 := eg14 ▸ b9.size
 have n18 : g3 ≠ g12 := fun h => Nat.lt_irrefl _ ((h.trans eg14) ▸ m7.lt)
 have m19 := m7.grow hG15
 have b20 := blg b9 hG15 b9.size
 intro a21 hA22
 refine qe_ ?_
 refine tn_ ?_
 refine wp_seq ?_
 refine wp_region_lit ?_
 refine qs hA22 rfl (dfa (wn rfl) (hA22.ev rfl) fo23_0 ?_)
 intro a23 hA24
 refine qs hA24 rfl (dld (v := (.int .i64 i.op)) (wn rfl) (hA24.ev rfl) one3 (m19.cell rfl) ?_)
 intro a25 hA26
 refine qs hA26 rfl (dbd (cs := #[.int .i64 i.op, .int .i64 (-1), .int .i64 (-1), .int .i64 (-1), .int .i64 0, .int .i64 0, .int .i64 0, .int .i64 (-1), .int .i64 0, .int .i64 0, .bool false, .bool false, .bool false, .int .i64 0, .int .i64 0, .int .i64 0, .bool false]) (wn rfl) (bp_of (bq_cons (hA26.ev rfl) (bq_cons (hA26.ev rfl) (bq_cons (hA26.ev rfl) (bq_cons (hA26.ev rfl) (bq_cons (hA26.ev rfl) bq_nil)))))) zero23 places23 (by kernel_rfl) ?_)
 intro a27 hA28
 refine qs hA28 rfl (dal (wn rfl) zero23 ?_)
 intro g29 w30 eg31 hG32 (m33 : Blk w30 g29 #[.int .i64 0, .int .i64 0, .int .i64 0, .int .i64 0, .int .i64 0, .int .i64 0, .int .i64 0, .int .i64 0, .int .i64 0, .int .i64 0, .bool false, .bool false, .bool false, .int .i64 0, .int .i64 0, .int .i64 0, .bool false] 23)
 have ge34 : w.heap.size ≤ g29 := eg31 ▸ b20.size
 have n35 : g3 ≠ g29 := fun h => Nat.lt_irrefl _ ((h.trans eg31) ▸ m19.lt)
 have n36 : g12 ≠ g29 := fun h => Nat.lt_irrefl _ ((h.trans eg31) ▸ m16.lt)
 have m37 := m19.grow hG32
 have m38 := m16.grow hG32
 have b39 := blg b20 hG32 b20.size
 intro a40 hA41
 refine qs hA41 rfl (dsr (wn rfl) (hA41.ev rfl) (hA41.ev rfl) row23 m33 rfl rfl ?_)
 intro w42 hU43 (m44 : Blk w42 g29 #[.int .i64 i.op, .int .i64 (-1), .int .i64 (-1), .int .i64 (-1), .int .i64 0, .int .i64 0, .int .i64 0, .int .i64 (-1), .int .i64 0, .int .i64 0, .bool false, .bool false, .bool false, .int .i64 0, .int .i64 0, .int .i64 0, .bool false] 23)
 have m45 := m37.upd hU43 n35
 have m46 := m38.upd hU43 n36
 have b47 := hU43.below b39 ge34
 intro a48 hA49
 refine qe_ ?_
 refine tn_ ?_
 refine wp_seq ?_
 refine wp_seq ?_
 refine wp_region_lit ?_
 refine qs hA49 rfl (dfa (wn rfl) (hA49.ev rfl) fo23_0 ?_)
 intro a50 hA51
 refine qs hA51 rfl (dld (v := (.int .i64 i.op)) (wn rfl) (hA51.ev rfl) one3 (m45.cell rfl) ?_)
 intro a52 hA53
 refine qe_ ?_
 refine tn_ ?_
 refine wp_block ?_
 refine wp_seq ?_
 refine wp_region_lit ?_
 rcases Bool.eq_false_or_eq_true (i.op == 1) with hb54 | hb54
 ·skip
  have hq55 := eq_of_beq hb54
  refine qs hA53 rfl (dbn (wn rfl) (hA53.ev rfl) (hA53.ev rfl) (b_eq _ _ i.op 1 true _ hb54) ?_)
  intro a56 hA57
  refine qs hA57 rfl (das (wn rfl) (hA57.ev rfl) ?_)
  intro a58 hA59
  refine qe_ ?_
  refine tn_ ?_
  refine c_true hA59 rfl ?_
  have hA60 : St 119 [(1, (.pointer (some ⟨g3, 0, none⟩))), (2, (.pointer (some ⟨g12, 0, none⟩))), (3, (.pointer (some ⟨g29, 0, none⟩)))] a58 := hA59.sub rfl
  let M61 : Nat → Option (Array Value) := fun k => if k = g29 then some #[.int .i64 i.op, .int .i64 i.dst, .int .i64 (-1), .int .i64 (-1), .int .i64 i.imm, .int .i64 0, .int .i64 0, .int .i64 (-1), .int .i64 0, .int .i64 0, .bool false, .bool false, .bool false, .int .i64 0, .int .i64 0, .int .i64 0, .bool false] else none
  have hM61 : M61 = fun k => if k = g29 then some #[.int .i64 i.op, .int .i64 i.dst, .int .i64 (-1), .int .i64 (-1), .int .i64 i.imm, .int .i64 0, .int .i64 0, .int .i64 (-1), .int .i64 0, .int .i64 0, .bool false, .bool false, .bool false, .int .i64 0, .int .i64 0, .int .i64 0, .bool false] else none := rfl
  clear_value M61
  have hM62 : M61 g3 = none := ((congrFun hM61 g3).trans (if_neg n35))
  have hM63 : M61 g12 = none := ((congrFun hM61 g12).trans (if_neg n36))
  have hM64 : M61 g29 = some #[.int .i64 i.op, .int .i64 i.dst, .int .i64 (-1), .int .i64 (-1), .int .i64 i.imm, .int .i64 0, .int .i64 0, .int .i64 (-1), .int .i64 0, .int .i64 0, .bool false, .bool false, .bool false, .int .i64 0, .int .i64 0, .int .i64 0, .bool false] := ((congrFun hM61 g29).trans (if_pos rfl))
  have hM61B : ∀ k, k < w.heap.size → M61 k = none := (fun k hk => (congrFun hM61 k).trans (if_neg (fun h => Nat.lt_irrefl _ (Nat.lt_of_lt_of_le (h ▸ hk) ge34))))
  refine drawn (S := SM M61) (tabL [cv (.pointer (some ⟨g3, 1, none⟩)), cv (.int .i64 i.dst), cv (.pointer (some ⟨g3, 4, none⟩)), cv (.int .i64 i.imm), cv (.pointer (some ⟨g29, 1, none⟩)), cm M61 g29 1 (.int .i64 i.dst) ⟨_, hM64, rfl⟩, cv (.pointer (some ⟨g29, 4, none⟩)), cm M61 g29 4 (.int .i64 i.imm) ⟨_, hM64, rfl⟩]) mixedY SM.refl SM.trans SM.drew hA60 (by kernel_rfl) ?_ ?_
  ·skip
   refine ec_ (fun x y hS hT hk => dfa (wn rfl) (hT.ev rfl) fo23_1 ⟨SM.refl _, rfl⟩) ?_
   refine ec_ (fun x y hS hT hk => dld (v := (.int .i64 i.dst)) (wn rfl) (hk 0 rfl) one3 ((Blk.sm (w := w42.drew) m45 hS hM62).cell rfl) ⟨SM.refl _, rfl⟩) ?_
   refine ec_ (fun x y hS hT hk => dfa (wn rfl) (hT.ev rfl) fo23_4 ⟨SM.refl _, rfl⟩) ?_
   refine ec_ (fun x y hS hT hk => dld (v := (.int .i64 i.imm)) (wn rfl) (hk 2 rfl) one3 ((Blk.sm (w := w42.drew) m45 hS hM62).cell rfl) ⟨SM.refl _, rfl⟩) ?_
   refine ec_ (fun x y hS hT hk => dfa (wn rfl) (hT.ev rfl) fo23_1 ⟨SM.refl _, rfl⟩) ?_
   refine ec_ (fun x y hS hT hk => d_storeM (v := (.int .i64 i.dst)) (w0 := w42.drew) (wn rfl) (hk 4 rfl) (hk 1 rfl) one3 rfl hS hM64 m44 (Nat.le_of_ble_eq_true rfl) rfl (fun _ h => h)) ?_
   refine ec_ (fun x y hS hT hk => dfa (wn rfl) (hT.ev rfl) fo23_4 ⟨SM.refl _, rfl⟩) ?_
   refine ec_ (fun x y hS hT hk => d_storeM (v := (.int .i64 i.imm)) (w0 := w42.drew) (wn rfl) (hk 6 rfl) (hk 3 rfl) one3 rfl hS hM64 m44 (Nat.le_of_ble_eq_true rfl) rfl (fun _ h => h)) ?_
   exact each_nil
  intro f65 a66 w67 hS68 hC69 hA70
  have hA71 : St 119 [(1, (.pointer (some ⟨g3, 0, none⟩))), (2, (.pointer (some ⟨g12, 0, none⟩))), (3, (.pointer (some ⟨g29, 0, none⟩)))] a66 := hA70.sub rfl
  have m72 := m45.sm hS68 hM62
  have m73 := m46.sm hS68 hM63
  have m74 : Blk w67 g29 #[.int .i64 i.op, .int .i64 i.dst, .int .i64 (-1), .int .i64 (-1), .int .i64 i.imm, .int .i64 0, .int .i64 0, .int .i64 (-1), .int .i64 0, .int .i64 0, .bool false, .bool false, .bool false, .int .i64 0, .int .i64 0, .int .i64 0, .bool false] 23 := hS68.finL [(1, (.int .i64 i.dst)), (4, (.int .i64 i.imm))] hM64 (by kernel_rfl) m44 (fc (hC69 5 (Nat.le_of_ble_eq_true rfl)) (fc (hC69 7 (Nat.le_of_ble_eq_true rfl)) fn_))
  have b75 := hS68.below b47 b47.size hM61B
  refine i_norm ?_
  refine tn_ ?_
  refine wp_seq ?_
  refine wp_seq ?_
  refine wp_region_lit ?_
  refine qs hA71 rfl (dlr (cs := (insC i)) (wn rfl) (hA71.ev rfl) row23 m72 ?_)
  intro a76 hA77
  refine qs hA77 rfl (dcl (wn rfl) ent35 (map1 (hA77.ev rfl)) (isOp_any i w67) ?_)
  rintro e81 w78 ⟨he80, hG79⟩
  have m82 := m72.grow hG79
  have m83 := m73.grow hG79
  have m84 := m74.grow hG79
  have b85 := blg b75 hG79 b75.size
  refine ⟨.bool false, he80.trans (ret_bool (by simp [opB, rdB, wrB, eq_of_beq hb54])), ?_⟩
  intro a86 hA87
  refine qe_ ?_
  refine tn_ ?_
  refine c_false hA87 rfl ?_
  refine wp_skip ?_
  refine tn_ ?_
  refine wp_seq ?_
  refine wp_region_lit ?_
  refine qs hA87 rfl (dlr (cs := #[.int .i64 i.op, .int .i64 i.dst, .int .i64 (-1), .int .i64 (-1), .int .i64 i.imm, .int .i64 0, .int .i64 0, .int .i64 (-1), .int .i64 0, .int .i64 0, .bool false, .bool false, .bool false, .int .i64 0, .int .i64 0, .int .i64 0, .bool false]) (wn rfl) (hA87.ev rfl) row23 m84 ?_)
  intro a88 hA89
  refine qs hA89 rfl (dsr (wn rfl) (hA89.ev rfl) (hA89.ev rfl) row23 m83 rfl rfl ?_)
  intro w90 hU91 (m92 : Blk w90 g12 #[.int .i64 i.op, .int .i64 i.dst, .int .i64 (-1), .int .i64 (-1), .int .i64 i.imm, .int .i64 0, .int .i64 0, .int .i64 (-1), .int .i64 0, .int .i64 0, .bool false, .bool false, .bool false, .int .i64 0, .int .i64 0, .int .i64 0, .bool false] 23)
  have m93 := m82.upd hU91 n18
  have m94 := m84.upd hU91 (Ne.symm n36)
  have b95 := hU91.below b85 ge17
  intro a96 hA97
  refine qe_ ?_
  refine tn_ ?_
  refine wp_ret ?_
  refine retRow (g := g12) (cs := #[.int .i64 i.op, .int .i64 i.dst, .int .i64 (-1), .int .i64 (-1), .int .i64 i.imm, .int .i64 0, .int .i64 0, .int .i64 (-1), .int .i64 0, .int .i64 0, .bool false, .bool false, .bool false, .int .i64 0, .int .i64 0, .int .i64 0, .bool false]) rfl hA97 rfl m92 row23 ?_
  exact ⟨ret_agg (by simp [insC, plainF, opB, rdB, wrB, eq_of_beq hb54]), b95⟩
 have hq98 := ne_of_beq hb54
 refine qs hA53 rfl (dbn (wn rfl) (hA53.ev rfl) (hA53.ev rfl) (b_eq _ _ i.op 1 false _ hb54) ?_)
 intro a99 hA100
 refine qs hA100 rfl (das (wn rfl) (hA100.ev rfl) ?_)
 intro a101 hA102
 refine qe_ ?_
 refine tn_ ?_
 refine c_false hA102 rfl ?_
 refine wp_seq ?_
 refine wp_region_lit ?_
 rcases Bool.eq_false_or_eq_true (i.op == 2) with hb103 | hb103
 ·skip
  have hq104 := eq_of_beq hb103
  refine qs hA102 rfl (dbn (wn rfl) (hA102.ev rfl) (hA102.ev rfl) (b_eq _ _ i.op 2 true _ hb103) ?_)
  intro a105 hA106
  refine qs hA106 rfl (das (wn rfl) (hA106.ev rfl) ?_)
  intro a107 hA108
  refine qe_ ?_
  refine tn_ ?_
  refine c_true hA108 rfl ?_
  have hA109 : St 119 [(1, (.pointer (some ⟨g3, 0, none⟩))), (2, (.pointer (some ⟨g12, 0, none⟩))), (3, (.pointer (some ⟨g29, 0, none⟩)))] a107 := hA108.sub rfl
  let M110 : Nat → Option (Array Value) := fun k => if k = g29 then some #[.int .i64 i.op, .int .i64 i.dst, .int .i64 i.a, .int .i64 (-1), .int .i64 0, .int .i64 0, .int .i64 0, .int .i64 (-1), .int .i64 0, .int .i64 0, .bool false, .bool false, .bool false, .int .i64 0, .int .i64 0, .int .i64 0, .bool false] else none
  have hM110 : M110 = fun k => if k = g29 then some #[.int .i64 i.op, .int .i64 i.dst, .int .i64 i.a, .int .i64 (-1), .int .i64 0, .int .i64 0, .int .i64 0, .int .i64 (-1), .int .i64 0, .int .i64 0, .bool false, .bool false, .bool false, .int .i64 0, .int .i64 0, .int .i64 0, .bool false] else none := rfl
  clear_value M110
  have hM111 : M110 g3 = none := ((congrFun hM110 g3).trans (if_neg n35))
  have hM112 : M110 g12 = none := ((congrFun hM110 g12).trans (if_neg n36))
  have hM113 : M110 g29 = some #[.int .i64 i.op, .int .i64 i.dst, .int .i64 i.a, .int .i64 (-1), .int .i64 0, .int .i64 0, .int .i64 0, .int .i64 (-1), .int .i64 0, .int .i64 0, .bool false, .bool false, .bool false, .int .i64 0, .int .i64 0, .int .i64 0, .bool false] := ((congrFun hM110 g29).trans (if_pos rfl))
  have hM110B : ∀ k, k < w.heap.size → M110 k = none := (fun k hk => (congrFun hM110 k).trans (if_neg (fun h => Nat.lt_irrefl _ (Nat.lt_of_lt_of_le (h ▸ hk) ge34))))
  refine drawn (S := SM M110) (tabL [cv (.pointer (some ⟨g3, 1, none⟩)), cv (.int .i64 i.dst), cv (.pointer (some ⟨g3, 2, none⟩)), cv (.int .i64 i.a), cv (.pointer (some ⟨g29, 1, none⟩)), cm M110 g29 1 (.int .i64 i.dst) ⟨_, hM113, rfl⟩, cv (.pointer (some ⟨g29, 2, none⟩)), cm M110 g29 2 (.int .i64 i.a) ⟨_, hM113, rfl⟩]) mixedY SM.refl SM.trans SM.drew hA109 (by kernel_rfl) ?_ ?_
  ·skip
   refine ec_ (fun x y hS hT hk => dfa (wn rfl) (hT.ev rfl) fo23_1 ⟨SM.refl _, rfl⟩) ?_
   refine ec_ (fun x y hS hT hk => dld (v := (.int .i64 i.dst)) (wn rfl) (hk 0 rfl) one3 ((Blk.sm (w := w42.drew) m45 hS hM111).cell rfl) ⟨SM.refl _, rfl⟩) ?_
   refine ec_ (fun x y hS hT hk => dfa (wn rfl) (hT.ev rfl) fo23_2 ⟨SM.refl _, rfl⟩) ?_
   refine ec_ (fun x y hS hT hk => dld (v := (.int .i64 i.a)) (wn rfl) (hk 2 rfl) one3 ((Blk.sm (w := w42.drew) m45 hS hM111).cell rfl) ⟨SM.refl _, rfl⟩) ?_
   refine ec_ (fun x y hS hT hk => dfa (wn rfl) (hT.ev rfl) fo23_1 ⟨SM.refl _, rfl⟩) ?_
   refine ec_ (fun x y hS hT hk => d_storeM (v := (.int .i64 i.dst)) (w0 := w42.drew) (wn rfl) (hk 4 rfl) (hk 1 rfl) one3 rfl hS hM113 m44 (Nat.le_of_ble_eq_true rfl) rfl (fun _ h => h)) ?_
   refine ec_ (fun x y hS hT hk => dfa (wn rfl) (hT.ev rfl) fo23_2 ⟨SM.refl _, rfl⟩) ?_
   refine ec_ (fun x y hS hT hk => d_storeM (v := (.int .i64 i.a)) (w0 := w42.drew) (wn rfl) (hk 6 rfl) (hk 3 rfl) one3 rfl hS hM113 m44 (Nat.le_of_ble_eq_true rfl) rfl (fun _ h => h)) ?_
   exact each_nil
  intro f114 a115 w116 hS117 hC118 hA119
  have hA120 : St 119 [(1, (.pointer (some ⟨g3, 0, none⟩))), (2, (.pointer (some ⟨g12, 0, none⟩))), (3, (.pointer (some ⟨g29, 0, none⟩)))] a115 := hA119.sub rfl
  have m121 := m45.sm hS117 hM111
  have m122 := m46.sm hS117 hM112
  have m123 : Blk w116 g29 #[.int .i64 i.op, .int .i64 i.dst, .int .i64 i.a, .int .i64 (-1), .int .i64 0, .int .i64 0, .int .i64 0, .int .i64 (-1), .int .i64 0, .int .i64 0, .bool false, .bool false, .bool false, .int .i64 0, .int .i64 0, .int .i64 0, .bool false] 23 := hS117.finL [(1, (.int .i64 i.dst)), (2, (.int .i64 i.a))] hM113 (by kernel_rfl) m44 (fc (hC118 5 (Nat.le_of_ble_eq_true rfl)) (fc (hC118 7 (Nat.le_of_ble_eq_true rfl)) fn_))
  have b124 := hS117.below b47 b47.size hM110B
  refine i_norm ?_
  refine tn_ ?_
  refine wp_seq ?_
  refine wp_seq ?_
  refine wp_region_lit ?_
  refine qs hA120 rfl (dlr (cs := (insC i)) (wn rfl) (hA120.ev rfl) row23 m121 ?_)
  intro a125 hA126
  refine qs hA126 rfl (dcl (wn rfl) ent35 (map1 (hA126.ev rfl)) (isOp_any i w116) ?_)
  rintro e130 w127 ⟨he129, hG128⟩
  have m131 := m121.grow hG128
  have m132 := m122.grow hG128
  have m133 := m123.grow hG128
  have b134 := blg b124 hG128 b124.size
  refine ⟨.bool false, he129.trans (ret_bool (by simp [opB, rdB, wrB, eq_of_beq hb103])), ?_⟩
  intro a135 hA136
  refine qe_ ?_
  refine tn_ ?_
  refine c_false hA136 rfl ?_
  refine wp_skip ?_
  refine tn_ ?_
  refine wp_seq ?_
  refine wp_region_lit ?_
  refine qs hA136 rfl (dlr (cs := #[.int .i64 i.op, .int .i64 i.dst, .int .i64 i.a, .int .i64 (-1), .int .i64 0, .int .i64 0, .int .i64 0, .int .i64 (-1), .int .i64 0, .int .i64 0, .bool false, .bool false, .bool false, .int .i64 0, .int .i64 0, .int .i64 0, .bool false]) (wn rfl) (hA136.ev rfl) row23 m133 ?_)
  intro a137 hA138
  refine qs hA138 rfl (dsr (wn rfl) (hA138.ev rfl) (hA138.ev rfl) row23 m132 rfl rfl ?_)
  intro w139 hU140 (m141 : Blk w139 g12 #[.int .i64 i.op, .int .i64 i.dst, .int .i64 i.a, .int .i64 (-1), .int .i64 0, .int .i64 0, .int .i64 0, .int .i64 (-1), .int .i64 0, .int .i64 0, .bool false, .bool false, .bool false, .int .i64 0, .int .i64 0, .int .i64 0, .bool false] 23)
  have m142 := m131.upd hU140 n18
  have m143 := m133.upd hU140 (Ne.symm n36)
  have b144 := hU140.below b134 ge17
  intro a145 hA146
  refine qe_ ?_
  refine tn_ ?_
  refine wp_ret ?_
  refine retRow (g := g12) (cs := #[.int .i64 i.op, .int .i64 i.dst, .int .i64 i.a, .int .i64 (-1), .int .i64 0, .int .i64 0, .int .i64 0, .int .i64 (-1), .int .i64 0, .int .i64 0, .bool false, .bool false, .bool false, .int .i64 0, .int .i64 0, .int .i64 0, .bool false]) rfl hA146 rfl m141 row23 ?_
  exact ⟨ret_agg (by simp [insC, plainF, opB, rdB, wrB, hb54, eq_of_beq hb103]), b144⟩
 have hq147 := ne_of_beq hb103
 refine qs hA102 rfl (dbn (wn rfl) (hA102.ev rfl) (hA102.ev rfl) (b_eq _ _ i.op 2 false _ hb103) ?_)
 intro a148 hA149
 refine qs hA149 rfl (das (wn rfl) (hA149.ev rfl) ?_)
 intro a150 hA151
 refine qe_ ?_
 refine tn_ ?_
 refine c_false hA151 rfl ?_
 refine wp_seq ?_
 refine wp_region_lit ?_
 rcases Bool.eq_false_or_eq_true (i.op == 3) with hb152 | hb152
 ·skip
  have hq153 := eq_of_beq hb152
  refine qs hA151 rfl (dbn (wn rfl) (hA151.ev rfl) (hA151.ev rfl) (b_eq _ _ i.op 3 true _ hb152) ?_)
  intro a154 hA155
  refine qs hA155 rfl (das (wn rfl) (hA155.ev rfl) ?_)
  intro a156 hA157
  refine qe_ ?_
  refine tn_ ?_
  refine c_true hA157 rfl ?_
  have hA158 : St 119 [(1, (.pointer (some ⟨g3, 0, none⟩))), (2, (.pointer (some ⟨g12, 0, none⟩))), (3, (.pointer (some ⟨g29, 0, none⟩)))] a156 := hA157.sub rfl
  let M159 : Nat → Option (Array Value) := fun k => if k = g29 then some #[.int .i64 i.op, .int .i64 i.dst, .int .i64 i.a, .int .i64 i.b, .int .i64 (immF i i.b), .int .i64 0, .int .i64 0, .int .i64 (-1), .int .i64 0, .int .i64 i.fn, .bool false, .bool false, .bool false, .int .i64 0, .int .i64 0, .int .i64 0, .bool false] else none
  have hM159 : M159 = fun k => if k = g29 then some #[.int .i64 i.op, .int .i64 i.dst, .int .i64 i.a, .int .i64 i.b, .int .i64 (immF i i.b), .int .i64 0, .int .i64 0, .int .i64 (-1), .int .i64 0, .int .i64 i.fn, .bool false, .bool false, .bool false, .int .i64 0, .int .i64 0, .int .i64 0, .bool false] else none := rfl
  clear_value M159
  have hM160 : M159 g3 = none := ((congrFun hM159 g3).trans (if_neg n35))
  have hM161 : M159 g12 = none := ((congrFun hM159 g12).trans (if_neg n36))
  have hM162 : M159 g29 = some #[.int .i64 i.op, .int .i64 i.dst, .int .i64 i.a, .int .i64 i.b, .int .i64 (immF i i.b), .int .i64 0, .int .i64 0, .int .i64 (-1), .int .i64 0, .int .i64 i.fn, .bool false, .bool false, .bool false, .int .i64 0, .int .i64 0, .int .i64 0, .bool false] := ((congrFun hM159 g29).trans (if_pos rfl))
  have hM159B : ∀ k, k < w.heap.size → M159 k = none := (fun k hk => (congrFun hM159 k).trans (if_neg (fun h => Nat.lt_irrefl _ (Nat.lt_of_lt_of_le (h ▸ hk) ge34))))
  refine drawn (S := SM M159) (tabL [cv (.pointer (some ⟨g3, 1, none⟩)), cv (.int .i64 i.dst), cv (.pointer (some ⟨g3, 9, none⟩)), cv (.int .i64 i.fn), cv (.pointer (some ⟨g3, 2, none⟩)), cv (.int .i64 i.a), cv (.pointer (some ⟨g3, 3, none⟩)), cv (.int .i64 i.b), cv (.agg (insC i)), cv (.pointer (some ⟨g3, 3, none⟩)), cv (.int .i64 i.b), cv (.int .i64 (immF i i.b)), cv (.pointer (some ⟨g29, 1, none⟩)), cm M159 g29 1 (.int .i64 i.dst) ⟨_, hM162, rfl⟩, cv (.pointer (some ⟨g29, 9, none⟩)), cm M159 g29 9 (.int .i64 i.fn) ⟨_, hM162, rfl⟩, cv (.pointer (some ⟨g29, 2, none⟩)), cm M159 g29 2 (.int .i64 i.a) ⟨_, hM162, rfl⟩, cv (.pointer (some ⟨g29, 3, none⟩)), cm M159 g29 3 (.int .i64 i.b) ⟨_, hM162, rfl⟩, cv (.pointer (some ⟨g29, 4, none⟩)), cm M159 g29 4 (.int .i64 (immF i i.b)) ⟨_, hM162, rfl⟩]) mixedY SM.refl SM.trans SM.drew hA158 (by kernel_rfl) ?_ ?_
  ·skip
   refine ec_ (fun x y hS hT hk => dfa (wn rfl) (hT.ev rfl) fo23_1 ⟨SM.refl _, rfl⟩) ?_
   refine ec_ (fun x y hS hT hk => dld (v := (.int .i64 i.dst)) (wn rfl) (hk 0 rfl) one3 ((Blk.sm (w := w42.drew) m45 hS hM160).cell rfl) ⟨SM.refl _, rfl⟩) ?_
   refine ec_ (fun x y hS hT hk => dfa (wn rfl) (hT.ev rfl) fo23_9 ⟨SM.refl _, rfl⟩) ?_
   refine ec_ (fun x y hS hT hk => dld (v := (.int .i64 i.fn)) (wn rfl) (hk 2 rfl) one3 ((Blk.sm (w := w42.drew) m45 hS hM160).cell rfl) ⟨SM.refl _, rfl⟩) ?_
   refine ec_ (fun x y hS hT hk => dfa (wn rfl) (hT.ev rfl) fo23_2 ⟨SM.refl _, rfl⟩) ?_
   refine ec_ (fun x y hS hT hk => dld (v := (.int .i64 i.a)) (wn rfl) (hk 4 rfl) one3 ((Blk.sm (w := w42.drew) m45 hS hM160).cell rfl) ⟨SM.refl _, rfl⟩) ?_
   refine ec_ (fun x y hS hT hk => dfa (wn rfl) (hT.ev rfl) fo23_3 ⟨SM.refl _, rfl⟩) ?_
   refine ec_ (fun x y hS hT hk => dld (v := (.int .i64 i.b)) (wn rfl) (hk 6 rfl) one3 ((Blk.sm (w := w42.drew) m45 hS hM160).cell rfl) ⟨SM.refl _, rfl⟩) ?_
   refine ec_ (fun x y hS hT hk => dlr (cs := (insC i)) (wn rfl) (hT.ev rfl) row23 (Blk.sm (w := w42.drew) m45 hS hM160) ⟨SM.refl _, rfl⟩) ?_
   refine ec_ (fun x y hS hT hk => dfa (wn rfl) (hT.ev rfl) fo23_3 ⟨SM.refl _, rfl⟩) ?_
   refine ec_ (fun x y hS hT hk => dld (v := (.int .i64 i.b)) (wn rfl) (hk 9 rfl) one3 ((Blk.sm (w := w42.drew) m45 hS hM160).cell rfl) ⟨SM.refl _, rfl⟩) ?_
   refine ec_ (fun x y hS hT hk => dcl (wn rfl) ent39 (map2 (show x.eval _ = (.agg (insC i)) from (hk 8 rfl)) (show x.eval _ = (.int .i64 i.b) from (hk 10 rfl))) (immFor_any i i.b y) (fun _ _ ⟨he, hG⟩ => ⟨(.int .i64 (immF i i.b)), he, SM.grow hG, rfl⟩)) ?_
   refine ec_ (fun x y hS hT hk => dfa (wn rfl) (hT.ev rfl) fo23_1 ⟨SM.refl _, rfl⟩) ?_
   refine ec_ (fun x y hS hT hk => d_storeM (v := (.int .i64 i.dst)) (w0 := w42.drew) (wn rfl) (hk 12 rfl) (hk 1 rfl) one3 rfl hS hM162 m44 (Nat.le_of_ble_eq_true rfl) rfl (fun _ h => h)) ?_
   refine ec_ (fun x y hS hT hk => dfa (wn rfl) (hT.ev rfl) fo23_9 ⟨SM.refl _, rfl⟩) ?_
   refine ec_ (fun x y hS hT hk => d_storeM (v := (.int .i64 i.fn)) (w0 := w42.drew) (wn rfl) (hk 14 rfl) (hk 3 rfl) one3 rfl hS hM162 m44 (Nat.le_of_ble_eq_true rfl) rfl (fun _ h => h)) ?_
   refine ec_ (fun x y hS hT hk => dfa (wn rfl) (hT.ev rfl) fo23_2 ⟨SM.refl _, rfl⟩) ?_
   refine ec_ (fun x y hS hT hk => d_storeM (v := (.int .i64 i.a)) (w0 := w42.drew) (wn rfl) (hk 16 rfl) (hk 5 rfl) one3 rfl hS hM162 m44 (Nat.le_of_ble_eq_true rfl) rfl (fun _ h => h)) ?_
   refine ec_ (fun x y hS hT hk => dfa (wn rfl) (hT.ev rfl) fo23_3 ⟨SM.refl _, rfl⟩) ?_
   refine ec_ (fun x y hS hT hk => d_storeM (v := (.int .i64 i.b)) (w0 := w42.drew) (wn rfl) (hk 18 rfl) (hk 7 rfl) one3 rfl hS hM162 m44 (Nat.le_of_ble_eq_true rfl) rfl (fun _ h => h)) ?_
   refine ec_ (fun x y hS hT hk => dfa (wn rfl) (hT.ev rfl) fo23_4 ⟨SM.refl _, rfl⟩) ?_
   refine ec_ (fun x y hS hT hk => d_storeM (v := (.int .i64 (immF i i.b))) (w0 := w42.drew) (wn rfl) (hk 20 rfl) (hk 11 rfl) one3 rfl hS hM162 m44 (Nat.le_of_ble_eq_true rfl) rfl (fun _ h => h)) ?_
   exact each_nil
  intro f163 a164 w165 hS166 hC167 hA168
  have hA169 : St 119 [(1, (.pointer (some ⟨g3, 0, none⟩))), (2, (.pointer (some ⟨g12, 0, none⟩))), (3, (.pointer (some ⟨g29, 0, none⟩)))] a164 := hA168.sub rfl
  have m170 := m45.sm hS166 hM160
  have m171 := m46.sm hS166 hM161
  have m172 : Blk w165 g29 #[.int .i64 i.op, .int .i64 i.dst, .int .i64 i.a, .int .i64 i.b, .int .i64 (immF i i.b), .int .i64 0, .int .i64 0, .int .i64 (-1), .int .i64 0, .int .i64 i.fn, .bool false, .bool false, .bool false, .int .i64 0, .int .i64 0, .int .i64 0, .bool false] 23 := hS166.finL [(1, (.int .i64 i.dst)), (9, (.int .i64 i.fn)), (2, (.int .i64 i.a)), (3, (.int .i64 i.b)), (4, (.int .i64 (immF i i.b)))] hM162 (by kernel_rfl) m44 (fc (hC167 13 (Nat.le_of_ble_eq_true rfl)) (fc (hC167 15 (Nat.le_of_ble_eq_true rfl)) (fc (hC167 17 (Nat.le_of_ble_eq_true rfl)) (fc (hC167 19 (Nat.le_of_ble_eq_true rfl)) (fc (hC167 21 (Nat.le_of_ble_eq_true rfl)) fn_)))))
  have b173 := hS166.below b47 b47.size hM159B
  refine i_norm ?_
  refine tn_ ?_
  refine wp_seq ?_
  refine wp_seq ?_
  refine wp_region_lit ?_
  refine qs hA169 rfl (dlr (cs := (insC i)) (wn rfl) (hA169.ev rfl) row23 m170 ?_)
  intro a174 hA175
  refine qs hA175 rfl (dcl (wn rfl) ent35 (map1 (hA175.ev rfl)) (isOp_any i w165) ?_)
  rintro e179 w176 ⟨he178, hG177⟩
  have m180 := m170.grow hG177
  have m181 := m171.grow hG177
  have m182 := m172.grow hG177
  have b183 := blg b173 hG177 b173.size
  refine ⟨.bool false, he178.trans (ret_bool (by simp [opB, rdB, wrB, eq_of_beq hb152])), ?_⟩
  intro a184 hA185
  refine qe_ ?_
  refine tn_ ?_
  refine c_false hA185 rfl ?_
  refine wp_skip ?_
  refine tn_ ?_
  refine wp_seq ?_
  refine wp_region_lit ?_
  refine qs hA185 rfl (dlr (cs := #[.int .i64 i.op, .int .i64 i.dst, .int .i64 i.a, .int .i64 i.b, .int .i64 (immF i i.b), .int .i64 0, .int .i64 0, .int .i64 (-1), .int .i64 0, .int .i64 i.fn, .bool false, .bool false, .bool false, .int .i64 0, .int .i64 0, .int .i64 0, .bool false]) (wn rfl) (hA185.ev rfl) row23 m182 ?_)
  intro a186 hA187
  refine qs hA187 rfl (dsr (wn rfl) (hA187.ev rfl) (hA187.ev rfl) row23 m181 rfl rfl ?_)
  intro w188 hU189 (m190 : Blk w188 g12 #[.int .i64 i.op, .int .i64 i.dst, .int .i64 i.a, .int .i64 i.b, .int .i64 (immF i i.b), .int .i64 0, .int .i64 0, .int .i64 (-1), .int .i64 0, .int .i64 i.fn, .bool false, .bool false, .bool false, .int .i64 0, .int .i64 0, .int .i64 0, .bool false] 23)
  have m191 := m180.upd hU189 n18
  have m192 := m182.upd hU189 (Ne.symm n36)
  have b193 := hU189.below b183 ge17
  intro a194 hA195
  refine qe_ ?_
  refine tn_ ?_
  refine wp_ret ?_
  refine retRow (g := g12) (cs := #[.int .i64 i.op, .int .i64 i.dst, .int .i64 i.a, .int .i64 i.b, .int .i64 (immF i i.b), .int .i64 0, .int .i64 0, .int .i64 (-1), .int .i64 0, .int .i64 i.fn, .bool false, .bool false, .bool false, .int .i64 0, .int .i64 0, .int .i64 0, .bool false]) rfl hA195 rfl m190 row23 ?_
  exact ⟨ret_agg (by simp [insC, plainF, opB, rdB, wrB, hb54, hb103, eq_of_beq hb152]), b193⟩
 have hq196 := ne_of_beq hb152
 refine qs hA151 rfl (dbn (wn rfl) (hA151.ev rfl) (hA151.ev rfl) (b_eq _ _ i.op 3 false _ hb152) ?_)
 intro a197 hA198
 refine qs hA198 rfl (das (wn rfl) (hA198.ev rfl) ?_)
 intro a199 hA200
 refine qe_ ?_
 refine tn_ ?_
 refine c_false hA200 rfl ?_
 refine wp_seq ?_
 refine wp_region_lit ?_
 rcases Bool.eq_false_or_eq_true (i.op == 4) with hb201 | hb201
 ·skip
  have hq202 := eq_of_beq hb201
  refine qs hA200 rfl (dbn (wn rfl) (hA200.ev rfl) (hA200.ev rfl) (b_eq _ _ i.op 4 true _ hb201) ?_)
  intro a203 hA204
  refine qs hA204 rfl (das (wn rfl) (hA204.ev rfl) ?_)
  intro a205 hA206
  refine qe_ ?_
  refine tn_ ?_
  refine c_true hA206 rfl ?_
  have hA207 : St 119 [(1, (.pointer (some ⟨g3, 0, none⟩))), (2, (.pointer (some ⟨g12, 0, none⟩))), (3, (.pointer (some ⟨g29, 0, none⟩)))] a205 := hA206.sub rfl
  let M208 : Nat → Option (Array Value) := fun k => if k = g29 then some #[.int .i64 i.op, .int .i64 i.dst, .int .i64 (-1), .int .i64 (-1), .int .i64 0, .int .i64 0, .int .i64 0, .int .i64 (-1), .int .i64 0, .int .i64 0, .bool i.acq, .bool i.weak, .bool false, .int .i64 0, .int .i64 0, .int .i64 0, .bool false] else none
  have hM208 : M208 = fun k => if k = g29 then some #[.int .i64 i.op, .int .i64 i.dst, .int .i64 (-1), .int .i64 (-1), .int .i64 0, .int .i64 0, .int .i64 0, .int .i64 (-1), .int .i64 0, .int .i64 0, .bool i.acq, .bool i.weak, .bool false, .int .i64 0, .int .i64 0, .int .i64 0, .bool false] else none := rfl
  clear_value M208
  have hM209 : M208 g3 = none := ((congrFun hM208 g3).trans (if_neg n35))
  have hM210 : M208 g12 = none := ((congrFun hM208 g12).trans (if_neg n36))
  have hM211 : M208 g29 = some #[.int .i64 i.op, .int .i64 i.dst, .int .i64 (-1), .int .i64 (-1), .int .i64 0, .int .i64 0, .int .i64 0, .int .i64 (-1), .int .i64 0, .int .i64 0, .bool i.acq, .bool i.weak, .bool false, .int .i64 0, .int .i64 0, .int .i64 0, .bool false] := ((congrFun hM208 g29).trans (if_pos rfl))
  have hM208B : ∀ k, k < w.heap.size → M208 k = none := (fun k hk => (congrFun hM208 k).trans (if_neg (fun h => Nat.lt_irrefl _ (Nat.lt_of_lt_of_le (h ▸ hk) ge34))))
  refine drawn (S := SM M208) (tabL [cv (.pointer (some ⟨g3, 1, none⟩)), cv (.int .i64 i.dst), cv (.pointer (some ⟨g3, 10, none⟩)), cv (.bool i.acq), cv (.pointer (some ⟨g3, 11, none⟩)), cv (.bool i.weak), cv (.pointer (some ⟨g29, 1, none⟩)), cm M208 g29 1 (.int .i64 i.dst) ⟨_, hM211, rfl⟩, cv (.pointer (some ⟨g29, 10, none⟩)), cm M208 g29 10 (.bool i.acq) ⟨_, hM211, rfl⟩, cv (.pointer (some ⟨g29, 11, none⟩)), cm M208 g29 11 (.bool i.weak) ⟨_, hM211, rfl⟩]) mixedY SM.refl SM.trans SM.drew hA207 (by kernel_rfl) ?_ ?_
  ·skip
   refine ec_ (fun x y hS hT hk => dfa (wn rfl) (hT.ev rfl) fo23_1 ⟨SM.refl _, rfl⟩) ?_
   refine ec_ (fun x y hS hT hk => dld (v := (.int .i64 i.dst)) (wn rfl) (hk 0 rfl) one3 ((Blk.sm (w := w42.drew) m45 hS hM209).cell rfl) ⟨SM.refl _, rfl⟩) ?_
   refine ec_ (fun x y hS hT hk => dfa (wn rfl) (hT.ev rfl) fo23_10 ⟨SM.refl _, rfl⟩) ?_
   refine ec_ (fun x y hS hT hk => dld (v := (.bool i.acq)) (wn rfl) (hk 2 rfl) one4 ((Blk.sm (w := w42.drew) m45 hS hM209).cell rfl) ⟨SM.refl _, rfl⟩) ?_
   refine ec_ (fun x y hS hT hk => dfa (wn rfl) (hT.ev rfl) fo23_11 ⟨SM.refl _, rfl⟩) ?_
   refine ec_ (fun x y hS hT hk => dld (v := (.bool i.weak)) (wn rfl) (hk 4 rfl) one4 ((Blk.sm (w := w42.drew) m45 hS hM209).cell rfl) ⟨SM.refl _, rfl⟩) ?_
   refine ec_ (fun x y hS hT hk => dfa (wn rfl) (hT.ev rfl) fo23_1 ⟨SM.refl _, rfl⟩) ?_
   refine ec_ (fun x y hS hT hk => d_storeM (v := (.int .i64 i.dst)) (w0 := w42.drew) (wn rfl) (hk 6 rfl) (hk 1 rfl) one3 rfl hS hM211 m44 (Nat.le_of_ble_eq_true rfl) rfl (fun _ h => h)) ?_
   refine ec_ (fun x y hS hT hk => dfa (wn rfl) (hT.ev rfl) fo23_10 ⟨SM.refl _, rfl⟩) ?_
   refine ec_ (fun x y hS hT hk => d_storeM (v := (.bool i.acq)) (w0 := w42.drew) (wn rfl) (hk 8 rfl) (hk 3 rfl) one4 rfl hS hM211 m44 (Nat.le_of_ble_eq_true rfl) rfl (fun _ h => h)) ?_
   refine ec_ (fun x y hS hT hk => dfa (wn rfl) (hT.ev rfl) fo23_11 ⟨SM.refl _, rfl⟩) ?_
   refine ec_ (fun x y hS hT hk => d_storeM (v := (.bool i.weak)) (w0 := w42.drew) (wn rfl) (hk 10 rfl) (hk 5 rfl) one4 rfl hS hM211 m44 (Nat.le_of_ble_eq_true rfl) rfl (fun _ h => h)) ?_
   exact each_nil
  intro f212 a213 w214 hS215 hC216 hA217
  have hA218 : St 119 [(1, (.pointer (some ⟨g3, 0, none⟩))), (2, (.pointer (some ⟨g12, 0, none⟩))), (3, (.pointer (some ⟨g29, 0, none⟩)))] a213 := hA217.sub rfl
  have m219 := m45.sm hS215 hM209
  have m220 := m46.sm hS215 hM210
  have m221 : Blk w214 g29 #[.int .i64 i.op, .int .i64 i.dst, .int .i64 (-1), .int .i64 (-1), .int .i64 0, .int .i64 0, .int .i64 0, .int .i64 (-1), .int .i64 0, .int .i64 0, .bool i.acq, .bool i.weak, .bool false, .int .i64 0, .int .i64 0, .int .i64 0, .bool false] 23 := hS215.finL [(1, (.int .i64 i.dst)), (10, (.bool i.acq)), (11, (.bool i.weak))] hM211 (by kernel_rfl) m44 (fc (hC216 7 (Nat.le_of_ble_eq_true rfl)) (fc (hC216 9 (Nat.le_of_ble_eq_true rfl)) (fc (hC216 11 (Nat.le_of_ble_eq_true rfl)) fn_)))
  have b222 := hS215.below b47 b47.size hM208B
  refine i_norm ?_
  refine tn_ ?_
  refine wp_seq ?_
  refine wp_seq ?_
  refine wp_region_lit ?_
  refine qs hA218 rfl (dlr (cs := (insC i)) (wn rfl) (hA218.ev rfl) row23 m219 ?_)
  intro a223 hA224
  refine qs hA224 rfl (dcl (wn rfl) ent35 (map1 (hA224.ev rfl)) (isOp_any i w214) ?_)
  rintro e228 w225 ⟨he227, hG226⟩
  have m229 := m219.grow hG226
  have m230 := m220.grow hG226
  have m231 := m221.grow hG226
  have b232 := blg b222 hG226 b222.size
  refine ⟨.bool true, he227.trans (ret_bool (by simp [opB, rdB, wrB, eq_of_beq hb201])), ?_⟩
  intro a233 hA234
  refine qe_ ?_
  refine tn_ ?_
  refine c_true hA234 rfl ?_
  have hA235 : St 119 [(1, (.pointer (some ⟨g3, 0, none⟩))), (2, (.pointer (some ⟨g12, 0, none⟩))), (3, (.pointer (some ⟨g29, 0, none⟩)))] a233 := hA234.sub rfl
  let M236 : Nat → Option (Array Value) := fun k => if k = g29 then some #[.int .i64 i.op, .int .i64 i.dst, .int .i64 (-1), .int .i64 (-1), .int .i64 0, .int .i64 i.loc, .int .i64 i.off, .int .i64 i.index, .int .i64 i.size, .int .i64 0, .bool i.acq, .bool i.weak, .bool false, .int .i64 0, .int .i64 0, .int .i64 0, .bool false] else none
  have hM236 : M236 = fun k => if k = g29 then some #[.int .i64 i.op, .int .i64 i.dst, .int .i64 (-1), .int .i64 (-1), .int .i64 0, .int .i64 i.loc, .int .i64 i.off, .int .i64 i.index, .int .i64 i.size, .int .i64 0, .bool i.acq, .bool i.weak, .bool false, .int .i64 0, .int .i64 0, .int .i64 0, .bool false] else none := rfl
  clear_value M236
  have hM237 : M236 g3 = none := ((congrFun hM236 g3).trans (if_neg n35))
  have hM238 : M236 g12 = none := ((congrFun hM236 g12).trans (if_neg n36))
  have hM239 : M236 g29 = some #[.int .i64 i.op, .int .i64 i.dst, .int .i64 (-1), .int .i64 (-1), .int .i64 0, .int .i64 i.loc, .int .i64 i.off, .int .i64 i.index, .int .i64 i.size, .int .i64 0, .bool i.acq, .bool i.weak, .bool false, .int .i64 0, .int .i64 0, .int .i64 0, .bool false] := ((congrFun hM236 g29).trans (if_pos rfl))
  have hM236B : ∀ k, k < w.heap.size → M236 k = none := (fun k hk => (congrFun hM236 k).trans (if_neg (fun h => Nat.lt_irrefl _ (Nat.lt_of_lt_of_le (h ▸ hk) ge34))))
  refine drawn (S := SM M236) (tabL [cv (.pointer (some ⟨g3, 5, none⟩)), cv (.int .i64 i.loc), cv (.pointer (some ⟨g3, 6, none⟩)), cv (.int .i64 i.off), cv (.pointer (some ⟨g3, 7, none⟩)), cv (.int .i64 i.index), cv (.pointer (some ⟨g3, 8, none⟩)), cv (.int .i64 i.size), cv (.pointer (some ⟨g29, 5, none⟩)), cm M236 g29 5 (.int .i64 i.loc) ⟨_, hM239, rfl⟩, cv (.pointer (some ⟨g29, 6, none⟩)), cm M236 g29 6 (.int .i64 i.off) ⟨_, hM239, rfl⟩, cv (.pointer (some ⟨g29, 7, none⟩)), cm M236 g29 7 (.int .i64 i.index) ⟨_, hM239, rfl⟩, cv (.pointer (some ⟨g29, 8, none⟩)), cm M236 g29 8 (.int .i64 i.size) ⟨_, hM239, rfl⟩]) mixedY SM.refl SM.trans SM.drew hA235 (by kernel_rfl) ?_ ?_
  ·skip
   refine ec_ (fun x y hS hT hk => dfa (wn rfl) (hT.ev rfl) fo23_5 ⟨SM.refl _, rfl⟩) ?_
   refine ec_ (fun x y hS hT hk => dld (v := (.int .i64 i.loc)) (wn rfl) (hk 0 rfl) one3 ((Blk.sm (w := w225.drew) m229 hS hM237).cell rfl) ⟨SM.refl _, rfl⟩) ?_
   refine ec_ (fun x y hS hT hk => dfa (wn rfl) (hT.ev rfl) fo23_6 ⟨SM.refl _, rfl⟩) ?_
   refine ec_ (fun x y hS hT hk => dld (v := (.int .i64 i.off)) (wn rfl) (hk 2 rfl) one3 ((Blk.sm (w := w225.drew) m229 hS hM237).cell rfl) ⟨SM.refl _, rfl⟩) ?_
   refine ec_ (fun x y hS hT hk => dfa (wn rfl) (hT.ev rfl) fo23_7 ⟨SM.refl _, rfl⟩) ?_
   refine ec_ (fun x y hS hT hk => dld (v := (.int .i64 i.index)) (wn rfl) (hk 4 rfl) one3 ((Blk.sm (w := w225.drew) m229 hS hM237).cell rfl) ⟨SM.refl _, rfl⟩) ?_
   refine ec_ (fun x y hS hT hk => dfa (wn rfl) (hT.ev rfl) fo23_8 ⟨SM.refl _, rfl⟩) ?_
   refine ec_ (fun x y hS hT hk => dld (v := (.int .i64 i.size)) (wn rfl) (hk 6 rfl) one3 ((Blk.sm (w := w225.drew) m229 hS hM237).cell rfl) ⟨SM.refl _, rfl⟩) ?_
   refine ec_ (fun x y hS hT hk => dfa (wn rfl) (hT.ev rfl) fo23_5 ⟨SM.refl _, rfl⟩) ?_
   refine ec_ (fun x y hS hT hk => d_storeM (v := (.int .i64 i.loc)) (w0 := w225.drew) (wn rfl) (hk 8 rfl) (hk 1 rfl) one3 rfl hS hM239 m231 (Nat.le_of_ble_eq_true rfl) rfl (fun _ h => h)) ?_
   refine ec_ (fun x y hS hT hk => dfa (wn rfl) (hT.ev rfl) fo23_6 ⟨SM.refl _, rfl⟩) ?_
   refine ec_ (fun x y hS hT hk => d_storeM (v := (.int .i64 i.off)) (w0 := w225.drew) (wn rfl) (hk 10 rfl) (hk 3 rfl) one3 rfl hS hM239 m231 (Nat.le_of_ble_eq_true rfl) rfl (fun _ h => h)) ?_
   refine ec_ (fun x y hS hT hk => dfa (wn rfl) (hT.ev rfl) fo23_7 ⟨SM.refl _, rfl⟩) ?_
   refine ec_ (fun x y hS hT hk => d_storeM (v := (.int .i64 i.index)) (w0 := w225.drew) (wn rfl) (hk 12 rfl) (hk 5 rfl) one3 rfl hS hM239 m231 (Nat.le_of_ble_eq_true rfl) rfl (fun _ h => h)) ?_
   refine ec_ (fun x y hS hT hk => dfa (wn rfl) (hT.ev rfl) fo23_8 ⟨SM.refl _, rfl⟩) ?_
   refine ec_ (fun x y hS hT hk => d_storeM (v := (.int .i64 i.size)) (w0 := w225.drew) (wn rfl) (hk 14 rfl) (hk 7 rfl) one3 rfl hS hM239 m231 (Nat.le_of_ble_eq_true rfl) rfl (fun _ h => h)) ?_
   exact each_nil
  intro f240 a241 w242 hS243 hC244 hA245
  have hA246 : St 119 [(2, (.pointer (some ⟨g12, 0, none⟩))), (3, (.pointer (some ⟨g29, 0, none⟩)))] a241 := hA245.sub rfl
  have m247 := m229.sm hS243 hM237
  have m248 := m230.sm hS243 hM238
  have m249 : Blk w242 g29 #[.int .i64 i.op, .int .i64 i.dst, .int .i64 (-1), .int .i64 (-1), .int .i64 0, .int .i64 i.loc, .int .i64 i.off, .int .i64 i.index, .int .i64 i.size, .int .i64 0, .bool i.acq, .bool i.weak, .bool false, .int .i64 0, .int .i64 0, .int .i64 0, .bool false] 23 := hS243.finL [(5, (.int .i64 i.loc)), (6, (.int .i64 i.off)), (7, (.int .i64 i.index)), (8, (.int .i64 i.size))] hM239 (by kernel_rfl) m231 (fc (hC244 9 (Nat.le_of_ble_eq_true rfl)) (fc (hC244 11 (Nat.le_of_ble_eq_true rfl)) (fc (hC244 13 (Nat.le_of_ble_eq_true rfl)) (fc (hC244 15 (Nat.le_of_ble_eq_true rfl)) fn_))))
  have b250 := hS243.below b232 b232.size hM236B
  refine tn_ ?_
  refine wp_seq ?_
  refine wp_region_lit ?_
  refine qs hA246 rfl (dlr (cs := #[.int .i64 i.op, .int .i64 i.dst, .int .i64 (-1), .int .i64 (-1), .int .i64 0, .int .i64 i.loc, .int .i64 i.off, .int .i64 i.index, .int .i64 i.size, .int .i64 0, .bool i.acq, .bool i.weak, .bool false, .int .i64 0, .int .i64 0, .int .i64 0, .bool false]) (wn rfl) (hA246.ev rfl) row23 m249 ?_)
  intro a251 hA252
  refine qs hA252 rfl (dsr (wn rfl) (hA252.ev rfl) (hA252.ev rfl) row23 m248 rfl rfl ?_)
  intro w253 hU254 (m255 : Blk w253 g12 #[.int .i64 i.op, .int .i64 i.dst, .int .i64 (-1), .int .i64 (-1), .int .i64 0, .int .i64 i.loc, .int .i64 i.off, .int .i64 i.index, .int .i64 i.size, .int .i64 0, .bool i.acq, .bool i.weak, .bool false, .int .i64 0, .int .i64 0, .int .i64 0, .bool false] 23)
  have m256 := m247.upd hU254 n18
  have m257 := m249.upd hU254 (Ne.symm n36)
  have b258 := hU254.below b250 ge17
  intro a259 hA260
  refine qe_ ?_
  refine tn_ ?_
  refine wp_ret ?_
  refine retRow (g := g12) (cs := #[.int .i64 i.op, .int .i64 i.dst, .int .i64 (-1), .int .i64 (-1), .int .i64 0, .int .i64 i.loc, .int .i64 i.off, .int .i64 i.index, .int .i64 i.size, .int .i64 0, .bool i.acq, .bool i.weak, .bool false, .int .i64 0, .int .i64 0, .int .i64 0, .bool false]) rfl hA260 rfl m255 row23 ?_
  exact ⟨ret_agg (by simp [insC, plainF, opB, rdB, wrB, hb54, hb103, hb152, eq_of_beq hb201]), b258⟩
 have hq261 := ne_of_beq hb201
 refine qs hA200 rfl (dbn (wn rfl) (hA200.ev rfl) (hA200.ev rfl) (b_eq _ _ i.op 4 false _ hb201) ?_)
 intro a262 hA263
 refine qs hA263 rfl (das (wn rfl) (hA263.ev rfl) ?_)
 intro a264 hA265
 refine qe_ ?_
 refine tn_ ?_
 refine c_false hA265 rfl ?_
 refine wp_seq ?_
 refine wp_region_lit ?_
 rcases Bool.eq_false_or_eq_true (i.op == 5) with hb266 | hb266
 ·skip
  have hq267 := eq_of_beq hb266
  refine qs hA265 rfl (dbn (wn rfl) (hA265.ev rfl) (hA265.ev rfl) (b_eq _ _ i.op 5 true _ hb266) ?_)
  intro a268 hA269
  refine qs hA269 rfl (das (wn rfl) (hA269.ev rfl) ?_)
  intro a270 hA271
  refine qe_ ?_
  refine tn_ ?_
  refine c_true hA271 rfl ?_
  have hA272 : St 119 [(1, (.pointer (some ⟨g3, 0, none⟩))), (2, (.pointer (some ⟨g12, 0, none⟩))), (3, (.pointer (some ⟨g29, 0, none⟩)))] a270 := hA271.sub rfl
  let M273 : Nat → Option (Array Value) := fun k => if k = g29 then some #[.int .i64 i.op, .int .i64 (-1), .int .i64 i.a, .int .i64 (-1), .int .i64 (immF i i.a), .int .i64 0, .int .i64 0, .int .i64 (-1), .int .i64 0, .int .i64 0, .bool false, .bool false, .bool i.rel, .int .i64 0, .int .i64 0, .int .i64 0, .bool false] else none
  have hM273 : M273 = fun k => if k = g29 then some #[.int .i64 i.op, .int .i64 (-1), .int .i64 i.a, .int .i64 (-1), .int .i64 (immF i i.a), .int .i64 0, .int .i64 0, .int .i64 (-1), .int .i64 0, .int .i64 0, .bool false, .bool false, .bool i.rel, .int .i64 0, .int .i64 0, .int .i64 0, .bool false] else none := rfl
  clear_value M273
  have hM274 : M273 g3 = none := ((congrFun hM273 g3).trans (if_neg n35))
  have hM275 : M273 g12 = none := ((congrFun hM273 g12).trans (if_neg n36))
  have hM276 : M273 g29 = some #[.int .i64 i.op, .int .i64 (-1), .int .i64 i.a, .int .i64 (-1), .int .i64 (immF i i.a), .int .i64 0, .int .i64 0, .int .i64 (-1), .int .i64 0, .int .i64 0, .bool false, .bool false, .bool i.rel, .int .i64 0, .int .i64 0, .int .i64 0, .bool false] := ((congrFun hM273 g29).trans (if_pos rfl))
  have hM273B : ∀ k, k < w.heap.size → M273 k = none := (fun k hk => (congrFun hM273 k).trans (if_neg (fun h => Nat.lt_irrefl _ (Nat.lt_of_lt_of_le (h ▸ hk) ge34))))
  refine drawn (S := SM M273) (tabL [cv (.pointer (some ⟨g3, 2, none⟩)), cv (.int .i64 i.a), cv (.agg (insC i)), cv (.pointer (some ⟨g3, 2, none⟩)), cv (.int .i64 i.a), cv (.int .i64 (immF i i.a)), cv (.pointer (some ⟨g3, 12, none⟩)), cv (.bool i.rel), cv (.pointer (some ⟨g29, 2, none⟩)), cm M273 g29 2 (.int .i64 i.a) ⟨_, hM276, rfl⟩, cv (.pointer (some ⟨g29, 4, none⟩)), cm M273 g29 4 (.int .i64 (immF i i.a)) ⟨_, hM276, rfl⟩, cv (.pointer (some ⟨g29, 12, none⟩)), cm M273 g29 12 (.bool i.rel) ⟨_, hM276, rfl⟩]) mixedY SM.refl SM.trans SM.drew hA272 (by kernel_rfl) ?_ ?_
  ·skip
   refine ec_ (fun x y hS hT hk => dfa (wn rfl) (hT.ev rfl) fo23_2 ⟨SM.refl _, rfl⟩) ?_
   refine ec_ (fun x y hS hT hk => dld (v := (.int .i64 i.a)) (wn rfl) (hk 0 rfl) one3 ((Blk.sm (w := w42.drew) m45 hS hM274).cell rfl) ⟨SM.refl _, rfl⟩) ?_
   refine ec_ (fun x y hS hT hk => dlr (cs := (insC i)) (wn rfl) (hT.ev rfl) row23 (Blk.sm (w := w42.drew) m45 hS hM274) ⟨SM.refl _, rfl⟩) ?_
   refine ec_ (fun x y hS hT hk => dfa (wn rfl) (hT.ev rfl) fo23_2 ⟨SM.refl _, rfl⟩) ?_
   refine ec_ (fun x y hS hT hk => dld (v := (.int .i64 i.a)) (wn rfl) (hk 3 rfl) one3 ((Blk.sm (w := w42.drew) m45 hS hM274).cell rfl) ⟨SM.refl _, rfl⟩) ?_
   refine ec_ (fun x y hS hT hk => dcl (wn rfl) ent39 (map2 (show x.eval _ = (.agg (insC i)) from (hk 2 rfl)) (show x.eval _ = (.int .i64 i.a) from (hk 4 rfl))) (immFor_any i i.a y) (fun _ _ ⟨he, hG⟩ => ⟨(.int .i64 (immF i i.a)), he, SM.grow hG, rfl⟩)) ?_
   refine ec_ (fun x y hS hT hk => dfa (wn rfl) (hT.ev rfl) fo23_12 ⟨SM.refl _, rfl⟩) ?_
   refine ec_ (fun x y hS hT hk => dld (v := (.bool i.rel)) (wn rfl) (hk 6 rfl) one4 ((Blk.sm (w := w42.drew) m45 hS hM274).cell rfl) ⟨SM.refl _, rfl⟩) ?_
   refine ec_ (fun x y hS hT hk => dfa (wn rfl) (hT.ev rfl) fo23_2 ⟨SM.refl _, rfl⟩) ?_
   refine ec_ (fun x y hS hT hk => d_storeM (v := (.int .i64 i.a)) (w0 := w42.drew) (wn rfl) (hk 8 rfl) (hk 1 rfl) one3 rfl hS hM276 m44 (Nat.le_of_ble_eq_true rfl) rfl (fun _ h => h)) ?_
   refine ec_ (fun x y hS hT hk => dfa (wn rfl) (hT.ev rfl) fo23_4 ⟨SM.refl _, rfl⟩) ?_
   refine ec_ (fun x y hS hT hk => d_storeM (v := (.int .i64 (immF i i.a))) (w0 := w42.drew) (wn rfl) (hk 10 rfl) (hk 5 rfl) one3 rfl hS hM276 m44 (Nat.le_of_ble_eq_true rfl) rfl (fun _ h => h)) ?_
   refine ec_ (fun x y hS hT hk => dfa (wn rfl) (hT.ev rfl) fo23_12 ⟨SM.refl _, rfl⟩) ?_
   refine ec_ (fun x y hS hT hk => d_storeM (v := (.bool i.rel)) (w0 := w42.drew) (wn rfl) (hk 12 rfl) (hk 7 rfl) one4 rfl hS hM276 m44 (Nat.le_of_ble_eq_true rfl) rfl (fun _ h => h)) ?_
   exact each_nil
  intro f277 a278 w279 hS280 hC281 hA282
  have hA283 : St 119 [(1, (.pointer (some ⟨g3, 0, none⟩))), (2, (.pointer (some ⟨g12, 0, none⟩))), (3, (.pointer (some ⟨g29, 0, none⟩)))] a278 := hA282.sub rfl
  have m284 := m45.sm hS280 hM274
  have m285 := m46.sm hS280 hM275
  have m286 : Blk w279 g29 #[.int .i64 i.op, .int .i64 (-1), .int .i64 i.a, .int .i64 (-1), .int .i64 (immF i i.a), .int .i64 0, .int .i64 0, .int .i64 (-1), .int .i64 0, .int .i64 0, .bool false, .bool false, .bool i.rel, .int .i64 0, .int .i64 0, .int .i64 0, .bool false] 23 := hS280.finL [(2, (.int .i64 i.a)), (4, (.int .i64 (immF i i.a))), (12, (.bool i.rel))] hM276 (by kernel_rfl) m44 (fc (hC281 9 (Nat.le_of_ble_eq_true rfl)) (fc (hC281 11 (Nat.le_of_ble_eq_true rfl)) (fc (hC281 13 (Nat.le_of_ble_eq_true rfl)) fn_)))
  have b287 := hS280.below b47 b47.size hM273B
  refine i_norm ?_
  refine tn_ ?_
  refine wp_seq ?_
  refine wp_seq ?_
  refine wp_region_lit ?_
  refine qs hA283 rfl (dlr (cs := (insC i)) (wn rfl) (hA283.ev rfl) row23 m284 ?_)
  intro a288 hA289
  refine qs hA289 rfl (dcl (wn rfl) ent35 (map1 (hA289.ev rfl)) (isOp_any i w279) ?_)
  rintro e293 w290 ⟨he292, hG291⟩
  have m294 := m284.grow hG291
  have m295 := m285.grow hG291
  have m296 := m286.grow hG291
  have b297 := blg b287 hG291 b287.size
  refine ⟨.bool true, he292.trans (ret_bool (by simp [opB, rdB, wrB, eq_of_beq hb266])), ?_⟩
  intro a298 hA299
  refine qe_ ?_
  refine tn_ ?_
  refine c_true hA299 rfl ?_
  have hA300 : St 119 [(1, (.pointer (some ⟨g3, 0, none⟩))), (2, (.pointer (some ⟨g12, 0, none⟩))), (3, (.pointer (some ⟨g29, 0, none⟩)))] a298 := hA299.sub rfl
  let M301 : Nat → Option (Array Value) := fun k => if k = g29 then some #[.int .i64 i.op, .int .i64 (-1), .int .i64 i.a, .int .i64 (-1), .int .i64 (immF i i.a), .int .i64 i.loc, .int .i64 i.off, .int .i64 i.index, .int .i64 i.size, .int .i64 0, .bool false, .bool false, .bool i.rel, .int .i64 0, .int .i64 0, .int .i64 0, .bool false] else none
  have hM301 : M301 = fun k => if k = g29 then some #[.int .i64 i.op, .int .i64 (-1), .int .i64 i.a, .int .i64 (-1), .int .i64 (immF i i.a), .int .i64 i.loc, .int .i64 i.off, .int .i64 i.index, .int .i64 i.size, .int .i64 0, .bool false, .bool false, .bool i.rel, .int .i64 0, .int .i64 0, .int .i64 0, .bool false] else none := rfl
  clear_value M301
  have hM302 : M301 g3 = none := ((congrFun hM301 g3).trans (if_neg n35))
  have hM303 : M301 g12 = none := ((congrFun hM301 g12).trans (if_neg n36))
  have hM304 : M301 g29 = some #[.int .i64 i.op, .int .i64 (-1), .int .i64 i.a, .int .i64 (-1), .int .i64 (immF i i.a), .int .i64 i.loc, .int .i64 i.off, .int .i64 i.index, .int .i64 i.size, .int .i64 0, .bool false, .bool false, .bool i.rel, .int .i64 0, .int .i64 0, .int .i64 0, .bool false] := ((congrFun hM301 g29).trans (if_pos rfl))
  have hM301B : ∀ k, k < w.heap.size → M301 k = none := (fun k hk => (congrFun hM301 k).trans (if_neg (fun h => Nat.lt_irrefl _ (Nat.lt_of_lt_of_le (h ▸ hk) ge34))))
  refine drawn (S := SM M301) (tabL [cv (.pointer (some ⟨g3, 5, none⟩)), cv (.int .i64 i.loc), cv (.pointer (some ⟨g3, 6, none⟩)), cv (.int .i64 i.off), cv (.pointer (some ⟨g3, 7, none⟩)), cv (.int .i64 i.index), cv (.pointer (some ⟨g3, 8, none⟩)), cv (.int .i64 i.size), cv (.pointer (some ⟨g29, 5, none⟩)), cm M301 g29 5 (.int .i64 i.loc) ⟨_, hM304, rfl⟩, cv (.pointer (some ⟨g29, 6, none⟩)), cm M301 g29 6 (.int .i64 i.off) ⟨_, hM304, rfl⟩, cv (.pointer (some ⟨g29, 7, none⟩)), cm M301 g29 7 (.int .i64 i.index) ⟨_, hM304, rfl⟩, cv (.pointer (some ⟨g29, 8, none⟩)), cm M301 g29 8 (.int .i64 i.size) ⟨_, hM304, rfl⟩]) mixedY SM.refl SM.trans SM.drew hA300 (by kernel_rfl) ?_ ?_
  ·skip
   refine ec_ (fun x y hS hT hk => dfa (wn rfl) (hT.ev rfl) fo23_5 ⟨SM.refl _, rfl⟩) ?_
   refine ec_ (fun x y hS hT hk => dld (v := (.int .i64 i.loc)) (wn rfl) (hk 0 rfl) one3 ((Blk.sm (w := w290.drew) m294 hS hM302).cell rfl) ⟨SM.refl _, rfl⟩) ?_
   refine ec_ (fun x y hS hT hk => dfa (wn rfl) (hT.ev rfl) fo23_6 ⟨SM.refl _, rfl⟩) ?_
   refine ec_ (fun x y hS hT hk => dld (v := (.int .i64 i.off)) (wn rfl) (hk 2 rfl) one3 ((Blk.sm (w := w290.drew) m294 hS hM302).cell rfl) ⟨SM.refl _, rfl⟩) ?_
   refine ec_ (fun x y hS hT hk => dfa (wn rfl) (hT.ev rfl) fo23_7 ⟨SM.refl _, rfl⟩) ?_
   refine ec_ (fun x y hS hT hk => dld (v := (.int .i64 i.index)) (wn rfl) (hk 4 rfl) one3 ((Blk.sm (w := w290.drew) m294 hS hM302).cell rfl) ⟨SM.refl _, rfl⟩) ?_
   refine ec_ (fun x y hS hT hk => dfa (wn rfl) (hT.ev rfl) fo23_8 ⟨SM.refl _, rfl⟩) ?_
   refine ec_ (fun x y hS hT hk => dld (v := (.int .i64 i.size)) (wn rfl) (hk 6 rfl) one3 ((Blk.sm (w := w290.drew) m294 hS hM302).cell rfl) ⟨SM.refl _, rfl⟩) ?_
   refine ec_ (fun x y hS hT hk => dfa (wn rfl) (hT.ev rfl) fo23_5 ⟨SM.refl _, rfl⟩) ?_
   refine ec_ (fun x y hS hT hk => d_storeM (v := (.int .i64 i.loc)) (w0 := w290.drew) (wn rfl) (hk 8 rfl) (hk 1 rfl) one3 rfl hS hM304 m296 (Nat.le_of_ble_eq_true rfl) rfl (fun _ h => h)) ?_
   refine ec_ (fun x y hS hT hk => dfa (wn rfl) (hT.ev rfl) fo23_6 ⟨SM.refl _, rfl⟩) ?_
   refine ec_ (fun x y hS hT hk => d_storeM (v := (.int .i64 i.off)) (w0 := w290.drew) (wn rfl) (hk 10 rfl) (hk 3 rfl) one3 rfl hS hM304 m296 (Nat.le_of_ble_eq_true rfl) rfl (fun _ h => h)) ?_
   refine ec_ (fun x y hS hT hk => dfa (wn rfl) (hT.ev rfl) fo23_7 ⟨SM.refl _, rfl⟩) ?_
   refine ec_ (fun x y hS hT hk => d_storeM (v := (.int .i64 i.index)) (w0 := w290.drew) (wn rfl) (hk 12 rfl) (hk 5 rfl) one3 rfl hS hM304 m296 (Nat.le_of_ble_eq_true rfl) rfl (fun _ h => h)) ?_
   refine ec_ (fun x y hS hT hk => dfa (wn rfl) (hT.ev rfl) fo23_8 ⟨SM.refl _, rfl⟩) ?_
   refine ec_ (fun x y hS hT hk => d_storeM (v := (.int .i64 i.size)) (w0 := w290.drew) (wn rfl) (hk 14 rfl) (hk 7 rfl) one3 rfl hS hM304 m296 (Nat.le_of_ble_eq_true rfl) rfl (fun _ h => h)) ?_
   exact each_nil
  intro f305 a306 w307 hS308 hC309 hA310
  have hA311 : St 119 [(2, (.pointer (some ⟨g12, 0, none⟩))), (3, (.pointer (some ⟨g29, 0, none⟩)))] a306 := hA310.sub rfl
  have m312 := m294.sm hS308 hM302
  have m313 := m295.sm hS308 hM303
  have m314 : Blk w307 g29 #[.int .i64 i.op, .int .i64 (-1), .int .i64 i.a, .int .i64 (-1), .int .i64 (immF i i.a), .int .i64 i.loc, .int .i64 i.off, .int .i64 i.index, .int .i64 i.size, .int .i64 0, .bool false, .bool false, .bool i.rel, .int .i64 0, .int .i64 0, .int .i64 0, .bool false] 23 := hS308.finL [(5, (.int .i64 i.loc)), (6, (.int .i64 i.off)), (7, (.int .i64 i.index)), (8, (.int .i64 i.size))] hM304 (by kernel_rfl) m296 (fc (hC309 9 (Nat.le_of_ble_eq_true rfl)) (fc (hC309 11 (Nat.le_of_ble_eq_true rfl)) (fc (hC309 13 (Nat.le_of_ble_eq_true rfl)) (fc (hC309 15 (Nat.le_of_ble_eq_true rfl)) fn_))))
  have b315 := hS308.below b297 b297.size hM301B
  refine tn_ ?_
  refine wp_seq ?_
  refine wp_region_lit ?_
  refine qs hA311 rfl (dlr (cs := #[.int .i64 i.op, .int .i64 (-1), .int .i64 i.a, .int .i64 (-1), .int .i64 (immF i i.a), .int .i64 i.loc, .int .i64 i.off, .int .i64 i.index, .int .i64 i.size, .int .i64 0, .bool false, .bool false, .bool i.rel, .int .i64 0, .int .i64 0, .int .i64 0, .bool false]) (wn rfl) (hA311.ev rfl) row23 m314 ?_)
  intro a316 hA317
  refine qs hA317 rfl (dsr (wn rfl) (hA317.ev rfl) (hA317.ev rfl) row23 m313 rfl rfl ?_)
  intro w318 hU319 (m320 : Blk w318 g12 #[.int .i64 i.op, .int .i64 (-1), .int .i64 i.a, .int .i64 (-1), .int .i64 (immF i i.a), .int .i64 i.loc, .int .i64 i.off, .int .i64 i.index, .int .i64 i.size, .int .i64 0, .bool false, .bool false, .bool i.rel, .int .i64 0, .int .i64 0, .int .i64 0, .bool false] 23)
  have m321 := m312.upd hU319 n18
  have m322 := m314.upd hU319 (Ne.symm n36)
  have b323 := hU319.below b315 ge17
  intro a324 hA325
  refine qe_ ?_
  refine tn_ ?_
  refine wp_ret ?_
  refine retRow (g := g12) (cs := #[.int .i64 i.op, .int .i64 (-1), .int .i64 i.a, .int .i64 (-1), .int .i64 (immF i i.a), .int .i64 i.loc, .int .i64 i.off, .int .i64 i.index, .int .i64 i.size, .int .i64 0, .bool false, .bool false, .bool i.rel, .int .i64 0, .int .i64 0, .int .i64 0, .bool false]) rfl hA325 rfl m320 row23 ?_
  exact ⟨ret_agg (by simp [insC, plainF, opB, rdB, wrB, hb54, hb103, hb152, hb201, eq_of_beq hb266]), b323⟩
 have hq326 := ne_of_beq hb266
 refine qs hA265 rfl (dbn (wn rfl) (hA265.ev rfl) (hA265.ev rfl) (b_eq _ _ i.op 5 false _ hb266) ?_)
 intro a327 hA328
 refine qs hA328 rfl (das (wn rfl) (hA328.ev rfl) ?_)
 intro a329 hA330
 refine qe_ ?_
 refine tn_ ?_
 refine c_false hA330 rfl ?_
 refine wp_seq ?_
 refine wp_region_lit ?_
 rcases Bool.eq_false_or_eq_true (i.op == 6) with hb331 | hb331
 ·skip
  have hq332 := eq_of_beq hb331
  refine qs hA330 rfl (dbn (wn rfl) (hA330.ev rfl) (hA330.ev rfl) (b_eq _ _ i.op 6 true _ hb331) ?_)
  intro a333 hA334
  refine qs hA334 rfl (das (wn rfl) (hA334.ev rfl) ?_)
  intro a335 hA336
  refine qe_ ?_
  refine tn_ ?_
  refine c_true hA336 rfl ?_
  have hA337 : St 119 [(1, (.pointer (some ⟨g3, 0, none⟩))), (2, (.pointer (some ⟨g12, 0, none⟩))), (3, (.pointer (some ⟨g29, 0, none⟩)))] a335 := hA336.sub rfl
  let M338 : Nat → Option (Array Value) := fun k => if k = g29 then some #[.int .i64 i.op, .int .i64 i.dst, .int .i64 i.a, .int .i64 (-1), .int .i64 0, .int .i64 0, .int .i64 0, .int .i64 (-1), .int .i64 0, .int .i64 i.fn, .bool i.acq, .bool false, .bool i.rel, .int .i64 0, .int .i64 0, .int .i64 0, .bool false] else none
  have hM338 : M338 = fun k => if k = g29 then some #[.int .i64 i.op, .int .i64 i.dst, .int .i64 i.a, .int .i64 (-1), .int .i64 0, .int .i64 0, .int .i64 0, .int .i64 (-1), .int .i64 0, .int .i64 i.fn, .bool i.acq, .bool false, .bool i.rel, .int .i64 0, .int .i64 0, .int .i64 0, .bool false] else none := rfl
  clear_value M338
  have hM339 : M338 g3 = none := ((congrFun hM338 g3).trans (if_neg n35))
  have hM340 : M338 g12 = none := ((congrFun hM338 g12).trans (if_neg n36))
  have hM341 : M338 g29 = some #[.int .i64 i.op, .int .i64 i.dst, .int .i64 i.a, .int .i64 (-1), .int .i64 0, .int .i64 0, .int .i64 0, .int .i64 (-1), .int .i64 0, .int .i64 i.fn, .bool i.acq, .bool false, .bool i.rel, .int .i64 0, .int .i64 0, .int .i64 0, .bool false] := ((congrFun hM338 g29).trans (if_pos rfl))
  have hM338B : ∀ k, k < w.heap.size → M338 k = none := (fun k hk => (congrFun hM338 k).trans (if_neg (fun h => Nat.lt_irrefl _ (Nat.lt_of_lt_of_le (h ▸ hk) ge34))))
  refine drawn (S := SM M338) (tabL [cv (.pointer (some ⟨g3, 1, none⟩)), cv (.int .i64 i.dst), cv (.pointer (some ⟨g3, 2, none⟩)), cv (.int .i64 i.a), cv (.pointer (some ⟨g3, 9, none⟩)), cv (.int .i64 i.fn), cv (.pointer (some ⟨g3, 10, none⟩)), cv (.bool i.acq), cv (.pointer (some ⟨g3, 12, none⟩)), cv (.bool i.rel), cv (.pointer (some ⟨g29, 1, none⟩)), cm M338 g29 1 (.int .i64 i.dst) ⟨_, hM341, rfl⟩, cv (.pointer (some ⟨g29, 2, none⟩)), cm M338 g29 2 (.int .i64 i.a) ⟨_, hM341, rfl⟩, cv (.pointer (some ⟨g29, 9, none⟩)), cm M338 g29 9 (.int .i64 i.fn) ⟨_, hM341, rfl⟩, cv (.pointer (some ⟨g29, 10, none⟩)), cm M338 g29 10 (.bool i.acq) ⟨_, hM341, rfl⟩, cv (.pointer (some ⟨g29, 12, none⟩)), cm M338 g29 12 (.bool i.rel) ⟨_, hM341, rfl⟩]) mixedY SM.refl SM.trans SM.drew hA337 (by kernel_rfl) ?_ ?_
  ·skip
   refine ec_ (fun x y hS hT hk => dfa (wn rfl) (hT.ev rfl) fo23_1 ⟨SM.refl _, rfl⟩) ?_
   refine ec_ (fun x y hS hT hk => dld (v := (.int .i64 i.dst)) (wn rfl) (hk 0 rfl) one3 ((Blk.sm (w := w42.drew) m45 hS hM339).cell rfl) ⟨SM.refl _, rfl⟩) ?_
   refine ec_ (fun x y hS hT hk => dfa (wn rfl) (hT.ev rfl) fo23_2 ⟨SM.refl _, rfl⟩) ?_
   refine ec_ (fun x y hS hT hk => dld (v := (.int .i64 i.a)) (wn rfl) (hk 2 rfl) one3 ((Blk.sm (w := w42.drew) m45 hS hM339).cell rfl) ⟨SM.refl _, rfl⟩) ?_
   refine ec_ (fun x y hS hT hk => dfa (wn rfl) (hT.ev rfl) fo23_9 ⟨SM.refl _, rfl⟩) ?_
   refine ec_ (fun x y hS hT hk => dld (v := (.int .i64 i.fn)) (wn rfl) (hk 4 rfl) one3 ((Blk.sm (w := w42.drew) m45 hS hM339).cell rfl) ⟨SM.refl _, rfl⟩) ?_
   refine ec_ (fun x y hS hT hk => dfa (wn rfl) (hT.ev rfl) fo23_10 ⟨SM.refl _, rfl⟩) ?_
   refine ec_ (fun x y hS hT hk => dld (v := (.bool i.acq)) (wn rfl) (hk 6 rfl) one4 ((Blk.sm (w := w42.drew) m45 hS hM339).cell rfl) ⟨SM.refl _, rfl⟩) ?_
   refine ec_ (fun x y hS hT hk => dfa (wn rfl) (hT.ev rfl) fo23_12 ⟨SM.refl _, rfl⟩) ?_
   refine ec_ (fun x y hS hT hk => dld (v := (.bool i.rel)) (wn rfl) (hk 8 rfl) one4 ((Blk.sm (w := w42.drew) m45 hS hM339).cell rfl) ⟨SM.refl _, rfl⟩) ?_
   refine ec_ (fun x y hS hT hk => dfa (wn rfl) (hT.ev rfl) fo23_1 ⟨SM.refl _, rfl⟩) ?_
   refine ec_ (fun x y hS hT hk => d_storeM (v := (.int .i64 i.dst)) (w0 := w42.drew) (wn rfl) (hk 10 rfl) (hk 1 rfl) one3 rfl hS hM341 m44 (Nat.le_of_ble_eq_true rfl) rfl (fun _ h => h)) ?_
   refine ec_ (fun x y hS hT hk => dfa (wn rfl) (hT.ev rfl) fo23_2 ⟨SM.refl _, rfl⟩) ?_
   refine ec_ (fun x y hS hT hk => d_storeM (v := (.int .i64 i.a)) (w0 := w42.drew) (wn rfl) (hk 12 rfl) (hk 3 rfl) one3 rfl hS hM341 m44 (Nat.le_of_ble_eq_true rfl) rfl (fun _ h => h)) ?_
   refine ec_ (fun x y hS hT hk => dfa (wn rfl) (hT.ev rfl) fo23_9 ⟨SM.refl _, rfl⟩) ?_
   refine ec_ (fun x y hS hT hk => d_storeM (v := (.int .i64 i.fn)) (w0 := w42.drew) (wn rfl) (hk 14 rfl) (hk 5 rfl) one3 rfl hS hM341 m44 (Nat.le_of_ble_eq_true rfl) rfl (fun _ h => h)) ?_
   refine ec_ (fun x y hS hT hk => dfa (wn rfl) (hT.ev rfl) fo23_10 ⟨SM.refl _, rfl⟩) ?_
   refine ec_ (fun x y hS hT hk => d_storeM (v := (.bool i.acq)) (w0 := w42.drew) (wn rfl) (hk 16 rfl) (hk 7 rfl) one4 rfl hS hM341 m44 (Nat.le_of_ble_eq_true rfl) rfl (fun _ h => h)) ?_
   refine ec_ (fun x y hS hT hk => dfa (wn rfl) (hT.ev rfl) fo23_12 ⟨SM.refl _, rfl⟩) ?_
   refine ec_ (fun x y hS hT hk => d_storeM (v := (.bool i.rel)) (w0 := w42.drew) (wn rfl) (hk 18 rfl) (hk 9 rfl) one4 rfl hS hM341 m44 (Nat.le_of_ble_eq_true rfl) rfl (fun _ h => h)) ?_
   exact each_nil
  intro f342 a343 w344 hS345 hC346 hA347
  have hA348 : St 119 [(1, (.pointer (some ⟨g3, 0, none⟩))), (2, (.pointer (some ⟨g12, 0, none⟩))), (3, (.pointer (some ⟨g29, 0, none⟩)))] a343 := hA347.sub rfl
  have m349 := m45.sm hS345 hM339
  have m350 := m46.sm hS345 hM340
  have m351 : Blk w344 g29 #[.int .i64 i.op, .int .i64 i.dst, .int .i64 i.a, .int .i64 (-1), .int .i64 0, .int .i64 0, .int .i64 0, .int .i64 (-1), .int .i64 0, .int .i64 i.fn, .bool i.acq, .bool false, .bool i.rel, .int .i64 0, .int .i64 0, .int .i64 0, .bool false] 23 := hS345.finL [(1, (.int .i64 i.dst)), (2, (.int .i64 i.a)), (9, (.int .i64 i.fn)), (10, (.bool i.acq)), (12, (.bool i.rel))] hM341 (by kernel_rfl) m44 (fc (hC346 11 (Nat.le_of_ble_eq_true rfl)) (fc (hC346 13 (Nat.le_of_ble_eq_true rfl)) (fc (hC346 15 (Nat.le_of_ble_eq_true rfl)) (fc (hC346 17 (Nat.le_of_ble_eq_true rfl)) (fc (hC346 19 (Nat.le_of_ble_eq_true rfl)) fn_)))))
  have b352 := hS345.below b47 b47.size hM338B
  refine i_norm ?_
  refine tn_ ?_
  refine wp_seq ?_
  refine wp_seq ?_
  refine wp_region_lit ?_
  refine qs hA348 rfl (dlr (cs := (insC i)) (wn rfl) (hA348.ev rfl) row23 m349 ?_)
  intro a353 hA354
  refine qs hA354 rfl (dcl (wn rfl) ent35 (map1 (hA354.ev rfl)) (isOp_any i w344) ?_)
  rintro e358 w355 ⟨he357, hG356⟩
  have m359 := m349.grow hG356
  have m360 := m350.grow hG356
  have m361 := m351.grow hG356
  have b362 := blg b352 hG356 b352.size
  refine ⟨.bool true, he357.trans (ret_bool (by simp [opB, rdB, wrB, eq_of_beq hb331])), ?_⟩
  intro a363 hA364
  refine qe_ ?_
  refine tn_ ?_
  refine c_true hA364 rfl ?_
  have hA365 : St 119 [(1, (.pointer (some ⟨g3, 0, none⟩))), (2, (.pointer (some ⟨g12, 0, none⟩))), (3, (.pointer (some ⟨g29, 0, none⟩)))] a363 := hA364.sub rfl
  let M366 : Nat → Option (Array Value) := fun k => if k = g29 then some #[.int .i64 i.op, .int .i64 i.dst, .int .i64 i.a, .int .i64 (-1), .int .i64 0, .int .i64 i.loc, .int .i64 i.off, .int .i64 i.index, .int .i64 i.size, .int .i64 i.fn, .bool i.acq, .bool false, .bool i.rel, .int .i64 0, .int .i64 0, .int .i64 0, .bool false] else none
  have hM366 : M366 = fun k => if k = g29 then some #[.int .i64 i.op, .int .i64 i.dst, .int .i64 i.a, .int .i64 (-1), .int .i64 0, .int .i64 i.loc, .int .i64 i.off, .int .i64 i.index, .int .i64 i.size, .int .i64 i.fn, .bool i.acq, .bool false, .bool i.rel, .int .i64 0, .int .i64 0, .int .i64 0, .bool false] else none := rfl
  clear_value M366
  have hM367 : M366 g3 = none := ((congrFun hM366 g3).trans (if_neg n35))
  have hM368 : M366 g12 = none := ((congrFun hM366 g12).trans (if_neg n36))
  have hM369 : M366 g29 = some #[.int .i64 i.op, .int .i64 i.dst, .int .i64 i.a, .int .i64 (-1), .int .i64 0, .int .i64 i.loc, .int .i64 i.off, .int .i64 i.index, .int .i64 i.size, .int .i64 i.fn, .bool i.acq, .bool false, .bool i.rel, .int .i64 0, .int .i64 0, .int .i64 0, .bool false] := ((congrFun hM366 g29).trans (if_pos rfl))
  have hM366B : ∀ k, k < w.heap.size → M366 k = none := (fun k hk => (congrFun hM366 k).trans (if_neg (fun h => Nat.lt_irrefl _ (Nat.lt_of_lt_of_le (h ▸ hk) ge34))))
  refine drawn (S := SM M366) (tabL [cv (.pointer (some ⟨g3, 5, none⟩)), cv (.int .i64 i.loc), cv (.pointer (some ⟨g3, 6, none⟩)), cv (.int .i64 i.off), cv (.pointer (some ⟨g3, 7, none⟩)), cv (.int .i64 i.index), cv (.pointer (some ⟨g3, 8, none⟩)), cv (.int .i64 i.size), cv (.pointer (some ⟨g29, 5, none⟩)), cm M366 g29 5 (.int .i64 i.loc) ⟨_, hM369, rfl⟩, cv (.pointer (some ⟨g29, 6, none⟩)), cm M366 g29 6 (.int .i64 i.off) ⟨_, hM369, rfl⟩, cv (.pointer (some ⟨g29, 7, none⟩)), cm M366 g29 7 (.int .i64 i.index) ⟨_, hM369, rfl⟩, cv (.pointer (some ⟨g29, 8, none⟩)), cm M366 g29 8 (.int .i64 i.size) ⟨_, hM369, rfl⟩]) mixedY SM.refl SM.trans SM.drew hA365 (by kernel_rfl) ?_ ?_
  ·skip
   refine ec_ (fun x y hS hT hk => dfa (wn rfl) (hT.ev rfl) fo23_5 ⟨SM.refl _, rfl⟩) ?_
   refine ec_ (fun x y hS hT hk => dld (v := (.int .i64 i.loc)) (wn rfl) (hk 0 rfl) one3 ((Blk.sm (w := w355.drew) m359 hS hM367).cell rfl) ⟨SM.refl _, rfl⟩) ?_
   refine ec_ (fun x y hS hT hk => dfa (wn rfl) (hT.ev rfl) fo23_6 ⟨SM.refl _, rfl⟩) ?_
   refine ec_ (fun x y hS hT hk => dld (v := (.int .i64 i.off)) (wn rfl) (hk 2 rfl) one3 ((Blk.sm (w := w355.drew) m359 hS hM367).cell rfl) ⟨SM.refl _, rfl⟩) ?_
   refine ec_ (fun x y hS hT hk => dfa (wn rfl) (hT.ev rfl) fo23_7 ⟨SM.refl _, rfl⟩) ?_
   refine ec_ (fun x y hS hT hk => dld (v := (.int .i64 i.index)) (wn rfl) (hk 4 rfl) one3 ((Blk.sm (w := w355.drew) m359 hS hM367).cell rfl) ⟨SM.refl _, rfl⟩) ?_
   refine ec_ (fun x y hS hT hk => dfa (wn rfl) (hT.ev rfl) fo23_8 ⟨SM.refl _, rfl⟩) ?_
   refine ec_ (fun x y hS hT hk => dld (v := (.int .i64 i.size)) (wn rfl) (hk 6 rfl) one3 ((Blk.sm (w := w355.drew) m359 hS hM367).cell rfl) ⟨SM.refl _, rfl⟩) ?_
   refine ec_ (fun x y hS hT hk => dfa (wn rfl) (hT.ev rfl) fo23_5 ⟨SM.refl _, rfl⟩) ?_
   refine ec_ (fun x y hS hT hk => d_storeM (v := (.int .i64 i.loc)) (w0 := w355.drew) (wn rfl) (hk 8 rfl) (hk 1 rfl) one3 rfl hS hM369 m361 (Nat.le_of_ble_eq_true rfl) rfl (fun _ h => h)) ?_
   refine ec_ (fun x y hS hT hk => dfa (wn rfl) (hT.ev rfl) fo23_6 ⟨SM.refl _, rfl⟩) ?_
   refine ec_ (fun x y hS hT hk => d_storeM (v := (.int .i64 i.off)) (w0 := w355.drew) (wn rfl) (hk 10 rfl) (hk 3 rfl) one3 rfl hS hM369 m361 (Nat.le_of_ble_eq_true rfl) rfl (fun _ h => h)) ?_
   refine ec_ (fun x y hS hT hk => dfa (wn rfl) (hT.ev rfl) fo23_7 ⟨SM.refl _, rfl⟩) ?_
   refine ec_ (fun x y hS hT hk => d_storeM (v := (.int .i64 i.index)) (w0 := w355.drew) (wn rfl) (hk 12 rfl) (hk 5 rfl) one3 rfl hS hM369 m361 (Nat.le_of_ble_eq_true rfl) rfl (fun _ h => h)) ?_
   refine ec_ (fun x y hS hT hk => dfa (wn rfl) (hT.ev rfl) fo23_8 ⟨SM.refl _, rfl⟩) ?_
   refine ec_ (fun x y hS hT hk => d_storeM (v := (.int .i64 i.size)) (w0 := w355.drew) (wn rfl) (hk 14 rfl) (hk 7 rfl) one3 rfl hS hM369 m361 (Nat.le_of_ble_eq_true rfl) rfl (fun _ h => h)) ?_
   exact each_nil
  intro f370 a371 w372 hS373 hC374 hA375
  have hA376 : St 119 [(2, (.pointer (some ⟨g12, 0, none⟩))), (3, (.pointer (some ⟨g29, 0, none⟩)))] a371 := hA375.sub rfl
  have m377 := m359.sm hS373 hM367
  have m378 := m360.sm hS373 hM368
  have m379 : Blk w372 g29 #[.int .i64 i.op, .int .i64 i.dst, .int .i64 i.a, .int .i64 (-1), .int .i64 0, .int .i64 i.loc, .int .i64 i.off, .int .i64 i.index, .int .i64 i.size, .int .i64 i.fn, .bool i.acq, .bool false, .bool i.rel, .int .i64 0, .int .i64 0, .int .i64 0, .bool false] 23 := hS373.finL [(5, (.int .i64 i.loc)), (6, (.int .i64 i.off)), (7, (.int .i64 i.index)), (8, (.int .i64 i.size))] hM369 (by kernel_rfl) m361 (fc (hC374 9 (Nat.le_of_ble_eq_true rfl)) (fc (hC374 11 (Nat.le_of_ble_eq_true rfl)) (fc (hC374 13 (Nat.le_of_ble_eq_true rfl)) (fc (hC374 15 (Nat.le_of_ble_eq_true rfl)) fn_))))
  have b380 := hS373.below b362 b362.size hM366B
  refine tn_ ?_
  refine wp_seq ?_
  refine wp_region_lit ?_
  refine qs hA376 rfl (dlr (cs := #[.int .i64 i.op, .int .i64 i.dst, .int .i64 i.a, .int .i64 (-1), .int .i64 0, .int .i64 i.loc, .int .i64 i.off, .int .i64 i.index, .int .i64 i.size, .int .i64 i.fn, .bool i.acq, .bool false, .bool i.rel, .int .i64 0, .int .i64 0, .int .i64 0, .bool false]) (wn rfl) (hA376.ev rfl) row23 m379 ?_)
  intro a381 hA382
  refine qs hA382 rfl (dsr (wn rfl) (hA382.ev rfl) (hA382.ev rfl) row23 m378 rfl rfl ?_)
  intro w383 hU384 (m385 : Blk w383 g12 #[.int .i64 i.op, .int .i64 i.dst, .int .i64 i.a, .int .i64 (-1), .int .i64 0, .int .i64 i.loc, .int .i64 i.off, .int .i64 i.index, .int .i64 i.size, .int .i64 i.fn, .bool i.acq, .bool false, .bool i.rel, .int .i64 0, .int .i64 0, .int .i64 0, .bool false] 23)
  have m386 := m377.upd hU384 n18
  have m387 := m379.upd hU384 (Ne.symm n36)
  have b388 := hU384.below b380 ge17
  intro a389 hA390
  refine qe_ ?_
  refine tn_ ?_
  refine wp_ret ?_
  refine retRow (g := g12) (cs := #[.int .i64 i.op, .int .i64 i.dst, .int .i64 i.a, .int .i64 (-1), .int .i64 0, .int .i64 i.loc, .int .i64 i.off, .int .i64 i.index, .int .i64 i.size, .int .i64 i.fn, .bool i.acq, .bool false, .bool i.rel, .int .i64 0, .int .i64 0, .int .i64 0, .bool false]) rfl hA390 rfl m385 row23 ?_
  exact ⟨ret_agg (by simp [insC, plainF, opB, rdB, wrB, hb54, hb103, hb152, hb201, hb266, eq_of_beq hb331]), b388⟩
 have hq391 := ne_of_beq hb331
 refine qs hA330 rfl (dbn (wn rfl) (hA330.ev rfl) (hA330.ev rfl) (b_eq _ _ i.op 6 false _ hb331) ?_)
 intro a392 hA393
 refine qs hA393 rfl (das (wn rfl) (hA393.ev rfl) ?_)
 intro a394 hA395
 refine qe_ ?_
 refine tn_ ?_
 refine c_false hA395 rfl ?_
 refine wp_seq ?_
 refine wp_region_lit ?_
 rcases Bool.eq_false_or_eq_true (i.op == 7) with hb396 | hb396
 ·skip
  have hq397 := eq_of_beq hb396
  refine qs hA395 rfl (dbn (wn rfl) (hA395.ev rfl) (hA395.ev rfl) (b_eq _ _ i.op 7 true _ hb396) ?_)
  intro a398 hA399
  refine qs hA399 rfl (das (wn rfl) (hA399.ev rfl) ?_)
  intro a400 hA401
  refine qe_ ?_
  refine tn_ ?_
  refine c_true hA401 rfl ?_
  have hA402 : St 119 [(1, (.pointer (some ⟨g3, 0, none⟩))), (2, (.pointer (some ⟨g12, 0, none⟩))), (3, (.pointer (some ⟨g29, 0, none⟩)))] a400 := hA401.sub rfl
  let M403 : Nat → Option (Array Value) := fun k => if k = g29 then some #[.int .i64 i.op, .int .i64 (-1), .int .i64 (-1), .int .i64 (-1), .int .i64 0, .int .i64 0, .int .i64 0, .int .i64 (-1), .int .i64 0, .int .i64 0, .bool false, .bool false, .bool false, .int .i64 i.pred, .int .i64 i.succ, .int .i64 0, .bool false] else none
  have hM403 : M403 = fun k => if k = g29 then some #[.int .i64 i.op, .int .i64 (-1), .int .i64 (-1), .int .i64 (-1), .int .i64 0, .int .i64 0, .int .i64 0, .int .i64 (-1), .int .i64 0, .int .i64 0, .bool false, .bool false, .bool false, .int .i64 i.pred, .int .i64 i.succ, .int .i64 0, .bool false] else none := rfl
  clear_value M403
  have hM404 : M403 g3 = none := ((congrFun hM403 g3).trans (if_neg n35))
  have hM405 : M403 g12 = none := ((congrFun hM403 g12).trans (if_neg n36))
  have hM406 : M403 g29 = some #[.int .i64 i.op, .int .i64 (-1), .int .i64 (-1), .int .i64 (-1), .int .i64 0, .int .i64 0, .int .i64 0, .int .i64 (-1), .int .i64 0, .int .i64 0, .bool false, .bool false, .bool false, .int .i64 i.pred, .int .i64 i.succ, .int .i64 0, .bool false] := ((congrFun hM403 g29).trans (if_pos rfl))
  have hM403B : ∀ k, k < w.heap.size → M403 k = none := (fun k hk => (congrFun hM403 k).trans (if_neg (fun h => Nat.lt_irrefl _ (Nat.lt_of_lt_of_le (h ▸ hk) ge34))))
  refine drawn (S := SM M403) (tabL [cv (.pointer (some ⟨g3, 13, none⟩)), cv (.int .i64 i.pred), cv (.pointer (some ⟨g3, 14, none⟩)), cv (.int .i64 i.succ), cv (.pointer (some ⟨g29, 13, none⟩)), cm M403 g29 13 (.int .i64 i.pred) ⟨_, hM406, rfl⟩, cv (.pointer (some ⟨g29, 14, none⟩)), cm M403 g29 14 (.int .i64 i.succ) ⟨_, hM406, rfl⟩]) mixedY SM.refl SM.trans SM.drew hA402 (by kernel_rfl) ?_ ?_
  ·skip
   refine ec_ (fun x y hS hT hk => dfa (wn rfl) (hT.ev rfl) fo23_13 ⟨SM.refl _, rfl⟩) ?_
   refine ec_ (fun x y hS hT hk => dld (v := (.int .i64 i.pred)) (wn rfl) (hk 0 rfl) one3 ((Blk.sm (w := w42.drew) m45 hS hM404).cell rfl) ⟨SM.refl _, rfl⟩) ?_
   refine ec_ (fun x y hS hT hk => dfa (wn rfl) (hT.ev rfl) fo23_14 ⟨SM.refl _, rfl⟩) ?_
   refine ec_ (fun x y hS hT hk => dld (v := (.int .i64 i.succ)) (wn rfl) (hk 2 rfl) one3 ((Blk.sm (w := w42.drew) m45 hS hM404).cell rfl) ⟨SM.refl _, rfl⟩) ?_
   refine ec_ (fun x y hS hT hk => dfa (wn rfl) (hT.ev rfl) fo23_13 ⟨SM.refl _, rfl⟩) ?_
   refine ec_ (fun x y hS hT hk => d_storeM (v := (.int .i64 i.pred)) (w0 := w42.drew) (wn rfl) (hk 4 rfl) (hk 1 rfl) one3 rfl hS hM406 m44 (Nat.le_of_ble_eq_true rfl) rfl (fun _ h => h)) ?_
   refine ec_ (fun x y hS hT hk => dfa (wn rfl) (hT.ev rfl) fo23_14 ⟨SM.refl _, rfl⟩) ?_
   refine ec_ (fun x y hS hT hk => d_storeM (v := (.int .i64 i.succ)) (w0 := w42.drew) (wn rfl) (hk 6 rfl) (hk 3 rfl) one3 rfl hS hM406 m44 (Nat.le_of_ble_eq_true rfl) rfl (fun _ h => h)) ?_
   exact each_nil
  intro f407 a408 w409 hS410 hC411 hA412
  have hA413 : St 119 [(1, (.pointer (some ⟨g3, 0, none⟩))), (2, (.pointer (some ⟨g12, 0, none⟩))), (3, (.pointer (some ⟨g29, 0, none⟩)))] a408 := hA412.sub rfl
  have m414 := m45.sm hS410 hM404
  have m415 := m46.sm hS410 hM405
  have m416 : Blk w409 g29 #[.int .i64 i.op, .int .i64 (-1), .int .i64 (-1), .int .i64 (-1), .int .i64 0, .int .i64 0, .int .i64 0, .int .i64 (-1), .int .i64 0, .int .i64 0, .bool false, .bool false, .bool false, .int .i64 i.pred, .int .i64 i.succ, .int .i64 0, .bool false] 23 := hS410.finL [(13, (.int .i64 i.pred)), (14, (.int .i64 i.succ))] hM406 (by kernel_rfl) m44 (fc (hC411 5 (Nat.le_of_ble_eq_true rfl)) (fc (hC411 7 (Nat.le_of_ble_eq_true rfl)) fn_))
  have b417 := hS410.below b47 b47.size hM403B
  refine i_norm ?_
  refine tn_ ?_
  refine wp_seq ?_
  refine wp_seq ?_
  refine wp_region_lit ?_
  refine qs hA413 rfl (dlr (cs := (insC i)) (wn rfl) (hA413.ev rfl) row23 m414 ?_)
  intro a418 hA419
  refine qs hA419 rfl (dcl (wn rfl) ent35 (map1 (hA419.ev rfl)) (isOp_any i w409) ?_)
  rintro e423 w420 ⟨he422, hG421⟩
  have m424 := m414.grow hG421
  have m425 := m415.grow hG421
  have m426 := m416.grow hG421
  have b427 := blg b417 hG421 b417.size
  refine ⟨.bool false, he422.trans (ret_bool (by simp [opB, rdB, wrB, eq_of_beq hb396])), ?_⟩
  intro a428 hA429
  refine qe_ ?_
  refine tn_ ?_
  refine c_false hA429 rfl ?_
  refine wp_skip ?_
  refine tn_ ?_
  refine wp_seq ?_
  refine wp_region_lit ?_
  refine qs hA429 rfl (dlr (cs := #[.int .i64 i.op, .int .i64 (-1), .int .i64 (-1), .int .i64 (-1), .int .i64 0, .int .i64 0, .int .i64 0, .int .i64 (-1), .int .i64 0, .int .i64 0, .bool false, .bool false, .bool false, .int .i64 i.pred, .int .i64 i.succ, .int .i64 0, .bool false]) (wn rfl) (hA429.ev rfl) row23 m426 ?_)
  intro a430 hA431
  refine qs hA431 rfl (dsr (wn rfl) (hA431.ev rfl) (hA431.ev rfl) row23 m425 rfl rfl ?_)
  intro w432 hU433 (m434 : Blk w432 g12 #[.int .i64 i.op, .int .i64 (-1), .int .i64 (-1), .int .i64 (-1), .int .i64 0, .int .i64 0, .int .i64 0, .int .i64 (-1), .int .i64 0, .int .i64 0, .bool false, .bool false, .bool false, .int .i64 i.pred, .int .i64 i.succ, .int .i64 0, .bool false] 23)
  have m435 := m424.upd hU433 n18
  have m436 := m426.upd hU433 (Ne.symm n36)
  have b437 := hU433.below b427 ge17
  intro a438 hA439
  refine qe_ ?_
  refine tn_ ?_
  refine wp_ret ?_
  refine retRow (g := g12) (cs := #[.int .i64 i.op, .int .i64 (-1), .int .i64 (-1), .int .i64 (-1), .int .i64 0, .int .i64 0, .int .i64 0, .int .i64 (-1), .int .i64 0, .int .i64 0, .bool false, .bool false, .bool false, .int .i64 i.pred, .int .i64 i.succ, .int .i64 0, .bool false]) rfl hA439 rfl m434 row23 ?_
  exact ⟨ret_agg (by simp [insC, plainF, opB, rdB, wrB, hb54, hb103, hb152, hb201, hb266, hb331, eq_of_beq hb396]), b437⟩
 have hq440 := ne_of_beq hb396
 refine qs hA395 rfl (dbn (wn rfl) (hA395.ev rfl) (hA395.ev rfl) (b_eq _ _ i.op 7 false _ hb396) ?_)
 intro a441 hA442
 refine qs hA442 rfl (das (wn rfl) (hA442.ev rfl) ?_)
 intro a443 hA444
 refine qe_ ?_
 refine tn_ ?_
 refine c_false hA444 rfl ?_
 refine wp_seq ?_
 refine wp_region_lit ?_
 rcases Bool.eq_false_or_eq_true (i.op == 9) with hb445 | hb445
 ·skip
  have hq446 := eq_of_beq hb445
  refine qs hA444 rfl (dbn (wn rfl) (hA444.ev rfl) (hA444.ev rfl) (b_eq _ _ i.op 9 true _ hb445) ?_)
  intro a447 hA448
  refine qs hA448 rfl (das (wn rfl) (hA448.ev rfl) ?_)
  intro a449 hA450
  refine qe_ ?_
  refine tn_ ?_
  refine c_true hA450 rfl ?_
  have hA451 : St 119 [(1, (.pointer (some ⟨g3, 0, none⟩))), (2, (.pointer (some ⟨g12, 0, none⟩))), (3, (.pointer (some ⟨g29, 0, none⟩)))] a449 := hA450.sub rfl
  let M452 : Nat → Option (Array Value) := fun k => if k = g29 then some #[.int .i64 i.op, .int .i64 (-1), .int .i64 i.a, .int .i64 (-1), .int .i64 0, .int .i64 0, .int .i64 0, .int .i64 (-1), .int .i64 0, .int .i64 0, .bool false, .bool false, .bool false, .int .i64 0, .int .i64 0, .int .i64 i.to, .bool i.zero] else none
  have hM452 : M452 = fun k => if k = g29 then some #[.int .i64 i.op, .int .i64 (-1), .int .i64 i.a, .int .i64 (-1), .int .i64 0, .int .i64 0, .int .i64 0, .int .i64 (-1), .int .i64 0, .int .i64 0, .bool false, .bool false, .bool false, .int .i64 0, .int .i64 0, .int .i64 i.to, .bool i.zero] else none := rfl
  clear_value M452
  have hM453 : M452 g3 = none := ((congrFun hM452 g3).trans (if_neg n35))
  have hM454 : M452 g12 = none := ((congrFun hM452 g12).trans (if_neg n36))
  have hM455 : M452 g29 = some #[.int .i64 i.op, .int .i64 (-1), .int .i64 i.a, .int .i64 (-1), .int .i64 0, .int .i64 0, .int .i64 0, .int .i64 (-1), .int .i64 0, .int .i64 0, .bool false, .bool false, .bool false, .int .i64 0, .int .i64 0, .int .i64 i.to, .bool i.zero] := ((congrFun hM452 g29).trans (if_pos rfl))
  have hM452B : ∀ k, k < w.heap.size → M452 k = none := (fun k hk => (congrFun hM452 k).trans (if_neg (fun h => Nat.lt_irrefl _ (Nat.lt_of_lt_of_le (h ▸ hk) ge34))))
  refine drawn (S := SM M452) (tabL [cv (.pointer (some ⟨g3, 2, none⟩)), cv (.int .i64 i.a), cv (.pointer (some ⟨g3, 16, none⟩)), cv (.bool i.zero), cv (.pointer (some ⟨g3, 15, none⟩)), cv (.int .i64 i.to), cv (.pointer (some ⟨g29, 2, none⟩)), cm M452 g29 2 (.int .i64 i.a) ⟨_, hM455, rfl⟩, cv (.pointer (some ⟨g29, 16, none⟩)), cm M452 g29 16 (.bool i.zero) ⟨_, hM455, rfl⟩, cv (.pointer (some ⟨g29, 15, none⟩)), cm M452 g29 15 (.int .i64 i.to) ⟨_, hM455, rfl⟩]) mixedY SM.refl SM.trans SM.drew hA451 (by kernel_rfl) ?_ ?_
  ·skip
   refine ec_ (fun x y hS hT hk => dfa (wn rfl) (hT.ev rfl) fo23_2 ⟨SM.refl _, rfl⟩) ?_
   refine ec_ (fun x y hS hT hk => dld (v := (.int .i64 i.a)) (wn rfl) (hk 0 rfl) one3 ((Blk.sm (w := w42.drew) m45 hS hM453).cell rfl) ⟨SM.refl _, rfl⟩) ?_
   refine ec_ (fun x y hS hT hk => dfa (wn rfl) (hT.ev rfl) fo23_16 ⟨SM.refl _, rfl⟩) ?_
   refine ec_ (fun x y hS hT hk => dld (v := (.bool i.zero)) (wn rfl) (hk 2 rfl) one4 ((Blk.sm (w := w42.drew) m45 hS hM453).cell rfl) ⟨SM.refl _, rfl⟩) ?_
   refine ec_ (fun x y hS hT hk => dfa (wn rfl) (hT.ev rfl) fo23_15 ⟨SM.refl _, rfl⟩) ?_
   refine ec_ (fun x y hS hT hk => dld (v := (.int .i64 i.to)) (wn rfl) (hk 4 rfl) one3 ((Blk.sm (w := w42.drew) m45 hS hM453).cell rfl) ⟨SM.refl _, rfl⟩) ?_
   refine ec_ (fun x y hS hT hk => dfa (wn rfl) (hT.ev rfl) fo23_2 ⟨SM.refl _, rfl⟩) ?_
   refine ec_ (fun x y hS hT hk => d_storeM (v := (.int .i64 i.a)) (w0 := w42.drew) (wn rfl) (hk 6 rfl) (hk 1 rfl) one3 rfl hS hM455 m44 (Nat.le_of_ble_eq_true rfl) rfl (fun _ h => h)) ?_
   refine ec_ (fun x y hS hT hk => dfa (wn rfl) (hT.ev rfl) fo23_16 ⟨SM.refl _, rfl⟩) ?_
   refine ec_ (fun x y hS hT hk => d_storeM (v := (.bool i.zero)) (w0 := w42.drew) (wn rfl) (hk 8 rfl) (hk 3 rfl) one4 rfl hS hM455 m44 (Nat.le_of_ble_eq_true rfl) rfl (fun _ h => h)) ?_
   refine ec_ (fun x y hS hT hk => dfa (wn rfl) (hT.ev rfl) fo23_15 ⟨SM.refl _, rfl⟩) ?_
   refine ec_ (fun x y hS hT hk => d_storeM (v := (.int .i64 i.to)) (w0 := w42.drew) (wn rfl) (hk 10 rfl) (hk 5 rfl) one3 rfl hS hM455 m44 (Nat.le_of_ble_eq_true rfl) rfl (fun _ h => h)) ?_
   exact each_nil
  intro f456 a457 w458 hS459 hC460 hA461
  have hA462 : St 119 [(1, (.pointer (some ⟨g3, 0, none⟩))), (2, (.pointer (some ⟨g12, 0, none⟩))), (3, (.pointer (some ⟨g29, 0, none⟩)))] a457 := hA461.sub rfl
  have m463 := m45.sm hS459 hM453
  have m464 := m46.sm hS459 hM454
  have m465 : Blk w458 g29 #[.int .i64 i.op, .int .i64 (-1), .int .i64 i.a, .int .i64 (-1), .int .i64 0, .int .i64 0, .int .i64 0, .int .i64 (-1), .int .i64 0, .int .i64 0, .bool false, .bool false, .bool false, .int .i64 0, .int .i64 0, .int .i64 i.to, .bool i.zero] 23 := hS459.finL [(2, (.int .i64 i.a)), (16, (.bool i.zero)), (15, (.int .i64 i.to))] hM455 (by kernel_rfl) m44 (fc (hC460 7 (Nat.le_of_ble_eq_true rfl)) (fc (hC460 9 (Nat.le_of_ble_eq_true rfl)) (fc (hC460 11 (Nat.le_of_ble_eq_true rfl)) fn_)))
  have b466 := hS459.below b47 b47.size hM452B
  refine i_norm ?_
  refine tn_ ?_
  refine wp_seq ?_
  refine wp_seq ?_
  refine wp_region_lit ?_
  refine qs hA462 rfl (dlr (cs := (insC i)) (wn rfl) (hA462.ev rfl) row23 m463 ?_)
  intro a467 hA468
  refine qs hA468 rfl (dcl (wn rfl) ent35 (map1 (hA468.ev rfl)) (isOp_any i w458) ?_)
  rintro e472 w469 ⟨he471, hG470⟩
  have m473 := m463.grow hG470
  have m474 := m464.grow hG470
  have m475 := m465.grow hG470
  have b476 := blg b466 hG470 b466.size
  refine ⟨.bool false, he471.trans (ret_bool (by simp [opB, rdB, wrB, eq_of_beq hb445])), ?_⟩
  intro a477 hA478
  refine qe_ ?_
  refine tn_ ?_
  refine c_false hA478 rfl ?_
  refine wp_skip ?_
  refine tn_ ?_
  refine wp_seq ?_
  refine wp_region_lit ?_
  refine qs hA478 rfl (dlr (cs := #[.int .i64 i.op, .int .i64 (-1), .int .i64 i.a, .int .i64 (-1), .int .i64 0, .int .i64 0, .int .i64 0, .int .i64 (-1), .int .i64 0, .int .i64 0, .bool false, .bool false, .bool false, .int .i64 0, .int .i64 0, .int .i64 i.to, .bool i.zero]) (wn rfl) (hA478.ev rfl) row23 m475 ?_)
  intro a479 hA480
  refine qs hA480 rfl (dsr (wn rfl) (hA480.ev rfl) (hA480.ev rfl) row23 m474 rfl rfl ?_)
  intro w481 hU482 (m483 : Blk w481 g12 #[.int .i64 i.op, .int .i64 (-1), .int .i64 i.a, .int .i64 (-1), .int .i64 0, .int .i64 0, .int .i64 0, .int .i64 (-1), .int .i64 0, .int .i64 0, .bool false, .bool false, .bool false, .int .i64 0, .int .i64 0, .int .i64 i.to, .bool i.zero] 23)
  have m484 := m473.upd hU482 n18
  have m485 := m475.upd hU482 (Ne.symm n36)
  have b486 := hU482.below b476 ge17
  intro a487 hA488
  refine qe_ ?_
  refine tn_ ?_
  refine wp_ret ?_
  refine retRow (g := g12) (cs := #[.int .i64 i.op, .int .i64 (-1), .int .i64 i.a, .int .i64 (-1), .int .i64 0, .int .i64 0, .int .i64 0, .int .i64 (-1), .int .i64 0, .int .i64 0, .bool false, .bool false, .bool false, .int .i64 0, .int .i64 0, .int .i64 i.to, .bool i.zero]) rfl hA488 rfl m483 row23 ?_
  exact ⟨ret_agg (by simp [insC, plainF, opB, rdB, wrB, hb54, hb103, hb152, hb201, hb266, hb331, hb396, eq_of_beq hb445]), b486⟩
 have hq489 := ne_of_beq hb445
 refine qs hA444 rfl (dbn (wn rfl) (hA444.ev rfl) (hA444.ev rfl) (b_eq _ _ i.op 9 false _ hb445) ?_)
 intro a490 hA491
 refine qs hA491 rfl (das (wn rfl) (hA491.ev rfl) ?_)
 intro a492 hA493
 refine qe_ ?_
 refine tn_ ?_
 refine c_false hA493 rfl ?_
 refine wp_skip ?_
 refine i_norm ?_
 refine tn_ ?_
 refine wp_seq ?_
 refine wp_seq ?_
 refine wp_region_lit ?_
 refine qs hA493 rfl (dlr (cs := (insC i)) (wn rfl) (hA493.ev rfl) row23 m45 ?_)
 intro a494 hA495
 refine qs hA495 rfl (dcl (wn rfl) ent35 (map1 (hA495.ev rfl)) (isOp_any i w42) ?_)
 rintro e499 w496 ⟨he498, hG497⟩
 have m500 := m45.grow hG497
 have m501 := m46.grow hG497
 have m502 := m44.grow hG497
 have b503 := blg b47 hG497 b47.size
 refine ⟨.bool false, he498.trans (ret_bool (by simp [opB, rdB, wrB, hb54, hb103, hb152, hb201, hb266, hb331, hb396, hb445])), ?_⟩
 intro a504 hA505
 refine qe_ ?_
 refine tn_ ?_
 refine c_false hA505 rfl ?_
 refine wp_skip ?_
 refine tn_ ?_
 refine wp_seq ?_
 refine wp_region_lit ?_
 refine qs hA505 rfl (dlr (cs := #[.int .i64 i.op, .int .i64 (-1), .int .i64 (-1), .int .i64 (-1), .int .i64 0, .int .i64 0, .int .i64 0, .int .i64 (-1), .int .i64 0, .int .i64 0, .bool false, .bool false, .bool false, .int .i64 0, .int .i64 0, .int .i64 0, .bool false]) (wn rfl) (hA505.ev rfl) row23 m502 ?_)
 intro a506 hA507
 refine qs hA507 rfl (dsr (wn rfl) (hA507.ev rfl) (hA507.ev rfl) row23 m501 rfl rfl ?_)
 intro w508 hU509 (m510 : Blk w508 g12 #[.int .i64 i.op, .int .i64 (-1), .int .i64 (-1), .int .i64 (-1), .int .i64 0, .int .i64 0, .int .i64 0, .int .i64 (-1), .int .i64 0, .int .i64 0, .bool false, .bool false, .bool false, .int .i64 0, .int .i64 0, .int .i64 0, .bool false] 23)
 have m511 := m500.upd hU509 n18
 have m512 := m502.upd hU509 (Ne.symm n36)
 have b513 := hU509.below b503 ge17
 intro a514 hA515
 refine qe_ ?_
 refine tn_ ?_
 refine wp_ret ?_
 refine retRow (g := g12) (cs := #[.int .i64 i.op, .int .i64 (-1), .int .i64 (-1), .int .i64 (-1), .int .i64 0, .int .i64 0, .int .i64 0, .int .i64 (-1), .int .i64 0, .int .i64 0, .bool false, .bool false, .bool false, .int .i64 0, .int .i64 0, .int .i64 0, .bool false]) rfl hA515 rfl m510 row23 ?_
 exact ⟨ret_agg (by simp [insC, plainF, opB, rdB, wrB, hb54, hb103, hb152, hb201, hb266, hb331, hb396, hb445]), b513⟩
end Go.Proofs.Ytlhompedcphnnaa
/- Contracts of functions on single instructions. -/
namespace Go.Proofs.Ytlhompedcphnnaa
open Go.RowKit
set_option linter.unusedSimpArgs false
set_option linter.unusedVariables false
set_option maxHeartbeats 4000000 in
set_option maxRecDepth 4000 in
theorem sound_any (i : Ins) (w : World) : Calls Try.prog 29 #[.agg (insC i)] w fun e w' => e = .returned (.bool (soundB i)) ∧ Grow w w' := by
 have b0 : Below w.heap.size w w := Below.refl _ _
 refine enter (n := 113) Try.func29 rfl rfl (Nat.le_of_ble_eq_true rfl) ?_
 intro a1 hA2
 refine wp_seq ?_
 refine wp_region_lit ?_
 refine qs hA2 rfl (d_box (wn rfl) (hA2.ev rfl) ?_)
 intro g3 w4 eg5 hG6 (m7 : Blk w4 g3 (insC i) 23)
 have ge8 : w.heap.size ≤ g3 := eg5 ▸ b0.size
 have b9 := blg b0 hG6 b0.size
 intro a10 hA11
 refine qs hA11 rfl (das (wn rfl) (hA11.ev rfl) ?_)
 intro a12 hA13
 refine qe_ ?_
 refine tn_ ?_
 refine wp_seq ?_
 refine wp_seq ?_
 refine wp_region_lit ?_
 refine qs hA13 rfl (dfa (wn rfl) (hA13.ev rfl) fo23_0 ?_)
 intro a14 hA15
 refine qs hA15 rfl (dld (v := (.int .i64 i.op)) (wn rfl) (hA15.ev rfl) one3 (m7.cell rfl) ?_)
 intro a16 hA17
 refine qe_ ?_
 refine tn_ ?_
 refine wp_block ?_
 refine wp_seq ?_
 refine wp_region_lit ?_
 rcases Bool.eq_false_or_eq_true (i.op == 1) with hb18 | hb18
 ·skip
  have hq19 := eq_of_beq hb18
  refine qs hA17 rfl (dbn (wn rfl) (hA17.ev rfl) (hA17.ev rfl) (b_eq _ _ i.op 1 true _ hb18) ?_)
  intro a20 hA21
  refine qs hA21 rfl (das (wn rfl) (hA21.ev rfl) ?_)
  intro a22 hA23
  refine qe_ ?_
  refine tn_ ?_
  refine c_true hA23 rfl ?_
  refine wp_seq ?_
  refine jwp (K := fun a24 w25 => St 113 [(2, (.bool (regB i.dst)))] a24 ∧ Below w.heap.size w w25 ∧ Blk w25 g3 (insC i) 23) ?_ ?_
  ·skip
   refine wp_region_lit ?_
   refine qs hA23 rfl (dfa (wn rfl) (hA23.ev rfl) fo23_1 ?_)
   intro a26 hA27
   refine qs hA27 rfl (dld (v := (.int .i64 i.dst)) (wn rfl) (hA27.ev rfl) one3 (m7.cell rfl) ?_)
   intro a28 hA29
   refine qs hA29 rfl (dcl (wn rfl) ent40 (map1 (hA29.ev rfl)) (isReg_any i.dst w4) ?_)
   rintro e33 w30 ⟨he32, hG31⟩
   have m34 := m7.grow hG31
   have b35 := blg b9 hG31 b9.size
   rcases Bool.eq_false_or_eq_true (regB i.dst) with hb36 | hb36
   ·skip
    refine ⟨.bool true, he32.trans (ret_bool hb36), ?_⟩
    intro a38 hA39
    refine qs hA39 rfl (das (wn rfl) (hA39.ev rfl) ?_)
    intro a40 hA41
    refine qe_ ?_
    exact ⟨hA41.cut _ (fc ((hA41.get 2 _ rfl).trans (congrArg Value.bool (by simp [hb36]))) fn_), b35, m34⟩
   refine ⟨.bool false, he32.trans (ret_bool hb36), ?_⟩
   intro a43 hA44
   refine qs hA44 rfl (das (wn rfl) (hA44.ev rfl) ?_)
   intro a45 hA46
   refine qe_ ?_
   exact ⟨hA46.cut _ (fc ((hA46.get 2 _ rfl).trans (congrArg Value.bool (by simp [hb36]))) fn_), b35, m34⟩
  rintro a24 w25 ⟨hA47, b48, m49⟩
  refine tn_ ?_
  refine wp_ret ?_
  refine i_ret ?_
  refine t_ret ?_
  refine ret1 rfl hA47 (v := (.bool (regB i.dst))) rfl ?_
  exact ⟨ret_bool (by first | (simp [soundB, eq_of_beq hb18, Bool.or_assoc, Bool.and_assoc]; done) | (rw [Bool.eq_iff_iff]; simp [soundB, eq_of_beq hb18]; done) | (rw [Bool.eq_iff_iff]; simp [soundB, eq_of_beq hb18]; omega) | grind), b48⟩
 have hq50 := ne_of_beq hb18
 refine qs hA17 rfl (dbn (wn rfl) (hA17.ev rfl) (hA17.ev rfl) (b_eq _ _ i.op 1 false _ hb18) ?_)
 intro a51 hA52
 refine qs hA52 rfl (das (wn rfl) (hA52.ev rfl) ?_)
 intro a53 hA54
 refine qe_ ?_
 refine tn_ ?_
 refine c_false hA54 rfl ?_
 refine wp_seq ?_
 refine wp_region_lit ?_
 rcases Bool.eq_false_or_eq_true (i.op == 2) with hb55 | hb55
 ·skip
  have hq56 := eq_of_beq hb55
  refine qs hA54 rfl (dbn (wn rfl) (hA54.ev rfl) (hA54.ev rfl) (b_eq _ _ i.op 2 true _ hb55) ?_)
  intro a57 hA58
  refine qs hA58 rfl (das (wn rfl) (hA58.ev rfl) ?_)
  intro a59 hA60
  refine qe_ ?_
  refine tn_ ?_
  refine c_true hA60 rfl ?_
  refine wp_seq ?_
  refine jwp (K := fun a61 w62 => St 113 [(2, (.bool ((regB i.dst) && (regB i.a))))] a61 ∧ Below w.heap.size w w62 ∧ Blk w62 g3 (insC i) 23) ?_ ?_
  ·skip
   refine wp_region_lit ?_
   refine qs hA60 rfl (dfa (wn rfl) (hA60.ev rfl) fo23_1 ?_)
   intro a63 hA64
   refine qs hA64 rfl (dld (v := (.int .i64 i.dst)) (wn rfl) (hA64.ev rfl) one3 (m7.cell rfl) ?_)
   intro a65 hA66
   refine qs hA66 rfl (dcl (wn rfl) ent40 (map1 (hA66.ev rfl)) (isReg_any i.dst w4) ?_)
   rintro e70 w67 ⟨he69, hG68⟩
   have m71 := m7.grow hG68
   have b72 := blg b9 hG68 b9.size
   rcases Bool.eq_false_or_eq_true (regB i.dst) with hb73 | hb73
   ·skip
    refine ⟨.bool true, he69.trans (ret_bool hb73), ?_⟩
    intro a75 hA76
    refine qs hA76 rfl (dmv (wn rfl) (hA76.ev rfl) ?_)
    intro a77 hA78
    refine qs hA78 rfl (dfa (wy rfl rfl (hA78.get 15 _ rfl)) (hA78.ev rfl) fo23_2 ?_)
    intro a79 hA80
    refine qs hA80 rfl (dld (v := (.int .i64 i.a)) (wy rfl rfl (hA80.get 15 _ rfl)) (hA80.ev rfl) one3 (m71.cell rfl) ?_)
    intro a81 hA82
    refine qs hA82 rfl (dcl (wy rfl rfl (hA82.get 15 _ rfl)) ent40 (map1 (hA82.ev rfl)) (isReg_any i.a w67) ?_)
    rintro e86 w83 ⟨he85, hG84⟩
    have m87 := m71.grow hG84
    have b88 := blg b72 hG84 b72.size
    rcases Bool.eq_false_or_eq_true (regB i.a) with hb89 | hb89
    ·skip
     refine ⟨.bool true, he85.trans (ret_bool hb89), ?_⟩
     intro a91 hA92
     refine qs hA92 rfl (dpt (wn rfl) (hA92.ev rfl) (hA92.ev rfl) ?_)
     intro a93 hA94
     refine qs hA94 rfl (das (wn rfl) (hA94.ev rfl) ?_)
     intro a95 hA96
     refine qe_ ?_
     exact ⟨hA96.cut _ (fc ((hA96.get 2 _ rfl).trans (congrArg Value.bool (by simp [hb73, hb89]))) fn_), b88, m87⟩
    refine ⟨.bool false, he85.trans (ret_bool hb89), ?_⟩
    intro a98 hA99
    refine qs hA99 rfl (dpt (wn rfl) (hA99.ev rfl) (hA99.ev rfl) ?_)
    intro a100 hA101
    refine qs hA101 rfl (das (wn rfl) (hA101.ev rfl) ?_)
    intro a102 hA103
    refine qe_ ?_
    exact ⟨hA103.cut _ (fc ((hA103.get 2 _ rfl).trans (congrArg Value.bool (by simp [hb73, hb89]))) fn_), b88, m87⟩
   refine ⟨.bool false, he69.trans (ret_bool hb73), ?_⟩
   intro a105 hA106
   refine qs hA106 rfl (dmv (wn rfl) (hA106.ev rfl) ?_)
   intro a107 hA108
   refine qs hA108 rfl (dno (wno rfl rfl (.inl (hA108.get 15 _ rfl))) ?_)
   intro a109 hA110
   refine qs hA110 rfl (dno (wno rfl rfl (.inl (hA110.get 15 _ rfl))) ?_)
   intro a111 hA112
   refine qs hA112 rfl (dno (wno rfl rfl (.inl (hA112.get 15 _ rfl))) ?_)
   intro a113 hA114
   refine qs hA114 rfl (dpf (wn rfl) (hA114.ev rfl) (hA114.ev rfl) ?_)
   intro a115 hA116
   refine qs hA116 rfl (das (wn rfl) (hA116.ev rfl) ?_)
   intro a117 hA118
   refine qe_ ?_
   exact ⟨hA118.cut _ (fc ((hA118.get 2 _ rfl).trans (congrArg Value.bool (by simp [hb73]))) fn_), b72, m71⟩
  rintro a61 w62 ⟨hA119, b120, m121⟩
  refine tn_ ?_
  refine wp_ret ?_
  refine i_ret ?_
  refine t_ret ?_
  refine ret1 rfl hA119 (v := (.bool ((regB i.dst) && (regB i.a)))) rfl ?_
  exact ⟨ret_bool (by first | (simp [soundB, hb18, eq_of_beq hb55, Bool.or_assoc, Bool.and_assoc]; done) | (rw [Bool.eq_iff_iff]; simp [soundB, hb18, eq_of_beq hb55]; done) | (rw [Bool.eq_iff_iff]; simp [soundB, hb18, eq_of_beq hb55]; omega) | grind), b120⟩
 have hq122 := ne_of_beq hb55
 refine qs hA54 rfl (dbn (wn rfl) (hA54.ev rfl) (hA54.ev rfl) (b_eq _ _ i.op 2 false _ hb55) ?_)
 intro a123 hA124
 refine qs hA124 rfl (das (wn rfl) (hA124.ev rfl) ?_)
 intro a125 hA126
 refine qe_ ?_
 refine tn_ ?_
 refine c_false hA126 rfl ?_
 refine wp_seq ?_
 refine wp_region_lit ?_
 rcases Bool.eq_false_or_eq_true (i.op == 3) with hb127 | hb127
 ·skip
  have hq128 := eq_of_beq hb127
  refine qs hA126 rfl (dbn (wn rfl) (hA126.ev rfl) (hA126.ev rfl) (b_eq _ _ i.op 3 true _ hb127) ?_)
  intro a129 hA130
  refine qs hA130 rfl (das (wn rfl) (hA130.ev rfl) ?_)
  intro a131 hA132
  refine qe_ ?_
  refine tn_ ?_
  refine c_true hA132 rfl ?_
  refine wp_seq ?_
  refine jwp (K := fun a133 w134 => St 113 [(2, (.bool ((regB i.dst) && ((regB i.a) && ((ronB i.b) && ((decide (i.fn ≥ 1)) && (decide (i.fn ≤ 5))))))))] a133 ∧ Below w.heap.size w w134 ∧ Blk w134 g3 (insC i) 23) ?_ ?_
  ·skip
   refine wp_region_lit ?_
   refine qs hA132 rfl (dfa (wn rfl) (hA132.ev rfl) fo23_1 ?_)
   intro a135 hA136
   refine qs hA136 rfl (dld (v := (.int .i64 i.dst)) (wn rfl) (hA136.ev rfl) one3 (m7.cell rfl) ?_)
   intro a137 hA138
   refine qs hA138 rfl (dcl (wn rfl) ent40 (map1 (hA138.ev rfl)) (isReg_any i.dst w4) ?_)
   rintro e142 w139 ⟨he141, hG140⟩
   have m143 := m7.grow hG140
   have b144 := blg b9 hG140 b9.size
   rcases Bool.eq_false_or_eq_true (regB i.dst) with hb145 | hb145
   ·skip
    refine ⟨.bool true, he141.trans (ret_bool hb145), ?_⟩
    intro a147 hA148
    refine qs hA148 rfl (dmv (wn rfl) (hA148.ev rfl) ?_)
    intro a149 hA150
    refine qs hA150 rfl (dfa (wy rfl rfl (hA150.get 25 _ rfl)) (hA150.ev rfl) fo23_2 ?_)
    intro a151 hA152
    refine qs hA152 rfl (dld (v := (.int .i64 i.a)) (wy rfl rfl (hA152.get 25 _ rfl)) (hA152.ev rfl) one3 (m143.cell rfl) ?_)
    intro a153 hA154
    refine qs hA154 rfl (dcl (wy rfl rfl (hA154.get 25 _ rfl)) ent40 (map1 (hA154.ev rfl)) (isReg_any i.a w139) ?_)
    rintro e158 w155 ⟨he157, hG156⟩
    have m159 := m143.grow hG156
    have b160 := blg b144 hG156 b144.size
    rcases Bool.eq_false_or_eq_true (regB i.a) with hb161 | hb161
    ·skip
     refine ⟨.bool true, he157.trans (ret_bool hb161), ?_⟩
     intro a163 hA164
     refine qs hA164 rfl (dpt (wn rfl) (hA164.ev rfl) (hA164.ev rfl) ?_)
     intro a165 hA166
     refine qs hA166 rfl (dmv (wn rfl) (hA166.ev rfl) ?_)
     intro a167 hA168
     refine qs hA168 rfl (dfa (wy rfl rfl (hA168.get 30 _ rfl)) (hA168.ev rfl) fo23_3 ?_)
     intro a169 hA170
     refine qs hA170 rfl (dld (v := (.int .i64 i.b)) (wy rfl rfl (hA170.get 30 _ rfl)) (hA170.ev rfl) one3 (m159.cell rfl) ?_)
     intro a171 hA172
     refine qs hA172 rfl (dcl (wy rfl rfl (hA172.get 30 _ rfl)) ent41 (map1 (hA172.ev rfl)) (isRegOrNone_any i.b w155) ?_)
     rintro e176 w173 ⟨he175, hG174⟩
     have m177 := m159.grow hG174
     have b178 := blg b160 hG174 b160.size
     rcases Bool.eq_false_or_eq_true (ronB i.b) with hb179 | hb179
     ·skip
      refine ⟨.bool true, he175.trans (ret_bool hb179), ?_⟩
      intro a181 hA182
      refine qs hA182 rfl (dpt (wn rfl) (hA182.ev rfl) (hA182.ev rfl) ?_)
      intro a183 hA184
      refine qs hA184 rfl (dmv (wn rfl) (hA184.ev rfl) ?_)
      intro a185 hA186
      refine qs hA186 rfl (dfa (wy rfl rfl (hA186.get 35 _ rfl)) (hA186.ev rfl) fo23_9 ?_)
      intro a187 hA188
      refine qs hA188 rfl (dld (v := (.int .i64 i.fn)) (wy rfl rfl (hA188.get 35 _ rfl)) (hA188.ev rfl) one3 (m177.cell rfl) ?_)
      intro a189 hA190
      rcases Bool.eq_false_or_eq_true (decide (i.fn ≥ 1)) with hb191 | hb191
      ·skip
       have hq192 := of_decide_eq_true hb191
       refine qs hA190 rfl (dbn (wy rfl rfl (hA190.get 35 _ rfl)) (hA190.ev rfl) (hA190.ev rfl) (b_ge _ _ i.fn 1 true _ hb191) ?_)
       intro a193 hA194
       refine qs hA194 rfl (dpt (wn rfl) (hA194.ev rfl) (hA194.ev rfl) ?_)
       intro a195 hA196
       refine qs hA196 rfl (dmv (wn rfl) (hA196.ev rfl) ?_)
       intro a197 hA198
       refine qs hA198 rfl (dfa (wy rfl rfl (hA198.get 40 _ rfl)) (hA198.ev rfl) fo23_9 ?_)
       intro a199 hA200
       refine qs hA200 rfl (dld (v := (.int .i64 i.fn)) (wy rfl rfl (hA200.get 40 _ rfl)) (hA200.ev rfl) one3 (m177.cell rfl) ?_)
       intro a201 hA202
       rcases Bool.eq_false_or_eq_true (decide (i.fn ≤ 5)) with hb203 | hb203
       ·skip
        have hq204 := of_decide_eq_true hb203
        refine qs hA202 rfl (dbn (wy rfl rfl (hA202.get 40 _ rfl)) (hA202.ev rfl) (hA202.ev rfl) (b_le _ _ i.fn 5 true _ hb203) ?_)
        intro a205 hA206
        refine qs hA206 rfl (dpt (wn rfl) (hA206.ev rfl) (hA206.ev rfl) ?_)
        intro a207 hA208
        refine qs hA208 rfl (das (wn rfl) (hA208.ev rfl) ?_)
        intro a209 hA210
        refine qe_ ?_
        exact ⟨hA210.cut _ (fc ((hA210.get 2 _ rfl).trans (congrArg Value.bool (by simp [hb145, hb161, hb179, hb191, hb203]))) fn_), b178, m177⟩
       have hq211 := of_decide_eq_false hb203
       refine qs hA202 rfl (dbn (wy rfl rfl (hA202.get 40 _ rfl)) (hA202.ev rfl) (hA202.ev rfl) (b_le _ _ i.fn 5 false _ hb203) ?_)
       intro a212 hA213
       refine qs hA213 rfl (dpt (wn rfl) (hA213.ev rfl) (hA213.ev rfl) ?_)
       intro a214 hA215
       refine qs hA215 rfl (das (wn rfl) (hA215.ev rfl) ?_)
       intro a216 hA217
       refine qe_ ?_
       exact ⟨hA217.cut _ (fc ((hA217.get 2 _ rfl).trans (congrArg Value.bool (by simp [hb145, hb161, hb179, hb191, hb203]))) fn_), b178, m177⟩
      have hq218 := of_decide_eq_false hb191
      refine qs hA190 rfl (dbn (wy rfl rfl (hA190.get 35 _ rfl)) (hA190.ev rfl) (hA190.ev rfl) (b_ge _ _ i.fn 1 false _ hb191) ?_)
      intro a219 hA220
      refine qs hA220 rfl (dpt (wn rfl) (hA220.ev rfl) (hA220.ev rfl) ?_)
      intro a221 hA222
      refine qs hA222 rfl (dmv (wn rfl) (hA222.ev rfl) ?_)
      intro a223 hA224
      refine qs hA224 rfl (dno (wno rfl rfl (.inl (hA224.get 40 _ rfl))) ?_)
      intro a225 hA226
      refine qs hA226 rfl (dno (wno rfl rfl (.inl (hA226.get 40 _ rfl))) ?_)
      intro a227 hA228
      refine qs hA228 rfl (dno (wno rfl rfl (.inl (hA228.get 40 _ rfl))) ?_)
      intro a229 hA230
      refine qs hA230 rfl (dpf (wn rfl) (hA230.ev rfl) (hA230.ev rfl) ?_)
      intro a231 hA232
      refine qs hA232 rfl (das (wn rfl) (hA232.ev rfl) ?_)
      intro a233 hA234
      refine qe_ ?_
      exact ⟨hA234.cut _ (fc ((hA234.get 2 _ rfl).trans (congrArg Value.bool (by simp [hb145, hb161, hb179, hb191]))) fn_), b178, m177⟩
     refine ⟨.bool false, he175.trans (ret_bool hb179), ?_⟩
     intro a236 hA237
     refine qs hA237 rfl (dpt (wn rfl) (hA237.ev rfl) (hA237.ev rfl) ?_)
     intro a238 hA239
     refine qs hA239 rfl (dmv (wn rfl) (hA239.ev rfl) ?_)
     intro a240 hA241
     refine qs hA241 rfl (dno (wno rfl rfl (.inl (hA241.get 35 _ rfl))) ?_)
     intro a242 hA243
     refine qs hA243 rfl (dno (wno rfl rfl (.inl (hA243.get 35 _ rfl))) ?_)
     intro a244 hA245
     refine qs hA245 rfl (dno (wno rfl rfl (.inl (hA245.get 35 _ rfl))) ?_)
     intro a246 hA247
     refine qs hA247 rfl (dpf (wn rfl) (hA247.ev rfl) (hA247.ev rfl) ?_)
     intro a248 hA249
     refine qs hA249 rfl (dmv (wn rfl) (hA249.ev rfl) ?_)
     intro a250 hA251
     refine qs hA251 rfl (dno (wno rfl rfl (.inl (hA251.get 40 _ rfl))) ?_)
     intro a252 hA253
     refine qs hA253 rfl (dno (wno rfl rfl (.inl (hA253.get 40 _ rfl))) ?_)
     intro a254 hA255
     refine qs hA255 rfl (dno (wno rfl rfl (.inl (hA255.get 40 _ rfl))) ?_)
     intro a256 hA257
     refine qs hA257 rfl (dpf (wn rfl) (hA257.ev rfl) (hA257.ev rfl) ?_)
     intro a258 hA259
     refine qs hA259 rfl (das (wn rfl) (hA259.ev rfl) ?_)
     intro a260 hA261
     refine qe_ ?_
     exact ⟨hA261.cut _ (fc ((hA261.get 2 _ rfl).trans (congrArg Value.bool (by simp [hb145, hb161, hb179]))) fn_), b178, m177⟩
    refine ⟨.bool false, he157.trans (ret_bool hb161), ?_⟩
    intro a263 hA264
    refine qs hA264 rfl (dpt (wn rfl) (hA264.ev rfl) (hA264.ev rfl) ?_)
    intro a265 hA266
    refine qs hA266 rfl (dmv (wn rfl) (hA266.ev rfl) ?_)
    intro a267 hA268
    refine qs hA268 rfl (dno (wno rfl rfl (.inl (hA268.get 30 _ rfl))) ?_)
    intro a269 hA270
    refine qs hA270 rfl (dno (wno rfl rfl (.inl (hA270.get 30 _ rfl))) ?_)
    intro a271 hA272
    refine qs hA272 rfl (dno (wno rfl rfl (.inl (hA272.get 30 _ rfl))) ?_)
    intro a273 hA274
    refine qs hA274 rfl (dpf (wn rfl) (hA274.ev rfl) (hA274.ev rfl) ?_)
    intro a275 hA276
    refine qs hA276 rfl (dmv (wn rfl) (hA276.ev rfl) ?_)
    intro a277 hA278
    refine qs hA278 rfl (dno (wno rfl rfl (.inl (hA278.get 35 _ rfl))) ?_)
    intro a279 hA280
    refine qs hA280 rfl (dno (wno rfl rfl (.inl (hA280.get 35 _ rfl))) ?_)
    intro a281 hA282
    refine qs hA282 rfl (dno (wno rfl rfl (.inl (hA282.get 35 _ rfl))) ?_)
    intro a283 hA284
    refine qs hA284 rfl (dpf (wn rfl) (hA284.ev rfl) (hA284.ev rfl) ?_)
    intro a285 hA286
    refine qs hA286 rfl (dmv (wn rfl) (hA286.ev rfl) ?_)
    intro a287 hA288
    refine qs hA288 rfl (dno (wno rfl rfl (.inl (hA288.get 40 _ rfl))) ?_)
    intro a289 hA290
    refine qs hA290 rfl (dno (wno rfl rfl (.inl (hA290.get 40 _ rfl))) ?_)
    intro a291 hA292
    refine qs hA292 rfl (dno (wno rfl rfl (.inl (hA292.get 40 _ rfl))) ?_)
    intro a293 hA294
    refine qs hA294 rfl (dpf (wn rfl) (hA294.ev rfl) (hA294.ev rfl) ?_)
    intro a295 hA296
    refine qs hA296 rfl (das (wn rfl) (hA296.ev rfl) ?_)
    intro a297 hA298
    refine qe_ ?_
    exact ⟨hA298.cut _ (fc ((hA298.get 2 _ rfl).trans (congrArg Value.bool (by simp [hb145, hb161]))) fn_), b160, m159⟩
   refine ⟨.bool false, he141.trans (ret_bool hb145), ?_⟩
   intro a300 hA301
   refine qs hA301 rfl (dmv (wn rfl) (hA301.ev rfl) ?_)
   intro a302 hA303
   refine qs hA303 rfl (dno (wno rfl rfl (.inl (hA303.get 25 _ rfl))) ?_)
   intro a304 hA305
   refine qs hA305 rfl (dno (wno rfl rfl (.inl (hA305.get 25 _ rfl))) ?_)
   intro a306 hA307
   refine qs hA307 rfl (dno (wno rfl rfl (.inl (hA307.get 25 _ rfl))) ?_)
   intro a308 hA309
   refine qs hA309 rfl (dpf (wn rfl) (hA309.ev rfl) (hA309.ev rfl) ?_)
   intro a310 hA311
   refine qs hA311 rfl (dmv (wn rfl) (hA311.ev rfl) ?_)
   intro a312 hA313
   refine qs hA313 rfl (dno (wno rfl rfl (.inl (hA313.get 30 _ rfl))) ?_)
   intro a314 hA315
   refine qs hA315 rfl (dno (wno rfl rfl (.inl (hA315.get 30 _ rfl))) ?_)
   intro a316 hA317
   refine qs hA317 rfl (dno (wno rfl rfl (.inl (hA317.get 30 _ rfl))) ?_)
   intro a318 hA319
   refine qs hA319 rfl (dpf (wn rfl) (hA319.ev rfl) (hA319.ev rfl) ?_)
   intro a320 hA321
   refine qs hA321 rfl (dmv (wn rfl) (hA321.ev rfl) ?_)
   intro a322 hA323
   refine qs hA323 rfl (dno (wno rfl rfl (.inl (hA323.get 35 _ rfl))) ?_)
   intro a324 hA325
   refine qs hA325 rfl (dno (wno rfl rfl (.inl (hA325.get 35 _ rfl))) ?_)
   intro a326 hA327
   refine qs hA327 rfl (dno (wno rfl rfl (.inl (hA327.get 35 _ rfl))) ?_)
   intro a328 hA329
   refine qs hA329 rfl (dpf (wn rfl) (hA329.ev rfl) (hA329.ev rfl) ?_)
   intro a330 hA331
   refine qs hA331 rfl (dmv (wn rfl) (hA331.ev rfl) ?_)
   intro a332 hA333
   refine qs hA333 rfl (dno (wno rfl rfl (.inl (hA333.get 40 _ rfl))) ?_)
   intro a334 hA335
   refine qs hA335 rfl (dno (wno rfl rfl (.inl (hA335.get 40 _ rfl))) ?_)
   intro a336 hA337
   refine qs hA337 rfl (dno (wno rfl rfl (.inl (hA337.get 40 _ rfl))) ?_)
   intro a338 hA339
   refine qs hA339 rfl (dpf (wn rfl) (hA339.ev rfl) (hA339.ev rfl) ?_)
   intro a340 hA341
   refine qs hA341 rfl (das (wn rfl) (hA341.ev rfl) ?_)
   intro a342 hA343
   refine qe_ ?_
   exact ⟨hA343.cut _ (fc ((hA343.get 2 _ rfl).trans (congrArg Value.bool (by simp [hb145]))) fn_), b144, m143⟩
  rintro a133 w134 ⟨hA344, b345, m346⟩
  refine tn_ ?_
  refine wp_ret ?_
  refine i_ret ?_
  refine t_ret ?_
  refine ret1 rfl hA344 (v := (.bool ((regB i.dst) && ((regB i.a) && ((ronB i.b) && ((decide (i.fn ≥ 1)) && (decide (i.fn ≤ 5)))))))) rfl ?_
  exact ⟨ret_bool (by first | (simp [soundB, hb18, hb55, eq_of_beq hb127, Bool.or_assoc, Bool.and_assoc]; done) | (rw [Bool.eq_iff_iff]; simp [soundB, hb18, hb55, eq_of_beq hb127]; done) | (rw [Bool.eq_iff_iff]; simp [soundB, hb18, hb55, eq_of_beq hb127]; omega) | grind), b345⟩
 have hq347 := ne_of_beq hb127
 refine qs hA126 rfl (dbn (wn rfl) (hA126.ev rfl) (hA126.ev rfl) (b_eq _ _ i.op 3 false _ hb127) ?_)
 intro a348 hA349
 refine qs hA349 rfl (das (wn rfl) (hA349.ev rfl) ?_)
 intro a350 hA351
 refine qe_ ?_
 refine tn_ ?_
 refine c_false hA351 rfl ?_
 refine wp_seq ?_
 refine wp_region_lit ?_
 rcases Bool.eq_false_or_eq_true (i.op == 4) with hb352 | hb352
 ·skip
  have hq353 := eq_of_beq hb352
  refine qs hA351 rfl (dbn (wn rfl) (hA351.ev rfl) (hA351.ev rfl) (b_eq _ _ i.op 4 true _ hb352) ?_)
  intro a354 hA355
  refine qs hA355 rfl (das (wn rfl) (hA355.ev rfl) ?_)
  intro a356 hA357
  refine qe_ ?_
  refine tn_ ?_
  refine c_true hA357 rfl ?_
  refine wp_seq ?_
  refine jwp (K := fun a358 w359 => St 113 [(2, (.bool ((regB i.dst) && ((accB i) && (cond i.acq (!i.weak) true)))))] a358 ∧ Below w.heap.size w w359 ∧ Blk w359 g3 (insC i) 23) ?_ ?_
  ·skip
   refine wp_region_lit ?_
   refine qs hA357 rfl (dfa (wn rfl) (hA357.ev rfl) fo23_1 ?_)
   intro a360 hA361
   refine qs hA361 rfl (dld (v := (.int .i64 i.dst)) (wn rfl) (hA361.ev rfl) one3 (m7.cell rfl) ?_)
   intro a362 hA363
   refine qs hA363 rfl (dcl (wn rfl) ent40 (map1 (hA363.ev rfl)) (isReg_any i.dst w4) ?_)
   rintro e367 w364 ⟨he366, hG365⟩
   have m368 := m7.grow hG365
   have b369 := blg b9 hG365 b9.size
   rcases Bool.eq_false_or_eq_true (regB i.dst) with hb370 | hb370
   ·skip
    refine ⟨.bool true, he366.trans (ret_bool hb370), ?_⟩
    intro a372 hA373
    refine qs hA373 rfl (dmv (wn rfl) (hA373.ev rfl) ?_)
    intro a374 hA375
    refine qs hA375 rfl (dlr (cs := (insC i)) (wy rfl rfl (hA375.get 50 _ rfl)) (hA375.ev rfl) row23 m368 ?_)
    intro a376 hA377
    refine qs hA377 rfl (dcl (wy rfl rfl (hA377.get 50 _ rfl)) ent42 (map1 (hA377.ev rfl)) (isAccess_any i w364) ?_)
    rintro e381 w378 ⟨he380, hG379⟩
    have m382 := m368.grow hG379
    have b383 := blg b369 hG379 b369.size
    rcases Bool.eq_false_or_eq_true (accB i) with hb384 | hb384
    ·skip
     refine ⟨.bool true, he380.trans (ret_bool hb384), ?_⟩
     intro a386 hA387
     refine qs hA387 rfl (dpt (wn rfl) (hA387.ev rfl) (hA387.ev rfl) ?_)
     intro a388 hA389
     refine qs hA389 rfl (dmv (wn rfl) (hA389.ev rfl) ?_)
     intro a390 hA391
     refine qs hA391 rfl (dfa (wy rfl rfl (hA391.get 54 _ rfl)) (hA391.ev rfl) fo23_10 ?_)
     intro a392 hA393
     refine qs hA393 rfl (dld (v := (.bool i.acq)) (wy rfl rfl (hA393.get 54 _ rfl)) (hA393.ev rfl) one4 (m382.cell rfl) ?_)
     intro a394 hA395
     refine qs hA395 rfl (dmv (wy rfl rfl (hA395.get 54 _ rfl)) (hA395.ev rfl) ?_)
     intro a396 hA397
     rcases Bool.eq_false_or_eq_true (i.acq) with hb398 | hb398
     ·skip
      have hA400 := hA397.shadow (t := 57) rfl hb398
      refine qs hA400 rfl (dfa (wy rfl rfl (hA400.get 57 _ rfl)) (hA400.ev rfl) fo23_11 ?_)
      intro a401 hA402
      refine qs hA402 rfl (dld (v := (.bool i.weak)) (wy rfl rfl (hA402.get 57 _ rfl)) (hA402.ev rfl) one4 (m382.cell rfl) ?_)
      intro a403 hA404
      refine qs hA404 rfl (dpt (wy rfl rfl (hA404.get 54 _ rfl)) (hA404.ev rfl) (hA404.ev rfl) ?_)
      intro a405 hA406
      rcases Bool.eq_false_or_eq_true (i.weak) with hb407 | hb407
      ·skip
       have hA409 := hA406.shadow (t := 60) rfl hb407
       refine qs hA409 rfl (dnt (wy rfl rfl (hA409.get 54 _ rfl)) (hA409.ev rfl) ?_)
       intro a410 hA411
       refine qs hA411 rfl (dpt (wn rfl) (hA411.ev rfl) (hA411.ev rfl) ?_)
       intro a412 hA413
       refine qs hA413 rfl (das (wn rfl) (hA413.ev rfl) ?_)
       intro a414 hA415
       refine qe_ ?_
       exact ⟨hA415.cut _ (fc ((hA415.get 2 _ rfl).trans (congrArg Value.bool (by simp [hb370, hb384, hb398, hb407]))) fn_), b383, m382⟩
      have hA417 := hA406.shadow (t := 60) rfl hb407
      refine qs hA417 rfl (dnt (wy rfl rfl (hA417.get 54 _ rfl)) (hA417.ev rfl) ?_)
      intro a418 hA419
      refine qs hA419 rfl (dpt (wn rfl) (hA419.ev rfl) (hA419.ev rfl) ?_)
      intro a420 hA421
      refine qs hA421 rfl (das (wn rfl) (hA421.ev rfl) ?_)
      intro a422 hA423
      refine qe_ ?_
      exact ⟨hA423.cut _ (fc ((hA423.get 2 _ rfl).trans (congrArg Value.bool (by simp [hb370, hb384, hb398, hb407]))) fn_), b383, m382⟩
     have hA425 := hA397.shadow (t := 57) rfl hb398
     refine qs hA425 rfl (dno (wno rfl rfl (.inl (hA425.get 57 _ rfl))) ?_)
     intro a426 hA427
     refine qs hA427 rfl (dno (wno rfl rfl (.inl (hA427.get 57 _ rfl))) ?_)
     intro a428 hA429
     refine qs hA429 rfl (dpf (wy rfl rfl (hA429.get 54 _ rfl)) (hA429.ev rfl) (hA429.ev rfl) ?_)
     intro a430 hA431
     refine qs hA431 rfl (dnt (wy rfl rfl (hA431.get 54 _ rfl)) (hA431.ev rfl) ?_)
     intro a432 hA433
     refine qs hA433 rfl (dpt (wn rfl) (hA433.ev rfl) (hA433.ev rfl) ?_)
     intro a434 hA435
     refine qs hA435 rfl (das (wn rfl) (hA435.ev rfl) ?_)
     intro a436 hA437
     refine qe_ ?_
     exact ⟨hA437.cut _ (fc ((hA437.get 2 _ rfl).trans (congrArg Value.bool (by simp [hb370, hb384, hb398]))) fn_), b383, m382⟩
    refine ⟨.bool false, he380.trans (ret_bool hb384), ?_⟩
    intro a439 hA440
    refine qs hA440 rfl (dpt (wn rfl) (hA440.ev rfl) (hA440.ev rfl) ?_)
    intro a441 hA442
    refine qs hA442 rfl (dmv (wn rfl) (hA442.ev rfl) ?_)
    intro a443 hA444
    refine qs hA444 rfl (dno (wno rfl rfl (.inl (hA444.get 54 _ rfl))) ?_)
    intro a445 hA446
    refine qs hA446 rfl (dno (wno rfl rfl (.inl (hA446.get 54 _ rfl))) ?_)
    intro a447 hA448
    refine qs hA448 rfl (dno (wno rfl rfl (.inl (hA448.get 54 _ rfl))) ?_)
    intro a449 hA450
    refine qs hA450 rfl (dno (wno rfl rfl (.inr (hA450.get 57 _ rfl))) ?_)
    intro a451 hA452
    refine qs hA452 rfl (dno (wno rfl rfl (.inr (hA452.get 57 _ rfl))) ?_)
    intro a453 hA454
    refine qs hA454 rfl (dno (wno rfl rfl (.inl (hA454.get 54 _ rfl))) ?_)
    intro a455 hA456
    refine qs hA456 rfl (dno (wno rfl rfl (.inl (hA456.get 54 _ rfl))) ?_)
    intro a457 hA458
    refine qs hA458 rfl (dpf (wn rfl) (hA458.ev rfl) (hA458.ev rfl) ?_)
    intro a459 hA460
    refine qs hA460 rfl (das (wn rfl) (hA460.ev rfl) ?_)
    intro a461 hA462
    refine qe_ ?_
    exact ⟨hA462.cut _ (fc ((hA462.get 2 _ rfl).trans (congrArg Value.bool (by simp [hb370, hb384]))) fn_), b383, m382⟩
   refine ⟨.bool false, he366.trans (ret_bool hb370), ?_⟩
   intro a464 hA465
   refine qs hA465 rfl (dmv (wn rfl) (hA465.ev rfl) ?_)
   intro a466 hA467
   refine qs hA467 rfl (dno (wno rfl rfl (.inl (hA467.get 50 _ rfl))) ?_)
   intro a468 hA469
   refine qs hA469 rfl (dno (wno rfl rfl (.inl (hA469.get 50 _ rfl))) ?_)
   intro a470 hA471
   refine qs hA471 rfl (dpf (wn rfl) (hA471.ev rfl) (hA471.ev rfl) ?_)
   intro a472 hA473
   refine qs hA473 rfl (dmv (wn rfl) (hA473.ev rfl) ?_)
   intro a474 hA475
   refine qs hA475 rfl (dno (wno rfl rfl (.inl (hA475.get 54 _ rfl))) ?_)
   intro a476 hA477
   refine qs hA477 rfl (dno (wno rfl rfl (.inl (hA477.get 54 _ rfl))) ?_)
   intro a478 hA479
   refine qs hA479 rfl (dno (wno rfl rfl (.inl (hA479.get 54 _ rfl))) ?_)
   intro a480 hA481
   refine qs hA481 rfl (dno (wno rfl rfl (.inr (hA481.get 57 _ rfl))) ?_)
   intro a482 hA483
   refine qs hA483 rfl (dno (wno rfl rfl (.inr (hA483.get 57 _ rfl))) ?_)
   intro a484 hA485
   refine qs hA485 rfl (dno (wno rfl rfl (.inl (hA485.get 54 _ rfl))) ?_)
   intro a486 hA487
   refine qs hA487 rfl (dno (wno rfl rfl (.inl (hA487.get 54 _ rfl))) ?_)
   intro a488 hA489
   refine qs hA489 rfl (dpf (wn rfl) (hA489.ev rfl) (hA489.ev rfl) ?_)
   intro a490 hA491
   refine qs hA491 rfl (das (wn rfl) (hA491.ev rfl) ?_)
   intro a492 hA493
   refine qe_ ?_
   exact ⟨hA493.cut _ (fc ((hA493.get 2 _ rfl).trans (congrArg Value.bool (by simp [hb370]))) fn_), b369, m368⟩
  rintro a358 w359 ⟨hA494, b495, m496⟩
  refine tn_ ?_
  refine wp_ret ?_
  refine i_ret ?_
  refine t_ret ?_
  refine ret1 rfl hA494 (v := (.bool ((regB i.dst) && ((accB i) && (cond i.acq (!i.weak) true))))) rfl ?_
  exact ⟨ret_bool (by first | (simp [soundB, hb18, hb55, hb127, eq_of_beq hb352, Bool.or_assoc, Bool.and_assoc]; done) | (rw [Bool.eq_iff_iff]; simp [soundB, hb18, hb55, hb127, eq_of_beq hb352]; done) | (rw [Bool.eq_iff_iff]; simp [soundB, hb18, hb55, hb127, eq_of_beq hb352]; omega) | grind), b495⟩
 have hq497 := ne_of_beq hb352
 refine qs hA351 rfl (dbn (wn rfl) (hA351.ev rfl) (hA351.ev rfl) (b_eq _ _ i.op 4 false _ hb352) ?_)
 intro a498 hA499
 refine qs hA499 rfl (das (wn rfl) (hA499.ev rfl) ?_)
 intro a500 hA501
 refine qe_ ?_
 refine tn_ ?_
 refine c_false hA501 rfl ?_
 refine wp_seq ?_
 refine wp_region_lit ?_
 rcases Bool.eq_false_or_eq_true (i.op == 5) with hb502 | hb502
 ·skip
  have hq503 := eq_of_beq hb502
  refine qs hA501 rfl (dbn (wn rfl) (hA501.ev rfl) (hA501.ev rfl) (b_eq _ _ i.op 5 true _ hb502) ?_)
  intro a504 hA505
  refine qs hA505 rfl (das (wn rfl) (hA505.ev rfl) ?_)
  intro a506 hA507
  refine qe_ ?_
  refine tn_ ?_
  refine c_true hA507 rfl ?_
  refine wp_seq ?_
  refine jwp (K := fun a508 w509 => St 113 [(2, (.bool ((ronB i.a) && (accB i))))] a508 ∧ Below w.heap.size w w509 ∧ Blk w509 g3 (insC i) 23) ?_ ?_
  ·skip
   refine wp_region_lit ?_
   refine qs hA507 rfl (dfa (wn rfl) (hA507.ev rfl) fo23_2 ?_)
   intro a510 hA511
   refine qs hA511 rfl (dld (v := (.int .i64 i.a)) (wn rfl) (hA511.ev rfl) one3 (m7.cell rfl) ?_)
   intro a512 hA513
   refine qs hA513 rfl (dcl (wn rfl) ent41 (map1 (hA513.ev rfl)) (isRegOrNone_any i.a w4) ?_)
   rintro e517 w514 ⟨he516, hG515⟩
   have m518 := m7.grow hG515
   have b519 := blg b9 hG515 b9.size
   rcases Bool.eq_false_or_eq_true (ronB i.a) with hb520 | hb520
   ·skip
    refine ⟨.bool true, he516.trans (ret_bool hb520), ?_⟩
    intro a522 hA523
    refine qs hA523 rfl (dmv (wn rfl) (hA523.ev rfl) ?_)
    intro a524 hA525
    refine qs hA525 rfl (dlr (cs := (insC i)) (wy rfl rfl (hA525.get 68 _ rfl)) (hA525.ev rfl) row23 m518 ?_)
    intro a526 hA527
    refine qs hA527 rfl (dcl (wy rfl rfl (hA527.get 68 _ rfl)) ent42 (map1 (hA527.ev rfl)) (isAccess_any i w514) ?_)
    rintro e531 w528 ⟨he530, hG529⟩
    have m532 := m518.grow hG529
    have b533 := blg b519 hG529 b519.size
    rcases Bool.eq_false_or_eq_true (accB i) with hb534 | hb534
    ·skip
     refine ⟨.bool true, he530.trans (ret_bool hb534), ?_⟩
     intro a536 hA537
     refine qs hA537 rfl (dpt (wn rfl) (hA537.ev rfl) (hA537.ev rfl) ?_)
     intro a538 hA539
     refine qs hA539 rfl (das (wn rfl) (hA539.ev rfl) ?_)
     intro a540 hA541
     refine qe_ ?_
     exact ⟨hA541.cut _ (fc ((hA541.get 2 _ rfl).trans (congrArg Value.bool (by simp [hb520, hb534]))) fn_), b533, m532⟩
    refine ⟨.bool false, he530.trans (ret_bool hb534), ?_⟩
    intro a543 hA544
    refine qs hA544 rfl (dpt (wn rfl) (hA544.ev rfl) (hA544.ev rfl) ?_)
    intro a545 hA546
    refine qs hA546 rfl (das (wn rfl) (hA546.ev rfl) ?_)
    intro a547 hA548
    refine qe_ ?_
    exact ⟨hA548.cut _ (fc ((hA548.get 2 _ rfl).trans (congrArg Value.bool (by simp [hb520, hb534]))) fn_), b533, m532⟩
   refine ⟨.bool false, he516.trans (ret_bool hb520), ?_⟩
   intro a550 hA551
   refine qs hA551 rfl (dmv (wn rfl) (hA551.ev rfl) ?_)
   intro a552 hA553
   refine qs hA553 rfl (dno (wno rfl rfl (.inl (hA553.get 68 _ rfl))) ?_)
   intro a554 hA555
   refine qs hA555 rfl (dno (wno rfl rfl (.inl (hA555.get 68 _ rfl))) ?_)
   intro a556 hA557
   refine qs hA557 rfl (dpf (wn rfl) (hA557.ev rfl) (hA557.ev rfl) ?_)
   intro a558 hA559
   refine qs hA559 rfl (das (wn rfl) (hA559.ev rfl) ?_)
   intro a560 hA561
   refine qe_ ?_
   exact ⟨hA561.cut _ (fc ((hA561.get 2 _ rfl).trans (congrArg Value.bool (by simp [hb520]))) fn_), b519, m518⟩
  rintro a508 w509 ⟨hA562, b563, m564⟩
  refine tn_ ?_
  refine wp_ret ?_
  refine i_ret ?_
  refine t_ret ?_
  refine ret1 rfl hA562 (v := (.bool ((ronB i.a) && (accB i)))) rfl ?_
  exact ⟨ret_bool (by first | (simp [soundB, hb18, hb55, hb127, hb352, eq_of_beq hb502, Bool.or_assoc, Bool.and_assoc]; done) | (rw [Bool.eq_iff_iff]; simp [soundB, hb18, hb55, hb127, hb352, eq_of_beq hb502]; done) | (rw [Bool.eq_iff_iff]; simp [soundB, hb18, hb55, hb127, hb352, eq_of_beq hb502]; omega) | grind), b563⟩
 have hq565 := ne_of_beq hb502
 refine qs hA501 rfl (dbn (wn rfl) (hA501.ev rfl) (hA501.ev rfl) (b_eq _ _ i.op 5 false _ hb502) ?_)
 intro a566 hA567
 refine qs hA567 rfl (das (wn rfl) (hA567.ev rfl) ?_)
 intro a568 hA569
 refine qe_ ?_
 refine tn_ ?_
 refine c_false hA569 rfl ?_
 refine wp_seq ?_
 refine wp_region_lit ?_
 rcases Bool.eq_false_or_eq_true (i.op == 6) with hb570 | hb570
 ·skip
  have hq571 := eq_of_beq hb570
  refine qs hA569 rfl (dbn (wn rfl) (hA569.ev rfl) (hA569.ev rfl) (b_eq _ _ i.op 6 true _ hb570) ?_)
  intro a572 hA573
  refine qs hA573 rfl (das (wn rfl) (hA573.ev rfl) ?_)
  intro a574 hA575
  refine qe_ ?_
  refine tn_ ?_
  refine c_true hA575 rfl ?_
  refine wp_seq ?_
  refine jwp (K := fun a576 w577 => St 113 [(2, (.bool ((regB i.dst) && ((regB i.a) && ((accB i) && ((i.fn == 6) || (i.fn == 1)))))))] a576 ∧ Below w.heap.size w w577 ∧ Blk w577 g3 (insC i) 23) ?_ ?_
  ·skip
   refine wp_region_lit ?_
   refine qs hA575 rfl (dfa (wn rfl) (hA575.ev rfl) fo23_1 ?_)
   intro a578 hA579
   refine qs hA579 rfl (dld (v := (.int .i64 i.dst)) (wn rfl) (hA579.ev rfl) one3 (m7.cell rfl) ?_)
   intro a580 hA581
   refine qs hA581 rfl (dcl (wn rfl) ent40 (map1 (hA581.ev rfl)) (isReg_any i.dst w4) ?_)
   rintro e585 w582 ⟨he584, hG583⟩
   have m586 := m7.grow hG583
   have b587 := blg b9 hG583 b9.size
   rcases Bool.eq_false_or_eq_true (regB i.dst) with hb588 | hb588
   ·skip
    refine ⟨.bool true, he584.trans (ret_bool hb588), ?_⟩
    intro a590 hA591
    refine qs hA591 rfl (dmv (wn rfl) (hA591.ev rfl) ?_)
    intro a592 hA593
    refine qs hA593 rfl (dfa (wy rfl rfl (hA593.get 77 _ rfl)) (hA593.ev rfl) fo23_2 ?_)
    intro a594 hA595
    refine qs hA595 rfl (dld (v := (.int .i64 i.a)) (wy rfl rfl (hA595.get 77 _ rfl)) (hA595.ev rfl) one3 (m586.cell rfl) ?_)
    intro a596 hA597
    refine qs hA597 rfl (dcl (wy rfl rfl (hA597.get 77 _ rfl)) ent40 (map1 (hA597.ev rfl)) (isReg_any i.a w582) ?_)
    rintro e601 w598 ⟨he600, hG599⟩
    have m602 := m586.grow hG599
    have b603 := blg b587 hG599 b587.size
    rcases Bool.eq_false_or_eq_true (regB i.a) with hb604 | hb604
    ·skip
     refine ⟨.bool true, he600.trans (ret_bool hb604), ?_⟩
     intro a606 hA607
     refine qs hA607 rfl (dpt (wn rfl) (hA607.ev rfl) (hA607.ev rfl) ?_)
     intro a608 hA609
     refine qs hA609 rfl (dmv (wn rfl) (hA609.ev rfl) ?_)
     intro a610 hA611
     refine qs hA611 rfl (dlr (cs := (insC i)) (wy rfl rfl (hA611.get 82 _ rfl)) (hA611.ev rfl) row23 m602 ?_)
     intro a612 hA613
     refine qs hA613 rfl (dcl (wy rfl rfl (hA613.get 82 _ rfl)) ent42 (map1 (hA613.ev rfl)) (isAccess_any i w598) ?_)
     rintro e617 w614 ⟨he616, hG615⟩
     have m618 := m602.grow hG615
     have b619 := blg b603 hG615 b603.size
     rcases Bool.eq_false_or_eq_true (accB i) with hb620 | hb620
     ·skip
      refine ⟨.bool true, he616.trans (ret_bool hb620), ?_⟩
      intro a622 hA623
      refine qs hA623 rfl (dpt (wn rfl) (hA623.ev rfl) (hA623.ev rfl) ?_)
      intro a624 hA625
      refine qs hA625 rfl (dmv (wn rfl) (hA625.ev rfl) ?_)
      intro a626 hA627
      refine qs hA627 rfl (dfa (wy rfl rfl (hA627.get 86 _ rfl)) (hA627.ev rfl) fo23_9 ?_)
      intro a628 hA629
      refine qs hA629 rfl (dld (v := (.int .i64 i.fn)) (wy rfl rfl (hA629.get 86 _ rfl)) (hA629.ev rfl) one3 (m618.cell rfl) ?_)
      intro a630 hA631
      rcases Bool.eq_false_or_eq_true (i.fn == 6) with hb632 | hb632
      ·skip
       have hq633 := eq_of_beq hb632
       refine qs hA631 rfl (dbn (wy rfl rfl (hA631.get 86 _ rfl)) (hA631.ev rfl) (hA631.ev rfl) (b_eq _ _ i.fn 6 true _ hb632) ?_)
       intro a634 hA635
       refine qs hA635 rfl (dmv (wy rfl rfl (hA635.get 86 _ rfl)) (hA635.ev rfl) ?_)
       intro a636 hA637
       refine qs hA637 rfl (dno (wno rfl rfl (.inl (hA637.get 90 _ rfl))) ?_)
       intro a638 hA639
       refine qs hA639 rfl (dno (wno rfl rfl (.inl (hA639.get 90 _ rfl))) ?_)
       intro a640 hA641
       refine qs hA641 rfl (dno (wno rfl rfl (.inl (hA641.get 90 _ rfl))) ?_)
       intro a642 hA643
       refine qs hA643 rfl (dpt (wy rfl rfl (hA643.get 86 _ rfl)) (hA643.ev rfl) (hA643.ev rfl) ?_)
       intro a644 hA645
       refine qs hA645 rfl (dpt (wn rfl) (hA645.ev rfl) (hA645.ev rfl) ?_)
       intro a646 hA647
       refine qs hA647 rfl (das (wn rfl) (hA647.ev rfl) ?_)
       intro a648 hA649
       refine qe_ ?_
       exact ⟨hA649.cut _ (fc ((hA649.get 2 _ rfl).trans (congrArg Value.bool (by simp [hb588, hb604, hb620, hb632]))) fn_), b619, m618⟩
      have hq650 := ne_of_beq hb632
      refine qs hA631 rfl (dbn (wy rfl rfl (hA631.get 86 _ rfl)) (hA631.ev rfl) (hA631.ev rfl) (b_eq _ _ i.fn 6 false _ hb632) ?_)
      intro a651 hA652
      refine qs hA652 rfl (dmv (wy rfl rfl (hA652.get 86 _ rfl)) (hA652.ev rfl) ?_)
      intro a653 hA654
      refine qs hA654 rfl (dfa (wy rfl rfl (hA654.get 90 _ rfl)) (hA654.ev rfl) fo23_9 ?_)
      intro a655 hA656
      refine qs hA656 rfl (dld (v := (.int .i64 i.fn)) (wy rfl rfl (hA656.get 90 _ rfl)) (hA656.ev rfl) one3 (m618.cell rfl) ?_)
      intro a657 hA658
      rcases Bool.eq_false_or_eq_true (i.fn == 1) with hb659 | hb659
      ·skip
       have hq660 := eq_of_beq hb659
       refine qs hA658 rfl (dbn (wy rfl rfl (hA658.get 90 _ rfl)) (hA658.ev rfl) (hA658.ev rfl) (b_eq _ _ i.fn 1 true _ hb659) ?_)
       intro a661 hA662
       refine qs hA662 rfl (dpf (wy rfl rfl (hA662.get 86 _ rfl)) (hA662.ev rfl) (hA662.ev rfl) ?_)
       intro a663 hA664
       refine qs hA664 rfl (dpt (wn rfl) (hA664.ev rfl) (hA664.ev rfl) ?_)
       intro a665 hA666
       refine qs hA666 rfl (das (wn rfl) (hA666.ev rfl) ?_)
       intro a667 hA668
       refine qe_ ?_
       exact ⟨hA668.cut _ (fc ((hA668.get 2 _ rfl).trans (congrArg Value.bool (by simp [hb588, hb604, hb620, hb632, hb659]))) fn_), b619, m618⟩
      have hq669 := ne_of_beq hb659
      refine qs hA658 rfl (dbn (wy rfl rfl (hA658.get 90 _ rfl)) (hA658.ev rfl) (hA658.ev rfl) (b_eq _ _ i.fn 1 false _ hb659) ?_)
      intro a670 hA671
      refine qs hA671 rfl (dpf (wy rfl rfl (hA671.get 86 _ rfl)) (hA671.ev rfl) (hA671.ev rfl) ?_)
      intro a672 hA673
      refine qs hA673 rfl (dpt (wn rfl) (hA673.ev rfl) (hA673.ev rfl) ?_)
      intro a674 hA675
      refine qs hA675 rfl (das (wn rfl) (hA675.ev rfl) ?_)
      intro a676 hA677
      refine qe_ ?_
      exact ⟨hA677.cut _ (fc ((hA677.get 2 _ rfl).trans (congrArg Value.bool (by simp [hb588, hb604, hb620, hb632, hb659]))) fn_), b619, m618⟩
     refine ⟨.bool false, he616.trans (ret_bool hb620), ?_⟩
     intro a679 hA680
     refine qs hA680 rfl (dpt (wn rfl) (hA680.ev rfl) (hA680.ev rfl) ?_)
     intro a681 hA682
     refine qs hA682 rfl (dmv (wn rfl) (hA682.ev rfl) ?_)
     intro a683 hA684
     refine qs hA684 rfl (dno (wno rfl rfl (.inl (hA684.get 86 _ rfl))) ?_)
     intro a685 hA686
     refine qs hA686 rfl (dno (wno rfl rfl (.inl (hA686.get 86 _ rfl))) ?_)
     intro a687 hA688
     refine qs hA688 rfl (dno (wno rfl rfl (.inl (hA688.get 86 _ rfl))) ?_)
     intro a689 hA690
     refine qs hA690 rfl (dno (wno rfl rfl (.inl (hA690.get 86 _ rfl))) ?_)
     intro a691 hA692
     refine qs hA692 rfl (dno (wno rfl rfl (.inr (hA692.get 90 _ rfl))) ?_)
     intro a693 hA694
     refine qs hA694 rfl (dno (wno rfl rfl (.inr (hA694.get 90 _ rfl))) ?_)
     intro a695 hA696
     refine qs hA696 rfl (dno (wno rfl rfl (.inr (hA696.get 90 _ rfl))) ?_)
     intro a697 hA698
     refine qs hA698 rfl (dno (wno rfl rfl (.inl (hA698.get 86 _ rfl))) ?_)
     intro a699 hA700
     refine qs hA700 rfl (dpf (wn rfl) (hA700.ev rfl) (hA700.ev rfl) ?_)
     intro a701 hA702
     refine qs hA702 rfl (das (wn rfl) (hA702.ev rfl) ?_)
     intro a703 hA704
     refine qe_ ?_
     exact ⟨hA704.cut _ (fc ((hA704.get 2 _ rfl).trans (congrArg Value.bool (by simp [hb588, hb604, hb620]))) fn_), b619, m618⟩
    refine ⟨.bool false, he600.trans (ret_bool hb604), ?_⟩
    intro a706 hA707
    refine qs hA707 rfl (dpt (wn rfl) (hA707.ev rfl) (hA707.ev rfl) ?_)
    intro a708 hA709
    refine qs hA709 rfl (dmv (wn rfl) (hA709.ev rfl) ?_)
    intro a710 hA711
    refine qs hA711 rfl (dno (wno rfl rfl (.inl (hA711.get 82 _ rfl))) ?_)
    intro a712 hA713
    refine qs hA713 rfl (dno (wno rfl rfl (.inl (hA713.get 82 _ rfl))) ?_)
    intro a714 hA715
    refine qs hA715 rfl (dpf (wn rfl) (hA715.ev rfl) (hA715.ev rfl) ?_)
    intro a716 hA717
    refine qs hA717 rfl (dmv (wn rfl) (hA717.ev rfl) ?_)
    intro a718 hA719
    refine qs hA719 rfl (dno (wno rfl rfl (.inl (hA719.get 86 _ rfl))) ?_)
    intro a720 hA721
    refine qs hA721 rfl (dno (wno rfl rfl (.inl (hA721.get 86 _ rfl))) ?_)
    intro a722 hA723
    refine qs hA723 rfl (dno (wno rfl rfl (.inl (hA723.get 86 _ rfl))) ?_)
    intro a724 hA725
    refine qs hA725 rfl (dno (wno rfl rfl (.inl (hA725.get 86 _ rfl))) ?_)
    intro a726 hA727
    refine qs hA727 rfl (dno (wno rfl rfl (.inr (hA727.get 90 _ rfl))) ?_)
    intro a728 hA729
    refine qs hA729 rfl (dno (wno rfl rfl (.inr (hA729.get 90 _ rfl))) ?_)
    intro a730 hA731
    refine qs hA731 rfl (dno (wno rfl rfl (.inr (hA731.get 90 _ rfl))) ?_)
    intro a732 hA733
    refine qs hA733 rfl (dno (wno rfl rfl (.inl (hA733.get 86 _ rfl))) ?_)
    intro a734 hA735
    refine qs hA735 rfl (dpf (wn rfl) (hA735.ev rfl) (hA735.ev rfl) ?_)
    intro a736 hA737
    refine qs hA737 rfl (das (wn rfl) (hA737.ev rfl) ?_)
    intro a738 hA739
    refine qe_ ?_
    exact ⟨hA739.cut _ (fc ((hA739.get 2 _ rfl).trans (congrArg Value.bool (by simp [hb588, hb604]))) fn_), b603, m602⟩
   refine ⟨.bool false, he584.trans (ret_bool hb588), ?_⟩
   intro a741 hA742
   refine qs hA742 rfl (dmv (wn rfl) (hA742.ev rfl) ?_)
   intro a743 hA744
   refine qs hA744 rfl (dno (wno rfl rfl (.inl (hA744.get 77 _ rfl))) ?_)
   intro a745 hA746
   refine qs hA746 rfl (dno (wno rfl rfl (.inl (hA746.get 77 _ rfl))) ?_)
   intro a747 hA748
   refine qs hA748 rfl (dno (wno rfl rfl (.inl (hA748.get 77 _ rfl))) ?_)
   intro a749 hA750
   refine qs hA750 rfl (dpf (wn rfl) (hA750.ev rfl) (hA750.ev rfl) ?_)
   intro a751 hA752
   refine qs hA752 rfl (dmv (wn rfl) (hA752.ev rfl) ?_)
   intro a753 hA754
   refine qs hA754 rfl (dno (wno rfl rfl (.inl (hA754.get 82 _ rfl))) ?_)
   intro a755 hA756
   refine qs hA756 rfl (dno (wno rfl rfl (.inl (hA756.get 82 _ rfl))) ?_)
   intro a757 hA758
   refine qs hA758 rfl (dpf (wn rfl) (hA758.ev rfl) (hA758.ev rfl) ?_)
   intro a759 hA760
   refine qs hA760 rfl (dmv (wn rfl) (hA760.ev rfl) ?_)
   intro a761 hA762
   refine qs hA762 rfl (dno (wno rfl rfl (.inl (hA762.get 86 _ rfl))) ?_)
   intro a763 hA764
   refine qs hA764 rfl (dno (wno rfl rfl (.inl (hA764.get 86 _ rfl))) ?_)
   intro a765 hA766
   refine qs hA766 rfl (dno (wno rfl rfl (.inl (hA766.get 86 _ rfl))) ?_)
   intro a767 hA768
   refine qs hA768 rfl (dno (wno rfl rfl (.inl (hA768.get 86 _ rfl))) ?_)
   intro a769 hA770
   refine qs hA770 rfl (dno (wno rfl rfl (.inr (hA770.get 90 _ rfl))) ?_)
   intro a771 hA772
   refine qs hA772 rfl (dno (wno rfl rfl (.inr (hA772.get 90 _ rfl))) ?_)
   intro a773 hA774
   refine qs hA774 rfl (dno (wno rfl rfl (.inr (hA774.get 90 _ rfl))) ?_)
   intro a775 hA776
   refine qs hA776 rfl (dno (wno rfl rfl (.inl (hA776.get 86 _ rfl))) ?_)
   intro a777 hA778
   refine qs hA778 rfl (dpf (wn rfl) (hA778.ev rfl) (hA778.ev rfl) ?_)
   intro a779 hA780
   refine qs hA780 rfl (das (wn rfl) (hA780.ev rfl) ?_)
   intro a781 hA782
   refine qe_ ?_
   exact ⟨hA782.cut _ (fc ((hA782.get 2 _ rfl).trans (congrArg Value.bool (by simp [hb588]))) fn_), b587, m586⟩
  rintro a576 w577 ⟨hA783, b784, m785⟩
  refine tn_ ?_
  refine wp_ret ?_
  refine i_ret ?_
  refine t_ret ?_
  refine ret1 rfl hA783 (v := (.bool ((regB i.dst) && ((regB i.a) && ((accB i) && ((i.fn == 6) || (i.fn == 1))))))) rfl ?_
  exact ⟨ret_bool (by first | (simp [soundB, hb18, hb55, hb127, hb352, hb502, eq_of_beq hb570, Bool.or_assoc, Bool.and_assoc]; done) | (rw [Bool.eq_iff_iff]; simp [soundB, hb18, hb55, hb127, hb352, hb502, eq_of_beq hb570]; done) | (rw [Bool.eq_iff_iff]; simp [soundB, hb18, hb55, hb127, hb352, hb502, eq_of_beq hb570]; omega) | grind), b784⟩
 have hq786 := ne_of_beq hb570
 refine qs hA569 rfl (dbn (wn rfl) (hA569.ev rfl) (hA569.ev rfl) (b_eq _ _ i.op 6 false _ hb570) ?_)
 intro a787 hA788
 refine qs hA788 rfl (das (wn rfl) (hA788.ev rfl) ?_)
 intro a789 hA790
 refine qe_ ?_
 refine tn_ ?_
 refine c_false hA790 rfl ?_
 refine wp_seq ?_
 refine wp_region_lit ?_
 rcases Bool.eq_false_or_eq_true (i.op == 7) with hb791 | hb791
 ·skip
  have hq792 := eq_of_beq hb791
  refine qs hA790 rfl (dbn (wn rfl) (hA790.ev rfl) (hA790.ev rfl) (b_eq _ _ i.op 7 true _ hb791) ?_)
  intro a793 hA794
  refine qs hA794 rfl (das (wn rfl) (hA794.ev rfl) ?_)
  intro a795 hA796
  refine qe_ ?_
  refine tn_ ?_
  refine c_true hA796 rfl ?_
  refine wp_seq ?_
  refine jwp (K := fun a797 w798 => St 113 [(2, (.bool ((fenB i.pred) && (fenB i.succ))))] a797 ∧ Below w.heap.size w w798 ∧ Blk w798 g3 (insC i) 23) ?_ ?_
  ·skip
   refine wp_region_lit ?_
   refine qs hA796 rfl (dfa (wn rfl) (hA796.ev rfl) fo23_13 ?_)
   intro a799 hA800
   refine qs hA800 rfl (dld (v := (.int .i64 i.pred)) (wn rfl) (hA800.ev rfl) one3 (m7.cell rfl) ?_)
   intro a801 hA802
   refine qs hA802 rfl (dcl (wn rfl) ent43 (map1 (hA802.ev rfl)) (isFenced_any i.pred w4) ?_)
   rintro e806 w803 ⟨he805, hG804⟩
   have m807 := m7.grow hG804
   have b808 := blg b9 hG804 b9.size
   rcases Bool.eq_false_or_eq_true (fenB i.pred) with hb809 | hb809
   ·skip
    refine ⟨.bool true, he805.trans (ret_bool hb809), ?_⟩
    intro a811 hA812
    refine qs hA812 rfl (dmv (wn rfl) (hA812.ev rfl) ?_)
    intro a813 hA814
    refine qs hA814 rfl (dfa (wy rfl rfl (hA814.get 101 _ rfl)) (hA814.ev rfl) fo23_14 ?_)
    intro a815 hA816
    refine qs hA816 rfl (dld (v := (.int .i64 i.succ)) (wy rfl rfl (hA816.get 101 _ rfl)) (hA816.ev rfl) one3 (m807.cell rfl) ?_)
    intro a817 hA818
    refine qs hA818 rfl (dcl (wy rfl rfl (hA818.get 101 _ rfl)) ent43 (map1 (hA818.ev rfl)) (isFenced_any i.succ w803) ?_)
    rintro e822 w819 ⟨he821, hG820⟩
    have m823 := m807.grow hG820
    have b824 := blg b808 hG820 b808.size
    rcases Bool.eq_false_or_eq_true (fenB i.succ) with hb825 | hb825
    ·skip
     refine ⟨.bool true, he821.trans (ret_bool hb825), ?_⟩
     intro a827 hA828
     refine qs hA828 rfl (dpt (wn rfl) (hA828.ev rfl) (hA828.ev rfl) ?_)
     intro a829 hA830
     refine qs hA830 rfl (das (wn rfl) (hA830.ev rfl) ?_)
     intro a831 hA832
     refine qe_ ?_
     exact ⟨hA832.cut _ (fc ((hA832.get 2 _ rfl).trans (congrArg Value.bool (by simp [hb809, hb825]))) fn_), b824, m823⟩
    refine ⟨.bool false, he821.trans (ret_bool hb825), ?_⟩
    intro a834 hA835
    refine qs hA835 rfl (dpt (wn rfl) (hA835.ev rfl) (hA835.ev rfl) ?_)
    intro a836 hA837
    refine qs hA837 rfl (das (wn rfl) (hA837.ev rfl) ?_)
    intro a838 hA839
    refine qe_ ?_
    exact ⟨hA839.cut _ (fc ((hA839.get 2 _ rfl).trans (congrArg Value.bool (by simp [hb809, hb825]))) fn_), b824, m823⟩
   refine ⟨.bool false, he805.trans (ret_bool hb809), ?_⟩
   intro a841 hA842
   refine qs hA842 rfl (dmv (wn rfl) (hA842.ev rfl) ?_)
   intro a843 hA844
   refine qs hA844 rfl (dno (wno rfl rfl (.inl (hA844.get 101 _ rfl))) ?_)
   intro a845 hA846
   refine qs hA846 rfl (dno (wno rfl rfl (.inl (hA846.get 101 _ rfl))) ?_)
   intro a847 hA848
   refine qs hA848 rfl (dno (wno rfl rfl (.inl (hA848.get 101 _ rfl))) ?_)
   intro a849 hA850
   refine qs hA850 rfl (dpf (wn rfl) (hA850.ev rfl) (hA850.ev rfl) ?_)
   intro a851 hA852
   refine qs hA852 rfl (das (wn rfl) (hA852.ev rfl) ?_)
   intro a853 hA854
   refine qe_ ?_
   exact ⟨hA854.cut _ (fc ((hA854.get 2 _ rfl).trans (congrArg Value.bool (by simp [hb809]))) fn_), b808, m807⟩
  rintro a797 w798 ⟨hA855, b856, m857⟩
  refine tn_ ?_
  refine wp_ret ?_
  refine i_ret ?_
  refine t_ret ?_
  refine ret1 rfl hA855 (v := (.bool ((fenB i.pred) && (fenB i.succ)))) rfl ?_
  exact ⟨ret_bool (by first | (simp [soundB, hb18, hb55, hb127, hb352, hb502, hb570, eq_of_beq hb791, Bool.or_assoc, Bool.and_assoc]; done) | (rw [Bool.eq_iff_iff]; simp [soundB, hb18, hb55, hb127, hb352, hb502, hb570, eq_of_beq hb791]; done) | (rw [Bool.eq_iff_iff]; simp [soundB, hb18, hb55, hb127, hb352, hb502, hb570, eq_of_beq hb791]; omega) | grind), b856⟩
 have hq858 := ne_of_beq hb791
 refine qs hA790 rfl (dbn (wn rfl) (hA790.ev rfl) (hA790.ev rfl) (b_eq _ _ i.op 7 false _ hb791) ?_)
 intro a859 hA860
 refine qs hA860 rfl (das (wn rfl) (hA860.ev rfl) ?_)
 intro a861 hA862
 refine qe_ ?_
 refine tn_ ?_
 refine c_false hA862 rfl ?_
 refine wp_seq ?_
 refine wp_region_lit ?_
 rcases Bool.eq_false_or_eq_true (i.op == 8) with hb863 | hb863
 ·skip
  have hq864 := eq_of_beq hb863
  refine qs hA862 rfl (dbn (wn rfl) (hA862.ev rfl) (hA862.ev rfl) (b_eq _ _ i.op 8 true _ hb863) ?_)
  intro a865 hA866
  refine qs hA866 rfl (das (wn rfl) (hA866.ev rfl) ?_)
  intro a867 hA868
  refine qe_ ?_
  refine tn_ ?_
  refine c_true hA868 rfl ?_
  refine wp_seq ?_
  refine wp_region_lit ?_
  refine qs hA868 rfl (das (wn rfl) (hA868.ev rfl) ?_)
  intro a869 hA870
  refine qe_ ?_
  refine tn_ ?_
  refine wp_ret ?_
  refine i_ret ?_
  refine t_ret ?_
  refine ret1 rfl hA870 (v := (.bool true)) rfl ?_
  exact ⟨ret_bool (by first | (simp [soundB, hb18, hb55, hb127, hb352, hb502, hb570, hb791, eq_of_beq hb863, Bool.or_assoc, Bool.and_assoc]; done) | (rw [Bool.eq_iff_iff]; simp [soundB, hb18, hb55, hb127, hb352, hb502, hb570, hb791, eq_of_beq hb863]; done) | (rw [Bool.eq_iff_iff]; simp [soundB, hb18, hb55, hb127, hb352, hb502, hb570, hb791, eq_of_beq hb863]; omega) | grind), b9⟩
 have hq871 := ne_of_beq hb863
 refine qs hA862 rfl (dbn (wn rfl) (hA862.ev rfl) (hA862.ev rfl) (b_eq _ _ i.op 8 false _ hb863) ?_)
 intro a872 hA873
 refine qs hA873 rfl (das (wn rfl) (hA873.ev rfl) ?_)
 intro a874 hA875
 refine qe_ ?_
 refine tn_ ?_
 refine c_false hA875 rfl ?_
 refine wp_seq ?_
 refine wp_region_lit ?_
 rcases Bool.eq_false_or_eq_true (i.op == 9) with hb876 | hb876
 ·skip
  have hq877 := eq_of_beq hb876
  refine qs hA875 rfl (dbn (wn rfl) (hA875.ev rfl) (hA875.ev rfl) (b_eq _ _ i.op 9 true _ hb876) ?_)
  intro a878 hA879
  refine qs hA879 rfl (das (wn rfl) (hA879.ev rfl) ?_)
  intro a880 hA881
  refine qe_ ?_
  refine tn_ ?_
  refine c_true hA881 rfl ?_
  refine wp_seq ?_
  refine jwp (K := fun a882 w883 => St 113 [(2, (.bool (regB i.a)))] a882 ∧ Below w.heap.size w w883 ∧ Blk w883 g3 (insC i) 23) ?_ ?_
  ·skip
   refine wp_region_lit ?_
   refine qs hA881 rfl (dfa (wn rfl) (hA881.ev rfl) fo23_2 ?_)
   intro a884 hA885
   refine qs hA885 rfl (dld (v := (.int .i64 i.a)) (wn rfl) (hA885.ev rfl) one3 (m7.cell rfl) ?_)
   intro a886 hA887
   refine qs hA887 rfl (dcl (wn rfl) ent40 (map1 (hA887.ev rfl)) (isReg_any i.a w4) ?_)
   rintro e891 w888 ⟨he890, hG889⟩
   have m892 := m7.grow hG889
   have b893 := blg b9 hG889 b9.size
   rcases Bool.eq_false_or_eq_true (regB i.a) with hb894 | hb894
   ·skip
    refine ⟨.bool true, he890.trans (ret_bool hb894), ?_⟩
    intro a896 hA897
    refine qs hA897 rfl (das (wn rfl) (hA897.ev rfl) ?_)
    intro a898 hA899
    refine qe_ ?_
    exact ⟨hA899.cut _ (fc ((hA899.get 2 _ rfl).trans (congrArg Value.bool (by simp [hb894]))) fn_), b893, m892⟩
   refine ⟨.bool false, he890.trans (ret_bool hb894), ?_⟩
   intro a901 hA902
   refine qs hA902 rfl (das (wn rfl) (hA902.ev rfl) ?_)
   intro a903 hA904
   refine qe_ ?_
   exact ⟨hA904.cut _ (fc ((hA904.get 2 _ rfl).trans (congrArg Value.bool (by simp [hb894]))) fn_), b893, m892⟩
  rintro a882 w883 ⟨hA905, b906, m907⟩
  refine tn_ ?_
  refine wp_ret ?_
  refine i_ret ?_
  refine t_ret ?_
  refine ret1 rfl hA905 (v := (.bool (regB i.a))) rfl ?_
  exact ⟨ret_bool (by first | (simp [soundB, hb18, hb55, hb127, hb352, hb502, hb570, hb791, hb863, eq_of_beq hb876, Bool.or_assoc, Bool.and_assoc]; done) | (rw [Bool.eq_iff_iff]; simp [soundB, hb18, hb55, hb127, hb352, hb502, hb570, hb791, hb863, eq_of_beq hb876]; done) | (rw [Bool.eq_iff_iff]; simp [soundB, hb18, hb55, hb127, hb352, hb502, hb570, hb791, hb863, eq_of_beq hb876]; omega) | grind), b906⟩
 have hq908 := ne_of_beq hb876
 refine qs hA875 rfl (dbn (wn rfl) (hA875.ev rfl) (hA875.ev rfl) (b_eq _ _ i.op 9 false _ hb876) ?_)
 intro a909 hA910
 refine qs hA910 rfl (das (wn rfl) (hA910.ev rfl) ?_)
 intro a911 hA912
 refine qe_ ?_
 refine tn_ ?_
 refine c_false hA912 rfl ?_
 refine wp_skip ?_
 refine i_norm ?_
 refine tn_ ?_
 refine wp_seq ?_
 refine wp_region_lit ?_
 refine qs hA912 rfl (das (wn rfl) (hA912.ev rfl) ?_)
 intro a913 hA914
 refine qe_ ?_
 refine tn_ ?_
 refine wp_ret ?_
 refine ret1 rfl hA914 (v := (.bool false)) rfl ?_
 exact ⟨ret_bool (by first | (simp [soundB, hb18, hb55, hb127, hb352, hb502, hb570, hb791, hb863, hb876, Bool.or_assoc, Bool.and_assoc]; done) | (rw [Bool.eq_iff_iff]; simp [soundB, hb18, hb55, hb127, hb352, hb502, hb570, hb791, hb863, hb876]; done) | (rw [Bool.eq_iff_iff]; simp [soundB, hb18, hb55, hb127, hb352, hb502, hb570, hb791, hb863, hb876]; omega) | grind), b9⟩
end Go.Proofs.Ytlhompedcphnnaa
/- Contracts of functions on single instructions. -/
namespace Go.Proofs.Ytlhompedcphnnaa
open Go.RowKit
set_option linter.unusedSimpArgs false
set_option linter.unusedVariables false
set_option maxHeartbeats 4000000 in
set_option maxRecDepth 4000 in
theorem right_any (i : Ins) (p q : Int) (w : World) : Calls Try.prog 9 #[.agg (insC i), .int .i64 p, .int .i64 q] w fun e w' => e = .returned (.int .i64 (rightR i p q)) ∧ Grow w w' := by
 have b0 : Below w.heap.size w w := Below.refl _ _
 refine enter (n := 30) Try.func9 rfl rfl (Nat.le_of_ble_eq_true rfl) ?_
 intro a1 hA2
 refine wp_seq ?_
 refine wp_region_lit ?_
 refine qs hA2 rfl (d_box (wn rfl) (hA2.ev rfl) ?_)
 intro g3 w4 eg5 hG6 (m7 : Blk w4 g3 (insC i) 23)
 have ge8 : w.heap.size ≤ g3 := eg5 ▸ b0.size
 have b9 := blg b0 hG6 b0.size
 intro a10 hA11
 refine qs hA11 rfl (das (wn rfl) (hA11.ev rfl) ?_)
 intro a12 hA13
 refine qe_ ?_
 refine tn_ ?_
 refine wp_seq ?_
 refine wp_seq ?_
 rcases Bool.eq_false_or_eq_true (insEq i (plainF i)) with hb14 | hb14
 ·skip
  rcases Bool.eq_false_or_eq_true (soundB i) with hb16 | hb16
  ·skip
   have hA18 : St 30 [(1, (.int .i64 p)), (2, (.int .i64 q)), (3, (.pointer (some ⟨g3, 0, none⟩))), (6, (.int .i64 0))] a12 := hA13.sub rfl
   let M19 : Nat → Option (Array Value) := fun _ => none
   have hM19 : M19 = fun _ => none := rfl
   clear_value M19
   have hM20 : M19 g3 = none := (congrFun hM19 g3)
   have hM19B : ∀ k, k < w.heap.size → M19 k = none := (fun k hk => (congrFun hM19 k))
   refine drawn (S := SM M19) (tabL [cv (.agg (insC i)), cv (.agg (insC i)), cv (.agg (insC (plainF i))), cv (.bool false), cv (.bool false), cv (.agg (insC i)), cv (.bool true), cv (.bool false), cv (.bool false)]) mixedY SM.refl SM.trans SM.drew hA18 (by kernel_rfl) ?_ ?_
   ·skip
    refine ec_ (fun x y hS hT hk => dlr (cs := (insC i)) (wn rfl) (hT.ev rfl) row23 (Blk.sm (w := w4.drew) m7 hS hM20) ⟨SM.refl _, rfl⟩) ?_
    refine ec_ (fun x y hS hT hk => dlr (cs := (insC i)) (wn rfl) (hT.ev rfl) row23 (Blk.sm (w := w4.drew) m7 hS hM20) ⟨SM.refl _, rfl⟩) ?_
    refine ec_ (fun x y hS hT hk => dcl (wn rfl) ent28 (map1 (show x.eval _ = (.agg (insC i)) from (hk 1 rfl))) (plain_any i y) (fun _ _ ⟨he, hG⟩ => ⟨(.agg (insC (plainF i))), he, SM.grow hG, rfl⟩)) ?_
    refine ec_ (fun x y hS hT hk => dbn (u := .agg (insC i)) (v := .agg (insC (plainF i))) (wn rfl) (hk 0 rfl) (hk 2 rfl) (ne_ins i (plainF i) _ _ _ false (notof hb14)) ⟨SM.refl _, rfl⟩) ?_
    refine ec_ (fun x y hS hT hk => dmv (wn rfl) (hk 3 rfl) ⟨SM.refl _, rfl⟩) ?_
    refine ec_ (fun x y hS hT hk => dlr (cs := (insC i)) (wy rfl rfl (hk 4 rfl)) (hT.ev rfl) row23 (Blk.sm (w := w4.drew) m7 hS hM20) ⟨SM.refl _, rfl⟩) ?_
    refine ec_ (fun x y hS hT hk => dcl (wy rfl rfl (hk 4 rfl)) ent29 (map1 (show x.eval _ = (.agg (insC i)) from (hk 5 rfl))) (sound_any i y) (fun _ _ ⟨he, hG⟩ => ⟨(.bool true), (he.trans (ret_bool hb16)), SM.grow hG, rfl⟩)) ?_
    refine ec_ (fun x y hS hT hk => dnt (wy rfl rfl (hk 4 rfl)) (hk 6 rfl) ⟨SM.refl _, rfl⟩) ?_
    refine ec_ (fun x y hS hT hk => dpf (wn rfl) (hk 4 rfl) (hk 7 rfl) ⟨SM.refl _, rfl⟩) ?_
    exact each_nil
   intro f21 a22 w23 hS24 hC25 hA26
   have hA27 : St 30 [(1, (.int .i64 p)), (2, (.int .i64 q)), (3, (.pointer (some ⟨g3, 0, none⟩))), (6, (.int .i64 0)), (15, (.bool false))] a22 := hA26.cut _ (fc (hA26.get 1 _ rfl) (fc (hA26.get 2 _ rfl) (fc (hA26.get 3 _ rfl) (fc (hA26.get 6 _ rfl) (fc ((hA26.get 15 _ rfl).trans (hC25 8 (Nat.le_of_ble_eq_true rfl))) fn_)))))
   have m28 := m7.sm hS24 hM20
   have b29 := hS24.below b9 b9.size hM19B
   refine tn_ ?_
   refine c_false hA27 rfl ?_
   refine wp_skip ?_
   refine tn_ ?_
   refine wp_seq ?_
   refine wp_seq ?_
   refine wp_region_lit ?_
   refine qs hA27 rfl (dlr (cs := (insC i)) (wn rfl) (hA27.ev rfl) row23 m28 ?_)
   intro a30 hA31
   refine qs hA31 rfl (dcl (wn rfl) ent30 (map1 (hA31.ev rfl)) (isBranch_any i w23) ?_)
   rintro e35 w32 ⟨he34, hG33⟩
   have m36 := m28.grow hG33
   have b37 := blg b29 hG33 b29.size
   rcases Bool.eq_false_or_eq_true (i.op == 9) with hb38 | hb38
   ·skip
    have hq39 := eq_of_beq hb38
    refine ⟨.bool true, he34.trans (ret_bool hb38), ?_⟩
    intro a40 hA41
    refine qs hA41 rfl (dmv (wn rfl) (hA41.ev rfl) ?_)
    intro a42 hA43
    refine qs hA43 rfl (dfa (wy rfl rfl (hA43.get 18 _ rfl)) (hA43.ev rfl) fo23_15 ?_)
    intro a44 hA45
    refine qs hA45 rfl (dld (v := (.int .i64 i.to)) (wy rfl rfl (hA45.get 18 _ rfl)) (hA45.ev rfl) one3 (m36.cell rfl) ?_)
    intro a46 hA47
    refine qs hA47 rfl (dmv (wy rfl rfl (hA47.get 18 _ rfl)) (hA47.ev rfl) ?_)
    intro a48 hA49
    rcases Bool.eq_false_or_eq_true (decide (i.to ≤ p)) with hb50 | hb50
    ·skip
     have hq51 := of_decide_eq_true hb50
     refine qs hA49 rfl (dbn (wy rfl rfl (hA49.get 18 _ rfl)) (hA49.ev rfl) (hA49.ev rfl) (b_le _ _ i.to p true _ hb50) ?_)
     intro a52 hA53
     refine qs hA53 rfl (dmv (wy rfl rfl (hA53.get 18 _ rfl)) (hA53.ev rfl) ?_)
     intro a54 hA55
     refine qs hA55 rfl (dno (wno rfl rfl (.inl (hA55.get 23 _ rfl))) ?_)
     intro a56 hA57
     refine qs hA57 rfl (dno (wno rfl rfl (.inl (hA57.get 23 _ rfl))) ?_)
     intro a58 hA59
     refine qs hA59 rfl (dno (wno rfl rfl (.inl (hA59.get 23 _ rfl))) ?_)
     intro a60 hA61
     refine qs hA61 rfl (dno (wno rfl rfl (.inl (hA61.get 23 _ rfl))) ?_)
     intro a62 hA63
     refine qs hA63 rfl (dpt (wy rfl rfl (hA63.get 18 _ rfl)) (hA63.ev rfl) (hA63.ev rfl) ?_)
     intro a64 hA65
     refine qs hA65 rfl (dpt (wn rfl) (hA65.ev rfl) (hA65.ev rfl) ?_)
     intro a66 hA67
     refine qe_ ?_
     refine tn_ ?_
     refine c_true hA67 rfl ?_
     refine wp_seq ?_
     refine wp_region_lit ?_
     refine qs hA67 rfl (das (wn rfl) (hA67.ev rfl) ?_)
     intro a68 hA69
     refine qe_ ?_
     refine tn_ ?_
     refine wp_ret ?_
     refine t_ret ?_
     refine ret1 rfl hA69 (v := (.int .i64 35)) rfl ?_
     exact ⟨ret_int (by simp [rightR, hb14, hb16, eq_of_beq hb38, hb50]), b37⟩
    have hq70 := of_decide_eq_false hb50
    refine qs hA49 rfl (dbn (wy rfl rfl (hA49.get 18 _ rfl)) (hA49.ev rfl) (hA49.ev rfl) (b_le _ _ i.to p false _ hb50) ?_)
    intro a71 hA72
    refine qs hA72 rfl (dmv (wy rfl rfl (hA72.get 18 _ rfl)) (hA72.ev rfl) ?_)
    intro a73 hA74
    refine qs hA74 rfl (dfa (wy rfl rfl (hA74.get 23 _ rfl)) (hA74.ev rfl) fo23_15 ?_)
    intro a75 hA76
    refine qs hA76 rfl (dld (v := (.int .i64 i.to)) (wy rfl rfl (hA76.get 23 _ rfl)) (hA76.ev rfl) one3 (m36.cell rfl) ?_)
    intro a77 hA78
    refine qs hA78 rfl (dmv (wy rfl rfl (hA78.get 23 _ rfl)) (hA78.ev rfl) ?_)
    intro a79 hA80
    rcases Bool.eq_false_or_eq_true (decide (i.to > q)) with hb81 | hb81
    ·skip
     have hq82 := of_decide_eq_true hb81
     refine qs hA80 rfl (dbn (wy rfl rfl (hA80.get 23 _ rfl)) (hA80.ev rfl) (hA80.ev rfl) (b_gt _ _ i.to q true _ hb81) ?_)
     intro a83 hA84
     refine qs hA84 rfl (dpf (wy rfl rfl (hA84.get 18 _ rfl)) (hA84.ev rfl) (hA84.ev rfl) ?_)
     intro a85 hA86
     refine qs hA86 rfl (dpt (wn rfl) (hA86.ev rfl) (hA86.ev rfl) ?_)
     intro a87 hA88
     refine qe_ ?_
     refine tn_ ?_
     refine c_true hA88 rfl ?_
     refine wp_seq ?_
     refine wp_region_lit ?_
     refine qs hA88 rfl (das (wn rfl) (hA88.ev rfl) ?_)
     intro a89 hA90
     refine qe_ ?_
     refine tn_ ?_
     refine wp_ret ?_
     refine t_ret ?_
     refine ret1 rfl hA90 (v := (.int .i64 35)) rfl ?_
     exact ⟨ret_int (by simp [rightR, hb14, hb16, eq_of_beq hb38, hb50, hb81]), b37⟩
    have hq91 := of_decide_eq_false hb81
    refine qs hA80 rfl (dbn (wy rfl rfl (hA80.get 23 _ rfl)) (hA80.ev rfl) (hA80.ev rfl) (b_gt _ _ i.to q false _ hb81) ?_)
    intro a92 hA93
    refine qs hA93 rfl (dpf (wy rfl rfl (hA93.get 18 _ rfl)) (hA93.ev rfl) (hA93.ev rfl) ?_)
    intro a94 hA95
    refine qs hA95 rfl (dpt (wn rfl) (hA95.ev rfl) (hA95.ev rfl) ?_)
    intro a96 hA97
    refine qe_ ?_
    refine tn_ ?_
    refine c_false hA97 rfl ?_
    refine wp_skip ?_
    refine tn_ ?_
    refine wp_seq ?_
    refine wp_region_lit ?_
    refine qs hA97 rfl (das (wn rfl) (hA97.ev rfl) ?_)
    intro a98 hA99
    refine qe_ ?_
    refine tn_ ?_
    refine wp_ret ?_
    refine ret1 rfl hA99 (v := (.int .i64 0)) rfl ?_
    exact ⟨ret_int (by simp [rightR, hb14, hb16, eq_of_beq hb38, hb50, hb81]), b37⟩
   have hq100 := ne_of_beq hb38
   refine ⟨.bool false, he34.trans (ret_bool hb38), ?_⟩
   intro a101 hA102
   refine qs hA102 rfl (dmv (wn rfl) (hA102.ev rfl) ?_)
   intro a103 hA104
   refine qs hA104 rfl (dno (wno rfl rfl (.inl (hA104.get 18 _ rfl))) ?_)
   intro a105 hA106
   refine qs hA106 rfl (dno (wno rfl rfl (.inl (hA106.get 18 _ rfl))) ?_)
   intro a107 hA108
   refine qs hA108 rfl (dno (wno rfl rfl (.inl (hA108.get 18 _ rfl))) ?_)
   intro a109 hA110
   refine qs hA110 rfl (dno (wno rfl rfl (.inl (hA110.get 18 _ rfl))) ?_)
   intro a111 hA112
   refine qs hA112 rfl (dno (wno rfl rfl (.inl (hA112.get 18 _ rfl))) ?_)
   intro a113 hA114
   refine qs hA114 rfl (dno (wno rfl rfl (.inr (hA114.get 23 _ rfl))) ?_)
   intro a115 hA116
   refine qs hA116 rfl (dno (wno rfl rfl (.inr (hA116.get 23 _ rfl))) ?_)
   intro a117 hA118
   refine qs hA118 rfl (dno (wno rfl rfl (.inr (hA118.get 23 _ rfl))) ?_)
   intro a119 hA120
   refine qs hA120 rfl (dno (wno rfl rfl (.inr (hA120.get 23 _ rfl))) ?_)
   intro a121 hA122
   refine qs hA122 rfl (dno (wno rfl rfl (.inl (hA122.get 18 _ rfl))) ?_)
   intro a123 hA124
   refine qs hA124 rfl (dpf (wn rfl) (hA124.ev rfl) (hA124.ev rfl) ?_)
   intro a125 hA126
   refine qe_ ?_
   refine tn_ ?_
   refine c_false hA126 rfl ?_
   refine wp_skip ?_
   refine tn_ ?_
   refine wp_seq ?_
   refine wp_region_lit ?_
   refine qs hA126 rfl (das (wn rfl) (hA126.ev rfl) ?_)
   intro a127 hA128
   refine qe_ ?_
   refine tn_ ?_
   refine wp_ret ?_
   refine ret1 rfl hA128 (v := (.int .i64 0)) rfl ?_
   exact ⟨ret_int (by simp [rightR, hb14, hb16, hb38]), b37⟩
  have hA130 : St 30 [(1, (.int .i64 p)), (2, (.int .i64 q)), (3, (.pointer (some ⟨g3, 0, none⟩))), (6, (.int .i64 0))] a12 := hA13.sub rfl
  let M131 : Nat → Option (Array Value) := fun _ => none
  have hM131 : M131 = fun _ => none := rfl
  clear_value M131
  have hM132 : M131 g3 = none := (congrFun hM131 g3)
  have hM131B : ∀ k, k < w.heap.size → M131 k = none := (fun k hk => (congrFun hM131 k))
  refine drawn (S := SM M131) (tabL [cv (.agg (insC i)), cv (.agg (insC i)), cv (.agg (insC (plainF i))), cv (.bool false), cv (.bool false), cv (.agg (insC i)), cv (.bool false), cv (.bool true), cv (.bool true)]) mixedY SM.refl SM.trans SM.drew hA130 (by kernel_rfl) ?_ ?_
  ·skip
   refine ec_ (fun x y hS hT hk => dlr (cs := (insC i)) (wn rfl) (hT.ev rfl) row23 (Blk.sm (w := w4.drew) m7 hS hM132) ⟨SM.refl _, rfl⟩) ?_
   refine ec_ (fun x y hS hT hk => dlr (cs := (insC i)) (wn rfl) (hT.ev rfl) row23 (Blk.sm (w := w4.drew) m7 hS hM132) ⟨SM.refl _, rfl⟩) ?_
   refine ec_ (fun x y hS hT hk => dcl (wn rfl) ent28 (map1 (show x.eval _ = (.agg (insC i)) from (hk 1 rfl))) (plain_any i y) (fun _ _ ⟨he, hG⟩ => ⟨(.agg (insC (plainF i))), he, SM.grow hG, rfl⟩)) ?_
   refine ec_ (fun x y hS hT hk => dbn (u := .agg (insC i)) (v := .agg (insC (plainF i))) (wn rfl) (hk 0 rfl) (hk 2 rfl) (ne_ins i (plainF i) _ _ _ false (notof hb14)) ⟨SM.refl _, rfl⟩) ?_
   refine ec_ (fun x y hS hT hk => dmv (wn rfl) (hk 3 rfl) ⟨SM.refl _, rfl⟩) ?_
   refine ec_ (fun x y hS hT hk => dlr (cs := (insC i)) (wy rfl rfl (hk 4 rfl)) (hT.ev rfl) row23 (Blk.sm (w := w4.drew) m7 hS hM132) ⟨SM.refl _, rfl⟩) ?_
   refine ec_ (fun x y hS hT hk => dcl (wy rfl rfl (hk 4 rfl)) ent29 (map1 (show x.eval _ = (.agg (insC i)) from (hk 5 rfl))) (sound_any i y) (fun _ _ ⟨he, hG⟩ => ⟨(.bool false), (he.trans (ret_bool hb16)), SM.grow hG, rfl⟩)) ?_
   refine ec_ (fun x y hS hT hk => dnt (wy rfl rfl (hk 4 rfl)) (hk 6 rfl) ⟨SM.refl _, rfl⟩) ?_
   refine ec_ (fun x y hS hT hk => dpf (wn rfl) (hk 4 rfl) (hk 7 rfl) ⟨SM.refl _, rfl⟩) ?_
   exact each_nil
  intro f133 a134 w135 hS136 hC137 hA138
  have hA139 : St 30 [(1, (.int .i64 p)), (2, (.int .i64 q)), (3, (.pointer (some ⟨g3, 0, none⟩))), (6, (.int .i64 0)), (15, (.bool true))] a134 := hA138.cut _ (fc (hA138.get 1 _ rfl) (fc (hA138.get 2 _ rfl) (fc (hA138.get 3 _ rfl) (fc (hA138.get 6 _ rfl) (fc ((hA138.get 15 _ rfl).trans (hC137 8 (Nat.le_of_ble_eq_true rfl))) fn_)))))
  have m140 := m7.sm hS136 hM132
  have b141 := hS136.below b9 b9.size hM131B
  refine tn_ ?_
  refine c_true hA139 rfl ?_
  refine wp_seq ?_
  refine wp_region_lit ?_
  refine qs hA139 rfl (das (wn rfl) (hA139.ev rfl) ?_)
  intro a142 hA143
  refine qe_ ?_
  refine tn_ ?_
  refine wp_ret ?_
  refine t_ret ?_
  refine ret1 rfl hA143 (v := (.int .i64 34)) rfl ?_
  exact ⟨ret_int (by simp [rightR, hb14, hb16]), b141⟩
 have hA145 : St 30 [(1, (.int .i64 p)), (2, (.int .i64 q)), (3, (.pointer (some ⟨g3, 0, none⟩))), (6, (.int .i64 0))] a12 := hA13.sub rfl
 let M146 : Nat → Option (Array Value) := fun _ => none
 have hM146 : M146 = fun _ => none := rfl
 clear_value M146
 have hM147 : M146 g3 = none := (congrFun hM146 g3)
 have hM146B : ∀ k, k < w.heap.size → M146 k = none := (fun k hk => (congrFun hM146 k))
 refine drawn (S := SM M146) (tabL [cv (.agg (insC i)), cv (.agg (insC i)), cv (.agg (insC (plainF i))), cv (.bool true), cv (.bool true), cv undef, cv undef, cv undef, cv (.bool true)]) mixedY SM.refl SM.trans SM.drew hA145 (by kernel_rfl) ?_ ?_
 ·skip
  refine ec_ (fun x y hS hT hk => dlr (cs := (insC i)) (wn rfl) (hT.ev rfl) row23 (Blk.sm (w := w4.drew) m7 hS hM147) ⟨SM.refl _, rfl⟩) ?_
  refine ec_ (fun x y hS hT hk => dlr (cs := (insC i)) (wn rfl) (hT.ev rfl) row23 (Blk.sm (w := w4.drew) m7 hS hM147) ⟨SM.refl _, rfl⟩) ?_
  refine ec_ (fun x y hS hT hk => dcl (wn rfl) ent28 (map1 (show x.eval _ = (.agg (insC i)) from (hk 1 rfl))) (plain_any i y) (fun _ _ ⟨he, hG⟩ => ⟨(.agg (insC (plainF i))), he, SM.grow hG, rfl⟩)) ?_
  refine ec_ (fun x y hS hT hk => dbn (u := .agg (insC i)) (v := .agg (insC (plainF i))) (wn rfl) (hk 0 rfl) (hk 2 rfl) (ne_ins i (plainF i) _ _ _ true (notof hb14)) ⟨SM.refl _, rfl⟩) ?_
  refine ec_ (fun x y hS hT hk => dmv (wn rfl) (hk 3 rfl) ⟨SM.refl _, rfl⟩) ?_
  refine ec_ (fun x y hS hT hk => dno (wno rfl rfl (.inl (hk 4 rfl))) ⟨SM.refl _, rfl⟩) ?_
  refine ec_ (fun x y hS hT hk => dno (wno rfl rfl (.inl (hk 4 rfl))) ⟨SM.refl _, rfl⟩) ?_
  refine ec_ (fun x y hS hT hk => dno (wno rfl rfl (.inl (hk 4 rfl))) ⟨SM.refl _, rfl⟩) ?_
  refine ec_ (fun x y hS hT hk => dpt (wn rfl) (hk 4 rfl) (hT.ev rfl) ⟨SM.refl _, rfl⟩) ?_
  exact each_nil
 intro f148 a149 w150 hS151 hC152 hA153
 have hA154 : St 30 [(1, (.int .i64 p)), (2, (.int .i64 q)), (3, (.pointer (some ⟨g3, 0, none⟩))), (6, (.int .i64 0)), (15, (.bool true))] a149 := hA153.cut _ (fc (hA153.get 1 _ rfl) (fc (hA153.get 2 _ rfl) (fc (hA153.get 3 _ rfl) (fc (hA153.get 6 _ rfl) (fc ((hA153.get 15 _ rfl).trans (hC152 8 (Nat.le_of_ble_eq_true rfl))) fn_)))))
 have m155 := m7.sm hS151 hM147
 have b156 := hS151.below b9 b9.size hM146B
 refine tn_ ?_
 refine c_true hA154 rfl ?_
 refine wp_seq ?_
 refine wp_region_lit ?_
 refine qs hA154 rfl (das (wn rfl) (hA154.ev rfl) ?_)
 intro a157 hA158
 refine qe_ ?_
 refine tn_ ?_
 refine wp_ret ?_
 refine t_ret ?_
 refine ret1 rfl hA158 (v := (.int .i64 34)) rfl ?_
 exact ⟨ret_int (by simp [rightR, hb14]), b156⟩
set_option maxHeartbeats 4000000 in
set_option maxRecDepth 4000 in
theorem gives_any (i : Ins) (w : World) : Calls Try.prog 18 #[.agg (insC i)] w fun e w' => e = .returned (.int .i64 (givesF i)) ∧ Grow w w' := by
 have b0 : Below w.heap.size w w := Below.refl _ _
 refine enter (n := 6) Try.func18 rfl rfl (Nat.le_of_ble_eq_true rfl) ?_
 intro a1 hA2
 refine wp_seq ?_
 refine wp_region_lit ?_
 refine qs hA2 rfl (d_box (wn rfl) (hA2.ev rfl) ?_)
 intro g3 w4 eg5 hG6 (m7 : Blk w4 g3 (insC i) 23)
 have ge8 : w.heap.size ≤ g3 := eg5 ▸ b0.size
 have b9 := blg b0 hG6 b0.size
 intro a10 hA11
 refine qs hA11 rfl (das (wn rfl) (hA11.ev rfl) ?_)
 intro a12 hA13
 refine qe_ ?_
 refine tn_ ?_
 refine wp_seq ?_
 refine wp_region_lit ?_
 refine qs hA13 rfl (dlr (cs := (insC i)) (wn rfl) (hA13.ev rfl) row23 m7 ?_)
 intro a14 hA15
 refine qs hA15 rfl (dcl (wn rfl) ent28 (map1 (hA15.ev rfl)) (plain_any i w4) ?_)
 rintro e19 w16 ⟨he18, hG17⟩
 have m20 := m7.grow hG17
 have b21 := blg b9 hG17 b9.size
 refine ⟨(.agg (insC (plainF i))), he18, ?_⟩
 intro a22 hA23
 refine qs hA23 rfl (d_field (v := (.int .i64 ((plainF i).dst))) (wn rfl) (hA23.ev rfl) fi23_1 one3 rfl ?_)
 intro a24 hA25
 refine qs hA25 rfl (das (wn rfl) (hA25.ev rfl) ?_)
 intro a26 hA27
 refine qe_ ?_
 refine tn_ ?_
 refine wp_ret ?_
 refine ret1 rfl hA27 (v := (.int .i64 ((plainF i).dst))) rfl ?_
 exact ⟨ret_int (by simp [givesF, ]), b21⟩
end Go.Proofs.Ytlhompedcphnnaa
/- What Check and its parts come to. -/
namespace Go.Proofs.Ytlhompedcphnnaa
open Go.RowKit

def insE (i : Ins) : List Value := (insC i).toList
def cellE (v : Value) : List Value := [v]
/-- codes: a slice of slices of instructions -/
def Cs (B : Nat) (w : World) (v : Value) (cs : List (List Ins)) : Prop :=
  ∃ us : List Value, Sl cellE 1 B w v us ∧ us.length = cs.length ∧ ∀ (j : Nat) u c, us[j]? = some u → cs[j]? = some c → Sl insE 17 B w u c
def longR : List (List Ins) → Nat → Option Nat
  | [], _ => none
  | c :: r, t => if decide ((c.length : Int) > 8) then some t else longR r (t + 1)
def bad1 (n : Nat) : List Ins → Nat → Option (Nat × Int)
  | [], _ => none
  | i :: r, k => if rightR i (k : Int) (n : Int) == 0 then bad1 n r (k + 1) else some (k, rightR i (k : Int) (n : Int))
def bad2 : List (List Ins) → Nat → Option (Nat × Nat × Int)
  | [], _ => none
  | c :: r, t => match bad1 c.length c 0 with
    | some (k, e) => some (t, k, e)
    | none => bad2 r (t + 1)
def opsN (c : List Ins) : Nat := c.countP opB
def brN (c : List Ins) : Nat := c.countP fun i => i.op == 9
def sumO (cs : List (List Ins)) : Nat := (cs.map opsN).sum
def sumB (cs : List (List Ins)) : Nat := (cs.map brN).sum
def cntsR (cs : List (List Ins)) : Int := if decide ((sumO cs : Int) > 6) then 32 else if decide ((sumB cs : Int) > 3) then 33 else 0
def checkR (cs : List (List Ins)) : Int × Int × Int :=
  if decide ((cs.length : Int) < 1) || decide ((cs.length : Int) > 3) then (0, 0, 30) else
  match longR cs 0 with
  | some t => ((t : Int), 0, 31)
  | none => match bad2 cs 0 with
    | some (t, k, e) => ((t : Int), (k : Int), e)
    | none => (0, 0, cntsR cs)
theorem drop_at {α : Type} {l : List α} {j : Nat} {y : α} (h : l[j]? = some y) : l.drop j = y :: l.drop (j + 1) := by
  obtain ⟨hj, rfl⟩ := List.getElem?_eq_some_iff.1 h
  exact List.drop_eq_getElem_cons hj
theorem drop_end {α : Type} {l : List α} {j : Nat} (h : l.length ≤ j) : l.drop j = [] := List.drop_eq_nil_of_le h
theorem count_at {α : Type} {l : List α} {j : Nat} {y : α} (p : α → Bool) (h : l[j]? = some y) : (l.drop j).countP p = (l.drop (j + 1)).countP p + if p y then 1 else 0 := by
  rw [drop_at h, List.countP_cons]
theorem countP_drop_le {α : Type} (p : α → Bool) (l : List α) (j : Nat) : (l.drop j).countP p ≤ l.countP p := List.Sublist.countP_le (List.drop_sublist j l)
theorem cnt_le {α : Type} (p : α → Bool) (l : List α) (j : Nat) : (l.drop j).countP p ≤ l.length := by
  have := List.countP_le_length (p := p) (l := l.drop j); simp at this; omega
theorem sum_at {l : List (List Ins)} {j : Nat} {y : List Ins} (f : List Ins → Nat) (h : l[j]? = some y) : ((l.drop j).map f).sum = f y + ((l.drop (j + 1)).map f).sum := by
  rw [drop_at h]; simp
theorem long_at {l : List (List Ins)} {j : Nat} {y : List Ins} (h : l[j]? = some y) (hy : decide ((y.length : Int) > 8) = false) : longR (l.drop j) j = longR (l.drop (j + 1)) (j + 1) := by
  rw [drop_at h, longR, hy]; simp
theorem long_yes {l : List (List Ins)} {j : Nat} {y : List Ins} (h : l[j]? = some y) (hy : decide ((y.length : Int) > 8) = true) : longR (l.drop j) j = some j := by
  rw [drop_at h, longR, hy]; simp
theorem bad1_at {n : Nat} {l : List Ins} {j : Nat} {y : Ins} (h : l[j]? = some y) (hy : (rightR y (j : Int) (n : Int) == 0) = true) : bad1 n (l.drop j) j = bad1 n (l.drop (j + 1)) (j + 1) := by
  rw [drop_at h, bad1, hy]; simp
theorem bad1_yes {n : Nat} {l : List Ins} {j : Nat} {y : Ins} (h : l[j]? = some y) (hy : (rightR y (j : Int) (n : Int) == 0) = false) : bad1 n (l.drop j) j = some (j, rightR y (j : Int) (n : Int)) := by
  rw [drop_at h, bad1, hy]; simp
theorem bad2_at {l : List (List Ins)} {j : Nat} {y : List Ins} (h : l[j]? = some y) (hy : bad1 y.length y 0 = none) : bad2 (l.drop j) j = bad2 (l.drop (j + 1)) (j + 1) := by
  rw [drop_at h, bad2, hy]
theorem bad2_yes {l : List (List Ins)} {j k : Nat} {e : Int} {y : List Ins} (h : l[j]? = some y) (hy : bad1 y.length y 0 = some (k, e)) : bad2 (l.drop j) j = some (j, k, e) := by
  rw [drop_at h, bad2, hy]
theorem ops_le (c : List Ins) : opsN c ≤ c.length := List.countP_le_length
theorem br_le (c : List Ins) : brN c ≤ c.length := List.countP_le_length
def totN (cs : List (List Ins)) : Nat := (cs.map List.length).sum
theorem len_le {cs : List (List Ins)} {j : Nat} {c : List Ins} (h : cs[j]? = some c) : c.length ≤ totN cs := by
  unfold totN
  induction cs generalizing j with
  | nil => simp at h
  | cons d cs ih => cases j with
    | zero => simp at h; subst h; simp
    | succ j => have := ih (j := j) (by simpa using h); simp; omega
theorem sum_le0 (f : List Ins → Nat) (hf : ∀ c, f c ≤ c.length) : ∀ cs : List (List Ins), (cs.map f).sum ≤ (cs.map List.length).sum
  | [] => by simp
  | c :: cs => by have := sum_le0 f hf cs; have := hf c; simp; omega
theorem sum_le (f : List Ins → Nat) (hf : ∀ c, f c ≤ c.length) (cs : List (List Ins)) : (cs.map f).sum ≤ totN cs := sum_le0 f hf cs
theorem Cs.below {B : Nat} {w w' : World} {v : Value} {cs : List (List Ins)} (h : Cs B w v cs) (hb : Below B w w') : Cs B w' v cs := by
  obtain ⟨us, h1, h2, h3⟩ := h
  exact ⟨us, h1.below hb, h2, fun j u c hu hc => (h3 j u c hu hc).below hb⟩
theorem Cs.mono {B B' : Nat} {w : World} {v : Value} {cs : List (List Ins)} (h : Cs B w v cs) (hb : B ≤ B') : Cs B' w v cs := by
  obtain ⟨us, h1, h2, h3⟩ := h
  exact ⟨us, h1.mono hb, h2, fun j u c hu hc => (h3 j u c hu hc).mono hb⟩
theorem drop_sum_le (f : List Ins → Nat) (cs : List (List Ins)) : ∀ j, ((cs.drop j).map f).sum ≤ (cs.map f).sum := fun j => by
  induction cs generalizing j with
  | nil => simp
  | cons c cs ih => cases j with
    | zero => simp
    | succ j => have := ih j; rw [List.drop_succ_cons, List.map_cons, List.sum_cons]; omega
theorem ret_three {a b c a' b' c' : Int} (h1 : a = a') (h2 : b = b') (h3 : c = c') : Ending.returned (.tuple #[.int .i64 a, .int .i64 b, .int .i64 c]) = .returned (.tuple #[.int .i64 a', .int .i64 b', .int .i64 c']) := by rw [h1, h2, h3]
theorem check_threads {cs : List (List Ins)} (h : (cs.length : Int) < 1 ∨ (cs.length : Int) > 3) : checkR cs = (0, 0, 30) := by
  unfold checkR; rw [if_pos]; simp only [Bool.or_eq_true, decide_eq_true_eq]; exact h
theorem check_long {cs : List (List Ins)} {t : Nat} (h1 : ¬ (cs.length : Int) < 1) (h2 : ¬ (cs.length : Int) > 3) (h : longR cs 0 = some t) : checkR cs = ((t : Int), 0, 31) := by
  unfold checkR; rw [if_neg (by simp only [Bool.or_eq_true, decide_eq_true_eq]; omega), h]
theorem check_bad {cs : List (List Ins)} {t k : Nat} {e : Int} (h1 : ¬ (cs.length : Int) < 1) (h2 : ¬ (cs.length : Int) > 3) (h : longR cs 0 = none) (hb : bad2 cs 0 = some (t, k, e)) : checkR cs = ((t : Int), (k : Int), e) := by
  unfold checkR; rw [if_neg (by simp only [Bool.or_eq_true, decide_eq_true_eq]; omega), h, hb]
theorem check_none {cs : List (List Ins)} (h1 : ¬ (cs.length : Int) < 1) (h2 : ¬ (cs.length : Int) > 3) (h : longR cs 0 = none) (hb : bad2 cs 0 = none) : checkR cs = (0, 0, cntsR cs) := by
  unfold checkR; rw [if_neg (by simp only [Bool.or_eq_true, decide_eq_true_eq]; omega), h, hb]
end Go.Proofs.Ytlhompedcphnnaa
/- Closed facts on the types and functions of the program. -/
namespace Go.Proofs.Ytlhompedcphnnaa
open Go.RowKit
set_option linter.unusedSimpArgs false
set_option linter.unusedVariables false
theorem ent10 : ((Try.prog.funcs[10]?).map fun fn => (fn.name == "runtime.NumGoroutine", fn.body.isNone)) = some (false, false) := by kernel_rfl
theorem ent22 : ((Try.prog.funcs[22]?).map fun fn => (fn.name == "runtime.NumGoroutine", fn.body.isNone)) = some (false, false) := by kernel_rfl
theorem ent23 : ((Try.prog.funcs[23]?).map fun fn => (fn.name == "runtime.NumGoroutine", fn.body.isNone)) = some (false, false) := by kernel_rfl
theorem ent24 : ((Try.prog.funcs[24]?).map fun fn => (fn.name == "runtime.NumGoroutine", fn.body.isNone)) = some (false, false) := by kernel_rfl
theorem ent25 : ((Try.prog.funcs[25]?).map fun fn => (fn.name == "runtime.NumGoroutine", fn.body.isNone)) = some (false, false) := by kernel_rfl
theorem ent32 : ((Try.prog.funcs[32]?).map fun fn => (fn.name == "runtime.NumGoroutine", fn.body.isNone)) = some (false, false) := by kernel_rfl
theorem ent33 : ((Try.prog.funcs[33]?).map fun fn => (fn.name == "runtime.NumGoroutine", fn.body.isNone)) = some (false, false) := by kernel_rfl
theorem ent34 : ((Try.prog.funcs[34]?).map fun fn => (fn.name == "runtime.NumGoroutine", fn.body.isNone)) = some (false, false) := by kernel_rfl
theorem ent9 : ((Try.prog.funcs[9]?).map fun fn => (fn.name == "runtime.NumGoroutine", fn.body.isNone)) = some (false, false) := by kernel_rfl
theorem one35 : oneB Try.prog 35 = true := by kernel_rfl
theorem slc34 : sliceB Try.prog 34 35 1 = true := by kernel_rfl
theorem slc35 : sliceB Try.prog 35 23 17 = true := by kernel_rfl
end Go.Proofs.Ytlhompedcphnnaa
/- How many instructions of a code are of a kind. -/
namespace Go.Proofs.Ytlhompedcphnnaa
open Go.RowKit
set_option linter.unusedSimpArgs false
set_option linter.unusedVariables false
set_option maxHeartbeats 4000000 in
set_option maxRecDepth 4000 in
theorem count_any (f : Nat) (p : Ins → Bool) (l : List Ins) (v : Value) (w : World) (hent : ((Try.prog.funcs[f]?).map fun fn => (fn.name == "runtime.NumGoroutine", fn.body.isNone)) = some (false, false)) (hcon : ∀ i w, Calls Try.prog f #[.agg (insC i)] w fun e w' => e = .returned (.bool (p i)) ∧ Grow w w') (hs : Sl insE 17 w.heap.size w v l) (hl : l.length ≤ 1000000) : Calls Try.prog 34 #[v, .func (.func f) #[] #[]] w fun e w' => e = .returned (.int .i64 (l.countP p : Nat)) ∧ Grow w w' := by
 have b0 : Below w.heap.size w w := Below.refl _ _
 refine enter (n := 21) Try.func34 rfl rfl (Nat.le_of_ble_eq_true rfl) ?_
 intro a1 hA2
 refine wp_seq ?_
 refine wp_region_lit ?_
 refine qs hA2 rfl (das (wn rfl) (hA2.ev rfl) ?_)
 intro a3 hA4
 refine qe_ ?_
 refine tn_ ?_
 refine wp_seq ?_
 refine wp_region_lit ?_
 refine qs hA4 rfl (das (wn rfl) (hA4.ev rfl) ?_)
 intro a5 hA6
 refine qe_ ?_
 refine tn_ ?_
 refine wp_seq ?_
 refine wp_seq ?_
 refine wp_region_lit ?_
 refine qs hA6 rfl (dmv (wn rfl) (hA6.ev rfl) ?_)
 intro a7 hA8
 refine qs hA8 rfl (dle (n := l.length) (wn rfl) (hA8.ev rfl) slc35 hs.form ?_)
 intro a9 hA10
 refine qs hA10 rfl (dmv (wn rfl) (hA10.ev rfl) ?_)
 intro a11 hA12
 refine qe_ ?_
 refine tn_ ?_
 refine wp_block ?_
 refine loop_by (fun m14 a15 w16 => ∃ j13 : Nat, m14 = l.length - j13 ∧ (j13 ≤ l.length) ∧ St 21 [(1, (.func (.func f) #[] #[])), (5, (.int .i64 ((l.countP p - (l.drop j13).countP p : Nat) : Int))), (8, v), (9, (.int .i64 ((l.length : Nat) : Int))), (10, (.int .i64 ((j13 : Nat) : Int)))] a15 ∧ Below w.heap.size w w16) (l.length - 0) ⟨0, rfl, (by omega), hA12.cut _ (fc (hA12.get 1 _ rfl) (fc ((hA12.get 5 _ rfl).trans (congrArg (Value.int .i64) (by simp))) (fc (hA12.get 8 _ rfl) (fc (hA12.get 9 _ rfl) (fc ((hA12.get 10 _ rfl).trans (congrArg (Value.int .i64) (by simp))) fn_))))), b0⟩ ?_
 rintro m14 a15 w16 ⟨j13, hm19, hc20, hA17, b18⟩
 have hk1 := cnt_le p l j13
 have hk2 := countP_drop_le p l j13
 have hk3 := List.countP_le_length (p := p) (l := l)
 refine wp_seq ?_
 refine wp_region_lit ?_
 rcases Bool.eq_false_or_eq_true (decide (((j13 : Nat) : Int) < ((l.length : Nat) : Int))) with hb21 | hb21
 ·skip
  have hq22 := of_decide_eq_true hb21
  refine qs hA17 rfl (dbn (wn rfl) (hA17.ev rfl) (hA17.ev rfl) (b_lt _ _ ((j13 : Nat) : Int) ((l.length : Nat) : Int) true _ hb21) ?_)
  intro a23 hA24
  refine qe_ ?_
  refine tn_ ?_
  refine wp_seq ?_
  refine c_true hA24 rfl ?_
  refine wp_skip ?_
  refine tn_ ?_
  refine wp_seq ?_
  refine wp_block ?_
  refine wp_seq ?_
  refine wp_region_lit ?_
  obtain ⟨y25, hy26⟩ : ∃ y25, l[j13]? = some y25 := ⟨_, List.getElem?_eq_getElem (show j13 < l.length by omega)⟩
  obtain ⟨b27, o28, lt29, hr30, hix31⟩ := (hs.below b18).at hy26
  refine qs hA24 rfl (dia (j := j13) (wn rfl) (hA24.ev rfl) (hA24.ev rfl) slc35 hix31 (get_lt hy26) ?_)
  intro a32 hA33
  refine qs hA33 rfl (dlm (cs := (insC y25)) (wn rfl) (hA33.ev rfl) row23 hr30 ?_)
  intro a34 hA35
  refine qs hA35 rfl (dal (wn rfl) zero23 ?_)
  intro g36 w37 eg38 hG39 (m40 : Blk w37 g36 #[.int .i64 0, .int .i64 0, .int .i64 0, .int .i64 0, .int .i64 0, .int .i64 0, .int .i64 0, .int .i64 0, .int .i64 0, .int .i64 0, .bool false, .bool false, .bool false, .int .i64 0, .int .i64 0, .int .i64 0, .bool false] 23)
  have ge41 : w.heap.size ≤ g36 := eg38 ▸ b18.size
  have hr42 := range_below hr30 hG39 (Nat.lt_of_lt_of_le lt29 b18.size)
  have b43 := blg b18 hG39 b18.size
  intro a44 hA45
  refine qs hA45 rfl (dsr (wn rfl) (hA45.ev rfl) (hA45.ev rfl) row23 m40 rfl rfl ?_)
  intro w46 hU47 (m48 : Blk w46 g36 (insC y25) 23)
  have hr49 := range_upd hr42 hU47 (Nat.ne_of_lt (Nat.lt_of_lt_of_le lt29 ge41))
  have b50 := hU47.below b43 ge41
  intro a51 hA52
  refine qe_ ?_
  refine tn_ ?_
  refine wp_seq ?_
  refine wp_region_lit ?_
  refine qs hA52 rfl (dmv (wn rfl) (hA52.ev rfl) ?_)
  intro a53 hA54
  refine qs hA54 rfl (dlr (cs := (insC y25)) (wn rfl) (hA54.ev rfl) row23 m48 ?_)
  intro a55 hA56
  refine qs hA56 rfl (d_callv (f := f) (wn rfl) (hA56.ev rfl) hent (map1 (hA56.ev rfl)) (hcon y25 w46) ?_)
  rintro e60 w57 ⟨he59, hG58⟩
  have m61 := m48.grow hG58
  have hr62 := range_below hr49 hG58 (Nat.lt_of_lt_of_le lt29 b50.size)
  have b63 := blg b50 hG58 b50.size
  rcases Bool.eq_false_or_eq_true (p y25) with hb64 | hb64
  ·skip
   refine ⟨.bool true, he59.trans (ret_bool hb64), ?_⟩
   intro a66 hA67
   refine qe_ ?_
   refine tn_ ?_
   refine c_true hA67 rfl ?_
   refine wp_region_lit ?_
   refine qs hA67 rfl (dmv (wn rfl) (hA67.ev rfl) ?_)
   intro a68 hA69
   refine qs hA69 rfl (dbn (wn rfl) (hA69.ev rfl) (hA69.ev rfl) (b_add _ _ ((l.countP p - (l.drop j13).countP p : Nat) : Int) 1 _ (by omega) (by omega)) ?_)
   intro a70 hA71
   refine qs hA71 rfl (das (wn rfl) (hA71.ev rfl) ?_)
   intro a72 hA73
   refine qe_ ?_
   refine i_norm ?_
   refine tn_ ?_
   refine wp_region_lit ?_
   refine qs hA73 rfl (dbn (wn rfl) (hA73.ev rfl) (hA73.ev rfl) (b_add _ _ ((j13 : Nat) : Int) 1 _ (by omega) (by omega)) ?_)
   intro a74 hA75
   refine qs hA75 rfl (dmv (wn rfl) (hA75.ev rfl) ?_)
   intro a76 hA77
   refine qe_ ?_
   refine tn_ ?_
   exact ⟨l.length - (j13 + 1), (by rw [hm19]; omega), j13 + 1, rfl, (by omega), hA77.cut _ (fc (hA77.get 1 _ rfl) (fc ((hA77.get 5 _ rfl).trans (congrArg (Value.int .i64) (by have h1 := count_at p hy26; have h2 := countP_drop_le p l j13; simp [hb64] at h1; omega))) (fc (hA77.get 8 _ rfl) (fc (hA77.get 9 _ rfl) (fc ((hA77.get 10 _ rfl).trans (congrArg (Value.int .i64) (by omega))) fn_))))), b63⟩
  refine ⟨.bool false, he59.trans (ret_bool hb64), ?_⟩
  intro a79 hA80
  refine qe_ ?_
  refine tn_ ?_
  refine c_false hA80 rfl ?_
  refine wp_skip ?_
  refine i_norm ?_
  refine tn_ ?_
  refine wp_region_lit ?_
  refine qs hA80 rfl (dbn (wn rfl) (hA80.ev rfl) (hA80.ev rfl) (b_add _ _ ((j13 : Nat) : Int) 1 _ (by omega) (by omega)) ?_)
  intro a81 hA82
  refine qs hA82 rfl (dmv (wn rfl) (hA82.ev rfl) ?_)
  intro a83 hA84
  refine qe_ ?_
  refine tn_ ?_
  exact ⟨l.length - (j13 + 1), (by rw [hm19]; omega), j13 + 1, rfl, (by omega), hA84.cut _ (fc (hA84.get 1 _ rfl) (fc ((hA84.get 5 _ rfl).trans (congrArg (Value.int .i64) (by have h1 := count_at p hy26; have h2 := countP_drop_le p l j13; simp [hb64] at h1; omega))) (fc (hA84.get 8 _ rfl) (fc (hA84.get 9 _ rfl) (fc ((hA84.get 10 _ rfl).trans (congrArg (Value.int .i64) (by omega))) fn_))))), b63⟩
 have hq85 := of_decide_eq_false hb21
 refine qs hA17 rfl (dbn (wn rfl) (hA17.ev rfl) (hA17.ev rfl) (b_lt _ _ ((j13 : Nat) : Int) ((l.length : Nat) : Int) false _ hb21) ?_)
 intro a86 hA87
 refine qe_ ?_
 refine tn_ ?_
 refine wp_seq ?_
 refine c_false hA87 rfl ?_
 refine wp_exit ?_
 refine t_exit ?_
 refine t_exit ?_
 refine i_here ?_
 refine tn_ ?_
 refine wp_seq ?_
 refine wp_region_lit ?_
 refine qs hA87 rfl (dmv (wn rfl) (hA87.ev rfl) ?_)
 intro a88 hA89
 refine qs hA89 rfl (das (wn rfl) (hA89.ev rfl) ?_)
 intro a90 hA91
 refine qe_ ?_
 refine tn_ ?_
 refine wp_ret ?_
 refine ret1 rfl hA91 (v := (.int .i64 ((l.countP p - (l.drop j13).countP p : Nat) : Int))) rfl ?_
 exact ⟨ret_int (by have := drop_end (l := l) (j := j13) (by omega); simp [this, opsN, brN]), b18⟩
end Go.Proofs.Ytlhompedcphnnaa
/- How many operations and branches a code has. -/
namespace Go.Proofs.Ytlhompedcphnnaa
open Go.RowKit
set_option linter.unusedSimpArgs false
set_option linter.unusedVariables false
set_option maxHeartbeats 4000000 in
set_option maxRecDepth 4000 in
theorem ops_any (l : List Ins) (v : Value) (w : World) (hs : Sl insE 17 w.heap.size w v l) (hl : l.length ≤ 1000000) : Calls Try.prog 22 #[v] w fun e w' => e = .returned (.int .i64 (opsN l : Nat)) ∧ Grow w w' := by
 have b0 : Below w.heap.size w w := Below.refl _ _
 refine enter (n := 5) Try.func22 rfl rfl (Nat.le_of_ble_eq_true rfl) ?_
 intro a1 hA2
 refine wp_seq ?_
 refine wp_region_lit ?_
 refine qs hA2 rfl (das (wn rfl) (hA2.ev rfl) ?_)
 intro a3 hA4
 refine qe_ ?_
 refine tn_ ?_
 refine wp_seq ?_
 refine wp_region_lit ?_
 refine qs hA4 rfl (dmv (wn rfl) (hA4.ev rfl) ?_)
 intro a5 hA6
 refine qs hA6 rfl (dcl (wn rfl) ent34 (map2 (hA6.ev rfl) (hA6.ev rfl)) (count_any 35 opB l v w ent35 isOp_any ((hs.below b0).mono b0.size) (by omega)) ?_)
 rintro e10 w7 ⟨he9, hG8⟩
 have b11 := blg b0 hG8 b0.size
 refine ⟨(.int .i64 ((l.countP opB : Nat) : Int)), he9, ?_⟩
 intro a12 hA13
 refine qs hA13 rfl (das (wn rfl) (hA13.ev rfl) ?_)
 intro a14 hA15
 refine qe_ ?_
 refine tn_ ?_
 refine wp_ret ?_
 refine ret1 rfl hA15 (v := (.int .i64 ((l.countP opB : Nat) : Int))) rfl ?_
 exact ⟨rfl, b11⟩
set_option maxHeartbeats 4000000 in
set_option maxRecDepth 4000 in
theorem branches_any (l : List Ins) (v : Value) (w : World) (hs : Sl insE 17 w.heap.size w v l) (hl : l.length ≤ 1000000) : Calls Try.prog 24 #[v] w fun e w' => e = .returned (.int .i64 (brN l : Nat)) ∧ Grow w w' := by
 have b0 : Below w.heap.size w w := Below.refl _ _
 refine enter (n := 5) Try.func24 rfl rfl (Nat.le_of_ble_eq_true rfl) ?_
 intro a1 hA2
 refine wp_seq ?_
 refine wp_region_lit ?_
 refine qs hA2 rfl (das (wn rfl) (hA2.ev rfl) ?_)
 intro a3 hA4
 refine qe_ ?_
 refine tn_ ?_
 refine wp_seq ?_
 refine wp_region_lit ?_
 refine qs hA4 rfl (dmv (wn rfl) (hA4.ev rfl) ?_)
 intro a5 hA6
 refine qs hA6 rfl (dcl (wn rfl) ent34 (map2 (hA6.ev rfl) (hA6.ev rfl)) (count_any 30 (fun i => i.op == 9) l v w ent30 isBranch_any ((hs.below b0).mono b0.size) (by omega)) ?_)
 rintro e10 w7 ⟨he9, hG8⟩
 have b11 := blg b0 hG8 b0.size
 refine ⟨(.int .i64 ((l.countP (fun i => i.op == 9) : Nat) : Int)), he9, ?_⟩
 intro a12 hA13
 refine qs hA13 rfl (das (wn rfl) (hA13.ev rfl) ?_)
 intro a14 hA15
 refine qe_ ?_
 refine tn_ ?_
 refine wp_ret ?_
 refine ret1 rfl hA15 (v := (.int .i64 ((l.countP (fun i => i.op == 9) : Nat) : Int))) rfl ?_
 exact ⟨rfl, b11⟩
set_option maxHeartbeats 4000000 in
set_option maxRecDepth 4000 in
theorem rops_any (l : List Ins) (v : Value) (w : World) (hs : Sl insE 17 w.heap.size w v l) (hl : l.length ≤ 1000000) : Calls Try.prog 23 #[v] w fun e w' => e = .returned (.int .i64 (opsN l : Nat)) ∧ Grow w w' := by
 have b0 : Below w.heap.size w w := Below.refl _ _
 refine enter (n := 19) Try.func23 rfl rfl (Nat.le_of_ble_eq_true rfl) ?_
 intro a1 hA2
 refine wp_seq ?_
 refine wp_region_lit ?_
 refine qs hA2 rfl (das (wn rfl) (hA2.ev rfl) ?_)
 intro a3 hA4
 refine qe_ ?_
 refine tn_ ?_
 refine wp_seq ?_
 refine wp_region_lit ?_
 refine qs hA4 rfl (das (wn rfl) (hA4.ev rfl) ?_)
 intro a5 hA6
 refine qe_ ?_
 refine tn_ ?_
 refine wp_seq ?_
 refine wp_seq ?_
 refine wp_region_lit ?_
 refine qs hA6 rfl (das (wn rfl) (hA6.ev rfl) ?_)
 intro a7 hA8
 refine qe_ ?_
 refine tn_ ?_
 refine wp_block ?_
 refine loop_by (fun m10 a11 w12 => ∃ j9 : Nat, m10 = l.length - j9 ∧ (j9 ≤ l.length) ∧ St 19 [(0, v), (3, (.int .i64 ((l.countP opB - (l.drop j9).countP opB : Nat) : Int))), (4, (.int .i64 ((j9 : Nat) : Int)))] a11 ∧ Below w.heap.size w w12) (l.length - 0) ⟨0, rfl, (by omega), hA8.cut _ (fc (hA8.get 0 _ rfl) (fc ((hA8.get 3 _ rfl).trans (congrArg (Value.int .i64) (by simp))) (fc ((hA8.get 4 _ rfl).trans (congrArg (Value.int .i64) (by simp))) fn_))), b0⟩ ?_
 rintro m10 a11 w12 ⟨j9, hm15, hc16, hA13, b14⟩
 have hk1 := cnt_le opB l j9
 have hk2 := countP_drop_le opB l j9
 have hk3 := List.countP_le_length (p := opB) (l := l)
 refine wp_seq ?_
 refine wp_seq ?_
 refine wp_region_lit ?_
 refine qs hA13 rfl (dmv (wn rfl) (hA13.ev rfl) ?_)
 intro a17 hA18
 refine qs hA18 rfl (dmv (wn rfl) (hA18.ev rfl) ?_)
 intro a19 hA20
 refine qs hA20 rfl (dle (n := l.length) (wn rfl) (hA20.ev rfl) slc35 hs.form ?_)
 intro a21 hA22
 rcases Bool.eq_false_or_eq_true (decide (((j9 : Nat) : Int) < ((l.length : Nat) : Int))) with hb23 | hb23
 ·skip
  have hq24 := of_decide_eq_true hb23
  refine qs hA22 rfl (dbn (wn rfl) (hA22.ev rfl) (hA22.ev rfl) (b_lt _ _ ((j9 : Nat) : Int) ((l.length : Nat) : Int) true _ hb23) ?_)
  intro a25 hA26
  refine qe_ ?_
  refine tn_ ?_
  refine c_true hA26 rfl ?_
  refine wp_skip ?_
  refine tn_ ?_
  refine wp_seq ?_
  refine wp_block ?_
  refine wp_seq ?_
  refine wp_region_lit ?_
  refine qs hA26 rfl (dmv (wn rfl) (hA26.ev rfl) ?_)
  intro a27 hA28
  refine qs hA28 rfl (dmv (wn rfl) (hA28.ev rfl) ?_)
  intro a29 hA30
  obtain ⟨y31, hy32⟩ : ∃ y31, l[j9]? = some y31 := ⟨_, List.getElem?_eq_getElem (show j9 < l.length by omega)⟩
  obtain ⟨b33, o34, lt35, hr36, hix37⟩ := (hs.below b14).at hy32
  refine qs hA30 rfl (dia (j := j9) (wn rfl) (hA30.ev rfl) (hA30.ev rfl) slc35 hix37 (get_lt hy32) ?_)
  intro a38 hA39
  refine qs hA39 rfl (dlm (cs := (insC y31)) (wn rfl) (hA39.ev rfl) row23 hr36 ?_)
  intro a40 hA41
  refine qs hA41 rfl (dcl (wn rfl) ent32 (map1 (hA41.ev rfl)) (memory_any y31 w12) ?_)
  rintro e45 w42 ⟨he44, hG43⟩
  have hr46 := range_below hr36 hG43 (Nat.lt_of_lt_of_le lt35 b14.size)
  have b47 := blg b14 hG43 b14.size
  rcases Bool.eq_false_or_eq_true (opB y31) with hb48 | hb48
  ·skip
   refine ⟨.bool true, he44.trans (ret_bool hb48), ?_⟩
   intro a50 hA51
   refine qe_ ?_
   refine tn_ ?_
   refine c_true hA51 rfl ?_
   refine wp_region_lit ?_
   refine qs hA51 rfl (dmv (wn rfl) (hA51.ev rfl) ?_)
   intro a52 hA53
   refine qs hA53 rfl (dbn (wn rfl) (hA53.ev rfl) (hA53.ev rfl) (b_add _ _ ((l.countP opB - (l.drop j9).countP opB : Nat) : Int) 1 _ (by omega) (by omega)) ?_)
   intro a54 hA55
   refine qs hA55 rfl (das (wn rfl) (hA55.ev rfl) ?_)
   intro a56 hA57
   refine qe_ ?_
   refine i_norm ?_
   refine tn_ ?_
   refine wp_region_lit ?_
   refine qs hA57 rfl (dmv (wn rfl) (hA57.ev rfl) ?_)
   intro a58 hA59
   refine qs hA59 rfl (dbn (wn rfl) (hA59.ev rfl) (hA59.ev rfl) (b_add _ _ ((j9 : Nat) : Int) 1 _ (by omega) (by omega)) ?_)
   intro a60 hA61
   refine qs hA61 rfl (das (wn rfl) (hA61.ev rfl) ?_)
   intro a62 hA63
   refine qe_ ?_
   refine tn_ ?_
   exact ⟨l.length - (j9 + 1), (by rw [hm15]; omega), j9 + 1, rfl, (by omega), hA63.cut _ (fc (hA63.get 0 _ rfl) (fc ((hA63.get 3 _ rfl).trans (congrArg (Value.int .i64) (by have h1 := count_at opB hy32; have h2 := countP_drop_le opB l j9; simp [hb48] at h1; omega))) (fc ((hA63.get 4 _ rfl).trans (congrArg (Value.int .i64) (by omega))) fn_))), b47⟩
  refine ⟨.bool false, he44.trans (ret_bool hb48), ?_⟩
  intro a65 hA66
  refine qe_ ?_
  refine tn_ ?_
  refine c_false hA66 rfl ?_
  refine wp_skip ?_
  refine i_norm ?_
  refine tn_ ?_
  refine wp_region_lit ?_
  refine qs hA66 rfl (dmv (wn rfl) (hA66.ev rfl) ?_)
  intro a67 hA68
  refine qs hA68 rfl (dbn (wn rfl) (hA68.ev rfl) (hA68.ev rfl) (b_add _ _ ((j9 : Nat) : Int) 1 _ (by omega) (by omega)) ?_)
  intro a69 hA70
  refine qs hA70 rfl (das (wn rfl) (hA70.ev rfl) ?_)
  intro a71 hA72
  refine qe_ ?_
  refine tn_ ?_
  exact ⟨l.length - (j9 + 1), (by rw [hm15]; omega), j9 + 1, rfl, (by omega), hA72.cut _ (fc (hA72.get 0 _ rfl) (fc ((hA72.get 3 _ rfl).trans (congrArg (Value.int .i64) (by have h1 := count_at opB hy32; have h2 := countP_drop_le opB l j9; simp [hb48] at h1; omega))) (fc ((hA72.get 4 _ rfl).trans (congrArg (Value.int .i64) (by omega))) fn_))), b47⟩
 have hq73 := of_decide_eq_false hb23
 refine qs hA22 rfl (dbn (wn rfl) (hA22.ev rfl) (hA22.ev rfl) (b_lt _ _ ((j9 : Nat) : Int) ((l.length : Nat) : Int) false _ hb23) ?_)
 intro a74 hA75
 refine qe_ ?_
 refine tn_ ?_
 refine c_false hA75 rfl ?_
 refine wp_exit ?_
 refine t_exit ?_
 refine t_exit ?_
 refine i_here ?_
 refine tn_ ?_
 refine wp_seq ?_
 refine wp_region_lit ?_
 refine qs hA75 rfl (dmv (wn rfl) (hA75.ev rfl) ?_)
 intro a76 hA77
 refine qs hA77 rfl (das (wn rfl) (hA77.ev rfl) ?_)
 intro a78 hA79
 refine qe_ ?_
 refine tn_ ?_
 refine wp_ret ?_
 refine ret1 rfl hA79 (v := (.int .i64 ((l.countP opB - (l.drop j9).countP opB : Nat) : Int))) rfl ?_
 exact ⟨ret_int (by have := drop_end (l := l) (j := j9) (by omega); simp [this, opsN, brN]), b14⟩
set_option maxHeartbeats 4000000 in
set_option maxRecDepth 4000 in
theorem rbranches_any (l : List Ins) (v : Value) (w : World) (hs : Sl insE 17 w.heap.size w v l) (hl : l.length ≤ 1000000) : Calls Try.prog 25 #[v] w fun e w' => e = .returned (.int .i64 (brN l : Nat)) ∧ Grow w w' := by
 have b0 : Below w.heap.size w w := Below.refl _ _
 refine enter (n := 20) Try.func25 rfl rfl (Nat.le_of_ble_eq_true rfl) ?_
 intro a1 hA2
 refine wp_seq ?_
 refine wp_region_lit ?_
 refine qs hA2 rfl (das (wn rfl) (hA2.ev rfl) ?_)
 intro a3 hA4
 refine qe_ ?_
 refine tn_ ?_
 refine wp_seq ?_
 refine wp_region_lit ?_
 refine qs hA4 rfl (das (wn rfl) (hA4.ev rfl) ?_)
 intro a5 hA6
 refine qe_ ?_
 refine tn_ ?_
 refine wp_seq ?_
 refine wp_seq ?_
 refine wp_region_lit ?_
 refine qs hA6 rfl (das (wn rfl) (hA6.ev rfl) ?_)
 intro a7 hA8
 refine qe_ ?_
 refine tn_ ?_
 refine wp_block ?_
 refine loop_by (fun m10 a11 w12 => ∃ j9 : Nat, m10 = l.length - j9 ∧ (j9 ≤ l.length) ∧ St 20 [(0, v), (3, (.int .i64 ((l.countP (fun i : Ins => i.op == 9) - (l.drop j9).countP (fun i : Ins => i.op == 9) : Nat) : Int))), (4, (.int .i64 ((j9 : Nat) : Int)))] a11 ∧ Below w.heap.size w w12) (l.length - 0) ⟨0, rfl, (by omega), hA8.cut _ (fc (hA8.get 0 _ rfl) (fc ((hA8.get 3 _ rfl).trans (congrArg (Value.int .i64) (by simp))) (fc ((hA8.get 4 _ rfl).trans (congrArg (Value.int .i64) (by simp))) fn_))), b0⟩ ?_
 rintro m10 a11 w12 ⟨j9, hm15, hc16, hA13, b14⟩
 have hk1 := cnt_le (fun i : Ins => i.op == 9) l j9
 have hk2 := countP_drop_le (fun i : Ins => i.op == 9) l j9
 have hk3 := List.countP_le_length (p := (fun i : Ins => i.op == 9)) (l := l)
 refine wp_seq ?_
 refine wp_seq ?_
 refine wp_region_lit ?_
 refine qs hA13 rfl (dmv (wn rfl) (hA13.ev rfl) ?_)
 intro a17 hA18
 refine qs hA18 rfl (dmv (wn rfl) (hA18.ev rfl) ?_)
 intro a19 hA20
 refine qs hA20 rfl (dle (n := l.length) (wn rfl) (hA20.ev rfl) slc35 hs.form ?_)
 intro a21 hA22
 rcases Bool.eq_false_or_eq_true (decide (((j9 : Nat) : Int) < ((l.length : Nat) : Int))) with hb23 | hb23
 ·skip
  have hq24 := of_decide_eq_true hb23
  refine qs hA22 rfl (dbn (wn rfl) (hA22.ev rfl) (hA22.ev rfl) (b_lt _ _ ((j9 : Nat) : Int) ((l.length : Nat) : Int) true _ hb23) ?_)
  intro a25 hA26
  refine qe_ ?_
  refine tn_ ?_
  refine c_true hA26 rfl ?_
  refine wp_skip ?_
  refine tn_ ?_
  refine wp_seq ?_
  refine wp_block ?_
  refine wp_seq ?_
  refine wp_region_lit ?_
  refine qs hA26 rfl (dmv (wn rfl) (hA26.ev rfl) ?_)
  intro a27 hA28
  refine qs hA28 rfl (dmv (wn rfl) (hA28.ev rfl) ?_)
  intro a29 hA30
  obtain ⟨y31, hy32⟩ : ∃ y31, l[j9]? = some y31 := ⟨_, List.getElem?_eq_getElem (show j9 < l.length by omega)⟩
  obtain ⟨b33, o34, lt35, hr36, hix37⟩ := (hs.below b14).at hy32
  refine qs hA30 rfl (dia (j := j9) (wn rfl) (hA30.ev rfl) (hA30.ev rfl) slc35 hix37 (get_lt hy32) ?_)
  intro a38 hA39
  refine qs hA39 rfl (dfa (wn rfl) (hA39.ev rfl) fo23_0 ?_)
  intro a40 hA41
  refine qs hA41 rfl (dld (v := (.int .i64 y31.op)) (wn rfl) (hA41.ev rfl) one3 (hr36 0 _ rfl) ?_)
  intro a42 hA43
  rcases Bool.eq_false_or_eq_true (y31.op == 9) with hb44 | hb44
  ·skip
   have hq45 := eq_of_beq hb44
   refine qs hA43 rfl (dbn (wn rfl) (hA43.ev rfl) (hA43.ev rfl) (b_eq _ _ y31.op 9 true _ hb44) ?_)
   intro a46 hA47
   refine qe_ ?_
   refine tn_ ?_
   refine c_true hA47 rfl ?_
   refine wp_region_lit ?_
   refine qs hA47 rfl (dmv (wn rfl) (hA47.ev rfl) ?_)
   intro a48 hA49
   refine qs hA49 rfl (dbn (wn rfl) (hA49.ev rfl) (hA49.ev rfl) (b_add _ _ ((l.countP (fun i : Ins => i.op == 9) - (l.drop j9).countP (fun i : Ins => i.op == 9) : Nat) : Int) 1 _ (by omega) (by omega)) ?_)
   intro a50 hA51
   refine qs hA51 rfl (das (wn rfl) (hA51.ev rfl) ?_)
   intro a52 hA53
   refine qe_ ?_
   refine i_norm ?_
   refine tn_ ?_
   refine wp_region_lit ?_
   refine qs hA53 rfl (dmv (wn rfl) (hA53.ev rfl) ?_)
   intro a54 hA55
   refine qs hA55 rfl (dbn (wn rfl) (hA55.ev rfl) (hA55.ev rfl) (b_add _ _ ((j9 : Nat) : Int) 1 _ (by omega) (by omega)) ?_)
   intro a56 hA57
   refine qs hA57 rfl (das (wn rfl) (hA57.ev rfl) ?_)
   intro a58 hA59
   refine qe_ ?_
   refine tn_ ?_
   exact ⟨l.length - (j9 + 1), (by rw [hm15]; omega), j9 + 1, rfl, (by omega), hA59.cut _ (fc (hA59.get 0 _ rfl) (fc ((hA59.get 3 _ rfl).trans (congrArg (Value.int .i64) (by have h1 := count_at (fun i : Ins => i.op == 9) hy32; have h2 := countP_drop_le (fun i : Ins => i.op == 9) l j9; simp [hb44] at h1; omega))) (fc ((hA59.get 4 _ rfl).trans (congrArg (Value.int .i64) (by omega))) fn_))), b14⟩
  have hq60 := ne_of_beq hb44
  refine qs hA43 rfl (dbn (wn rfl) (hA43.ev rfl) (hA43.ev rfl) (b_eq _ _ y31.op 9 false _ hb44) ?_)
  intro a61 hA62
  refine qe_ ?_
  refine tn_ ?_
  refine c_false hA62 rfl ?_
  refine wp_skip ?_
  refine i_norm ?_
  refine tn_ ?_
  refine wp_region_lit ?_
  refine qs hA62 rfl (dmv (wn rfl) (hA62.ev rfl) ?_)
  intro a63 hA64
  refine qs hA64 rfl (dbn (wn rfl) (hA64.ev rfl) (hA64.ev rfl) (b_add _ _ ((j9 : Nat) : Int) 1 _ (by omega) (by omega)) ?_)
  intro a65 hA66
  refine qs hA66 rfl (das (wn rfl) (hA66.ev rfl) ?_)
  intro a67 hA68
  refine qe_ ?_
  refine tn_ ?_
  exact ⟨l.length - (j9 + 1), (by rw [hm15]; omega), j9 + 1, rfl, (by omega), hA68.cut _ (fc (hA68.get 0 _ rfl) (fc ((hA68.get 3 _ rfl).trans (congrArg (Value.int .i64) (by have h1 := count_at (fun i : Ins => i.op == 9) hy32; have h2 := countP_drop_le (fun i : Ins => i.op == 9) l j9; simp [hb44] at h1; omega))) (fc ((hA68.get 4 _ rfl).trans (congrArg (Value.int .i64) (by omega))) fn_))), b14⟩
 have hq69 := of_decide_eq_false hb23
 refine qs hA22 rfl (dbn (wn rfl) (hA22.ev rfl) (hA22.ev rfl) (b_lt _ _ ((j9 : Nat) : Int) ((l.length : Nat) : Int) false _ hb23) ?_)
 intro a70 hA71
 refine qe_ ?_
 refine tn_ ?_
 refine c_false hA71 rfl ?_
 refine wp_exit ?_
 refine t_exit ?_
 refine t_exit ?_
 refine i_here ?_
 refine tn_ ?_
 refine wp_seq ?_
 refine wp_region_lit ?_
 refine qs hA71 rfl (dmv (wn rfl) (hA71.ev rfl) ?_)
 intro a72 hA73
 refine qs hA73 rfl (das (wn rfl) (hA73.ev rfl) ?_)
 intro a74 hA75
 refine qe_ ?_
 refine tn_ ?_
 refine wp_ret ?_
 refine ret1 rfl hA75 (v := (.int .i64 ((l.countP (fun i : Ins => i.op == 9) - (l.drop j9).countP (fun i : Ins => i.op == 9) : Nat) : Int))) rfl ?_
 exact ⟨ret_int (by have := drop_end (l := l) (j := j9) (by omega); simp [this, opsN, brN]), b14⟩
end Go.Proofs.Ytlhompedcphnnaa
/- What all codes together may have only so many of. -/
namespace Go.Proofs.Ytlhompedcphnnaa
open Go.RowKit
set_option linter.unusedSimpArgs false
set_option linter.unusedVariables false
set_option maxHeartbeats 4000000 in
set_option maxRecDepth 4000 in
theorem checkCounts_any (cs : List (List Ins)) (v : Value) (w : World) (hCs : Cs w.heap.size w v cs) (hn : cs.length ≤ 10000) (ht : totN cs ≤ 1000000) : Calls Try.prog 33 #[v] w fun e w' => e = .returned (.int .i64 (cntsR cs)) ∧ Grow w w' := by
 obtain ⟨us, hus, hul, hin⟩ := id hCs
 have b0 : Below w.heap.size w w := Below.refl _ _
 refine enter (n := 26) Try.func33 rfl rfl (Nat.le_of_ble_eq_true rfl) ?_
 intro a1 hA2
 refine wp_seq ?_
 refine wp_region_lit ?_
 refine qs hA2 rfl (das (wn rfl) (hA2.ev rfl) ?_)
 intro a3 hA4
 refine qe_ ?_
 refine tn_ ?_
 refine wp_seq ?_
 refine wp_region_lit ?_
 refine qs hA4 rfl (das (wn rfl) (hA4.ev rfl) ?_)
 intro a5 hA6
 refine qs hA6 rfl (das (wn rfl) (hA6.ev rfl) ?_)
 intro a7 hA8
 refine qe_ ?_
 refine tn_ ?_
 refine wp_seq ?_
 refine wp_seq ?_
 refine wp_region_lit ?_
 refine qs hA8 rfl (dmv (wn rfl) (hA8.ev rfl) ?_)
 intro a9 hA10
 refine qs hA10 rfl (dle (n := us.length) (wn rfl) (hA10.ev rfl) slc34 hus.form ?_)
 intro a11 hA12
 refine qs hA12 rfl (dmv (wn rfl) (hA12.ev rfl) ?_)
 intro a13 hA14
 refine qe_ ?_
 refine tn_ ?_
 refine wp_block ?_
 refine loop_by (fun m16 a17 w18 => ∃ j15 : Nat, m16 = cs.length - j15 ∧ (j15 ≤ cs.length) ∧ St 26 [(3, (.int .i64 (((cs.map opsN).sum - ((cs.drop j15).map opsN).sum : Nat) : Int))), (4, (.int .i64 (((cs.map brN).sum - ((cs.drop j15).map brN).sum : Nat) : Int))), (7, v), (8, (.int .i64 ((us.length : Nat) : Int))), (9, (.int .i64 ((j15 : Nat) : Int)))] a17 ∧ Below w.heap.size w w18) (cs.length - 0) ⟨0, rfl, (by omega), hA14.cut _ (fc ((hA14.get 3 _ rfl).trans (congrArg (Value.int .i64) (by simp))) (fc ((hA14.get 4 _ rfl).trans (congrArg (Value.int .i64) (by simp))) (fc (hA14.get 7 _ rfl) (fc (hA14.get 8 _ rfl) (fc ((hA14.get 9 _ rfl).trans (congrArg (Value.int .i64) (by simp))) fn_))))), b0⟩ ?_
 rintro m16 a17 w18 ⟨j15, hm21, hc22, hA19, b20⟩
 have hkopsN := drop_sum_le opsN cs j15
 have hmopsN := sum_le opsN ops_le cs
 have hkbrN := drop_sum_le brN cs j15
 have hmbrN := sum_le brN br_le cs
 refine wp_seq ?_
 refine wp_region_lit ?_
 rcases Bool.eq_false_or_eq_true (decide (((j15 : Nat) : Int) < ((us.length : Nat) : Int))) with hb23 | hb23
 ·skip
  have hq24 := of_decide_eq_true hb23
  refine qs hA19 rfl (dbn (wn rfl) (hA19.ev rfl) (hA19.ev rfl) (b_lt _ _ ((j15 : Nat) : Int) ((us.length : Nat) : Int) true _ hb23) ?_)
  intro a25 hA26
  refine qe_ ?_
  refine tn_ ?_
  refine wp_seq ?_
  refine c_true hA26 rfl ?_
  refine wp_skip ?_
  refine tn_ ?_
  refine wp_seq ?_
  refine wp_block ?_
  refine wp_seq ?_
  refine wp_region_lit ?_
  obtain ⟨y27, hy28⟩ : ∃ y27, us[j15]? = some y27 := ⟨_, List.getElem?_eq_getElem (show j15 < us.length by omega)⟩
  obtain ⟨b29, o30, lt31, hr32, hix33⟩ := (hus.below b20).at hy28
  obtain ⟨c34, hc35⟩ : ∃ c, cs[j15]? = some c := ⟨_, List.getElem?_eq_getElem (show j15 < cs.length by have := get_lt hy28; omega)⟩
  have hsl36 := hin j15 y27 c34 hy28 hc35
  have hlc34 := len_le hc35
  have hoc34 := ops_le c34
  have hbc34 := br_le c34
  refine qs hA26 rfl (dia (j := j15) (wn rfl) (hA26.ev rfl) (hA26.ev rfl) slc34 hix33 (get_lt hy28) ?_)
  intro a37 hA38
  refine qs hA38 rfl (dld (v := y27) (wn rfl) (hA38.ev rfl) one35 (hr32 0 _ rfl) ?_)
  intro a39 hA40
  refine qs hA40 rfl (das (wn rfl) (hA40.ev rfl) ?_)
  intro a41 hA42
  refine qe_ ?_
  refine tn_ ?_
  refine wp_seq ?_
  refine wp_region_lit ?_
  refine qs hA42 rfl (dmv (wn rfl) (hA42.ev rfl) ?_)
  intro a43 hA44
  refine qs hA44 rfl (dmv (wn rfl) (hA44.ev rfl) ?_)
  intro a45 hA46
  refine qs hA46 rfl (dcl (wn rfl) ent22 (map1 (hA46.ev rfl)) (ops_any c34 y27 w18 ((hsl36.below b20).mono b20.size) (by omega)) ?_)
  rintro e50 w47 ⟨he49, hG48⟩
  have hr51 := range_below hr32 hG48 (Nat.lt_of_lt_of_le lt31 b20.size)
  have b52 := blg b20 hG48 b20.size
  refine ⟨(.int .i64 ((opsN c34 : Nat) : Int)), he49, ?_⟩
  intro a53 hA54
  refine qs hA54 rfl (dbn (wn rfl) (hA54.ev rfl) (hA54.ev rfl) (b_add _ _ (((cs.map opsN).sum - ((cs.drop j15).map opsN).sum : Nat) : Int) ((opsN c34 : Nat) : Int) _ (by omega) (by omega)) ?_)
  intro a55 hA56
  refine qs hA56 rfl (das (wn rfl) (hA56.ev rfl) ?_)
  intro a57 hA58
  refine qe_ ?_
  refine tn_ ?_
  refine wp_region_lit ?_
  refine qs hA58 rfl (dmv (wn rfl) (hA58.ev rfl) ?_)
  intro a59 hA60
  refine qs hA60 rfl (dmv (wn rfl) (hA60.ev rfl) ?_)
  intro a61 hA62
  refine qs hA62 rfl (dcl (wn rfl) ent24 (map1 (hA62.ev rfl)) (branches_any c34 y27 w47 ((hsl36.below b52).mono b52.size) (by omega)) ?_)
  rintro e66 w63 ⟨he65, hG64⟩
  have hr67 := range_below hr51 hG64 (Nat.lt_of_lt_of_le lt31 b52.size)
  have b68 := blg b52 hG64 b52.size
  refine ⟨(.int .i64 ((brN c34 : Nat) : Int)), he65, ?_⟩
  intro a69 hA70
  refine qs hA70 rfl (dbn (wn rfl) (hA70.ev rfl) (hA70.ev rfl) (b_add _ _ (((cs.map brN).sum - ((cs.drop j15).map brN).sum : Nat) : Int) ((brN c34 : Nat) : Int) _ (by omega) (by omega)) ?_)
  intro a71 hA72
  refine qs hA72 rfl (das (wn rfl) (hA72.ev rfl) ?_)
  intro a73 hA74
  refine qe_ ?_
  refine i_norm ?_
  refine tn_ ?_
  refine wp_region_lit ?_
  refine qs hA74 rfl (dbn (wn rfl) (hA74.ev rfl) (hA74.ev rfl) (b_add _ _ ((j15 : Nat) : Int) 1 _ (by omega) (by omega)) ?_)
  intro a75 hA76
  refine qs hA76 rfl (dmv (wn rfl) (hA76.ev rfl) ?_)
  intro a77 hA78
  refine qe_ ?_
  refine tn_ ?_
  exact ⟨cs.length - (j15 + 1), (by rw [hm21]; omega), j15 + 1, rfl, (by omega), hA78.cut _ (fc ((hA78.get 3 _ rfl).trans (congrArg (Value.int .i64) (by have h1 := sum_at opsN hc35; have h2 := drop_sum_le opsN cs j15; omega))) (fc ((hA78.get 4 _ rfl).trans (congrArg (Value.int .i64) (by have h1 := sum_at brN hc35; have h2 := drop_sum_le brN cs j15; omega))) (fc (hA78.get 7 _ rfl) (fc (hA78.get 8 _ rfl) (fc ((hA78.get 9 _ rfl).trans (congrArg (Value.int .i64) (by omega))) fn_))))), b68⟩
 have hq79 := of_decide_eq_false hb23
 refine qs hA19 rfl (dbn (wn rfl) (hA19.ev rfl) (hA19.ev rfl) (b_lt _ _ ((j15 : Nat) : Int) ((us.length : Nat) : Int) false _ hb23) ?_)
 intro a80 hA81
 refine qe_ ?_
 refine tn_ ?_
 refine wp_seq ?_
 refine c_false hA81 rfl ?_
 refine wp_exit ?_
 refine t_exit ?_
 refine t_exit ?_
 refine i_here ?_
 refine tn_ ?_
 refine wp_seq ?_
 refine wp_seq ?_
 refine wp_region_lit ?_
 refine qs hA81 rfl (dmv (wn rfl) (hA81.ev rfl) ?_)
 intro a82 hA83
 rcases Bool.eq_false_or_eq_true (decide ((((cs.map opsN).sum - ((cs.drop j15).map opsN).sum : Nat) : Int) > 6)) with hb84 | hb84
 ·skip
  have hq85 := of_decide_eq_true hb84
  refine qs hA83 rfl (dbn (wn rfl) (hA83.ev rfl) (hA83.ev rfl) (b_gt _ _ (((cs.map opsN).sum - ((cs.drop j15).map opsN).sum : Nat) : Int) 6 true _ hb84) ?_)
  intro a86 hA87
  refine qe_ ?_
  refine tn_ ?_
  refine c_true hA87 rfl ?_
  refine wp_seq ?_
  refine wp_region_lit ?_
  refine qs hA87 rfl (das (wn rfl) (hA87.ev rfl) ?_)
  intro a88 hA89
  refine qe_ ?_
  refine tn_ ?_
  refine wp_ret ?_
  refine t_ret ?_
  refine ret1 rfl hA89 (v := (.int .i64 32)) rfl ?_
  exact ⟨ret_int (by have h0 := drop_end (l := cs) (j := j15) (by omega); have h1 : (cs.map opsN).sum = sumO cs := rfl; have h2 : (cs.map brN).sum = sumB cs := rfl; simp only [h0, List.map_nil, List.sum_nil, Nat.sub_zero, h1, h2] at *; simp [cntsR, hb23, hb84]), b20⟩
 have hq90 := of_decide_eq_false hb84
 refine qs hA83 rfl (dbn (wn rfl) (hA83.ev rfl) (hA83.ev rfl) (b_gt _ _ (((cs.map opsN).sum - ((cs.drop j15).map opsN).sum : Nat) : Int) 6 false _ hb84) ?_)
 intro a91 hA92
 refine qe_ ?_
 refine tn_ ?_
 refine c_false hA92 rfl ?_
 refine wp_skip ?_
 refine tn_ ?_
 refine wp_seq ?_
 refine wp_seq ?_
 refine wp_region_lit ?_
 refine qs hA92 rfl (dmv (wn rfl) (hA92.ev rfl) ?_)
 intro a93 hA94
 rcases Bool.eq_false_or_eq_true (decide ((((cs.map brN).sum - ((cs.drop j15).map brN).sum : Nat) : Int) > 3)) with hb95 | hb95
 ·skip
  have hq96 := of_decide_eq_true hb95
  refine qs hA94 rfl (dbn (wn rfl) (hA94.ev rfl) (hA94.ev rfl) (b_gt _ _ (((cs.map brN).sum - ((cs.drop j15).map brN).sum : Nat) : Int) 3 true _ hb95) ?_)
  intro a97 hA98
  refine qe_ ?_
  refine tn_ ?_
  refine c_true hA98 rfl ?_
  refine wp_seq ?_
  refine wp_region_lit ?_
  refine qs hA98 rfl (das (wn rfl) (hA98.ev rfl) ?_)
  intro a99 hA100
  refine qe_ ?_
  refine tn_ ?_
  refine wp_ret ?_
  refine t_ret ?_
  refine ret1 rfl hA100 (v := (.int .i64 33)) rfl ?_
  exact ⟨ret_int (by have h0 := drop_end (l := cs) (j := j15) (by omega); have h1 : (cs.map opsN).sum = sumO cs := rfl; have h2 : (cs.map brN).sum = sumB cs := rfl; simp only [h0, List.map_nil, List.sum_nil, Nat.sub_zero, h1, h2] at *; simp [cntsR, hb23, hb84, hb95]), b20⟩
 have hq101 := of_decide_eq_false hb95
 refine qs hA94 rfl (dbn (wn rfl) (hA94.ev rfl) (hA94.ev rfl) (b_gt _ _ (((cs.map brN).sum - ((cs.drop j15).map brN).sum : Nat) : Int) 3 false _ hb95) ?_)
 intro a102 hA103
 refine qe_ ?_
 refine tn_ ?_
 refine c_false hA103 rfl ?_
 refine wp_skip ?_
 refine tn_ ?_
 refine wp_seq ?_
 refine wp_region_lit ?_
 refine qs hA103 rfl (das (wn rfl) (hA103.ev rfl) ?_)
 intro a104 hA105
 refine qe_ ?_
 refine tn_ ?_
 refine wp_ret ?_
 refine ret1 rfl hA105 (v := (.int .i64 0)) rfl ?_
 exact ⟨ret_int (by have h0 := drop_end (l := cs) (j := j15) (by omega); have h1 : (cs.map opsN).sum = sumO cs := rfl; have h2 : (cs.map brN).sum = sumB cs := rfl; simp only [h0, List.map_nil, List.sum_nil, Nat.sub_zero, h1, h2] at *; simp [cntsR, hb23, hb84, hb95]), b20⟩
end Go.Proofs.Ytlhompedcphnnaa
/- What Check returns. -/
namespace Go.Proofs.Ytlhompedcphnnaa
open Go.RowKit
set_option linter.unusedSimpArgs false
set_option linter.unusedVariables false
set_option maxHeartbeats 4000000 in
set_option maxRecDepth 4000 in
theorem check_any (cs : List (List Ins)) (v : Value) (w : World) (hCs : Cs w.heap.size w v cs) (hn : cs.length ≤ 10000) (ht : totN cs ≤ 1000000) : Calls Try.prog 20 #[v] w fun e w' => e = .returned (.tuple #[.int .i64 (checkR cs).1, .int .i64 (checkR cs).2.1, .int .i64 (checkR cs).2.2]) ∧ Grow w w' := by
 obtain ⟨us, hus, hul, hin⟩ := id hCs
 have b0 : Below w.heap.size w w := Below.refl _ _
 refine enter (n := 60) Try.func20 rfl rfl (Nat.le_of_ble_eq_true rfl) ?_
 intro a1 hA2
 refine wp_seq ?_
 refine wp_region_lit ?_
 refine qs hA2 rfl (das (wn rfl) (hA2.ev rfl) ?_)
 intro a3 hA4
 refine qs hA4 rfl (das (wn rfl) (hA4.ev rfl) ?_)
 intro a5 hA6
 refine qs hA6 rfl (das (wn rfl) (hA6.ev rfl) ?_)
 intro a7 hA8
 refine qe_ ?_
 refine tn_ ?_
 refine wp_seq ?_
 refine wp_seq ?_
 refine wp_region_lit ?_
 refine qs hA8 rfl (dmv (wn rfl) (hA8.ev rfl) ?_)
 intro a9 hA10
 refine qs hA10 rfl (dle (n := us.length) (wn rfl) (hA10.ev rfl) slc34 hus.form ?_)
 intro a11 hA12
 rcases Bool.eq_false_or_eq_true (decide (((us.length : Nat) : Int) < 1)) with hb13 | hb13
 ·skip
  have hq14 := of_decide_eq_true hb13
  refine qs hA12 rfl (dbn (wn rfl) (hA12.ev rfl) (hA12.ev rfl) (b_lt _ _ ((us.length : Nat) : Int) 1 true _ hb13) ?_)
  intro a15 hA16
  refine qs hA16 rfl (dmv (wn rfl) (hA16.ev rfl) ?_)
  intro a17 hA18
  refine qs hA18 rfl (dno (wno rfl rfl (.inl (hA18.get 15 _ rfl))) ?_)
  intro a19 hA20
  refine qs hA20 rfl (dno (wno rfl rfl (.inl (hA20.get 15 _ rfl))) ?_)
  intro a21 hA22
  refine qs hA22 rfl (dno (wno rfl rfl (.inl (hA22.get 15 _ rfl))) ?_)
  intro a23 hA24
  refine qs hA24 rfl (dpt (wn rfl) (hA24.ev rfl) (hA24.ev rfl) ?_)
  intro a25 hA26
  refine qe_ ?_
  refine tn_ ?_
  refine c_true hA26 rfl ?_
  refine wp_seq ?_
  refine wp_region_lit ?_
  refine qs hA26 rfl (das (wn rfl) (hA26.ev rfl) ?_)
  intro a27 hA28
  refine qs hA28 rfl (das (wn rfl) (hA28.ev rfl) ?_)
  intro a29 hA30
  refine qs hA30 rfl (das (wn rfl) (hA30.ev rfl) ?_)
  intro a31 hA32
  refine qe_ ?_
  refine tn_ ?_
  refine wp_ret ?_
  refine t_ret ?_
  refine ret3 (x := (.int .i64 0)) (y := (.int .i64 0)) (z := (.int .i64 30)) rfl hA32 rfl rfl rfl ?_
  have hr := check_threads (cs := cs) (by omega)
  exact ⟨ret_three (by rw [hr]) (by rw [hr]) (by rw [hr]), b0⟩
 have hq33 := of_decide_eq_false hb13
 refine qs hA12 rfl (dbn (wn rfl) (hA12.ev rfl) (hA12.ev rfl) (b_lt _ _ ((us.length : Nat) : Int) 1 false _ hb13) ?_)
 intro a34 hA35
 refine qs hA35 rfl (dmv (wn rfl) (hA35.ev rfl) ?_)
 intro a36 hA37
 refine qs hA37 rfl (dmv (wy rfl rfl (hA37.get 15 _ rfl)) (hA37.ev rfl) ?_)
 intro a38 hA39
 refine qs hA39 rfl (dle (n := us.length) (wy rfl rfl (hA39.get 15 _ rfl)) (hA39.ev rfl) slc34 hus.form ?_)
 intro a40 hA41
 rcases Bool.eq_false_or_eq_true (decide (((us.length : Nat) : Int) > 3)) with hb42 | hb42
 ·skip
  have hq43 := of_decide_eq_true hb42
  refine qs hA41 rfl (dbn (wy rfl rfl (hA41.get 15 _ rfl)) (hA41.ev rfl) (hA41.ev rfl) (b_gt _ _ ((us.length : Nat) : Int) 3 true _ hb42) ?_)
  intro a44 hA45
  refine qs hA45 rfl (dpf (wn rfl) (hA45.ev rfl) (hA45.ev rfl) ?_)
  intro a46 hA47
  refine qe_ ?_
  refine tn_ ?_
  refine c_true hA47 rfl ?_
  refine wp_seq ?_
  refine wp_region_lit ?_
  refine qs hA47 rfl (das (wn rfl) (hA47.ev rfl) ?_)
  intro a48 hA49
  refine qs hA49 rfl (das (wn rfl) (hA49.ev rfl) ?_)
  intro a50 hA51
  refine qs hA51 rfl (das (wn rfl) (hA51.ev rfl) ?_)
  intro a52 hA53
  refine qe_ ?_
  refine tn_ ?_
  refine wp_ret ?_
  refine t_ret ?_
  refine ret3 (x := (.int .i64 0)) (y := (.int .i64 0)) (z := (.int .i64 30)) rfl hA53 rfl rfl rfl ?_
  have hr := check_threads (cs := cs) (by omega)
  exact ⟨ret_three (by rw [hr]) (by rw [hr]) (by rw [hr]), b0⟩
 have hq54 := of_decide_eq_false hb42
 refine qs hA41 rfl (dbn (wy rfl rfl (hA41.get 15 _ rfl)) (hA41.ev rfl) (hA41.ev rfl) (b_gt _ _ ((us.length : Nat) : Int) 3 false _ hb42) ?_)
 intro a55 hA56
 refine qs hA56 rfl (dpf (wn rfl) (hA56.ev rfl) (hA56.ev rfl) ?_)
 intro a57 hA58
 refine qe_ ?_
 refine tn_ ?_
 refine c_false hA58 rfl ?_
 refine wp_skip ?_
 refine tn_ ?_
 refine wp_seq ?_
 refine wp_seq ?_
 refine wp_region_lit ?_
 refine qs hA58 rfl (dmv (wn rfl) (hA58.ev rfl) ?_)
 intro a59 hA60
 refine qs hA60 rfl (dle (n := us.length) (wn rfl) (hA60.ev rfl) slc34 hus.form ?_)
 intro a61 hA62
 refine qs hA62 rfl (dmv (wn rfl) (hA62.ev rfl) ?_)
 intro a63 hA64
 refine qe_ ?_
 refine tn_ ?_
 refine wp_block ?_
 refine loop_by (fun m66 a67 w68 => ∃ j65 : Nat, m66 = cs.length - j65 ∧ (j65 ≤ cs.length ∧ longR cs 0 = longR (cs.drop j65) j65) ∧ St 60 [(0, v), (20, v), (21, (.int .i64 ((us.length : Nat) : Int))), (22, (.int .i64 ((j65 : Nat) : Int)))] a67 ∧ Below w.heap.size w w68) (cs.length - 0) ⟨0, rfl, ⟨by omega, rfl⟩, hA64.cut _ (fc (hA64.get 0 _ rfl) (fc (hA64.get 20 _ rfl) (fc (hA64.get 21 _ rfl) (fc ((hA64.get 22 _ rfl).trans (congrArg (Value.int .i64) (by omega))) fn_)))), b0⟩ ?_
 rintro m66 a67 w68 ⟨j65, hm71, hc72, hA69, b70⟩
 refine wp_seq ?_
 refine wp_region_lit ?_
 rcases Bool.eq_false_or_eq_true (decide (((j65 : Nat) : Int) < ((us.length : Nat) : Int))) with hb73 | hb73
 ·skip
  have hq74 := of_decide_eq_true hb73
  refine qs hA69 rfl (dbn (wn rfl) (hA69.ev rfl) (hA69.ev rfl) (b_lt _ _ ((j65 : Nat) : Int) ((us.length : Nat) : Int) true _ hb73) ?_)
  intro a75 hA76
  refine qe_ ?_
  refine tn_ ?_
  refine wp_seq ?_
  refine c_true hA76 rfl ?_
  refine wp_skip ?_
  refine tn_ ?_
  refine wp_seq ?_
  refine wp_block ?_
  refine wp_seq ?_
  refine wp_region_lit ?_
  refine qs hA76 rfl (dmv (wn rfl) (hA76.ev rfl) ?_)
  intro a77 hA78
  obtain ⟨y79, hy80⟩ : ∃ y79, us[j65]? = some y79 := ⟨_, List.getElem?_eq_getElem (show j65 < us.length by omega)⟩
  obtain ⟨b81, o82, lt83, hr84, hix85⟩ := (hus.below b70).at hy80
  obtain ⟨c86, hc87⟩ : ∃ c, cs[j65]? = some c := ⟨_, List.getElem?_eq_getElem (show j65 < cs.length by have := get_lt hy80; omega)⟩
  have hsl88 := hin j65 y79 c86 hy80 hc87
  have hlc86 := len_le hc87
  have hoc86 := ops_le c86
  have hbc86 := br_le c86
  refine qs hA78 rfl (dia (j := j65) (wn rfl) (hA78.ev rfl) (hA78.ev rfl) slc34 hix85 (get_lt hy80) ?_)
  intro a89 hA90
  refine qs hA90 rfl (dld (v := y79) (wn rfl) (hA90.ev rfl) one35 (hr84 0 _ rfl) ?_)
  intro a91 hA92
  refine qs hA92 rfl (das (wn rfl) (hA92.ev rfl) ?_)
  intro a93 hA94
  refine qs hA94 rfl (das (wn rfl) (hA94.ev rfl) ?_)
  intro a95 hA96
  refine qe_ ?_
  refine tn_ ?_
  refine wp_seq ?_
  refine wp_region_lit ?_
  refine qs hA96 rfl (dmv (wn rfl) (hA96.ev rfl) ?_)
  intro a97 hA98
  refine qs hA98 rfl (dle (n := c86.length) (wn rfl) (hA98.ev rfl) slc35 hsl88.form ?_)
  intro a99 hA100
  rcases Bool.eq_false_or_eq_true (decide (((c86.length : Nat) : Int) > 8)) with hb101 | hb101
  ·skip
   have hq102 := of_decide_eq_true hb101
   refine qs hA100 rfl (dbn (wn rfl) (hA100.ev rfl) (hA100.ev rfl) (b_gt _ _ ((c86.length : Nat) : Int) 8 true _ hb101) ?_)
   intro a103 hA104
   refine qe_ ?_
   refine tn_ ?_
   refine c_true hA104 rfl ?_
   refine wp_seq ?_
   refine wp_region_lit ?_
   refine qs hA104 rfl (dmv (wn rfl) (hA104.ev rfl) ?_)
   intro a105 hA106
   refine qs hA106 rfl (das (wn rfl) (hA106.ev rfl) ?_)
   intro a107 hA108
   refine qs hA108 rfl (das (wn rfl) (hA108.ev rfl) ?_)
   intro a109 hA110
   refine qs hA110 rfl (das (wn rfl) (hA110.ev rfl) ?_)
   intro a111 hA112
   refine qe_ ?_
   refine tn_ ?_
   refine wp_ret ?_
   refine i_ret ?_
   refine t_ret ?_
   refine t_ret ?_
   refine i_ret ?_
   refine t_ret ?_
   refine ret3 (x := (.int .i64 ((j65 : Nat) : Int))) (y := (.int .i64 0)) (z := (.int .i64 31)) rfl hA112 rfl rfl rfl ?_
   have hr := check_long (cs := cs) (by omega) (by omega) (hc72.2.trans (long_yes hc87 hb101))
   exact ⟨ret_three (by rw [hr]) (by rw [hr]) (by rw [hr]), b70⟩
  have hq113 := of_decide_eq_false hb101
  refine qs hA100 rfl (dbn (wn rfl) (hA100.ev rfl) (hA100.ev rfl) (b_gt _ _ ((c86.length : Nat) : Int) 8 false _ hb101) ?_)
  intro a114 hA115
  refine qe_ ?_
  refine tn_ ?_
  refine c_false hA115 rfl ?_
  refine wp_skip ?_
  refine i_norm ?_
  refine tn_ ?_
  refine wp_region_lit ?_
  refine qs hA115 rfl (dbn (wn rfl) (hA115.ev rfl) (hA115.ev rfl) (b_add _ _ ((j65 : Nat) : Int) 1 _ (by omega) (by omega)) ?_)
  intro a116 hA117
  refine qs hA117 rfl (dmv (wn rfl) (hA117.ev rfl) ?_)
  intro a118 hA119
  refine qe_ ?_
  refine tn_ ?_
  exact ⟨cs.length - (j65 + 1), (by rw [hm71]; omega), j65 + 1, rfl, ⟨by have := get_lt hc87; omega, hc72.2.trans (long_at hc87 hb101)⟩, hA119.cut _ (fc (hA119.get 0 _ rfl) (fc (hA119.get 20 _ rfl) (fc (hA119.get 21 _ rfl) (fc ((hA119.get 22 _ rfl).trans (congrArg (Value.int .i64) (by omega))) fn_)))), b70⟩
 have hq120 := of_decide_eq_false hb73
 refine qs hA69 rfl (dbn (wn rfl) (hA69.ev rfl) (hA69.ev rfl) (b_lt _ _ ((j65 : Nat) : Int) ((us.length : Nat) : Int) false _ hb73) ?_)
 intro a121 hA122
 refine qe_ ?_
 refine tn_ ?_
 refine wp_seq ?_
 refine c_false hA122 rfl ?_
 refine wp_exit ?_
 refine t_exit ?_
 refine t_exit ?_
 refine i_here ?_
 refine tn_ ?_
 refine wp_seq ?_
 refine wp_seq ?_
 refine wp_region_lit ?_
 refine qs hA122 rfl (dmv (wn rfl) (hA122.ev rfl) ?_)
 intro a123 hA124
 refine qs hA124 rfl (dle (n := us.length) (wn rfl) (hA124.ev rfl) slc34 hus.form ?_)
 intro a125 hA126
 refine qs hA126 rfl (dmv (wn rfl) (hA126.ev rfl) ?_)
 intro a127 hA128
 refine qe_ ?_
 refine tn_ ?_
 refine wp_block ?_
 have hlong : longR cs 0 = none := hc72.2.trans (by rw [drop_end (by omega)]; rfl)
 refine loop_by (fun m130 a131 w132 => ∃ j129 : Nat, m130 = cs.length - j129 ∧ (j129 ≤ cs.length ∧ bad2 cs 0 = bad2 (cs.drop j129) j129) ∧ St 60 [(0, v), (32, v), (33, (.int .i64 ((us.length : Nat) : Int))), (34, (.int .i64 ((j129 : Nat) : Int)))] a131 ∧ Below w.heap.size w w132) (cs.length - 0) ⟨0, rfl, ⟨by omega, rfl⟩, hA128.cut _ (fc (hA128.get 0 _ rfl) (fc (hA128.get 32 _ rfl) (fc (hA128.get 33 _ rfl) (fc ((hA128.get 34 _ rfl).trans (congrArg (Value.int .i64) (by simp))) fn_)))), b70⟩ ?_
 rintro m130 a131 w132 ⟨j129, hm135, hc136, hA133, b134⟩
 have hkopsN := drop_sum_le opsN cs j129
 have hmopsN := sum_le opsN ops_le cs
 have hkbrN := drop_sum_le brN cs j129
 have hmbrN := sum_le brN br_le cs
 refine wp_seq ?_
 refine wp_region_lit ?_
 rcases Bool.eq_false_or_eq_true (decide (((j129 : Nat) : Int) < ((us.length : Nat) : Int))) with hb137 | hb137
 ·skip
  have hq138 := of_decide_eq_true hb137
  refine qs hA133 rfl (dbn (wn rfl) (hA133.ev rfl) (hA133.ev rfl) (b_lt _ _ ((j129 : Nat) : Int) ((us.length : Nat) : Int) true _ hb137) ?_)
  intro a139 hA140
  refine qe_ ?_
  refine tn_ ?_
  refine wp_seq ?_
  refine c_true hA140 rfl ?_
  refine wp_skip ?_
  refine tn_ ?_
  refine wp_seq ?_
  refine wp_block ?_
  refine wp_seq ?_
  refine wp_region_lit ?_
  refine qs hA140 rfl (dmv (wn rfl) (hA140.ev rfl) ?_)
  intro a141 hA142
  obtain ⟨y143, hy144⟩ : ∃ y143, us[j129]? = some y143 := ⟨_, List.getElem?_eq_getElem (show j129 < us.length by omega)⟩
  obtain ⟨b145, o146, lt147, hr148, hix149⟩ := (hus.below b134).at hy144
  obtain ⟨c150, hc151⟩ : ∃ c, cs[j129]? = some c := ⟨_, List.getElem?_eq_getElem (show j129 < cs.length by have := get_lt hy144; omega)⟩
  have hsl152 := hin j129 y143 c150 hy144 hc151
  have hlc150 := len_le hc151
  have hoc150 := ops_le c150
  have hbc150 := br_le c150
  refine qs hA142 rfl (dia (j := j129) (wn rfl) (hA142.ev rfl) (hA142.ev rfl) slc34 hix149 (get_lt hy144) ?_)
  intro a153 hA154
  refine qs hA154 rfl (dld (v := y143) (wn rfl) (hA154.ev rfl) one35 (hr148 0 _ rfl) ?_)
  intro a155 hA156
  refine qs hA156 rfl (das (wn rfl) (hA156.ev rfl) ?_)
  intro a157 hA158
  refine qs hA158 rfl (das (wn rfl) (hA158.ev rfl) ?_)
  intro a159 hA160
  refine qe_ ?_
  refine tn_ ?_
  refine wp_seq ?_
  refine wp_region_lit ?_
  refine qs hA160 rfl (dmv (wn rfl) (hA160.ev rfl) ?_)
  intro a161 hA162
  refine qs hA162 rfl (dle (n := c150.length) (wn rfl) (hA162.ev rfl) slc35 hsl152.form ?_)
  intro a163 hA164
  refine qs hA164 rfl (dmv (wn rfl) (hA164.ev rfl) ?_)
  intro a165 hA166
  refine qe_ ?_
  refine tn_ ?_
  refine wp_block ?_
  refine loop_by (fun m168 a169 w170 => ∃ k167 : Nat, m168 = c150.length - k167 ∧ (k167 ≤ c150.length ∧ bad1 c150.length c150 0 = bad1 c150.length (c150.drop k167) k167) ∧ St 60 [(0, v), (7, (.int .i64 ((j129 : Nat) : Int))), (8, y143), (32, v), (33, (.int .i64 ((us.length : Nat) : Int))), (34, (.int .i64 ((j129 : Nat) : Int))), (39, y143), (40, (.int .i64 ((c150.length : Nat) : Int))), (41, (.int .i64 ((k167 : Nat) : Int)))] a169 ∧ Below w.heap.size w w170) (c150.length - 0) ⟨0, rfl, ⟨by omega, rfl⟩, hA166.cut _ (fc (hA166.get 0 _ rfl) (fc (hA166.get 7 _ rfl) (fc (hA166.get 8 _ rfl) (fc (hA166.get 32 _ rfl) (fc (hA166.get 33 _ rfl) (fc (hA166.get 34 _ rfl) (fc (hA166.get 39 _ rfl) (fc (hA166.get 40 _ rfl) (fc ((hA166.get 41 _ rfl).trans (congrArg (Value.int .i64) (by simp))) fn_))))))))), b134⟩ ?_
  rintro m168 a169 w170 ⟨k167, hm173, hc174, hA171, b172⟩
  refine wp_seq ?_
  refine wp_region_lit ?_
  rcases Bool.eq_false_or_eq_true (decide (((k167 : Nat) : Int) < ((c150.length : Nat) : Int))) with hb175 | hb175
  ·skip
   have hq176 := of_decide_eq_true hb175
   refine qs hA171 rfl (dbn (wn rfl) (hA171.ev rfl) (hA171.ev rfl) (b_lt _ _ ((k167 : Nat) : Int) ((c150.length : Nat) : Int) true _ hb175) ?_)
   intro a177 hA178
   refine qe_ ?_
   refine tn_ ?_
   refine wp_seq ?_
   refine c_true hA178 rfl ?_
   refine wp_skip ?_
   refine tn_ ?_
   refine wp_seq ?_
   refine wp_block ?_
   refine wp_seq ?_
   refine wp_region_lit ?_
   refine qs hA178 rfl (dmv (wn rfl) (hA178.ev rfl) ?_)
   intro a179 hA180
   obtain ⟨y181, hy182⟩ : ∃ y181, c150[k167]? = some y181 := ⟨_, List.getElem?_eq_getElem (show k167 < c150.length by omega)⟩
   obtain ⟨b183, o184, lt185, hr186, hix187⟩ := (hsl152.below b172).at hy182
   refine qs hA180 rfl (dia (j := k167) (wn rfl) (hA180.ev rfl) (hA180.ev rfl) slc35 hix187 (get_lt hy182) ?_)
   intro a188 hA189
   refine qs hA189 rfl (dlm (cs := (insC y181)) (wn rfl) (hA189.ev rfl) row23 hr186 ?_)
   intro a190 hA191
   refine qs hA191 rfl (dal (wn rfl) zero23 ?_)
   intro g192 w193 eg194 hG195 (m196 : Blk w193 g192 #[.int .i64 0, .int .i64 0, .int .i64 0, .int .i64 0, .int .i64 0, .int .i64 0, .int .i64 0, .int .i64 0, .int .i64 0, .int .i64 0, .bool false, .bool false, .bool false, .int .i64 0, .int .i64 0, .int .i64 0, .bool false] 23)
   have ge197 : w.heap.size ≤ g192 := eg194 ▸ b172.size
   have hr198 := range_below hr186 hG195 (Nat.lt_of_lt_of_le lt185 b172.size)
   have b199 := blg b172 hG195 b172.size
   intro a200 hA201
   refine qs hA201 rfl (das (wn rfl) (hA201.ev rfl) ?_)
   intro a202 hA203
   refine qs hA203 rfl (dsr (wn rfl) (hA203.ev rfl) (hA203.ev rfl) row23 m196 rfl rfl ?_)
   intro w204 hU205 (m206 : Blk w204 g192 (insC y181) 23)
   have hr207 := range_upd hr198 hU205 (Nat.ne_of_lt (Nat.lt_of_lt_of_le lt185 ge197))
   have b208 := hU205.below b199 ge197
   intro a209 hA210
   refine qe_ ?_
   refine tn_ ?_
   refine wp_seq ?_
   refine wp_region_lit ?_
   refine qs hA210 rfl (dlr (cs := (insC y181)) (wn rfl) (hA210.ev rfl) row23 m206 ?_)
   intro a211 hA212
   refine qs hA212 rfl (dmv (wn rfl) (hA212.ev rfl) ?_)
   intro a213 hA214
   refine qs hA214 rfl (dmv (wn rfl) (hA214.ev rfl) ?_)
   intro a215 hA216
   refine qs hA216 rfl (dle (n := c150.length) (wn rfl) (hA216.ev rfl) slc35 hsl152.form ?_)
   intro a217 hA218
   refine qs hA218 rfl (dcl (wn rfl) ent9 (map3 (hA218.ev rfl) (hA218.ev rfl) (hA218.ev rfl)) (right_any y181 ((k167 : Nat) : Int) ((c150.length : Nat) : Int) w204) ?_)
   rintro e222 w219 ⟨he221, hG220⟩
   have m223 := m206.grow hG220
   have hr224 := range_below hr207 hG220 (Nat.lt_of_lt_of_le lt185 b208.size)
   have b225 := blg b208 hG220 b208.size
   refine ⟨(.int .i64 (rightR y181 ((k167 : Nat) : Int) ((c150.length : Nat) : Int))), he221, ?_⟩
   intro a226 hA227
   refine qs hA227 rfl (das (wn rfl) (hA227.ev rfl) ?_)
   intro a228 hA229
   refine qe_ ?_
   refine tn_ ?_
   refine wp_seq ?_
   refine wp_region_lit ?_
   refine qs hA229 rfl (dmv (wn rfl) (hA229.ev rfl) ?_)
   intro a230 hA231
   rcases Bool.eq_false_or_eq_true (rightR y181 ((k167 : Nat) : Int) ((c150.length : Nat) : Int) == 0) with hb232 | hb232
   ·skip
    have hq233 := eq_of_beq hb232
    refine qs hA231 rfl (dbn (wn rfl) (hA231.ev rfl) (hA231.ev rfl) (b_ne _ _ (rightR y181 ((k167 : Nat) : Int) ((c150.length : Nat) : Int)) 0 false _ (notof hb232)) ?_)
    intro a234 hA235
    refine qe_ ?_
    refine tn_ ?_
    refine c_false hA235 rfl ?_
    refine wp_skip ?_
    refine i_norm ?_
    refine tn_ ?_
    refine wp_region_lit ?_
    refine qs hA235 rfl (dbn (wn rfl) (hA235.ev rfl) (hA235.ev rfl) (b_add _ _ ((k167 : Nat) : Int) 1 _ (by omega) (by omega)) ?_)
    intro a236 hA237
    refine qs hA237 rfl (dmv (wn rfl) (hA237.ev rfl) ?_)
    intro a238 hA239
    refine qe_ ?_
    refine tn_ ?_
    exact ⟨c150.length - (k167 + 1), (by rw [hm173]; omega), k167 + 1, rfl, ⟨by have := get_lt hy182; omega, hc174.2.trans (bad1_at hy182 hb232)⟩, hA239.cut _ (fc (hA239.get 0 _ rfl) (fc (hA239.get 7 _ rfl) (fc (hA239.get 8 _ rfl) (fc (hA239.get 32 _ rfl) (fc (hA239.get 33 _ rfl) (fc (hA239.get 34 _ rfl) (fc (hA239.get 39 _ rfl) (fc (hA239.get 40 _ rfl) (fc ((hA239.get 41 _ rfl).trans (congrArg (Value.int .i64) (by omega))) fn_))))))))), b225⟩
   have hq240 := ne_of_beq hb232
   refine qs hA231 rfl (dbn (wn rfl) (hA231.ev rfl) (hA231.ev rfl) (b_ne _ _ (rightR y181 ((k167 : Nat) : Int) ((c150.length : Nat) : Int)) 0 true _ (notof hb232)) ?_)
   intro a241 hA242
   refine qe_ ?_
   refine tn_ ?_
   refine c_true hA242 rfl ?_
   refine wp_seq ?_
   refine wp_region_lit ?_
   refine qs hA242 rfl (dmv (wn rfl) (hA242.ev rfl) ?_)
   intro a243 hA244
   refine qs hA244 rfl (dmv (wn rfl) (hA244.ev rfl) ?_)
   intro a245 hA246
   refine qs hA246 rfl (dmv (wn rfl) (hA246.ev rfl) ?_)
   intro a247 hA248
   refine qs hA248 rfl (das (wn rfl) (hA248.ev rfl) ?_)
   intro a249 hA250
   refine qs hA250 rfl (das (wn rfl) (hA250.ev rfl) ?_)
   intro a251 hA252
   refine qs hA252 rfl (das (wn rfl) (hA252.ev rfl) ?_)
   intro a253 hA254
   refine qe_ ?_
   refine tn_ ?_
   refine wp_ret ?_
   refine i_ret ?_
   refine t_ret ?_
   refine t_ret ?_
   refine i_ret ?_
   refine i_ret ?_
   refine t_ret ?_
   refine t_ret ?_
   refine i_ret ?_
   refine t_ret ?_
   refine ret3 (x := (.int .i64 ((j129 : Nat) : Int))) (y := (.int .i64 ((k167 : Nat) : Int))) (z := (.int .i64 (rightR y181 ((k167 : Nat) : Int) ((c150.length : Nat) : Int)))) rfl hA254 rfl rfl rfl ?_
   have hr := check_bad (cs := cs) (by omega) (by omega) hlong (hc136.2.trans (bad2_yes hc151 (hc174.2.trans (bad1_yes hy182 hb232))))
   exact ⟨ret_three (by rw [hr]) (by rw [hr]) (by rw [hr]), b225⟩
  have hq255 := of_decide_eq_false hb175
  refine qs hA171 rfl (dbn (wn rfl) (hA171.ev rfl) (hA171.ev rfl) (b_lt _ _ ((k167 : Nat) : Int) ((c150.length : Nat) : Int) false _ hb175) ?_)
  intro a256 hA257
  refine qe_ ?_
  refine tn_ ?_
  refine wp_seq ?_
  refine c_false hA257 rfl ?_
  refine wp_exit ?_
  refine t_exit ?_
  refine t_exit ?_
  refine i_here ?_
  refine i_norm ?_
  refine tn_ ?_
  refine wp_region_lit ?_
  refine qs hA257 rfl (dbn (wn rfl) (hA257.ev rfl) (hA257.ev rfl) (b_add _ _ ((j129 : Nat) : Int) 1 _ (by omega) (by omega)) ?_)
  intro a258 hA259
  refine qs hA259 rfl (dmv (wn rfl) (hA259.ev rfl) ?_)
  intro a260 hA261
  refine qe_ ?_
  refine tn_ ?_
  exact ⟨cs.length - (j129 + 1), (by rw [hm135]; omega), j129 + 1, rfl, ⟨by have := get_lt hc151; omega, hc136.2.trans (bad2_at hc151 (hc174.2.trans (by rw [drop_end (by omega)]; rfl)))⟩, hA261.cut _ (fc (hA261.get 0 _ rfl) (fc (hA261.get 32 _ rfl) (fc (hA261.get 33 _ rfl) (fc ((hA261.get 34 _ rfl).trans (congrArg (Value.int .i64) (by omega))) fn_)))), b172⟩
 have hq262 := of_decide_eq_false hb137
 refine qs hA133 rfl (dbn (wn rfl) (hA133.ev rfl) (hA133.ev rfl) (b_lt _ _ ((j129 : Nat) : Int) ((us.length : Nat) : Int) false _ hb137) ?_)
 intro a263 hA264
 refine qe_ ?_
 refine tn_ ?_
 refine wp_seq ?_
 refine c_false hA264 rfl ?_
 refine wp_exit ?_
 refine t_exit ?_
 refine t_exit ?_
 refine i_here ?_
 refine tn_ ?_
 refine wp_seq ?_
 refine wp_region_lit ?_
 refine qs hA264 rfl (dmv (wn rfl) (hA264.ev rfl) ?_)
 intro a265 hA266
 refine qs hA266 rfl (dcl (wn rfl) ent33 (map1 (hA266.ev rfl)) (checkCounts_any cs v w132 ((hCs.below b134).mono b134.size) (by omega) (by omega)) ?_)
 rintro e270 w267 ⟨he269, hG268⟩
 have b271 := blg b134 hG268 b134.size
 refine ⟨(.int .i64 (cntsR cs)), he269, ?_⟩
 intro a272 hA273
 refine qs hA273 rfl (das (wn rfl) (hA273.ev rfl) ?_)
 intro a274 hA275
 refine qs hA275 rfl (das (wn rfl) (hA275.ev rfl) ?_)
 intro a276 hA277
 refine qs hA277 rfl (das (wn rfl) (hA277.ev rfl) ?_)
 intro a278 hA279
 refine qe_ ?_
 refine tn_ ?_
 refine wp_ret ?_
 refine ret3 (x := (.int .i64 0)) (y := (.int .i64 0)) (z := (.int .i64 (cntsR cs))) rfl hA279 rfl rfl rfl ?_
 have hr := check_none (cs := cs) (by omega) (by omega) hlong ((hc136.2).trans (by rw [drop_end (by omega)]; rfl))
 exact ⟨ret_three (by rw [hr]) (by rw [hr]) (by rw [hr]), b271⟩
end Go.Proofs.Ytlhompedcphnnaa
