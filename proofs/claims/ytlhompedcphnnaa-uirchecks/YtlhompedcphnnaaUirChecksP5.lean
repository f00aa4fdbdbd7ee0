/- A read-modify-write of the walk. -/
import Derived.Test.YtlhompedcphnnaaUirChecksP4
import Derived.WalkSmall
import Derived.ProofKit
import Derived.OpenShut
import Derived.ChangeOld
namespace Go.Proofs.Ytlhompedcphnnaa
open Go.RowKit
set_option linter.unusedSimpArgs false
set_option linter.unusedVariables false
set_option maxHeartbeats 4000000 in
set_option maxRecDepth 4000 in
theorem access_6 (Bd g : Nat) (p : Int) (r : Nat → Int) (rd ev pa : Value) (i : Ins) (d k : Nat) (u0 : Int) (rl : List Int) (evs : List Ev) (path : List Int) (w : World) (hB : Bd ≤ w.heap.size) (hW : WS Bd g w p r (u0 :: rl) evs path rd ev pa) (hne : evs.length ≤ 1000) (hnp : path.length ≤ 1000) (hr : ∀ k, wfI (r k)) (hix : ronB i.index = true) (hoff : wfI i.off) (hd : d < 8) (hk : k < 8) (hu0 : wfI u0) : Calls Try.prog 48 #[.pointer (some ⟨g, 0, none⟩), .agg (insC ⟨6, ((d : Nat) : Int), ((k : Nat) : Int), i.b, i.imm, i.loc, i.off, i.index, i.size, i.fn, i.acq, i.weak, i.rel, i.pred, i.succ, i.to, i.zero⟩)] w fun e w' => e = .returned (.bool true) ∧ Below Bd w w' ∧ ∃ rd' ev' pa', WS Bd g w' p (updR r d (I (getR (B u0) 0 i.size))) rl (evs ++ [acc6 i r k path.length p u0]) path rd' ev' pa' := by
 obtain ⟨hb, hge, hrd, hev, hpa, oe, op_, ap⟩ := hW
 have ap2 : ∀ k, ev.ownBlock = some k → pa.ownBlock ≠ some k := fun k h1 h2 => ap k h2 h1
 have b0 : Below Bd w w := Below.refl _ _
 refine enter (n := 81) Try.func48 rfl rfl (Nat.le_of_ble_eq_true rfl) ?_
 intro a1 hA2
 refine wp_seq ?_
 refine wp_region_lit ?_
 refine q_step hA2 rfl (d_box (wn rfl) (hA2.ev rfl) ?_)
 intro g3 w4 eg5 hG6 (m7 : Blk w4 g3 (insC ⟨6, ((d : Nat) : Int), ((k : Nat) : Int), i.b, i.imm, i.loc, i.off, i.index, i.size, i.fn, i.acq, i.weak, i.rel, i.pred, i.succ, i.to, i.zero⟩) 23)
 have ge8 : Bd ≤ g3 := eg5 ▸ (Nat.le_trans hB b0.size)
 have n9 : g ≠ g3 := fun h => Nat.lt_irrefl _ ((h.trans eg5) ▸ hb.lt)
 have off10 := own_new hev eg5
 have off11 := own_new hpa eg5
 have m12 := hb.grow hG6
 have b13 := below_grow b0 hG6 (Nat.le_trans hB b0.size)
 have ho14 := own_grow hG6 hev
 have ho15 := own_grow hG6 hpa
 intro a16 hA17
 refine q_step hA17 rfl (d_assign (wn rfl) (hA17.ev rfl) ?_)
 intro a18 hA19
 refine q_end ?_
 have hA20 : St 81 [(0, (.pointer (some ⟨g, 0, none⟩))), (3, (.pointer (some ⟨g3, 0, none⟩))), (4, (.bool false))] a18 := hA19.cut _ (fm_cons (hA19.get 0 _ rfl) (fm_cons (hA19.get 3 _ rfl) (fm_cons (hA19.get 4 _ rfl) fm_nil)))
 refine t_norm ?_
 refine wp_seq ?_
 refine wp_region_lit ?_
 refine q_step hA20 rfl (d_move (wn rfl) (hA20.ev rfl) ?_)
 intro a21 hA22
 refine q_step hA22 rfl (d_loadRow (cs := (insC ⟨6, ((d : Nat) : Int), ((k : Nat) : Int), i.b, i.imm, i.loc, i.off, i.index, i.size, i.fn, i.acq, i.weak, i.rel, i.pred, i.succ, i.to, i.zero⟩)) (wn rfl) (hA22.ev rfl) row23 m7 ?_)
 intro a23 hA24
 refine q_step hA24 rfl (d_call (wn rfl) ent49 (map2 (hA24.ev rfl) (hA24.ev rfl)) (event_any g p r rd ev pa (⟨6, ((d : Nat) : Int), ((k : Nat) : Int), i.b, i.imm, i.loc, i.off, i.index, i.size, i.fn, i.acq, i.weak, i.rel, i.pred, i.succ, i.to, i.zero⟩) path.length Bd (paE path) w4 m12 ho15) ?_)
 rintro e28 w25 ⟨he27, hG26⟩
 have m29 := m12.grow hG26
 have m30 := m7.grow hG26
 have b31 := below_grow b13 hG26 (Nat.le_trans hB b13.size)
 have ho32 := own_grow hG26 ho14
 have ho33 := own_grow hG26 ho15
 refine ⟨(.agg #[.int .i64 0, .int .i64 ((path.length : Nat) : Int), .int .i64 p, .int .i64 6, .int .i64 0, .int .i64 0, .bool true, .bool true, .int .i64 0, .int .i64 0, .bool i.acq, .bool i.weak, .bool i.rel, .int .i64 i.pred, .int .i64 i.succ]), he27, ?_⟩
 intro a34 hA35
 refine q_step hA35 rfl (d_alloc (wn rfl) zero52 ?_)
 intro g36 w37 eg38 hG39 (m40 : Blk w37 g36 #[.int .i64 0, .int .i64 0, .int .i64 0, .int .i64 0, .int .i64 0, .int .i64 0, .bool false, .bool false, .int .i64 0, .int .i64 0, .bool false, .bool false, .bool false, .int .i64 0, .int .i64 0] 52)
 have ge41 : Bd ≤ g36 := eg38 ▸ (Nat.le_trans hB b31.size)
 have n42 : g ≠ g36 := fun h => Nat.lt_irrefl _ ((h.trans eg38) ▸ m29.lt)
 have n43 : g3 ≠ g36 := fun h => Nat.lt_irrefl _ ((h.trans eg38) ▸ m30.lt)
 have off44 := own_new ho32 eg38
 have off45 := own_new ho33 eg38
 have m46 := m29.grow hG39
 have m47 := m30.grow hG39
 have b48 := below_grow b31 hG39 (Nat.le_trans hB b31.size)
 have ho49 := own_grow hG39 ho32
 have ho50 := own_grow hG39 ho33
 intro a51 hA52
 refine q_step hA52 rfl (d_storeRow (wn rfl) (hA52.ev rfl) (hA52.ev rfl) row52 m40 rfl rfl ?_)
 intro w53 hU54 (m55 : Blk w53 g36 #[.int .i64 0, .int .i64 ((path.length : Nat) : Int), .int .i64 p, .int .i64 6, .int .i64 0, .int .i64 0, .bool true, .bool true, .int .i64 0, .int .i64 0, .bool i.acq, .bool i.weak, .bool i.rel, .int .i64 i.pred, .int .i64 i.succ] 52)
 have m56 := m46.upd hU54 n42
 have m57 := m47.upd hU54 n43
 have b58 := hU54.below b48 ge41
 have ho59 := own_upd ho49 hU54 off44
 have ho60 := own_upd ho50 hU54 off45
 intro a61 hA62
 refine q_end ?_
 have hA63 : St 81 [(0, (.pointer (some ⟨g, 0, none⟩))), (3, (.pointer (some ⟨g3, 0, none⟩))), (4, (.bool false)), (5, (.pointer (some ⟨g36, 0, none⟩)))] a61 := hA62.cut _ (fm_cons (hA62.get 0 _ rfl) (fm_cons (hA62.get 3 _ rfl) (fm_cons (hA62.get 4 _ rfl) (fm_cons (hA62.get 5 _ rfl) fm_nil))))
 refine t_norm ?_
 refine wp_seq ?_
 have hA64 : St 81 [(0, (.pointer (some ⟨g, 0, none⟩))), (3, (.pointer (some ⟨g3, 0, none⟩))), (4, (.bool false)), (5, (.pointer (some ⟨g36, 0, none⟩)))] a61 := hA63.cut _ (fm_cons (hA63.get 0 _ rfl) (fm_cons (hA63.get 3 _ rfl) (fm_cons (hA63.get 4 _ rfl) (fm_cons (hA63.get 5 _ rfl) fm_nil))))
 let M65 : Nat → Option (Array Value) := fun _ => none
 have hM65 : M65 = fun _ => none := rfl
 clear_value M65
 have hM66 : M65 g = none := (congrFun hM65 g)
 have hM67 : M65 g3 = none := (congrFun hM65 g3)
 have hM68 : M65 g36 = none := (congrFun hM65 g36)
 have hM65B : ∀ k, k < Bd → M65 k = none := (fun k hk => (congrFun hM65 k))
 refine drawn (S := SM M65) (tabL [cv (.pointer (some ⟨g3, 6, none⟩)), cv (.int .i64 i.off), cv (.pointer (some ⟨g, 0, none⟩)), cv (.pointer (some ⟨g3, 7, none⟩)), cv (.int .i64 i.index), cv (.int .i64 (orR r i.index 0)), cv (.pointer (some ⟨g3, 8, none⟩)), cv (.int .i64 i.size), cv (.int .i64 (placeR (B i.off) (B (orR r i.index 0)) i.size)), cv (.int .i64 (placeR (B i.off) (B (orR r i.index 0)) i.size))]) mixedY SM.refl SM.trans SM.drew hA64 (by kernel_rfl) ?_ ?_
 ·skip
  refine each_cons (fun x y hS hT hk => d_fieldAddr (wn rfl) (hT.ev rfl) fo23_6 ⟨SM.refl _, rfl⟩) ?_
  refine each_cons (fun x y hS hT hk => d_load (v := (.int .i64 i.off)) (wn rfl) (hk 0 rfl) one3 ((Blk.sm (w := w53.drew) m57 hS hM67).cell rfl) ⟨SM.refl _, rfl⟩) ?_
  refine each_cons (fun x y hS hT hk => d_move (wn rfl) (hT.ev rfl) ⟨SM.refl _, rfl⟩) ?_
  refine each_cons (fun x y hS hT hk => d_fieldAddr (wn rfl) (hT.ev rfl) fo23_7 ⟨SM.refl _, rfl⟩) ?_
  refine each_cons (fun x y hS hT hk => d_load (v := (.int .i64 i.index)) (wn rfl) (hk 3 rfl) one3 ((Blk.sm (w := w53.drew) m57 hS hM67).cell rfl) ⟨SM.refl _, rfl⟩) ?_
  refine each_cons (fun x y hS hT hk => d_call (wn rfl) ent47 (map3 (show x.eval _ = (.pointer (some ⟨g, 0, none⟩)) from (hk 2 rfl)) (show x.eval _ = (.int .i64 i.index) from (hk 4 rfl)) (show x.eval _ = (.int .i64 0) from (hT.ev rfl))) (regOr_any g p r rd ev pa i.index 0 y (Blk.sm (w := w53.drew) m56 hS hM66) hix) (fun _ _ ⟨he, hG⟩ => ⟨(.int .i64 (orR r i.index 0)), he, SM.grow hG, rfl⟩)) ?_
  refine each_cons (fun x y hS hT hk => d_fieldAddr (wn rfl) (hT.ev rfl) fo23_8 ⟨SM.refl _, rfl⟩) ?_
  refine each_cons (fun x y hS hT hk => d_load (v := (.int .i64 i.size)) (wn rfl) (hk 6 rfl) one3 ((Blk.sm (w := w53.drew) m57 hS hM67).cell rfl) ⟨SM.refl _, rfl⟩) ?_
  refine each_cons (fun x y hS hT hk => d_call (wn rfl) ent57 (map3 (show x.eval _ = (.int .i64 i.off) from (hk 1 rfl)) (show x.eval _ = (.int .i64 (orR r i.index 0)) from (hk 5 rfl)) (show x.eval _ = (.int .i64 i.size) from (hk 7 rfl))) (place_w i.off (orR r i.index 0) i.size y hoff (wf_or hr wf_0)) (fun _ _ ⟨he, hw⟩ => ⟨(.int .i64 (placeR (B i.off) (B (orR r i.index 0)) i.size)), he, hw ▸ SM.refl _, rfl⟩)) ?_
  refine each_cons (fun x y hS hT hk => d_assign (wn rfl) (hk 8 rfl) ⟨SM.refl _, rfl⟩) ?_
  exact each_nil
 intro f69 a70 w71 hS72 hC73 hA74
 have hA75 : St 81 [(0, (.pointer (some ⟨g, 0, none⟩))), (3, (.pointer (some ⟨g3, 0, none⟩))), (4, (.bool false)), (5, (.pointer (some ⟨g36, 0, none⟩))), (6, (.int .i64 (placeR (B i.off) (B (orR r i.index 0)) i.size)))] a70 := hA74.cut _ (fm_cons (hA74.get 0 _ rfl) (fm_cons (hA74.get 3 _ rfl) (fm_cons (hA74.get 4 _ rfl) (fm_cons (hA74.get 5 _ rfl) (fm_cons ((hA74.get 6 _ rfl).trans (hC73 9 (Nat.le_of_ble_eq_true rfl))) fm_nil)))))
 have m76 := m56.sm hS72 hM66
 have m77 := m57.sm hS72 hM67
 have m78 := m55.sm hS72 hM68
 have b79 := hS72.below b58 (Nat.le_trans hB b58.size) hM65B
 have ho80 := own_sm ho59 hS72 (fun k => congrFun hM65 k)
 have ho81 := own_sm ho60 hS72 (fun k => congrFun hM65 k)
 refine t_norm ?_
 refine wp_seq ?_
 have hA82 : St 81 [(0, (.pointer (some ⟨g, 0, none⟩))), (3, (.pointer (some ⟨g3, 0, none⟩))), (4, (.bool false)), (5, (.pointer (some ⟨g36, 0, none⟩))), (6, (.int .i64 (placeR (B i.off) (B (orR r i.index 0)) i.size)))] a70 := hA75.cut _ (fm_cons (hA75.get 0 _ rfl) (fm_cons (hA75.get 3 _ rfl) (fm_cons (hA75.get 4 _ rfl) (fm_cons (hA75.get 5 _ rfl) (fm_cons (hA75.get 6 _ rfl) fm_nil)))))
 let M83 : Nat → Option (Array Value) := fun _ => none
 have hM83 : M83 = fun _ => none := rfl
 clear_value M83
 have hM83A : ∀ k, M83 k = none := fun k => congrFun hM83 k
 have hM83B : ∀ k, k < Bd → M83 k = none := fun k _ => hM83A k
 refine drawnL (S := SM M83) rfl (tabL [cv (.pointer (some ⟨g3, 5, none⟩)), cv (.int .i64 i.loc), cv (.int .i64 (placeR (B i.off) (B (orR r i.index 0)) i.size)), cv (.pointer (some ⟨g3, 8, none⟩)), cv (.int .i64 i.size), cv (.int .i64 (maskR (placeR (B i.off) (B (orR r i.index 0)) i.size) i.size)), cv (.agg #[.int .i64 i.loc, .int .i64 (maskR (placeR (B i.off) (B (orR r i.index 0)) i.size) i.size)]), cv (.pointer (some ⟨g36, 4, none⟩))]) none (fun _ => none) (fun _ _ => True) [7, 6, 5, 0, 1, 2, 3, 4] [] mixedY SM.refl SM.trans hA82 (by kernel_rfl) (by kernel_rfl) (fun i v u w h => by cases h) ?_ ?_
 ·skip
  refine eachD_cons (.inl ⟨nofun, rfl, fun x y hS hT hk => d_fieldAddr (wn rfl) (hT.ev rfl) fo23_5 ⟨SM.refl _, rfl⟩⟩) ?_
  refine eachD_cons (.inl ⟨nofun, rfl, fun x y hS hT hk => d_load (v := (.int .i64 i.loc)) (wn rfl) (hk 0 rfl) one3 ((Blk.sm (w := w71.drew) m77 hS (hM83A _)).cell rfl) ⟨SM.refl _, rfl⟩⟩) ?_
  refine eachD_cons (.inl ⟨nofun, rfl, fun x y hS hT hk => d_move (wn rfl) (hT.ev rfl) ⟨SM.refl _, rfl⟩⟩) ?_
  refine eachD_cons (.inl ⟨nofun, rfl, fun x y hS hT hk => d_fieldAddr (wn rfl) (hT.ev rfl) fo23_8 ⟨SM.refl _, rfl⟩⟩) ?_
  refine eachD_cons (.inl ⟨nofun, rfl, fun x y hS hT hk => d_load (v := (.int .i64 i.size)) (wn rfl) (hk 3 rfl) one3 ((Blk.sm (w := w71.drew) m77 hS (hM83A _)).cell rfl) ⟨SM.refl _, rfl⟩⟩) ?_
  refine eachD_cons (.inl ⟨nofun, rfl, fun x y hS hT hk => d_call (wn rfl) ent55 (map2 (show x.eval _ = (.int .i64 (placeR (B i.off) (B (orR r i.index 0)) i.size)) from (hk 2 rfl)) (show x.eval _ = (.int .i64 i.size) from (hk 4 rfl))) (mask_all (placeR (B i.off) (B (orR r i.index 0)) i.size) i.size y) (fun _ _ ⟨he, hw⟩ => ⟨(.int .i64 (maskR (placeR (B i.off) (B (orR r i.index 0)) i.size) i.size)), he, hw ▸ SM.refl _, rfl⟩)⟩) ?_
  refine eachD_cons (.inl ⟨nofun, rfl, fun x y hS hT hk => d_build (cs := #[.int .i64 i.loc, .int .i64 (maskR (placeR (B i.off) (B (orR r i.index 0)) i.size) i.size)]) (wn rfl) (bp_of (bq_cons (show x.eval _ = (.int .i64 i.loc) from (hk 1 rfl)) (bq_cons (show x.eval _ = (.int .i64 (maskR (placeR (B i.off) (B (orR r i.index 0)) i.size) i.size)) from (hk 5 rfl)) bq_nil))) zero50 places50 (by kernel_rfl) ⟨SM.refl _, rfl⟩⟩) ?_
  refine eachD_cons (.inl ⟨nofun, rfl, fun x y hS hT hk => d_fieldAddr (wn rfl) (hT.ev rfl) fo52_4 ⟨SM.refl _, rfl⟩⟩) ?_
  exact eachD_one
 rintro a84 w85 hA86 ⟨hS88, hC89⟩
 have hA90 : St 81 [(0, (.pointer (some ⟨g, 0, none⟩))), (3, (.pointer (some ⟨g3, 0, none⟩))), (4, (.bool false)), (5, (.pointer (some ⟨g36, 0, none⟩))), (25, (.agg #[.int .i64 i.loc, .int .i64 (maskR (placeR (B i.off) (B (orR r i.index 0)) i.size) i.size)])), (26, (.pointer (some ⟨g36, 4, none⟩)))] a84 := hA86.cut _ (fm_cons (hA86.get 0 _ rfl) (fm_cons (hA86.get 3 _ rfl) (fm_cons (hA86.get 4 _ rfl) (fm_cons (hA86.get 5 _ rfl) (fm_cons (hC89 6 (Nat.le_of_ble_eq_true rfl)) (fm_cons (hC89 7 (Nat.le_of_ble_eq_true rfl)) fm_nil))))))
 have hG91 : Grow w71 w85 := Grow.trans ((Grow.refl _).drew) (SM.grown (by rw [hM83] at hS88; exact hS88))
 have m92 := m76.grow hG91
 have m93 := m77.grow hG91
 have m94 := m78.grow hG91
 have b95 := below_grow b79 hG91 (Nat.le_trans hB b79.size)
 have ho96 := own_grow hG91 ho80
 have ho97 := own_grow hG91 ho81
 refine d_store2 (wn rfl) (hA90.ev rfl) (hA90.ev rfl) row50 rfl rfl m94 (Nat.le_of_ble_eq_true rfl) ?_
 intro w98 hU99 (m100 : Blk w98 g36 #[.int .i64 0, .int .i64 ((path.length : Nat) : Int), .int .i64 p, .int .i64 6, .int .i64 i.loc, .int .i64 (maskR (placeR (B i.off) (B (orR r i.index 0)) i.size) i.size), .bool true, .bool true, .int .i64 0, .int .i64 0, .bool i.acq, .bool i.weak, .bool i.rel, .int .i64 i.pred, .int .i64 i.succ] 52)
 have m101 := m92.upd hU99 n42
 have m102 := m93.upd hU99 n43
 have b103 := hU99.below b95 ge41
 have ho104 := own_upd ho96 hU99 off44
 have ho105 := own_upd ho97 hU99 off45
 have hA106 : St 81 [(0, (.pointer (some ⟨g, 0, none⟩))), (3, (.pointer (some ⟨g3, 0, none⟩))), (4, (.bool false)), (5, (.pointer (some ⟨g36, 0, none⟩)))] a84 := hA90.cut _ (fm_cons (hA90.get 0 _ rfl) (fm_cons (hA90.get 3 _ rfl) (fm_cons (hA90.get 4 _ rfl) (fm_cons (hA90.get 5 _ rfl) fm_nil))))
 refine t_norm ?_
 refine wp_seq ?_
 refine wp_seq ?_
 refine wp_region_lit ?_
 refine q_step hA106 rfl (d_fieldAddr (wn rfl) (hA106.ev rfl) fo52_5 ?_)
 intro a107 hA108
 refine q_step hA108 rfl (d_load (v := (.bool true)) (wn rfl) (hA108.ev rfl) one4 (m100.cell rfl) ?_)
 intro a109 hA110
 refine q_end ?_
 have hA111 : St 81 [(0, (.pointer (some ⟨g, 0, none⟩))), (3, (.pointer (some ⟨g3, 0, none⟩))), (4, (.bool false)), (5, (.pointer (some ⟨g36, 0, none⟩))), (28, (.bool true))] a109 := hA110.cut _ (fm_cons (hA110.get 0 _ rfl) (fm_cons (hA110.get 3 _ rfl) (fm_cons (hA110.get 4 _ rfl) (fm_cons (hA110.get 5 _ rfl) (fm_cons (hA110.get 28 _ rfl) fm_nil)))))
 refine t_norm ?_
 refine c_true hA111 rfl ?_
 refine wp_seq ?_
 refine wp_seq ?_
 refine wp_region_lit ?_
 refine q_step hA111 rfl (d_move (wn rfl) (hA111.ev rfl) ?_)
 intro a112 hA113
 refine q_step hA113 rfl (d_nilCheck (wn rfl) (hA113.ev rfl) ?_)
 intro a114 hA115
 refine q_step hA115 rfl (d_fieldAddr (wn rfl) (hA115.ev rfl) fo62_2 ?_)
 intro a116 hA117
 refine q_step hA117 rfl (d_load (v := rd) (wn rfl) (hA117.ev rfl) one30 (m101.cell rfl) ?_)
 intro a118 hA119
 refine q_step hA119 rfl (d_len (n := rl.length + 1) (wn rfl) (hA119.ev rfl) slc30 hrd.form ?_)
 intro a120 hA121
 refine q_step hA121 rfl (d_bin (wn rfl) (hA121.ev rfl) (hA121.ev rfl) (b_eq _ _ ((rl.length + 1 : Nat) : Int) 0 false _ (beq_eq_false_iff_ne.2 (by omega))) ?_)
 intro a122 hA123
 refine q_end ?_
 have hA124 : St 81 [(0, (.pointer (some ⟨g, 0, none⟩))), (3, (.pointer (some ⟨g3, 0, none⟩))), (4, (.bool false)), (5, (.pointer (some ⟨g36, 0, none⟩))), (34, (.bool false))] a122 := hA123.cut _ (fm_cons (hA123.get 0 _ rfl) (fm_cons (hA123.get 3 _ rfl) (fm_cons (hA123.get 4 _ rfl) (fm_cons (hA123.get 5 _ rfl) (fm_cons (hA123.get 34 _ rfl) fm_nil)))))
 refine t_norm ?_
 refine c_false hA124 rfl ?_
 refine wp_skip ?_
 refine t_norm ?_
 refine wp_seq ?_
 obtain ⟨b125, o126, lt127, hr128, hix129⟩ := (hrd.below b103).at (show (u0 :: rl)[0]? = some u0 from rfl)
 have hA130 : St 81 [(0, (.pointer (some ⟨g, 0, none⟩))), (3, (.pointer (some ⟨g3, 0, none⟩))), (4, (.bool false)), (5, (.pointer (some ⟨g36, 0, none⟩)))] a122 := hA124.cut _ (fm_cons (hA124.get 0 _ rfl) (fm_cons (hA124.get 3 _ rfl) (fm_cons (hA124.get 4 _ rfl) (fm_cons (hA124.get 5 _ rfl) fm_nil))))
 let M131 : Nat → Option (Array Value) := fun _ => none
 have hM131 : M131 = fun _ => none := rfl
 clear_value M131
 have hM131A : ∀ k, M131 k = none := fun k => congrFun hM131 k
 have hM131B : ∀ k, k < Bd → M131 k = none := fun k _ => hM131A k
 refine drawnL (S := SM M131) rfl (tabL [cv (.pointer (some ⟨g, 0, none⟩)), cv (.pointer (some ⟨g, 0, none⟩)), cv (.pointer (some ⟨g, 9, none⟩)), cv rd, cv (.pointer (some ⟨b125, o126, none⟩)), cv (.int .i64 u0), cv (.pointer (some ⟨g3, 8, none⟩)), cv (.int .i64 i.size), cv (.int .i64 (I (getR (B u0) 0 i.size))), cv (.pointer (some ⟨g36, 8, none⟩))]) none (fun _ => none) (fun _ _ => True) [9, 8, 0, 1, 2, 3, 4, 5, 6, 7] [] mixedY SM.refl SM.trans hA130 (by kernel_rfl) (by kernel_rfl) (fun i v u w h => by cases h) ?_ ?_
 ·skip
  refine eachD_cons (.inl ⟨nofun, rfl, fun x y hS hT hk => d_move (wn rfl) (hT.ev rfl) ⟨SM.refl _, rfl⟩⟩) ?_
  refine eachD_cons (.inl ⟨nofun, rfl, fun x y hS hT hk => d_nilCheck (wn rfl) (hk 0 rfl) ⟨SM.refl _, rfl⟩⟩) ?_
  refine eachD_cons (.inl ⟨nofun, rfl, fun x y hS hT hk => d_fieldAddr (wn rfl) (hk 1 rfl) fo62_2 ⟨SM.refl _, rfl⟩⟩) ?_
  refine eachD_cons (.inl ⟨nofun, rfl, fun x y hS hT hk => d_load (v := rd) (wn rfl) (hk 2 rfl) one30 ((Blk.sm (w := w98.drew) m101 hS (hM131A _)).cell rfl) ⟨SM.refl _, rfl⟩⟩) ?_
  refine eachD_cons (.inl ⟨nofun, rfl, fun x y hS hT hk => d_indexAt (j := 0) (wn rfl) (hk 3 rfl) (hT.ev rfl) slc30 hix129 (get_lt (show (u0 :: rl)[0]? = some u0 from rfl)) ⟨SM.refl _, rfl⟩⟩) ?_
  refine eachD_cons (.inl ⟨nofun, rfl, fun x y hS hT hk => d_load (v := (.int .i64 u0)) (wn rfl) (hk 4 rfl) one3 ((range_sm (w := w98.drew) hr128 hS (Nat.lt_of_lt_of_le lt127 (Nat.le_trans hB b103.size)) (hM131B _ lt127)) 0 _ rfl) ⟨SM.refl _, rfl⟩⟩) ?_
  refine eachD_cons (.inl ⟨nofun, rfl, fun x y hS hT hk => d_fieldAddr (wn rfl) (hT.ev rfl) fo23_8 ⟨SM.refl _, rfl⟩⟩) ?_
  refine eachD_cons (.inl ⟨nofun, rfl, fun x y hS hT hk => d_load (v := (.int .i64 i.size)) (wn rfl) (hk 6 rfl) one3 ((Blk.sm (w := w98.drew) m102 hS (hM131A _)).cell rfl) ⟨SM.refl _, rfl⟩⟩) ?_
  refine eachD_cons (.inl ⟨nofun, rfl, fun x y hS hT hk => d_call (wn rfl) ent58 (map3 (show x.eval _ = (.int .i64 u0) from (hk 5 rfl)) (show x.eval _ = (.int .i64 0) from (hT.ev rfl)) (show x.eval _ = (.int .i64 i.size) from (hk 7 rfl))) (get_w u0 0 i.size y hu0) (fun _ _ ⟨he, q, hw⟩ => ⟨(.int .i64 (I (getR (B u0) 0 i.size))), he, hw ▸ SM.grow ((Grow.refl _).drewN q), rfl⟩)⟩) ?_
  refine eachD_cons (.inl ⟨nofun, rfl, fun x y hS hT hk => d_fieldAddr (wn rfl) (hT.ev rfl) fo52_7 ⟨SM.refl _, rfl⟩⟩) ?_
  exact eachD_one
 rintro a132 w133 hA134 ⟨hS136, hC137⟩
 have hA138 : St 81 [(0, (.pointer (some ⟨g, 0, none⟩))), (3, (.pointer (some ⟨g3, 0, none⟩))), (4, (.bool false)), (5, (.pointer (some ⟨g36, 0, none⟩))), (43, (.int .i64 (I (getR (B u0) 0 i.size)))), (44, (.pointer (some ⟨g36, 8, none⟩)))] a132 := hA134.cut _ (fm_cons (hA134.get 0 _ rfl) (fm_cons (hA134.get 3 _ rfl) (fm_cons (hA134.get 4 _ rfl) (fm_cons (hA134.get 5 _ rfl) (fm_cons (hC137 8 (Nat.le_of_ble_eq_true rfl)) (fm_cons (hC137 9 (Nat.le_of_ble_eq_true rfl)) fm_nil))))))
 have hG139 : Grow w98 w133 := Grow.trans ((Grow.refl _).drew) (SM.grown (by rw [hM131] at hS136; exact hS136))
 have m140 := m101.grow hG139
 have m141 := m102.grow hG139
 have m142 := m100.grow hG139
 have hr143 := range_below hr128 hG139 (Nat.lt_of_lt_of_le lt127 (Nat.le_trans hB b103.size))
 have b144 := below_grow b103 hG139 (Nat.le_trans hB b103.size)
 have ho145 := own_grow hG139 ho104
 have ho146 := own_grow hG139 ho105
 refine d_store (wn rfl) (hA138.ev rfl) (hA138.ev rfl) one3 rfl m142 (Nat.le_of_ble_eq_true rfl) ?_
 intro w147 hU148 (m149 : Blk w147 g36 #[.int .i64 0, .int .i64 ((path.length : Nat) : Int), .int .i64 p, .int .i64 6, .int .i64 i.loc, .int .i64 (maskR (placeR (B i.off) (B (orR r i.index 0)) i.size) i.size), .bool true, .bool true, .int .i64 (I (getR (B u0) 0 i.size)), .int .i64 0, .bool i.acq, .bool i.weak, .bool i.rel, .int .i64 i.pred, .int .i64 i.succ] 52)
 have m150 := m140.upd hU148 n42
 have m151 := m141.upd hU148 n43
 have hr152 := range_upd hr143 hU148 (Nat.ne_of_lt (Nat.lt_of_lt_of_le lt127 ge41))
 have b153 := hU148.below b144 ge41
 have ho154 := own_upd ho145 hU148 off44
 have ho155 := own_upd ho146 hU148 off45
 have hA156 : St 81 [(0, (.pointer (some ⟨g, 0, none⟩))), (3, (.pointer (some ⟨g3, 0, none⟩))), (4, (.bool false)), (5, (.pointer (some ⟨g36, 0, none⟩)))] a132 := hA138.cut _ (fm_cons (hA138.get 0 _ rfl) (fm_cons (hA138.get 3 _ rfl) (fm_cons (hA138.get 4 _ rfl) (fm_cons (hA138.get 5 _ rfl) fm_nil))))
 refine t_norm ?_
 refine wp_region_lit ?_
 refine q_step hA156 rfl (d_move (wn rfl) (hA156.ev rfl) ?_)
 intro a157 hA158
 refine q_step hA158 rfl (d_move (wn rfl) (hA158.ev rfl) ?_)
 intro a159 hA160
 refine q_step hA160 rfl (d_nilCheck (wn rfl) (hA160.ev rfl) ?_)
 intro a161 hA162
 refine q_step hA162 rfl (d_fieldAddr (wn rfl) (hA162.ev rfl) fo62_2 ?_)
 intro a163 hA164
 refine q_step hA164 rfl (d_load (v := rd) (wn rfl) (hA164.ev rfl) one30 (m150.cell rfl) ?_)
 intro a165 hA166
 refine q_step hA166 rfl (d_tail (wn rfl) (hA166.ev rfl) slc30 (hrd.below b153) ?_)
 intro v167 ht168
 have hsl169 := ht168 _ hrd
 intro a170 hA171
 refine q_step hA171 rfl (d_nilCheck (wn rfl) (hA171.ev rfl) ?_)
 intro a172 hA173
 refine q_step hA173 rfl (d_fieldAddr (wn rfl) (hA173.ev rfl) fo62_2 ?_)
 intro a174 hA175
 refine q_step hA175 rfl (d_store (v := v167) (wn rfl) (hA175.ev rfl) (hA175.ev rfl) one30 (one_slice hsl169.form) m150 (Nat.le_of_ble_eq_true rfl) ?_)
 intro w176 hU177 (m178 : Blk w176 g (walkC p r v167 ev pa) 62)
 have m179 := m151.upd hU177 (Ne.symm n9)
 have m180 := m149.upd hU177 (Ne.symm n42)
 have b181 := hU177.below b153 hge
 have ho182 := own_upd ho154 hU177 oe
 have ho183 := own_upd ho155 hU177 op_
 intro a184 hA185
 refine q_end ?_
 have hA186 : St 81 [(0, (.pointer (some ⟨g, 0, none⟩))), (3, (.pointer (some ⟨g3, 0, none⟩))), (4, (.bool false)), (5, (.pointer (some ⟨g36, 0, none⟩)))] a184 := hA185.cut _ (fm_cons (hA185.get 0 _ rfl) (fm_cons (hA185.get 3 _ rfl) (fm_cons (hA185.get 4 _ rfl) (fm_cons (hA185.get 5 _ rfl) fm_nil))))
 refine t_norm ?_
 refine wp_seq ?_
 refine wp_seq ?_
 refine wp_region_lit ?_
 refine q_step hA186 rfl (d_fieldAddr (wn rfl) (hA186.ev rfl) fo52_6 ?_)
 intro a187 hA188
 refine q_step hA188 rfl (d_load (v := (.bool true)) (wn rfl) (hA188.ev rfl) one4 (m180.cell rfl) ?_)
 intro a189 hA190
 refine q_end ?_
 have hA191 : St 81 [(0, (.pointer (some ⟨g, 0, none⟩))), (3, (.pointer (some ⟨g3, 0, none⟩))), (4, (.bool false)), (5, (.pointer (some ⟨g36, 0, none⟩))), (54, (.bool true))] a189 := hA190.cut _ (fm_cons (hA190.get 0 _ rfl) (fm_cons (hA190.get 3 _ rfl) (fm_cons (hA190.get 4 _ rfl) (fm_cons (hA190.get 5 _ rfl) (fm_cons (hA190.get 54 _ rfl) fm_nil)))))
 refine t_norm ?_
 refine c_true hA191 rfl ?_
 refine wp_region_lit ?_
 refine q_step hA191 rfl (d_move (wn rfl) (hA191.ev rfl) ?_)
 intro a192 hA193
 refine q_step hA193 rfl (d_loadRow (cs := (insC ⟨6, ((d : Nat) : Int), ((k : Nat) : Int), i.b, i.imm, i.loc, i.off, i.index, i.size, i.fn, i.acq, i.weak, i.rel, i.pred, i.succ, i.to, i.zero⟩)) (wn rfl) (hA193.ev rfl) row23 m179 ?_)
 intro a194 hA195
 refine q_step hA195 rfl (d_fieldAddr (wn rfl) (hA195.ev rfl) fo52_7 ?_)
 intro a196 hA197
 refine q_step hA197 rfl (d_load (v := (.int .i64 (I (getR (B u0) 0 i.size)))) (wn rfl) (hA197.ev rfl) one3 (m180.cell rfl) ?_)
 intro a198 hA199
 refine q_step hA199 rfl (d_call (wn rfl) ent59 (map3 (hA199.ev rfl) (hA199.ev rfl) (hA199.ev rfl)) (written_6 g p r v167 ev pa { i with dst := ((d : Nat) : Int) } k (I (getR (B u0) 0 i.size)) w176 m178 hr (wf_I _) (by omega)) ?_)
 rintro e203 w200 ⟨he202, hG201⟩
 have m204 := m178.grow hG201
 have m205 := m179.grow hG201
 have m206 := m180.grow hG201
 have b207 := below_grow b181 hG201 (Nat.le_trans hB b181.size)
 have ho208 := own_grow hG201 ho182
 have ho209 := own_grow hG201 ho183
 refine ⟨(.int .i64 (I (rmwR i.fn (B (I (getR (B u0) 0 i.size))) (B (r k)) i.size))), he202, ?_⟩
 intro a210 hA211
 refine q_step hA211 rfl (d_fieldAddr (wn rfl) (hA211.ev rfl) fo52_8 ?_)
 intro a212 hA213
 refine q_step hA213 rfl (d_store (wn rfl) (hA213.ev rfl) (hA213.ev rfl) one3 rfl m206 (Nat.le_of_ble_eq_true rfl) ?_)
 intro w214 hU215 (m216 : Blk w214 g36 #[.int .i64 0, .int .i64 ((path.length : Nat) : Int), .int .i64 p, .int .i64 6, .int .i64 i.loc, .int .i64 (maskR (placeR (B i.off) (B (orR r i.index 0)) i.size) i.size), .bool true, .bool true, .int .i64 (I (getR (B u0) 0 i.size)), .int .i64 (I (rmwR i.fn (B (I (getR (B u0) 0 i.size))) (B (r k)) i.size)), .bool i.acq, .bool i.weak, .bool i.rel, .int .i64 i.pred, .int .i64 i.succ] 52)
 have m217 := m204.upd hU215 n42
 have m218 := m205.upd hU215 n43
 have b219 := hU215.below b207 ge41
 have ho220 := own_upd ho208 hU215 off44
 have ho221 := own_upd ho209 hU215 off45
 intro a222 hA223
 refine q_end ?_
 have hA224 : St 81 [(0, (.pointer (some ⟨g, 0, none⟩))), (3, (.pointer (some ⟨g3, 0, none⟩))), (4, (.bool false)), (5, (.pointer (some ⟨g36, 0, none⟩)))] a222 := hA223.cut _ (fm_cons (hA223.get 0 _ rfl) (fm_cons (hA223.get 3 _ rfl) (fm_cons (hA223.get 4 _ rfl) (fm_cons (hA223.get 5 _ rfl) fm_nil))))
 refine t_norm ?_
 refine wp_seq ?_
 refine wp_seq ?_
 refine wp_region_lit ?_
 refine q_step hA224 rfl (d_fieldAddr (wn rfl) (hA224.ev rfl) fo52_5 ?_)
 intro a225 hA226
 refine q_step hA226 rfl (d_load (v := (.bool true)) (wn rfl) (hA226.ev rfl) one4 (m216.cell rfl) ?_)
 intro a227 hA228
 refine q_end ?_
 have hA229 : St 81 [(0, (.pointer (some ⟨g, 0, none⟩))), (3, (.pointer (some ⟨g3, 0, none⟩))), (4, (.bool false)), (5, (.pointer (some ⟨g36, 0, none⟩))), (62, (.bool true))] a227 := hA228.cut _ (fm_cons (hA228.get 0 _ rfl) (fm_cons (hA228.get 3 _ rfl) (fm_cons (hA228.get 4 _ rfl) (fm_cons (hA228.get 5 _ rfl) (fm_cons (hA228.get 62 _ rfl) fm_nil)))))
 refine t_norm ?_
 refine c_true hA229 rfl ?_
 have hA230 : St 81 [(0, (.pointer (some ⟨g, 0, none⟩))), (3, (.pointer (some ⟨g3, 0, none⟩))), (4, (.bool false)), (5, (.pointer (some ⟨g36, 0, none⟩)))] a227 := hA229.cut _ (fm_cons (hA229.get 0 _ rfl) (fm_cons (hA229.get 3 _ rfl) (fm_cons (hA229.get 4 _ rfl) (fm_cons (hA229.get 5 _ rfl) fm_nil))))
 let M231 : Nat → Option (Array Value) := fun _ => none
 have hM231 : M231 = fun _ => none := rfl
 clear_value M231
 have hM231A : ∀ k, M231 k = none := fun k => congrFun hM231 k
 have hM231B : ∀ k, k < Bd → M231 k = none := fun k _ => hM231A k
 refine drawnL (S := SM M231) rfl (tabL [cv (.pointer (some ⟨g, 0, none⟩)), cv (.pointer (some ⟨g3, 1, none⟩)), cv (.int .i64 ((d : Nat) : Int)), cv (.pointer (some ⟨g36, 8, none⟩)), cv (.int .i64 (I (getR (B u0) 0 i.size))), cv (.pointer (some ⟨g, 0, none⟩)), cv (.pointer (some ⟨g, 1, none⟩)), cv (.pointer (some ⟨g, 1 + d, none⟩))]) none (fun _ => none) (fun _ _ => True) [7, 4, 0, 1, 2, 3, 6, 5] [] mixedY SM.refl SM.trans hA230 (by kernel_rfl) (by kernel_rfl) (fun i v u w h => by cases h) ?_ ?_
 ·skip
  refine eachD_cons (.inl ⟨nofun, rfl, fun x y hS hT hk => d_move (wn rfl) (hT.ev rfl) ⟨SM.refl _, rfl⟩⟩) ?_
  refine eachD_cons (.inl ⟨nofun, rfl, fun x y hS hT hk => d_fieldAddr (wn rfl) (hT.ev rfl) fo23_1 ⟨SM.refl _, rfl⟩⟩) ?_
  refine eachD_cons (.inl ⟨nofun, rfl, fun x y hS hT hk => d_load (v := (.int .i64 ((d : Nat) : Int))) (wn rfl) (hk 1 rfl) one3 ((Blk.sm (w := w214.drew) m218 hS (hM231A _)).cell rfl) ⟨SM.refl _, rfl⟩⟩) ?_
  refine eachD_cons (.inl ⟨nofun, rfl, fun x y hS hT hk => d_fieldAddr (wn rfl) (hT.ev rfl) fo52_7 ⟨SM.refl _, rfl⟩⟩) ?_
  refine eachD_cons (.inl ⟨nofun, rfl, fun x y hS hT hk => d_load (v := (.int .i64 (I (getR (B u0) 0 i.size)))) (wn rfl) (hk 3 rfl) one3 ((Blk.sm (w := w214.drew) m216 hS (hM231A _)).cell rfl) ⟨SM.refl _, rfl⟩⟩) ?_
  refine eachD_cons (.inl ⟨nofun, rfl, fun x y hS hT hk => d_nilCheck (wn rfl) (hk 0 rfl) ⟨SM.refl _, rfl⟩⟩) ?_
  refine eachD_cons (.inl ⟨nofun, rfl, fun x y hS hT hk => d_fieldAddr (wn rfl) (hk 5 rfl) fo62_1 ⟨SM.refl _, rfl⟩⟩) ?_
  refine eachD_cons (.inl ⟨nofun, rfl, fun x y hS hT hk => d_indexArrP (j := d) (p := 1 + d) (wn rfl) (hk 6 rfl) (hk 2 rfl) arr43 (by omega) (by omega) ⟨SM.refl _, rfl⟩⟩) ?_
  exact eachD_one
 rintro a232 w233 hA234 ⟨hS236, hC237⟩
 have hA238 : St 81 [(0, (.pointer (some ⟨g, 0, none⟩))), (4, (.bool false)), (5, (.pointer (some ⟨g36, 0, none⟩))), (67, (.int .i64 (I (getR (B u0) 0 i.size)))), (70, (.pointer (some ⟨g, 1 + d, none⟩)))] a232 := hA234.cut _ (fm_cons (hA234.get 0 _ rfl) (fm_cons (hA234.get 4 _ rfl) (fm_cons (hA234.get 5 _ rfl) (fm_cons (hC237 4 (Nat.le_of_ble_eq_true rfl)) (fm_cons (hC237 7 (Nat.le_of_ble_eq_true rfl)) fm_nil)))))
 have hG239 : Grow w214 w233 := Grow.trans ((Grow.refl _).drew) (SM.grown (by rw [hM231] at hS236; exact hS236))
 have m240 := m217.grow hG239
 have m241 := m218.grow hG239
 have m242 := m216.grow hG239
 have b243 := below_grow b219 hG239 (Nat.le_trans hB b219.size)
 have ho244 := own_grow hG239 ho220
 have ho245 := own_grow hG239 ho221
 refine d_store (v := (.int .i64 (I (getR (B u0) 0 i.size)))) (wn rfl) (hA238.ev rfl) (hA238.ev rfl) one3 rfl m240 (by rw [walk_size]; omega) ?_
 intro w246 hU247 m248
 rw [walk_set (by omega)] at m248
 have m249 := m241.upd hU247 (Ne.symm n9)
 have m250 := m242.upd hU247 (Ne.symm n42)
 have b251 := hU247.below b243 hge
 have ho252 := own_upd ho244 hU247 oe
 have ho253 := own_upd ho245 hU247 op_
 have hA254 : St 81 [(0, (.pointer (some ⟨g, 0, none⟩))), (4, (.bool false)), (5, (.pointer (some ⟨g36, 0, none⟩)))] a232 := hA238.cut _ (fm_cons (hA238.get 0 _ rfl) (fm_cons (hA238.get 4 _ rfl) (fm_cons (hA238.get 5 _ rfl) fm_nil)))
 refine t_norm ?_
 refine wp_seq ?_
 have hA255 : St 81 [(0, (.pointer (some ⟨g, 0, none⟩))), (4, (.bool false)), (5, (.pointer (some ⟨g36, 0, none⟩)))] a232 := hA254.cut _ (fm_cons (hA254.get 0 _ rfl) (fm_cons (hA254.get 4 _ rfl) (fm_cons (hA254.get 5 _ rfl) fm_nil)))
 let M256 : Nat → Option (Array Value) := fun _ => none
 have hM256 : M256 = fun _ => none := rfl
 clear_value M256
 have hM256A : ∀ k, M256 k = none := fun k => congrFun hM256 k
 have hM256B : ∀ k, k < Bd → M256 k = none := fun k _ => hM256A k
 refine drawnL (S := SM M256) rfl (tabQ [some (.pointer (some ⟨g, 0, none⟩)), some (.pointer (some ⟨g, 0, none⟩)), some (.pointer (some ⟨g, 0, none⟩)), some (.pointer (some ⟨g, 10, none⟩)), none, none, none, none, some (.pointer (some ⟨g, 0, none⟩)), some (.pointer (some ⟨g, 10, none⟩))] [cv (.pointer (some ⟨g, 0, none⟩)), cv (.pointer (some ⟨g, 0, none⟩)), cv (.pointer (some ⟨g, 0, none⟩)), cv (.pointer (some ⟨g, 10, none⟩)), cv ev, cv (.agg #[.int .i64 0, .int .i64 ((path.length : Nat) : Int), .int .i64 p, .int .i64 6, .int .i64 i.loc, .int .i64 (maskR (placeR (B i.off) (B (orR r i.index 0)) i.size) i.size), .bool true, .bool true, .int .i64 (I (getR (B u0) 0 i.size)), .int .i64 (I (rmwR i.fn (B (I (getR (B u0) 0 i.size))) (B (r k)) i.size)), .bool i.acq, .bool i.weak, .bool i.rel, .int .i64 i.pred, .int .i64 i.succ]), cs1 M256 hM256A #[.int .i64 0, .int .i64 ((path.length : Nat) : Int), .int .i64 p, .int .i64 6, .int .i64 i.loc, .int .i64 (maskR (placeR (B i.off) (B (orR r i.index 0)) i.size) i.size), .bool true, .bool true, .int .i64 (I (getR (B u0) 0 i.size)), .int .i64 (I (rmwR i.fn (B (I (getR (B u0) 0 i.size))) (B (r k)) i.size)), .bool i.acq, .bool i.weak, .bool i.rel, .int .i64 i.pred, .int .i64 i.succ] 52, cfree, cv (.pointer (some ⟨g, 0, none⟩)), cv (.pointer (some ⟨g, 10, none⟩))]) (some 7) (fun i => (([some (.pointer (some ⟨g, 0, none⟩)), some (.pointer (some ⟨g, 0, none⟩)), some (.pointer (some ⟨g, 0, none⟩)), some (.pointer (some ⟨g, 10, none⟩)), none, none, none, none, some (.pointer (some ⟨g, 0, none⟩)), some (.pointer (some ⟨g, 10, none⟩))] : List (Option Value))[i]?).getD none) (fun v' w' => w'.ownsRow Bd 52 15 v' (evs.length + 1) ((evE evs) ++ (#[.int .i64 0, .int .i64 ((path.length : Nat) : Int), .int .i64 p, .int .i64 6, .int .i64 i.loc, .int .i64 (maskR (placeR (B i.off) (B (orR r i.index 0)) i.size) i.size), .bool true, .bool true, .int .i64 (I (getR (B u0) 0 i.size)), .int .i64 (I (rmwR i.fn (B (I (getR (B u0) 0 i.size))) (B (r k)) i.size)), .bool i.acq, .bool i.weak, .bool i.rel, .int .i64 i.pred, .int .i64 i.succ] : Array Value).toList) ∧ Below Bd w w' ∧ Blk w' g (walkC p (updR r d (I (getR (B u0) 0 i.size))) v167 ev pa) 62 ∧ Blk w' g3 (insC ⟨6, ((d : Nat) : Int), ((k : Nat) : Int), i.b, i.imm, i.loc, i.off, i.index, i.size, i.fn, i.acq, i.weak, i.rel, i.pred, i.succ, i.to, i.zero⟩) 23 ∧ Blk w' g36 #[.int .i64 0, .int .i64 ((path.length : Nat) : Int), .int .i64 p, .int .i64 6, .int .i64 i.loc, .int .i64 (maskR (placeR (B i.off) (B (orR r i.index 0)) i.size) i.size), .bool true, .bool true, .int .i64 (I (getR (B u0) 0 i.size)), .int .i64 (I (rmwR i.fn (B (I (getR (B u0) 0 i.size))) (B (r k)) i.size)), .bool i.acq, .bool i.weak, .bool i.rel, .int .i64 i.pred, .int .i64 i.succ] 52 ∧ w'.ownsRow Bd 3 1 pa path.length (paE path) ∧ v'.ownBlock ≠ some g ∧ v'.ownBlock ≠ some g3 ∧ v'.ownBlock ≠ some g36 ∧ ∀ k, pa.ownBlock = some k → v'.ownBlock ≠ some k) [9, 7, 0, 1, 2, 3, 4, 5, 6, 8] [4, 6, 3, 5, 2, 1] mixedY SM.refl SM.trans hA255 (by kernel_rfl) (by kernel_rfl) (tabQ_cv _ _) ?_ ?_
 ·skip
  refine eachD_cons (.inr (.inl ⟨by decide, _, rfl, fun x y hT hk hk0 => d_move (wn rfl) (hT.ev rfl) ⟨rfl, rfl⟩⟩)) ?_
  refine eachD_cons (.inr (.inl ⟨by decide, _, rfl, fun x y hT hk hk0 => d_move (wn rfl) (hT.ev rfl) ⟨rfl, rfl⟩⟩)) ?_
  refine eachD_cons (.inr (.inl ⟨by decide, _, rfl, fun x y hT hk hk0 => d_nilCheck (wn rfl) (hk 1 _ rfl rfl) ⟨rfl, rfl⟩⟩)) ?_
  refine eachD_cons (.inr (.inl ⟨by decide, _, rfl, fun x y hT hk hk0 => d_fieldAddr (wn rfl) (hk 2 _ rfl rfl) fo62_3 ⟨rfl, rfl⟩⟩)) ?_
  refine eachD_cons (.inl ⟨by decide, rfl, fun x y hS hT hk => d_load (v := ev) (wn rfl) (hk 3 rfl) one44 ((Blk.sm (w := w246.drew) m248 hS (hM256A _)).cell rfl) ⟨SM.refl _, rfl⟩⟩) ?_
  refine eachD_cons (.inl ⟨by decide, rfl, fun x y hS hT hk => d_loadRow (cs := #[.int .i64 0, .int .i64 ((path.length : Nat) : Int), .int .i64 p, .int .i64 6, .int .i64 i.loc, .int .i64 (maskR (placeR (B i.off) (B (orR r i.index 0)) i.size) i.size), .bool true, .bool true, .int .i64 (I (getR (B u0) 0 i.size)), .int .i64 (I (rmwR i.fn (B (I (getR (B u0) 0 i.size))) (B (r k)) i.size)), .bool i.acq, .bool i.weak, .bool i.rel, .int .i64 i.pred, .int .i64 i.succ]) (wn rfl) (hT.ev rfl) row52 (Blk.sm (w := w246.drew) m250 hS (hM256A _)) ⟨SM.refl _, rfl⟩⟩) ?_
  refine eachD_cons (.inl ⟨by decide, rfl, fun x y hS hT hk => d_slice1 (wn rfl) (show x.eval _ = (.agg #[.int .i64 0, .int .i64 ((path.length : Nat) : Int), .int .i64 p, .int .i64 6, .int .i64 i.loc, .int .i64 (maskR (placeR (B i.off) (B (orR r i.index 0)) i.size) i.size), .bool true, .bool true, .int .i64 (I (getR (B u0) 0 i.size)), .int .i64 (I (rmwR i.fn (B (I (getR (B u0) 0 i.size))) (B (r k)) i.size)), .bool i.acq, .bool i.weak, .bool i.rel, .int .i64 i.pred, .int .i64 i.succ]) from (hk 5 rfl)) elm44 rfl (by decide) (fun g w' _ hG hb => ⟨SM.grow hG, g, rfl, hb⟩)⟩) ?_
  refine eachD_cons (.inr (.inr ⟨rfl, fun x y hS hT hk => ?_⟩)) ?_
  ·skip
   obtain ⟨gb, hvb, hbb⟩ := hk 6 rfl
   have hG : Grow w246 y := Grow.trans ((Grow.refl _).drew) (SM.grown (by rw [hM256] at hS; exact hS))
   have hR := own_grow hG ho252
   have hO := own_grow hG ho253
   have hBl := below_grow b251 hG (Nat.le_trans hB b251.size)
   refine d_append (wn rfl) (show x.eval _ = ev from (hk 4 rfl)) hvb elm44 hR hbb rfl rfl (by omega) (by decide) (Nat.le_trans hB hBl.size) ?_
   intro v' w' h1 h2 h3
   exact ⟨h1, below_by hBl h2 (Nat.le_trans hB hBl.size) (fun k hk => (own_lt hR k hk).1), (m248.grow hG).by h2 oe, (m249.grow hG).by h2 off10, (m250.grow hG).by h2 off44, own_by hO h2 ap, lies_ne h3 oe (m248.grow hG).lt, lies_ne h3 off10 (m249.grow hG).lt, lies_ne h3 off44 (m250.grow hG).lt, lies_ap h3 ap hO⟩
  refine eachD_cons (.inr (.inl ⟨by decide, _, rfl, fun x y hT hk hk0 => d_nilCheck (wn rfl) (hk 0 _ rfl rfl) ⟨rfl, rfl⟩⟩)) ?_
  refine eachD_cons (.inr (.inl ⟨by decide, _, rfl, fun x y hT hk hk0 => d_fieldAddr (wn rfl) (hk 8 _ rfl rfl) fo62_3 ⟨rfl, rfl⟩⟩)) ?_
  exact eachD_one
 rintro a257 w258 hA259 ⟨hP261, hW262⟩
 obtain ⟨v263, hv264⟩ : ∃ v', v' = (a257.tmps.getD 78 undef) := ⟨_, rfl⟩
 have hW265 : (fun v' w' => w'.ownsRow Bd 52 15 v' (evs.length + 1) ((evE evs) ++ (#[.int .i64 0, .int .i64 ((path.length : Nat) : Int), .int .i64 p, .int .i64 6, .int .i64 i.loc, .int .i64 (maskR (placeR (B i.off) (B (orR r i.index 0)) i.size) i.size), .bool true, .bool true, .int .i64 (I (getR (B u0) 0 i.size)), .int .i64 (I (rmwR i.fn (B (I (getR (B u0) 0 i.size))) (B (r k)) i.size)), .bool i.acq, .bool i.weak, .bool i.rel, .int .i64 i.pred, .int .i64 i.succ] : Array Value).toList) ∧ Below Bd w w' ∧ Blk w' g (walkC p (updR r d (I (getR (B u0) 0 i.size))) v167 ev pa) 62 ∧ Blk w' g3 (insC ⟨6, ((d : Nat) : Int), ((k : Nat) : Int), i.b, i.imm, i.loc, i.off, i.index, i.size, i.fn, i.acq, i.weak, i.rel, i.pred, i.succ, i.to, i.zero⟩) 23 ∧ Blk w' g36 #[.int .i64 0, .int .i64 ((path.length : Nat) : Int), .int .i64 p, .int .i64 6, .int .i64 i.loc, .int .i64 (maskR (placeR (B i.off) (B (orR r i.index 0)) i.size) i.size), .bool true, .bool true, .int .i64 (I (getR (B u0) 0 i.size)), .int .i64 (I (rmwR i.fn (B (I (getR (B u0) 0 i.size))) (B (r k)) i.size)), .bool i.acq, .bool i.weak, .bool i.rel, .int .i64 i.pred, .int .i64 i.succ] 52 ∧ w'.ownsRow Bd 3 1 pa path.length (paE path) ∧ v'.ownBlock ≠ some g ∧ v'.ownBlock ≠ some g3 ∧ v'.ownBlock ≠ some g36 ∧ ∀ k, pa.ownBlock = some k → v'.ownBlock ≠ some k) v263 w258 := by rw [hv264]; exact hW262
 obtain ⟨ho266, b267, m268, m269, m270, ho271, off272, off273, off274, ap275⟩ := hW265
 have ap276 : ∀ k, v263.ownBlock = some k → pa.ownBlock ≠ some k := fun k h1 h2 => ap275 k h2 h1
 have hA277 : St 81 [(4, (.bool false)), (78, v263), (80, (.pointer (some ⟨g, 10, none⟩)))] a257 := hA259.cut _ (fm_cons (hA259.get 4 _ rfl) (fm_cons hv264.symm (fm_cons (hP261 9 _ (Nat.le_of_ble_eq_true rfl) (by decide) rfl) fm_nil)))
 refine d_store (v := v263) (wn rfl) (hA277.ev rfl) (hA277.ev rfl) one44 (one_slice (own_form ho266)) m268 (Nat.le_of_ble_eq_true rfl) ?_
 intro w278 hU279 (m280 : Blk w278 g (walkC p (updR r d (I (getR (B u0) 0 i.size))) v167 v263 pa) 62)
 have m281 := m269.upd hU279 (Ne.symm n9)
 have m282 := m270.upd hU279 (Ne.symm n42)
 have b283 := hU279.below b267 hge
 have ho284 := own_upd ho266 hU279 off272
 have ho285 := own_upd ho271 hU279 op_
 have hA286 : St 81 [(4, (.bool false))] a257 := hA277.cut _ (fm_cons (hA277.get 4 _ rfl) fm_nil)
 refine t_norm ?_
 refine wp_seq ?_
 refine wp_region_lit ?_
 refine q_step hA286 rfl (d_assign (wn rfl) (hA286.ev rfl) ?_)
 intro a287 hA288
 refine q_end ?_
 have hA289 : St 81 [(4, (.bool true))] a287 := hA288.cut _ (fm_cons (hA288.get 4 _ rfl) fm_nil)
 refine t_norm ?_
 refine wp_ret ?_
 refine ret1 rfl hA289 (v := (.bool true)) rfl ?_
 exact ⟨rfl, b283, v167, v263, pa, m280, hge, (hsl169.below b283), (by rw [List.length_append, ← evE_snoc]; exact ho284), ho285, off272, op_, ap275⟩
set_option maxHeartbeats 4000000 in
set_option maxRecDepth 4000 in
theorem access_6n (Bd g : Nat) (p : Int) (r : Nat → Int) (rd ev pa : Value) (i : Ins) (d k : Nat) (evs : List Ev) (path : List Int) (w : World) (hB : Bd ≤ w.heap.size) (hW : WS Bd g w p r ([] : List Int) evs path rd ev pa) (hne : evs.length ≤ 1000) (hnp : path.length ≤ 1000) (hr : ∀ k, wfI (r k)) (hix : ronB i.index = true) (hoff : wfI i.off) (hd : d < 8) : Calls Try.prog 48 #[.pointer (some ⟨g, 0, none⟩), .agg (insC ⟨6, ((d : Nat) : Int), ((k : Nat) : Int), i.b, i.imm, i.loc, i.off, i.index, i.size, i.fn, i.acq, i.weak, i.rel, i.pred, i.succ, i.to, i.zero⟩)] w fun e w' => e = .returned (.bool false) ∧ Below Bd w w' := by
 obtain ⟨hb, hge, hrd, hev, hpa, oe, op_, ap⟩ := hW
 have ap2 : ∀ k, ev.ownBlock = some k → pa.ownBlock ≠ some k := fun k h1 h2 => ap k h2 h1
 have b0 : Below Bd w w := Below.refl _ _
 refine enter (n := 81) Try.func48 rfl rfl (Nat.le_of_ble_eq_true rfl) ?_
 intro a1 hA2
 refine wp_seq ?_
 refine wp_region_lit ?_
 refine q_step hA2 rfl (d_box (wn rfl) (hA2.ev rfl) ?_)
 intro g3 w4 eg5 hG6 (m7 : Blk w4 g3 (insC ⟨6, ((d : Nat) : Int), ((k : Nat) : Int), i.b, i.imm, i.loc, i.off, i.index, i.size, i.fn, i.acq, i.weak, i.rel, i.pred, i.succ, i.to, i.zero⟩) 23)
 have ge8 : Bd ≤ g3 := eg5 ▸ (Nat.le_trans hB b0.size)
 have n9 : g ≠ g3 := fun h => Nat.lt_irrefl _ ((h.trans eg5) ▸ hb.lt)
 have off10 := own_new hev eg5
 have off11 := own_new hpa eg5
 have m12 := hb.grow hG6
 have b13 := below_grow b0 hG6 (Nat.le_trans hB b0.size)
 have ho14 := own_grow hG6 hev
 have ho15 := own_grow hG6 hpa
 intro a16 hA17
 refine q_step hA17 rfl (d_assign (wn rfl) (hA17.ev rfl) ?_)
 intro a18 hA19
 refine q_end ?_
 have hA20 : St 81 [(0, (.pointer (some ⟨g, 0, none⟩))), (3, (.pointer (some ⟨g3, 0, none⟩))), (4, (.bool false))] a18 := hA19.cut _ (fm_cons (hA19.get 0 _ rfl) (fm_cons (hA19.get 3 _ rfl) (fm_cons (hA19.get 4 _ rfl) fm_nil)))
 refine t_norm ?_
 refine wp_seq ?_
 refine wp_region_lit ?_
 refine q_step hA20 rfl (d_move (wn rfl) (hA20.ev rfl) ?_)
 intro a21 hA22
 refine q_step hA22 rfl (d_loadRow (cs := (insC ⟨6, ((d : Nat) : Int), ((k : Nat) : Int), i.b, i.imm, i.loc, i.off, i.index, i.size, i.fn, i.acq, i.weak, i.rel, i.pred, i.succ, i.to, i.zero⟩)) (wn rfl) (hA22.ev rfl) row23 m7 ?_)
 intro a23 hA24
 refine q_step hA24 rfl (d_call (wn rfl) ent49 (map2 (hA24.ev rfl) (hA24.ev rfl)) (event_any g p r rd ev pa (⟨6, ((d : Nat) : Int), ((k : Nat) : Int), i.b, i.imm, i.loc, i.off, i.index, i.size, i.fn, i.acq, i.weak, i.rel, i.pred, i.succ, i.to, i.zero⟩) path.length Bd (paE path) w4 m12 ho15) ?_)
 rintro e28 w25 ⟨he27, hG26⟩
 have m29 := m12.grow hG26
 have m30 := m7.grow hG26
 have b31 := below_grow b13 hG26 (Nat.le_trans hB b13.size)
 have ho32 := own_grow hG26 ho14
 have ho33 := own_grow hG26 ho15
 refine ⟨(.agg #[.int .i64 0, .int .i64 ((path.length : Nat) : Int), .int .i64 p, .int .i64 6, .int .i64 0, .int .i64 0, .bool true, .bool true, .int .i64 0, .int .i64 0, .bool i.acq, .bool i.weak, .bool i.rel, .int .i64 i.pred, .int .i64 i.succ]), he27, ?_⟩
 intro a34 hA35
 refine q_step hA35 rfl (d_alloc (wn rfl) zero52 ?_)
 intro g36 w37 eg38 hG39 (m40 : Blk w37 g36 #[.int .i64 0, .int .i64 0, .int .i64 0, .int .i64 0, .int .i64 0, .int .i64 0, .bool false, .bool false, .int .i64 0, .int .i64 0, .bool false, .bool false, .bool false, .int .i64 0, .int .i64 0] 52)
 have ge41 : Bd ≤ g36 := eg38 ▸ (Nat.le_trans hB b31.size)
 have n42 : g ≠ g36 := fun h => Nat.lt_irrefl _ ((h.trans eg38) ▸ m29.lt)
 have n43 : g3 ≠ g36 := fun h => Nat.lt_irrefl _ ((h.trans eg38) ▸ m30.lt)
 have off44 := own_new ho32 eg38
 have off45 := own_new ho33 eg38
 have m46 := m29.grow hG39
 have m47 := m30.grow hG39
 have b48 := below_grow b31 hG39 (Nat.le_trans hB b31.size)
 have ho49 := own_grow hG39 ho32
 have ho50 := own_grow hG39 ho33
 intro a51 hA52
 refine q_step hA52 rfl (d_storeRow (wn rfl) (hA52.ev rfl) (hA52.ev rfl) row52 m40 rfl rfl ?_)
 intro w53 hU54 (m55 : Blk w53 g36 #[.int .i64 0, .int .i64 ((path.length : Nat) : Int), .int .i64 p, .int .i64 6, .int .i64 0, .int .i64 0, .bool true, .bool true, .int .i64 0, .int .i64 0, .bool i.acq, .bool i.weak, .bool i.rel, .int .i64 i.pred, .int .i64 i.succ] 52)
 have m56 := m46.upd hU54 n42
 have m57 := m47.upd hU54 n43
 have b58 := hU54.below b48 ge41
 have ho59 := own_upd ho49 hU54 off44
 have ho60 := own_upd ho50 hU54 off45
 intro a61 hA62
 refine q_end ?_
 have hA63 : St 81 [(0, (.pointer (some ⟨g, 0, none⟩))), (3, (.pointer (some ⟨g3, 0, none⟩))), (4, (.bool false)), (5, (.pointer (some ⟨g36, 0, none⟩)))] a61 := hA62.cut _ (fm_cons (hA62.get 0 _ rfl) (fm_cons (hA62.get 3 _ rfl) (fm_cons (hA62.get 4 _ rfl) (fm_cons (hA62.get 5 _ rfl) fm_nil))))
 refine t_norm ?_
 refine wp_seq ?_
 have hA64 : St 81 [(0, (.pointer (some ⟨g, 0, none⟩))), (3, (.pointer (some ⟨g3, 0, none⟩))), (4, (.bool false)), (5, (.pointer (some ⟨g36, 0, none⟩)))] a61 := hA63.cut _ (fm_cons (hA63.get 0 _ rfl) (fm_cons (hA63.get 3 _ rfl) (fm_cons (hA63.get 4 _ rfl) (fm_cons (hA63.get 5 _ rfl) fm_nil))))
 let M65 : Nat → Option (Array Value) := fun _ => none
 have hM65 : M65 = fun _ => none := rfl
 clear_value M65
 have hM66 : M65 g = none := (congrFun hM65 g)
 have hM67 : M65 g3 = none := (congrFun hM65 g3)
 have hM68 : M65 g36 = none := (congrFun hM65 g36)
 have hM65B : ∀ k, k < Bd → M65 k = none := (fun k hk => (congrFun hM65 k))
 refine drawn (S := SM M65) (tabL [cv (.pointer (some ⟨g3, 6, none⟩)), cv (.int .i64 i.off), cv (.pointer (some ⟨g, 0, none⟩)), cv (.pointer (some ⟨g3, 7, none⟩)), cv (.int .i64 i.index), cv (.int .i64 (orR r i.index 0)), cv (.pointer (some ⟨g3, 8, none⟩)), cv (.int .i64 i.size), cv (.int .i64 (placeR (B i.off) (B (orR r i.index 0)) i.size)), cv (.int .i64 (placeR (B i.off) (B (orR r i.index 0)) i.size))]) mixedY SM.refl SM.trans SM.drew hA64 (by kernel_rfl) ?_ ?_
 ·skip
  refine each_cons (fun x y hS hT hk => d_fieldAddr (wn rfl) (hT.ev rfl) fo23_6 ⟨SM.refl _, rfl⟩) ?_
  refine each_cons (fun x y hS hT hk => d_load (v := (.int .i64 i.off)) (wn rfl) (hk 0 rfl) one3 ((Blk.sm (w := w53.drew) m57 hS hM67).cell rfl) ⟨SM.refl _, rfl⟩) ?_
  refine each_cons (fun x y hS hT hk => d_move (wn rfl) (hT.ev rfl) ⟨SM.refl _, rfl⟩) ?_
  refine each_cons (fun x y hS hT hk => d_fieldAddr (wn rfl) (hT.ev rfl) fo23_7 ⟨SM.refl _, rfl⟩) ?_
  refine each_cons (fun x y hS hT hk => d_load (v := (.int .i64 i.index)) (wn rfl) (hk 3 rfl) one3 ((Blk.sm (w := w53.drew) m57 hS hM67).cell rfl) ⟨SM.refl _, rfl⟩) ?_
  refine each_cons (fun x y hS hT hk => d_call (wn rfl) ent47 (map3 (show x.eval _ = (.pointer (some ⟨g, 0, none⟩)) from (hk 2 rfl)) (show x.eval _ = (.int .i64 i.index) from (hk 4 rfl)) (show x.eval _ = (.int .i64 0) from (hT.ev rfl))) (regOr_any g p r rd ev pa i.index 0 y (Blk.sm (w := w53.drew) m56 hS hM66) hix) (fun _ _ ⟨he, hG⟩ => ⟨(.int .i64 (orR r i.index 0)), he, SM.grow hG, rfl⟩)) ?_
  refine each_cons (fun x y hS hT hk => d_fieldAddr (wn rfl) (hT.ev rfl) fo23_8 ⟨SM.refl _, rfl⟩) ?_
  refine each_cons (fun x y hS hT hk => d_load (v := (.int .i64 i.size)) (wn rfl) (hk 6 rfl) one3 ((Blk.sm (w := w53.drew) m57 hS hM67).cell rfl) ⟨SM.refl _, rfl⟩) ?_
  refine each_cons (fun x y hS hT hk => d_call (wn rfl) ent57 (map3 (show x.eval _ = (.int .i64 i.off) from (hk 1 rfl)) (show x.eval _ = (.int .i64 (orR r i.index 0)) from (hk 5 rfl)) (show x.eval _ = (.int .i64 i.size) from (hk 7 rfl))) (place_w i.off (orR r i.index 0) i.size y hoff (wf_or hr wf_0)) (fun _ _ ⟨he, hw⟩ => ⟨(.int .i64 (placeR (B i.off) (B (orR r i.index 0)) i.size)), he, hw ▸ SM.refl _, rfl⟩)) ?_
  refine each_cons (fun x y hS hT hk => d_assign (wn rfl) (hk 8 rfl) ⟨SM.refl _, rfl⟩) ?_
  exact each_nil
 intro f69 a70 w71 hS72 hC73 hA74
 have hA75 : St 81 [(0, (.pointer (some ⟨g, 0, none⟩))), (3, (.pointer (some ⟨g3, 0, none⟩))), (4, (.bool false)), (5, (.pointer (some ⟨g36, 0, none⟩))), (6, (.int .i64 (placeR (B i.off) (B (orR r i.index 0)) i.size)))] a70 := hA74.cut _ (fm_cons (hA74.get 0 _ rfl) (fm_cons (hA74.get 3 _ rfl) (fm_cons (hA74.get 4 _ rfl) (fm_cons (hA74.get 5 _ rfl) (fm_cons ((hA74.get 6 _ rfl).trans (hC73 9 (Nat.le_of_ble_eq_true rfl))) fm_nil)))))
 have m76 := m56.sm hS72 hM66
 have m77 := m57.sm hS72 hM67
 have m78 := m55.sm hS72 hM68
 have b79 := hS72.below b58 (Nat.le_trans hB b58.size) hM65B
 have ho80 := own_sm ho59 hS72 (fun k => congrFun hM65 k)
 have ho81 := own_sm ho60 hS72 (fun k => congrFun hM65 k)
 refine t_norm ?_
 refine wp_seq ?_
 have hA82 : St 81 [(0, (.pointer (some ⟨g, 0, none⟩))), (3, (.pointer (some ⟨g3, 0, none⟩))), (4, (.bool false)), (5, (.pointer (some ⟨g36, 0, none⟩))), (6, (.int .i64 (placeR (B i.off) (B (orR r i.index 0)) i.size)))] a70 := hA75.cut _ (fm_cons (hA75.get 0 _ rfl) (fm_cons (hA75.get 3 _ rfl) (fm_cons (hA75.get 4 _ rfl) (fm_cons (hA75.get 5 _ rfl) (fm_cons (hA75.get 6 _ rfl) fm_nil)))))
 let M83 : Nat → Option (Array Value) := fun _ => none
 have hM83 : M83 = fun _ => none := rfl
 clear_value M83
 have hM83A : ∀ k, M83 k = none := fun k => congrFun hM83 k
 have hM83B : ∀ k, k < Bd → M83 k = none := fun k _ => hM83A k
 refine drawnL (S := SM M83) rfl (tabL [cv (.pointer (some ⟨g3, 5, none⟩)), cv (.int .i64 i.loc), cv (.int .i64 (placeR (B i.off) (B (orR r i.index 0)) i.size)), cv (.pointer (some ⟨g3, 8, none⟩)), cv (.int .i64 i.size), cv (.int .i64 (maskR (placeR (B i.off) (B (orR r i.index 0)) i.size) i.size)), cv (.agg #[.int .i64 i.loc, .int .i64 (maskR (placeR (B i.off) (B (orR r i.index 0)) i.size) i.size)]), cv (.pointer (some ⟨g36, 4, none⟩))]) none (fun _ => none) (fun _ _ => True) [7, 6, 5, 0, 1, 2, 3, 4] [] mixedY SM.refl SM.trans hA82 (by kernel_rfl) (by kernel_rfl) (fun i v u w h => by cases h) ?_ ?_
 ·skip
  refine eachD_cons (.inl ⟨nofun, rfl, fun x y hS hT hk => d_fieldAddr (wn rfl) (hT.ev rfl) fo23_5 ⟨SM.refl _, rfl⟩⟩) ?_
  refine eachD_cons (.inl ⟨nofun, rfl, fun x y hS hT hk => d_load (v := (.int .i64 i.loc)) (wn rfl) (hk 0 rfl) one3 ((Blk.sm (w := w71.drew) m77 hS (hM83A _)).cell rfl) ⟨SM.refl _, rfl⟩⟩) ?_
  refine eachD_cons (.inl ⟨nofun, rfl, fun x y hS hT hk => d_move (wn rfl) (hT.ev rfl) ⟨SM.refl _, rfl⟩⟩) ?_
  refine eachD_cons (.inl ⟨nofun, rfl, fun x y hS hT hk => d_fieldAddr (wn rfl) (hT.ev rfl) fo23_8 ⟨SM.refl _, rfl⟩⟩) ?_
  refine eachD_cons (.inl ⟨nofun, rfl, fun x y hS hT hk => d_load (v := (.int .i64 i.size)) (wn rfl) (hk 3 rfl) one3 ((Blk.sm (w := w71.drew) m77 hS (hM83A _)).cell rfl) ⟨SM.refl _, rfl⟩⟩) ?_
  refine eachD_cons (.inl ⟨nofun, rfl, fun x y hS hT hk => d_call (wn rfl) ent55 (map2 (show x.eval _ = (.int .i64 (placeR (B i.off) (B (orR r i.index 0)) i.size)) from (hk 2 rfl)) (show x.eval _ = (.int .i64 i.size) from (hk 4 rfl))) (mask_all (placeR (B i.off) (B (orR r i.index 0)) i.size) i.size y) (fun _ _ ⟨he, hw⟩ => ⟨(.int .i64 (maskR (placeR (B i.off) (B (orR r i.index 0)) i.size) i.size)), he, hw ▸ SM.refl _, rfl⟩)⟩) ?_
  refine eachD_cons (.inl ⟨nofun, rfl, fun x y hS hT hk => d_build (cs := #[.int .i64 i.loc, .int .i64 (maskR (placeR (B i.off) (B (orR r i.index 0)) i.size) i.size)]) (wn rfl) (bp_of (bq_cons (show x.eval _ = (.int .i64 i.loc) from (hk 1 rfl)) (bq_cons (show x.eval _ = (.int .i64 (maskR (placeR (B i.off) (B (orR r i.index 0)) i.size) i.size)) from (hk 5 rfl)) bq_nil))) zero50 places50 (by kernel_rfl) ⟨SM.refl _, rfl⟩⟩) ?_
  refine eachD_cons (.inl ⟨nofun, rfl, fun x y hS hT hk => d_fieldAddr (wn rfl) (hT.ev rfl) fo52_4 ⟨SM.refl _, rfl⟩⟩) ?_
  exact eachD_one
 rintro a84 w85 hA86 ⟨hS88, hC89⟩
 have hA90 : St 81 [(0, (.pointer (some ⟨g, 0, none⟩))), (3, (.pointer (some ⟨g3, 0, none⟩))), (4, (.bool false)), (5, (.pointer (some ⟨g36, 0, none⟩))), (25, (.agg #[.int .i64 i.loc, .int .i64 (maskR (placeR (B i.off) (B (orR r i.index 0)) i.size) i.size)])), (26, (.pointer (some ⟨g36, 4, none⟩)))] a84 := hA86.cut _ (fm_cons (hA86.get 0 _ rfl) (fm_cons (hA86.get 3 _ rfl) (fm_cons (hA86.get 4 _ rfl) (fm_cons (hA86.get 5 _ rfl) (fm_cons (hC89 6 (Nat.le_of_ble_eq_true rfl)) (fm_cons (hC89 7 (Nat.le_of_ble_eq_true rfl)) fm_nil))))))
 have hG91 : Grow w71 w85 := Grow.trans ((Grow.refl _).drew) (SM.grown (by rw [hM83] at hS88; exact hS88))
 have m92 := m76.grow hG91
 have m93 := m77.grow hG91
 have m94 := m78.grow hG91
 have b95 := below_grow b79 hG91 (Nat.le_trans hB b79.size)
 have ho96 := own_grow hG91 ho80
 have ho97 := own_grow hG91 ho81
 refine d_store2 (wn rfl) (hA90.ev rfl) (hA90.ev rfl) row50 rfl rfl m94 (Nat.le_of_ble_eq_true rfl) ?_
 intro w98 hU99 (m100 : Blk w98 g36 #[.int .i64 0, .int .i64 ((path.length : Nat) : Int), .int .i64 p, .int .i64 6, .int .i64 i.loc, .int .i64 (maskR (placeR (B i.off) (B (orR r i.index 0)) i.size) i.size), .bool true, .bool true, .int .i64 0, .int .i64 0, .bool i.acq, .bool i.weak, .bool i.rel, .int .i64 i.pred, .int .i64 i.succ] 52)
 have m101 := m92.upd hU99 n42
 have m102 := m93.upd hU99 n43
 have b103 := hU99.below b95 ge41
 have ho104 := own_upd ho96 hU99 off44
 have ho105 := own_upd ho97 hU99 off45
 have hA106 : St 81 [(0, (.pointer (some ⟨g, 0, none⟩))), (3, (.pointer (some ⟨g3, 0, none⟩))), (4, (.bool false)), (5, (.pointer (some ⟨g36, 0, none⟩)))] a84 := hA90.cut _ (fm_cons (hA90.get 0 _ rfl) (fm_cons (hA90.get 3 _ rfl) (fm_cons (hA90.get 4 _ rfl) (fm_cons (hA90.get 5 _ rfl) fm_nil))))
 refine t_norm ?_
 refine wp_seq ?_
 refine wp_seq ?_
 refine wp_region_lit ?_
 refine q_step hA106 rfl (d_fieldAddr (wn rfl) (hA106.ev rfl) fo52_5 ?_)
 intro a107 hA108
 refine q_step hA108 rfl (d_load (v := (.bool true)) (wn rfl) (hA108.ev rfl) one4 (m100.cell rfl) ?_)
 intro a109 hA110
 refine q_end ?_
 have hA111 : St 81 [(0, (.pointer (some ⟨g, 0, none⟩))), (3, (.pointer (some ⟨g3, 0, none⟩))), (4, (.bool false)), (5, (.pointer (some ⟨g36, 0, none⟩))), (28, (.bool true))] a109 := hA110.cut _ (fm_cons (hA110.get 0 _ rfl) (fm_cons (hA110.get 3 _ rfl) (fm_cons (hA110.get 4 _ rfl) (fm_cons (hA110.get 5 _ rfl) (fm_cons (hA110.get 28 _ rfl) fm_nil)))))
 refine t_norm ?_
 refine c_true hA111 rfl ?_
 refine wp_seq ?_
 refine wp_seq ?_
 refine wp_region_lit ?_
 refine q_step hA111 rfl (d_move (wn rfl) (hA111.ev rfl) ?_)
 intro a112 hA113
 refine q_step hA113 rfl (d_nilCheck (wn rfl) (hA113.ev rfl) ?_)
 intro a114 hA115
 refine q_step hA115 rfl (d_fieldAddr (wn rfl) (hA115.ev rfl) fo62_2 ?_)
 intro a116 hA117
 refine q_step hA117 rfl (d_load (v := rd) (wn rfl) (hA117.ev rfl) one30 (m101.cell rfl) ?_)
 intro a118 hA119
 refine q_step hA119 rfl (d_len (n := 0) (wn rfl) (hA119.ev rfl) slc30 hrd.form ?_)
 intro a120 hA121
 refine q_step hA121 rfl (d_bin (wn rfl) (hA121.ev rfl) (hA121.ev rfl) (b_eq _ _ 0 0 true _ rfl) ?_)
 intro a122 hA123
 refine q_end ?_
 have hA124 : St 81 [(0, (.pointer (some ⟨g, 0, none⟩))), (3, (.pointer (some ⟨g3, 0, none⟩))), (4, (.bool false)), (5, (.pointer (some ⟨g36, 0, none⟩))), (34, (.bool true))] a122 := hA123.cut _ (fm_cons (hA123.get 0 _ rfl) (fm_cons (hA123.get 3 _ rfl) (fm_cons (hA123.get 4 _ rfl) (fm_cons (hA123.get 5 _ rfl) (fm_cons (hA123.get 34 _ rfl) fm_nil)))))
 refine t_norm ?_
 refine c_true hA124 rfl ?_
 refine wp_seq ?_
 refine wp_region_lit ?_
 refine q_step hA124 rfl (d_assign (wn rfl) (hA124.ev rfl) ?_)
 intro a125 hA126
 refine q_end ?_
 have hA127 : St 81 [(0, (.pointer (some ⟨g, 0, none⟩))), (3, (.pointer (some ⟨g3, 0, none⟩))), (4, (.bool false)), (5, (.pointer (some ⟨g36, 0, none⟩)))] a125 := hA126.cut _ (fm_cons (hA126.get 0 _ rfl) (fm_cons (hA126.get 3 _ rfl) (fm_cons (hA126.get 4 _ rfl) (fm_cons (hA126.get 5 _ rfl) fm_nil))))
 refine t_norm ?_
 refine wp_ret ?_
 refine t_ret ?_
 refine t_ret ?_
 refine ret1 rfl hA127 (v := (.bool false)) rfl ?_
 exact ⟨rfl, b103⟩
end Go.Proofs.Ytlhompedcphnnaa
/- A step of the walk. -/
namespace Go.Proofs.Ytlhompedcphnnaa
open Go.RowKit
set_option linter.unusedSimpArgs false
set_option linter.unusedVariables false
set_option maxHeartbeats 4000000 in
set_option maxRecDepth 4000 in
theorem step_5 (Bd g : Nat) (p : Int) (r : Nat → Int) (rd ev pa : Value) (i : Ins) (rds : List Int) (evs : List Ev) (path : List Int) (w : World) (hB : Bd ≤ w.heap.size) (hW : WS Bd g w p r rds evs path rd ev pa) (hne : evs.length ≤ 1000) (hnp : path.length ≤ 1000) (hr : ∀ k, wfI (r k)) (hp : 0 ≤ p) (hp2 : p ≤ 1000) (hix : ronB i.index = true) (hoff : wfI i.off) (ha : ronB i.a = true) (himm : wfI i.imm) : Calls Try.prog 36 #[.pointer (some ⟨g, 0, none⟩), .agg (insC ⟨5, i.dst, i.a, i.b, i.imm, i.loc, i.off, i.index, i.size, i.fn, i.acq, i.weak, i.rel, i.pred, i.succ, i.to, i.zero⟩)] w fun e w' => e = .returned (.bool true) ∧ Below Bd w w' ∧ ∃ rd' ev' pa', WS Bd g w' (p + 1) r rds (evs ++ [acc5 i r path.length p]) (path ++ [p]) rd' ev' pa' := by
 obtain ⟨hb, hge, hrd, hev, hpa, oe, op_, ap⟩ := hW
 have ap2 : ∀ k, ev.ownBlock = some k → pa.ownBlock ≠ some k := fun k h1 h2 => ap k h2 h1
 have b0 : Below Bd w w := Below.refl _ _
 refine enter (n := 117) Try.func36 rfl rfl (Nat.le_of_ble_eq_true rfl) ?_
 intro a1 hA2
 refine wp_seq ?_
 refine wp_region_lit ?_
 refine q_step hA2 rfl (d_box (wn rfl) (hA2.ev rfl) ?_)
 intro g3 w4 eg5 hG6 (m7 : Blk w4 g3 (insC ⟨5, i.dst, i.a, i.b, i.imm, i.loc, i.off, i.index, i.size, i.fn, i.acq, i.weak, i.rel, i.pred, i.succ, i.to, i.zero⟩) 23)
 have ge8 : Bd ≤ g3 := eg5 ▸ (Nat.le_trans hB b0.size)
 have n9 : g ≠ g3 := fun h => Nat.lt_irrefl _ ((h.trans eg5) ▸ hb.lt)
 have off10 := own_new hev eg5
 have off11 := own_new hpa eg5
 have m12 := hb.grow hG6
 have b13 := below_grow b0 hG6 (Nat.le_trans hB b0.size)
 have ho14 := own_grow hG6 hev
 have ho15 := own_grow hG6 hpa
 intro a16 hA17
 refine q_step hA17 rfl (d_assign (wn rfl) (hA17.ev rfl) ?_)
 intro a18 hA19
 refine q_end ?_
 have hA20 : St 117 [(0, (.pointer (some ⟨g, 0, none⟩))), (3, (.pointer (some ⟨g3, 0, none⟩))), (4, (.bool false))] a18 := hA19.cut _ (fm_cons (hA19.get 0 _ rfl) (fm_cons (hA19.get 3 _ rfl) (fm_cons (hA19.get 4 _ rfl) fm_nil)))
 refine t_norm ?_
 refine wp_seq ?_
 refine wp_region_lit ?_
 refine q_step hA20 rfl (d_move (wn rfl) (hA20.ev rfl) ?_)
 intro a21 hA22
 refine q_step hA22 rfl (d_nilCheck (wn rfl) (hA22.ev rfl) ?_)
 intro a23 hA24
 refine q_step hA24 rfl (d_fieldAddr (wn rfl) (hA24.ev rfl) fo62_0 ?_)
 intro a25 hA26
 refine q_step hA26 rfl (d_load (v := (.int .i64 p)) (wn rfl) (hA26.ev rfl) one3 (m12.cell rfl) ?_)
 intro a27 hA28
 refine q_step hA28 rfl (d_bin (wn rfl) (hA28.ev rfl) (hA28.ev rfl) (b_add _ _ p 1 _ (by omega) (by omega)) ?_)
 intro a29 hA30
 refine q_step hA30 rfl (d_assign (wn rfl) (hA30.ev rfl) ?_)
 intro a31 hA32
 refine q_end ?_
 have hA33 : St 117 [(0, (.pointer (some ⟨g, 0, none⟩))), (3, (.pointer (some ⟨g3, 0, none⟩))), (4, (.bool false)), (5, (.int .i64 (p + 1)))] a31 := hA32.cut _ (fm_cons (hA32.get 0 _ rfl) (fm_cons (hA32.get 3 _ rfl) (fm_cons (hA32.get 4 _ rfl) (fm_cons (hA32.get 5 _ rfl) fm_nil))))
 refine t_norm ?_
 refine wp_seq ?_
 refine wp_seq ?_
 refine wp_region_lit ?_
 refine q_step hA33 rfl (d_fieldAddr (wn rfl) (hA33.ev rfl) fo23_0 ?_)
 intro a34 hA35
 refine q_step hA35 rfl (d_load (v := (.int .i64 5)) (wn rfl) (hA35.ev rfl) one3 (m7.cell rfl) ?_)
 intro a36 hA37
 refine q_end ?_
 have hA38 : St 117 [(0, (.pointer (some ⟨g, 0, none⟩))), (3, (.pointer (some ⟨g3, 0, none⟩))), (4, (.bool false)), (5, (.int .i64 (p + 1))), (12, (.int .i64 5))] a36 := hA37.cut _ (fm_cons (hA37.get 0 _ rfl) (fm_cons (hA37.get 3 _ rfl) (fm_cons (hA37.get 4 _ rfl) (fm_cons (hA37.get 5 _ rfl) (fm_cons (hA37.get 12 _ rfl) fm_nil)))))
 refine t_norm ?_
 refine wp_block ?_
 refine wp_seq ?_
 refine wp_region_lit ?_
 refine q_step hA38 rfl (d_bin (wn rfl) (hA38.ev rfl) (hA38.ev rfl) (b_eq _ _ 5 1 false _ rfl) ?_)
 intro a39 hA40
 refine q_step hA40 rfl (d_assign (wn rfl) (hA40.ev rfl) ?_)
 intro a41 hA42
 refine q_end ?_
 have hA43 : St 117 [(0, (.pointer (some ⟨g, 0, none⟩))), (3, (.pointer (some ⟨g3, 0, none⟩))), (4, (.bool false)), (5, (.int .i64 (p + 1))), (12, (.int .i64 5)), (13, (.bool false))] a41 := hA42.cut _ (fm_cons (hA42.get 0 _ rfl) (fm_cons (hA42.get 3 _ rfl) (fm_cons (hA42.get 4 _ rfl) (fm_cons (hA42.get 5 _ rfl) (fm_cons (hA42.get 12 _ rfl) (fm_cons (hA42.get 13 _ rfl) fm_nil))))))
 refine t_norm ?_
 refine c_false hA43 rfl ?_
 refine wp_seq ?_
 refine wp_region_lit ?_
 refine q_step hA43 rfl (d_bin (wn rfl) (hA43.ev rfl) (hA43.ev rfl) (b_eq _ _ 5 2 false _ rfl) ?_)
 intro a44 hA45
 refine q_step hA45 rfl (d_assign (wn rfl) (hA45.ev rfl) ?_)
 intro a46 hA47
 refine q_end ?_
 have hA48 : St 117 [(0, (.pointer (some ⟨g, 0, none⟩))), (3, (.pointer (some ⟨g3, 0, none⟩))), (4, (.bool false)), (5, (.int .i64 (p + 1))), (12, (.int .i64 5)), (23, (.bool false))] a46 := hA47.cut _ (fm_cons (hA47.get 0 _ rfl) (fm_cons (hA47.get 3 _ rfl) (fm_cons (hA47.get 4 _ rfl) (fm_cons (hA47.get 5 _ rfl) (fm_cons (hA47.get 12 _ rfl) (fm_cons (hA47.get 23 _ rfl) fm_nil))))))
 refine t_norm ?_
 refine c_false hA48 rfl ?_
 refine wp_seq ?_
 refine wp_region_lit ?_
 refine q_step hA48 rfl (d_bin (wn rfl) (hA48.ev rfl) (hA48.ev rfl) (b_eq _ _ 5 3 false _ rfl) ?_)
 intro a49 hA50
 refine q_step hA50 rfl (d_assign (wn rfl) (hA50.ev rfl) ?_)
 intro a51 hA52
 refine q_end ?_
 have hA53 : St 117 [(0, (.pointer (some ⟨g, 0, none⟩))), (3, (.pointer (some ⟨g3, 0, none⟩))), (4, (.bool false)), (5, (.int .i64 (p + 1))), (12, (.int .i64 5)), (38, (.bool false))] a51 := hA52.cut _ (fm_cons (hA52.get 0 _ rfl) (fm_cons (hA52.get 3 _ rfl) (fm_cons (hA52.get 4 _ rfl) (fm_cons (hA52.get 5 _ rfl) (fm_cons (hA52.get 12 _ rfl) (fm_cons (hA52.get 38 _ rfl) fm_nil))))))
 refine t_norm ?_
 refine c_false hA53 rfl ?_
 refine wp_seq ?_
 refine wp_seq ?_
 refine wp_region_lit ?_
 refine q_step hA53 rfl (d_bin (wn rfl) (hA53.ev rfl) (hA53.ev rfl) (b_eq _ _ 5 4 false _ rfl) ?_)
 intro a54 hA55
 refine q_step hA55 rfl (d_assign (wn rfl) (hA55.ev rfl) ?_)
 intro a56 hA57
 refine q_end ?_
 have hA58 : St 117 [(0, (.pointer (some ⟨g, 0, none⟩))), (3, (.pointer (some ⟨g3, 0, none⟩))), (4, (.bool false)), (5, (.int .i64 (p + 1))), (12, (.int .i64 5)), (62, (.bool false))] a56 := hA57.cut _ (fm_cons (hA57.get 0 _ rfl) (fm_cons (hA57.get 3 _ rfl) (fm_cons (hA57.get 4 _ rfl) (fm_cons (hA57.get 5 _ rfl) (fm_cons (hA57.get 12 _ rfl) (fm_cons (hA57.get 62 _ rfl) fm_nil))))))
 refine t_norm ?_
 refine c_false hA58 rfl ?_
 refine wp_seq ?_
 refine wp_region_lit ?_
 refine q_step hA58 rfl (d_bin (wn rfl) (hA58.ev rfl) (hA58.ev rfl) (b_eq _ _ 5 5 true _ rfl) ?_)
 intro a59 hA60
 refine q_step hA60 rfl (d_assign (wn rfl) (hA60.ev rfl) ?_)
 intro a61 hA62
 refine q_end ?_
 have hA63 : St 117 [(0, (.pointer (some ⟨g, 0, none⟩))), (3, (.pointer (some ⟨g3, 0, none⟩))), (4, (.bool false)), (5, (.int .i64 (p + 1))), (12, (.int .i64 5)), (62, (.bool true))] a61 := hA62.cut _ (fm_cons (hA62.get 0 _ rfl) (fm_cons (hA62.get 3 _ rfl) (fm_cons (hA62.get 4 _ rfl) (fm_cons (hA62.get 5 _ rfl) (fm_cons (hA62.get 12 _ rfl) (fm_cons (hA62.get 62 _ rfl) fm_nil))))))
 refine t_norm ?_
 refine c_true hA63 rfl ?_
 refine wp_skip ?_
 refine t_norm ?_
 refine c_true hA63 rfl ?_
 refine wp_seq ?_
 refine wp_region_lit ?_
 refine q_step hA63 rfl (d_move (wn rfl) (hA63.ev rfl) ?_)
 intro a64 hA65
 refine q_step hA65 rfl (d_loadRow (cs := (insC ⟨5, i.dst, i.a, i.b, i.imm, i.loc, i.off, i.index, i.size, i.fn, i.acq, i.weak, i.rel, i.pred, i.succ, i.to, i.zero⟩)) (wn rfl) (hA65.ev rfl) row23 m7 ?_)
 intro a66 hA67
 refine q_step hA67 rfl (d_call (wn rfl) ent48 (map2 (hA67.ev rfl) (hA67.ev rfl)) (access_5 Bd g p r rd ev pa i rds evs path w4 (Nat.le_trans hB b13.size) ⟨m12, hge, (hrd.below b13), ho14, ho15, oe, op_, ap⟩ hne hnp hr hix hoff ha himm) ?_)
 rintro e71 w68 ⟨he70, bl72, rd73, ev74, pa75, hb76, _, hrd77, hev78, hpa79, oe80, op81, ap82⟩
 have ap83 : ∀ k, ev74.ownBlock = some k → pa75.ownBlock ≠ some k := fun k h1 h2 => ap82 k h2 h1
 have b84 := b13.trans bl72
 refine ⟨.bool true, he70, ?_⟩
 intro a85 hA86
 refine q_step hA86 rfl (d_not (wn rfl) (hA86.ev rfl) ?_)
 intro a87 hA88
 refine q_end ?_
 have hA89 : St 117 [(0, (.pointer (some ⟨g, 0, none⟩))), (4, (.bool false)), (5, (.int .i64 (p + 1))), (69, (.bool false))] a87 := hA88.cut _ (fm_cons (hA88.get 0 _ rfl) (fm_cons (hA88.get 4 _ rfl) (fm_cons (hA88.get 5 _ rfl) (fm_cons (hA88.get 69 _ rfl) fm_nil))))
 refine t_norm ?_
 refine c_false hA89 rfl ?_
 refine wp_skip ?_
 refine i_norm ?_
 refine t_norm ?_
 refine wp_seq ?_
 have hA90 : St 117 [(0, (.pointer (some ⟨g, 0, none⟩))), (4, (.bool false)), (5, (.int .i64 (p + 1)))] a87 := hA89.cut _ (fm_cons (hA89.get 0 _ rfl) (fm_cons (hA89.get 4 _ rfl) (fm_cons (hA89.get 5 _ rfl) fm_nil)))
 let M91 : Nat → Option (Array Value) := fun _ => none
 have hM91 : M91 = fun _ => none := rfl
 clear_value M91
 have hM91A : ∀ k, M91 k = none := fun k => congrFun hM91 k
 have hM91B : ∀ k, k < Bd → M91 k = none := fun k _ => hM91A k
 refine drawnL (S := SM M91) rfl (tabQ [some (.pointer (some ⟨g, 0, none⟩)), some (.pointer (some ⟨g, 0, none⟩)), some (.pointer (some ⟨g, 0, none⟩)), some (.pointer (some ⟨g, 11, none⟩)), none, some (.pointer (some ⟨g, 0, none⟩)), some (.pointer (some ⟨g, 0, none⟩)), some (.pointer (some ⟨g, 0, none⟩)), none, none, none, some (.pointer (some ⟨g, 0, none⟩)), some (.pointer (some ⟨g, 11, none⟩))] [cv (.pointer (some ⟨g, 0, none⟩)), cv (.pointer (some ⟨g, 0, none⟩)), cv (.pointer (some ⟨g, 0, none⟩)), cv (.pointer (some ⟨g, 11, none⟩)), cv pa75, cv (.pointer (some ⟨g, 0, none⟩)), cv (.pointer (some ⟨g, 0, none⟩)), cv (.pointer (some ⟨g, 0, none⟩)), cv (.int .i64 p), cs1 M91 hM91A #[.int .i64 p] 3, cfree, cv (.pointer (some ⟨g, 0, none⟩)), cv (.pointer (some ⟨g, 11, none⟩))]) (some 10) (fun i => (([some (.pointer (some ⟨g, 0, none⟩)), some (.pointer (some ⟨g, 0, none⟩)), some (.pointer (some ⟨g, 0, none⟩)), some (.pointer (some ⟨g, 11, none⟩)), none, some (.pointer (some ⟨g, 0, none⟩)), some (.pointer (some ⟨g, 0, none⟩)), some (.pointer (some ⟨g, 0, none⟩)), none, none, none, some (.pointer (some ⟨g, 0, none⟩)), some (.pointer (some ⟨g, 11, none⟩))] : List (Option Value))[i]?).getD none) (fun v' w' => w'.ownsRow Bd 3 1 v' (path.length + 1) ((paE path) ++ (#[.int .i64 p] : Array Value).toList) ∧ Below Bd w w' ∧ Blk w' g (walkC p r rd73 ev74 pa75) 62 ∧ w'.ownsRow Bd 52 15 ev74 ((evs ++ [acc5 i r path.length p]).length) (evE (evs ++ [acc5 i r path.length p])) ∧ v'.ownBlock ≠ some g ∧ ∀ k, ev74.ownBlock = some k → v'.ownBlock ≠ some k) [12, 10, 0, 1, 2, 3, 4, 5, 6, 7, 8, 9, 11] [4, 9, 3, 8, 2, 7, 1, 6, 5] mixedY SM.refl SM.trans hA90 (by kernel_rfl) (by kernel_rfl) (tabQ_cv _ _) ?_ ?_
 ·skip
  refine eachD_cons (.inr (.inl ⟨by decide, _, rfl, fun x y hT hk hk0 => d_move (wn rfl) (hT.ev rfl) ⟨rfl, rfl⟩⟩)) ?_
  refine eachD_cons (.inr (.inl ⟨by decide, _, rfl, fun x y hT hk hk0 => d_move (wn rfl) (hT.ev rfl) ⟨rfl, rfl⟩⟩)) ?_
  refine eachD_cons (.inr (.inl ⟨by decide, _, rfl, fun x y hT hk hk0 => d_nilCheck (wn rfl) (hk 1 _ rfl rfl) ⟨rfl, rfl⟩⟩)) ?_
  refine eachD_cons (.inr (.inl ⟨by decide, _, rfl, fun x y hT hk hk0 => d_fieldAddr (wn rfl) (hk 2 _ rfl rfl) fo62_4 ⟨rfl, rfl⟩⟩)) ?_
  refine eachD_cons (.inl ⟨by decide, rfl, fun x y hS hT hk => d_load (v := pa75) (wn rfl) (hk 3 rfl) one30 ((Blk.sm (w := w68.drew) hb76 hS (hM91A _)).cell rfl) ⟨SM.refl _, rfl⟩⟩) ?_
  refine eachD_cons (.inr (.inl ⟨by decide, _, rfl, fun x y hT hk hk0 => d_move (wn rfl) (hT.ev rfl) ⟨rfl, rfl⟩⟩)) ?_
  refine eachD_cons (.inr (.inl ⟨by decide, _, rfl, fun x y hT hk hk0 => d_nilCheck (wn rfl) (hk 5 _ rfl rfl) ⟨rfl, rfl⟩⟩)) ?_
  refine eachD_cons (.inr (.inl ⟨by decide, _, rfl, fun x y hT hk hk0 => d_fieldAddr (wn rfl) (hk 6 _ rfl rfl) fo62_0 ⟨rfl, rfl⟩⟩)) ?_
  refine eachD_cons (.inl ⟨by decide, rfl, fun x y hS hT hk => d_load (v := (.int .i64 p)) (wn rfl) (hk 7 rfl) one3 ((Blk.sm (w := w68.drew) hb76 hS (hM91A _)).cell rfl) ⟨SM.refl _, rfl⟩⟩) ?_
  refine eachD_cons (.inl ⟨by decide, rfl, fun x y hS hT hk => d_slice1 (wn rfl) (show x.eval _ = (.int .i64 p) from (hk 8 rfl)) elm30 rfl (by decide) (fun g w' _ hG hb => ⟨SM.grow hG, g, rfl, hb⟩)⟩) ?_
  refine eachD_cons (.inr (.inr ⟨rfl, fun x y hS hT hk => ?_⟩)) ?_
  ·skip
   obtain ⟨gb, hvb, hbb⟩ := hk 9 rfl
   have hG : Grow w68 y := Grow.trans ((Grow.refl _).drew) (SM.grown (by rw [hM91] at hS; exact hS))
   have hR := own_grow hG hpa79
   have hO := own_grow hG hev78
   have hBl := below_grow b84 hG (Nat.le_trans hB b84.size)
   refine d_append (wn rfl) (show x.eval _ = pa75 from (hk 4 rfl)) hvb elm30 hR hbb rfl rfl (by omega) (by decide) (Nat.le_trans hB hBl.size) ?_
   intro v' w' h1 h2 h3
   exact ⟨h1, below_by hBl h2 (Nat.le_trans hB hBl.size) (fun k hk => (own_lt hR k hk).1), (hb76.grow hG).by h2 op81, own_by hO h2 ap83, lies_ne h3 op81 (hb76.grow hG).lt, lies_ap h3 ap83 hO⟩
  refine eachD_cons (.inr (.inl ⟨by decide, _, rfl, fun x y hT hk hk0 => d_nilCheck (wn rfl) (hk 0 _ rfl rfl) ⟨rfl, rfl⟩⟩)) ?_
  refine eachD_cons (.inr (.inl ⟨by decide, _, rfl, fun x y hT hk hk0 => d_fieldAddr (wn rfl) (hk 11 _ rfl rfl) fo62_4 ⟨rfl, rfl⟩⟩)) ?_
  exact eachD_one
 rintro a92 w93 hA94 ⟨hP96, hW97⟩
 obtain ⟨v98, hv99⟩ : ∃ v', v' = (a92.tmps.getD 110 undef) := ⟨_, rfl⟩
 have hW100 : (fun v' w' => w'.ownsRow Bd 3 1 v' (path.length + 1) ((paE path) ++ (#[.int .i64 p] : Array Value).toList) ∧ Below Bd w w' ∧ Blk w' g (walkC p r rd73 ev74 pa75) 62 ∧ w'.ownsRow Bd 52 15 ev74 ((evs ++ [acc5 i r path.length p]).length) (evE (evs ++ [acc5 i r path.length p])) ∧ v'.ownBlock ≠ some g ∧ ∀ k, ev74.ownBlock = some k → v'.ownBlock ≠ some k) v98 w93 := by rw [hv99]; exact hW97
 obtain ⟨ho101, b102, m103, ho104, off105, ap106⟩ := hW100
 have ap107 : ∀ k, v98.ownBlock = some k → ev74.ownBlock ≠ some k := fun k h1 h2 => ap106 k h2 h1
 have hA108 : St 117 [(0, (.pointer (some ⟨g, 0, none⟩))), (4, (.bool false)), (5, (.int .i64 (p + 1))), (110, v98), (112, (.pointer (some ⟨g, 11, none⟩)))] a92 := hA94.cut _ (fm_cons (hA94.get 0 _ rfl) (fm_cons (hA94.get 4 _ rfl) (fm_cons (hA94.get 5 _ rfl) (fm_cons hv99.symm (fm_cons (hP96 12 _ (Nat.le_of_ble_eq_true rfl) (by decide) rfl) fm_nil)))))
 refine d_store (v := v98) (wn rfl) (hA108.ev rfl) (hA108.ev rfl) one30 (one_slice (own_form ho101)) m103 (Nat.le_of_ble_eq_true rfl) ?_
 intro w109 hU110 (m111 : Blk w109 g (walkC p r rd73 ev74 v98) 62)
 have b112 := hU110.below b102 hge
 have ho113 := own_upd ho104 hU110 oe80
 have ho114 := own_upd ho101 hU110 off105
 have hA115 : St 117 [(0, (.pointer (some ⟨g, 0, none⟩))), (4, (.bool false)), (5, (.int .i64 (p + 1)))] a92 := hA108.cut _ (fm_cons (hA108.get 0 _ rfl) (fm_cons (hA108.get 4 _ rfl) (fm_cons (hA108.get 5 _ rfl) fm_nil)))
 refine t_norm ?_
 refine wp_seq ?_
 refine wp_region_lit ?_
 refine q_step hA115 rfl (d_move (wn rfl) (hA115.ev rfl) ?_)
 intro a116 hA117
 refine q_step hA117 rfl (d_move (wn rfl) (hA117.ev rfl) ?_)
 intro a118 hA119
 refine q_step hA119 rfl (d_nilCheck (wn rfl) (hA119.ev rfl) ?_)
 intro a120 hA121
 refine q_step hA121 rfl (d_fieldAddr (wn rfl) (hA121.ev rfl) fo62_0 ?_)
 intro a122 hA123
 refine q_step hA123 rfl (d_store (v := (.int .i64 (p + 1))) (wn rfl) (hA123.ev rfl) (hA123.ev rfl) one3 rfl m111 (Nat.le_of_ble_eq_true rfl) ?_)
 intro w124 hU125 (m126 : Blk w124 g (walkC (p + 1) r rd73 ev74 v98) 62)
 have b127 := hU125.below b112 hge
 have ho128 := own_upd ho113 hU125 oe80
 have ho129 := own_upd ho114 hU125 off105
 intro a130 hA131
 refine q_end ?_
 have hA132 : St 117 [(4, (.bool false))] a130 := hA131.cut _ (fm_cons (hA131.get 4 _ rfl) fm_nil)
 refine t_norm ?_
 refine wp_seq ?_
 refine wp_region_lit ?_
 refine q_step hA132 rfl (d_assign (wn rfl) (hA132.ev rfl) ?_)
 intro a133 hA134
 refine q_end ?_
 have hA135 : St 117 [(4, (.bool true))] a133 := hA134.cut _ (fm_cons (hA134.get 4 _ rfl) fm_nil)
 refine t_norm ?_
 refine wp_ret ?_
 refine ret1 rfl hA135 (v := (.bool true)) rfl ?_
 exact ⟨rfl, b127, rd73, ev74, v98, m126, hge, (Sl.via hrd77 b84 b127), ho128, (by rw [List.length_append, ← paE_snoc]; exact ho129), oe80, off105, ap107⟩
set_option maxHeartbeats 4000000 in
set_option maxRecDepth 4000 in
theorem step_4 (Bd g : Nat) (p : Int) (r : Nat → Int) (rd ev pa : Value) (i : Ins) (d : Nat) (u0 : Int) (rl : List Int) (evs : List Ev) (path : List Int) (w : World) (hB : Bd ≤ w.heap.size) (hW : WS Bd g w p r (u0 :: rl) evs path rd ev pa) (hne : evs.length ≤ 1000) (hnp : path.length ≤ 1000) (hr : ∀ k, wfI (r k)) (hp : 0 ≤ p) (hp2 : p ≤ 1000) (hix : ronB i.index = true) (hoff : wfI i.off) (hd : d < 8) (hu0 : wfI u0) : Calls Try.prog 36 #[.pointer (some ⟨g, 0, none⟩), .agg (insC ⟨4, ((d : Nat) : Int), i.a, i.b, i.imm, i.loc, i.off, i.index, i.size, i.fn, i.acq, i.weak, i.rel, i.pred, i.succ, i.to, i.zero⟩)] w fun e w' => e = .returned (.bool true) ∧ Below Bd w w' ∧ ∃ rd' ev' pa', WS Bd g w' (p + 1) (updR r d (I (getR (B u0) 0 i.size))) rl (evs ++ [acc4 i r path.length p u0]) (path ++ [p]) rd' ev' pa' := by
 obtain ⟨hb, hge, hrd, hev, hpa, oe, op_, ap⟩ := hW
 have ap2 : ∀ k, ev.ownBlock = some k → pa.ownBlock ≠ some k := fun k h1 h2 => ap k h2 h1
 have b0 : Below Bd w w := Below.refl _ _
 refine enter (n := 117) Try.func36 rfl rfl (Nat.le_of_ble_eq_true rfl) ?_
 intro a1 hA2
 refine wp_seq ?_
 refine wp_region_lit ?_
 refine q_step hA2 rfl (d_box (wn rfl) (hA2.ev rfl) ?_)
 intro g3 w4 eg5 hG6 (m7 : Blk w4 g3 (insC ⟨4, ((d : Nat) : Int), i.a, i.b, i.imm, i.loc, i.off, i.index, i.size, i.fn, i.acq, i.weak, i.rel, i.pred, i.succ, i.to, i.zero⟩) 23)
 have ge8 : Bd ≤ g3 := eg5 ▸ (Nat.le_trans hB b0.size)
 have n9 : g ≠ g3 := fun h => Nat.lt_irrefl _ ((h.trans eg5) ▸ hb.lt)
 have off10 := own_new hev eg5
 have off11 := own_new hpa eg5
 have m12 := hb.grow hG6
 have b13 := below_grow b0 hG6 (Nat.le_trans hB b0.size)
 have ho14 := own_grow hG6 hev
 have ho15 := own_grow hG6 hpa
 intro a16 hA17
 refine q_step hA17 rfl (d_assign (wn rfl) (hA17.ev rfl) ?_)
 intro a18 hA19
 refine q_end ?_
 have hA20 : St 117 [(0, (.pointer (some ⟨g, 0, none⟩))), (3, (.pointer (some ⟨g3, 0, none⟩))), (4, (.bool false))] a18 := hA19.cut _ (fm_cons (hA19.get 0 _ rfl) (fm_cons (hA19.get 3 _ rfl) (fm_cons (hA19.get 4 _ rfl) fm_nil)))
 refine t_norm ?_
 refine wp_seq ?_
 refine wp_region_lit ?_
 refine q_step hA20 rfl (d_move (wn rfl) (hA20.ev rfl) ?_)
 intro a21 hA22
 refine q_step hA22 rfl (d_nilCheck (wn rfl) (hA22.ev rfl) ?_)
 intro a23 hA24
 refine q_step hA24 rfl (d_fieldAddr (wn rfl) (hA24.ev rfl) fo62_0 ?_)
 intro a25 hA26
 refine q_step hA26 rfl (d_load (v := (.int .i64 p)) (wn rfl) (hA26.ev rfl) one3 (m12.cell rfl) ?_)
 intro a27 hA28
 refine q_step hA28 rfl (d_bin (wn rfl) (hA28.ev rfl) (hA28.ev rfl) (b_add _ _ p 1 _ (by omega) (by omega)) ?_)
 intro a29 hA30
 refine q_step hA30 rfl (d_assign (wn rfl) (hA30.ev rfl) ?_)
 intro a31 hA32
 refine q_end ?_
 have hA33 : St 117 [(0, (.pointer (some ⟨g, 0, none⟩))), (3, (.pointer (some ⟨g3, 0, none⟩))), (4, (.bool false)), (5, (.int .i64 (p + 1)))] a31 := hA32.cut _ (fm_cons (hA32.get 0 _ rfl) (fm_cons (hA32.get 3 _ rfl) (fm_cons (hA32.get 4 _ rfl) (fm_cons (hA32.get 5 _ rfl) fm_nil))))
 refine t_norm ?_
 refine wp_seq ?_
 refine wp_seq ?_
 refine wp_region_lit ?_
 refine q_step hA33 rfl (d_fieldAddr (wn rfl) (hA33.ev rfl) fo23_0 ?_)
 intro a34 hA35
 refine q_step hA35 rfl (d_load (v := (.int .i64 4)) (wn rfl) (hA35.ev rfl) one3 (m7.cell rfl) ?_)
 intro a36 hA37
 refine q_end ?_
 have hA38 : St 117 [(0, (.pointer (some ⟨g, 0, none⟩))), (3, (.pointer (some ⟨g3, 0, none⟩))), (4, (.bool false)), (5, (.int .i64 (p + 1))), (12, (.int .i64 4))] a36 := hA37.cut _ (fm_cons (hA37.get 0 _ rfl) (fm_cons (hA37.get 3 _ rfl) (fm_cons (hA37.get 4 _ rfl) (fm_cons (hA37.get 5 _ rfl) (fm_cons (hA37.get 12 _ rfl) fm_nil)))))
 refine t_norm ?_
 refine wp_block ?_
 refine wp_seq ?_
 refine wp_region_lit ?_
 refine q_step hA38 rfl (d_bin (wn rfl) (hA38.ev rfl) (hA38.ev rfl) (b_eq _ _ 4 1 false _ rfl) ?_)
 intro a39 hA40
 refine q_step hA40 rfl (d_assign (wn rfl) (hA40.ev rfl) ?_)
 intro a41 hA42
 refine q_end ?_
 have hA43 : St 117 [(0, (.pointer (some ⟨g, 0, none⟩))), (3, (.pointer (some ⟨g3, 0, none⟩))), (4, (.bool false)), (5, (.int .i64 (p + 1))), (12, (.int .i64 4)), (13, (.bool false))] a41 := hA42.cut _ (fm_cons (hA42.get 0 _ rfl) (fm_cons (hA42.get 3 _ rfl) (fm_cons (hA42.get 4 _ rfl) (fm_cons (hA42.get 5 _ rfl) (fm_cons (hA42.get 12 _ rfl) (fm_cons (hA42.get 13 _ rfl) fm_nil))))))
 refine t_norm ?_
 refine c_false hA43 rfl ?_
 refine wp_seq ?_
 refine wp_region_lit ?_
 refine q_step hA43 rfl (d_bin (wn rfl) (hA43.ev rfl) (hA43.ev rfl) (b_eq _ _ 4 2 false _ rfl) ?_)
 intro a44 hA45
 refine q_step hA45 rfl (d_assign (wn rfl) (hA45.ev rfl) ?_)
 intro a46 hA47
 refine q_end ?_
 have hA48 : St 117 [(0, (.pointer (some ⟨g, 0, none⟩))), (3, (.pointer (some ⟨g3, 0, none⟩))), (4, (.bool false)), (5, (.int .i64 (p + 1))), (12, (.int .i64 4)), (23, (.bool false))] a46 := hA47.cut _ (fm_cons (hA47.get 0 _ rfl) (fm_cons (hA47.get 3 _ rfl) (fm_cons (hA47.get 4 _ rfl) (fm_cons (hA47.get 5 _ rfl) (fm_cons (hA47.get 12 _ rfl) (fm_cons (hA47.get 23 _ rfl) fm_nil))))))
 refine t_norm ?_
 refine c_false hA48 rfl ?_
 refine wp_seq ?_
 refine wp_region_lit ?_
 refine q_step hA48 rfl (d_bin (wn rfl) (hA48.ev rfl) (hA48.ev rfl) (b_eq _ _ 4 3 false _ rfl) ?_)
 intro a49 hA50
 refine q_step hA50 rfl (d_assign (wn rfl) (hA50.ev rfl) ?_)
 intro a51 hA52
 refine q_end ?_
 have hA53 : St 117 [(0, (.pointer (some ⟨g, 0, none⟩))), (3, (.pointer (some ⟨g3, 0, none⟩))), (4, (.bool false)), (5, (.int .i64 (p + 1))), (12, (.int .i64 4)), (38, (.bool false))] a51 := hA52.cut _ (fm_cons (hA52.get 0 _ rfl) (fm_cons (hA52.get 3 _ rfl) (fm_cons (hA52.get 4 _ rfl) (fm_cons (hA52.get 5 _ rfl) (fm_cons (hA52.get 12 _ rfl) (fm_cons (hA52.get 38 _ rfl) fm_nil))))))
 refine t_norm ?_
 refine c_false hA53 rfl ?_
 refine wp_seq ?_
 refine wp_seq ?_
 refine wp_region_lit ?_
 refine q_step hA53 rfl (d_bin (wn rfl) (hA53.ev rfl) (hA53.ev rfl) (b_eq _ _ 4 4 true _ rfl) ?_)
 intro a54 hA55
 refine q_step hA55 rfl (d_assign (wn rfl) (hA55.ev rfl) ?_)
 intro a56 hA57
 refine q_end ?_
 have hA58 : St 117 [(0, (.pointer (some ⟨g, 0, none⟩))), (3, (.pointer (some ⟨g3, 0, none⟩))), (4, (.bool false)), (5, (.int .i64 (p + 1))), (12, (.int .i64 4)), (62, (.bool true))] a56 := hA57.cut _ (fm_cons (hA57.get 0 _ rfl) (fm_cons (hA57.get 3 _ rfl) (fm_cons (hA57.get 4 _ rfl) (fm_cons (hA57.get 5 _ rfl) (fm_cons (hA57.get 12 _ rfl) (fm_cons (hA57.get 62 _ rfl) fm_nil))))))
 refine t_norm ?_
 refine c_true hA58 rfl ?_
 refine wp_skip ?_
 refine t_norm ?_
 refine c_true hA58 rfl ?_
 refine wp_seq ?_
 refine wp_region_lit ?_
 refine q_step hA58 rfl (d_move (wn rfl) (hA58.ev rfl) ?_)
 intro a59 hA60
 refine q_step hA60 rfl (d_loadRow (cs := (insC ⟨4, ((d : Nat) : Int), i.a, i.b, i.imm, i.loc, i.off, i.index, i.size, i.fn, i.acq, i.weak, i.rel, i.pred, i.succ, i.to, i.zero⟩)) (wn rfl) (hA60.ev rfl) row23 m7 ?_)
 intro a61 hA62
 refine q_step hA62 rfl (d_call (wn rfl) ent48 (map2 (hA62.ev rfl) (hA62.ev rfl)) (access_4 Bd g p r rd ev pa i d u0 rl evs path w4 (Nat.le_trans hB b13.size) ⟨m12, hge, (hrd.below b13), ho14, ho15, oe, op_, ap⟩ hne hnp hr hix hoff hd hu0) ?_)
 rintro e66 w63 ⟨he65, bl67, rd68, ev69, pa70, hb71, _, hrd72, hev73, hpa74, oe75, op76, ap77⟩
 have ap78 : ∀ k, ev69.ownBlock = some k → pa70.ownBlock ≠ some k := fun k h1 h2 => ap77 k h2 h1
 have b79 := b13.trans bl67
 refine ⟨.bool true, he65, ?_⟩
 intro a80 hA81
 refine q_step hA81 rfl (d_not (wn rfl) (hA81.ev rfl) ?_)
 intro a82 hA83
 refine q_end ?_
 have hA84 : St 117 [(0, (.pointer (some ⟨g, 0, none⟩))), (4, (.bool false)), (5, (.int .i64 (p + 1))), (69, (.bool false))] a82 := hA83.cut _ (fm_cons (hA83.get 0 _ rfl) (fm_cons (hA83.get 4 _ rfl) (fm_cons (hA83.get 5 _ rfl) (fm_cons (hA83.get 69 _ rfl) fm_nil))))
 refine t_norm ?_
 refine c_false hA84 rfl ?_
 refine wp_skip ?_
 refine i_norm ?_
 refine t_norm ?_
 refine wp_seq ?_
 have hA85 : St 117 [(0, (.pointer (some ⟨g, 0, none⟩))), (4, (.bool false)), (5, (.int .i64 (p + 1)))] a82 := hA84.cut _ (fm_cons (hA84.get 0 _ rfl) (fm_cons (hA84.get 4 _ rfl) (fm_cons (hA84.get 5 _ rfl) fm_nil)))
 let M86 : Nat → Option (Array Value) := fun _ => none
 have hM86 : M86 = fun _ => none := rfl
 clear_value M86
 have hM86A : ∀ k, M86 k = none := fun k => congrFun hM86 k
 have hM86B : ∀ k, k < Bd → M86 k = none := fun k _ => hM86A k
 refine drawnL (S := SM M86) rfl (tabQ [some (.pointer (some ⟨g, 0, none⟩)), some (.pointer (some ⟨g, 0, none⟩)), some (.pointer (some ⟨g, 0, none⟩)), some (.pointer (some ⟨g, 11, none⟩)), none, some (.pointer (some ⟨g, 0, none⟩)), some (.pointer (some ⟨g, 0, none⟩)), some (.pointer (some ⟨g, 0, none⟩)), none, none, none, some (.pointer (some ⟨g, 0, none⟩)), some (.pointer (some ⟨g, 11, none⟩))] [cv (.pointer (some ⟨g, 0, none⟩)), cv (.pointer (some ⟨g, 0, none⟩)), cv (.pointer (some ⟨g, 0, none⟩)), cv (.pointer (some ⟨g, 11, none⟩)), cv pa70, cv (.pointer (some ⟨g, 0, none⟩)), cv (.pointer (some ⟨g, 0, none⟩)), cv (.pointer (some ⟨g, 0, none⟩)), cv (.int .i64 p), cs1 M86 hM86A #[.int .i64 p] 3, cfree, cv (.pointer (some ⟨g, 0, none⟩)), cv (.pointer (some ⟨g, 11, none⟩))]) (some 10) (fun i => (([some (.pointer (some ⟨g, 0, none⟩)), some (.pointer (some ⟨g, 0, none⟩)), some (.pointer (some ⟨g, 0, none⟩)), some (.pointer (some ⟨g, 11, none⟩)), none, some (.pointer (some ⟨g, 0, none⟩)), some (.pointer (some ⟨g, 0, none⟩)), some (.pointer (some ⟨g, 0, none⟩)), none, none, none, some (.pointer (some ⟨g, 0, none⟩)), some (.pointer (some ⟨g, 11, none⟩))] : List (Option Value))[i]?).getD none) (fun v' w' => w'.ownsRow Bd 3 1 v' (path.length + 1) ((paE path) ++ (#[.int .i64 p] : Array Value).toList) ∧ Below Bd w w' ∧ Blk w' g (walkC p (updR r d (I (getR (B u0) 0 i.size))) rd68 ev69 pa70) 62 ∧ w'.ownsRow Bd 52 15 ev69 ((evs ++ [acc4 i r path.length p u0]).length) (evE (evs ++ [acc4 i r path.length p u0])) ∧ v'.ownBlock ≠ some g ∧ ∀ k, ev69.ownBlock = some k → v'.ownBlock ≠ some k) [12, 10, 0, 1, 2, 3, 4, 5, 6, 7, 8, 9, 11] [4, 9, 3, 8, 2, 7, 1, 6, 5] mixedY SM.refl SM.trans hA85 (by kernel_rfl) (by kernel_rfl) (tabQ_cv _ _) ?_ ?_
 ·skip
  refine eachD_cons (.inr (.inl ⟨by decide, _, rfl, fun x y hT hk hk0 => d_move (wn rfl) (hT.ev rfl) ⟨rfl, rfl⟩⟩)) ?_
  refine eachD_cons (.inr (.inl ⟨by decide, _, rfl, fun x y hT hk hk0 => d_move (wn rfl) (hT.ev rfl) ⟨rfl, rfl⟩⟩)) ?_
  refine eachD_cons (.inr (.inl ⟨by decide, _, rfl, fun x y hT hk hk0 => d_nilCheck (wn rfl) (hk 1 _ rfl rfl) ⟨rfl, rfl⟩⟩)) ?_
  refine eachD_cons (.inr (.inl ⟨by decide, _, rfl, fun x y hT hk hk0 => d_fieldAddr (wn rfl) (hk 2 _ rfl rfl) fo62_4 ⟨rfl, rfl⟩⟩)) ?_
  refine eachD_cons (.inl ⟨by decide, rfl, fun x y hS hT hk => d_load (v := pa70) (wn rfl) (hk 3 rfl) one30 ((Blk.sm (w := w63.drew) hb71 hS (hM86A _)).cell rfl) ⟨SM.refl _, rfl⟩⟩) ?_
  refine eachD_cons (.inr (.inl ⟨by decide, _, rfl, fun x y hT hk hk0 => d_move (wn rfl) (hT.ev rfl) ⟨rfl, rfl⟩⟩)) ?_
  refine eachD_cons (.inr (.inl ⟨by decide, _, rfl, fun x y hT hk hk0 => d_nilCheck (wn rfl) (hk 5 _ rfl rfl) ⟨rfl, rfl⟩⟩)) ?_
  refine eachD_cons (.inr (.inl ⟨by decide, _, rfl, fun x y hT hk hk0 => d_fieldAddr (wn rfl) (hk 6 _ rfl rfl) fo62_0 ⟨rfl, rfl⟩⟩)) ?_
  refine eachD_cons (.inl ⟨by decide, rfl, fun x y hS hT hk => d_load (v := (.int .i64 p)) (wn rfl) (hk 7 rfl) one3 ((Blk.sm (w := w63.drew) hb71 hS (hM86A _)).cell rfl) ⟨SM.refl _, rfl⟩⟩) ?_
  refine eachD_cons (.inl ⟨by decide, rfl, fun x y hS hT hk => d_slice1 (wn rfl) (show x.eval _ = (.int .i64 p) from (hk 8 rfl)) elm30 rfl (by decide) (fun g w' _ hG hb => ⟨SM.grow hG, g, rfl, hb⟩)⟩) ?_
  refine eachD_cons (.inr (.inr ⟨rfl, fun x y hS hT hk => ?_⟩)) ?_
  ·skip
   obtain ⟨gb, hvb, hbb⟩ := hk 9 rfl
   have hG : Grow w63 y := Grow.trans ((Grow.refl _).drew) (SM.grown (by rw [hM86] at hS; exact hS))
   have hR := own_grow hG hpa74
   have hO := own_grow hG hev73
   have hBl := below_grow b79 hG (Nat.le_trans hB b79.size)
   refine d_append (wn rfl) (show x.eval _ = pa70 from (hk 4 rfl)) hvb elm30 hR hbb rfl rfl (by omega) (by decide) (Nat.le_trans hB hBl.size) ?_
   intro v' w' h1 h2 h3
   exact ⟨h1, below_by hBl h2 (Nat.le_trans hB hBl.size) (fun k hk => (own_lt hR k hk).1), (hb71.grow hG).by h2 op76, own_by hO h2 ap78, lies_ne h3 op76 (hb71.grow hG).lt, lies_ap h3 ap78 hO⟩
  refine eachD_cons (.inr (.inl ⟨by decide, _, rfl, fun x y hT hk hk0 => d_nilCheck (wn rfl) (hk 0 _ rfl rfl) ⟨rfl, rfl⟩⟩)) ?_
  refine eachD_cons (.inr (.inl ⟨by decide, _, rfl, fun x y hT hk hk0 => d_fieldAddr (wn rfl) (hk 11 _ rfl rfl) fo62_4 ⟨rfl, rfl⟩⟩)) ?_
  exact eachD_one
 rintro a87 w88 hA89 ⟨hP91, hW92⟩
 obtain ⟨v93, hv94⟩ : ∃ v', v' = (a87.tmps.getD 110 undef) := ⟨_, rfl⟩
 have hW95 : (fun v' w' => w'.ownsRow Bd 3 1 v' (path.length + 1) ((paE path) ++ (#[.int .i64 p] : Array Value).toList) ∧ Below Bd w w' ∧ Blk w' g (walkC p (updR r d (I (getR (B u0) 0 i.size))) rd68 ev69 pa70) 62 ∧ w'.ownsRow Bd 52 15 ev69 ((evs ++ [acc4 i r path.length p u0]).length) (evE (evs ++ [acc4 i r path.length p u0])) ∧ v'.ownBlock ≠ some g ∧ ∀ k, ev69.ownBlock = some k → v'.ownBlock ≠ some k) v93 w88 := by rw [hv94]; exact hW92
 obtain ⟨ho96, b97, m98, ho99, off100, ap101⟩ := hW95
 have ap102 : ∀ k, v93.ownBlock = some k → ev69.ownBlock ≠ some k := fun k h1 h2 => ap101 k h2 h1
 have hA103 : St 117 [(0, (.pointer (some ⟨g, 0, none⟩))), (4, (.bool false)), (5, (.int .i64 (p + 1))), (110, v93), (112, (.pointer (some ⟨g, 11, none⟩)))] a87 := hA89.cut _ (fm_cons (hA89.get 0 _ rfl) (fm_cons (hA89.get 4 _ rfl) (fm_cons (hA89.get 5 _ rfl) (fm_cons hv94.symm (fm_cons (hP91 12 _ (Nat.le_of_ble_eq_true rfl) (by decide) rfl) fm_nil)))))
 refine d_store (v := v93) (wn rfl) (hA103.ev rfl) (hA103.ev rfl) one30 (one_slice (own_form ho96)) m98 (Nat.le_of_ble_eq_true rfl) ?_
 intro w104 hU105 (m106 : Blk w104 g (walkC p (updR r d (I (getR (B u0) 0 i.size))) rd68 ev69 v93) 62)
 have b107 := hU105.below b97 hge
 have ho108 := own_upd ho99 hU105 oe75
 have ho109 := own_upd ho96 hU105 off100
 have hA110 : St 117 [(0, (.pointer (some ⟨g, 0, none⟩))), (4, (.bool false)), (5, (.int .i64 (p + 1)))] a87 := hA103.cut _ (fm_cons (hA103.get 0 _ rfl) (fm_cons (hA103.get 4 _ rfl) (fm_cons (hA103.get 5 _ rfl) fm_nil)))
 refine t_norm ?_
 refine wp_seq ?_
 refine wp_region_lit ?_
 refine q_step hA110 rfl (d_move (wn rfl) (hA110.ev rfl) ?_)
 intro a111 hA112
 refine q_step hA112 rfl (d_move (wn rfl) (hA112.ev rfl) ?_)
 intro a113 hA114
 refine q_step hA114 rfl (d_nilCheck (wn rfl) (hA114.ev rfl) ?_)
 intro a115 hA116
 refine q_step hA116 rfl (d_fieldAddr (wn rfl) (hA116.ev rfl) fo62_0 ?_)
 intro a117 hA118
 refine q_step hA118 rfl (d_store (v := (.int .i64 (p + 1))) (wn rfl) (hA118.ev rfl) (hA118.ev rfl) one3 rfl m106 (Nat.le_of_ble_eq_true rfl) ?_)
 intro w119 hU120 (m121 : Blk w119 g (walkC (p + 1) (updR r d (I (getR (B u0) 0 i.size))) rd68 ev69 v93) 62)
 have b122 := hU120.below b107 hge
 have ho123 := own_upd ho108 hU120 oe75
 have ho124 := own_upd ho109 hU120 off100
 intro a125 hA126
 refine q_end ?_
 have hA127 : St 117 [(4, (.bool false))] a125 := hA126.cut _ (fm_cons (hA126.get 4 _ rfl) fm_nil)
 refine t_norm ?_
 refine wp_seq ?_
 refine wp_region_lit ?_
 refine q_step hA127 rfl (d_assign (wn rfl) (hA127.ev rfl) ?_)
 intro a128 hA129
 refine q_end ?_
 have hA130 : St 117 [(4, (.bool true))] a128 := hA129.cut _ (fm_cons (hA129.get 4 _ rfl) fm_nil)
 refine t_norm ?_
 refine wp_ret ?_
 refine ret1 rfl hA130 (v := (.bool true)) rfl ?_
 exact ⟨rfl, b122, rd68, ev69, v93, m121, hge, (Sl.via hrd72 b79 b122), ho123, (by rw [List.length_append, ← paE_snoc]; exact ho124), oe75, off100, ap102⟩
set_option maxHeartbeats 4000000 in
set_option maxRecDepth 4000 in
theorem step_6 (Bd g : Nat) (p : Int) (r : Nat → Int) (rd ev pa : Value) (i : Ins) (d k : Nat) (u0 : Int) (rl : List Int) (evs : List Ev) (path : List Int) (w : World) (hB : Bd ≤ w.heap.size) (hW : WS Bd g w p r (u0 :: rl) evs path rd ev pa) (hne : evs.length ≤ 1000) (hnp : path.length ≤ 1000) (hr : ∀ k, wfI (r k)) (hp : 0 ≤ p) (hp2 : p ≤ 1000) (hix : ronB i.index = true) (hoff : wfI i.off) (hd : d < 8) (hk : k < 8) (hu0 : wfI u0) : Calls Try.prog 36 #[.pointer (some ⟨g, 0, none⟩), .agg (insC ⟨6, ((d : Nat) : Int), ((k : Nat) : Int), i.b, i.imm, i.loc, i.off, i.index, i.size, i.fn, i.acq, i.weak, i.rel, i.pred, i.succ, i.to, i.zero⟩)] w fun e w' => e = .returned (.bool true) ∧ Below Bd w w' ∧ ∃ rd' ev' pa', WS Bd g w' (p + 1) (updR r d (I (getR (B u0) 0 i.size))) rl (evs ++ [acc6 i r k path.length p u0]) (path ++ [p]) rd' ev' pa' := by
 obtain ⟨hb, hge, hrd, hev, hpa, oe, op_, ap⟩ := hW
 have ap2 : ∀ k, ev.ownBlock = some k → pa.ownBlock ≠ some k := fun k h1 h2 => ap k h2 h1
 have b0 : Below Bd w w := Below.refl _ _
 refine enter (n := 117) Try.func36 rfl rfl (Nat.le_of_ble_eq_true rfl) ?_
 intro a1 hA2
 refine wp_seq ?_
 refine wp_region_lit ?_
 refine q_step hA2 rfl (d_box (wn rfl) (hA2.ev rfl) ?_)
 intro g3 w4 eg5 hG6 (m7 : Blk w4 g3 (insC ⟨6, ((d : Nat) : Int), ((k : Nat) : Int), i.b, i.imm, i.loc, i.off, i.index, i.size, i.fn, i.acq, i.weak, i.rel, i.pred, i.succ, i.to, i.zero⟩) 23)
 have ge8 : Bd ≤ g3 := eg5 ▸ (Nat.le_trans hB b0.size)
 have n9 : g ≠ g3 := fun h => Nat.lt_irrefl _ ((h.trans eg5) ▸ hb.lt)
 have off10 := own_new hev eg5
 have off11 := own_new hpa eg5
 have m12 := hb.grow hG6
 have b13 := below_grow b0 hG6 (Nat.le_trans hB b0.size)
 have ho14 := own_grow hG6 hev
 have ho15 := own_grow hG6 hpa
 intro a16 hA17
 refine q_step hA17 rfl (d_assign (wn rfl) (hA17.ev rfl) ?_)
 intro a18 hA19
 refine q_end ?_
 have hA20 : St 117 [(0, (.pointer (some ⟨g, 0, none⟩))), (3, (.pointer (some ⟨g3, 0, none⟩))), (4, (.bool false))] a18 := hA19.cut _ (fm_cons (hA19.get 0 _ rfl) (fm_cons (hA19.get 3 _ rfl) (fm_cons (hA19.get 4 _ rfl) fm_nil)))
 refine t_norm ?_
 refine wp_seq ?_
 refine wp_region_lit ?_
 refine q_step hA20 rfl (d_move (wn rfl) (hA20.ev rfl) ?_)
 intro a21 hA22
 refine q_step hA22 rfl (d_nilCheck (wn rfl) (hA22.ev rfl) ?_)
 intro a23 hA24
 refine q_step hA24 rfl (d_fieldAddr (wn rfl) (hA24.ev rfl) fo62_0 ?_)
 intro a25 hA26
 refine q_step hA26 rfl (d_load (v := (.int .i64 p)) (wn rfl) (hA26.ev rfl) one3 (m12.cell rfl) ?_)
 intro a27 hA28
 refine q_step hA28 rfl (d_bin (wn rfl) (hA28.ev rfl) (hA28.ev rfl) (b_add _ _ p 1 _ (by omega) (by omega)) ?_)
 intro a29 hA30
 refine q_step hA30 rfl (d_assign (wn rfl) (hA30.ev rfl) ?_)
 intro a31 hA32
 refine q_end ?_
 have hA33 : St 117 [(0, (.pointer (some ⟨g, 0, none⟩))), (3, (.pointer (some ⟨g3, 0, none⟩))), (4, (.bool false)), (5, (.int .i64 (p + 1)))] a31 := hA32.cut _ (fm_cons (hA32.get 0 _ rfl) (fm_cons (hA32.get 3 _ rfl) (fm_cons (hA32.get 4 _ rfl) (fm_cons (hA32.get 5 _ rfl) fm_nil))))
 refine t_norm ?_
 refine wp_seq ?_
 refine wp_seq ?_
 refine wp_region_lit ?_
 refine q_step hA33 rfl (d_fieldAddr (wn rfl) (hA33.ev rfl) fo23_0 ?_)
 intro a34 hA35
 refine q_step hA35 rfl (d_load (v := (.int .i64 6)) (wn rfl) (hA35.ev rfl) one3 (m7.cell rfl) ?_)
 intro a36 hA37
 refine q_end ?_
 have hA38 : St 117 [(0, (.pointer (some ⟨g, 0, none⟩))), (3, (.pointer (some ⟨g3, 0, none⟩))), (4, (.bool false)), (5, (.int .i64 (p + 1))), (12, (.int .i64 6))] a36 := hA37.cut _ (fm_cons (hA37.get 0 _ rfl) (fm_cons (hA37.get 3 _ rfl) (fm_cons (hA37.get 4 _ rfl) (fm_cons (hA37.get 5 _ rfl) (fm_cons (hA37.get 12 _ rfl) fm_nil)))))
 refine t_norm ?_
 refine wp_block ?_
 refine wp_seq ?_
 refine wp_region_lit ?_
 refine q_step hA38 rfl (d_bin (wn rfl) (hA38.ev rfl) (hA38.ev rfl) (b_eq _ _ 6 1 false _ rfl) ?_)
 intro a39 hA40
 refine q_step hA40 rfl (d_assign (wn rfl) (hA40.ev rfl) ?_)
 intro a41 hA42
 refine q_end ?_
 have hA43 : St 117 [(0, (.pointer (some ⟨g, 0, none⟩))), (3, (.pointer (some ⟨g3, 0, none⟩))), (4, (.bool false)), (5, (.int .i64 (p + 1))), (12, (.int .i64 6)), (13, (.bool false))] a41 := hA42.cut _ (fm_cons (hA42.get 0 _ rfl) (fm_cons (hA42.get 3 _ rfl) (fm_cons (hA42.get 4 _ rfl) (fm_cons (hA42.get 5 _ rfl) (fm_cons (hA42.get 12 _ rfl) (fm_cons (hA42.get 13 _ rfl) fm_nil))))))
 refine t_norm ?_
 refine c_false hA43 rfl ?_
 refine wp_seq ?_
 refine wp_region_lit ?_
 refine q_step hA43 rfl (d_bin (wn rfl) (hA43.ev rfl) (hA43.ev rfl) (b_eq _ _ 6 2 false _ rfl) ?_)
 intro a44 hA45
 refine q_step hA45 rfl (d_assign (wn rfl) (hA45.ev rfl) ?_)
 intro a46 hA47
 refine q_end ?_
 have hA48 : St 117 [(0, (.pointer (some ⟨g, 0, none⟩))), (3, (.pointer (some ⟨g3, 0, none⟩))), (4, (.bool false)), (5, (.int .i64 (p + 1))), (12, (.int .i64 6)), (23, (.bool false))] a46 := hA47.cut _ (fm_cons (hA47.get 0 _ rfl) (fm_cons (hA47.get 3 _ rfl) (fm_cons (hA47.get 4 _ rfl) (fm_cons (hA47.get 5 _ rfl) (fm_cons (hA47.get 12 _ rfl) (fm_cons (hA47.get 23 _ rfl) fm_nil))))))
 refine t_norm ?_
 refine c_false hA48 rfl ?_
 refine wp_seq ?_
 refine wp_region_lit ?_
 refine q_step hA48 rfl (d_bin (wn rfl) (hA48.ev rfl) (hA48.ev rfl) (b_eq _ _ 6 3 false _ rfl) ?_)
 intro a49 hA50
 refine q_step hA50 rfl (d_assign (wn rfl) (hA50.ev rfl) ?_)
 intro a51 hA52
 refine q_end ?_
 have hA53 : St 117 [(0, (.pointer (some ⟨g, 0, none⟩))), (3, (.pointer (some ⟨g3, 0, none⟩))), (4, (.bool false)), (5, (.int .i64 (p + 1))), (12, (.int .i64 6)), (38, (.bool false))] a51 := hA52.cut _ (fm_cons (hA52.get 0 _ rfl) (fm_cons (hA52.get 3 _ rfl) (fm_cons (hA52.get 4 _ rfl) (fm_cons (hA52.get 5 _ rfl) (fm_cons (hA52.get 12 _ rfl) (fm_cons (hA52.get 38 _ rfl) fm_nil))))))
 refine t_norm ?_
 refine c_false hA53 rfl ?_
 refine wp_seq ?_
 refine wp_seq ?_
 refine wp_region_lit ?_
 refine q_step hA53 rfl (d_bin (wn rfl) (hA53.ev rfl) (hA53.ev rfl) (b_eq _ _ 6 4 false _ rfl) ?_)
 intro a54 hA55
 refine q_step hA55 rfl (d_assign (wn rfl) (hA55.ev rfl) ?_)
 intro a56 hA57
 refine q_end ?_
 have hA58 : St 117 [(0, (.pointer (some ⟨g, 0, none⟩))), (3, (.pointer (some ⟨g3, 0, none⟩))), (4, (.bool false)), (5, (.int .i64 (p + 1))), (12, (.int .i64 6)), (62, (.bool false))] a56 := hA57.cut _ (fm_cons (hA57.get 0 _ rfl) (fm_cons (hA57.get 3 _ rfl) (fm_cons (hA57.get 4 _ rfl) (fm_cons (hA57.get 5 _ rfl) (fm_cons (hA57.get 12 _ rfl) (fm_cons (hA57.get 62 _ rfl) fm_nil))))))
 refine t_norm ?_
 refine c_false hA58 rfl ?_
 refine wp_seq ?_
 refine wp_region_lit ?_
 refine q_step hA58 rfl (d_bin (wn rfl) (hA58.ev rfl) (hA58.ev rfl) (b_eq _ _ 6 5 false _ rfl) ?_)
 intro a59 hA60
 refine q_step hA60 rfl (d_assign (wn rfl) (hA60.ev rfl) ?_)
 intro a61 hA62
 refine q_end ?_
 have hA63 : St 117 [(0, (.pointer (some ⟨g, 0, none⟩))), (3, (.pointer (some ⟨g3, 0, none⟩))), (4, (.bool false)), (5, (.int .i64 (p + 1))), (12, (.int .i64 6)), (62, (.bool false))] a61 := hA62.cut _ (fm_cons (hA62.get 0 _ rfl) (fm_cons (hA62.get 3 _ rfl) (fm_cons (hA62.get 4 _ rfl) (fm_cons (hA62.get 5 _ rfl) (fm_cons (hA62.get 12 _ rfl) (fm_cons (hA62.get 62 _ rfl) fm_nil))))))
 refine t_norm ?_
 refine c_false hA63 rfl ?_
 refine wp_region_lit ?_
 refine q_step hA63 rfl (d_bin (wn rfl) (hA63.ev rfl) (hA63.ev rfl) (b_eq _ _ 6 6 true _ rfl) ?_)
 intro a64 hA65
 refine q_step hA65 rfl (d_assign (wn rfl) (hA65.ev rfl) ?_)
 intro a66 hA67
 refine q_end ?_
 have hA68 : St 117 [(0, (.pointer (some ⟨g, 0, none⟩))), (3, (.pointer (some ⟨g3, 0, none⟩))), (4, (.bool false)), (5, (.int .i64 (p + 1))), (12, (.int .i64 6)), (62, (.bool true))] a66 := hA67.cut _ (fm_cons (hA67.get 0 _ rfl) (fm_cons (hA67.get 3 _ rfl) (fm_cons (hA67.get 4 _ rfl) (fm_cons (hA67.get 5 _ rfl) (fm_cons (hA67.get 12 _ rfl) (fm_cons (hA67.get 62 _ rfl) fm_nil))))))
 refine t_norm ?_
 refine c_true hA68 rfl ?_
 refine wp_seq ?_
 refine wp_region_lit ?_
 refine q_step hA68 rfl (d_move (wn rfl) (hA68.ev rfl) ?_)
 intro a69 hA70
 refine q_step hA70 rfl (d_loadRow (cs := (insC ⟨6, ((d : Nat) : Int), ((k : Nat) : Int), i.b, i.imm, i.loc, i.off, i.index, i.size, i.fn, i.acq, i.weak, i.rel, i.pred, i.succ, i.to, i.zero⟩)) (wn rfl) (hA70.ev rfl) row23 m7 ?_)
 intro a71 hA72
 refine q_step hA72 rfl (d_call (wn rfl) ent48 (map2 (hA72.ev rfl) (hA72.ev rfl)) (access_6 Bd g p r rd ev pa i d k u0 rl evs path w4 (Nat.le_trans hB b13.size) ⟨m12, hge, (hrd.below b13), ho14, ho15, oe, op_, ap⟩ hne hnp hr hix hoff hd hk hu0) ?_)
 rintro e76 w73 ⟨he75, bl77, rd78, ev79, pa80, hb81, _, hrd82, hev83, hpa84, oe85, op86, ap87⟩
 have ap88 : ∀ k, ev79.ownBlock = some k → pa80.ownBlock ≠ some k := fun k h1 h2 => ap87 k h2 h1
 have b89 := b13.trans bl77
 refine ⟨.bool true, he75, ?_⟩
 intro a90 hA91
 refine q_step hA91 rfl (d_not (wn rfl) (hA91.ev rfl) ?_)
 intro a92 hA93
 refine q_end ?_
 have hA94 : St 117 [(0, (.pointer (some ⟨g, 0, none⟩))), (4, (.bool false)), (5, (.int .i64 (p + 1))), (69, (.bool false))] a92 := hA93.cut _ (fm_cons (hA93.get 0 _ rfl) (fm_cons (hA93.get 4 _ rfl) (fm_cons (hA93.get 5 _ rfl) (fm_cons (hA93.get 69 _ rfl) fm_nil))))
 refine t_norm ?_
 refine c_false hA94 rfl ?_
 refine wp_skip ?_
 refine i_norm ?_
 refine t_norm ?_
 refine wp_seq ?_
 have hA95 : St 117 [(0, (.pointer (some ⟨g, 0, none⟩))), (4, (.bool false)), (5, (.int .i64 (p + 1)))] a92 := hA94.cut _ (fm_cons (hA94.get 0 _ rfl) (fm_cons (hA94.get 4 _ rfl) (fm_cons (hA94.get 5 _ rfl) fm_nil)))
 let M96 : Nat → Option (Array Value) := fun _ => none
 have hM96 : M96 = fun _ => none := rfl
 clear_value M96
 have hM96A : ∀ k, M96 k = none := fun k => congrFun hM96 k
 have hM96B : ∀ k, k < Bd → M96 k = none := fun k _ => hM96A k
 refine drawnL (S := SM M96) rfl (tabQ [some (.pointer (some ⟨g, 0, none⟩)), some (.pointer (some ⟨g, 0, none⟩)), some (.pointer (some ⟨g, 0, none⟩)), some (.pointer (some ⟨g, 11, none⟩)), none, some (.pointer (some ⟨g, 0, none⟩)), some (.pointer (some ⟨g, 0, none⟩)), some (.pointer (some ⟨g, 0, none⟩)), none, none, none, some (.pointer (some ⟨g, 0, none⟩)), some (.pointer (some ⟨g, 11, none⟩))] [cv (.pointer (some ⟨g, 0, none⟩)), cv (.pointer (some ⟨g, 0, none⟩)), cv (.pointer (some ⟨g, 0, none⟩)), cv (.pointer (some ⟨g, 11, none⟩)), cv pa80, cv (.pointer (some ⟨g, 0, none⟩)), cv (.pointer (some ⟨g, 0, none⟩)), cv (.pointer (some ⟨g, 0, none⟩)), cv (.int .i64 p), cs1 M96 hM96A #[.int .i64 p] 3, cfree, cv (.pointer (some ⟨g, 0, none⟩)), cv (.pointer (some ⟨g, 11, none⟩))]) (some 10) (fun i => (([some (.pointer (some ⟨g, 0, none⟩)), some (.pointer (some ⟨g, 0, none⟩)), some (.pointer (some ⟨g, 0, none⟩)), some (.pointer (some ⟨g, 11, none⟩)), none, some (.pointer (some ⟨g, 0, none⟩)), some (.pointer (some ⟨g, 0, none⟩)), some (.pointer (some ⟨g, 0, none⟩)), none, none, none, some (.pointer (some ⟨g, 0, none⟩)), some (.pointer (some ⟨g, 11, none⟩))] : List (Option Value))[i]?).getD none) (fun v' w' => w'.ownsRow Bd 3 1 v' (path.length + 1) ((paE path) ++ (#[.int .i64 p] : Array Value).toList) ∧ Below Bd w w' ∧ Blk w' g (walkC p (updR r d (I (getR (B u0) 0 i.size))) rd78 ev79 pa80) 62 ∧ w'.ownsRow Bd 52 15 ev79 ((evs ++ [acc6 i r k path.length p u0]).length) (evE (evs ++ [acc6 i r k path.length p u0])) ∧ v'.ownBlock ≠ some g ∧ ∀ k, ev79.ownBlock = some k → v'.ownBlock ≠ some k) [12, 10, 0, 1, 2, 3, 4, 5, 6, 7, 8, 9, 11] [4, 9, 3, 8, 2, 7, 1, 6, 5] mixedY SM.refl SM.trans hA95 (by kernel_rfl) (by kernel_rfl) (tabQ_cv _ _) ?_ ?_
 ·skip
  refine eachD_cons (.inr (.inl ⟨by decide, _, rfl, fun x y hT hk hk0 => d_move (wn rfl) (hT.ev rfl) ⟨rfl, rfl⟩⟩)) ?_
  refine eachD_cons (.inr (.inl ⟨by decide, _, rfl, fun x y hT hk hk0 => d_move (wn rfl) (hT.ev rfl) ⟨rfl, rfl⟩⟩)) ?_
  refine eachD_cons (.inr (.inl ⟨by decide, _, rfl, fun x y hT hk hk0 => d_nilCheck (wn rfl) (hk 1 _ rfl rfl) ⟨rfl, rfl⟩⟩)) ?_
  refine eachD_cons (.inr (.inl ⟨by decide, _, rfl, fun x y hT hk hk0 => d_fieldAddr (wn rfl) (hk 2 _ rfl rfl) fo62_4 ⟨rfl, rfl⟩⟩)) ?_
  refine eachD_cons (.inl ⟨by decide, rfl, fun x y hS hT hk => d_load (v := pa80) (wn rfl) (hk 3 rfl) one30 ((Blk.sm (w := w73.drew) hb81 hS (hM96A _)).cell rfl) ⟨SM.refl _, rfl⟩⟩) ?_
  refine eachD_cons (.inr (.inl ⟨by decide, _, rfl, fun x y hT hk hk0 => d_move (wn rfl) (hT.ev rfl) ⟨rfl, rfl⟩⟩)) ?_
  refine eachD_cons (.inr (.inl ⟨by decide, _, rfl, fun x y hT hk hk0 => d_nilCheck (wn rfl) (hk 5 _ rfl rfl) ⟨rfl, rfl⟩⟩)) ?_
  refine eachD_cons (.inr (.inl ⟨by decide, _, rfl, fun x y hT hk hk0 => d_fieldAddr (wn rfl) (hk 6 _ rfl rfl) fo62_0 ⟨rfl, rfl⟩⟩)) ?_
  refine eachD_cons (.inl ⟨by decide, rfl, fun x y hS hT hk => d_load (v := (.int .i64 p)) (wn rfl) (hk 7 rfl) one3 ((Blk.sm (w := w73.drew) hb81 hS (hM96A _)).cell rfl) ⟨SM.refl _, rfl⟩⟩) ?_
  refine eachD_cons (.inl ⟨by decide, rfl, fun x y hS hT hk => d_slice1 (wn rfl) (show x.eval _ = (.int .i64 p) from (hk 8 rfl)) elm30 rfl (by decide) (fun g w' _ hG hb => ⟨SM.grow hG, g, rfl, hb⟩)⟩) ?_
  refine eachD_cons (.inr (.inr ⟨rfl, fun x y hS hT hk => ?_⟩)) ?_
  ·skip
   obtain ⟨gb, hvb, hbb⟩ := hk 9 rfl
   have hG : Grow w73 y := Grow.trans ((Grow.refl _).drew) (SM.grown (by rw [hM96] at hS; exact hS))
   have hR := own_grow hG hpa84
   have hO := own_grow hG hev83
   have hBl := below_grow b89 hG (Nat.le_trans hB b89.size)
   refine d_append (wn rfl) (show x.eval _ = pa80 from (hk 4 rfl)) hvb elm30 hR hbb rfl rfl (by omega) (by decide) (Nat.le_trans hB hBl.size) ?_
   intro v' w' h1 h2 h3
   exact ⟨h1, below_by hBl h2 (Nat.le_trans hB hBl.size) (fun k hk => (own_lt hR k hk).1), (hb81.grow hG).by h2 op86, own_by hO h2 ap88, lies_ne h3 op86 (hb81.grow hG).lt, lies_ap h3 ap88 hO⟩
  refine eachD_cons (.inr (.inl ⟨by decide, _, rfl, fun x y hT hk hk0 => d_nilCheck (wn rfl) (hk 0 _ rfl rfl) ⟨rfl, rfl⟩⟩)) ?_
  refine eachD_cons (.inr (.inl ⟨by decide, _, rfl, fun x y hT hk hk0 => d_fieldAddr (wn rfl) (hk 11 _ rfl rfl) fo62_4 ⟨rfl, rfl⟩⟩)) ?_
  exact eachD_one
 rintro a97 w98 hA99 ⟨hP101, hW102⟩
 obtain ⟨v103, hv104⟩ : ∃ v', v' = (a97.tmps.getD 110 undef) := ⟨_, rfl⟩
 have hW105 : (fun v' w' => w'.ownsRow Bd 3 1 v' (path.length + 1) ((paE path) ++ (#[.int .i64 p] : Array Value).toList) ∧ Below Bd w w' ∧ Blk w' g (walkC p (updR r d (I (getR (B u0) 0 i.size))) rd78 ev79 pa80) 62 ∧ w'.ownsRow Bd 52 15 ev79 ((evs ++ [acc6 i r k path.length p u0]).length) (evE (evs ++ [acc6 i r k path.length p u0])) ∧ v'.ownBlock ≠ some g ∧ ∀ k, ev79.ownBlock = some k → v'.ownBlock ≠ some k) v103 w98 := by rw [hv104]; exact hW102
 obtain ⟨ho106, b107, m108, ho109, off110, ap111⟩ := hW105
 have ap112 : ∀ k, v103.ownBlock = some k → ev79.ownBlock ≠ some k := fun k h1 h2 => ap111 k h2 h1
 have hA113 : St 117 [(0, (.pointer (some ⟨g, 0, none⟩))), (4, (.bool false)), (5, (.int .i64 (p + 1))), (110, v103), (112, (.pointer (some ⟨g, 11, none⟩)))] a97 := hA99.cut _ (fm_cons (hA99.get 0 _ rfl) (fm_cons (hA99.get 4 _ rfl) (fm_cons (hA99.get 5 _ rfl) (fm_cons hv104.symm (fm_cons (hP101 12 _ (Nat.le_of_ble_eq_true rfl) (by decide) rfl) fm_nil)))))
 refine d_store (v := v103) (wn rfl) (hA113.ev rfl) (hA113.ev rfl) one30 (one_slice (own_form ho106)) m108 (Nat.le_of_ble_eq_true rfl) ?_
 intro w114 hU115 (m116 : Blk w114 g (walkC p (updR r d (I (getR (B u0) 0 i.size))) rd78 ev79 v103) 62)
 have b117 := hU115.below b107 hge
 have ho118 := own_upd ho109 hU115 oe85
 have ho119 := own_upd ho106 hU115 off110
 have hA120 : St 117 [(0, (.pointer (some ⟨g, 0, none⟩))), (4, (.bool false)), (5, (.int .i64 (p + 1)))] a97 := hA113.cut _ (fm_cons (hA113.get 0 _ rfl) (fm_cons (hA113.get 4 _ rfl) (fm_cons (hA113.get 5 _ rfl) fm_nil)))
 refine t_norm ?_
 refine wp_seq ?_
 refine wp_region_lit ?_
 refine q_step hA120 rfl (d_move (wn rfl) (hA120.ev rfl) ?_)
 intro a121 hA122
 refine q_step hA122 rfl (d_move (wn rfl) (hA122.ev rfl) ?_)
 intro a123 hA124
 refine q_step hA124 rfl (d_nilCheck (wn rfl) (hA124.ev rfl) ?_)
 intro a125 hA126
 refine q_step hA126 rfl (d_fieldAddr (wn rfl) (hA126.ev rfl) fo62_0 ?_)
 intro a127 hA128
 refine q_step hA128 rfl (d_store (v := (.int .i64 (p + 1))) (wn rfl) (hA128.ev rfl) (hA128.ev rfl) one3 rfl m116 (Nat.le_of_ble_eq_true rfl) ?_)
 intro w129 hU130 (m131 : Blk w129 g (walkC (p + 1) (updR r d (I (getR (B u0) 0 i.size))) rd78 ev79 v103) 62)
 have b132 := hU130.below b117 hge
 have ho133 := own_upd ho118 hU130 oe85
 have ho134 := own_upd ho119 hU130 off110
 intro a135 hA136
 refine q_end ?_
 have hA137 : St 117 [(4, (.bool false))] a135 := hA136.cut _ (fm_cons (hA136.get 4 _ rfl) fm_nil)
 refine t_norm ?_
 refine wp_seq ?_
 refine wp_region_lit ?_
 refine q_step hA137 rfl (d_assign (wn rfl) (hA137.ev rfl) ?_)
 intro a138 hA139
 refine q_end ?_
 have hA140 : St 117 [(4, (.bool true))] a138 := hA139.cut _ (fm_cons (hA139.get 4 _ rfl) fm_nil)
 refine t_norm ?_
 refine wp_ret ?_
 refine ret1 rfl hA140 (v := (.bool true)) rfl ?_
 exact ⟨rfl, b132, rd78, ev79, v103, m131, hge, (Sl.via hrd82 b89 b132), ho133, (by rw [List.length_append, ← paE_snoc]; exact ho134), oe85, off110, ap112⟩
set_option maxHeartbeats 4000000 in
set_option maxRecDepth 4000 in
theorem step_4n (Bd g : Nat) (p : Int) (r : Nat → Int) (rd ev pa : Value) (i : Ins) (d : Nat) (evs : List Ev) (path : List Int) (w : World) (hB : Bd ≤ w.heap.size) (hW : WS Bd g w p r ([] : List Int) evs path rd ev pa) (hne : evs.length ≤ 1000) (hnp : path.length ≤ 1000) (hr : ∀ k, wfI (r k)) (hp : 0 ≤ p) (hp2 : p ≤ 1000) (hix : ronB i.index = true) (hoff : wfI i.off) (hd : d < 8) : Calls Try.prog 36 #[.pointer (some ⟨g, 0, none⟩), .agg (insC ⟨4, ((d : Nat) : Int), i.a, i.b, i.imm, i.loc, i.off, i.index, i.size, i.fn, i.acq, i.weak, i.rel, i.pred, i.succ, i.to, i.zero⟩)] w fun e w' => e = .returned (.bool false) ∧ Below Bd w w' := by
 obtain ⟨hb, hge, hrd, hev, hpa, oe, op_, ap⟩ := hW
 have ap2 : ∀ k, ev.ownBlock = some k → pa.ownBlock ≠ some k := fun k h1 h2 => ap k h2 h1
 have b0 : Below Bd w w := Below.refl _ _
 refine enter (n := 117) Try.func36 rfl rfl (Nat.le_of_ble_eq_true rfl) ?_
 intro a1 hA2
 refine wp_seq ?_
 refine wp_region_lit ?_
 refine q_step hA2 rfl (d_box (wn rfl) (hA2.ev rfl) ?_)
 intro g3 w4 eg5 hG6 (m7 : Blk w4 g3 (insC ⟨4, ((d : Nat) : Int), i.a, i.b, i.imm, i.loc, i.off, i.index, i.size, i.fn, i.acq, i.weak, i.rel, i.pred, i.succ, i.to, i.zero⟩) 23)
 have ge8 : Bd ≤ g3 := eg5 ▸ (Nat.le_trans hB b0.size)
 have n9 : g ≠ g3 := fun h => Nat.lt_irrefl _ ((h.trans eg5) ▸ hb.lt)
 have off10 := own_new hev eg5
 have off11 := own_new hpa eg5
 have m12 := hb.grow hG6
 have b13 := below_grow b0 hG6 (Nat.le_trans hB b0.size)
 have ho14 := own_grow hG6 hev
 have ho15 := own_grow hG6 hpa
 intro a16 hA17
 refine q_step hA17 rfl (d_assign (wn rfl) (hA17.ev rfl) ?_)
 intro a18 hA19
 refine q_end ?_
 have hA20 : St 117 [(0, (.pointer (some ⟨g, 0, none⟩))), (3, (.pointer (some ⟨g3, 0, none⟩))), (4, (.bool false))] a18 := hA19.cut _ (fm_cons (hA19.get 0 _ rfl) (fm_cons (hA19.get 3 _ rfl) (fm_cons (hA19.get 4 _ rfl) fm_nil)))
 refine t_norm ?_
 refine wp_seq ?_
 refine wp_region_lit ?_
 refine q_step hA20 rfl (d_move (wn rfl) (hA20.ev rfl) ?_)
 intro a21 hA22
 refine q_step hA22 rfl (d_nilCheck (wn rfl) (hA22.ev rfl) ?_)
 intro a23 hA24
 refine q_step hA24 rfl (d_fieldAddr (wn rfl) (hA24.ev rfl) fo62_0 ?_)
 intro a25 hA26
 refine q_step hA26 rfl (d_load (v := (.int .i64 p)) (wn rfl) (hA26.ev rfl) one3 (m12.cell rfl) ?_)
 intro a27 hA28
 refine q_step hA28 rfl (d_bin (wn rfl) (hA28.ev rfl) (hA28.ev rfl) (b_add _ _ p 1 _ (by omega) (by omega)) ?_)
 intro a29 hA30
 refine q_step hA30 rfl (d_assign (wn rfl) (hA30.ev rfl) ?_)
 intro a31 hA32
 refine q_end ?_
 have hA33 : St 117 [(0, (.pointer (some ⟨g, 0, none⟩))), (3, (.pointer (some ⟨g3, 0, none⟩))), (4, (.bool false)), (5, (.int .i64 (p + 1)))] a31 := hA32.cut _ (fm_cons (hA32.get 0 _ rfl) (fm_cons (hA32.get 3 _ rfl) (fm_cons (hA32.get 4 _ rfl) (fm_cons (hA32.get 5 _ rfl) fm_nil))))
 refine t_norm ?_
 refine wp_seq ?_
 refine wp_seq ?_
 refine wp_region_lit ?_
 refine q_step hA33 rfl (d_fieldAddr (wn rfl) (hA33.ev rfl) fo23_0 ?_)
 intro a34 hA35
 refine q_step hA35 rfl (d_load (v := (.int .i64 4)) (wn rfl) (hA35.ev rfl) one3 (m7.cell rfl) ?_)
 intro a36 hA37
 refine q_end ?_
 have hA38 : St 117 [(0, (.pointer (some ⟨g, 0, none⟩))), (3, (.pointer (some ⟨g3, 0, none⟩))), (4, (.bool false)), (5, (.int .i64 (p + 1))), (12, (.int .i64 4))] a36 := hA37.cut _ (fm_cons (hA37.get 0 _ rfl) (fm_cons (hA37.get 3 _ rfl) (fm_cons (hA37.get 4 _ rfl) (fm_cons (hA37.get 5 _ rfl) (fm_cons (hA37.get 12 _ rfl) fm_nil)))))
 refine t_norm ?_
 refine wp_block ?_
 refine wp_seq ?_
 refine wp_region_lit ?_
 refine q_step hA38 rfl (d_bin (wn rfl) (hA38.ev rfl) (hA38.ev rfl) (b_eq _ _ 4 1 false _ rfl) ?_)
 intro a39 hA40
 refine q_step hA40 rfl (d_assign (wn rfl) (hA40.ev rfl) ?_)
 intro a41 hA42
 refine q_end ?_
 have hA43 : St 117 [(0, (.pointer (some ⟨g, 0, none⟩))), (3, (.pointer (some ⟨g3, 0, none⟩))), (4, (.bool false)), (5, (.int .i64 (p + 1))), (12, (.int .i64 4)), (13, (.bool false))] a41 := hA42.cut _ (fm_cons (hA42.get 0 _ rfl) (fm_cons (hA42.get 3 _ rfl) (fm_cons (hA42.get 4 _ rfl) (fm_cons (hA42.get 5 _ rfl) (fm_cons (hA42.get 12 _ rfl) (fm_cons (hA42.get 13 _ rfl) fm_nil))))))
 refine t_norm ?_
 refine c_false hA43 rfl ?_
 refine wp_seq ?_
 refine wp_region_lit ?_
 refine q_step hA43 rfl (d_bin (wn rfl) (hA43.ev rfl) (hA43.ev rfl) (b_eq _ _ 4 2 false _ rfl) ?_)
 intro a44 hA45
 refine q_step hA45 rfl (d_assign (wn rfl) (hA45.ev rfl) ?_)
 intro a46 hA47
 refine q_end ?_
 have hA48 : St 117 [(0, (.pointer (some ⟨g, 0, none⟩))), (3, (.pointer (some ⟨g3, 0, none⟩))), (4, (.bool false)), (5, (.int .i64 (p + 1))), (12, (.int .i64 4)), (23, (.bool false))] a46 := hA47.cut _ (fm_cons (hA47.get 0 _ rfl) (fm_cons (hA47.get 3 _ rfl) (fm_cons (hA47.get 4 _ rfl) (fm_cons (hA47.get 5 _ rfl) (fm_cons (hA47.get 12 _ rfl) (fm_cons (hA47.get 23 _ rfl) fm_nil))))))
 refine t_norm ?_
 refine c_false hA48 rfl ?_
 refine wp_seq ?_
 refine wp_region_lit ?_
 refine q_step hA48 rfl (d_bin (wn rfl) (hA48.ev rfl) (hA48.ev rfl) (b_eq _ _ 4 3 false _ rfl) ?_)
 intro a49 hA50
 refine q_step hA50 rfl (d_assign (wn rfl) (hA50.ev rfl) ?_)
 intro a51 hA52
 refine q_end ?_
 have hA53 : St 117 [(0, (.pointer (some ⟨g, 0, none⟩))), (3, (.pointer (some ⟨g3, 0, none⟩))), (4, (.bool false)), (5, (.int .i64 (p + 1))), (12, (.int .i64 4)), (38, (.bool false))] a51 := hA52.cut _ (fm_cons (hA52.get 0 _ rfl) (fm_cons (hA52.get 3 _ rfl) (fm_cons (hA52.get 4 _ rfl) (fm_cons (hA52.get 5 _ rfl) (fm_cons (hA52.get 12 _ rfl) (fm_cons (hA52.get 38 _ rfl) fm_nil))))))
 refine t_norm ?_
 refine c_false hA53 rfl ?_
 refine wp_seq ?_
 refine wp_seq ?_
 refine wp_region_lit ?_
 refine q_step hA53 rfl (d_bin (wn rfl) (hA53.ev rfl) (hA53.ev rfl) (b_eq _ _ 4 4 true _ rfl) ?_)
 intro a54 hA55
 refine q_step hA55 rfl (d_assign (wn rfl) (hA55.ev rfl) ?_)
 intro a56 hA57
 refine q_end ?_
 have hA58 : St 117 [(0, (.pointer (some ⟨g, 0, none⟩))), (3, (.pointer (some ⟨g3, 0, none⟩))), (4, (.bool false)), (5, (.int .i64 (p + 1))), (12, (.int .i64 4)), (62, (.bool true))] a56 := hA57.cut _ (fm_cons (hA57.get 0 _ rfl) (fm_cons (hA57.get 3 _ rfl) (fm_cons (hA57.get 4 _ rfl) (fm_cons (hA57.get 5 _ rfl) (fm_cons (hA57.get 12 _ rfl) (fm_cons (hA57.get 62 _ rfl) fm_nil))))))
 refine t_norm ?_
 refine c_true hA58 rfl ?_
 refine wp_skip ?_
 refine t_norm ?_
 refine c_true hA58 rfl ?_
 refine wp_seq ?_
 refine wp_region_lit ?_
 refine q_step hA58 rfl (d_move (wn rfl) (hA58.ev rfl) ?_)
 intro a59 hA60
 refine q_step hA60 rfl (d_loadRow (cs := (insC ⟨4, ((d : Nat) : Int), i.a, i.b, i.imm, i.loc, i.off, i.index, i.size, i.fn, i.acq, i.weak, i.rel, i.pred, i.succ, i.to, i.zero⟩)) (wn rfl) (hA60.ev rfl) row23 m7 ?_)
 intro a61 hA62
 refine q_step hA62 rfl (d_call (wn rfl) ent48 (map2 (hA62.ev rfl) (hA62.ev rfl)) (access_4n Bd g p r rd ev pa i d evs path w4 (Nat.le_trans hB b13.size) ⟨m12, hge, (hrd.below b13), ho14, ho15, oe, op_, ap⟩ hne hnp hr hix hoff hd) ?_)
 rintro e66 w63 ⟨he65, bl67⟩
 have b68 := b13.trans bl67
 refine ⟨.bool false, he65, ?_⟩
 intro a69 hA70
 refine q_step hA70 rfl (d_not (wn rfl) (hA70.ev rfl) ?_)
 intro a71 hA72
 refine q_end ?_
 have hA73 : St 117 [(0, (.pointer (some ⟨g, 0, none⟩))), (4, (.bool false)), (5, (.int .i64 (p + 1))), (69, (.bool true))] a71 := hA72.cut _ (fm_cons (hA72.get 0 _ rfl) (fm_cons (hA72.get 4 _ rfl) (fm_cons (hA72.get 5 _ rfl) (fm_cons (hA72.get 69 _ rfl) fm_nil))))
 refine t_norm ?_
 refine c_true hA73 rfl ?_
 refine wp_seq ?_
 refine wp_region_lit ?_
 refine q_step hA73 rfl (d_assign (wn rfl) (hA73.ev rfl) ?_)
 intro a74 hA75
 refine q_end ?_
 have hA76 : St 117 [(0, (.pointer (some ⟨g, 0, none⟩))), (4, (.bool false)), (5, (.int .i64 (p + 1)))] a74 := hA75.cut _ (fm_cons (hA75.get 0 _ rfl) (fm_cons (hA75.get 4 _ rfl) (fm_cons (hA75.get 5 _ rfl) fm_nil)))
 refine t_norm ?_
 refine wp_ret ?_
 refine i_ret ?_
 refine t_ret ?_
 refine ret1 rfl hA76 (v := (.bool false)) rfl ?_
 exact ⟨rfl, b68⟩
set_option maxHeartbeats 4000000 in
set_option maxRecDepth 4000 in
theorem step_6n (Bd g : Nat) (p : Int) (r : Nat → Int) (rd ev pa : Value) (i : Ins) (d k : Nat) (evs : List Ev) (path : List Int) (w : World) (hB : Bd ≤ w.heap.size) (hW : WS Bd g w p r ([] : List Int) evs path rd ev pa) (hne : evs.length ≤ 1000) (hnp : path.length ≤ 1000) (hr : ∀ k, wfI (r k)) (hp : 0 ≤ p) (hp2 : p ≤ 1000) (hix : ronB i.index = true) (hoff : wfI i.off) (hd : d < 8) : Calls Try.prog 36 #[.pointer (some ⟨g, 0, none⟩), .agg (insC ⟨6, ((d : Nat) : Int), ((k : Nat) : Int), i.b, i.imm, i.loc, i.off, i.index, i.size, i.fn, i.acq, i.weak, i.rel, i.pred, i.succ, i.to, i.zero⟩)] w fun e w' => e = .returned (.bool false) ∧ Below Bd w w' := by
 obtain ⟨hb, hge, hrd, hev, hpa, oe, op_, ap⟩ := hW
 have ap2 : ∀ k, ev.ownBlock = some k → pa.ownBlock ≠ some k := fun k h1 h2 => ap k h2 h1
 have b0 : Below Bd w w := Below.refl _ _
 refine enter (n := 117) Try.func36 rfl rfl (Nat.le_of_ble_eq_true rfl) ?_
 intro a1 hA2
 refine wp_seq ?_
 refine wp_region_lit ?_
 refine q_step hA2 rfl (d_box (wn rfl) (hA2.ev rfl) ?_)
 intro g3 w4 eg5 hG6 (m7 : Blk w4 g3 (insC ⟨6, ((d : Nat) : Int), ((k : Nat) : Int), i.b, i.imm, i.loc, i.off, i.index, i.size, i.fn, i.acq, i.weak, i.rel, i.pred, i.succ, i.to, i.zero⟩) 23)
 have ge8 : Bd ≤ g3 := eg5 ▸ (Nat.le_trans hB b0.size)
 have n9 : g ≠ g3 := fun h => Nat.lt_irrefl _ ((h.trans eg5) ▸ hb.lt)
 have off10 := own_new hev eg5
 have off11 := own_new hpa eg5
 have m12 := hb.grow hG6
 have b13 := below_grow b0 hG6 (Nat.le_trans hB b0.size)
 have ho14 := own_grow hG6 hev
 have ho15 := own_grow hG6 hpa
 intro a16 hA17
 refine q_step hA17 rfl (d_assign (wn rfl) (hA17.ev rfl) ?_)
 intro a18 hA19
 refine q_end ?_
 have hA20 : St 117 [(0, (.pointer (some ⟨g, 0, none⟩))), (3, (.pointer (some ⟨g3, 0, none⟩))), (4, (.bool false))] a18 := hA19.cut _ (fm_cons (hA19.get 0 _ rfl) (fm_cons (hA19.get 3 _ rfl) (fm_cons (hA19.get 4 _ rfl) fm_nil)))
 refine t_norm ?_
 refine wp_seq ?_
 refine wp_region_lit ?_
 refine q_step hA20 rfl (d_move (wn rfl) (hA20.ev rfl) ?_)
 intro a21 hA22
 refine q_step hA22 rfl (d_nilCheck (wn rfl) (hA22.ev rfl) ?_)
 intro a23 hA24
 refine q_step hA24 rfl (d_fieldAddr (wn rfl) (hA24.ev rfl) fo62_0 ?_)
 intro a25 hA26
 refine q_step hA26 rfl (d_load (v := (.int .i64 p)) (wn rfl) (hA26.ev rfl) one3 (m12.cell rfl) ?_)
 intro a27 hA28
 refine q_step hA28 rfl (d_bin (wn rfl) (hA28.ev rfl) (hA28.ev rfl) (b_add _ _ p 1 _ (by omega) (by omega)) ?_)
 intro a29 hA30
 refine q_step hA30 rfl (d_assign (wn rfl) (hA30.ev rfl) ?_)
 intro a31 hA32
 refine q_end ?_
 have hA33 : St 117 [(0, (.pointer (some ⟨g, 0, none⟩))), (3, (.pointer (some ⟨g3, 0, none⟩))), (4, (.bool false)), (5, (.int .i64 (p + 1)))] a31 := hA32.cut _ (fm_cons (hA32.get 0 _ rfl) (fm_cons (hA32.get 3 _ rfl) (fm_cons (hA32.get 4 _ rfl) (fm_cons (hA32.get 5 _ rfl) fm_nil))))
 refine t_norm ?_
 refine wp_seq ?_
 refine wp_seq ?_
 refine wp_region_lit ?_
 refine q_step hA33 rfl (d_fieldAddr (wn rfl) (hA33.ev rfl) fo23_0 ?_)
 intro a34 hA35
 refine q_step hA35 rfl (d_load (v := (.int .i64 6)) (wn rfl) (hA35.ev rfl) one3 (m7.cell rfl) ?_)
 intro a36 hA37
 refine q_end ?_
 have hA38 : St 117 [(0, (.pointer (some ⟨g, 0, none⟩))), (3, (.pointer (some ⟨g3, 0, none⟩))), (4, (.bool false)), (5, (.int .i64 (p + 1))), (12, (.int .i64 6))] a36 := hA37.cut _ (fm_cons (hA37.get 0 _ rfl) (fm_cons (hA37.get 3 _ rfl) (fm_cons (hA37.get 4 _ rfl) (fm_cons (hA37.get 5 _ rfl) (fm_cons (hA37.get 12 _ rfl) fm_nil)))))
 refine t_norm ?_
 refine wp_block ?_
 refine wp_seq ?_
 refine wp_region_lit ?_
 refine q_step hA38 rfl (d_bin (wn rfl) (hA38.ev rfl) (hA38.ev rfl) (b_eq _ _ 6 1 false _ rfl) ?_)
 intro a39 hA40
 refine q_step hA40 rfl (d_assign (wn rfl) (hA40.ev rfl) ?_)
 intro a41 hA42
 refine q_end ?_
 have hA43 : St 117 [(0, (.pointer (some ⟨g, 0, none⟩))), (3, (.pointer (some ⟨g3, 0, none⟩))), (4, (.bool false)), (5, (.int .i64 (p + 1))), (12, (.int .i64 6)), (13, (.bool false))] a41 := hA42.cut _ (fm_cons (hA42.get 0 _ rfl) (fm_cons (hA42.get 3 _ rfl) (fm_cons (hA42.get 4 _ rfl) (fm_cons (hA42.get 5 _ rfl) (fm_cons (hA42.get 12 _ rfl) (fm_cons (hA42.get 13 _ rfl) fm_nil))))))
 refine t_norm ?_
 refine c_false hA43 rfl ?_
 refine wp_seq ?_
 refine wp_region_lit ?_
 refine q_step hA43 rfl (d_bin (wn rfl) (hA43.ev rfl) (hA43.ev rfl) (b_eq _ _ 6 2 false _ rfl) ?_)
 intro a44 hA45
 refine q_step hA45 rfl (d_assign (wn rfl) (hA45.ev rfl) ?_)
 intro a46 hA47
 refine q_end ?_
 have hA48 : St 117 [(0, (.pointer (some ⟨g, 0, none⟩))), (3, (.pointer (some ⟨g3, 0, none⟩))), (4, (.bool false)), (5, (.int .i64 (p + 1))), (12, (.int .i64 6)), (23, (.bool false))] a46 := hA47.cut _ (fm_cons (hA47.get 0 _ rfl) (fm_cons (hA47.get 3 _ rfl) (fm_cons (hA47.get 4 _ rfl) (fm_cons (hA47.get 5 _ rfl) (fm_cons (hA47.get 12 _ rfl) (fm_cons (hA47.get 23 _ rfl) fm_nil))))))
 refine t_norm ?_
 refine c_false hA48 rfl ?_
 refine wp_seq ?_
 refine wp_region_lit ?_
 refine q_step hA48 rfl (d_bin (wn rfl) (hA48.ev rfl) (hA48.ev rfl) (b_eq _ _ 6 3 false _ rfl) ?_)
 intro a49 hA50
 refine q_step hA50 rfl (d_assign (wn rfl) (hA50.ev rfl) ?_)
 intro a51 hA52
 refine q_end ?_
 have hA53 : St 117 [(0, (.pointer (some ⟨g, 0, none⟩))), (3, (.pointer (some ⟨g3, 0, none⟩))), (4, (.bool false)), (5, (.int .i64 (p + 1))), (12, (.int .i64 6)), (38, (.bool false))] a51 := hA52.cut _ (fm_cons (hA52.get 0 _ rfl) (fm_cons (hA52.get 3 _ rfl) (fm_cons (hA52.get 4 _ rfl) (fm_cons (hA52.get 5 _ rfl) (fm_cons (hA52.get 12 _ rfl) (fm_cons (hA52.get 38 _ rfl) fm_nil))))))
 refine t_norm ?_
 refine c_false hA53 rfl ?_
 refine wp_seq ?_
 refine wp_seq ?_
 refine wp_region_lit ?_
 refine q_step hA53 rfl (d_bin (wn rfl) (hA53.ev rfl) (hA53.ev rfl) (b_eq _ _ 6 4 false _ rfl) ?_)
 intro a54 hA55
 refine q_step hA55 rfl (d_assign (wn rfl) (hA55.ev rfl) ?_)
 intro a56 hA57
 refine q_end ?_
 have hA58 : St 117 [(0, (.pointer (some ⟨g, 0, none⟩))), (3, (.pointer (some ⟨g3, 0, none⟩))), (4, (.bool false)), (5, (.int .i64 (p + 1))), (12, (.int .i64 6)), (62, (.bool false))] a56 := hA57.cut _ (fm_cons (hA57.get 0 _ rfl) (fm_cons (hA57.get 3 _ rfl) (fm_cons (hA57.get 4 _ rfl) (fm_cons (hA57.get 5 _ rfl) (fm_cons (hA57.get 12 _ rfl) (fm_cons (hA57.get 62 _ rfl) fm_nil))))))
 refine t_norm ?_
 refine c_false hA58 rfl ?_
 refine wp_seq ?_
 refine wp_region_lit ?_
 refine q_step hA58 rfl (d_bin (wn rfl) (hA58.ev rfl) (hA58.ev rfl) (b_eq _ _ 6 5 false _ rfl) ?_)
 intro a59 hA60
 refine q_step hA60 rfl (d_assign (wn rfl) (hA60.ev rfl) ?_)
 intro a61 hA62
 refine q_end ?_
 have hA63 : St 117 [(0, (.pointer (some ⟨g, 0, none⟩))), (3, (.pointer (some ⟨g3, 0, none⟩))), (4, (.bool false)), (5, (.int .i64 (p + 1))), (12, (.int .i64 6)), (62, (.bool false))] a61 := hA62.cut _ (fm_cons (hA62.get 0 _ rfl) (fm_cons (hA62.get 3 _ rfl) (fm_cons (hA62.get 4 _ rfl) (fm_cons (hA62.get 5 _ rfl) (fm_cons (hA62.get 12 _ rfl) (fm_cons (hA62.get 62 _ rfl) fm_nil))))))
 refine t_norm ?_
 refine c_false hA63 rfl ?_
 refine wp_region_lit ?_
 refine q_step hA63 rfl (d_bin (wn rfl) (hA63.ev rfl) (hA63.ev rfl) (b_eq _ _ 6 6 true _ rfl) ?_)
 intro a64 hA65
 refine q_step hA65 rfl (d_assign (wn rfl) (hA65.ev rfl) ?_)
 intro a66 hA67
 refine q_end ?_
 have hA68 : St 117 [(0, (.pointer (some ⟨g, 0, none⟩))), (3, (.pointer (some ⟨g3, 0, none⟩))), (4, (.bool false)), (5, (.int .i64 (p + 1))), (12, (.int .i64 6)), (62, (.bool true))] a66 := hA67.cut _ (fm_cons (hA67.get 0 _ rfl) (fm_cons (hA67.get 3 _ rfl) (fm_cons (hA67.get 4 _ rfl) (fm_cons (hA67.get 5 _ rfl) (fm_cons (hA67.get 12 _ rfl) (fm_cons (hA67.get 62 _ rfl) fm_nil))))))
 refine t_norm ?_
 refine c_true hA68 rfl ?_
 refine wp_seq ?_
 refine wp_region_lit ?_
 refine q_step hA68 rfl (d_move (wn rfl) (hA68.ev rfl) ?_)
 intro a69 hA70
 refine q_step hA70 rfl (d_loadRow (cs := (insC ⟨6, ((d : Nat) : Int), ((k : Nat) : Int), i.b, i.imm, i.loc, i.off, i.index, i.size, i.fn, i.acq, i.weak, i.rel, i.pred, i.succ, i.to, i.zero⟩)) (wn rfl) (hA70.ev rfl) row23 m7 ?_)
 intro a71 hA72
 refine q_step hA72 rfl (d_call (wn rfl) ent48 (map2 (hA72.ev rfl) (hA72.ev rfl)) (access_6n Bd g p r rd ev pa i d k evs path w4 (Nat.le_trans hB b13.size) ⟨m12, hge, (hrd.below b13), ho14, ho15, oe, op_, ap⟩ hne hnp hr hix hoff hd) ?_)
 rintro e76 w73 ⟨he75, bl77⟩
 have b78 := b13.trans bl77
 refine ⟨.bool false, he75, ?_⟩
 intro a79 hA80
 refine q_step hA80 rfl (d_not (wn rfl) (hA80.ev rfl) ?_)
 intro a81 hA82
 refine q_end ?_
 have hA83 : St 117 [(0, (.pointer (some ⟨g, 0, none⟩))), (4, (.bool false)), (5, (.int .i64 (p + 1))), (69, (.bool true))] a81 := hA82.cut _ (fm_cons (hA82.get 0 _ rfl) (fm_cons (hA82.get 4 _ rfl) (fm_cons (hA82.get 5 _ rfl) (fm_cons (hA82.get 69 _ rfl) fm_nil))))
 refine t_norm ?_
 refine c_true hA83 rfl ?_
 refine wp_seq ?_
 refine wp_region_lit ?_
 refine q_step hA83 rfl (d_assign (wn rfl) (hA83.ev rfl) ?_)
 intro a84 hA85
 refine q_end ?_
 have hA86 : St 117 [(0, (.pointer (some ⟨g, 0, none⟩))), (4, (.bool false)), (5, (.int .i64 (p + 1)))] a84 := hA85.cut _ (fm_cons (hA85.get 0 _ rfl) (fm_cons (hA85.get 4 _ rfl) (fm_cons (hA85.get 5 _ rfl) fm_nil)))
 refine t_norm ?_
 refine wp_ret ?_
 refine i_ret ?_
 refine t_ret ?_
 refine ret1 rfl hA86 (v := (.bool false)) rfl ?_
 exact ⟨rfl, b78⟩
end Go.Proofs.Ytlhompedcphnnaa
/- A step of the walk, whatever the instruction. -/
namespace Go.Proofs.Ytlhompedcphnnaa
open Go.RowKit

/-- a code under way by itself -/
structure Wk where
  p : Int
  r : Nat → Int
  rds : List Int
  evs : List Ev
  path : List Int
def nextW (s : Wk) : Wk := { s with p := s.p + 1, path := s.path ++ [s.p] }
def stepW (s : Wk) (i : Ins) : Option Wk :=
  if i.op = 1 then some { nextW s with r := updR s.r i.dst.toNat i.imm } else
  if i.op = 2 then some { nextW s with r := updR s.r i.dst.toNat (s.r i.a.toNat) } else
  if i.op = 3 then some { nextW s with r := updR s.r i.dst.toNat (aluR i.fn (s.r i.a.toNat) (orR s.r i.b i.imm)) } else
  if i.op = 4 then (match s.rds with
    | [] => none
    | u :: rl => some { nextW s with rds := rl, r := updR s.r i.dst.toNat (I (getR (B u) 0 i.size)), evs := s.evs ++ [acc4 i s.r s.path.length s.p u] }) else
  if i.op = 5 then some { nextW s with evs := s.evs ++ [acc5 i s.r s.path.length s.p] } else
  if i.op = 6 then (match s.rds with
    | [] => none
    | u :: rl => some { nextW s with rds := rl, r := updR s.r i.dst.toNat (I (getR (B u) 0 i.size)), evs := s.evs ++ [acc6 i s.r i.a.toNat s.path.length s.p u] }) else
  if i.op = 9 then some { nextW s with p := brP s.r i.a.toNat i s.p } else
  some { nextW s with evs := s.evs ++ [ev0 i s.path.length s.p] }
def StepPost (Bd g : Nat) (w : World) : Option Wk → Ending → World → Prop
  | none, e, w' => e = .returned (.bool false) ∧ Below Bd w w'
  | some s, e, w' => e = .returned (.bool true) ∧ Below Bd w w' ∧ ∃ rd ev pa, WS Bd g w' s.p s.r s.rds s.evs s.path rd ev pa
theorem reg_nat {q : Int} (h : regB q = true) : ∃ d : Nat, q = (d : Int) ∧ d < 8 := by
  unfold regB at h
  simp at h
  exact ⟨q.toNat, by omega, by omega⟩
theorem acc_parts {i : Ins} (h : accB i = true) : ronB i.index = true := by unfold accB at h; simp at h; exact h.1.2
set_option linter.unusedSimpArgs false
set_option maxHeartbeats 1000000 in
theorem step_any (Bd g : Nat) (s : Wk) (rd ev pa : Value) (i : Ins) (w : World) (hB : Bd ≤ w.heap.size) (hW : WS Bd g w s.p s.r s.rds s.evs s.path rd ev pa) (hne : s.evs.length ≤ 1000) (hnp : s.path.length ≤ 1000) (hr : ∀ k, wfI (s.r k)) (hp : 0 ≤ s.p) (hp2 : s.p ≤ 1000)
    (hs : soundB i = true) (himm : wfI i.imm) (hoff : wfI i.off) (hrd : ∀ x ∈ s.rds, wfI x) : Calls Try.prog 36 #[.pointer (some ⟨g, 0, none⟩), .agg (insC i)] w (StepPost Bd g w (stepW s i)) := by
  by_cases h1 : i.op = 1
  · have hs1 := hs
    simp [soundB, h1] at hs1
    obtain ⟨d, ed, ld⟩ := reg_nat hs1
    have hC : insC i = insC ⟨1, (d : Int), i.a, i.b, i.imm, i.loc, i.off, i.index, i.size, i.fn, i.acq, i.weak, i.rel, i.pred, i.succ, i.to, i.zero⟩ := by unfold insC; simp [h1, ed]
    rw [hC]
    have := step_1 Bd g s.p s.r rd ev pa i d s.rds s.evs s.path w hB hW hne hnp hr hp hp2 ld
    simp only [stepW, h1, if_true, if_false, (show i.dst.toNat = d by omega)]
    exact this
  by_cases h2 : i.op = 2
  · have hs1 := hs
    simp [soundB, h2] at hs1
    obtain ⟨d, ed, ld⟩ := reg_nat hs1.1
    obtain ⟨k, ek, lk⟩ := reg_nat hs1.2
    have hC : insC i = insC ⟨2, (d : Int), (k : Int), i.b, i.imm, i.loc, i.off, i.index, i.size, i.fn, i.acq, i.weak, i.rel, i.pred, i.succ, i.to, i.zero⟩ := by unfold insC; simp [h2, ed, ek]
    rw [hC]
    have := step_2 Bd g s.p s.r rd ev pa i d k s.rds s.evs s.path w hB hW hne hnp hr hp hp2 ld lk
    simp only [stepW, show ¬ i.op = 1 from by omega, h2, if_true, if_false, (show i.dst.toNat = d by omega), (show i.a.toNat = k by omega)]
    exact this
  by_cases h3 : i.op = 3
  · have hs1 := hs
    simp [soundB, h3] at hs1
    obtain ⟨d, ed, ld⟩ := reg_nat hs1.1.1.1.1
    obtain ⟨k, ek, lk⟩ := reg_nat hs1.1.1.1.2
    have hC : insC i = insC ⟨3, (d : Int), (k : Int), i.b, i.imm, i.loc, i.off, i.index, i.size, i.fn, i.acq, i.weak, i.rel, i.pred, i.succ, i.to, i.zero⟩ := by unfold insC; simp [h3, ed, ek]
    rw [hC]
    have := step_3 Bd g s.p s.r rd ev pa i d k s.rds s.evs s.path w hB hW hne hnp hr hp hp2 ld lk hs1.1.1.2
    simp only [stepW, show ¬ i.op = 1 from by omega, show ¬ i.op = 2 from by omega, h3, if_true, if_false, (show i.dst.toNat = d by omega), (show i.a.toNat = k by omega)]
    exact this
  by_cases h4 : i.op = 4
  · have hs1 := hs
    simp [soundB, h4] at hs1
    obtain ⟨d, ed, ld⟩ := reg_nat hs1.1.1
    have hix := acc_parts hs1.1.2
    have hC : insC i = insC ⟨4, (d : Int), i.a, i.b, i.imm, i.loc, i.off, i.index, i.size, i.fn, i.acq, i.weak, i.rel, i.pred, i.succ, i.to, i.zero⟩ := by unfold insC; simp [h4, ed]
    rw [hC]
    cases hl : s.rds with
    | nil =>
      rw [hl] at hW
      have := step_4n Bd g s.p s.r rd ev pa i d s.evs s.path w hB hW hne hnp hr hp hp2 hix hoff ld
      simp only [stepW, show ¬ i.op = 1 from by omega, show ¬ i.op = 2 from by omega, show ¬ i.op = 3 from by omega, h4, if_true, if_false, (show i.dst.toNat = d by omega)]
      rw [hl]
      exact this
    | cons u rl =>
      rw [hl] at hW
      have hu : wfI u := hrd u (by rw [hl]; simp)
      have := step_4 Bd g s.p s.r rd ev pa i d u rl s.evs s.path w hB hW hne hnp hr hp hp2 hix hoff ld hu
      simp only [stepW, show ¬ i.op = 1 from by omega, show ¬ i.op = 2 from by omega, show ¬ i.op = 3 from by omega, h4, if_true, if_false, (show i.dst.toNat = d by omega)]
      rw [hl]
      exact this
  by_cases h5 : i.op = 5
  · have hs1 := hs
    simp [soundB, h5] at hs1
    have hix := acc_parts hs1.2
    have hC : insC i = insC ⟨5, i.dst, i.a, i.b, i.imm, i.loc, i.off, i.index, i.size, i.fn, i.acq, i.weak, i.rel, i.pred, i.succ, i.to, i.zero⟩ := by unfold insC; simp [h5]
    rw [hC]
    have := step_5 Bd g s.p s.r rd ev pa i s.rds s.evs s.path w hB hW hne hnp hr hp hp2 hix hoff hs1.1 himm
    simp only [stepW, show ¬ i.op = 1 from by omega, show ¬ i.op = 2 from by omega, show ¬ i.op = 3 from by omega, show ¬ i.op = 4 from by omega, h5, if_true, if_false]
    exact this
  by_cases h6 : i.op = 6
  · have hs1 := hs
    simp [soundB, h6] at hs1
    obtain ⟨d, ed, ld⟩ := reg_nat hs1.1.1.1
    obtain ⟨k, ek, lk⟩ := reg_nat hs1.1.1.2
    have hix := acc_parts hs1.1.2
    have hC : insC i = insC ⟨6, (d : Int), (k : Int), i.b, i.imm, i.loc, i.off, i.index, i.size, i.fn, i.acq, i.weak, i.rel, i.pred, i.succ, i.to, i.zero⟩ := by unfold insC; simp [h6, ed, ek]
    rw [hC]
    cases hl : s.rds with
    | nil =>
      rw [hl] at hW
      have := step_6n Bd g s.p s.r rd ev pa i d k s.evs s.path w hB hW hne hnp hr hp hp2 hix hoff ld
      simp only [stepW, show ¬ i.op = 1 from by omega, show ¬ i.op = 2 from by omega, show ¬ i.op = 3 from by omega, show ¬ i.op = 4 from by omega, show ¬ i.op = 5 from by omega, h6, if_true, if_false, (show i.dst.toNat = d by omega), (show i.a.toNat = k by omega)]
      rw [hl]
      exact this
    | cons u rl =>
      rw [hl] at hW
      have hu : wfI u := hrd u (by rw [hl]; simp)
      have := step_6 Bd g s.p s.r rd ev pa i d k u rl s.evs s.path w hB hW hne hnp hr hp hp2 hix hoff ld lk hu
      simp only [stepW, show ¬ i.op = 1 from by omega, show ¬ i.op = 2 from by omega, show ¬ i.op = 3 from by omega, show ¬ i.op = 4 from by omega, show ¬ i.op = 5 from by omega, h6, if_true, if_false, (show i.dst.toNat = d by omega), (show i.a.toNat = k by omega)]
      rw [hl]
      exact this
  by_cases h9 : i.op = 9
  · have hs1 := hs
    simp [soundB, h9] at hs1
    obtain ⟨k, ek, lk⟩ := reg_nat hs1
    have hC : insC i = insC ⟨9, i.dst, (k : Int), i.b, i.imm, i.loc, i.off, i.index, i.size, i.fn, i.acq, i.weak, i.rel, i.pred, i.succ, i.to, i.zero⟩ := by unfold insC; simp [h9, ek]
    rw [hC]
    have := step_9 Bd g s.p s.r rd ev pa i k s.rds s.evs s.path w hB hW hne hnp hr hp hp2 lk
    simp only [stepW, show ¬ i.op = 1 from by omega, show ¬ i.op = 2 from by omega, show ¬ i.op = 3 from by omega, show ¬ i.op = 4 from by omega, show ¬ i.op = 5 from by omega, show ¬ i.op = 6 from by omega, h9, if_true, if_false, (show i.a.toNat = k by omega)]
    exact this
  by_cases h7 : i.op = 7
  · have := step_7 Bd g s.p s.r rd ev pa i s.rds s.evs s.path w hB hW hne hnp hr hp hp2
    have he : ({ i with op := 7 } : Ins) = i := by cases i; simp at h7; simp [h7]
    rw [he] at this
    simp only [stepW, h1, h2, h3, h4, h5, h6, h9, if_false]
    exact this
  by_cases h8 : i.op = 8
  · have := step_8 Bd g s.p s.r rd ev pa i s.rds s.evs s.path w hB hW hne hnp hr hp hp2
    have he : ({ i with op := 8 } : Ins) = i := by cases i; simp at h8; simp [h8]
    rw [he] at this
    simp only [stepW, h1, h2, h3, h4, h5, h6, h9, if_false]
    exact this
  exfalso
  simp [soundB, h1, h2, h3, h4, h5, h6, h7, h8, h9] at hs
end Go.Proofs.Ytlhompedcphnnaa
/- What a step turns: places rise, numbers stay in range, rows grow by one at most; a run as steps. -/
namespace Go.Proofs.Ytlhompedcphnnaa
open Go.RowKit
set_option linter.unusedSimpArgs false

theorem alu_wf (fn : Int) {a b : Int} (ha : wfI a) (hb : wfI b) : wfI (aluR fn a b) := by
  unfold aluR
  rw [ha, hb]
  split
  · rw [add]; exact wf_I _
  split
  · rw [sub]; exact wf_I _
  split
  · rw [bits_xor]; exact wf_I _
  split
  · rw [bits_and]; exact wf_I _
  split
  · rw [bits_or]; exact wf_I _
  · exact wf_0
theorem right_yes {i : Ins} {p n : Int} (h : rightR i p n = 0) : soundB i = true ∧ (i.op = 9 → p < i.to ∧ i.to ≤ n) := by
  unfold rightR at h
  split at h
  · rename_i h1
    simp at h1
    refine ⟨h1.2, fun h9 => ?_⟩
    split at h
    · cases h
    · rename_i h2; simp [h9] at h2; omega
  · cases h
/-- what holds of each step of a right instruction -/
theorem step_facts {s s' : Wk} {i : Ins} {n : Int} (hr : rightR i s.p n = 0) (hlt : s.p < n) (hw : ∀ k, wfI (s.r k)) (hi : wfI i.imm) (h : stepW s i = some s') :
    s.p < s'.p ∧ s'.p ≤ n ∧ (∀ k, wfI (s'.r k)) ∧ s'.path = s.path ++ [s.p] ∧ s'.evs.length ≤ s.evs.length + 1 ∧ ∀ x ∈ s'.rds, x ∈ s.rds := by
  obtain ⟨hs, h9⟩ := right_yes hr
  unfold stepW at h
  split at h
  · cases h; exact ⟨by simp [nextW]; omega, by simp [nextW]; omega, wf_upd hw hi, rfl, by simp [nextW], fun x hx => hx⟩
  split at h
  · cases h; exact ⟨by simp [nextW]; omega, by simp [nextW]; omega, wf_upd hw (hw _), rfl, by simp [nextW], fun x hx => hx⟩
  split at h
  · cases h; exact ⟨by simp [nextW]; omega, by simp [nextW]; omega, wf_upd hw (alu_wf _ (hw _) (wf_or hw hi)), rfl, by simp [nextW], fun x hx => hx⟩
  split at h
  · split at h
    · cases h
    · rename_i u rl hl
      cases h; exact ⟨by simp [nextW]; omega, by simp [nextW]; omega, wf_upd hw (wf_I _), rfl, by simp [nextW], fun x hx => by rw [hl]; exact List.mem_cons_of_mem _ hx⟩
  split at h
  · cases h; exact ⟨by simp [nextW]; omega, by simp [nextW]; omega, hw, rfl, by simp [nextW], fun x hx => hx⟩
  split at h
  · split at h
    · cases h
    · rename_i u rl hl
      cases h; exact ⟨by simp [nextW]; omega, by simp [nextW]; omega, wf_upd hw (wf_I _), rfl, by simp [nextW], fun x hx => by rw [hl]; exact List.mem_cons_of_mem _ hx⟩
  split at h
  · rename_i h9'
    have := h9 h9'
    cases h
    refine ⟨?_, ?_, hw, rfl, by simp [nextW], fun x hx => hx⟩ <;> (simp only [brP]; split <;> omega)
  · cases h; exact ⟨by simp [nextW]; omega, by simp [nextW]; omega, hw, rfl, by simp [nextW], fun x hx => hx⟩
/-- a run of a code by itself, in so many steps at most; none: reads are used up -/
def runW (code : List Ins) : Nat → Wk → Option Wk
  | 0, s => some s
  | f + 1, s => match code[s.p.toNat]? with
    | none => some s
    | some i => match stepW s i with
      | none => none
      | some s' => runW code f s'
theorem runW_end {code : List Ins} {f : Nat} {s : Wk} (h : code.length ≤ s.p.toNat) : runW code f s = some s := by
  cases f with
  | zero => rfl
  | succ f => unfold runW; rw [List.getElem?_eq_none h]
theorem runW_step {code : List Ins} {f : Nat} {s : Wk} {i : Ins} (h : code[s.p.toNat]? = some i) : runW code (f + 1) s = match stepW s i with | none => none | some s' => runW code f s' := by
  rw [runW, h]
end Go.Proofs.Ytlhompedcphnnaa
/- What Local needs besides: codes of one, a row's cells as a whole, four results. -/
namespace Go.Proofs.Ytlhompedcphnnaa
open Go.RowKit

theorem Blk.below {B' g : Nat} {w w' : World} {cs : Array Value} {t : TypeId} (h : Blk w g cs t) (hb : Below B' w w') (hg : g < B') : Blk w' g cs t := by
  unfold Blk; rw [hb.block g hg]; exact h
theorem walk_regs {w : World} {g : Nat} {t : TypeId} {p : Int} {r : Nat → Int} {rd ev pa : Value} (h : Blk w g (walkC p r rd ev pa) t) : w.rangeAt g 1 (regsC r).toList := fun j v hv => by
  have hj : j < 8 := by
    have := (List.getElem?_eq_some_iff.1 hv).1
    simpa [regsC] using this
  have hc := h.cell (walk_get (p := p) (r := r) (rd := rd) (ev := ev) (pa := pa) hj)
  rw [hc]
  have : (regsC r).toList[j]? = some (.int .i64 (r j)) := by
    match j, hj with
    | 0, _ | 1, _ | 2, _ | 3, _ | 4, _ | 5, _ | 6, _ | 7, _ => rfl
  rw [this] at hv; exact hv
theorem cs_one {B' g : Nat} {w : World} {v : Value} {t : TypeId} {code : List Ins} (hb : Blk w g #[v] t) (hs : Sl insE 17 B' w v code) (hB : B' ≤ w.heap.size) : Cs w.heap.size w (.slice (some ⟨g, 0, none⟩) 1 1) [code] := by
  refine ⟨[v], ⟨some ⟨g, 0, none⟩, 1, rfl, Nat.le_refl _, fun j x hx => ?_⟩, rfl, fun j u c hu hc => ?_⟩
  · have hj : j = 0 := by have := get_lt hx; simpa using this
    subst hj
    simp at hx; subst hx
    exact ⟨g, 0, rfl, hb.lt, fun k u hu => by
      have hk : k = 0 := by have := get_lt hu; simpa [cellE] using this
      subst hk
      simp [cellE] at hu; subst hu
      exact hb.cell rfl⟩
  · have hj : j = 0 := by have := get_lt hu; simpa using this
    subst hj
    simp at hu hc; subst hu; subst hc
    exact hs.mono hB
theorem check_one {code : List Ins} (h : (checkR [code]).2.2 = 0) : code.length ≤ 8 ∧ ∀ (k : Nat) i, code[k]? = some i → rightR i (k : Int) (code.length : Int) = 0 := by
  have key : ∀ (l : List Ins) (k : Nat), bad1 code.length l k = none → ∀ (j : Nat) i, l[j]? = some i → rightR i ((k + j : Nat) : Int) (code.length : Int) = 0 := by
    intro l
    induction l with
    | nil => intro k _ j i hj; simp at hj
    | cons x l ih =>
      intro k hk j i hj
      unfold bad1 at hk
      split at hk
      · rename_i hx
        cases j with
        | zero => simp at hj; subst hj; simpa using hx
        | succ j =>
          have := ih (k + 1) hk j i (by simpa using hj)
          rw [show k + (j + 1) = k + 1 + j by omega]; exact this
      · cases hk
  unfold checkR at h
  simp only [List.length_cons, List.length_nil] at h
  rw [if_neg (by simp)] at h
  cases hl : longR [code] 0 with
  | some t => simp [hl] at h
  | none =>
    have hlen : code.length ≤ 8 := by
      unfold longR at hl
      split at hl
      · cases hl
      · rename_i h1; simp at h1; omega
    refine ⟨hlen, ?_⟩
    cases hb : bad1 code.length code 0 with
    | none => intro k i hi; have := key code 0 hb k i hi; simpa using this
    | some q =>
      obtain ⟨k, e⟩ := q
      have hb2 : bad2 [code] 0 = some (0, k, e) := by rw [bad2, hb]
      rw [hl, hb2] at h
      simp only at h
      exfalso
      subst h
      have key2 : ∀ (l : List Ins) (k k' : Nat) (e : Int), bad1 code.length l k = some (k', e) → e ≠ 0 := by
        intro l
        induction l with
        | nil => intro k k' e h; simp [bad1] at h
        | cons x l ih =>
          intro k k' e h
          unfold bad1 at h
          split at h
          · exact ih _ _ _ h
          · rename_i hx; cases h; simpa using hx
      exact key2 code 0 k 0 hb rfl
section
variable {P : Program} {a : Act} {w : World} {n : Nat} {T : List (Nat × Value)}
theorem retC3 {fn : Func} {R : Ending → World → Prop} {p q1 q2 q3 : Tmp} {t t' : TypeId} {g : Nat} {cs : Array Value} {x y z : Value} (hr : fn.results = #[.cell p t, .tmp q1, .tmp q2, .tmp q3]) (hA : St n T a) (hv : ev T (.tmp p) = some (.pointer (some ⟨g, 0, none⟩))) (hx : ev T (.tmp q1) = some x) (hy : ev T (.tmp q2) = some y) (hz : ev T (.tmp q3) = some z) (hb : Blk w g cs t') (h1 : rowB P t cs.size = true)
    (h : R (.returned (.tuple #[.agg cs, x, y, z])) w) : bodyPost P fn R .ret a w := by
  obtain ⟨⟨dd, h2, _, h3⟩, h4⟩ := row_facts h1
  have e1 := hA.ev hv
  have e2 := hA.ev hx
  have e3 := hA.ev hy
  have e4 := hA.ev hz
  simp only [Act.eval] at e1 e2 e3 e4
  refine ⟨hA.defers, _, ?_, h⟩
  have f1 : a.tmps[p]?.getD undef = .pointer (some ⟨g, 0, none⟩) := by simpa using e1
  have f2 : a.tmps[q1]?.getD undef = x := by simpa using e2
  have f3 : a.tmps[q2]?.getD undef = y := by simpa using e3
  have f4 : a.tmps[q3]?.getD undef = z := by simpa using e4
  simp [results, hr, f1, f2, f3, f4, asAddr, run_loadVar_row w g t' t cs (0, 0) dd hb h2 (by cases dd <;> simp_all) h4]
end
/-- a block that holds what it will hold -/
def cmr (M : Nat → Option (Array Value)) (g : Nat) (t : TypeId) (fin : Array Value) (h : M g = some fin) : Cl (SM M) :=
  ⟨fun _ w => Blk w g fin t, fun _ w w' hS hb => by
    obtain ⟨cs', h1, h2, h3⟩ := hS.turns g fin fin t h hb
    have : cs' = fin := by
      apply Array.ext_getElem?
      intro j
      rcases h3 j with e | e <;> exact e
    subst this; exact h1⟩
theorem SM.storeRow {M : Nat → Option (Array Value)} {w w' : World} {g : Nat} {fin cs : Array Value} {t : TypeId} (hM : M g = some fin) (hu : Upd g w w') (hb : Blk w g cs t) (hb' : Blk w' g fin t) (hs : fin.size = cs.size) : SM M w w' :=
  ⟨hu.os, hu.tape, hu.output, Nat.le_of_eq hu.size.symm, fun i _ hm => hu.block i (fun e => by subst e; rw [hM] at hm; cases hm), fun i fin' cs' t' hm hbi => by
    by_cases hi : i = g
    · subst hi
      rw [hM] at hm; cases hm
      unfold Blk at hb hbi
      rw [hb] at hbi
      injection hbi with hbi; injection hbi with h1 h2
      subst h1; subst h2
      exact ⟨_, hb', hs, fun j => .inr rfl⟩
    · exact ⟨cs', hbi.upd hu hi, rfl, fun _ => .inl rfl⟩⟩
section
variable {P : Program} {ops : Array Oper} {a : Act} {w w0 : World} {K : Value → World → Prop} {d : Option Tmp} {ty : TypeId} {pos : String} {af : Array Edge} {gd : Option (Nat × Bool)} {M : Nat → Option (Array Value)}
theorem d_storeRowM {t t' : TypeId} {x y : Operand} {g : Nat} {fin cs : Array Value} (hw : Region.wanted { dst := d, op := .store t x y, type := ty, pos := pos, after := af, guard := gd } (yielded ops a.tmps) = true) (hx : a.eval x = .pointer (some ⟨g, 0, none⟩)) (hy : a.eval y = .agg fin)
    (h1 : rowB P t fin.size = true) (hS : SM M w0 w) (hM : M g = some fin) (hb : Blk w0 g cs t') (hs : cs.size = fin.size) (ho : fin.toList.all (·.oneCell') = true) (hK : ∀ w', SM M w w' ∧ Blk w' g fin t' → K undef w') :
    Does P ops { dst := d, op := .store t x y, type := ty, pos := pos, after := af, guard := gd } a w K := by
  obtain ⟨cs', hb', hs', _⟩ := hS.turns g fin cs t' hM hb
  exact d_storeRow hw hx hy h1 hb' (by omega) ho fun w' hu hb2 => hK w' ⟨SM.storeRow hM hu hb' hb2 (by omega), hb2⟩
end
end Go.Proofs.Ytlhompedcphnnaa
/- What Local comes to. -/
namespace Go.Proofs.Ytlhompedcphnnaa
open Go.RowKit

def start0 (r0 : Nat → Int) (rds : List Int) : Wk := ⟨((0 : Nat) : Int), r0, rds, [], []⟩
def refused (e : Int) : Ending := .returned (.tuple #[.agg (regsC fun _ => 0), .slice none 0 0, .slice none 0 0, .int .i64 e])
def LPost (code : List Ins) (r0 : Nat → Int) (rds : List Int) (w : World) (e : Ending) (w' : World) : Prop :=
  Grow w w' ∧ if (checkR [code]).2.2 = 0 then (match runW code code.length ⟨((0 : Nat) : Int), r0, rds, [], []⟩ with
    | none => e = refused 24
    | some s => ∃ ev pa, e = .returned (.tuple #[.agg (regsC s.r), ev, pa, .int .i64 0]) ∧ w'.ownsRow w.heap.size 52 15 ev s.evs.length (evE s.evs) ∧ w'.ownsRow w.heap.size 3 1 pa s.path.length (paE s.path))
  else e = refused 1
theorem own_le {w : World} {b b' : Nat} {e : TypeId} {s n : Nat} {v : Value} {xs : List Value} (h : w.ownsRow b e s v n xs) (hb : b' ≤ b) : w.ownsRow b' e s v n xs := by
  obtain ⟨h1, h2⟩ := h
  refine ⟨h1, ?_⟩
  rcases h2 with h2 | ⟨g, cap, cur, hv, hg, h3⟩
  · exact .inl h2
  · exact .inr ⟨g, cap, cur, hv, Nat.le_trans hb hg, h3⟩
theorem own_smG {M : Nat → Option (Array Value)} {w w' : World} {b : Nat} {e : TypeId} {s n : Nat} {v : Value} {xs : List Value} (h : w.ownsRow b e s v n xs) (hS : SM M w w') (hM : ∀ k, b ≤ k → M k = none) : w'.ownsRow b e s v n xs :=
  own_keep h fun k hk => hS.block k (own_lt h k hk).2 (hM k (own_lt h k hk).1)
section
variable {code : List Ins} {r0 : Nat → Int} {rds : List Int} {w w' : World}
theorem LPost.bad (h : (checkR [code]).2.2 ≠ 0) (b : Grow w w') : LPost code r0 rds w (refused 1) w' := by
  refine ⟨b, ?_⟩; rw [if_neg h]
theorem LPost.none (h : (checkR [code]).2.2 = 0) (hr : runW code code.length ⟨((0 : Nat) : Int), r0, rds, [], []⟩ = none) (b : Grow w w') : LPost code r0 rds w (refused 24) w' := by
  refine ⟨b, ?_⟩; rw [if_pos h, hr]
theorem LPost.some {s : Wk} {G : Nat} {ev pa : Value} (h : (checkR [code]).2.2 = 0) (hr : runW code code.length ⟨((0 : Nat) : Int), r0, rds, [], []⟩ = some s) (b : Grow w w') (hG : w.heap.size ≤ G) (he : w'.ownsRow G 52 15 ev s.evs.length (evE s.evs)) (hp : w'.ownsRow G 3 1 pa s.path.length (paE s.path)) :
    LPost code r0 rds w (.returned (.tuple #[.agg (regsC s.r), ev, pa, .int .i64 0])) w' := by
  refine ⟨b, ?_⟩; rw [if_pos h, hr]; exact ⟨ev, pa, rfl, own_le he hG, own_le hp hG⟩
end
end Go.Proofs.Ytlhompedcphnnaa
/- What Local returns. -/
namespace Go.Proofs.Ytlhompedcphnnaa
open Go.RowKit
set_option linter.unusedSimpArgs false
set_option linter.unusedVariables false
theorem elm34 : elemB Try.prog 34 35 1 24 = true := by kernel_rfl
theorem ent20 : ((Try.prog.funcs[20]?).map fun fn => (fn.name == "runtime.NumGoroutine", fn.body.isNone)) = some (false, false) := by kernel_rfl
theorem ent36 : ((Try.prog.funcs[36]?).map fun fn => (fn.name == "runtime.NumGoroutine", fn.body.isNone)) = some (false, false) := by kernel_rfl
theorem places62 : placesOf Try.prog 62 = some [(0, 1), (1, 8), (9, 1), (10, 1), (11, 1)] := by kernel_rfl
theorem row43 : rowB Try.prog 43 8 = true := by kernel_rfl
theorem row62 : rowB Try.prog 62 12 = true := by kernel_rfl
theorem zero43 : (Try.prog.info? 43).map (fun i => (i.zero, i.size)) = some (some (.agg #[.int .i64 0, .int .i64 0, .int .i64 0, .int .i64 0, .int .i64 0, .int .i64 0, .int .i64 0, .int .i64 0]), 8) := by kernel_rfl
theorem zero62 : (Try.prog.info? 62).map (fun i => (i.zero, i.size)) = some (some (.agg #[.int .i64 0, .int .i64 0, .int .i64 0, .int .i64 0, .int .i64 0, .int .i64 0, .int .i64 0, .int .i64 0, .int .i64 0, .slice none 0 0, .slice none 0 0, .slice none 0 0]), 12) := by kernel_rfl
set_option maxHeartbeats 8000000 in
set_option maxRecDepth 4000 in
theorem local_any (code : List Ins) (rds : List Int) (ao ao2 : Option Addr) (cap cap2 : Nat) (r0 : Nat → Int) (w : World) (hs : Sl insE 17 w.heap.size w (.slice ao code.length cap) code) (hrd : Sl intE 1 w.heap.size w (.slice ao2 rds.length cap2) rds) (hcl : code.length ≤ 1000000) (hwr : ∀ k, wfI (r0 k)) (hwi : ∀ i ∈ code, wfI i.imm ∧ wfI i.off) (hwd : ∀ z ∈ rds, wfI z) : Calls Try.prog 26 #[.slice ao code.length cap, .agg (regsC r0), .slice ao2 rds.length cap2] w (LPost code r0 rds w) := by
 have b0 : Below w.heap.size w w := Below.refl _ _
 refine enter (n := 46) Try.func26 rfl rfl (Nat.le_of_ble_eq_true rfl) ?_
 intro a1 hA2
 refine wp_seq ?_
 refine wp_region_lit ?_
 refine q_step hA2 rfl (d_box (wn rfl) (hA2.ev rfl) ?_)
 intro g3 w4 eg5 hG6 (m7 : Blk w4 g3 (regsC r0) 43)
 have ge8 : w.heap.size ≤ g3 := eg5 ▸ b0.size
 have b9 := below_grow b0 hG6 b0.size
 intro a10 hA11
 refine q_step hA11 rfl (d_alloc (wn rfl) zero43 ?_)
 intro g12 w13 eg14 hG15 (m16 : Blk w13 g12 #[.int .i64 0, .int .i64 0, .int .i64 0, .int .i64 0, .int .i64 0, .int .i64 0, .int .i64 0, .int .i64 0] 43)
 have ge17 : w.heap.size ≤ g12 := eg14 ▸ b9.size
 have n18 : g3 ≠ g12 := fun h => Nat.lt_irrefl _ ((h.trans eg14) ▸ m7.lt)
 have lt19 : g3 < g12 := eg14 ▸ m7.lt
 have m20 := m7.grow hG15
 have b21 := below_grow b9 hG15 b9.size
 intro a22 hA23
 refine q_step hA23 rfl (d_assign (wn rfl) (hA23.ev rfl) ?_)
 intro a24 hA25
 refine q_step hA25 rfl (d_assign (wn rfl) (hA25.ev rfl) ?_)
 intro a26 hA27
 refine q_step hA27 rfl (d_assign (wn rfl) (hA27.ev rfl) ?_)
 intro a28 hA29
 refine q_end ?_
 have hA30 : St 46 [(0, (.slice ao code.length cap)), (2, (.slice ao2 rds.length cap2)), (4, (.pointer (some ⟨g3, 0, none⟩))), (6, (.pointer (some ⟨g12, 0, none⟩))), (7, (.slice none 0 0)), (8, (.slice none 0 0)), (9, (.int .i64 0))] a28 := hA29.cut _ (fm_cons (hA29.get 0 _ rfl) (fm_cons (hA29.get 2 _ rfl) (fm_cons (hA29.get 4 _ rfl) (fm_cons (hA29.get 6 _ rfl) (fm_cons (hA29.get 7 _ rfl) (fm_cons (hA29.get 8 _ rfl) (fm_cons (hA29.get 9 _ rfl) fm_nil)))))))
 refine t_norm ?_
 refine wp_seq ?_
 refine wp_seq ?_
 refine wp_region_lit ?_
 refine q_step hA30 rfl (d_move (wn rfl) (hA30.ev rfl) ?_)
 intro a31 hA32
 refine q_step hA32 rfl (d_slice1 (wn rfl) (hA32.ev rfl) elm34 rfl (by decide) ?_)
 intro g33 w34 eg35 hG36 (m37 : Blk w34 g33 #[.slice ao code.length cap] 35)
 have ge38 : w.heap.size ≤ g33 := eg35 ▸ b21.size
 have n39 : g3 ≠ g33 := fun h => Nat.lt_irrefl _ ((h.trans eg35) ▸ m20.lt)
 have lt40 : g3 < g33 := eg35 ▸ m20.lt
 have n41 : g12 ≠ g33 := fun h => Nat.lt_irrefl _ ((h.trans eg35) ▸ m16.lt)
 have lt42 : g12 < g33 := eg35 ▸ m16.lt
 have m43 := m20.grow hG36
 have m44 := m16.grow hG36
 have b45 := below_grow b21 hG36 b21.size
 intro a46 hA47
 refine q_step hA47 rfl (d_call (wn rfl) ent20 (map1 (hA47.ev rfl)) (check_any [code] (.slice (some ⟨g33, 0, none⟩) 1 1) w34 (cs_one m37 (hs.below b45) b45.size) (by simp) (by simp [totN]; omega)) ?_)
 rintro e51 w48 ⟨he50, hG49⟩
 have m52 := m43.grow hG49
 have m53 := m44.grow hG49
 have m54 := m37.grow hG49
 have b55 := below_grow b45 hG49 b45.size
 refine ⟨(.tuple #[(.int .i64 ((checkR [code]).1)), (.int .i64 ((checkR [code]).2.1)), (.int .i64 ((checkR [code]).2.2))]), he50, ?_⟩
 intro a56 hA57
 refine q_step hA57 rfl (d_move (wn rfl) (hA57.ev rfl) ?_)
 intro a58 hA59
 refine q_step hA59 rfl (d_extract (v := (.int .i64 ((checkR [code]).1))) (wn rfl) (hA59.ev rfl) rfl ?_)
 intro a60 hA61
 refine q_step hA61 rfl (d_extract (v := (.int .i64 ((checkR [code]).2.1))) (wn rfl) (hA61.ev rfl) rfl ?_)
 intro a62 hA63
 refine q_step hA63 rfl (d_extract (v := (.int .i64 ((checkR [code]).2.2))) (wn rfl) (hA63.ev rfl) rfl ?_)
 intro a64 hA65
 refine q_step hA65 rfl (d_assign (wn rfl) (hA65.ev rfl) ?_)
 intro a66 hA67
 refine q_step hA67 rfl (d_assign (wn rfl) (hA67.ev rfl) ?_)
 intro a68 hA69
 refine q_step hA69 rfl (d_assign (wn rfl) (hA69.ev rfl) ?_)
 intro a70 hA71
 refine q_end ?_
 have hA72 : St 46 [(0, (.slice ao code.length cap)), (2, (.slice ao2 rds.length cap2)), (4, (.pointer (some ⟨g3, 0, none⟩))), (6, (.pointer (some ⟨g12, 0, none⟩))), (7, (.slice none 0 0)), (8, (.slice none 0 0)), (9, (.int .i64 0)), (12, (.int .i64 ((checkR [code]).2.2)))] a70 := hA71.cut _ (fm_cons (hA71.get 0 _ rfl) (fm_cons (hA71.get 2 _ rfl) (fm_cons (hA71.get 4 _ rfl) (fm_cons (hA71.get 6 _ rfl) (fm_cons (hA71.get 7 _ rfl) (fm_cons (hA71.get 8 _ rfl) (fm_cons (hA71.get 9 _ rfl) (fm_cons (hA71.get 12 _ rfl) fm_nil))))))))
 refine t_norm ?_
 refine wp_seq ?_
 refine wp_region_lit ?_
 refine q_step hA72 rfl (d_move (wn rfl) (hA72.ev rfl) ?_)
 intro a73 hA74
 rcases Bool.eq_false_or_eq_true ((checkR [code]).2.2 == 0) with hb75 | hb75
 ·skip
  have hq76 := eq_of_beq hb75
  refine q_step hA74 rfl (d_bin (wn rfl) (hA74.ev rfl) (hA74.ev rfl) (b_ne _ _ ((checkR [code]).2.2) 0 false _ (notof hb75)) ?_)
  intro a77 hA78
  refine q_end ?_
  have hA79 : St 46 [(0, (.slice ao code.length cap)), (2, (.slice ao2 rds.length cap2)), (4, (.pointer (some ⟨g3, 0, none⟩))), (6, (.pointer (some ⟨g12, 0, none⟩))), (7, (.slice none 0 0)), (8, (.slice none 0 0)), (9, (.int .i64 0)), (22, (.bool false))] a77 := hA78.cut _ (fm_cons (hA78.get 0 _ rfl) (fm_cons (hA78.get 2 _ rfl) (fm_cons (hA78.get 4 _ rfl) (fm_cons (hA78.get 6 _ rfl) (fm_cons (hA78.get 7 _ rfl) (fm_cons (hA78.get 8 _ rfl) (fm_cons (hA78.get 9 _ rfl) (fm_cons (hA78.get 22 _ rfl) fm_nil))))))))
  refine t_norm ?_
  refine c_false hA79 rfl ?_
  refine wp_skip ?_
  refine t_norm ?_
  refine wp_seq ?_
  refine wp_region_lit ?_
  refine q_step hA79 rfl (d_loadRow (cs := (regsC r0)) (wn rfl) (hA79.ev rfl) row43 m52 ?_)
  intro a80 hA81
  refine q_step hA81 rfl (d_move (wn rfl) (hA81.ev rfl) ?_)
  intro a82 hA83
  refine q_step hA83 rfl (d_build (cs := #[.int .i64 0, .int .i64 (r0 0), .int .i64 (r0 1), .int .i64 (r0 2), .int .i64 (r0 3), .int .i64 (r0 4), .int .i64 (r0 5), .int .i64 (r0 6), .int .i64 (r0 7), .slice ao2 rds.length cap2, .slice none 0 0, .slice none 0 0]) (wn rfl) (bp_of (bq_cons (hA83.ev rfl) (bq_cons (hA83.ev rfl) bq_nil))) zero62 places62 (by kernel_rfl) ?_)
  intro a84 hA85
  refine q_step hA85 rfl (d_alloc (wn rfl) zero62 ?_)
  intro g86 w87 eg88 hG89 (m90 : Blk w87 g86 #[.int .i64 0, .int .i64 0, .int .i64 0, .int .i64 0, .int .i64 0, .int .i64 0, .int .i64 0, .int .i64 0, .int .i64 0, .slice none 0 0, .slice none 0 0, .slice none 0 0] 62)
  have ge91 : w.heap.size ≤ g86 := eg88 ▸ b55.size
  have n92 : g3 ≠ g86 := fun h => Nat.lt_irrefl _ ((h.trans eg88) ▸ m52.lt)
  have lt93 : g3 < g86 := eg88 ▸ m52.lt
  have n94 : g12 ≠ g86 := fun h => Nat.lt_irrefl _ ((h.trans eg88) ▸ m53.lt)
  have lt95 : g12 < g86 := eg88 ▸ m53.lt
  have n96 : g33 ≠ g86 := fun h => Nat.lt_irrefl _ ((h.trans eg88) ▸ m54.lt)
  have lt97 : g33 < g86 := eg88 ▸ m54.lt
  have m98 := m52.grow hG89
  have m99 := m53.grow hG89
  have m100 := m54.grow hG89
  have b101 := below_grow b55 hG89 b55.size
  intro a102 hA103
  refine q_step hA103 rfl (d_storeRow (wn rfl) (hA103.ev rfl) (hA103.ev rfl) row62 m90 rfl rfl ?_)
  intro w104 hU105 (m106 : Blk w104 g86 #[.int .i64 0, .int .i64 (r0 0), .int .i64 (r0 1), .int .i64 (r0 2), .int .i64 (r0 3), .int .i64 (r0 4), .int .i64 (r0 5), .int .i64 (r0 6), .int .i64 (r0 7), .slice ao2 rds.length cap2, .slice none 0 0, .slice none 0 0] 62)
  have m107 := m98.upd hU105 n92
  have m108 := m99.upd hU105 n94
  have m109 := m100.upd hU105 n96
  have b110 := hU105.below b101 ge91
  intro a111 hA112
  refine q_end ?_
  have hA113 : St 46 [(0, (.slice ao code.length cap)), (6, (.pointer (some ⟨g12, 0, none⟩))), (7, (.slice none 0 0)), (8, (.slice none 0 0)), (9, (.int .i64 0)), (13, (.pointer (some ⟨g86, 0, none⟩)))] a111 := hA112.cut _ (fm_cons (hA112.get 0 _ rfl) (fm_cons (hA112.get 6 _ rfl) (fm_cons (hA112.get 7 _ rfl) (fm_cons (hA112.get 8 _ rfl) (fm_cons (hA112.get 9 _ rfl) (fm_cons (hA112.get 13 _ rfl) fm_nil))))))
  refine t_norm ?_
  refine wp_seq ?_
  refine wp_block ?_
  obtain ⟨hlen, hright⟩ := check_one (eq_of_beq hb75)
  have hWS114 : WS g86 g86 w104 ((0 : Nat) : Int) r0 rds [] [] (.slice ao2 rds.length cap2) (.slice none 0 0) (.slice none 0 0) := ⟨m106, Nat.le_refl _, ((hrd.below b110)).mono ge91, ⟨rfl, .inl ⟨rfl, rfl⟩⟩, ⟨rfl, .inl ⟨rfl, rfl⟩⟩, nofun, nofun, nofun⟩
  refine loop_by (fun m a' w' => ∃ (n f : Nat) (r : Nat → Int) (ls : List Int) (es : List Ev) (ps : List Int) (rd ev pa : Value), m = code.length - n ∧ n ≤ code.length ∧ code.length - n ≤ f ∧ ps.length ≤ n ∧ es.length ≤ n ∧ (∀ k, wfI (r k)) ∧ (∀ z ∈ ls, wfI z) ∧ runW code code.length ⟨((0 : Nat) : Int), r0, rds, [], []⟩ = runW code f ⟨((n : Nat) : Int), r, ls, es, ps⟩ ∧ St 46 [(0, (.slice ao code.length cap)), (6, (.pointer (some ⟨g12, 0, none⟩))), (13, (.pointer (some ⟨g86, 0, none⟩)))] a' ∧ Below g86 w104 w' ∧ WS g86 g86 w' ((n : Nat) : Int) r ls es ps rd ev pa) (code.length - 0) ⟨0, code.length, r0, rds, [], [], _, _, _, rfl, Nat.zero_le _, Nat.le_refl _, Nat.le_refl _, Nat.le_refl _, hwr, hwd, rfl, hA113.cut _ (fm_cons (hA113.get 0 _ rfl) (fm_cons (hA113.get 6 _ rfl) (fm_cons (hA113.get 13 _ rfl) fm_nil))), Below.refl _ _, hWS114⟩ ?_
  rintro m115 a116 w117 ⟨nq118, fq119, rq120, lsq121, esq122, psq123, rdq124, evq125, paq126, hm127, hn128, hf129, hps130, hes131, hwf132, hwd133, hrun134, hA135, hbl136, hWS137⟩
  have b138 := b110.trans (hbl136.mono ge91)
  have m139 := m108.below hbl136 lt95
  refine wp_seq ?_
  refine wp_seq ?_
  refine wp_region_lit ?_
  refine q_step hA135 rfl (d_fieldAddr (wn rfl) (hA135.ev rfl) fo62_0 ?_)
  intro a140 hA141
  refine q_step hA141 rfl (d_load (v := (.int .i64 ((nq118 : Nat) : Int))) (wn rfl) (hA141.ev rfl) one3 (hWS137.hb.cell rfl) ?_)
  intro a142 hA143
  refine q_step hA143 rfl (d_move (wn rfl) (hA143.ev rfl) ?_)
  intro a144 hA145
  refine q_step hA145 rfl (d_len (n := code.length) (wn rfl) (hA145.ev rfl) slc35 hs.form ?_)
  intro a146 hA147
  rcases Bool.eq_false_or_eq_true (decide (((nq118 : Nat) : Int) < ((code.length : Nat) : Int))) with hb148 | hb148
  ·skip
   have hq149 := of_decide_eq_true hb148
   refine q_step hA147 rfl (d_bin (wn rfl) (hA147.ev rfl) (hA147.ev rfl) (b_lt _ _ ((nq118 : Nat) : Int) ((code.length : Nat) : Int) true _ hb148) ?_)
   intro a150 hA151
   refine q_end ?_
   have hA152 : St 46 [(0, (.slice ao code.length cap)), (6, (.pointer (some ⟨g12, 0, none⟩))), (13, (.pointer (some ⟨g86, 0, none⟩))), (31, (.bool true))] a150 := hA151.cut _ (fm_cons (hA151.get 0 _ rfl) (fm_cons (hA151.get 6 _ rfl) (fm_cons (hA151.get 13 _ rfl) (fm_cons (hA151.get 31 _ rfl) fm_nil))))
   refine t_norm ?_
   refine c_true hA152 rfl ?_
   refine wp_skip ?_
   refine t_norm ?_
   refine wp_block ?_
   refine wp_seq ?_
   refine wp_region_lit ?_
   refine q_step hA152 rfl (d_move (wn rfl) (hA152.ev rfl) ?_)
   intro a153 hA154
   refine q_step hA154 rfl (d_fieldAddr (wn rfl) (hA154.ev rfl) fo62_0 ?_)
   intro a155 hA156
   refine q_step hA156 rfl (d_load (v := (.int .i64 ((nq118 : Nat) : Int))) (wn rfl) (hA156.ev rfl) one3 (hWS137.hb.cell rfl) ?_)
   intro a157 hA158
   obtain ⟨y159, hy160⟩ : ∃ y159, code[nq118]? = some y159 := ⟨_, List.getElem?_eq_getElem (show nq118 < code.length by omega)⟩
   obtain ⟨b161, o162, lt163, hr164, hix165⟩ := (hs.below b138).at hy160
   refine q_step hA158 rfl (d_indexAt (j := nq118) (wn rfl) (hA158.ev rfl) (hA158.ev rfl) slc35 hix165 (get_lt hy160) ?_)
   intro a166 hA167
   refine q_step hA167 rfl (d_loadMid (cs := (insC y159)) (wn rfl) (hA167.ev rfl) row23 hr164 ?_)
   intro a168 hA169
   refine q_step hA169 rfl (d_call (wn rfl) ent36 (map2 (hA169.ev rfl) (hA169.ev rfl)) (step_any g86 g86 ⟨((nq118 : Nat) : Int), rq120, lsq121, esq122, psq123⟩ rdq124 evq125 paq126 y159 w117 (Nat.le_of_lt hWS137.hb.lt) hWS137 (show esq122.length ≤ 1000 by omega) (show psq123.length ≤ 1000 by omega) hwf132 (show (0 : Int) ≤ ((nq118 : Nat) : Int) by omega) (show ((nq118 : Nat) : Int) ≤ 1000 by omega) (right_yes (hright _ _ hy160)).1 (hwi _ (List.mem_of_getElem? hy160)).1 (hwi _ (List.mem_of_getElem? hy160)).2 hwd133) ?_)
   rintro e173 w170 hp174
   rcases hst175 : stepW ⟨((nq118 : Nat) : Int), rq120, lsq121, esq122, psq123⟩ y159 with _ | s176
   ·skip
    rw [hst175] at hp174
    obtain ⟨he172, bl177⟩ := hp174
    have b178 := b138.trans (bl177.mono ge91)
    have hbl179 := hbl136.trans bl177
    have m180 := m139.below bl177 lt95
    refine ⟨.bool false, he172, ?_⟩
    intro a181 hA182
    refine q_step hA182 rfl (d_not (wn rfl) (hA182.ev rfl) ?_)
    intro a183 hA184
    refine q_end ?_
    have hA185 : St 46 [(0, (.slice ao code.length cap)), (6, (.pointer (some ⟨g12, 0, none⟩))), (13, (.pointer (some ⟨g86, 0, none⟩))), (38, (.bool true))] a183 := hA184.cut _ (fm_cons (hA184.get 0 _ rfl) (fm_cons (hA184.get 6 _ rfl) (fm_cons (hA184.get 13 _ rfl) (fm_cons (hA184.get 38 _ rfl) fm_nil))))
    refine t_norm ?_
    refine c_true hA185 rfl ?_
    refine wp_seq ?_
    refine wp_region_lit ?_
    refine q_step hA185 rfl (d_loadRow (cs := #[.int .i64 0, .int .i64 0, .int .i64 0, .int .i64 0, .int .i64 0, .int .i64 0, .int .i64 0, .int .i64 0]) (wn rfl) (hA185.ev rfl) row43 m180 ?_)
    intro a186 hA187
    refine q_step hA187 rfl (d_storeRow (wn rfl) (hA187.ev rfl) (hA187.ev rfl) row43 m180 rfl rfl ?_)
    intro w188 hU189 (m190 : Blk w188 g12 #[.int .i64 0, .int .i64 0, .int .i64 0, .int .i64 0, .int .i64 0, .int .i64 0, .int .i64 0, .int .i64 0] 43)
    have b191 := hU189.below b178 ge17
    intro a192 hA193
    refine q_step hA193 rfl (d_assign (wn rfl) (hA193.ev rfl) ?_)
    intro a194 hA195
    refine q_step hA195 rfl (d_assign (wn rfl) (hA195.ev rfl) ?_)
    intro a196 hA197
    refine q_step hA197 rfl (d_assign (wn rfl) (hA197.ev rfl) ?_)
    intro a198 hA199
    refine q_end ?_
    have hA200 : St 46 [(0, (.slice ao code.length cap)), (6, (.pointer (some ⟨g12, 0, none⟩))), (7, (.slice none 0 0)), (8, (.slice none 0 0)), (9, (.int .i64 24)), (13, (.pointer (some ⟨g86, 0, none⟩)))] a198 := hA199.cut _ (fm_cons (hA199.get 0 _ rfl) (fm_cons (hA199.get 6 _ rfl) (fm_cons (hA199.get 7 _ rfl) (fm_cons (hA199.get 8 _ rfl) (fm_cons (hA199.get 9 _ rfl) (fm_cons (hA199.get 13 _ rfl) fm_nil))))))
    refine t_norm ?_
    refine wp_ret ?_
    refine i_ret ?_
    refine t_ret ?_
    refine i_ret ?_
    refine t_ret ?_
    refine retC3 (g := g12) (cs := #[.int .i64 0, .int .i64 0, .int .i64 0, .int .i64 0, .int .i64 0, .int .i64 0, .int .i64 0, .int .i64 0]) (x := (.slice none 0 0)) (y := (.slice none 0 0)) (z := (.int .i64 24)) rfl hA200 rfl rfl rfl rfl m190 row43 ?_
    obtain ⟨ff, hff⟩ : ∃ ff, fq119 = ff + 1 := ⟨fq119 - 1, by have := get_lt hy160; omega⟩
    have hrn : runW code code.length ⟨((0 : Nat) : Int), r0, rds, [], []⟩ = none := by rw [hrun134, hff, runW_step (s := ⟨((nq118 : Nat) : Int), rq120, lsq121, esq122, psq123⟩) (i := y159) (by simpa using hy160), hst175]
    exact LPost.none (eq_of_beq hb75) hrn b191
   ·skip
    rw [hst175] at hp174
    obtain ⟨he172, bl201, rd204, ev205, pa206, hW203⟩ := hp174
    have b202 := b138.trans (bl201.mono ge91)
    have hbl207 := hbl136.trans bl201
    have m208 := m139.below bl201 lt95
    refine ⟨.bool true, he172, ?_⟩
    intro a209 hA210
    refine q_step hA210 rfl (d_not (wn rfl) (hA210.ev rfl) ?_)
    intro a211 hA212
    refine q_end ?_
    have hA213 : St 46 [(0, (.slice ao code.length cap)), (6, (.pointer (some ⟨g12, 0, none⟩))), (13, (.pointer (some ⟨g86, 0, none⟩))), (38, (.bool false))] a211 := hA212.cut _ (fm_cons (hA212.get 0 _ rfl) (fm_cons (hA212.get 6 _ rfl) (fm_cons (hA212.get 13 _ rfl) (fm_cons (hA212.get 38 _ rfl) fm_nil))))
    refine t_norm ?_
    refine c_false hA213 rfl ?_
    refine wp_skip ?_
    refine i_norm ?_
    refine t_norm ?_
    have sf216 := step_facts (s := ⟨((nq118 : Nat) : Int), rq120, lsq121, esq122, psq123⟩) (hright _ _ hy160) (by have := get_lt hy160; simp only; omega) hwf132 (hwi _ (List.mem_of_getElem? hy160)).1 hst175
    simp only at sf216
    obtain ⟨f1, f2, f3, f4, f5, f6⟩ := sf216
    obtain ⟨n214, hn215⟩ := Int.eq_ofNat_of_zero_le (show 0 ≤ s176.p by omega)
    obtain ⟨ff, hff⟩ : ∃ ff, fq119 = ff + 1 := ⟨fq119 - 1, by have := get_lt hy160; omega⟩
    have hrn : runW code code.length ⟨((0 : Nat) : Int), r0, rds, [], []⟩ = runW code ff ⟨((n214 : Nat) : Int), s176.r, s176.rds, s176.evs, s176.path⟩ := by
     rw [hrun134, hff, runW_step (s := ⟨((nq118 : Nat) : Int), rq120, lsq121, esq122, psq123⟩) (i := y159) (by simpa using hy160), hst175, ← hn215]
    have hW4 := hW203
    rw [hn215] at hW4
    have hpl : s176.path.length ≤ n214 := by rw [f4]; simp; omega
    exact ⟨code.length - n214, (by rw [hm127]; omega), n214, ff, s176.r, s176.rds, s176.evs, s176.path, rd204, ev205, pa206, rfl, (by omega), (by omega), hpl, (by omega), f3, (fun z hz => hwd133 z (f6 z hz)), hrn, hA213.cut _ (fm_cons (hA213.get 0 _ rfl) (fm_cons (hA213.get 6 _ rfl) (fm_cons (hA213.get 13 _ rfl) fm_nil))), hbl207, hW4⟩
  ·skip
   have hq217 := of_decide_eq_false hb148
   refine q_step hA147 rfl (d_bin (wn rfl) (hA147.ev rfl) (hA147.ev rfl) (b_lt _ _ ((nq118 : Nat) : Int) ((code.length : Nat) : Int) false _ hb148) ?_)
   intro a218 hA219
   refine q_end ?_
   have hA220 : St 46 [(0, (.slice ao code.length cap)), (6, (.pointer (some ⟨g12, 0, none⟩))), (13, (.pointer (some ⟨g86, 0, none⟩))), (31, (.bool false))] a218 := hA219.cut _ (fm_cons (hA219.get 0 _ rfl) (fm_cons (hA219.get 6 _ rfl) (fm_cons (hA219.get 13 _ rfl) (fm_cons (hA219.get 31 _ rfl) fm_nil))))
   refine t_norm ?_
   refine c_false hA220 rfl ?_
   refine wp_exit ?_
   refine t_exit ?_
   refine t_exit ?_
   refine i_here ?_
   refine t_norm ?_
   refine wp_seq ?_
   have hA221 : St 46 [(6, (.pointer (some ⟨g12, 0, none⟩))), (13, (.pointer (some ⟨g86, 0, none⟩)))] a218 := hA220.cut _ (fm_cons (hA220.get 6 _ rfl) (fm_cons (hA220.get 13 _ rfl) fm_nil))
   let M222 : Nat → Option (Array Value) := fun k => if k = g12 then some (regsC rq120) else none
   have hM222 : M222 = fun k => if k = g12 then some (regsC rq120) else none := rfl
   clear_value M222
   have hM223 : M222 g86 = none := ((congrFun hM222 g86).trans (if_neg (Ne.symm n94)))
   have hM224 : M222 g12 = some (regsC rq120) := ((congrFun hM222 g12).trans (if_pos rfl))
   have hM222B : ∀ k, k < w.heap.size → M222 k = none := (fun k hk => (congrFun hM222 k).trans (if_neg (fun h => Nat.lt_irrefl _ (Nat.lt_of_lt_of_le (h ▸ hk) ge17))))
   refine drawn (S := SM M222) (tabL [cv (.pointer (some ⟨g86, 1, none⟩)), cv (.agg (regsC rq120)), cv (.pointer (some ⟨g86, 10, none⟩)), cv evq125, cv (.pointer (some ⟨g86, 11, none⟩)), cv paq126, cmr M222 g12 43 (regsC rq120) hM224, cv evq125, cv paq126, cv (.int .i64 0)]) mixedY SM.refl SM.trans SM.drew hA221 (by kernel_rfl) ?_ ?_
   ·skip
    refine each_cons (fun x y hS hT hk => d_fieldAddr (wn rfl) (hT.ev rfl) fo62_1 ⟨SM.refl _, rfl⟩) ?_
    refine each_cons (fun x y hS hT hk => d_loadMid (cs := (regsC rq120)) (wn rfl) (hk 0 rfl) row43 (walk_regs (Blk.sm (w := w117.drew) hWS137.hb hS hM223)) ⟨SM.refl _, rfl⟩) ?_
    refine each_cons (fun x y hS hT hk => d_fieldAddr (wn rfl) (hT.ev rfl) fo62_3 ⟨SM.refl _, rfl⟩) ?_
    refine each_cons (fun x y hS hT hk => d_load (v := evq125) (wn rfl) (hk 2 rfl) one44 ((Blk.sm (w := w117.drew) hWS137.hb hS hM223).cell rfl) ⟨SM.refl _, rfl⟩) ?_
    refine each_cons (fun x y hS hT hk => d_fieldAddr (wn rfl) (hT.ev rfl) fo62_4 ⟨SM.refl _, rfl⟩) ?_
    refine each_cons (fun x y hS hT hk => d_load (v := paq126) (wn rfl) (hk 4 rfl) one30 ((Blk.sm (w := w117.drew) hWS137.hb hS hM223).cell rfl) ⟨SM.refl _, rfl⟩) ?_
    refine each_cons (fun x y hS hT hk => d_storeRowM (fin := (regsC rq120)) (w0 := w117.drew) (wn rfl) (hT.ev rfl) (hk 1 rfl) row43 hS hM224 m139 rfl rfl (fun _ h => h)) ?_
    refine each_cons (fun x y hS hT hk => d_assign (wn rfl) (hk 3 rfl) ⟨SM.refl _, rfl⟩) ?_
    refine each_cons (fun x y hS hT hk => d_assign (wn rfl) (hk 5 rfl) ⟨SM.refl _, rfl⟩) ?_
    refine each_cons (fun x y hS hT hk => d_assign (wn rfl) (hT.ev rfl) ⟨SM.refl _, rfl⟩) ?_
    exact each_nil
   intro f225 a226 w227 hS228 hC229 hA230
   have hA231 : St 46 [(6, (.pointer (some ⟨g12, 0, none⟩))), (7, evq125), (8, paq126), (9, (.int .i64 0))] a226 := hA230.cut _ (fm_cons (hA230.get 6 _ rfl) (fm_cons ((hA230.get 7 _ rfl).trans (hC229 7 (Nat.le_of_ble_eq_true rfl))) (fm_cons ((hA230.get 8 _ rfl).trans (hC229 8 (Nat.le_of_ble_eq_true rfl))) (fm_cons ((hA230.get 9 _ rfl).trans (hC229 9 (Nat.le_of_ble_eq_true rfl))) fm_nil))))
   have m232 := hWS137.hb.sm hS228 hM223
   have m233 : Blk w227 g12 (regsC rq120) 43 := hC229 6 (Nat.le_of_ble_eq_true rfl)
   have b234 := hS228.below b138 b138.size hM222B
   have ho235 := own_smG hWS137.hev hS228 (fun k hk => (congrFun hM222 k).trans (if_neg (Nat.ne_of_gt (Nat.lt_of_lt_of_le lt95 hk))))
   have ho236 := own_smG hWS137.hpa hS228 (fun k hk => (congrFun hM222 k).trans (if_neg (Nat.ne_of_gt (Nat.lt_of_lt_of_le lt95 hk))))
   refine t_norm ?_
   refine wp_ret ?_
   refine retC3 (g := g12) (cs := (regsC rq120)) (x := evq125) (y := paq126) (z := (.int .i64 0)) rfl hA231 rfl rfl rfl rfl m233 row43 ?_
   have hrn : runW code code.length ⟨((0 : Nat) : Int), r0, rds, [], []⟩ = some ⟨((nq118 : Nat) : Int), rq120, lsq121, esq122, psq123⟩ := by rw [hrun134, runW_end (by simp only [Int.toNat_natCast]; omega)]
   exact LPost.some (eq_of_beq hb75) hrn b234 ge91 ho235 ho236
 ·skip
  have hq237 := ne_of_beq hb75
  refine q_step hA74 rfl (d_bin (wn rfl) (hA74.ev rfl) (hA74.ev rfl) (b_ne _ _ ((checkR [code]).2.2) 0 true _ (notof hb75)) ?_)
  intro a238 hA239
  refine q_end ?_
  have hA240 : St 46 [(0, (.slice ao code.length cap)), (2, (.slice ao2 rds.length cap2)), (4, (.pointer (some ⟨g3, 0, none⟩))), (6, (.pointer (some ⟨g12, 0, none⟩))), (7, (.slice none 0 0)), (8, (.slice none 0 0)), (9, (.int .i64 0)), (22, (.bool true))] a238 := hA239.cut _ (fm_cons (hA239.get 0 _ rfl) (fm_cons (hA239.get 2 _ rfl) (fm_cons (hA239.get 4 _ rfl) (fm_cons (hA239.get 6 _ rfl) (fm_cons (hA239.get 7 _ rfl) (fm_cons (hA239.get 8 _ rfl) (fm_cons (hA239.get 9 _ rfl) (fm_cons (hA239.get 22 _ rfl) fm_nil))))))))
  refine t_norm ?_
  refine c_true hA240 rfl ?_
  refine wp_seq ?_
  refine wp_region_lit ?_
  refine q_step hA240 rfl (d_loadRow (cs := #[.int .i64 0, .int .i64 0, .int .i64 0, .int .i64 0, .int .i64 0, .int .i64 0, .int .i64 0, .int .i64 0]) (wn rfl) (hA240.ev rfl) row43 m53 ?_)
  intro a241 hA242
  refine q_step hA242 rfl (d_storeRow (wn rfl) (hA242.ev rfl) (hA242.ev rfl) row43 m53 rfl rfl ?_)
  intro w243 hU244 (m245 : Blk w243 g12 #[.int .i64 0, .int .i64 0, .int .i64 0, .int .i64 0, .int .i64 0, .int .i64 0, .int .i64 0, .int .i64 0] 43)
  have m246 := m52.upd hU244 n18
  have m247 := m54.upd hU244 (Ne.symm n41)
  have b248 := hU244.below b55 ge17
  intro a249 hA250
  refine q_step hA250 rfl (d_assign (wn rfl) (hA250.ev rfl) ?_)
  intro a251 hA252
  refine q_step hA252 rfl (d_assign (wn rfl) (hA252.ev rfl) ?_)
  intro a253 hA254
  refine q_step hA254 rfl (d_assign (wn rfl) (hA254.ev rfl) ?_)
  intro a255 hA256
  refine q_end ?_
  have hA257 : St 46 [(0, (.slice ao code.length cap)), (2, (.slice ao2 rds.length cap2)), (4, (.pointer (some ⟨g3, 0, none⟩))), (6, (.pointer (some ⟨g12, 0, none⟩))), (7, (.slice none 0 0)), (8, (.slice none 0 0)), (9, (.int .i64 1))] a255 := hA256.cut _ (fm_cons (hA256.get 0 _ rfl) (fm_cons (hA256.get 2 _ rfl) (fm_cons (hA256.get 4 _ rfl) (fm_cons (hA256.get 6 _ rfl) (fm_cons (hA256.get 7 _ rfl) (fm_cons (hA256.get 8 _ rfl) (fm_cons (hA256.get 9 _ rfl) fm_nil)))))))
  refine t_norm ?_
  refine wp_ret ?_
  refine t_ret ?_
  refine retC3 (g := g12) (cs := #[.int .i64 0, .int .i64 0, .int .i64 0, .int .i64 0, .int .i64 0, .int .i64 0, .int .i64 0, .int .i64 0]) (x := (.slice none 0 0)) (y := (.slice none 0 0)) (z := (.int .i64 1)) rfl hA257 rfl rfl rfl rfl m245 row43 ?_
  exact LPost.bad (ne_of_beq hb75) b248
end Go.Proofs.Ytlhompedcphnnaa
/- The code that every statement of chapter 3 tries first: what its run comes to. -/
namespace Go.Proofs.Ytlhompedcphnnaa
open Go.RowKit

def cI : Ins := ⟨1, 1, -1, -1, 5, 0, 0, -1, 0, 0, false, false, false, 0, 0, 0, false⟩
def sI : Ins := ⟨5, -1, 1, -1, 0, 0, 0, -1, 8, 0, false, false, false, 0, 0, 0, false⟩
def s1 : Wk := (runW [cI, sI] 2 ⟨((0 : Nat) : Int), fun _ => 0, [], [], []⟩).getD ⟨0, fun _ => 0, [], [], []⟩
theorem able_run : runW [cI, sI] 2 ⟨((0 : Nat) : Int), fun _ => 0, [], [], []⟩ = some s1 := by kernel_rfl
theorem able_check : (checkR [[cI, sI]]).2.2 = 0 := by kernel_rfl
theorem able_none : (checkR []).2.2 = 30 := by kernel_rfl
theorem able_r : (s1.r 1 == 5) = true := by kernel_rfl
theorem able_e : s1.evs.length = 1 := by kernel_rfl
theorem able_p : s1.path.length = 2 := by kernel_rfl
theorem able_e1 : (((s1.evs.length : Nat) : Int) == 1) = true := by kernel_rfl
theorem able_p1 : (((s1.path.length : Nat) : Int) == 2) = true := by kernel_rfl
theorem able_n1 : ((checkR []).2.2 == 0) = false := by kernel_rfl
theorem able_ev : s1.evs[0]?.map (fun e => (e.new_ == 5, e.mask == 255)) = some (true, true) := by kernel_rfl
theorem able_w : wrB sI = true := by kernel_rfl
theorem able_g : (givesF cI == 1) = true := by kernel_rfl
def evS (e : Ev) : List Value := (evC e).toList
theorem own_sl {w : World} {b : Nat} {v : Value} {l : List Ev} (h : w.ownsRow b 52 15 v l.length (evE l)) : Sl evS 15 w.heap.size w v l := by
  obtain ⟨h1, h2⟩ := h
  rcases h2 with ⟨rfl, h2⟩ | ⟨g, cap, cur, hv, hb, hg, hc, _, hs, ht⟩
  · have : l = [] := List.eq_nil_of_length_eq_zero h2
    subst this; exact Sl.nil
  · refine ⟨some ⟨g, 0, none⟩, cap, hv, hc, fun j x hx => ⟨g, 0, rfl, (Array.getElem?_eq_some_iff.1 hg).1, fun k u hu => ?_⟩⟩
    rw [cell_of_row w g _ cur _ _ hg]
    have hk : k < 15 := by have := get_lt hu; simpa [evS, evC] using this
    have hj := get_lt hx
    have key : ∀ (l : List Ev) (j : Nat) (x : Ev), l[j]? = some x → (evE l)[j * 15 + k]? = some u ∨ evS x ≠ evS x ∨ (evE l)[j * 15 + k]? = (evS x)[k]? := by
      intro l
      induction l with
      | nil => intro j x hx; simp at hx
      | cons e l ih =>
        intro j x hx
        have hel : (evC e).toList.length = 15 := rfl
        have he : evE (e :: l) = (evC e).toList ++ evE l := by simp [evE]
        cases j with
        | zero =>
          simp at hx; subst hx
          right; right
          rw [he, Nat.zero_mul, Nat.zero_add, List.getElem?_append_left (by rw [hel]; exact hk)]
          rfl
        | succ j =>
          have := ih j x (by simpa using hx)
          rw [he, List.getElem?_append_right (by rw [hel, Nat.add_mul]; omega), hel, show (j + 1) * 15 + k - 15 = j * 15 + k by rw [Nat.add_mul]; omega]
          exact this
    have hkey : (evE l)[j * 15 + k]? = some u := by
      rcases key l j x hx with h | h | h
      · exact h
      · exact absurd rfl h
      · rw [h]; exact hu
    have hlt : j * 15 + k < l.length * 15 := by
      have := Nat.mul_le_mul_right 15 (show j + 1 ≤ l.length by omega)
      rw [Nat.add_mul] at this; omega
    have h3 : (cur.toList.take (l.length * 15))[j * 15 + k]? = some u := by rw [ht]; exact hkey
    rw [List.getElem?_take_of_lt hlt] at h3
    rw [Nat.zero_add, ← Array.getElem?_toList]; exact h3
end Go.Proofs.Ytlhompedcphnnaa
/- What able needs besides: a slice of two instructions, an array of zeros, no codes. -/
namespace Go.Proofs.Ytlhompedcphnnaa
open Go.RowKit

def two (i j : Ins) : Array Value := ((insC i).toList ++ (insC j).toList).toArray
theorem two_range {w : World} {g : Nat} {t : TypeId} {i j : Ins} (h : Blk w g (two i j) t) : w.rangeAt g 0 (insC i).toList ∧ w.rangeAt g 17 (insC j).toList := by
  constructor
  · intro k v hv
    have hk := get_lt hv
    refine h.cell ?_
    simp only [two, List.getElem?_toArray, Nat.zero_add]
    rw [List.getElem?_append_left hk]; exact hv
  · intro k v hv
    refine h.cell ?_
    have hl : (insC i).toList.length = 17 := rfl
    simp only [two, List.getElem?_toArray]
    rw [List.getElem?_append_right (by rw [hl]; omega), hl, show 17 + k - 17 = k by omega]; exact hv
theorem sl_two {w : World} {g : Nat} {t : TypeId} {i j : Ins} (h : Blk w g (two i j) t) : Sl insE 17 w.heap.size w (.slice (some ⟨g, 0, none⟩) 2 2) [i, j] := by
  refine ⟨some ⟨g, 0, none⟩, 2, rfl, Nat.le_refl _, fun k x hx => ⟨g, 0, rfl, h.lt, ?_⟩⟩
  have hk := get_lt hx
  match k, hk with
  | 0, _ => simp at hx; subst hx; exact (two_range h).1
  | 1, _ => simp at hx; subst hx; exact (two_range h).2
theorem cs_nil (B' : Nat) (w : World) : Cs B' w (.slice none 0 0) [] := ⟨[], Sl.nil, rfl, fun j u c hu => by simp at hu⟩
section
variable {P : Program} {ops : Array Oper} {a : Act} {w : World} {K : Value → World → Prop} {d : Option Tmp} {ty : TypeId} {pos : String} {af : Array Edge} {gd : Option (Nat × Bool)}
def sFill (P : Program) (e s m : Nat) (vs : List (Nat × Value)) : Option (Array Value) := match P.info? e with
  | some i => match i.zero with
    | some z => Instr.fill (fun j => some (j * s, s)) ((Array.range (m * s)).map (z.cells[· % z.cells.size]!)) vs
    | none => none
  | none => none
theorem d_sliceK {t e s by_ m : Nat} {parts : Array (Nat × Operand)} {vs : List (Nat × Value)} {cs : Array Value} (hw : Region.wanted { dst := d, op := .buildSlice t m parts, type := ty, pos := pos, after := af, guard := gd } (yielded ops a.tmps) = true) (hx : (parts.map fun x => (x.1, a.eval x.2)).toList = vs) (ht : elemB P t e s by_ = true) (hm : 0 < m) (hsm : m * s ≤ 10000)
    (hf : sFill P e s m vs = some cs) (h : ∀ g w', g = w.heap.size → Grow w w' → Blk w' g cs e → K (.slice (some ⟨g, 0, none⟩) m m) w') : Does P ops { dst := d, op := .buildSlice t m parts, type := ty, pos := pos, after := af, guard := gd } a w K := by
  obtain ⟨i, z, hu, hi, hz, hsz, _, hzs, h0⟩ := elem_facts ht
  refine does_val (w' := w.alloc (.cells cs e)) hw ?_ (h _ _ rfl ((Grow.refl _).alloc _) (heap_alloc_last w _))
  have hf' : Instr.fill (fun j => some (j * i.size, i.size)) ((Array.range (m * i.size)).map (z.cells[· % z.cells.size]!)) (parts.map fun x => (x.1, a.eval x.2)).toList = some cs := by
    rw [hx, hsz]; unfold sFill at hf; rw [hi] at hf; simp only [hz] at hf; exact hf
  have hpos : 0 < m * s := Nat.mul_pos hm h0
  have := run_buildSlice (P := P) w t e m (parts.map fun x => (x.1, a.eval x.2)) cs i z hu hi hz (by rw [hsz]; omega) (by rw [hsz]; omega) hf'
  unfold execOp
  simp only [Sem.run_bind, this, Result.andThen_ok, Sem.run_pure]
/-- an array literal without parts -/
theorem d_buildZ {t n e s m : Nat} {z : Value} (hw : Region.wanted { dst := d, op := .build t #[], type := ty, pos := pos, after := af, guard := gd } (yielded ops a.tmps) = true) (ht : arrB P t n e s = true) (hi : (P.info? t).map (fun i => (i.zero, i.size)) = some (some z, m)) (h : K (.agg z.cells) w) :
    Does P ops { dst := d, op := .build t #[], type := ty, pos := pos, after := af, guard := gd } a w K :=
  does_val hw (by
    have hz := (zero_of_info hi).1 w
    unfold execOp
    simp only [Sem.run_bind, Instr.build, hz, Result.andThen_ok, run_underlying (arr_facts ht).1, run_size (arr_facts ht).2, List.map_toArray, List.map_nil, Instr.fill, Sem.run_pure]) h
end
theorem ix_own {v : Value} {n j s b o : Nat} (h : IxAt v n j s b o) : IxAt v n j s b o := h
end Go.Proofs.Ytlhompedcphnnaa
/- able returns true. -/
namespace Go.Proofs.Ytlhompedcphnnaa
open Go.RowKit
set_option linter.unusedSimpArgs false
set_option linter.unusedVariables false
theorem elm35 : elemB Try.prog 35 23 17 120 = true := by kernel_rfl
theorem ent18 : ((Try.prog.funcs[18]?).map fun fn => (fn.name == "runtime.NumGoroutine", fn.body.isNone)) = some (false, false) := by kernel_rfl
theorem ent26 : ((Try.prog.funcs[26]?).map fun fn => (fn.name == "runtime.NumGoroutine", fn.body.isNone)) = some (false, false) := by kernel_rfl
theorem fo50_1 : fieldOff Try.prog 50 1 = some 1 := by kernel_rfl
theorem slc44 : sliceB Try.prog 44 52 15 = true := by kernel_rfl
theorem able_wf : ∀ i ∈ [cI, sI], wfI i.imm ∧ wfI i.off := by
 intro i hi
 have h5 : wfI 5 := by unfold wfI; decide +kernel
 simp at hi
 rcases hi with rfl | rfl
 · exact ⟨h5, wf_0⟩
 · exact ⟨wf_0, wf_0⟩
set_option maxHeartbeats 8000000 in
set_option maxRecDepth 4000 in
theorem able_any (w : World) : Calls Try.prog 8 #[] w fun e w' => e = .returned (.bool true) ∧ Grow w w' := by
 have b0 : Below w.heap.size w w := Below.refl _ _
 refine enter (n := 74) Try.func8 rfl rfl (Nat.le_of_ble_eq_true rfl) ?_
 intro a1 hA2
 refine wp_seq ?_
 refine wp_region_lit ?_
 refine q_step hA2 rfl (d_assign (wn rfl) (hA2.ev rfl) ?_)
 intro a3 hA4
 refine q_end ?_
 have hA5 : St 74 [(0, (.bool false))] a3 := hA4.cut _ (fm_cons (hA4.get 0 _ rfl) fm_nil)
 refine t_norm ?_
 refine wp_seq ?_
 refine wp_region_lit ?_
 refine q_step hA5 rfl (d_build (cs := #[.int .i64 1, .int .i64 1, .int .i64 (-1), .int .i64 (-1), .int .i64 5, .int .i64 0, .int .i64 0, .int .i64 (-1), .int .i64 0, .int .i64 0, .bool false, .bool false, .bool false, .int .i64 0, .int .i64 0, .int .i64 0, .bool false]) (wn rfl) (bp_of (bq_cons (hA5.ev rfl) (bq_cons (hA5.ev rfl) (bq_cons (hA5.ev rfl) (bq_cons (hA5.ev rfl) (bq_cons (hA5.ev rfl) (bq_cons (hA5.ev rfl) bq_nil))))))) zero23 places23 (by kernel_rfl) ?_)
 intro a6 hA7
 refine q_step hA7 rfl (d_build (cs := #[.int .i64 5, .int .i64 (-1), .int .i64 1, .int .i64 (-1), .int .i64 0, .int .i64 0, .int .i64 0, .int .i64 (-1), .int .i64 8, .int .i64 0, .bool false, .bool false, .bool false, .int .i64 0, .int .i64 0, .int .i64 0, .bool false]) (wn rfl) (bp_of (bq_cons (hA7.ev rfl) (bq_cons (hA7.ev rfl) (bq_cons (hA7.ev rfl) (bq_cons (hA7.ev rfl) (bq_cons (hA7.ev rfl) (bq_cons (hA7.ev rfl) bq_nil))))))) zero23 places23 (by kernel_rfl) ?_)
 intro a8 hA9
 refine q_step hA9 rfl (d_sliceK (cs := two cI sI) (wn rfl) (bp_of (bq_cons (hA9.ev rfl) (bq_cons (hA9.ev rfl) bq_nil))) elm35 (by decide) (by decide) (by kernel_rfl) ?_)
 intro g10 w11 eg12 hG13 (m14 : Blk w11 g10 (two cI sI) 23)
 have ge15 : w.heap.size ≤ g10 := eg12 ▸ b0.size
 have b16 := below_grow b0 hG13 b0.size
 intro a17 hA18
 refine q_step hA18 rfl (d_assign (wn rfl) (hA18.ev rfl) ?_)
 intro a19 hA20
 refine q_end ?_
 have hA21 : St 74 [(0, (.bool false)), (1, (.slice (some ⟨g10, 0, none⟩) 2 2))] a19 := hA20.cut _ (fm_cons (hA20.get 0 _ rfl) (fm_cons (hA20.get 1 _ rfl) fm_nil))
 refine t_norm ?_
 refine wp_seq ?_
 refine wp_region_lit ?_
 refine q_step hA21 rfl (d_move (wn rfl) (hA21.ev rfl) ?_)
 intro a22 hA23
 refine q_step hA23 rfl (d_buildZ (wn rfl) arr43 zero43 ?_)
 intro a24 hA25
 refine q_step hA25 rfl (d_call (wn rfl) ent26 (map3 (hA25.ev rfl) (hA25.ev rfl) (hA25.ev rfl)) (local_any [cI, sI] [] (some ⟨g10, 0, none⟩) none 2 0 (fun _ => 0) w11 (sl_two m14) Sl.nil (by decide) (fun _ => wf_0) able_wf (fun z h => by cases h)) ?_)
 rintro e29 w26 ⟨hG27, hp34⟩
 rw [if_pos able_check] at hp34
 have hrun : runW [cI, sI] [cI, sI].length ⟨((0 : Nat) : Int), fun _ => 0, [], [], []⟩ = some s1 := able_run
 rw [hrun] at hp34
 obtain ⟨ev30, pa31, he28, hev32, hpa33⟩ := hp34
 have m35 := m14.grow hG27
 have b36 := below_grow b16 hG27 b16.size
 refine ⟨(.tuple #[(.agg (regsC s1.r)), ev30, pa31, (.int .i64 0)]), he28, ?_⟩
 intro a37 hA38
 refine q_step hA38 rfl (d_move (wn rfl) (hA38.ev rfl) ?_)
 intro a39 hA40
 refine q_step hA40 rfl (d_extract (v := (.agg (regsC s1.r))) (wn rfl) (hA40.ev rfl) rfl ?_)
 intro a41 hA42
 refine q_step hA42 rfl (d_extract (v := ev30) (wn rfl) (hA42.ev rfl) rfl ?_)
 intro a43 hA44
 refine q_step hA44 rfl (d_extract (v := pa31) (wn rfl) (hA44.ev rfl) rfl ?_)
 intro a45 hA46
 refine q_step hA46 rfl (d_extract (v := (.int .i64 0)) (wn rfl) (hA46.ev rfl) rfl ?_)
 intro a47 hA48
 refine q_step hA48 rfl (d_alloc (wn rfl) zero43 ?_)
 intro g49 w50 eg51 hG52 (m53 : Blk w50 g49 #[.int .i64 0, .int .i64 0, .int .i64 0, .int .i64 0, .int .i64 0, .int .i64 0, .int .i64 0, .int .i64 0] 43)
 have ge54 : w.heap.size ≤ g49 := eg51 ▸ b36.size
 have n55 : g10 ≠ g49 := fun h => Nat.lt_irrefl _ ((h.trans eg51) ▸ m35.lt)
 have off56 := own_new hev32 eg51
 have off57 := own_new hpa33 eg51
 have m58 := m35.grow hG52
 have b59 := below_grow b36 hG52 b36.size
 have ho60 := own_grow hG52 hev32
 have ho61 := own_grow hG52 hpa33
 intro a62 hA63
 refine q_step hA63 rfl (d_storeRow (wn rfl) (hA63.ev rfl) (hA63.ev rfl) row43 m53 rfl rfl ?_)
 intro w64 hU65 (m66 : Blk w64 g49 (regsC s1.r) 43)
 have m67 := m58.upd hU65 n55
 have b68 := hU65.below b59 ge54
 have ho69 := own_upd ho60 hU65 off56
 have ho70 := own_upd ho61 hU65 off57
 intro a71 hA72
 refine q_step hA72 rfl (d_assign (wn rfl) (hA72.ev rfl) ?_)
 intro a73 hA74
 refine q_step hA74 rfl (d_assign (wn rfl) (hA74.ev rfl) ?_)
 intro a75 hA76
 refine q_step hA76 rfl (d_assign (wn rfl) (hA76.ev rfl) ?_)
 intro a77 hA78
 refine q_end ?_
 have hA79 : St 74 [(0, (.bool false)), (1, (.slice (some ⟨g10, 0, none⟩) 2 2)), (2, (.pointer (some ⟨g49, 0, none⟩))), (3, ev30), (4, pa31), (5, (.int .i64 0))] a77 := hA78.cut _ (fm_cons (hA78.get 0 _ rfl) (fm_cons (hA78.get 1 _ rfl) (fm_cons (hA78.get 2 _ rfl) (fm_cons (hA78.get 3 _ rfl) (fm_cons (hA78.get 4 _ rfl) (fm_cons (hA78.get 5 _ rfl) fm_nil))))))
 refine t_norm ?_
 refine wp_seq ?_
 refine wp_region_lit ?_
 refine q_step hA79 rfl (d_call (wn rfl) ent20 (map1 (hA79.ev rfl)) (check_any [] (.slice none 0 0) w64 (cs_nil _ _) (by decide) (by decide)) ?_)
 rintro e83 w80 ⟨he82, hG81⟩
 have m84 := m67.grow hG81
 have m85 := m66.grow hG81
 have b86 := below_grow b68 hG81 b68.size
 have ho87 := own_grow hG81 ho69
 have ho88 := own_grow hG81 ho70
 refine ⟨(.tuple #[(.int .i64 ((checkR []).1)), (.int .i64 ((checkR []).2.1)), (.int .i64 ((checkR []).2.2))]), he82, ?_⟩
 intro a89 hA90
 refine q_step hA90 rfl (d_move (wn rfl) (hA90.ev rfl) ?_)
 intro a91 hA92
 refine q_step hA92 rfl (d_extract (v := (.int .i64 ((checkR []).1))) (wn rfl) (hA92.ev rfl) rfl ?_)
 intro a93 hA94
 refine q_step hA94 rfl (d_extract (v := (.int .i64 ((checkR []).2.1))) (wn rfl) (hA94.ev rfl) rfl ?_)
 intro a95 hA96
 refine q_step hA96 rfl (d_extract (v := (.int .i64 ((checkR []).2.2))) (wn rfl) (hA96.ev rfl) rfl ?_)
 intro a97 hA98
 refine q_step hA98 rfl (d_assign (wn rfl) (hA98.ev rfl) ?_)
 intro a99 hA100
 refine q_step hA100 rfl (d_assign (wn rfl) (hA100.ev rfl) ?_)
 intro a101 hA102
 refine q_step hA102 rfl (d_assign (wn rfl) (hA102.ev rfl) ?_)
 intro a103 hA104
 refine q_end ?_
 have hA105 : St 74 [(0, (.bool false)), (1, (.slice (some ⟨g10, 0, none⟩) 2 2)), (2, (.pointer (some ⟨g49, 0, none⟩))), (3, ev30), (4, pa31), (5, (.int .i64 0)), (8, (.int .i64 ((checkR []).2.2)))] a103 := hA104.cut _ (fm_cons (hA104.get 0 _ rfl) (fm_cons (hA104.get 1 _ rfl) (fm_cons (hA104.get 2 _ rfl) (fm_cons (hA104.get 3 _ rfl) (fm_cons (hA104.get 4 _ rfl) (fm_cons (hA104.get 5 _ rfl) (fm_cons (hA104.get 8 _ rfl) fm_nil)))))))
 refine t_norm ?_
 refine wp_seq ?_
 refine wp_region_lit ?_
 refine q_step hA105 rfl (d_move (wn rfl) (hA105.ev rfl) ?_)
 intro a106 hA107
 refine q_step hA107 rfl (d_bin (wn rfl) (hA107.ev rfl) (hA107.ev rfl) (b_eq _ _ 0 0 true _ rfl) ?_)
 intro a108 hA109
 refine q_step hA109 rfl (d_move (wn rfl) (hA109.ev rfl) ?_)
 intro a110 hA111
 refine q_step hA111 rfl (d_indexArrP (j := 1) (p := 1) (wy rfl rfl (hA111.get 27 _ rfl)) (hA111.ev rfl) (hA111.ev rfl) arr43 (by decide) (by decide) ?_)
 intro a112 hA113
 refine q_step hA113 rfl (d_load (v := (.int .i64 (s1.r 1))) (wy rfl rfl (hA113.get 27 _ rfl)) (hA113.ev rfl) one3 (m85.cell rfl) ?_)
 intro a114 hA115
 refine q_step hA115 rfl (d_bin (wy rfl rfl (hA115.get 27 _ rfl)) (hA115.ev rfl) (hA115.ev rfl) (b_eq _ _ (s1.r 1) 5 true _ able_r) ?_)
 intro a116 hA117
 refine q_step hA117 rfl (d_pickT (wn rfl) (hA117.ev rfl) (hA117.ev rfl) ?_)
 intro a118 hA119
 refine q_step hA119 rfl (d_move (wn rfl) (hA119.ev rfl) ?_)
 intro a120 hA121
 refine q_step hA121 rfl (d_move (wy rfl rfl (hA121.get 32 _ rfl)) (hA121.ev rfl) ?_)
 intro a122 hA123
 refine q_step hA123 rfl (d_len (n := s1.evs.length) (wy rfl rfl (hA123.get 32 _ rfl)) (hA123.ev rfl) slc44 (own_form ho87) ?_)
 intro a124 hA125
 refine q_step hA125 rfl (d_bin (wy rfl rfl (hA125.get 32 _ rfl)) (hA125.ev rfl) (hA125.ev rfl) (b_eq _ _ ((s1.evs.length : Nat) : Int) 1 true _ able_e1) ?_)
 intro a126 hA127
 refine q_step hA127 rfl (d_pickT (wn rfl) (hA127.ev rfl) (hA127.ev rfl) ?_)
 intro a128 hA129
 refine q_step hA129 rfl (d_move (wn rfl) (hA129.ev rfl) ?_)
 intro a130 hA131
 refine q_step hA131 rfl (d_move (wy rfl rfl (hA131.get 37 _ rfl)) (hA131.ev rfl) ?_)
 intro a132 hA133
 obtain ⟨y134, hy135⟩ : ∃ y134, s1.evs[0]? = some y134 := ⟨_, List.getElem?_eq_getElem (show 0 < s1.evs.length by rw [able_e]; decide)⟩
 obtain ⟨b136, o137, lt138, hr139, hix140⟩ := (own_sl ho87).at hy135
 refine q_step hA133 rfl (d_indexAt (j := 0) (wy rfl rfl (hA133.get 37 _ rfl)) (hA133.ev rfl) (hA133.ev rfl) slc44 hix140 (get_lt hy135) ?_)
 intro a141 hA142
 refine q_step hA142 rfl (d_fieldAddr (wy rfl rfl (hA142.get 37 _ rfl)) (hA142.ev rfl) fo52_8 ?_)
 intro a143 hA144
 refine q_step hA144 rfl (d_load (v := (.int .i64 y134.new_)) (wy rfl rfl (hA144.get 37 _ rfl)) (hA144.ev rfl) one3 (hr139 9 _ rfl) ?_)
 intro a145 hA146
 refine q_step hA146 rfl (d_bin (wy rfl rfl (hA146.get 37 _ rfl)) (hA146.ev rfl) (hA146.ev rfl) (b_eq _ _ y134.new_ 5 true _ (by have h := able_ev; rw [hy135] at h; simp at h; simp [h])) ?_)
 intro a147 hA148
 refine q_step hA148 rfl (d_pickT (wn rfl) (hA148.ev rfl) (hA148.ev rfl) ?_)
 intro a149 hA150
 refine q_step hA150 rfl (d_move (wn rfl) (hA150.ev rfl) ?_)
 intro a151 hA152
 refine q_step hA152 rfl (d_move (wy rfl rfl (hA152.get 44 _ rfl)) (hA152.ev rfl) ?_)
 intro a153 hA154
 refine q_step hA154 rfl (d_indexAt (j := 0) (wy rfl rfl (hA154.get 44 _ rfl)) (hA154.ev rfl) (hA154.ev rfl) slc44 hix140 (get_lt hy135) ?_)
 intro a155 hA156
 refine q_step hA156 rfl (d_fieldAddr (wy rfl rfl (hA156.get 44 _ rfl)) (hA156.ev rfl) fo52_4 ?_)
 intro a157 hA158
 refine q_step hA158 rfl (d_fieldAddr (wy rfl rfl (hA158.get 44 _ rfl)) (hA158.ev rfl) fo50_1 ?_)
 intro a159 hA160
 refine q_step hA160 rfl (d_load (v := (.int .i64 y134.mask)) (wy rfl rfl (hA160.get 44 _ rfl)) (hA160.ev rfl) one3 (hr139 5 _ rfl) ?_)
 intro a161 hA162
 refine q_step hA162 rfl (d_bin (wy rfl rfl (hA162.get 44 _ rfl)) (hA162.ev rfl) (hA162.ev rfl) (b_eq _ _ y134.mask 255 true _ (by have h := able_ev; rw [hy135] at h; simp at h; simp [h])) ?_)
 intro a163 hA164
 refine q_step hA164 rfl (d_pickT (wn rfl) (hA164.ev rfl) (hA164.ev rfl) ?_)
 intro a165 hA166
 refine q_step hA166 rfl (d_move (wn rfl) (hA166.ev rfl) ?_)
 intro a167 hA168
 refine q_step hA168 rfl (d_move (wy rfl rfl (hA168.get 52 _ rfl)) (hA168.ev rfl) ?_)
 intro a169 hA170
 refine q_step hA170 rfl (d_len (n := s1.path.length) (wy rfl rfl (hA170.get 52 _ rfl)) (hA170.ev rfl) slc30 (own_form ho88) ?_)
 intro a171 hA172
 refine q_step hA172 rfl (d_bin (wy rfl rfl (hA172.get 52 _ rfl)) (hA172.ev rfl) (hA172.ev rfl) (b_eq _ _ ((s1.path.length : Nat) : Int) 2 true _ able_p1) ?_)
 intro a173 hA174
 refine q_step hA174 rfl (d_pickT (wn rfl) (hA174.ev rfl) (hA174.ev rfl) ?_)
 intro a175 hA176
 refine q_step hA176 rfl (d_move (wn rfl) (hA176.ev rfl) ?_)
 intro a177 hA178
 refine q_step hA178 rfl (d_move (wy rfl rfl (hA178.get 57 _ rfl)) (hA178.ev rfl) ?_)
 intro a179 hA180
 refine q_step hA180 rfl (d_bin (wy rfl rfl (hA180.get 57 _ rfl)) (hA180.ev rfl) (hA180.ev rfl) (b_ne _ _ ((checkR []).2.2) 0 true _ (notof able_n1)) ?_)
 intro a181 hA182
 refine q_step hA182 rfl (d_pickT (wn rfl) (hA182.ev rfl) (hA182.ev rfl) ?_)
 intro a183 hA184
 refine q_step hA184 rfl (d_move (wn rfl) (hA184.ev rfl) ?_)
 intro a185 hA186
 refine q_step hA186 rfl (d_move (wy rfl rfl (hA186.get 61 _ rfl)) (hA186.ev rfl) ?_)
 intro a187 hA188
 refine q_step hA188 rfl (d_indexAt (n := 2) (j := 1) (b := g10) (o := 17) (wy rfl rfl (hA188.get 61 _ rfl)) (hA188.ev rfl) (hA188.ev rfl) slc35 ⟨0, 2, rfl, rfl⟩ (by decide) ?_)
 intro a189 hA190
 refine q_step hA190 rfl (d_loadMid (cs := (insC sI)) (wy rfl rfl (hA190.get 61 _ rfl)) (hA190.ev rfl) row23 (two_range m84).2 ?_)
 intro a191 hA192
 refine q_step hA192 rfl (d_call (wy rfl rfl (hA192.get 61 _ rfl)) ent13 (map1 (hA192.ev rfl)) (writes_any sI w80) ?_)
 rintro e196 w193 ⟨he195, hG194⟩
 have m197 := m84.grow hG194
 have m198 := m85.grow hG194
 have hr199 := range_below hr139 hG194 lt138
 have lt200 := Nat.lt_of_lt_of_le lt138 hG194.size
 have b201 := below_grow b86 hG194 b86.size
 have ho202 := own_grow hG194 ho87
 have ho203 := own_grow hG194 ho88
 refine ⟨(.bool (wrB sI)), he195, ?_⟩
 intro a204 hA205
 refine q_step hA205 rfl (d_pickT (wn rfl) (hA205.ev rfl) (hA205.ev rfl) ?_)
 intro a206 hA207
 refine q_step hA207 rfl (d_move (wn rfl) (hA207.ev rfl) ?_)
 intro a208 hA209
 have hA210 : St 74 [(0, (.bool false)), (1, (.slice (some ⟨g10, 0, none⟩) 2 2)), (2, (.pointer (some ⟨g49, 0, none⟩))), (3, ev30), (4, pa31), (5, (.int .i64 0)), (8, (.int .i64 ((checkR []).2.2))), (25, (.int .i64 0)), (26, (.bool true)), (27, (.bool true)), (28, (.pointer (some ⟨g49, 1, none⟩))), (29, (.int .i64 (s1.r 1))), (30, (.bool true)), (31, (.bool true)), (32, (.bool true)), (33, ev30), (34, (.int .i64 ((s1.evs.length : Nat) : Int))), (35, (.bool true)), (36, (.bool true)), (37, (.bool true)), (38, ev30), (39, (.pointer (some ⟨b136, o137, none⟩))), (40, (.pointer (some ⟨b136, o137 + 9, none⟩))), (41, (.int .i64 y134.new_)), (42, (.bool true)), (43, (.bool true)), (44, (.bool true)), (45, ev30), (46, (.pointer (some ⟨b136, o137, none⟩))), (47, (.pointer (some ⟨b136, o137 + 4, none⟩))), (48, (.pointer (some ⟨b136, o137 + 5, none⟩))), (49, (.int .i64 y134.mask)), (50, (.bool true)), (51, (.bool true)), (52, (.bool true)), (53, pa31), (54, (.int .i64 ((s1.path.length : Nat) : Int))), (55, (.bool true)), (56, (.bool true)), (57, (.bool true)), (58, (.int .i64 ((checkR []).2.2))), (59, (.bool true)), (60, (.bool true)), (61, (.bool true)), (62, (.slice (some ⟨g10, 0, none⟩) 2 2)), (63, (.pointer (some ⟨g10, 17, none⟩))), (64, (.agg (insC sI))), (65, (.bool (wrB sI))), (66, (.bool (wrB sI))), (67, (.bool true))] a208 := hA209.cut _ (fm_cons (hA209.get 0 _ rfl) (fm_cons (hA209.get 1 _ rfl) (fm_cons (hA209.get 2 _ rfl) (fm_cons (hA209.get 3 _ rfl) (fm_cons (hA209.get 4 _ rfl) (fm_cons (hA209.get 5 _ rfl) (fm_cons (hA209.get 8 _ rfl) (fm_cons (hA209.get 25 _ rfl) (fm_cons (hA209.get 26 _ rfl) (fm_cons (hA209.get 27 _ rfl) (fm_cons (hA209.get 28 _ rfl) (fm_cons (hA209.get 29 _ rfl) (fm_cons (hA209.get 30 _ rfl) (fm_cons (hA209.get 31 _ rfl) (fm_cons (hA209.get 32 _ rfl) (fm_cons (hA209.get 33 _ rfl) (fm_cons (hA209.get 34 _ rfl) (fm_cons (hA209.get 35 _ rfl) (fm_cons (hA209.get 36 _ rfl) (fm_cons (hA209.get 37 _ rfl) (fm_cons (hA209.get 38 _ rfl) (fm_cons (hA209.get 39 _ rfl) (fm_cons (hA209.get 40 _ rfl) (fm_cons (hA209.get 41 _ rfl) (fm_cons (hA209.get 42 _ rfl) (fm_cons (hA209.get 43 _ rfl) (fm_cons (hA209.get 44 _ rfl) (fm_cons (hA209.get 45 _ rfl) (fm_cons (hA209.get 46 _ rfl) (fm_cons (hA209.get 47 _ rfl) (fm_cons (hA209.get 48 _ rfl) (fm_cons (hA209.get 49 _ rfl) (fm_cons (hA209.get 50 _ rfl) (fm_cons (hA209.get 51 _ rfl) (fm_cons (hA209.get 52 _ rfl) (fm_cons (hA209.get 53 _ rfl) (fm_cons (hA209.get 54 _ rfl) (fm_cons (hA209.get 55 _ rfl) (fm_cons (hA209.get 56 _ rfl) (fm_cons (hA209.get 57 _ rfl) (fm_cons (hA209.get 58 _ rfl) (fm_cons (hA209.get 59 _ rfl) (fm_cons (hA209.get 60 _ rfl) (fm_cons (hA209.get 61 _ rfl) (fm_cons (hA209.get 62 _ rfl) (fm_cons (hA209.get 63 _ rfl) (fm_cons (hA209.get 64 _ rfl) (fm_cons (hA209.get 65 _ rfl) (fm_cons (hA209.get 66 _ rfl) (fm_cons ((hA209.get 67 _ rfl).trans (congrArg Value.bool able_w)) fm_nil))))))))))))))))))))))))))))))))))))))))))))))))))
 refine q_step hA210 rfl (d_move (wy rfl rfl (hA210.get 67 _ rfl)) (hA210.ev rfl) ?_)
 intro a211 hA212
 refine q_step hA212 rfl (d_indexAt (n := 2) (j := 0) (b := g10) (o := 0) (wy rfl rfl (hA212.get 67 _ rfl)) (hA212.ev rfl) (hA212.ev rfl) slc35 ⟨0, 2, rfl, rfl⟩ (by decide) ?_)
 intro a213 hA214
 refine q_step hA214 rfl (d_loadMid (cs := (insC cI)) (wy rfl rfl (hA214.get 67 _ rfl)) (hA214.ev rfl) row23 (two_range m197).1 ?_)
 intro a215 hA216
 refine q_step hA216 rfl (d_call (wy rfl rfl (hA216.get 67 _ rfl)) ent18 (map1 (hA216.ev rfl)) (gives_any cI w193) ?_)
 rintro e220 w217 ⟨he219, hG218⟩
 have m221 := m197.grow hG218
 have m222 := m198.grow hG218
 have hr223 := range_below hr199 hG218 lt200
 have lt224 := Nat.lt_of_lt_of_le lt200 hG218.size
 have b225 := below_grow b201 hG218 b201.size
 have ho226 := own_grow hG218 ho202
 have ho227 := own_grow hG218 ho203
 refine ⟨(.int .i64 (givesF cI)), he219, ?_⟩
 intro a228 hA229
 refine q_step hA229 rfl (d_bin (wy rfl rfl (hA229.get 67 _ rfl)) (hA229.ev rfl) (hA229.ev rfl) (b_eq _ _ (givesF cI) 1 true _ able_g) ?_)
 intro a230 hA231
 refine q_step hA231 rfl (d_pickT (wn rfl) (hA231.ev rfl) (hA231.ev rfl) ?_)
 intro a232 hA233
 refine q_step hA233 rfl (d_assign (wn rfl) (hA233.ev rfl) ?_)
 intro a234 hA235
 refine q_end ?_
 have hA236 : St 74 [(0, (.bool true))] a234 := hA235.cut _ (fm_cons (hA235.get 0 _ rfl) fm_nil)
 refine t_norm ?_
 refine wp_ret ?_
 refine ret1 rfl hA236 (v := (.bool true)) rfl ?_
 exact ⟨rfl, b225⟩
end Go.Proofs.Ytlhompedcphnnaa
/- How an instruction that is handed in by value is read. -/
namespace Go.Proofs.Ytlhompedcphnnaa
open Go.ChangeShapes Go.WideShapes Go.ChangeAt Go.RowKit

def insT (k : Nat) : Nat := if k == 10 || k == 11 || k == 12 || k == 16 then 4 else 3
def insFs (P : Program) : Option (Array Field) := match P.underlying 23 with | some (.struct fs) => some fs | _ => none
def insFB (P : Program) : Bool := match insFs P with | some fs => (List.range 17).all (fun k => match fs[k]? with | some f => f.offset == k && f.type == insT k | none => false) | none => false
theorem insFB_true : insFB Try.prog = true := by kernel_rfl
theorem ins_fields : ∃ fs : Array Field, Try.prog.underlying 23 = some (.struct fs) ∧ ∀ k, k < 17 → ∃ f, fs[k]? = some f ∧ f.offset = k ∧ f.type = insT k := by
  have h := insFB_true
  unfold insFB at h
  cases hq : insFs Try.prog with
  | none => simp [hq] at h
  | some fs =>
    rw [hq] at h
    refine ⟨fs, ?_, fun k hk => ?_⟩
    · unfold insFs at hq
      split at hq
      · rename_i fs' he; rw [he]; cases hq; rfl
      · cases hq
    · have h1 := List.all_eq_true.1 h k (List.mem_range.2 hk)
      cases hf : fs[k]? with
      | none => simp [hf] at h1
      | some f => rw [hf] at h1; simp only [Bool.and_eq_true, beq_iff_eq] at h1; exact ⟨f, rfl, h1.1, h1.2⟩
theorem ins_cells : Try.prog.cellsOf 23 = 17 := by kernel_rfl
theorem int_cells : Try.prog.cellsOf 3 = 1 := by kernel_rfl
theorem bool_cells : Try.prog.cellsOf 4 = 1 := by kernel_rfl
theorem take_one {l : List Value} {k : Nat} {v : Value} (h : (l.drop k).take 1 = [v]) : l[k]? = some v := by
  have := congrArg (fun l => l[0]?) h
  simpa using this
theorem open_ins {H : Type} {enc : TypeId × Value → H} {W : World} {base : Nat} {spare : Nat → Bool} {held : Bool} {base' : Nat} {v : Value} {d : DataW H} {ps : List MemPlace}
    (hv : Value.okWide Try.prog W .any base 23 v) (h : DataW.Trod enc Try.prog W base' spare held 23 v d ps) : ∃ i : Ins, v = .agg (insC i) := by
  obtain ⟨fs, hu, hfs⟩ := ins_fields
  obtain ⟨cs, rfl, hsz⟩ := okWide_struct hu hv
  rw [ins_cells] at hsz
  obtain ⟨fuel, hf⟩ := h
  obtain ⟨xs, n, _, _, _, hlen, hx⟩ := DataW.trod_struct hu hf
  have int : ∀ k, k < 17 → insT k = 3 → ∃ m : Int, cs.toList[k]? = some (.int .i64 m) := fun k hk ht => by
    obtain ⟨f, hf1, ho, hty⟩ := hfs k hk
    have h1 := hx k f hf1
    have hl := (Array.getElem?_eq_some_iff.1 hf1).1
    rw [ho, hty, ht, int_cells, List.getElem?_eq_getElem (by omega)] at h1
    obtain ⟨m, h2, _, _⟩ := DataW.trod_int Try.underlying3 h1
    exact ⟨m, take_one h2⟩
  have bool : ∀ k, k < 17 → insT k = 4 → ∃ b : Bool, cs.toList[k]? = some (.bool b) := fun k hk ht => by
    obtain ⟨f, hf1, ho, hty⟩ := hfs k hk
    have h1 := hx k f hf1
    have hl := (Array.getElem?_eq_some_iff.1 hf1).1
    rw [ho, hty, ht, bool_cells, List.getElem?_eq_getElem (by omega)] at h1
    obtain ⟨m, h2, _⟩ := DataW.trod_bool Try.underlying4 h1
    exact ⟨m, take_one h2⟩
  obtain ⟨c0, h0⟩ := int 0 (by decide) rfl
  obtain ⟨c1, h1⟩ := int 1 (by decide) rfl
  obtain ⟨c2, h2⟩ := int 2 (by decide) rfl
  obtain ⟨c3, h3⟩ := int 3 (by decide) rfl
  obtain ⟨c4, h4⟩ := int 4 (by decide) rfl
  obtain ⟨c5, h5⟩ := int 5 (by decide) rfl
  obtain ⟨c6, h6⟩ := int 6 (by decide) rfl
  obtain ⟨c7, h7⟩ := int 7 (by decide) rfl
  obtain ⟨c8, h8⟩ := int 8 (by decide) rfl
  obtain ⟨c9, h9⟩ := int 9 (by decide) rfl
  obtain ⟨c10, h10⟩ := bool 10 (by decide) rfl
  obtain ⟨c11, h11⟩ := bool 11 (by decide) rfl
  obtain ⟨c12, h12⟩ := bool 12 (by decide) rfl
  obtain ⟨c13, h13⟩ := int 13 (by decide) rfl
  obtain ⟨c14, h14⟩ := int 14 (by decide) rfl
  obtain ⟨c15, h15⟩ := int 15 (by decide) rfl
  obtain ⟨c16, h16⟩ := bool 16 (by decide) rfl
  refine ⟨⟨c0, c1, c2, c3, c4, c5, c6, c7, c8, c9, c10, c11, c12, c13, c14, c15, c16⟩, congrArg Value.agg ?_⟩
  apply Array.ext'
  apply List.ext_getElem?
  intro k
  by_cases hk : k < 17
  · have : k = 0 ∨ k = 1 ∨ k = 2 ∨ k = 3 ∨ k = 4 ∨ k = 5 ∨ k = 6 ∨ k = 7 ∨ k = 8 ∨ k = 9 ∨ k = 10 ∨ k = 11 ∨ k = 12 ∨ k = 13 ∨ k = 14 ∨ k = 15 ∨ k = 16 := by omega
    rcases this with rfl | rfl | rfl | rfl | rfl | rfl | rfl | rfl | rfl | rfl | rfl | rfl | rfl | rfl | rfl | rfl | rfl
    · exact h0
    · exact h1
    · exact h2
    · exact h3
    · exact h4
    · exact h5
    · exact h6
    · exact h7
    · exact h8
    · exact h9
    · exact h10
    · exact h11
    · exact h12
    · exact h13
    · exact h14
    · exact h15
    · exact h16
  · rw [List.getElem?_eq_none (by simp; omega), List.getElem?_eq_none (by simp [insC]; omega)]
end Go.Proofs.Ytlhompedcphnnaa
/- Two rows of numbers compared. -/
namespace Go.Proofs.Ytlhompedcphnnaa

theorem take_more {l m : List Int} {j : Nat} {y z : Int} (h : l.take j = m.take j) (hy : l[j]? = some y) (hz : m[j]? = some z) (he : y = z) : l.take (j + 1) = m.take (j + 1) := by
  rw [List.take_add_one, List.take_add_one, h, hy, hz, he]
theorem take_all {l m : List Int} {j : Nat} (h : l.take j = m.take j) (hl : l.length ≤ j) (hm : m.length ≤ j) : l = m := by
  rwa [List.take_of_length_le hl, List.take_of_length_le hm] at h
theorem eq_no_len {l m : List Int} (h : (l.length : Int) ≠ (m.length : Int)) : decide (l = m) = false := by
  rw [decide_eq_false_iff_not]; intro e; subst e; exact h rfl
theorem eq_no_at {l m : List Int} {j : Nat} {y z : Int} (hy : l[j]? = some y) (hz : m[j]? = some z) (he : y ≠ z) : decide (l = m) = false := by
  rw [decide_eq_false_iff_not]; intro e; subst e; rw [hy] at hz; cases hz; exact he rfl
end Go.Proofs.Ytlhompedcphnnaa
/- ints tells whether two rows of numbers are the same. -/
namespace Go.Proofs.Ytlhompedcphnnaa
open Go.RowKit
set_option linter.unusedSimpArgs false
set_option linter.unusedVariables false

set_option maxHeartbeats 4000000 in
set_option maxRecDepth 4000 in
theorem ints_any (l m : List Int) (va vb : Value) (w : World) (hsa : Sl intE 1 w.heap.size w va l) (hsb : Sl intE 1 w.heap.size w vb m) (hll : l.length ≤ 1000000) : Calls Try.prog 15 #[va, vb] w fun e w' => e = .returned (.bool (decide (l = m))) ∧ Grow w w' := by
 have b0 : Below w.heap.size w w := Below.refl _ _
 refine enter (n := 26) Try.func15 rfl rfl (Nat.le_of_ble_eq_true rfl) ?_
 intro a1 hA2
 refine wp_seq ?_
 refine wp_region_lit ?_
 refine q_step hA2 rfl (d_assign (wn rfl) (hA2.ev rfl) ?_)
 intro a3 hA4
 refine q_end ?_
 have hA5 : St 26 [(0, va), (1, vb), (4, (.bool false))] a3 := hA4.cut _ (fm_cons (hA4.get 0 _ rfl) (fm_cons (hA4.get 1 _ rfl) (fm_cons (hA4.get 4 _ rfl) fm_nil)))
 refine t_norm ?_
 refine wp_seq ?_
 refine wp_seq ?_
 refine wp_region_lit ?_
 refine q_step hA5 rfl (d_move (wn rfl) (hA5.ev rfl) ?_)
 intro a6 hA7
 refine q_step hA7 rfl (d_len (n := l.length) (wn rfl) (hA7.ev rfl) slc30 hsa.form ?_)
 intro a8 hA9
 refine q_step hA9 rfl (d_move (wn rfl) (hA9.ev rfl) ?_)
 intro a10 hA11
 refine q_step hA11 rfl (d_len (n := m.length) (wn rfl) (hA11.ev rfl) slc30 hsb.form ?_)
 intro a12 hA13
 rcases Bool.eq_false_or_eq_true (((l.length : Nat) : Int) == ((m.length : Nat) : Int)) with hb14 | hb14
 ·skip
  have hq15 := eq_of_beq hb14
  refine q_step hA13 rfl (d_bin (wn rfl) (hA13.ev rfl) (hA13.ev rfl) (b_ne _ _ ((l.length : Nat) : Int) ((m.length : Nat) : Int) false _ (notof hb14)) ?_)
  intro a16 hA17
  refine q_end ?_
  have hA18 : St 26 [(0, va), (1, vb), (4, (.bool false)), (10, (.bool false))] a16 := hA17.cut _ (fm_cons (hA17.get 0 _ rfl) (fm_cons (hA17.get 1 _ rfl) (fm_cons (hA17.get 4 _ rfl) (fm_cons (hA17.get 10 _ rfl) fm_nil))))
  refine t_norm ?_
  refine c_false hA18 rfl ?_
  refine wp_skip ?_
  refine t_norm ?_
  refine wp_seq ?_
  refine wp_seq ?_
  refine wp_region_lit ?_
  refine q_step hA18 rfl (d_assign (wn rfl) (hA18.ev rfl) ?_)
  intro a19 hA20
  refine q_end ?_
  have hA21 : St 26 [(0, va), (1, vb), (4, (.bool false)), (5, (.int .i64 0))] a19 := hA20.cut _ (fm_cons (hA20.get 0 _ rfl) (fm_cons (hA20.get 1 _ rfl) (fm_cons (hA20.get 4 _ rfl) (fm_cons (hA20.get 5 _ rfl) fm_nil))))
  refine t_norm ?_
  refine wp_block ?_
  refine loop_by (fun m23 a24 w25 => ∃ j22 : Nat, m23 = l.length - j22 ∧ (j22 ≤ l.length ∧ l.take (j22) = m.take (j22)) ∧ St 26 [(0, va), (1, vb), (5, (.int .i64 ((j22 : Nat) : Int)))] a24 ∧ Below w.heap.size w w25) (l.length - 0) ⟨0, rfl, ⟨Nat.zero_le _, rfl⟩, hA21.cut _ (fm_cons (hA21.get 0 _ rfl) (fm_cons (hA21.get 1 _ rfl) (fm_cons ((hA21.get 5 _ rfl).trans (congrArg (Value.int .i64) (by omega))) fm_nil))), b0⟩ ?_
  rintro m23 a24 w25 ⟨j22, hm28, hc29, hA26, b27⟩
  refine wp_seq ?_
  refine wp_seq ?_
  refine wp_region_lit ?_
  refine q_step hA26 rfl (d_move (wn rfl) (hA26.ev rfl) ?_)
  intro a30 hA31
  refine q_step hA31 rfl (d_move (wn rfl) (hA31.ev rfl) ?_)
  intro a32 hA33
  refine q_step hA33 rfl (d_len (n := l.length) (wn rfl) (hA33.ev rfl) slc30 hsa.form ?_)
  intro a34 hA35
  rcases Bool.eq_false_or_eq_true (decide (((j22 : Nat) : Int) < ((l.length : Nat) : Int))) with hb36 | hb36
  ·skip
   have hq37 := of_decide_eq_true hb36
   refine q_step hA35 rfl (d_bin (wn rfl) (hA35.ev rfl) (hA35.ev rfl) (b_lt _ _ ((j22 : Nat) : Int) ((l.length : Nat) : Int) true _ hb36) ?_)
   intro a38 hA39
   refine q_end ?_
   have hA40 : St 26 [(0, va), (1, vb), (5, (.int .i64 ((j22 : Nat) : Int))), (14, (.bool true))] a38 := hA39.cut _ (fm_cons (hA39.get 0 _ rfl) (fm_cons (hA39.get 1 _ rfl) (fm_cons (hA39.get 5 _ rfl) (fm_cons (hA39.get 14 _ rfl) fm_nil))))
   refine t_norm ?_
   refine c_true hA40 rfl ?_
   refine wp_skip ?_
   refine t_norm ?_
   refine wp_seq ?_
   refine wp_block ?_
   refine wp_seq ?_
   obtain ⟨y41, hy42⟩ : ∃ y41, l[j22]? = some y41 := ⟨_, List.getElem?_eq_getElem (show j22 < l.length by omega)⟩
   obtain ⟨b43, o44, lt45, hr46, hix47⟩ := (hsa.below b27).at hy42
   obtain ⟨y48, hy49⟩ : ∃ y48, m[j22]? = some y48 := ⟨_, List.getElem?_eq_getElem (show j22 < m.length by omega)⟩
   obtain ⟨b50, o51, lt52, hr53, hix54⟩ := (hsb.below b27).at hy49
   rcases Bool.eq_false_or_eq_true (y41 == y48) with hb55 | hb55
   ·skip
    have hq56 := eq_of_beq hb55
    have hA57 : St 26 [(0, va), (1, vb), (5, (.int .i64 ((j22 : Nat) : Int)))] a38 := hA40.cut _ (fm_cons (hA40.get 0 _ rfl) (fm_cons (hA40.get 1 _ rfl) (fm_cons (hA40.get 5 _ rfl) fm_nil)))
    let M58 : Nat → Option (Array Value) := fun _ => none
    have hM58 : M58 = fun _ => none := rfl
    clear_value M58
    have hM58B : ∀ k, k < w.heap.size → M58 k = none := (fun k hk => (congrFun hM58 k))
    refine drawn (S := SM M58) (tabL [cv va, cv (.int .i64 ((j22 : Nat) : Int)), cv (.pointer (some ⟨b43, o44, none⟩)), cv (.int .i64 y41), cv vb, cv (.int .i64 ((j22 : Nat) : Int)), cv (.pointer (some ⟨b50, o51, none⟩)), cv (.int .i64 y48), cv (.bool false)]) mixedY SM.refl SM.trans SM.drew hA57 (by kernel_rfl) ?_ ?_
    ·skip
     refine each_cons (fun x y hS hT hk => d_move (wn rfl) (hT.ev rfl) ⟨SM.refl _, rfl⟩) ?_
     refine each_cons (fun x y hS hT hk => d_move (wn rfl) (hT.ev rfl) ⟨SM.refl _, rfl⟩) ?_
     refine each_cons (fun x y hS hT hk => d_indexAt (j := j22) (wn rfl) (hk 0 rfl) (hk 1 rfl) slc30 hix47 (get_lt hy42) ⟨SM.refl _, rfl⟩) ?_
     refine each_cons (fun x y hS hT hk => d_load (v := (.int .i64 y41)) (wn rfl) (hk 2 rfl) one3 ((range_sm (w := w25.drew) hr46 hS (Nat.lt_of_lt_of_le lt45 b27.size) (hM58B _ lt45)) 0 _ rfl) ⟨SM.refl _, rfl⟩) ?_
     refine each_cons (fun x y hS hT hk => d_move (wn rfl) (hT.ev rfl) ⟨SM.refl _, rfl⟩) ?_
     refine each_cons (fun x y hS hT hk => d_move (wn rfl) (hT.ev rfl) ⟨SM.refl _, rfl⟩) ?_
     refine each_cons (fun x y hS hT hk => d_indexAt (j := j22) (wn rfl) (hk 4 rfl) (hk 5 rfl) slc30 hix54 (get_lt hy49) ⟨SM.refl _, rfl⟩) ?_
     refine each_cons (fun x y hS hT hk => d_load (v := (.int .i64 y48)) (wn rfl) (hk 6 rfl) one3 ((range_sm (w := w25.drew) hr53 hS (Nat.lt_of_lt_of_le lt52 b27.size) (hM58B _ lt52)) 0 _ rfl) ⟨SM.refl _, rfl⟩) ?_
     refine each_cons (fun x y hS hT hk => d_bin (wn rfl) (hk 3 rfl) (hk 7 rfl) (b_ne _ _ y41 y48 false _ (notof hb55)) ⟨SM.refl _, rfl⟩) ?_
     exact each_nil
    intro f59 a60 w61 hS62 hC63 hA64
    have hA65 : St 26 [(0, va), (1, vb), (5, (.int .i64 ((j22 : Nat) : Int))), (25, (.bool false))] a60 := hA64.cut _ (fm_cons (hA64.get 0 _ rfl) (fm_cons (hA64.get 1 _ rfl) (fm_cons (hA64.get 5 _ rfl) (fm_cons ((hA64.get 25 _ rfl).trans (hC63 8 (Nat.le_of_ble_eq_true rfl))) fm_nil))))
    have b66 := hS62.below b27 b27.size hM58B
    have hr67 := range_sm hr46 hS62 (Nat.lt_of_lt_of_le lt45 b27.size) (hM58B _ lt45)
    have hr68 := range_sm hr53 hS62 (Nat.lt_of_lt_of_le lt52 b27.size) (hM58B _ lt52)
    refine t_norm ?_
    refine c_false hA65 rfl ?_
    refine wp_skip ?_
    refine i_norm ?_
    refine t_norm ?_
    refine wp_region_lit ?_
    refine q_step hA65 rfl (d_move (wn rfl) (hA65.ev rfl) ?_)
    intro a69 hA70
    refine q_step hA70 rfl (d_bin (wn rfl) (hA70.ev rfl) (hA70.ev rfl) (b_add _ _ ((j22 : Nat) : Int) 1 _ (by omega) (by omega)) ?_)
    intro a71 hA72
    refine q_step hA72 rfl (d_assign (wn rfl) (hA72.ev rfl) ?_)
    intro a73 hA74
    refine q_end ?_
    have hA75 : St 26 [(0, va), (1, vb), (5, (.int .i64 (((j22 : Nat) : Int) + 1)))] a73 := hA74.cut _ (fm_cons (hA74.get 0 _ rfl) (fm_cons (hA74.get 1 _ rfl) (fm_cons (hA74.get 5 _ rfl) fm_nil)))
    refine t_norm ?_
    exact ⟨l.length - (j22 + 1), (by rw [hm28]; omega), j22 + 1, rfl, ⟨by have := get_lt hy42; omega, take_more hc29.2 hy42 hy49 (eq_of_beq hb55)⟩, hA75.cut _ (fm_cons (hA75.get 0 _ rfl) (fm_cons (hA75.get 1 _ rfl) (fm_cons ((hA75.get 5 _ rfl).trans (congrArg (Value.int .i64) (by omega))) fm_nil))), b66⟩
   ·skip
    have hq76 := ne_of_beq hb55
    have hA77 : St 26 [(0, va), (1, vb), (5, (.int .i64 ((j22 : Nat) : Int)))] a38 := hA40.cut _ (fm_cons (hA40.get 0 _ rfl) (fm_cons (hA40.get 1 _ rfl) (fm_cons (hA40.get 5 _ rfl) fm_nil)))
    let M78 : Nat → Option (Array Value) := fun _ => none
    have hM78 : M78 = fun _ => none := rfl
    clear_value M78
    have hM78B : ∀ k, k < w.heap.size → M78 k = none := (fun k hk => (congrFun hM78 k))
    refine drawn (S := SM M78) (tabL [cv va, cv (.int .i64 ((j22 : Nat) : Int)), cv (.pointer (some ⟨b43, o44, none⟩)), cv (.int .i64 y41), cv vb, cv (.int .i64 ((j22 : Nat) : Int)), cv (.pointer (some ⟨b50, o51, none⟩)), cv (.int .i64 y48), cv (.bool true)]) mixedY SM.refl SM.trans SM.drew hA77 (by kernel_rfl) ?_ ?_
    ·skip
     refine each_cons (fun x y hS hT hk => d_move (wn rfl) (hT.ev rfl) ⟨SM.refl _, rfl⟩) ?_
     refine each_cons (fun x y hS hT hk => d_move (wn rfl) (hT.ev rfl) ⟨SM.refl _, rfl⟩) ?_
     refine each_cons (fun x y hS hT hk => d_indexAt (j := j22) (wn rfl) (hk 0 rfl) (hk 1 rfl) slc30 hix47 (get_lt hy42) ⟨SM.refl _, rfl⟩) ?_
     refine each_cons (fun x y hS hT hk => d_load (v := (.int .i64 y41)) (wn rfl) (hk 2 rfl) one3 ((range_sm (w := w25.drew) hr46 hS (Nat.lt_of_lt_of_le lt45 b27.size) (hM78B _ lt45)) 0 _ rfl) ⟨SM.refl _, rfl⟩) ?_
     refine each_cons (fun x y hS hT hk => d_move (wn rfl) (hT.ev rfl) ⟨SM.refl _, rfl⟩) ?_
     refine each_cons (fun x y hS hT hk => d_move (wn rfl) (hT.ev rfl) ⟨SM.refl _, rfl⟩) ?_
     refine each_cons (fun x y hS hT hk => d_indexAt (j := j22) (wn rfl) (hk 4 rfl) (hk 5 rfl) slc30 hix54 (get_lt hy49) ⟨SM.refl _, rfl⟩) ?_
     refine each_cons (fun x y hS hT hk => d_load (v := (.int .i64 y48)) (wn rfl) (hk 6 rfl) one3 ((range_sm (w := w25.drew) hr53 hS (Nat.lt_of_lt_of_le lt52 b27.size) (hM78B _ lt52)) 0 _ rfl) ⟨SM.refl _, rfl⟩) ?_
     refine each_cons (fun x y hS hT hk => d_bin (wn rfl) (hk 3 rfl) (hk 7 rfl) (b_ne _ _ y41 y48 true _ (notof hb55)) ⟨SM.refl _, rfl⟩) ?_
     exact each_nil
    intro f79 a80 w81 hS82 hC83 hA84
    have hA85 : St 26 [(0, va), (1, vb), (5, (.int .i64 ((j22 : Nat) : Int))), (25, (.bool true))] a80 := hA84.cut _ (fm_cons (hA84.get 0 _ rfl) (fm_cons (hA84.get 1 _ rfl) (fm_cons (hA84.get 5 _ rfl) (fm_cons ((hA84.get 25 _ rfl).trans (hC83 8 (Nat.le_of_ble_eq_true rfl))) fm_nil))))
    have b86 := hS82.below b27 b27.size hM78B
    have hr87 := range_sm hr46 hS82 (Nat.lt_of_lt_of_le lt45 b27.size) (hM78B _ lt45)
    have hr88 := range_sm hr53 hS82 (Nat.lt_of_lt_of_le lt52 b27.size) (hM78B _ lt52)
    refine t_norm ?_
    refine c_true hA85 rfl ?_
    refine wp_seq ?_
    refine wp_region_lit ?_
    refine q_step hA85 rfl (d_assign (wn rfl) (hA85.ev rfl) ?_)
    intro a89 hA90
    refine q_end ?_
    have hA91 : St 26 [(0, va), (1, vb), (4, (.bool false)), (5, (.int .i64 ((j22 : Nat) : Int)))] a89 := hA90.cut _ (fm_cons (hA90.get 0 _ rfl) (fm_cons (hA90.get 1 _ rfl) (fm_cons (hA90.get 4 _ rfl) (fm_cons (hA90.get 5 _ rfl) fm_nil))))
    refine t_norm ?_
    refine wp_ret ?_
    refine i_ret ?_
    refine t_ret ?_
    refine t_ret ?_
    refine i_ret ?_
    refine t_ret ?_
    refine ret1 rfl hA91 (v := (.bool false)) rfl ?_
    exact ⟨ret_bool (eq_no_at hy42 hy49 (ne_of_beq hb55)).symm, b86⟩
  ·skip
   have hq92 := of_decide_eq_false hb36
   refine q_step hA35 rfl (d_bin (wn rfl) (hA35.ev rfl) (hA35.ev rfl) (b_lt _ _ ((j22 : Nat) : Int) ((l.length : Nat) : Int) false _ hb36) ?_)
   intro a93 hA94
   refine q_end ?_
   have hA95 : St 26 [(0, va), (1, vb), (5, (.int .i64 ((j22 : Nat) : Int))), (14, (.bool false))] a93 := hA94.cut _ (fm_cons (hA94.get 0 _ rfl) (fm_cons (hA94.get 1 _ rfl) (fm_cons (hA94.get 5 _ rfl) (fm_cons (hA94.get 14 _ rfl) fm_nil))))
   refine t_norm ?_
   refine c_false hA95 rfl ?_
   refine wp_exit ?_
   refine t_exit ?_
   refine t_exit ?_
   refine i_here ?_
   refine t_norm ?_
   refine wp_seq ?_
   refine wp_region_lit ?_
   refine q_step hA95 rfl (d_assign (wn rfl) (hA95.ev rfl) ?_)
   intro a96 hA97
   refine q_end ?_
   have hA98 : St 26 [(4, (.bool true))] a96 := hA97.cut _ (fm_cons (hA97.get 4 _ rfl) fm_nil)
   refine t_norm ?_
   refine wp_ret ?_
   refine ret1 rfl hA98 (v := (.bool true)) rfl ?_
   exact ⟨ret_bool (by rw [eq_comm, decide_eq_true_iff]; exact take_all hc29.2 (by omega) (by omega)), b27⟩
 ·skip
  have hq99 := ne_of_beq hb14
  refine q_step hA13 rfl (d_bin (wn rfl) (hA13.ev rfl) (hA13.ev rfl) (b_ne _ _ ((l.length : Nat) : Int) ((m.length : Nat) : Int) true _ (notof hb14)) ?_)
  intro a100 hA101
  refine q_end ?_
  have hA102 : St 26 [(0, va), (1, vb), (4, (.bool false)), (10, (.bool true))] a100 := hA101.cut _ (fm_cons (hA101.get 0 _ rfl) (fm_cons (hA101.get 1 _ rfl) (fm_cons (hA101.get 4 _ rfl) (fm_cons (hA101.get 10 _ rfl) fm_nil))))
  refine t_norm ?_
  refine c_true hA102 rfl ?_
  refine wp_seq ?_
  refine wp_region_lit ?_
  refine q_step hA102 rfl (d_assign (wn rfl) (hA102.ev rfl) ?_)
  intro a103 hA104
  refine q_end ?_
  have hA105 : St 26 [(0, va), (1, vb), (4, (.bool false))] a103 := hA104.cut _ (fm_cons (hA104.get 0 _ rfl) (fm_cons (hA104.get 1 _ rfl) (fm_cons (hA104.get 4 _ rfl) fm_nil)))
  refine t_norm ?_
  refine wp_ret ?_
  refine t_ret ?_
  refine ret1 rfl hA105 (v := (.bool false)) rfl ?_
  exact ⟨ret_bool (eq_no_len (ne_of_beq hb14)).symm, b0⟩
end Go.Proofs.Ytlhompedcphnnaa
/- Arrays by value, by parts and by index; the registers that an instruction uses. -/
namespace Go.Proofs.Ytlhompedcphnnaa
open Go.RowKit

section
variable {P : Program} {ops : Array Oper} {a : Act} {w : World} {K : Value → World → Prop} {d : Option Tmp} {ty : TypeId} {pos : String} {af : Array Edge} {gd : Option (Nat × Bool)} {v : Value}
theorem d_buildArr {t n e s m : Nat} {parts : Array (Nat × Operand)} {vs : List (Nat × Value)} {z : Value} {cs : Array Value} (hw : Region.wanted { dst := d, op := .build t parts, type := ty, pos := pos, after := af, guard := gd } (yielded ops a.tmps) = true)
    (hx : (parts.map fun x => (x.1, a.eval x.2)).toList = vs) (ht : arrB P t n e s = true) (hi : (P.info? t).map (fun i => (i.zero, i.size)) = some (some z, m)) (hf : Instr.fill (fun i => some (i * s, s)) z.cells vs = some cs) (h : K (.agg cs) w) :
    Does P ops { dst := d, op := .build t parts, type := ty, pos := pos, after := af, guard := gd } a w K :=
  does_val hw (by
    have hz := (zero_of_info hi).1 w
    have hf' : Instr.fill (fun i => some (i * s, s)) z.cells (parts.map fun x => (x.1, a.eval x.2)).toList = some cs := by rw [hx]; exact hf
    unfold execOp
    simp only [Sem.run_bind, Instr.build, hz, Result.andThen_ok, run_underlying (arr_facts ht).1, run_size (arr_facts ht).2, hf', Sem.run_pure]) h
theorem d_indexV {t n e j : Nat} {x ix : Operand} {cs : Array Value} (hw : Region.wanted { dst := d, op := .index t x ix, type := ty, pos := pos, after := af, guard := gd } (yielded ops a.tmps) = true) (hx : a.eval x = .agg cs) (hi : a.eval ix = .int .i64 (j : Int)) (ht : arrB P t n e 1 = true) (h1 : oneB P e = true) (hj : j < n) (hv : cs[j]? = some v) (h : K v w) :
    Does P ops { dst := d, op := .index t x ix, type := ty, pos := pos, after := af, guard := gd } a w K :=
  does_val hw (by
    have hc : (0 : Int) ≤ (j : Int) ∧ (j : Int) < ((n : Nat) : Int) := ⟨by omega, by omega⟩
    have h2 := part_one (P := P) (t := e) (cs := cs) (o := j * 1) w (agg_no h1 w) (by rw [Nat.mul_one]; exact hv)
    have h3 : (Instr.index t (.agg cs) (.int .i64 (j : Int))).run P w = .ok v w := by
      unfold Instr.index
      simp only [asIntOf, Sem.run_bind, Sem.run_pure, Result.andThen_ok, run_underlying (arr_facts ht).1, if_pos hc, run_size (arr_facts ht).2, Int.toNat_natCast]
      exact h2
    unfold execOp
    simp only [hx, hi, Sem.run_bind, h3, Result.andThen_ok, Sem.run_pure]) h
end
def useX (i : Ins) : List Int := [(plainF i).a, (plainF i).b, (plainF i).index]
def useL (l : List Int) (j : Nat) : List Int := (l.take j).filter fun x => !(x == -1)
def useF (i : Ins) : List Int := (useX i).filter fun x => !(x == -1)
theorem use_yes {l : List Int} {j : Nat} {y : Int} (h : l[j]? = some y) (hy : (y == -1) = false) : useL l (j + 1) = useL l j ++ [y] := by
  unfold useL; rw [List.take_add_one, h, List.filter_append]; simp [hy]
theorem use_no {l : List Int} {j : Nat} {y : Int} (h : l[j]? = some y) (hy : (y == -1) = true) : useL l (j + 1) = useL l j := by
  unfold useL; rw [List.take_add_one, h, List.filter_append]; simp [hy]
theorem arr_of {l : List Int} {j : Nat} {y : Int} (h : l[j]? = some y) : ((l.map (Value.int .i64)).toArray)[j]? = some (.int .i64 y) := by simp [h]
theorem use_len (l : List Int) (j : Nat) : (useL l j).length ≤ l.length := by
  unfold useL
  have := List.length_filter_le (fun x : Int => !(x == -1)) (l.take j)
  simp at this ⊢; omega
end Go.Proofs.Ytlhompedcphnnaa
