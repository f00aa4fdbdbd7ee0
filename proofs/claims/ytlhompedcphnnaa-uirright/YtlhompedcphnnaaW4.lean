/- A write of the walk. -/
import Derived.Test.YtlhompedcphnnaaW3
namespace Go.Proofs.Ytlhompedcphnnaa
open Go.RowKit
set_option linter.unusedSimpArgs false
set_option linter.unusedVariables false
set_option maxHeartbeats 4000000 in
set_option maxRecDepth 4000 in
theorem access_5 (Bd g : Nat) (p : Int) (r : Nat → Int) (rd ev pa : Value) (i : Ins) (rds : List Int) (evs : List Ev) (path : List Int) (w : World) (hB : Bd ≤ w.heap.size) (hW : WS Bd g w p r rds evs path rd ev pa) (hne : evs.length ≤ 1000) (hnp : path.length ≤ 1000) (hr : ∀ k, wfI (r k)) (hix : ronB i.index = true) (hoff : wfI i.off) (ha : ronB i.a = true) (himm : wfI i.imm) : Calls Try.prog 48 #[.pointer (some ⟨g, 0, none⟩), .agg (insC ⟨5, i.dst, i.a, i.b, i.imm, i.loc, i.off, i.index, i.size, i.fn, i.acq, i.weak, i.rel, i.pred, i.succ, i.to, i.zero⟩)] w fun e w' => e = .returned (.bool true) ∧ Below Bd w w' ∧ ∃ rd' ev' pa', WS Bd g w' p r rds (evs ++ [acc5 i r path.length p]) path rd' ev' pa' := by
  obtain ⟨hb, hge, hrd, hev, hpa, oe, op_, ap⟩ := hW
  have ap2 : ∀ k, ev.ownBlock = some k → pa.ownBlock ≠ some k := fun k h1 h2 => ap k h2 h1
  have b0 : Below Bd w w := Below.refl _ _
  refine enter (n := 81) Try.func48 rfl rfl (Nat.le_of_ble_eq_true rfl) ?_
  intro a1 hA2
  refine wp_seq ?_
  refine wp_region_lit ?_
  refine q_step hA2 rfl (d_box (wn rfl) (hA2.ev (v := (.agg (insC ⟨5, i.dst, i.a, i.b, i.imm, i.loc, i.off, i.index, i.size, i.fn, i.acq, i.weak, i.rel, i.pred, i.succ, i.to, i.zero⟩))) rfl) ?_)
  intro g3 w4 eg5 hG6 (m7 : Blk w4 g3 (insC ⟨5, i.dst, i.a, i.b, i.imm, i.loc, i.off, i.index, i.size, i.fn, i.acq, i.weak, i.rel, i.pred, i.succ, i.to, i.zero⟩) 23)
  have ge8 : Bd ≤ g3 := eg5 ▸ (Nat.le_trans hB b0.size)
  have n9 : g ≠ g3 := fun h => Nat.lt_irrefl _ ((h.trans eg5) ▸ hb.lt)
  have off10 := own_new hev eg5
  have off11 := own_new hpa eg5
  have m12 := hb.grow hG6
  have b13 := below_grow b0 hG6 (Nat.le_trans hB b0.size)
  have ho14 := own_grow hG6 hev
  have ho15 := own_grow hG6 hpa
  intro a16 hA17
  refine q_step hA17 rfl (d_assign (wn rfl) (hA17.ev (v := (.bool false)) rfl) ?_)
  intro a18 hA19
  refine q_end ?_
  have hA20 : St 81 [(0, (.pointer (some ⟨g, 0, none⟩))), (3, (.pointer (some ⟨g3, 0, none⟩))), (4, (.bool false))] a18 := hA19.cut _ (fm_cons (hA19.get 0 _ rfl) (fm_cons (hA19.get 3 _ rfl) (fm_cons (hA19.get 4 _ rfl) fm_nil)))
  refine t_norm ?_
  refine wp_seq ?_
  refine wp_region_lit ?_
  refine q_step hA20 rfl (d_move (wn rfl) (hA20.ev (v := (.pointer (some ⟨g, 0, none⟩))) rfl) ?_)
  intro a21 hA22
  refine q_step hA22 rfl (d_loadRow (cs := (insC ⟨5, i.dst, i.a, i.b, i.imm, i.loc, i.off, i.index, i.size, i.fn, i.acq, i.weak, i.rel, i.pred, i.succ, i.to, i.zero⟩)) (wn rfl) (hA22.ev (v := (.pointer (some ⟨g3, 0, none⟩))) rfl) row23 m7 ?_)
  intro a23 hA24
  refine q_step hA24 rfl (d_call (wn rfl) ent49 (map2 (hA24.ev (v := (.pointer (some ⟨g, 0, none⟩))) rfl) (hA24.ev (v := (.agg (insC ⟨5, i.dst, i.a, i.b, i.imm, i.loc, i.off, i.index, i.size, i.fn, i.acq, i.weak, i.rel, i.pred, i.succ, i.to, i.zero⟩))) rfl)) (event_any g p r rd ev pa (⟨5, i.dst, i.a, i.b, i.imm, i.loc, i.off, i.index, i.size, i.fn, i.acq, i.weak, i.rel, i.pred, i.succ, i.to, i.zero⟩) path.length Bd (paE path) w4 m12 ho15) ?_)
  rintro e28 w25 ⟨he27, hG26⟩
  have m29 := m12.grow hG26
  have m30 := m7.grow hG26
  have b31 := below_grow b13 hG26 (Nat.le_trans hB b13.size)
  have ho32 := own_grow hG26 ho14
  have ho33 := own_grow hG26 ho15
  refine ⟨(.agg #[.int .i64 0, .int .i64 ((path.length : Nat) : Int), .int .i64 p, .int .i64 5, .int .i64 0, .int .i64 0, .bool false, .bool true, .int .i64 0, .int .i64 0, .bool i.acq, .bool i.weak, .bool i.rel, .int .i64 i.pred, .int .i64 i.succ]), he27, ?_⟩
  intro a34 hA35
  refine q_step hA35 rfl (d_alloc (wn rfl) zero52 ?_)
  intro g36 w37 eg38 hG39 (m40 : Blk w37 g36 #[.int .i64 0, .int .i64 0, .int .i64 0, .int .i64 0, .int .i64 0, .int .i64 0, .bool false, .bool false, .int .i64 0, .int .i64 0, .bool false, .bool false, .bool false, .int .i64 0, .int .i64 0] 52)
  have ge41 : Bd ≤ g36 := eg38 ▸ (Nat.le_trans hB b31.size)
  have n42 : g ≠ g36 := fun h => Nat.lt_irrefl _ ((h.trans eg38) ▸ m29.lt)
  have n43 : g3 ≠ g36 := fun h => Nat.lt_irrefl _ ((h.trans eg38) ▸ m30.lt)
  have off44 := own_new ho32 eg38
  have off45 := own_new ho33 eg38
  have m46 := m29.grow hG39
  have m47 := m30.grow hG39
  have b48 := below_grow b31 hG39 (Nat.le_trans hB b31.size)
  have ho49 := own_grow hG39 ho32
  have ho50 := own_grow hG39 ho33
  intro a51 hA52
  refine q_step hA52 rfl (d_storeRow (wn rfl) (hA52.ev (v := (.pointer (some ⟨g36, 0, none⟩))) rfl) (hA52.ev (v := (.agg #[.int .i64 0, .int .i64 ((path.length : Nat) : Int), .int .i64 p, .int .i64 5, .int .i64 0, .int .i64 0, .bool false, .bool true, .int .i64 0, .int .i64 0, .bool i.acq, .bool i.weak, .bool i.rel, .int .i64 i.pred, .int .i64 i.succ])) rfl) row52 m40 rfl rfl ?_)
  intro w53 hU54 (m55 : Blk w53 g36 #[.int .i64 0, .int .i64 ((path.length : Nat) : Int), .int .i64 p, .int .i64 5, .int .i64 0, .int .i64 0, .bool false, .bool true, .int .i64 0, .int .i64 0, .bool i.acq, .bool i.weak, .bool i.rel, .int .i64 i.pred, .int .i64 i.succ] 52)
  have m56 := m46.upd hU54 n42
  have m57 := m47.upd hU54 n43
  have b58 := hU54.below b48 ge41
  have ho59 := own_upd ho49 hU54 off44
  have ho60 := own_upd ho50 hU54 off45
  intro a61 hA62
  refine q_end ?_
  have hA63 : St 81 [(0, (.pointer (some ⟨g, 0, none⟩))), (3, (.pointer (some ⟨g3, 0, none⟩))), (4, (.bool false)), (5, (.pointer (some ⟨g36, 0, none⟩)))] a61 := hA62.cut _ (fm_cons (hA62.get 0 _ rfl) (fm_cons (hA62.get 3 _ rfl) (fm_cons (hA62.get 4 _ rfl) (fm_cons (hA62.get 5 _ rfl) fm_nil))))
  refine t_norm ?_
  refine wp_seq ?_
  have hA64 : St 81 [(0, (.pointer (some ⟨g, 0, none⟩))), (3, (.pointer (some ⟨g3, 0, none⟩))), (4, (.bool false)), (5, (.pointer (some ⟨g36, 0, none⟩)))] a61 := hA63.cut _ (fm_cons (hA63.get 0 _ rfl) (fm_cons (hA63.get 3 _ rfl) (fm_cons (hA63.get 4 _ rfl) (fm_cons (hA63.get 5 _ rfl) fm_nil))))
  let M65 : Nat → Option (Array Value) := fun _ => none
  have hM65 : M65 = fun _ => none := rfl
  clear_value M65
  have hM66 : M65 g = none := (congrFun hM65 g)
  have hM67 : M65 g3 = none := (congrFun hM65 g3)
  have hM68 : M65 g36 = none := (congrFun hM65 g36)
  have hM65B : ∀ k, k < Bd → M65 k = none := (fun k hk => (congrFun hM65 k))
  refine drawn (S := SM M65) (tabL [cv (.pointer (some ⟨g3, 6, none⟩)), cv (.int .i64 i.off), cv (.pointer (some ⟨g, 0, none⟩)), cv (.pointer (some ⟨g3, 7, none⟩)), cv (.int .i64 i.index), cv (.int .i64 (orR r i.index 0)), cv (.pointer (some ⟨g3, 8, none⟩)), cv (.int .i64 i.size), cv (.int .i64 (placeR (B i.off) (B (orR r i.index 0)) i.size)), cv (.int .i64 (placeR (B i.off) (B (orR r i.index 0)) i.size))]) mixedY SM.refl SM.trans SM.drew hA64 (by kernel_rfl) ?_ ?_
  · skip
    refine each_cons (fun x y hS hT hk => d_fieldAddr (wn rfl) (hT.ev (v := (.pointer (some ⟨g3, 0, none⟩))) rfl) fo23_6 ⟨SM.refl _, rfl⟩) ?_
    refine each_cons (fun x y hS hT hk => d_load (v := (.int .i64 i.off)) (wn rfl) (hk 0 rfl) one3 ((Blk.sm (w := w53.drew) m57 hS hM67).cell rfl) ⟨SM.refl _, rfl⟩) ?_
    refine each_cons (fun x y hS hT hk => d_move (wn rfl) (hT.ev (v := (.pointer (some ⟨g, 0, none⟩))) rfl) ⟨SM.refl _, rfl⟩) ?_
    refine each_cons (fun x y hS hT hk => d_fieldAddr (wn rfl) (hT.ev (v := (.pointer (some ⟨g3, 0, none⟩))) rfl) fo23_7 ⟨SM.refl _, rfl⟩) ?_
    refine each_cons (fun x y hS hT hk => d_load (v := (.int .i64 i.index)) (wn rfl) (hk 3 rfl) one3 ((Blk.sm (w := w53.drew) m57 hS hM67).cell rfl) ⟨SM.refl _, rfl⟩) ?_
    refine each_cons (fun x y hS hT hk => d_call (wn rfl) ent47 (map3 (show x.eval _ = (.pointer (some ⟨g, 0, none⟩)) from (hk 2 rfl)) (show x.eval _ = (.int .i64 i.index) from (hk 4 rfl)) (show x.eval _ = (.int .i64 0) from (hT.ev (v := (.int .i64 0)) rfl))) (regOr_any g p r rd ev pa i.index 0 y (Blk.sm (w := w53.drew) m56 hS hM66) hix) (fun _ _ ⟨he, hG⟩ => ⟨(.int .i64 (orR r i.index 0)), he, SM.grow hG, rfl⟩)) ?_
    refine each_cons (fun x y hS hT hk => d_fieldAddr (wn rfl) (hT.ev (v := (.pointer (some ⟨g3, 0, none⟩))) rfl) fo23_8 ⟨SM.refl _, rfl⟩) ?_
    refine each_cons (fun x y hS hT hk => d_load (v := (.int .i64 i.size)) (wn rfl) (hk 6 rfl) one3 ((Blk.sm (w := w53.drew) m57 hS hM67).cell rfl) ⟨SM.refl _, rfl⟩) ?_
    refine each_cons (fun x y hS hT hk => d_call (wn rfl) ent57 (map3 (show x.eval _ = (.int .i64 i.off) from (hk 1 rfl)) (show x.eval _ = (.int .i64 (orR r i.index 0)) from (hk 5 rfl)) (show x.eval _ = (.int .i64 i.size) from (hk 7 rfl))) (place_w i.off (orR r i.index 0) i.size y hoff (wf_or hr wf_0)) (fun _ _ ⟨he, hw⟩ => ⟨(.int .i64 (placeR (B i.off) (B (orR r i.index 0)) i.size)), he, hw ▸ SM.refl _, rfl⟩)) ?_
    refine each_cons (fun x y hS hT hk => d_assign (wn rfl) (hk 8 rfl) ⟨SM.refl _, rfl⟩) ?_
    exact each_nil
  intro f69 a70 w71 hS72 hC73 hA74
  have hA75 : St 81 [(0, (.pointer (some ⟨g, 0, none⟩))), (3, (.pointer (some ⟨g3, 0, none⟩))), (4, (.bool false)), (5, (.pointer (some ⟨g36, 0, none⟩))), (6, (.int .i64 (placeR (B i.off) (B (orR r i.index 0)) i.size)))] a70 := hA74.cut _ (fm_cons (hA74.get 0 _ rfl) (fm_cons (hA74.get 3 _ rfl) (fm_cons (hA74.get 4 _ rfl) (fm_cons (hA74.get 5 _ rfl) (fm_cons ((hA74.get 6 _ rfl).trans (hC73 9 (Nat.le_of_ble_eq_true rfl))) fm_nil)))))
  have m76 := m56.sm hS72 hM66
  have m77 := m57.sm hS72 hM67
  have m78 := m55.sm hS72 hM68
  have b79 := hS72.below b58 (Nat.le_trans hB b58.size) hM65B
  have ho80 := own_sm ho59 hS72 (fun k => congrFun hM65 k)
  have ho81 := own_sm ho60 hS72 (fun k => congrFun hM65 k)
  refine t_norm ?_
  refine wp_seq ?_
  have hA82 : St 81 [(0, (.pointer (some ⟨g, 0, none⟩))), (3, (.pointer (some ⟨g3, 0, none⟩))), (4, (.bool false)), (5, (.pointer (some ⟨g36, 0, none⟩))), (6, (.int .i64 (placeR (B i.off) (B (orR r i.index 0)) i.size)))] a70 := hA75.cut _ (fm_cons (hA75.get 0 _ rfl) (fm_cons (hA75.get 3 _ rfl) (fm_cons (hA75.get 4 _ rfl) (fm_cons (hA75.get 5 _ rfl) (fm_cons (hA75.get 6 _ rfl) fm_nil)))))
  let M83 : Nat → Option (Array Value) := fun _ => none
  have hM83 : M83 = fun _ => none := rfl
  clear_value M83
  have hM83A : ∀ k, M83 k = none := fun k => congrFun hM83 k
  have hM83B : ∀ k, k < Bd → M83 k = none := fun k _ => hM83A k
  refine drawnL (S := SM M83) rfl (tabL [cv (.pointer (some ⟨g3, 5, none⟩)), cv (.int .i64 i.loc), cv (.int .i64 (placeR (B i.off) (B (orR r i.index 0)) i.size)), cv (.pointer (some ⟨g3, 8, none⟩)), cv (.int .i64 i.size), cv (.int .i64 (maskR (placeR (B i.off) (B (orR r i.index 0)) i.size) i.size)), cv (.agg #[.int .i64 i.loc, .int .i64 (maskR (placeR (B i.off) (B (orR r i.index 0)) i.size) i.size)]), cv (.pointer (some ⟨g36, 4, none⟩))]) none (fun _ => none) (fun _ _ => True) [7, 6, 5, 0, 1, 2, 3, 4] [] mixedY SM.refl SM.trans hA82 (by kernel_rfl) (by kernel_rfl) (fun i v u w h => by cases h) ?_ ?_
  · skip
    refine eachD_cons (.inl ⟨nofun, rfl, fun x y hS hT hk => d_fieldAddr (wn rfl) (hT.ev (v := (.pointer (some ⟨g3, 0, none⟩))) rfl) fo23_5 ⟨SM.refl _, rfl⟩⟩) ?_
    refine eachD_cons (.inl ⟨nofun, rfl, fun x y hS hT hk => d_load (v := (.int .i64 i.loc)) (wn rfl) (hk 0 rfl) one3 ((Blk.sm (w := w71.drew) m77 hS (hM83A _)).cell rfl) ⟨SM.refl _, rfl⟩⟩) ?_
    refine eachD_cons (.inl ⟨nofun, rfl, fun x y hS hT hk => d_move (wn rfl) (hT.ev (v := (.int .i64 (placeR (B i.off) (B (orR r i.index 0)) i.size))) rfl) ⟨SM.refl _, rfl⟩⟩) ?_
    refine eachD_cons (.inl ⟨nofun, rfl, fun x y hS hT hk => d_fieldAddr (wn rfl) (hT.ev (v := (.pointer (some ⟨g3, 0, none⟩))) rfl) fo23_8 ⟨SM.refl _, rfl⟩⟩) ?_
    refine eachD_cons (.inl ⟨nofun, rfl, fun x y hS hT hk => d_load (v := (.int .i64 i.size)) (wn rfl) (hk 3 rfl) one3 ((Blk.sm (w := w71.drew) m77 hS (hM83A _)).cell rfl) ⟨SM.refl _, rfl⟩⟩) ?_
    refine eachD_cons (.inl ⟨nofun, rfl, fun x y hS hT hk => d_call (wn rfl) ent55 (map2 (show x.eval _ = (.int .i64 (placeR (B i.off) (B (orR r i.index 0)) i.size)) from (hk 2 rfl)) (show x.eval _ = (.int .i64 i.size) from (hk 4 rfl))) (mask_all (placeR (B i.off) (B (orR r i.index 0)) i.size) i.size y) (fun _ _ ⟨he, hw⟩ => ⟨(.int .i64 (maskR (placeR (B i.off) (B (orR r i.index 0)) i.size) i.size)), he, hw ▸ SM.refl _, rfl⟩)⟩) ?_
    refine eachD_cons (.inl ⟨nofun, rfl, fun x y hS hT hk => d_build (cs := #[.int .i64 i.loc, .int .i64 (maskR (placeR (B i.off) (B (orR r i.index 0)) i.size) i.size)]) (wn rfl) (bp_of (bq_cons (show x.eval _ = (.int .i64 i.loc) from (hk 1 rfl)) (bq_cons (show x.eval _ = (.int .i64 (maskR (placeR (B i.off) (B (orR r i.index 0)) i.size) i.size)) from (hk 5 rfl)) bq_nil))) zero50 places50 (by kernel_rfl) ⟨SM.refl _, rfl⟩⟩) ?_
    refine eachD_cons (.inl ⟨nofun, rfl, fun x y hS hT hk => d_fieldAddr (wn rfl) (hT.ev (v := (.pointer (some ⟨g36, 0, none⟩))) rfl) fo52_4 ⟨SM.refl _, rfl⟩⟩) ?_
    exact eachD_one
  rintro a84 w85 hA86 ⟨hS88, hC89⟩
  have hA90 : St 81 [(0, (.pointer (some ⟨g, 0, none⟩))), (3, (.pointer (some ⟨g3, 0, none⟩))), (4, (.bool false)), (5, (.pointer (some ⟨g36, 0, none⟩))), (25, (.agg #[.int .i64 i.loc, .int .i64 (maskR (placeR (B i.off) (B (orR r i.index 0)) i.size) i.size)])), (26, (.pointer (some ⟨g36, 4, none⟩)))] a84 := hA86.cut _ (fm_cons (hA86.get 0 _ rfl) (fm_cons (hA86.get 3 _ rfl) (fm_cons (hA86.get 4 _ rfl) (fm_cons (hA86.get 5 _ rfl) (fm_cons (hC89 6 (Nat.le_of_ble_eq_true rfl)) (fm_cons (hC89 7 (Nat.le_of_ble_eq_true rfl)) fm_nil))))))
  have hG91 : Grow w71 w85 := Grow.trans ((Grow.refl _).drew) (SM.grown (by rw [hM83] at hS88; exact hS88))
  have m92 := m76.grow hG91
  have m93 := m77.grow hG91
  have m94 := m78.grow hG91
  have b95 := below_grow b79 hG91 (Nat.le_trans hB b79.size)
  have ho96 := own_grow hG91 ho80
  have ho97 := own_grow hG91 ho81
  refine d_store2 (wn rfl) (hA90.ev (v := (.pointer (some ⟨g36, 4, none⟩))) rfl) (hA90.ev (v := (.agg #[.int .i64 i.loc, .int .i64 (maskR (placeR (B i.off) (B (orR r i.index 0)) i.size) i.size)])) rfl) row50 rfl rfl m94 (Nat.le_of_ble_eq_true rfl) ?_
  intro w98 hU99 (m100 : Blk w98 g36 #[.int .i64 0, .int .i64 ((path.length : Nat) : Int), .int .i64 p, .int .i64 5, .int .i64 i.loc, .int .i64 (maskR (placeR (B i.off) (B (orR r i.index 0)) i.size) i.size), .bool false, .bool true, .int .i64 0, .int .i64 0, .bool i.acq, .bool i.weak, .bool i.rel, .int .i64 i.pred, .int .i64 i.succ] 52)
  have m101 := m92.upd hU99 n42
  have m102 := m93.upd hU99 n43
  have b103 := hU99.below b95 ge41
  have ho104 := own_upd ho96 hU99 off44
  have ho105 := own_upd ho97 hU99 off45
  have hA106 : St 81 [(0, (.pointer (some ⟨g, 0, none⟩))), (3, (.pointer (some ⟨g3, 0, none⟩))), (4, (.bool false)), (5, (.pointer (some ⟨g36, 0, none⟩)))] a84 := hA90.cut _ (fm_cons (hA90.get 0 _ rfl) (fm_cons (hA90.get 3 _ rfl) (fm_cons (hA90.get 4 _ rfl) (fm_cons (hA90.get 5 _ rfl) fm_nil))))
  refine t_norm ?_
  refine wp_seq ?_
  refine wp_seq ?_
  refine wp_region_lit ?_
  refine q_step hA106 rfl (d_fieldAddr (wn rfl) (hA106.ev (v := (.pointer (some ⟨g36, 0, none⟩))) rfl) fo52_5 ?_)
  intro a107 hA108
  refine q_step hA108 rfl (d_load (v := (.bool false)) (wn rfl) (hA108.ev (v := (.pointer (some ⟨g36, 6, none⟩))) rfl) one4 (m100.cell rfl) ?_)
  intro a109 hA110
  refine q_end ?_
  have hA111 : St 81 [(0, (.pointer (some ⟨g, 0, none⟩))), (3, (.pointer (some ⟨g3, 0, none⟩))), (4, (.bool false)), (5, (.pointer (some ⟨g36, 0, none⟩))), (28, (.bool false))] a109 := hA110.cut _ (fm_cons (hA110.get 0 _ rfl) (fm_cons (hA110.get 3 _ rfl) (fm_cons (hA110.get 4 _ rfl) (fm_cons (hA110.get 5 _ rfl) (fm_cons (hA110.get 28 _ rfl) fm_nil)))))
  refine t_norm ?_
  refine c_false hA111 rfl ?_
  refine wp_skip ?_
  refine t_norm ?_
  refine wp_seq ?_
  refine wp_seq ?_
  refine wp_region_lit ?_
  refine q_step hA111 rfl (d_fieldAddr (wn rfl) (hA111.ev (v := (.pointer (some ⟨g36, 0, none⟩))) rfl) fo52_6 ?_)
  intro a112 hA113
  refine q_step hA113 rfl (d_load (v := (.bool true)) (wn rfl) (hA113.ev (v := (.pointer (some ⟨g36, 7, none⟩))) rfl) one4 (m100.cell rfl) ?_)
  intro a114 hA115
  refine q_end ?_
  have hA116 : St 81 [(0, (.pointer (some ⟨g, 0, none⟩))), (3, (.pointer (some ⟨g3, 0, none⟩))), (4, (.bool false)), (5, (.pointer (some ⟨g36, 0, none⟩))), (54, (.bool true))] a114 := hA115.cut _ (fm_cons (hA115.get 0 _ rfl) (fm_cons (hA115.get 3 _ rfl) (fm_cons (hA115.get 4 _ rfl) (fm_cons (hA115.get 5 _ rfl) (fm_cons (hA115.get 54 _ rfl) fm_nil)))))
  refine t_norm ?_
  refine c_true hA116 rfl ?_
  refine wp_region_lit ?_
  refine q_step hA116 rfl (d_move (wn rfl) (hA116.ev (v := (.pointer (some ⟨g, 0, none⟩))) rfl) ?_)
  intro a117 hA118
  refine q_step hA118 rfl (d_loadRow (cs := (insC ⟨5, i.dst, i.a, i.b, i.imm, i.loc, i.off, i.index, i.size, i.fn, i.acq, i.weak, i.rel, i.pred, i.succ, i.to, i.zero⟩)) (wn rfl) (hA118.ev (v := (.pointer (some ⟨g3, 0, none⟩))) rfl) row23 m102 ?_)
  intro a119 hA120
  refine q_step hA120 rfl (d_fieldAddr (wn rfl) (hA120.ev (v := (.pointer (some ⟨g36, 0, none⟩))) rfl) fo52_7 ?_)
  intro a121 hA122
  refine q_step hA122 rfl (d_load (v := (.int .i64 0)) (wn rfl) (hA122.ev (v := (.pointer (some ⟨g36, 8, none⟩))) rfl) one3 (m100.cell rfl) ?_)
  intro a123 hA124
  refine q_step hA124 rfl (d_call (wn rfl) ent59 (map3 (hA124.ev (v := (.pointer (some ⟨g, 0, none⟩))) rfl) (hA124.ev (v := (.agg (insC ⟨5, i.dst, i.a, i.b, i.imm, i.loc, i.off, i.index, i.size, i.fn, i.acq, i.weak, i.rel, i.pred, i.succ, i.to, i.zero⟩))) rfl) (hA124.ev (v := (.int .i64 0)) rfl)) (written_5 g p r rd ev pa i 0 w98 m101 hr ha himm) ?_)
  rintro e128 w125 ⟨he127, hG126⟩
  have m129 := m101.grow hG126
  have m130 := m102.grow hG126
  have m131 := m100.grow hG126
  have b132 := below_grow b103 hG126 (Nat.le_trans hB b103.size)
  have ho133 := own_grow hG126 ho104
  have ho134 := own_grow hG126 ho105
  refine ⟨(.int .i64 (I (getR (B (orR r i.a i.imm)) 0 i.size))), he127, ?_⟩
  intro a135 hA136
  refine q_step hA136 rfl (d_fieldAddr (wn rfl) (hA136.ev (v := (.pointer (some ⟨g36, 0, none⟩))) rfl) fo52_8 ?_)
  intro a137 hA138
  refine q_step hA138 rfl (d_store (wn rfl) (hA138.ev (v := (.pointer (some ⟨g36, 9, none⟩))) rfl) (hA138.ev (v := (.int .i64 (I (getR (B (orR r i.a i.imm)) 0 i.size)))) rfl) one3 rfl m131 (Nat.le_of_ble_eq_true rfl) ?_)
  intro w139 hU140 (m141 : Blk w139 g36 #[.int .i64 0, .int .i64 ((path.length : Nat) : Int), .int .i64 p, .int .i64 5, .int .i64 i.loc, .int .i64 (maskR (placeR (B i.off) (B (orR r i.index 0)) i.size) i.size), .bool false, .bool true, .int .i64 0, .int .i64 (I (getR (B (orR r i.a i.imm)) 0 i.size)), .bool i.acq, .bool i.weak, .bool i.rel, .int .i64 i.pred, .int .i64 i.succ] 52)
  have m142 := m129.upd hU140 n42
  have m143 := m130.upd hU140 n43
  have b144 := hU140.below b132 ge41
  have ho145 := own_upd ho133 hU140 off44
  have ho146 := own_upd ho134 hU140 off45
  intro a147 hA148
  refine q_end ?_
  have hA149 : St 81 [(0, (.pointer (some ⟨g, 0, none⟩))), (3, (.pointer (some ⟨g3, 0, none⟩))), (4, (.bool false)), (5, (.pointer (some ⟨g36, 0, none⟩)))] a147 := hA148.cut _ (fm_cons (hA148.get 0 _ rfl) (fm_cons (hA148.get 3 _ rfl) (fm_cons (hA148.get 4 _ rfl) (fm_cons (hA148.get 5 _ rfl) fm_nil))))
  refine t_norm ?_
  refine wp_seq ?_
  refine wp_seq ?_
  refine wp_region_lit ?_
  refine q_step hA149 rfl (d_fieldAddr (wn rfl) (hA149.ev (v := (.pointer (some ⟨g36, 0, none⟩))) rfl) fo52_5 ?_)
  intro a150 hA151
  refine q_step hA151 rfl (d_load (v := (.bool false)) (wn rfl) (hA151.ev (v := (.pointer (some ⟨g36, 6, none⟩))) rfl) one4 (m141.cell rfl) ?_)
  intro a152 hA153
  refine q_end ?_
  have hA154 : St 81 [(0, (.pointer (some ⟨g, 0, none⟩))), (3, (.pointer (some ⟨g3, 0, none⟩))), (4, (.bool false)), (5, (.pointer (some ⟨g36, 0, none⟩))), (62, (.bool false))] a152 := hA153.cut _ (fm_cons (hA153.get 0 _ rfl) (fm_cons (hA153.get 3 _ rfl) (fm_cons (hA153.get 4 _ rfl) (fm_cons (hA153.get 5 _ rfl) (fm_cons (hA153.get 62 _ rfl) fm_nil)))))
  refine t_norm ?_
  refine c_false hA154 rfl ?_
  refine wp_skip ?_
  refine t_norm ?_
  refine wp_seq ?_
  have hA155 : St 81 [(0, (.pointer (some ⟨g, 0, none⟩))), (4, (.bool false)), (5, (.pointer (some ⟨g36, 0, none⟩)))] a152 := hA154.cut _ (fm_cons (hA154.get 0 _ rfl) (fm_cons (hA154.get 4 _ rfl) (fm_cons (hA154.get 5 _ rfl) fm_nil)))
  let M156 : Nat → Option (Array Value) := fun _ => none
  have hM156 : M156 = fun _ => none := rfl
  clear_value M156
  have hM156A : ∀ k, M156 k = none := fun k => congrFun hM156 k
  have hM156B : ∀ k, k < Bd → M156 k = none := fun k _ => hM156A k
  refine drawnL (S := SM M156) rfl (tabQ [some (.pointer (some ⟨g, 0, none⟩)), some (.pointer (some ⟨g, 0, none⟩)), some (.pointer (some ⟨g, 0, none⟩)), some (.pointer (some ⟨g, 10, none⟩)), none, none, none, none, some (.pointer (some ⟨g, 0, none⟩)), some (.pointer (some ⟨g, 10, none⟩))] [cv (.pointer (some ⟨g, 0, none⟩)), cv (.pointer (some ⟨g, 0, none⟩)), cv (.pointer (some ⟨g, 0, none⟩)), cv (.pointer (some ⟨g, 10, none⟩)), cv ev, cv (.agg #[.int .i64 0, .int .i64 ((path.length : Nat) : Int), .int .i64 p, .int .i64 5, .int .i64 i.loc, .int .i64 (maskR (placeR (B i.off) (B (orR r i.index 0)) i.size) i.size), .bool false, .bool true, .int .i64 0, .int .i64 (I (getR (B (orR r i.a i.imm)) 0 i.size)), .bool i.acq, .bool i.weak, .bool i.rel, .int .i64 i.pred, .int .i64 i.succ]), cs1 M156 hM156A #[.int .i64 0, .int .i64 ((path.length : Nat) : Int), .int .i64 p, .int .i64 5, .int .i64 i.loc, .int .i64 (maskR (placeR (B i.off) (B (orR r i.index 0)) i.size) i.size), .bool false, .bool true, .int .i64 0, .int .i64 (I (getR (B (orR r i.a i.imm)) 0 i.size)), .bool i.acq, .bool i.weak, .bool i.rel, .int .i64 i.pred, .int .i64 i.succ] 52, cfree, cv (.pointer (some ⟨g, 0, none⟩)), cv (.pointer (some ⟨g, 10, none⟩))]) (some 7) (fun i => (([some (.pointer (some ⟨g, 0, none⟩)), some (.pointer (some ⟨g, 0, none⟩)), some (.pointer (some ⟨g, 0, none⟩)), some (.pointer (some ⟨g, 10, none⟩)), none, none, none, none, some (.pointer (some ⟨g, 0, none⟩)), some (.pointer (some ⟨g, 10, none⟩))] : List (Option Value))[i]?).getD none) (fun v' w' => w'.ownsRow Bd 52 15 v' (evs.length + 1) ((evE evs) ++ (#[.int .i64 0, .int .i64 ((path.length : Nat) : Int), .int .i64 p, .int .i64 5, .int .i64 i.loc, .int .i64 (maskR (placeR (B i.off) (B (orR r i.index 0)) i.size) i.size), .bool false, .bool true, .int .i64 0, .int .i64 (I (getR (B (orR r i.a i.imm)) 0 i.size)), .bool i.acq, .bool i.weak, .bool i.rel, .int .i64 i.pred, .int .i64 i.succ] : Array Value).toList) ∧ Below Bd w w' ∧ Blk w' g (walkC p r rd ev pa) 62 ∧ Blk w' g3 (insC ⟨5, i.dst, i.a, i.b, i.imm, i.loc, i.off, i.index, i.size, i.fn, i.acq, i.weak, i.rel, i.pred, i.succ, i.to, i.zero⟩) 23 ∧ Blk w' g36 #[.int .i64 0, .int .i64 ((path.length : Nat) : Int), .int .i64 p, .int .i64 5, .int .i64 i.loc, .int .i64 (maskR (placeR (B i.off) (B (orR r i.index 0)) i.size) i.size), .bool false, .bool true, .int .i64 0, .int .i64 (I (getR (B (orR r i.a i.imm)) 0 i.size)), .bool i.acq, .bool i.weak, .bool i.rel, .int .i64 i.pred, .int .i64 i.succ] 52 ∧ w'.ownsRow Bd 3 1 pa path.length (paE path) ∧ v'.ownBlock ≠ some g ∧ v'.ownBlock ≠ some g3 ∧ v'.ownBlock ≠ some g36 ∧ ∀ k, pa.ownBlock = some k → v'.ownBlock ≠ some k) [9, 7, 0, 1, 2, 3, 4, 5, 6, 8] [4, 6, 3, 5, 2, 1] mixedY SM.refl SM.trans hA155 (by kernel_rfl) (by kernel_rfl) (tabQ_cv _ _) ?_ ?_
  · skip
    refine eachD_cons (.inr (.inl ⟨by decide, _, rfl, fun x y hT hk hk0 => d_move (wn rfl) (hT.ev (v := (.pointer (some ⟨g, 0, none⟩))) rfl) ⟨rfl, rfl⟩⟩)) ?_
    refine eachD_cons (.inr (.inl ⟨by decide, _, rfl, fun x y hT hk hk0 => d_move (wn rfl) (hT.ev (v := (.pointer (some ⟨g, 0, none⟩))) rfl) ⟨rfl, rfl⟩⟩)) ?_
    refine eachD_cons (.inr (.inl ⟨by decide, _, rfl, fun x y hT hk hk0 => d_nilCheck (wn rfl) (hk 1 _ rfl rfl) ⟨rfl, rfl⟩⟩)) ?_
    refine eachD_cons (.inr (.inl ⟨by decide, _, rfl, fun x y hT hk hk0 => d_fieldAddr (wn rfl) (hk 2 _ rfl rfl) fo62_3 ⟨rfl, rfl⟩⟩)) ?_
    refine eachD_cons (.inl ⟨by decide, rfl, fun x y hS hT hk => d_load (v := ev) (wn rfl) (hk 3 rfl) one44 ((Blk.sm (w := w139.drew) m142 hS (hM156A _)).cell rfl) ⟨SM.refl _, rfl⟩⟩) ?_
    refine eachD_cons (.inl ⟨by decide, rfl, fun x y hS hT hk => d_loadRow (cs := #[.int .i64 0, .int .i64 ((path.length : Nat) : Int), .int .i64 p, .int .i64 5, .int .i64 i.loc, .int .i64 (maskR (placeR (B i.off) (B (orR r i.index 0)) i.size) i.size), .bool false, .bool true, .int .i64 0, .int .i64 (I (getR (B (orR r i.a i.imm)) 0 i.size)), .bool i.acq, .bool i.weak, .bool i.rel, .int .i64 i.pred, .int .i64 i.succ]) (wn rfl) (hT.ev (v := (.pointer (some ⟨g36, 0, none⟩))) rfl) row52 (Blk.sm (w := w139.drew) m141 hS (hM156A _)) ⟨SM.refl _, rfl⟩⟩) ?_
    refine eachD_cons (.inl ⟨by decide, rfl, fun x y hS hT hk => d_slice1 (wn rfl) (show x.eval _ = (.agg #[.int .i64 0, .int .i64 ((path.length : Nat) : Int), .int .i64 p, .int .i64 5, .int .i64 i.loc, .int .i64 (maskR (placeR (B i.off) (B (orR r i.index 0)) i.size) i.size), .bool false, .bool true, .int .i64 0, .int .i64 (I (getR (B (orR r i.a i.imm)) 0 i.size)), .bool i.acq, .bool i.weak, .bool i.rel, .int .i64 i.pred, .int .i64 i.succ]) from (hk 5 rfl)) elm44 rfl (by decide) (fun g w' _ hG hb => ⟨SM.grow hG, g, rfl, hb⟩)⟩) ?_
    refine eachD_cons (.inr (.inr ⟨rfl, fun x y hS hT hk => ?_⟩)) ?_
    · skip
      obtain ⟨gb, hvb, hbb⟩ := hk 6 rfl
      have hG : Grow w139 y := Grow.trans ((Grow.refl _).drew) (SM.grown (by rw [hM156] at hS; exact hS))
      have hR := own_grow hG ho145
      have hO := own_grow hG ho146
      have hBl := below_grow b144 hG (Nat.le_trans hB b144.size)
      refine d_append (wn rfl) (show x.eval _ = ev from (hk 4 rfl)) hvb elm44 hR hbb rfl rfl (by omega) (by decide) (Nat.le_trans hB hBl.size) ?_
      intro v' w' h1 h2 h3
      exact ⟨h1, below_by hBl h2 (Nat.le_trans hB hBl.size) (fun k hk => (own_lt hR k hk).1), (m142.grow hG).by h2 oe, (m143.grow hG).by h2 off10, (m141.grow hG).by h2 off44, own_by hO h2 ap, lies_ne h3 oe (m142.grow hG).lt, lies_ne h3 off10 (m143.grow hG).lt, lies_ne h3 off44 (m141.grow hG).lt, lies_ap h3 ap hO⟩
    refine eachD_cons (.inr (.inl ⟨by decide, _, rfl, fun x y hT hk hk0 => d_nilCheck (wn rfl) (hk 0 _ rfl rfl) ⟨rfl, rfl⟩⟩)) ?_
    refine eachD_cons (.inr (.inl ⟨by decide, _, rfl, fun x y hT hk hk0 => d_fieldAddr (wn rfl) (hk 8 _ rfl rfl) fo62_3 ⟨rfl, rfl⟩⟩)) ?_
    exact eachD_one
  rintro a157 w158 hA159 ⟨hP161, hW162⟩
  obtain ⟨v163, hv164⟩ : ∃ v', v' = (a157.tmps.getD 78 undef) := ⟨_, rfl⟩
  have hW165 : (fun v' w' => w'.ownsRow Bd 52 15 v' (evs.length + 1) ((evE evs) ++ (#[.int .i64 0, .int .i64 ((path.length : Nat) : Int), .int .i64 p, .int .i64 5, .int .i64 i.loc, .int .i64 (maskR (placeR (B i.off) (B (orR r i.index 0)) i.size) i.size), .bool false, .bool true, .int .i64 0, .int .i64 (I (getR (B (orR r i.a i.imm)) 0 i.size)), .bool i.acq, .bool i.weak, .bool i.rel, .int .i64 i.pred, .int .i64 i.succ] : Array Value).toList) ∧ Below Bd w w' ∧ Blk w' g (walkC p r rd ev pa) 62 ∧ Blk w' g3 (insC ⟨5, i.dst, i.a, i.b, i.imm, i.loc, i.off, i.index, i.size, i.fn, i.acq, i.weak, i.rel, i.pred, i.succ, i.to, i.zero⟩) 23 ∧ Blk w' g36 #[.int .i64 0, .int .i64 ((path.length : Nat) : Int), .int .i64 p, .int .i64 5, .int .i64 i.loc, .int .i64 (maskR (placeR (B i.off) (B (orR r i.index 0)) i.size) i.size), .bool false, .bool true, .int .i64 0, .int .i64 (I (getR (B (orR r i.a i.imm)) 0 i.size)), .bool i.acq, .bool i.weak, .bool i.rel, .int .i64 i.pred, .int .i64 i.succ] 52 ∧ w'.ownsRow Bd 3 1 pa path.length (paE path) ∧ v'.ownBlock ≠ some g ∧ v'.ownBlock ≠ some g3 ∧ v'.ownBlock ≠ some g36 ∧ ∀ k, pa.ownBlock = some k → v'.ownBlock ≠ some k) v163 w158 := by rw [hv164]; exact hW162
  obtain ⟨ho166, b167, m168, m169, m170, ho171, off172, off173, off174, ap175⟩ := hW165
  have ap176 : ∀ k, v163.ownBlock = some k → pa.ownBlock ≠ some k := fun k h1 h2 => ap175 k h2 h1
  have hA177 : St 81 [(4, (.bool false)), (78, v163), (80, (.pointer (some ⟨g, 10, none⟩)))] a157 := hA159.cut _ (fm_cons (hA159.get 4 _ rfl) (fm_cons hv164.symm (fm_cons (hP161 9 _ (Nat.le_of_ble_eq_true rfl) (by decide) rfl) fm_nil)))
  refine d_store (v := v163) (wn rfl) (hA177.ev (v := (.pointer (some ⟨g, 10, none⟩))) rfl) (hA177.ev (v := v163) rfl) one44 (one_slice (own_form ho166)) m168 (Nat.le_of_ble_eq_true rfl) ?_
  intro w178 hU179 (m180 : Blk w178 g (walkC p r rd v163 pa) 62)
  have m181 := m169.upd hU179 (Ne.symm n9)
  have m182 := m170.upd hU179 (Ne.symm n42)
  have b183 := hU179.below b167 hge
  have ho184 := own_upd ho166 hU179 off172
  have ho185 := own_upd ho171 hU179 op_
  have hA186 : St 81 [(4, (.bool false))] a157 := hA177.cut _ (fm_cons (hA177.get 4 _ rfl) fm_nil)
  refine t_norm ?_
  refine wp_seq ?_
  refine wp_region_lit ?_
  refine q_step hA186 rfl (d_assign (wn rfl) (hA186.ev (v := (.bool true)) rfl) ?_)
  intro a187 hA188
  refine q_end ?_
  have hA189 : St 81 [(4, (.bool true))] a187 := hA188.cut _ (fm_cons (hA188.get 4 _ rfl) fm_nil)
  refine t_norm ?_
  refine wp_ret ?_
  refine ret1 rfl hA189 (v := (.bool true)) rfl ?_
  exact ⟨rfl, b183, rd, v163, pa, m180, hge, (hrd.below b183), (by rw [List.length_append, ← evE_snoc]; exact ho184), ho185, off172, op_, ap175⟩
end Go.Proofs.Ytlhompedcphnnaa
