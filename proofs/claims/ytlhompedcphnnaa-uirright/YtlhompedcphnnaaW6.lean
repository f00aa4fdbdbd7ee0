/- A read-modify-write of the walk. -/
import Derived.Test.YtlhompedcphnnaaW3
namespace Go.Proofs.Ytlhompedcphnnaa
open Go.RowKit
set_option linter.unusedSimpArgs false
set_option linter.unusedVariables false
set_option maxHeartbeats 4000000 in
set_option maxRecDepth 4000 in
theorem access_6 (Bd g : Nat) (p : Int) (r : Nat → Int) (rd ev pa : Value) (i : Ins) (d k : Nat) (u0 : Int) (rl : List Int) (evs : List Ev) (path : List Int) (w : World) (hB : Bd ≤ w.heap.size) (hW : WS Bd g w p r (u0 :: rl) evs path rd ev pa) (hne : evs.length ≤ 1000) (hnp : path.length ≤ 1000) (hr : ∀ k, wfI (r k)) (hix : ronB i.index = true) (hoff : wfI i.off) (hd : d < 8) (hk : k < 8) (hu0 : wfI u0) : Calls Try.prog 48 #[.pointer (some ⟨g, 0, none⟩), .agg (insC ⟨6, ((d : Nat) : Int), ((k : Nat) : Int), i.b, i.imm, i.loc, i.off, i.index, i.size, i.fn, i.acq, i.weak, i.rel, i.pred, i.succ, i.to, i.zero⟩)] w fun e w' => e = .returned (.bool true) ∧ Below Bd w w' ∧ ∃ rd' ev' pa', WS Bd g w' p (updR r d (I (getR (B u0) 0 i.size))) rl (evs ++ [acc6 i r k path.length p u0]) path rd' ev' pa' := by
  obtain ⟨hb, hge, hrd, hev, hpa, oe, op_, ap⟩ := hW
  have ap2 : ∀ k, ev.ownBlock = some k → pa.ownBlock ≠ some k := fun k h1 h2 => ap k h2 h1
  have b0 : Below Bd w w := Below.refl _ _
  refine enter (n := 81) Try.func48 rfl rfl (Nat.le_of_ble_eq_true rfl) ?_
  intro a1 hA2
  refine wp_seq ?_
  refine wp_region_lit ?_
  refine q_step hA2 rfl (d_box (wn rfl) (hA2.ev (v := (.agg (insC ⟨6, ((d : Nat) : Int), ((k : Nat) : Int), i.b, i.imm, i.loc, i.off, i.index, i.size, i.fn, i.acq, i.weak, i.rel, i.pred, i.succ, i.to, i.zero⟩))) rfl) ?_)
  intro g3 w4 eg5 hG6 (m7 : Blk w4 g3 (insC ⟨6, ((d : Nat) : Int), ((k : Nat) : Int), i.b, i.imm, i.loc, i.off, i.index, i.size, i.fn, i.acq, i.weak, i.rel, i.pred, i.succ, i.to, i.zero⟩) 23)
  have ge8 : Bd ≤ g3 := eg5 ▸ (Nat.le_trans hB b0.size)
  have n9 : g ≠ g3 := fun h => Nat.lt_irrefl _ ((h.trans eg5) ▸ hb.lt)
  have off10 := own_new hev eg5
  have off11 := own_new hpa eg5
  have m12 := hb.grow hG6
  have b13 := below_grow b0 hG6 (Nat.le_trans hB b0.size)
  have ho14 := own_grow hG6 hev
  have ho15 := own_grow hG6 hpa
  intro a16 hA17
  refine q_step hA17 rfl (d_assign (wn rfl) (hA17.ev (v := (.bool false)) rfl) ?_)
  intro a18 hA19
  refine q_end ?_
  have hA20 : St 81 [(0, (.pointer (some ⟨g, 0, none⟩))), (3, (.pointer (some ⟨g3, 0, none⟩))), (4, (.bool false))] a18 := hA19.cut _ (fm_cons (hA19.get 0 _ rfl) (fm_cons (hA19.get 3 _ rfl) (fm_cons (hA19.get 4 _ rfl) fm_nil)))
  refine t_norm ?_
  refine wp_seq ?_
  refine wp_region_lit ?_
  refine q_step hA20 rfl (d_move (wn rfl) (hA20.ev (v := (.pointer (some ⟨g, 0, none⟩))) rfl) ?_)
  intro a21 hA22
  refine q_step hA22 rfl (d_loadRow (cs := (insC ⟨6, ((d : Nat) : Int), ((k : Nat) : Int), i.b, i.imm, i.loc, i.off, i.index, i.size, i.fn, i.acq, i.weak, i.rel, i.pred, i.succ, i.to, i.zero⟩)) (wn rfl) (hA22.ev (v := (.pointer (some ⟨g3, 0, none⟩))) rfl) row23 m7 ?_)
  intro a23 hA24
  refine q_step hA24 rfl (d_call (wn rfl) ent49 (map2 (hA24.ev (v := (.pointer (some ⟨g, 0, none⟩))) rfl) (hA24.ev (v := (.agg (insC ⟨6, ((d : Nat) : Int), ((k : Nat) : Int), i.b, i.imm, i.loc, i.off, i.index, i.size, i.fn, i.acq, i.weak, i.rel, i.pred, i.succ, i.to, i.zero⟩))) rfl)) (event_any g p r rd ev pa (⟨6, ((d : Nat) : Int), ((k : Nat) : Int), i.b, i.imm, i.loc, i.off, i.index, i.size, i.fn, i.acq, i.weak, i.rel, i.pred, i.succ, i.to, i.zero⟩) path.length Bd (paE path) w4 m12 ho15) ?_)
  rintro e28 w25 ⟨he27, hG26⟩
  have m29 := m12.grow hG26
  have m30 := m7.grow hG26
  have b31 := below_grow b13 hG26 (Nat.le_trans hB b13.size)
  have ho32 := own_grow hG26 ho14
  have ho33 := own_grow hG26 ho15
  refine ⟨(.agg #[.int .i64 0, .int .i64 ((path.length : Nat) : Int), .int .i64 p, .int .i64 6, .int .i64 0, .int .i64 0, .bool true, .bool true, .int .i64 0, .int .i64 0, .bool i.acq, .bool i.weak, .bool i.rel, .int .i64 i.pred, .int .i64 i.succ]), he27, ?_⟩
  intro a34 hA35
  refine q_step hA35 rfl (d_alloc (wn rfl) zero52 ?_)
  intro g36 w37 eg38 hG39 (m40 : Blk w37 g36 #[.int .i64 0, .int .i64 0, .int .i64 0, .int .i64 0, .int .i64 0, .int .i64 0, .bool false, .bool false, .int .i64 0, .int .i64 0, .bool false, .bool false, .bool false, .int .i64 0, .int .i64 0] 52)
  have ge41 : Bd ≤ g36 := eg38 ▸ (Nat.le_trans hB b31.size)
  have n42 : g ≠ g36 := fun h => Nat.lt_irrefl _ ((h.trans eg38) ▸ m29.lt)
  have n43 : g3 ≠ g36 := fun h => Nat.lt_irrefl _ ((h.trans eg38) ▸ m30.lt)
  have off44 := own_new ho32 eg38
  have off45 := own_new ho33 eg38
  have m46 := m29.grow hG39
  have m47 := m30.grow hG39
  have b48 := below_grow b31 hG39 (Nat.le_trans hB b31.size)
  have ho49 := own_grow hG39 ho32
  have ho50 := own_grow hG39 ho33
  intro a51 hA52
  refine q_step hA52 rfl (d_storeRow (wn rfl) (hA52.ev (v := (.pointer (some ⟨g36, 0, none⟩))) rfl) (hA52.ev (v := (.agg #[.int .i64 0, .int .i64 ((path.length : Nat) : Int), .int .i64 p, .int .i64 6, .int .i64 0, .int .i64 0, .bool true, .bool true, .int .i64 0, .int .i64 0, .bool i.acq, .bool i.weak, .bool i.rel, .int .i64 i.pred, .int .i64 i.succ])) rfl) row52 m40 rfl rfl ?_)
  intro w53 hU54 (m55 : Blk w53 g36 #[.int .i64 0, .int .i64 ((path.length : Nat) : Int), .int .i64 p, .int .i64 6, .int .i64 0, .int .i64 0, .bool true, .bool true, .int .i64 0, .int .i64 0, .bool i.acq, .bool i.weak, .bool i.rel, .int .i64 i.pred, .int .i64 i.succ] 52)
  have m56 := m46.upd hU54 n42
  have m57 := m47.upd hU54 n43
  have b58 := hU54.below b48 ge41
  have ho59 := own_upd ho49 hU54 off44
  have ho60 := own_upd ho50 hU54 off45
  intro a61 hA62
  refine q_end ?_
  have hA63 : St 81 [(0, (.pointer (some ⟨g, 0, none⟩))), (3, (.pointer (some ⟨g3, 0, none⟩))), (4, (.bool false)), (5, (.pointer (some ⟨g36, 0, none⟩)))] a61 := hA62.cut _ (fm_cons (hA62.get 0 _ rfl) (fm_cons (hA62.get 3 _ rfl) (fm_cons (hA62.get 4 _ rfl) (fm_cons (hA62.get 5 _ rfl) fm_nil))))
  refine t_norm ?_
  refine wp_seq ?_
  have hA64 : St 81 [(0, (.pointer (some ⟨g, 0, none⟩))), (3, (.pointer (some ⟨g3, 0, none⟩))), (4, (.bool false)), (5, (.pointer (some ⟨g36, 0, none⟩)))] a61 := hA63.cut _ (fm_cons (hA63.get 0 _ rfl) (fm_cons (hA63.get 3 _ rfl) (fm_cons (hA63.get 4 _ rfl) (fm_cons (hA63.get 5 _ rfl) fm_nil))))
  let M65 : Nat → Option (Array Value) := fun _ => none
  have hM65 : M65 = fun _ => none := rfl
  clear_value M65
  have hM66 : M65 g = none := (congrFun hM65 g)
  have hM67 : M65 g3 = none := (congrFun hM65 g3)
  have hM68 : M65 g36 = none := (congrFun hM65 g36)
  have hM65B : ∀ k, k < Bd → M65 k = none := (fun k hk => (congrFun hM65 k))
  refine drawn (S := SM M65) (tabL [cv (.pointer (some ⟨g3, 6, none⟩)), cv (.int .i64 i.off), cv (.pointer (some ⟨g, 0, none⟩)), cv (.pointer (some ⟨g3, 7, none⟩)), cv (.int .i64 i.index), cv (.int .i64 (orR r i.index 0)), cv (.pointer (some ⟨g3, 8, none⟩)), cv (.int .i64 i.size), cv (.int .i64 (placeR (B i.off) (B (orR r i.index 0)) i.size)), cv (.int .i64 (placeR (B i.off) (B (orR r i.index 0)) i.size))]) mixedY SM.refl SM.trans SM.drew hA64 (by kernel_rfl) ?_ ?_
  · skip
    refine each_cons (fun x y hS hT hk => d_fieldAddr (wn rfl) (hT.ev (v := (.pointer (some ⟨g3, 0, none⟩))) rfl) fo23_6 ⟨SM.refl _, rfl⟩) ?_
    refine each_cons (fun x y hS hT hk => d_load (v := (.int .i64 i.off)) (wn rfl) (hk 0 rfl) one3 ((Blk.sm (w := w53.drew) m57 hS hM67).cell rfl) ⟨SM.refl _, rfl⟩) ?_
    refine each_cons (fun x y hS hT hk => d_move (wn rfl) (hT.ev (v := (.pointer (some ⟨g, 0, none⟩))) rfl) ⟨SM.refl _, rfl⟩) ?_
    refine each_cons (fun x y hS hT hk => d_fieldAddr (wn rfl) (hT.ev (v := (.pointer (some ⟨g3, 0, none⟩))) rfl) fo23_7 ⟨SM.refl _, rfl⟩) ?_
    refine each_cons (fun x y hS hT hk => d_load (v := (.int .i64 i.index)) (wn rfl) (hk 3 rfl) one3 ((Blk.sm (w := w53.drew) m57 hS hM67).cell rfl) ⟨SM.refl _, rfl⟩) ?_
    refine each_cons (fun x y hS hT hk => d_call (wn rfl) ent47 (map3 (show x.eval _ = (.pointer (some ⟨g, 0, none⟩)) from (hk 2 rfl)) (show x.eval _ = (.int .i64 i.index) from (hk 4 rfl)) (show x.eval _ = (.int .i64 0) from (hT.ev (v := (.int .i64 0)) rfl))) (regOr_any g p r rd ev pa i.index 0 y (Blk.sm (w := w53.drew) m56 hS hM66) hix) (fun _ _ ⟨he, hG⟩ => ⟨(.int .i64 (orR r i.index 0)), he, SM.grow hG, rfl⟩)) ?_
    refine each_cons (fun x y hS hT hk => d_fieldAddr (wn rfl) (hT.ev (v := (.pointer (some ⟨g3, 0, none⟩))) rfl) fo23_8 ⟨SM.refl _, rfl⟩) ?_
    refine each_cons (fun x y hS hT hk => d_load (v := (.int .i64 i.size)) (wn rfl) (hk 6 rfl) one3 ((Blk.sm (w := w53.drew) m57 hS hM67).cell rfl) ⟨SM.refl _, rfl⟩) ?_
    refine each_cons (fun x y hS hT hk => d_call (wn rfl) ent57 (map3 (show x.eval _ = (.int .i64 i.off) from (hk 1 rfl)) (show x.eval _ = (.int .i64 (orR r i.index 0)) from (hk 5 rfl)) (show x.eval _ = (.int .i64 i.size) from (hk 7 rfl))) (place_w i.off (orR r i.index 0) i.size y hoff (wf_or hr wf_0)) (fun _ _ ⟨he, hw⟩ => ⟨(.int .i64 (placeR (B i.off) (B (orR r i.index 0)) i.size)), he, hw ▸ SM.refl _, rfl⟩)) ?_
    refine each_cons (fun x y hS hT hk => d_assign (wn rfl) (hk 8 rfl) ⟨SM.refl _, rfl⟩) ?_
    exact each_nil
  intro f69 a70 w71 hS72 hC73 hA74
  have hA75 : St 81 [(0, (.pointer (some ⟨g, 0, none⟩))), (3, (.pointer (some ⟨g3, 0, none⟩))), (4, (.bool false)), (5, (.pointer (some ⟨g36, 0, none⟩))), (6, (.int .i64 (placeR (B i.off) (B (orR r i.index 0)) i.size)))] a70 := hA74.cut _ (fm_cons (hA74.get 0 _ rfl) (fm_cons (hA74.get 3 _ rfl) (fm_cons (hA74.get 4 _ rfl) (fm_cons (hA74.get 5 _ rfl) (fm_cons ((hA74.get 6 _ rfl).trans (hC73 9 (Nat.le_of_ble_eq_true rfl))) fm_nil)))))
  have m76 := m56.sm hS72 hM66
  have m77 := m57.sm hS72 hM67
  have m78 := m55.sm hS72 hM68
  have b79 := hS72.below b58 (Nat.le_trans hB b58.size) hM65B
  have ho80 := own_sm ho59 hS72 (fun k => congrFun hM65 k)
  have ho81 := own_sm ho60 hS72 (fun k => congrFun hM65 k)
  refine t_norm ?_
  refine wp_seq ?_
  have hA82 : St 81 [(0, (.pointer (some ⟨g, 0, none⟩))), (3, (.pointer (some ⟨g3, 0, none⟩))), (4, (.bool false)), (5, (.pointer (some ⟨g36, 0, none⟩))), (6, (.int .i64 (placeR (B i.off) (B (orR r i.index 0)) i.size)))] a70 := hA75.cut _ (fm_cons (hA75.get 0 _ rfl) (fm_cons (hA75.get 3 _ rfl) (fm_cons (hA75.get 4 _ rfl) (fm_cons (hA75.get 5 _ rfl) (fm_cons (hA75.get 6 _ rfl) fm_nil)))))
  let M83 : Nat → Option (Array Value) := fun _ => none
  have hM83 : M83 = fun _ => none := rfl
  clear_value M83
  have hM83A : ∀ k, M83 k = none := fun k => congrFun hM83 k
  have hM83B : ∀ k, k < Bd → M83 k = none := fun k _ => hM83A k
  refine drawnL (S := SM M83) rfl (tabL [cv (.pointer (some ⟨g3, 5, none⟩)), cv (.int .i64 i.loc), cv (.int .i64 (placeR (B i.off) (B (orR r i.index 0)) i.size)), cv (.pointer (some ⟨g3, 8, none⟩)), cv (.int .i64 i.size), cv (.int .i64 (maskR (placeR (B i.off) (B (orR r i.index 0)) i.size) i.size)), cv (.agg #[.int .i64 i.loc, .int .i64 (maskR (placeR (B i.off) (B (orR r i.index 0)) i.size) i.size)]), cv (.pointer (some ⟨g36, 4, none⟩))]) none (fun _ => none) (fun _ _ => True) [7, 6, 5, 0, 1, 2, 3, 4] [] mixedY SM.refl SM.trans hA82 (by kernel_rfl) (by kernel_rfl) (fun i v u w h => by cases h) ?_ ?_
  · skip
    refine eachD_cons (.inl ⟨nofun, rfl, fun x y hS hT hk => d_fieldAddr (wn rfl) (hT.ev (v := (.pointer (some ⟨g3, 0, none⟩))) rfl) fo23_5 ⟨SM.refl _, rfl⟩⟩) ?_
    refine eachD_cons (.inl ⟨nofun, rfl, fun x y hS hT hk => d_load (v := (.int .i64 i.loc)) (wn rfl) (hk 0 rfl) one3 ((Blk.sm (w := w71.drew) m77 hS (hM83A _)).cell rfl) ⟨SM.refl _, rfl⟩⟩) ?_
    refine eachD_cons (.inl ⟨nofun, rfl, fun x y hS hT hk => d_move (wn rfl) (hT.ev (v := (.int .i64 (placeR (B i.off) (B (orR r i.index 0)) i.size))) rfl) ⟨SM.refl _, rfl⟩⟩) ?_
    refine eachD_cons (.inl ⟨nofun, rfl, fun x y hS hT hk => d_fieldAddr (wn rfl) (hT.ev (v := (.pointer (some ⟨g3, 0, none⟩))) rfl) fo23_8 ⟨SM.refl _, rfl⟩⟩) ?_
    refine eachD_cons (.inl ⟨nofun, rfl, fun x y hS hT hk => d_load (v := (.int .i64 i.size)) (wn rfl) (hk 3 rfl) one3 ((Blk.sm (w := w71.drew) m77 hS (hM83A _)).cell rfl) ⟨SM.refl _, rfl⟩⟩) ?_
    refine eachD_cons (.inl ⟨nofun, rfl, fun x y hS hT hk => d_call (wn rfl) ent55 (map2 (show x.eval _ = (.int .i64 (placeR (B i.off) (B (orR r i.index 0)) i.size)) from (hk 2 rfl)) (show x.eval _ = (.int .i64 i.size) from (hk 4 rfl))) (mask_all (placeR (B i.off) (B (orR r i.index 0)) i.size) i.size y) (fun _ _ ⟨he, hw⟩ => ⟨(.int .i64 (maskR (placeR (B i.off) (B (orR r i.index 0)) i.size) i.size)), he, hw ▸ SM.refl _, rfl⟩)⟩) ?_
    refine eachD_cons (.inl ⟨nofun, rfl, fun x y hS hT hk => d_build (cs := #[.int .i64 i.loc, .int .i64 (maskR (placeR (B i.off) (B (orR r i.index 0)) i.size) i.size)]) (wn rfl) (bp_of (bq_cons (show x.eval _ = (.int .i64 i.loc) from (hk 1 rfl)) (bq_cons (show x.eval _ = (.int .i64 (maskR (placeR (B i.off) (B (orR r i.index 0)) i.size) i.size)) from (hk 5 rfl)) bq_nil))) zero50 places50 (by kernel_rfl) ⟨SM.refl _, rfl⟩⟩) ?_
    refine eachD_cons (.inl ⟨nofun, rfl, fun x y hS hT hk => d_fieldAddr (wn rfl) (hT.ev (v := (.pointer (some ⟨g36, 0, none⟩))) rfl) fo52_4 ⟨SM.refl _, rfl⟩⟩) ?_
    exact eachD_one
  rintro a84 w85 hA86 ⟨hS88, hC89⟩
  have hA90 : St 81 [(0, (.pointer (some ⟨g, 0, none⟩))), (3, (.pointer (some ⟨g3, 0, none⟩))), (4, (.bool false)), (5, (.pointer (some ⟨g36, 0, none⟩))), (25, (.agg #[.int .i64 i.loc, .int .i64 (maskR (placeR (B i.off) (B (orR r i.index 0)) i.size) i.size)])), (26, (.pointer (some ⟨g36, 4, none⟩)))] a84 := hA86.cut _ (fm_cons (hA86.get 0 _ rfl) (fm_cons (hA86.get 3 _ rfl) (fm_cons (hA86.get 4 _ rfl) (fm_cons (hA86.get 5 _ rfl) (fm_cons (hC89 6 (Nat.le_of_ble_eq_true rfl)) (fm_cons (hC89 7 (Nat.le_of_ble_eq_true rfl)) fm_nil))))))
  have hG91 : Grow w71 w85 := Grow.trans ((Grow.refl _).drew) (SM.grown (by rw [hM83] at hS88; exact hS88))
  have m92 := m76.grow hG91
  have m93 := m77.grow hG91
  have m94 := m78.grow hG91
  have b95 := below_grow b79 hG91 (Nat.le_trans hB b79.size)
  have ho96 := own_grow hG91 ho80
  have ho97 := own_grow hG91 ho81
  refine d_store2 (wn rfl) (hA90.ev (v := (.pointer (some ⟨g36, 4, none⟩))) rfl) (hA90.ev (v := (.agg #[.int .i64 i.loc, .int .i64 (maskR (placeR (B i.off) (B (orR r i.index 0)) i.size) i.size)])) rfl) row50 rfl rfl m94 (Nat.le_of_ble_eq_true rfl) ?_
  intro w98 hU99 (m100 : Blk w98 g36 #[.int .i64 0, .int .i64 ((path.length : Nat) : Int), .int .i64 p, .int .i64 6, .int .i64 i.loc, .int .i64 (maskR (placeR (B i.off) (B (orR r i.index 0)) i.size) i.size), .bool true, .bool true, .int .i64 0, .int .i64 0, .bool i.acq, .bool i.weak, .bool i.rel, .int .i64 i.pred, .int .i64 i.succ] 52)
  have m101 := m92.upd hU99 n42
  have m102 := m93.upd hU99 n43
  have b103 := hU99.below b95 ge41
  have ho104 := own_upd ho96 hU99 off44
  have ho105 := own_upd ho97 hU99 off45
  have hA106 : St 81 [(0, (.pointer (some ⟨g, 0, none⟩))), (3, (.pointer (some ⟨g3, 0, none⟩))), (4, (.bool false)), (5, (.pointer (some ⟨g36, 0, none⟩)))] a84 := hA90.cut _ (fm_cons (hA90.get 0 _ rfl) (fm_cons (hA90.get 3 _ rfl) (fm_cons (hA90.get 4 _ rfl) (fm_cons (hA90.get 5 _ rfl) fm_nil))))
  refine t_norm ?_
  refine wp_seq ?_
  refine wp_seq ?_
  refine wp_region_lit ?_
  refine q_step hA106 rfl (d_fieldAddr (wn rfl) (hA106.ev (v := (.pointer (some ⟨g36, 0, none⟩))) rfl) fo52_5 ?_)
  intro a107 hA108
  refine q_step hA108 rfl (d_load (v := (.bool true)) (wn rfl) (hA108.ev (v := (.pointer (some ⟨g36, 6, none⟩))) rfl) one4 (m100.cell rfl) ?_)
  intro a109 hA110
  refine q_end ?_
  have hA111 : St 81 [(0, (.pointer (some ⟨g, 0, none⟩))), (3, (.pointer (some ⟨g3, 0, none⟩))), (4, (.bool false)), (5, (.pointer (some ⟨g36, 0, none⟩))), (28, (.bool true))] a109 := hA110.cut _ (fm_cons (hA110.get 0 _ rfl) (fm_cons (hA110.get 3 _ rfl) (fm_cons (hA110.get 4 _ rfl) (fm_cons (hA110.get 5 _ rfl) (fm_cons (hA110.get 28 _ rfl) fm_nil)))))
  refine t_norm ?_
  refine c_true hA111 rfl ?_
  refine wp_seq ?_
  refine wp_seq ?_
  refine wp_region_lit ?_
  refine q_step hA111 rfl (d_move (wn rfl) (hA111.ev (v := (.pointer (some ⟨g, 0, none⟩))) rfl) ?_)
  intro a112 hA113
  refine q_step hA113 rfl (d_nilCheck (wn rfl) (hA113.ev (v := (.pointer (some ⟨g, 0, none⟩))) rfl) ?_)
  intro a114 hA115
  refine q_step hA115 rfl (d_fieldAddr (wn rfl) (hA115.ev (v := (.pointer (some ⟨g, 0, none⟩))) rfl) fo62_2 ?_)
  intro a116 hA117
  refine q_step hA117 rfl (d_load (v := rd) (wn rfl) (hA117.ev (v := (.pointer (some ⟨g, 9, none⟩))) rfl) one30 (m101.cell rfl) ?_)
  intro a118 hA119
  refine q_step hA119 rfl (d_len (n := rl.length + 1) (wn rfl) (hA119.ev (v := rd) rfl) slc30 hrd.form ?_)
  intro a120 hA121
  refine q_step hA121 rfl (d_bin (wn rfl) (hA121.ev (v := (.int .i64 ((rl.length + 1 : Nat) : Int))) rfl) (hA121.ev (v := (.int .i64 0)) rfl) (b_eq _ _ ((rl.length + 1 : Nat) : Int) 0 false _ (beq_eq_false_iff_ne.2 (by omega))) ?_)
  intro a122 hA123
  refine q_end ?_
  have hA124 : St 81 [(0, (.pointer (some ⟨g, 0, none⟩))), (3, (.pointer (some ⟨g3, 0, none⟩))), (4, (.bool false)), (5, (.pointer (some ⟨g36, 0, none⟩))), (34, (.bool false))] a122 := hA123.cut _ (fm_cons (hA123.get 0 _ rfl) (fm_cons (hA123.get 3 _ rfl) (fm_cons (hA123.get 4 _ rfl) (fm_cons (hA123.get 5 _ rfl) (fm_cons (hA123.get 34 _ rfl) fm_nil)))))
  refine t_norm ?_
  refine c_false hA124 rfl ?_
  refine wp_skip ?_
  refine t_norm ?_
  refine wp_seq ?_
  obtain ⟨b125, o126, lt127, hr128, hix129⟩ := (hrd.below b103).at (show (u0 :: rl)[0]? = some u0 from rfl)
  have hA130 : St 81 [(0, (.pointer (some ⟨g, 0, none⟩))), (3, (.pointer (some ⟨g3, 0, none⟩))), (4, (.bool false)), (5, (.pointer (some ⟨g36, 0, none⟩)))] a122 := hA124.cut _ (fm_cons (hA124.get 0 _ rfl) (fm_cons (hA124.get 3 _ rfl) (fm_cons (hA124.get 4 _ rfl) (fm_cons (hA124.get 5 _ rfl) fm_nil))))
  let M131 : Nat → Option (Array Value) := fun _ => none
  have hM131 : M131 = fun _ => none := rfl
  clear_value M131
  have hM131A : ∀ k, M131 k = none := fun k => congrFun hM131 k
  have hM131B : ∀ k, k < Bd → M131 k = none := fun k _ => hM131A k
  refine drawnL (S := SM M131) rfl (tabL [cv (.pointer (some ⟨g, 0, none⟩)), cv (.pointer (some ⟨g, 0, none⟩)), cv (.pointer (some ⟨g, 9, none⟩)), cv rd, cv (.pointer (some ⟨b125, o126, none⟩)), cv (.int .i64 u0), cv (.pointer (some ⟨g3, 8, none⟩)), cv (.int .i64 i.size), cv (.int .i64 (I (getR (B u0) 0 i.size))), cv (.pointer (some ⟨g36, 8, none⟩))]) none (fun _ => none) (fun _ _ => True) [9, 8, 0, 1, 2, 3, 4, 5, 6, 7] [] mixedY SM.refl SM.trans hA130 (by kernel_rfl) (by kernel_rfl) (fun i v u w h => by cases h) ?_ ?_
  · skip
    refine eachD_cons (.inl ⟨nofun, rfl, fun x y hS hT hk => d_move (wn rfl) (hT.ev (v := (.pointer (some ⟨g, 0, none⟩))) rfl) ⟨SM.refl _, rfl⟩⟩) ?_
    refine eachD_cons (.inl ⟨nofun, rfl, fun x y hS hT hk => d_nilCheck (wn rfl) (hk 0 rfl) ⟨SM.refl _, rfl⟩⟩) ?_
    refine eachD_cons (.inl ⟨nofun, rfl, fun x y hS hT hk => d_fieldAddr (wn rfl) (hk 1 rfl) fo62_2 ⟨SM.refl _, rfl⟩⟩) ?_
    refine eachD_cons (.inl ⟨nofun, rfl, fun x y hS hT hk => d_load (v := rd) (wn rfl) (hk 2 rfl) one30 ((Blk.sm (w := w98.drew) m101 hS (hM131A _)).cell rfl) ⟨SM.refl _, rfl⟩⟩) ?_
    refine eachD_cons (.inl ⟨nofun, rfl, fun x y hS hT hk => d_indexAt (j := 0) (wn rfl) (hk 3 rfl) (hT.ev (v := (.int .i64 0)) rfl) slc30 hix129 (get_lt (show (u0 :: rl)[0]? = some u0 from rfl)) ⟨SM.refl _, rfl⟩⟩) ?_
    refine eachD_cons (.inl ⟨nofun, rfl, fun x y hS hT hk => d_load (v := (.int .i64 u0)) (wn rfl) (hk 4 rfl) one3 ((range_sm (w := w98.drew) hr128 hS (Nat.lt_of_lt_of_le lt127 (Nat.le_trans hB b103.size)) (hM131B _ lt127)) 0 _ rfl) ⟨SM.refl _, rfl⟩⟩) ?_
    refine eachD_cons (.inl ⟨nofun, rfl, fun x y hS hT hk => d_fieldAddr (wn rfl) (hT.ev (v := (.pointer (some ⟨g3, 0, none⟩))) rfl) fo23_8 ⟨SM.refl _, rfl⟩⟩) ?_
    refine eachD_cons (.inl ⟨nofun, rfl, fun x y hS hT hk => d_load (v := (.int .i64 i.size)) (wn rfl) (hk 6 rfl) one3 ((Blk.sm (w := w98.drew) m102 hS (hM131A _)).cell rfl) ⟨SM.refl _, rfl⟩⟩) ?_
    refine eachD_cons (.inl ⟨nofun, rfl, fun x y hS hT hk => d_call (wn rfl) ent58 (map3 (show x.eval _ = (.int .i64 u0) from (hk 5 rfl)) (show x.eval _ = (.int .i64 0) from (hT.ev (v := (.int .i64 0)) rfl)) (show x.eval _ = (.int .i64 i.size) from (hk 7 rfl))) (get_w u0 0 i.size y hu0) (fun _ _ ⟨he, q, hw⟩ => ⟨(.int .i64 (I (getR (B u0) 0 i.size))), he, hw ▸ SM.grow ((Grow.refl _).drewN q), rfl⟩)⟩) ?_
    refine eachD_cons (.inl ⟨nofun, rfl, fun x y hS hT hk => d_fieldAddr (wn rfl) (hT.ev (v := (.pointer (some ⟨g36, 0, none⟩))) rfl) fo52_7 ⟨SM.refl _, rfl⟩⟩) ?_
    exact eachD_one
  rintro a132 w133 hA134 ⟨hS136, hC137⟩
  have hA138 : St 81 [(0, (.pointer (some ⟨g, 0, none⟩))), (3, (.pointer (some ⟨g3, 0, none⟩))), (4, (.bool false)), (5, (.pointer (some ⟨g36, 0, none⟩))), (43, (.int .i64 (I (getR (B u0) 0 i.size)))), (44, (.pointer (some ⟨g36, 8, none⟩)))] a132 := hA134.cut _ (fm_cons (hA134.get 0 _ rfl) (fm_cons (hA134.get 3 _ rfl) (fm_cons (hA134.get 4 _ rfl) (fm_cons (hA134.get 5 _ rfl) (fm_cons (hC137 8 (Nat.le_of_ble_eq_true rfl)) (fm_cons (hC137 9 (Nat.le_of_ble_eq_true rfl)) fm_nil))))))
  have hG139 : Grow w98 w133 := Grow.trans ((Grow.refl _).drew) (SM.grown (by rw [hM131] at hS136; exact hS136))
  have m140 := m101.grow hG139
  have m141 := m102.grow hG139
  have m142 := m100.grow hG139
  have hr143 := range_below hr128 hG139 (Nat.lt_of_lt_of_le lt127 (Nat.le_trans hB b103.size))
  have b144 := below_grow b103 hG139 (Nat.le_trans hB b103.size)
  have ho145 := own_grow hG139 ho104
  have ho146 := own_grow hG139 ho105
  refine d_store (wn rfl) (hA138.ev (v := (.pointer (some ⟨g36, 8, none⟩))) rfl) (hA138.ev (v := (.int .i64 (I (getR (B u0) 0 i.size)))) rfl) one3 rfl m142 (Nat.le_of_ble_eq_true rfl) ?_
  intro w147 hU148 (m149 : Blk w147 g36 #[.int .i64 0, .int .i64 ((path.length : Nat) : Int), .int .i64 p, .int .i64 6, .int .i64 i.loc, .int .i64 (maskR (placeR (B i.off) (B (orR r i.index 0)) i.size) i.size), .bool true, .bool true, .int .i64 (I (getR (B u0) 0 i.size)), .int .i64 0, .bool i.acq, .bool i.weak, .bool i.rel, .int .i64 i.pred, .int .i64 i.succ] 52)
  have m150 := m140.upd hU148 n42
  have m151 := m141.upd hU148 n43
  have hr152 := range_upd hr143 hU148 (Nat.ne_of_lt (Nat.lt_of_lt_of_le lt127 ge41))
  have b153 := hU148.below b144 ge41
  have ho154 := own_upd ho145 hU148 off44
  have ho155 := own_upd ho146 hU148 off45
  have hA156 : St 81 [(0, (.pointer (some ⟨g, 0, none⟩))), (3, (.pointer (some ⟨g3, 0, none⟩))), (4, (.bool false)), (5, (.pointer (some ⟨g36, 0, none⟩)))] a132 := hA138.cut _ (fm_cons (hA138.get 0 _ rfl) (fm_cons (hA138.get 3 _ rfl) (fm_cons (hA138.get 4 _ rfl) (fm_cons (hA138.get 5 _ rfl) fm_nil))))
  refine t_norm ?_
  refine wp_region_lit ?_
  refine q_step hA156 rfl (d_move (wn rfl) (hA156.ev (v := (.pointer (some ⟨g, 0, none⟩))) rfl) ?_)
  intro a157 hA158
  refine q_step hA158 rfl (d_move (wn rfl) (hA158.ev (v := (.pointer (some ⟨g, 0, none⟩))) rfl) ?_)
  intro a159 hA160
  refine q_step hA160 rfl (d_nilCheck (wn rfl) (hA160.ev (v := (.pointer (some ⟨g, 0, none⟩))) rfl) ?_)
  intro a161 hA162
  refine q_step hA162 rfl (d_fieldAddr (wn rfl) (hA162.ev (v := (.pointer (some ⟨g, 0, none⟩))) rfl) fo62_2 ?_)
  intro a163 hA164
  refine q_step hA164 rfl (d_load (v := rd) (wn rfl) (hA164.ev (v := (.pointer (some ⟨g, 9, none⟩))) rfl) one30 (m150.cell rfl) ?_)
  intro a165 hA166
  refine q_step hA166 rfl (d_tail (wn rfl) (hA166.ev (v := rd) rfl) slc30 (hrd.below b153) ?_)
  intro v167 ht168
  have hsl169 := ht168 _ hrd
  intro a170 hA171
  refine q_step hA171 rfl (d_nilCheck (wn rfl) (hA171.ev (v := (.pointer (some ⟨g, 0, none⟩))) rfl) ?_)
  intro a172 hA173
  refine q_step hA173 rfl (d_fieldAddr (wn rfl) (hA173.ev (v := (.pointer (some ⟨g, 0, none⟩))) rfl) fo62_2 ?_)
  intro a174 hA175
  refine q_step hA175 rfl (d_store (v := v167) (wn rfl) (hA175.ev (v := (.pointer (some ⟨g, 9, none⟩))) rfl) (hA175.ev (v := v167) rfl) one30 (one_slice hsl169.form) m150 (Nat.le_of_ble_eq_true rfl) ?_)
  intro w176 hU177 (m178 : Blk w176 g (walkC p r v167 ev pa) 62)
  have m179 := m151.upd hU177 (Ne.symm n9)
  have m180 := m149.upd hU177 (Ne.symm n42)
  have b181 := hU177.below b153 hge
  have ho182 := own_upd ho154 hU177 oe
  have ho183 := own_upd ho155 hU177 op_
  intro a184 hA185
  refine q_end ?_
  have hA186 : St 81 [(0, (.pointer (some ⟨g, 0, none⟩))), (3, (.pointer (some ⟨g3, 0, none⟩))), (4, (.bool false)), (5, (.pointer (some ⟨g36, 0, none⟩)))] a184 := hA185.cut _ (fm_cons (hA185.get 0 _ rfl) (fm_cons (hA185.get 3 _ rfl) (fm_cons (hA185.get 4 _ rfl) (fm_cons (hA185.get 5 _ rfl) fm_nil))))
  refine t_norm ?_
  refine wp_seq ?_
  refine wp_seq ?_
  refine wp_region_lit ?_
  refine q_step hA186 rfl (d_fieldAddr (wn rfl) (hA186.ev (v := (.pointer (some ⟨g36, 0, none⟩))) rfl) fo52_6 ?_)
  intro a187 hA188
  refine q_step hA188 rfl (d_load (v := (.bool true)) (wn rfl) (hA188.ev (v := (.pointer (some ⟨g36, 7, none⟩))) rfl) one4 (m180.cell rfl) ?_)
  intro a189 hA190
  refine q_end ?_
  have hA191 : St 81 [(0, (.pointer (some ⟨g, 0, none⟩))), (3, (.pointer (some ⟨g3, 0, none⟩))), (4, (.bool false)), (5, (.pointer (some ⟨g36, 0, none⟩))), (54, (.bool true))] a189 := hA190.cut _ (fm_cons (hA190.get 0 _ rfl) (fm_cons (hA190.get 3 _ rfl) (fm_cons (hA190.get 4 _ rfl) (fm_cons (hA190.get 5 _ rfl) (fm_cons (hA190.get 54 _ rfl) fm_nil)))))
  refine t_norm ?_
  refine c_true hA191 rfl ?_
  refine wp_region_lit ?_
  refine q_step hA191 rfl (d_move (wn rfl) (hA191.ev (v := (.pointer (some ⟨g, 0, none⟩))) rfl) ?_)
  intro a192 hA193
  refine q_step hA193 rfl (d_loadRow (cs := (insC ⟨6, ((d : Nat) : Int), ((k : Nat) : Int), i.b, i.imm, i.loc, i.off, i.index, i.size, i.fn, i.acq, i.weak, i.rel, i.pred, i.succ, i.to, i.zero⟩)) (wn rfl) (hA193.ev (v := (.pointer (some ⟨g3, 0, none⟩))) rfl) row23 m179 ?_)
  intro a194 hA195
  refine q_step hA195 rfl (d_fieldAddr (wn rfl) (hA195.ev (v := (.pointer (some ⟨g36, 0, none⟩))) rfl) fo52_7 ?_)
  intro a196 hA197
  refine q_step hA197 rfl (d_load (v := (.int .i64 (I (getR (B u0) 0 i.size)))) (wn rfl) (hA197.ev (v := (.pointer (some ⟨g36, 8, none⟩))) rfl) one3 (m180.cell rfl) ?_)
  intro a198 hA199
  refine q_step hA199 rfl (d_call (wn rfl) ent59 (map3 (hA199.ev (v := (.pointer (some ⟨g, 0, none⟩))) rfl) (hA199.ev (v := (.agg (insC ⟨6, ((d : Nat) : Int), ((k : Nat) : Int), i.b, i.imm, i.loc, i.off, i.index, i.size, i.fn, i.acq, i.weak, i.rel, i.pred, i.succ, i.to, i.zero⟩))) rfl) (hA199.ev (v := (.int .i64 (I (getR (B u0) 0 i.size)))) rfl)) (written_6 g p r v167 ev pa { i with dst := ((d : Nat) : Int) } k (I (getR (B u0) 0 i.size)) w176 m178 hr (wf_I _) (by omega)) ?_)
  rintro e203 w200 ⟨he202, hG201⟩
  have m204 := m178.grow hG201
  have m205 := m179.grow hG201
  have m206 := m180.grow hG201
  have b207 := below_grow b181 hG201 (Nat.le_trans hB b181.size)
  have ho208 := own_grow hG201 ho182
  have ho209 := own_grow hG201 ho183
  refine ⟨(.int .i64 (I (rmwR i.fn (B (I (getR (B u0) 0 i.size))) (B (r k)) i.size))), he202, ?_⟩
  intro a210 hA211
  refine q_step hA211 rfl (d_fieldAddr (wn rfl) (hA211.ev (v := (.pointer (some ⟨g36, 0, none⟩))) rfl) fo52_8 ?_)
  intro a212 hA213
  refine q_step hA213 rfl (d_store (wn rfl) (hA213.ev (v := (.pointer (some ⟨g36, 9, none⟩))) rfl) (hA213.ev (v := (.int .i64 (I (rmwR i.fn (B (I (getR (B u0) 0 i.size))) (B (r k)) i.size)))) rfl) one3 rfl m206 (Nat.le_of_ble_eq_true rfl) ?_)
  intro w214 hU215 (m216 : Blk w214 g36 #[.int .i64 0, .int .i64 ((path.length : Nat) : Int), .int .i64 p, .int .i64 6, .int .i64 i.loc, .int .i64 (maskR (placeR (B i.off) (B (orR r i.index 0)) i.size) i.size), .bool true, .bool true, .int .i64 (I (getR (B u0) 0 i.size)), .int .i64 (I (rmwR i.fn (B (I (getR (B u0) 0 i.size))) (B (r k)) i.size)), .bool i.acq, .bool i.weak, .bool i.rel, .int .i64 i.pred, .int .i64 i.succ] 52)
  have m217 := m204.upd hU215 n42
  have m218 := m205.upd hU215 n43
  have b219 := hU215.below b207 ge41
  have ho220 := own_upd ho208 hU215 off44
  have ho221 := own_upd ho209 hU215 off45
  intro a222 hA223
  refine q_end ?_
  have hA224 : St 81 [(0, (.pointer (some ⟨g, 0, none⟩))), (3, (.pointer (some ⟨g3, 0, none⟩))), (4, (.bool false)), (5, (.pointer (some ⟨g36, 0, none⟩)))] a222 := hA223.cut _ (fm_cons (hA223.get 0 _ rfl) (fm_cons (hA223.get 3 _ rfl) (fm_cons (hA223.get 4 _ rfl) (fm_cons (hA223.get 5 _ rfl) fm_nil))))
  refine t_norm ?_
  refine wp_seq ?_
  refine wp_seq ?_
  refine wp_region_lit ?_
  refine q_step hA224 rfl (d_fieldAddr (wn rfl) (hA224.ev (v := (.pointer (some ⟨g36, 0, none⟩))) rfl) fo52_5 ?_)
  intro a225 hA226
  refine q_step hA226 rfl (d_load (v := (.bool true)) (wn rfl) (hA226.ev (v := (.pointer (some ⟨g36, 6, none⟩))) rfl) one4 (m216.cell rfl) ?_)
  intro a227 hA228
  refine q_end ?_
  have hA229 : St 81 [(0, (.pointer (some ⟨g, 0, none⟩))), (3, (.pointer (some ⟨g3, 0, none⟩))), (4, (.bool false)), (5, (.pointer (some ⟨g36, 0, none⟩))), (62, (.bool true))] a227 := hA228.cut _ (fm_cons (hA228.get 0 _ rfl) (fm_cons (hA228.get 3 _ rfl) (fm_cons (hA228.get 4 _ rfl) (fm_cons (hA228.get 5 _ rfl) (fm_cons (hA228.get 62 _ rfl) fm_nil)))))
  refine t_norm ?_
  refine c_true hA229 rfl ?_
  have hA230 : St 81 [(0, (.pointer (some ⟨g, 0, none⟩))), (3, (.pointer (some ⟨g3, 0, none⟩))), (4, (.bool false)), (5, (.pointer (some ⟨g36, 0, none⟩)))] a227 := hA229.cut _ (fm_cons (hA229.get 0 _ rfl) (fm_cons (hA229.get 3 _ rfl) (fm_cons (hA229.get 4 _ rfl) (fm_cons (hA229.get 5 _ rfl) fm_nil))))
  let M231 : Nat → Option (Array Value) := fun _ => none
  have hM231 : M231 = fun _ => none := rfl
  clear_value M231
  have hM231A : ∀ k, M231 k = none := fun k => congrFun hM231 k
  have hM231B : ∀ k, k < Bd → M231 k = none := fun k _ => hM231A k
  refine drawnL (S := SM M231) rfl (tabL [cv (.pointer (some ⟨g, 0, none⟩)), cv (.pointer (some ⟨g3, 1, none⟩)), cv (.int .i64 ((d : Nat) : Int)), cv (.pointer (some ⟨g36, 8, none⟩)), cv (.int .i64 (I (getR (B u0) 0 i.size))), cv (.pointer (some ⟨g, 0, none⟩)), cv (.pointer (some ⟨g, 1, none⟩)), cv (.pointer (some ⟨g, 1 + d, none⟩))]) none (fun _ => none) (fun _ _ => True) [7, 4, 0, 1, 2, 3, 6, 5] [] mixedY SM.refl SM.trans hA230 (by kernel_rfl) (by kernel_rfl) (fun i v u w h => by cases h) ?_ ?_
  · skip
    refine eachD_cons (.inl ⟨nofun, rfl, fun x y hS hT hk => d_move (wn rfl) (hT.ev (v := (.pointer (some ⟨g, 0, none⟩))) rfl) ⟨SM.refl _, rfl⟩⟩) ?_
    refine eachD_cons (.inl ⟨nofun, rfl, fun x y hS hT hk => d_fieldAddr (wn rfl) (hT.ev (v := (.pointer (some ⟨g3, 0, none⟩))) rfl) fo23_1 ⟨SM.refl _, rfl⟩⟩) ?_
    refine eachD_cons (.inl ⟨nofun, rfl, fun x y hS hT hk => d_load (v := (.int .i64 ((d : Nat) : Int))) (wn rfl) (hk 1 rfl) one3 ((Blk.sm (w := w214.drew) m218 hS (hM231A _)).cell rfl) ⟨SM.refl _, rfl⟩⟩) ?_
    refine eachD_cons (.inl ⟨nofun, rfl, fun x y hS hT hk => d_fieldAddr (wn rfl) (hT.ev (v := (.pointer (some ⟨g36, 0, none⟩))) rfl) fo52_7 ⟨SM.refl _, rfl⟩⟩) ?_
    refine eachD_cons (.inl ⟨nofun, rfl, fun x y hS hT hk => d_load (v := (.int .i64 (I (getR (B u0) 0 i.size)))) (wn rfl) (hk 3 rfl) one3 ((Blk.sm (w := w214.drew) m216 hS (hM231A _)).cell rfl) ⟨SM.refl _, rfl⟩⟩) ?_
    refine eachD_cons (.inl ⟨nofun, rfl, fun x y hS hT hk => d_nilCheck (wn rfl) (hk 0 rfl) ⟨SM.refl _, rfl⟩⟩) ?_
    refine eachD_cons (.inl ⟨nofun, rfl, fun x y hS hT hk => d_fieldAddr (wn rfl) (hk 5 rfl) fo62_1 ⟨SM.refl _, rfl⟩⟩) ?_
    refine eachD_cons (.inl ⟨nofun, rfl, fun x y hS hT hk => d_indexArrP (j := d) (p := 1 + d) (wn rfl) (hk 6 rfl) (hk 2 rfl) arr43 (by omega) (by omega) ⟨SM.refl _, rfl⟩⟩) ?_
    exact eachD_one
  rintro a232 w233 hA234 ⟨hS236, hC237⟩
  have hA238 : St 81 [(0, (.pointer (some ⟨g, 0, none⟩))), (4, (.bool false)), (5, (.pointer (some ⟨g36, 0, none⟩))), (67, (.int .i64 (I (getR (B u0) 0 i.size)))), (70, (.pointer (some ⟨g, 1 + d, none⟩)))] a232 := hA234.cut _ (fm_cons (hA234.get 0 _ rfl) (fm_cons (hA234.get 4 _ rfl) (fm_cons (hA234.get 5 _ rfl) (fm_cons (hC237 4 (Nat.le_of_ble_eq_true rfl)) (fm_cons (hC237 7 (Nat.le_of_ble_eq_true rfl)) fm_nil)))))
  have hG239 : Grow w214 w233 := Grow.trans ((Grow.refl _).drew) (SM.grown (by rw [hM231] at hS236; exact hS236))
  have m240 := m217.grow hG239
  have m241 := m218.grow hG239
  have m242 := m216.grow hG239
  have b243 := below_grow b219 hG239 (Nat.le_trans hB b219.size)
  have ho244 := own_grow hG239 ho220
  have ho245 := own_grow hG239 ho221
  refine d_store (v := (.int .i64 (I (getR (B u0) 0 i.size)))) (wn rfl) (hA238.ev (v := (.pointer (some ⟨g, 1 + d, none⟩))) rfl) (hA238.ev (v := (.int .i64 (I (getR (B u0) 0 i.size)))) rfl) one3 rfl m240 (by rw [walk_size]; omega) ?_
  intro w246 hU247 m248
  rw [walk_set (by omega)] at m248
  have m249 := m241.upd hU247 (Ne.symm n9)
  have m250 := m242.upd hU247 (Ne.symm n42)
  have b251 := hU247.below b243 hge
  have ho252 := own_upd ho244 hU247 oe
  have ho253 := own_upd ho245 hU247 op_
  have hA254 : St 81 [(0, (.pointer (some ⟨g, 0, none⟩))), (4, (.bool false)), (5, (.pointer (some ⟨g36, 0, none⟩)))] a232 := hA238.cut _ (fm_cons (hA238.get 0 _ rfl) (fm_cons (hA238.get 4 _ rfl) (fm_cons (hA238.get 5 _ rfl) fm_nil)))
  refine t_norm ?_
  refine wp_seq ?_
  have hA255 : St 81 [(0, (.pointer (some ⟨g, 0, none⟩))), (4, (.bool false)), (5, (.pointer (some ⟨g36, 0, none⟩)))] a232 := hA254.cut _ (fm_cons (hA254.get 0 _ rfl) (fm_cons (hA254.get 4 _ rfl) (fm_cons (hA254.get 5 _ rfl) fm_nil)))
  let M256 : Nat → Option (Array Value) := fun _ => none
  have hM256 : M256 = fun _ => none := rfl
  clear_value M256
  have hM256A : ∀ k, M256 k = none := fun k => congrFun hM256 k
  have hM256B : ∀ k, k < Bd → M256 k = none := fun k _ => hM256A k
  refine drawnL (S := SM M256) rfl (tabQ [some (.pointer (some ⟨g, 0, none⟩)), some (.pointer (some ⟨g, 0, none⟩)), some (.pointer (some ⟨g, 0, none⟩)), some (.pointer (some ⟨g, 10, none⟩)), none, none, none, none, some (.pointer (some ⟨g, 0, none⟩)), some (.pointer (some ⟨g, 10, none⟩))] [cv (.pointer (some ⟨g, 0, none⟩)), cv (.pointer (some ⟨g, 0, none⟩)), cv (.pointer (some ⟨g, 0, none⟩)), cv (.pointer (some ⟨g, 10, none⟩)), cv ev, cv (.agg #[.int .i64 0, .int .i64 ((path.length : Nat) : Int), .int .i64 p, .int .i64 6, .int .i64 i.loc, .int .i64 (maskR (placeR (B i.off) (B (orR r i.index 0)) i.size) i.size), .bool true, .bool true, .int .i64 (I (getR (B u0) 0 i.size)), .int .i64 (I (rmwR i.fn (B (I (getR (B u0) 0 i.size))) (B (r k)) i.size)), .bool i.acq, .bool i.weak, .bool i.rel, .int .i64 i.pred, .int .i64 i.succ]), cs1 M256 hM256A #[.int .i64 0, .int .i64 ((path.length : Nat) : Int), .int .i64 p, .int .i64 6, .int .i64 i.loc, .int .i64 (maskR (placeR (B i.off) (B (orR r i.index 0)) i.size) i.size), .bool true, .bool true, .int .i64 (I (getR (B u0) 0 i.size)), .int .i64 (I (rmwR i.fn (B (I (getR (B u0) 0 i.size))) (B (r k)) i.size)), .bool i.acq, .bool i.weak, .bool i.rel, .int .i64 i.pred, .int .i64 i.succ] 52, cfree, cv (.pointer (some ⟨g, 0, none⟩)), cv (.pointer (some ⟨g, 10, none⟩))]) (some 7) (fun i => (([some (.pointer (some ⟨g, 0, none⟩)), some (.pointer (some ⟨g, 0, none⟩)), some (.pointer (some ⟨g, 0, none⟩)), some (.pointer (some ⟨g, 10, none⟩)), none, none, none, none, some (.pointer (some ⟨g, 0, none⟩)), some (.pointer (some ⟨g, 10, none⟩))] : List (Option Value))[i]?).getD none) (fun v' w' => w'.ownsRow Bd 52 15 v' (evs.length + 1) ((evE evs) ++ (#[.int .i64 0, .int .i64 ((path.length : Nat) : Int), .int .i64 p, .int .i64 6, .int .i64 i.loc, .int .i64 (maskR (placeR (B i.off) (B (orR r i.index 0)) i.size) i.size), .bool true, .bool true, .int .i64 (I (getR (B u0) 0 i.size)), .int .i64 (I (rmwR i.fn (B (I (getR (B u0) 0 i.size))) (B (r k)) i.size)), .bool i.acq, .bool i.weak, .bool i.rel, .int .i64 i.pred, .int .i64 i.succ] : Array Value).toList) ∧ Below Bd w w' ∧ Blk w' g (walkC p (updR r d (I (getR (B u0) 0 i.size))) v167 ev pa) 62 ∧ Blk w' g3 (insC ⟨6, ((d : Nat) : Int), ((k : Nat) : Int), i.b, i.imm, i.loc, i.off, i.index, i.size, i.fn, i.acq, i.weak, i.rel, i.pred, i.succ, i.to, i.zero⟩) 23 ∧ Blk w' g36 #[.int .i64 0, .int .i64 ((path.length : Nat) : Int), .int .i64 p, .int .i64 6, .int .i64 i.loc, .int .i64 (maskR (placeR (B i.off) (B (orR r i.index 0)) i.size) i.size), .bool true, .bool true, .int .i64 (I (getR (B u0) 0 i.size)), .int .i64 (I (rmwR i.fn (B (I (getR (B u0) 0 i.size))) (B (r k)) i.size)), .bool i.acq, .bool i.weak, .bool i.rel, .int .i64 i.pred, .int .i64 i.succ] 52 ∧ w'.ownsRow Bd 3 1 pa path.length (paE path) ∧ v'.ownBlock ≠ some g ∧ v'.ownBlock ≠ some g3 ∧ v'.ownBlock ≠ some g36 ∧ ∀ k, pa.ownBlock = some k → v'.ownBlock ≠ some k) [9, 7, 0, 1, 2, 3, 4, 5, 6, 8] [4, 6, 3, 5, 2, 1] mixedY SM.refl SM.trans hA255 (by kernel_rfl) (by kernel_rfl) (tabQ_cv _ _) ?_ ?_
  · skip
    refine eachD_cons (.inr (.inl ⟨by decide, _, rfl, fun x y hT hk hk0 => d_move (wn rfl) (hT.ev (v := (.pointer (some ⟨g, 0, none⟩))) rfl) ⟨rfl, rfl⟩⟩)) ?_
    refine eachD_cons (.inr (.inl ⟨by decide, _, rfl, fun x y hT hk hk0 => d_move (wn rfl) (hT.ev (v := (.pointer (some ⟨g, 0, none⟩))) rfl) ⟨rfl, rfl⟩⟩)) ?_
    refine eachD_cons (.inr (.inl ⟨by decide, _, rfl, fun x y hT hk hk0 => d_nilCheck (wn rfl) (hk 1 _ rfl rfl) ⟨rfl, rfl⟩⟩)) ?_
    refine eachD_cons (.inr (.inl ⟨by decide, _, rfl, fun x y hT hk hk0 => d_fieldAddr (wn rfl) (hk 2 _ rfl rfl) fo62_3 ⟨rfl, rfl⟩⟩)) ?_
    refine eachD_cons (.inl ⟨by decide, rfl, fun x y hS hT hk => d_load (v := ev) (wn rfl) (hk 3 rfl) one44 ((Blk.sm (w := w246.drew) m248 hS (hM256A _)).cell rfl) ⟨SM.refl _, rfl⟩⟩) ?_
    refine eachD_cons (.inl ⟨by decide, rfl, fun x y hS hT hk => d_loadRow (cs := #[.int .i64 0, .int .i64 ((path.length : Nat) : Int), .int .i64 p, .int .i64 6, .int .i64 i.loc, .int .i64 (maskR (placeR (B i.off) (B (orR r i.index 0)) i.size) i.size), .bool true, .bool true, .int .i64 (I (getR (B u0) 0 i.size)), .int .i64 (I (rmwR i.fn (B (I (getR (B u0) 0 i.size))) (B (r k)) i.size)), .bool i.acq, .bool i.weak, .bool i.rel, .int .i64 i.pred, .int .i64 i.succ]) (wn rfl) (hT.ev (v := (.pointer (some ⟨g36, 0, none⟩))) rfl) row52 (Blk.sm (w := w246.drew) m250 hS (hM256A _)) ⟨SM.refl _, rfl⟩⟩) ?_
    refine eachD_cons (.inl ⟨by decide, rfl, fun x y hS hT hk => d_slice1 (wn rfl) (show x.eval _ = (.agg #[.int .i64 0, .int .i64 ((path.length : Nat) : Int), .int .i64 p, .int .i64 6, .int .i64 i.loc, .int .i64 (maskR (placeR (B i.off) (B (orR r i.index 0)) i.size) i.size), .bool true, .bool true, .int .i64 (I (getR (B u0) 0 i.size)), .int .i64 (I (rmwR i.fn (B (I (getR (B u0) 0 i.size))) (B (r k)) i.size)), .bool i.acq, .bool i.weak, .bool i.rel, .int .i64 i.pred, .int .i64 i.succ]) from (hk 5 rfl)) elm44 rfl (by decide) (fun g w' _ hG hb => ⟨SM.grow hG, g, rfl, hb⟩)⟩) ?_
    refine eachD_cons (.inr (.inr ⟨rfl, fun x y hS hT hk => ?_⟩)) ?_
    · skip
      obtain ⟨gb, hvb, hbb⟩ := hk 6 rfl
      have hG : Grow w246 y := Grow.trans ((Grow.refl _).drew) (SM.grown (by rw [hM256] at hS; exact hS))
      have hR := own_grow hG ho252
      have hO := own_grow hG ho253
      have hBl := below_grow b251 hG (Nat.le_trans hB b251.size)
      refine d_append (wn rfl) (show x.eval _ = ev from (hk 4 rfl)) hvb elm44 hR hbb rfl rfl (by omega) (by decide) (Nat.le_trans hB hBl.size) ?_
      intro v' w' h1 h2 h3
      exact ⟨h1, below_by hBl h2 (Nat.le_trans hB hBl.size) (fun k hk => (own_lt hR k hk).1), (m248.grow hG).by h2 oe, (m249.grow hG).by h2 off10, (m250.grow hG).by h2 off44, own_by hO h2 ap, lies_ne h3 oe (m248.grow hG).lt, lies_ne h3 off10 (m249.grow hG).lt, lies_ne h3 off44 (m250.grow hG).lt, lies_ap h3 ap hO⟩
    refine eachD_cons (.inr (.inl ⟨by decide, _, rfl, fun x y hT hk hk0 => d_nilCheck (wn rfl) (hk 0 _ rfl rfl) ⟨rfl, rfl⟩⟩)) ?_
    refine eachD_cons (.inr (.inl ⟨by decide, _, rfl, fun x y hT hk hk0 => d_fieldAddr (wn rfl) (hk 8 _ rfl rfl) fo62_3 ⟨rfl, rfl⟩⟩)) ?_
    exact eachD_one
  rintro a257 w258 hA259 ⟨hP261, hW262⟩
  obtain ⟨v263, hv264⟩ : ∃ v', v' = (a257.tmps.getD 78 undef) := ⟨_, rfl⟩
  have hW265 : (fun v' w' => w'.ownsRow Bd 52 15 v' (evs.length + 1) ((evE evs) ++ (#[.int .i64 0, .int .i64 ((path.length : Nat) : Int), .int .i64 p, .int .i64 6, .int .i64 i.loc, .int .i64 (maskR (placeR (B i.off) (B (orR r i.index 0)) i.size) i.size), .bool true, .bool true, .int .i64 (I (getR (B u0) 0 i.size)), .int .i64 (I (rmwR i.fn (B (I (getR (B u0) 0 i.size))) (B (r k)) i.size)), .bool i.acq, .bool i.weak, .bool i.rel, .int .i64 i.pred, .int .i64 i.succ] : Array Value).toList) ∧ Below Bd w w' ∧ Blk w' g (walkC p (updR r d (I (getR (B u0) 0 i.size))) v167 ev pa) 62 ∧ Blk w' g3 (insC ⟨6, ((d : Nat) : Int), ((k : Nat) : Int), i.b, i.imm, i.loc, i.off, i.index, i.size, i.fn, i.acq, i.weak, i.rel, i.pred, i.succ, i.to, i.zero⟩) 23 ∧ Blk w' g36 #[.int .i64 0, .int .i64 ((path.length : Nat) : Int), .int .i64 p, .int .i64 6, .int .i64 i.loc, .int .i64 (maskR (placeR (B i.off) (B (orR r i.index 0)) i.size) i.size), .bool true, .bool true, .int .i64 (I (getR (B u0) 0 i.size)), .int .i64 (I (rmwR i.fn (B (I (getR (B u0) 0 i.size))) (B (r k)) i.size)), .bool i.acq, .bool i.weak, .bool i.rel, .int .i64 i.pred, .int .i64 i.succ] 52 ∧ w'.ownsRow Bd 3 1 pa path.length (paE path) ∧ v'.ownBlock ≠ some g ∧ v'.ownBlock ≠ some g3 ∧ v'.ownBlock ≠ some g36 ∧ ∀ k, pa.ownBlock = some k → v'.ownBlock ≠ some k) v263 w258 := by rw [hv264]; exact hW262
  obtain ⟨ho266, b267, m268, m269, m270, ho271, off272, off273, off274, ap275⟩ := hW265
  have ap276 : ∀ k, v263.ownBlock = some k → pa.ownBlock ≠ some k := fun k h1 h2 => ap275 k h2 h1
  have hA277 : St 81 [(4, (.bool false)), (78, v263), (80, (.pointer (some ⟨g, 10, none⟩)))] a257 := hA259.cut _ (fm_cons (hA259.get 4 _ rfl) (fm_cons hv264.symm (fm_cons (hP261 9 _ (Nat.le_of_ble_eq_true rfl) (by decide) rfl) fm_nil)))
  refine d_store (v := v263) (wn rfl) (hA277.ev (v := (.pointer (some ⟨g, 10, none⟩))) rfl) (hA277.ev (v := v263) rfl) one44 (one_slice (own_form ho266)) m268 (Nat.le_of_ble_eq_true rfl) ?_
  intro w278 hU279 (m280 : Blk w278 g (walkC p (updR r d (I (getR (B u0) 0 i.size))) v167 v263 pa) 62)
  have m281 := m269.upd hU279 (Ne.symm n9)
  have m282 := m270.upd hU279 (Ne.symm n42)
  have b283 := hU279.below b267 hge
  have ho284 := own_upd ho266 hU279 off272
  have ho285 := own_upd ho271 hU279 op_
  have hA286 : St 81 [(4, (.bool false))] a257 := hA277.cut _ (fm_cons (hA277.get 4 _ rfl) fm_nil)
  refine t_norm ?_
  refine wp_seq ?_
  refine wp_region_lit ?_
  refine q_step hA286 rfl (d_assign (wn rfl) (hA286.ev (v := (.bool true)) rfl) ?_)
  intro a287 hA288
  refine q_end ?_
  have hA289 : St 81 [(4, (.bool true))] a287 := hA288.cut _ (fm_cons (hA288.get 4 _ rfl) fm_nil)
  refine t_norm ?_
  refine wp_ret ?_
  refine ret1 rfl hA289 (v := (.bool true)) rfl ?_
  exact ⟨rfl, b283, v167, v263, pa, m280, hge, (hsl169.below b283), (by rw [List.length_append, ← evE_snoc]; exact ho284), ho285, off272, op_, ap275⟩
set_option maxHeartbeats 4000000 in
set_option maxRecDepth 4000 in
theorem access_6n (Bd g : Nat) (p : Int) (r : Nat → Int) (rd ev pa : Value) (i : Ins) (d k : Nat) (evs : List Ev) (path : List Int) (w : World) (hB : Bd ≤ w.heap.size) (hW : WS Bd g w p r ([] : List Int) evs path rd ev pa) (hne : evs.length ≤ 1000) (hnp : path.length ≤ 1000) (hr : ∀ k, wfI (r k)) (hix : ronB i.index = true) (hoff : wfI i.off) (hd : d < 8) : Calls Try.prog 48 #[.pointer (some ⟨g, 0, none⟩), .agg (insC ⟨6, ((d : Nat) : Int), ((k : Nat) : Int), i.b, i.imm, i.loc, i.off, i.index, i.size, i.fn, i.acq, i.weak, i.rel, i.pred, i.succ, i.to, i.zero⟩)] w fun e w' => e = .returned (.bool false) ∧ Below Bd w w' := by
  obtain ⟨hb, hge, hrd, hev, hpa, oe, op_, ap⟩ := hW
  have ap2 : ∀ k, ev.ownBlock = some k → pa.ownBlock ≠ some k := fun k h1 h2 => ap k h2 h1
  have b0 : Below Bd w w := Below.refl _ _
  refine enter (n := 81) Try.func48 rfl rfl (Nat.le_of_ble_eq_true rfl) ?_
  intro a1 hA2
  refine wp_seq ?_
  refine wp_region_lit ?_
  refine q_step hA2 rfl (d_box (wn rfl) (hA2.ev (v := (.agg (insC ⟨6, ((d : Nat) : Int), ((k : Nat) : Int), i.b, i.imm, i.loc, i.off, i.index, i.size, i.fn, i.acq, i.weak, i.rel, i.pred, i.succ, i.to, i.zero⟩))) rfl) ?_)
  intro g3 w4 eg5 hG6 (m7 : Blk w4 g3 (insC ⟨6, ((d : Nat) : Int), ((k : Nat) : Int), i.b, i.imm, i.loc, i.off, i.index, i.size, i.fn, i.acq, i.weak, i.rel, i.pred, i.succ, i.to, i.zero⟩) 23)
  have ge8 : Bd ≤ g3 := eg5 ▸ (Nat.le_trans hB b0.size)
  have n9 : g ≠ g3 := fun h => Nat.lt_irrefl _ ((h.trans eg5) ▸ hb.lt)
  have off10 := own_new hev eg5
  have off11 := own_new hpa eg5
  have m12 := hb.grow hG6
  have b13 := below_grow b0 hG6 (Nat.le_trans hB b0.size)
  have ho14 := own_grow hG6 hev
  have ho15 := own_grow hG6 hpa
  intro a16 hA17
  refine q_step hA17 rfl (d_assign (wn rfl) (hA17.ev (v := (.bool false)) rfl) ?_)
  intro a18 hA19
  refine q_end ?_
  have hA20 : St 81 [(0, (.pointer (some ⟨g, 0, none⟩))), (3, (.pointer (some ⟨g3, 0, none⟩))), (4, (.bool false))] a18 := hA19.cut _ (fm_cons (hA19.get 0 _ rfl) (fm_cons (hA19.get 3 _ rfl) (fm_cons (hA19.get 4 _ rfl) fm_nil)))
  refine t_norm ?_
  refine wp_seq ?_
  refine wp_region_lit ?_
  refine q_step hA20 rfl (d_move (wn rfl) (hA20.ev (v := (.pointer (some ⟨g, 0, none⟩))) rfl) ?_)
  intro a21 hA22
  refine q_step hA22 rfl (d_loadRow (cs := (insC ⟨6, ((d : Nat) : Int), ((k : Nat) : Int), i.b, i.imm, i.loc, i.off, i.index, i.size, i.fn, i.acq, i.weak, i.rel, i.pred, i.succ, i.to, i.zero⟩)) (wn rfl) (hA22.ev (v := (.pointer (some ⟨g3, 0, none⟩))) rfl) row23 m7 ?_)
  intro a23 hA24
  refine q_step hA24 rfl (d_call (wn rfl) ent49 (map2 (hA24.ev (v := (.pointer (some ⟨g, 0, none⟩))) rfl) (hA24.ev (v := (.agg (insC ⟨6, ((d : Nat) : Int), ((k : Nat) : Int), i.b, i.imm, i.loc, i.off, i.index, i.size, i.fn, i.acq, i.weak, i.rel, i.pred, i.succ, i.to, i.zero⟩))) rfl)) (event_any g p r rd ev pa (⟨6, ((d : Nat) : Int), ((k : Nat) : Int), i.b, i.imm, i.loc, i.off, i.index, i.size, i.fn, i.acq, i.weak, i.rel, i.pred, i.succ, i.to, i.zero⟩) path.length Bd (paE path) w4 m12 ho15) ?_)
  rintro e28 w25 ⟨he27, hG26⟩
  have m29 := m12.grow hG26
  have m30 := m7.grow hG26
  have b31 := below_grow b13 hG26 (Nat.le_trans hB b13.size)
  have ho32 := own_grow hG26 ho14
  have ho33 := own_grow hG26 ho15
  refine ⟨(.agg #[.int .i64 0, .int .i64 ((path.length : Nat) : Int), .int .i64 p, .int .i64 6, .int .i64 0, .int .i64 0, .bool true, .bool true, .int .i64 0, .int .i64 0, .bool i.acq, .bool i.weak, .bool i.rel, .int .i64 i.pred, .int .i64 i.succ]), he27, ?_⟩
  intro a34 hA35
  refine q_step hA35 rfl (d_alloc (wn rfl) zero52 ?_)
  intro g36 w37 eg38 hG39 (m40 : Blk w37 g36 #[.int .i64 0, .int .i64 0, .int .i64 0, .int .i64 0, .int .i64 0, .int .i64 0, .bool false, .bool false, .int .i64 0, .int .i64 0, .bool false, .bool false, .bool false, .int .i64 0, .int .i64 0] 52)
  have ge41 : Bd ≤ g36 := eg38 ▸ (Nat.le_trans hB b31.size)
  have n42 : g ≠ g36 := fun h => Nat.lt_irrefl _ ((h.trans eg38) ▸ m29.lt)
  have n43 : g3 ≠ g36 := fun h => Nat.lt_irrefl _ ((h.trans eg38) ▸ m30.lt)
  have off44 := own_new ho32 eg38
  have off45 := own_new ho33 eg38
  have m46 := m29.grow hG39
  have m47 := m30.grow hG39
  have b48 := below_grow b31 hG39 (Nat.le_trans hB b31.size)
  have ho49 := own_grow hG39 ho32
  have ho50 := own_grow hG39 ho33
  intro a51 hA52
  refine q_step hA52 rfl (d_storeRow (wn rfl) (hA52.ev (v := (.pointer (some ⟨g36, 0, none⟩))) rfl) (hA52.ev (v := (.agg #[.int .i64 0, .int .i64 ((path.length : Nat) : Int), .int .i64 p, .int .i64 6, .int .i64 0, .int .i64 0, .bool true, .bool true, .int .i64 0, .int .i64 0, .bool i.acq, .bool i.weak, .bool i.rel, .int .i64 i.pred, .int .i64 i.succ])) rfl) row52 m40 rfl rfl ?_)
  intro w53 hU54 (m55 : Blk w53 g36 #[.int .i64 0, .int .i64 ((path.length : Nat) : Int), .int .i64 p, .int .i64 6, .int .i64 0, .int .i64 0, .bool true, .bool true, .int .i64 0, .int .i64 0, .bool i.acq, .bool i.weak, .bool i.rel, .int .i64 i.pred, .int .i64 i.succ] 52)
  have m56 := m46.upd hU54 n42
  have m57 := m47.upd hU54 n43
  have b58 := hU54.below b48 ge41
  have ho59 := own_upd ho49 hU54 off44
  have ho60 := own_upd ho50 hU54 off45
  intro a61 hA62
  refine q_end ?_
  have hA63 : St 81 [(0, (.pointer (some ⟨g, 0, none⟩))), (3, (.pointer (some ⟨g3, 0, none⟩))), (4, (.bool false)), (5, (.pointer (some ⟨g36, 0, none⟩)))] a61 := hA62.cut _ (fm_cons (hA62.get 0 _ rfl) (fm_cons (hA62.get 3 _ rfl) (fm_cons (hA62.get 4 _ rfl) (fm_cons (hA62.get 5 _ rfl) fm_nil))))
  refine t_norm ?_
  refine wp_seq ?_
  have hA64 : St 81 [(0, (.pointer (some ⟨g, 0, none⟩))), (3, (.pointer (some ⟨g3, 0, none⟩))), (4, (.bool false)), (5, (.pointer (some ⟨g36, 0, none⟩)))] a61 := hA63.cut _ (fm_cons (hA63.get 0 _ rfl) (fm_cons (hA63.get 3 _ rfl) (fm_cons (hA63.get 4 _ rfl) (fm_cons (hA63.get 5 _ rfl) fm_nil))))
  let M65 : Nat → Option (Array Value) := fun _ => none
  have hM65 : M65 = fun _ => none := rfl
  clear_value M65
  have hM66 : M65 g = none := (congrFun hM65 g)
  have hM67 : M65 g3 = none := (congrFun hM65 g3)
  have hM68 : M65 g36 = none := (congrFun hM65 g36)
  have hM65B : ∀ k, k < Bd → M65 k = none := (fun k hk => (congrFun hM65 k))
  refine drawn (S := SM M65) (tabL [cv (.pointer (some ⟨g3, 6, none⟩)), cv (.int .i64 i.off), cv (.pointer (some ⟨g, 0, none⟩)), cv (.pointer (some ⟨g3, 7, none⟩)), cv (.int .i64 i.index), cv (.int .i64 (orR r i.index 0)), cv (.pointer (some ⟨g3, 8, none⟩)), cv (.int .i64 i.size), cv (.int .i64 (placeR (B i.off) (B (orR r i.index 0)) i.size)), cv (.int .i64 (placeR (B i.off) (B (orR r i.index 0)) i.size))]) mixedY SM.refl SM.trans SM.drew hA64 (by kernel_rfl) ?_ ?_
  · skip
    refine each_cons (fun x y hS hT hk => d_fieldAddr (wn rfl) (hT.ev (v := (.pointer (some ⟨g3, 0, none⟩))) rfl) fo23_6 ⟨SM.refl _, rfl⟩) ?_
    refine each_cons (fun x y hS hT hk => d_load (v := (.int .i64 i.off)) (wn rfl) (hk 0 rfl) one3 ((Blk.sm (w := w53.drew) m57 hS hM67).cell rfl) ⟨SM.refl _, rfl⟩) ?_
    refine each_cons (fun x y hS hT hk => d_move (wn rfl) (hT.ev (v := (.pointer (some ⟨g, 0, none⟩))) rfl) ⟨SM.refl _, rfl⟩) ?_
    refine each_cons (fun x y hS hT hk => d_fieldAddr (wn rfl) (hT.ev (v := (.pointer (some ⟨g3, 0, none⟩))) rfl) fo23_7 ⟨SM.refl _, rfl⟩) ?_
    refine each_cons (fun x y hS hT hk => d_load (v := (.int .i64 i.index)) (wn rfl) (hk 3 rfl) one3 ((Blk.sm (w := w53.drew) m57 hS hM67).cell rfl) ⟨SM.refl _, rfl⟩) ?_
    refine each_cons (fun x y hS hT hk => d_call (wn rfl) ent47 (map3 (show x.eval _ = (.pointer (some ⟨g, 0, none⟩)) from (hk 2 rfl)) (show x.eval _ = (.int .i64 i.index) from (hk 4 rfl)) (show x.eval _ = (.int .i64 0) from (hT.ev (v := (.int .i64 0)) rfl))) (regOr_any g p r rd ev pa i.index 0 y (Blk.sm (w := w53.drew) m56 hS hM66) hix) (fun _ _ ⟨he, hG⟩ => ⟨(.int .i64 (orR r i.index 0)), he, SM.grow hG, rfl⟩)) ?_
    refine each_cons (fun x y hS hT hk => d_fieldAddr (wn rfl) (hT.ev (v := (.pointer (some ⟨g3, 0, none⟩))) rfl) fo23_8 ⟨SM.refl _, rfl⟩) ?_
    refine each_cons (fun x y hS hT hk => d_load (v := (.int .i64 i.size)) (wn rfl) (hk 6 rfl) one3 ((Blk.sm (w := w53.drew) m57 hS hM67).cell rfl) ⟨SM.refl _, rfl⟩) ?_
    refine each_cons (fun x y hS hT hk => d_call (wn rfl) ent57 (map3 (show x.eval _ = (.int .i64 i.off) from (hk 1 rfl)) (show x.eval _ = (.int .i64 (orR r i.index 0)) from (hk 5 rfl)) (show x.eval _ = (.int .i64 i.size) from (hk 7 rfl))) (place_w i.off (orR r i.index 0) i.size y hoff (wf_or hr wf_0)) (fun _ _ ⟨he, hw⟩ => ⟨(.int .i64 (placeR (B i.off) (B (orR r i.index 0)) i.size)), he, hw ▸ SM.refl _, rfl⟩)) ?_
    refine each_cons (fun x y hS hT hk => d_assign (wn rfl) (hk 8 rfl) ⟨SM.refl _, rfl⟩) ?_
    exact each_nil
  intro f69 a70 w71 hS72 hC73 hA74
  have hA75 : St 81 [(0, (.pointer (some ⟨g, 0, none⟩))), (3, (.pointer (some ⟨g3, 0, none⟩))), (4, (.bool false)), (5, (.pointer (some ⟨g36, 0, none⟩))), (6, (.int .i64 (placeR (B i.off) (B (orR r i.index 0)) i.size)))] a70 := hA74.cut _ (fm_cons (hA74.get 0 _ rfl) (fm_cons (hA74.get 3 _ rfl) (fm_cons (hA74.get 4 _ rfl) (fm_cons (hA74.get 5 _ rfl) (fm_cons ((hA74.get 6 _ rfl).trans (hC73 9 (Nat.le_of_ble_eq_true rfl))) fm_nil)))))
  have m76 := m56.sm hS72 hM66
  have m77 := m57.sm hS72 hM67
  have m78 := m55.sm hS72 hM68
  have b79 := hS72.below b58 (Nat.le_trans hB b58.size) hM65B
  have ho80 := own_sm ho59 hS72 (fun k => congrFun hM65 k)
  have ho81 := own_sm ho60 hS72 (fun k => congrFun hM65 k)
  refine t_norm ?_
  refine wp_seq ?_
  have hA82 : St 81 [(0, (.pointer (some ⟨g, 0, none⟩))), (3, (.pointer (some ⟨g3, 0, none⟩))), (4, (.bool false)), (5, (.pointer (some ⟨g36, 0, none⟩))), (6, (.int .i64 (placeR (B i.off) (B (orR r i.index 0)) i.size)))] a70 := hA75.cut _ (fm_cons (hA75.get 0 _ rfl) (fm_cons (hA75.get 3 _ rfl) (fm_cons (hA75.get 4 _ rfl) (fm_cons (hA75.get 5 _ rfl) (fm_cons (hA75.get 6 _ rfl) fm_nil)))))
  let M83 : Nat → Option (Array Value) := fun _ => none
  have hM83 : M83 = fun _ => none := rfl
  clear_value M83
  have hM83A : ∀ k, M83 k = none := fun k => congrFun hM83 k
  have hM83B : ∀ k, k < Bd → M83 k = none := fun k _ => hM83A k
  refine drawnL (S := SM M83) rfl (tabL [cv (.pointer (some ⟨g3, 5, none⟩)), cv (.int .i64 i.loc), cv (.int .i64 (placeR (B i.off) (B (orR r i.index 0)) i.size)), cv (.pointer (some ⟨g3, 8, none⟩)), cv (.int .i64 i.size), cv (.int .i64 (maskR (placeR (B i.off) (B (orR r i.index 0)) i.size) i.size)), cv (.agg #[.int .i64 i.loc, .int .i64 (maskR (placeR (B i.off) (B (orR r i.index 0)) i.size) i.size)]), cv (.pointer (some ⟨g36, 4, none⟩))]) none (fun _ => none) (fun _ _ => True) [7, 6, 5, 0, 1, 2, 3, 4] [] mixedY SM.refl SM.trans hA82 (by kernel_rfl) (by kernel_rfl) (fun i v u w h => by cases h) ?_ ?_
  · skip
    refine eachD_cons (.inl ⟨nofun, rfl, fun x y hS hT hk => d_fieldAddr (wn rfl) (hT.ev (v := (.pointer (some ⟨g3, 0, none⟩))) rfl) fo23_5 ⟨SM.refl _, rfl⟩⟩) ?_
    refine eachD_cons (.inl ⟨nofun, rfl, fun x y hS hT hk => d_load (v := (.int .i64 i.loc)) (wn rfl) (hk 0 rfl) one3 ((Blk.sm (w := w71.drew) m77 hS (hM83A _)).cell rfl) ⟨SM.refl _, rfl⟩⟩) ?_
    refine eachD_cons (.inl ⟨nofun, rfl, fun x y hS hT hk => d_move (wn rfl) (hT.ev (v := (.int .i64 (placeR (B i.off) (B (orR r i.index 0)) i.size))) rfl) ⟨SM.refl _, rfl⟩⟩) ?_
    refine eachD_cons (.inl ⟨nofun, rfl, fun x y hS hT hk => d_fieldAddr (wn rfl) (hT.ev (v := (.pointer (some ⟨g3, 0, none⟩))) rfl) fo23_8 ⟨SM.refl _, rfl⟩⟩) ?_
    refine eachD_cons (.inl ⟨nofun, rfl, fun x y hS hT hk => d_load (v := (.int .i64 i.size)) (wn rfl) (hk 3 rfl) one3 ((Blk.sm (w := w71.drew) m77 hS (hM83A _)).cell rfl) ⟨SM.refl _, rfl⟩⟩) ?_
    refine eachD_cons (.inl ⟨nofun, rfl, fun x y hS hT hk => d_call (wn rfl) ent55 (map2 (show x.eval _ = (.int .i64 (placeR (B i.off) (B (orR r i.index 0)) i.size)) from (hk 2 rfl)) (show x.eval _ = (.int .i64 i.size) from (hk 4 rfl))) (mask_all (placeR (B i.off) (B (orR r i.index 0)) i.size) i.size y) (fun _ _ ⟨he, hw⟩ => ⟨(.int .i64 (maskR (placeR (B i.off) (B (orR r i.index 0)) i.size) i.size)), he, hw ▸ SM.refl _, rfl⟩)⟩) ?_
    refine eachD_cons (.inl ⟨nofun, rfl, fun x y hS hT hk => d_build (cs := #[.int .i64 i.loc, .int .i64 (maskR (placeR (B i.off) (B (orR r i.index 0)) i.size) i.size)]) (wn rfl) (bp_of (bq_cons (show x.eval _ = (.int .i64 i.loc) from (hk 1 rfl)) (bq_cons (show x.eval _ = (.int .i64 (maskR (placeR (B i.off) (B (orR r i.index 0)) i.size) i.size)) from (hk 5 rfl)) bq_nil))) zero50 places50 (by kernel_rfl) ⟨SM.refl _, rfl⟩⟩) ?_
    refine eachD_cons (.inl ⟨nofun, rfl, fun x y hS hT hk => d_fieldAddr (wn rfl) (hT.ev (v := (.pointer (some ⟨g36, 0, none⟩))) rfl) fo52_4 ⟨SM.refl _, rfl⟩⟩) ?_
    exact eachD_one
  rintro a84 w85 hA86 ⟨hS88, hC89⟩
  have hA90 : St 81 [(0, (.pointer (some ⟨g, 0, none⟩))), (3, (.pointer (some ⟨g3, 0, none⟩))), (4, (.bool false)), (5, (.pointer (some ⟨g36, 0, none⟩))), (25, (.agg #[.int .i64 i.loc, .int .i64 (maskR (placeR (B i.off) (B (orR r i.index 0)) i.size) i.size)])), (26, (.pointer (some ⟨g36, 4, none⟩)))] a84 := hA86.cut _ (fm_cons (hA86.get 0 _ rfl) (fm_cons (hA86.get 3 _ rfl) (fm_cons (hA86.get 4 _ rfl) (fm_cons (hA86.get 5 _ rfl) (fm_cons (hC89 6 (Nat.le_of_ble_eq_true rfl)) (fm_cons (hC89 7 (Nat.le_of_ble_eq_true rfl)) fm_nil))))))
  have hG91 : Grow w71 w85 := Grow.trans ((Grow.refl _).drew) (SM.grown (by rw [hM83] at hS88; exact hS88))
  have m92 := m76.grow hG91
  have m93 := m77.grow hG91
  have m94 := m78.grow hG91
  have b95 := below_grow b79 hG91 (Nat.le_trans hB b79.size)
  have ho96 := own_grow hG91 ho80
  have ho97 := own_grow hG91 ho81
  refine d_store2 (wn rfl) (hA90.ev (v := (.pointer (some ⟨g36, 4, none⟩))) rfl) (hA90.ev (v := (.agg #[.int .i64 i.loc, .int .i64 (maskR (placeR (B i.off) (B (orR r i.index 0)) i.size) i.size)])) rfl) row50 rfl rfl m94 (Nat.le_of_ble_eq_true rfl) ?_
  intro w98 hU99 (m100 : Blk w98 g36 #[.int .i64 0, .int .i64 ((path.length : Nat) : Int), .int .i64 p, .int .i64 6, .int .i64 i.loc, .int .i64 (maskR (placeR (B i.off) (B (orR r i.index 0)) i.size) i.size), .bool true, .bool true, .int .i64 0, .int .i64 0, .bool i.acq, .bool i.weak, .bool i.rel, .int .i64 i.pred, .int .i64 i.succ] 52)
  have m101 := m92.upd hU99 n42
  have m102 := m93.upd hU99 n43
  have b103 := hU99.below b95 ge41
  have ho104 := own_upd ho96 hU99 off44
  have ho105 := own_upd ho97 hU99 off45
  have hA106 : St 81 [(0, (.pointer (some ⟨g, 0, none⟩))), (3, (.pointer (some ⟨g3, 0, none⟩))), (4, (.bool false)), (5, (.pointer (some ⟨g36, 0, none⟩)))] a84 := hA90.cut _ (fm_cons (hA90.get 0 _ rfl) (fm_cons (hA90.get 3 _ rfl) (fm_cons (hA90.get 4 _ rfl) (fm_cons (hA90.get 5 _ rfl) fm_nil))))
  refine t_norm ?_
  refine wp_seq ?_
  refine wp_seq ?_
  refine wp_region_lit ?_
  refine q_step hA106 rfl (d_fieldAddr (wn rfl) (hA106.ev (v := (.pointer (some ⟨g36, 0, none⟩))) rfl) fo52_5 ?_)
  intro a107 hA108
  refine q_step hA108 rfl (d_load (v := (.bool true)) (wn rfl) (hA108.ev (v := (.pointer (some ⟨g36, 6, none⟩))) rfl) one4 (m100.cell rfl) ?_)
  intro a109 hA110
  refine q_end ?_
  have hA111 : St 81 [(0, (.pointer (some ⟨g, 0, none⟩))), (3, (.pointer (some ⟨g3, 0, none⟩))), (4, (.bool false)), (5, (.pointer (some ⟨g36, 0, none⟩))), (28, (.bool true))] a109 := hA110.cut _ (fm_cons (hA110.get 0 _ rfl) (fm_cons (hA110.get 3 _ rfl) (fm_cons (hA110.get 4 _ rfl) (fm_cons (hA110.get 5 _ rfl) (fm_cons (hA110.get 28 _ rfl) fm_nil)))))
  refine t_norm ?_
  refine c_true hA111 rfl ?_
  refine wp_seq ?_
  refine wp_seq ?_
  refine wp_region_lit ?_
  refine q_step hA111 rfl (d_move (wn rfl) (hA111.ev (v := (.pointer (some ⟨g, 0, none⟩))) rfl) ?_)
  intro a112 hA113
  refine q_step hA113 rfl (d_nilCheck (wn rfl) (hA113.ev (v := (.pointer (some ⟨g, 0, none⟩))) rfl) ?_)
  intro a114 hA115
  refine q_step hA115 rfl (d_fieldAddr (wn rfl) (hA115.ev (v := (.pointer (some ⟨g, 0, none⟩))) rfl) fo62_2 ?_)
  intro a116 hA117
  refine q_step hA117 rfl (d_load (v := rd) (wn rfl) (hA117.ev (v := (.pointer (some ⟨g, 9, none⟩))) rfl) one30 (m101.cell rfl) ?_)
  intro a118 hA119
  refine q_step hA119 rfl (d_len (n := 0) (wn rfl) (hA119.ev (v := rd) rfl) slc30 hrd.form ?_)
  intro a120 hA121
  refine q_step hA121 rfl (d_bin (wn rfl) (hA121.ev (v := (.int .i64 0)) rfl) (hA121.ev (v := (.int .i64 0)) rfl) (b_eq _ _ 0 0 true _ rfl) ?_)
  intro a122 hA123
  refine q_end ?_
  have hA124 : St 81 [(0, (.pointer (some ⟨g, 0, none⟩))), (3, (.pointer (some ⟨g3, 0, none⟩))), (4, (.bool false)), (5, (.pointer (some ⟨g36, 0, none⟩))), (34, (.bool true))] a122 := hA123.cut _ (fm_cons (hA123.get 0 _ rfl) (fm_cons (hA123.get 3 _ rfl) (fm_cons (hA123.get 4 _ rfl) (fm_cons (hA123.get 5 _ rfl) (fm_cons (hA123.get 34 _ rfl) fm_nil)))))
  refine t_norm ?_
  refine c_true hA124 rfl ?_
  refine wp_seq ?_
  refine wp_region_lit ?_
  refine q_step hA124 rfl (d_assign (wn rfl) (hA124.ev (v := (.bool false)) rfl) ?_)
  intro a125 hA126
  refine q_end ?_
  have hA127 : St 81 [(0, (.pointer (some ⟨g, 0, none⟩))), (3, (.pointer (some ⟨g3, 0, none⟩))), (4, (.bool false)), (5, (.pointer (some ⟨g36, 0, none⟩)))] a125 := hA126.cut _ (fm_cons (hA126.get 0 _ rfl) (fm_cons (hA126.get 3 _ rfl) (fm_cons (hA126.get 4 _ rfl) (fm_cons (hA126.get 5 _ rfl) fm_nil))))
  refine t_norm ?_
  refine wp_ret ?_
  refine t_ret ?_
  refine t_ret ?_
  refine ret1 rfl hA127 (v := (.bool false)) rfl ?_
  exact ⟨rfl, b103⟩
end Go.Proofs.Ytlhompedcphnnaa
