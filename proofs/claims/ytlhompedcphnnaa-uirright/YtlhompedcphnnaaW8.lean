/- A step of the walk. -/
import Derived.Test.YtlhompedcphnnaaW3
namespace Go.Proofs.Ytlhompedcphnnaa
open Go.RowKit
set_option linter.unusedSimpArgs false
set_option linter.unusedVariables false
set_option maxHeartbeats 4000000 in
set_option maxRecDepth 4000 in
theorem step_3 (Bd g : Nat) (p : Int) (r : Nat → Int) (rd ev pa : Value) (i : Ins) (d k : Nat) (rds : List Int) (evs : List Ev) (path : List Int) (w : World) (hB : Bd ≤ w.heap.size) (hW : WS Bd g w p r rds evs path rd ev pa) (hne : evs.length ≤ 1000) (hnp : path.length ≤ 1000) (hr : ∀ k, wfI (r k)) (hp : 0 ≤ p) (hp2 : p ≤ 1000) (hd : d < 8) (hk : k < 8) (hbr : ronB i.b = true) : Calls Try.prog 36 #[.pointer (some ⟨g, 0, none⟩), .agg (insC ⟨3, ((d : Nat) : Int), ((k : Nat) : Int), i.b, i.imm, i.loc, i.off, i.index, i.size, i.fn, i.acq, i.weak, i.rel, i.pred, i.succ, i.to, i.zero⟩)] w fun e w' => e = .returned (.bool true) ∧ Below Bd w w' ∧ ∃ rd' ev' pa', WS Bd g w' (p + 1) (updR r d (aluR i.fn (r k) (orR r i.b i.imm))) rds evs (path ++ [p]) rd' ev' pa' := by
  obtain ⟨hb, hge, hrd, hev, hpa, oe, op_, ap⟩ := hW
  have ap2 : ∀ k, ev.ownBlock = some k → pa.ownBlock ≠ some k := fun k h1 h2 => ap k h2 h1
  have b0 : Below Bd w w := Below.refl _ _
  refine enter (n := 117) Try.func36 rfl rfl (Nat.le_of_ble_eq_true rfl) ?_
  intro a1 hA2
  refine wp_seq ?_
  refine wp_region_lit ?_
  refine q_step hA2 rfl (d_box (wn rfl) (hA2.ev (v := (.agg (insC ⟨3, ((d : Nat) : Int), ((k : Nat) : Int), i.b, i.imm, i.loc, i.off, i.index, i.size, i.fn, i.acq, i.weak, i.rel, i.pred, i.succ, i.to, i.zero⟩))) rfl) ?_)
  intro g3 w4 eg5 hG6 (m7 : Blk w4 g3 (insC ⟨3, ((d : Nat) : Int), ((k : Nat) : Int), i.b, i.imm, i.loc, i.off, i.index, i.size, i.fn, i.acq, i.weak, i.rel, i.pred, i.succ, i.to, i.zero⟩) 23)
  have ge8 : Bd ≤ g3 := eg5 ▸ (Nat.le_trans hB b0.size)
  have n9 : g ≠ g3 := fun h => Nat.lt_irrefl _ ((h.trans eg5) ▸ hb.lt)
  have off10 := own_new hev eg5
  have off11 := own_new hpa eg5
  have m12 := hb.grow hG6
  have b13 := below_grow b0 hG6 (Nat.le_trans hB b0.size)
  have ho14 := own_grow hG6 hev
  have ho15 := own_grow hG6 hpa
  intro a16 hA17
  refine q_step hA17 rfl (d_assign (wn rfl) (hA17.ev (v := (.bool false)) rfl) ?_)
  intro a18 hA19
  refine q_end ?_
  have hA20 : St 117 [(0, (.pointer (some ⟨g, 0, none⟩))), (3, (.pointer (some ⟨g3, 0, none⟩))), (4, (.bool false))] a18 := hA19.cut _ (fm_cons (hA19.get 0 _ rfl) (fm_cons (hA19.get 3 _ rfl) (fm_cons (hA19.get 4 _ rfl) fm_nil)))
  refine t_norm ?_
  refine wp_seq ?_
  refine wp_region_lit ?_
  refine q_step hA20 rfl (d_move (wn rfl) (hA20.ev (v := (.pointer (some ⟨g, 0, none⟩))) rfl) ?_)
  intro a21 hA22
  refine q_step hA22 rfl (d_nilCheck (wn rfl) (hA22.ev (v := (.pointer (some ⟨g, 0, none⟩))) rfl) ?_)
  intro a23 hA24
  refine q_step hA24 rfl (d_fieldAddr (wn rfl) (hA24.ev (v := (.pointer (some ⟨g, 0, none⟩))) rfl) fo62_0 ?_)
  intro a25 hA26
  refine q_step hA26 rfl (d_load (v := (.int .i64 p)) (wn rfl) (hA26.ev (v := (.pointer (some ⟨g, 0, none⟩))) rfl) one3 (m12.cell rfl) ?_)
  intro a27 hA28
  refine q_step hA28 rfl (d_bin (wn rfl) (hA28.ev (v := (.int .i64 p)) rfl) (hA28.ev (v := (.int .i64 1)) rfl) (b_add _ _ p 1 _ (by omega) (by omega)) ?_)
  intro a29 hA30
  refine q_step hA30 rfl (d_assign (wn rfl) (hA30.ev (v := (.int .i64 (p + 1))) rfl) ?_)
  intro a31 hA32
  refine q_end ?_
  have hA33 : St 117 [(0, (.pointer (some ⟨g, 0, none⟩))), (3, (.pointer (some ⟨g3, 0, none⟩))), (4, (.bool false)), (5, (.int .i64 (p + 1)))] a31 := hA32.cut _ (fm_cons (hA32.get 0 _ rfl) (fm_cons (hA32.get 3 _ rfl) (fm_cons (hA32.get 4 _ rfl) (fm_cons (hA32.get 5 _ rfl) fm_nil))))
  refine t_norm ?_
  refine wp_seq ?_
  refine wp_seq ?_
  refine wp_region_lit ?_
  refine q_step hA33 rfl (d_fieldAddr (wn rfl) (hA33.ev (v := (.pointer (some ⟨g3, 0, none⟩))) rfl) fo23_0 ?_)
  intro a34 hA35
  refine q_step hA35 rfl (d_load (v := (.int .i64 3)) (wn rfl) (hA35.ev (v := (.pointer (some ⟨g3, 0, none⟩))) rfl) one3 (m7.cell rfl) ?_)
  intro a36 hA37
  refine q_end ?_
  have hA38 : St 117 [(0, (.pointer (some ⟨g, 0, none⟩))), (3, (.pointer (some ⟨g3, 0, none⟩))), (4, (.bool false)), (5, (.int .i64 (p + 1))), (12, (.int .i64 3))] a36 := hA37.cut _ (fm_cons (hA37.get 0 _ rfl) (fm_cons (hA37.get 3 _ rfl) (fm_cons (hA37.get 4 _ rfl) (fm_cons (hA37.get 5 _ rfl) (fm_cons (hA37.get 12 _ rfl) fm_nil)))))
  refine t_norm ?_
  refine wp_block ?_
  refine wp_seq ?_
  refine wp_region_lit ?_
  refine q_step hA38 rfl (d_bin (wn rfl) (hA38.ev (v := (.int .i64 3)) rfl) (hA38.ev (v := (.int .i64 1)) rfl) (b_eq _ _ 3 1 false _ rfl) ?_)
  intro a39 hA40
  refine q_step hA40 rfl (d_assign (wn rfl) (hA40.ev (v := (.bool false)) rfl) ?_)
  intro a41 hA42
  refine q_end ?_
  have hA43 : St 117 [(0, (.pointer (some ⟨g, 0, none⟩))), (3, (.pointer (some ⟨g3, 0, none⟩))), (4, (.bool false)), (5, (.int .i64 (p + 1))), (12, (.int .i64 3)), (13, (.bool false))] a41 := hA42.cut _ (fm_cons (hA42.get 0 _ rfl) (fm_cons (hA42.get 3 _ rfl) (fm_cons (hA42.get 4 _ rfl) (fm_cons (hA42.get 5 _ rfl) (fm_cons (hA42.get 12 _ rfl) (fm_cons (hA42.get 13 _ rfl) fm_nil))))))
  refine t_norm ?_
  refine c_false hA43 rfl ?_
  refine wp_seq ?_
  refine wp_region_lit ?_
  refine q_step hA43 rfl (d_bin (wn rfl) (hA43.ev (v := (.int .i64 3)) rfl) (hA43.ev (v := (.int .i64 2)) rfl) (b_eq _ _ 3 2 false _ rfl) ?_)
  intro a44 hA45
  refine q_step hA45 rfl (d_assign (wn rfl) (hA45.ev (v := (.bool false)) rfl) ?_)
  intro a46 hA47
  refine q_end ?_
  have hA48 : St 117 [(0, (.pointer (some ⟨g, 0, none⟩))), (3, (.pointer (some ⟨g3, 0, none⟩))), (4, (.bool false)), (5, (.int .i64 (p + 1))), (12, (.int .i64 3)), (23, (.bool false))] a46 := hA47.cut _ (fm_cons (hA47.get 0 _ rfl) (fm_cons (hA47.get 3 _ rfl) (fm_cons (hA47.get 4 _ rfl) (fm_cons (hA47.get 5 _ rfl) (fm_cons (hA47.get 12 _ rfl) (fm_cons (hA47.get 23 _ rfl) fm_nil))))))
  refine t_norm ?_
  refine c_false hA48 rfl ?_
  refine wp_seq ?_
  refine wp_region_lit ?_
  refine q_step hA48 rfl (d_bin (wn rfl) (hA48.ev (v := (.int .i64 3)) rfl) (hA48.ev (v := (.int .i64 3)) rfl) (b_eq _ _ 3 3 true _ rfl) ?_)
  intro a49 hA50
  refine q_step hA50 rfl (d_assign (wn rfl) (hA50.ev (v := (.bool true)) rfl) ?_)
  intro a51 hA52
  refine q_end ?_
  have hA53 : St 117 [(0, (.pointer (some ⟨g, 0, none⟩))), (3, (.pointer (some ⟨g3, 0, none⟩))), (4, (.bool false)), (5, (.int .i64 (p + 1))), (12, (.int .i64 3)), (38, (.bool true))] a51 := hA52.cut _ (fm_cons (hA52.get 0 _ rfl) (fm_cons (hA52.get 3 _ rfl) (fm_cons (hA52.get 4 _ rfl) (fm_cons (hA52.get 5 _ rfl) (fm_cons (hA52.get 12 _ rfl) (fm_cons (hA52.get 38 _ rfl) fm_nil))))))
  refine t_norm ?_
  refine c_true hA53 rfl ?_
  have hA54 : St 117 [(0, (.pointer (some ⟨g, 0, none⟩))), (3, (.pointer (some ⟨g3, 0, none⟩))), (4, (.bool false)), (5, (.int .i64 (p + 1)))] a51 := hA53.cut _ (fm_cons (hA53.get 0 _ rfl) (fm_cons (hA53.get 3 _ rfl) (fm_cons (hA53.get 4 _ rfl) (fm_cons (hA53.get 5 _ rfl) fm_nil))))
  let M55 : Nat → Option (Array Value) := fun _ => none
  have hM55 : M55 = fun _ => none := rfl
  clear_value M55
  have hM55A : ∀ k, M55 k = none := fun k => congrFun hM55 k
  have hM55B : ∀ k, k < Bd → M55 k = none := fun k _ => hM55A k
  refine drawnL (S := SM M55) rfl (tabL [cv (.pointer (some ⟨g, 0, none⟩)), cv (.pointer (some ⟨g3, 1, none⟩)), cv (.int .i64 ((d : Nat) : Int)), cv (.pointer (some ⟨g3, 9, none⟩)), cv (.int .i64 i.fn), cv (.pointer (some ⟨g, 0, none⟩)), cv (.pointer (some ⟨g3, 2, none⟩)), cv (.int .i64 ((k : Nat) : Int)), cv (.pointer (some ⟨g, 0, none⟩)), cv (.pointer (some ⟨g, 1, none⟩)), cv (.pointer (some ⟨g, 1 + k, none⟩)), cv (.int .i64 (r k)), cv (.pointer (some ⟨g, 0, none⟩)), cv (.pointer (some ⟨g3, 3, none⟩)), cv (.int .i64 i.b), cv (.pointer (some ⟨g3, 4, none⟩)), cv (.int .i64 i.imm), cv (.int .i64 (orR r i.b i.imm)), cv (.int .i64 (aluR i.fn (r k) (orR r i.b i.imm))), cv (.pointer (some ⟨g, 0, none⟩)), cv (.pointer (some ⟨g, 1, none⟩)), cv (.pointer (some ⟨g, 1 + d, none⟩))]) none (fun _ => none) (fun _ _ => True) [21, 18, 0, 1, 2, 3, 4, 5, 6, 7, 8, 9, 10, 11, 12, 13, 14, 15, 16, 17, 20, 19] [] mixedY SM.refl SM.trans hA54 (by kernel_rfl) (by kernel_rfl) (fun i v u w h => by cases h) ?_ ?_
  · skip
    refine eachD_cons (.inl ⟨nofun, rfl, fun x y hS hT hk => d_move (wn rfl) (hT.ev (v := (.pointer (some ⟨g, 0, none⟩))) rfl) ⟨SM.refl _, rfl⟩⟩) ?_
    refine eachD_cons (.inl ⟨nofun, rfl, fun x y hS hT hk => d_fieldAddr (wn rfl) (hT.ev (v := (.pointer (some ⟨g3, 0, none⟩))) rfl) fo23_1 ⟨SM.refl _, rfl⟩⟩) ?_
    refine eachD_cons (.inl ⟨nofun, rfl, fun x y hS hT hk => d_load (v := (.int .i64 ((d : Nat) : Int))) (wn rfl) (hk 1 rfl) one3 ((Blk.sm (w := w4.drew) m7 hS (hM55A _)).cell rfl) ⟨SM.refl _, rfl⟩⟩) ?_
    refine eachD_cons (.inl ⟨nofun, rfl, fun x y hS hT hk => d_fieldAddr (wn rfl) (hT.ev (v := (.pointer (some ⟨g3, 0, none⟩))) rfl) fo23_9 ⟨SM.refl _, rfl⟩⟩) ?_
    refine eachD_cons (.inl ⟨nofun, rfl, fun x y hS hT hk => d_load (v := (.int .i64 i.fn)) (wn rfl) (hk 3 rfl) one3 ((Blk.sm (w := w4.drew) m7 hS (hM55A _)).cell rfl) ⟨SM.refl _, rfl⟩⟩) ?_
    refine eachD_cons (.inl ⟨nofun, rfl, fun x y hS hT hk => d_move (wn rfl) (hT.ev (v := (.pointer (some ⟨g, 0, none⟩))) rfl) ⟨SM.refl _, rfl⟩⟩) ?_
    refine eachD_cons (.inl ⟨nofun, rfl, fun x y hS hT hk => d_fieldAddr (wn rfl) (hT.ev (v := (.pointer (some ⟨g3, 0, none⟩))) rfl) fo23_2 ⟨SM.refl _, rfl⟩⟩) ?_
    refine eachD_cons (.inl ⟨nofun, rfl, fun x y hS hT hk => d_load (v := (.int .i64 ((k : Nat) : Int))) (wn rfl) (hk 6 rfl) one3 ((Blk.sm (w := w4.drew) m7 hS (hM55A _)).cell rfl) ⟨SM.refl _, rfl⟩⟩) ?_
    refine eachD_cons (.inl ⟨nofun, rfl, fun x y hS hT hk => d_nilCheck (wn rfl) (hk 5 rfl) ⟨SM.refl _, rfl⟩⟩) ?_
    refine eachD_cons (.inl ⟨nofun, rfl, fun x y hS hT hk => d_fieldAddr (wn rfl) (hk 8 rfl) fo62_1 ⟨SM.refl _, rfl⟩⟩) ?_
    refine eachD_cons (.inl ⟨nofun, rfl, fun x y hS hT hk => d_indexArrP (j := k) (p := 1 + k) (wn rfl) (hk 9 rfl) (hk 7 rfl) arr43 (by omega) (by omega) ⟨SM.refl _, rfl⟩⟩) ?_
    refine eachD_cons (.inl ⟨nofun, rfl, fun x y hS hT hk => d_load (v := (.int .i64 (r k))) (wn rfl) (hk 10 rfl) one3 ((Blk.sm (w := w4.drew) m12 hS (hM55A _)).cell (walk_get (by omega))) ⟨SM.refl _, rfl⟩⟩) ?_
    refine eachD_cons (.inl ⟨nofun, rfl, fun x y hS hT hk => d_move (wn rfl) (hT.ev (v := (.pointer (some ⟨g, 0, none⟩))) rfl) ⟨SM.refl _, rfl⟩⟩) ?_
    refine eachD_cons (.inl ⟨nofun, rfl, fun x y hS hT hk => d_fieldAddr (wn rfl) (hT.ev (v := (.pointer (some ⟨g3, 0, none⟩))) rfl) fo23_3 ⟨SM.refl _, rfl⟩⟩) ?_
    refine eachD_cons (.inl ⟨nofun, rfl, fun x y hS hT hk => d_load (v := (.int .i64 i.b)) (wn rfl) (hk 13 rfl) one3 ((Blk.sm (w := w4.drew) m7 hS (hM55A _)).cell rfl) ⟨SM.refl _, rfl⟩⟩) ?_
    refine eachD_cons (.inl ⟨nofun, rfl, fun x y hS hT hk => d_fieldAddr (wn rfl) (hT.ev (v := (.pointer (some ⟨g3, 0, none⟩))) rfl) fo23_4 ⟨SM.refl _, rfl⟩⟩) ?_
    refine eachD_cons (.inl ⟨nofun, rfl, fun x y hS hT hk => d_load (v := (.int .i64 i.imm)) (wn rfl) (hk 15 rfl) one3 ((Blk.sm (w := w4.drew) m7 hS (hM55A _)).cell rfl) ⟨SM.refl _, rfl⟩⟩) ?_
    refine eachD_cons (.inl ⟨nofun, rfl, fun x y hS hT hk => d_call (wn rfl) ent47 (map3 (show x.eval _ = (.pointer (some ⟨g, 0, none⟩)) from (hk 12 rfl)) (show x.eval _ = (.int .i64 i.b) from (hk 14 rfl)) (show x.eval _ = (.int .i64 i.imm) from (hk 16 rfl))) (regOr_any g p r rd ev pa i.b i.imm y (Blk.sm (w := w4.drew) m12 hS (hM55A _)) hbr) (fun _ _ ⟨he, hG⟩ => ⟨(.int .i64 (orR r i.b i.imm)), he, SM.grow hG, rfl⟩)⟩) ?_
    refine eachD_cons (.inl ⟨nofun, rfl, fun x y hS hT hk => d_call (wn rfl) ent46 (map3 (show x.eval _ = (.int .i64 i.fn) from (hk 4 rfl)) (show x.eval _ = (.int .i64 (r k)) from (hk 11 rfl)) (show x.eval _ = (.int .i64 (orR r i.b i.imm)) from (hk 17 rfl))) (alu_any i.fn (r k) (orR r i.b i.imm) y) (fun _ _ ⟨he, hw⟩ => ⟨(.int .i64 (aluR i.fn (r k) (orR r i.b i.imm))), he, hw ▸ SM.refl _, rfl⟩)⟩) ?_
    refine eachD_cons (.inl ⟨nofun, rfl, fun x y hS hT hk => d_nilCheck (wn rfl) (hk 0 rfl) ⟨SM.refl _, rfl⟩⟩) ?_
    refine eachD_cons (.inl ⟨nofun, rfl, fun x y hS hT hk => d_fieldAddr (wn rfl) (hk 19 rfl) fo62_1 ⟨SM.refl _, rfl⟩⟩) ?_
    refine eachD_cons (.inl ⟨nofun, rfl, fun x y hS hT hk => d_indexArrP (j := d) (p := 1 + d) (wn rfl) (hk 20 rfl) (hk 2 rfl) arr43 (by omega) (by omega) ⟨SM.refl _, rfl⟩⟩) ?_
    exact eachD_one
  rintro a56 w57 hA58 ⟨hS60, hC61⟩
  have hA62 : St 117 [(0, (.pointer (some ⟨g, 0, none⟩))), (4, (.bool false)), (5, (.int .i64 (p + 1))), (58, (.int .i64 (aluR i.fn (r k) (orR r i.b i.imm)))), (61, (.pointer (some ⟨g, 1 + d, none⟩)))] a56 := hA58.cut _ (fm_cons (hA58.get 0 _ rfl) (fm_cons (hA58.get 4 _ rfl) (fm_cons (hA58.get 5 _ rfl) (fm_cons (hC61 18 (Nat.le_of_ble_eq_true rfl)) (fm_cons (hC61 21 (Nat.le_of_ble_eq_true rfl)) fm_nil)))))
  have hG63 : Grow w4 w57 := Grow.trans ((Grow.refl _).drew) (SM.grown (by rw [hM55] at hS60; exact hS60))
  have m64 := m12.grow hG63
  have m65 := m7.grow hG63
  have b66 := below_grow b13 hG63 (Nat.le_trans hB b13.size)
  have ho67 := own_grow hG63 ho14
  have ho68 := own_grow hG63 ho15
  refine d_store (v := (.int .i64 (aluR i.fn (r k) (orR r i.b i.imm)))) (wn rfl) (hA62.ev (v := (.pointer (some ⟨g, 1 + d, none⟩))) rfl) (hA62.ev (v := (.int .i64 (aluR i.fn (r k) (orR r i.b i.imm)))) rfl) one3 rfl m64 (by rw [walk_size]; omega) ?_
  intro w69 hU70 m71
  rw [walk_set (by omega)] at m71
  have m72 := m65.upd hU70 (Ne.symm n9)
  have b73 := hU70.below b66 hge
  have ho74 := own_upd ho67 hU70 oe
  have ho75 := own_upd ho68 hU70 op_
  have hA76 : St 117 [(0, (.pointer (some ⟨g, 0, none⟩))), (4, (.bool false)), (5, (.int .i64 (p + 1)))] a56 := hA62.cut _ (fm_cons (hA62.get 0 _ rfl) (fm_cons (hA62.get 4 _ rfl) (fm_cons (hA62.get 5 _ rfl) fm_nil)))
  refine i_norm ?_
  refine t_norm ?_
  refine wp_seq ?_
  have hA77 : St 117 [(0, (.pointer (some ⟨g, 0, none⟩))), (4, (.bool false)), (5, (.int .i64 (p + 1)))] a56 := hA76.cut _ (fm_cons (hA76.get 0 _ rfl) (fm_cons (hA76.get 4 _ rfl) (fm_cons (hA76.get 5 _ rfl) fm_nil)))
  let M78 : Nat → Option (Array Value) := fun _ => none
  have hM78 : M78 = fun _ => none := rfl
  clear_value M78
  have hM78A : ∀ k, M78 k = none := fun k => congrFun hM78 k
  have hM78B : ∀ k, k < Bd → M78 k = none := fun k _ => hM78A k
  refine drawnL (S := SM M78) rfl (tabQ [some (.pointer (some ⟨g, 0, none⟩)), some (.pointer (some ⟨g, 0, none⟩)), some (.pointer (some ⟨g, 0, none⟩)), some (.pointer (some ⟨g, 11, none⟩)), none, some (.pointer (some ⟨g, 0, none⟩)), some (.pointer (some ⟨g, 0, none⟩)), some (.pointer (some ⟨g, 0, none⟩)), none, none, none, some (.pointer (some ⟨g, 0, none⟩)), some (.pointer (some ⟨g, 11, none⟩))] [cv (.pointer (some ⟨g, 0, none⟩)), cv (.pointer (some ⟨g, 0, none⟩)), cv (.pointer (some ⟨g, 0, none⟩)), cv (.pointer (some ⟨g, 11, none⟩)), cv pa, cv (.pointer (some ⟨g, 0, none⟩)), cv (.pointer (some ⟨g, 0, none⟩)), cv (.pointer (some ⟨g, 0, none⟩)), cv (.int .i64 p), cs1 M78 hM78A #[.int .i64 p] 3, cfree, cv (.pointer (some ⟨g, 0, none⟩)), cv (.pointer (some ⟨g, 11, none⟩))]) (some 10) (fun i => (([some (.pointer (some ⟨g, 0, none⟩)), some (.pointer (some ⟨g, 0, none⟩)), some (.pointer (some ⟨g, 0, none⟩)), some (.pointer (some ⟨g, 11, none⟩)), none, some (.pointer (some ⟨g, 0, none⟩)), some (.pointer (some ⟨g, 0, none⟩)), some (.pointer (some ⟨g, 0, none⟩)), none, none, none, some (.pointer (some ⟨g, 0, none⟩)), some (.pointer (some ⟨g, 11, none⟩))] : List (Option Value))[i]?).getD none) (fun v' w' => w'.ownsRow Bd 3 1 v' (path.length + 1) ((paE path) ++ (#[.int .i64 p] : Array Value).toList) ∧ Below Bd w w' ∧ Blk w' g (walkC p (updR r d (aluR i.fn (r k) (orR r i.b i.imm))) rd ev pa) 62 ∧ Blk w' g3 (insC ⟨3, ((d : Nat) : Int), ((k : Nat) : Int), i.b, i.imm, i.loc, i.off, i.index, i.size, i.fn, i.acq, i.weak, i.rel, i.pred, i.succ, i.to, i.zero⟩) 23 ∧ w'.ownsRow Bd 52 15 ev evs.length (evE evs) ∧ v'.ownBlock ≠ some g ∧ v'.ownBlock ≠ some g3 ∧ ∀ k, ev.ownBlock = some k → v'.ownBlock ≠ some k) [12, 10, 0, 1, 2, 3, 4, 5, 6, 7, 8, 9, 11] [4, 9, 3, 8, 2, 7, 1, 6, 5] mixedY SM.refl SM.trans hA77 (by kernel_rfl) (by kernel_rfl) (tabQ_cv _ _) ?_ ?_
  · skip
    refine eachD_cons (.inr (.inl ⟨by decide, _, rfl, fun x y hT hk hk0 => d_move (wn rfl) (hT.ev (v := (.pointer (some ⟨g, 0, none⟩))) rfl) ⟨rfl, rfl⟩⟩)) ?_
    refine eachD_cons (.inr (.inl ⟨by decide, _, rfl, fun x y hT hk hk0 => d_move (wn rfl) (hT.ev (v := (.pointer (some ⟨g, 0, none⟩))) rfl) ⟨rfl, rfl⟩⟩)) ?_
    refine eachD_cons (.inr (.inl ⟨by decide, _, rfl, fun x y hT hk hk0 => d_nilCheck (wn rfl) (hk 1 _ rfl rfl) ⟨rfl, rfl⟩⟩)) ?_
    refine eachD_cons (.inr (.inl ⟨by decide, _, rfl, fun x y hT hk hk0 => d_fieldAddr (wn rfl) (hk 2 _ rfl rfl) fo62_4 ⟨rfl, rfl⟩⟩)) ?_
    refine eachD_cons (.inl ⟨by decide, rfl, fun x y hS hT hk => d_load (v := pa) (wn rfl) (hk 3 rfl) one30 ((Blk.sm (w := w69.drew) m71 hS (hM78A _)).cell rfl) ⟨SM.refl _, rfl⟩⟩) ?_
    refine eachD_cons (.inr (.inl ⟨by decide, _, rfl, fun x y hT hk hk0 => d_move (wn rfl) (hT.ev (v := (.pointer (some ⟨g, 0, none⟩))) rfl) ⟨rfl, rfl⟩⟩)) ?_
    refine eachD_cons (.inr (.inl ⟨by decide, _, rfl, fun x y hT hk hk0 => d_nilCheck (wn rfl) (hk 5 _ rfl rfl) ⟨rfl, rfl⟩⟩)) ?_
    refine eachD_cons (.inr (.inl ⟨by decide, _, rfl, fun x y hT hk hk0 => d_fieldAddr (wn rfl) (hk 6 _ rfl rfl) fo62_0 ⟨rfl, rfl⟩⟩)) ?_
    refine eachD_cons (.inl ⟨by decide, rfl, fun x y hS hT hk => d_load (v := (.int .i64 p)) (wn rfl) (hk 7 rfl) one3 ((Blk.sm (w := w69.drew) m71 hS (hM78A _)).cell rfl) ⟨SM.refl _, rfl⟩⟩) ?_
    refine eachD_cons (.inl ⟨by decide, rfl, fun x y hS hT hk => d_slice1 (wn rfl) (show x.eval _ = (.int .i64 p) from (hk 8 rfl)) elm30 rfl (by decide) (fun g w' _ hG hb => ⟨SM.grow hG, g, rfl, hb⟩)⟩) ?_
    refine eachD_cons (.inr (.inr ⟨rfl, fun x y hS hT hk => ?_⟩)) ?_
    · skip
      obtain ⟨gb, hvb, hbb⟩ := hk 9 rfl
      have hG : Grow w69 y := Grow.trans ((Grow.refl _).drew) (SM.grown (by rw [hM78] at hS; exact hS))
      have hR := own_grow hG ho75
      have hO := own_grow hG ho74
      have hBl := below_grow b73 hG (Nat.le_trans hB b73.size)
      refine d_append (wn rfl) (show x.eval _ = pa from (hk 4 rfl)) hvb elm30 hR hbb rfl rfl (by omega) (by decide) (Nat.le_trans hB hBl.size) ?_
      intro v' w' h1 h2 h3
      exact ⟨h1, below_by hBl h2 (Nat.le_trans hB hBl.size) (fun k hk => (own_lt hR k hk).1), (m71.grow hG).by h2 op_, (m72.grow hG).by h2 off11, own_by hO h2 ap2, lies_ne h3 op_ (m71.grow hG).lt, lies_ne h3 off11 (m72.grow hG).lt, lies_ap h3 ap2 hO⟩
    refine eachD_cons (.inr (.inl ⟨by decide, _, rfl, fun x y hT hk hk0 => d_nilCheck (wn rfl) (hk 0 _ rfl rfl) ⟨rfl, rfl⟩⟩)) ?_
    refine eachD_cons (.inr (.inl ⟨by decide, _, rfl, fun x y hT hk hk0 => d_fieldAddr (wn rfl) (hk 11 _ rfl rfl) fo62_4 ⟨rfl, rfl⟩⟩)) ?_
    exact eachD_one
  rintro a79 w80 hA81 ⟨hP83, hW84⟩
  obtain ⟨v85, hv86⟩ : ∃ v', v' = (a79.tmps.getD 110 undef) := ⟨_, rfl⟩
  have hW87 : (fun v' w' => w'.ownsRow Bd 3 1 v' (path.length + 1) ((paE path) ++ (#[.int .i64 p] : Array Value).toList) ∧ Below Bd w w' ∧ Blk w' g (walkC p (updR r d (aluR i.fn (r k) (orR r i.b i.imm))) rd ev pa) 62 ∧ Blk w' g3 (insC ⟨3, ((d : Nat) : Int), ((k : Nat) : Int), i.b, i.imm, i.loc, i.off, i.index, i.size, i.fn, i.acq, i.weak, i.rel, i.pred, i.succ, i.to, i.zero⟩) 23 ∧ w'.ownsRow Bd 52 15 ev evs.length (evE evs) ∧ v'.ownBlock ≠ some g ∧ v'.ownBlock ≠ some g3 ∧ ∀ k, ev.ownBlock = some k → v'.ownBlock ≠ some k) v85 w80 := by rw [hv86]; exact hW84
  obtain ⟨ho88, b89, m90, m91, ho92, off93, off94, ap95⟩ := hW87
  have ap96 : ∀ k, v85.ownBlock = some k → ev.ownBlock ≠ some k := fun k h1 h2 => ap95 k h2 h1
  have hA97 : St 117 [(0, (.pointer (some ⟨g, 0, none⟩))), (4, (.bool false)), (5, (.int .i64 (p + 1))), (110, v85), (112, (.pointer (some ⟨g, 11, none⟩)))] a79 := hA81.cut _ (fm_cons (hA81.get 0 _ rfl) (fm_cons (hA81.get 4 _ rfl) (fm_cons (hA81.get 5 _ rfl) (fm_cons hv86.symm (fm_cons (hP83 12 _ (Nat.le_of_ble_eq_true rfl) (by decide) rfl) fm_nil)))))
  refine d_store (v := v85) (wn rfl) (hA97.ev (v := (.pointer (some ⟨g, 11, none⟩))) rfl) (hA97.ev (v := v85) rfl) one30 (one_slice (own_form ho88)) m90 (Nat.le_of_ble_eq_true rfl) ?_
  intro w98 hU99 (m100 : Blk w98 g (walkC p (updR r d (aluR i.fn (r k) (orR r i.b i.imm))) rd ev v85) 62)
  have m101 := m91.upd hU99 (Ne.symm n9)
  have b102 := hU99.below b89 hge
  have ho103 := own_upd ho92 hU99 oe
  have ho104 := own_upd ho88 hU99 off93
  have hA105 : St 117 [(0, (.pointer (some ⟨g, 0, none⟩))), (4, (.bool false)), (5, (.int .i64 (p + 1)))] a79 := hA97.cut _ (fm_cons (hA97.get 0 _ rfl) (fm_cons (hA97.get 4 _ rfl) (fm_cons (hA97.get 5 _ rfl) fm_nil)))
  refine t_norm ?_
  refine wp_seq ?_
  refine wp_region_lit ?_
  refine q_step hA105 rfl (d_move (wn rfl) (hA105.ev (v := (.pointer (some ⟨g, 0, none⟩))) rfl) ?_)
  intro a106 hA107
  refine q_step hA107 rfl (d_move (wn rfl) (hA107.ev (v := (.int .i64 (p + 1))) rfl) ?_)
  intro a108 hA109
  refine q_step hA109 rfl (d_nilCheck (wn rfl) (hA109.ev (v := (.pointer (some ⟨g, 0, none⟩))) rfl) ?_)
  intro a110 hA111
  refine q_step hA111 rfl (d_fieldAddr (wn rfl) (hA111.ev (v := (.pointer (some ⟨g, 0, none⟩))) rfl) fo62_0 ?_)
  intro a112 hA113
  refine q_step hA113 rfl (d_store (v := (.int .i64 (p + 1))) (wn rfl) (hA113.ev (v := (.pointer (some ⟨g, 0, none⟩))) rfl) (hA113.ev (v := (.int .i64 (p + 1))) rfl) one3 rfl m100 (Nat.le_of_ble_eq_true rfl) ?_)
  intro w114 hU115 (m116 : Blk w114 g (walkC (p + 1) (updR r d (aluR i.fn (r k) (orR r i.b i.imm))) rd ev v85) 62)
  have m117 := m101.upd hU115 (Ne.symm n9)
  have b118 := hU115.below b102 hge
  have ho119 := own_upd ho103 hU115 oe
  have ho120 := own_upd ho104 hU115 off93
  intro a121 hA122
  refine q_end ?_
  have hA123 : St 117 [(4, (.bool false))] a121 := hA122.cut _ (fm_cons (hA122.get 4 _ rfl) fm_nil)
  refine t_norm ?_
  refine wp_seq ?_
  refine wp_region_lit ?_
  refine q_step hA123 rfl (d_assign (wn rfl) (hA123.ev (v := (.bool true)) rfl) ?_)
  intro a124 hA125
  refine q_end ?_
  have hA126 : St 117 [(4, (.bool true))] a124 := hA125.cut _ (fm_cons (hA125.get 4 _ rfl) fm_nil)
  refine t_norm ?_
  refine wp_ret ?_
  refine ret1 rfl hA126 (v := (.bool true)) rfl ?_
  exact ⟨rfl, b118, rd, ev, v85, m116, hge, (hrd.below b118), ho119, (by rw [List.length_append, ← paE_snoc]; exact ho120), oe, off93, ap96⟩
set_option maxHeartbeats 4000000 in
set_option maxRecDepth 4000 in
theorem step_7 (Bd g : Nat) (p : Int) (r : Nat → Int) (rd ev pa : Value) (i : Ins) (rds : List Int) (evs : List Ev) (path : List Int) (w : World) (hB : Bd ≤ w.heap.size) (hW : WS Bd g w p r rds evs path rd ev pa) (hne : evs.length ≤ 1000) (hnp : path.length ≤ 1000) (hr : ∀ k, wfI (r k)) (hp : 0 ≤ p) (hp2 : p ≤ 1000) : Calls Try.prog 36 #[.pointer (some ⟨g, 0, none⟩), .agg (insC ⟨7, i.dst, i.a, i.b, i.imm, i.loc, i.off, i.index, i.size, i.fn, i.acq, i.weak, i.rel, i.pred, i.succ, i.to, i.zero⟩)] w fun e w' => e = .returned (.bool true) ∧ Below Bd w w' ∧ ∃ rd' ev' pa', WS Bd g w' (p + 1) r rds (evs ++ [ev0 { i with op := 7 } path.length p]) (path ++ [p]) rd' ev' pa' := by
  obtain ⟨hb, hge, hrd, hev, hpa, oe, op_, ap⟩ := hW
  have ap2 : ∀ k, ev.ownBlock = some k → pa.ownBlock ≠ some k := fun k h1 h2 => ap k h2 h1
  have b0 : Below Bd w w := Below.refl _ _
  refine enter (n := 117) Try.func36 rfl rfl (Nat.le_of_ble_eq_true rfl) ?_
  intro a1 hA2
  refine wp_seq ?_
  refine wp_region_lit ?_
  refine q_step hA2 rfl (d_box (wn rfl) (hA2.ev (v := (.agg (insC ⟨7, i.dst, i.a, i.b, i.imm, i.loc, i.off, i.index, i.size, i.fn, i.acq, i.weak, i.rel, i.pred, i.succ, i.to, i.zero⟩))) rfl) ?_)
  intro g3 w4 eg5 hG6 (m7 : Blk w4 g3 (insC ⟨7, i.dst, i.a, i.b, i.imm, i.loc, i.off, i.index, i.size, i.fn, i.acq, i.weak, i.rel, i.pred, i.succ, i.to, i.zero⟩) 23)
  have ge8 : Bd ≤ g3 := eg5 ▸ (Nat.le_trans hB b0.size)
  have n9 : g ≠ g3 := fun h => Nat.lt_irrefl _ ((h.trans eg5) ▸ hb.lt)
  have off10 := own_new hev eg5
  have off11 := own_new hpa eg5
  have m12 := hb.grow hG6
  have b13 := below_grow b0 hG6 (Nat.le_trans hB b0.size)
  have ho14 := own_grow hG6 hev
  have ho15 := own_grow hG6 hpa
  intro a16 hA17
  refine q_step hA17 rfl (d_assign (wn rfl) (hA17.ev (v := (.bool false)) rfl) ?_)
  intro a18 hA19
  refine q_end ?_
  have hA20 : St 117 [(0, (.pointer (some ⟨g, 0, none⟩))), (3, (.pointer (some ⟨g3, 0, none⟩))), (4, (.bool false))] a18 := hA19.cut _ (fm_cons (hA19.get 0 _ rfl) (fm_cons (hA19.get 3 _ rfl) (fm_cons (hA19.get 4 _ rfl) fm_nil)))
  refine t_norm ?_
  refine wp_seq ?_
  refine wp_region_lit ?_
  refine q_step hA20 rfl (d_move (wn rfl) (hA20.ev (v := (.pointer (some ⟨g, 0, none⟩))) rfl) ?_)
  intro a21 hA22
  refine q_step hA22 rfl (d_nilCheck (wn rfl) (hA22.ev (v := (.pointer (some ⟨g, 0, none⟩))) rfl) ?_)
  intro a23 hA24
  refine q_step hA24 rfl (d_fieldAddr (wn rfl) (hA24.ev (v := (.pointer (some ⟨g, 0, none⟩))) rfl) fo62_0 ?_)
  intro a25 hA26
  refine q_step hA26 rfl (d_load (v := (.int .i64 p)) (wn rfl) (hA26.ev (v := (.pointer (some ⟨g, 0, none⟩))) rfl) one3 (m12.cell rfl) ?_)
  intro a27 hA28
  refine q_step hA28 rfl (d_bin (wn rfl) (hA28.ev (v := (.int .i64 p)) rfl) (hA28.ev (v := (.int .i64 1)) rfl) (b_add _ _ p 1 _ (by omega) (by omega)) ?_)
  intro a29 hA30
  refine q_step hA30 rfl (d_assign (wn rfl) (hA30.ev (v := (.int .i64 (p + 1))) rfl) ?_)
  intro a31 hA32
  refine q_end ?_
  have hA33 : St 117 [(0, (.pointer (some ⟨g, 0, none⟩))), (3, (.pointer (some ⟨g3, 0, none⟩))), (4, (.bool false)), (5, (.int .i64 (p + 1)))] a31 := hA32.cut _ (fm_cons (hA32.get 0 _ rfl) (fm_cons (hA32.get 3 _ rfl) (fm_cons (hA32.get 4 _ rfl) (fm_cons (hA32.get 5 _ rfl) fm_nil))))
  refine t_norm ?_
  refine wp_seq ?_
  refine wp_seq ?_
  refine wp_region_lit ?_
  refine q_step hA33 rfl (d_fieldAddr (wn rfl) (hA33.ev (v := (.pointer (some ⟨g3, 0, none⟩))) rfl) fo23_0 ?_)
  intro a34 hA35
  refine q_step hA35 rfl (d_load (v := (.int .i64 7)) (wn rfl) (hA35.ev (v := (.pointer (some ⟨g3, 0, none⟩))) rfl) one3 (m7.cell rfl) ?_)
  intro a36 hA37
  refine q_end ?_
  have hA38 : St 117 [(0, (.pointer (some ⟨g, 0, none⟩))), (3, (.pointer (some ⟨g3, 0, none⟩))), (4, (.bool false)), (5, (.int .i64 (p + 1))), (12, (.int .i64 7))] a36 := hA37.cut _ (fm_cons (hA37.get 0 _ rfl) (fm_cons (hA37.get 3 _ rfl) (fm_cons (hA37.get 4 _ rfl) (fm_cons (hA37.get 5 _ rfl) (fm_cons (hA37.get 12 _ rfl) fm_nil)))))
  refine t_norm ?_
  refine wp_block ?_
  refine wp_seq ?_
  refine wp_region_lit ?_
  refine q_step hA38 rfl (d_bin (wn rfl) (hA38.ev (v := (.int .i64 7)) rfl) (hA38.ev (v := (.int .i64 1)) rfl) (b_eq _ _ 7 1 false _ rfl) ?_)
  intro a39 hA40
  refine q_step hA40 rfl (d_assign (wn rfl) (hA40.ev (v := (.bool false)) rfl) ?_)
  intro a41 hA42
  refine q_end ?_
  have hA43 : St 117 [(0, (.pointer (some ⟨g, 0, none⟩))), (3, (.pointer (some ⟨g3, 0, none⟩))), (4, (.bool false)), (5, (.int .i64 (p + 1))), (12, (.int .i64 7)), (13, (.bool false))] a41 := hA42.cut _ (fm_cons (hA42.get 0 _ rfl) (fm_cons (hA42.get 3 _ rfl) (fm_cons (hA42.get 4 _ rfl) (fm_cons (hA42.get 5 _ rfl) (fm_cons (hA42.get 12 _ rfl) (fm_cons (hA42.get 13 _ rfl) fm_nil))))))
  refine t_norm ?_
  refine c_false hA43 rfl ?_
  refine wp_seq ?_
  refine wp_region_lit ?_
  refine q_step hA43 rfl (d_bin (wn rfl) (hA43.ev (v := (.int .i64 7)) rfl) (hA43.ev (v := (.int .i64 2)) rfl) (b_eq _ _ 7 2 false _ rfl) ?_)
  intro a44 hA45
  refine q_step hA45 rfl (d_assign (wn rfl) (hA45.ev (v := (.bool false)) rfl) ?_)
  intro a46 hA47
  refine q_end ?_
  have hA48 : St 117 [(0, (.pointer (some ⟨g, 0, none⟩))), (3, (.pointer (some ⟨g3, 0, none⟩))), (4, (.bool false)), (5, (.int .i64 (p + 1))), (12, (.int .i64 7)), (23, (.bool false))] a46 := hA47.cut _ (fm_cons (hA47.get 0 _ rfl) (fm_cons (hA47.get 3 _ rfl) (fm_cons (hA47.get 4 _ rfl) (fm_cons (hA47.get 5 _ rfl) (fm_cons (hA47.get 12 _ rfl) (fm_cons (hA47.get 23 _ rfl) fm_nil))))))
  refine t_norm ?_
  refine c_false hA48 rfl ?_
  refine wp_seq ?_
  refine wp_region_lit ?_
  refine q_step hA48 rfl (d_bin (wn rfl) (hA48.ev (v := (.int .i64 7)) rfl) (hA48.ev (v := (.int .i64 3)) rfl) (b_eq _ _ 7 3 false _ rfl) ?_)
  intro a49 hA50
  refine q_step hA50 rfl (d_assign (wn rfl) (hA50.ev (v := (.bool false)) rfl) ?_)
  intro a51 hA52
  refine q_end ?_
  have hA53 : St 117 [(0, (.pointer (some ⟨g, 0, none⟩))), (3, (.pointer (some ⟨g3, 0, none⟩))), (4, (.bool false)), (5, (.int .i64 (p + 1))), (12, (.int .i64 7)), (38, (.bool false))] a51 := hA52.cut _ (fm_cons (hA52.get 0 _ rfl) (fm_cons (hA52.get 3 _ rfl) (fm_cons (hA52.get 4 _ rfl) (fm_cons (hA52.get 5 _ rfl) (fm_cons (hA52.get 12 _ rfl) (fm_cons (hA52.get 38 _ rfl) fm_nil))))))
  refine t_norm ?_
  refine c_false hA53 rfl ?_
  refine wp_seq ?_
  refine wp_seq ?_
  refine wp_region_lit ?_
  refine q_step hA53 rfl (d_bin (wn rfl) (hA53.ev (v := (.int .i64 7)) rfl) (hA53.ev (v := (.int .i64 4)) rfl) (b_eq _ _ 7 4 false _ rfl) ?_)
  intro a54 hA55
  refine q_step hA55 rfl (d_assign (wn rfl) (hA55.ev (v := (.bool false)) rfl) ?_)
  intro a56 hA57
  refine q_end ?_
  have hA58 : St 117 [(0, (.pointer (some ⟨g, 0, none⟩))), (3, (.pointer (some ⟨g3, 0, none⟩))), (4, (.bool false)), (5, (.int .i64 (p + 1))), (12, (.int .i64 7)), (62, (.bool false))] a56 := hA57.cut _ (fm_cons (hA57.get 0 _ rfl) (fm_cons (hA57.get 3 _ rfl) (fm_cons (hA57.get 4 _ rfl) (fm_cons (hA57.get 5 _ rfl) (fm_cons (hA57.get 12 _ rfl) (fm_cons (hA57.get 62 _ rfl) fm_nil))))))
  refine t_norm ?_
  refine c_false hA58 rfl ?_
  refine wp_seq ?_
  refine wp_region_lit ?_
  refine q_step hA58 rfl (d_bin (wn rfl) (hA58.ev (v := (.int .i64 7)) rfl) (hA58.ev (v := (.int .i64 5)) rfl) (b_eq _ _ 7 5 false _ rfl) ?_)
  intro a59 hA60
  refine q_step hA60 rfl (d_assign (wn rfl) (hA60.ev (v := (.bool false)) rfl) ?_)
  intro a61 hA62
  refine q_end ?_
  have hA63 : St 117 [(0, (.pointer (some ⟨g, 0, none⟩))), (3, (.pointer (some ⟨g3, 0, none⟩))), (4, (.bool false)), (5, (.int .i64 (p + 1))), (12, (.int .i64 7)), (62, (.bool false))] a61 := hA62.cut _ (fm_cons (hA62.get 0 _ rfl) (fm_cons (hA62.get 3 _ rfl) (fm_cons (hA62.get 4 _ rfl) (fm_cons (hA62.get 5 _ rfl) (fm_cons (hA62.get 12 _ rfl) (fm_cons (hA62.get 62 _ rfl) fm_nil))))))
  refine t_norm ?_
  refine c_false hA63 rfl ?_
  refine wp_region_lit ?_
  refine q_step hA63 rfl (d_bin (wn rfl) (hA63.ev (v := (.int .i64 7)) rfl) (hA63.ev (v := (.int .i64 6)) rfl) (b_eq _ _ 7 6 false _ rfl) ?_)
  intro a64 hA65
  refine q_step hA65 rfl (d_assign (wn rfl) (hA65.ev (v := (.bool false)) rfl) ?_)
  intro a66 hA67
  refine q_end ?_
  have hA68 : St 117 [(0, (.pointer (some ⟨g, 0, none⟩))), (3, (.pointer (some ⟨g3, 0, none⟩))), (4, (.bool false)), (5, (.int .i64 (p + 1))), (12, (.int .i64 7)), (62, (.bool false))] a66 := hA67.cut _ (fm_cons (hA67.get 0 _ rfl) (fm_cons (hA67.get 3 _ rfl) (fm_cons (hA67.get 4 _ rfl) (fm_cons (hA67.get 5 _ rfl) (fm_cons (hA67.get 12 _ rfl) (fm_cons (hA67.get 62 _ rfl) fm_nil))))))
  refine t_norm ?_
  refine c_false hA68 rfl ?_
  refine wp_seq ?_
  refine wp_seq ?_
  refine wp_region_lit ?_
  refine q_step hA68 rfl (d_bin (wn rfl) (hA68.ev (v := (.int .i64 7)) rfl) (hA68.ev (v := (.int .i64 7)) rfl) (b_eq _ _ 7 7 true _ rfl) ?_)
  intro a69 hA70
  refine q_step hA70 rfl (d_assign (wn rfl) (hA70.ev (v := (.bool true)) rfl) ?_)
  intro a71 hA72
  refine q_end ?_
  have hA73 : St 117 [(0, (.pointer (some ⟨g, 0, none⟩))), (3, (.pointer (some ⟨g3, 0, none⟩))), (4, (.bool false)), (5, (.int .i64 (p + 1))), (12, (.int .i64 7)), (70, (.bool true))] a71 := hA72.cut _ (fm_cons (hA72.get 0 _ rfl) (fm_cons (hA72.get 3 _ rfl) (fm_cons (hA72.get 4 _ rfl) (fm_cons (hA72.get 5 _ rfl) (fm_cons (hA72.get 12 _ rfl) (fm_cons (hA72.get 70 _ rfl) fm_nil))))))
  refine t_norm ?_
  refine c_true hA73 rfl ?_
  refine wp_skip ?_
  refine t_norm ?_
  refine c_true hA73 rfl ?_
  have hA74 : St 117 [(0, (.pointer (some ⟨g, 0, none⟩))), (3, (.pointer (some ⟨g3, 0, none⟩))), (4, (.bool false)), (5, (.int .i64 (p + 1)))] a71 := hA73.cut _ (fm_cons (hA73.get 0 _ rfl) (fm_cons (hA73.get 3 _ rfl) (fm_cons (hA73.get 4 _ rfl) (fm_cons (hA73.get 5 _ rfl) fm_nil))))
  let M75 : Nat → Option (Array Value) := fun _ => none
  have hM75 : M75 = fun _ => none := rfl
  clear_value M75
  have hM75A : ∀ k, M75 k = none := fun k => congrFun hM75 k
  have hM75B : ∀ k, k < Bd → M75 k = none := fun k _ => hM75A k
  refine drawnL (S := SM M75) rfl (tabQ [some (.pointer (some ⟨g, 0, none⟩)), some (.pointer (some ⟨g, 0, none⟩)), some (.pointer (some ⟨g, 0, none⟩)), some (.pointer (some ⟨g, 10, none⟩)), none, some (.pointer (some ⟨g, 0, none⟩)), none, none, none, none, some (.pointer (some ⟨g, 0, none⟩)), some (.pointer (some ⟨g, 10, none⟩))] [cv (.pointer (some ⟨g, 0, none⟩)), cv (.pointer (some ⟨g, 0, none⟩)), cv (.pointer (some ⟨g, 0, none⟩)), cv (.pointer (some ⟨g, 10, none⟩)), cv ev, cv (.pointer (some ⟨g, 0, none⟩)), cv (.agg (insC ⟨7, i.dst, i.a, i.b, i.imm, i.loc, i.off, i.index, i.size, i.fn, i.acq, i.weak, i.rel, i.pred, i.succ, i.to, i.zero⟩)), cv (.agg #[.int .i64 0, .int .i64 ((path.length : Nat) : Int), .int .i64 p, .int .i64 7, .int .i64 0, .int .i64 0, .bool false, .bool false, .int .i64 0, .int .i64 0, .bool i.acq, .bool i.weak, .bool i.rel, .int .i64 i.pred, .int .i64 i.succ]), cs1 M75 hM75A #[.int .i64 0, .int .i64 ((path.length : Nat) : Int), .int .i64 p, .int .i64 7, .int .i64 0, .int .i64 0, .bool false, .bool false, .int .i64 0, .int .i64 0, .bool i.acq, .bool i.weak, .bool i.rel, .int .i64 i.pred, .int .i64 i.succ] 52, cfree, cv (.pointer (some ⟨g, 0, none⟩)), cv (.pointer (some ⟨g, 10, none⟩))]) (some 9) (fun i => (([some (.pointer (some ⟨g, 0, none⟩)), some (.pointer (some ⟨g, 0, none⟩)), some (.pointer (some ⟨g, 0, none⟩)), some (.pointer (some ⟨g, 10, none⟩)), none, some (.pointer (some ⟨g, 0, none⟩)), none, none, none, none, some (.pointer (some ⟨g, 0, none⟩)), some (.pointer (some ⟨g, 10, none⟩))] : List (Option Value))[i]?).getD none) (fun v' w' => w'.ownsRow Bd 52 15 v' (evs.length + 1) ((evE evs) ++ (#[.int .i64 0, .int .i64 ((path.length : Nat) : Int), .int .i64 p, .int .i64 7, .int .i64 0, .int .i64 0, .bool false, .bool false, .int .i64 0, .int .i64 0, .bool i.acq, .bool i.weak, .bool i.rel, .int .i64 i.pred, .int .i64 i.succ] : Array Value).toList) ∧ Below Bd w w' ∧ Blk w' g (walkC p r rd ev pa) 62 ∧ Blk w' g3 (insC ⟨7, i.dst, i.a, i.b, i.imm, i.loc, i.off, i.index, i.size, i.fn, i.acq, i.weak, i.rel, i.pred, i.succ, i.to, i.zero⟩) 23 ∧ w'.ownsRow Bd 3 1 pa path.length (paE path) ∧ v'.ownBlock ≠ some g ∧ v'.ownBlock ≠ some g3 ∧ ∀ k, pa.ownBlock = some k → v'.ownBlock ≠ some k) [11, 9, 0, 1, 2, 3, 4, 5, 6, 7, 8, 10] [4, 8, 7, 3, 5, 6, 2, 1] mixedY SM.refl SM.trans hA74 (by kernel_rfl) (by kernel_rfl) (tabQ_cv _ _) ?_ ?_
  · skip
    refine eachD_cons (.inr (.inl ⟨by decide, _, rfl, fun x y hT hk hk0 => d_move (wn rfl) (hT.ev (v := (.pointer (some ⟨g, 0, none⟩))) rfl) ⟨rfl, rfl⟩⟩)) ?_
    refine eachD_cons (.inr (.inl ⟨by decide, _, rfl, fun x y hT hk hk0 => d_move (wn rfl) (hT.ev (v := (.pointer (some ⟨g, 0, none⟩))) rfl) ⟨rfl, rfl⟩⟩)) ?_
    refine eachD_cons (.inr (.inl ⟨by decide, _, rfl, fun x y hT hk hk0 => d_nilCheck (wn rfl) (hk 1 _ rfl rfl) ⟨rfl, rfl⟩⟩)) ?_
    refine eachD_cons (.inr (.inl ⟨by decide, _, rfl, fun x y hT hk hk0 => d_fieldAddr (wn rfl) (hk 2 _ rfl rfl) fo62_3 ⟨rfl, rfl⟩⟩)) ?_
    refine eachD_cons (.inl ⟨by decide, rfl, fun x y hS hT hk => d_load (v := ev) (wn rfl) (hk 3 rfl) one44 ((Blk.sm (w := w4.drew) m12 hS (hM75A _)).cell rfl) ⟨SM.refl _, rfl⟩⟩) ?_
    refine eachD_cons (.inr (.inl ⟨by decide, _, rfl, fun x y hT hk hk0 => d_move (wn rfl) (hT.ev (v := (.pointer (some ⟨g, 0, none⟩))) rfl) ⟨rfl, rfl⟩⟩)) ?_
    refine eachD_cons (.inl ⟨by decide, rfl, fun x y hS hT hk => d_loadRow (cs := (insC ⟨7, i.dst, i.a, i.b, i.imm, i.loc, i.off, i.index, i.size, i.fn, i.acq, i.weak, i.rel, i.pred, i.succ, i.to, i.zero⟩)) (wn rfl) (hT.ev (v := (.pointer (some ⟨g3, 0, none⟩))) rfl) row23 (Blk.sm (w := w4.drew) m7 hS (hM75A _)) ⟨SM.refl _, rfl⟩⟩) ?_
    refine eachD_cons (.inl ⟨by decide, rfl, fun x y hS hT hk => d_call (wn rfl) ent49 (map2 (show x.eval _ = (.pointer (some ⟨g, 0, none⟩)) from (hk 5 rfl)) (show x.eval _ = (.agg (insC ⟨7, i.dst, i.a, i.b, i.imm, i.loc, i.off, i.index, i.size, i.fn, i.acq, i.weak, i.rel, i.pred, i.succ, i.to, i.zero⟩)) from (hk 6 rfl))) (event_any g p r rd ev pa (⟨7, i.dst, i.a, i.b, i.imm, i.loc, i.off, i.index, i.size, i.fn, i.acq, i.weak, i.rel, i.pred, i.succ, i.to, i.zero⟩) path.length Bd (paE path) y (Blk.sm (w := w4.drew) m12 hS (hM75A _)) (own_sm (w := w4.drew) ho15 hS hM75A)) (fun _ _ ⟨he, hG⟩ => ⟨(.agg #[.int .i64 0, .int .i64 ((path.length : Nat) : Int), .int .i64 p, .int .i64 7, .int .i64 0, .int .i64 0, .bool false, .bool false, .int .i64 0, .int .i64 0, .bool i.acq, .bool i.weak, .bool i.rel, .int .i64 i.pred, .int .i64 i.succ]), he, SM.grow hG, rfl⟩)⟩) ?_
    refine eachD_cons (.inl ⟨by decide, rfl, fun x y hS hT hk => d_slice1 (wn rfl) (show x.eval _ = (.agg #[.int .i64 0, .int .i64 ((path.length : Nat) : Int), .int .i64 p, .int .i64 7, .int .i64 0, .int .i64 0, .bool false, .bool false, .int .i64 0, .int .i64 0, .bool i.acq, .bool i.weak, .bool i.rel, .int .i64 i.pred, .int .i64 i.succ]) from (hk 7 rfl)) elm44 rfl (by decide) (fun g w' _ hG hb => ⟨SM.grow hG, g, rfl, hb⟩)⟩) ?_
    refine eachD_cons (.inr (.inr ⟨rfl, fun x y hS hT hk => ?_⟩)) ?_
    · skip
      obtain ⟨gb, hvb, hbb⟩ := hk 8 rfl
      have hG : Grow w4 y := Grow.trans ((Grow.refl _).drew) (SM.grown (by rw [hM75] at hS; exact hS))
      have hR := own_grow hG ho14
      have hO := own_grow hG ho15
      have hBl := below_grow b13 hG (Nat.le_trans hB b13.size)
      refine d_append (wn rfl) (show x.eval _ = ev from (hk 4 rfl)) hvb elm44 hR hbb rfl rfl (by omega) (by decide) (Nat.le_trans hB hBl.size) ?_
      intro v' w' h1 h2 h3
      exact ⟨h1, below_by hBl h2 (Nat.le_trans hB hBl.size) (fun k hk => (own_lt hR k hk).1), (m12.grow hG).by h2 oe, (m7.grow hG).by h2 off10, own_by hO h2 ap, lies_ne h3 oe (m12.grow hG).lt, lies_ne h3 off10 (m7.grow hG).lt, lies_ap h3 ap hO⟩
    refine eachD_cons (.inr (.inl ⟨by decide, _, rfl, fun x y hT hk hk0 => d_nilCheck (wn rfl) (hk 0 _ rfl rfl) ⟨rfl, rfl⟩⟩)) ?_
    refine eachD_cons (.inr (.inl ⟨by decide, _, rfl, fun x y hT hk hk0 => d_fieldAddr (wn rfl) (hk 10 _ rfl rfl) fo62_3 ⟨rfl, rfl⟩⟩)) ?_
    exact eachD_one
  rintro a76 w77 hA78 ⟨hP80, hW81⟩
  obtain ⟨v82, hv83⟩ : ∃ v', v' = (a76.tmps.getD 82 undef) := ⟨_, rfl⟩
  have hW84 : (fun v' w' => w'.ownsRow Bd 52 15 v' (evs.length + 1) ((evE evs) ++ (#[.int .i64 0, .int .i64 ((path.length : Nat) : Int), .int .i64 p, .int .i64 7, .int .i64 0, .int .i64 0, .bool false, .bool false, .int .i64 0, .int .i64 0, .bool i.acq, .bool i.weak, .bool i.rel, .int .i64 i.pred, .int .i64 i.succ] : Array Value).toList) ∧ Below Bd w w' ∧ Blk w' g (walkC p r rd ev pa) 62 ∧ Blk w' g3 (insC ⟨7, i.dst, i.a, i.b, i.imm, i.loc, i.off, i.index, i.size, i.fn, i.acq, i.weak, i.rel, i.pred, i.succ, i.to, i.zero⟩) 23 ∧ w'.ownsRow Bd 3 1 pa path.length (paE path) ∧ v'.ownBlock ≠ some g ∧ v'.ownBlock ≠ some g3 ∧ ∀ k, pa.ownBlock = some k → v'.ownBlock ≠ some k) v82 w77 := by rw [hv83]; exact hW81
  obtain ⟨ho85, b86, m87, m88, ho89, off90, off91, ap92⟩ := hW84
  have ap93 : ∀ k, v82.ownBlock = some k → pa.ownBlock ≠ some k := fun k h1 h2 => ap92 k h2 h1
  have hA94 : St 117 [(0, (.pointer (some ⟨g, 0, none⟩))), (4, (.bool false)), (5, (.int .i64 (p + 1))), (82, v82), (84, (.pointer (some ⟨g, 10, none⟩)))] a76 := hA78.cut _ (fm_cons (hA78.get 0 _ rfl) (fm_cons (hA78.get 4 _ rfl) (fm_cons (hA78.get 5 _ rfl) (fm_cons hv83.symm (fm_cons (hP80 11 _ (Nat.le_of_ble_eq_true rfl) (by decide) rfl) fm_nil)))))
  refine d_store (v := v82) (wn rfl) (hA94.ev (v := (.pointer (some ⟨g, 10, none⟩))) rfl) (hA94.ev (v := v82) rfl) one44 (one_slice (own_form ho85)) m87 (Nat.le_of_ble_eq_true rfl) ?_
  intro w95 hU96 (m97 : Blk w95 g (walkC p r rd v82 pa) 62)
  have m98 := m88.upd hU96 (Ne.symm n9)
  have b99 := hU96.below b86 hge
  have ho100 := own_upd ho85 hU96 off90
  have ho101 := own_upd ho89 hU96 op_
  have hA102 : St 117 [(0, (.pointer (some ⟨g, 0, none⟩))), (4, (.bool false)), (5, (.int .i64 (p + 1)))] a76 := hA94.cut _ (fm_cons (hA94.get 0 _ rfl) (fm_cons (hA94.get 4 _ rfl) (fm_cons (hA94.get 5 _ rfl) fm_nil)))
  refine i_norm ?_
  refine t_norm ?_
  refine wp_seq ?_
  have hA103 : St 117 [(0, (.pointer (some ⟨g, 0, none⟩))), (4, (.bool false)), (5, (.int .i64 (p + 1)))] a76 := hA102.cut _ (fm_cons (hA102.get 0 _ rfl) (fm_cons (hA102.get 4 _ rfl) (fm_cons (hA102.get 5 _ rfl) fm_nil)))
  let M104 : Nat → Option (Array Value) := fun _ => none
  have hM104 : M104 = fun _ => none := rfl
  clear_value M104
  have hM104A : ∀ k, M104 k = none := fun k => congrFun hM104 k
  have hM104B : ∀ k, k < Bd → M104 k = none := fun k _ => hM104A k
  refine drawnL (S := SM M104) rfl (tabQ [some (.pointer (some ⟨g, 0, none⟩)), some (.pointer (some ⟨g, 0, none⟩)), some (.pointer (some ⟨g, 0, none⟩)), some (.pointer (some ⟨g, 11, none⟩)), none, some (.pointer (some ⟨g, 0, none⟩)), some (.pointer (some ⟨g, 0, none⟩)), some (.pointer (some ⟨g, 0, none⟩)), none, none, none, some (.pointer (some ⟨g, 0, none⟩)), some (.pointer (some ⟨g, 11, none⟩))] [cv (.pointer (some ⟨g, 0, none⟩)), cv (.pointer (some ⟨g, 0, none⟩)), cv (.pointer (some ⟨g, 0, none⟩)), cv (.pointer (some ⟨g, 11, none⟩)), cv pa, cv (.pointer (some ⟨g, 0, none⟩)), cv (.pointer (some ⟨g, 0, none⟩)), cv (.pointer (some ⟨g, 0, none⟩)), cv (.int .i64 p), cs1 M104 hM104A #[.int .i64 p] 3, cfree, cv (.pointer (some ⟨g, 0, none⟩)), cv (.pointer (some ⟨g, 11, none⟩))]) (some 10) (fun i => (([some (.pointer (some ⟨g, 0, none⟩)), some (.pointer (some ⟨g, 0, none⟩)), some (.pointer (some ⟨g, 0, none⟩)), some (.pointer (some ⟨g, 11, none⟩)), none, some (.pointer (some ⟨g, 0, none⟩)), some (.pointer (some ⟨g, 0, none⟩)), some (.pointer (some ⟨g, 0, none⟩)), none, none, none, some (.pointer (some ⟨g, 0, none⟩)), some (.pointer (some ⟨g, 11, none⟩))] : List (Option Value))[i]?).getD none) (fun v' w' => w'.ownsRow Bd 3 1 v' (path.length + 1) ((paE path) ++ (#[.int .i64 p] : Array Value).toList) ∧ Below Bd w w' ∧ Blk w' g (walkC p r rd v82 pa) 62 ∧ Blk w' g3 (insC ⟨7, i.dst, i.a, i.b, i.imm, i.loc, i.off, i.index, i.size, i.fn, i.acq, i.weak, i.rel, i.pred, i.succ, i.to, i.zero⟩) 23 ∧ w'.ownsRow Bd 52 15 v82 (evs.length + 1) ((evE evs) ++ (#[.int .i64 0, .int .i64 ((path.length : Nat) : Int), .int .i64 p, .int .i64 7, .int .i64 0, .int .i64 0, .bool false, .bool false, .int .i64 0, .int .i64 0, .bool i.acq, .bool i.weak, .bool i.rel, .int .i64 i.pred, .int .i64 i.succ] : Array Value).toList) ∧ v'.ownBlock ≠ some g ∧ v'.ownBlock ≠ some g3 ∧ ∀ k, v82.ownBlock = some k → v'.ownBlock ≠ some k) [12, 10, 0, 1, 2, 3, 4, 5, 6, 7, 8, 9, 11] [4, 9, 3, 8, 2, 7, 1, 6, 5] mixedY SM.refl SM.trans hA103 (by kernel_rfl) (by kernel_rfl) (tabQ_cv _ _) ?_ ?_
  · skip
    refine eachD_cons (.inr (.inl ⟨by decide, _, rfl, fun x y hT hk hk0 => d_move (wn rfl) (hT.ev (v := (.pointer (some ⟨g, 0, none⟩))) rfl) ⟨rfl, rfl⟩⟩)) ?_
    refine eachD_cons (.inr (.inl ⟨by decide, _, rfl, fun x y hT hk hk0 => d_move (wn rfl) (hT.ev (v := (.pointer (some ⟨g, 0, none⟩))) rfl) ⟨rfl, rfl⟩⟩)) ?_
    refine eachD_cons (.inr (.inl ⟨by decide, _, rfl, fun x y hT hk hk0 => d_nilCheck (wn rfl) (hk 1 _ rfl rfl) ⟨rfl, rfl⟩⟩)) ?_
    refine eachD_cons (.inr (.inl ⟨by decide, _, rfl, fun x y hT hk hk0 => d_fieldAddr (wn rfl) (hk 2 _ rfl rfl) fo62_4 ⟨rfl, rfl⟩⟩)) ?_
    refine eachD_cons (.inl ⟨by decide, rfl, fun x y hS hT hk => d_load (v := pa) (wn rfl) (hk 3 rfl) one30 ((Blk.sm (w := w95.drew) m97 hS (hM104A _)).cell rfl) ⟨SM.refl _, rfl⟩⟩) ?_
    refine eachD_cons (.inr (.inl ⟨by decide, _, rfl, fun x y hT hk hk0 => d_move (wn rfl) (hT.ev (v := (.pointer (some ⟨g, 0, none⟩))) rfl) ⟨rfl, rfl⟩⟩)) ?_
    refine eachD_cons (.inr (.inl ⟨by decide, _, rfl, fun x y hT hk hk0 => d_nilCheck (wn rfl) (hk 5 _ rfl rfl) ⟨rfl, rfl⟩⟩)) ?_
    refine eachD_cons (.inr (.inl ⟨by decide, _, rfl, fun x y hT hk hk0 => d_fieldAddr (wn rfl) (hk 6 _ rfl rfl) fo62_0 ⟨rfl, rfl⟩⟩)) ?_
    refine eachD_cons (.inl ⟨by decide, rfl, fun x y hS hT hk => d_load (v := (.int .i64 p)) (wn rfl) (hk 7 rfl) one3 ((Blk.sm (w := w95.drew) m97 hS (hM104A _)).cell rfl) ⟨SM.refl _, rfl⟩⟩) ?_
    refine eachD_cons (.inl ⟨by decide, rfl, fun x y hS hT hk => d_slice1 (wn rfl) (show x.eval _ = (.int .i64 p) from (hk 8 rfl)) elm30 rfl (by decide) (fun g w' _ hG hb => ⟨SM.grow hG, g, rfl, hb⟩)⟩) ?_
    refine eachD_cons (.inr (.inr ⟨rfl, fun x y hS hT hk => ?_⟩)) ?_
    · skip
      obtain ⟨gb, hvb, hbb⟩ := hk 9 rfl
      have hG : Grow w95 y := Grow.trans ((Grow.refl _).drew) (SM.grown (by rw [hM104] at hS; exact hS))
      have hR := own_grow hG ho101
      have hO := own_grow hG ho100
      have hBl := below_grow b99 hG (Nat.le_trans hB b99.size)
      refine d_append (wn rfl) (show x.eval _ = pa from (hk 4 rfl)) hvb elm30 hR hbb rfl rfl (by omega) (by decide) (Nat.le_trans hB hBl.size) ?_
      intro v' w' h1 h2 h3
      exact ⟨h1, below_by hBl h2 (Nat.le_trans hB hBl.size) (fun k hk => (own_lt hR k hk).1), (m97.grow hG).by h2 op_, (m98.grow hG).by h2 off11, own_by hO h2 ap93, lies_ne h3 op_ (m97.grow hG).lt, lies_ne h3 off11 (m98.grow hG).lt, lies_ap h3 ap93 hO⟩
    refine eachD_cons (.inr (.inl ⟨by decide, _, rfl, fun x y hT hk hk0 => d_nilCheck (wn rfl) (hk 0 _ rfl rfl) ⟨rfl, rfl⟩⟩)) ?_
    refine eachD_cons (.inr (.inl ⟨by decide, _, rfl, fun x y hT hk hk0 => d_fieldAddr (wn rfl) (hk 11 _ rfl rfl) fo62_4 ⟨rfl, rfl⟩⟩)) ?_
    exact eachD_one
  rintro a105 w106 hA107 ⟨hP109, hW110⟩
  obtain ⟨v111, hv112⟩ : ∃ v', v' = (a105.tmps.getD 110 undef) := ⟨_, rfl⟩
  have hW113 : (fun v' w' => w'.ownsRow Bd 3 1 v' (path.length + 1) ((paE path) ++ (#[.int .i64 p] : Array Value).toList) ∧ Below Bd w w' ∧ Blk w' g (walkC p r rd v82 pa) 62 ∧ Blk w' g3 (insC ⟨7, i.dst, i.a, i.b, i.imm, i.loc, i.off, i.index, i.size, i.fn, i.acq, i.weak, i.rel, i.pred, i.succ, i.to, i.zero⟩) 23 ∧ w'.ownsRow Bd 52 15 v82 (evs.length + 1) ((evE evs) ++ (#[.int .i64 0, .int .i64 ((path.length : Nat) : Int), .int .i64 p, .int .i64 7, .int .i64 0, .int .i64 0, .bool false, .bool false, .int .i64 0, .int .i64 0, .bool i.acq, .bool i.weak, .bool i.rel, .int .i64 i.pred, .int .i64 i.succ] : Array Value).toList) ∧ v'.ownBlock ≠ some g ∧ v'.ownBlock ≠ some g3 ∧ ∀ k, v82.ownBlock = some k → v'.ownBlock ≠ some k) v111 w106 := by rw [hv112]; exact hW110
  obtain ⟨ho114, b115, m116, m117, ho118, off119, off120, ap121⟩ := hW113
  have ap122 : ∀ k, v111.ownBlock = some k → v82.ownBlock ≠ some k := fun k h1 h2 => ap121 k h2 h1
  have hA123 : St 117 [(0, (.pointer (some ⟨g, 0, none⟩))), (4, (.bool false)), (5, (.int .i64 (p + 1))), (110, v111), (112, (.pointer (some ⟨g, 11, none⟩)))] a105 := hA107.cut _ (fm_cons (hA107.get 0 _ rfl) (fm_cons (hA107.get 4 _ rfl) (fm_cons (hA107.get 5 _ rfl) (fm_cons hv112.symm (fm_cons (hP109 12 _ (Nat.le_of_ble_eq_true rfl) (by decide) rfl) fm_nil)))))
  refine d_store (v := v111) (wn rfl) (hA123.ev (v := (.pointer (some ⟨g, 11, none⟩))) rfl) (hA123.ev (v := v111) rfl) one30 (one_slice (own_form ho114)) m116 (Nat.le_of_ble_eq_true rfl) ?_
  intro w124 hU125 (m126 : Blk w124 g (walkC p r rd v82 v111) 62)
  have m127 := m117.upd hU125 (Ne.symm n9)
  have b128 := hU125.below b115 hge
  have ho129 := own_upd ho118 hU125 off90
  have ho130 := own_upd ho114 hU125 off119
  have hA131 : St 117 [(0, (.pointer (some ⟨g, 0, none⟩))), (4, (.bool false)), (5, (.int .i64 (p + 1)))] a105 := hA123.cut _ (fm_cons (hA123.get 0 _ rfl) (fm_cons (hA123.get 4 _ rfl) (fm_cons (hA123.get 5 _ rfl) fm_nil)))
  refine t_norm ?_
  refine wp_seq ?_
  refine wp_region_lit ?_
  refine q_step hA131 rfl (d_move (wn rfl) (hA131.ev (v := (.pointer (some ⟨g, 0, none⟩))) rfl) ?_)
  intro a132 hA133
  refine q_step hA133 rfl (d_move (wn rfl) (hA133.ev (v := (.int .i64 (p + 1))) rfl) ?_)
  intro a134 hA135
  refine q_step hA135 rfl (d_nilCheck (wn rfl) (hA135.ev (v := (.pointer (some ⟨g, 0, none⟩))) rfl) ?_)
  intro a136 hA137
  refine q_step hA137 rfl (d_fieldAddr (wn rfl) (hA137.ev (v := (.pointer (some ⟨g, 0, none⟩))) rfl) fo62_0 ?_)
  intro a138 hA139
  refine q_step hA139 rfl (d_store (v := (.int .i64 (p + 1))) (wn rfl) (hA139.ev (v := (.pointer (some ⟨g, 0, none⟩))) rfl) (hA139.ev (v := (.int .i64 (p + 1))) rfl) one3 rfl m126 (Nat.le_of_ble_eq_true rfl) ?_)
  intro w140 hU141 (m142 : Blk w140 g (walkC (p + 1) r rd v82 v111) 62)
  have m143 := m127.upd hU141 (Ne.symm n9)
  have b144 := hU141.below b128 hge
  have ho145 := own_upd ho129 hU141 off90
  have ho146 := own_upd ho130 hU141 off119
  intro a147 hA148
  refine q_end ?_
  have hA149 : St 117 [(4, (.bool false))] a147 := hA148.cut _ (fm_cons (hA148.get 4 _ rfl) fm_nil)
  refine t_norm ?_
  refine wp_seq ?_
  refine wp_region_lit ?_
  refine q_step hA149 rfl (d_assign (wn rfl) (hA149.ev (v := (.bool true)) rfl) ?_)
  intro a150 hA151
  refine q_end ?_
  have hA152 : St 117 [(4, (.bool true))] a150 := hA151.cut _ (fm_cons (hA151.get 4 _ rfl) fm_nil)
  refine t_norm ?_
  refine wp_ret ?_
  refine ret1 rfl hA152 (v := (.bool true)) rfl ?_
  exact ⟨rfl, b144, rd, v82, v111, m142, hge, (hrd.below b144), (by rw [List.length_append, ← evE_snoc]; exact ho145), (by rw [List.length_append, ← paE_snoc]; exact ho146), off90, off119, ap122⟩
set_option maxHeartbeats 4000000 in
set_option maxRecDepth 4000 in
theorem step_8 (Bd g : Nat) (p : Int) (r : Nat → Int) (rd ev pa : Value) (i : Ins) (rds : List Int) (evs : List Ev) (path : List Int) (w : World) (hB : Bd ≤ w.heap.size) (hW : WS Bd g w p r rds evs path rd ev pa) (hne : evs.length ≤ 1000) (hnp : path.length ≤ 1000) (hr : ∀ k, wfI (r k)) (hp : 0 ≤ p) (hp2 : p ≤ 1000) : Calls Try.prog 36 #[.pointer (some ⟨g, 0, none⟩), .agg (insC ⟨8, i.dst, i.a, i.b, i.imm, i.loc, i.off, i.index, i.size, i.fn, i.acq, i.weak, i.rel, i.pred, i.succ, i.to, i.zero⟩)] w fun e w' => e = .returned (.bool true) ∧ Below Bd w w' ∧ ∃ rd' ev' pa', WS Bd g w' (p + 1) r rds (evs ++ [ev0 { i with op := 8 } path.length p]) (path ++ [p]) rd' ev' pa' := by
  obtain ⟨hb, hge, hrd, hev, hpa, oe, op_, ap⟩ := hW
  have ap2 : ∀ k, ev.ownBlock = some k → pa.ownBlock ≠ some k := fun k h1 h2 => ap k h2 h1
  have b0 : Below Bd w w := Below.refl _ _
  refine enter (n := 117) Try.func36 rfl rfl (Nat.le_of_ble_eq_true rfl) ?_
  intro a1 hA2
  refine wp_seq ?_
  refine wp_region_lit ?_
  refine q_step hA2 rfl (d_box (wn rfl) (hA2.ev (v := (.agg (insC ⟨8, i.dst, i.a, i.b, i.imm, i.loc, i.off, i.index, i.size, i.fn, i.acq, i.weak, i.rel, i.pred, i.succ, i.to, i.zero⟩))) rfl) ?_)
  intro g3 w4 eg5 hG6 (m7 : Blk w4 g3 (insC ⟨8, i.dst, i.a, i.b, i.imm, i.loc, i.off, i.index, i.size, i.fn, i.acq, i.weak, i.rel, i.pred, i.succ, i.to, i.zero⟩) 23)
  have ge8 : Bd ≤ g3 := eg5 ▸ (Nat.le_trans hB b0.size)
  have n9 : g ≠ g3 := fun h => Nat.lt_irrefl _ ((h.trans eg5) ▸ hb.lt)
  have off10 := own_new hev eg5
  have off11 := own_new hpa eg5
  have m12 := hb.grow hG6
  have b13 := below_grow b0 hG6 (Nat.le_trans hB b0.size)
  have ho14 := own_grow hG6 hev
  have ho15 := own_grow hG6 hpa
  intro a16 hA17
  refine q_step hA17 rfl (d_assign (wn rfl) (hA17.ev (v := (.bool false)) rfl) ?_)
  intro a18 hA19
  refine q_end ?_
  have hA20 : St 117 [(0, (.pointer (some ⟨g, 0, none⟩))), (3, (.pointer (some ⟨g3, 0, none⟩))), (4, (.bool false))] a18 := hA19.cut _ (fm_cons (hA19.get 0 _ rfl) (fm_cons (hA19.get 3 _ rfl) (fm_cons (hA19.get 4 _ rfl) fm_nil)))
  refine t_norm ?_
  refine wp_seq ?_
  refine wp_region_lit ?_
  refine q_step hA20 rfl (d_move (wn rfl) (hA20.ev (v := (.pointer (some ⟨g, 0, none⟩))) rfl) ?_)
  intro a21 hA22
  refine q_step hA22 rfl (d_nilCheck (wn rfl) (hA22.ev (v := (.pointer (some ⟨g, 0, none⟩))) rfl) ?_)
  intro a23 hA24
  refine q_step hA24 rfl (d_fieldAddr (wn rfl) (hA24.ev (v := (.pointer (some ⟨g, 0, none⟩))) rfl) fo62_0 ?_)
  intro a25 hA26
  refine q_step hA26 rfl (d_load (v := (.int .i64 p)) (wn rfl) (hA26.ev (v := (.pointer (some ⟨g, 0, none⟩))) rfl) one3 (m12.cell rfl) ?_)
  intro a27 hA28
  refine q_step hA28 rfl (d_bin (wn rfl) (hA28.ev (v := (.int .i64 p)) rfl) (hA28.ev (v := (.int .i64 1)) rfl) (b_add _ _ p 1 _ (by omega) (by omega)) ?_)
  intro a29 hA30
  refine q_step hA30 rfl (d_assign (wn rfl) (hA30.ev (v := (.int .i64 (p + 1))) rfl) ?_)
  intro a31 hA32
  refine q_end ?_
  have hA33 : St 117 [(0, (.pointer (some ⟨g, 0, none⟩))), (3, (.pointer (some ⟨g3, 0, none⟩))), (4, (.bool false)), (5, (.int .i64 (p + 1)))] a31 := hA32.cut _ (fm_cons (hA32.get 0 _ rfl) (fm_cons (hA32.get 3 _ rfl) (fm_cons (hA32.get 4 _ rfl) (fm_cons (hA32.get 5 _ rfl) fm_nil))))
  refine t_norm ?_
  refine wp_seq ?_
  refine wp_seq ?_
  refine wp_region_lit ?_
  refine q_step hA33 rfl (d_fieldAddr (wn rfl) (hA33.ev (v := (.pointer (some ⟨g3, 0, none⟩))) rfl) fo23_0 ?_)
  intro a34 hA35
  refine q_step hA35 rfl (d_load (v := (.int .i64 8)) (wn rfl) (hA35.ev (v := (.pointer (some ⟨g3, 0, none⟩))) rfl) one3 (m7.cell rfl) ?_)
  intro a36 hA37
  refine q_end ?_
  have hA38 : St 117 [(0, (.pointer (some ⟨g, 0, none⟩))), (3, (.pointer (some ⟨g3, 0, none⟩))), (4, (.bool false)), (5, (.int .i64 (p + 1))), (12, (.int .i64 8))] a36 := hA37.cut _ (fm_cons (hA37.get 0 _ rfl) (fm_cons (hA37.get 3 _ rfl) (fm_cons (hA37.get 4 _ rfl) (fm_cons (hA37.get 5 _ rfl) (fm_cons (hA37.get 12 _ rfl) fm_nil)))))
  refine t_norm ?_
  refine wp_block ?_
  refine wp_seq ?_
  refine wp_region_lit ?_
  refine q_step hA38 rfl (d_bin (wn rfl) (hA38.ev (v := (.int .i64 8)) rfl) (hA38.ev (v := (.int .i64 1)) rfl) (b_eq _ _ 8 1 false _ rfl) ?_)
  intro a39 hA40
  refine q_step hA40 rfl (d_assign (wn rfl) (hA40.ev (v := (.bool false)) rfl) ?_)
  intro a41 hA42
  refine q_end ?_
  have hA43 : St 117 [(0, (.pointer (some ⟨g, 0, none⟩))), (3, (.pointer (some ⟨g3, 0, none⟩))), (4, (.bool false)), (5, (.int .i64 (p + 1))), (12, (.int .i64 8)), (13, (.bool false))] a41 := hA42.cut _ (fm_cons (hA42.get 0 _ rfl) (fm_cons (hA42.get 3 _ rfl) (fm_cons (hA42.get 4 _ rfl) (fm_cons (hA42.get 5 _ rfl) (fm_cons (hA42.get 12 _ rfl) (fm_cons (hA42.get 13 _ rfl) fm_nil))))))
  refine t_norm ?_
  refine c_false hA43 rfl ?_
  refine wp_seq ?_
  refine wp_region_lit ?_
  refine q_step hA43 rfl (d_bin (wn rfl) (hA43.ev (v := (.int .i64 8)) rfl) (hA43.ev (v := (.int .i64 2)) rfl) (b_eq _ _ 8 2 false _ rfl) ?_)
  intro a44 hA45
  refine q_step hA45 rfl (d_assign (wn rfl) (hA45.ev (v := (.bool false)) rfl) ?_)
  intro a46 hA47
  refine q_end ?_
  have hA48 : St 117 [(0, (.pointer (some ⟨g, 0, none⟩))), (3, (.pointer (some ⟨g3, 0, none⟩))), (4, (.bool false)), (5, (.int .i64 (p + 1))), (12, (.int .i64 8)), (23, (.bool false))] a46 := hA47.cut _ (fm_cons (hA47.get 0 _ rfl) (fm_cons (hA47.get 3 _ rfl) (fm_cons (hA47.get 4 _ rfl) (fm_cons (hA47.get 5 _ rfl) (fm_cons (hA47.get 12 _ rfl) (fm_cons (hA47.get 23 _ rfl) fm_nil))))))
  refine t_norm ?_
  refine c_false hA48 rfl ?_
  refine wp_seq ?_
  refine wp_region_lit ?_
  refine q_step hA48 rfl (d_bin (wn rfl) (hA48.ev (v := (.int .i64 8)) rfl) (hA48.ev (v := (.int .i64 3)) rfl) (b_eq _ _ 8 3 false _ rfl) ?_)
  intro a49 hA50
  refine q_step hA50 rfl (d_assign (wn rfl) (hA50.ev (v := (.bool false)) rfl) ?_)
  intro a51 hA52
  refine q_end ?_
  have hA53 : St 117 [(0, (.pointer (some ⟨g, 0, none⟩))), (3, (.pointer (some ⟨g3, 0, none⟩))), (4, (.bool false)), (5, (.int .i64 (p + 1))), (12, (.int .i64 8)), (38, (.bool false))] a51 := hA52.cut _ (fm_cons (hA52.get 0 _ rfl) (fm_cons (hA52.get 3 _ rfl) (fm_cons (hA52.get 4 _ rfl) (fm_cons (hA52.get 5 _ rfl) (fm_cons (hA52.get 12 _ rfl) (fm_cons (hA52.get 38 _ rfl) fm_nil))))))
  refine t_norm ?_
  refine c_false hA53 rfl ?_
  refine wp_seq ?_
  refine wp_seq ?_
  refine wp_region_lit ?_
  refine q_step hA53 rfl (d_bin (wn rfl) (hA53.ev (v := (.int .i64 8)) rfl) (hA53.ev (v := (.int .i64 4)) rfl) (b_eq _ _ 8 4 false _ rfl) ?_)
  intro a54 hA55
  refine q_step hA55 rfl (d_assign (wn rfl) (hA55.ev (v := (.bool false)) rfl) ?_)
  intro a56 hA57
  refine q_end ?_
  have hA58 : St 117 [(0, (.pointer (some ⟨g, 0, none⟩))), (3, (.pointer (some ⟨g3, 0, none⟩))), (4, (.bool false)), (5, (.int .i64 (p + 1))), (12, (.int .i64 8)), (62, (.bool false))] a56 := hA57.cut _ (fm_cons (hA57.get 0 _ rfl) (fm_cons (hA57.get 3 _ rfl) (fm_cons (hA57.get 4 _ rfl) (fm_cons (hA57.get 5 _ rfl) (fm_cons (hA57.get 12 _ rfl) (fm_cons (hA57.get 62 _ rfl) fm_nil))))))
  refine t_norm ?_
  refine c_false hA58 rfl ?_
  refine wp_seq ?_
  refine wp_region_lit ?_
  refine q_step hA58 rfl (d_bin (wn rfl) (hA58.ev (v := (.int .i64 8)) rfl) (hA58.ev (v := (.int .i64 5)) rfl) (b_eq _ _ 8 5 false _ rfl) ?_)
  intro a59 hA60
  refine q_step hA60 rfl (d_assign (wn rfl) (hA60.ev (v := (.bool false)) rfl) ?_)
  intro a61 hA62
  refine q_end ?_
  have hA63 : St 117 [(0, (.pointer (some ⟨g, 0, none⟩))), (3, (.pointer (some ⟨g3, 0, none⟩))), (4, (.bool false)), (5, (.int .i64 (p + 1))), (12, (.int .i64 8)), (62, (.bool false))] a61 := hA62.cut _ (fm_cons (hA62.get 0 _ rfl) (fm_cons (hA62.get 3 _ rfl) (fm_cons (hA62.get 4 _ rfl) (fm_cons (hA62.get 5 _ rfl) (fm_cons (hA62.get 12 _ rfl) (fm_cons (hA62.get 62 _ rfl) fm_nil))))))
  refine t_norm ?_
  refine c_false hA63 rfl ?_
  refine wp_region_lit ?_
  refine q_step hA63 rfl (d_bin (wn rfl) (hA63.ev (v := (.int .i64 8)) rfl) (hA63.ev (v := (.int .i64 6)) rfl) (b_eq _ _ 8 6 false _ rfl) ?_)
  intro a64 hA65
  refine q_step hA65 rfl (d_assign (wn rfl) (hA65.ev (v := (.bool false)) rfl) ?_)
  intro a66 hA67
  refine q_end ?_
  have hA68 : St 117 [(0, (.pointer (some ⟨g, 0, none⟩))), (3, (.pointer (some ⟨g3, 0, none⟩))), (4, (.bool false)), (5, (.int .i64 (p + 1))), (12, (.int .i64 8)), (62, (.bool false))] a66 := hA67.cut _ (fm_cons (hA67.get 0 _ rfl) (fm_cons (hA67.get 3 _ rfl) (fm_cons (hA67.get 4 _ rfl) (fm_cons (hA67.get 5 _ rfl) (fm_cons (hA67.get 12 _ rfl) (fm_cons (hA67.get 62 _ rfl) fm_nil))))))
  refine t_norm ?_
  refine c_false hA68 rfl ?_
  refine wp_seq ?_
  refine wp_seq ?_
  refine wp_region_lit ?_
  refine q_step hA68 rfl (d_bin (wn rfl) (hA68.ev (v := (.int .i64 8)) rfl) (hA68.ev (v := (.int .i64 7)) rfl) (b_eq _ _ 8 7 false _ rfl) ?_)
  intro a69 hA70
  refine q_step hA70 rfl (d_assign (wn rfl) (hA70.ev (v := (.bool false)) rfl) ?_)
  intro a71 hA72
  refine q_end ?_
  have hA73 : St 117 [(0, (.pointer (some ⟨g, 0, none⟩))), (3, (.pointer (some ⟨g3, 0, none⟩))), (4, (.bool false)), (5, (.int .i64 (p + 1))), (12, (.int .i64 8)), (70, (.bool false))] a71 := hA72.cut _ (fm_cons (hA72.get 0 _ rfl) (fm_cons (hA72.get 3 _ rfl) (fm_cons (hA72.get 4 _ rfl) (fm_cons (hA72.get 5 _ rfl) (fm_cons (hA72.get 12 _ rfl) (fm_cons (hA72.get 70 _ rfl) fm_nil))))))
  refine t_norm ?_
  refine c_false hA73 rfl ?_
  refine wp_region_lit ?_
  refine q_step hA73 rfl (d_bin (wn rfl) (hA73.ev (v := (.int .i64 8)) rfl) (hA73.ev (v := (.int .i64 8)) rfl) (b_eq _ _ 8 8 true _ rfl) ?_)
  intro a74 hA75
  refine q_step hA75 rfl (d_assign (wn rfl) (hA75.ev (v := (.bool true)) rfl) ?_)
  intro a76 hA77
  refine q_end ?_
  have hA78 : St 117 [(0, (.pointer (some ⟨g, 0, none⟩))), (3, (.pointer (some ⟨g3, 0, none⟩))), (4, (.bool false)), (5, (.int .i64 (p + 1))), (12, (.int .i64 8)), (70, (.bool true))] a76 := hA77.cut _ (fm_cons (hA77.get 0 _ rfl) (fm_cons (hA77.get 3 _ rfl) (fm_cons (hA77.get 4 _ rfl) (fm_cons (hA77.get 5 _ rfl) (fm_cons (hA77.get 12 _ rfl) (fm_cons (hA77.get 70 _ rfl) fm_nil))))))
  refine t_norm ?_
  refine c_true hA78 rfl ?_
  have hA79 : St 117 [(0, (.pointer (some ⟨g, 0, none⟩))), (3, (.pointer (some ⟨g3, 0, none⟩))), (4, (.bool false)), (5, (.int .i64 (p + 1)))] a76 := hA78.cut _ (fm_cons (hA78.get 0 _ rfl) (fm_cons (hA78.get 3 _ rfl) (fm_cons (hA78.get 4 _ rfl) (fm_cons (hA78.get 5 _ rfl) fm_nil))))
  let M80 : Nat → Option (Array Value) := fun _ => none
  have hM80 : M80 = fun _ => none := rfl
  clear_value M80
  have hM80A : ∀ k, M80 k = none := fun k => congrFun hM80 k
  have hM80B : ∀ k, k < Bd → M80 k = none := fun k _ => hM80A k
  refine drawnL (S := SM M80) rfl (tabQ [some (.pointer (some ⟨g, 0, none⟩)), some (.pointer (some ⟨g, 0, none⟩)), some (.pointer (some ⟨g, 0, none⟩)), some (.pointer (some ⟨g, 10, none⟩)), none, some (.pointer (some ⟨g, 0, none⟩)), none, none, none, none, some (.pointer (some ⟨g, 0, none⟩)), some (.pointer (some ⟨g, 10, none⟩))] [cv (.pointer (some ⟨g, 0, none⟩)), cv (.pointer (some ⟨g, 0, none⟩)), cv (.pointer (some ⟨g, 0, none⟩)), cv (.pointer (some ⟨g, 10, none⟩)), cv ev, cv (.pointer (some ⟨g, 0, none⟩)), cv (.agg (insC ⟨8, i.dst, i.a, i.b, i.imm, i.loc, i.off, i.index, i.size, i.fn, i.acq, i.weak, i.rel, i.pred, i.succ, i.to, i.zero⟩)), cv (.agg #[.int .i64 0, .int .i64 ((path.length : Nat) : Int), .int .i64 p, .int .i64 8, .int .i64 0, .int .i64 0, .bool false, .bool false, .int .i64 0, .int .i64 0, .bool i.acq, .bool i.weak, .bool i.rel, .int .i64 i.pred, .int .i64 i.succ]), cs1 M80 hM80A #[.int .i64 0, .int .i64 ((path.length : Nat) : Int), .int .i64 p, .int .i64 8, .int .i64 0, .int .i64 0, .bool false, .bool false, .int .i64 0, .int .i64 0, .bool i.acq, .bool i.weak, .bool i.rel, .int .i64 i.pred, .int .i64 i.succ] 52, cfree, cv (.pointer (some ⟨g, 0, none⟩)), cv (.pointer (some ⟨g, 10, none⟩))]) (some 9) (fun i => (([some (.pointer (some ⟨g, 0, none⟩)), some (.pointer (some ⟨g, 0, none⟩)), some (.pointer (some ⟨g, 0, none⟩)), some (.pointer (some ⟨g, 10, none⟩)), none, some (.pointer (some ⟨g, 0, none⟩)), none, none, none, none, some (.pointer (some ⟨g, 0, none⟩)), some (.pointer (some ⟨g, 10, none⟩))] : List (Option Value))[i]?).getD none) (fun v' w' => w'.ownsRow Bd 52 15 v' (evs.length + 1) ((evE evs) ++ (#[.int .i64 0, .int .i64 ((path.length : Nat) : Int), .int .i64 p, .int .i64 8, .int .i64 0, .int .i64 0, .bool false, .bool false, .int .i64 0, .int .i64 0, .bool i.acq, .bool i.weak, .bool i.rel, .int .i64 i.pred, .int .i64 i.succ] : Array Value).toList) ∧ Below Bd w w' ∧ Blk w' g (walkC p r rd ev pa) 62 ∧ Blk w' g3 (insC ⟨8, i.dst, i.a, i.b, i.imm, i.loc, i.off, i.index, i.size, i.fn, i.acq, i.weak, i.rel, i.pred, i.succ, i.to, i.zero⟩) 23 ∧ w'.ownsRow Bd 3 1 pa path.length (paE path) ∧ v'.ownBlock ≠ some g ∧ v'.ownBlock ≠ some g3 ∧ ∀ k, pa.ownBlock = some k → v'.ownBlock ≠ some k) [11, 9, 0, 1, 2, 3, 4, 5, 6, 7, 8, 10] [4, 8, 7, 3, 5, 6, 2, 1] mixedY SM.refl SM.trans hA79 (by kernel_rfl) (by kernel_rfl) (tabQ_cv _ _) ?_ ?_
  · skip
    refine eachD_cons (.inr (.inl ⟨by decide, _, rfl, fun x y hT hk hk0 => d_move (wn rfl) (hT.ev (v := (.pointer (some ⟨g, 0, none⟩))) rfl) ⟨rfl, rfl⟩⟩)) ?_
    refine eachD_cons (.inr (.inl ⟨by decide, _, rfl, fun x y hT hk hk0 => d_move (wn rfl) (hT.ev (v := (.pointer (some ⟨g, 0, none⟩))) rfl) ⟨rfl, rfl⟩⟩)) ?_
    refine eachD_cons (.inr (.inl ⟨by decide, _, rfl, fun x y hT hk hk0 => d_nilCheck (wn rfl) (hk 1 _ rfl rfl) ⟨rfl, rfl⟩⟩)) ?_
    refine eachD_cons (.inr (.inl ⟨by decide, _, rfl, fun x y hT hk hk0 => d_fieldAddr (wn rfl) (hk 2 _ rfl rfl) fo62_3 ⟨rfl, rfl⟩⟩)) ?_
    refine eachD_cons (.inl ⟨by decide, rfl, fun x y hS hT hk => d_load (v := ev) (wn rfl) (hk 3 rfl) one44 ((Blk.sm (w := w4.drew) m12 hS (hM80A _)).cell rfl) ⟨SM.refl _, rfl⟩⟩) ?_
    refine eachD_cons (.inr (.inl ⟨by decide, _, rfl, fun x y hT hk hk0 => d_move (wn rfl) (hT.ev (v := (.pointer (some ⟨g, 0, none⟩))) rfl) ⟨rfl, rfl⟩⟩)) ?_
    refine eachD_cons (.inl ⟨by decide, rfl, fun x y hS hT hk => d_loadRow (cs := (insC ⟨8, i.dst, i.a, i.b, i.imm, i.loc, i.off, i.index, i.size, i.fn, i.acq, i.weak, i.rel, i.pred, i.succ, i.to, i.zero⟩)) (wn rfl) (hT.ev (v := (.pointer (some ⟨g3, 0, none⟩))) rfl) row23 (Blk.sm (w := w4.drew) m7 hS (hM80A _)) ⟨SM.refl _, rfl⟩⟩) ?_
    refine eachD_cons (.inl ⟨by decide, rfl, fun x y hS hT hk => d_call (wn rfl) ent49 (map2 (show x.eval _ = (.pointer (some ⟨g, 0, none⟩)) from (hk 5 rfl)) (show x.eval _ = (.agg (insC ⟨8, i.dst, i.a, i.b, i.imm, i.loc, i.off, i.index, i.size, i.fn, i.acq, i.weak, i.rel, i.pred, i.succ, i.to, i.zero⟩)) from (hk 6 rfl))) (event_any g p r rd ev pa (⟨8, i.dst, i.a, i.b, i.imm, i.loc, i.off, i.index, i.size, i.fn, i.acq, i.weak, i.rel, i.pred, i.succ, i.to, i.zero⟩) path.length Bd (paE path) y (Blk.sm (w := w4.drew) m12 hS (hM80A _)) (own_sm (w := w4.drew) ho15 hS hM80A)) (fun _ _ ⟨he, hG⟩ => ⟨(.agg #[.int .i64 0, .int .i64 ((path.length : Nat) : Int), .int .i64 p, .int .i64 8, .int .i64 0, .int .i64 0, .bool false, .bool false, .int .i64 0, .int .i64 0, .bool i.acq, .bool i.weak, .bool i.rel, .int .i64 i.pred, .int .i64 i.succ]), he, SM.grow hG, rfl⟩)⟩) ?_
    refine eachD_cons (.inl ⟨by decide, rfl, fun x y hS hT hk => d_slice1 (wn rfl) (show x.eval _ = (.agg #[.int .i64 0, .int .i64 ((path.length : Nat) : Int), .int .i64 p, .int .i64 8, .int .i64 0, .int .i64 0, .bool false, .bool false, .int .i64 0, .int .i64 0, .bool i.acq, .bool i.weak, .bool i.rel, .int .i64 i.pred, .int .i64 i.succ]) from (hk 7 rfl)) elm44 rfl (by decide) (fun g w' _ hG hb => ⟨SM.grow hG, g, rfl, hb⟩)⟩) ?_
    refine eachD_cons (.inr (.inr ⟨rfl, fun x y hS hT hk => ?_⟩)) ?_
    · skip
      obtain ⟨gb, hvb, hbb⟩ := hk 8 rfl
      have hG : Grow w4 y := Grow.trans ((Grow.refl _).drew) (SM.grown (by rw [hM80] at hS; exact hS))
      have hR := own_grow hG ho14
      have hO := own_grow hG ho15
      have hBl := below_grow b13 hG (Nat.le_trans hB b13.size)
      refine d_append (wn rfl) (show x.eval _ = ev from (hk 4 rfl)) hvb elm44 hR hbb rfl rfl (by omega) (by decide) (Nat.le_trans hB hBl.size) ?_
      intro v' w' h1 h2 h3
      exact ⟨h1, below_by hBl h2 (Nat.le_trans hB hBl.size) (fun k hk => (own_lt hR k hk).1), (m12.grow hG).by h2 oe, (m7.grow hG).by h2 off10, own_by hO h2 ap, lies_ne h3 oe (m12.grow hG).lt, lies_ne h3 off10 (m7.grow hG).lt, lies_ap h3 ap hO⟩
    refine eachD_cons (.inr (.inl ⟨by decide, _, rfl, fun x y hT hk hk0 => d_nilCheck (wn rfl) (hk 0 _ rfl rfl) ⟨rfl, rfl⟩⟩)) ?_
    refine eachD_cons (.inr (.inl ⟨by decide, _, rfl, fun x y hT hk hk0 => d_fieldAddr (wn rfl) (hk 10 _ rfl rfl) fo62_3 ⟨rfl, rfl⟩⟩)) ?_
    exact eachD_one
  rintro a81 w82 hA83 ⟨hP85, hW86⟩
  obtain ⟨v87, hv88⟩ : ∃ v', v' = (a81.tmps.getD 82 undef) := ⟨_, rfl⟩
  have hW89 : (fun v' w' => w'.ownsRow Bd 52 15 v' (evs.length + 1) ((evE evs) ++ (#[.int .i64 0, .int .i64 ((path.length : Nat) : Int), .int .i64 p, .int .i64 8, .int .i64 0, .int .i64 0, .bool false, .bool false, .int .i64 0, .int .i64 0, .bool i.acq, .bool i.weak, .bool i.rel, .int .i64 i.pred, .int .i64 i.succ] : Array Value).toList) ∧ Below Bd w w' ∧ Blk w' g (walkC p r rd ev pa) 62 ∧ Blk w' g3 (insC ⟨8, i.dst, i.a, i.b, i.imm, i.loc, i.off, i.index, i.size, i.fn, i.acq, i.weak, i.rel, i.pred, i.succ, i.to, i.zero⟩) 23 ∧ w'.ownsRow Bd 3 1 pa path.length (paE path) ∧ v'.ownBlock ≠ some g ∧ v'.ownBlock ≠ some g3 ∧ ∀ k, pa.ownBlock = some k → v'.ownBlock ≠ some k) v87 w82 := by rw [hv88]; exact hW86
  obtain ⟨ho90, b91, m92, m93, ho94, off95, off96, ap97⟩ := hW89
  have ap98 : ∀ k, v87.ownBlock = some k → pa.ownBlock ≠ some k := fun k h1 h2 => ap97 k h2 h1
  have hA99 : St 117 [(0, (.pointer (some ⟨g, 0, none⟩))), (4, (.bool false)), (5, (.int .i64 (p + 1))), (82, v87), (84, (.pointer (some ⟨g, 10, none⟩)))] a81 := hA83.cut _ (fm_cons (hA83.get 0 _ rfl) (fm_cons (hA83.get 4 _ rfl) (fm_cons (hA83.get 5 _ rfl) (fm_cons hv88.symm (fm_cons (hP85 11 _ (Nat.le_of_ble_eq_true rfl) (by decide) rfl) fm_nil)))))
  refine d_store (v := v87) (wn rfl) (hA99.ev (v := (.pointer (some ⟨g, 10, none⟩))) rfl) (hA99.ev (v := v87) rfl) one44 (one_slice (own_form ho90)) m92 (Nat.le_of_ble_eq_true rfl) ?_
  intro w100 hU101 (m102 : Blk w100 g (walkC p r rd v87 pa) 62)
  have m103 := m93.upd hU101 (Ne.symm n9)
  have b104 := hU101.below b91 hge
  have ho105 := own_upd ho90 hU101 off95
  have ho106 := own_upd ho94 hU101 op_
  have hA107 : St 117 [(0, (.pointer (some ⟨g, 0, none⟩))), (4, (.bool false)), (5, (.int .i64 (p + 1)))] a81 := hA99.cut _ (fm_cons (hA99.get 0 _ rfl) (fm_cons (hA99.get 4 _ rfl) (fm_cons (hA99.get 5 _ rfl) fm_nil)))
  refine i_norm ?_
  refine t_norm ?_
  refine wp_seq ?_
  have hA108 : St 117 [(0, (.pointer (some ⟨g, 0, none⟩))), (4, (.bool false)), (5, (.int .i64 (p + 1)))] a81 := hA107.cut _ (fm_cons (hA107.get 0 _ rfl) (fm_cons (hA107.get 4 _ rfl) (fm_cons (hA107.get 5 _ rfl) fm_nil)))
  let M109 : Nat → Option (Array Value) := fun _ => none
  have hM109 : M109 = fun _ => none := rfl
  clear_value M109
  have hM109A : ∀ k, M109 k = none := fun k => congrFun hM109 k
  have hM109B : ∀ k, k < Bd → M109 k = none := fun k _ => hM109A k
  refine drawnL (S := SM M109) rfl (tabQ [some (.pointer (some ⟨g, 0, none⟩)), some (.pointer (some ⟨g, 0, none⟩)), some (.pointer (some ⟨g, 0, none⟩)), some (.pointer (some ⟨g, 11, none⟩)), none, some (.pointer (some ⟨g, 0, none⟩)), some (.pointer (some ⟨g, 0, none⟩)), some (.pointer (some ⟨g, 0, none⟩)), none, none, none, some (.pointer (some ⟨g, 0, none⟩)), some (.pointer (some ⟨g, 11, none⟩))] [cv (.pointer (some ⟨g, 0, none⟩)), cv (.pointer (some ⟨g, 0, none⟩)), cv (.pointer (some ⟨g, 0, none⟩)), cv (.pointer (some ⟨g, 11, none⟩)), cv pa, cv (.pointer (some ⟨g, 0, none⟩)), cv (.pointer (some ⟨g, 0, none⟩)), cv (.pointer (some ⟨g, 0, none⟩)), cv (.int .i64 p), cs1 M109 hM109A #[.int .i64 p] 3, cfree, cv (.pointer (some ⟨g, 0, none⟩)), cv (.pointer (some ⟨g, 11, none⟩))]) (some 10) (fun i => (([some (.pointer (some ⟨g, 0, none⟩)), some (.pointer (some ⟨g, 0, none⟩)), some (.pointer (some ⟨g, 0, none⟩)), some (.pointer (some ⟨g, 11, none⟩)), none, some (.pointer (some ⟨g, 0, none⟩)), some (.pointer (some ⟨g, 0, none⟩)), some (.pointer (some ⟨g, 0, none⟩)), none, none, none, some (.pointer (some ⟨g, 0, none⟩)), some (.pointer (some ⟨g, 11, none⟩))] : List (Option Value))[i]?).getD none) (fun v' w' => w'.ownsRow Bd 3 1 v' (path.length + 1) ((paE path) ++ (#[.int .i64 p] : Array Value).toList) ∧ Below Bd w w' ∧ Blk w' g (walkC p r rd v87 pa) 62 ∧ Blk w' g3 (insC ⟨8, i.dst, i.a, i.b, i.imm, i.loc, i.off, i.index, i.size, i.fn, i.acq, i.weak, i.rel, i.pred, i.succ, i.to, i.zero⟩) 23 ∧ w'.ownsRow Bd 52 15 v87 (evs.length + 1) ((evE evs) ++ (#[.int .i64 0, .int .i64 ((path.length : Nat) : Int), .int .i64 p, .int .i64 8, .int .i64 0, .int .i64 0, .bool false, .bool false, .int .i64 0, .int .i64 0, .bool i.acq, .bool i.weak, .bool i.rel, .int .i64 i.pred, .int .i64 i.succ] : Array Value).toList) ∧ v'.ownBlock ≠ some g ∧ v'.ownBlock ≠ some g3 ∧ ∀ k, v87.ownBlock = some k → v'.ownBlock ≠ some k) [12, 10, 0, 1, 2, 3, 4, 5, 6, 7, 8, 9, 11] [4, 9, 3, 8, 2, 7, 1, 6, 5] mixedY SM.refl SM.trans hA108 (by kernel_rfl) (by kernel_rfl) (tabQ_cv _ _) ?_ ?_
  · skip
    refine eachD_cons (.inr (.inl ⟨by decide, _, rfl, fun x y hT hk hk0 => d_move (wn rfl) (hT.ev (v := (.pointer (some ⟨g, 0, none⟩))) rfl) ⟨rfl, rfl⟩⟩)) ?_
    refine eachD_cons (.inr (.inl ⟨by decide, _, rfl, fun x y hT hk hk0 => d_move (wn rfl) (hT.ev (v := (.pointer (some ⟨g, 0, none⟩))) rfl) ⟨rfl, rfl⟩⟩)) ?_
    refine eachD_cons (.inr (.inl ⟨by decide, _, rfl, fun x y hT hk hk0 => d_nilCheck (wn rfl) (hk 1 _ rfl rfl) ⟨rfl, rfl⟩⟩)) ?_
    refine eachD_cons (.inr (.inl ⟨by decide, _, rfl, fun x y hT hk hk0 => d_fieldAddr (wn rfl) (hk 2 _ rfl rfl) fo62_4 ⟨rfl, rfl⟩⟩)) ?_
    refine eachD_cons (.inl ⟨by decide, rfl, fun x y hS hT hk => d_load (v := pa) (wn rfl) (hk 3 rfl) one30 ((Blk.sm (w := w100.drew) m102 hS (hM109A _)).cell rfl) ⟨SM.refl _, rfl⟩⟩) ?_
    refine eachD_cons (.inr (.inl ⟨by decide, _, rfl, fun x y hT hk hk0 => d_move (wn rfl) (hT.ev (v := (.pointer (some ⟨g, 0, none⟩))) rfl) ⟨rfl, rfl⟩⟩)) ?_
    refine eachD_cons (.inr (.inl ⟨by decide, _, rfl, fun x y hT hk hk0 => d_nilCheck (wn rfl) (hk 5 _ rfl rfl) ⟨rfl, rfl⟩⟩)) ?_
    refine eachD_cons (.inr (.inl ⟨by decide, _, rfl, fun x y hT hk hk0 => d_fieldAddr (wn rfl) (hk 6 _ rfl rfl) fo62_0 ⟨rfl, rfl⟩⟩)) ?_
    refine eachD_cons (.inl ⟨by decide, rfl, fun x y hS hT hk => d_load (v := (.int .i64 p)) (wn rfl) (hk 7 rfl) one3 ((Blk.sm (w := w100.drew) m102 hS (hM109A _)).cell rfl) ⟨SM.refl _, rfl⟩⟩) ?_
    refine eachD_cons (.inl ⟨by decide, rfl, fun x y hS hT hk => d_slice1 (wn rfl) (show x.eval _ = (.int .i64 p) from (hk 8 rfl)) elm30 rfl (by decide) (fun g w' _ hG hb => ⟨SM.grow hG, g, rfl, hb⟩)⟩) ?_
    refine eachD_cons (.inr (.inr ⟨rfl, fun x y hS hT hk => ?_⟩)) ?_
    · skip
      obtain ⟨gb, hvb, hbb⟩ := hk 9 rfl
      have hG : Grow w100 y := Grow.trans ((Grow.refl _).drew) (SM.grown (by rw [hM109] at hS; exact hS))
      have hR := own_grow hG ho106
      have hO := own_grow hG ho105
      have hBl := below_grow b104 hG (Nat.le_trans hB b104.size)
      refine d_append (wn rfl) (show x.eval _ = pa from (hk 4 rfl)) hvb elm30 hR hbb rfl rfl (by omega) (by decide) (Nat.le_trans hB hBl.size) ?_
      intro v' w' h1 h2 h3
      exact ⟨h1, below_by hBl h2 (Nat.le_trans hB hBl.size) (fun k hk => (own_lt hR k hk).1), (m102.grow hG).by h2 op_, (m103.grow hG).by h2 off11, own_by hO h2 ap98, lies_ne h3 op_ (m102.grow hG).lt, lies_ne h3 off11 (m103.grow hG).lt, lies_ap h3 ap98 hO⟩
    refine eachD_cons (.inr (.inl ⟨by decide, _, rfl, fun x y hT hk hk0 => d_nilCheck (wn rfl) (hk 0 _ rfl rfl) ⟨rfl, rfl⟩⟩)) ?_
    refine eachD_cons (.inr (.inl ⟨by decide, _, rfl, fun x y hT hk hk0 => d_fieldAddr (wn rfl) (hk 11 _ rfl rfl) fo62_4 ⟨rfl, rfl⟩⟩)) ?_
    exact eachD_one
  rintro a110 w111 hA112 ⟨hP114, hW115⟩
  obtain ⟨v116, hv117⟩ : ∃ v', v' = (a110.tmps.getD 110 undef) := ⟨_, rfl⟩
  have hW118 : (fun v' w' => w'.ownsRow Bd 3 1 v' (path.length + 1) ((paE path) ++ (#[.int .i64 p] : Array Value).toList) ∧ Below Bd w w' ∧ Blk w' g (walkC p r rd v87 pa) 62 ∧ Blk w' g3 (insC ⟨8, i.dst, i.a, i.b, i.imm, i.loc, i.off, i.index, i.size, i.fn, i.acq, i.weak, i.rel, i.pred, i.succ, i.to, i.zero⟩) 23 ∧ w'.ownsRow Bd 52 15 v87 (evs.length + 1) ((evE evs) ++ (#[.int .i64 0, .int .i64 ((path.length : Nat) : Int), .int .i64 p, .int .i64 8, .int .i64 0, .int .i64 0, .bool false, .bool false, .int .i64 0, .int .i64 0, .bool i.acq, .bool i.weak, .bool i.rel, .int .i64 i.pred, .int .i64 i.succ] : Array Value).toList) ∧ v'.ownBlock ≠ some g ∧ v'.ownBlock ≠ some g3 ∧ ∀ k, v87.ownBlock = some k → v'.ownBlock ≠ some k) v116 w111 := by rw [hv117]; exact hW115
  obtain ⟨ho119, b120, m121, m122, ho123, off124, off125, ap126⟩ := hW118
  have ap127 : ∀ k, v116.ownBlock = some k → v87.ownBlock ≠ some k := fun k h1 h2 => ap126 k h2 h1
  have hA128 : St 117 [(0, (.pointer (some ⟨g, 0, none⟩))), (4, (.bool false)), (5, (.int .i64 (p + 1))), (110, v116), (112, (.pointer (some ⟨g, 11, none⟩)))] a110 := hA112.cut _ (fm_cons (hA112.get 0 _ rfl) (fm_cons (hA112.get 4 _ rfl) (fm_cons (hA112.get 5 _ rfl) (fm_cons hv117.symm (fm_cons (hP114 12 _ (Nat.le_of_ble_eq_true rfl) (by decide) rfl) fm_nil)))))
  refine d_store (v := v116) (wn rfl) (hA128.ev (v := (.pointer (some ⟨g, 11, none⟩))) rfl) (hA128.ev (v := v116) rfl) one30 (one_slice (own_form ho119)) m121 (Nat.le_of_ble_eq_true rfl) ?_
  intro w129 hU130 (m131 : Blk w129 g (walkC p r rd v87 v116) 62)
  have m132 := m122.upd hU130 (Ne.symm n9)
  have b133 := hU130.below b120 hge
  have ho134 := own_upd ho123 hU130 off95
  have ho135 := own_upd ho119 hU130 off124
  have hA136 : St 117 [(0, (.pointer (some ⟨g, 0, none⟩))), (4, (.bool false)), (5, (.int .i64 (p + 1)))] a110 := hA128.cut _ (fm_cons (hA128.get 0 _ rfl) (fm_cons (hA128.get 4 _ rfl) (fm_cons (hA128.get 5 _ rfl) fm_nil)))
  refine t_norm ?_
  refine wp_seq ?_
  refine wp_region_lit ?_
  refine q_step hA136 rfl (d_move (wn rfl) (hA136.ev (v := (.pointer (some ⟨g, 0, none⟩))) rfl) ?_)
  intro a137 hA138
  refine q_step hA138 rfl (d_move (wn rfl) (hA138.ev (v := (.int .i64 (p + 1))) rfl) ?_)
  intro a139 hA140
  refine q_step hA140 rfl (d_nilCheck (wn rfl) (hA140.ev (v := (.pointer (some ⟨g, 0, none⟩))) rfl) ?_)
  intro a141 hA142
  refine q_step hA142 rfl (d_fieldAddr (wn rfl) (hA142.ev (v := (.pointer (some ⟨g, 0, none⟩))) rfl) fo62_0 ?_)
  intro a143 hA144
  refine q_step hA144 rfl (d_store (v := (.int .i64 (p + 1))) (wn rfl) (hA144.ev (v := (.pointer (some ⟨g, 0, none⟩))) rfl) (hA144.ev (v := (.int .i64 (p + 1))) rfl) one3 rfl m131 (Nat.le_of_ble_eq_true rfl) ?_)
  intro w145 hU146 (m147 : Blk w145 g (walkC (p + 1) r rd v87 v116) 62)
  have m148 := m132.upd hU146 (Ne.symm n9)
  have b149 := hU146.below b133 hge
  have ho150 := own_upd ho134 hU146 off95
  have ho151 := own_upd ho135 hU146 off124
  intro a152 hA153
  refine q_end ?_
  have hA154 : St 117 [(4, (.bool false))] a152 := hA153.cut _ (fm_cons (hA153.get 4 _ rfl) fm_nil)
  refine t_norm ?_
  refine wp_seq ?_
  refine wp_region_lit ?_
  refine q_step hA154 rfl (d_assign (wn rfl) (hA154.ev (v := (.bool true)) rfl) ?_)
  intro a155 hA156
  refine q_end ?_
  have hA157 : St 117 [(4, (.bool true))] a155 := hA156.cut _ (fm_cons (hA156.get 4 _ rfl) fm_nil)
  refine t_norm ?_
  refine wp_ret ?_
  refine ret1 rfl hA157 (v := (.bool true)) rfl ?_
  exact ⟨rfl, b149, rd, v87, v116, m147, hge, (hrd.below b149), (by rw [List.length_append, ← evE_snoc]; exact ho150), (by rw [List.length_append, ← paE_snoc]; exact ho151), off95, off124, ap127⟩
end Go.Proofs.Ytlhompedcphnnaa
