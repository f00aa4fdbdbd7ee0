/- A step of the walk. -/
import Derived.Test.YtlhompedcphnnaaUirChecksP3
namespace Go.Proofs.Ytlhompedcphnnaa
open Go.RowKit
set_option linter.unusedSimpArgs false
set_option linter.unusedVariables false
set_option maxHeartbeats 4000000 in
set_option maxRecDepth 4000 in
theorem step_3 (Bd g : Nat) (p : Int) (r : Nat → Int) (rd ev pa : Value) (i : Ins) (d k : Nat) (rds : List Int) (evs : List Ev) (path : List Int) (w : World) (hB : Bd ≤ w.heap.size) (hW : WS Bd g w p r rds evs path rd ev pa) (hne : evs.length ≤ 1000) (hnp : path.length ≤ 1000) (hr : ∀ k, wfI (r k)) (hp : 0 ≤ p) (hp2 : p ≤ 1000) (hd : d < 8) (hk : k < 8) (hbr : ronB i.b = true) : Calls Try.prog 36 #[.pointer (some ⟨g, 0, none⟩), .agg (insC ⟨3, ((d : Nat) : Int), ((k : Nat) : Int), i.b, i.imm, i.loc, i.off, i.index, i.size, i.fn, i.acq, i.weak, i.rel, i.pred, i.succ, i.to, i.zero⟩)] w fun e w' => e = .returned (.bool true) ∧ Below Bd w w' ∧ ∃ rd' ev' pa', WS Bd g w' (p + 1) (updR r d (aluR i.fn (r k) (orR r i.b i.imm))) rds evs (path ++ [p]) rd' ev' pa' := by
 obtain ⟨hb, hge, hrd, hev, hpa, oe, op_, ap⟩ := hW
 have ap2 : ∀ k, ev.ownBlock = some k → pa.ownBlock ≠ some k := fun k h1 h2 => ap k h2 h1
 have b0 : Below Bd w w := Below.refl _ _
 refine enter (n := 117) Try.func36 rfl rfl (Nat.le_of_ble_eq_true rfl) ?_
 intro a1 hA2
 refine wp_seq ?_
 refine wp_region_lit ?_
 refine q_step hA2 rfl (d_box (wn rfl) (hA2.ev rfl) ?_)
 intro g3 w4 eg5 hG6 (m7 : Blk w4 g3 (insC ⟨3, ((d : Nat) : Int), ((k : Nat) : Int), i.b, i.imm, i.loc, i.off, i.index, i.size, i.fn, i.acq, i.weak, i.rel, i.pred, i.succ, i.to, i.zero⟩) 23)
 have ge8 : Bd ≤ g3 := eg5 ▸ (Nat.le_trans hB b0.size)
 have n9 : g ≠ g3 := fun h => Nat.lt_irrefl _ ((h.trans eg5) ▸ hb.lt)
 have off10 := own_new hev eg5
 have off11 := own_new hpa eg5
 have m12 := hb.grow hG6
 have b13 := below_grow b0 hG6 (Nat.le_trans hB b0.size)
 have ho14 := own_grow hG6 hev
 have ho15 := own_grow hG6 hpa
 intro a16 hA17
 refine q_step hA17 rfl (d_assign (wn rfl) (hA17.ev rfl) ?_)
 intro a18 hA19
 refine q_end ?_
 have hA20 : St 117 [(0, (.pointer (some ⟨g, 0, none⟩))), (3, (.pointer (some ⟨g3, 0, none⟩))), (4, (.bool false))] a18 := hA19.cut _ (fm_cons (hA19.get 0 _ rfl) (fm_cons (hA19.get 3 _ rfl) (fm_cons (hA19.get 4 _ rfl) fm_nil)))
 refine t_norm ?_
 refine wp_seq ?_
 refine wp_region_lit ?_
 refine q_step hA20 rfl (d_move (wn rfl) (hA20.ev rfl) ?_)
 intro a21 hA22
 refine q_step hA22 rfl (d_nilCheck (wn rfl) (hA22.ev rfl) ?_)
 intro a23 hA24
 refine q_step hA24 rfl (d_fieldAddr (wn rfl) (hA24.ev rfl) fo62_0 ?_)
 intro a25 hA26
 refine q_step hA26 rfl (d_load (v := (.int .i64 p)) (wn rfl) (hA26.ev rfl) one3 (m12.cell rfl) ?_)
 intro a27 hA28
 refine q_step hA28 rfl (d_bin (wn rfl) (hA28.ev rfl) (hA28.ev rfl) (b_add _ _ p 1 _ (by omega) (by omega)) ?_)
 intro a29 hA30
 refine q_step hA30 rfl (d_assign (wn rfl) (hA30.ev rfl) ?_)
 intro a31 hA32
 refine q_end ?_
 have hA33 : St 117 [(0, (.pointer (some ⟨g, 0, none⟩))), (3, (.pointer (some ⟨g3, 0, none⟩))), (4, (.bool false)), (5, (.int .i64 (p + 1)))] a31 := hA32.cut _ (fm_cons (hA32.get 0 _ rfl) (fm_cons (hA32.get 3 _ rfl) (fm_cons (hA32.get 4 _ rfl) (fm_cons (hA32.get 5 _ rfl) fm_nil))))
 refine t_norm ?_
 refine wp_seq ?_
 refine wp_seq ?_
 refine wp_region_lit ?_
 refine q_step hA33 rfl (d_fieldAddr (wn rfl) (hA33.ev rfl) fo23_0 ?_)
 intro a34 hA35
 refine q_step hA35 rfl (d_load (v := (.int .i64 3)) (wn rfl) (hA35.ev rfl) one3 (m7.cell rfl) ?_)
 intro a36 hA37
 refine q_end ?_
 have hA38 : St 117 [(0, (.pointer (some ⟨g, 0, none⟩))), (3, (.pointer (some ⟨g3, 0, none⟩))), (4, (.bool false)), (5, (.int .i64 (p + 1))), (12, (.int .i64 3))] a36 := hA37.cut _ (fm_cons (hA37.get 0 _ rfl) (fm_cons (hA37.get 3 _ rfl) (fm_cons (hA37.get 4 _ rfl) (fm_cons (hA37.get 5 _ rfl) (fm_cons (hA37.get 12 _ rfl) fm_nil)))))
 refine t_norm ?_
 refine wp_block ?_
 refine wp_seq ?_
 refine wp_region_lit ?_
 refine q_step hA38 rfl (d_bin (wn rfl) (hA38.ev rfl) (hA38.ev rfl) (b_eq _ _ 3 1 false _ rfl) ?_)
 intro a39 hA40
 refine q_step hA40 rfl (d_assign (wn rfl) (hA40.ev rfl) ?_)
 intro a41 hA42
 refine q_end ?_
 have hA43 : St 117 [(0, (.pointer (some ⟨g, 0, none⟩))), (3, (.pointer (some ⟨g3, 0, none⟩))), (4, (.bool false)), (5, (.int .i64 (p + 1))), (12, (.int .i64 3)), (13, (.bool false))] a41 := hA42.cut _ (fm_cons (hA42.get 0 _ rfl) (fm_cons (hA42.get 3 _ rfl) (fm_cons (hA42.get 4 _ rfl) (fm_cons (hA42.get 5 _ rfl) (fm_cons (hA42.get 12 _ rfl) (fm_cons (hA42.get 13 _ rfl) fm_nil))))))
 refine t_norm ?_
 refine c_false hA43 rfl ?_
 refine wp_seq ?_
 refine wp_region_lit ?_
 refine q_step hA43 rfl (d_bin (wn rfl) (hA43.ev rfl) (hA43.ev rfl) (b_eq _ _ 3 2 false _ rfl) ?_)
 intro a44 hA45
 refine q_step hA45 rfl (d_assign (wn rfl) (hA45.ev rfl) ?_)
 intro a46 hA47
 refine q_end ?_
 have hA48 : St 117 [(0, (.pointer (some ⟨g, 0, none⟩))), (3, (.pointer (some ⟨g3, 0, none⟩))), (4, (.bool false)), (5, (.int .i64 (p + 1))), (12, (.int .i64 3)), (23, (.bool false))] a46 := hA47.cut _ (fm_cons (hA47.get 0 _ rfl) (fm_cons (hA47.get 3 _ rfl) (fm_cons (hA47.get 4 _ rfl) (fm_cons (hA47.get 5 _ rfl) (fm_cons (hA47.get 12 _ rfl) (fm_cons (hA47.get 23 _ rfl) fm_nil))))))
 refine t_norm ?_
 refine c_false hA48 rfl ?_
 refine wp_seq ?_
 refine wp_region_lit ?_
 refine q_step hA48 rfl (d_bin (wn rfl) (hA48.ev rfl) (hA48.ev rfl) (b_eq _ _ 3 3 true _ rfl) ?_)
 intro a49 hA50
 refine q_step hA50 rfl (d_assign (wn rfl) (hA50.ev rfl) ?_)
 intro a51 hA52
 refine q_end ?_
 have hA53 : St 117 [(0, (.pointer (some ⟨g, 0, none⟩))), (3, (.pointer (some ⟨g3, 0, none⟩))), (4, (.bool false)), (5, (.int .i64 (p + 1))), (12, (.int .i64 3)), (38, (.bool true))] a51 := hA52.cut _ (fm_cons (hA52.get 0 _ rfl) (fm_cons (hA52.get 3 _ rfl) (fm_cons (hA52.get 4 _ rfl) (fm_cons (hA52.get 5 _ rfl) (fm_cons (hA52.get 12 _ rfl) (fm_cons (hA52.get 38 _ rfl) fm_nil))))))
 refine t_norm ?_
 refine c_true hA53 rfl ?_
 have hA54 : St 117 [(0, (.pointer (some ⟨g, 0, none⟩))), (3, (.pointer (some ⟨g3, 0, none⟩))), (4, (.bool false)), (5, (.int .i64 (p + 1)))] a51 := hA53.cut _ (fm_cons (hA53.get 0 _ rfl) (fm_cons (hA53.get 3 _ rfl) (fm_cons (hA53.get 4 _ rfl) (fm_cons (hA53.get 5 _ rfl) fm_nil))))
 let M55 : Nat → Option (Array Value) := fun _ => none
 have hM55 : M55 = fun _ => none := rfl
 clear_value M55
 have hM55A : ∀ k, M55 k = none := fun k => congrFun hM55 k
 have hM55B : ∀ k, k < Bd → M55 k = none := fun k _ => hM55A k
 refine drawnL (S := SM M55) rfl (tabL [cv (.pointer (some ⟨g, 0, none⟩)), cv (.pointer (some ⟨g3, 1, none⟩)), cv (.int .i64 ((d : Nat) : Int)), cv (.pointer (some ⟨g3, 9, none⟩)), cv (.int .i64 i.fn), cv (.pointer (some ⟨g, 0, none⟩)), cv (.pointer (some ⟨g3, 2, none⟩)), cv (.int .i64 ((k : Nat) : Int)), cv (.pointer (some ⟨g, 0, none⟩)), cv (.pointer (some ⟨g, 1, none⟩)), cv (.pointer (some ⟨g, 1 + k, none⟩)), cv (.int .i64 (r k)), cv (.pointer (some ⟨g, 0, none⟩)), cv (.pointer (some ⟨g3, 3, none⟩)), cv (.int .i64 i.b), cv (.pointer (some ⟨g3, 4, none⟩)), cv (.int .i64 i.imm), cv (.int .i64 (orR r i.b i.imm)), cv (.int .i64 (aluR i.fn (r k) (orR r i.b i.imm))), cv (.pointer (some ⟨g, 0, none⟩)), cv (.pointer (some ⟨g, 1, none⟩)), cv (.pointer (some ⟨g, 1 + d, none⟩))]) none (fun _ => none) (fun _ _ => True) [21, 18, 0, 1, 2, 3, 4, 5, 6, 7, 8, 9, 10, 11, 12, 13, 14, 15, 16, 17, 20, 19] [] mixedY SM.refl SM.trans hA54 (by kernel_rfl) (by kernel_rfl) (fun i v u w h => by cases h) ?_ ?_
 ·skip
  refine eachD_cons (.inl ⟨nofun, rfl, fun x y hS hT hk => d_move (wn rfl) (hT.ev rfl) ⟨SM.refl _, rfl⟩⟩) ?_
  refine eachD_cons (.inl ⟨nofun, rfl, fun x y hS hT hk => d_fieldAddr (wn rfl) (hT.ev rfl) fo23_1 ⟨SM.refl _, rfl⟩⟩) ?_
  refine eachD_cons (.inl ⟨nofun, rfl, fun x y hS hT hk => d_load (v := (.int .i64 ((d : Nat) : Int))) (wn rfl) (hk 1 rfl) one3 ((Blk.sm (w := w4.drew) m7 hS (hM55A _)).cell rfl) ⟨SM.refl _, rfl⟩⟩) ?_
  refine eachD_cons (.inl ⟨nofun, rfl, fun x y hS hT hk => d_fieldAddr (wn rfl) (hT.ev rfl) fo23_9 ⟨SM.refl _, rfl⟩⟩) ?_
  refine eachD_cons (.inl ⟨nofun, rfl, fun x y hS hT hk => d_load (v := (.int .i64 i.fn)) (wn rfl) (hk 3 rfl) one3 ((Blk.sm (w := w4.drew) m7 hS (hM55A _)).cell rfl) ⟨SM.refl _, rfl⟩⟩) ?_
  refine eachD_cons (.inl ⟨nofun, rfl, fun x y hS hT hk => d_move (wn rfl) (hT.ev rfl) ⟨SM.refl _, rfl⟩⟩) ?_
  refine eachD_cons (.inl ⟨nofun, rfl, fun x y hS hT hk => d_fieldAddr (wn rfl) (hT.ev rfl) fo23_2 ⟨SM.refl _, rfl⟩⟩) ?_
  refine eachD_cons (.inl ⟨nofun, rfl, fun x y hS hT hk => d_load (v := (.int .i64 ((k : Nat) : Int))) (wn rfl) (hk 6 rfl) one3 ((Blk.sm (w := w4.drew) m7 hS (hM55A _)).cell rfl) ⟨SM.refl _, rfl⟩⟩) ?_
  refine eachD_cons (.inl ⟨nofun, rfl, fun x y hS hT hk => d_nilCheck (wn rfl) (hk 5 rfl) ⟨SM.refl _, rfl⟩⟩) ?_
  refine eachD_cons (.inl ⟨nofun, rfl, fun x y hS hT hk => d_fieldAddr (wn rfl) (hk 8 rfl) fo62_1 ⟨SM.refl _, rfl⟩⟩) ?_
  refine eachD_cons (.inl ⟨nofun, rfl, fun x y hS hT hk => d_indexArrP (j := k) (p := 1 + k) (wn rfl) (hk 9 rfl) (hk 7 rfl) arr43 (by omega) (by omega) ⟨SM.refl _, rfl⟩⟩) ?_
  refine eachD_cons (.inl ⟨nofun, rfl, fun x y hS hT hk => d_load (v := (.int .i64 (r k))) (wn rfl) (hk 10 rfl) one3 ((Blk.sm (w := w4.drew) m12 hS (hM55A _)).cell (walk_get (by omega))) ⟨SM.refl _, rfl⟩⟩) ?_
  refine eachD_cons (.inl ⟨nofun, rfl, fun x y hS hT hk => d_move (wn rfl) (hT.ev rfl) ⟨SM.refl _, rfl⟩⟩) ?_
  refine eachD_cons (.inl ⟨nofun, rfl, fun x y hS hT hk => d_fieldAddr (wn rfl) (hT.ev rfl) fo23_3 ⟨SM.refl _, rfl⟩⟩) ?_
  refine eachD_cons (.inl ⟨nofun, rfl, fun x y hS hT hk => d_load (v := (.int .i64 i.b)) (wn rfl) (hk 13 rfl) one3 ((Blk.sm (w := w4.drew) m7 hS (hM55A _)).cell rfl) ⟨SM.refl _, rfl⟩⟩) ?_
  refine eachD_cons (.inl ⟨nofun, rfl, fun x y hS hT hk => d_fieldAddr (wn rfl) (hT.ev rfl) fo23_4 ⟨SM.refl _, rfl⟩⟩) ?_
  refine eachD_cons (.inl ⟨nofun, rfl, fun x y hS hT hk => d_load (v := (.int .i64 i.imm)) (wn rfl) (hk 15 rfl) one3 ((Blk.sm (w := w4.drew) m7 hS (hM55A _)).cell rfl) ⟨SM.refl _, rfl⟩⟩) ?_
  refine eachD_cons (.inl ⟨nofun, rfl, fun x y hS hT hk => d_call (wn rfl) ent47 (map3 (show x.eval _ = (.pointer (some ⟨g, 0, none⟩)) from (hk 12 rfl)) (show x.eval _ = (.int .i64 i.b) from (hk 14 rfl)) (show x.eval _ = (.int .i64 i.imm) from (hk 16 rfl))) (regOr_any g p r rd ev pa i.b i.imm y (Blk.sm (w := w4.drew) m12 hS (hM55A _)) hbr) (fun _ _ ⟨he, hG⟩ => ⟨(.int .i64 (orR r i.b i.imm)), he, SM.grow hG, rfl⟩)⟩) ?_
  refine eachD_cons (.inl ⟨nofun, rfl, fun x y hS hT hk => d_call (wn rfl) ent46 (map3 (show x.eval _ = (.int .i64 i.fn) from (hk 4 rfl)) (show x.eval _ = (.int .i64 (r k)) from (hk 11 rfl)) (show x.eval _ = (.int .i64 (orR r i.b i.imm)) from (hk 17 rfl))) (alu_any i.fn (r k) (orR r i.b i.imm) y) (fun _ _ ⟨he, hw⟩ => ⟨(.int .i64 (aluR i.fn (r k) (orR r i.b i.imm))), he, hw ▸ SM.refl _, rfl⟩)⟩) ?_
  refine eachD_cons (.inl ⟨nofun, rfl, fun x y hS hT hk => d_nilCheck (wn rfl) (hk 0 rfl) ⟨SM.refl _, rfl⟩⟩) ?_
  refine eachD_cons (.inl ⟨nofun, rfl, fun x y hS hT hk => d_fieldAddr (wn rfl) (hk 19 rfl) fo62_1 ⟨SM.refl _, rfl⟩⟩) ?_
  refine eachD_cons (.inl ⟨nofun, rfl, fun x y hS hT hk => d_indexArrP (j := d) (p := 1 + d) (wn rfl) (hk 20 rfl) (hk 2 rfl) arr43 (by omega) (by omega) ⟨SM.refl _, rfl⟩⟩) ?_
  exact eachD_one
 rintro a56 w57 hA58 ⟨hS60, hC61⟩
 have hA62 : St 117 [(0, (.pointer (some ⟨g, 0, none⟩))), (4, (.bool false)), (5, (.int .i64 (p + 1))), (58, (.int .i64 (aluR i.fn (r k) (orR r i.b i.imm)))), (61, (.pointer (some ⟨g, 1 + d, none⟩)))] a56 := hA58.cut _ (fm_cons (hA58.get 0 _ rfl) (fm_cons (hA58.get 4 _ rfl) (fm_cons (hA58.get 5 _ rfl) (fm_cons (hC61 18 (Nat.le_of_ble_eq_true rfl)) (fm_cons (hC61 21 (Nat.le_of_ble_eq_true rfl)) fm_nil)))))
 have hG63 : Grow w4 w57 := Grow.trans ((Grow.refl _).drew) (SM.grown (by rw [hM55] at hS60; exact hS60))
 have m64 := m12.grow hG63
 have m65 := m7.grow hG63
 have b66 := below_grow b13 hG63 (Nat.le_trans hB b13.size)
 have ho67 := own_grow hG63 ho14
 have ho68 := own_grow hG63 ho15
 refine d_store (v := (.int .i64 (aluR i.fn (r k) (orR r i.b i.imm)))) (wn rfl) (hA62.ev rfl) (hA62.ev rfl) one3 rfl m64 (by rw [walk_size]; omega) ?_
 intro w69 hU70 m71
 rw [walk_set (by omega)] at m71
 have m72 := m65.upd hU70 (Ne.symm n9)
 have b73 := hU70.below b66 hge
 have ho74 := own_upd ho67 hU70 oe
 have ho75 := own_upd ho68 hU70 op_
 have hA76 : St 117 [(0, (.pointer (some ⟨g, 0, none⟩))), (4, (.bool false)), (5, (.int .i64 (p + 1)))] a56 := hA62.cut _ (fm_cons (hA62.get 0 _ rfl) (fm_cons (hA62.get 4 _ rfl) (fm_cons (hA62.get 5 _ rfl) fm_nil)))
 refine i_norm ?_
 refine t_norm ?_
 refine wp_seq ?_
 have hA77 : St 117 [(0, (.pointer (some ⟨g, 0, none⟩))), (4, (.bool false)), (5, (.int .i64 (p + 1)))] a56 := hA76.cut _ (fm_cons (hA76.get 0 _ rfl) (fm_cons (hA76.get 4 _ rfl) (fm_cons (hA76.get 5 _ rfl) fm_nil)))
 let M78 : Nat → Option (Array Value) := fun _ => none
 have hM78 : M78 = fun _ => none := rfl
 clear_value M78
 have hM78A : ∀ k, M78 k = none := fun k => congrFun hM78 k
 have hM78B : ∀ k, k < Bd → M78 k = none := fun k _ => hM78A k
 refine drawnL (S := SM M78) rfl (tabQ [some (.pointer (some ⟨g, 0, none⟩)), some (.pointer (some ⟨g, 0, none⟩)), some (.pointer (some ⟨g, 0, none⟩)), some (.pointer (some ⟨g, 11, none⟩)), none, some (.pointer (some ⟨g, 0, none⟩)), some (.pointer (some ⟨g, 0, none⟩)), some (.pointer (some ⟨g, 0, none⟩)), none, none, none, some (.pointer (some ⟨g, 0, none⟩)), some (.pointer (some ⟨g, 11, none⟩))] [cv (.pointer (some ⟨g, 0, none⟩)), cv (.pointer (some ⟨g, 0, none⟩)), cv (.pointer (some ⟨g, 0, none⟩)), cv (.pointer (some ⟨g, 11, none⟩)), cv pa, cv (.pointer (some ⟨g, 0, none⟩)), cv (.pointer (some ⟨g, 0, none⟩)), cv (.pointer (some ⟨g, 0, none⟩)), cv (.int .i64 p), cs1 M78 hM78A #[.int .i64 p] 3, cfree, cv (.pointer (some ⟨g, 0, none⟩)), cv (.pointer (some ⟨g, 11, none⟩))]) (some 10) (fun i => (([some (.pointer (some ⟨g, 0, none⟩)), some (.pointer (some ⟨g, 0, none⟩)), some (.pointer (some ⟨g, 0, none⟩)), some (.pointer (some ⟨g, 11, none⟩)), none, some (.pointer (some ⟨g, 0, none⟩)), some (.pointer (some ⟨g, 0, none⟩)), some (.pointer (some ⟨g, 0, none⟩)), none, none, none, some (.pointer (some ⟨g, 0, none⟩)), some (.pointer (some ⟨g, 11, none⟩))] : List (Option Value))[i]?).getD none) (fun v' w' => w'.ownsRow Bd 3 1 v' (path.length + 1) ((paE path) ++ (#[.int .i64 p] : Array Value).toList) ∧ Below Bd w w' ∧ Blk w' g (walkC p (updR r d (aluR i.fn (r k) (orR r i.b i.imm))) rd ev pa) 62 ∧ Blk w' g3 (insC ⟨3, ((d : Nat) : Int), ((k : Nat) : Int), i.b, i.imm, i.loc, i.off, i.index, i.size, i.fn, i.acq, i.weak, i.rel, i.pred, i.succ, i.to, i.zero⟩) 23 ∧ w'.ownsRow Bd 52 15 ev evs.length (evE evs) ∧ v'.ownBlock ≠ some g ∧ v'.ownBlock ≠ some g3 ∧ ∀ k, ev.ownBlock = some k → v'.ownBlock ≠ some k) [12, 10, 0, 1, 2, 3, 4, 5, 6, 7, 8, 9, 11] [4, 9, 3, 8, 2, 7, 1, 6, 5] mixedY SM.refl SM.trans hA77 (by kernel_rfl) (by kernel_rfl) (tabQ_cv _ _) ?_ ?_
 ·skip
  refine eachD_cons (.inr (.inl ⟨by decide, _, rfl, fun x y hT hk hk0 => d_move (wn rfl) (hT.ev rfl) ⟨rfl, rfl⟩⟩)) ?_
  refine eachD_cons (.inr (.inl ⟨by decide, _, rfl, fun x y hT hk hk0 => d_move (wn rfl) (hT.ev rfl) ⟨rfl, rfl⟩⟩)) ?_
  refine eachD_cons (.inr (.inl ⟨by decide, _, rfl, fun x y hT hk hk0 => d_nilCheck (wn rfl) (hk 1 _ rfl rfl) ⟨rfl, rfl⟩⟩)) ?_
  refine eachD_cons (.inr (.inl ⟨by decide, _, rfl, fun x y hT hk hk0 => d_fieldAddr (wn rfl) (hk 2 _ rfl rfl) fo62_4 ⟨rfl, rfl⟩⟩)) ?_
  refine eachD_cons (.inl ⟨by decide, rfl, fun x y hS hT hk => d_load (v := pa) (wn rfl) (hk 3 rfl) one30 ((Blk.sm (w := w69.drew) m71 hS (hM78A _)).cell rfl) ⟨SM.refl _, rfl⟩⟩) ?_
  refine eachD_cons (.inr (.inl ⟨by decide, _, rfl, fun x y hT hk hk0 => d_move (wn rfl) (hT.ev rfl) ⟨rfl, rfl⟩⟩)) ?_
  refine eachD_cons (.inr (.inl ⟨by decide, _, rfl, fun x y hT hk hk0 => d_nilCheck (wn rfl) (hk 5 _ rfl rfl) ⟨rfl, rfl⟩⟩)) ?_
  refine eachD_cons (.inr (.inl ⟨by decide, _, rfl, fun x y hT hk hk0 => d_fieldAddr (wn rfl) (hk 6 _ rfl rfl) fo62_0 ⟨rfl, rfl⟩⟩)) ?_
  refine eachD_cons (.inl ⟨by decide, rfl, fun x y hS hT hk => d_load (v := (.int .i64 p)) (wn rfl) (hk 7 rfl) one3 ((Blk.sm (w := w69.drew) m71 hS (hM78A _)).cell rfl) ⟨SM.refl _, rfl⟩⟩) ?_
  refine eachD_cons (.inl ⟨by decide, rfl, fun x y hS hT hk => d_slice1 (wn rfl) (show x.eval _ = (.int .i64 p) from (hk 8 rfl)) elm30 rfl (by decide) (fun g w' _ hG hb => ⟨SM.grow hG, g, rfl, hb⟩)⟩) ?_
  refine eachD_cons (.inr (.inr ⟨rfl, fun x y hS hT hk => ?_⟩)) ?_
  ·skip
   obtain ⟨gb, hvb, hbb⟩ := hk 9 rfl
   have hG : Grow w69 y := Grow.trans ((Grow.refl _).drew) (SM.grown (by rw [hM78] at hS; exact hS))
   have hR := own_grow hG ho75
   have hO := own_grow hG ho74
   have hBl := below_grow b73 hG (Nat.le_trans hB b73.size)
   refine d_append (wn rfl) (show x.eval _ = pa from (hk 4 rfl)) hvb elm30 hR hbb rfl rfl (by omega) (by decide) (Nat.le_trans hB hBl.size) ?_
   intro v' w' h1 h2 h3
   exact ⟨h1, below_by hBl h2 (Nat.le_trans hB hBl.size) (fun k hk => (own_lt hR k hk).1), (m71.grow hG).by h2 op_, (m72.grow hG).by h2 off11, own_by hO h2 ap2, lies_ne h3 op_ (m71.grow hG).lt, lies_ne h3 off11 (m72.grow hG).lt, lies_ap h3 ap2 hO⟩
  refine eachD_cons (.inr (.inl ⟨by decide, _, rfl, fun x y hT hk hk0 => d_nilCheck (wn rfl) (hk 0 _ rfl rfl) ⟨rfl, rfl⟩⟩)) ?_
  refine eachD_cons (.inr (.inl ⟨by decide, _, rfl, fun x y hT hk hk0 => d_fieldAddr (wn rfl) (hk 11 _ rfl rfl) fo62_4 ⟨rfl, rfl⟩⟩)) ?_
  exact eachD_one
 rintro a79 w80 hA81 ⟨hP83, hW84⟩
 obtain ⟨v85, hv86⟩ : ∃ v', v' = (a79.tmps.getD 110 undef) := ⟨_, rfl⟩
 have hW87 : (fun v' w' => w'.ownsRow Bd 3 1 v' (path.length + 1) ((paE path) ++ (#[.int .i64 p] : Array Value).toList) ∧ Below Bd w w' ∧ Blk w' g (walkC p (updR r d (aluR i.fn (r k) (orR r i.b i.imm))) rd ev pa) 62 ∧ Blk w' g3 (insC ⟨3, ((d : Nat) : Int), ((k : Nat) : Int), i.b, i.imm, i.loc, i.off, i.index, i.size, i.fn, i.acq, i.weak, i.rel, i.pred, i.succ, i.to, i.zero⟩) 23 ∧ w'.ownsRow Bd 52 15 ev evs.length (evE evs) ∧ v'.ownBlock ≠ some g ∧ v'.ownBlock ≠ some g3 ∧ ∀ k, ev.ownBlock = some k → v'.ownBlock ≠ some k) v85 w80 := by rw [hv86]; exact hW84
 obtain ⟨ho88, b89, m90, m91, ho92, off93, off94, ap95⟩ := hW87
 have ap96 : ∀ k, v85.ownBlock = some k → ev.ownBlock ≠ some k := fun k h1 h2 => ap95 k h2 h1
 have hA97 : St 117 [(0, (.pointer (some ⟨g, 0, none⟩))), (4, (.bool false)), (5, (.int .i64 (p + 1))), (110, v85), (112, (.pointer (some ⟨g, 11, none⟩)))] a79 := hA81.cut _ (fm_cons (hA81.get 0 _ rfl) (fm_cons (hA81.get 4 _ rfl) (fm_cons (hA81.get 5 _ rfl) (fm_cons hv86.symm (fm_cons (hP83 12 _ (Nat.le_of_ble_eq_true rfl) (by decide) rfl) fm_nil)))))
 refine d_store (v := v85) (wn rfl) (hA97.ev rfl) (hA97.ev rfl) one30 (one_slice (own_form ho88)) m90 (Nat.le_of_ble_eq_true rfl) ?_
 intro w98 hU99 (m100 : Blk w98 g (walkC p (updR r d (aluR i.fn (r k) (orR r i.b i.imm))) rd ev v85) 62)
 have m101 := m91.upd hU99 (Ne.symm n9)
 have b102 := hU99.below b89 hge
 have ho103 := own_upd ho92 hU99 oe
 have ho104 := own_upd ho88 hU99 off93
 have hA105 : St 117 [(0, (.pointer (some ⟨g, 0, none⟩))), (4, (.bool false)), (5, (.int .i64 (p + 1)))] a79 := hA97.cut _ (fm_cons (hA97.get 0 _ rfl) (fm_cons (hA97.get 4 _ rfl) (fm_cons (hA97.get 5 _ rfl) fm_nil)))
 refine t_norm ?_
 refine wp_seq ?_
 refine wp_region_lit ?_
 refine q_step hA105 rfl (d_move (wn rfl) (hA105.ev rfl) ?_)
 intro a106 hA107
 refine q_step hA107 rfl (d_move (wn rfl) (hA107.ev rfl) ?_)
 intro a108 hA109
 refine q_step hA109 rfl (d_nilCheck (wn rfl) (hA109.ev rfl) ?_)
 intro a110 hA111
 refine q_step hA111 rfl (d_fieldAddr (wn rfl) (hA111.ev rfl) fo62_0 ?_)
 intro a112 hA113
 refine q_step hA113 rfl (d_store (v := (.int .i64 (p + 1))) (wn rfl) (hA113.ev rfl) (hA113.ev rfl) one3 rfl m100 (Nat.le_of_ble_eq_true rfl) ?_)
 intro w114 hU115 (m116 : Blk w114 g (walkC (p + 1) (updR r d (aluR i.fn (r k) (orR r i.b i.imm))) rd ev v85) 62)
 have m117 := m101.upd hU115 (Ne.symm n9)
 have b118 := hU115.below b102 hge
 have ho119 := own_upd ho103 hU115 oe
 have ho120 := own_upd ho104 hU115 off93
 intro a121 hA122
 refine q_end ?_
 have hA123 : St 117 [(4, (.bool false))] a121 := hA122.cut _ (fm_cons (hA122.get 4 _ rfl) fm_nil)
 refine t_norm ?_
 refine wp_seq ?_
 refine wp_region_lit ?_
 refine q_step hA123 rfl (d_assign (wn rfl) (hA123.ev rfl) ?_)
 intro a124 hA125
 refine q_end ?_
 have hA126 : St 117 [(4, (.bool true))] a124 := hA125.cut _ (fm_cons (hA125.get 4 _ rfl) fm_nil)
 refine t_norm ?_
 refine wp_ret ?_
 refine ret1 rfl hA126 (v := (.bool true)) rfl ?_
 exact ⟨rfl, b118, rd, ev, v85, m116, hge, (hrd.below b118), ho119, (by rw [List.length_append, ← paE_snoc]; exact ho120), oe, off93, ap96⟩
set_option maxHeartbeats 4000000 in
set_option maxRecDepth 4000 in
theorem step_7 (Bd g : Nat) (p : Int) (r : Nat → Int) (rd ev pa : Value) (i : Ins) (rds : List Int) (evs : List Ev) (path : List Int) (w : World) (hB : Bd ≤ w.heap.size) (hW : WS Bd g w p r rds evs path rd ev pa) (hne : evs.length ≤ 1000) (hnp : path.length ≤ 1000) (hr : ∀ k, wfI (r k)) (hp : 0 ≤ p) (hp2 : p ≤ 1000) : Calls Try.prog 36 #[.pointer (some ⟨g, 0, none⟩), .agg (insC ⟨7, i.dst, i.a, i.b, i.imm, i.loc, i.off, i.index, i.size, i.fn, i.acq, i.weak, i.rel, i.pred, i.succ, i.to, i.zero⟩)] w fun e w' => e = .returned (.bool true) ∧ Below Bd w w' ∧ ∃ rd' ev' pa', WS Bd g w' (p + 1) r rds (evs ++ [ev0 { i with op := 7 } path.length p]) (path ++ [p]) rd' ev' pa' := by
 obtain ⟨hb, hge, hrd, hev, hpa, oe, op_, ap⟩ := hW
 have ap2 : ∀ k, ev.ownBlock = some k → pa.ownBlock ≠ some k := fun k h1 h2 => ap k h2 h1
 have b0 : Below Bd w w := Below.refl _ _
 refine enter (n := 117) Try.func36 rfl rfl (Nat.le_of_ble_eq_true rfl) ?_
 intro a1 hA2
 refine wp_seq ?_
 refine wp_region_lit ?_
 refine q_step hA2 rfl (d_box (wn rfl) (hA2.ev rfl) ?_)
 intro g3 w4 eg5 hG6 (m7 : Blk w4 g3 (insC ⟨7, i.dst, i.a, i.b, i.imm, i.loc, i.off, i.index, i.size, i.fn, i.acq, i.weak, i.rel, i.pred, i.succ, i.to, i.zero⟩) 23)
 have ge8 : Bd ≤ g3 := eg5 ▸ (Nat.le_trans hB b0.size)
 have n9 : g ≠ g3 := fun h => Nat.lt_irrefl _ ((h.trans eg5) ▸ hb.lt)
 have off10 := own_new hev eg5
 have off11 := own_new hpa eg5
 have m12 := hb.grow hG6
 have b13 := below_grow b0 hG6 (Nat.le_trans hB b0.size)
 have ho14 := own_grow hG6 hev
 have ho15 := own_grow hG6 hpa
 intro a16 hA17
 refine q_step hA17 rfl (d_assign (wn rfl) (hA17.ev rfl) ?_)
 intro a18 hA19
 refine q_end ?_
 have hA20 : St 117 [(0, (.pointer (some ⟨g, 0, none⟩))), (3, (.pointer (some ⟨g3, 0, none⟩))), (4, (.bool false))] a18 := hA19.cut _ (fm_cons (hA19.get 0 _ rfl) (fm_cons (hA19.get 3 _ rfl) (fm_cons (hA19.get 4 _ rfl) fm_nil)))
 refine t_norm ?_
 refine wp_seq ?_
 refine wp_region_lit ?_
 refine q_step hA20 rfl (d_move (wn rfl) (hA20.ev rfl) ?_)
 intro a21 hA22
 refine q_step hA22 rfl (d_nilCheck (wn rfl) (hA22.ev rfl) ?_)
 intro a23 hA24
 refine q_step hA24 rfl (d_fieldAddr (wn rfl) (hA24.ev rfl) fo62_0 ?_)
 intro a25 hA26
 refine q_step hA26 rfl (d_load (v := (.int .i64 p)) (wn rfl) (hA26.ev rfl) one3 (m12.cell rfl) ?_)
 intro a27 hA28
 refine q_step hA28 rfl (d_bin (wn rfl) (hA28.ev rfl) (hA28.ev rfl) (b_add _ _ p 1 _ (by omega) (by omega)) ?_)
 intro a29 hA30
 refine q_step hA30 rfl (d_assign (wn rfl) (hA30.ev rfl) ?_)
 intro a31 hA32
 refine q_end ?_
 have hA33 : St 117 [(0, (.pointer (some ⟨g, 0, none⟩))), (3, (.pointer (some ⟨g3, 0, none⟩))), (4, (.bool false)), (5, (.int .i64 (p + 1)))] a31 := hA32.cut _ (fm_cons (hA32.get 0 _ rfl) (fm_cons (hA32.get 3 _ rfl) (fm_cons (hA32.get 4 _ rfl) (fm_cons (hA32.get 5 _ rfl) fm_nil))))
 refine t_norm ?_
 refine wp_seq ?_
 refine wp_seq ?_
 refine wp_region_lit ?_
 refine q_step hA33 rfl (d_fieldAddr (wn rfl) (hA33.ev rfl) fo23_0 ?_)
 intro a34 hA35
 refine q_step hA35 rfl (d_load (v := (.int .i64 7)) (wn rfl) (hA35.ev rfl) one3 (m7.cell rfl) ?_)
 intro a36 hA37
 refine q_end ?_
 have hA38 : St 117 [(0, (.pointer (some ⟨g, 0, none⟩))), (3, (.pointer (some ⟨g3, 0, none⟩))), (4, (.bool false)), (5, (.int .i64 (p + 1))), (12, (.int .i64 7))] a36 := hA37.cut _ (fm_cons (hA37.get 0 _ rfl) (fm_cons (hA37.get 3 _ rfl) (fm_cons (hA37.get 4 _ rfl) (fm_cons (hA37.get 5 _ rfl) (fm_cons (hA37.get 12 _ rfl) fm_nil)))))
 refine t_norm ?_
 refine wp_block ?_
 refine wp_seq ?_
 refine wp_region_lit ?_
 refine q_step hA38 rfl (d_bin (wn rfl) (hA38.ev rfl) (hA38.ev rfl) (b_eq _ _ 7 1 false _ rfl) ?_)
 intro a39 hA40
 refine q_step hA40 rfl (d_assign (wn rfl) (hA40.ev rfl) ?_)
 intro a41 hA42
 refine q_end ?_
 have hA43 : St 117 [(0, (.pointer (some ⟨g, 0, none⟩))), (3, (.pointer (some ⟨g3, 0, none⟩))), (4, (.bool false)), (5, (.int .i64 (p + 1))), (12, (.int .i64 7)), (13, (.bool false))] a41 := hA42.cut _ (fm_cons (hA42.get 0 _ rfl) (fm_cons (hA42.get 3 _ rfl) (fm_cons (hA42.get 4 _ rfl) (fm_cons (hA42.get 5 _ rfl) (fm_cons (hA42.get 12 _ rfl) (fm_cons (hA42.get 13 _ rfl) fm_nil))))))
 refine t_norm ?_
 refine c_false hA43 rfl ?_
 refine wp_seq ?_
 refine wp_region_lit ?_
 refine q_step hA43 rfl (d_bin (wn rfl) (hA43.ev rfl) (hA43.ev rfl) (b_eq _ _ 7 2 false _ rfl) ?_)
 intro a44 hA45
 refine q_step hA45 rfl (d_assign (wn rfl) (hA45.ev rfl) ?_)
 intro a46 hA47
 refine q_end ?_
 have hA48 : St 117 [(0, (.pointer (some ⟨g, 0, none⟩))), (3, (.pointer (some ⟨g3, 0, none⟩))), (4, (.bool false)), (5, (.int .i64 (p + 1))), (12, (.int .i64 7)), (23, (.bool false))] a46 := hA47.cut _ (fm_cons (hA47.get 0 _ rfl) (fm_cons (hA47.get 3 _ rfl) (fm_cons (hA47.get 4 _ rfl) (fm_cons (hA47.get 5 _ rfl) (fm_cons (hA47.get 12 _ rfl) (fm_cons (hA47.get 23 _ rfl) fm_nil))))))
 refine t_norm ?_
 refine c_false hA48 rfl ?_
 refine wp_seq ?_
 refine wp_region_lit ?_
 refine q_step hA48 rfl (d_bin (wn rfl) (hA48.ev rfl) (hA48.ev rfl) (b_eq _ _ 7 3 false _ rfl) ?_)
 intro a49 hA50
 refine q_step hA50 rfl (d_assign (wn rfl) (hA50.ev rfl) ?_)
 intro a51 hA52
 refine q_end ?_
 have hA53 : St 117 [(0, (.pointer (some ⟨g, 0, none⟩))), (3, (.pointer (some ⟨g3, 0, none⟩))), (4, (.bool false)), (5, (.int .i64 (p + 1))), (12, (.int .i64 7)), (38, (.bool false))] a51 := hA52.cut _ (fm_cons (hA52.get 0 _ rfl) (fm_cons (hA52.get 3 _ rfl) (fm_cons (hA52.get 4 _ rfl) (fm_cons (hA52.get 5 _ rfl) (fm_cons (hA52.get 12 _ rfl) (fm_cons (hA52.get 38 _ rfl) fm_nil))))))
 refine t_norm ?_
 refine c_false hA53 rfl ?_
 refine wp_seq ?_
 refine wp_seq ?_
 refine wp_region_lit ?_
 refine q_step hA53 rfl (d_bin (wn rfl) (hA53.ev rfl) (hA53.ev rfl) (b_eq _ _ 7 4 false _ rfl) ?_)
 intro a54 hA55
 refine q_step hA55 rfl (d_assign (wn rfl) (hA55.ev rfl) ?_)
 intro a56 hA57
 refine q_end ?_
 have hA58 : St 117 [(0, (.pointer (some ⟨g, 0, none⟩))), (3, (.pointer (some ⟨g3, 0, none⟩))), (4, (.bool false)), (5, (.int .i64 (p + 1))), (12, (.int .i64 7)), (62, (.bool false))] a56 := hA57.cut _ (fm_cons (hA57.get 0 _ rfl) (fm_cons (hA57.get 3 _ rfl) (fm_cons (hA57.get 4 _ rfl) (fm_cons (hA57.get 5 _ rfl) (fm_cons (hA57.get 12 _ rfl) (fm_cons (hA57.get 62 _ rfl) fm_nil))))))
 refine t_norm ?_
 refine c_false hA58 rfl ?_
 refine wp_seq ?_
 refine wp_region_lit ?_
 refine q_step hA58 rfl (d_bin (wn rfl) (hA58.ev rfl) (hA58.ev rfl) (b_eq _ _ 7 5 false _ rfl) ?_)
 intro a59 hA60
 refine q_step hA60 rfl (d_assign (wn rfl) (hA60.ev rfl) ?_)
 intro a61 hA62
 refine q_end ?_
 have hA63 : St 117 [(0, (.pointer (some ⟨g, 0, none⟩))), (3, (.pointer (some ⟨g3, 0, none⟩))), (4, (.bool false)), (5, (.int .i64 (p + 1))), (12, (.int .i64 7)), (62, (.bool false))] a61 := hA62.cut _ (fm_cons (hA62.get 0 _ rfl) (fm_cons (hA62.get 3 _ rfl) (fm_cons (hA62.get 4 _ rfl) (fm_cons (hA62.get 5 _ rfl) (fm_cons (hA62.get 12 _ rfl) (fm_cons (hA62.get 62 _ rfl) fm_nil))))))
 refine t_norm ?_
 refine c_false hA63 rfl ?_
 refine wp_region_lit ?_
 refine q_step hA63 rfl (d_bin (wn rfl) (hA63.ev rfl) (hA63.ev rfl) (b_eq _ _ 7 6 false _ rfl) ?_)
 intro a64 hA65
 refine q_step hA65 rfl (d_assign (wn rfl) (hA65.ev rfl) ?_)
 intro a66 hA67
 refine q_end ?_
 have hA68 : St 117 [(0, (.pointer (some ⟨g, 0, none⟩))), (3, (.pointer (some ⟨g3, 0, none⟩))), (4, (.bool false)), (5, (.int .i64 (p + 1))), (12, (.int .i64 7)), (62, (.bool false))] a66 := hA67.cut _ (fm_cons (hA67.get 0 _ rfl) (fm_cons (hA67.get 3 _ rfl) (fm_cons (hA67.get 4 _ rfl) (fm_cons (hA67.get 5 _ rfl) (fm_cons (hA67.get 12 _ rfl) (fm_cons (hA67.get 62 _ rfl) fm_nil))))))
 refine t_norm ?_
 refine c_false hA68 rfl ?_
 refine wp_seq ?_
 refine wp_seq ?_
 refine wp_region_lit ?_
 refine q_step hA68 rfl (d_bin (wn rfl) (hA68.ev rfl) (hA68.ev rfl) (b_eq _ _ 7 7 true _ rfl) ?_)
 intro a69 hA70
 refine q_step hA70 rfl (d_assign (wn rfl) (hA70.ev rfl) ?_)
 intro a71 hA72
 refine q_end ?_
 have hA73 : St 117 [(0, (.pointer (some ⟨g, 0, none⟩))), (3, (.pointer (some ⟨g3, 0, none⟩))), (4, (.bool false)), (5, (.int .i64 (p + 1))), (12, (.int .i64 7)), (70, (.bool true))] a71 := hA72.cut _ (fm_cons (hA72.get 0 _ rfl) (fm_cons (hA72.get 3 _ rfl) (fm_cons (hA72.get 4 _ rfl) (fm_cons (hA72.get 5 _ rfl) (fm_cons (hA72.get 12 _ rfl) (fm_cons (hA72.get 70 _ rfl) fm_nil))))))
 refine t_norm ?_
 refine c_true hA73 rfl ?_
 refine wp_skip ?_
 refine t_norm ?_
 refine c_true hA73 rfl ?_
 have hA74 : St 117 [(0, (.pointer (some ⟨g, 0, none⟩))), (3, (.pointer (some ⟨g3, 0, none⟩))), (4, (.bool false)), (5, (.int .i64 (p + 1)))] a71 := hA73.cut _ (fm_cons (hA73.get 0 _ rfl) (fm_cons (hA73.get 3 _ rfl) (fm_cons (hA73.get 4 _ rfl) (fm_cons (hA73.get 5 _ rfl) fm_nil))))
 let M75 : Nat → Option (Array Value) := fun _ => none
 have hM75 : M75 = fun _ => none := rfl
 clear_value M75
 have hM75A : ∀ k, M75 k = none := fun k => congrFun hM75 k
 have hM75B : ∀ k, k < Bd → M75 k = none := fun k _ => hM75A k
 refine drawnL (S := SM M75) rfl (tabQ [some (.pointer (some ⟨g, 0, none⟩)), some (.pointer (some ⟨g, 0, none⟩)), some (.pointer (some ⟨g, 0, none⟩)), some (.pointer (some ⟨g, 10, none⟩)), none, some (.pointer (some ⟨g, 0, none⟩)), none, none, none, none, some (.pointer (some ⟨g, 0, none⟩)), some (.pointer (some ⟨g, 10, none⟩))] [cv (.pointer (some ⟨g, 0, none⟩)), cv (.pointer (some ⟨g, 0, none⟩)), cv (.pointer (some ⟨g, 0, none⟩)), cv (.pointer (some ⟨g, 10, none⟩)), cv ev, cv (.pointer (some ⟨g, 0, none⟩)), cv (.agg (insC ⟨7, i.dst, i.a, i.b, i.imm, i.loc, i.off, i.index, i.size, i.fn, i.acq, i.weak, i.rel, i.pred, i.succ, i.to, i.zero⟩)), cv (.agg #[.int .i64 0, .int .i64 ((path.length : Nat) : Int), .int .i64 p, .int .i64 7, .int .i64 0, .int .i64 0, .bool false, .bool false, .int .i64 0, .int .i64 0, .bool i.acq, .bool i.weak, .bool i.rel, .int .i64 i.pred, .int .i64 i.succ]), cs1 M75 hM75A #[.int .i64 0, .int .i64 ((path.length : Nat) : Int), .int .i64 p, .int .i64 7, .int .i64 0, .int .i64 0, .bool false, .bool false, .int .i64 0, .int .i64 0, .bool i.acq, .bool i.weak, .bool i.rel, .int .i64 i.pred, .int .i64 i.succ] 52, cfree, cv (.pointer (some ⟨g, 0, none⟩)), cv (.pointer (some ⟨g, 10, none⟩))]) (some 9) (fun i => (([some (.pointer (some ⟨g, 0, none⟩)), some (.pointer (some ⟨g, 0, none⟩)), some (.pointer (some ⟨g, 0, none⟩)), some (.pointer (some ⟨g, 10, none⟩)), none, some (.pointer (some ⟨g, 0, none⟩)), none, none, none, none, some (.pointer (some ⟨g, 0, none⟩)), some (.pointer (some ⟨g, 10, none⟩))] : List (Option Value))[i]?).getD none) (fun v' w' => w'.ownsRow Bd 52 15 v' (evs.length + 1) ((evE evs) ++ (#[.int .i64 0, .int .i64 ((path.length : Nat) : Int), .int .i64 p, .int .i64 7, .int .i64 0, .int .i64 0, .bool false, .bool false, .int .i64 0, .int .i64 0, .bool i.acq, .bool i.weak, .bool i.rel, .int .i64 i.pred, .int .i64 i.succ] : Array Value).toList) ∧ Below Bd w w' ∧ Blk w' g (walkC p r rd ev pa) 62 ∧ Blk w' g3 (insC ⟨7, i.dst, i.a, i.b, i.imm, i.loc, i.off, i.index, i.size, i.fn, i.acq, i.weak, i.rel, i.pred, i.succ, i.to, i.zero⟩) 23 ∧ w'.ownsRow Bd 3 1 pa path.length (paE path) ∧ v'.ownBlock ≠ some g ∧ v'.ownBlock ≠ some g3 ∧ ∀ k, pa.ownBlock = some k → v'.ownBlock ≠ some k) [11, 9, 0, 1, 2, 3, 4, 5, 6, 7, 8, 10] [4, 8, 7, 3, 5, 6, 2, 1] mixedY SM.refl SM.trans hA74 (by kernel_rfl) (by kernel_rfl) (tabQ_cv _ _) ?_ ?_
 ·skip
  refine eachD_cons (.inr (.inl ⟨by decide, _, rfl, fun x y hT hk hk0 => d_move (wn rfl) (hT.ev rfl) ⟨rfl, rfl⟩⟩)) ?_
  refine eachD_cons (.inr (.inl ⟨by decide, _, rfl, fun x y hT hk hk0 => d_move (wn rfl) (hT.ev rfl) ⟨rfl, rfl⟩⟩)) ?_
  refine eachD_cons (.inr (.inl ⟨by decide, _, rfl, fun x y hT hk hk0 => d_nilCheck (wn rfl) (hk 1 _ rfl rfl) ⟨rfl, rfl⟩⟩)) ?_
  refine eachD_cons (.inr (.inl ⟨by decide, _, rfl, fun x y hT hk hk0 => d_fieldAddr (wn rfl) (hk 2 _ rfl rfl) fo62_3 ⟨rfl, rfl⟩⟩)) ?_
  refine eachD_cons (.inl ⟨by decide, rfl, fun x y hS hT hk => d_load (v := ev) (wn rfl) (hk 3 rfl) one44 ((Blk.sm (w := w4.drew) m12 hS (hM75A _)).cell rfl) ⟨SM.refl _, rfl⟩⟩) ?_
  refine eachD_cons (.inr (.inl ⟨by decide, _, rfl, fun x y hT hk hk0 => d_move (wn rfl) (hT.ev rfl) ⟨rfl, rfl⟩⟩)) ?_
  refine eachD_cons (.inl ⟨by decide, rfl, fun x y hS hT hk => d_loadRow (cs := (insC ⟨7, i.dst, i.a, i.b, i.imm, i.loc, i.off, i.index, i.size, i.fn, i.acq, i.weak, i.rel, i.pred, i.succ, i.to, i.zero⟩)) (wn rfl) (hT.ev rfl) row23 (Blk.sm (w := w4.drew) m7 hS (hM75A _)) ⟨SM.refl _, rfl⟩⟩) ?_
  refine eachD_cons (.inl ⟨by decide, rfl, fun x y hS hT hk => d_call (wn rfl) ent49 (map2 (show x.eval _ = (.pointer (some ⟨g, 0, none⟩)) from (hk 5 rfl)) (show x.eval _ = (.agg (insC ⟨7, i.dst, i.a, i.b, i.imm, i.loc, i.off, i.index, i.size, i.fn, i.acq, i.weak, i.rel, i.pred, i.succ, i.to, i.zero⟩)) from (hk 6 rfl))) (event_any g p r rd ev pa (⟨7, i.dst, i.a, i.b, i.imm, i.loc, i.off, i.index, i.size, i.fn, i.acq, i.weak, i.rel, i.pred, i.succ, i.to, i.zero⟩) path.length Bd (paE path) y (Blk.sm (w := w4.drew) m12 hS (hM75A _)) (own_sm (w := w4.drew) ho15 hS hM75A)) (fun _ _ ⟨he, hG⟩ => ⟨(.agg #[.int .i64 0, .int .i64 ((path.length : Nat) : Int), .int .i64 p, .int .i64 7, .int .i64 0, .int .i64 0, .bool false, .bool false, .int .i64 0, .int .i64 0, .bool i.acq, .bool i.weak, .bool i.rel, .int .i64 i.pred, .int .i64 i.succ]), he, SM.grow hG, rfl⟩)⟩) ?_
  refine eachD_cons (.inl ⟨by decide, rfl, fun x y hS hT hk => d_slice1 (wn rfl) (show x.eval _ = (.agg #[.int .i64 0, .int .i64 ((path.length : Nat) : Int), .int .i64 p, .int .i64 7, .int .i64 0, .int .i64 0, .bool false, .bool false, .int .i64 0, .int .i64 0, .bool i.acq, .bool i.weak, .bool i.rel, .int .i64 i.pred, .int .i64 i.succ]) from (hk 7 rfl)) elm44 rfl (by decide) (fun g w' _ hG hb => ⟨SM.grow hG, g, rfl, hb⟩)⟩) ?_
  refine eachD_cons (.inr (.inr ⟨rfl, fun x y hS hT hk => ?_⟩)) ?_
  ·skip
   obtain ⟨gb, hvb, hbb⟩ := hk 8 rfl
   have hG : Grow w4 y := Grow.trans ((Grow.refl _).drew) (SM.grown (by rw [hM75] at hS; exact hS))
   have hR := own_grow hG ho14
   have hO := own_grow hG ho15
   have hBl := below_grow b13 hG (Nat.le_trans hB b13.size)
   refine d_append (wn rfl) (show x.eval _ = ev from (hk 4 rfl)) hvb elm44 hR hbb rfl rfl (by omega) (by decide) (Nat.le_trans hB hBl.size) ?_
   intro v' w' h1 h2 h3
   exact ⟨h1, below_by hBl h2 (Nat.le_trans hB hBl.size) (fun k hk => (own_lt hR k hk).1), (m12.grow hG).by h2 oe, (m7.grow hG).by h2 off10, own_by hO h2 ap, lies_ne h3 oe (m12.grow hG).lt, lies_ne h3 off10 (m7.grow hG).lt, lies_ap h3 ap hO⟩
  refine eachD_cons (.inr (.inl ⟨by decide, _, rfl, fun x y hT hk hk0 => d_nilCheck (wn rfl) (hk 0 _ rfl rfl) ⟨rfl, rfl⟩⟩)) ?_
  refine eachD_cons (.inr (.inl ⟨by decide, _, rfl, fun x y hT hk hk0 => d_fieldAddr (wn rfl) (hk 10 _ rfl rfl) fo62_3 ⟨rfl, rfl⟩⟩)) ?_
  exact eachD_one
 rintro a76 w77 hA78 ⟨hP80, hW81⟩
 obtain ⟨v82, hv83⟩ : ∃ v', v' = (a76.tmps.getD 82 undef) := ⟨_, rfl⟩
 have hW84 : (fun v' w' => w'.ownsRow Bd 52 15 v' (evs.length + 1) ((evE evs) ++ (#[.int .i64 0, .int .i64 ((path.length : Nat) : Int), .int .i64 p, .int .i64 7, .int .i64 0, .int .i64 0, .bool false, .bool false, .int .i64 0, .int .i64 0, .bool i.acq, .bool i.weak, .bool i.rel, .int .i64 i.pred, .int .i64 i.succ] : Array Value).toList) ∧ Below Bd w w' ∧ Blk w' g (walkC p r rd ev pa) 62 ∧ Blk w' g3 (insC ⟨7, i.dst, i.a, i.b, i.imm, i.loc, i.off, i.index, i.size, i.fn, i.acq, i.weak, i.rel, i.pred, i.succ, i.to, i.zero⟩) 23 ∧ w'.ownsRow Bd 3 1 pa path.length (paE path) ∧ v'.ownBlock ≠ some g ∧ v'.ownBlock ≠ some g3 ∧ ∀ k, pa.ownBlock = some k → v'.ownBlock ≠ some k) v82 w77 := by rw [hv83]; exact hW81
 obtain ⟨ho85, b86, m87, m88, ho89, off90, off91, ap92⟩ := hW84
 have ap93 : ∀ k, v82.ownBlock = some k → pa.ownBlock ≠ some k := fun k h1 h2 => ap92 k h2 h1
 have hA94 : St 117 [(0, (.pointer (some ⟨g, 0, none⟩))), (4, (.bool false)), (5, (.int .i64 (p + 1))), (82, v82), (84, (.pointer (some ⟨g, 10, none⟩)))] a76 := hA78.cut _ (fm_cons (hA78.get 0 _ rfl) (fm_cons (hA78.get 4 _ rfl) (fm_cons (hA78.get 5 _ rfl) (fm_cons hv83.symm (fm_cons (hP80 11 _ (Nat.le_of_ble_eq_true rfl) (by decide) rfl) fm_nil)))))
 refine d_store (v := v82) (wn rfl) (hA94.ev rfl) (hA94.ev rfl) one44 (one_slice (own_form ho85)) m87 (Nat.le_of_ble_eq_true rfl) ?_
 intro w95 hU96 (m97 : Blk w95 g (walkC p r rd v82 pa) 62)
 have m98 := m88.upd hU96 (Ne.symm n9)
 have b99 := hU96.below b86 hge
 have ho100 := own_upd ho85 hU96 off90
 have ho101 := own_upd ho89 hU96 op_
 have hA102 : St 117 [(0, (.pointer (some ⟨g, 0, none⟩))), (4, (.bool false)), (5, (.int .i64 (p + 1)))] a76 := hA94.cut _ (fm_cons (hA94.get 0 _ rfl) (fm_cons (hA94.get 4 _ rfl) (fm_cons (hA94.get 5 _ rfl) fm_nil)))
 refine i_norm ?_
 refine t_norm ?_
 refine wp_seq ?_
 have hA103 : St 117 [(0, (.pointer (some ⟨g, 0, none⟩))), (4, (.bool false)), (5, (.int .i64 (p + 1)))] a76 := hA102.cut _ (fm_cons (hA102.get 0 _ rfl) (fm_cons (hA102.get 4 _ rfl) (fm_cons (hA102.get 5 _ rfl) fm_nil)))
 let M104 : Nat → Option (Array Value) := fun _ => none
 have hM104 : M104 = fun _ => none := rfl
 clear_value M104
 have hM104A : ∀ k, M104 k = none := fun k => congrFun hM104 k
 have hM104B : ∀ k, k < Bd → M104 k = none := fun k _ => hM104A k
 refine drawnL (S := SM M104) rfl (tabQ [some (.pointer (some ⟨g, 0, none⟩)), some (.pointer (some ⟨g, 0, none⟩)), some (.pointer (some ⟨g, 0, none⟩)), some (.pointer (some ⟨g, 11, none⟩)), none, some (.pointer (some ⟨g, 0, none⟩)), some (.pointer (some ⟨g, 0, none⟩)), some (.pointer (some ⟨g, 0, none⟩)), none, none, none, some (.pointer (some ⟨g, 0, none⟩)), some (.pointer (some ⟨g, 11, none⟩))] [cv (.pointer (some ⟨g, 0, none⟩)), cv (.pointer (some ⟨g, 0, none⟩)), cv (.pointer (some ⟨g, 0, none⟩)), cv (.pointer (some ⟨g, 11, none⟩)), cv pa, cv (.pointer (some ⟨g, 0, none⟩)), cv (.pointer (some ⟨g, 0, none⟩)), cv (.pointer (some ⟨g, 0, none⟩)), cv (.int .i64 p), cs1 M104 hM104A #[.int .i64 p] 3, cfree, cv (.pointer (some ⟨g, 0, none⟩)), cv (.pointer (some ⟨g, 11, none⟩))]) (some 10) (fun i => (([some (.pointer (some ⟨g, 0, none⟩)), some (.pointer (some ⟨g, 0, none⟩)), some (.pointer (some ⟨g, 0, none⟩)), some (.pointer (some ⟨g, 11, none⟩)), none, some (.pointer (some ⟨g, 0, none⟩)), some (.pointer (some ⟨g, 0, none⟩)), some (.pointer (some ⟨g, 0, none⟩)), none, none, none, some (.pointer (some ⟨g, 0, none⟩)), some (.pointer (some ⟨g, 11, none⟩))] : List (Option Value))[i]?).getD none) (fun v' w' => w'.ownsRow Bd 3 1 v' (path.length + 1) ((paE path) ++ (#[.int .i64 p] : Array Value).toList) ∧ Below Bd w w' ∧ Blk w' g (walkC p r rd v82 pa) 62 ∧ Blk w' g3 (insC ⟨7, i.dst, i.a, i.b, i.imm, i.loc, i.off, i.index, i.size, i.fn, i.acq, i.weak, i.rel, i.pred, i.succ, i.to, i.zero⟩) 23 ∧ w'.ownsRow Bd 52 15 v82 (evs.length + 1) ((evE evs) ++ (#[.int .i64 0, .int .i64 ((path.length : Nat) : Int), .int .i64 p, .int .i64 7, .int .i64 0, .int .i64 0, .bool false, .bool false, .int .i64 0, .int .i64 0, .bool i.acq, .bool i.weak, .bool i.rel, .int .i64 i.pred, .int .i64 i.succ] : Array Value).toList) ∧ v'.ownBlock ≠ some g ∧ v'.ownBlock ≠ some g3 ∧ ∀ k, v82.ownBlock = some k → v'.ownBlock ≠ some k) [12, 10, 0, 1, 2, 3, 4, 5, 6, 7, 8, 9, 11] [4, 9, 3, 8, 2, 7, 1, 6, 5] mixedY SM.refl SM.trans hA103 (by kernel_rfl) (by kernel_rfl) (tabQ_cv _ _) ?_ ?_
 ·skip
  refine eachD_cons (.inr (.inl ⟨by decide, _, rfl, fun x y hT hk hk0 => d_move (wn rfl) (hT.ev rfl) ⟨rfl, rfl⟩⟩)) ?_
  refine eachD_cons (.inr (.inl ⟨by decide, _, rfl, fun x y hT hk hk0 => d_move (wn rfl) (hT.ev rfl) ⟨rfl, rfl⟩⟩)) ?_
  refine eachD_cons (.inr (.inl ⟨by decide, _, rfl, fun x y hT hk hk0 => d_nilCheck (wn rfl) (hk 1 _ rfl rfl) ⟨rfl, rfl⟩⟩)) ?_
  refine eachD_cons (.inr (.inl ⟨by decide, _, rfl, fun x y hT hk hk0 => d_fieldAddr (wn rfl) (hk 2 _ rfl rfl) fo62_4 ⟨rfl, rfl⟩⟩)) ?_
  refine eachD_cons (.inl ⟨by decide, rfl, fun x y hS hT hk => d_load (v := pa) (wn rfl) (hk 3 rfl) one30 ((Blk.sm (w := w95.drew) m97 hS (hM104A _)).cell rfl) ⟨SM.refl _, rfl⟩⟩) ?_
  refine eachD_cons (.inr (.inl ⟨by decide, _, rfl, fun x y hT hk hk0 => d_move (wn rfl) (hT.ev rfl) ⟨rfl, rfl⟩⟩)) ?_
  refine eachD_cons (.inr (.inl ⟨by decide, _, rfl, fun x y hT hk hk0 => d_nilCheck (wn rfl) (hk 5 _ rfl rfl) ⟨rfl, rfl⟩⟩)) ?_
  refine eachD_cons (.inr (.inl ⟨by decide, _, rfl, fun x y hT hk hk0 => d_fieldAddr (wn rfl) (hk 6 _ rfl rfl) fo62_0 ⟨rfl, rfl⟩⟩)) ?_
  refine eachD_cons (.inl ⟨by decide, rfl, fun x y hS hT hk => d_load (v := (.int .i64 p)) (wn rfl) (hk 7 rfl) one3 ((Blk.sm (w := w95.drew) m97 hS (hM104A _)).cell rfl) ⟨SM.refl _, rfl⟩⟩) ?_
  refine eachD_cons (.inl ⟨by decide, rfl, fun x y hS hT hk => d_slice1 (wn rfl) (show x.eval _ = (.int .i64 p) from (hk 8 rfl)) elm30 rfl (by decide) (fun g w' _ hG hb => ⟨SM.grow hG, g, rfl, hb⟩)⟩) ?_
  refine eachD_cons (.inr (.inr ⟨rfl, fun x y hS hT hk => ?_⟩)) ?_
  ·skip
   obtain ⟨gb, hvb, hbb⟩ := hk 9 rfl
   have hG : Grow w95 y := Grow.trans ((Grow.refl _).drew) (SM.grown (by rw [hM104] at hS; exact hS))
   have hR := own_grow hG ho101
   have hO := own_grow hG ho100
   have hBl := below_grow b99 hG (Nat.le_trans hB b99.size)
   refine d_append (wn rfl) (show x.eval _ = pa from (hk 4 rfl)) hvb elm30 hR hbb rfl rfl (by omega) (by decide) (Nat.le_trans hB hBl.size) ?_
   intro v' w' h1 h2 h3
   exact ⟨h1, below_by hBl h2 (Nat.le_trans hB hBl.size) (fun k hk => (own_lt hR k hk).1), (m97.grow hG).by h2 op_, (m98.grow hG).by h2 off11, own_by hO h2 ap93, lies_ne h3 op_ (m97.grow hG).lt, lies_ne h3 off11 (m98.grow hG).lt, lies_ap h3 ap93 hO⟩
  refine eachD_cons (.inr (.inl ⟨by decide, _, rfl, fun x y hT hk hk0 => d_nilCheck (wn rfl) (hk 0 _ rfl rfl) ⟨rfl, rfl⟩⟩)) ?_
  refine eachD_cons (.inr (.inl ⟨by decide, _, rfl, fun x y hT hk hk0 => d_fieldAddr (wn rfl) (hk 11 _ rfl rfl) fo62_4 ⟨rfl, rfl⟩⟩)) ?_
  exact eachD_one
 rintro a105 w106 hA107 ⟨hP109, hW110⟩
 obtain ⟨v111, hv112⟩ : ∃ v', v' = (a105.tmps.getD 110 undef) := ⟨_, rfl⟩
 have hW113 : (fun v' w' => w'.ownsRow Bd 3 1 v' (path.length + 1) ((paE path) ++ (#[.int .i64 p] : Array Value).toList) ∧ Below Bd w w' ∧ Blk w' g (walkC p r rd v82 pa) 62 ∧ Blk w' g3 (insC ⟨7, i.dst, i.a, i.b, i.imm, i.loc, i.off, i.index, i.size, i.fn, i.acq, i.weak, i.rel, i.pred, i.succ, i.to, i.zero⟩) 23 ∧ w'.ownsRow Bd 52 15 v82 (evs.length + 1) ((evE evs) ++ (#[.int .i64 0, .int .i64 ((path.length : Nat) : Int), .int .i64 p, .int .i64 7, .int .i64 0, .int .i64 0, .bool false, .bool false, .int .i64 0, .int .i64 0, .bool i.acq, .bool i.weak, .bool i.rel, .int .i64 i.pred, .int .i64 i.succ] : Array Value).toList) ∧ v'.ownBlock ≠ some g ∧ v'.ownBlock ≠ some g3 ∧ ∀ k, v82.ownBlock = some k → v'.ownBlock ≠ some k) v111 w106 := by rw [hv112]; exact hW110
 obtain ⟨ho114, b115, m116, m117, ho118, off119, off120, ap121⟩ := hW113
 have ap122 : ∀ k, v111.ownBlock = some k → v82.ownBlock ≠ some k := fun k h1 h2 => ap121 k h2 h1
 have hA123 : St 117 [(0, (.pointer (some ⟨g, 0, none⟩))), (4, (.bool false)), (5, (.int .i64 (p + 1))), (110, v111), (112, (.pointer (some ⟨g, 11, none⟩)))] a105 := hA107.cut _ (fm_cons (hA107.get 0 _ rfl) (fm_cons (hA107.get 4 _ rfl) (fm_cons (hA107.get 5 _ rfl) (fm_cons hv112.symm (fm_cons (hP109 12 _ (Nat.le_of_ble_eq_true rfl) (by decide) rfl) fm_nil)))))
 refine d_store (v := v111) (wn rfl) (hA123.ev rfl) (hA123.ev rfl) one30 (one_slice (own_form ho114)) m116 (Nat.le_of_ble_eq_true rfl) ?_
 intro w124 hU125 (m126 : Blk w124 g (walkC p r rd v82 v111) 62)
 have m127 := m117.upd hU125 (Ne.symm n9)
 have b128 := hU125.below b115 hge
 have ho129 := own_upd ho118 hU125 off90
 have ho130 := own_upd ho114 hU125 off119
 have hA131 : St 117 [(0, (.pointer (some ⟨g, 0, none⟩))), (4, (.bool false)), (5, (.int .i64 (p + 1)))] a105 := hA123.cut _ (fm_cons (hA123.get 0 _ rfl) (fm_cons (hA123.get 4 _ rfl) (fm_cons (hA123.get 5 _ rfl) fm_nil)))
 refine t_norm ?_
 refine wp_seq ?_
 refine wp_region_lit ?_
 refine q_step hA131 rfl (d_move (wn rfl) (hA131.ev rfl) ?_)
 intro a132 hA133
 refine q_step hA133 rfl (d_move (wn rfl) (hA133.ev rfl) ?_)
 intro a134 hA135
 refine q_step hA135 rfl (d_nilCheck (wn rfl) (hA135.ev rfl) ?_)
 intro a136 hA137
 refine q_step hA137 rfl (d_fieldAddr (wn rfl) (hA137.ev rfl) fo62_0 ?_)
 intro a138 hA139
 refine q_step hA139 rfl (d_store (v := (.int .i64 (p + 1))) (wn rfl) (hA139.ev rfl) (hA139.ev rfl) one3 rfl m126 (Nat.le_of_ble_eq_true rfl) ?_)
 intro w140 hU141 (m142 : Blk w140 g (walkC (p + 1) r rd v82 v111) 62)
 have m143 := m127.upd hU141 (Ne.symm n9)
 have b144 := hU141.below b128 hge
 have ho145 := own_upd ho129 hU141 off90
 have ho146 := own_upd ho130 hU141 off119
 intro a147 hA148
 refine q_end ?_
 have hA149 : St 117 [(4, (.bool false))] a147 := hA148.cut _ (fm_cons (hA148.get 4 _ rfl) fm_nil)
 refine t_norm ?_
 refine wp_seq ?_
 refine wp_region_lit ?_
 refine q_step hA149 rfl (d_assign (wn rfl) (hA149.ev rfl) ?_)
 intro a150 hA151
 refine q_end ?_
 have hA152 : St 117 [(4, (.bool true))] a150 := hA151.cut _ (fm_cons (hA151.get 4 _ rfl) fm_nil)
 refine t_norm ?_
 refine wp_ret ?_
 refine ret1 rfl hA152 (v := (.bool true)) rfl ?_
 exact ⟨rfl, b144, rd, v82, v111, m142, hge, (hrd.below b144), (by rw [List.length_append, ← evE_snoc]; exact ho145), (by rw [List.length_append, ← paE_snoc]; exact ho146), off90, off119, ap122⟩
set_option maxHeartbeats 4000000 in
set_option maxRecDepth 4000 in
theorem step_8 (Bd g : Nat) (p : Int) (r : Nat → Int) (rd ev pa : Value) (i : Ins) (rds : List Int) (evs : List Ev) (path : List Int) (w : World) (hB : Bd ≤ w.heap.size) (hW : WS Bd g w p r rds evs path rd ev pa) (hne : evs.length ≤ 1000) (hnp : path.length ≤ 1000) (hr : ∀ k, wfI (r k)) (hp : 0 ≤ p) (hp2 : p ≤ 1000) : Calls Try.prog 36 #[.pointer (some ⟨g, 0, none⟩), .agg (insC ⟨8, i.dst, i.a, i.b, i.imm, i.loc, i.off, i.index, i.size, i.fn, i.acq, i.weak, i.rel, i.pred, i.succ, i.to, i.zero⟩)] w fun e w' => e = .returned (.bool true) ∧ Below Bd w w' ∧ ∃ rd' ev' pa', WS Bd g w' (p + 1) r rds (evs ++ [ev0 { i with op := 8 } path.length p]) (path ++ [p]) rd' ev' pa' := by
 obtain ⟨hb, hge, hrd, hev, hpa, oe, op_, ap⟩ := hW
 have ap2 : ∀ k, ev.ownBlock = some k → pa.ownBlock ≠ some k := fun k h1 h2 => ap k h2 h1
 have b0 : Below Bd w w := Below.refl _ _
 refine enter (n := 117) Try.func36 rfl rfl (Nat.le_of_ble_eq_true rfl) ?_
 intro a1 hA2
 refine wp_seq ?_
 refine wp_region_lit ?_
 refine q_step hA2 rfl (d_box (wn rfl) (hA2.ev rfl) ?_)
 intro g3 w4 eg5 hG6 (m7 : Blk w4 g3 (insC ⟨8, i.dst, i.a, i.b, i.imm, i.loc, i.off, i.index, i.size, i.fn, i.acq, i.weak, i.rel, i.pred, i.succ, i.to, i.zero⟩) 23)
 have ge8 : Bd ≤ g3 := eg5 ▸ (Nat.le_trans hB b0.size)
 have n9 : g ≠ g3 := fun h => Nat.lt_irrefl _ ((h.trans eg5) ▸ hb.lt)
 have off10 := own_new hev eg5
 have off11 := own_new hpa eg5
 have m12 := hb.grow hG6
 have b13 := below_grow b0 hG6 (Nat.le_trans hB b0.size)
 have ho14 := own_grow hG6 hev
 have ho15 := own_grow hG6 hpa
 intro a16 hA17
 refine q_step hA17 rfl (d_assign (wn rfl) (hA17.ev rfl) ?_)
 intro a18 hA19
 refine q_end ?_
 have hA20 : St 117 [(0, (.pointer (some ⟨g, 0, none⟩))), (3, (.pointer (some ⟨g3, 0, none⟩))), (4, (.bool false))] a18 := hA19.cut _ (fm_cons (hA19.get 0 _ rfl) (fm_cons (hA19.get 3 _ rfl) (fm_cons (hA19.get 4 _ rfl) fm_nil)))
 refine t_norm ?_
 refine wp_seq ?_
 refine wp_region_lit ?_
 refine q_step hA20 rfl (d_move (wn rfl) (hA20.ev rfl) ?_)
 intro a21 hA22
 refine q_step hA22 rfl (d_nilCheck (wn rfl) (hA22.ev rfl) ?_)
 intro a23 hA24
 refine q_step hA24 rfl (d_fieldAddr (wn rfl) (hA24.ev rfl) fo62_0 ?_)
 intro a25 hA26
 refine q_step hA26 rfl (d_load (v := (.int .i64 p)) (wn rfl) (hA26.ev rfl) one3 (m12.cell rfl) ?_)
 intro a27 hA28
 refine q_step hA28 rfl (d_bin (wn rfl) (hA28.ev rfl) (hA28.ev rfl) (b_add _ _ p 1 _ (by omega) (by omega)) ?_)
 intro a29 hA30
 refine q_step hA30 rfl (d_assign (wn rfl) (hA30.ev rfl) ?_)
 intro a31 hA32
 refine q_end ?_
 have hA33 : St 117 [(0, (.pointer (some ⟨g, 0, none⟩))), (3, (.pointer (some ⟨g3, 0, none⟩))), (4, (.bool false)), (5, (.int .i64 (p + 1)))] a31 := hA32.cut _ (fm_cons (hA32.get 0 _ rfl) (fm_cons (hA32.get 3 _ rfl) (fm_cons (hA32.get 4 _ rfl) (fm_cons (hA32.get 5 _ rfl) fm_nil))))
 refine t_norm ?_
 refine wp_seq ?_
 refine wp_seq ?_
 refine wp_region_lit ?_
 refine q_step hA33 rfl (d_fieldAddr (wn rfl) (hA33.ev rfl) fo23_0 ?_)
 intro a34 hA35
 refine q_step hA35 rfl (d_load (v := (.int .i64 8)) (wn rfl) (hA35.ev rfl) one3 (m7.cell rfl) ?_)
 intro a36 hA37
 refine q_end ?_
 have hA38 : St 117 [(0, (.pointer (some ⟨g, 0, none⟩))), (3, (.pointer (some ⟨g3, 0, none⟩))), (4, (.bool false)), (5, (.int .i64 (p + 1))), (12, (.int .i64 8))] a36 := hA37.cut _ (fm_cons (hA37.get 0 _ rfl) (fm_cons (hA37.get 3 _ rfl) (fm_cons (hA37.get 4 _ rfl) (fm_cons (hA37.get 5 _ rfl) (fm_cons (hA37.get 12 _ rfl) fm_nil)))))
 refine t_norm ?_
 refine wp_block ?_
 refine wp_seq ?_
 refine wp_region_lit ?_
 refine q_step hA38 rfl (d_bin (wn rfl) (hA38.ev rfl) (hA38.ev rfl) (b_eq _ _ 8 1 false _ rfl) ?_)
 intro a39 hA40
 refine q_step hA40 rfl (d_assign (wn rfl) (hA40.ev rfl) ?_)
 intro a41 hA42
 refine q_end ?_
 have hA43 : St 117 [(0, (.pointer (some ⟨g, 0, none⟩))), (3, (.pointer (some ⟨g3, 0, none⟩))), (4, (.bool false)), (5, (.int .i64 (p + 1))), (12, (.int .i64 8)), (13, (.bool false))] a41 := hA42.cut _ (fm_cons (hA42.get 0 _ rfl) (fm_cons (hA42.get 3 _ rfl) (fm_cons (hA42.get 4 _ rfl) (fm_cons (hA42.get 5 _ rfl) (fm_cons (hA42.get 12 _ rfl) (fm_cons (hA42.get 13 _ rfl) fm_nil))))))
 refine t_norm ?_
 refine c_false hA43 rfl ?_
 refine wp_seq ?_
 refine wp_region_lit ?_
 refine q_step hA43 rfl (d_bin (wn rfl) (hA43.ev rfl) (hA43.ev rfl) (b_eq _ _ 8 2 false _ rfl) ?_)
 intro a44 hA45
 refine q_step hA45 rfl (d_assign (wn rfl) (hA45.ev rfl) ?_)
 intro a46 hA47
 refine q_end ?_
 have hA48 : St 117 [(0, (.pointer (some ⟨g, 0, none⟩))), (3, (.pointer (some ⟨g3, 0, none⟩))), (4, (.bool false)), (5, (.int .i64 (p + 1))), (12, (.int .i64 8)), (23, (.bool false))] a46 := hA47.cut _ (fm_cons (hA47.get 0 _ rfl) (fm_cons (hA47.get 3 _ rfl) (fm_cons (hA47.get 4 _ rfl) (fm_cons (hA47.get 5 _ rfl) (fm_cons (hA47.get 12 _ rfl) (fm_cons (hA47.get 23 _ rfl) fm_nil))))))
 refine t_norm ?_
 refine c_false hA48 rfl ?_
 refine wp_seq ?_
 refine wp_region_lit ?_
 refine q_step hA48 rfl (d_bin (wn rfl) (hA48.ev rfl) (hA48.ev rfl) (b_eq _ _ 8 3 false _ rfl) ?_)
 intro a49 hA50
 refine q_step hA50 rfl (d_assign (wn rfl) (hA50.ev rfl) ?_)
 intro a51 hA52
 refine q_end ?_
 have hA53 : St 117 [(0, (.pointer (some ⟨g, 0, none⟩))), (3, (.pointer (some ⟨g3, 0, none⟩))), (4, (.bool false)), (5, (.int .i64 (p + 1))), (12, (.int .i64 8)), (38, (.bool false))] a51 := hA52.cut _ (fm_cons (hA52.get 0 _ rfl) (fm_cons (hA52.get 3 _ rfl) (fm_cons (hA52.get 4 _ rfl) (fm_cons (hA52.get 5 _ rfl) (fm_cons (hA52.get 12 _ rfl) (fm_cons (hA52.get 38 _ rfl) fm_nil))))))
 refine t_norm ?_
 refine c_false hA53 rfl ?_
 refine wp_seq ?_
 refine wp_seq ?_
 refine wp_region_lit ?_
 refine q_step hA53 rfl (d_bin (wn rfl) (hA53.ev rfl) (hA53.ev rfl) (b_eq _ _ 8 4 false _ rfl) ?_)
 intro a54 hA55
 refine q_step hA55 rfl (d_assign (wn rfl) (hA55.ev rfl) ?_)
 intro a56 hA57
 refine q_end ?_
 have hA58 : St 117 [(0, (.pointer (some ⟨g, 0, none⟩))), (3, (.pointer (some ⟨g3, 0, none⟩))), (4, (.bool false)), (5, (.int .i64 (p + 1))), (12, (.int .i64 8)), (62, (.bool false))] a56 := hA57.cut _ (fm_cons (hA57.get 0 _ rfl) (fm_cons (hA57.get 3 _ rfl) (fm_cons (hA57.get 4 _ rfl) (fm_cons (hA57.get 5 _ rfl) (fm_cons (hA57.get 12 _ rfl) (fm_cons (hA57.get 62 _ rfl) fm_nil))))))
 refine t_norm ?_
 refine c_false hA58 rfl ?_
 refine wp_seq ?_
 refine wp_region_lit ?_
 refine q_step hA58 rfl (d_bin (wn rfl) (hA58.ev rfl) (hA58.ev rfl) (b_eq _ _ 8 5 false _ rfl) ?_)
 intro a59 hA60
 refine q_step hA60 rfl (d_assign (wn rfl) (hA60.ev rfl) ?_)
 intro a61 hA62
 refine q_end ?_
 have hA63 : St 117 [(0, (.pointer (some ⟨g, 0, none⟩))), (3, (.pointer (some ⟨g3, 0, none⟩))), (4, (.bool false)), (5, (.int .i64 (p + 1))), (12, (.int .i64 8)), (62, (.bool false))] a61 := hA62.cut _ (fm_cons (hA62.get 0 _ rfl) (fm_cons (hA62.get 3 _ rfl) (fm_cons (hA62.get 4 _ rfl) (fm_cons (hA62.get 5 _ rfl) (fm_cons (hA62.get 12 _ rfl) (fm_cons (hA62.get 62 _ rfl) fm_nil))))))
 refine t_norm ?_
 refine c_false hA63 rfl ?_
 refine wp_region_lit ?_
 refine q_step hA63 rfl (d_bin (wn rfl) (hA63.ev rfl) (hA63.ev rfl) (b_eq _ _ 8 6 false _ rfl) ?_)
 intro a64 hA65
 refine q_step hA65 rfl (d_assign (wn rfl) (hA65.ev rfl) ?_)
 intro a66 hA67
 refine q_end ?_
 have hA68 : St 117 [(0, (.pointer (some ⟨g, 0, none⟩))), (3, (.pointer (some ⟨g3, 0, none⟩))), (4, (.bool false)), (5, (.int .i64 (p + 1))), (12, (.int .i64 8)), (62, (.bool false))] a66 := hA67.cut _ (fm_cons (hA67.get 0 _ rfl) (fm_cons (hA67.get 3 _ rfl) (fm_cons (hA67.get 4 _ rfl) (fm_cons (hA67.get 5 _ rfl) (fm_cons (hA67.get 12 _ rfl) (fm_cons (hA67.get 62 _ rfl) fm_nil))))))
 refine t_norm ?_
 refine c_false hA68 rfl ?_
 refine wp_seq ?_
 refine wp_seq ?_
 refine wp_region_lit ?_
 refine q_step hA68 rfl (d_bin (wn rfl) (hA68.ev rfl) (hA68.ev rfl) (b_eq _ _ 8 7 false _ rfl) ?_)
 intro a69 hA70
 refine q_step hA70 rfl (d_assign (wn rfl) (hA70.ev rfl) ?_)
 intro a71 hA72
 refine q_end ?_
 have hA73 : St 117 [(0, (.pointer (some ⟨g, 0, none⟩))), (3, (.pointer (some ⟨g3, 0, none⟩))), (4, (.bool false)), (5, (.int .i64 (p + 1))), (12, (.int .i64 8)), (70, (.bool false))] a71 := hA72.cut _ (fm_cons (hA72.get 0 _ rfl) (fm_cons (hA72.get 3 _ rfl) (fm_cons (hA72.get 4 _ rfl) (fm_cons (hA72.get 5 _ rfl) (fm_cons (hA72.get 12 _ rfl) (fm_cons (hA72.get 70 _ rfl) fm_nil))))))
 refine t_norm ?_
 refine c_false hA73 rfl ?_
 refine wp_region_lit ?_
 refine q_step hA73 rfl (d_bin (wn rfl) (hA73.ev rfl) (hA73.ev rfl) (b_eq _ _ 8 8 true _ rfl) ?_)
 intro a74 hA75
 refine q_step hA75 rfl (d_assign (wn rfl) (hA75.ev rfl) ?_)
 intro a76 hA77
 refine q_end ?_
 have hA78 : St 117 [(0, (.pointer (some ⟨g, 0, none⟩))), (3, (.pointer (some ⟨g3, 0, none⟩))), (4, (.bool false)), (5, (.int .i64 (p + 1))), (12, (.int .i64 8)), (70, (.bool true))] a76 := hA77.cut _ (fm_cons (hA77.get 0 _ rfl) (fm_cons (hA77.get 3 _ rfl) (fm_cons (hA77.get 4 _ rfl) (fm_cons (hA77.get 5 _ rfl) (fm_cons (hA77.get 12 _ rfl) (fm_cons (hA77.get 70 _ rfl) fm_nil))))))
 refine t_norm ?_
 refine c_true hA78 rfl ?_
 have hA79 : St 117 [(0, (.pointer (some ⟨g, 0, none⟩))), (3, (.pointer (some ⟨g3, 0, none⟩))), (4, (.bool false)), (5, (.int .i64 (p + 1)))] a76 := hA78.cut _ (fm_cons (hA78.get 0 _ rfl) (fm_cons (hA78.get 3 _ rfl) (fm_cons (hA78.get 4 _ rfl) (fm_cons (hA78.get 5 _ rfl) fm_nil))))
 let M80 : Nat → Option (Array Value) := fun _ => none
 have hM80 : M80 = fun _ => none := rfl
 clear_value M80
 have hM80A : ∀ k, M80 k = none := fun k => congrFun hM80 k
 have hM80B : ∀ k, k < Bd → M80 k = none := fun k _ => hM80A k
 refine drawnL (S := SM M80) rfl (tabQ [some (.pointer (some ⟨g, 0, none⟩)), some (.pointer (some ⟨g, 0, none⟩)), some (.pointer (some ⟨g, 0, none⟩)), some (.pointer (some ⟨g, 10, none⟩)), none, some (.pointer (some ⟨g, 0, none⟩)), none, none, none, none, some (.pointer (some ⟨g, 0, none⟩)), some (.pointer (some ⟨g, 10, none⟩))] [cv (.pointer (some ⟨g, 0, none⟩)), cv (.pointer (some ⟨g, 0, none⟩)), cv (.pointer (some ⟨g, 0, none⟩)), cv (.pointer (some ⟨g, 10, none⟩)), cv ev, cv (.pointer (some ⟨g, 0, none⟩)), cv (.agg (insC ⟨8, i.dst, i.a, i.b, i.imm, i.loc, i.off, i.index, i.size, i.fn, i.acq, i.weak, i.rel, i.pred, i.succ, i.to, i.zero⟩)), cv (.agg #[.int .i64 0, .int .i64 ((path.length : Nat) : Int), .int .i64 p, .int .i64 8, .int .i64 0, .int .i64 0, .bool false, .bool false, .int .i64 0, .int .i64 0, .bool i.acq, .bool i.weak, .bool i.rel, .int .i64 i.pred, .int .i64 i.succ]), cs1 M80 hM80A #[.int .i64 0, .int .i64 ((path.length : Nat) : Int), .int .i64 p, .int .i64 8, .int .i64 0, .int .i64 0, .bool false, .bool false, .int .i64 0, .int .i64 0, .bool i.acq, .bool i.weak, .bool i.rel, .int .i64 i.pred, .int .i64 i.succ] 52, cfree, cv (.pointer (some ⟨g, 0, none⟩)), cv (.pointer (some ⟨g, 10, none⟩))]) (some 9) (fun i => (([some (.pointer (some ⟨g, 0, none⟩)), some (.pointer (some ⟨g, 0, none⟩)), some (.pointer (some ⟨g, 0, none⟩)), some (.pointer (some ⟨g, 10, none⟩)), none, some (.pointer (some ⟨g, 0, none⟩)), none, none, none, none, some (.pointer (some ⟨g, 0, none⟩)), some (.pointer (some ⟨g, 10, none⟩))] : List (Option Value))[i]?).getD none) (fun v' w' => w'.ownsRow Bd 52 15 v' (evs.length + 1) ((evE evs) ++ (#[.int .i64 0, .int .i64 ((path.length : Nat) : Int), .int .i64 p, .int .i64 8, .int .i64 0, .int .i64 0, .bool false, .bool false, .int .i64 0, .int .i64 0, .bool i.acq, .bool i.weak, .bool i.rel, .int .i64 i.pred, .int .i64 i.succ] : Array Value).toList) ∧ Below Bd w w' ∧ Blk w' g (walkC p r rd ev pa) 62 ∧ Blk w' g3 (insC ⟨8, i.dst, i.a, i.b, i.imm, i.loc, i.off, i.index, i.size, i.fn, i.acq, i.weak, i.rel, i.pred, i.succ, i.to, i.zero⟩) 23 ∧ w'.ownsRow Bd 3 1 pa path.length (paE path) ∧ v'.ownBlock ≠ some g ∧ v'.ownBlock ≠ some g3 ∧ ∀ k, pa.ownBlock = some k → v'.ownBlock ≠ some k) [11, 9, 0, 1, 2, 3, 4, 5, 6, 7, 8, 10] [4, 8, 7, 3, 5, 6, 2, 1] mixedY SM.refl SM.trans hA79 (by kernel_rfl) (by kernel_rfl) (tabQ_cv _ _) ?_ ?_
 ·skip
  refine eachD_cons (.inr (.inl ⟨by decide, _, rfl, fun x y hT hk hk0 => d_move (wn rfl) (hT.ev rfl) ⟨rfl, rfl⟩⟩)) ?_
  refine eachD_cons (.inr (.inl ⟨by decide, _, rfl, fun x y hT hk hk0 => d_move (wn rfl) (hT.ev rfl) ⟨rfl, rfl⟩⟩)) ?_
  refine eachD_cons (.inr (.inl ⟨by decide, _, rfl, fun x y hT hk hk0 => d_nilCheck (wn rfl) (hk 1 _ rfl rfl) ⟨rfl, rfl⟩⟩)) ?_
  refine eachD_cons (.inr (.inl ⟨by decide, _, rfl, fun x y hT hk hk0 => d_fieldAddr (wn rfl) (hk 2 _ rfl rfl) fo62_3 ⟨rfl, rfl⟩⟩)) ?_
  refine eachD_cons (.inl ⟨by decide, rfl, fun x y hS hT hk => d_load (v := ev) (wn rfl) (hk 3 rfl) one44 ((Blk.sm (w := w4.drew) m12 hS (hM80A _)).cell rfl) ⟨SM.refl _, rfl⟩⟩) ?_
  refine eachD_cons (.inr (.inl ⟨by decide, _, rfl, fun x y hT hk hk0 => d_move (wn rfl) (hT.ev rfl) ⟨rfl, rfl⟩⟩)) ?_
  refine eachD_cons (.inl ⟨by decide, rfl, fun x y hS hT hk => d_loadRow (cs := (insC ⟨8, i.dst, i.a, i.b, i.imm, i.loc, i.off, i.index, i.size, i.fn, i.acq, i.weak, i.rel, i.pred, i.succ, i.to, i.zero⟩)) (wn rfl) (hT.ev rfl) row23 (Blk.sm (w := w4.drew) m7 hS (hM80A _)) ⟨SM.refl _, rfl⟩⟩) ?_
  refine eachD_cons (.inl ⟨by decide, rfl, fun x y hS hT hk => d_call (wn rfl) ent49 (map2 (show x.eval _ = (.pointer (some ⟨g, 0, none⟩)) from (hk 5 rfl)) (show x.eval _ = (.agg (insC ⟨8, i.dst, i.a, i.b, i.imm, i.loc, i.off, i.index, i.size, i.fn, i.acq, i.weak, i.rel, i.pred, i.succ, i.to, i.zero⟩)) from (hk 6 rfl))) (event_any g p r rd ev pa (⟨8, i.dst, i.a, i.b, i.imm, i.loc, i.off, i.index, i.size, i.fn, i.acq, i.weak, i.rel, i.pred, i.succ, i.to, i.zero⟩) path.length Bd (paE path) y (Blk.sm (w := w4.drew) m12 hS (hM80A _)) (own_sm (w := w4.drew) ho15 hS hM80A)) (fun _ _ ⟨he, hG⟩ => ⟨(.agg #[.int .i64 0, .int .i64 ((path.length : Nat) : Int), .int .i64 p, .int .i64 8, .int .i64 0, .int .i64 0, .bool false, .bool false, .int .i64 0, .int .i64 0, .bool i.acq, .bool i.weak, .bool i.rel, .int .i64 i.pred, .int .i64 i.succ]), he, SM.grow hG, rfl⟩)⟩) ?_
  refine eachD_cons (.inl ⟨by decide, rfl, fun x y hS hT hk => d_slice1 (wn rfl) (show x.eval _ = (.agg #[.int .i64 0, .int .i64 ((path.length : Nat) : Int), .int .i64 p, .int .i64 8, .int .i64 0, .int .i64 0, .bool false, .bool false, .int .i64 0, .int .i64 0, .bool i.acq, .bool i.weak, .bool i.rel, .int .i64 i.pred, .int .i64 i.succ]) from (hk 7 rfl)) elm44 rfl (by decide) (fun g w' _ hG hb => ⟨SM.grow hG, g, rfl, hb⟩)⟩) ?_
  refine eachD_cons (.inr (.inr ⟨rfl, fun x y hS hT hk => ?_⟩)) ?_
  ·skip
   obtain ⟨gb, hvb, hbb⟩ := hk 8 rfl
   have hG : Grow w4 y := Grow.trans ((Grow.refl _).drew) (SM.grown (by rw [hM80] at hS; exact hS))
   have hR := own_grow hG ho14
   have hO := own_grow hG ho15
   have hBl := below_grow b13 hG (Nat.le_trans hB b13.size)
   refine d_append (wn rfl) (show x.eval _ = ev from (hk 4 rfl)) hvb elm44 hR hbb rfl rfl (by omega) (by decide) (Nat.le_trans hB hBl.size) ?_
   intro v' w' h1 h2 h3
   exact ⟨h1, below_by hBl h2 (Nat.le_trans hB hBl.size) (fun k hk => (own_lt hR k hk).1), (m12.grow hG).by h2 oe, (m7.grow hG).by h2 off10, own_by hO h2 ap, lies_ne h3 oe (m12.grow hG).lt, lies_ne h3 off10 (m7.grow hG).lt, lies_ap h3 ap hO⟩
  refine eachD_cons (.inr (.inl ⟨by decide, _, rfl, fun x y hT hk hk0 => d_nilCheck (wn rfl) (hk 0 _ rfl rfl) ⟨rfl, rfl⟩⟩)) ?_
  refine eachD_cons (.inr (.inl ⟨by decide, _, rfl, fun x y hT hk hk0 => d_fieldAddr (wn rfl) (hk 10 _ rfl rfl) fo62_3 ⟨rfl, rfl⟩⟩)) ?_
  exact eachD_one
 rintro a81 w82 hA83 ⟨hP85, hW86⟩
 obtain ⟨v87, hv88⟩ : ∃ v', v' = (a81.tmps.getD 82 undef) := ⟨_, rfl⟩
 have hW89 : (fun v' w' => w'.ownsRow Bd 52 15 v' (evs.length + 1) ((evE evs) ++ (#[.int .i64 0, .int .i64 ((path.length : Nat) : Int), .int .i64 p, .int .i64 8, .int .i64 0, .int .i64 0, .bool false, .bool false, .int .i64 0, .int .i64 0, .bool i.acq, .bool i.weak, .bool i.rel, .int .i64 i.pred, .int .i64 i.succ] : Array Value).toList) ∧ Below Bd w w' ∧ Blk w' g (walkC p r rd ev pa) 62 ∧ Blk w' g3 (insC ⟨8, i.dst, i.a, i.b, i.imm, i.loc, i.off, i.index, i.size, i.fn, i.acq, i.weak, i.rel, i.pred, i.succ, i.to, i.zero⟩) 23 ∧ w'.ownsRow Bd 3 1 pa path.length (paE path) ∧ v'.ownBlock ≠ some g ∧ v'.ownBlock ≠ some g3 ∧ ∀ k, pa.ownBlock = some k → v'.ownBlock ≠ some k) v87 w82 := by rw [hv88]; exact hW86
 obtain ⟨ho90, b91, m92, m93, ho94, off95, off96, ap97⟩ := hW89
 have ap98 : ∀ k, v87.ownBlock = some k → pa.ownBlock ≠ some k := fun k h1 h2 => ap97 k h2 h1
 have hA99 : St 117 [(0, (.pointer (some ⟨g, 0, none⟩))), (4, (.bool false)), (5, (.int .i64 (p + 1))), (82, v87), (84, (.pointer (some ⟨g, 10, none⟩)))] a81 := hA83.cut _ (fm_cons (hA83.get 0 _ rfl) (fm_cons (hA83.get 4 _ rfl) (fm_cons (hA83.get 5 _ rfl) (fm_cons hv88.symm (fm_cons (hP85 11 _ (Nat.le_of_ble_eq_true rfl) (by decide) rfl) fm_nil)))))
 refine d_store (v := v87) (wn rfl) (hA99.ev rfl) (hA99.ev rfl) one44 (one_slice (own_form ho90)) m92 (Nat.le_of_ble_eq_true rfl) ?_
 intro w100 hU101 (m102 : Blk w100 g (walkC p r rd v87 pa) 62)
 have m103 := m93.upd hU101 (Ne.symm n9)
 have b104 := hU101.below b91 hge
 have ho105 := own_upd ho90 hU101 off95
 have ho106 := own_upd ho94 hU101 op_
 have hA107 : St 117 [(0, (.pointer (some ⟨g, 0, none⟩))), (4, (.bool false)), (5, (.int .i64 (p + 1)))] a81 := hA99.cut _ (fm_cons (hA99.get 0 _ rfl) (fm_cons (hA99.get 4 _ rfl) (fm_cons (hA99.get 5 _ rfl) fm_nil)))
 refine i_norm ?_
 refine t_norm ?_
 refine wp_seq ?_
 have hA108 : St 117 [(0, (.pointer (some ⟨g, 0, none⟩))), (4, (.bool false)), (5, (.int .i64 (p + 1)))] a81 := hA107.cut _ (fm_cons (hA107.get 0 _ rfl) (fm_cons (hA107.get 4 _ rfl) (fm_cons (hA107.get 5 _ rfl) fm_nil)))
 let M109 : Nat → Option (Array Value) := fun _ => none
 have hM109 : M109 = fun _ => none := rfl
 clear_value M109
 have hM109A : ∀ k, M109 k = none := fun k => congrFun hM109 k
 have hM109B : ∀ k, k < Bd → M109 k = none := fun k _ => hM109A k
 refine drawnL (S := SM M109) rfl (tabQ [some (.pointer (some ⟨g, 0, none⟩)), some (.pointer (some ⟨g, 0, none⟩)), some (.pointer (some ⟨g, 0, none⟩)), some (.pointer (some ⟨g, 11, none⟩)), none, some (.pointer (some ⟨g, 0, none⟩)), some (.pointer (some ⟨g, 0, none⟩)), some (.pointer (some ⟨g, 0, none⟩)), none, none, none, some (.pointer (some ⟨g, 0, none⟩)), some (.pointer (some ⟨g, 11, none⟩))] [cv (.pointer (some ⟨g, 0, none⟩)), cv (.pointer (some ⟨g, 0, none⟩)), cv (.pointer (some ⟨g, 0, none⟩)), cv (.pointer (some ⟨g, 11, none⟩)), cv pa, cv (.pointer (some ⟨g, 0, none⟩)), cv (.pointer (some ⟨g, 0, none⟩)), cv (.pointer (some ⟨g, 0, none⟩)), cv (.int .i64 p), cs1 M109 hM109A #[.int .i64 p] 3, cfree, cv (.pointer (some ⟨g, 0, none⟩)), cv (.pointer (some ⟨g, 11, none⟩))]) (some 10) (fun i => (([some (.pointer (some ⟨g, 0, none⟩)), some (.pointer (some ⟨g, 0, none⟩)), some (.pointer (some ⟨g, 0, none⟩)), some (.pointer (some ⟨g, 11, none⟩)), none, some (.pointer (some ⟨g, 0, none⟩)), some (.pointer (some ⟨g, 0, none⟩)), some (.pointer (some ⟨g, 0, none⟩)), none, none, none, some (.pointer (some ⟨g, 0, none⟩)), some (.pointer (some ⟨g, 11, none⟩))] : List (Option Value))[i]?).getD none) (fun v' w' => w'.ownsRow Bd 3 1 v' (path.length + 1) ((paE path) ++ (#[.int .i64 p] : Array Value).toList) ∧ Below Bd w w' ∧ Blk w' g (walkC p r rd v87 pa) 62 ∧ Blk w' g3 (insC ⟨8, i.dst, i.a, i.b, i.imm, i.loc, i.off, i.index, i.size, i.fn, i.acq, i.weak, i.rel, i.pred, i.succ, i.to, i.zero⟩) 23 ∧ w'.ownsRow Bd 52 15 v87 (evs.length + 1) ((evE evs) ++ (#[.int .i64 0, .int .i64 ((path.length : Nat) : Int), .int .i64 p, .int .i64 8, .int .i64 0, .int .i64 0, .bool false, .bool false, .int .i64 0, .int .i64 0, .bool i.acq, .bool i.weak, .bool i.rel, .int .i64 i.pred, .int .i64 i.succ] : Array Value).toList) ∧ v'.ownBlock ≠ some g ∧ v'.ownBlock ≠ some g3 ∧ ∀ k, v87.ownBlock = some k → v'.ownBlock ≠ some k) [12, 10, 0, 1, 2, 3, 4, 5, 6, 7, 8, 9, 11] [4, 9, 3, 8, 2, 7, 1, 6, 5] mixedY SM.refl SM.trans hA108 (by kernel_rfl) (by kernel_rfl) (tabQ_cv _ _) ?_ ?_
 ·skip
  refine eachD_cons (.inr (.inl ⟨by decide, _, rfl, fun x y hT hk hk0 => d_move (wn rfl) (hT.ev rfl) ⟨rfl, rfl⟩⟩)) ?_
  refine eachD_cons (.inr (.inl ⟨by decide, _, rfl, fun x y hT hk hk0 => d_move (wn rfl) (hT.ev rfl) ⟨rfl, rfl⟩⟩)) ?_
  refine eachD_cons (.inr (.inl ⟨by decide, _, rfl, fun x y hT hk hk0 => d_nilCheck (wn rfl) (hk 1 _ rfl rfl) ⟨rfl, rfl⟩⟩)) ?_
  refine eachD_cons (.inr (.inl ⟨by decide, _, rfl, fun x y hT hk hk0 => d_fieldAddr (wn rfl) (hk 2 _ rfl rfl) fo62_4 ⟨rfl, rfl⟩⟩)) ?_
  refine eachD_cons (.inl ⟨by decide, rfl, fun x y hS hT hk => d_load (v := pa) (wn rfl) (hk 3 rfl) one30 ((Blk.sm (w := w100.drew) m102 hS (hM109A _)).cell rfl) ⟨SM.refl _, rfl⟩⟩) ?_
  refine eachD_cons (.inr (.inl ⟨by decide, _, rfl, fun x y hT hk hk0 => d_move (wn rfl) (hT.ev rfl) ⟨rfl, rfl⟩⟩)) ?_
  refine eachD_cons (.inr (.inl ⟨by decide, _, rfl, fun x y hT hk hk0 => d_nilCheck (wn rfl) (hk 5 _ rfl rfl) ⟨rfl, rfl⟩⟩)) ?_
  refine eachD_cons (.inr (.inl ⟨by decide, _, rfl, fun x y hT hk hk0 => d_fieldAddr (wn rfl) (hk 6 _ rfl rfl) fo62_0 ⟨rfl, rfl⟩⟩)) ?_
  refine eachD_cons (.inl ⟨by decide, rfl, fun x y hS hT hk => d_load (v := (.int .i64 p)) (wn rfl) (hk 7 rfl) one3 ((Blk.sm (w := w100.drew) m102 hS (hM109A _)).cell rfl) ⟨SM.refl _, rfl⟩⟩) ?_
  refine eachD_cons (.inl ⟨by decide, rfl, fun x y hS hT hk => d_slice1 (wn rfl) (show x.eval _ = (.int .i64 p) from (hk 8 rfl)) elm30 rfl (by decide) (fun g w' _ hG hb => ⟨SM.grow hG, g, rfl, hb⟩)⟩) ?_
  refine eachD_cons (.inr (.inr ⟨rfl, fun x y hS hT hk => ?_⟩)) ?_
  ·skip
   obtain ⟨gb, hvb, hbb⟩ := hk 9 rfl
   have hG : Grow w100 y := Grow.trans ((Grow.refl _).drew) (SM.grown (by rw [hM109] at hS; exact hS))
   have hR := own_grow hG ho106
   have hO := own_grow hG ho105
   have hBl := below_grow b104 hG (Nat.le_trans hB b104.size)
   refine d_append (wn rfl) (show x.eval _ = pa from (hk 4 rfl)) hvb elm30 hR hbb rfl rfl (by omega) (by decide) (Nat.le_trans hB hBl.size) ?_
   intro v' w' h1 h2 h3
   exact ⟨h1, below_by hBl h2 (Nat.le_trans hB hBl.size) (fun k hk => (own_lt hR k hk).1), (m102.grow hG).by h2 op_, (m103.grow hG).by h2 off11, own_by hO h2 ap98, lies_ne h3 op_ (m102.grow hG).lt, lies_ne h3 off11 (m103.grow hG).lt, lies_ap h3 ap98 hO⟩
  refine eachD_cons (.inr (.inl ⟨by decide, _, rfl, fun x y hT hk hk0 => d_nilCheck (wn rfl) (hk 0 _ rfl rfl) ⟨rfl, rfl⟩⟩)) ?_
  refine eachD_cons (.inr (.inl ⟨by decide, _, rfl, fun x y hT hk hk0 => d_fieldAddr (wn rfl) (hk 11 _ rfl rfl) fo62_4 ⟨rfl, rfl⟩⟩)) ?_
  exact eachD_one
 rintro a110 w111 hA112 ⟨hP114, hW115⟩
 obtain ⟨v116, hv117⟩ : ∃ v', v' = (a110.tmps.getD 110 undef) := ⟨_, rfl⟩
 have hW118 : (fun v' w' => w'.ownsRow Bd 3 1 v' (path.length + 1) ((paE path) ++ (#[.int .i64 p] : Array Value).toList) ∧ Below Bd w w' ∧ Blk w' g (walkC p r rd v87 pa) 62 ∧ Blk w' g3 (insC ⟨8, i.dst, i.a, i.b, i.imm, i.loc, i.off, i.index, i.size, i.fn, i.acq, i.weak, i.rel, i.pred, i.succ, i.to, i.zero⟩) 23 ∧ w'.ownsRow Bd 52 15 v87 (evs.length + 1) ((evE evs) ++ (#[.int .i64 0, .int .i64 ((path.length : Nat) : Int), .int .i64 p, .int .i64 8, .int .i64 0, .int .i64 0, .bool false, .bool false, .int .i64 0, .int .i64 0, .bool i.acq, .bool i.weak, .bool i.rel, .int .i64 i.pred, .int .i64 i.succ] : Array Value).toList) ∧ v'.ownBlock ≠ some g ∧ v'.ownBlock ≠ some g3 ∧ ∀ k, v87.ownBlock = some k → v'.ownBlock ≠ some k) v116 w111 := by rw [hv117]; exact hW115
 obtain ⟨ho119, b120, m121, m122, ho123, off124, off125, ap126⟩ := hW118
 have ap127 : ∀ k, v116.ownBlock = some k → v87.ownBlock ≠ some k := fun k h1 h2 => ap126 k h2 h1
 have hA128 : St 117 [(0, (.pointer (some ⟨g, 0, none⟩))), (4, (.bool false)), (5, (.int .i64 (p + 1))), (110, v116), (112, (.pointer (some ⟨g, 11, none⟩)))] a110 := hA112.cut _ (fm_cons (hA112.get 0 _ rfl) (fm_cons (hA112.get 4 _ rfl) (fm_cons (hA112.get 5 _ rfl) (fm_cons hv117.symm (fm_cons (hP114 12 _ (Nat.le_of_ble_eq_true rfl) (by decide) rfl) fm_nil)))))
 refine d_store (v := v116) (wn rfl) (hA128.ev rfl) (hA128.ev rfl) one30 (one_slice (own_form ho119)) m121 (Nat.le_of_ble_eq_true rfl) ?_
 intro w129 hU130 (m131 : Blk w129 g (walkC p r rd v87 v116) 62)
 have m132 := m122.upd hU130 (Ne.symm n9)
 have b133 := hU130.below b120 hge
 have ho134 := own_upd ho123 hU130 off95
 have ho135 := own_upd ho119 hU130 off124
 have hA136 : St 117 [(0, (.pointer (some ⟨g, 0, none⟩))), (4, (.bool false)), (5, (.int .i64 (p + 1)))] a110 := hA128.cut _ (fm_cons (hA128.get 0 _ rfl) (fm_cons (hA128.get 4 _ rfl) (fm_cons (hA128.get 5 _ rfl) fm_nil)))
 refine t_norm ?_
 refine wp_seq ?_
 refine wp_region_lit ?_
 refine q_step hA136 rfl (d_move (wn rfl) (hA136.ev rfl) ?_)
 intro a137 hA138
 refine q_step hA138 rfl (d_move (wn rfl) (hA138.ev rfl) ?_)
 intro a139 hA140
 refine q_step hA140 rfl (d_nilCheck (wn rfl) (hA140.ev rfl) ?_)
 intro a141 hA142
 refine q_step hA142 rfl (d_fieldAddr (wn rfl) (hA142.ev rfl) fo62_0 ?_)
 intro a143 hA144
 refine q_step hA144 rfl (d_store (v := (.int .i64 (p + 1))) (wn rfl) (hA144.ev rfl) (hA144.ev rfl) one3 rfl m131 (Nat.le_of_ble_eq_true rfl) ?_)
 intro w145 hU146 (m147 : Blk w145 g (walkC (p + 1) r rd v87 v116) 62)
 have m148 := m132.upd hU146 (Ne.symm n9)
 have b149 := hU146.below b133 hge
 have ho150 := own_upd ho134 hU146 off95
 have ho151 := own_upd ho135 hU146 off124
 intro a152 hA153
 refine q_end ?_
 have hA154 : St 117 [(4, (.bool false))] a152 := hA153.cut _ (fm_cons (hA153.get 4 _ rfl) fm_nil)
 refine t_norm ?_
 refine wp_seq ?_
 refine wp_region_lit ?_
 refine q_step hA154 rfl (d_assign (wn rfl) (hA154.ev rfl) ?_)
 intro a155 hA156
 refine q_end ?_
 have hA157 : St 117 [(4, (.bool true))] a155 := hA156.cut _ (fm_cons (hA156.get 4 _ rfl) fm_nil)
 refine t_norm ?_
 refine wp_ret ?_
 refine ret1 rfl hA157 (v := (.bool true)) rfl ?_
 exact ⟨rfl, b149, rd, v87, v116, m147, hge, (hrd.below b149), (by rw [List.length_append, ← evE_snoc]; exact ho150), (by rw [List.length_append, ← paE_snoc]; exact ho151), off95, off124, ap127⟩
end Go.Proofs.Ytlhompedcphnnaa
/- A step of the walk. -/
namespace Go.Proofs.Ytlhompedcphnnaa
open Go.RowKit
set_option linter.unusedSimpArgs false
set_option linter.unusedVariables false
set_option maxHeartbeats 4000000 in
set_option maxRecDepth 4000 in
theorem step_9 (Bd g : Nat) (p : Int) (r : Nat → Int) (rd ev pa : Value) (i : Ins) (k : Nat) (rds : List Int) (evs : List Ev) (path : List Int) (w : World) (hB : Bd ≤ w.heap.size) (hW : WS Bd g w p r rds evs path rd ev pa) (hne : evs.length ≤ 1000) (hnp : path.length ≤ 1000) (hr : ∀ k, wfI (r k)) (hp : 0 ≤ p) (hp2 : p ≤ 1000) (hk : k < 8) : Calls Try.prog 36 #[.pointer (some ⟨g, 0, none⟩), .agg (insC ⟨9, i.dst, ((k : Nat) : Int), i.b, i.imm, i.loc, i.off, i.index, i.size, i.fn, i.acq, i.weak, i.rel, i.pred, i.succ, i.to, i.zero⟩)] w fun e w' => e = .returned (.bool true) ∧ Below Bd w w' ∧ ∃ rd' ev' pa', WS Bd g w' (brP r k i p) r rds evs (path ++ [p]) rd' ev' pa' := by
 obtain ⟨hb, hge, hrd, hev, hpa, oe, op_, ap⟩ := hW
 have ap2 : ∀ k, ev.ownBlock = some k → pa.ownBlock ≠ some k := fun k h1 h2 => ap k h2 h1
 have b0 : Below Bd w w := Below.refl _ _
 refine enter (n := 117) Try.func36 rfl rfl (Nat.le_of_ble_eq_true rfl) ?_
 intro a1 hA2
 refine wp_seq ?_
 refine wp_region_lit ?_
 refine q_step hA2 rfl (d_box (wn rfl) (hA2.ev rfl) ?_)
 intro g3 w4 eg5 hG6 (m7 : Blk w4 g3 (insC ⟨9, i.dst, ((k : Nat) : Int), i.b, i.imm, i.loc, i.off, i.index, i.size, i.fn, i.acq, i.weak, i.rel, i.pred, i.succ, i.to, i.zero⟩) 23)
 have ge8 : Bd ≤ g3 := eg5 ▸ (Nat.le_trans hB b0.size)
 have n9 : g ≠ g3 := fun h => Nat.lt_irrefl _ ((h.trans eg5) ▸ hb.lt)
 have off10 := own_new hev eg5
 have off11 := own_new hpa eg5
 have m12 := hb.grow hG6
 have b13 := below_grow b0 hG6 (Nat.le_trans hB b0.size)
 have ho14 := own_grow hG6 hev
 have ho15 := own_grow hG6 hpa
 intro a16 hA17
 refine q_step hA17 rfl (d_assign (wn rfl) (hA17.ev rfl) ?_)
 intro a18 hA19
 refine q_end ?_
 have hA20 : St 117 [(0, (.pointer (some ⟨g, 0, none⟩))), (3, (.pointer (some ⟨g3, 0, none⟩))), (4, (.bool false))] a18 := hA19.cut _ (fm_cons (hA19.get 0 _ rfl) (fm_cons (hA19.get 3 _ rfl) (fm_cons (hA19.get 4 _ rfl) fm_nil)))
 refine t_norm ?_
 refine wp_seq ?_
 refine wp_region_lit ?_
 refine q_step hA20 rfl (d_move (wn rfl) (hA20.ev rfl) ?_)
 intro a21 hA22
 refine q_step hA22 rfl (d_nilCheck (wn rfl) (hA22.ev rfl) ?_)
 intro a23 hA24
 refine q_step hA24 rfl (d_fieldAddr (wn rfl) (hA24.ev rfl) fo62_0 ?_)
 intro a25 hA26
 refine q_step hA26 rfl (d_load (v := (.int .i64 p)) (wn rfl) (hA26.ev rfl) one3 (m12.cell rfl) ?_)
 intro a27 hA28
 refine q_step hA28 rfl (d_bin (wn rfl) (hA28.ev rfl) (hA28.ev rfl) (b_add _ _ p 1 _ (by omega) (by omega)) ?_)
 intro a29 hA30
 refine q_step hA30 rfl (d_assign (wn rfl) (hA30.ev rfl) ?_)
 intro a31 hA32
 refine q_end ?_
 have hA33 : St 117 [(0, (.pointer (some ⟨g, 0, none⟩))), (3, (.pointer (some ⟨g3, 0, none⟩))), (4, (.bool false)), (5, (.int .i64 (p + 1)))] a31 := hA32.cut _ (fm_cons (hA32.get 0 _ rfl) (fm_cons (hA32.get 3 _ rfl) (fm_cons (hA32.get 4 _ rfl) (fm_cons (hA32.get 5 _ rfl) fm_nil))))
 refine t_norm ?_
 refine wp_seq ?_
 refine wp_seq ?_
 refine wp_region_lit ?_
 refine q_step hA33 rfl (d_fieldAddr (wn rfl) (hA33.ev rfl) fo23_0 ?_)
 intro a34 hA35
 refine q_step hA35 rfl (d_load (v := (.int .i64 9)) (wn rfl) (hA35.ev rfl) one3 (m7.cell rfl) ?_)
 intro a36 hA37
 refine q_end ?_
 have hA38 : St 117 [(0, (.pointer (some ⟨g, 0, none⟩))), (3, (.pointer (some ⟨g3, 0, none⟩))), (4, (.bool false)), (5, (.int .i64 (p + 1))), (12, (.int .i64 9))] a36 := hA37.cut _ (fm_cons (hA37.get 0 _ rfl) (fm_cons (hA37.get 3 _ rfl) (fm_cons (hA37.get 4 _ rfl) (fm_cons (hA37.get 5 _ rfl) (fm_cons (hA37.get 12 _ rfl) fm_nil)))))
 refine t_norm ?_
 refine wp_block ?_
 refine wp_seq ?_
 refine wp_region_lit ?_
 refine q_step hA38 rfl (d_bin (wn rfl) (hA38.ev rfl) (hA38.ev rfl) (b_eq _ _ 9 1 false _ rfl) ?_)
 intro a39 hA40
 refine q_step hA40 rfl (d_assign (wn rfl) (hA40.ev rfl) ?_)
 intro a41 hA42
 refine q_end ?_
 have hA43 : St 117 [(0, (.pointer (some ⟨g, 0, none⟩))), (3, (.pointer (some ⟨g3, 0, none⟩))), (4, (.bool false)), (5, (.int .i64 (p + 1))), (12, (.int .i64 9)), (13, (.bool false))] a41 := hA42.cut _ (fm_cons (hA42.get 0 _ rfl) (fm_cons (hA42.get 3 _ rfl) (fm_cons (hA42.get 4 _ rfl) (fm_cons (hA42.get 5 _ rfl) (fm_cons (hA42.get 12 _ rfl) (fm_cons (hA42.get 13 _ rfl) fm_nil))))))
 refine t_norm ?_
 refine c_false hA43 rfl ?_
 refine wp_seq ?_
 refine wp_region_lit ?_
 refine q_step hA43 rfl (d_bin (wn rfl) (hA43.ev rfl) (hA43.ev rfl) (b_eq _ _ 9 2 false _ rfl) ?_)
 intro a44 hA45
 refine q_step hA45 rfl (d_assign (wn rfl) (hA45.ev rfl) ?_)
 intro a46 hA47
 refine q_end ?_
 have hA48 : St 117 [(0, (.pointer (some ⟨g, 0, none⟩))), (3, (.pointer (some ⟨g3, 0, none⟩))), (4, (.bool false)), (5, (.int .i64 (p + 1))), (12, (.int .i64 9)), (23, (.bool false))] a46 := hA47.cut _ (fm_cons (hA47.get 0 _ rfl) (fm_cons (hA47.get 3 _ rfl) (fm_cons (hA47.get 4 _ rfl) (fm_cons (hA47.get 5 _ rfl) (fm_cons (hA47.get 12 _ rfl) (fm_cons (hA47.get 23 _ rfl) fm_nil))))))
 refine t_norm ?_
 refine c_false hA48 rfl ?_
 refine wp_seq ?_
 refine wp_region_lit ?_
 refine q_step hA48 rfl (d_bin (wn rfl) (hA48.ev rfl) (hA48.ev rfl) (b_eq _ _ 9 3 false _ rfl) ?_)
 intro a49 hA50
 refine q_step hA50 rfl (d_assign (wn rfl) (hA50.ev rfl) ?_)
 intro a51 hA52
 refine q_end ?_
 have hA53 : St 117 [(0, (.pointer (some ⟨g, 0, none⟩))), (3, (.pointer (some ⟨g3, 0, none⟩))), (4, (.bool false)), (5, (.int .i64 (p + 1))), (12, (.int .i64 9)), (38, (.bool false))] a51 := hA52.cut _ (fm_cons (hA52.get 0 _ rfl) (fm_cons (hA52.get 3 _ rfl) (fm_cons (hA52.get 4 _ rfl) (fm_cons (hA52.get 5 _ rfl) (fm_cons (hA52.get 12 _ rfl) (fm_cons (hA52.get 38 _ rfl) fm_nil))))))
 refine t_norm ?_
 refine c_false hA53 rfl ?_
 refine wp_seq ?_
 refine wp_seq ?_
 refine wp_region_lit ?_
 refine q_step hA53 rfl (d_bin (wn rfl) (hA53.ev rfl) (hA53.ev rfl) (b_eq _ _ 9 4 false _ rfl) ?_)
 intro a54 hA55
 refine q_step hA55 rfl (d_assign (wn rfl) (hA55.ev rfl) ?_)
 intro a56 hA57
 refine q_end ?_
 have hA58 : St 117 [(0, (.pointer (some ⟨g, 0, none⟩))), (3, (.pointer (some ⟨g3, 0, none⟩))), (4, (.bool false)), (5, (.int .i64 (p + 1))), (12, (.int .i64 9)), (62, (.bool false))] a56 := hA57.cut _ (fm_cons (hA57.get 0 _ rfl) (fm_cons (hA57.get 3 _ rfl) (fm_cons (hA57.get 4 _ rfl) (fm_cons (hA57.get 5 _ rfl) (fm_cons (hA57.get 12 _ rfl) (fm_cons (hA57.get 62 _ rfl) fm_nil))))))
 refine t_norm ?_
 refine c_false hA58 rfl ?_
 refine wp_seq ?_
 refine wp_region_lit ?_
 refine q_step hA58 rfl (d_bin (wn rfl) (hA58.ev rfl) (hA58.ev rfl) (b_eq _ _ 9 5 false _ rfl) ?_)
 intro a59 hA60
 refine q_step hA60 rfl (d_assign (wn rfl) (hA60.ev rfl) ?_)
 intro a61 hA62
 refine q_end ?_
 have hA63 : St 117 [(0, (.pointer (some ⟨g, 0, none⟩))), (3, (.pointer (some ⟨g3, 0, none⟩))), (4, (.bool false)), (5, (.int .i64 (p + 1))), (12, (.int .i64 9)), (62, (.bool false))] a61 := hA62.cut _ (fm_cons (hA62.get 0 _ rfl) (fm_cons (hA62.get 3 _ rfl) (fm_cons (hA62.get 4 _ rfl) (fm_cons (hA62.get 5 _ rfl) (fm_cons (hA62.get 12 _ rfl) (fm_cons (hA62.get 62 _ rfl) fm_nil))))))
 refine t_norm ?_
 refine c_false hA63 rfl ?_
 refine wp_region_lit ?_
 refine q_step hA63 rfl (d_bin (wn rfl) (hA63.ev rfl) (hA63.ev rfl) (b_eq _ _ 9 6 false _ rfl) ?_)
 intro a64 hA65
 refine q_step hA65 rfl (d_assign (wn rfl) (hA65.ev rfl) ?_)
 intro a66 hA67
 refine q_end ?_
 have hA68 : St 117 [(0, (.pointer (some ⟨g, 0, none⟩))), (3, (.pointer (some ⟨g3, 0, none⟩))), (4, (.bool false)), (5, (.int .i64 (p + 1))), (12, (.int .i64 9)), (62, (.bool false))] a66 := hA67.cut _ (fm_cons (hA67.get 0 _ rfl) (fm_cons (hA67.get 3 _ rfl) (fm_cons (hA67.get 4 _ rfl) (fm_cons (hA67.get 5 _ rfl) (fm_cons (hA67.get 12 _ rfl) (fm_cons (hA67.get 62 _ rfl) fm_nil))))))
 refine t_norm ?_
 refine c_false hA68 rfl ?_
 refine wp_seq ?_
 refine wp_seq ?_
 refine wp_region_lit ?_
 refine q_step hA68 rfl (d_bin (wn rfl) (hA68.ev rfl) (hA68.ev rfl) (b_eq _ _ 9 7 false _ rfl) ?_)
 intro a69 hA70
 refine q_step hA70 rfl (d_assign (wn rfl) (hA70.ev rfl) ?_)
 intro a71 hA72
 refine q_end ?_
 have hA73 : St 117 [(0, (.pointer (some ⟨g, 0, none⟩))), (3, (.pointer (some ⟨g3, 0, none⟩))), (4, (.bool false)), (5, (.int .i64 (p + 1))), (12, (.int .i64 9)), (70, (.bool false))] a71 := hA72.cut _ (fm_cons (hA72.get 0 _ rfl) (fm_cons (hA72.get 3 _ rfl) (fm_cons (hA72.get 4 _ rfl) (fm_cons (hA72.get 5 _ rfl) (fm_cons (hA72.get 12 _ rfl) (fm_cons (hA72.get 70 _ rfl) fm_nil))))))
 refine t_norm ?_
 refine c_false hA73 rfl ?_
 refine wp_region_lit ?_
 refine q_step hA73 rfl (d_bin (wn rfl) (hA73.ev rfl) (hA73.ev rfl) (b_eq _ _ 9 8 false _ rfl) ?_)
 intro a74 hA75
 refine q_step hA75 rfl (d_assign (wn rfl) (hA75.ev rfl) ?_)
 intro a76 hA77
 refine q_end ?_
 have hA78 : St 117 [(0, (.pointer (some ⟨g, 0, none⟩))), (3, (.pointer (some ⟨g3, 0, none⟩))), (4, (.bool false)), (5, (.int .i64 (p + 1))), (12, (.int .i64 9)), (70, (.bool false))] a76 := hA77.cut _ (fm_cons (hA77.get 0 _ rfl) (fm_cons (hA77.get 3 _ rfl) (fm_cons (hA77.get 4 _ rfl) (fm_cons (hA77.get 5 _ rfl) (fm_cons (hA77.get 12 _ rfl) (fm_cons (hA77.get 70 _ rfl) fm_nil))))))
 refine t_norm ?_
 refine c_false hA78 rfl ?_
 refine wp_seq ?_
 refine wp_region_lit ?_
 refine q_step hA78 rfl (d_bin (wn rfl) (hA78.ev rfl) (hA78.ev rfl) (b_eq _ _ 9 9 true _ rfl) ?_)
 intro a79 hA80
 refine q_step hA80 rfl (d_assign (wn rfl) (hA80.ev rfl) ?_)
 intro a81 hA82
 refine q_end ?_
 have hA83 : St 117 [(0, (.pointer (some ⟨g, 0, none⟩))), (3, (.pointer (some ⟨g3, 0, none⟩))), (4, (.bool false)), (5, (.int .i64 (p + 1))), (85, (.bool true))] a81 := hA82.cut _ (fm_cons (hA82.get 0 _ rfl) (fm_cons (hA82.get 3 _ rfl) (fm_cons (hA82.get 4 _ rfl) (fm_cons (hA82.get 5 _ rfl) (fm_cons (hA82.get 85 _ rfl) fm_nil)))))
 refine t_norm ?_
 refine c_true hA83 rfl ?_
 refine wp_seq ?_
 rcases Bool.eq_false_or_eq_true (r k == 0) with hb84 | hb84
 ·skip
  have hq85 := eq_of_beq hb84
  rcases Bool.eq_false_or_eq_true (i.zero) with hb86 | hb86
  ·skip
   have hA88 : St 117 [(0, (.pointer (some ⟨g, 0, none⟩))), (3, (.pointer (some ⟨g3, 0, none⟩))), (4, (.bool false)), (5, (.int .i64 (p + 1)))] a81 := hA83.cut _ (fm_cons (hA83.get 0 _ rfl) (fm_cons (hA83.get 3 _ rfl) (fm_cons (hA83.get 4 _ rfl) (fm_cons (hA83.get 5 _ rfl) fm_nil))))
   let M89 : Nat → Option (Array Value) := fun _ => none
   have hM89 : M89 = fun _ => none := rfl
   clear_value M89
   have hM90 : M89 g = none := (congrFun hM89 g)
   have hM91 : M89 g3 = none := (congrFun hM89 g3)
   have hM89B : ∀ k, k < Bd → M89 k = none := (fun k hk => (congrFun hM89 k))
   refine drawn (S := SM M89) (tabL [cv (.pointer (some ⟨g, 0, none⟩)), cv (.pointer (some ⟨g3, 2, none⟩)), cv (.int .i64 ((k : Nat) : Int)), cv (.pointer (some ⟨g, 0, none⟩)), cv (.pointer (some ⟨g, 1, none⟩)), cv (.pointer (some ⟨g, 1 + k, none⟩)), cv (.int .i64 (r k)), cv (.bool true), cv (.pointer (some ⟨g3, 16, none⟩)), cv (.bool true), cv (.bool true)]) mixedY SM.refl SM.trans SM.drew hA88 (by kernel_rfl) ?_ ?_
   ·skip
    refine each_cons (fun x y hS hT hk => d_move (wn rfl) (hT.ev rfl) ⟨SM.refl _, rfl⟩) ?_
    refine each_cons (fun x y hS hT hk => d_fieldAddr (wn rfl) (hT.ev rfl) fo23_2 ⟨SM.refl _, rfl⟩) ?_
    refine each_cons (fun x y hS hT hk => d_load (v := (.int .i64 ((k : Nat) : Int))) (wn rfl) (hk 1 rfl) one3 ((Blk.sm (w := w4.drew) m7 hS hM91).cell rfl) ⟨SM.refl _, rfl⟩) ?_
    refine each_cons (fun x y hS hT hk => d_nilCheck (wn rfl) (hk 0 rfl) ⟨SM.refl _, rfl⟩) ?_
    refine each_cons (fun x y hS hT hk => d_fieldAddr (wn rfl) (hk 3 rfl) fo62_1 ⟨SM.refl _, rfl⟩) ?_
    refine each_cons (fun x y hS hT hk => d_indexArrP (j := k) (p := 1 + k) (wn rfl) (hk 4 rfl) (hk 2 rfl) arr43 (by omega) (by omega) ⟨SM.refl _, rfl⟩) ?_
    refine each_cons (fun x y hS hT hk => d_load (v := (.int .i64 (r k))) (wn rfl) (hk 5 rfl) one3 ((Blk.sm (w := w4.drew) m12 hS hM90).cell (walk_get (by omega))) ⟨SM.refl _, rfl⟩) ?_
    refine each_cons (fun x y hS hT hk => d_bin (wn rfl) (hk 6 rfl) (hT.ev rfl) (b_eq _ _ (r k) 0 true _ hb84) ⟨SM.refl _, rfl⟩) ?_
    refine each_cons (fun x y hS hT hk => d_fieldAddr (wn rfl) (hT.ev rfl) fo23_16 ⟨SM.refl _, rfl⟩) ?_
    refine each_cons (fun x y hS hT hk => d_load (v := (.bool true)) (wn rfl) (hk 8 rfl) one4 ((Blk.sm (w := w4.drew) m7 hS hM91).cell (congrArg (fun b => some (Value.bool b)) hb86)) ⟨SM.refl _, rfl⟩) ?_
    refine each_cons (fun x y hS hT hk => d_bin (wn rfl) (hk 7 rfl) (hk 9 rfl) (b_eqb _ _ true true true _ Try.underlying4 rfl) ⟨SM.refl _, rfl⟩) ?_
    exact each_nil
   intro f92 a93 w94 hS95 hC96 hA97
   have hA98 : St 117 [(0, (.pointer (some ⟨g, 0, none⟩))), (3, (.pointer (some ⟨g3, 0, none⟩))), (4, (.bool false)), (5, (.int .i64 (p + 1))), (97, (.bool true))] a93 := hA97.cut _ (fm_cons (hA97.get 0 _ rfl) (fm_cons (hA97.get 3 _ rfl) (fm_cons (hA97.get 4 _ rfl) (fm_cons (hA97.get 5 _ rfl) (fm_cons ((hA97.get 97 _ rfl).trans (hC96 10 (Nat.le_of_ble_eq_true rfl))) fm_nil)))))
   have m99 := m12.sm hS95 hM90
   have m100 := m7.sm hS95 hM91
   have b101 := hS95.below b13 (Nat.le_trans hB b13.size) hM89B
   have ho102 := own_sm ho14 hS95 (fun k => congrFun hM89 k)
   have ho103 := own_sm ho15 hS95 (fun k => congrFun hM89 k)
   refine t_norm ?_
   refine c_true hA98 rfl ?_
   refine wp_region_lit ?_
   refine q_step hA98 rfl (d_fieldAddr (wn rfl) (hA98.ev rfl) fo23_15 ?_)
   intro a104 hA105
   refine q_step hA105 rfl (d_load (v := (.int .i64 i.to)) (wn rfl) (hA105.ev rfl) one3 (m100.cell rfl) ?_)
   intro a106 hA107
   refine q_step hA107 rfl (d_assign (wn rfl) (hA107.ev rfl) ?_)
   intro a108 hA109
   refine q_end ?_
   have hA110 : St 117 [(0, (.pointer (some ⟨g, 0, none⟩))), (4, (.bool false)), (5, (.int .i64 i.to))] a108 := hA109.cut _ (fm_cons (hA109.get 0 _ rfl) (fm_cons (hA109.get 4 _ rfl) (fm_cons (hA109.get 5 _ rfl) fm_nil)))
   refine i_norm ?_
   refine t_norm ?_
   refine wp_seq ?_
   have hA111 : St 117 [(0, (.pointer (some ⟨g, 0, none⟩))), (4, (.bool false)), (5, (.int .i64 i.to))] a108 := hA110.cut _ (fm_cons (hA110.get 0 _ rfl) (fm_cons (hA110.get 4 _ rfl) (fm_cons (hA110.get 5 _ rfl) fm_nil)))
   let M112 : Nat → Option (Array Value) := fun _ => none
   have hM112 : M112 = fun _ => none := rfl
   clear_value M112
   have hM112A : ∀ k, M112 k = none := fun k => congrFun hM112 k
   have hM112B : ∀ k, k < Bd → M112 k = none := fun k _ => hM112A k
   refine drawnL (S := SM M112) rfl (tabQ [some (.pointer (some ⟨g, 0, none⟩)), some (.pointer (some ⟨g, 0, none⟩)), some (.pointer (some ⟨g, 0, none⟩)), some (.pointer (some ⟨g, 11, none⟩)), none, some (.pointer (some ⟨g, 0, none⟩)), some (.pointer (some ⟨g, 0, none⟩)), some (.pointer (some ⟨g, 0, none⟩)), none, none, none, some (.pointer (some ⟨g, 0, none⟩)), some (.pointer (some ⟨g, 11, none⟩))] [cv (.pointer (some ⟨g, 0, none⟩)), cv (.pointer (some ⟨g, 0, none⟩)), cv (.pointer (some ⟨g, 0, none⟩)), cv (.pointer (some ⟨g, 11, none⟩)), cv pa, cv (.pointer (some ⟨g, 0, none⟩)), cv (.pointer (some ⟨g, 0, none⟩)), cv (.pointer (some ⟨g, 0, none⟩)), cv (.int .i64 p), cs1 M112 hM112A #[.int .i64 p] 3, cfree, cv (.pointer (some ⟨g, 0, none⟩)), cv (.pointer (some ⟨g, 11, none⟩))]) (some 10) (fun i => (([some (.pointer (some ⟨g, 0, none⟩)), some (.pointer (some ⟨g, 0, none⟩)), some (.pointer (some ⟨g, 0, none⟩)), some (.pointer (some ⟨g, 11, none⟩)), none, some (.pointer (some ⟨g, 0, none⟩)), some (.pointer (some ⟨g, 0, none⟩)), some (.pointer (some ⟨g, 0, none⟩)), none, none, none, some (.pointer (some ⟨g, 0, none⟩)), some (.pointer (some ⟨g, 11, none⟩))] : List (Option Value))[i]?).getD none) (fun v' w' => w'.ownsRow Bd 3 1 v' (path.length + 1) ((paE path) ++ (#[.int .i64 p] : Array Value).toList) ∧ Below Bd w w' ∧ Blk w' g (walkC p r rd ev pa) 62 ∧ Blk w' g3 (insC ⟨9, i.dst, ((k : Nat) : Int), i.b, i.imm, i.loc, i.off, i.index, i.size, i.fn, i.acq, i.weak, i.rel, i.pred, i.succ, i.to, i.zero⟩) 23 ∧ w'.ownsRow Bd 52 15 ev evs.length (evE evs) ∧ v'.ownBlock ≠ some g ∧ v'.ownBlock ≠ some g3 ∧ ∀ k, ev.ownBlock = some k → v'.ownBlock ≠ some k) [12, 10, 0, 1, 2, 3, 4, 5, 6, 7, 8, 9, 11] [4, 9, 3, 8, 2, 7, 1, 6, 5] mixedY SM.refl SM.trans hA111 (by kernel_rfl) (by kernel_rfl) (tabQ_cv _ _) ?_ ?_
   ·skip
    refine eachD_cons (.inr (.inl ⟨by decide, _, rfl, fun x y hT hk hk0 => d_move (wn rfl) (hT.ev rfl) ⟨rfl, rfl⟩⟩)) ?_
    refine eachD_cons (.inr (.inl ⟨by decide, _, rfl, fun x y hT hk hk0 => d_move (wn rfl) (hT.ev rfl) ⟨rfl, rfl⟩⟩)) ?_
    refine eachD_cons (.inr (.inl ⟨by decide, _, rfl, fun x y hT hk hk0 => d_nilCheck (wn rfl) (hk 1 _ rfl rfl) ⟨rfl, rfl⟩⟩)) ?_
    refine eachD_cons (.inr (.inl ⟨by decide, _, rfl, fun x y hT hk hk0 => d_fieldAddr (wn rfl) (hk 2 _ rfl rfl) fo62_4 ⟨rfl, rfl⟩⟩)) ?_
    refine eachD_cons (.inl ⟨by decide, rfl, fun x y hS hT hk => d_load (v := pa) (wn rfl) (hk 3 rfl) one30 ((Blk.sm (w := w94.drew) m99 hS (hM112A _)).cell rfl) ⟨SM.refl _, rfl⟩⟩) ?_
    refine eachD_cons (.inr (.inl ⟨by decide, _, rfl, fun x y hT hk hk0 => d_move (wn rfl) (hT.ev rfl) ⟨rfl, rfl⟩⟩)) ?_
    refine eachD_cons (.inr (.inl ⟨by decide, _, rfl, fun x y hT hk hk0 => d_nilCheck (wn rfl) (hk 5 _ rfl rfl) ⟨rfl, rfl⟩⟩)) ?_
    refine eachD_cons (.inr (.inl ⟨by decide, _, rfl, fun x y hT hk hk0 => d_fieldAddr (wn rfl) (hk 6 _ rfl rfl) fo62_0 ⟨rfl, rfl⟩⟩)) ?_
    refine eachD_cons (.inl ⟨by decide, rfl, fun x y hS hT hk => d_load (v := (.int .i64 p)) (wn rfl) (hk 7 rfl) one3 ((Blk.sm (w := w94.drew) m99 hS (hM112A _)).cell rfl) ⟨SM.refl _, rfl⟩⟩) ?_
    refine eachD_cons (.inl ⟨by decide, rfl, fun x y hS hT hk => d_slice1 (wn rfl) (show x.eval _ = (.int .i64 p) from (hk 8 rfl)) elm30 rfl (by decide) (fun g w' _ hG hb => ⟨SM.grow hG, g, rfl, hb⟩)⟩) ?_
    refine eachD_cons (.inr (.inr ⟨rfl, fun x y hS hT hk => ?_⟩)) ?_
    ·skip
     obtain ⟨gb, hvb, hbb⟩ := hk 9 rfl
     have hG : Grow w94 y := Grow.trans ((Grow.refl _).drew) (SM.grown (by rw [hM112] at hS; exact hS))
     have hR := own_grow hG ho103
     have hO := own_grow hG ho102
     have hBl := below_grow b101 hG (Nat.le_trans hB b101.size)
     refine d_append (wn rfl) (show x.eval _ = pa from (hk 4 rfl)) hvb elm30 hR hbb rfl rfl (by omega) (by decide) (Nat.le_trans hB hBl.size) ?_
     intro v' w' h1 h2 h3
     exact ⟨h1, below_by hBl h2 (Nat.le_trans hB hBl.size) (fun k hk => (own_lt hR k hk).1), (m99.grow hG).by h2 op_, (m100.grow hG).by h2 off11, own_by hO h2 ap2, lies_ne h3 op_ (m99.grow hG).lt, lies_ne h3 off11 (m100.grow hG).lt, lies_ap h3 ap2 hO⟩
    refine eachD_cons (.inr (.inl ⟨by decide, _, rfl, fun x y hT hk hk0 => d_nilCheck (wn rfl) (hk 0 _ rfl rfl) ⟨rfl, rfl⟩⟩)) ?_
    refine eachD_cons (.inr (.inl ⟨by decide, _, rfl, fun x y hT hk hk0 => d_fieldAddr (wn rfl) (hk 11 _ rfl rfl) fo62_4 ⟨rfl, rfl⟩⟩)) ?_
    exact eachD_one
   rintro a113 w114 hA115 ⟨hP117, hW118⟩
   obtain ⟨v119, hv120⟩ : ∃ v', v' = (a113.tmps.getD 110 undef) := ⟨_, rfl⟩
   have hW121 : (fun v' w' => w'.ownsRow Bd 3 1 v' (path.length + 1) ((paE path) ++ (#[.int .i64 p] : Array Value).toList) ∧ Below Bd w w' ∧ Blk w' g (walkC p r rd ev pa) 62 ∧ Blk w' g3 (insC ⟨9, i.dst, ((k : Nat) : Int), i.b, i.imm, i.loc, i.off, i.index, i.size, i.fn, i.acq, i.weak, i.rel, i.pred, i.succ, i.to, i.zero⟩) 23 ∧ w'.ownsRow Bd 52 15 ev evs.length (evE evs) ∧ v'.ownBlock ≠ some g ∧ v'.ownBlock ≠ some g3 ∧ ∀ k, ev.ownBlock = some k → v'.ownBlock ≠ some k) v119 w114 := by rw [hv120]; exact hW118
   obtain ⟨ho122, b123, m124, m125, ho126, off127, off128, ap129⟩ := hW121
   have ap130 : ∀ k, v119.ownBlock = some k → ev.ownBlock ≠ some k := fun k h1 h2 => ap129 k h2 h1
   have hA131 : St 117 [(0, (.pointer (some ⟨g, 0, none⟩))), (4, (.bool false)), (5, (.int .i64 i.to)), (110, v119), (112, (.pointer (some ⟨g, 11, none⟩)))] a113 := hA115.cut _ (fm_cons (hA115.get 0 _ rfl) (fm_cons (hA115.get 4 _ rfl) (fm_cons (hA115.get 5 _ rfl) (fm_cons hv120.symm (fm_cons (hP117 12 _ (Nat.le_of_ble_eq_true rfl) (by decide) rfl) fm_nil)))))
   refine d_store (v := v119) (wn rfl) (hA131.ev rfl) (hA131.ev rfl) one30 (one_slice (own_form ho122)) m124 (Nat.le_of_ble_eq_true rfl) ?_
   intro w132 hU133 (m134 : Blk w132 g (walkC p r rd ev v119) 62)
   have m135 := m125.upd hU133 (Ne.symm n9)
   have b136 := hU133.below b123 hge
   have ho137 := own_upd ho126 hU133 oe
   have ho138 := own_upd ho122 hU133 off127
   have hA139 : St 117 [(0, (.pointer (some ⟨g, 0, none⟩))), (4, (.bool false)), (5, (.int .i64 i.to))] a113 := hA131.cut _ (fm_cons (hA131.get 0 _ rfl) (fm_cons (hA131.get 4 _ rfl) (fm_cons (hA131.get 5 _ rfl) fm_nil)))
   refine t_norm ?_
   refine wp_seq ?_
   refine wp_region_lit ?_
   refine q_step hA139 rfl (d_move (wn rfl) (hA139.ev rfl) ?_)
   intro a140 hA141
   refine q_step hA141 rfl (d_move (wn rfl) (hA141.ev rfl) ?_)
   intro a142 hA143
   refine q_step hA143 rfl (d_nilCheck (wn rfl) (hA143.ev rfl) ?_)
   intro a144 hA145
   refine q_step hA145 rfl (d_fieldAddr (wn rfl) (hA145.ev rfl) fo62_0 ?_)
   intro a146 hA147
   refine q_step hA147 rfl (d_store (v := (.int .i64 i.to)) (wn rfl) (hA147.ev rfl) (hA147.ev rfl) one3 rfl m134 (Nat.le_of_ble_eq_true rfl) ?_)
   intro w148 hU149 (m150 : Blk w148 g (walkC i.to r rd ev v119) 62)
   have m151 := m135.upd hU149 (Ne.symm n9)
   have b152 := hU149.below b136 hge
   have ho153 := own_upd ho137 hU149 oe
   have ho154 := own_upd ho138 hU149 off127
   intro a155 hA156
   refine q_end ?_
   have hA157 : St 117 [(4, (.bool false))] a155 := hA156.cut _ (fm_cons (hA156.get 4 _ rfl) fm_nil)
   refine t_norm ?_
   refine wp_seq ?_
   refine wp_region_lit ?_
   refine q_step hA157 rfl (d_assign (wn rfl) (hA157.ev rfl) ?_)
   intro a158 hA159
   refine q_end ?_
   have hA160 : St 117 [(4, (.bool true))] a158 := hA159.cut _ (fm_cons (hA159.get 4 _ rfl) fm_nil)
   refine t_norm ?_
   refine wp_ret ?_
   refine ret1 rfl hA160 (v := (.bool true)) rfl ?_
   have hpp : (brP r k i p) = i.to := by simp [brP, eq_of_beq hb84, hb86]
   rw [hpp]
   exact ⟨rfl, b152, rd, ev, v119, m150, hge, (hrd.below b152), ho153, (by rw [List.length_append, ← paE_snoc]; exact ho154), oe, off127, ap130⟩
  ·skip
   have hA162 : St 117 [(0, (.pointer (some ⟨g, 0, none⟩))), (3, (.pointer (some ⟨g3, 0, none⟩))), (4, (.bool false)), (5, (.int .i64 (p + 1)))] a81 := hA83.cut _ (fm_cons (hA83.get 0 _ rfl) (fm_cons (hA83.get 3 _ rfl) (fm_cons (hA83.get 4 _ rfl) (fm_cons (hA83.get 5 _ rfl) fm_nil))))
   let M163 : Nat → Option (Array Value) := fun _ => none
   have hM163 : M163 = fun _ => none := rfl
   clear_value M163
   have hM164 : M163 g = none := (congrFun hM163 g)
   have hM165 : M163 g3 = none := (congrFun hM163 g3)
   have hM163B : ∀ k, k < Bd → M163 k = none := (fun k hk => (congrFun hM163 k))
   refine drawn (S := SM M163) (tabL [cv (.pointer (some ⟨g, 0, none⟩)), cv (.pointer (some ⟨g3, 2, none⟩)), cv (.int .i64 ((k : Nat) : Int)), cv (.pointer (some ⟨g, 0, none⟩)), cv (.pointer (some ⟨g, 1, none⟩)), cv (.pointer (some ⟨g, 1 + k, none⟩)), cv (.int .i64 (r k)), cv (.bool true), cv (.pointer (some ⟨g3, 16, none⟩)), cv (.bool false), cv (.bool false)]) mixedY SM.refl SM.trans SM.drew hA162 (by kernel_rfl) ?_ ?_
   ·skip
    refine each_cons (fun x y hS hT hk => d_move (wn rfl) (hT.ev rfl) ⟨SM.refl _, rfl⟩) ?_
    refine each_cons (fun x y hS hT hk => d_fieldAddr (wn rfl) (hT.ev rfl) fo23_2 ⟨SM.refl _, rfl⟩) ?_
    refine each_cons (fun x y hS hT hk => d_load (v := (.int .i64 ((k : Nat) : Int))) (wn rfl) (hk 1 rfl) one3 ((Blk.sm (w := w4.drew) m7 hS hM165).cell rfl) ⟨SM.refl _, rfl⟩) ?_
    refine each_cons (fun x y hS hT hk => d_nilCheck (wn rfl) (hk 0 rfl) ⟨SM.refl _, rfl⟩) ?_
    refine each_cons (fun x y hS hT hk => d_fieldAddr (wn rfl) (hk 3 rfl) fo62_1 ⟨SM.refl _, rfl⟩) ?_
    refine each_cons (fun x y hS hT hk => d_indexArrP (j := k) (p := 1 + k) (wn rfl) (hk 4 rfl) (hk 2 rfl) arr43 (by omega) (by omega) ⟨SM.refl _, rfl⟩) ?_
    refine each_cons (fun x y hS hT hk => d_load (v := (.int .i64 (r k))) (wn rfl) (hk 5 rfl) one3 ((Blk.sm (w := w4.drew) m12 hS hM164).cell (walk_get (by omega))) ⟨SM.refl _, rfl⟩) ?_
    refine each_cons (fun x y hS hT hk => d_bin (wn rfl) (hk 6 rfl) (hT.ev rfl) (b_eq _ _ (r k) 0 true _ hb84) ⟨SM.refl _, rfl⟩) ?_
    refine each_cons (fun x y hS hT hk => d_fieldAddr (wn rfl) (hT.ev rfl) fo23_16 ⟨SM.refl _, rfl⟩) ?_
    refine each_cons (fun x y hS hT hk => d_load (v := (.bool false)) (wn rfl) (hk 8 rfl) one4 ((Blk.sm (w := w4.drew) m7 hS hM165).cell (congrArg (fun b => some (Value.bool b)) hb86)) ⟨SM.refl _, rfl⟩) ?_
    refine each_cons (fun x y hS hT hk => d_bin (wn rfl) (hk 7 rfl) (hk 9 rfl) (b_eqb _ _ true false false _ Try.underlying4 rfl) ⟨SM.refl _, rfl⟩) ?_
    exact each_nil
   intro f166 a167 w168 hS169 hC170 hA171
   have hA172 : St 117 [(0, (.pointer (some ⟨g, 0, none⟩))), (3, (.pointer (some ⟨g3, 0, none⟩))), (4, (.bool false)), (5, (.int .i64 (p + 1))), (97, (.bool false))] a167 := hA171.cut _ (fm_cons (hA171.get 0 _ rfl) (fm_cons (hA171.get 3 _ rfl) (fm_cons (hA171.get 4 _ rfl) (fm_cons (hA171.get 5 _ rfl) (fm_cons ((hA171.get 97 _ rfl).trans (hC170 10 (Nat.le_of_ble_eq_true rfl))) fm_nil)))))
   have m173 := m12.sm hS169 hM164
   have m174 := m7.sm hS169 hM165
   have b175 := hS169.below b13 (Nat.le_trans hB b13.size) hM163B
   have ho176 := own_sm ho14 hS169 (fun k => congrFun hM163 k)
   have ho177 := own_sm ho15 hS169 (fun k => congrFun hM163 k)
   refine t_norm ?_
   refine c_false hA172 rfl ?_
   refine wp_skip ?_
   refine i_norm ?_
   refine t_norm ?_
   refine wp_seq ?_
   have hA178 : St 117 [(0, (.pointer (some ⟨g, 0, none⟩))), (4, (.bool false)), (5, (.int .i64 (p + 1)))] a167 := hA172.cut _ (fm_cons (hA172.get 0 _ rfl) (fm_cons (hA172.get 4 _ rfl) (fm_cons (hA172.get 5 _ rfl) fm_nil)))
   let M179 : Nat → Option (Array Value) := fun _ => none
   have hM179 : M179 = fun _ => none := rfl
   clear_value M179
   have hM179A : ∀ k, M179 k = none := fun k => congrFun hM179 k
   have hM179B : ∀ k, k < Bd → M179 k = none := fun k _ => hM179A k
   refine drawnL (S := SM M179) rfl (tabQ [some (.pointer (some ⟨g, 0, none⟩)), some (.pointer (some ⟨g, 0, none⟩)), some (.pointer (some ⟨g, 0, none⟩)), some (.pointer (some ⟨g, 11, none⟩)), none, some (.pointer (some ⟨g, 0, none⟩)), some (.pointer (some ⟨g, 0, none⟩)), some (.pointer (some ⟨g, 0, none⟩)), none, none, none, some (.pointer (some ⟨g, 0, none⟩)), some (.pointer (some ⟨g, 11, none⟩))] [cv (.pointer (some ⟨g, 0, none⟩)), cv (.pointer (some ⟨g, 0, none⟩)), cv (.pointer (some ⟨g, 0, none⟩)), cv (.pointer (some ⟨g, 11, none⟩)), cv pa, cv (.pointer (some ⟨g, 0, none⟩)), cv (.pointer (some ⟨g, 0, none⟩)), cv (.pointer (some ⟨g, 0, none⟩)), cv (.int .i64 p), cs1 M179 hM179A #[.int .i64 p] 3, cfree, cv (.pointer (some ⟨g, 0, none⟩)), cv (.pointer (some ⟨g, 11, none⟩))]) (some 10) (fun i => (([some (.pointer (some ⟨g, 0, none⟩)), some (.pointer (some ⟨g, 0, none⟩)), some (.pointer (some ⟨g, 0, none⟩)), some (.pointer (some ⟨g, 11, none⟩)), none, some (.pointer (some ⟨g, 0, none⟩)), some (.pointer (some ⟨g, 0, none⟩)), some (.pointer (some ⟨g, 0, none⟩)), none, none, none, some (.pointer (some ⟨g, 0, none⟩)), some (.pointer (some ⟨g, 11, none⟩))] : List (Option Value))[i]?).getD none) (fun v' w' => w'.ownsRow Bd 3 1 v' (path.length + 1) ((paE path) ++ (#[.int .i64 p] : Array Value).toList) ∧ Below Bd w w' ∧ Blk w' g (walkC p r rd ev pa) 62 ∧ Blk w' g3 (insC ⟨9, i.dst, ((k : Nat) : Int), i.b, i.imm, i.loc, i.off, i.index, i.size, i.fn, i.acq, i.weak, i.rel, i.pred, i.succ, i.to, i.zero⟩) 23 ∧ w'.ownsRow Bd 52 15 ev evs.length (evE evs) ∧ v'.ownBlock ≠ some g ∧ v'.ownBlock ≠ some g3 ∧ ∀ k, ev.ownBlock = some k → v'.ownBlock ≠ some k) [12, 10, 0, 1, 2, 3, 4, 5, 6, 7, 8, 9, 11] [4, 9, 3, 8, 2, 7, 1, 6, 5] mixedY SM.refl SM.trans hA178 (by kernel_rfl) (by kernel_rfl) (tabQ_cv _ _) ?_ ?_
   ·skip
    refine eachD_cons (.inr (.inl ⟨by decide, _, rfl, fun x y hT hk hk0 => d_move (wn rfl) (hT.ev rfl) ⟨rfl, rfl⟩⟩)) ?_
    refine eachD_cons (.inr (.inl ⟨by decide, _, rfl, fun x y hT hk hk0 => d_move (wn rfl) (hT.ev rfl) ⟨rfl, rfl⟩⟩)) ?_
    refine eachD_cons (.inr (.inl ⟨by decide, _, rfl, fun x y hT hk hk0 => d_nilCheck (wn rfl) (hk 1 _ rfl rfl) ⟨rfl, rfl⟩⟩)) ?_
    refine eachD_cons (.inr (.inl ⟨by decide, _, rfl, fun x y hT hk hk0 => d_fieldAddr (wn rfl) (hk 2 _ rfl rfl) fo62_4 ⟨rfl, rfl⟩⟩)) ?_
    refine eachD_cons (.inl ⟨by decide, rfl, fun x y hS hT hk => d_load (v := pa) (wn rfl) (hk 3 rfl) one30 ((Blk.sm (w := w168.drew) m173 hS (hM179A _)).cell rfl) ⟨SM.refl _, rfl⟩⟩) ?_
    refine eachD_cons (.inr (.inl ⟨by decide, _, rfl, fun x y hT hk hk0 => d_move (wn rfl) (hT.ev rfl) ⟨rfl, rfl⟩⟩)) ?_
    refine eachD_cons (.inr (.inl ⟨by decide, _, rfl, fun x y hT hk hk0 => d_nilCheck (wn rfl) (hk 5 _ rfl rfl) ⟨rfl, rfl⟩⟩)) ?_
    refine eachD_cons (.inr (.inl ⟨by decide, _, rfl, fun x y hT hk hk0 => d_fieldAddr (wn rfl) (hk 6 _ rfl rfl) fo62_0 ⟨rfl, rfl⟩⟩)) ?_
    refine eachD_cons (.inl ⟨by decide, rfl, fun x y hS hT hk => d_load (v := (.int .i64 p)) (wn rfl) (hk 7 rfl) one3 ((Blk.sm (w := w168.drew) m173 hS (hM179A _)).cell rfl) ⟨SM.refl _, rfl⟩⟩) ?_
    refine eachD_cons (.inl ⟨by decide, rfl, fun x y hS hT hk => d_slice1 (wn rfl) (show x.eval _ = (.int .i64 p) from (hk 8 rfl)) elm30 rfl (by decide) (fun g w' _ hG hb => ⟨SM.grow hG, g, rfl, hb⟩)⟩) ?_
    refine eachD_cons (.inr (.inr ⟨rfl, fun x y hS hT hk => ?_⟩)) ?_
    ·skip
     obtain ⟨gb, hvb, hbb⟩ := hk 9 rfl
     have hG : Grow w168 y := Grow.trans ((Grow.refl _).drew) (SM.grown (by rw [hM179] at hS; exact hS))
     have hR := own_grow hG ho177
     have hO := own_grow hG ho176
     have hBl := below_grow b175 hG (Nat.le_trans hB b175.size)
     refine d_append (wn rfl) (show x.eval _ = pa from (hk 4 rfl)) hvb elm30 hR hbb rfl rfl (by omega) (by decide) (Nat.le_trans hB hBl.size) ?_
     intro v' w' h1 h2 h3
     exact ⟨h1, below_by hBl h2 (Nat.le_trans hB hBl.size) (fun k hk => (own_lt hR k hk).1), (m173.grow hG).by h2 op_, (m174.grow hG).by h2 off11, own_by hO h2 ap2, lies_ne h3 op_ (m173.grow hG).lt, lies_ne h3 off11 (m174.grow hG).lt, lies_ap h3 ap2 hO⟩
    refine eachD_cons (.inr (.inl ⟨by decide, _, rfl, fun x y hT hk hk0 => d_nilCheck (wn rfl) (hk 0 _ rfl rfl) ⟨rfl, rfl⟩⟩)) ?_
    refine eachD_cons (.inr (.inl ⟨by decide, _, rfl, fun x y hT hk hk0 => d_fieldAddr (wn rfl) (hk 11 _ rfl rfl) fo62_4 ⟨rfl, rfl⟩⟩)) ?_
    exact eachD_one
   rintro a180 w181 hA182 ⟨hP184, hW185⟩
   obtain ⟨v186, hv187⟩ : ∃ v', v' = (a180.tmps.getD 110 undef) := ⟨_, rfl⟩
   have hW188 : (fun v' w' => w'.ownsRow Bd 3 1 v' (path.length + 1) ((paE path) ++ (#[.int .i64 p] : Array Value).toList) ∧ Below Bd w w' ∧ Blk w' g (walkC p r rd ev pa) 62 ∧ Blk w' g3 (insC ⟨9, i.dst, ((k : Nat) : Int), i.b, i.imm, i.loc, i.off, i.index, i.size, i.fn, i.acq, i.weak, i.rel, i.pred, i.succ, i.to, i.zero⟩) 23 ∧ w'.ownsRow Bd 52 15 ev evs.length (evE evs) ∧ v'.ownBlock ≠ some g ∧ v'.ownBlock ≠ some g3 ∧ ∀ k, ev.ownBlock = some k → v'.ownBlock ≠ some k) v186 w181 := by rw [hv187]; exact hW185
   obtain ⟨ho189, b190, m191, m192, ho193, off194, off195, ap196⟩ := hW188
   have ap197 : ∀ k, v186.ownBlock = some k → ev.ownBlock ≠ some k := fun k h1 h2 => ap196 k h2 h1
   have hA198 : St 117 [(0, (.pointer (some ⟨g, 0, none⟩))), (4, (.bool false)), (5, (.int .i64 (p + 1))), (110, v186), (112, (.pointer (some ⟨g, 11, none⟩)))] a180 := hA182.cut _ (fm_cons (hA182.get 0 _ rfl) (fm_cons (hA182.get 4 _ rfl) (fm_cons (hA182.get 5 _ rfl) (fm_cons hv187.symm (fm_cons (hP184 12 _ (Nat.le_of_ble_eq_true rfl) (by decide) rfl) fm_nil)))))
   refine d_store (v := v186) (wn rfl) (hA198.ev rfl) (hA198.ev rfl) one30 (one_slice (own_form ho189)) m191 (Nat.le_of_ble_eq_true rfl) ?_
   intro w199 hU200 (m201 : Blk w199 g (walkC p r rd ev v186) 62)
   have m202 := m192.upd hU200 (Ne.symm n9)
   have b203 := hU200.below b190 hge
   have ho204 := own_upd ho193 hU200 oe
   have ho205 := own_upd ho189 hU200 off194
   have hA206 : St 117 [(0, (.pointer (some ⟨g, 0, none⟩))), (4, (.bool false)), (5, (.int .i64 (p + 1)))] a180 := hA198.cut _ (fm_cons (hA198.get 0 _ rfl) (fm_cons (hA198.get 4 _ rfl) (fm_cons (hA198.get 5 _ rfl) fm_nil)))
   refine t_norm ?_
   refine wp_seq ?_
   refine wp_region_lit ?_
   refine q_step hA206 rfl (d_move (wn rfl) (hA206.ev rfl) ?_)
   intro a207 hA208
   refine q_step hA208 rfl (d_move (wn rfl) (hA208.ev rfl) ?_)
   intro a209 hA210
   refine q_step hA210 rfl (d_nilCheck (wn rfl) (hA210.ev rfl) ?_)
   intro a211 hA212
   refine q_step hA212 rfl (d_fieldAddr (wn rfl) (hA212.ev rfl) fo62_0 ?_)
   intro a213 hA214
   refine q_step hA214 rfl (d_store (v := (.int .i64 (p + 1))) (wn rfl) (hA214.ev rfl) (hA214.ev rfl) one3 rfl m201 (Nat.le_of_ble_eq_true rfl) ?_)
   intro w215 hU216 (m217 : Blk w215 g (walkC (p + 1) r rd ev v186) 62)
   have m218 := m202.upd hU216 (Ne.symm n9)
   have b219 := hU216.below b203 hge
   have ho220 := own_upd ho204 hU216 oe
   have ho221 := own_upd ho205 hU216 off194
   intro a222 hA223
   refine q_end ?_
   have hA224 : St 117 [(4, (.bool false))] a222 := hA223.cut _ (fm_cons (hA223.get 4 _ rfl) fm_nil)
   refine t_norm ?_
   refine wp_seq ?_
   refine wp_region_lit ?_
   refine q_step hA224 rfl (d_assign (wn rfl) (hA224.ev rfl) ?_)
   intro a225 hA226
   refine q_end ?_
   have hA227 : St 117 [(4, (.bool true))] a225 := hA226.cut _ (fm_cons (hA226.get 4 _ rfl) fm_nil)
   refine t_norm ?_
   refine wp_ret ?_
   refine ret1 rfl hA227 (v := (.bool true)) rfl ?_
   have hpp : (brP r k i p) = p + 1 := by simp [brP, eq_of_beq hb84, hb86]
   rw [hpp]
   exact ⟨rfl, b219, rd, ev, v186, m217, hge, (hrd.below b219), ho220, (by rw [List.length_append, ← paE_snoc]; exact ho221), oe, off194, ap197⟩
 ·skip
  have hq228 := ne_of_beq hb84
  rcases Bool.eq_false_or_eq_true (i.zero) with hb229 | hb229
  ·skip
   have hA231 : St 117 [(0, (.pointer (some ⟨g, 0, none⟩))), (3, (.pointer (some ⟨g3, 0, none⟩))), (4, (.bool false)), (5, (.int .i64 (p + 1)))] a81 := hA83.cut _ (fm_cons (hA83.get 0 _ rfl) (fm_cons (hA83.get 3 _ rfl) (fm_cons (hA83.get 4 _ rfl) (fm_cons (hA83.get 5 _ rfl) fm_nil))))
   let M232 : Nat → Option (Array Value) := fun _ => none
   have hM232 : M232 = fun _ => none := rfl
   clear_value M232
   have hM233 : M232 g = none := (congrFun hM232 g)
   have hM234 : M232 g3 = none := (congrFun hM232 g3)
   have hM232B : ∀ k, k < Bd → M232 k = none := (fun k hk => (congrFun hM232 k))
   refine drawn (S := SM M232) (tabL [cv (.pointer (some ⟨g, 0, none⟩)), cv (.pointer (some ⟨g3, 2, none⟩)), cv (.int .i64 ((k : Nat) : Int)), cv (.pointer (some ⟨g, 0, none⟩)), cv (.pointer (some ⟨g, 1, none⟩)), cv (.pointer (some ⟨g, 1 + k, none⟩)), cv (.int .i64 (r k)), cv (.bool false), cv (.pointer (some ⟨g3, 16, none⟩)), cv (.bool true), cv (.bool false)]) mixedY SM.refl SM.trans SM.drew hA231 (by kernel_rfl) ?_ ?_
   ·skip
    refine each_cons (fun x y hS hT hk => d_move (wn rfl) (hT.ev rfl) ⟨SM.refl _, rfl⟩) ?_
    refine each_cons (fun x y hS hT hk => d_fieldAddr (wn rfl) (hT.ev rfl) fo23_2 ⟨SM.refl _, rfl⟩) ?_
    refine each_cons (fun x y hS hT hk => d_load (v := (.int .i64 ((k : Nat) : Int))) (wn rfl) (hk 1 rfl) one3 ((Blk.sm (w := w4.drew) m7 hS hM234).cell rfl) ⟨SM.refl _, rfl⟩) ?_
    refine each_cons (fun x y hS hT hk => d_nilCheck (wn rfl) (hk 0 rfl) ⟨SM.refl _, rfl⟩) ?_
    refine each_cons (fun x y hS hT hk => d_fieldAddr (wn rfl) (hk 3 rfl) fo62_1 ⟨SM.refl _, rfl⟩) ?_
    refine each_cons (fun x y hS hT hk => d_indexArrP (j := k) (p := 1 + k) (wn rfl) (hk 4 rfl) (hk 2 rfl) arr43 (by omega) (by omega) ⟨SM.refl _, rfl⟩) ?_
    refine each_cons (fun x y hS hT hk => d_load (v := (.int .i64 (r k))) (wn rfl) (hk 5 rfl) one3 ((Blk.sm (w := w4.drew) m12 hS hM233).cell (walk_get (by omega))) ⟨SM.refl _, rfl⟩) ?_
    refine each_cons (fun x y hS hT hk => d_bin (wn rfl) (hk 6 rfl) (hT.ev rfl) (b_eq _ _ (r k) 0 false _ hb84) ⟨SM.refl _, rfl⟩) ?_
    refine each_cons (fun x y hS hT hk => d_fieldAddr (wn rfl) (hT.ev rfl) fo23_16 ⟨SM.refl _, rfl⟩) ?_
    refine each_cons (fun x y hS hT hk => d_load (v := (.bool true)) (wn rfl) (hk 8 rfl) one4 ((Blk.sm (w := w4.drew) m7 hS hM234).cell (congrArg (fun b => some (Value.bool b)) hb229)) ⟨SM.refl _, rfl⟩) ?_
    refine each_cons (fun x y hS hT hk => d_bin (wn rfl) (hk 7 rfl) (hk 9 rfl) (b_eqb _ _ false true false _ Try.underlying4 rfl) ⟨SM.refl _, rfl⟩) ?_
    exact each_nil
   intro f235 a236 w237 hS238 hC239 hA240
   have hA241 : St 117 [(0, (.pointer (some ⟨g, 0, none⟩))), (3, (.pointer (some ⟨g3, 0, none⟩))), (4, (.bool false)), (5, (.int .i64 (p + 1))), (97, (.bool false))] a236 := hA240.cut _ (fm_cons (hA240.get 0 _ rfl) (fm_cons (hA240.get 3 _ rfl) (fm_cons (hA240.get 4 _ rfl) (fm_cons (hA240.get 5 _ rfl) (fm_cons ((hA240.get 97 _ rfl).trans (hC239 10 (Nat.le_of_ble_eq_true rfl))) fm_nil)))))
   have m242 := m12.sm hS238 hM233
   have m243 := m7.sm hS238 hM234
   have b244 := hS238.below b13 (Nat.le_trans hB b13.size) hM232B
   have ho245 := own_sm ho14 hS238 (fun k => congrFun hM232 k)
   have ho246 := own_sm ho15 hS238 (fun k => congrFun hM232 k)
   refine t_norm ?_
   refine c_false hA241 rfl ?_
   refine wp_skip ?_
   refine i_norm ?_
   refine t_norm ?_
   refine wp_seq ?_
   have hA247 : St 117 [(0, (.pointer (some ⟨g, 0, none⟩))), (4, (.bool false)), (5, (.int .i64 (p + 1)))] a236 := hA241.cut _ (fm_cons (hA241.get 0 _ rfl) (fm_cons (hA241.get 4 _ rfl) (fm_cons (hA241.get 5 _ rfl) fm_nil)))
   let M248 : Nat → Option (Array Value) := fun _ => none
   have hM248 : M248 = fun _ => none := rfl
   clear_value M248
   have hM248A : ∀ k, M248 k = none := fun k => congrFun hM248 k
   have hM248B : ∀ k, k < Bd → M248 k = none := fun k _ => hM248A k
   refine drawnL (S := SM M248) rfl (tabQ [some (.pointer (some ⟨g, 0, none⟩)), some (.pointer (some ⟨g, 0, none⟩)), some (.pointer (some ⟨g, 0, none⟩)), some (.pointer (some ⟨g, 11, none⟩)), none, some (.pointer (some ⟨g, 0, none⟩)), some (.pointer (some ⟨g, 0, none⟩)), some (.pointer (some ⟨g, 0, none⟩)), none, none, none, some (.pointer (some ⟨g, 0, none⟩)), some (.pointer (some ⟨g, 11, none⟩))] [cv (.pointer (some ⟨g, 0, none⟩)), cv (.pointer (some ⟨g, 0, none⟩)), cv (.pointer (some ⟨g, 0, none⟩)), cv (.pointer (some ⟨g, 11, none⟩)), cv pa, cv (.pointer (some ⟨g, 0, none⟩)), cv (.pointer (some ⟨g, 0, none⟩)), cv (.pointer (some ⟨g, 0, none⟩)), cv (.int .i64 p), cs1 M248 hM248A #[.int .i64 p] 3, cfree, cv (.pointer (some ⟨g, 0, none⟩)), cv (.pointer (some ⟨g, 11, none⟩))]) (some 10) (fun i => (([some (.pointer (some ⟨g, 0, none⟩)), some (.pointer (some ⟨g, 0, none⟩)), some (.pointer (some ⟨g, 0, none⟩)), some (.pointer (some ⟨g, 11, none⟩)), none, some (.pointer (some ⟨g, 0, none⟩)), some (.pointer (some ⟨g, 0, none⟩)), some (.pointer (some ⟨g, 0, none⟩)), none, none, none, some (.pointer (some ⟨g, 0, none⟩)), some (.pointer (some ⟨g, 11, none⟩))] : List (Option Value))[i]?).getD none) (fun v' w' => w'.ownsRow Bd 3 1 v' (path.length + 1) ((paE path) ++ (#[.int .i64 p] : Array Value).toList) ∧ Below Bd w w' ∧ Blk w' g (walkC p r rd ev pa) 62 ∧ Blk w' g3 (insC ⟨9, i.dst, ((k : Nat) : Int), i.b, i.imm, i.loc, i.off, i.index, i.size, i.fn, i.acq, i.weak, i.rel, i.pred, i.succ, i.to, i.zero⟩) 23 ∧ w'.ownsRow Bd 52 15 ev evs.length (evE evs) ∧ v'.ownBlock ≠ some g ∧ v'.ownBlock ≠ some g3 ∧ ∀ k, ev.ownBlock = some k → v'.ownBlock ≠ some k) [12, 10, 0, 1, 2, 3, 4, 5, 6, 7, 8, 9, 11] [4, 9, 3, 8, 2, 7, 1, 6, 5] mixedY SM.refl SM.trans hA247 (by kernel_rfl) (by kernel_rfl) (tabQ_cv _ _) ?_ ?_
   ·skip
    refine eachD_cons (.inr (.inl ⟨by decide, _, rfl, fun x y hT hk hk0 => d_move (wn rfl) (hT.ev rfl) ⟨rfl, rfl⟩⟩)) ?_
    refine eachD_cons (.inr (.inl ⟨by decide, _, rfl, fun x y hT hk hk0 => d_move (wn rfl) (hT.ev rfl) ⟨rfl, rfl⟩⟩)) ?_
    refine eachD_cons (.inr (.inl ⟨by decide, _, rfl, fun x y hT hk hk0 => d_nilCheck (wn rfl) (hk 1 _ rfl rfl) ⟨rfl, rfl⟩⟩)) ?_
    refine eachD_cons (.inr (.inl ⟨by decide, _, rfl, fun x y hT hk hk0 => d_fieldAddr (wn rfl) (hk 2 _ rfl rfl) fo62_4 ⟨rfl, rfl⟩⟩)) ?_
    refine eachD_cons (.inl ⟨by decide, rfl, fun x y hS hT hk => d_load (v := pa) (wn rfl) (hk 3 rfl) one30 ((Blk.sm (w := w237.drew) m242 hS (hM248A _)).cell rfl) ⟨SM.refl _, rfl⟩⟩) ?_
    refine eachD_cons (.inr (.inl ⟨by decide, _, rfl, fun x y hT hk hk0 => d_move (wn rfl) (hT.ev rfl) ⟨rfl, rfl⟩⟩)) ?_
    refine eachD_cons (.inr (.inl ⟨by decide, _, rfl, fun x y hT hk hk0 => d_nilCheck (wn rfl) (hk 5 _ rfl rfl) ⟨rfl, rfl⟩⟩)) ?_
    refine eachD_cons (.inr (.inl ⟨by decide, _, rfl, fun x y hT hk hk0 => d_fieldAddr (wn rfl) (hk 6 _ rfl rfl) fo62_0 ⟨rfl, rfl⟩⟩)) ?_
    refine eachD_cons (.inl ⟨by decide, rfl, fun x y hS hT hk => d_load (v := (.int .i64 p)) (wn rfl) (hk 7 rfl) one3 ((Blk.sm (w := w237.drew) m242 hS (hM248A _)).cell rfl) ⟨SM.refl _, rfl⟩⟩) ?_
    refine eachD_cons (.inl ⟨by decide, rfl, fun x y hS hT hk => d_slice1 (wn rfl) (show x.eval _ = (.int .i64 p) from (hk 8 rfl)) elm30 rfl (by decide) (fun g w' _ hG hb => ⟨SM.grow hG, g, rfl, hb⟩)⟩) ?_
    refine eachD_cons (.inr (.inr ⟨rfl, fun x y hS hT hk => ?_⟩)) ?_
    ·skip
     obtain ⟨gb, hvb, hbb⟩ := hk 9 rfl
     have hG : Grow w237 y := Grow.trans ((Grow.refl _).drew) (SM.grown (by rw [hM248] at hS; exact hS))
     have hR := own_grow hG ho246
     have hO := own_grow hG ho245
     have hBl := below_grow b244 hG (Nat.le_trans hB b244.size)
     refine d_append (wn rfl) (show x.eval _ = pa from (hk 4 rfl)) hvb elm30 hR hbb rfl rfl (by omega) (by decide) (Nat.le_trans hB hBl.size) ?_
     intro v' w' h1 h2 h3
     exact ⟨h1, below_by hBl h2 (Nat.le_trans hB hBl.size) (fun k hk => (own_lt hR k hk).1), (m242.grow hG).by h2 op_, (m243.grow hG).by h2 off11, own_by hO h2 ap2, lies_ne h3 op_ (m242.grow hG).lt, lies_ne h3 off11 (m243.grow hG).lt, lies_ap h3 ap2 hO⟩
    refine eachD_cons (.inr (.inl ⟨by decide, _, rfl, fun x y hT hk hk0 => d_nilCheck (wn rfl) (hk 0 _ rfl rfl) ⟨rfl, rfl⟩⟩)) ?_
    refine eachD_cons (.inr (.inl ⟨by decide, _, rfl, fun x y hT hk hk0 => d_fieldAddr (wn rfl) (hk 11 _ rfl rfl) fo62_4 ⟨rfl, rfl⟩⟩)) ?_
    exact eachD_one
   rintro a249 w250 hA251 ⟨hP253, hW254⟩
   obtain ⟨v255, hv256⟩ : ∃ v', v' = (a249.tmps.getD 110 undef) := ⟨_, rfl⟩
   have hW257 : (fun v' w' => w'.ownsRow Bd 3 1 v' (path.length + 1) ((paE path) ++ (#[.int .i64 p] : Array Value).toList) ∧ Below Bd w w' ∧ Blk w' g (walkC p r rd ev pa) 62 ∧ Blk w' g3 (insC ⟨9, i.dst, ((k : Nat) : Int), i.b, i.imm, i.loc, i.off, i.index, i.size, i.fn, i.acq, i.weak, i.rel, i.pred, i.succ, i.to, i.zero⟩) 23 ∧ w'.ownsRow Bd 52 15 ev evs.length (evE evs) ∧ v'.ownBlock ≠ some g ∧ v'.ownBlock ≠ some g3 ∧ ∀ k, ev.ownBlock = some k → v'.ownBlock ≠ some k) v255 w250 := by rw [hv256]; exact hW254
   obtain ⟨ho258, b259, m260, m261, ho262, off263, off264, ap265⟩ := hW257
   have ap266 : ∀ k, v255.ownBlock = some k → ev.ownBlock ≠ some k := fun k h1 h2 => ap265 k h2 h1
   have hA267 : St 117 [(0, (.pointer (some ⟨g, 0, none⟩))), (4, (.bool false)), (5, (.int .i64 (p + 1))), (110, v255), (112, (.pointer (some ⟨g, 11, none⟩)))] a249 := hA251.cut _ (fm_cons (hA251.get 0 _ rfl) (fm_cons (hA251.get 4 _ rfl) (fm_cons (hA251.get 5 _ rfl) (fm_cons hv256.symm (fm_cons (hP253 12 _ (Nat.le_of_ble_eq_true rfl) (by decide) rfl) fm_nil)))))
   refine d_store (v := v255) (wn rfl) (hA267.ev rfl) (hA267.ev rfl) one30 (one_slice (own_form ho258)) m260 (Nat.le_of_ble_eq_true rfl) ?_
   intro w268 hU269 (m270 : Blk w268 g (walkC p r rd ev v255) 62)
   have m271 := m261.upd hU269 (Ne.symm n9)
   have b272 := hU269.below b259 hge
   have ho273 := own_upd ho262 hU269 oe
   have ho274 := own_upd ho258 hU269 off263
   have hA275 : St 117 [(0, (.pointer (some ⟨g, 0, none⟩))), (4, (.bool false)), (5, (.int .i64 (p + 1)))] a249 := hA267.cut _ (fm_cons (hA267.get 0 _ rfl) (fm_cons (hA267.get 4 _ rfl) (fm_cons (hA267.get 5 _ rfl) fm_nil)))
   refine t_norm ?_
   refine wp_seq ?_
   refine wp_region_lit ?_
   refine q_step hA275 rfl (d_move (wn rfl) (hA275.ev rfl) ?_)
   intro a276 hA277
   refine q_step hA277 rfl (d_move (wn rfl) (hA277.ev rfl) ?_)
   intro a278 hA279
   refine q_step hA279 rfl (d_nilCheck (wn rfl) (hA279.ev rfl) ?_)
   intro a280 hA281
   refine q_step hA281 rfl (d_fieldAddr (wn rfl) (hA281.ev rfl) fo62_0 ?_)
   intro a282 hA283
   refine q_step hA283 rfl (d_store (v := (.int .i64 (p + 1))) (wn rfl) (hA283.ev rfl) (hA283.ev rfl) one3 rfl m270 (Nat.le_of_ble_eq_true rfl) ?_)
   intro w284 hU285 (m286 : Blk w284 g (walkC (p + 1) r rd ev v255) 62)
   have m287 := m271.upd hU285 (Ne.symm n9)
   have b288 := hU285.below b272 hge
   have ho289 := own_upd ho273 hU285 oe
   have ho290 := own_upd ho274 hU285 off263
   intro a291 hA292
   refine q_end ?_
   have hA293 : St 117 [(4, (.bool false))] a291 := hA292.cut _ (fm_cons (hA292.get 4 _ rfl) fm_nil)
   refine t_norm ?_
   refine wp_seq ?_
   refine wp_region_lit ?_
   refine q_step hA293 rfl (d_assign (wn rfl) (hA293.ev rfl) ?_)
   intro a294 hA295
   refine q_end ?_
   have hA296 : St 117 [(4, (.bool true))] a294 := hA295.cut _ (fm_cons (hA295.get 4 _ rfl) fm_nil)
   refine t_norm ?_
   refine wp_ret ?_
   refine ret1 rfl hA296 (v := (.bool true)) rfl ?_
   have hpp : (brP r k i p) = p + 1 := by simp [brP, hb84, hb229]
   rw [hpp]
   exact ⟨rfl, b288, rd, ev, v255, m286, hge, (hrd.below b288), ho289, (by rw [List.length_append, ← paE_snoc]; exact ho290), oe, off263, ap266⟩
  ·skip
   have hA298 : St 117 [(0, (.pointer (some ⟨g, 0, none⟩))), (3, (.pointer (some ⟨g3, 0, none⟩))), (4, (.bool false)), (5, (.int .i64 (p + 1)))] a81 := hA83.cut _ (fm_cons (hA83.get 0 _ rfl) (fm_cons (hA83.get 3 _ rfl) (fm_cons (hA83.get 4 _ rfl) (fm_cons (hA83.get 5 _ rfl) fm_nil))))
   let M299 : Nat → Option (Array Value) := fun _ => none
   have hM299 : M299 = fun _ => none := rfl
   clear_value M299
   have hM300 : M299 g = none := (congrFun hM299 g)
   have hM301 : M299 g3 = none := (congrFun hM299 g3)
   have hM299B : ∀ k, k < Bd → M299 k = none := (fun k hk => (congrFun hM299 k))
   refine drawn (S := SM M299) (tabL [cv (.pointer (some ⟨g, 0, none⟩)), cv (.pointer (some ⟨g3, 2, none⟩)), cv (.int .i64 ((k : Nat) : Int)), cv (.pointer (some ⟨g, 0, none⟩)), cv (.pointer (some ⟨g, 1, none⟩)), cv (.pointer (some ⟨g, 1 + k, none⟩)), cv (.int .i64 (r k)), cv (.bool false), cv (.pointer (some ⟨g3, 16, none⟩)), cv (.bool false), cv (.bool true)]) mixedY SM.refl SM.trans SM.drew hA298 (by kernel_rfl) ?_ ?_
   ·skip
    refine each_cons (fun x y hS hT hk => d_move (wn rfl) (hT.ev rfl) ⟨SM.refl _, rfl⟩) ?_
    refine each_cons (fun x y hS hT hk => d_fieldAddr (wn rfl) (hT.ev rfl) fo23_2 ⟨SM.refl _, rfl⟩) ?_
    refine each_cons (fun x y hS hT hk => d_load (v := (.int .i64 ((k : Nat) : Int))) (wn rfl) (hk 1 rfl) one3 ((Blk.sm (w := w4.drew) m7 hS hM301).cell rfl) ⟨SM.refl _, rfl⟩) ?_
    refine each_cons (fun x y hS hT hk => d_nilCheck (wn rfl) (hk 0 rfl) ⟨SM.refl _, rfl⟩) ?_
    refine each_cons (fun x y hS hT hk => d_fieldAddr (wn rfl) (hk 3 rfl) fo62_1 ⟨SM.refl _, rfl⟩) ?_
    refine each_cons (fun x y hS hT hk => d_indexArrP (j := k) (p := 1 + k) (wn rfl) (hk 4 rfl) (hk 2 rfl) arr43 (by omega) (by omega) ⟨SM.refl _, rfl⟩) ?_
    refine each_cons (fun x y hS hT hk => d_load (v := (.int .i64 (r k))) (wn rfl) (hk 5 rfl) one3 ((Blk.sm (w := w4.drew) m12 hS hM300).cell (walk_get (by omega))) ⟨SM.refl _, rfl⟩) ?_
    refine each_cons (fun x y hS hT hk => d_bin (wn rfl) (hk 6 rfl) (hT.ev rfl) (b_eq _ _ (r k) 0 false _ hb84) ⟨SM.refl _, rfl⟩) ?_
    refine each_cons (fun x y hS hT hk => d_fieldAddr (wn rfl) (hT.ev rfl) fo23_16 ⟨SM.refl _, rfl⟩) ?_
    refine each_cons (fun x y hS hT hk => d_load (v := (.bool false)) (wn rfl) (hk 8 rfl) one4 ((Blk.sm (w := w4.drew) m7 hS hM301).cell (congrArg (fun b => some (Value.bool b)) hb229)) ⟨SM.refl _, rfl⟩) ?_
    refine each_cons (fun x y hS hT hk => d_bin (wn rfl) (hk 7 rfl) (hk 9 rfl) (b_eqb _ _ false false true _ Try.underlying4 rfl) ⟨SM.refl _, rfl⟩) ?_
    exact each_nil
   intro f302 a303 w304 hS305 hC306 hA307
   have hA308 : St 117 [(0, (.pointer (some ⟨g, 0, none⟩))), (3, (.pointer (some ⟨g3, 0, none⟩))), (4, (.bool false)), (5, (.int .i64 (p + 1))), (97, (.bool true))] a303 := hA307.cut _ (fm_cons (hA307.get 0 _ rfl) (fm_cons (hA307.get 3 _ rfl) (fm_cons (hA307.get 4 _ rfl) (fm_cons (hA307.get 5 _ rfl) (fm_cons ((hA307.get 97 _ rfl).trans (hC306 10 (Nat.le_of_ble_eq_true rfl))) fm_nil)))))
   have m309 := m12.sm hS305 hM300
   have m310 := m7.sm hS305 hM301
   have b311 := hS305.below b13 (Nat.le_trans hB b13.size) hM299B
   have ho312 := own_sm ho14 hS305 (fun k => congrFun hM299 k)
   have ho313 := own_sm ho15 hS305 (fun k => congrFun hM299 k)
   refine t_norm ?_
   refine c_true hA308 rfl ?_
   refine wp_region_lit ?_
   refine q_step hA308 rfl (d_fieldAddr (wn rfl) (hA308.ev rfl) fo23_15 ?_)
   intro a314 hA315
   refine q_step hA315 rfl (d_load (v := (.int .i64 i.to)) (wn rfl) (hA315.ev rfl) one3 (m310.cell rfl) ?_)
   intro a316 hA317
   refine q_step hA317 rfl (d_assign (wn rfl) (hA317.ev rfl) ?_)
   intro a318 hA319
   refine q_end ?_
   have hA320 : St 117 [(0, (.pointer (some ⟨g, 0, none⟩))), (4, (.bool false)), (5, (.int .i64 i.to))] a318 := hA319.cut _ (fm_cons (hA319.get 0 _ rfl) (fm_cons (hA319.get 4 _ rfl) (fm_cons (hA319.get 5 _ rfl) fm_nil)))
   refine i_norm ?_
   refine t_norm ?_
   refine wp_seq ?_
   have hA321 : St 117 [(0, (.pointer (some ⟨g, 0, none⟩))), (4, (.bool false)), (5, (.int .i64 i.to))] a318 := hA320.cut _ (fm_cons (hA320.get 0 _ rfl) (fm_cons (hA320.get 4 _ rfl) (fm_cons (hA320.get 5 _ rfl) fm_nil)))
   let M322 : Nat → Option (Array Value) := fun _ => none
   have hM322 : M322 = fun _ => none := rfl
   clear_value M322
   have hM322A : ∀ k, M322 k = none := fun k => congrFun hM322 k
   have hM322B : ∀ k, k < Bd → M322 k = none := fun k _ => hM322A k
   refine drawnL (S := SM M322) rfl (tabQ [some (.pointer (some ⟨g, 0, none⟩)), some (.pointer (some ⟨g, 0, none⟩)), some (.pointer (some ⟨g, 0, none⟩)), some (.pointer (some ⟨g, 11, none⟩)), none, some (.pointer (some ⟨g, 0, none⟩)), some (.pointer (some ⟨g, 0, none⟩)), some (.pointer (some ⟨g, 0, none⟩)), none, none, none, some (.pointer (some ⟨g, 0, none⟩)), some (.pointer (some ⟨g, 11, none⟩))] [cv (.pointer (some ⟨g, 0, none⟩)), cv (.pointer (some ⟨g, 0, none⟩)), cv (.pointer (some ⟨g, 0, none⟩)), cv (.pointer (some ⟨g, 11, none⟩)), cv pa, cv (.pointer (some ⟨g, 0, none⟩)), cv (.pointer (some ⟨g, 0, none⟩)), cv (.pointer (some ⟨g, 0, none⟩)), cv (.int .i64 p), cs1 M322 hM322A #[.int .i64 p] 3, cfree, cv (.pointer (some ⟨g, 0, none⟩)), cv (.pointer (some ⟨g, 11, none⟩))]) (some 10) (fun i => (([some (.pointer (some ⟨g, 0, none⟩)), some (.pointer (some ⟨g, 0, none⟩)), some (.pointer (some ⟨g, 0, none⟩)), some (.pointer (some ⟨g, 11, none⟩)), none, some (.pointer (some ⟨g, 0, none⟩)), some (.pointer (some ⟨g, 0, none⟩)), some (.pointer (some ⟨g, 0, none⟩)), none, none, none, some (.pointer (some ⟨g, 0, none⟩)), some (.pointer (some ⟨g, 11, none⟩))] : List (Option Value))[i]?).getD none) (fun v' w' => w'.ownsRow Bd 3 1 v' (path.length + 1) ((paE path) ++ (#[.int .i64 p] : Array Value).toList) ∧ Below Bd w w' ∧ Blk w' g (walkC p r rd ev pa) 62 ∧ Blk w' g3 (insC ⟨9, i.dst, ((k : Nat) : Int), i.b, i.imm, i.loc, i.off, i.index, i.size, i.fn, i.acq, i.weak, i.rel, i.pred, i.succ, i.to, i.zero⟩) 23 ∧ w'.ownsRow Bd 52 15 ev evs.length (evE evs) ∧ v'.ownBlock ≠ some g ∧ v'.ownBlock ≠ some g3 ∧ ∀ k, ev.ownBlock = some k → v'.ownBlock ≠ some k) [12, 10, 0, 1, 2, 3, 4, 5, 6, 7, 8, 9, 11] [4, 9, 3, 8, 2, 7, 1, 6, 5] mixedY SM.refl SM.trans hA321 (by kernel_rfl) (by kernel_rfl) (tabQ_cv _ _) ?_ ?_
   ·skip
    refine eachD_cons (.inr (.inl ⟨by decide, _, rfl, fun x y hT hk hk0 => d_move (wn rfl) (hT.ev rfl) ⟨rfl, rfl⟩⟩)) ?_
    refine eachD_cons (.inr (.inl ⟨by decide, _, rfl, fun x y hT hk hk0 => d_move (wn rfl) (hT.ev rfl) ⟨rfl, rfl⟩⟩)) ?_
    refine eachD_cons (.inr (.inl ⟨by decide, _, rfl, fun x y hT hk hk0 => d_nilCheck (wn rfl) (hk 1 _ rfl rfl) ⟨rfl, rfl⟩⟩)) ?_
    refine eachD_cons (.inr (.inl ⟨by decide, _, rfl, fun x y hT hk hk0 => d_fieldAddr (wn rfl) (hk 2 _ rfl rfl) fo62_4 ⟨rfl, rfl⟩⟩)) ?_
    refine eachD_cons (.inl ⟨by decide, rfl, fun x y hS hT hk => d_load (v := pa) (wn rfl) (hk 3 rfl) one30 ((Blk.sm (w := w304.drew) m309 hS (hM322A _)).cell rfl) ⟨SM.refl _, rfl⟩⟩) ?_
    refine eachD_cons (.inr (.inl ⟨by decide, _, rfl, fun x y hT hk hk0 => d_move (wn rfl) (hT.ev rfl) ⟨rfl, rfl⟩⟩)) ?_
    refine eachD_cons (.inr (.inl ⟨by decide, _, rfl, fun x y hT hk hk0 => d_nilCheck (wn rfl) (hk 5 _ rfl rfl) ⟨rfl, rfl⟩⟩)) ?_
    refine eachD_cons (.inr (.inl ⟨by decide, _, rfl, fun x y hT hk hk0 => d_fieldAddr (wn rfl) (hk 6 _ rfl rfl) fo62_0 ⟨rfl, rfl⟩⟩)) ?_
    refine eachD_cons (.inl ⟨by decide, rfl, fun x y hS hT hk => d_load (v := (.int .i64 p)) (wn rfl) (hk 7 rfl) one3 ((Blk.sm (w := w304.drew) m309 hS (hM322A _)).cell rfl) ⟨SM.refl _, rfl⟩⟩) ?_
    refine eachD_cons (.inl ⟨by decide, rfl, fun x y hS hT hk => d_slice1 (wn rfl) (show x.eval _ = (.int .i64 p) from (hk 8 rfl)) elm30 rfl (by decide) (fun g w' _ hG hb => ⟨SM.grow hG, g, rfl, hb⟩)⟩) ?_
    refine eachD_cons (.inr (.inr ⟨rfl, fun x y hS hT hk => ?_⟩)) ?_
    ·skip
     obtain ⟨gb, hvb, hbb⟩ := hk 9 rfl
     have hG : Grow w304 y := Grow.trans ((Grow.refl _).drew) (SM.grown (by rw [hM322] at hS; exact hS))
     have hR := own_grow hG ho313
     have hO := own_grow hG ho312
     have hBl := below_grow b311 hG (Nat.le_trans hB b311.size)
     refine d_append (wn rfl) (show x.eval _ = pa from (hk 4 rfl)) hvb elm30 hR hbb rfl rfl (by omega) (by decide) (Nat.le_trans hB hBl.size) ?_
     intro v' w' h1 h2 h3
     exact ⟨h1, below_by hBl h2 (Nat.le_trans hB hBl.size) (fun k hk => (own_lt hR k hk).1), (m309.grow hG).by h2 op_, (m310.grow hG).by h2 off11, own_by hO h2 ap2, lies_ne h3 op_ (m309.grow hG).lt, lies_ne h3 off11 (m310.grow hG).lt, lies_ap h3 ap2 hO⟩
    refine eachD_cons (.inr (.inl ⟨by decide, _, rfl, fun x y hT hk hk0 => d_nilCheck (wn rfl) (hk 0 _ rfl rfl) ⟨rfl, rfl⟩⟩)) ?_
    refine eachD_cons (.inr (.inl ⟨by decide, _, rfl, fun x y hT hk hk0 => d_fieldAddr (wn rfl) (hk 11 _ rfl rfl) fo62_4 ⟨rfl, rfl⟩⟩)) ?_
    exact eachD_one
   rintro a323 w324 hA325 ⟨hP327, hW328⟩
   obtain ⟨v329, hv330⟩ : ∃ v', v' = (a323.tmps.getD 110 undef) := ⟨_, rfl⟩
   have hW331 : (fun v' w' => w'.ownsRow Bd 3 1 v' (path.length + 1) ((paE path) ++ (#[.int .i64 p] : Array Value).toList) ∧ Below Bd w w' ∧ Blk w' g (walkC p r rd ev pa) 62 ∧ Blk w' g3 (insC ⟨9, i.dst, ((k : Nat) : Int), i.b, i.imm, i.loc, i.off, i.index, i.size, i.fn, i.acq, i.weak, i.rel, i.pred, i.succ, i.to, i.zero⟩) 23 ∧ w'.ownsRow Bd 52 15 ev evs.length (evE evs) ∧ v'.ownBlock ≠ some g ∧ v'.ownBlock ≠ some g3 ∧ ∀ k, ev.ownBlock = some k → v'.ownBlock ≠ some k) v329 w324 := by rw [hv330]; exact hW328
   obtain ⟨ho332, b333, m334, m335, ho336, off337, off338, ap339⟩ := hW331
   have ap340 : ∀ k, v329.ownBlock = some k → ev.ownBlock ≠ some k := fun k h1 h2 => ap339 k h2 h1
   have hA341 : St 117 [(0, (.pointer (some ⟨g, 0, none⟩))), (4, (.bool false)), (5, (.int .i64 i.to)), (110, v329), (112, (.pointer (some ⟨g, 11, none⟩)))] a323 := hA325.cut _ (fm_cons (hA325.get 0 _ rfl) (fm_cons (hA325.get 4 _ rfl) (fm_cons (hA325.get 5 _ rfl) (fm_cons hv330.symm (fm_cons (hP327 12 _ (Nat.le_of_ble_eq_true rfl) (by decide) rfl) fm_nil)))))
   refine d_store (v := v329) (wn rfl) (hA341.ev rfl) (hA341.ev rfl) one30 (one_slice (own_form ho332)) m334 (Nat.le_of_ble_eq_true rfl) ?_
   intro w342 hU343 (m344 : Blk w342 g (walkC p r rd ev v329) 62)
   have m345 := m335.upd hU343 (Ne.symm n9)
   have b346 := hU343.below b333 hge
   have ho347 := own_upd ho336 hU343 oe
   have ho348 := own_upd ho332 hU343 off337
   have hA349 : St 117 [(0, (.pointer (some ⟨g, 0, none⟩))), (4, (.bool false)), (5, (.int .i64 i.to))] a323 := hA341.cut _ (fm_cons (hA341.get 0 _ rfl) (fm_cons (hA341.get 4 _ rfl) (fm_cons (hA341.get 5 _ rfl) fm_nil)))
   refine t_norm ?_
   refine wp_seq ?_
   refine wp_region_lit ?_
   refine q_step hA349 rfl (d_move (wn rfl) (hA349.ev rfl) ?_)
   intro a350 hA351
   refine q_step hA351 rfl (d_move (wn rfl) (hA351.ev rfl) ?_)
   intro a352 hA353
   refine q_step hA353 rfl (d_nilCheck (wn rfl) (hA353.ev rfl) ?_)
   intro a354 hA355
   refine q_step hA355 rfl (d_fieldAddr (wn rfl) (hA355.ev rfl) fo62_0 ?_)
   intro a356 hA357
   refine q_step hA357 rfl (d_store (v := (.int .i64 i.to)) (wn rfl) (hA357.ev rfl) (hA357.ev rfl) one3 rfl m344 (Nat.le_of_ble_eq_true rfl) ?_)
   intro w358 hU359 (m360 : Blk w358 g (walkC i.to r rd ev v329) 62)
   have m361 := m345.upd hU359 (Ne.symm n9)
   have b362 := hU359.below b346 hge
   have ho363 := own_upd ho347 hU359 oe
   have ho364 := own_upd ho348 hU359 off337
   intro a365 hA366
   refine q_end ?_
   have hA367 : St 117 [(4, (.bool false))] a365 := hA366.cut _ (fm_cons (hA366.get 4 _ rfl) fm_nil)
   refine t_norm ?_
   refine wp_seq ?_
   refine wp_region_lit ?_
   refine q_step hA367 rfl (d_assign (wn rfl) (hA367.ev rfl) ?_)
   intro a368 hA369
   refine q_end ?_
   have hA370 : St 117 [(4, (.bool true))] a368 := hA369.cut _ (fm_cons (hA369.get 4 _ rfl) fm_nil)
   refine t_norm ?_
   refine wp_ret ?_
   refine ret1 rfl hA370 (v := (.bool true)) rfl ?_
   have hpp : (brP r k i p) = i.to := by simp [brP, hb84, hb229]
   rw [hpp]
   exact ⟨rfl, b362, rd, ev, v329, m360, hge, (hrd.below b362), ho363, (by rw [List.length_append, ← paE_snoc]; exact ho364), oe, off337, ap340⟩
end Go.Proofs.Ytlhompedcphnnaa
/- A write of the walk. -/
namespace Go.Proofs.Ytlhompedcphnnaa
open Go.RowKit
set_option linter.unusedSimpArgs false
set_option linter.unusedVariables false
set_option maxHeartbeats 4000000 in
set_option maxRecDepth 4000 in
theorem access_5 (Bd g : Nat) (p : Int) (r : Nat → Int) (rd ev pa : Value) (i : Ins) (rds : List Int) (evs : List Ev) (path : List Int) (w : World) (hB : Bd ≤ w.heap.size) (hW : WS Bd g w p r rds evs path rd ev pa) (hne : evs.length ≤ 1000) (hnp : path.length ≤ 1000) (hr : ∀ k, wfI (r k)) (hix : ronB i.index = true) (hoff : wfI i.off) (ha : ronB i.a = true) (himm : wfI i.imm) : Calls Try.prog 48 #[.pointer (some ⟨g, 0, none⟩), .agg (insC ⟨5, i.dst, i.a, i.b, i.imm, i.loc, i.off, i.index, i.size, i.fn, i.acq, i.weak, i.rel, i.pred, i.succ, i.to, i.zero⟩)] w fun e w' => e = .returned (.bool true) ∧ Below Bd w w' ∧ ∃ rd' ev' pa', WS Bd g w' p r rds (evs ++ [acc5 i r path.length p]) path rd' ev' pa' := by
 obtain ⟨hb, hge, hrd, hev, hpa, oe, op_, ap⟩ := hW
 have ap2 : ∀ k, ev.ownBlock = some k → pa.ownBlock ≠ some k := fun k h1 h2 => ap k h2 h1
 have b0 : Below Bd w w := Below.refl _ _
 refine enter (n := 81) Try.func48 rfl rfl (Nat.le_of_ble_eq_true rfl) ?_
 intro a1 hA2
 refine wp_seq ?_
 refine wp_region_lit ?_
 refine q_step hA2 rfl (d_box (wn rfl) (hA2.ev rfl) ?_)
 intro g3 w4 eg5 hG6 (m7 : Blk w4 g3 (insC ⟨5, i.dst, i.a, i.b, i.imm, i.loc, i.off, i.index, i.size, i.fn, i.acq, i.weak, i.rel, i.pred, i.succ, i.to, i.zero⟩) 23)
 have ge8 : Bd ≤ g3 := eg5 ▸ (Nat.le_trans hB b0.size)
 have n9 : g ≠ g3 := fun h => Nat.lt_irrefl _ ((h.trans eg5) ▸ hb.lt)
 have off10 := own_new hev eg5
 have off11 := own_new hpa eg5
 have m12 := hb.grow hG6
 have b13 := below_grow b0 hG6 (Nat.le_trans hB b0.size)
 have ho14 := own_grow hG6 hev
 have ho15 := own_grow hG6 hpa
 intro a16 hA17
 refine q_step hA17 rfl (d_assign (wn rfl) (hA17.ev rfl) ?_)
 intro a18 hA19
 refine q_end ?_
 have hA20 : St 81 [(0, (.pointer (some ⟨g, 0, none⟩))), (3, (.pointer (some ⟨g3, 0, none⟩))), (4, (.bool false))] a18 := hA19.cut _ (fm_cons (hA19.get 0 _ rfl) (fm_cons (hA19.get 3 _ rfl) (fm_cons (hA19.get 4 _ rfl) fm_nil)))
 refine t_norm ?_
 refine wp_seq ?_
 refine wp_region_lit ?_
 refine q_step hA20 rfl (d_move (wn rfl) (hA20.ev rfl) ?_)
 intro a21 hA22
 refine q_step hA22 rfl (d_loadRow (cs := (insC ⟨5, i.dst, i.a, i.b, i.imm, i.loc, i.off, i.index, i.size, i.fn, i.acq, i.weak, i.rel, i.pred, i.succ, i.to, i.zero⟩)) (wn rfl) (hA22.ev rfl) row23 m7 ?_)
 intro a23 hA24
 refine q_step hA24 rfl (d_call (wn rfl) ent49 (map2 (hA24.ev rfl) (hA24.ev rfl)) (event_any g p r rd ev pa (⟨5, i.dst, i.a, i.b, i.imm, i.loc, i.off, i.index, i.size, i.fn, i.acq, i.weak, i.rel, i.pred, i.succ, i.to, i.zero⟩) path.length Bd (paE path) w4 m12 ho15) ?_)
 rintro e28 w25 ⟨he27, hG26⟩
 have m29 := m12.grow hG26
 have m30 := m7.grow hG26
 have b31 := below_grow b13 hG26 (Nat.le_trans hB b13.size)
 have ho32 := own_grow hG26 ho14
 have ho33 := own_grow hG26 ho15
 refine ⟨(.agg #[.int .i64 0, .int .i64 ((path.length : Nat) : Int), .int .i64 p, .int .i64 5, .int .i64 0, .int .i64 0, .bool false, .bool true, .int .i64 0, .int .i64 0, .bool i.acq, .bool i.weak, .bool i.rel, .int .i64 i.pred, .int .i64 i.succ]), he27, ?_⟩
 intro a34 hA35
 refine q_step hA35 rfl (d_alloc (wn rfl) zero52 ?_)
 intro g36 w37 eg38 hG39 (m40 : Blk w37 g36 #[.int .i64 0, .int .i64 0, .int .i64 0, .int .i64 0, .int .i64 0, .int .i64 0, .bool false, .bool false, .int .i64 0, .int .i64 0, .bool false, .bool false, .bool false, .int .i64 0, .int .i64 0] 52)
 have ge41 : Bd ≤ g36 := eg38 ▸ (Nat.le_trans hB b31.size)
 have n42 : g ≠ g36 := fun h => Nat.lt_irrefl _ ((h.trans eg38) ▸ m29.lt)
 have n43 : g3 ≠ g36 := fun h => Nat.lt_irrefl _ ((h.trans eg38) ▸ m30.lt)
 have off44 := own_new ho32 eg38
 have off45 := own_new ho33 eg38
 have m46 := m29.grow hG39
 have m47 := m30.grow hG39
 have b48 := below_grow b31 hG39 (Nat.le_trans hB b31.size)
 have ho49 := own_grow hG39 ho32
 have ho50 := own_grow hG39 ho33
 intro a51 hA52
 refine q_step hA52 rfl (d_storeRow (wn rfl) (hA52.ev rfl) (hA52.ev rfl) row52 m40 rfl rfl ?_)
 intro w53 hU54 (m55 : Blk w53 g36 #[.int .i64 0, .int .i64 ((path.length : Nat) : Int), .int .i64 p, .int .i64 5, .int .i64 0, .int .i64 0, .bool false, .bool true, .int .i64 0, .int .i64 0, .bool i.acq, .bool i.weak, .bool i.rel, .int .i64 i.pred, .int .i64 i.succ] 52)
 have m56 := m46.upd hU54 n42
 have m57 := m47.upd hU54 n43
 have b58 := hU54.below b48 ge41
 have ho59 := own_upd ho49 hU54 off44
 have ho60 := own_upd ho50 hU54 off45
 intro a61 hA62
 refine q_end ?_
 have hA63 : St 81 [(0, (.pointer (some ⟨g, 0, none⟩))), (3, (.pointer (some ⟨g3, 0, none⟩))), (4, (.bool false)), (5, (.pointer (some ⟨g36, 0, none⟩)))] a61 := hA62.cut _ (fm_cons (hA62.get 0 _ rfl) (fm_cons (hA62.get 3 _ rfl) (fm_cons (hA62.get 4 _ rfl) (fm_cons (hA62.get 5 _ rfl) fm_nil))))
 refine t_norm ?_
 refine wp_seq ?_
 have hA64 : St 81 [(0, (.pointer (some ⟨g, 0, none⟩))), (3, (.pointer (some ⟨g3, 0, none⟩))), (4, (.bool false)), (5, (.pointer (some ⟨g36, 0, none⟩)))] a61 := hA63.cut _ (fm_cons (hA63.get 0 _ rfl) (fm_cons (hA63.get 3 _ rfl) (fm_cons (hA63.get 4 _ rfl) (fm_cons (hA63.get 5 _ rfl) fm_nil))))
 let M65 : Nat → Option (Array Value) := fun _ => none
 have hM65 : M65 = fun _ => none := rfl
 clear_value M65
 have hM66 : M65 g = none := (congrFun hM65 g)
 have hM67 : M65 g3 = none := (congrFun hM65 g3)
 have hM68 : M65 g36 = none := (congrFun hM65 g36)
 have hM65B : ∀ k, k < Bd → M65 k = none := (fun k hk => (congrFun hM65 k))
 refine drawn (S := SM M65) (tabL [cv (.pointer (some ⟨g3, 6, none⟩)), cv (.int .i64 i.off), cv (.pointer (some ⟨g, 0, none⟩)), cv (.pointer (some ⟨g3, 7, none⟩)), cv (.int .i64 i.index), cv (.int .i64 (orR r i.index 0)), cv (.pointer (some ⟨g3, 8, none⟩)), cv (.int .i64 i.size), cv (.int .i64 (placeR (B i.off) (B (orR r i.index 0)) i.size)), cv (.int .i64 (placeR (B i.off) (B (orR r i.index 0)) i.size))]) mixedY SM.refl SM.trans SM.drew hA64 (by kernel_rfl) ?_ ?_
 ·skip
  refine each_cons (fun x y hS hT hk => d_fieldAddr (wn rfl) (hT.ev rfl) fo23_6 ⟨SM.refl _, rfl⟩) ?_
  refine each_cons (fun x y hS hT hk => d_load (v := (.int .i64 i.off)) (wn rfl) (hk 0 rfl) one3 ((Blk.sm (w := w53.drew) m57 hS hM67).cell rfl) ⟨SM.refl _, rfl⟩) ?_
  refine each_cons (fun x y hS hT hk => d_move (wn rfl) (hT.ev rfl) ⟨SM.refl _, rfl⟩) ?_
  refine each_cons (fun x y hS hT hk => d_fieldAddr (wn rfl) (hT.ev rfl) fo23_7 ⟨SM.refl _, rfl⟩) ?_
  refine each_cons (fun x y hS hT hk => d_load (v := (.int .i64 i.index)) (wn rfl) (hk 3 rfl) one3 ((Blk.sm (w := w53.drew) m57 hS hM67).cell rfl) ⟨SM.refl _, rfl⟩) ?_
  refine each_cons (fun x y hS hT hk => d_call (wn rfl) ent47 (map3 (show x.eval _ = (.pointer (some ⟨g, 0, none⟩)) from (hk 2 rfl)) (show x.eval _ = (.int .i64 i.index) from (hk 4 rfl)) (show x.eval _ = (.int .i64 0) from (hT.ev rfl))) (regOr_any g p r rd ev pa i.index 0 y (Blk.sm (w := w53.drew) m56 hS hM66) hix) (fun _ _ ⟨he, hG⟩ => ⟨(.int .i64 (orR r i.index 0)), he, SM.grow hG, rfl⟩)) ?_
  refine each_cons (fun x y hS hT hk => d_fieldAddr (wn rfl) (hT.ev rfl) fo23_8 ⟨SM.refl _, rfl⟩) ?_
  refine each_cons (fun x y hS hT hk => d_load (v := (.int .i64 i.size)) (wn rfl) (hk 6 rfl) one3 ((Blk.sm (w := w53.drew) m57 hS hM67).cell rfl) ⟨SM.refl _, rfl⟩) ?_
  refine each_cons (fun x y hS hT hk => d_call (wn rfl) ent57 (map3 (show x.eval _ = (.int .i64 i.off) from (hk 1 rfl)) (show x.eval _ = (.int .i64 (orR r i.index 0)) from (hk 5 rfl)) (show x.eval _ = (.int .i64 i.size) from (hk 7 rfl))) (place_w i.off (orR r i.index 0) i.size y hoff (wf_or hr wf_0)) (fun _ _ ⟨he, hw⟩ => ⟨(.int .i64 (placeR (B i.off) (B (orR r i.index 0)) i.size)), he, hw ▸ SM.refl _, rfl⟩)) ?_
  refine each_cons (fun x y hS hT hk => d_assign (wn rfl) (hk 8 rfl) ⟨SM.refl _, rfl⟩) ?_
  exact each_nil
 intro f69 a70 w71 hS72 hC73 hA74
 have hA75 : St 81 [(0, (.pointer (some ⟨g, 0, none⟩))), (3, (.pointer (some ⟨g3, 0, none⟩))), (4, (.bool false)), (5, (.pointer (some ⟨g36, 0, none⟩))), (6, (.int .i64 (placeR (B i.off) (B (orR r i.index 0)) i.size)))] a70 := hA74.cut _ (fm_cons (hA74.get 0 _ rfl) (fm_cons (hA74.get 3 _ rfl) (fm_cons (hA74.get 4 _ rfl) (fm_cons (hA74.get 5 _ rfl) (fm_cons ((hA74.get 6 _ rfl).trans (hC73 9 (Nat.le_of_ble_eq_true rfl))) fm_nil)))))
 have m76 := m56.sm hS72 hM66
 have m77 := m57.sm hS72 hM67
 have m78 := m55.sm hS72 hM68
 have b79 := hS72.below b58 (Nat.le_trans hB b58.size) hM65B
 have ho80 := own_sm ho59 hS72 (fun k => congrFun hM65 k)
 have ho81 := own_sm ho60 hS72 (fun k => congrFun hM65 k)
 refine t_norm ?_
 refine wp_seq ?_
 have hA82 : St 81 [(0, (.pointer (some ⟨g, 0, none⟩))), (3, (.pointer (some ⟨g3, 0, none⟩))), (4, (.bool false)), (5, (.pointer (some ⟨g36, 0, none⟩))), (6, (.int .i64 (placeR (B i.off) (B (orR r i.index 0)) i.size)))] a70 := hA75.cut _ (fm_cons (hA75.get 0 _ rfl) (fm_cons (hA75.get 3 _ rfl) (fm_cons (hA75.get 4 _ rfl) (fm_cons (hA75.get 5 _ rfl) (fm_cons (hA75.get 6 _ rfl) fm_nil)))))
 let M83 : Nat → Option (Array Value) := fun _ => none
 have hM83 : M83 = fun _ => none := rfl
 clear_value M83
 have hM83A : ∀ k, M83 k = none := fun k => congrFun hM83 k
 have hM83B : ∀ k, k < Bd → M83 k = none := fun k _ => hM83A k
 refine drawnL (S := SM M83) rfl (tabL [cv (.pointer (some ⟨g3, 5, none⟩)), cv (.int .i64 i.loc), cv (.int .i64 (placeR (B i.off) (B (orR r i.index 0)) i.size)), cv (.pointer (some ⟨g3, 8, none⟩)), cv (.int .i64 i.size), cv (.int .i64 (maskR (placeR (B i.off) (B (orR r i.index 0)) i.size) i.size)), cv (.agg #[.int .i64 i.loc, .int .i64 (maskR (placeR (B i.off) (B (orR r i.index 0)) i.size) i.size)]), cv (.pointer (some ⟨g36, 4, none⟩))]) none (fun _ => none) (fun _ _ => True) [7, 6, 5, 0, 1, 2, 3, 4] [] mixedY SM.refl SM.trans hA82 (by kernel_rfl) (by kernel_rfl) (fun i v u w h => by cases h) ?_ ?_
 ·skip
  refine eachD_cons (.inl ⟨nofun, rfl, fun x y hS hT hk => d_fieldAddr (wn rfl) (hT.ev rfl) fo23_5 ⟨SM.refl _, rfl⟩⟩) ?_
  refine eachD_cons (.inl ⟨nofun, rfl, fun x y hS hT hk => d_load (v := (.int .i64 i.loc)) (wn rfl) (hk 0 rfl) one3 ((Blk.sm (w := w71.drew) m77 hS (hM83A _)).cell rfl) ⟨SM.refl _, rfl⟩⟩) ?_
  refine eachD_cons (.inl ⟨nofun, rfl, fun x y hS hT hk => d_move (wn rfl) (hT.ev rfl) ⟨SM.refl _, rfl⟩⟩) ?_
  refine eachD_cons (.inl ⟨nofun, rfl, fun x y hS hT hk => d_fieldAddr (wn rfl) (hT.ev rfl) fo23_8 ⟨SM.refl _, rfl⟩⟩) ?_
  refine eachD_cons (.inl ⟨nofun, rfl, fun x y hS hT hk => d_load (v := (.int .i64 i.size)) (wn rfl) (hk 3 rfl) one3 ((Blk.sm (w := w71.drew) m77 hS (hM83A _)).cell rfl) ⟨SM.refl _, rfl⟩⟩) ?_
  refine eachD_cons (.inl ⟨nofun, rfl, fun x y hS hT hk => d_call (wn rfl) ent55 (map2 (show x.eval _ = (.int .i64 (placeR (B i.off) (B (orR r i.index 0)) i.size)) from (hk 2 rfl)) (show x.eval _ = (.int .i64 i.size) from (hk 4 rfl))) (mask_all (placeR (B i.off) (B (orR r i.index 0)) i.size) i.size y) (fun _ _ ⟨he, hw⟩ => ⟨(.int .i64 (maskR (placeR (B i.off) (B (orR r i.index 0)) i.size) i.size)), he, hw ▸ SM.refl _, rfl⟩)⟩) ?_
  refine eachD_cons (.inl ⟨nofun, rfl, fun x y hS hT hk => d_build (cs := #[.int .i64 i.loc, .int .i64 (maskR (placeR (B i.off) (B (orR r i.index 0)) i.size) i.size)]) (wn rfl) (bp_of (bq_cons (show x.eval _ = (.int .i64 i.loc) from (hk 1 rfl)) (bq_cons (show x.eval _ = (.int .i64 (maskR (placeR (B i.off) (B (orR r i.index 0)) i.size) i.size)) from (hk 5 rfl)) bq_nil))) zero50 places50 (by kernel_rfl) ⟨SM.refl _, rfl⟩⟩) ?_
  refine eachD_cons (.inl ⟨nofun, rfl, fun x y hS hT hk => d_fieldAddr (wn rfl) (hT.ev rfl) fo52_4 ⟨SM.refl _, rfl⟩⟩) ?_
  exact eachD_one
 rintro a84 w85 hA86 ⟨hS88, hC89⟩
 have hA90 : St 81 [(0, (.pointer (some ⟨g, 0, none⟩))), (3, (.pointer (some ⟨g3, 0, none⟩))), (4, (.bool false)), (5, (.pointer (some ⟨g36, 0, none⟩))), (25, (.agg #[.int .i64 i.loc, .int .i64 (maskR (placeR (B i.off) (B (orR r i.index 0)) i.size) i.size)])), (26, (.pointer (some ⟨g36, 4, none⟩)))] a84 := hA86.cut _ (fm_cons (hA86.get 0 _ rfl) (fm_cons (hA86.get 3 _ rfl) (fm_cons (hA86.get 4 _ rfl) (fm_cons (hA86.get 5 _ rfl) (fm_cons (hC89 6 (Nat.le_of_ble_eq_true rfl)) (fm_cons (hC89 7 (Nat.le_of_ble_eq_true rfl)) fm_nil))))))
 have hG91 : Grow w71 w85 := Grow.trans ((Grow.refl _).drew) (SM.grown (by rw [hM83] at hS88; exact hS88))
 have m92 := m76.grow hG91
 have m93 := m77.grow hG91
 have m94 := m78.grow hG91
 have b95 := below_grow b79 hG91 (Nat.le_trans hB b79.size)
 have ho96 := own_grow hG91 ho80
 have ho97 := own_grow hG91 ho81
 refine d_store2 (wn rfl) (hA90.ev rfl) (hA90.ev rfl) row50 rfl rfl m94 (Nat.le_of_ble_eq_true rfl) ?_
 intro w98 hU99 (m100 : Blk w98 g36 #[.int .i64 0, .int .i64 ((path.length : Nat) : Int), .int .i64 p, .int .i64 5, .int .i64 i.loc, .int .i64 (maskR (placeR (B i.off) (B (orR r i.index 0)) i.size) i.size), .bool false, .bool true, .int .i64 0, .int .i64 0, .bool i.acq, .bool i.weak, .bool i.rel, .int .i64 i.pred, .int .i64 i.succ] 52)
 have m101 := m92.upd hU99 n42
 have m102 := m93.upd hU99 n43
 have b103 := hU99.below b95 ge41
 have ho104 := own_upd ho96 hU99 off44
 have ho105 := own_upd ho97 hU99 off45
 have hA106 : St 81 [(0, (.pointer (some ⟨g, 0, none⟩))), (3, (.pointer (some ⟨g3, 0, none⟩))), (4, (.bool false)), (5, (.pointer (some ⟨g36, 0, none⟩)))] a84 := hA90.cut _ (fm_cons (hA90.get 0 _ rfl) (fm_cons (hA90.get 3 _ rfl) (fm_cons (hA90.get 4 _ rfl) (fm_cons (hA90.get 5 _ rfl) fm_nil))))
 refine t_norm ?_
 refine wp_seq ?_
 refine wp_seq ?_
 refine wp_region_lit ?_
 refine q_step hA106 rfl (d_fieldAddr (wn rfl) (hA106.ev rfl) fo52_5 ?_)
 intro a107 hA108
 refine q_step hA108 rfl (d_load (v := (.bool false)) (wn rfl) (hA108.ev rfl) one4 (m100.cell rfl) ?_)
 intro a109 hA110
 refine q_end ?_
 have hA111 : St 81 [(0, (.pointer (some ⟨g, 0, none⟩))), (3, (.pointer (some ⟨g3, 0, none⟩))), (4, (.bool false)), (5, (.pointer (some ⟨g36, 0, none⟩))), (28, (.bool false))] a109 := hA110.cut _ (fm_cons (hA110.get 0 _ rfl) (fm_cons (hA110.get 3 _ rfl) (fm_cons (hA110.get 4 _ rfl) (fm_cons (hA110.get 5 _ rfl) (fm_cons (hA110.get 28 _ rfl) fm_nil)))))
 refine t_norm ?_
 refine c_false hA111 rfl ?_
 refine wp_skip ?_
 refine t_norm ?_
 refine wp_seq ?_
 refine wp_seq ?_
 refine wp_region_lit ?_
 refine q_step hA111 rfl (d_fieldAddr (wn rfl) (hA111.ev rfl) fo52_6 ?_)
 intro a112 hA113
 refine q_step hA113 rfl (d_load (v := (.bool true)) (wn rfl) (hA113.ev rfl) one4 (m100.cell rfl) ?_)
 intro a114 hA115
 refine q_end ?_
 have hA116 : St 81 [(0, (.pointer (some ⟨g, 0, none⟩))), (3, (.pointer (some ⟨g3, 0, none⟩))), (4, (.bool false)), (5, (.pointer (some ⟨g36, 0, none⟩))), (54, (.bool true))] a114 := hA115.cut _ (fm_cons (hA115.get 0 _ rfl) (fm_cons (hA115.get 3 _ rfl) (fm_cons (hA115.get 4 _ rfl) (fm_cons (hA115.get 5 _ rfl) (fm_cons (hA115.get 54 _ rfl) fm_nil)))))
 refine t_norm ?_
 refine c_true hA116 rfl ?_
 refine wp_region_lit ?_
 refine q_step hA116 rfl (d_move (wn rfl) (hA116.ev rfl) ?_)
 intro a117 hA118
 refine q_step hA118 rfl (d_loadRow (cs := (insC ⟨5, i.dst, i.a, i.b, i.imm, i.loc, i.off, i.index, i.size, i.fn, i.acq, i.weak, i.rel, i.pred, i.succ, i.to, i.zero⟩)) (wn rfl) (hA118.ev rfl) row23 m102 ?_)
 intro a119 hA120
 refine q_step hA120 rfl (d_fieldAddr (wn rfl) (hA120.ev rfl) fo52_7 ?_)
 intro a121 hA122
 refine q_step hA122 rfl (d_load (v := (.int .i64 0)) (wn rfl) (hA122.ev rfl) one3 (m100.cell rfl) ?_)
 intro a123 hA124
 refine q_step hA124 rfl (d_call (wn rfl) ent59 (map3 (hA124.ev rfl) (hA124.ev rfl) (hA124.ev rfl)) (written_5 g p r rd ev pa i 0 w98 m101 hr ha himm) ?_)
 rintro e128 w125 ⟨he127, hG126⟩
 have m129 := m101.grow hG126
 have m130 := m102.grow hG126
 have m131 := m100.grow hG126
 have b132 := below_grow b103 hG126 (Nat.le_trans hB b103.size)
 have ho133 := own_grow hG126 ho104
 have ho134 := own_grow hG126 ho105
 refine ⟨(.int .i64 (I (getR (B (orR r i.a i.imm)) 0 i.size))), he127, ?_⟩
 intro a135 hA136
 refine q_step hA136 rfl (d_fieldAddr (wn rfl) (hA136.ev rfl) fo52_8 ?_)
 intro a137 hA138
 refine q_step hA138 rfl (d_store (wn rfl) (hA138.ev rfl) (hA138.ev rfl) one3 rfl m131 (Nat.le_of_ble_eq_true rfl) ?_)
 intro w139 hU140 (m141 : Blk w139 g36 #[.int .i64 0, .int .i64 ((path.length : Nat) : Int), .int .i64 p, .int .i64 5, .int .i64 i.loc, .int .i64 (maskR (placeR (B i.off) (B (orR r i.index 0)) i.size) i.size), .bool false, .bool true, .int .i64 0, .int .i64 (I (getR (B (orR r i.a i.imm)) 0 i.size)), .bool i.acq, .bool i.weak, .bool i.rel, .int .i64 i.pred, .int .i64 i.succ] 52)
 have m142 := m129.upd hU140 n42
 have m143 := m130.upd hU140 n43
 have b144 := hU140.below b132 ge41
 have ho145 := own_upd ho133 hU140 off44
 have ho146 := own_upd ho134 hU140 off45
 intro a147 hA148
 refine q_end ?_
 have hA149 : St 81 [(0, (.pointer (some ⟨g, 0, none⟩))), (3, (.pointer (some ⟨g3, 0, none⟩))), (4, (.bool false)), (5, (.pointer (some ⟨g36, 0, none⟩)))] a147 := hA148.cut _ (fm_cons (hA148.get 0 _ rfl) (fm_cons (hA148.get 3 _ rfl) (fm_cons (hA148.get 4 _ rfl) (fm_cons (hA148.get 5 _ rfl) fm_nil))))
 refine t_norm ?_
 refine wp_seq ?_
 refine wp_seq ?_
 refine wp_region_lit ?_
 refine q_step hA149 rfl (d_fieldAddr (wn rfl) (hA149.ev rfl) fo52_5 ?_)
 intro a150 hA151
 refine q_step hA151 rfl (d_load (v := (.bool false)) (wn rfl) (hA151.ev rfl) one4 (m141.cell rfl) ?_)
 intro a152 hA153
 refine q_end ?_
 have hA154 : St 81 [(0, (.pointer (some ⟨g, 0, none⟩))), (3, (.pointer (some ⟨g3, 0, none⟩))), (4, (.bool false)), (5, (.pointer (some ⟨g36, 0, none⟩))), (62, (.bool false))] a152 := hA153.cut _ (fm_cons (hA153.get 0 _ rfl) (fm_cons (hA153.get 3 _ rfl) (fm_cons (hA153.get 4 _ rfl) (fm_cons (hA153.get 5 _ rfl) (fm_cons (hA153.get 62 _ rfl) fm_nil)))))
 refine t_norm ?_
 refine c_false hA154 rfl ?_
 refine wp_skip ?_
 refine t_norm ?_
 refine wp_seq ?_
 have hA155 : St 81 [(0, (.pointer (some ⟨g, 0, none⟩))), (4, (.bool false)), (5, (.pointer (some ⟨g36, 0, none⟩)))] a152 := hA154.cut _ (fm_cons (hA154.get 0 _ rfl) (fm_cons (hA154.get 4 _ rfl) (fm_cons (hA154.get 5 _ rfl) fm_nil)))
 let M156 : Nat → Option (Array Value) := fun _ => none
 have hM156 : M156 = fun _ => none := rfl
 clear_value M156
 have hM156A : ∀ k, M156 k = none := fun k => congrFun hM156 k
 have hM156B : ∀ k, k < Bd → M156 k = none := fun k _ => hM156A k
 refine drawnL (S := SM M156) rfl (tabQ [some (.pointer (some ⟨g, 0, none⟩)), some (.pointer (some ⟨g, 0, none⟩)), some (.pointer (some ⟨g, 0, none⟩)), some (.pointer (some ⟨g, 10, none⟩)), none, none, none, none, some (.pointer (some ⟨g, 0, none⟩)), some (.pointer (some ⟨g, 10, none⟩))] [cv (.pointer (some ⟨g, 0, none⟩)), cv (.pointer (some ⟨g, 0, none⟩)), cv (.pointer (some ⟨g, 0, none⟩)), cv (.pointer (some ⟨g, 10, none⟩)), cv ev, cv (.agg #[.int .i64 0, .int .i64 ((path.length : Nat) : Int), .int .i64 p, .int .i64 5, .int .i64 i.loc, .int .i64 (maskR (placeR (B i.off) (B (orR r i.index 0)) i.size) i.size), .bool false, .bool true, .int .i64 0, .int .i64 (I (getR (B (orR r i.a i.imm)) 0 i.size)), .bool i.acq, .bool i.weak, .bool i.rel, .int .i64 i.pred, .int .i64 i.succ]), cs1 M156 hM156A #[.int .i64 0, .int .i64 ((path.length : Nat) : Int), .int .i64 p, .int .i64 5, .int .i64 i.loc, .int .i64 (maskR (placeR (B i.off) (B (orR r i.index 0)) i.size) i.size), .bool false, .bool true, .int .i64 0, .int .i64 (I (getR (B (orR r i.a i.imm)) 0 i.size)), .bool i.acq, .bool i.weak, .bool i.rel, .int .i64 i.pred, .int .i64 i.succ] 52, cfree, cv (.pointer (some ⟨g, 0, none⟩)), cv (.pointer (some ⟨g, 10, none⟩))]) (some 7) (fun i => (([some (.pointer (some ⟨g, 0, none⟩)), some (.pointer (some ⟨g, 0, none⟩)), some (.pointer (some ⟨g, 0, none⟩)), some (.pointer (some ⟨g, 10, none⟩)), none, none, none, none, some (.pointer (some ⟨g, 0, none⟩)), some (.pointer (some ⟨g, 10, none⟩))] : List (Option Value))[i]?).getD none) (fun v' w' => w'.ownsRow Bd 52 15 v' (evs.length + 1) ((evE evs) ++ (#[.int .i64 0, .int .i64 ((path.length : Nat) : Int), .int .i64 p, .int .i64 5, .int .i64 i.loc, .int .i64 (maskR (placeR (B i.off) (B (orR r i.index 0)) i.size) i.size), .bool false, .bool true, .int .i64 0, .int .i64 (I (getR (B (orR r i.a i.imm)) 0 i.size)), .bool i.acq, .bool i.weak, .bool i.rel, .int .i64 i.pred, .int .i64 i.succ] : Array Value).toList) ∧ Below Bd w w' ∧ Blk w' g (walkC p r rd ev pa) 62 ∧ Blk w' g3 (insC ⟨5, i.dst, i.a, i.b, i.imm, i.loc, i.off, i.index, i.size, i.fn, i.acq, i.weak, i.rel, i.pred, i.succ, i.to, i.zero⟩) 23 ∧ Blk w' g36 #[.int .i64 0, .int .i64 ((path.length : Nat) : Int), .int .i64 p, .int .i64 5, .int .i64 i.loc, .int .i64 (maskR (placeR (B i.off) (B (orR r i.index 0)) i.size) i.size), .bool false, .bool true, .int .i64 0, .int .i64 (I (getR (B (orR r i.a i.imm)) 0 i.size)), .bool i.acq, .bool i.weak, .bool i.rel, .int .i64 i.pred, .int .i64 i.succ] 52 ∧ w'.ownsRow Bd 3 1 pa path.length (paE path) ∧ v'.ownBlock ≠ some g ∧ v'.ownBlock ≠ some g3 ∧ v'.ownBlock ≠ some g36 ∧ ∀ k, pa.ownBlock = some k → v'.ownBlock ≠ some k) [9, 7, 0, 1, 2, 3, 4, 5, 6, 8] [4, 6, 3, 5, 2, 1] mixedY SM.refl SM.trans hA155 (by kernel_rfl) (by kernel_rfl) (tabQ_cv _ _) ?_ ?_
 ·skip
  refine eachD_cons (.inr (.inl ⟨by decide, _, rfl, fun x y hT hk hk0 => d_move (wn rfl) (hT.ev rfl) ⟨rfl, rfl⟩⟩)) ?_
  refine eachD_cons (.inr (.inl ⟨by decide, _, rfl, fun x y hT hk hk0 => d_move (wn rfl) (hT.ev rfl) ⟨rfl, rfl⟩⟩)) ?_
  refine eachD_cons (.inr (.inl ⟨by decide, _, rfl, fun x y hT hk hk0 => d_nilCheck (wn rfl) (hk 1 _ rfl rfl) ⟨rfl, rfl⟩⟩)) ?_
  refine eachD_cons (.inr (.inl ⟨by decide, _, rfl, fun x y hT hk hk0 => d_fieldAddr (wn rfl) (hk 2 _ rfl rfl) fo62_3 ⟨rfl, rfl⟩⟩)) ?_
  refine eachD_cons (.inl ⟨by decide, rfl, fun x y hS hT hk => d_load (v := ev) (wn rfl) (hk 3 rfl) one44 ((Blk.sm (w := w139.drew) m142 hS (hM156A _)).cell rfl) ⟨SM.refl _, rfl⟩⟩) ?_
  refine eachD_cons (.inl ⟨by decide, rfl, fun x y hS hT hk => d_loadRow (cs := #[.int .i64 0, .int .i64 ((path.length : Nat) : Int), .int .i64 p, .int .i64 5, .int .i64 i.loc, .int .i64 (maskR (placeR (B i.off) (B (orR r i.index 0)) i.size) i.size), .bool false, .bool true, .int .i64 0, .int .i64 (I (getR (B (orR r i.a i.imm)) 0 i.size)), .bool i.acq, .bool i.weak, .bool i.rel, .int .i64 i.pred, .int .i64 i.succ]) (wn rfl) (hT.ev rfl) row52 (Blk.sm (w := w139.drew) m141 hS (hM156A _)) ⟨SM.refl _, rfl⟩⟩) ?_
  refine eachD_cons (.inl ⟨by decide, rfl, fun x y hS hT hk => d_slice1 (wn rfl) (show x.eval _ = (.agg #[.int .i64 0, .int .i64 ((path.length : Nat) : Int), .int .i64 p, .int .i64 5, .int .i64 i.loc, .int .i64 (maskR (placeR (B i.off) (B (orR r i.index 0)) i.size) i.size), .bool false, .bool true, .int .i64 0, .int .i64 (I (getR (B (orR r i.a i.imm)) 0 i.size)), .bool i.acq, .bool i.weak, .bool i.rel, .int .i64 i.pred, .int .i64 i.succ]) from (hk 5 rfl)) elm44 rfl (by decide) (fun g w' _ hG hb => ⟨SM.grow hG, g, rfl, hb⟩)⟩) ?_
  refine eachD_cons (.inr (.inr ⟨rfl, fun x y hS hT hk => ?_⟩)) ?_
  ·skip
   obtain ⟨gb, hvb, hbb⟩ := hk 6 rfl
   have hG : Grow w139 y := Grow.trans ((Grow.refl _).drew) (SM.grown (by rw [hM156] at hS; exact hS))
   have hR := own_grow hG ho145
   have hO := own_grow hG ho146
   have hBl := below_grow b144 hG (Nat.le_trans hB b144.size)
   refine d_append (wn rfl) (show x.eval _ = ev from (hk 4 rfl)) hvb elm44 hR hbb rfl rfl (by omega) (by decide) (Nat.le_trans hB hBl.size) ?_
   intro v' w' h1 h2 h3
   exact ⟨h1, below_by hBl h2 (Nat.le_trans hB hBl.size) (fun k hk => (own_lt hR k hk).1), (m142.grow hG).by h2 oe, (m143.grow hG).by h2 off10, (m141.grow hG).by h2 off44, own_by hO h2 ap, lies_ne h3 oe (m142.grow hG).lt, lies_ne h3 off10 (m143.grow hG).lt, lies_ne h3 off44 (m141.grow hG).lt, lies_ap h3 ap hO⟩
  refine eachD_cons (.inr (.inl ⟨by decide, _, rfl, fun x y hT hk hk0 => d_nilCheck (wn rfl) (hk 0 _ rfl rfl) ⟨rfl, rfl⟩⟩)) ?_
  refine eachD_cons (.inr (.inl ⟨by decide, _, rfl, fun x y hT hk hk0 => d_fieldAddr (wn rfl) (hk 8 _ rfl rfl) fo62_3 ⟨rfl, rfl⟩⟩)) ?_
  exact eachD_one
 rintro a157 w158 hA159 ⟨hP161, hW162⟩
 obtain ⟨v163, hv164⟩ : ∃ v', v' = (a157.tmps.getD 78 undef) := ⟨_, rfl⟩
 have hW165 : (fun v' w' => w'.ownsRow Bd 52 15 v' (evs.length + 1) ((evE evs) ++ (#[.int .i64 0, .int .i64 ((path.length : Nat) : Int), .int .i64 p, .int .i64 5, .int .i64 i.loc, .int .i64 (maskR (placeR (B i.off) (B (orR r i.index 0)) i.size) i.size), .bool false, .bool true, .int .i64 0, .int .i64 (I (getR (B (orR r i.a i.imm)) 0 i.size)), .bool i.acq, .bool i.weak, .bool i.rel, .int .i64 i.pred, .int .i64 i.succ] : Array Value).toList) ∧ Below Bd w w' ∧ Blk w' g (walkC p r rd ev pa) 62 ∧ Blk w' g3 (insC ⟨5, i.dst, i.a, i.b, i.imm, i.loc, i.off, i.index, i.size, i.fn, i.acq, i.weak, i.rel, i.pred, i.succ, i.to, i.zero⟩) 23 ∧ Blk w' g36 #[.int .i64 0, .int .i64 ((path.length : Nat) : Int), .int .i64 p, .int .i64 5, .int .i64 i.loc, .int .i64 (maskR (placeR (B i.off) (B (orR r i.index 0)) i.size) i.size), .bool false, .bool true, .int .i64 0, .int .i64 (I (getR (B (orR r i.a i.imm)) 0 i.size)), .bool i.acq, .bool i.weak, .bool i.rel, .int .i64 i.pred, .int .i64 i.succ] 52 ∧ w'.ownsRow Bd 3 1 pa path.length (paE path) ∧ v'.ownBlock ≠ some g ∧ v'.ownBlock ≠ some g3 ∧ v'.ownBlock ≠ some g36 ∧ ∀ k, pa.ownBlock = some k → v'.ownBlock ≠ some k) v163 w158 := by rw [hv164]; exact hW162
 obtain ⟨ho166, b167, m168, m169, m170, ho171, off172, off173, off174, ap175⟩ := hW165
 have ap176 : ∀ k, v163.ownBlock = some k → pa.ownBlock ≠ some k := fun k h1 h2 => ap175 k h2 h1
 have hA177 : St 81 [(4, (.bool false)), (78, v163), (80, (.pointer (some ⟨g, 10, none⟩)))] a157 := hA159.cut _ (fm_cons (hA159.get 4 _ rfl) (fm_cons hv164.symm (fm_cons (hP161 9 _ (Nat.le_of_ble_eq_true rfl) (by decide) rfl) fm_nil)))
 refine d_store (v := v163) (wn rfl) (hA177.ev rfl) (hA177.ev rfl) one44 (one_slice (own_form ho166)) m168 (Nat.le_of_ble_eq_true rfl) ?_
 intro w178 hU179 (m180 : Blk w178 g (walkC p r rd v163 pa) 62)
 have m181 := m169.upd hU179 (Ne.symm n9)
 have m182 := m170.upd hU179 (Ne.symm n42)
 have b183 := hU179.below b167 hge
 have ho184 := own_upd ho166 hU179 off172
 have ho185 := own_upd ho171 hU179 op_
 have hA186 : St 81 [(4, (.bool false))] a157 := hA177.cut _ (fm_cons (hA177.get 4 _ rfl) fm_nil)
 refine t_norm ?_
 refine wp_seq ?_
 refine wp_region_lit ?_
 refine q_step hA186 rfl (d_assign (wn rfl) (hA186.ev rfl) ?_)
 intro a187 hA188
 refine q_end ?_
 have hA189 : St 81 [(4, (.bool true))] a187 := hA188.cut _ (fm_cons (hA188.get 4 _ rfl) fm_nil)
 refine t_norm ?_
 refine wp_ret ?_
 refine ret1 rfl hA189 (v := (.bool true)) rfl ?_
 exact ⟨rfl, b183, rd, v163, pa, m180, hge, (hrd.below b183), (by rw [List.length_append, ← evE_snoc]; exact ho184), ho185, off172, op_, ap175⟩
end Go.Proofs.Ytlhompedcphnnaa
/- A read of the walk. -/
namespace Go.Proofs.Ytlhompedcphnnaa
open Go.RowKit
set_option linter.unusedSimpArgs false
set_option linter.unusedVariables false
set_option maxHeartbeats 4000000 in
set_option maxRecDepth 4000 in
theorem access_4 (Bd g : Nat) (p : Int) (r : Nat → Int) (rd ev pa : Value) (i : Ins) (d : Nat) (u0 : Int) (rl : List Int) (evs : List Ev) (path : List Int) (w : World) (hB : Bd ≤ w.heap.size) (hW : WS Bd g w p r (u0 :: rl) evs path rd ev pa) (hne : evs.length ≤ 1000) (hnp : path.length ≤ 1000) (hr : ∀ k, wfI (r k)) (hix : ronB i.index = true) (hoff : wfI i.off) (hd : d < 8) (hu0 : wfI u0) : Calls Try.prog 48 #[.pointer (some ⟨g, 0, none⟩), .agg (insC ⟨4, ((d : Nat) : Int), i.a, i.b, i.imm, i.loc, i.off, i.index, i.size, i.fn, i.acq, i.weak, i.rel, i.pred, i.succ, i.to, i.zero⟩)] w fun e w' => e = .returned (.bool true) ∧ Below Bd w w' ∧ ∃ rd' ev' pa', WS Bd g w' p (updR r d (I (getR (B u0) 0 i.size))) rl (evs ++ [acc4 i r path.length p u0]) path rd' ev' pa' := by
 obtain ⟨hb, hge, hrd, hev, hpa, oe, op_, ap⟩ := hW
 have ap2 : ∀ k, ev.ownBlock = some k → pa.ownBlock ≠ some k := fun k h1 h2 => ap k h2 h1
 have b0 : Below Bd w w := Below.refl _ _
 refine enter (n := 81) Try.func48 rfl rfl (Nat.le_of_ble_eq_true rfl) ?_
 intro a1 hA2
 refine wp_seq ?_
 refine wp_region_lit ?_
 refine q_step hA2 rfl (d_box (wn rfl) (hA2.ev rfl) ?_)
 intro g3 w4 eg5 hG6 (m7 : Blk w4 g3 (insC ⟨4, ((d : Nat) : Int), i.a, i.b, i.imm, i.loc, i.off, i.index, i.size, i.fn, i.acq, i.weak, i.rel, i.pred, i.succ, i.to, i.zero⟩) 23)
 have ge8 : Bd ≤ g3 := eg5 ▸ (Nat.le_trans hB b0.size)
 have n9 : g ≠ g3 := fun h => Nat.lt_irrefl _ ((h.trans eg5) ▸ hb.lt)
 have off10 := own_new hev eg5
 have off11 := own_new hpa eg5
 have m12 := hb.grow hG6
 have b13 := below_grow b0 hG6 (Nat.le_trans hB b0.size)
 have ho14 := own_grow hG6 hev
 have ho15 := own_grow hG6 hpa
 intro a16 hA17
 refine q_step hA17 rfl (d_assign (wn rfl) (hA17.ev rfl) ?_)
 intro a18 hA19
 refine q_end ?_
 have hA20 : St 81 [(0, (.pointer (some ⟨g, 0, none⟩))), (3, (.pointer (some ⟨g3, 0, none⟩))), (4, (.bool false))] a18 := hA19.cut _ (fm_cons (hA19.get 0 _ rfl) (fm_cons (hA19.get 3 _ rfl) (fm_cons (hA19.get 4 _ rfl) fm_nil)))
 refine t_norm ?_
 refine wp_seq ?_
 refine wp_region_lit ?_
 refine q_step hA20 rfl (d_move (wn rfl) (hA20.ev rfl) ?_)
 intro a21 hA22
 refine q_step hA22 rfl (d_loadRow (cs := (insC ⟨4, ((d : Nat) : Int), i.a, i.b, i.imm, i.loc, i.off, i.index, i.size, i.fn, i.acq, i.weak, i.rel, i.pred, i.succ, i.to, i.zero⟩)) (wn rfl) (hA22.ev rfl) row23 m7 ?_)
 intro a23 hA24
 refine q_step hA24 rfl (d_call (wn rfl) ent49 (map2 (hA24.ev rfl) (hA24.ev rfl)) (event_any g p r rd ev pa (⟨4, ((d : Nat) : Int), i.a, i.b, i.imm, i.loc, i.off, i.index, i.size, i.fn, i.acq, i.weak, i.rel, i.pred, i.succ, i.to, i.zero⟩) path.length Bd (paE path) w4 m12 ho15) ?_)
 rintro e28 w25 ⟨he27, hG26⟩
 have m29 := m12.grow hG26
 have m30 := m7.grow hG26
 have b31 := below_grow b13 hG26 (Nat.le_trans hB b13.size)
 have ho32 := own_grow hG26 ho14
 have ho33 := own_grow hG26 ho15
 refine ⟨(.agg #[.int .i64 0, .int .i64 ((path.length : Nat) : Int), .int .i64 p, .int .i64 4, .int .i64 0, .int .i64 0, .bool true, .bool false, .int .i64 0, .int .i64 0, .bool i.acq, .bool i.weak, .bool i.rel, .int .i64 i.pred, .int .i64 i.succ]), he27, ?_⟩
 intro a34 hA35
 refine q_step hA35 rfl (d_alloc (wn rfl) zero52 ?_)
 intro g36 w37 eg38 hG39 (m40 : Blk w37 g36 #[.int .i64 0, .int .i64 0, .int .i64 0, .int .i64 0, .int .i64 0, .int .i64 0, .bool false, .bool false, .int .i64 0, .int .i64 0, .bool false, .bool false, .bool false, .int .i64 0, .int .i64 0] 52)
 have ge41 : Bd ≤ g36 := eg38 ▸ (Nat.le_trans hB b31.size)
 have n42 : g ≠ g36 := fun h => Nat.lt_irrefl _ ((h.trans eg38) ▸ m29.lt)
 have n43 : g3 ≠ g36 := fun h => Nat.lt_irrefl _ ((h.trans eg38) ▸ m30.lt)
 have off44 := own_new ho32 eg38
 have off45 := own_new ho33 eg38
 have m46 := m29.grow hG39
 have m47 := m30.grow hG39
 have b48 := below_grow b31 hG39 (Nat.le_trans hB b31.size)
 have ho49 := own_grow hG39 ho32
 have ho50 := own_grow hG39 ho33
 intro a51 hA52
 refine q_step hA52 rfl (d_storeRow (wn rfl) (hA52.ev rfl) (hA52.ev rfl) row52 m40 rfl rfl ?_)
 intro w53 hU54 (m55 : Blk w53 g36 #[.int .i64 0, .int .i64 ((path.length : Nat) : Int), .int .i64 p, .int .i64 4, .int .i64 0, .int .i64 0, .bool true, .bool false, .int .i64 0, .int .i64 0, .bool i.acq, .bool i.weak, .bool i.rel, .int .i64 i.pred, .int .i64 i.succ] 52)
 have m56 := m46.upd hU54 n42
 have m57 := m47.upd hU54 n43
 have b58 := hU54.below b48 ge41
 have ho59 := own_upd ho49 hU54 off44
 have ho60 := own_upd ho50 hU54 off45
 intro a61 hA62
 refine q_end ?_
 have hA63 : St 81 [(0, (.pointer (some ⟨g, 0, none⟩))), (3, (.pointer (some ⟨g3, 0, none⟩))), (4, (.bool false)), (5, (.pointer (some ⟨g36, 0, none⟩)))] a61 := hA62.cut _ (fm_cons (hA62.get 0 _ rfl) (fm_cons (hA62.get 3 _ rfl) (fm_cons (hA62.get 4 _ rfl) (fm_cons (hA62.get 5 _ rfl) fm_nil))))
 refine t_norm ?_
 refine wp_seq ?_
 have hA64 : St 81 [(0, (.pointer (some ⟨g, 0, none⟩))), (3, (.pointer (some ⟨g3, 0, none⟩))), (4, (.bool false)), (5, (.pointer (some ⟨g36, 0, none⟩)))] a61 := hA63.cut _ (fm_cons (hA63.get 0 _ rfl) (fm_cons (hA63.get 3 _ rfl) (fm_cons (hA63.get 4 _ rfl) (fm_cons (hA63.get 5 _ rfl) fm_nil))))
 let M65 : Nat → Option (Array Value) := fun _ => none
 have hM65 : M65 = fun _ => none := rfl
 clear_value M65
 have hM66 : M65 g = none := (congrFun hM65 g)
 have hM67 : M65 g3 = none := (congrFun hM65 g3)
 have hM68 : M65 g36 = none := (congrFun hM65 g36)
 have hM65B : ∀ k, k < Bd → M65 k = none := (fun k hk => (congrFun hM65 k))
 refine drawn (S := SM M65) (tabL [cv (.pointer (some ⟨g3, 6, none⟩)), cv (.int .i64 i.off), cv (.pointer (some ⟨g, 0, none⟩)), cv (.pointer (some ⟨g3, 7, none⟩)), cv (.int .i64 i.index), cv (.int .i64 (orR r i.index 0)), cv (.pointer (some ⟨g3, 8, none⟩)), cv (.int .i64 i.size), cv (.int .i64 (placeR (B i.off) (B (orR r i.index 0)) i.size)), cv (.int .i64 (placeR (B i.off) (B (orR r i.index 0)) i.size))]) mixedY SM.refl SM.trans SM.drew hA64 (by kernel_rfl) ?_ ?_
 ·skip
  refine each_cons (fun x y hS hT hk => d_fieldAddr (wn rfl) (hT.ev rfl) fo23_6 ⟨SM.refl _, rfl⟩) ?_
  refine each_cons (fun x y hS hT hk => d_load (v := (.int .i64 i.off)) (wn rfl) (hk 0 rfl) one3 ((Blk.sm (w := w53.drew) m57 hS hM67).cell rfl) ⟨SM.refl _, rfl⟩) ?_
  refine each_cons (fun x y hS hT hk => d_move (wn rfl) (hT.ev rfl) ⟨SM.refl _, rfl⟩) ?_
  refine each_cons (fun x y hS hT hk => d_fieldAddr (wn rfl) (hT.ev rfl) fo23_7 ⟨SM.refl _, rfl⟩) ?_
  refine each_cons (fun x y hS hT hk => d_load (v := (.int .i64 i.index)) (wn rfl) (hk 3 rfl) one3 ((Blk.sm (w := w53.drew) m57 hS hM67).cell rfl) ⟨SM.refl _, rfl⟩) ?_
  refine each_cons (fun x y hS hT hk => d_call (wn rfl) ent47 (map3 (show x.eval _ = (.pointer (some ⟨g, 0, none⟩)) from (hk 2 rfl)) (show x.eval _ = (.int .i64 i.index) from (hk 4 rfl)) (show x.eval _ = (.int .i64 0) from (hT.ev rfl))) (regOr_any g p r rd ev pa i.index 0 y (Blk.sm (w := w53.drew) m56 hS hM66) hix) (fun _ _ ⟨he, hG⟩ => ⟨(.int .i64 (orR r i.index 0)), he, SM.grow hG, rfl⟩)) ?_
  refine each_cons (fun x y hS hT hk => d_fieldAddr (wn rfl) (hT.ev rfl) fo23_8 ⟨SM.refl _, rfl⟩) ?_
  refine each_cons (fun x y hS hT hk => d_load (v := (.int .i64 i.size)) (wn rfl) (hk 6 rfl) one3 ((Blk.sm (w := w53.drew) m57 hS hM67).cell rfl) ⟨SM.refl _, rfl⟩) ?_
  refine each_cons (fun x y hS hT hk => d_call (wn rfl) ent57 (map3 (show x.eval _ = (.int .i64 i.off) from (hk 1 rfl)) (show x.eval _ = (.int .i64 (orR r i.index 0)) from (hk 5 rfl)) (show x.eval _ = (.int .i64 i.size) from (hk 7 rfl))) (place_w i.off (orR r i.index 0) i.size y hoff (wf_or hr wf_0)) (fun _ _ ⟨he, hw⟩ => ⟨(.int .i64 (placeR (B i.off) (B (orR r i.index 0)) i.size)), he, hw ▸ SM.refl _, rfl⟩)) ?_
  refine each_cons (fun x y hS hT hk => d_assign (wn rfl) (hk 8 rfl) ⟨SM.refl _, rfl⟩) ?_
  exact each_nil
 intro f69 a70 w71 hS72 hC73 hA74
 have hA75 : St 81 [(0, (.pointer (some ⟨g, 0, none⟩))), (3, (.pointer (some ⟨g3, 0, none⟩))), (4, (.bool false)), (5, (.pointer (some ⟨g36, 0, none⟩))), (6, (.int .i64 (placeR (B i.off) (B (orR r i.index 0)) i.size)))] a70 := hA74.cut _ (fm_cons (hA74.get 0 _ rfl) (fm_cons (hA74.get 3 _ rfl) (fm_cons (hA74.get 4 _ rfl) (fm_cons (hA74.get 5 _ rfl) (fm_cons ((hA74.get 6 _ rfl).trans (hC73 9 (Nat.le_of_ble_eq_true rfl))) fm_nil)))))
 have m76 := m56.sm hS72 hM66
 have m77 := m57.sm hS72 hM67
 have m78 := m55.sm hS72 hM68
 have b79 := hS72.below b58 (Nat.le_trans hB b58.size) hM65B
 have ho80 := own_sm ho59 hS72 (fun k => congrFun hM65 k)
 have ho81 := own_sm ho60 hS72 (fun k => congrFun hM65 k)
 refine t_norm ?_
 refine wp_seq ?_
 have hA82 : St 81 [(0, (.pointer (some ⟨g, 0, none⟩))), (3, (.pointer (some ⟨g3, 0, none⟩))), (4, (.bool false)), (5, (.pointer (some ⟨g36, 0, none⟩))), (6, (.int .i64 (placeR (B i.off) (B (orR r i.index 0)) i.size)))] a70 := hA75.cut _ (fm_cons (hA75.get 0 _ rfl) (fm_cons (hA75.get 3 _ rfl) (fm_cons (hA75.get 4 _ rfl) (fm_cons (hA75.get 5 _ rfl) (fm_cons (hA75.get 6 _ rfl) fm_nil)))))
 let M83 : Nat → Option (Array Value) := fun _ => none
 have hM83 : M83 = fun _ => none := rfl
 clear_value M83
 have hM83A : ∀ k, M83 k = none := fun k => congrFun hM83 k
 have hM83B : ∀ k, k < Bd → M83 k = none := fun k _ => hM83A k
 refine drawnL (S := SM M83) rfl (tabL [cv (.pointer (some ⟨g3, 5, none⟩)), cv (.int .i64 i.loc), cv (.int .i64 (placeR (B i.off) (B (orR r i.index 0)) i.size)), cv (.pointer (some ⟨g3, 8, none⟩)), cv (.int .i64 i.size), cv (.int .i64 (maskR (placeR (B i.off) (B (orR r i.index 0)) i.size) i.size)), cv (.agg #[.int .i64 i.loc, .int .i64 (maskR (placeR (B i.off) (B (orR r i.index 0)) i.size) i.size)]), cv (.pointer (some ⟨g36, 4, none⟩))]) none (fun _ => none) (fun _ _ => True) [7, 6, 5, 0, 1, 2, 3, 4] [] mixedY SM.refl SM.trans hA82 (by kernel_rfl) (by kernel_rfl) (fun i v u w h => by cases h) ?_ ?_
 ·skip
  refine eachD_cons (.inl ⟨nofun, rfl, fun x y hS hT hk => d_fieldAddr (wn rfl) (hT.ev rfl) fo23_5 ⟨SM.refl _, rfl⟩⟩) ?_
  refine eachD_cons (.inl ⟨nofun, rfl, fun x y hS hT hk => d_load (v := (.int .i64 i.loc)) (wn rfl) (hk 0 rfl) one3 ((Blk.sm (w := w71.drew) m77 hS (hM83A _)).cell rfl) ⟨SM.refl _, rfl⟩⟩) ?_
  refine eachD_cons (.inl ⟨nofun, rfl, fun x y hS hT hk => d_move (wn rfl) (hT.ev rfl) ⟨SM.refl _, rfl⟩⟩) ?_
  refine eachD_cons (.inl ⟨nofun, rfl, fun x y hS hT hk => d_fieldAddr (wn rfl) (hT.ev rfl) fo23_8 ⟨SM.refl _, rfl⟩⟩) ?_
  refine eachD_cons (.inl ⟨nofun, rfl, fun x y hS hT hk => d_load (v := (.int .i64 i.size)) (wn rfl) (hk 3 rfl) one3 ((Blk.sm (w := w71.drew) m77 hS (hM83A _)).cell rfl) ⟨SM.refl _, rfl⟩⟩) ?_
  refine eachD_cons (.inl ⟨nofun, rfl, fun x y hS hT hk => d_call (wn rfl) ent55 (map2 (show x.eval _ = (.int .i64 (placeR (B i.off) (B (orR r i.index 0)) i.size)) from (hk 2 rfl)) (show x.eval _ = (.int .i64 i.size) from (hk 4 rfl))) (mask_all (placeR (B i.off) (B (orR r i.index 0)) i.size) i.size y) (fun _ _ ⟨he, hw⟩ => ⟨(.int .i64 (maskR (placeR (B i.off) (B (orR r i.index 0)) i.size) i.size)), he, hw ▸ SM.refl _, rfl⟩)⟩) ?_
  refine eachD_cons (.inl ⟨nofun, rfl, fun x y hS hT hk => d_build (cs := #[.int .i64 i.loc, .int .i64 (maskR (placeR (B i.off) (B (orR r i.index 0)) i.size) i.size)]) (wn rfl) (bp_of (bq_cons (show x.eval _ = (.int .i64 i.loc) from (hk 1 rfl)) (bq_cons (show x.eval _ = (.int .i64 (maskR (placeR (B i.off) (B (orR r i.index 0)) i.size) i.size)) from (hk 5 rfl)) bq_nil))) zero50 places50 (by kernel_rfl) ⟨SM.refl _, rfl⟩⟩) ?_
  refine eachD_cons (.inl ⟨nofun, rfl, fun x y hS hT hk => d_fieldAddr (wn rfl) (hT.ev rfl) fo52_4 ⟨SM.refl _, rfl⟩⟩) ?_
  exact eachD_one
 rintro a84 w85 hA86 ⟨hS88, hC89⟩
 have hA90 : St 81 [(0, (.pointer (some ⟨g, 0, none⟩))), (3, (.pointer (some ⟨g3, 0, none⟩))), (4, (.bool false)), (5, (.pointer (some ⟨g36, 0, none⟩))), (25, (.agg #[.int .i64 i.loc, .int .i64 (maskR (placeR (B i.off) (B (orR r i.index 0)) i.size) i.size)])), (26, (.pointer (some ⟨g36, 4, none⟩)))] a84 := hA86.cut _ (fm_cons (hA86.get 0 _ rfl) (fm_cons (hA86.get 3 _ rfl) (fm_cons (hA86.get 4 _ rfl) (fm_cons (hA86.get 5 _ rfl) (fm_cons (hC89 6 (Nat.le_of_ble_eq_true rfl)) (fm_cons (hC89 7 (Nat.le_of_ble_eq_true rfl)) fm_nil))))))
 have hG91 : Grow w71 w85 := Grow.trans ((Grow.refl _).drew) (SM.grown (by rw [hM83] at hS88; exact hS88))
 have m92 := m76.grow hG91
 have m93 := m77.grow hG91
 have m94 := m78.grow hG91
 have b95 := below_grow b79 hG91 (Nat.le_trans hB b79.size)
 have ho96 := own_grow hG91 ho80
 have ho97 := own_grow hG91 ho81
 refine d_store2 (wn rfl) (hA90.ev rfl) (hA90.ev rfl) row50 rfl rfl m94 (Nat.le_of_ble_eq_true rfl) ?_
 intro w98 hU99 (m100 : Blk w98 g36 #[.int .i64 0, .int .i64 ((path.length : Nat) : Int), .int .i64 p, .int .i64 4, .int .i64 i.loc, .int .i64 (maskR (placeR (B i.off) (B (orR r i.index 0)) i.size) i.size), .bool true, .bool false, .int .i64 0, .int .i64 0, .bool i.acq, .bool i.weak, .bool i.rel, .int .i64 i.pred, .int .i64 i.succ] 52)
 have m101 := m92.upd hU99 n42
 have m102 := m93.upd hU99 n43
 have b103 := hU99.below b95 ge41
 have ho104 := own_upd ho96 hU99 off44
 have ho105 := own_upd ho97 hU99 off45
 have hA106 : St 81 [(0, (.pointer (some ⟨g, 0, none⟩))), (3, (.pointer (some ⟨g3, 0, none⟩))), (4, (.bool false)), (5, (.pointer (some ⟨g36, 0, none⟩)))] a84 := hA90.cut _ (fm_cons (hA90.get 0 _ rfl) (fm_cons (hA90.get 3 _ rfl) (fm_cons (hA90.get 4 _ rfl) (fm_cons (hA90.get 5 _ rfl) fm_nil))))
 refine t_norm ?_
 refine wp_seq ?_
 refine wp_seq ?_
 refine wp_region_lit ?_
 refine q_step hA106 rfl (d_fieldAddr (wn rfl) (hA106.ev rfl) fo52_5 ?_)
 intro a107 hA108
 refine q_step hA108 rfl (d_load (v := (.bool true)) (wn rfl) (hA108.ev rfl) one4 (m100.cell rfl) ?_)
 intro a109 hA110
 refine q_end ?_
 have hA111 : St 81 [(0, (.pointer (some ⟨g, 0, none⟩))), (3, (.pointer (some ⟨g3, 0, none⟩))), (4, (.bool false)), (5, (.pointer (some ⟨g36, 0, none⟩))), (28, (.bool true))] a109 := hA110.cut _ (fm_cons (hA110.get 0 _ rfl) (fm_cons (hA110.get 3 _ rfl) (fm_cons (hA110.get 4 _ rfl) (fm_cons (hA110.get 5 _ rfl) (fm_cons (hA110.get 28 _ rfl) fm_nil)))))
 refine t_norm ?_
 refine c_true hA111 rfl ?_
 refine wp_seq ?_
 refine wp_seq ?_
 refine wp_region_lit ?_
 refine q_step hA111 rfl (d_move (wn rfl) (hA111.ev rfl) ?_)
 intro a112 hA113
 refine q_step hA113 rfl (d_nilCheck (wn rfl) (hA113.ev rfl) ?_)
 intro a114 hA115
 refine q_step hA115 rfl (d_fieldAddr (wn rfl) (hA115.ev rfl) fo62_2 ?_)
 intro a116 hA117
 refine q_step hA117 rfl (d_load (v := rd) (wn rfl) (hA117.ev rfl) one30 (m101.cell rfl) ?_)
 intro a118 hA119
 refine q_step hA119 rfl (d_len (n := rl.length + 1) (wn rfl) (hA119.ev rfl) slc30 hrd.form ?_)
 intro a120 hA121
 refine q_step hA121 rfl (d_bin (wn rfl) (hA121.ev rfl) (hA121.ev rfl) (b_eq _ _ ((rl.length + 1 : Nat) : Int) 0 false _ (beq_eq_false_iff_ne.2 (by omega))) ?_)
 intro a122 hA123
 refine q_end ?_
 have hA124 : St 81 [(0, (.pointer (some ⟨g, 0, none⟩))), (3, (.pointer (some ⟨g3, 0, none⟩))), (4, (.bool false)), (5, (.pointer (some ⟨g36, 0, none⟩))), (34, (.bool false))] a122 := hA123.cut _ (fm_cons (hA123.get 0 _ rfl) (fm_cons (hA123.get 3 _ rfl) (fm_cons (hA123.get 4 _ rfl) (fm_cons (hA123.get 5 _ rfl) (fm_cons (hA123.get 34 _ rfl) fm_nil)))))
 refine t_norm ?_
 refine c_false hA124 rfl ?_
 refine wp_skip ?_
 refine t_norm ?_
 refine wp_seq ?_
 obtain ⟨b125, o126, lt127, hr128, hix129⟩ := (hrd.below b103).at (show (u0 :: rl)[0]? = some u0 from rfl)
 have hA130 : St 81 [(0, (.pointer (some ⟨g, 0, none⟩))), (3, (.pointer (some ⟨g3, 0, none⟩))), (4, (.bool false)), (5, (.pointer (some ⟨g36, 0, none⟩)))] a122 := hA124.cut _ (fm_cons (hA124.get 0 _ rfl) (fm_cons (hA124.get 3 _ rfl) (fm_cons (hA124.get 4 _ rfl) (fm_cons (hA124.get 5 _ rfl) fm_nil))))
 let M131 : Nat → Option (Array Value) := fun _ => none
 have hM131 : M131 = fun _ => none := rfl
 clear_value M131
 have hM131A : ∀ k, M131 k = none := fun k => congrFun hM131 k
 have hM131B : ∀ k, k < Bd → M131 k = none := fun k _ => hM131A k
 refine drawnL (S := SM M131) rfl (tabL [cv (.pointer (some ⟨g, 0, none⟩)), cv (.pointer (some ⟨g, 0, none⟩)), cv (.pointer (some ⟨g, 9, none⟩)), cv rd, cv (.pointer (some ⟨b125, o126, none⟩)), cv (.int .i64 u0), cv (.pointer (some ⟨g3, 8, none⟩)), cv (.int .i64 i.size), cv (.int .i64 (I (getR (B u0) 0 i.size))), cv (.pointer (some ⟨g36, 8, none⟩))]) none (fun _ => none) (fun _ _ => True) [9, 8, 0, 1, 2, 3, 4, 5, 6, 7] [] mixedY SM.refl SM.trans hA130 (by kernel_rfl) (by kernel_rfl) (fun i v u w h => by cases h) ?_ ?_
 ·skip
  refine eachD_cons (.inl ⟨nofun, rfl, fun x y hS hT hk => d_move (wn rfl) (hT.ev rfl) ⟨SM.refl _, rfl⟩⟩) ?_
  refine eachD_cons (.inl ⟨nofun, rfl, fun x y hS hT hk => d_nilCheck (wn rfl) (hk 0 rfl) ⟨SM.refl _, rfl⟩⟩) ?_
  refine eachD_cons (.inl ⟨nofun, rfl, fun x y hS hT hk => d_fieldAddr (wn rfl) (hk 1 rfl) fo62_2 ⟨SM.refl _, rfl⟩⟩) ?_
  refine eachD_cons (.inl ⟨nofun, rfl, fun x y hS hT hk => d_load (v := rd) (wn rfl) (hk 2 rfl) one30 ((Blk.sm (w := w98.drew) m101 hS (hM131A _)).cell rfl) ⟨SM.refl _, rfl⟩⟩) ?_
  refine eachD_cons (.inl ⟨nofun, rfl, fun x y hS hT hk => d_indexAt (j := 0) (wn rfl) (hk 3 rfl) (hT.ev rfl) slc30 hix129 (get_lt (show (u0 :: rl)[0]? = some u0 from rfl)) ⟨SM.refl _, rfl⟩⟩) ?_
  refine eachD_cons (.inl ⟨nofun, rfl, fun x y hS hT hk => d_load (v := (.int .i64 u0)) (wn rfl) (hk 4 rfl) one3 ((range_sm (w := w98.drew) hr128 hS (Nat.lt_of_lt_of_le lt127 (Nat.le_trans hB b103.size)) (hM131B _ lt127)) 0 _ rfl) ⟨SM.refl _, rfl⟩⟩) ?_
  refine eachD_cons (.inl ⟨nofun, rfl, fun x y hS hT hk => d_fieldAddr (wn rfl) (hT.ev rfl) fo23_8 ⟨SM.refl _, rfl⟩⟩) ?_
  refine eachD_cons (.inl ⟨nofun, rfl, fun x y hS hT hk => d_load (v := (.int .i64 i.size)) (wn rfl) (hk 6 rfl) one3 ((Blk.sm (w := w98.drew) m102 hS (hM131A _)).cell rfl) ⟨SM.refl _, rfl⟩⟩) ?_
  refine eachD_cons (.inl ⟨nofun, rfl, fun x y hS hT hk => d_call (wn rfl) ent58 (map3 (show x.eval _ = (.int .i64 u0) from (hk 5 rfl)) (show x.eval _ = (.int .i64 0) from (hT.ev rfl)) (show x.eval _ = (.int .i64 i.size) from (hk 7 rfl))) (get_w u0 0 i.size y hu0) (fun _ _ ⟨he, q, hw⟩ => ⟨(.int .i64 (I (getR (B u0) 0 i.size))), he, hw ▸ SM.grow ((Grow.refl _).drewN q), rfl⟩)⟩) ?_
  refine eachD_cons (.inl ⟨nofun, rfl, fun x y hS hT hk => d_fieldAddr (wn rfl) (hT.ev rfl) fo52_7 ⟨SM.refl _, rfl⟩⟩) ?_
  exact eachD_one
 rintro a132 w133 hA134 ⟨hS136, hC137⟩
 have hA138 : St 81 [(0, (.pointer (some ⟨g, 0, none⟩))), (3, (.pointer (some ⟨g3, 0, none⟩))), (4, (.bool false)), (5, (.pointer (some ⟨g36, 0, none⟩))), (43, (.int .i64 (I (getR (B u0) 0 i.size)))), (44, (.pointer (some ⟨g36, 8, none⟩)))] a132 := hA134.cut _ (fm_cons (hA134.get 0 _ rfl) (fm_cons (hA134.get 3 _ rfl) (fm_cons (hA134.get 4 _ rfl) (fm_cons (hA134.get 5 _ rfl) (fm_cons (hC137 8 (Nat.le_of_ble_eq_true rfl)) (fm_cons (hC137 9 (Nat.le_of_ble_eq_true rfl)) fm_nil))))))
 have hG139 : Grow w98 w133 := Grow.trans ((Grow.refl _).drew) (SM.grown (by rw [hM131] at hS136; exact hS136))
 have m140 := m101.grow hG139
 have m141 := m102.grow hG139
 have m142 := m100.grow hG139
 have hr143 := range_below hr128 hG139 (Nat.lt_of_lt_of_le lt127 (Nat.le_trans hB b103.size))
 have b144 := below_grow b103 hG139 (Nat.le_trans hB b103.size)
 have ho145 := own_grow hG139 ho104
 have ho146 := own_grow hG139 ho105
 refine d_store (wn rfl) (hA138.ev rfl) (hA138.ev rfl) one3 rfl m142 (Nat.le_of_ble_eq_true rfl) ?_
 intro w147 hU148 (m149 : Blk w147 g36 #[.int .i64 0, .int .i64 ((path.length : Nat) : Int), .int .i64 p, .int .i64 4, .int .i64 i.loc, .int .i64 (maskR (placeR (B i.off) (B (orR r i.index 0)) i.size) i.size), .bool true, .bool false, .int .i64 (I (getR (B u0) 0 i.size)), .int .i64 0, .bool i.acq, .bool i.weak, .bool i.rel, .int .i64 i.pred, .int .i64 i.succ] 52)
 have m150 := m140.upd hU148 n42
 have m151 := m141.upd hU148 n43
 have hr152 := range_upd hr143 hU148 (Nat.ne_of_lt (Nat.lt_of_lt_of_le lt127 ge41))
 have b153 := hU148.below b144 ge41
 have ho154 := own_upd ho145 hU148 off44
 have ho155 := own_upd ho146 hU148 off45
 have hA156 : St 81 [(0, (.pointer (some ⟨g, 0, none⟩))), (3, (.pointer (some ⟨g3, 0, none⟩))), (4, (.bool false)), (5, (.pointer (some ⟨g36, 0, none⟩)))] a132 := hA138.cut _ (fm_cons (hA138.get 0 _ rfl) (fm_cons (hA138.get 3 _ rfl) (fm_cons (hA138.get 4 _ rfl) (fm_cons (hA138.get 5 _ rfl) fm_nil))))
 refine t_norm ?_
 refine wp_region_lit ?_
 refine q_step hA156 rfl (d_move (wn rfl) (hA156.ev rfl) ?_)
 intro a157 hA158
 refine q_step hA158 rfl (d_move (wn rfl) (hA158.ev rfl) ?_)
 intro a159 hA160
 refine q_step hA160 rfl (d_nilCheck (wn rfl) (hA160.ev rfl) ?_)
 intro a161 hA162
 refine q_step hA162 rfl (d_fieldAddr (wn rfl) (hA162.ev rfl) fo62_2 ?_)
 intro a163 hA164
 refine q_step hA164 rfl (d_load (v := rd) (wn rfl) (hA164.ev rfl) one30 (m150.cell rfl) ?_)
 intro a165 hA166
 refine q_step hA166 rfl (d_tail (wn rfl) (hA166.ev rfl) slc30 (hrd.below b153) ?_)
 intro v167 ht168
 have hsl169 := ht168 _ hrd
 intro a170 hA171
 refine q_step hA171 rfl (d_nilCheck (wn rfl) (hA171.ev rfl) ?_)
 intro a172 hA173
 refine q_step hA173 rfl (d_fieldAddr (wn rfl) (hA173.ev rfl) fo62_2 ?_)
 intro a174 hA175
 refine q_step hA175 rfl (d_store (v := v167) (wn rfl) (hA175.ev rfl) (hA175.ev rfl) one30 (one_slice hsl169.form) m150 (Nat.le_of_ble_eq_true rfl) ?_)
 intro w176 hU177 (m178 : Blk w176 g (walkC p r v167 ev pa) 62)
 have m179 := m151.upd hU177 (Ne.symm n9)
 have m180 := m149.upd hU177 (Ne.symm n42)
 have b181 := hU177.below b153 hge
 have ho182 := own_upd ho154 hU177 oe
 have ho183 := own_upd ho155 hU177 op_
 intro a184 hA185
 refine q_end ?_
 have hA186 : St 81 [(0, (.pointer (some ⟨g, 0, none⟩))), (3, (.pointer (some ⟨g3, 0, none⟩))), (4, (.bool false)), (5, (.pointer (some ⟨g36, 0, none⟩)))] a184 := hA185.cut _ (fm_cons (hA185.get 0 _ rfl) (fm_cons (hA185.get 3 _ rfl) (fm_cons (hA185.get 4 _ rfl) (fm_cons (hA185.get 5 _ rfl) fm_nil))))
 refine t_norm ?_
 refine wp_seq ?_
 refine wp_seq ?_
 refine wp_region_lit ?_
 refine q_step hA186 rfl (d_fieldAddr (wn rfl) (hA186.ev rfl) fo52_6 ?_)
 intro a187 hA188
 refine q_step hA188 rfl (d_load (v := (.bool false)) (wn rfl) (hA188.ev rfl) one4 (m180.cell rfl) ?_)
 intro a189 hA190
 refine q_end ?_
 have hA191 : St 81 [(0, (.pointer (some ⟨g, 0, none⟩))), (3, (.pointer (some ⟨g3, 0, none⟩))), (4, (.bool false)), (5, (.pointer (some ⟨g36, 0, none⟩))), (54, (.bool false))] a189 := hA190.cut _ (fm_cons (hA190.get 0 _ rfl) (fm_cons (hA190.get 3 _ rfl) (fm_cons (hA190.get 4 _ rfl) (fm_cons (hA190.get 5 _ rfl) (fm_cons (hA190.get 54 _ rfl) fm_nil)))))
 refine t_norm ?_
 refine c_false hA191 rfl ?_
 refine wp_skip ?_
 refine t_norm ?_
 refine wp_seq ?_
 refine wp_seq ?_
 refine wp_region_lit ?_
 refine q_step hA191 rfl (d_fieldAddr (wn rfl) (hA191.ev rfl) fo52_5 ?_)
 intro a192 hA193
 refine q_step hA193 rfl (d_load (v := (.bool true)) (wn rfl) (hA193.ev rfl) one4 (m180.cell rfl) ?_)
 intro a194 hA195
 refine q_end ?_
 have hA196 : St 81 [(0, (.pointer (some ⟨g, 0, none⟩))), (3, (.pointer (some ⟨g3, 0, none⟩))), (4, (.bool false)), (5, (.pointer (some ⟨g36, 0, none⟩))), (62, (.bool true))] a194 := hA195.cut _ (fm_cons (hA195.get 0 _ rfl) (fm_cons (hA195.get 3 _ rfl) (fm_cons (hA195.get 4 _ rfl) (fm_cons (hA195.get 5 _ rfl) (fm_cons (hA195.get 62 _ rfl) fm_nil)))))
 refine t_norm ?_
 refine c_true hA196 rfl ?_
 have hA197 : St 81 [(0, (.pointer (some ⟨g, 0, none⟩))), (3, (.pointer (some ⟨g3, 0, none⟩))), (4, (.bool false)), (5, (.pointer (some ⟨g36, 0, none⟩)))] a194 := hA196.cut _ (fm_cons (hA196.get 0 _ rfl) (fm_cons (hA196.get 3 _ rfl) (fm_cons (hA196.get 4 _ rfl) (fm_cons (hA196.get 5 _ rfl) fm_nil))))
 let M198 : Nat → Option (Array Value) := fun _ => none
 have hM198 : M198 = fun _ => none := rfl
 clear_value M198
 have hM198A : ∀ k, M198 k = none := fun k => congrFun hM198 k
 have hM198B : ∀ k, k < Bd → M198 k = none := fun k _ => hM198A k
 refine drawnL (S := SM M198) rfl (tabL [cv (.pointer (some ⟨g, 0, none⟩)), cv (.pointer (some ⟨g3, 1, none⟩)), cv (.int .i64 ((d : Nat) : Int)), cv (.pointer (some ⟨g36, 8, none⟩)), cv (.int .i64 (I (getR (B u0) 0 i.size))), cv (.pointer (some ⟨g, 0, none⟩)), cv (.pointer (some ⟨g, 1, none⟩)), cv (.pointer (some ⟨g, 1 + d, none⟩))]) none (fun _ => none) (fun _ _ => True) [7, 4, 0, 1, 2, 3, 6, 5] [] mixedY SM.refl SM.trans hA197 (by kernel_rfl) (by kernel_rfl) (fun i v u w h => by cases h) ?_ ?_
 ·skip
  refine eachD_cons (.inl ⟨nofun, rfl, fun x y hS hT hk => d_move (wn rfl) (hT.ev rfl) ⟨SM.refl _, rfl⟩⟩) ?_
  refine eachD_cons (.inl ⟨nofun, rfl, fun x y hS hT hk => d_fieldAddr (wn rfl) (hT.ev rfl) fo23_1 ⟨SM.refl _, rfl⟩⟩) ?_
  refine eachD_cons (.inl ⟨nofun, rfl, fun x y hS hT hk => d_load (v := (.int .i64 ((d : Nat) : Int))) (wn rfl) (hk 1 rfl) one3 ((Blk.sm (w := w176.drew) m179 hS (hM198A _)).cell rfl) ⟨SM.refl _, rfl⟩⟩) ?_
  refine eachD_cons (.inl ⟨nofun, rfl, fun x y hS hT hk => d_fieldAddr (wn rfl) (hT.ev rfl) fo52_7 ⟨SM.refl _, rfl⟩⟩) ?_
  refine eachD_cons (.inl ⟨nofun, rfl, fun x y hS hT hk => d_load (v := (.int .i64 (I (getR (B u0) 0 i.size)))) (wn rfl) (hk 3 rfl) one3 ((Blk.sm (w := w176.drew) m180 hS (hM198A _)).cell rfl) ⟨SM.refl _, rfl⟩⟩) ?_
  refine eachD_cons (.inl ⟨nofun, rfl, fun x y hS hT hk => d_nilCheck (wn rfl) (hk 0 rfl) ⟨SM.refl _, rfl⟩⟩) ?_
  refine eachD_cons (.inl ⟨nofun, rfl, fun x y hS hT hk => d_fieldAddr (wn rfl) (hk 5 rfl) fo62_1 ⟨SM.refl _, rfl⟩⟩) ?_
  refine eachD_cons (.inl ⟨nofun, rfl, fun x y hS hT hk => d_indexArrP (j := d) (p := 1 + d) (wn rfl) (hk 6 rfl) (hk 2 rfl) arr43 (by omega) (by omega) ⟨SM.refl _, rfl⟩⟩) ?_
  exact eachD_one
 rintro a199 w200 hA201 ⟨hS203, hC204⟩
 have hA205 : St 81 [(0, (.pointer (some ⟨g, 0, none⟩))), (4, (.bool false)), (5, (.pointer (some ⟨g36, 0, none⟩))), (67, (.int .i64 (I (getR (B u0) 0 i.size)))), (70, (.pointer (some ⟨g, 1 + d, none⟩)))] a199 := hA201.cut _ (fm_cons (hA201.get 0 _ rfl) (fm_cons (hA201.get 4 _ rfl) (fm_cons (hA201.get 5 _ rfl) (fm_cons (hC204 4 (Nat.le_of_ble_eq_true rfl)) (fm_cons (hC204 7 (Nat.le_of_ble_eq_true rfl)) fm_nil)))))
 have hG206 : Grow w176 w200 := Grow.trans ((Grow.refl _).drew) (SM.grown (by rw [hM198] at hS203; exact hS203))
 have m207 := m178.grow hG206
 have m208 := m179.grow hG206
 have m209 := m180.grow hG206
 have b210 := below_grow b181 hG206 (Nat.le_trans hB b181.size)
 have ho211 := own_grow hG206 ho182
 have ho212 := own_grow hG206 ho183
 refine d_store (v := (.int .i64 (I (getR (B u0) 0 i.size)))) (wn rfl) (hA205.ev rfl) (hA205.ev rfl) one3 rfl m207 (by rw [walk_size]; omega) ?_
 intro w213 hU214 m215
 rw [walk_set (by omega)] at m215
 have m216 := m208.upd hU214 (Ne.symm n9)
 have m217 := m209.upd hU214 (Ne.symm n42)
 have b218 := hU214.below b210 hge
 have ho219 := own_upd ho211 hU214 oe
 have ho220 := own_upd ho212 hU214 op_
 have hA221 : St 81 [(0, (.pointer (some ⟨g, 0, none⟩))), (4, (.bool false)), (5, (.pointer (some ⟨g36, 0, none⟩)))] a199 := hA205.cut _ (fm_cons (hA205.get 0 _ rfl) (fm_cons (hA205.get 4 _ rfl) (fm_cons (hA205.get 5 _ rfl) fm_nil)))
 refine t_norm ?_
 refine wp_seq ?_
 have hA222 : St 81 [(0, (.pointer (some ⟨g, 0, none⟩))), (4, (.bool false)), (5, (.pointer (some ⟨g36, 0, none⟩)))] a199 := hA221.cut _ (fm_cons (hA221.get 0 _ rfl) (fm_cons (hA221.get 4 _ rfl) (fm_cons (hA221.get 5 _ rfl) fm_nil)))
 let M223 : Nat → Option (Array Value) := fun _ => none
 have hM223 : M223 = fun _ => none := rfl
 clear_value M223
 have hM223A : ∀ k, M223 k = none := fun k => congrFun hM223 k
 have hM223B : ∀ k, k < Bd → M223 k = none := fun k _ => hM223A k
 refine drawnL (S := SM M223) rfl (tabQ [some (.pointer (some ⟨g, 0, none⟩)), some (.pointer (some ⟨g, 0, none⟩)), some (.pointer (some ⟨g, 0, none⟩)), some (.pointer (some ⟨g, 10, none⟩)), none, none, none, none, some (.pointer (some ⟨g, 0, none⟩)), some (.pointer (some ⟨g, 10, none⟩))] [cv (.pointer (some ⟨g, 0, none⟩)), cv (.pointer (some ⟨g, 0, none⟩)), cv (.pointer (some ⟨g, 0, none⟩)), cv (.pointer (some ⟨g, 10, none⟩)), cv ev, cv (.agg #[.int .i64 0, .int .i64 ((path.length : Nat) : Int), .int .i64 p, .int .i64 4, .int .i64 i.loc, .int .i64 (maskR (placeR (B i.off) (B (orR r i.index 0)) i.size) i.size), .bool true, .bool false, .int .i64 (I (getR (B u0) 0 i.size)), .int .i64 0, .bool i.acq, .bool i.weak, .bool i.rel, .int .i64 i.pred, .int .i64 i.succ]), cs1 M223 hM223A #[.int .i64 0, .int .i64 ((path.length : Nat) : Int), .int .i64 p, .int .i64 4, .int .i64 i.loc, .int .i64 (maskR (placeR (B i.off) (B (orR r i.index 0)) i.size) i.size), .bool true, .bool false, .int .i64 (I (getR (B u0) 0 i.size)), .int .i64 0, .bool i.acq, .bool i.weak, .bool i.rel, .int .i64 i.pred, .int .i64 i.succ] 52, cfree, cv (.pointer (some ⟨g, 0, none⟩)), cv (.pointer (some ⟨g, 10, none⟩))]) (some 7) (fun i => (([some (.pointer (some ⟨g, 0, none⟩)), some (.pointer (some ⟨g, 0, none⟩)), some (.pointer (some ⟨g, 0, none⟩)), some (.pointer (some ⟨g, 10, none⟩)), none, none, none, none, some (.pointer (some ⟨g, 0, none⟩)), some (.pointer (some ⟨g, 10, none⟩))] : List (Option Value))[i]?).getD none) (fun v' w' => w'.ownsRow Bd 52 15 v' (evs.length + 1) ((evE evs) ++ (#[.int .i64 0, .int .i64 ((path.length : Nat) : Int), .int .i64 p, .int .i64 4, .int .i64 i.loc, .int .i64 (maskR (placeR (B i.off) (B (orR r i.index 0)) i.size) i.size), .bool true, .bool false, .int .i64 (I (getR (B u0) 0 i.size)), .int .i64 0, .bool i.acq, .bool i.weak, .bool i.rel, .int .i64 i.pred, .int .i64 i.succ] : Array Value).toList) ∧ Below Bd w w' ∧ Blk w' g (walkC p (updR r d (I (getR (B u0) 0 i.size))) v167 ev pa) 62 ∧ Blk w' g3 (insC ⟨4, ((d : Nat) : Int), i.a, i.b, i.imm, i.loc, i.off, i.index, i.size, i.fn, i.acq, i.weak, i.rel, i.pred, i.succ, i.to, i.zero⟩) 23 ∧ Blk w' g36 #[.int .i64 0, .int .i64 ((path.length : Nat) : Int), .int .i64 p, .int .i64 4, .int .i64 i.loc, .int .i64 (maskR (placeR (B i.off) (B (orR r i.index 0)) i.size) i.size), .bool true, .bool false, .int .i64 (I (getR (B u0) 0 i.size)), .int .i64 0, .bool i.acq, .bool i.weak, .bool i.rel, .int .i64 i.pred, .int .i64 i.succ] 52 ∧ w'.ownsRow Bd 3 1 pa path.length (paE path) ∧ v'.ownBlock ≠ some g ∧ v'.ownBlock ≠ some g3 ∧ v'.ownBlock ≠ some g36 ∧ ∀ k, pa.ownBlock = some k → v'.ownBlock ≠ some k) [9, 7, 0, 1, 2, 3, 4, 5, 6, 8] [4, 6, 3, 5, 2, 1] mixedY SM.refl SM.trans hA222 (by kernel_rfl) (by kernel_rfl) (tabQ_cv _ _) ?_ ?_
 ·skip
  refine eachD_cons (.inr (.inl ⟨by decide, _, rfl, fun x y hT hk hk0 => d_move (wn rfl) (hT.ev rfl) ⟨rfl, rfl⟩⟩)) ?_
  refine eachD_cons (.inr (.inl ⟨by decide, _, rfl, fun x y hT hk hk0 => d_move (wn rfl) (hT.ev rfl) ⟨rfl, rfl⟩⟩)) ?_
  refine eachD_cons (.inr (.inl ⟨by decide, _, rfl, fun x y hT hk hk0 => d_nilCheck (wn rfl) (hk 1 _ rfl rfl) ⟨rfl, rfl⟩⟩)) ?_
  refine eachD_cons (.inr (.inl ⟨by decide, _, rfl, fun x y hT hk hk0 => d_fieldAddr (wn rfl) (hk 2 _ rfl rfl) fo62_3 ⟨rfl, rfl⟩⟩)) ?_
  refine eachD_cons (.inl ⟨by decide, rfl, fun x y hS hT hk => d_load (v := ev) (wn rfl) (hk 3 rfl) one44 ((Blk.sm (w := w213.drew) m215 hS (hM223A _)).cell rfl) ⟨SM.refl _, rfl⟩⟩) ?_
  refine eachD_cons (.inl ⟨by decide, rfl, fun x y hS hT hk => d_loadRow (cs := #[.int .i64 0, .int .i64 ((path.length : Nat) : Int), .int .i64 p, .int .i64 4, .int .i64 i.loc, .int .i64 (maskR (placeR (B i.off) (B (orR r i.index 0)) i.size) i.size), .bool true, .bool false, .int .i64 (I (getR (B u0) 0 i.size)), .int .i64 0, .bool i.acq, .bool i.weak, .bool i.rel, .int .i64 i.pred, .int .i64 i.succ]) (wn rfl) (hT.ev rfl) row52 (Blk.sm (w := w213.drew) m217 hS (hM223A _)) ⟨SM.refl _, rfl⟩⟩) ?_
  refine eachD_cons (.inl ⟨by decide, rfl, fun x y hS hT hk => d_slice1 (wn rfl) (show x.eval _ = (.agg #[.int .i64 0, .int .i64 ((path.length : Nat) : Int), .int .i64 p, .int .i64 4, .int .i64 i.loc, .int .i64 (maskR (placeR (B i.off) (B (orR r i.index 0)) i.size) i.size), .bool true, .bool false, .int .i64 (I (getR (B u0) 0 i.size)), .int .i64 0, .bool i.acq, .bool i.weak, .bool i.rel, .int .i64 i.pred, .int .i64 i.succ]) from (hk 5 rfl)) elm44 rfl (by decide) (fun g w' _ hG hb => ⟨SM.grow hG, g, rfl, hb⟩)⟩) ?_
  refine eachD_cons (.inr (.inr ⟨rfl, fun x y hS hT hk => ?_⟩)) ?_
  ·skip
   obtain ⟨gb, hvb, hbb⟩ := hk 6 rfl
   have hG : Grow w213 y := Grow.trans ((Grow.refl _).drew) (SM.grown (by rw [hM223] at hS; exact hS))
   have hR := own_grow hG ho219
   have hO := own_grow hG ho220
   have hBl := below_grow b218 hG (Nat.le_trans hB b218.size)
   refine d_append (wn rfl) (show x.eval _ = ev from (hk 4 rfl)) hvb elm44 hR hbb rfl rfl (by omega) (by decide) (Nat.le_trans hB hBl.size) ?_
   intro v' w' h1 h2 h3
   exact ⟨h1, below_by hBl h2 (Nat.le_trans hB hBl.size) (fun k hk => (own_lt hR k hk).1), (m215.grow hG).by h2 oe, (m216.grow hG).by h2 off10, (m217.grow hG).by h2 off44, own_by hO h2 ap, lies_ne h3 oe (m215.grow hG).lt, lies_ne h3 off10 (m216.grow hG).lt, lies_ne h3 off44 (m217.grow hG).lt, lies_ap h3 ap hO⟩
  refine eachD_cons (.inr (.inl ⟨by decide, _, rfl, fun x y hT hk hk0 => d_nilCheck (wn rfl) (hk 0 _ rfl rfl) ⟨rfl, rfl⟩⟩)) ?_
  refine eachD_cons (.inr (.inl ⟨by decide, _, rfl, fun x y hT hk hk0 => d_fieldAddr (wn rfl) (hk 8 _ rfl rfl) fo62_3 ⟨rfl, rfl⟩⟩)) ?_
  exact eachD_one
 rintro a224 w225 hA226 ⟨hP228, hW229⟩
 obtain ⟨v230, hv231⟩ : ∃ v', v' = (a224.tmps.getD 78 undef) := ⟨_, rfl⟩
 have hW232 : (fun v' w' => w'.ownsRow Bd 52 15 v' (evs.length + 1) ((evE evs) ++ (#[.int .i64 0, .int .i64 ((path.length : Nat) : Int), .int .i64 p, .int .i64 4, .int .i64 i.loc, .int .i64 (maskR (placeR (B i.off) (B (orR r i.index 0)) i.size) i.size), .bool true, .bool false, .int .i64 (I (getR (B u0) 0 i.size)), .int .i64 0, .bool i.acq, .bool i.weak, .bool i.rel, .int .i64 i.pred, .int .i64 i.succ] : Array Value).toList) ∧ Below Bd w w' ∧ Blk w' g (walkC p (updR r d (I (getR (B u0) 0 i.size))) v167 ev pa) 62 ∧ Blk w' g3 (insC ⟨4, ((d : Nat) : Int), i.a, i.b, i.imm, i.loc, i.off, i.index, i.size, i.fn, i.acq, i.weak, i.rel, i.pred, i.succ, i.to, i.zero⟩) 23 ∧ Blk w' g36 #[.int .i64 0, .int .i64 ((path.length : Nat) : Int), .int .i64 p, .int .i64 4, .int .i64 i.loc, .int .i64 (maskR (placeR (B i.off) (B (orR r i.index 0)) i.size) i.size), .bool true, .bool false, .int .i64 (I (getR (B u0) 0 i.size)), .int .i64 0, .bool i.acq, .bool i.weak, .bool i.rel, .int .i64 i.pred, .int .i64 i.succ] 52 ∧ w'.ownsRow Bd 3 1 pa path.length (paE path) ∧ v'.ownBlock ≠ some g ∧ v'.ownBlock ≠ some g3 ∧ v'.ownBlock ≠ some g36 ∧ ∀ k, pa.ownBlock = some k → v'.ownBlock ≠ some k) v230 w225 := by rw [hv231]; exact hW229
 obtain ⟨ho233, b234, m235, m236, m237, ho238, off239, off240, off241, ap242⟩ := hW232
 have ap243 : ∀ k, v230.ownBlock = some k → pa.ownBlock ≠ some k := fun k h1 h2 => ap242 k h2 h1
 have hA244 : St 81 [(4, (.bool false)), (78, v230), (80, (.pointer (some ⟨g, 10, none⟩)))] a224 := hA226.cut _ (fm_cons (hA226.get 4 _ rfl) (fm_cons hv231.symm (fm_cons (hP228 9 _ (Nat.le_of_ble_eq_true rfl) (by decide) rfl) fm_nil)))
 refine d_store (v := v230) (wn rfl) (hA244.ev rfl) (hA244.ev rfl) one44 (one_slice (own_form ho233)) m235 (Nat.le_of_ble_eq_true rfl) ?_
 intro w245 hU246 (m247 : Blk w245 g (walkC p (updR r d (I (getR (B u0) 0 i.size))) v167 v230 pa) 62)
 have m248 := m236.upd hU246 (Ne.symm n9)
 have m249 := m237.upd hU246 (Ne.symm n42)
 have b250 := hU246.below b234 hge
 have ho251 := own_upd ho233 hU246 off239
 have ho252 := own_upd ho238 hU246 op_
 have hA253 : St 81 [(4, (.bool false))] a224 := hA244.cut _ (fm_cons (hA244.get 4 _ rfl) fm_nil)
 refine t_norm ?_
 refine wp_seq ?_
 refine wp_region_lit ?_
 refine q_step hA253 rfl (d_assign (wn rfl) (hA253.ev rfl) ?_)
 intro a254 hA255
 refine q_end ?_
 have hA256 : St 81 [(4, (.bool true))] a254 := hA255.cut _ (fm_cons (hA255.get 4 _ rfl) fm_nil)
 refine t_norm ?_
 refine wp_ret ?_
 refine ret1 rfl hA256 (v := (.bool true)) rfl ?_
 exact ⟨rfl, b250, v167, v230, pa, m247, hge, (hsl169.below b250), (by rw [List.length_append, ← evE_snoc]; exact ho251), ho252, off239, op_, ap242⟩
set_option maxHeartbeats 4000000 in
set_option maxRecDepth 4000 in
theorem access_4n (Bd g : Nat) (p : Int) (r : Nat → Int) (rd ev pa : Value) (i : Ins) (d : Nat) (evs : List Ev) (path : List Int) (w : World) (hB : Bd ≤ w.heap.size) (hW : WS Bd g w p r ([] : List Int) evs path rd ev pa) (hne : evs.length ≤ 1000) (hnp : path.length ≤ 1000) (hr : ∀ k, wfI (r k)) (hix : ronB i.index = true) (hoff : wfI i.off) (hd : d < 8) : Calls Try.prog 48 #[.pointer (some ⟨g, 0, none⟩), .agg (insC ⟨4, ((d : Nat) : Int), i.a, i.b, i.imm, i.loc, i.off, i.index, i.size, i.fn, i.acq, i.weak, i.rel, i.pred, i.succ, i.to, i.zero⟩)] w fun e w' => e = .returned (.bool false) ∧ Below Bd w w' := by
 obtain ⟨hb, hge, hrd, hev, hpa, oe, op_, ap⟩ := hW
 have ap2 : ∀ k, ev.ownBlock = some k → pa.ownBlock ≠ some k := fun k h1 h2 => ap k h2 h1
 have b0 : Below Bd w w := Below.refl _ _
 refine enter (n := 81) Try.func48 rfl rfl (Nat.le_of_ble_eq_true rfl) ?_
 intro a1 hA2
 refine wp_seq ?_
 refine wp_region_lit ?_
 refine q_step hA2 rfl (d_box (wn rfl) (hA2.ev rfl) ?_)
 intro g3 w4 eg5 hG6 (m7 : Blk w4 g3 (insC ⟨4, ((d : Nat) : Int), i.a, i.b, i.imm, i.loc, i.off, i.index, i.size, i.fn, i.acq, i.weak, i.rel, i.pred, i.succ, i.to, i.zero⟩) 23)
 have ge8 : Bd ≤ g3 := eg5 ▸ (Nat.le_trans hB b0.size)
 have n9 : g ≠ g3 := fun h => Nat.lt_irrefl _ ((h.trans eg5) ▸ hb.lt)
 have off10 := own_new hev eg5
 have off11 := own_new hpa eg5
 have m12 := hb.grow hG6
 have b13 := below_grow b0 hG6 (Nat.le_trans hB b0.size)
 have ho14 := own_grow hG6 hev
 have ho15 := own_grow hG6 hpa
 intro a16 hA17
 refine q_step hA17 rfl (d_assign (wn rfl) (hA17.ev rfl) ?_)
 intro a18 hA19
 refine q_end ?_
 have hA20 : St 81 [(0, (.pointer (some ⟨g, 0, none⟩))), (3, (.pointer (some ⟨g3, 0, none⟩))), (4, (.bool false))] a18 := hA19.cut _ (fm_cons (hA19.get 0 _ rfl) (fm_cons (hA19.get 3 _ rfl) (fm_cons (hA19.get 4 _ rfl) fm_nil)))
 refine t_norm ?_
 refine wp_seq ?_
 refine wp_region_lit ?_
 refine q_step hA20 rfl (d_move (wn rfl) (hA20.ev rfl) ?_)
 intro a21 hA22
 refine q_step hA22 rfl (d_loadRow (cs := (insC ⟨4, ((d : Nat) : Int), i.a, i.b, i.imm, i.loc, i.off, i.index, i.size, i.fn, i.acq, i.weak, i.rel, i.pred, i.succ, i.to, i.zero⟩)) (wn rfl) (hA22.ev rfl) row23 m7 ?_)
 intro a23 hA24
 refine q_step hA24 rfl (d_call (wn rfl) ent49 (map2 (hA24.ev rfl) (hA24.ev rfl)) (event_any g p r rd ev pa (⟨4, ((d : Nat) : Int), i.a, i.b, i.imm, i.loc, i.off, i.index, i.size, i.fn, i.acq, i.weak, i.rel, i.pred, i.succ, i.to, i.zero⟩) path.length Bd (paE path) w4 m12 ho15) ?_)
 rintro e28 w25 ⟨he27, hG26⟩
 have m29 := m12.grow hG26
 have m30 := m7.grow hG26
 have b31 := below_grow b13 hG26 (Nat.le_trans hB b13.size)
 have ho32 := own_grow hG26 ho14
 have ho33 := own_grow hG26 ho15
 refine ⟨(.agg #[.int .i64 0, .int .i64 ((path.length : Nat) : Int), .int .i64 p, .int .i64 4, .int .i64 0, .int .i64 0, .bool true, .bool false, .int .i64 0, .int .i64 0, .bool i.acq, .bool i.weak, .bool i.rel, .int .i64 i.pred, .int .i64 i.succ]), he27, ?_⟩
 intro a34 hA35
 refine q_step hA35 rfl (d_alloc (wn rfl) zero52 ?_)
 intro g36 w37 eg38 hG39 (m40 : Blk w37 g36 #[.int .i64 0, .int .i64 0, .int .i64 0, .int .i64 0, .int .i64 0, .int .i64 0, .bool false, .bool false, .int .i64 0, .int .i64 0, .bool false, .bool false, .bool false, .int .i64 0, .int .i64 0] 52)
 have ge41 : Bd ≤ g36 := eg38 ▸ (Nat.le_trans hB b31.size)
 have n42 : g ≠ g36 := fun h => Nat.lt_irrefl _ ((h.trans eg38) ▸ m29.lt)
 have n43 : g3 ≠ g36 := fun h => Nat.lt_irrefl _ ((h.trans eg38) ▸ m30.lt)
 have off44 := own_new ho32 eg38
 have off45 := own_new ho33 eg38
 have m46 := m29.grow hG39
 have m47 := m30.grow hG39
 have b48 := below_grow b31 hG39 (Nat.le_trans hB b31.size)
 have ho49 := own_grow hG39 ho32
 have ho50 := own_grow hG39 ho33
 intro a51 hA52
 refine q_step hA52 rfl (d_storeRow (wn rfl) (hA52.ev rfl) (hA52.ev rfl) row52 m40 rfl rfl ?_)
 intro w53 hU54 (m55 : Blk w53 g36 #[.int .i64 0, .int .i64 ((path.length : Nat) : Int), .int .i64 p, .int .i64 4, .int .i64 0, .int .i64 0, .bool true, .bool false, .int .i64 0, .int .i64 0, .bool i.acq, .bool i.weak, .bool i.rel, .int .i64 i.pred, .int .i64 i.succ] 52)
 have m56 := m46.upd hU54 n42
 have m57 := m47.upd hU54 n43
 have b58 := hU54.below b48 ge41
 have ho59 := own_upd ho49 hU54 off44
 have ho60 := own_upd ho50 hU54 off45
 intro a61 hA62
 refine q_end ?_
 have hA63 : St 81 [(0, (.pointer (some ⟨g, 0, none⟩))), (3, (.pointer (some ⟨g3, 0, none⟩))), (4, (.bool false)), (5, (.pointer (some ⟨g36, 0, none⟩)))] a61 := hA62.cut _ (fm_cons (hA62.get 0 _ rfl) (fm_cons (hA62.get 3 _ rfl) (fm_cons (hA62.get 4 _ rfl) (fm_cons (hA62.get 5 _ rfl) fm_nil))))
 refine t_norm ?_
 refine wp_seq ?_
 have hA64 : St 81 [(0, (.pointer (some ⟨g, 0, none⟩))), (3, (.pointer (some ⟨g3, 0, none⟩))), (4, (.bool false)), (5, (.pointer (some ⟨g36, 0, none⟩)))] a61 := hA63.cut _ (fm_cons (hA63.get 0 _ rfl) (fm_cons (hA63.get 3 _ rfl) (fm_cons (hA63.get 4 _ rfl) (fm_cons (hA63.get 5 _ rfl) fm_nil))))
 let M65 : Nat → Option (Array Value) := fun _ => none
 have hM65 : M65 = fun _ => none := rfl
 clear_value M65
 have hM66 : M65 g = none := (congrFun hM65 g)
 have hM67 : M65 g3 = none := (congrFun hM65 g3)
 have hM68 : M65 g36 = none := (congrFun hM65 g36)
 have hM65B : ∀ k, k < Bd → M65 k = none := (fun k hk => (congrFun hM65 k))
 refine drawn (S := SM M65) (tabL [cv (.pointer (some ⟨g3, 6, none⟩)), cv (.int .i64 i.off), cv (.pointer (some ⟨g, 0, none⟩)), cv (.pointer (some ⟨g3, 7, none⟩)), cv (.int .i64 i.index), cv (.int .i64 (orR r i.index 0)), cv (.pointer (some ⟨g3, 8, none⟩)), cv (.int .i64 i.size), cv (.int .i64 (placeR (B i.off) (B (orR r i.index 0)) i.size)), cv (.int .i64 (placeR (B i.off) (B (orR r i.index 0)) i.size))]) mixedY SM.refl SM.trans SM.drew hA64 (by kernel_rfl) ?_ ?_
 ·skip
  refine each_cons (fun x y hS hT hk => d_fieldAddr (wn rfl) (hT.ev rfl) fo23_6 ⟨SM.refl _, rfl⟩) ?_
  refine each_cons (fun x y hS hT hk => d_load (v := (.int .i64 i.off)) (wn rfl) (hk 0 rfl) one3 ((Blk.sm (w := w53.drew) m57 hS hM67).cell rfl) ⟨SM.refl _, rfl⟩) ?_
  refine each_cons (fun x y hS hT hk => d_move (wn rfl) (hT.ev rfl) ⟨SM.refl _, rfl⟩) ?_
  refine each_cons (fun x y hS hT hk => d_fieldAddr (wn rfl) (hT.ev rfl) fo23_7 ⟨SM.refl _, rfl⟩) ?_
  refine each_cons (fun x y hS hT hk => d_load (v := (.int .i64 i.index)) (wn rfl) (hk 3 rfl) one3 ((Blk.sm (w := w53.drew) m57 hS hM67).cell rfl) ⟨SM.refl _, rfl⟩) ?_
  refine each_cons (fun x y hS hT hk => d_call (wn rfl) ent47 (map3 (show x.eval _ = (.pointer (some ⟨g, 0, none⟩)) from (hk 2 rfl)) (show x.eval _ = (.int .i64 i.index) from (hk 4 rfl)) (show x.eval _ = (.int .i64 0) from (hT.ev rfl))) (regOr_any g p r rd ev pa i.index 0 y (Blk.sm (w := w53.drew) m56 hS hM66) hix) (fun _ _ ⟨he, hG⟩ => ⟨(.int .i64 (orR r i.index 0)), he, SM.grow hG, rfl⟩)) ?_
  refine each_cons (fun x y hS hT hk => d_fieldAddr (wn rfl) (hT.ev rfl) fo23_8 ⟨SM.refl _, rfl⟩) ?_
  refine each_cons (fun x y hS hT hk => d_load (v := (.int .i64 i.size)) (wn rfl) (hk 6 rfl) one3 ((Blk.sm (w := w53.drew) m57 hS hM67).cell rfl) ⟨SM.refl _, rfl⟩) ?_
  refine each_cons (fun x y hS hT hk => d_call (wn rfl) ent57 (map3 (show x.eval _ = (.int .i64 i.off) from (hk 1 rfl)) (show x.eval _ = (.int .i64 (orR r i.index 0)) from (hk 5 rfl)) (show x.eval _ = (.int .i64 i.size) from (hk 7 rfl))) (place_w i.off (orR r i.index 0) i.size y hoff (wf_or hr wf_0)) (fun _ _ ⟨he, hw⟩ => ⟨(.int .i64 (placeR (B i.off) (B (orR r i.index 0)) i.size)), he, hw ▸ SM.refl _, rfl⟩)) ?_
  refine each_cons (fun x y hS hT hk => d_assign (wn rfl) (hk 8 rfl) ⟨SM.refl _, rfl⟩) ?_
  exact each_nil
 intro f69 a70 w71 hS72 hC73 hA74
 have hA75 : St 81 [(0, (.pointer (some ⟨g, 0, none⟩))), (3, (.pointer (some ⟨g3, 0, none⟩))), (4, (.bool false)), (5, (.pointer (some ⟨g36, 0, none⟩))), (6, (.int .i64 (placeR (B i.off) (B (orR r i.index 0)) i.size)))] a70 := hA74.cut _ (fm_cons (hA74.get 0 _ rfl) (fm_cons (hA74.get 3 _ rfl) (fm_cons (hA74.get 4 _ rfl) (fm_cons (hA74.get 5 _ rfl) (fm_cons ((hA74.get 6 _ rfl).trans (hC73 9 (Nat.le_of_ble_eq_true rfl))) fm_nil)))))
 have m76 := m56.sm hS72 hM66
 have m77 := m57.sm hS72 hM67
 have m78 := m55.sm hS72 hM68
 have b79 := hS72.below b58 (Nat.le_trans hB b58.size) hM65B
 have ho80 := own_sm ho59 hS72 (fun k => congrFun hM65 k)
 have ho81 := own_sm ho60 hS72 (fun k => congrFun hM65 k)
 refine t_norm ?_
 refine wp_seq ?_
 have hA82 : St 81 [(0, (.pointer (some ⟨g, 0, none⟩))), (3, (.pointer (some ⟨g3, 0, none⟩))), (4, (.bool false)), (5, (.pointer (some ⟨g36, 0, none⟩))), (6, (.int .i64 (placeR (B i.off) (B (orR r i.index 0)) i.size)))] a70 := hA75.cut _ (fm_cons (hA75.get 0 _ rfl) (fm_cons (hA75.get 3 _ rfl) (fm_cons (hA75.get 4 _ rfl) (fm_cons (hA75.get 5 _ rfl) (fm_cons (hA75.get 6 _ rfl) fm_nil)))))
 let M83 : Nat → Option (Array Value) := fun _ => none
 have hM83 : M83 = fun _ => none := rfl
 clear_value M83
 have hM83A : ∀ k, M83 k = none := fun k => congrFun hM83 k
 have hM83B : ∀ k, k < Bd → M83 k = none := fun k _ => hM83A k
 refine drawnL (S := SM M83) rfl (tabL [cv (.pointer (some ⟨g3, 5, none⟩)), cv (.int .i64 i.loc), cv (.int .i64 (placeR (B i.off) (B (orR r i.index 0)) i.size)), cv (.pointer (some ⟨g3, 8, none⟩)), cv (.int .i64 i.size), cv (.int .i64 (maskR (placeR (B i.off) (B (orR r i.index 0)) i.size) i.size)), cv (.agg #[.int .i64 i.loc, .int .i64 (maskR (placeR (B i.off) (B (orR r i.index 0)) i.size) i.size)]), cv (.pointer (some ⟨g36, 4, none⟩))]) none (fun _ => none) (fun _ _ => True) [7, 6, 5, 0, 1, 2, 3, 4] [] mixedY SM.refl SM.trans hA82 (by kernel_rfl) (by kernel_rfl) (fun i v u w h => by cases h) ?_ ?_
 ·skip
  refine eachD_cons (.inl ⟨nofun, rfl, fun x y hS hT hk => d_fieldAddr (wn rfl) (hT.ev rfl) fo23_5 ⟨SM.refl _, rfl⟩⟩) ?_
  refine eachD_cons (.inl ⟨nofun, rfl, fun x y hS hT hk => d_load (v := (.int .i64 i.loc)) (wn rfl) (hk 0 rfl) one3 ((Blk.sm (w := w71.drew) m77 hS (hM83A _)).cell rfl) ⟨SM.refl _, rfl⟩⟩) ?_
  refine eachD_cons (.inl ⟨nofun, rfl, fun x y hS hT hk => d_move (wn rfl) (hT.ev rfl) ⟨SM.refl _, rfl⟩⟩) ?_
  refine eachD_cons (.inl ⟨nofun, rfl, fun x y hS hT hk => d_fieldAddr (wn rfl) (hT.ev rfl) fo23_8 ⟨SM.refl _, rfl⟩⟩) ?_
  refine eachD_cons (.inl ⟨nofun, rfl, fun x y hS hT hk => d_load (v := (.int .i64 i.size)) (wn rfl) (hk 3 rfl) one3 ((Blk.sm (w := w71.drew) m77 hS (hM83A _)).cell rfl) ⟨SM.refl _, rfl⟩⟩) ?_
  refine eachD_cons (.inl ⟨nofun, rfl, fun x y hS hT hk => d_call (wn rfl) ent55 (map2 (show x.eval _ = (.int .i64 (placeR (B i.off) (B (orR r i.index 0)) i.size)) from (hk 2 rfl)) (show x.eval _ = (.int .i64 i.size) from (hk 4 rfl))) (mask_all (placeR (B i.off) (B (orR r i.index 0)) i.size) i.size y) (fun _ _ ⟨he, hw⟩ => ⟨(.int .i64 (maskR (placeR (B i.off) (B (orR r i.index 0)) i.size) i.size)), he, hw ▸ SM.refl _, rfl⟩)⟩) ?_
  refine eachD_cons (.inl ⟨nofun, rfl, fun x y hS hT hk => d_build (cs := #[.int .i64 i.loc, .int .i64 (maskR (placeR (B i.off) (B (orR r i.index 0)) i.size) i.size)]) (wn rfl) (bp_of (bq_cons (show x.eval _ = (.int .i64 i.loc) from (hk 1 rfl)) (bq_cons (show x.eval _ = (.int .i64 (maskR (placeR (B i.off) (B (orR r i.index 0)) i.size) i.size)) from (hk 5 rfl)) bq_nil))) zero50 places50 (by kernel_rfl) ⟨SM.refl _, rfl⟩⟩) ?_
  refine eachD_cons (.inl ⟨nofun, rfl, fun x y hS hT hk => d_fieldAddr (wn rfl) (hT.ev rfl) fo52_4 ⟨SM.refl _, rfl⟩⟩) ?_
  exact eachD_one
 rintro a84 w85 hA86 ⟨hS88, hC89⟩
 have hA90 : St 81 [(0, (.pointer (some ⟨g, 0, none⟩))), (3, (.pointer (some ⟨g3, 0, none⟩))), (4, (.bool false)), (5, (.pointer (some ⟨g36, 0, none⟩))), (25, (.agg #[.int .i64 i.loc, .int .i64 (maskR (placeR (B i.off) (B (orR r i.index 0)) i.size) i.size)])), (26, (.pointer (some ⟨g36, 4, none⟩)))] a84 := hA86.cut _ (fm_cons (hA86.get 0 _ rfl) (fm_cons (hA86.get 3 _ rfl) (fm_cons (hA86.get 4 _ rfl) (fm_cons (hA86.get 5 _ rfl) (fm_cons (hC89 6 (Nat.le_of_ble_eq_true rfl)) (fm_cons (hC89 7 (Nat.le_of_ble_eq_true rfl)) fm_nil))))))
 have hG91 : Grow w71 w85 := Grow.trans ((Grow.refl _).drew) (SM.grown (by rw [hM83] at hS88; exact hS88))
 have m92 := m76.grow hG91
 have m93 := m77.grow hG91
 have m94 := m78.grow hG91
 have b95 := below_grow b79 hG91 (Nat.le_trans hB b79.size)
 have ho96 := own_grow hG91 ho80
 have ho97 := own_grow hG91 ho81
 refine d_store2 (wn rfl) (hA90.ev rfl) (hA90.ev rfl) row50 rfl rfl m94 (Nat.le_of_ble_eq_true rfl) ?_
 intro w98 hU99 (m100 : Blk w98 g36 #[.int .i64 0, .int .i64 ((path.length : Nat) : Int), .int .i64 p, .int .i64 4, .int .i64 i.loc, .int .i64 (maskR (placeR (B i.off) (B (orR r i.index 0)) i.size) i.size), .bool true, .bool false, .int .i64 0, .int .i64 0, .bool i.acq, .bool i.weak, .bool i.rel, .int .i64 i.pred, .int .i64 i.succ] 52)
 have m101 := m92.upd hU99 n42
 have m102 := m93.upd hU99 n43
 have b103 := hU99.below b95 ge41
 have ho104 := own_upd ho96 hU99 off44
 have ho105 := own_upd ho97 hU99 off45
 have hA106 : St 81 [(0, (.pointer (some ⟨g, 0, none⟩))), (3, (.pointer (some ⟨g3, 0, none⟩))), (4, (.bool false)), (5, (.pointer (some ⟨g36, 0, none⟩)))] a84 := hA90.cut _ (fm_cons (hA90.get 0 _ rfl) (fm_cons (hA90.get 3 _ rfl) (fm_cons (hA90.get 4 _ rfl) (fm_cons (hA90.get 5 _ rfl) fm_nil))))
 refine t_norm ?_
 refine wp_seq ?_
 refine wp_seq ?_
 refine wp_region_lit ?_
 refine q_step hA106 rfl (d_fieldAddr (wn rfl) (hA106.ev rfl) fo52_5 ?_)
 intro a107 hA108
 refine q_step hA108 rfl (d_load (v := (.bool true)) (wn rfl) (hA108.ev rfl) one4 (m100.cell rfl) ?_)
 intro a109 hA110
 refine q_end ?_
 have hA111 : St 81 [(0, (.pointer (some ⟨g, 0, none⟩))), (3, (.pointer (some ⟨g3, 0, none⟩))), (4, (.bool false)), (5, (.pointer (some ⟨g36, 0, none⟩))), (28, (.bool true))] a109 := hA110.cut _ (fm_cons (hA110.get 0 _ rfl) (fm_cons (hA110.get 3 _ rfl) (fm_cons (hA110.get 4 _ rfl) (fm_cons (hA110.get 5 _ rfl) (fm_cons (hA110.get 28 _ rfl) fm_nil)))))
 refine t_norm ?_
 refine c_true hA111 rfl ?_
 refine wp_seq ?_
 refine wp_seq ?_
 refine wp_region_lit ?_
 refine q_step hA111 rfl (d_move (wn rfl) (hA111.ev rfl) ?_)
 intro a112 hA113
 refine q_step hA113 rfl (d_nilCheck (wn rfl) (hA113.ev rfl) ?_)
 intro a114 hA115
 refine q_step hA115 rfl (d_fieldAddr (wn rfl) (hA115.ev rfl) fo62_2 ?_)
 intro a116 hA117
 refine q_step hA117 rfl (d_load (v := rd) (wn rfl) (hA117.ev rfl) one30 (m101.cell rfl) ?_)
 intro a118 hA119
 refine q_step hA119 rfl (d_len (n := 0) (wn rfl) (hA119.ev rfl) slc30 hrd.form ?_)
 intro a120 hA121
 refine q_step hA121 rfl (d_bin (wn rfl) (hA121.ev rfl) (hA121.ev rfl) (b_eq _ _ 0 0 true _ rfl) ?_)
 intro a122 hA123
 refine q_end ?_
 have hA124 : St 81 [(0, (.pointer (some ⟨g, 0, none⟩))), (3, (.pointer (some ⟨g3, 0, none⟩))), (4, (.bool false)), (5, (.pointer (some ⟨g36, 0, none⟩))), (34, (.bool true))] a122 := hA123.cut _ (fm_cons (hA123.get 0 _ rfl) (fm_cons (hA123.get 3 _ rfl) (fm_cons (hA123.get 4 _ rfl) (fm_cons (hA123.get 5 _ rfl) (fm_cons (hA123.get 34 _ rfl) fm_nil)))))
 refine t_norm ?_
 refine c_true hA124 rfl ?_
 refine wp_seq ?_
 refine wp_region_lit ?_
 refine q_step hA124 rfl (d_assign (wn rfl) (hA124.ev rfl) ?_)
 intro a125 hA126
 refine q_end ?_
 have hA127 : St 81 [(0, (.pointer (some ⟨g, 0, none⟩))), (3, (.pointer (some ⟨g3, 0, none⟩))), (4, (.bool false)), (5, (.pointer (some ⟨g36, 0, none⟩)))] a125 := hA126.cut _ (fm_cons (hA126.get 0 _ rfl) (fm_cons (hA126.get 3 _ rfl) (fm_cons (hA126.get 4 _ rfl) (fm_cons (hA126.get 5 _ rfl) fm_nil))))
 refine t_norm ?_
 refine wp_ret ?_
 refine t_ret ?_
 refine t_ret ?_
 refine ret1 rfl hA127 (v := (.bool false)) rfl ?_
 exact ⟨rfl, b103⟩
end Go.Proofs.Ytlhompedcphnnaa
