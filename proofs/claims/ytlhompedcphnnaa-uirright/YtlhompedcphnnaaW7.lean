/- A step of the walk. -/
import Derived.Test.YtlhompedcphnnaaW3
namespace Go.Proofs.Ytlhompedcphnnaa
open Go.RowKit
set_option linter.unusedSimpArgs false
set_option linter.unusedVariables false
set_option maxHeartbeats 4000000 in
set_option maxRecDepth 4000 in
theorem step_1 (Bd g : Nat) (p : Int) (r : Nat → Int) (rd ev pa : Value) (i : Ins) (d : Nat) (rds : List Int) (evs : List Ev) (path : List Int) (w : World) (hB : Bd ≤ w.heap.size) (hW : WS Bd g w p r rds evs path rd ev pa) (hne : evs.length ≤ 1000) (hnp : path.length ≤ 1000) (hr : ∀ k, wfI (r k)) (hp : 0 ≤ p) (hp2 : p ≤ 1000) (hd : d < 8) : Calls Try.prog 36 #[.pointer (some ⟨g, 0, none⟩), .agg (insC ⟨1, ((d : Nat) : Int), i.a, i.b, i.imm, i.loc, i.off, i.index, i.size, i.fn, i.acq, i.weak, i.rel, i.pred, i.succ, i.to, i.zero⟩)] w fun e w' => e = .returned (.bool true) ∧ Below Bd w w' ∧ ∃ rd' ev' pa', WS Bd g w' (p + 1) (updR r d i.imm) rds evs (path ++ [p]) rd' ev' pa' := by
  obtain ⟨hb, hge, hrd, hev, hpa, oe, op_, ap⟩ := hW
  have ap2 : ∀ k, ev.ownBlock = some k → pa.ownBlock ≠ some k := fun k h1 h2 => ap k h2 h1
  have b0 : Below Bd w w := Below.refl _ _
  refine enter (n := 117) Try.func36 rfl rfl (Nat.le_of_ble_eq_true rfl) ?_
  intro a1 hA2
  refine wp_seq ?_
  refine wp_region_lit ?_
  refine q_step hA2 rfl (d_box (wn rfl) (hA2.ev (v := (.agg (insC ⟨1, ((d : Nat) : Int), i.a, i.b, i.imm, i.loc, i.off, i.index, i.size, i.fn, i.acq, i.weak, i.rel, i.pred, i.succ, i.to, i.zero⟩))) rfl) ?_)
  intro g3 w4 eg5 hG6 (m7 : Blk w4 g3 (insC ⟨1, ((d : Nat) : Int), i.a, i.b, i.imm, i.loc, i.off, i.index, i.size, i.fn, i.acq, i.weak, i.rel, i.pred, i.succ, i.to, i.zero⟩) 23)
  have ge8 : Bd ≤ g3 := eg5 ▸ (Nat.le_trans hB b0.size)
  have n9 : g ≠ g3 := fun h => Nat.lt_irrefl _ ((h.trans eg5) ▸ hb.lt)
  have off10 := own_new hev eg5
  have off11 := own_new hpa eg5
  have m12 := hb.grow hG6
  have b13 := below_grow b0 hG6 (Nat.le_trans hB b0.size)
  have ho14 := own_grow hG6 hev
  have ho15 := own_grow hG6 hpa
  intro a16 hA17
  refine q_step hA17 rfl (d_assign (wn rfl) (hA17.ev (v := (.bool false)) rfl) ?_)
  intro a18 hA19
  refine q_end ?_
  have hA20 : St 117 [(0, (.pointer (some ⟨g, 0, none⟩))), (3, (.pointer (some ⟨g3, 0, none⟩))), (4, (.bool false))] a18 := hA19.cut _ (fm_cons (hA19.get 0 _ rfl) (fm_cons (hA19.get 3 _ rfl) (fm_cons (hA19.get 4 _ rfl) fm_nil)))
  refine t_norm ?_
  refine wp_seq ?_
  refine wp_region_lit ?_
  refine q_step hA20 rfl (d_move (wn rfl) (hA20.ev (v := (.pointer (some ⟨g, 0, none⟩))) rfl) ?_)
  intro a21 hA22
  refine q_step hA22 rfl (d_nilCheck (wn rfl) (hA22.ev (v := (.pointer (some ⟨g, 0, none⟩))) rfl) ?_)
  intro a23 hA24
  refine q_step hA24 rfl (d_fieldAddr (wn rfl) (hA24.ev (v := (.pointer (some ⟨g, 0, none⟩))) rfl) fo62_0 ?_)
  intro a25 hA26
  refine q_step hA26 rfl (d_load (v := (.int .i64 p)) (wn rfl) (hA26.ev (v := (.pointer (some ⟨g, 0, none⟩))) rfl) one3 (m12.cell rfl) ?_)
  intro a27 hA28
  refine q_step hA28 rfl (d_bin (wn rfl) (hA28.ev (v := (.int .i64 p)) rfl) (hA28.ev (v := (.int .i64 1)) rfl) (b_add _ _ p 1 _ (by omega) (by omega)) ?_)
  intro a29 hA30
  refine q_step hA30 rfl (d_assign (wn rfl) (hA30.ev (v := (.int .i64 (p + 1))) rfl) ?_)
  intro a31 hA32
  refine q_end ?_
  have hA33 : St 117 [(0, (.pointer (some ⟨g, 0, none⟩))), (3, (.pointer (some ⟨g3, 0, none⟩))), (4, (.bool false)), (5, (.int .i64 (p + 1)))] a31 := hA32.cut _ (fm_cons (hA32.get 0 _ rfl) (fm_cons (hA32.get 3 _ rfl) (fm_cons (hA32.get 4 _ rfl) (fm_cons (hA32.get 5 _ rfl) fm_nil))))
  refine t_norm ?_
  refine wp_seq ?_
  refine wp_seq ?_
  refine wp_region_lit ?_
  refine q_step hA33 rfl (d_fieldAddr (wn rfl) (hA33.ev (v := (.pointer (some ⟨g3, 0, none⟩))) rfl) fo23_0 ?_)
  intro a34 hA35
  refine q_step hA35 rfl (d_load (v := (.int .i64 1)) (wn rfl) (hA35.ev (v := (.pointer (some ⟨g3, 0, none⟩))) rfl) one3 (m7.cell rfl) ?_)
  intro a36 hA37
  refine q_end ?_
  have hA38 : St 117 [(0, (.pointer (some ⟨g, 0, none⟩))), (3, (.pointer (some ⟨g3, 0, none⟩))), (4, (.bool false)), (5, (.int .i64 (p + 1))), (12, (.int .i64 1))] a36 := hA37.cut _ (fm_cons (hA37.get 0 _ rfl) (fm_cons (hA37.get 3 _ rfl) (fm_cons (hA37.get 4 _ rfl) (fm_cons (hA37.get 5 _ rfl) (fm_cons (hA37.get 12 _ rfl) fm_nil)))))
  refine t_norm ?_
  refine wp_block ?_
  refine wp_seq ?_
  refine wp_region_lit ?_
  refine q_step hA38 rfl (d_bin (wn rfl) (hA38.ev (v := (.int .i64 1)) rfl) (hA38.ev (v := (.int .i64 1)) rfl) (b_eq _ _ 1 1 true _ rfl) ?_)
  intro a39 hA40
  refine q_step hA40 rfl (d_assign (wn rfl) (hA40.ev (v := (.bool true)) rfl) ?_)
  intro a41 hA42
  refine q_end ?_
  have hA43 : St 117 [(0, (.pointer (some ⟨g, 0, none⟩))), (3, (.pointer (some ⟨g3, 0, none⟩))), (4, (.bool false)), (5, (.int .i64 (p + 1))), (12, (.int .i64 1)), (13, (.bool true))] a41 := hA42.cut _ (fm_cons (hA42.get 0 _ rfl) (fm_cons (hA42.get 3 _ rfl) (fm_cons (hA42.get 4 _ rfl) (fm_cons (hA42.get 5 _ rfl) (fm_cons (hA42.get 12 _ rfl) (fm_cons (hA42.get 13 _ rfl) fm_nil))))))
  refine t_norm ?_
  refine c_true hA43 rfl ?_
  have hA44 : St 117 [(0, (.pointer (some ⟨g, 0, none⟩))), (3, (.pointer (some ⟨g3, 0, none⟩))), (4, (.bool false)), (5, (.int .i64 (p + 1)))] a41 := hA43.cut _ (fm_cons (hA43.get 0 _ rfl) (fm_cons (hA43.get 3 _ rfl) (fm_cons (hA43.get 4 _ rfl) (fm_cons (hA43.get 5 _ rfl) fm_nil))))
  let M45 : Nat → Option (Array Value) := fun _ => none
  have hM45 : M45 = fun _ => none := rfl
  clear_value M45
  have hM45A : ∀ k, M45 k = none := fun k => congrFun hM45 k
  have hM45B : ∀ k, k < Bd → M45 k = none := fun k _ => hM45A k
  refine drawnL (S := SM M45) rfl (tabL [cv (.pointer (some ⟨g, 0, none⟩)), cv (.pointer (some ⟨g3, 1, none⟩)), cv (.int .i64 ((d : Nat) : Int)), cv (.pointer (some ⟨g3, 4, none⟩)), cv (.int .i64 i.imm), cv (.pointer (some ⟨g, 0, none⟩)), cv (.pointer (some ⟨g, 1, none⟩)), cv (.pointer (some ⟨g, 1 + d, none⟩))]) none (fun _ => none) (fun _ _ => True) [7, 4, 0, 1, 2, 3, 6, 5] [] mixedY SM.refl SM.trans hA44 (by kernel_rfl) (by kernel_rfl) (fun i v u w h => by cases h) ?_ ?_
  · skip
    refine eachD_cons (.inl ⟨nofun, rfl, fun x y hS hT hk => d_move (wn rfl) (hT.ev (v := (.pointer (some ⟨g, 0, none⟩))) rfl) ⟨SM.refl _, rfl⟩⟩) ?_
    refine eachD_cons (.inl ⟨nofun, rfl, fun x y hS hT hk => d_fieldAddr (wn rfl) (hT.ev (v := (.pointer (some ⟨g3, 0, none⟩))) rfl) fo23_1 ⟨SM.refl _, rfl⟩⟩) ?_
    refine eachD_cons (.inl ⟨nofun, rfl, fun x y hS hT hk => d_load (v := (.int .i64 ((d : Nat) : Int))) (wn rfl) (hk 1 rfl) one3 ((Blk.sm (w := w4.drew) m7 hS (hM45A _)).cell rfl) ⟨SM.refl _, rfl⟩⟩) ?_
    refine eachD_cons (.inl ⟨nofun, rfl, fun x y hS hT hk => d_fieldAddr (wn rfl) (hT.ev (v := (.pointer (some ⟨g3, 0, none⟩))) rfl) fo23_4 ⟨SM.refl _, rfl⟩⟩) ?_
    refine eachD_cons (.inl ⟨nofun, rfl, fun x y hS hT hk => d_load (v := (.int .i64 i.imm)) (wn rfl) (hk 3 rfl) one3 ((Blk.sm (w := w4.drew) m7 hS (hM45A _)).cell rfl) ⟨SM.refl _, rfl⟩⟩) ?_
    refine eachD_cons (.inl ⟨nofun, rfl, fun x y hS hT hk => d_nilCheck (wn rfl) (hk 0 rfl) ⟨SM.refl _, rfl⟩⟩) ?_
    refine eachD_cons (.inl ⟨nofun, rfl, fun x y hS hT hk => d_fieldAddr (wn rfl) (hk 5 rfl) fo62_1 ⟨SM.refl _, rfl⟩⟩) ?_
    refine eachD_cons (.inl ⟨nofun, rfl, fun x y hS hT hk => d_indexArrP (j := d) (p := 1 + d) (wn rfl) (hk 6 rfl) (hk 2 rfl) arr43 (by omega) (by omega) ⟨SM.refl _, rfl⟩⟩) ?_
    exact eachD_one
  rintro a46 w47 hA48 ⟨hS50, hC51⟩
  have hA52 : St 117 [(0, (.pointer (some ⟨g, 0, none⟩))), (4, (.bool false)), (5, (.int .i64 (p + 1))), (19, (.int .i64 i.imm)), (22, (.pointer (some ⟨g, 1 + d, none⟩)))] a46 := hA48.cut _ (fm_cons (hA48.get 0 _ rfl) (fm_cons (hA48.get 4 _ rfl) (fm_cons (hA48.get 5 _ rfl) (fm_cons (hC51 4 (Nat.le_of_ble_eq_true rfl)) (fm_cons (hC51 7 (Nat.le_of_ble_eq_true rfl)) fm_nil)))))
  have hG53 : Grow w4 w47 := Grow.trans ((Grow.refl _).drew) (SM.grown (by rw [hM45] at hS50; exact hS50))
  have m54 := m12.grow hG53
  have m55 := m7.grow hG53
  have b56 := below_grow b13 hG53 (Nat.le_trans hB b13.size)
  have ho57 := own_grow hG53 ho14
  have ho58 := own_grow hG53 ho15
  refine d_store (v := (.int .i64 i.imm)) (wn rfl) (hA52.ev (v := (.pointer (some ⟨g, 1 + d, none⟩))) rfl) (hA52.ev (v := (.int .i64 i.imm)) rfl) one3 rfl m54 (by rw [walk_size]; omega) ?_
  intro w59 hU60 m61
  rw [walk_set (by omega)] at m61
  have m62 := m55.upd hU60 (Ne.symm n9)
  have b63 := hU60.below b56 hge
  have ho64 := own_upd ho57 hU60 oe
  have ho65 := own_upd ho58 hU60 op_
  have hA66 : St 117 [(0, (.pointer (some ⟨g, 0, none⟩))), (4, (.bool false)), (5, (.int .i64 (p + 1)))] a46 := hA52.cut _ (fm_cons (hA52.get 0 _ rfl) (fm_cons (hA52.get 4 _ rfl) (fm_cons (hA52.get 5 _ rfl) fm_nil)))
  refine i_norm ?_
  refine t_norm ?_
  refine wp_seq ?_
  have hA67 : St 117 [(0, (.pointer (some ⟨g, 0, none⟩))), (4, (.bool false)), (5, (.int .i64 (p + 1)))] a46 := hA66.cut _ (fm_cons (hA66.get 0 _ rfl) (fm_cons (hA66.get 4 _ rfl) (fm_cons (hA66.get 5 _ rfl) fm_nil)))
  let M68 : Nat → Option (Array Value) := fun _ => none
  have hM68 : M68 = fun _ => none := rfl
  clear_value M68
  have hM68A : ∀ k, M68 k = none := fun k => congrFun hM68 k
  have hM68B : ∀ k, k < Bd → M68 k = none := fun k _ => hM68A k
  refine drawnL (S := SM M68) rfl (tabQ [some (.pointer (some ⟨g, 0, none⟩)), some (.pointer (some ⟨g, 0, none⟩)), some (.pointer (some ⟨g, 0, none⟩)), some (.pointer (some ⟨g, 11, none⟩)), none, some (.pointer (some ⟨g, 0, none⟩)), some (.pointer (some ⟨g, 0, none⟩)), some (.pointer (some ⟨g, 0, none⟩)), none, none, none, some (.pointer (some ⟨g, 0, none⟩)), some (.pointer (some ⟨g, 11, none⟩))] [cv (.pointer (some ⟨g, 0, none⟩)), cv (.pointer (some ⟨g, 0, none⟩)), cv (.pointer (some ⟨g, 0, none⟩)), cv (.pointer (some ⟨g, 11, none⟩)), cv pa, cv (.pointer (some ⟨g, 0, none⟩)), cv (.pointer (some ⟨g, 0, none⟩)), cv (.pointer (some ⟨g, 0, none⟩)), cv (.int .i64 p), cs1 M68 hM68A #[.int .i64 p] 3, cfree, cv (.pointer (some ⟨g, 0, none⟩)), cv (.pointer (some ⟨g, 11, none⟩))]) (some 10) (fun i => (([some (.pointer (some ⟨g, 0, none⟩)), some (.pointer (some ⟨g, 0, none⟩)), some (.pointer (some ⟨g, 0, none⟩)), some (.pointer (some ⟨g, 11, none⟩)), none, some (.pointer (some ⟨g, 0, none⟩)), some (.pointer (some ⟨g, 0, none⟩)), some (.pointer (some ⟨g, 0, none⟩)), none, none, none, some (.pointer (some ⟨g, 0, none⟩)), some (.pointer (some ⟨g, 11, none⟩))] : List (Option Value))[i]?).getD none) (fun v' w' => w'.ownsRow Bd 3 1 v' (path.length + 1) ((paE path) ++ (#[.int .i64 p] : Array Value).toList) ∧ Below Bd w w' ∧ Blk w' g (walkC p (updR r d i.imm) rd ev pa) 62 ∧ Blk w' g3 (insC ⟨1, ((d : Nat) : Int), i.a, i.b, i.imm, i.loc, i.off, i.index, i.size, i.fn, i.acq, i.weak, i.rel, i.pred, i.succ, i.to, i.zero⟩) 23 ∧ w'.ownsRow Bd 52 15 ev evs.length (evE evs) ∧ v'.ownBlock ≠ some g ∧ v'.ownBlock ≠ some g3 ∧ ∀ k, ev.ownBlock = some k → v'.ownBlock ≠ some k) [12, 10, 0, 1, 2, 3, 4, 5, 6, 7, 8, 9, 11] [4, 9, 3, 8, 2, 7, 1, 6, 5] mixedY SM.refl SM.trans hA67 (by kernel_rfl) (by kernel_rfl) (tabQ_cv _ _) ?_ ?_
  · skip
    refine eachD_cons (.inr (.inl ⟨by decide, _, rfl, fun x y hT hk hk0 => d_move (wn rfl) (hT.ev (v := (.pointer (some ⟨g, 0, none⟩))) rfl) ⟨rfl, rfl⟩⟩)) ?_
    refine eachD_cons (.inr (.inl ⟨by decide, _, rfl, fun x y hT hk hk0 => d_move (wn rfl) (hT.ev (v := (.pointer (some ⟨g, 0, none⟩))) rfl) ⟨rfl, rfl⟩⟩)) ?_
    refine eachD_cons (.inr (.inl ⟨by decide, _, rfl, fun x y hT hk hk0 => d_nilCheck (wn rfl) (hk 1 _ rfl rfl) ⟨rfl, rfl⟩⟩)) ?_
    refine eachD_cons (.inr (.inl ⟨by decide, _, rfl, fun x y hT hk hk0 => d_fieldAddr (wn rfl) (hk 2 _ rfl rfl) fo62_4 ⟨rfl, rfl⟩⟩)) ?_
    refine eachD_cons (.inl ⟨by decide, rfl, fun x y hS hT hk => d_load (v := pa) (wn rfl) (hk 3 rfl) one30 ((Blk.sm (w := w59.drew) m61 hS (hM68A _)).cell rfl) ⟨SM.refl _, rfl⟩⟩) ?_
    refine eachD_cons (.inr (.inl ⟨by decide, _, rfl, fun x y hT hk hk0 => d_move (wn rfl) (hT.ev (v := (.pointer (some ⟨g, 0, none⟩))) rfl) ⟨rfl, rfl⟩⟩)) ?_
    refine eachD_cons (.inr (.inl ⟨by decide, _, rfl, fun x y hT hk hk0 => d_nilCheck (wn rfl) (hk 5 _ rfl rfl) ⟨rfl, rfl⟩⟩)) ?_
    refine eachD_cons (.inr (.inl ⟨by decide, _, rfl, fun x y hT hk hk0 => d_fieldAddr (wn rfl) (hk 6 _ rfl rfl) fo62_0 ⟨rfl, rfl⟩⟩)) ?_
    refine eachD_cons (.inl ⟨by decide, rfl, fun x y hS hT hk => d_load (v := (.int .i64 p)) (wn rfl) (hk 7 rfl) one3 ((Blk.sm (w := w59.drew) m61 hS (hM68A _)).cell rfl) ⟨SM.refl _, rfl⟩⟩) ?_
    refine eachD_cons (.inl ⟨by decide, rfl, fun x y hS hT hk => d_slice1 (wn rfl) (show x.eval _ = (.int .i64 p) from (hk 8 rfl)) elm30 rfl (by decide) (fun g w' _ hG hb => ⟨SM.grow hG, g, rfl, hb⟩)⟩) ?_
    refine eachD_cons (.inr (.inr ⟨rfl, fun x y hS hT hk => ?_⟩)) ?_
    · skip
      obtain ⟨gb, hvb, hbb⟩ := hk 9 rfl
      have hG : Grow w59 y := Grow.trans ((Grow.refl _).drew) (SM.grown (by rw [hM68] at hS; exact hS))
      have hR := own_grow hG ho65
      have hO := own_grow hG ho64
      have hBl := below_grow b63 hG (Nat.le_trans hB b63.size)
      refine d_append (wn rfl) (show x.eval _ = pa from (hk 4 rfl)) hvb elm30 hR hbb rfl rfl (by omega) (by decide) (Nat.le_trans hB hBl.size) ?_
      intro v' w' h1 h2 h3
      exact ⟨h1, below_by hBl h2 (Nat.le_trans hB hBl.size) (fun k hk => (own_lt hR k hk).1), (m61.grow hG).by h2 op_, (m62.grow hG).by h2 off11, own_by hO h2 ap2, lies_ne h3 op_ (m61.grow hG).lt, lies_ne h3 off11 (m62.grow hG).lt, lies_ap h3 ap2 hO⟩
    refine eachD_cons (.inr (.inl ⟨by decide, _, rfl, fun x y hT hk hk0 => d_nilCheck (wn rfl) (hk 0 _ rfl rfl) ⟨rfl, rfl⟩⟩)) ?_
    refine eachD_cons (.inr (.inl ⟨by decide, _, rfl, fun x y hT hk hk0 => d_fieldAddr (wn rfl) (hk 11 _ rfl rfl) fo62_4 ⟨rfl, rfl⟩⟩)) ?_
    exact eachD_one
  rintro a69 w70 hA71 ⟨hP73, hW74⟩
  obtain ⟨v75, hv76⟩ : ∃ v', v' = (a69.tmps.getD 110 undef) := ⟨_, rfl⟩
  have hW77 : (fun v' w' => w'.ownsRow Bd 3 1 v' (path.length + 1) ((paE path) ++ (#[.int .i64 p] : Array Value).toList) ∧ Below Bd w w' ∧ Blk w' g (walkC p (updR r d i.imm) rd ev pa) 62 ∧ Blk w' g3 (insC ⟨1, ((d : Nat) : Int), i.a, i.b, i.imm, i.loc, i.off, i.index, i.size, i.fn, i.acq, i.weak, i.rel, i.pred, i.succ, i.to, i.zero⟩) 23 ∧ w'.ownsRow Bd 52 15 ev evs.length (evE evs) ∧ v'.ownBlock ≠ some g ∧ v'.ownBlock ≠ some g3 ∧ ∀ k, ev.ownBlock = some k → v'.ownBlock ≠ some k) v75 w70 := by rw [hv76]; exact hW74
  obtain ⟨ho78, b79, m80, m81, ho82, off83, off84, ap85⟩ := hW77
  have ap86 : ∀ k, v75.ownBlock = some k → ev.ownBlock ≠ some k := fun k h1 h2 => ap85 k h2 h1
  have hA87 : St 117 [(0, (.pointer (some ⟨g, 0, none⟩))), (4, (.bool false)), (5, (.int .i64 (p + 1))), (110, v75), (112, (.pointer (some ⟨g, 11, none⟩)))] a69 := hA71.cut _ (fm_cons (hA71.get 0 _ rfl) (fm_cons (hA71.get 4 _ rfl) (fm_cons (hA71.get 5 _ rfl) (fm_cons hv76.symm (fm_cons (hP73 12 _ (Nat.le_of_ble_eq_true rfl) (by decide) rfl) fm_nil)))))
  refine d_store (v := v75) (wn rfl) (hA87.ev (v := (.pointer (some ⟨g, 11, none⟩))) rfl) (hA87.ev (v := v75) rfl) one30 (one_slice (own_form ho78)) m80 (Nat.le_of_ble_eq_true rfl) ?_
  intro w88 hU89 (m90 : Blk w88 g (walkC p (updR r d i.imm) rd ev v75) 62)
  have m91 := m81.upd hU89 (Ne.symm n9)
  have b92 := hU89.below b79 hge
  have ho93 := own_upd ho82 hU89 oe
  have ho94 := own_upd ho78 hU89 off83
  have hA95 : St 117 [(0, (.pointer (some ⟨g, 0, none⟩))), (4, (.bool false)), (5, (.int .i64 (p + 1)))] a69 := hA87.cut _ (fm_cons (hA87.get 0 _ rfl) (fm_cons (hA87.get 4 _ rfl) (fm_cons (hA87.get 5 _ rfl) fm_nil)))
  refine t_norm ?_
  refine wp_seq ?_
  refine wp_region_lit ?_
  refine q_step hA95 rfl (d_move (wn rfl) (hA95.ev (v := (.pointer (some ⟨g, 0, none⟩))) rfl) ?_)
  intro a96 hA97
  refine q_step hA97 rfl (d_move (wn rfl) (hA97.ev (v := (.int .i64 (p + 1))) rfl) ?_)
  intro a98 hA99
  refine q_step hA99 rfl (d_nilCheck (wn rfl) (hA99.ev (v := (.pointer (some ⟨g, 0, none⟩))) rfl) ?_)
  intro a100 hA101
  refine q_step hA101 rfl (d_fieldAddr (wn rfl) (hA101.ev (v := (.pointer (some ⟨g, 0, none⟩))) rfl) fo62_0 ?_)
  intro a102 hA103
  refine q_step hA103 rfl (d_store (v := (.int .i64 (p + 1))) (wn rfl) (hA103.ev (v := (.pointer (some ⟨g, 0, none⟩))) rfl) (hA103.ev (v := (.int .i64 (p + 1))) rfl) one3 rfl m90 (Nat.le_of_ble_eq_true rfl) ?_)
  intro w104 hU105 (m106 : Blk w104 g (walkC (p + 1) (updR r d i.imm) rd ev v75) 62)
  have m107 := m91.upd hU105 (Ne.symm n9)
  have b108 := hU105.below b92 hge
  have ho109 := own_upd ho93 hU105 oe
  have ho110 := own_upd ho94 hU105 off83
  intro a111 hA112
  refine q_end ?_
  have hA113 : St 117 [(4, (.bool false))] a111 := hA112.cut _ (fm_cons (hA112.get 4 _ rfl) fm_nil)
  refine t_norm ?_
  refine wp_seq ?_
  refine wp_region_lit ?_
  refine q_step hA113 rfl (d_assign (wn rfl) (hA113.ev (v := (.bool true)) rfl) ?_)
  intro a114 hA115
  refine q_end ?_
  have hA116 : St 117 [(4, (.bool true))] a114 := hA115.cut _ (fm_cons (hA115.get 4 _ rfl) fm_nil)
  refine t_norm ?_
  refine wp_ret ?_
  refine ret1 rfl hA116 (v := (.bool true)) rfl ?_
  exact ⟨rfl, b108, rd, ev, v75, m106, hge, (hrd.below b108), ho109, (by rw [List.length_append, ← paE_snoc]; exact ho110), oe, off83, ap86⟩
set_option maxHeartbeats 4000000 in
set_option maxRecDepth 4000 in
theorem step_2 (Bd g : Nat) (p : Int) (r : Nat → Int) (rd ev pa : Value) (i : Ins) (d k : Nat) (rds : List Int) (evs : List Ev) (path : List Int) (w : World) (hB : Bd ≤ w.heap.size) (hW : WS Bd g w p r rds evs path rd ev pa) (hne : evs.length ≤ 1000) (hnp : path.length ≤ 1000) (hr : ∀ k, wfI (r k)) (hp : 0 ≤ p) (hp2 : p ≤ 1000) (hd : d < 8) (hk : k < 8) : Calls Try.prog 36 #[.pointer (some ⟨g, 0, none⟩), .agg (insC ⟨2, ((d : Nat) : Int), ((k : Nat) : Int), i.b, i.imm, i.loc, i.off, i.index, i.size, i.fn, i.acq, i.weak, i.rel, i.pred, i.succ, i.to, i.zero⟩)] w fun e w' => e = .returned (.bool true) ∧ Below Bd w w' ∧ ∃ rd' ev' pa', WS Bd g w' (p + 1) (updR r d (r k)) rds evs (path ++ [p]) rd' ev' pa' := by
  obtain ⟨hb, hge, hrd, hev, hpa, oe, op_, ap⟩ := hW
  have ap2 : ∀ k, ev.ownBlock = some k → pa.ownBlock ≠ some k := fun k h1 h2 => ap k h2 h1
  have b0 : Below Bd w w := Below.refl _ _
  refine enter (n := 117) Try.func36 rfl rfl (Nat.le_of_ble_eq_true rfl) ?_
  intro a1 hA2
  refine wp_seq ?_
  refine wp_region_lit ?_
  refine q_step hA2 rfl (d_box (wn rfl) (hA2.ev (v := (.agg (insC ⟨2, ((d : Nat) : Int), ((k : Nat) : Int), i.b, i.imm, i.loc, i.off, i.index, i.size, i.fn, i.acq, i.weak, i.rel, i.pred, i.succ, i.to, i.zero⟩))) rfl) ?_)
  intro g3 w4 eg5 hG6 (m7 : Blk w4 g3 (insC ⟨2, ((d : Nat) : Int), ((k : Nat) : Int), i.b, i.imm, i.loc, i.off, i.index, i.size, i.fn, i.acq, i.weak, i.rel, i.pred, i.succ, i.to, i.zero⟩) 23)
  have ge8 : Bd ≤ g3 := eg5 ▸ (Nat.le_trans hB b0.size)
  have n9 : g ≠ g3 := fun h => Nat.lt_irrefl _ ((h.trans eg5) ▸ hb.lt)
  have off10 := own_new hev eg5
  have off11 := own_new hpa eg5
  have m12 := hb.grow hG6
  have b13 := below_grow b0 hG6 (Nat.le_trans hB b0.size)
  have ho14 := own_grow hG6 hev
  have ho15 := own_grow hG6 hpa
  intro a16 hA17
  refine q_step hA17 rfl (d_assign (wn rfl) (hA17.ev (v := (.bool false)) rfl) ?_)
  intro a18 hA19
  refine q_end ?_
  have hA20 : St 117 [(0, (.pointer (some ⟨g, 0, none⟩))), (3, (.pointer (some ⟨g3, 0, none⟩))), (4, (.bool false))] a18 := hA19.cut _ (fm_cons (hA19.get 0 _ rfl) (fm_cons (hA19.get 3 _ rfl) (fm_cons (hA19.get 4 _ rfl) fm_nil)))
  refine t_norm ?_
  refine wp_seq ?_
  refine wp_region_lit ?_
  refine q_step hA20 rfl (d_move (wn rfl) (hA20.ev (v := (.pointer (some ⟨g, 0, none⟩))) rfl) ?_)
  intro a21 hA22
  refine q_step hA22 rfl (d_nilCheck (wn rfl) (hA22.ev (v := (.pointer (some ⟨g, 0, none⟩))) rfl) ?_)
  intro a23 hA24
  refine q_step hA24 rfl (d_fieldAddr (wn rfl) (hA24.ev (v := (.pointer (some ⟨g, 0, none⟩))) rfl) fo62_0 ?_)
  intro a25 hA26
  refine q_step hA26 rfl (d_load (v := (.int .i64 p)) (wn rfl) (hA26.ev (v := (.pointer (some ⟨g, 0, none⟩))) rfl) one3 (m12.cell rfl) ?_)
  intro a27 hA28
  refine q_step hA28 rfl (d_bin (wn rfl) (hA28.ev (v := (.int .i64 p)) rfl) (hA28.ev (v := (.int .i64 1)) rfl) (b_add _ _ p 1 _ (by omega) (by omega)) ?_)
  intro a29 hA30
  refine q_step hA30 rfl (d_assign (wn rfl) (hA30.ev (v := (.int .i64 (p + 1))) rfl) ?_)
  intro a31 hA32
  refine q_end ?_
  have hA33 : St 117 [(0, (.pointer (some ⟨g, 0, none⟩))), (3, (.pointer (some ⟨g3, 0, none⟩))), (4, (.bool false)), (5, (.int .i64 (p + 1)))] a31 := hA32.cut _ (fm_cons (hA32.get 0 _ rfl) (fm_cons (hA32.get 3 _ rfl) (fm_cons (hA32.get 4 _ rfl) (fm_cons (hA32.get 5 _ rfl) fm_nil))))
  refine t_norm ?_
  refine wp_seq ?_
  refine wp_seq ?_
  refine wp_region_lit ?_
  refine q_step hA33 rfl (d_fieldAddr (wn rfl) (hA33.ev (v := (.pointer (some ⟨g3, 0, none⟩))) rfl) fo23_0 ?_)
  intro a34 hA35
  refine q_step hA35 rfl (d_load (v := (.int .i64 2)) (wn rfl) (hA35.ev (v := (.pointer (some ⟨g3, 0, none⟩))) rfl) one3 (m7.cell rfl) ?_)
  intro a36 hA37
  refine q_end ?_
  have hA38 : St 117 [(0, (.pointer (some ⟨g, 0, none⟩))), (3, (.pointer (some ⟨g3, 0, none⟩))), (4, (.bool false)), (5, (.int .i64 (p + 1))), (12, (.int .i64 2))] a36 := hA37.cut _ (fm_cons (hA37.get 0 _ rfl) (fm_cons (hA37.get 3 _ rfl) (fm_cons (hA37.get 4 _ rfl) (fm_cons (hA37.get 5 _ rfl) (fm_cons (hA37.get 12 _ rfl) fm_nil)))))
  refine t_norm ?_
  refine wp_block ?_
  refine wp_seq ?_
  refine wp_region_lit ?_
  refine q_step hA38 rfl (d_bin (wn rfl) (hA38.ev (v := (.int .i64 2)) rfl) (hA38.ev (v := (.int .i64 1)) rfl) (b_eq _ _ 2 1 false _ rfl) ?_)
  intro a39 hA40
  refine q_step hA40 rfl (d_assign (wn rfl) (hA40.ev (v := (.bool false)) rfl) ?_)
  intro a41 hA42
  refine q_end ?_
  have hA43 : St 117 [(0, (.pointer (some ⟨g, 0, none⟩))), (3, (.pointer (some ⟨g3, 0, none⟩))), (4, (.bool false)), (5, (.int .i64 (p + 1))), (12, (.int .i64 2)), (13, (.bool false))] a41 := hA42.cut _ (fm_cons (hA42.get 0 _ rfl) (fm_cons (hA42.get 3 _ rfl) (fm_cons (hA42.get 4 _ rfl) (fm_cons (hA42.get 5 _ rfl) (fm_cons (hA42.get 12 _ rfl) (fm_cons (hA42.get 13 _ rfl) fm_nil))))))
  refine t_norm ?_
  refine c_false hA43 rfl ?_
  refine wp_seq ?_
  refine wp_region_lit ?_
  refine q_step hA43 rfl (d_bin (wn rfl) (hA43.ev (v := (.int .i64 2)) rfl) (hA43.ev (v := (.int .i64 2)) rfl) (b_eq _ _ 2 2 true _ rfl) ?_)
  intro a44 hA45
  refine q_step hA45 rfl (d_assign (wn rfl) (hA45.ev (v := (.bool true)) rfl) ?_)
  intro a46 hA47
  refine q_end ?_
  have hA48 : St 117 [(0, (.pointer (some ⟨g, 0, none⟩))), (3, (.pointer (some ⟨g3, 0, none⟩))), (4, (.bool false)), (5, (.int .i64 (p + 1))), (12, (.int .i64 2)), (23, (.bool true))] a46 := hA47.cut _ (fm_cons (hA47.get 0 _ rfl) (fm_cons (hA47.get 3 _ rfl) (fm_cons (hA47.get 4 _ rfl) (fm_cons (hA47.get 5 _ rfl) (fm_cons (hA47.get 12 _ rfl) (fm_cons (hA47.get 23 _ rfl) fm_nil))))))
  refine t_norm ?_
  refine c_true hA48 rfl ?_
  have hA49 : St 117 [(0, (.pointer (some ⟨g, 0, none⟩))), (3, (.pointer (some ⟨g3, 0, none⟩))), (4, (.bool false)), (5, (.int .i64 (p + 1)))] a46 := hA48.cut _ (fm_cons (hA48.get 0 _ rfl) (fm_cons (hA48.get 3 _ rfl) (fm_cons (hA48.get 4 _ rfl) (fm_cons (hA48.get 5 _ rfl) fm_nil))))
  let M50 : Nat → Option (Array Value) := fun _ => none
  have hM50 : M50 = fun _ => none := rfl
  clear_value M50
  have hM50A : ∀ k, M50 k = none := fun k => congrFun hM50 k
  have hM50B : ∀ k, k < Bd → M50 k = none := fun k _ => hM50A k
  refine drawnL (S := SM M50) rfl (tabL [cv (.pointer (some ⟨g, 0, none⟩)), cv (.pointer (some ⟨g3, 1, none⟩)), cv (.int .i64 ((d : Nat) : Int)), cv (.pointer (some ⟨g, 0, none⟩)), cv (.pointer (some ⟨g3, 2, none⟩)), cv (.int .i64 ((k : Nat) : Int)), cv (.pointer (some ⟨g, 0, none⟩)), cv (.pointer (some ⟨g, 1, none⟩)), cv (.pointer (some ⟨g, 1 + k, none⟩)), cv (.int .i64 (r k)), cv (.pointer (some ⟨g, 0, none⟩)), cv (.pointer (some ⟨g, 1, none⟩)), cv (.pointer (some ⟨g, 1 + d, none⟩))]) none (fun _ => none) (fun _ _ => True) [12, 9, 0, 1, 2, 3, 4, 5, 6, 7, 8, 11, 10] [] mixedY SM.refl SM.trans hA49 (by kernel_rfl) (by kernel_rfl) (fun i v u w h => by cases h) ?_ ?_
  · skip
    refine eachD_cons (.inl ⟨nofun, rfl, fun x y hS hT hk => d_move (wn rfl) (hT.ev (v := (.pointer (some ⟨g, 0, none⟩))) rfl) ⟨SM.refl _, rfl⟩⟩) ?_
    refine eachD_cons (.inl ⟨nofun, rfl, fun x y hS hT hk => d_fieldAddr (wn rfl) (hT.ev (v := (.pointer (some ⟨g3, 0, none⟩))) rfl) fo23_1 ⟨SM.refl _, rfl⟩⟩) ?_
    refine eachD_cons (.inl ⟨nofun, rfl, fun x y hS hT hk => d_load (v := (.int .i64 ((d : Nat) : Int))) (wn rfl) (hk 1 rfl) one3 ((Blk.sm (w := w4.drew) m7 hS (hM50A _)).cell rfl) ⟨SM.refl _, rfl⟩⟩) ?_
    refine eachD_cons (.inl ⟨nofun, rfl, fun x y hS hT hk => d_move (wn rfl) (hT.ev (v := (.pointer (some ⟨g, 0, none⟩))) rfl) ⟨SM.refl _, rfl⟩⟩) ?_
    refine eachD_cons (.inl ⟨nofun, rfl, fun x y hS hT hk => d_fieldAddr (wn rfl) (hT.ev (v := (.pointer (some ⟨g3, 0, none⟩))) rfl) fo23_2 ⟨SM.refl _, rfl⟩⟩) ?_
    refine eachD_cons (.inl ⟨nofun, rfl, fun x y hS hT hk => d_load (v := (.int .i64 ((k : Nat) : Int))) (wn rfl) (hk 4 rfl) one3 ((Blk.sm (w := w4.drew) m7 hS (hM50A _)).cell rfl) ⟨SM.refl _, rfl⟩⟩) ?_
    refine eachD_cons (.inl ⟨nofun, rfl, fun x y hS hT hk => d_nilCheck (wn rfl) (hk 3 rfl) ⟨SM.refl _, rfl⟩⟩) ?_
    refine eachD_cons (.inl ⟨nofun, rfl, fun x y hS hT hk => d_fieldAddr (wn rfl) (hk 6 rfl) fo62_1 ⟨SM.refl _, rfl⟩⟩) ?_
    refine eachD_cons (.inl ⟨nofun, rfl, fun x y hS hT hk => d_indexArrP (j := k) (p := 1 + k) (wn rfl) (hk 7 rfl) (hk 5 rfl) arr43 (by omega) (by omega) ⟨SM.refl _, rfl⟩⟩) ?_
    refine eachD_cons (.inl ⟨nofun, rfl, fun x y hS hT hk => d_load (v := (.int .i64 (r k))) (wn rfl) (hk 8 rfl) one3 ((Blk.sm (w := w4.drew) m12 hS (hM50A _)).cell (walk_get (by omega))) ⟨SM.refl _, rfl⟩⟩) ?_
    refine eachD_cons (.inl ⟨nofun, rfl, fun x y hS hT hk => d_nilCheck (wn rfl) (hk 0 rfl) ⟨SM.refl _, rfl⟩⟩) ?_
    refine eachD_cons (.inl ⟨nofun, rfl, fun x y hS hT hk => d_fieldAddr (wn rfl) (hk 10 rfl) fo62_1 ⟨SM.refl _, rfl⟩⟩) ?_
    refine eachD_cons (.inl ⟨nofun, rfl, fun x y hS hT hk => d_indexArrP (j := d) (p := 1 + d) (wn rfl) (hk 11 rfl) (hk 2 rfl) arr43 (by omega) (by omega) ⟨SM.refl _, rfl⟩⟩) ?_
    exact eachD_one
  rintro a51 w52 hA53 ⟨hS55, hC56⟩
  have hA57 : St 117 [(0, (.pointer (some ⟨g, 0, none⟩))), (4, (.bool false)), (5, (.int .i64 (p + 1))), (34, (.int .i64 (r k))), (37, (.pointer (some ⟨g, 1 + d, none⟩)))] a51 := hA53.cut _ (fm_cons (hA53.get 0 _ rfl) (fm_cons (hA53.get 4 _ rfl) (fm_cons (hA53.get 5 _ rfl) (fm_cons (hC56 9 (Nat.le_of_ble_eq_true rfl)) (fm_cons (hC56 12 (Nat.le_of_ble_eq_true rfl)) fm_nil)))))
  have hG58 : Grow w4 w52 := Grow.trans ((Grow.refl _).drew) (SM.grown (by rw [hM50] at hS55; exact hS55))
  have m59 := m12.grow hG58
  have m60 := m7.grow hG58
  have b61 := below_grow b13 hG58 (Nat.le_trans hB b13.size)
  have ho62 := own_grow hG58 ho14
  have ho63 := own_grow hG58 ho15
  refine d_store (v := (.int .i64 (r k))) (wn rfl) (hA57.ev (v := (.pointer (some ⟨g, 1 + d, none⟩))) rfl) (hA57.ev (v := (.int .i64 (r k))) rfl) one3 rfl m59 (by rw [walk_size]; omega) ?_
  intro w64 hU65 m66
  rw [walk_set (by omega)] at m66
  have m67 := m60.upd hU65 (Ne.symm n9)
  have b68 := hU65.below b61 hge
  have ho69 := own_upd ho62 hU65 oe
  have ho70 := own_upd ho63 hU65 op_
  have hA71 : St 117 [(0, (.pointer (some ⟨g, 0, none⟩))), (4, (.bool false)), (5, (.int .i64 (p + 1)))] a51 := hA57.cut _ (fm_cons (hA57.get 0 _ rfl) (fm_cons (hA57.get 4 _ rfl) (fm_cons (hA57.get 5 _ rfl) fm_nil)))
  refine i_norm ?_
  refine t_norm ?_
  refine wp_seq ?_
  have hA72 : St 117 [(0, (.pointer (some ⟨g, 0, none⟩))), (4, (.bool false)), (5, (.int .i64 (p + 1)))] a51 := hA71.cut _ (fm_cons (hA71.get 0 _ rfl) (fm_cons (hA71.get 4 _ rfl) (fm_cons (hA71.get 5 _ rfl) fm_nil)))
  let M73 : Nat → Option (Array Value) := fun _ => none
  have hM73 : M73 = fun _ => none := rfl
  clear_value M73
  have hM73A : ∀ k, M73 k = none := fun k => congrFun hM73 k
  have hM73B : ∀ k, k < Bd → M73 k = none := fun k _ => hM73A k
  refine drawnL (S := SM M73) rfl (tabQ [some (.pointer (some ⟨g, 0, none⟩)), some (.pointer (some ⟨g, 0, none⟩)), some (.pointer (some ⟨g, 0, none⟩)), some (.pointer (some ⟨g, 11, none⟩)), none, some (.pointer (some ⟨g, 0, none⟩)), some (.pointer (some ⟨g, 0, none⟩)), some (.pointer (some ⟨g, 0, none⟩)), none, none, none, some (.pointer (some ⟨g, 0, none⟩)), some (.pointer (some ⟨g, 11, none⟩))] [cv (.pointer (some ⟨g, 0, none⟩)), cv (.pointer (some ⟨g, 0, none⟩)), cv (.pointer (some ⟨g, 0, none⟩)), cv (.pointer (some ⟨g, 11, none⟩)), cv pa, cv (.pointer (some ⟨g, 0, none⟩)), cv (.pointer (some ⟨g, 0, none⟩)), cv (.pointer (some ⟨g, 0, none⟩)), cv (.int .i64 p), cs1 M73 hM73A #[.int .i64 p] 3, cfree, cv (.pointer (some ⟨g, 0, none⟩)), cv (.pointer (some ⟨g, 11, none⟩))]) (some 10) (fun i => (([some (.pointer (some ⟨g, 0, none⟩)), some (.pointer (some ⟨g, 0, none⟩)), some (.pointer (some ⟨g, 0, none⟩)), some (.pointer (some ⟨g, 11, none⟩)), none, some (.pointer (some ⟨g, 0, none⟩)), some (.pointer (some ⟨g, 0, none⟩)), some (.pointer (some ⟨g, 0, none⟩)), none, none, none, some (.pointer (some ⟨g, 0, none⟩)), some (.pointer (some ⟨g, 11, none⟩))] : List (Option Value))[i]?).getD none) (fun v' w' => w'.ownsRow Bd 3 1 v' (path.length + 1) ((paE path) ++ (#[.int .i64 p] : Array Value).toList) ∧ Below Bd w w' ∧ Blk w' g (walkC p (updR r d (r k)) rd ev pa) 62 ∧ Blk w' g3 (insC ⟨2, ((d : Nat) : Int), ((k : Nat) : Int), i.b, i.imm, i.loc, i.off, i.index, i.size, i.fn, i.acq, i.weak, i.rel, i.pred, i.succ, i.to, i.zero⟩) 23 ∧ w'.ownsRow Bd 52 15 ev evs.length (evE evs) ∧ v'.ownBlock ≠ some g ∧ v'.ownBlock ≠ some g3 ∧ ∀ k, ev.ownBlock = some k → v'.ownBlock ≠ some k) [12, 10, 0, 1, 2, 3, 4, 5, 6, 7, 8, 9, 11] [4, 9, 3, 8, 2, 7, 1, 6, 5] mixedY SM.refl SM.trans hA72 (by kernel_rfl) (by kernel_rfl) (tabQ_cv _ _) ?_ ?_
  · skip
    refine eachD_cons (.inr (.inl ⟨by decide, _, rfl, fun x y hT hk hk0 => d_move (wn rfl) (hT.ev (v := (.pointer (some ⟨g, 0, none⟩))) rfl) ⟨rfl, rfl⟩⟩)) ?_
    refine eachD_cons (.inr (.inl ⟨by decide, _, rfl, fun x y hT hk hk0 => d_move (wn rfl) (hT.ev (v := (.pointer (some ⟨g, 0, none⟩))) rfl) ⟨rfl, rfl⟩⟩)) ?_
    refine eachD_cons (.inr (.inl ⟨by decide, _, rfl, fun x y hT hk hk0 => d_nilCheck (wn rfl) (hk 1 _ rfl rfl) ⟨rfl, rfl⟩⟩)) ?_
    refine eachD_cons (.inr (.inl ⟨by decide, _, rfl, fun x y hT hk hk0 => d_fieldAddr (wn rfl) (hk 2 _ rfl rfl) fo62_4 ⟨rfl, rfl⟩⟩)) ?_
    refine eachD_cons (.inl ⟨by decide, rfl, fun x y hS hT hk => d_load (v := pa) (wn rfl) (hk 3 rfl) one30 ((Blk.sm (w := w64.drew) m66 hS (hM73A _)).cell rfl) ⟨SM.refl _, rfl⟩⟩) ?_
    refine eachD_cons (.inr (.inl ⟨by decide, _, rfl, fun x y hT hk hk0 => d_move (wn rfl) (hT.ev (v := (.pointer (some ⟨g, 0, none⟩))) rfl) ⟨rfl, rfl⟩⟩)) ?_
    refine eachD_cons (.inr (.inl ⟨by decide, _, rfl, fun x y hT hk hk0 => d_nilCheck (wn rfl) (hk 5 _ rfl rfl) ⟨rfl, rfl⟩⟩)) ?_
    refine eachD_cons (.inr (.inl ⟨by decide, _, rfl, fun x y hT hk hk0 => d_fieldAddr (wn rfl) (hk 6 _ rfl rfl) fo62_0 ⟨rfl, rfl⟩⟩)) ?_
    refine eachD_cons (.inl ⟨by decide, rfl, fun x y hS hT hk => d_load (v := (.int .i64 p)) (wn rfl) (hk 7 rfl) one3 ((Blk.sm (w := w64.drew) m66 hS (hM73A _)).cell rfl) ⟨SM.refl _, rfl⟩⟩) ?_
    refine eachD_cons (.inl ⟨by decide, rfl, fun x y hS hT hk => d_slice1 (wn rfl) (show x.eval _ = (.int .i64 p) from (hk 8 rfl)) elm30 rfl (by decide) (fun g w' _ hG hb => ⟨SM.grow hG, g, rfl, hb⟩)⟩) ?_
    refine eachD_cons (.inr (.inr ⟨rfl, fun x y hS hT hk => ?_⟩)) ?_
    · skip
      obtain ⟨gb, hvb, hbb⟩ := hk 9 rfl
      have hG : Grow w64 y := Grow.trans ((Grow.refl _).drew) (SM.grown (by rw [hM73] at hS; exact hS))
      have hR := own_grow hG ho70
      have hO := own_grow hG ho69
      have hBl := below_grow b68 hG (Nat.le_trans hB b68.size)
      refine d_append (wn rfl) (show x.eval _ = pa from (hk 4 rfl)) hvb elm30 hR hbb rfl rfl (by omega) (by decide) (Nat.le_trans hB hBl.size) ?_
      intro v' w' h1 h2 h3
      exact ⟨h1, below_by hBl h2 (Nat.le_trans hB hBl.size) (fun k hk => (own_lt hR k hk).1), (m66.grow hG).by h2 op_, (m67.grow hG).by h2 off11, own_by hO h2 ap2, lies_ne h3 op_ (m66.grow hG).lt, lies_ne h3 off11 (m67.grow hG).lt, lies_ap h3 ap2 hO⟩
    refine eachD_cons (.inr (.inl ⟨by decide, _, rfl, fun x y hT hk hk0 => d_nilCheck (wn rfl) (hk 0 _ rfl rfl) ⟨rfl, rfl⟩⟩)) ?_
    refine eachD_cons (.inr (.inl ⟨by decide, _, rfl, fun x y hT hk hk0 => d_fieldAddr (wn rfl) (hk 11 _ rfl rfl) fo62_4 ⟨rfl, rfl⟩⟩)) ?_
    exact eachD_one
  rintro a74 w75 hA76 ⟨hP78, hW79⟩
  obtain ⟨v80, hv81⟩ : ∃ v', v' = (a74.tmps.getD 110 undef) := ⟨_, rfl⟩
  have hW82 : (fun v' w' => w'.ownsRow Bd 3 1 v' (path.length + 1) ((paE path) ++ (#[.int .i64 p] : Array Value).toList) ∧ Below Bd w w' ∧ Blk w' g (walkC p (updR r d (r k)) rd ev pa) 62 ∧ Blk w' g3 (insC ⟨2, ((d : Nat) : Int), ((k : Nat) : Int), i.b, i.imm, i.loc, i.off, i.index, i.size, i.fn, i.acq, i.weak, i.rel, i.pred, i.succ, i.to, i.zero⟩) 23 ∧ w'.ownsRow Bd 52 15 ev evs.length (evE evs) ∧ v'.ownBlock ≠ some g ∧ v'.ownBlock ≠ some g3 ∧ ∀ k, ev.ownBlock = some k → v'.ownBlock ≠ some k) v80 w75 := by rw [hv81]; exact hW79
  obtain ⟨ho83, b84, m85, m86, ho87, off88, off89, ap90⟩ := hW82
  have ap91 : ∀ k, v80.ownBlock = some k → ev.ownBlock ≠ some k := fun k h1 h2 => ap90 k h2 h1
  have hA92 : St 117 [(0, (.pointer (some ⟨g, 0, none⟩))), (4, (.bool false)), (5, (.int .i64 (p + 1))), (110, v80), (112, (.pointer (some ⟨g, 11, none⟩)))] a74 := hA76.cut _ (fm_cons (hA76.get 0 _ rfl) (fm_cons (hA76.get 4 _ rfl) (fm_cons (hA76.get 5 _ rfl) (fm_cons hv81.symm (fm_cons (hP78 12 _ (Nat.le_of_ble_eq_true rfl) (by decide) rfl) fm_nil)))))
  refine d_store (v := v80) (wn rfl) (hA92.ev (v := (.pointer (some ⟨g, 11, none⟩))) rfl) (hA92.ev (v := v80) rfl) one30 (one_slice (own_form ho83)) m85 (Nat.le_of_ble_eq_true rfl) ?_
  intro w93 hU94 (m95 : Blk w93 g (walkC p (updR r d (r k)) rd ev v80) 62)
  have m96 := m86.upd hU94 (Ne.symm n9)
  have b97 := hU94.below b84 hge
  have ho98 := own_upd ho87 hU94 oe
  have ho99 := own_upd ho83 hU94 off88
  have hA100 : St 117 [(0, (.pointer (some ⟨g, 0, none⟩))), (4, (.bool false)), (5, (.int .i64 (p + 1)))] a74 := hA92.cut _ (fm_cons (hA92.get 0 _ rfl) (fm_cons (hA92.get 4 _ rfl) (fm_cons (hA92.get 5 _ rfl) fm_nil)))
  refine t_norm ?_
  refine wp_seq ?_
  refine wp_region_lit ?_
  refine q_step hA100 rfl (d_move (wn rfl) (hA100.ev (v := (.pointer (some ⟨g, 0, none⟩))) rfl) ?_)
  intro a101 hA102
  refine q_step hA102 rfl (d_move (wn rfl) (hA102.ev (v := (.int .i64 (p + 1))) rfl) ?_)
  intro a103 hA104
  refine q_step hA104 rfl (d_nilCheck (wn rfl) (hA104.ev (v := (.pointer (some ⟨g, 0, none⟩))) rfl) ?_)
  intro a105 hA106
  refine q_step hA106 rfl (d_fieldAddr (wn rfl) (hA106.ev (v := (.pointer (some ⟨g, 0, none⟩))) rfl) fo62_0 ?_)
  intro a107 hA108
  refine q_step hA108 rfl (d_store (v := (.int .i64 (p + 1))) (wn rfl) (hA108.ev (v := (.pointer (some ⟨g, 0, none⟩))) rfl) (hA108.ev (v := (.int .i64 (p + 1))) rfl) one3 rfl m95 (Nat.le_of_ble_eq_true rfl) ?_)
  intro w109 hU110 (m111 : Blk w109 g (walkC (p + 1) (updR r d (r k)) rd ev v80) 62)
  have m112 := m96.upd hU110 (Ne.symm n9)
  have b113 := hU110.below b97 hge
  have ho114 := own_upd ho98 hU110 oe
  have ho115 := own_upd ho99 hU110 off88
  intro a116 hA117
  refine q_end ?_
  have hA118 : St 117 [(4, (.bool false))] a116 := hA117.cut _ (fm_cons (hA117.get 4 _ rfl) fm_nil)
  refine t_norm ?_
  refine wp_seq ?_
  refine wp_region_lit ?_
  refine q_step hA118 rfl (d_assign (wn rfl) (hA118.ev (v := (.bool true)) rfl) ?_)
  intro a119 hA120
  refine q_end ?_
  have hA121 : St 117 [(4, (.bool true))] a119 := hA120.cut _ (fm_cons (hA120.get 4 _ rfl) fm_nil)
  refine t_norm ?_
  refine wp_ret ?_
  refine ret1 rfl hA121 (v := (.bool true)) rfl ?_
  exact ⟨rfl, b113, rd, ev, v80, m111, hge, (hrd.below b113), ho114, (by rw [List.length_append, ← paE_snoc]; exact ho115), oe, off88, ap91⟩
end Go.Proofs.Ytlhompedcphnnaa
