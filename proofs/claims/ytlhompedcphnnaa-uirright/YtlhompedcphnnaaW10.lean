/- A step of the walk. -/
import Derived.Test.YtlhompedcphnnaaW4
import Derived.Test.YtlhompedcphnnaaW5
import Derived.Test.YtlhompedcphnnaaW6
namespace Go.Proofs.Ytlhompedcphnnaa
open Go.RowKit
set_option linter.unusedSimpArgs false
set_option linter.unusedVariables false
set_option maxHeartbeats 4000000 in
set_option maxRecDepth 4000 in
theorem step_5 (Bd g : Nat) (p : Int) (r : Nat → Int) (rd ev pa : Value) (i : Ins) (rds : List Int) (evs : List Ev) (path : List Int) (w : World) (hB : Bd ≤ w.heap.size) (hW : WS Bd g w p r rds evs path rd ev pa) (hne : evs.length ≤ 1000) (hnp : path.length ≤ 1000) (hr : ∀ k, wfI (r k)) (hp : 0 ≤ p) (hp2 : p ≤ 1000) (hix : ronB i.index = true) (hoff : wfI i.off) (ha : ronB i.a = true) (himm : wfI i.imm) : Calls Try.prog 36 #[.pointer (some ⟨g, 0, none⟩), .agg (insC ⟨5, i.dst, i.a, i.b, i.imm, i.loc, i.off, i.index, i.size, i.fn, i.acq, i.weak, i.rel, i.pred, i.succ, i.to, i.zero⟩)] w fun e w' => e = .returned (.bool true) ∧ Below Bd w w' ∧ ∃ rd' ev' pa', WS Bd g w' (p + 1) r rds (evs ++ [acc5 i r path.length p]) (path ++ [p]) rd' ev' pa' := by
  obtain ⟨hb, hge, hrd, hev, hpa, oe, op_, ap⟩ := hW
  have ap2 : ∀ k, ev.ownBlock = some k → pa.ownBlock ≠ some k := fun k h1 h2 => ap k h2 h1
  have b0 : Below Bd w w := Below.refl _ _
  refine enter (n := 117) Try.func36 rfl rfl (Nat.le_of_ble_eq_true rfl) ?_
  intro a1 hA2
  refine wp_seq ?_
  refine wp_region_lit ?_
  refine q_step hA2 rfl (d_box (wn rfl) (hA2.ev (v := (.agg (insC ⟨5, i.dst, i.a, i.b, i.imm, i.loc, i.off, i.index, i.size, i.fn, i.acq, i.weak, i.rel, i.pred, i.succ, i.to, i.zero⟩))) rfl) ?_)
  intro g3 w4 eg5 hG6 (m7 : Blk w4 g3 (insC ⟨5, i.dst, i.a, i.b, i.imm, i.loc, i.off, i.index, i.size, i.fn, i.acq, i.weak, i.rel, i.pred, i.succ, i.to, i.zero⟩) 23)
  have ge8 : Bd ≤ g3 := eg5 ▸ (Nat.le_trans hB b0.size)
  have n9 : g ≠ g3 := fun h => Nat.lt_irrefl _ ((h.trans eg5) ▸ hb.lt)
  have off10 := own_new hev eg5
  have off11 := own_new hpa eg5
  have m12 := hb.grow hG6
  have b13 := below_grow b0 hG6 (Nat.le_trans hB b0.size)
  have ho14 := own_grow hG6 hev
  have ho15 := own_grow hG6 hpa
  intro a16 hA17
  refine q_step hA17 rfl (d_assign (wn rfl) (hA17.ev (v := (.bool false)) rfl) ?_)
  intro a18 hA19
  refine q_end ?_
  have hA20 : St 117 [(0, (.pointer (some ⟨g, 0, none⟩))), (3, (.pointer (some ⟨g3, 0, none⟩))), (4, (.bool false))] a18 := hA19.cut _ (fm_cons (hA19.get 0 _ rfl) (fm_cons (hA19.get 3 _ rfl) (fm_cons (hA19.get 4 _ rfl) fm_nil)))
  refine t_norm ?_
  refine wp_seq ?_
  refine wp_region_lit ?_
  refine q_step hA20 rfl (d_move (wn rfl) (hA20.ev (v := (.pointer (some ⟨g, 0, none⟩))) rfl) ?_)
  intro a21 hA22
  refine q_step hA22 rfl (d_nilCheck (wn rfl) (hA22.ev (v := (.pointer (some ⟨g, 0, none⟩))) rfl) ?_)
  intro a23 hA24
  refine q_step hA24 rfl (d_fieldAddr (wn rfl) (hA24.ev (v := (.pointer (some ⟨g, 0, none⟩))) rfl) fo62_0 ?_)
  intro a25 hA26
  refine q_step hA26 rfl (d_load (v := (.int .i64 p)) (wn rfl) (hA26.ev (v := (.pointer (some ⟨g, 0, none⟩))) rfl) one3 (m12.cell rfl) ?_)
  intro a27 hA28
  refine q_step hA28 rfl (d_bin (wn rfl) (hA28.ev (v := (.int .i64 p)) rfl) (hA28.ev (v := (.int .i64 1)) rfl) (b_add _ _ p 1 _ (by omega) (by omega)) ?_)
  intro a29 hA30
  refine q_step hA30 rfl (d_assign (wn rfl) (hA30.ev (v := (.int .i64 (p + 1))) rfl) ?_)
  intro a31 hA32
  refine q_end ?_
  have hA33 : St 117 [(0, (.pointer (some ⟨g, 0, none⟩))), (3, (.pointer (some ⟨g3, 0, none⟩))), (4, (.bool false)), (5, (.int .i64 (p + 1)))] a31 := hA32.cut _ (fm_cons (hA32.get 0 _ rfl) (fm_cons (hA32.get 3 _ rfl) (fm_cons (hA32.get 4 _ rfl) (fm_cons (hA32.get 5 _ rfl) fm_nil))))
  refine t_norm ?_
  refine wp_seq ?_
  refine wp_seq ?_
  refine wp_region_lit ?_
  refine q_step hA33 rfl (d_fieldAddr (wn rfl) (hA33.ev (v := (.pointer (some ⟨g3, 0, none⟩))) rfl) fo23_0 ?_)
  intro a34 hA35
  refine q_step hA35 rfl (d_load (v := (.int .i64 5)) (wn rfl) (hA35.ev (v := (.pointer (some ⟨g3, 0, none⟩))) rfl) one3 (m7.cell rfl) ?_)
  intro a36 hA37
  refine q_end ?_
  have hA38 : St 117 [(0, (.pointer (some ⟨g, 0, none⟩))), (3, (.pointer (some ⟨g3, 0, none⟩))), (4, (.bool false)), (5, (.int .i64 (p + 1))), (12, (.int .i64 5))] a36 := hA37.cut _ (fm_cons (hA37.get 0 _ rfl) (fm_cons (hA37.get 3 _ rfl) (fm_cons (hA37.get 4 _ rfl) (fm_cons (hA37.get 5 _ rfl) (fm_cons (hA37.get 12 _ rfl) fm_nil)))))
  refine t_norm ?_
  refine wp_block ?_
  refine wp_seq ?_
  refine wp_region_lit ?_
  refine q_step hA38 rfl (d_bin (wn rfl) (hA38.ev (v := (.int .i64 5)) rfl) (hA38.ev (v := (.int .i64 1)) rfl) (b_eq _ _ 5 1 false _ rfl) ?_)
  intro a39 hA40
  refine q_step hA40 rfl (d_assign (wn rfl) (hA40.ev (v := (.bool false)) rfl) ?_)
  intro a41 hA42
  refine q_end ?_
  have hA43 : St 117 [(0, (.pointer (some ⟨g, 0, none⟩))), (3, (.pointer (some ⟨g3, 0, none⟩))), (4, (.bool false)), (5, (.int .i64 (p + 1))), (12, (.int .i64 5)), (13, (.bool false))] a41 := hA42.cut _ (fm_cons (hA42.get 0 _ rfl) (fm_cons (hA42.get 3 _ rfl) (fm_cons (hA42.get 4 _ rfl) (fm_cons (hA42.get 5 _ rfl) (fm_cons (hA42.get 12 _ rfl) (fm_cons (hA42.get 13 _ rfl) fm_nil))))))
  refine t_norm ?_
  refine c_false hA43 rfl ?_
  refine wp_seq ?_
  refine wp_region_lit ?_
  refine q_step hA43 rfl (d_bin (wn rfl) (hA43.ev (v := (.int .i64 5)) rfl) (hA43.ev (v := (.int .i64 2)) rfl) (b_eq _ _ 5 2 false _ rfl) ?_)
  intro a44 hA45
  refine q_step hA45 rfl (d_assign (wn rfl) (hA45.ev (v := (.bool false)) rfl) ?_)
  intro a46 hA47
  refine q_end ?_
  have hA48 : St 117 [(0, (.pointer (some ⟨g, 0, none⟩))), (3, (.pointer (some ⟨g3, 0, none⟩))), (4, (.bool false)), (5, (.int .i64 (p + 1))), (12, (.int .i64 5)), (23, (.bool false))] a46 := hA47.cut _ (fm_cons (hA47.get 0 _ rfl) (fm_cons (hA47.get 3 _ rfl) (fm_cons (hA47.get 4 _ rfl) (fm_cons (hA47.get 5 _ rfl) (fm_cons (hA47.get 12 _ rfl) (fm_cons (hA47.get 23 _ rfl) fm_nil))))))
  refine t_norm ?_
  refine c_false hA48 rfl ?_
  refine wp_seq ?_
  refine wp_region_lit ?_
  refine q_step hA48 rfl (d_bin (wn rfl) (hA48.ev (v := (.int .i64 5)) rfl) (hA48.ev (v := (.int .i64 3)) rfl) (b_eq _ _ 5 3 false _ rfl) ?_)
  intro a49 hA50
  refine q_step hA50 rfl (d_assign (wn rfl) (hA50.ev (v := (.bool false)) rfl) ?_)
  intro a51 hA52
  refine q_end ?_
  have hA53 : St 117 [(0, (.pointer (some ⟨g, 0, none⟩))), (3, (.pointer (some ⟨g3, 0, none⟩))), (4, (.bool false)), (5, (.int .i64 (p + 1))), (12, (.int .i64 5)), (38, (.bool false))] a51 := hA52.cut _ (fm_cons (hA52.get 0 _ rfl) (fm_cons (hA52.get 3 _ rfl) (fm_cons (hA52.get 4 _ rfl) (fm_cons (hA52.get 5 _ rfl) (fm_cons (hA52.get 12 _ rfl) (fm_cons (hA52.get 38 _ rfl) fm_nil))))))
  refine t_norm ?_
  refine c_false hA53 rfl ?_
  refine wp_seq ?_
  refine wp_seq ?_
  refine wp_region_lit ?_
  refine q_step hA53 rfl (d_bin (wn rfl) (hA53.ev (v := (.int .i64 5)) rfl) (hA53.ev (v := (.int .i64 4)) rfl) (b_eq _ _ 5 4 false _ rfl) ?_)
  intro a54 hA55
  refine q_step hA55 rfl (d_assign (wn rfl) (hA55.ev (v := (.bool false)) rfl) ?_)
  intro a56 hA57
  refine q_end ?_
  have hA58 : St 117 [(0, (.pointer (some ⟨g, 0, none⟩))), (3, (.pointer (some ⟨g3, 0, none⟩))), (4, (.bool false)), (5, (.int .i64 (p + 1))), (12, (.int .i64 5)), (62, (.bool false))] a56 := hA57.cut _ (fm_cons (hA57.get 0 _ rfl) (fm_cons (hA57.get 3 _ rfl) (fm_cons (hA57.get 4 _ rfl) (fm_cons (hA57.get 5 _ rfl) (fm_cons (hA57.get 12 _ rfl) (fm_cons (hA57.get 62 _ rfl) fm_nil))))))
  refine t_norm ?_
  refine c_false hA58 rfl ?_
  refine wp_seq ?_
  refine wp_region_lit ?_
  refine q_step hA58 rfl (d_bin (wn rfl) (hA58.ev (v := (.int .i64 5)) rfl) (hA58.ev (v := (.int .i64 5)) rfl) (b_eq _ _ 5 5 true _ rfl) ?_)
  intro a59 hA60
  refine q_step hA60 rfl (d_assign (wn rfl) (hA60.ev (v := (.bool true)) rfl) ?_)
  intro a61 hA62
  refine q_end ?_
  have hA63 : St 117 [(0, (.pointer (some ⟨g, 0, none⟩))), (3, (.pointer (some ⟨g3, 0, none⟩))), (4, (.bool false)), (5, (.int .i64 (p + 1))), (12, (.int .i64 5)), (62, (.bool true))] a61 := hA62.cut _ (fm_cons (hA62.get 0 _ rfl) (fm_cons (hA62.get 3 _ rfl) (fm_cons (hA62.get 4 _ rfl) (fm_cons (hA62.get 5 _ rfl) (fm_cons (hA62.get 12 _ rfl) (fm_cons (hA62.get 62 _ rfl) fm_nil))))))
  refine t_norm ?_
  refine c_true hA63 rfl ?_
  refine wp_skip ?_
  refine t_norm ?_
  refine c_true hA63 rfl ?_
  refine wp_seq ?_
  refine wp_region_lit ?_
  refine q_step hA63 rfl (d_move (wn rfl) (hA63.ev (v := (.pointer (some ⟨g, 0, none⟩))) rfl) ?_)
  intro a64 hA65
  refine q_step hA65 rfl (d_loadRow (cs := (insC ⟨5, i.dst, i.a, i.b, i.imm, i.loc, i.off, i.index, i.size, i.fn, i.acq, i.weak, i.rel, i.pred, i.succ, i.to, i.zero⟩)) (wn rfl) (hA65.ev (v := (.pointer (some ⟨g3, 0, none⟩))) rfl) row23 m7 ?_)
  intro a66 hA67
  refine q_step hA67 rfl (d_call (wn rfl) ent48 (map2 (hA67.ev (v := (.pointer (some ⟨g, 0, none⟩))) rfl) (hA67.ev (v := (.agg (insC ⟨5, i.dst, i.a, i.b, i.imm, i.loc, i.off, i.index, i.size, i.fn, i.acq, i.weak, i.rel, i.pred, i.succ, i.to, i.zero⟩))) rfl)) (access_5 Bd g p r rd ev pa i rds evs path w4 (Nat.le_trans hB b13.size) ⟨m12, hge, (hrd.below b13), ho14, ho15, oe, op_, ap⟩ hne hnp hr hix hoff ha himm) ?_)
  rintro e71 w68 ⟨he70, bl72, rd73, ev74, pa75, hb76, _, hrd77, hev78, hpa79, oe80, op81, ap82⟩
  have ap83 : ∀ k, ev74.ownBlock = some k → pa75.ownBlock ≠ some k := fun k h1 h2 => ap82 k h2 h1
  have b84 := b13.trans bl72
  refine ⟨.bool true, he70, ?_⟩
  intro a85 hA86
  refine q_step hA86 rfl (d_not (wn rfl) (hA86.ev (v := (.bool true)) rfl) ?_)
  intro a87 hA88
  refine q_end ?_
  have hA89 : St 117 [(0, (.pointer (some ⟨g, 0, none⟩))), (4, (.bool false)), (5, (.int .i64 (p + 1))), (69, (.bool false))] a87 := hA88.cut _ (fm_cons (hA88.get 0 _ rfl) (fm_cons (hA88.get 4 _ rfl) (fm_cons (hA88.get 5 _ rfl) (fm_cons (hA88.get 69 _ rfl) fm_nil))))
  refine t_norm ?_
  refine c_false hA89 rfl ?_
  refine wp_skip ?_
  refine i_norm ?_
  refine t_norm ?_
  refine wp_seq ?_
  have hA90 : St 117 [(0, (.pointer (some ⟨g, 0, none⟩))), (4, (.bool false)), (5, (.int .i64 (p + 1)))] a87 := hA89.cut _ (fm_cons (hA89.get 0 _ rfl) (fm_cons (hA89.get 4 _ rfl) (fm_cons (hA89.get 5 _ rfl) fm_nil)))
  let M91 : Nat → Option (Array Value) := fun _ => none
  have hM91 : M91 = fun _ => none := rfl
  clear_value M91
  have hM91A : ∀ k, M91 k = none := fun k => congrFun hM91 k
  have hM91B : ∀ k, k < Bd → M91 k = none := fun k _ => hM91A k
  refine drawnL (S := SM M91) rfl (tabQ [some (.pointer (some ⟨g, 0, none⟩)), some (.pointer (some ⟨g, 0, none⟩)), some (.pointer (some ⟨g, 0, none⟩)), some (.pointer (some ⟨g, 11, none⟩)), none, some (.pointer (some ⟨g, 0, none⟩)), some (.pointer (some ⟨g, 0, none⟩)), some (.pointer (some ⟨g, 0, none⟩)), none, none, none, some (.pointer (some ⟨g, 0, none⟩)), some (.pointer (some ⟨g, 11, none⟩))] [cv (.pointer (some ⟨g, 0, none⟩)), cv (.pointer (some ⟨g, 0, none⟩)), cv (.pointer (some ⟨g, 0, none⟩)), cv (.pointer (some ⟨g, 11, none⟩)), cv pa75, cv (.pointer (some ⟨g, 0, none⟩)), cv (.pointer (some ⟨g, 0, none⟩)), cv (.pointer (some ⟨g, 0, none⟩)), cv (.int .i64 p), cs1 M91 hM91A #[.int .i64 p] 3, cfree, cv (.pointer (some ⟨g, 0, none⟩)), cv (.pointer (some ⟨g, 11, none⟩))]) (some 10) (fun i => (([some (.pointer (some ⟨g, 0, none⟩)), some (.pointer (some ⟨g, 0, none⟩)), some (.pointer (some ⟨g, 0, none⟩)), some (.pointer (some ⟨g, 11, none⟩)), none, some (.pointer (some ⟨g, 0, none⟩)), some (.pointer (some ⟨g, 0, none⟩)), some (.pointer (some ⟨g, 0, none⟩)), none, none, none, some (.pointer (some ⟨g, 0, none⟩)), some (.pointer (some ⟨g, 11, none⟩))] : List (Option Value))[i]?).getD none) (fun v' w' => w'.ownsRow Bd 3 1 v' (path.length + 1) ((paE path) ++ (#[.int .i64 p] : Array Value).toList) ∧ Below Bd w w' ∧ Blk w' g (walkC p r rd73 ev74 pa75) 62 ∧ w'.ownsRow Bd 52 15 ev74 ((evs ++ [acc5 i r path.length p]).length) (evE (evs ++ [acc5 i r path.length p])) ∧ v'.ownBlock ≠ some g ∧ ∀ k, ev74.ownBlock = some k → v'.ownBlock ≠ some k) [12, 10, 0, 1, 2, 3, 4, 5, 6, 7, 8, 9, 11] [4, 9, 3, 8, 2, 7, 1, 6, 5] mixedY SM.refl SM.trans hA90 (by kernel_rfl) (by kernel_rfl) (tabQ_cv _ _) ?_ ?_
  · skip
    refine eachD_cons (.inr (.inl ⟨by decide, _, rfl, fun x y hT hk hk0 => d_move (wn rfl) (hT.ev (v := (.pointer (some ⟨g, 0, none⟩))) rfl) ⟨rfl, rfl⟩⟩)) ?_
    refine eachD_cons (.inr (.inl ⟨by decide, _, rfl, fun x y hT hk hk0 => d_move (wn rfl) (hT.ev (v := (.pointer (some ⟨g, 0, none⟩))) rfl) ⟨rfl, rfl⟩⟩)) ?_
    refine eachD_cons (.inr (.inl ⟨by decide, _, rfl, fun x y hT hk hk0 => d_nilCheck (wn rfl) (hk 1 _ rfl rfl) ⟨rfl, rfl⟩⟩)) ?_
    refine eachD_cons (.inr (.inl ⟨by decide, _, rfl, fun x y hT hk hk0 => d_fieldAddr (wn rfl) (hk 2 _ rfl rfl) fo62_4 ⟨rfl, rfl⟩⟩)) ?_
    refine eachD_cons (.inl ⟨by decide, rfl, fun x y hS hT hk => d_load (v := pa75) (wn rfl) (hk 3 rfl) one30 ((Blk.sm (w := w68.drew) hb76 hS (hM91A _)).cell rfl) ⟨SM.refl _, rfl⟩⟩) ?_
    refine eachD_cons (.inr (.inl ⟨by decide, _, rfl, fun x y hT hk hk0 => d_move (wn rfl) (hT.ev (v := (.pointer (some ⟨g, 0, none⟩))) rfl) ⟨rfl, rfl⟩⟩)) ?_
    refine eachD_cons (.inr (.inl ⟨by decide, _, rfl, fun x y hT hk hk0 => d_nilCheck (wn rfl) (hk 5 _ rfl rfl) ⟨rfl, rfl⟩⟩)) ?_
    refine eachD_cons (.inr (.inl ⟨by decide, _, rfl, fun x y hT hk hk0 => d_fieldAddr (wn rfl) (hk 6 _ rfl rfl) fo62_0 ⟨rfl, rfl⟩⟩)) ?_
    refine eachD_cons (.inl ⟨by decide, rfl, fun x y hS hT hk => d_load (v := (.int .i64 p)) (wn rfl) (hk 7 rfl) one3 ((Blk.sm (w := w68.drew) hb76 hS (hM91A _)).cell rfl) ⟨SM.refl _, rfl⟩⟩) ?_
    refine eachD_cons (.inl ⟨by decide, rfl, fun x y hS hT hk => d_slice1 (wn rfl) (show x.eval _ = (.int .i64 p) from (hk 8 rfl)) elm30 rfl (by decide) (fun g w' _ hG hb => ⟨SM.grow hG, g, rfl, hb⟩)⟩) ?_
    refine eachD_cons (.inr (.inr ⟨rfl, fun x y hS hT hk => ?_⟩)) ?_
    · skip
      obtain ⟨gb, hvb, hbb⟩ := hk 9 rfl
      have hG : Grow w68 y := Grow.trans ((Grow.refl _).drew) (SM.grown (by rw [hM91] at hS; exact hS))
      have hR := own_grow hG hpa79
      have hO := own_grow hG hev78
      have hBl := below_grow b84 hG (Nat.le_trans hB b84.size)
      refine d_append (wn rfl) (show x.eval _ = pa75 from (hk 4 rfl)) hvb elm30 hR hbb rfl rfl (by omega) (by decide) (Nat.le_trans hB hBl.size) ?_
      intro v' w' h1 h2 h3
      exact ⟨h1, below_by hBl h2 (Nat.le_trans hB hBl.size) (fun k hk => (own_lt hR k hk).1), (hb76.grow hG).by h2 op81, own_by hO h2 ap83, lies_ne h3 op81 (hb76.grow hG).lt, lies_ap h3 ap83 hO⟩
    refine eachD_cons (.inr (.inl ⟨by decide, _, rfl, fun x y hT hk hk0 => d_nilCheck (wn rfl) (hk 0 _ rfl rfl) ⟨rfl, rfl⟩⟩)) ?_
    refine eachD_cons (.inr (.inl ⟨by decide, _, rfl, fun x y hT hk hk0 => d_fieldAddr (wn rfl) (hk 11 _ rfl rfl) fo62_4 ⟨rfl, rfl⟩⟩)) ?_
    exact eachD_one
  rintro a92 w93 hA94 ⟨hP96, hW97⟩
  obtain ⟨v98, hv99⟩ : ∃ v', v' = (a92.tmps.getD 110 undef) := ⟨_, rfl⟩
  have hW100 : (fun v' w' => w'.ownsRow Bd 3 1 v' (path.length + 1) ((paE path) ++ (#[.int .i64 p] : Array Value).toList) ∧ Below Bd w w' ∧ Blk w' g (walkC p r rd73 ev74 pa75) 62 ∧ w'.ownsRow Bd 52 15 ev74 ((evs ++ [acc5 i r path.length p]).length) (evE (evs ++ [acc5 i r path.length p])) ∧ v'.ownBlock ≠ some g ∧ ∀ k, ev74.ownBlock = some k → v'.ownBlock ≠ some k) v98 w93 := by rw [hv99]; exact hW97
  obtain ⟨ho101, b102, m103, ho104, off105, ap106⟩ := hW100
  have ap107 : ∀ k, v98.ownBlock = some k → ev74.ownBlock ≠ some k := fun k h1 h2 => ap106 k h2 h1
  have hA108 : St 117 [(0, (.pointer (some ⟨g, 0, none⟩))), (4, (.bool false)), (5, (.int .i64 (p + 1))), (110, v98), (112, (.pointer (some ⟨g, 11, none⟩)))] a92 := hA94.cut _ (fm_cons (hA94.get 0 _ rfl) (fm_cons (hA94.get 4 _ rfl) (fm_cons (hA94.get 5 _ rfl) (fm_cons hv99.symm (fm_cons (hP96 12 _ (Nat.le_of_ble_eq_true rfl) (by decide) rfl) fm_nil)))))
  refine d_store (v := v98) (wn rfl) (hA108.ev (v := (.pointer (some ⟨g, 11, none⟩))) rfl) (hA108.ev (v := v98) rfl) one30 (one_slice (own_form ho101)) m103 (Nat.le_of_ble_eq_true rfl) ?_
  intro w109 hU110 (m111 : Blk w109 g (walkC p r rd73 ev74 v98) 62)
  have b112 := hU110.below b102 hge
  have ho113 := own_upd ho104 hU110 oe80
  have ho114 := own_upd ho101 hU110 off105
  have hA115 : St 117 [(0, (.pointer (some ⟨g, 0, none⟩))), (4, (.bool false)), (5, (.int .i64 (p + 1)))] a92 := hA108.cut _ (fm_cons (hA108.get 0 _ rfl) (fm_cons (hA108.get 4 _ rfl) (fm_cons (hA108.get 5 _ rfl) fm_nil)))
  refine t_norm ?_
  refine wp_seq ?_
  refine wp_region_lit ?_
  refine q_step hA115 rfl (d_move (wn rfl) (hA115.ev (v := (.pointer (some ⟨g, 0, none⟩))) rfl) ?_)
  intro a116 hA117
  refine q_step hA117 rfl (d_move (wn rfl) (hA117.ev (v := (.int .i64 (p + 1))) rfl) ?_)
  intro a118 hA119
  refine q_step hA119 rfl (d_nilCheck (wn rfl) (hA119.ev (v := (.pointer (some ⟨g, 0, none⟩))) rfl) ?_)
  intro a120 hA121
  refine q_step hA121 rfl (d_fieldAddr (wn rfl) (hA121.ev (v := (.pointer (some ⟨g, 0, none⟩))) rfl) fo62_0 ?_)
  intro a122 hA123
  refine q_step hA123 rfl (d_store (v := (.int .i64 (p + 1))) (wn rfl) (hA123.ev (v := (.pointer (some ⟨g, 0, none⟩))) rfl) (hA123.ev (v := (.int .i64 (p + 1))) rfl) one3 rfl m111 (Nat.le_of_ble_eq_true rfl) ?_)
  intro w124 hU125 (m126 : Blk w124 g (walkC (p + 1) r rd73 ev74 v98) 62)
  have b127 := hU125.below b112 hge
  have ho128 := own_upd ho113 hU125 oe80
  have ho129 := own_upd ho114 hU125 off105
  intro a130 hA131
  refine q_end ?_
  have hA132 : St 117 [(4, (.bool false))] a130 := hA131.cut _ (fm_cons (hA131.get 4 _ rfl) fm_nil)
  refine t_norm ?_
  refine wp_seq ?_
  refine wp_region_lit ?_
  refine q_step hA132 rfl (d_assign (wn rfl) (hA132.ev (v := (.bool true)) rfl) ?_)
  intro a133 hA134
  refine q_end ?_
  have hA135 : St 117 [(4, (.bool true))] a133 := hA134.cut _ (fm_cons (hA134.get 4 _ rfl) fm_nil)
  refine t_norm ?_
  refine wp_ret ?_
  refine ret1 rfl hA135 (v := (.bool true)) rfl ?_
  exact ⟨rfl, b127, rd73, ev74, v98, m126, hge, (Sl.via hrd77 b84 b127), ho128, (by rw [List.length_append, ← paE_snoc]; exact ho129), oe80, off105, ap107⟩
set_option maxHeartbeats 4000000 in
set_option maxRecDepth 4000 in
theorem step_4 (Bd g : Nat) (p : Int) (r : Nat → Int) (rd ev pa : Value) (i : Ins) (d : Nat) (u0 : Int) (rl : List Int) (evs : List Ev) (path : List Int) (w : World) (hB : Bd ≤ w.heap.size) (hW : WS Bd g w p r (u0 :: rl) evs path rd ev pa) (hne : evs.length ≤ 1000) (hnp : path.length ≤ 1000) (hr : ∀ k, wfI (r k)) (hp : 0 ≤ p) (hp2 : p ≤ 1000) (hix : ronB i.index = true) (hoff : wfI i.off) (hd : d < 8) (hu0 : wfI u0) : Calls Try.prog 36 #[.pointer (some ⟨g, 0, none⟩), .agg (insC ⟨4, ((d : Nat) : Int), i.a, i.b, i.imm, i.loc, i.off, i.index, i.size, i.fn, i.acq, i.weak, i.rel, i.pred, i.succ, i.to, i.zero⟩)] w fun e w' => e = .returned (.bool true) ∧ Below Bd w w' ∧ ∃ rd' ev' pa', WS Bd g w' (p + 1) (updR r d (I (getR (B u0) 0 i.size))) rl (evs ++ [acc4 i r path.length p u0]) (path ++ [p]) rd' ev' pa' := by
  obtain ⟨hb, hge, hrd, hev, hpa, oe, op_, ap⟩ := hW
  have ap2 : ∀ k, ev.ownBlock = some k → pa.ownBlock ≠ some k := fun k h1 h2 => ap k h2 h1
  have b0 : Below Bd w w := Below.refl _ _
  refine enter (n := 117) Try.func36 rfl rfl (Nat.le_of_ble_eq_true rfl) ?_
  intro a1 hA2
  refine wp_seq ?_
  refine wp_region_lit ?_
  refine q_step hA2 rfl (d_box (wn rfl) (hA2.ev (v := (.agg (insC ⟨4, ((d : Nat) : Int), i.a, i.b, i.imm, i.loc, i.off, i.index, i.size, i.fn, i.acq, i.weak, i.rel, i.pred, i.succ, i.to, i.zero⟩))) rfl) ?_)
  intro g3 w4 eg5 hG6 (m7 : Blk w4 g3 (insC ⟨4, ((d : Nat) : Int), i.a, i.b, i.imm, i.loc, i.off, i.index, i.size, i.fn, i.acq, i.weak, i.rel, i.pred, i.succ, i.to, i.zero⟩) 23)
  have ge8 : Bd ≤ g3 := eg5 ▸ (Nat.le_trans hB b0.size)
  have n9 : g ≠ g3 := fun h => Nat.lt_irrefl _ ((h.trans eg5) ▸ hb.lt)
  have off10 := own_new hev eg5
  have off11 := own_new hpa eg5
  have m12 := hb.grow hG6
  have b13 := below_grow b0 hG6 (Nat.le_trans hB b0.size)
  have ho14 := own_grow hG6 hev
  have ho15 := own_grow hG6 hpa
  intro a16 hA17
  refine q_step hA17 rfl (d_assign (wn rfl) (hA17.ev (v := (.bool false)) rfl) ?_)
  intro a18 hA19
  refine q_end ?_
  have hA20 : St 117 [(0, (.pointer (some ⟨g, 0, none⟩))), (3, (.pointer (some ⟨g3, 0, none⟩))), (4, (.bool false))] a18 := hA19.cut _ (fm_cons (hA19.get 0 _ rfl) (fm_cons (hA19.get 3 _ rfl) (fm_cons (hA19.get 4 _ rfl) fm_nil)))
  refine t_norm ?_
  refine wp_seq ?_
  refine wp_region_lit ?_
  refine q_step hA20 rfl (d_move (wn rfl) (hA20.ev (v := (.pointer (some ⟨g, 0, none⟩))) rfl) ?_)
  intro a21 hA22
  refine q_step hA22 rfl (d_nilCheck (wn rfl) (hA22.ev (v := (.pointer (some ⟨g, 0, none⟩))) rfl) ?_)
  intro a23 hA24
  refine q_step hA24 rfl (d_fieldAddr (wn rfl) (hA24.ev (v := (.pointer (some ⟨g, 0, none⟩))) rfl) fo62_0 ?_)
  intro a25 hA26
  refine q_step hA26 rfl (d_load (v := (.int .i64 p)) (wn rfl) (hA26.ev (v := (.pointer (some ⟨g, 0, none⟩))) rfl) one3 (m12.cell rfl) ?_)
  intro a27 hA28
  refine q_step hA28 rfl (d_bin (wn rfl) (hA28.ev (v := (.int .i64 p)) rfl) (hA28.ev (v := (.int .i64 1)) rfl) (b_add _ _ p 1 _ (by omega) (by omega)) ?_)
  intro a29 hA30
  refine q_step hA30 rfl (d_assign (wn rfl) (hA30.ev (v := (.int .i64 (p + 1))) rfl) ?_)
  intro a31 hA32
  refine q_end ?_
  have hA33 : St 117 [(0, (.pointer (some ⟨g, 0, none⟩))), (3, (.pointer (some ⟨g3, 0, none⟩))), (4, (.bool false)), (5, (.int .i64 (p + 1)))] a31 := hA32.cut _ (fm_cons (hA32.get 0 _ rfl) (fm_cons (hA32.get 3 _ rfl) (fm_cons (hA32.get 4 _ rfl) (fm_cons (hA32.get 5 _ rfl) fm_nil))))
  refine t_norm ?_
  refine wp_seq ?_
  refine wp_seq ?_
  refine wp_region_lit ?_
  refine q_step hA33 rfl (d_fieldAddr (wn rfl) (hA33.ev (v := (.pointer (some ⟨g3, 0, none⟩))) rfl) fo23_0 ?_)
  intro a34 hA35
  refine q_step hA35 rfl (d_load (v := (.int .i64 4)) (wn rfl) (hA35.ev (v := (.pointer (some ⟨g3, 0, none⟩))) rfl) one3 (m7.cell rfl) ?_)
  intro a36 hA37
  refine q_end ?_
  have hA38 : St 117 [(0, (.pointer (some ⟨g, 0, none⟩))), (3, (.pointer (some ⟨g3, 0, none⟩))), (4, (.bool false)), (5, (.int .i64 (p + 1))), (12, (.int .i64 4))] a36 := hA37.cut _ (fm_cons (hA37.get 0 _ rfl) (fm_cons (hA37.get 3 _ rfl) (fm_cons (hA37.get 4 _ rfl) (fm_cons (hA37.get 5 _ rfl) (fm_cons (hA37.get 12 _ rfl) fm_nil)))))
  refine t_norm ?_
  refine wp_block ?_
  refine wp_seq ?_
  refine wp_region_lit ?_
  refine q_step hA38 rfl (d_bin (wn rfl) (hA38.ev (v := (.int .i64 4)) rfl) (hA38.ev (v := (.int .i64 1)) rfl) (b_eq _ _ 4 1 false _ rfl) ?_)
  intro a39 hA40
  refine q_step hA40 rfl (d_assign (wn rfl) (hA40.ev (v := (.bool false)) rfl) ?_)
  intro a41 hA42
  refine q_end ?_
  have hA43 : St 117 [(0, (.pointer (some ⟨g, 0, none⟩))), (3, (.pointer (some ⟨g3, 0, none⟩))), (4, (.bool false)), (5, (.int .i64 (p + 1))), (12, (.int .i64 4)), (13, (.bool false))] a41 := hA42.cut _ (fm_cons (hA42.get 0 _ rfl) (fm_cons (hA42.get 3 _ rfl) (fm_cons (hA42.get 4 _ rfl) (fm_cons (hA42.get 5 _ rfl) (fm_cons (hA42.get 12 _ rfl) (fm_cons (hA42.get 13 _ rfl) fm_nil))))))
  refine t_norm ?_
  refine c_false hA43 rfl ?_
  refine wp_seq ?_
  refine wp_region_lit ?_
  refine q_step hA43 rfl (d_bin (wn rfl) (hA43.ev (v := (.int .i64 4)) rfl) (hA43.ev (v := (.int .i64 2)) rfl) (b_eq _ _ 4 2 false _ rfl) ?_)
  intro a44 hA45
  refine q_step hA45 rfl (d_assign (wn rfl) (hA45.ev (v := (.bool false)) rfl) ?_)
  intro a46 hA47
  refine q_end ?_
  have hA48 : St 117 [(0, (.pointer (some ⟨g, 0, none⟩))), (3, (.pointer (some ⟨g3, 0, none⟩))), (4, (.bool false)), (5, (.int .i64 (p + 1))), (12, (.int .i64 4)), (23, (.bool false))] a46 := hA47.cut _ (fm_cons (hA47.get 0 _ rfl) (fm_cons (hA47.get 3 _ rfl) (fm_cons (hA47.get 4 _ rfl) (fm_cons (hA47.get 5 _ rfl) (fm_cons (hA47.get 12 _ rfl) (fm_cons (hA47.get 23 _ rfl) fm_nil))))))
  refine t_norm ?_
  refine c_false hA48 rfl ?_
  refine wp_seq ?_
  refine wp_region_lit ?_
  refine q_step hA48 rfl (d_bin (wn rfl) (hA48.ev (v := (.int .i64 4)) rfl) (hA48.ev (v := (.int .i64 3)) rfl) (b_eq _ _ 4 3 false _ rfl) ?_)
  intro a49 hA50
  refine q_step hA50 rfl (d_assign (wn rfl) (hA50.ev (v := (.bool false)) rfl) ?_)
  intro a51 hA52
  refine q_end ?_
  have hA53 : St 117 [(0, (.pointer (some ⟨g, 0, none⟩))), (3, (.pointer (some ⟨g3, 0, none⟩))), (4, (.bool false)), (5, (.int .i64 (p + 1))), (12, (.int .i64 4)), (38, (.bool false))] a51 := hA52.cut _ (fm_cons (hA52.get 0 _ rfl) (fm_cons (hA52.get 3 _ rfl) (fm_cons (hA52.get 4 _ rfl) (fm_cons (hA52.get 5 _ rfl) (fm_cons (hA52.get 12 _ rfl) (fm_cons (hA52.get 38 _ rfl) fm_nil))))))
  refine t_norm ?_
  refine c_false hA53 rfl ?_
  refine wp_seq ?_
  refine wp_seq ?_
  refine wp_region_lit ?_
  refine q_step hA53 rfl (d_bin (wn rfl) (hA53.ev (v := (.int .i64 4)) rfl) (hA53.ev (v := (.int .i64 4)) rfl) (b_eq _ _ 4 4 true _ rfl) ?_)
  intro a54 hA55
  refine q_step hA55 rfl (d_assign (wn rfl) (hA55.ev (v := (.bool true)) rfl) ?_)
  intro a56 hA57
  refine q_end ?_
  have hA58 : St 117 [(0, (.pointer (some ⟨g, 0, none⟩))), (3, (.pointer (some ⟨g3, 0, none⟩))), (4, (.bool false)), (5, (.int .i64 (p + 1))), (12, (.int .i64 4)), (62, (.bool true))] a56 := hA57.cut _ (fm_cons (hA57.get 0 _ rfl) (fm_cons (hA57.get 3 _ rfl) (fm_cons (hA57.get 4 _ rfl) (fm_cons (hA57.get 5 _ rfl) (fm_cons (hA57.get 12 _ rfl) (fm_cons (hA57.get 62 _ rfl) fm_nil))))))
  refine t_norm ?_
  refine c_true hA58 rfl ?_
  refine wp_skip ?_
  refine t_norm ?_
  refine c_true hA58 rfl ?_
  refine wp_seq ?_
  refine wp_region_lit ?_
  refine q_step hA58 rfl (d_move (wn rfl) (hA58.ev (v := (.pointer (some ⟨g, 0, none⟩))) rfl) ?_)
  intro a59 hA60
  refine q_step hA60 rfl (d_loadRow (cs := (insC ⟨4, ((d : Nat) : Int), i.a, i.b, i.imm, i.loc, i.off, i.index, i.size, i.fn, i.acq, i.weak, i.rel, i.pred, i.succ, i.to, i.zero⟩)) (wn rfl) (hA60.ev (v := (.pointer (some ⟨g3, 0, none⟩))) rfl) row23 m7 ?_)
  intro a61 hA62
  refine q_step hA62 rfl (d_call (wn rfl) ent48 (map2 (hA62.ev (v := (.pointer (some ⟨g, 0, none⟩))) rfl) (hA62.ev (v := (.agg (insC ⟨4, ((d : Nat) : Int), i.a, i.b, i.imm, i.loc, i.off, i.index, i.size, i.fn, i.acq, i.weak, i.rel, i.pred, i.succ, i.to, i.zero⟩))) rfl)) (access_4 Bd g p r rd ev pa i d u0 rl evs path w4 (Nat.le_trans hB b13.size) ⟨m12, hge, (hrd.below b13), ho14, ho15, oe, op_, ap⟩ hne hnp hr hix hoff hd hu0) ?_)
  rintro e66 w63 ⟨he65, bl67, rd68, ev69, pa70, hb71, _, hrd72, hev73, hpa74, oe75, op76, ap77⟩
  have ap78 : ∀ k, ev69.ownBlock = some k → pa70.ownBlock ≠ some k := fun k h1 h2 => ap77 k h2 h1
  have b79 := b13.trans bl67
  refine ⟨.bool true, he65, ?_⟩
  intro a80 hA81
  refine q_step hA81 rfl (d_not (wn rfl) (hA81.ev (v := (.bool true)) rfl) ?_)
  intro a82 hA83
  refine q_end ?_
  have hA84 : St 117 [(0, (.pointer (some ⟨g, 0, none⟩))), (4, (.bool false)), (5, (.int .i64 (p + 1))), (69, (.bool false))] a82 := hA83.cut _ (fm_cons (hA83.get 0 _ rfl) (fm_cons (hA83.get 4 _ rfl) (fm_cons (hA83.get 5 _ rfl) (fm_cons (hA83.get 69 _ rfl) fm_nil))))
  refine t_norm ?_
  refine c_false hA84 rfl ?_
  refine wp_skip ?_
  refine i_norm ?_
  refine t_norm ?_
  refine wp_seq ?_
  have hA85 : St 117 [(0, (.pointer (some ⟨g, 0, none⟩))), (4, (.bool false)), (5, (.int .i64 (p + 1)))] a82 := hA84.cut _ (fm_cons (hA84.get 0 _ rfl) (fm_cons (hA84.get 4 _ rfl) (fm_cons (hA84.get 5 _ rfl) fm_nil)))
  let M86 : Nat → Option (Array Value) := fun _ => none
  have hM86 : M86 = fun _ => none := rfl
  clear_value M86
  have hM86A : ∀ k, M86 k = none := fun k => congrFun hM86 k
  have hM86B : ∀ k, k < Bd → M86 k = none := fun k _ => hM86A k
  refine drawnL (S := SM M86) rfl (tabQ [some (.pointer (some ⟨g, 0, none⟩)), some (.pointer (some ⟨g, 0, none⟩)), some (.pointer (some ⟨g, 0, none⟩)), some (.pointer (some ⟨g, 11, none⟩)), none, some (.pointer (some ⟨g, 0, none⟩)), some (.pointer (some ⟨g, 0, none⟩)), some (.pointer (some ⟨g, 0, none⟩)), none, none, none, some (.pointer (some ⟨g, 0, none⟩)), some (.pointer (some ⟨g, 11, none⟩))] [cv (.pointer (some ⟨g, 0, none⟩)), cv (.pointer (some ⟨g, 0, none⟩)), cv (.pointer (some ⟨g, 0, none⟩)), cv (.pointer (some ⟨g, 11, none⟩)), cv pa70, cv (.pointer (some ⟨g, 0, none⟩)), cv (.pointer (some ⟨g, 0, none⟩)), cv (.pointer (some ⟨g, 0, none⟩)), cv (.int .i64 p), cs1 M86 hM86A #[.int .i64 p] 3, cfree, cv (.pointer (some ⟨g, 0, none⟩)), cv (.pointer (some ⟨g, 11, none⟩))]) (some 10) (fun i => (([some (.pointer (some ⟨g, 0, none⟩)), some (.pointer (some ⟨g, 0, none⟩)), some (.pointer (some ⟨g, 0, none⟩)), some (.pointer (some ⟨g, 11, none⟩)), none, some (.pointer (some ⟨g, 0, none⟩)), some (.pointer (some ⟨g, 0, none⟩)), some (.pointer (some ⟨g, 0, none⟩)), none, none, none, some (.pointer (some ⟨g, 0, none⟩)), some (.pointer (some ⟨g, 11, none⟩))] : List (Option Value))[i]?).getD none) (fun v' w' => w'.ownsRow Bd 3 1 v' (path.length + 1) ((paE path) ++ (#[.int .i64 p] : Array Value).toList) ∧ Below Bd w w' ∧ Blk w' g (walkC p (updR r d (I (getR (B u0) 0 i.size))) rd68 ev69 pa70) 62 ∧ w'.ownsRow Bd 52 15 ev69 ((evs ++ [acc4 i r path.length p u0]).length) (evE (evs ++ [acc4 i r path.length p u0])) ∧ v'.ownBlock ≠ some g ∧ ∀ k, ev69.ownBlock = some k → v'.ownBlock ≠ some k) [12, 10, 0, 1, 2, 3, 4, 5, 6, 7, 8, 9, 11] [4, 9, 3, 8, 2, 7, 1, 6, 5] mixedY SM.refl SM.trans hA85 (by kernel_rfl) (by kernel_rfl) (tabQ_cv _ _) ?_ ?_
  · skip
    refine eachD_cons (.inr (.inl ⟨by decide, _, rfl, fun x y hT hk hk0 => d_move (wn rfl) (hT.ev (v := (.pointer (some ⟨g, 0, none⟩))) rfl) ⟨rfl, rfl⟩⟩)) ?_
    refine eachD_cons (.inr (.inl ⟨by decide, _, rfl, fun x y hT hk hk0 => d_move (wn rfl) (hT.ev (v := (.pointer (some ⟨g, 0, none⟩))) rfl) ⟨rfl, rfl⟩⟩)) ?_
    refine eachD_cons (.inr (.inl ⟨by decide, _, rfl, fun x y hT hk hk0 => d_nilCheck (wn rfl) (hk 1 _ rfl rfl) ⟨rfl, rfl⟩⟩)) ?_
    refine eachD_cons (.inr (.inl ⟨by decide, _, rfl, fun x y hT hk hk0 => d_fieldAddr (wn rfl) (hk 2 _ rfl rfl) fo62_4 ⟨rfl, rfl⟩⟩)) ?_
    refine eachD_cons (.inl ⟨by decide, rfl, fun x y hS hT hk => d_load (v := pa70) (wn rfl) (hk 3 rfl) one30 ((Blk.sm (w := w63.drew) hb71 hS (hM86A _)).cell rfl) ⟨SM.refl _, rfl⟩⟩) ?_
    refine eachD_cons (.inr (.inl ⟨by decide, _, rfl, fun x y hT hk hk0 => d_move (wn rfl) (hT.ev (v := (.pointer (some ⟨g, 0, none⟩))) rfl) ⟨rfl, rfl⟩⟩)) ?_
    refine eachD_cons (.inr (.inl ⟨by decide, _, rfl, fun x y hT hk hk0 => d_nilCheck (wn rfl) (hk 5 _ rfl rfl) ⟨rfl, rfl⟩⟩)) ?_
    refine eachD_cons (.inr (.inl ⟨by decide, _, rfl, fun x y hT hk hk0 => d_fieldAddr (wn rfl) (hk 6 _ rfl rfl) fo62_0 ⟨rfl, rfl⟩⟩)) ?_
    refine eachD_cons (.inl ⟨by decide, rfl, fun x y hS hT hk => d_load (v := (.int .i64 p)) (wn rfl) (hk 7 rfl) one3 ((Blk.sm (w := w63.drew) hb71 hS (hM86A _)).cell rfl) ⟨SM.refl _, rfl⟩⟩) ?_
    refine eachD_cons (.inl ⟨by decide, rfl, fun x y hS hT hk => d_slice1 (wn rfl) (show x.eval _ = (.int .i64 p) from (hk 8 rfl)) elm30 rfl (by decide) (fun g w' _ hG hb => ⟨SM.grow hG, g, rfl, hb⟩)⟩) ?_
    refine eachD_cons (.inr (.inr ⟨rfl, fun x y hS hT hk => ?_⟩)) ?_
    · skip
      obtain ⟨gb, hvb, hbb⟩ := hk 9 rfl
      have hG : Grow w63 y := Grow.trans ((Grow.refl _).drew) (SM.grown (by rw [hM86] at hS; exact hS))
      have hR := own_grow hG hpa74
      have hO := own_grow hG hev73
      have hBl := below_grow b79 hG (Nat.le_trans hB b79.size)
      refine d_append (wn rfl) (show x.eval _ = pa70 from (hk 4 rfl)) hvb elm30 hR hbb rfl rfl (by omega) (by decide) (Nat.le_trans hB hBl.size) ?_
      intro v' w' h1 h2 h3
      exact ⟨h1, below_by hBl h2 (Nat.le_trans hB hBl.size) (fun k hk => (own_lt hR k hk).1), (hb71.grow hG).by h2 op76, own_by hO h2 ap78, lies_ne h3 op76 (hb71.grow hG).lt, lies_ap h3 ap78 hO⟩
    refine eachD_cons (.inr (.inl ⟨by decide, _, rfl, fun x y hT hk hk0 => d_nilCheck (wn rfl) (hk 0 _ rfl rfl) ⟨rfl, rfl⟩⟩)) ?_
    refine eachD_cons (.inr (.inl ⟨by decide, _, rfl, fun x y hT hk hk0 => d_fieldAddr (wn rfl) (hk 11 _ rfl rfl) fo62_4 ⟨rfl, rfl⟩⟩)) ?_
    exact eachD_one
  rintro a87 w88 hA89 ⟨hP91, hW92⟩
  obtain ⟨v93, hv94⟩ : ∃ v', v' = (a87.tmps.getD 110 undef) := ⟨_, rfl⟩
  have hW95 : (fun v' w' => w'.ownsRow Bd 3 1 v' (path.length + 1) ((paE path) ++ (#[.int .i64 p] : Array Value).toList) ∧ Below Bd w w' ∧ Blk w' g (walkC p (updR r d (I (getR (B u0) 0 i.size))) rd68 ev69 pa70) 62 ∧ w'.ownsRow Bd 52 15 ev69 ((evs ++ [acc4 i r path.length p u0]).length) (evE (evs ++ [acc4 i r path.length p u0])) ∧ v'.ownBlock ≠ some g ∧ ∀ k, ev69.ownBlock = some k → v'.ownBlock ≠ some k) v93 w88 := by rw [hv94]; exact hW92
  obtain ⟨ho96, b97, m98, ho99, off100, ap101⟩ := hW95
  have ap102 : ∀ k, v93.ownBlock = some k → ev69.ownBlock ≠ some k := fun k h1 h2 => ap101 k h2 h1
  have hA103 : St 117 [(0, (.pointer (some ⟨g, 0, none⟩))), (4, (.bool false)), (5, (.int .i64 (p + 1))), (110, v93), (112, (.pointer (some ⟨g, 11, none⟩)))] a87 := hA89.cut _ (fm_cons (hA89.get 0 _ rfl) (fm_cons (hA89.get 4 _ rfl) (fm_cons (hA89.get 5 _ rfl) (fm_cons hv94.symm (fm_cons (hP91 12 _ (Nat.le_of_ble_eq_true rfl) (by decide) rfl) fm_nil)))))
  refine d_store (v := v93) (wn rfl) (hA103.ev (v := (.pointer (some ⟨g, 11, none⟩))) rfl) (hA103.ev (v := v93) rfl) one30 (one_slice (own_form ho96)) m98 (Nat.le_of_ble_eq_true rfl) ?_
  intro w104 hU105 (m106 : Blk w104 g (walkC p (updR r d (I (getR (B u0) 0 i.size))) rd68 ev69 v93) 62)
  have b107 := hU105.below b97 hge
  have ho108 := own_upd ho99 hU105 oe75
  have ho109 := own_upd ho96 hU105 off100
  have hA110 : St 117 [(0, (.pointer (some ⟨g, 0, none⟩))), (4, (.bool false)), (5, (.int .i64 (p + 1)))] a87 := hA103.cut _ (fm_cons (hA103.get 0 _ rfl) (fm_cons (hA103.get 4 _ rfl) (fm_cons (hA103.get 5 _ rfl) fm_nil)))
  refine t_norm ?_
  refine wp_seq ?_
  refine wp_region_lit ?_
  refine q_step hA110 rfl (d_move (wn rfl) (hA110.ev (v := (.pointer (some ⟨g, 0, none⟩))) rfl) ?_)
  intro a111 hA112
  refine q_step hA112 rfl (d_move (wn rfl) (hA112.ev (v := (.int .i64 (p + 1))) rfl) ?_)
  intro a113 hA114
  refine q_step hA114 rfl (d_nilCheck (wn rfl) (hA114.ev (v := (.pointer (some ⟨g, 0, none⟩))) rfl) ?_)
  intro a115 hA116
  refine q_step hA116 rfl (d_fieldAddr (wn rfl) (hA116.ev (v := (.pointer (some ⟨g, 0, none⟩))) rfl) fo62_0 ?_)
  intro a117 hA118
  refine q_step hA118 rfl (d_store (v := (.int .i64 (p + 1))) (wn rfl) (hA118.ev (v := (.pointer (some ⟨g, 0, none⟩))) rfl) (hA118.ev (v := (.int .i64 (p + 1))) rfl) one3 rfl m106 (Nat.le_of_ble_eq_true rfl) ?_)
  intro w119 hU120 (m121 : Blk w119 g (walkC (p + 1) (updR r d (I (getR (B u0) 0 i.size))) rd68 ev69 v93) 62)
  have b122 := hU120.below b107 hge
  have ho123 := own_upd ho108 hU120 oe75
  have ho124 := own_upd ho109 hU120 off100
  intro a125 hA126
  refine q_end ?_
  have hA127 : St 117 [(4, (.bool false))] a125 := hA126.cut _ (fm_cons (hA126.get 4 _ rfl) fm_nil)
  refine t_norm ?_
  refine wp_seq ?_
  refine wp_region_lit ?_
  refine q_step hA127 rfl (d_assign (wn rfl) (hA127.ev (v := (.bool true)) rfl) ?_)
  intro a128 hA129
  refine q_end ?_
  have hA130 : St 117 [(4, (.bool true))] a128 := hA129.cut _ (fm_cons (hA129.get 4 _ rfl) fm_nil)
  refine t_norm ?_
  refine wp_ret ?_
  refine ret1 rfl hA130 (v := (.bool true)) rfl ?_
  exact ⟨rfl, b122, rd68, ev69, v93, m121, hge, (Sl.via hrd72 b79 b122), ho123, (by rw [List.length_append, ← paE_snoc]; exact ho124), oe75, off100, ap102⟩
set_option maxHeartbeats 4000000 in
set_option maxRecDepth 4000 in
theorem step_6 (Bd g : Nat) (p : Int) (r : Nat → Int) (rd ev pa : Value) (i : Ins) (d k : Nat) (u0 : Int) (rl : List Int) (evs : List Ev) (path : List Int) (w : World) (hB : Bd ≤ w.heap.size) (hW : WS Bd g w p r (u0 :: rl) evs path rd ev pa) (hne : evs.length ≤ 1000) (hnp : path.length ≤ 1000) (hr : ∀ k, wfI (r k)) (hp : 0 ≤ p) (hp2 : p ≤ 1000) (hix : ronB i.index = true) (hoff : wfI i.off) (hd : d < 8) (hk : k < 8) (hu0 : wfI u0) : Calls Try.prog 36 #[.pointer (some ⟨g, 0, none⟩), .agg (insC ⟨6, ((d : Nat) : Int), ((k : Nat) : Int), i.b, i.imm, i.loc, i.off, i.index, i.size, i.fn, i.acq, i.weak, i.rel, i.pred, i.succ, i.to, i.zero⟩)] w fun e w' => e = .returned (.bool true) ∧ Below Bd w w' ∧ ∃ rd' ev' pa', WS Bd g w' (p + 1) (updR r d (I (getR (B u0) 0 i.size))) rl (evs ++ [acc6 i r k path.length p u0]) (path ++ [p]) rd' ev' pa' := by
  obtain ⟨hb, hge, hrd, hev, hpa, oe, op_, ap⟩ := hW
  have ap2 : ∀ k, ev.ownBlock = some k → pa.ownBlock ≠ some k := fun k h1 h2 => ap k h2 h1
  have b0 : Below Bd w w := Below.refl _ _
  refine enter (n := 117) Try.func36 rfl rfl (Nat.le_of_ble_eq_true rfl) ?_
  intro a1 hA2
  refine wp_seq ?_
  refine wp_region_lit ?_
  refine q_step hA2 rfl (d_box (wn rfl) (hA2.ev (v := (.agg (insC ⟨6, ((d : Nat) : Int), ((k : Nat) : Int), i.b, i.imm, i.loc, i.off, i.index, i.size, i.fn, i.acq, i.weak, i.rel, i.pred, i.succ, i.to, i.zero⟩))) rfl) ?_)
  intro g3 w4 eg5 hG6 (m7 : Blk w4 g3 (insC ⟨6, ((d : Nat) : Int), ((k : Nat) : Int), i.b, i.imm, i.loc, i.off, i.index, i.size, i.fn, i.acq, i.weak, i.rel, i.pred, i.succ, i.to, i.zero⟩) 23)
  have ge8 : Bd ≤ g3 := eg5 ▸ (Nat.le_trans hB b0.size)
  have n9 : g ≠ g3 := fun h => Nat.lt_irrefl _ ((h.trans eg5) ▸ hb.lt)
  have off10 := own_new hev eg5
  have off11 := own_new hpa eg5
  have m12 := hb.grow hG6
  have b13 := below_grow b0 hG6 (Nat.le_trans hB b0.size)
  have ho14 := own_grow hG6 hev
  have ho15 := own_grow hG6 hpa
  intro a16 hA17
  refine q_step hA17 rfl (d_assign (wn rfl) (hA17.ev (v := (.bool false)) rfl) ?_)
  intro a18 hA19
  refine q_end ?_
  have hA20 : St 117 [(0, (.pointer (some ⟨g, 0, none⟩))), (3, (.pointer (some ⟨g3, 0, none⟩))), (4, (.bool false))] a18 := hA19.cut _ (fm_cons (hA19.get 0 _ rfl) (fm_cons (hA19.get 3 _ rfl) (fm_cons (hA19.get 4 _ rfl) fm_nil)))
  refine t_norm ?_
  refine wp_seq ?_
  refine wp_region_lit ?_
  refine q_step hA20 rfl (d_move (wn rfl) (hA20.ev (v := (.pointer (some ⟨g, 0, none⟩))) rfl) ?_)
  intro a21 hA22
  refine q_step hA22 rfl (d_nilCheck (wn rfl) (hA22.ev (v := (.pointer (some ⟨g, 0, none⟩))) rfl) ?_)
  intro a23 hA24
  refine q_step hA24 rfl (d_fieldAddr (wn rfl) (hA24.ev (v := (.pointer (some ⟨g, 0, none⟩))) rfl) fo62_0 ?_)
  intro a25 hA26
  refine q_step hA26 rfl (d_load (v := (.int .i64 p)) (wn rfl) (hA26.ev (v := (.pointer (some ⟨g, 0, none⟩))) rfl) one3 (m12.cell rfl) ?_)
  intro a27 hA28
  refine q_step hA28 rfl (d_bin (wn rfl) (hA28.ev (v := (.int .i64 p)) rfl) (hA28.ev (v := (.int .i64 1)) rfl) (b_add _ _ p 1 _ (by omega) (by omega)) ?_)
  intro a29 hA30
  refine q_step hA30 rfl (d_assign (wn rfl) (hA30.ev (v := (.int .i64 (p + 1))) rfl) ?_)
  intro a31 hA32
  refine q_end ?_
  have hA33 : St 117 [(0, (.pointer (some ⟨g, 0, none⟩))), (3, (.pointer (some ⟨g3, 0, none⟩))), (4, (.bool false)), (5, (.int .i64 (p + 1)))] a31 := hA32.cut _ (fm_cons (hA32.get 0 _ rfl) (fm_cons (hA32.get 3 _ rfl) (fm_cons (hA32.get 4 _ rfl) (fm_cons (hA32.get 5 _ rfl) fm_nil))))
  refine t_norm ?_
  refine wp_seq ?_
  refine wp_seq ?_
  refine wp_region_lit ?_
  refine q_step hA33 rfl (d_fieldAddr (wn rfl) (hA33.ev (v := (.pointer (some ⟨g3, 0, none⟩))) rfl) fo23_0 ?_)
  intro a34 hA35
  refine q_step hA35 rfl (d_load (v := (.int .i64 6)) (wn rfl) (hA35.ev (v := (.pointer (some ⟨g3, 0, none⟩))) rfl) one3 (m7.cell rfl) ?_)
  intro a36 hA37
  refine q_end ?_
  have hA38 : St 117 [(0, (.pointer (some ⟨g, 0, none⟩))), (3, (.pointer (some ⟨g3, 0, none⟩))), (4, (.bool false)), (5, (.int .i64 (p + 1))), (12, (.int .i64 6))] a36 := hA37.cut _ (fm_cons (hA37.get 0 _ rfl) (fm_cons (hA37.get 3 _ rfl) (fm_cons (hA37.get 4 _ rfl) (fm_cons (hA37.get 5 _ rfl) (fm_cons (hA37.get 12 _ rfl) fm_nil)))))
  refine t_norm ?_
  refine wp_block ?_
  refine wp_seq ?_
  refine wp_region_lit ?_
  refine q_step hA38 rfl (d_bin (wn rfl) (hA38.ev (v := (.int .i64 6)) rfl) (hA38.ev (v := (.int .i64 1)) rfl) (b_eq _ _ 6 1 false _ rfl) ?_)
  intro a39 hA40
  refine q_step hA40 rfl (d_assign (wn rfl) (hA40.ev (v := (.bool false)) rfl) ?_)
  intro a41 hA42
  refine q_end ?_
  have hA43 : St 117 [(0, (.pointer (some ⟨g, 0, none⟩))), (3, (.pointer (some ⟨g3, 0, none⟩))), (4, (.bool false)), (5, (.int .i64 (p + 1))), (12, (.int .i64 6)), (13, (.bool false))] a41 := hA42.cut _ (fm_cons (hA42.get 0 _ rfl) (fm_cons (hA42.get 3 _ rfl) (fm_cons (hA42.get 4 _ rfl) (fm_cons (hA42.get 5 _ rfl) (fm_cons (hA42.get 12 _ rfl) (fm_cons (hA42.get 13 _ rfl) fm_nil))))))
  refine t_norm ?_
  refine c_false hA43 rfl ?_
  refine wp_seq ?_
  refine wp_region_lit ?_
  refine q_step hA43 rfl (d_bin (wn rfl) (hA43.ev (v := (.int .i64 6)) rfl) (hA43.ev (v := (.int .i64 2)) rfl) (b_eq _ _ 6 2 false _ rfl) ?_)
  intro a44 hA45
  refine q_step hA45 rfl (d_assign (wn rfl) (hA45.ev (v := (.bool false)) rfl) ?_)
  intro a46 hA47
  refine q_end ?_
  have hA48 : St 117 [(0, (.pointer (some ⟨g, 0, none⟩))), (3, (.pointer (some ⟨g3, 0, none⟩))), (4, (.bool false)), (5, (.int .i64 (p + 1))), (12, (.int .i64 6)), (23, (.bool false))] a46 := hA47.cut _ (fm_cons (hA47.get 0 _ rfl) (fm_cons (hA47.get 3 _ rfl) (fm_cons (hA47.get 4 _ rfl) (fm_cons (hA47.get 5 _ rfl) (fm_cons (hA47.get 12 _ rfl) (fm_cons (hA47.get 23 _ rfl) fm_nil))))))
  refine t_norm ?_
  refine c_false hA48 rfl ?_
  refine wp_seq ?_
  refine wp_region_lit ?_
  refine q_step hA48 rfl (d_bin (wn rfl) (hA48.ev (v := (.int .i64 6)) rfl) (hA48.ev (v := (.int .i64 3)) rfl) (b_eq _ _ 6 3 false _ rfl) ?_)
  intro a49 hA50
  refine q_step hA50 rfl (d_assign (wn rfl) (hA50.ev (v := (.bool false)) rfl) ?_)
  intro a51 hA52
  refine q_end ?_
  have hA53 : St 117 [(0, (.pointer (some ⟨g, 0, none⟩))), (3, (.pointer (some ⟨g3, 0, none⟩))), (4, (.bool false)), (5, (.int .i64 (p + 1))), (12, (.int .i64 6)), (38, (.bool false))] a51 := hA52.cut _ (fm_cons (hA52.get 0 _ rfl) (fm_cons (hA52.get 3 _ rfl) (fm_cons (hA52.get 4 _ rfl) (fm_cons (hA52.get 5 _ rfl) (fm_cons (hA52.get 12 _ rfl) (fm_cons (hA52.get 38 _ rfl) fm_nil))))))
  refine t_norm ?_
  refine c_false hA53 rfl ?_
  refine wp_seq ?_
  refine wp_seq ?_
  refine wp_region_lit ?_
  refine q_step hA53 rfl (d_bin (wn rfl) (hA53.ev (v := (.int .i64 6)) rfl) (hA53.ev (v := (.int .i64 4)) rfl) (b_eq _ _ 6 4 false _ rfl) ?_)
  intro a54 hA55
  refine q_step hA55 rfl (d_assign (wn rfl) (hA55.ev (v := (.bool false)) rfl) ?_)
  intro a56 hA57
  refine q_end ?_
  have hA58 : St 117 [(0, (.pointer (some ⟨g, 0, none⟩))), (3, (.pointer (some ⟨g3, 0, none⟩))), (4, (.bool false)), (5, (.int .i64 (p + 1))), (12, (.int .i64 6)), (62, (.bool false))] a56 := hA57.cut _ (fm_cons (hA57.get 0 _ rfl) (fm_cons (hA57.get 3 _ rfl) (fm_cons (hA57.get 4 _ rfl) (fm_cons (hA57.get 5 _ rfl) (fm_cons (hA57.get 12 _ rfl) (fm_cons (hA57.get 62 _ rfl) fm_nil))))))
  refine t_norm ?_
  refine c_false hA58 rfl ?_
  refine wp_seq ?_
  refine wp_region_lit ?_
  refine q_step hA58 rfl (d_bin (wn rfl) (hA58.ev (v := (.int .i64 6)) rfl) (hA58.ev (v := (.int .i64 5)) rfl) (b_eq _ _ 6 5 false _ rfl) ?_)
  intro a59 hA60
  refine q_step hA60 rfl (d_assign (wn rfl) (hA60.ev (v := (.bool false)) rfl) ?_)
  intro a61 hA62
  refine q_end ?_
  have hA63 : St 117 [(0, (.pointer (some ⟨g, 0, none⟩))), (3, (.pointer (some ⟨g3, 0, none⟩))), (4, (.bool false)), (5, (.int .i64 (p + 1))), (12, (.int .i64 6)), (62, (.bool false))] a61 := hA62.cut _ (fm_cons (hA62.get 0 _ rfl) (fm_cons (hA62.get 3 _ rfl) (fm_cons (hA62.get 4 _ rfl) (fm_cons (hA62.get 5 _ rfl) (fm_cons (hA62.get 12 _ rfl) (fm_cons (hA62.get 62 _ rfl) fm_nil))))))
  refine t_norm ?_
  refine c_false hA63 rfl ?_
  refine wp_region_lit ?_
  refine q_step hA63 rfl (d_bin (wn rfl) (hA63.ev (v := (.int .i64 6)) rfl) (hA63.ev (v := (.int .i64 6)) rfl) (b_eq _ _ 6 6 true _ rfl) ?_)
  intro a64 hA65
  refine q_step hA65 rfl (d_assign (wn rfl) (hA65.ev (v := (.bool true)) rfl) ?_)
  intro a66 hA67
  refine q_end ?_
  have hA68 : St 117 [(0, (.pointer (some ⟨g, 0, none⟩))), (3, (.pointer (some ⟨g3, 0, none⟩))), (4, (.bool false)), (5, (.int .i64 (p + 1))), (12, (.int .i64 6)), (62, (.bool true))] a66 := hA67.cut _ (fm_cons (hA67.get 0 _ rfl) (fm_cons (hA67.get 3 _ rfl) (fm_cons (hA67.get 4 _ rfl) (fm_cons (hA67.get 5 _ rfl) (fm_cons (hA67.get 12 _ rfl) (fm_cons (hA67.get 62 _ rfl) fm_nil))))))
  refine t_norm ?_
  refine c_true hA68 rfl ?_
  refine wp_seq ?_
  refine wp_region_lit ?_
  refine q_step hA68 rfl (d_move (wn rfl) (hA68.ev (v := (.pointer (some ⟨g, 0, none⟩))) rfl) ?_)
  intro a69 hA70
  refine q_step hA70 rfl (d_loadRow (cs := (insC ⟨6, ((d : Nat) : Int), ((k : Nat) : Int), i.b, i.imm, i.loc, i.off, i.index, i.size, i.fn, i.acq, i.weak, i.rel, i.pred, i.succ, i.to, i.zero⟩)) (wn rfl) (hA70.ev (v := (.pointer (some ⟨g3, 0, none⟩))) rfl) row23 m7 ?_)
  intro a71 hA72
  refine q_step hA72 rfl (d_call (wn rfl) ent48 (map2 (hA72.ev (v := (.pointer (some ⟨g, 0, none⟩))) rfl) (hA72.ev (v := (.agg (insC ⟨6, ((d : Nat) : Int), ((k : Nat) : Int), i.b, i.imm, i.loc, i.off, i.index, i.size, i.fn, i.acq, i.weak, i.rel, i.pred, i.succ, i.to, i.zero⟩))) rfl)) (access_6 Bd g p r rd ev pa i d k u0 rl evs path w4 (Nat.le_trans hB b13.size) ⟨m12, hge, (hrd.below b13), ho14, ho15, oe, op_, ap⟩ hne hnp hr hix hoff hd hk hu0) ?_)
  rintro e76 w73 ⟨he75, bl77, rd78, ev79, pa80, hb81, _, hrd82, hev83, hpa84, oe85, op86, ap87⟩
  have ap88 : ∀ k, ev79.ownBlock = some k → pa80.ownBlock ≠ some k := fun k h1 h2 => ap87 k h2 h1
  have b89 := b13.trans bl77
  refine ⟨.bool true, he75, ?_⟩
  intro a90 hA91
  refine q_step hA91 rfl (d_not (wn rfl) (hA91.ev (v := (.bool true)) rfl) ?_)
  intro a92 hA93
  refine q_end ?_
  have hA94 : St 117 [(0, (.pointer (some ⟨g, 0, none⟩))), (4, (.bool false)), (5, (.int .i64 (p + 1))), (69, (.bool false))] a92 := hA93.cut _ (fm_cons (hA93.get 0 _ rfl) (fm_cons (hA93.get 4 _ rfl) (fm_cons (hA93.get 5 _ rfl) (fm_cons (hA93.get 69 _ rfl) fm_nil))))
  refine t_norm ?_
  refine c_false hA94 rfl ?_
  refine wp_skip ?_
  refine i_norm ?_
  refine t_norm ?_
  refine wp_seq ?_
  have hA95 : St 117 [(0, (.pointer (some ⟨g, 0, none⟩))), (4, (.bool false)), (5, (.int .i64 (p + 1)))] a92 := hA94.cut _ (fm_cons (hA94.get 0 _ rfl) (fm_cons (hA94.get 4 _ rfl) (fm_cons (hA94.get 5 _ rfl) fm_nil)))
  let M96 : Nat → Option (Array Value) := fun _ => none
  have hM96 : M96 = fun _ => none := rfl
  clear_value M96
  have hM96A : ∀ k, M96 k = none := fun k => congrFun hM96 k
  have hM96B : ∀ k, k < Bd → M96 k = none := fun k _ => hM96A k
  refine drawnL (S := SM M96) rfl (tabQ [some (.pointer (some ⟨g, 0, none⟩)), some (.pointer (some ⟨g, 0, none⟩)), some (.pointer (some ⟨g, 0, none⟩)), some (.pointer (some ⟨g, 11, none⟩)), none, some (.pointer (some ⟨g, 0, none⟩)), some (.pointer (some ⟨g, 0, none⟩)), some (.pointer (some ⟨g, 0, none⟩)), none, none, none, some (.pointer (some ⟨g, 0, none⟩)), some (.pointer (some ⟨g, 11, none⟩))] [cv (.pointer (some ⟨g, 0, none⟩)), cv (.pointer (some ⟨g, 0, none⟩)), cv (.pointer (some ⟨g, 0, none⟩)), cv (.pointer (some ⟨g, 11, none⟩)), cv pa80, cv (.pointer (some ⟨g, 0, none⟩)), cv (.pointer (some ⟨g, 0, none⟩)), cv (.pointer (some ⟨g, 0, none⟩)), cv (.int .i64 p), cs1 M96 hM96A #[.int .i64 p] 3, cfree, cv (.pointer (some ⟨g, 0, none⟩)), cv (.pointer (some ⟨g, 11, none⟩))]) (some 10) (fun i => (([some (.pointer (some ⟨g, 0, none⟩)), some (.pointer (some ⟨g, 0, none⟩)), some (.pointer (some ⟨g, 0, none⟩)), some (.pointer (some ⟨g, 11, none⟩)), none, some (.pointer (some ⟨g, 0, none⟩)), some (.pointer (some ⟨g, 0, none⟩)), some (.pointer (some ⟨g, 0, none⟩)), none, none, none, some (.pointer (some ⟨g, 0, none⟩)), some (.pointer (some ⟨g, 11, none⟩))] : List (Option Value))[i]?).getD none) (fun v' w' => w'.ownsRow Bd 3 1 v' (path.length + 1) ((paE path) ++ (#[.int .i64 p] : Array Value).toList) ∧ Below Bd w w' ∧ Blk w' g (walkC p (updR r d (I (getR (B u0) 0 i.size))) rd78 ev79 pa80) 62 ∧ w'.ownsRow Bd 52 15 ev79 ((evs ++ [acc6 i r k path.length p u0]).length) (evE (evs ++ [acc6 i r k path.length p u0])) ∧ v'.ownBlock ≠ some g ∧ ∀ k, ev79.ownBlock = some k → v'.ownBlock ≠ some k) [12, 10, 0, 1, 2, 3, 4, 5, 6, 7, 8, 9, 11] [4, 9, 3, 8, 2, 7, 1, 6, 5] mixedY SM.refl SM.trans hA95 (by kernel_rfl) (by kernel_rfl) (tabQ_cv _ _) ?_ ?_
  · skip
    refine eachD_cons (.inr (.inl ⟨by decide, _, rfl, fun x y hT hk hk0 => d_move (wn rfl) (hT.ev (v := (.pointer (some ⟨g, 0, none⟩))) rfl) ⟨rfl, rfl⟩⟩)) ?_
    refine eachD_cons (.inr (.inl ⟨by decide, _, rfl, fun x y hT hk hk0 => d_move (wn rfl) (hT.ev (v := (.pointer (some ⟨g, 0, none⟩))) rfl) ⟨rfl, rfl⟩⟩)) ?_
    refine eachD_cons (.inr (.inl ⟨by decide, _, rfl, fun x y hT hk hk0 => d_nilCheck (wn rfl) (hk 1 _ rfl rfl) ⟨rfl, rfl⟩⟩)) ?_
    refine eachD_cons (.inr (.inl ⟨by decide, _, rfl, fun x y hT hk hk0 => d_fieldAddr (wn rfl) (hk 2 _ rfl rfl) fo62_4 ⟨rfl, rfl⟩⟩)) ?_
    refine eachD_cons (.inl ⟨by decide, rfl, fun x y hS hT hk => d_load (v := pa80) (wn rfl) (hk 3 rfl) one30 ((Blk.sm (w := w73.drew) hb81 hS (hM96A _)).cell rfl) ⟨SM.refl _, rfl⟩⟩) ?_
    refine eachD_cons (.inr (.inl ⟨by decide, _, rfl, fun x y hT hk hk0 => d_move (wn rfl) (hT.ev (v := (.pointer (some ⟨g, 0, none⟩))) rfl) ⟨rfl, rfl⟩⟩)) ?_
    refine eachD_cons (.inr (.inl ⟨by decide, _, rfl, fun x y hT hk hk0 => d_nilCheck (wn rfl) (hk 5 _ rfl rfl) ⟨rfl, rfl⟩⟩)) ?_
    refine eachD_cons (.inr (.inl ⟨by decide, _, rfl, fun x y hT hk hk0 => d_fieldAddr (wn rfl) (hk 6 _ rfl rfl) fo62_0 ⟨rfl, rfl⟩⟩)) ?_
    refine eachD_cons (.inl ⟨by decide, rfl, fun x y hS hT hk => d_load (v := (.int .i64 p)) (wn rfl) (hk 7 rfl) one3 ((Blk.sm (w := w73.drew) hb81 hS (hM96A _)).cell rfl) ⟨SM.refl _, rfl⟩⟩) ?_
    refine eachD_cons (.inl ⟨by decide, rfl, fun x y hS hT hk => d_slice1 (wn rfl) (show x.eval _ = (.int .i64 p) from (hk 8 rfl)) elm30 rfl (by decide) (fun g w' _ hG hb => ⟨SM.grow hG, g, rfl, hb⟩)⟩) ?_
    refine eachD_cons (.inr (.inr ⟨rfl, fun x y hS hT hk => ?_⟩)) ?_
    · skip
      obtain ⟨gb, hvb, hbb⟩ := hk 9 rfl
      have hG : Grow w73 y := Grow.trans ((Grow.refl _).drew) (SM.grown (by rw [hM96] at hS; exact hS))
      have hR := own_grow hG hpa84
      have hO := own_grow hG hev83
      have hBl := below_grow b89 hG (Nat.le_trans hB b89.size)
      refine d_append (wn rfl) (show x.eval _ = pa80 from (hk 4 rfl)) hvb elm30 hR hbb rfl rfl (by omega) (by decide) (Nat.le_trans hB hBl.size) ?_
      intro v' w' h1 h2 h3
      exact ⟨h1, below_by hBl h2 (Nat.le_trans hB hBl.size) (fun k hk => (own_lt hR k hk).1), (hb81.grow hG).by h2 op86, own_by hO h2 ap88, lies_ne h3 op86 (hb81.grow hG).lt, lies_ap h3 ap88 hO⟩
    refine eachD_cons (.inr (.inl ⟨by decide, _, rfl, fun x y hT hk hk0 => d_nilCheck (wn rfl) (hk 0 _ rfl rfl) ⟨rfl, rfl⟩⟩)) ?_
    refine eachD_cons (.inr (.inl ⟨by decide, _, rfl, fun x y hT hk hk0 => d_fieldAddr (wn rfl) (hk 11 _ rfl rfl) fo62_4 ⟨rfl, rfl⟩⟩)) ?_
    exact eachD_one
  rintro a97 w98 hA99 ⟨hP101, hW102⟩
  obtain ⟨v103, hv104⟩ : ∃ v', v' = (a97.tmps.getD 110 undef) := ⟨_, rfl⟩
  have hW105 : (fun v' w' => w'.ownsRow Bd 3 1 v' (path.length + 1) ((paE path) ++ (#[.int .i64 p] : Array Value).toList) ∧ Below Bd w w' ∧ Blk w' g (walkC p (updR r d (I (getR (B u0) 0 i.size))) rd78 ev79 pa80) 62 ∧ w'.ownsRow Bd 52 15 ev79 ((evs ++ [acc6 i r k path.length p u0]).length) (evE (evs ++ [acc6 i r k path.length p u0])) ∧ v'.ownBlock ≠ some g ∧ ∀ k, ev79.ownBlock = some k → v'.ownBlock ≠ some k) v103 w98 := by rw [hv104]; exact hW102
  obtain ⟨ho106, b107, m108, ho109, off110, ap111⟩ := hW105
  have ap112 : ∀ k, v103.ownBlock = some k → ev79.ownBlock ≠ some k := fun k h1 h2 => ap111 k h2 h1
  have hA113 : St 117 [(0, (.pointer (some ⟨g, 0, none⟩))), (4, (.bool false)), (5, (.int .i64 (p + 1))), (110, v103), (112, (.pointer (some ⟨g, 11, none⟩)))] a97 := hA99.cut _ (fm_cons (hA99.get 0 _ rfl) (fm_cons (hA99.get 4 _ rfl) (fm_cons (hA99.get 5 _ rfl) (fm_cons hv104.symm (fm_cons (hP101 12 _ (Nat.le_of_ble_eq_true rfl) (by decide) rfl) fm_nil)))))
  refine d_store (v := v103) (wn rfl) (hA113.ev (v := (.pointer (some ⟨g, 11, none⟩))) rfl) (hA113.ev (v := v103) rfl) one30 (one_slice (own_form ho106)) m108 (Nat.le_of_ble_eq_true rfl) ?_
  intro w114 hU115 (m116 : Blk w114 g (walkC p (updR r d (I (getR (B u0) 0 i.size))) rd78 ev79 v103) 62)
  have b117 := hU115.below b107 hge
  have ho118 := own_upd ho109 hU115 oe85
  have ho119 := own_upd ho106 hU115 off110
  have hA120 : St 117 [(0, (.pointer (some ⟨g, 0, none⟩))), (4, (.bool false)), (5, (.int .i64 (p + 1)))] a97 := hA113.cut _ (fm_cons (hA113.get 0 _ rfl) (fm_cons (hA113.get 4 _ rfl) (fm_cons (hA113.get 5 _ rfl) fm_nil)))
  refine t_norm ?_
  refine wp_seq ?_
  refine wp_region_lit ?_
  refine q_step hA120 rfl (d_move (wn rfl) (hA120.ev (v := (.pointer (some ⟨g, 0, none⟩))) rfl) ?_)
  intro a121 hA122
  refine q_step hA122 rfl (d_move (wn rfl) (hA122.ev (v := (.int .i64 (p + 1))) rfl) ?_)
  intro a123 hA124
  refine q_step hA124 rfl (d_nilCheck (wn rfl) (hA124.ev (v := (.pointer (some ⟨g, 0, none⟩))) rfl) ?_)
  intro a125 hA126
  refine q_step hA126 rfl (d_fieldAddr (wn rfl) (hA126.ev (v := (.pointer (some ⟨g, 0, none⟩))) rfl) fo62_0 ?_)
  intro a127 hA128
  refine q_step hA128 rfl (d_store (v := (.int .i64 (p + 1))) (wn rfl) (hA128.ev (v := (.pointer (some ⟨g, 0, none⟩))) rfl) (hA128.ev (v := (.int .i64 (p + 1))) rfl) one3 rfl m116 (Nat.le_of_ble_eq_true rfl) ?_)
  intro w129 hU130 (m131 : Blk w129 g (walkC (p + 1) (updR r d (I (getR (B u0) 0 i.size))) rd78 ev79 v103) 62)
  have b132 := hU130.below b117 hge
  have ho133 := own_upd ho118 hU130 oe85
  have ho134 := own_upd ho119 hU130 off110
  intro a135 hA136
  refine q_end ?_
  have hA137 : St 117 [(4, (.bool false))] a135 := hA136.cut _ (fm_cons (hA136.get 4 _ rfl) fm_nil)
  refine t_norm ?_
  refine wp_seq ?_
  refine wp_region_lit ?_
  refine q_step hA137 rfl (d_assign (wn rfl) (hA137.ev (v := (.bool true)) rfl) ?_)
  intro a138 hA139
  refine q_end ?_
  have hA140 : St 117 [(4, (.bool true))] a138 := hA139.cut _ (fm_cons (hA139.get 4 _ rfl) fm_nil)
  refine t_norm ?_
  refine wp_ret ?_
  refine ret1 rfl hA140 (v := (.bool true)) rfl ?_
  exact ⟨rfl, b132, rd78, ev79, v103, m131, hge, (Sl.via hrd82 b89 b132), ho133, (by rw [List.length_append, ← paE_snoc]; exact ho134), oe85, off110, ap112⟩
set_option maxHeartbeats 4000000 in
set_option maxRecDepth 4000 in
theorem step_4n (Bd g : Nat) (p : Int) (r : Nat → Int) (rd ev pa : Value) (i : Ins) (d : Nat) (evs : List Ev) (path : List Int) (w : World) (hB : Bd ≤ w.heap.size) (hW : WS Bd g w p r ([] : List Int) evs path rd ev pa) (hne : evs.length ≤ 1000) (hnp : path.length ≤ 1000) (hr : ∀ k, wfI (r k)) (hp : 0 ≤ p) (hp2 : p ≤ 1000) (hix : ronB i.index = true) (hoff : wfI i.off) (hd : d < 8) : Calls Try.prog 36 #[.pointer (some ⟨g, 0, none⟩), .agg (insC ⟨4, ((d : Nat) : Int), i.a, i.b, i.imm, i.loc, i.off, i.index, i.size, i.fn, i.acq, i.weak, i.rel, i.pred, i.succ, i.to, i.zero⟩)] w fun e w' => e = .returned (.bool false) ∧ Below Bd w w' := by
  obtain ⟨hb, hge, hrd, hev, hpa, oe, op_, ap⟩ := hW
  have ap2 : ∀ k, ev.ownBlock = some k → pa.ownBlock ≠ some k := fun k h1 h2 => ap k h2 h1
  have b0 : Below Bd w w := Below.refl _ _
  refine enter (n := 117) Try.func36 rfl rfl (Nat.le_of_ble_eq_true rfl) ?_
  intro a1 hA2
  refine wp_seq ?_
  refine wp_region_lit ?_
  refine q_step hA2 rfl (d_box (wn rfl) (hA2.ev (v := (.agg (insC ⟨4, ((d : Nat) : Int), i.a, i.b, i.imm, i.loc, i.off, i.index, i.size, i.fn, i.acq, i.weak, i.rel, i.pred, i.succ, i.to, i.zero⟩))) rfl) ?_)
  intro g3 w4 eg5 hG6 (m7 : Blk w4 g3 (insC ⟨4, ((d : Nat) : Int), i.a, i.b, i.imm, i.loc, i.off, i.index, i.size, i.fn, i.acq, i.weak, i.rel, i.pred, i.succ, i.to, i.zero⟩) 23)
  have ge8 : Bd ≤ g3 := eg5 ▸ (Nat.le_trans hB b0.size)
  have n9 : g ≠ g3 := fun h => Nat.lt_irrefl _ ((h.trans eg5) ▸ hb.lt)
  have off10 := own_new hev eg5
  have off11 := own_new hpa eg5
  have m12 := hb.grow hG6
  have b13 := below_grow b0 hG6 (Nat.le_trans hB b0.size)
  have ho14 := own_grow hG6 hev
  have ho15 := own_grow hG6 hpa
  intro a16 hA17
  refine q_step hA17 rfl (d_assign (wn rfl) (hA17.ev (v := (.bool false)) rfl) ?_)
  intro a18 hA19
  refine q_end ?_
  have hA20 : St 117 [(0, (.pointer (some ⟨g, 0, none⟩))), (3, (.pointer (some ⟨g3, 0, none⟩))), (4, (.bool false))] a18 := hA19.cut _ (fm_cons (hA19.get 0 _ rfl) (fm_cons (hA19.get 3 _ rfl) (fm_cons (hA19.get 4 _ rfl) fm_nil)))
  refine t_norm ?_
  refine wp_seq ?_
  refine wp_region_lit ?_
  refine q_step hA20 rfl (d_move (wn rfl) (hA20.ev (v := (.pointer (some ⟨g, 0, none⟩))) rfl) ?_)
  intro a21 hA22
  refine q_step hA22 rfl (d_nilCheck (wn rfl) (hA22.ev (v := (.pointer (some ⟨g, 0, none⟩))) rfl) ?_)
  intro a23 hA24
  refine q_step hA24 rfl (d_fieldAddr (wn rfl) (hA24.ev (v := (.pointer (some ⟨g, 0, none⟩))) rfl) fo62_0 ?_)
  intro a25 hA26
  refine q_step hA26 rfl (d_load (v := (.int .i64 p)) (wn rfl) (hA26.ev (v := (.pointer (some ⟨g, 0, none⟩))) rfl) one3 (m12.cell rfl) ?_)
  intro a27 hA28
  refine q_step hA28 rfl (d_bin (wn rfl) (hA28.ev (v := (.int .i64 p)) rfl) (hA28.ev (v := (.int .i64 1)) rfl) (b_add _ _ p 1 _ (by omega) (by omega)) ?_)
  intro a29 hA30
  refine q_step hA30 rfl (d_assign (wn rfl) (hA30.ev (v := (.int .i64 (p + 1))) rfl) ?_)
  intro a31 hA32
  refine q_end ?_
  have hA33 : St 117 [(0, (.pointer (some ⟨g, 0, none⟩))), (3, (.pointer (some ⟨g3, 0, none⟩))), (4, (.bool false)), (5, (.int .i64 (p + 1)))] a31 := hA32.cut _ (fm_cons (hA32.get 0 _ rfl) (fm_cons (hA32.get 3 _ rfl) (fm_cons (hA32.get 4 _ rfl) (fm_cons (hA32.get 5 _ rfl) fm_nil))))
  refine t_norm ?_
  refine wp_seq ?_
  refine wp_seq ?_
  refine wp_region_lit ?_
  refine q_step hA33 rfl (d_fieldAddr (wn rfl) (hA33.ev (v := (.pointer (some ⟨g3, 0, none⟩))) rfl) fo23_0 ?_)
  intro a34 hA35
  refine q_step hA35 rfl (d_load (v := (.int .i64 4)) (wn rfl) (hA35.ev (v := (.pointer (some ⟨g3, 0, none⟩))) rfl) one3 (m7.cell rfl) ?_)
  intro a36 hA37
  refine q_end ?_
  have hA38 : St 117 [(0, (.pointer (some ⟨g, 0, none⟩))), (3, (.pointer (some ⟨g3, 0, none⟩))), (4, (.bool false)), (5, (.int .i64 (p + 1))), (12, (.int .i64 4))] a36 := hA37.cut _ (fm_cons (hA37.get 0 _ rfl) (fm_cons (hA37.get 3 _ rfl) (fm_cons (hA37.get 4 _ rfl) (fm_cons (hA37.get 5 _ rfl) (fm_cons (hA37.get 12 _ rfl) fm_nil)))))
  refine t_norm ?_
  refine wp_block ?_
  refine wp_seq ?_
  refine wp_region_lit ?_
  refine q_step hA38 rfl (d_bin (wn rfl) (hA38.ev (v := (.int .i64 4)) rfl) (hA38.ev (v := (.int .i64 1)) rfl) (b_eq _ _ 4 1 false _ rfl) ?_)
  intro a39 hA40
  refine q_step hA40 rfl (d_assign (wn rfl) (hA40.ev (v := (.bool false)) rfl) ?_)
  intro a41 hA42
  refine q_end ?_
  have hA43 : St 117 [(0, (.pointer (some ⟨g, 0, none⟩))), (3, (.pointer (some ⟨g3, 0, none⟩))), (4, (.bool false)), (5, (.int .i64 (p + 1))), (12, (.int .i64 4)), (13, (.bool false))] a41 := hA42.cut _ (fm_cons (hA42.get 0 _ rfl) (fm_cons (hA42.get 3 _ rfl) (fm_cons (hA42.get 4 _ rfl) (fm_cons (hA42.get 5 _ rfl) (fm_cons (hA42.get 12 _ rfl) (fm_cons (hA42.get 13 _ rfl) fm_nil))))))
  refine t_norm ?_
  refine c_false hA43 rfl ?_
  refine wp_seq ?_
  refine wp_region_lit ?_
  refine q_step hA43 rfl (d_bin (wn rfl) (hA43.ev (v := (.int .i64 4)) rfl) (hA43.ev (v := (.int .i64 2)) rfl) (b_eq _ _ 4 2 false _ rfl) ?_)
  intro a44 hA45
  refine q_step hA45 rfl (d_assign (wn rfl) (hA45.ev (v := (.bool false)) rfl) ?_)
  intro a46 hA47
  refine q_end ?_
  have hA48 : St 117 [(0, (.pointer (some ⟨g, 0, none⟩))), (3, (.pointer (some ⟨g3, 0, none⟩))), (4, (.bool false)), (5, (.int .i64 (p + 1))), (12, (.int .i64 4)), (23, (.bool false))] a46 := hA47.cut _ (fm_cons (hA47.get 0 _ rfl) (fm_cons (hA47.get 3 _ rfl) (fm_cons (hA47.get 4 _ rfl) (fm_cons (hA47.get 5 _ rfl) (fm_cons (hA47.get 12 _ rfl) (fm_cons (hA47.get 23 _ rfl) fm_nil))))))
  refine t_norm ?_
  refine c_false hA48 rfl ?_
  refine wp_seq ?_
  refine wp_region_lit ?_
  refine q_step hA48 rfl (d_bin (wn rfl) (hA48.ev (v := (.int .i64 4)) rfl) (hA48.ev (v := (.int .i64 3)) rfl) (b_eq _ _ 4 3 false _ rfl) ?_)
  intro a49 hA50
  refine q_step hA50 rfl (d_assign (wn rfl) (hA50.ev (v := (.bool false)) rfl) ?_)
  intro a51 hA52
  refine q_end ?_
  have hA53 : St 117 [(0, (.pointer (some ⟨g, 0, none⟩))), (3, (.pointer (some ⟨g3, 0, none⟩))), (4, (.bool false)), (5, (.int .i64 (p + 1))), (12, (.int .i64 4)), (38, (.bool false))] a51 := hA52.cut _ (fm_cons (hA52.get 0 _ rfl) (fm_cons (hA52.get 3 _ rfl) (fm_cons (hA52.get 4 _ rfl) (fm_cons (hA52.get 5 _ rfl) (fm_cons (hA52.get 12 _ rfl) (fm_cons (hA52.get 38 _ rfl) fm_nil))))))
  refine t_norm ?_
  refine c_false hA53 rfl ?_
  refine wp_seq ?_
  refine wp_seq ?_
  refine wp_region_lit ?_
  refine q_step hA53 rfl (d_bin (wn rfl) (hA53.ev (v := (.int .i64 4)) rfl) (hA53.ev (v := (.int .i64 4)) rfl) (b_eq _ _ 4 4 true _ rfl) ?_)
  intro a54 hA55
  refine q_step hA55 rfl (d_assign (wn rfl) (hA55.ev (v := (.bool true)) rfl) ?_)
  intro a56 hA57
  refine q_end ?_
  have hA58 : St 117 [(0, (.pointer (some ⟨g, 0, none⟩))), (3, (.pointer (some ⟨g3, 0, none⟩))), (4, (.bool false)), (5, (.int .i64 (p + 1))), (12, (.int .i64 4)), (62, (.bool true))] a56 := hA57.cut _ (fm_cons (hA57.get 0 _ rfl) (fm_cons (hA57.get 3 _ rfl) (fm_cons (hA57.get 4 _ rfl) (fm_cons (hA57.get 5 _ rfl) (fm_cons (hA57.get 12 _ rfl) (fm_cons (hA57.get 62 _ rfl) fm_nil))))))
  refine t_norm ?_
  refine c_true hA58 rfl ?_
  refine wp_skip ?_
  refine t_norm ?_
  refine c_true hA58 rfl ?_
  refine wp_seq ?_
  refine wp_region_lit ?_
  refine q_step hA58 rfl (d_move (wn rfl) (hA58.ev (v := (.pointer (some ⟨g, 0, none⟩))) rfl) ?_)
  intro a59 hA60
  refine q_step hA60 rfl (d_loadRow (cs := (insC ⟨4, ((d : Nat) : Int), i.a, i.b, i.imm, i.loc, i.off, i.index, i.size, i.fn, i.acq, i.weak, i.rel, i.pred, i.succ, i.to, i.zero⟩)) (wn rfl) (hA60.ev (v := (.pointer (some ⟨g3, 0, none⟩))) rfl) row23 m7 ?_)
  intro a61 hA62
  refine q_step hA62 rfl (d_call (wn rfl) ent48 (map2 (hA62.ev (v := (.pointer (some ⟨g, 0, none⟩))) rfl) (hA62.ev (v := (.agg (insC ⟨4, ((d : Nat) : Int), i.a, i.b, i.imm, i.loc, i.off, i.index, i.size, i.fn, i.acq, i.weak, i.rel, i.pred, i.succ, i.to, i.zero⟩))) rfl)) (access_4n Bd g p r rd ev pa i d evs path w4 (Nat.le_trans hB b13.size) ⟨m12, hge, (hrd.below b13), ho14, ho15, oe, op_, ap⟩ hne hnp hr hix hoff hd) ?_)
  rintro e66 w63 ⟨he65, bl67⟩
  have b68 := b13.trans bl67
  refine ⟨.bool false, he65, ?_⟩
  intro a69 hA70
  refine q_step hA70 rfl (d_not (wn rfl) (hA70.ev (v := (.bool false)) rfl) ?_)
  intro a71 hA72
  refine q_end ?_
  have hA73 : St 117 [(0, (.pointer (some ⟨g, 0, none⟩))), (4, (.bool false)), (5, (.int .i64 (p + 1))), (69, (.bool true))] a71 := hA72.cut _ (fm_cons (hA72.get 0 _ rfl) (fm_cons (hA72.get 4 _ rfl) (fm_cons (hA72.get 5 _ rfl) (fm_cons (hA72.get 69 _ rfl) fm_nil))))
  refine t_norm ?_
  refine c_true hA73 rfl ?_
  refine wp_seq ?_
  refine wp_region_lit ?_
  refine q_step hA73 rfl (d_assign (wn rfl) (hA73.ev (v := (.bool false)) rfl) ?_)
  intro a74 hA75
  refine q_end ?_
  have hA76 : St 117 [(0, (.pointer (some ⟨g, 0, none⟩))), (4, (.bool false)), (5, (.int .i64 (p + 1)))] a74 := hA75.cut _ (fm_cons (hA75.get 0 _ rfl) (fm_cons (hA75.get 4 _ rfl) (fm_cons (hA75.get 5 _ rfl) fm_nil)))
  refine t_norm ?_
  refine wp_ret ?_
  refine i_ret ?_
  refine t_ret ?_
  refine ret1 rfl hA76 (v := (.bool false)) rfl ?_
  exact ⟨rfl, b68⟩
set_option maxHeartbeats 4000000 in
set_option maxRecDepth 4000 in
theorem step_6n (Bd g : Nat) (p : Int) (r : Nat → Int) (rd ev pa : Value) (i : Ins) (d k : Nat) (evs : List Ev) (path : List Int) (w : World) (hB : Bd ≤ w.heap.size) (hW : WS Bd g w p r ([] : List Int) evs path rd ev pa) (hne : evs.length ≤ 1000) (hnp : path.length ≤ 1000) (hr : ∀ k, wfI (r k)) (hp : 0 ≤ p) (hp2 : p ≤ 1000) (hix : ronB i.index = true) (hoff : wfI i.off) (hd : d < 8) : Calls Try.prog 36 #[.pointer (some ⟨g, 0, none⟩), .agg (insC ⟨6, ((d : Nat) : Int), ((k : Nat) : Int), i.b, i.imm, i.loc, i.off, i.index, i.size, i.fn, i.acq, i.weak, i.rel, i.pred, i.succ, i.to, i.zero⟩)] w fun e w' => e = .returned (.bool false) ∧ Below Bd w w' := by
  obtain ⟨hb, hge, hrd, hev, hpa, oe, op_, ap⟩ := hW
  have ap2 : ∀ k, ev.ownBlock = some k → pa.ownBlock ≠ some k := fun k h1 h2 => ap k h2 h1
  have b0 : Below Bd w w := Below.refl _ _
  refine enter (n := 117) Try.func36 rfl rfl (Nat.le_of_ble_eq_true rfl) ?_
  intro a1 hA2
  refine wp_seq ?_
  refine wp_region_lit ?_
  refine q_step hA2 rfl (d_box (wn rfl) (hA2.ev (v := (.agg (insC ⟨6, ((d : Nat) : Int), ((k : Nat) : Int), i.b, i.imm, i.loc, i.off, i.index, i.size, i.fn, i.acq, i.weak, i.rel, i.pred, i.succ, i.to, i.zero⟩))) rfl) ?_)
  intro g3 w4 eg5 hG6 (m7 : Blk w4 g3 (insC ⟨6, ((d : Nat) : Int), ((k : Nat) : Int), i.b, i.imm, i.loc, i.off, i.index, i.size, i.fn, i.acq, i.weak, i.rel, i.pred, i.succ, i.to, i.zero⟩) 23)
  have ge8 : Bd ≤ g3 := eg5 ▸ (Nat.le_trans hB b0.size)
  have n9 : g ≠ g3 := fun h => Nat.lt_irrefl _ ((h.trans eg5) ▸ hb.lt)
  have off10 := own_new hev eg5
  have off11 := own_new hpa eg5
  have m12 := hb.grow hG6
  have b13 := below_grow b0 hG6 (Nat.le_trans hB b0.size)
  have ho14 := own_grow hG6 hev
  have ho15 := own_grow hG6 hpa
  intro a16 hA17
  refine q_step hA17 rfl (d_assign (wn rfl) (hA17.ev (v := (.bool false)) rfl) ?_)
  intro a18 hA19
  refine q_end ?_
  have hA20 : St 117 [(0, (.pointer (some ⟨g, 0, none⟩))), (3, (.pointer (some ⟨g3, 0, none⟩))), (4, (.bool false))] a18 := hA19.cut _ (fm_cons (hA19.get 0 _ rfl) (fm_cons (hA19.get 3 _ rfl) (fm_cons (hA19.get 4 _ rfl) fm_nil)))
  refine t_norm ?_
  refine wp_seq ?_
  refine wp_region_lit ?_
  refine q_step hA20 rfl (d_move (wn rfl) (hA20.ev (v := (.pointer (some ⟨g, 0, none⟩))) rfl) ?_)
  intro a21 hA22
  refine q_step hA22 rfl (d_nilCheck (wn rfl) (hA22.ev (v := (.pointer (some ⟨g, 0, none⟩))) rfl) ?_)
  intro a23 hA24
  refine q_step hA24 rfl (d_fieldAddr (wn rfl) (hA24.ev (v := (.pointer (some ⟨g, 0, none⟩))) rfl) fo62_0 ?_)
  intro a25 hA26
  refine q_step hA26 rfl (d_load (v := (.int .i64 p)) (wn rfl) (hA26.ev (v := (.pointer (some ⟨g, 0, none⟩))) rfl) one3 (m12.cell rfl) ?_)
  intro a27 hA28
  refine q_step hA28 rfl (d_bin (wn rfl) (hA28.ev (v := (.int .i64 p)) rfl) (hA28.ev (v := (.int .i64 1)) rfl) (b_add _ _ p 1 _ (by omega) (by omega)) ?_)
  intro a29 hA30
  refine q_step hA30 rfl (d_assign (wn rfl) (hA30.ev (v := (.int .i64 (p + 1))) rfl) ?_)
  intro a31 hA32
  refine q_end ?_
  have hA33 : St 117 [(0, (.pointer (some ⟨g, 0, none⟩))), (3, (.pointer (some ⟨g3, 0, none⟩))), (4, (.bool false)), (5, (.int .i64 (p + 1)))] a31 := hA32.cut _ (fm_cons (hA32.get 0 _ rfl) (fm_cons (hA32.get 3 _ rfl) (fm_cons (hA32.get 4 _ rfl) (fm_cons (hA32.get 5 _ rfl) fm_nil))))
  refine t_norm ?_
  refine wp_seq ?_
  refine wp_seq ?_
  refine wp_region_lit ?_
  refine q_step hA33 rfl (d_fieldAddr (wn rfl) (hA33.ev (v := (.pointer (some ⟨g3, 0, none⟩))) rfl) fo23_0 ?_)
  intro a34 hA35
  refine q_step hA35 rfl (d_load (v := (.int .i64 6)) (wn rfl) (hA35.ev (v := (.pointer (some ⟨g3, 0, none⟩))) rfl) one3 (m7.cell rfl) ?_)
  intro a36 hA37
  refine q_end ?_
  have hA38 : St 117 [(0, (.pointer (some ⟨g, 0, none⟩))), (3, (.pointer (some ⟨g3, 0, none⟩))), (4, (.bool false)), (5, (.int .i64 (p + 1))), (12, (.int .i64 6))] a36 := hA37.cut _ (fm_cons (hA37.get 0 _ rfl) (fm_cons (hA37.get 3 _ rfl) (fm_cons (hA37.get 4 _ rfl) (fm_cons (hA37.get 5 _ rfl) (fm_cons (hA37.get 12 _ rfl) fm_nil)))))
  refine t_norm ?_
  refine wp_block ?_
  refine wp_seq ?_
  refine wp_region_lit ?_
  refine q_step hA38 rfl (d_bin (wn rfl) (hA38.ev (v := (.int .i64 6)) rfl) (hA38.ev (v := (.int .i64 1)) rfl) (b_eq _ _ 6 1 false _ rfl) ?_)
  intro a39 hA40
  refine q_step hA40 rfl (d_assign (wn rfl) (hA40.ev (v := (.bool false)) rfl) ?_)
  intro a41 hA42
  refine q_end ?_
  have hA43 : St 117 [(0, (.pointer (some ⟨g, 0, none⟩))), (3, (.pointer (some ⟨g3, 0, none⟩))), (4, (.bool false)), (5, (.int .i64 (p + 1))), (12, (.int .i64 6)), (13, (.bool false))] a41 := hA42.cut _ (fm_cons (hA42.get 0 _ rfl) (fm_cons (hA42.get 3 _ rfl) (fm_cons (hA42.get 4 _ rfl) (fm_cons (hA42.get 5 _ rfl) (fm_cons (hA42.get 12 _ rfl) (fm_cons (hA42.get 13 _ rfl) fm_nil))))))
  refine t_norm ?_
  refine c_false hA43 rfl ?_
  refine wp_seq ?_
  refine wp_region_lit ?_
  refine q_step hA43 rfl (d_bin (wn rfl) (hA43.ev (v := (.int .i64 6)) rfl) (hA43.ev (v := (.int .i64 2)) rfl) (b_eq _ _ 6 2 false _ rfl) ?_)
  intro a44 hA45
  refine q_step hA45 rfl (d_assign (wn rfl) (hA45.ev (v := (.bool false)) rfl) ?_)
  intro a46 hA47
  refine q_end ?_
  have hA48 : St 117 [(0, (.pointer (some ⟨g, 0, none⟩))), (3, (.pointer (some ⟨g3, 0, none⟩))), (4, (.bool false)), (5, (.int .i64 (p + 1))), (12, (.int .i64 6)), (23, (.bool false))] a46 := hA47.cut _ (fm_cons (hA47.get 0 _ rfl) (fm_cons (hA47.get 3 _ rfl) (fm_cons (hA47.get 4 _ rfl) (fm_cons (hA47.get 5 _ rfl) (fm_cons (hA47.get 12 _ rfl) (fm_cons (hA47.get 23 _ rfl) fm_nil))))))
  refine t_norm ?_
  refine c_false hA48 rfl ?_
  refine wp_seq ?_
  refine wp_region_lit ?_
  refine q_step hA48 rfl (d_bin (wn rfl) (hA48.ev (v := (.int .i64 6)) rfl) (hA48.ev (v := (.int .i64 3)) rfl) (b_eq _ _ 6 3 false _ rfl) ?_)
  intro a49 hA50
  refine q_step hA50 rfl (d_assign (wn rfl) (hA50.ev (v := (.bool false)) rfl) ?_)
  intro a51 hA52
  refine q_end ?_
  have hA53 : St 117 [(0, (.pointer (some ⟨g, 0, none⟩))), (3, (.pointer (some ⟨g3, 0, none⟩))), (4, (.bool false)), (5, (.int .i64 (p + 1))), (12, (.int .i64 6)), (38, (.bool false))] a51 := hA52.cut _ (fm_cons (hA52.get 0 _ rfl) (fm_cons (hA52.get 3 _ rfl) (fm_cons (hA52.get 4 _ rfl) (fm_cons (hA52.get 5 _ rfl) (fm_cons (hA52.get 12 _ rfl) (fm_cons (hA52.get 38 _ rfl) fm_nil))))))
  refine t_norm ?_
  refine c_false hA53 rfl ?_
  refine wp_seq ?_
  refine wp_seq ?_
  refine wp_region_lit ?_
  refine q_step hA53 rfl (d_bin (wn rfl) (hA53.ev (v := (.int .i64 6)) rfl) (hA53.ev (v := (.int .i64 4)) rfl) (b_eq _ _ 6 4 false _ rfl) ?_)
  intro a54 hA55
  refine q_step hA55 rfl (d_assign (wn rfl) (hA55.ev (v := (.bool false)) rfl) ?_)
  intro a56 hA57
  refine q_end ?_
  have hA58 : St 117 [(0, (.pointer (some ⟨g, 0, none⟩))), (3, (.pointer (some ⟨g3, 0, none⟩))), (4, (.bool false)), (5, (.int .i64 (p + 1))), (12, (.int .i64 6)), (62, (.bool false))] a56 := hA57.cut _ (fm_cons (hA57.get 0 _ rfl) (fm_cons (hA57.get 3 _ rfl) (fm_cons (hA57.get 4 _ rfl) (fm_cons (hA57.get 5 _ rfl) (fm_cons (hA57.get 12 _ rfl) (fm_cons (hA57.get 62 _ rfl) fm_nil))))))
  refine t_norm ?_
  refine c_false hA58 rfl ?_
  refine wp_seq ?_
  refine wp_region_lit ?_
  refine q_step hA58 rfl (d_bin (wn rfl) (hA58.ev (v := (.int .i64 6)) rfl) (hA58.ev (v := (.int .i64 5)) rfl) (b_eq _ _ 6 5 false _ rfl) ?_)
  intro a59 hA60
  refine q_step hA60 rfl (d_assign (wn rfl) (hA60.ev (v := (.bool false)) rfl) ?_)
  intro a61 hA62
  refine q_end ?_
  have hA63 : St 117 [(0, (.pointer (some ⟨g, 0, none⟩))), (3, (.pointer (some ⟨g3, 0, none⟩))), (4, (.bool false)), (5, (.int .i64 (p + 1))), (12, (.int .i64 6)), (62, (.bool false))] a61 := hA62.cut _ (fm_cons (hA62.get 0 _ rfl) (fm_cons (hA62.get 3 _ rfl) (fm_cons (hA62.get 4 _ rfl) (fm_cons (hA62.get 5 _ rfl) (fm_cons (hA62.get 12 _ rfl) (fm_cons (hA62.get 62 _ rfl) fm_nil))))))
  refine t_norm ?_
  refine c_false hA63 rfl ?_
  refine wp_region_lit ?_
  refine q_step hA63 rfl (d_bin (wn rfl) (hA63.ev (v := (.int .i64 6)) rfl) (hA63.ev (v := (.int .i64 6)) rfl) (b_eq _ _ 6 6 true _ rfl) ?_)
  intro a64 hA65
  refine q_step hA65 rfl (d_assign (wn rfl) (hA65.ev (v := (.bool true)) rfl) ?_)
  intro a66 hA67
  refine q_end ?_
  have hA68 : St 117 [(0, (.pointer (some ⟨g, 0, none⟩))), (3, (.pointer (some ⟨g3, 0, none⟩))), (4, (.bool false)), (5, (.int .i64 (p + 1))), (12, (.int .i64 6)), (62, (.bool true))] a66 := hA67.cut _ (fm_cons (hA67.get 0 _ rfl) (fm_cons (hA67.get 3 _ rfl) (fm_cons (hA67.get 4 _ rfl) (fm_cons (hA67.get 5 _ rfl) (fm_cons (hA67.get 12 _ rfl) (fm_cons (hA67.get 62 _ rfl) fm_nil))))))
  refine t_norm ?_
  refine c_true hA68 rfl ?_
  refine wp_seq ?_
  refine wp_region_lit ?_
  refine q_step hA68 rfl (d_move (wn rfl) (hA68.ev (v := (.pointer (some ⟨g, 0, none⟩))) rfl) ?_)
  intro a69 hA70
  refine q_step hA70 rfl (d_loadRow (cs := (insC ⟨6, ((d : Nat) : Int), ((k : Nat) : Int), i.b, i.imm, i.loc, i.off, i.index, i.size, i.fn, i.acq, i.weak, i.rel, i.pred, i.succ, i.to, i.zero⟩)) (wn rfl) (hA70.ev (v := (.pointer (some ⟨g3, 0, none⟩))) rfl) row23 m7 ?_)
  intro a71 hA72
  refine q_step hA72 rfl (d_call (wn rfl) ent48 (map2 (hA72.ev (v := (.pointer (some ⟨g, 0, none⟩))) rfl) (hA72.ev (v := (.agg (insC ⟨6, ((d : Nat) : Int), ((k : Nat) : Int), i.b, i.imm, i.loc, i.off, i.index, i.size, i.fn, i.acq, i.weak, i.rel, i.pred, i.succ, i.to, i.zero⟩))) rfl)) (access_6n Bd g p r rd ev pa i d k evs path w4 (Nat.le_trans hB b13.size) ⟨m12, hge, (hrd.below b13), ho14, ho15, oe, op_, ap⟩ hne hnp hr hix hoff hd) ?_)
  rintro e76 w73 ⟨he75, bl77⟩
  have b78 := b13.trans bl77
  refine ⟨.bool false, he75, ?_⟩
  intro a79 hA80
  refine q_step hA80 rfl (d_not (wn rfl) (hA80.ev (v := (.bool false)) rfl) ?_)
  intro a81 hA82
  refine q_end ?_
  have hA83 : St 117 [(0, (.pointer (some ⟨g, 0, none⟩))), (4, (.bool false)), (5, (.int .i64 (p + 1))), (69, (.bool true))] a81 := hA82.cut _ (fm_cons (hA82.get 0 _ rfl) (fm_cons (hA82.get 4 _ rfl) (fm_cons (hA82.get 5 _ rfl) (fm_cons (hA82.get 69 _ rfl) fm_nil))))
  refine t_norm ?_
  refine c_true hA83 rfl ?_
  refine wp_seq ?_
  refine wp_region_lit ?_
  refine q_step hA83 rfl (d_assign (wn rfl) (hA83.ev (v := (.bool false)) rfl) ?_)
  intro a84 hA85
  refine q_end ?_
  have hA86 : St 117 [(0, (.pointer (some ⟨g, 0, none⟩))), (4, (.bool false)), (5, (.int .i64 (p + 1)))] a84 := hA85.cut _ (fm_cons (hA85.get 0 _ rfl) (fm_cons (hA85.get 4 _ rfl) (fm_cons (hA85.get 5 _ rfl) fm_nil)))
  refine t_norm ?_
  refine wp_ret ?_
  refine i_ret ?_
  refine t_ret ?_
  refine ret1 rfl hA86 (v := (.bool false)) rfl ?_
  exact ⟨rfl, b78⟩
end Go.Proofs.Ytlhompedcphnnaa
