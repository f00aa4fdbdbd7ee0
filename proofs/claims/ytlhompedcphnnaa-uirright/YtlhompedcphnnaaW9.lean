/- A step of the walk. -/
import Derived.Test.YtlhompedcphnnaaW3
namespace Go.Proofs.Ytlhompedcphnnaa
open Go.RowKit
set_option linter.unusedSimpArgs false
set_option linter.unusedVariables false
set_option maxHeartbeats 4000000 in
set_option maxRecDepth 4000 in
theorem step_9 (Bd g : Nat) (p : Int) (r : Nat → Int) (rd ev pa : Value) (i : Ins) (k : Nat) (rds : List Int) (evs : List Ev) (path : List Int) (w : World) (hB : Bd ≤ w.heap.size) (hW : WS Bd g w p r rds evs path rd ev pa) (hne : evs.length ≤ 1000) (hnp : path.length ≤ 1000) (hr : ∀ k, wfI (r k)) (hp : 0 ≤ p) (hp2 : p ≤ 1000) (hk : k < 8) : Calls Try.prog 36 #[.pointer (some ⟨g, 0, none⟩), .agg (insC ⟨9, i.dst, ((k : Nat) : Int), i.b, i.imm, i.loc, i.off, i.index, i.size, i.fn, i.acq, i.weak, i.rel, i.pred, i.succ, i.to, i.zero⟩)] w fun e w' => e = .returned (.bool true) ∧ Below Bd w w' ∧ ∃ rd' ev' pa', WS Bd g w' (brP r k i p) r rds evs (path ++ [p]) rd' ev' pa' := by
  obtain ⟨hb, hge, hrd, hev, hpa, oe, op_, ap⟩ := hW
  have ap2 : ∀ k, ev.ownBlock = some k → pa.ownBlock ≠ some k := fun k h1 h2 => ap k h2 h1
  have b0 : Below Bd w w := Below.refl _ _
  refine enter (n := 117) Try.func36 rfl rfl (Nat.le_of_ble_eq_true rfl) ?_
  intro a1 hA2
  refine wp_seq ?_
  refine wp_region_lit ?_
  refine q_step hA2 rfl (d_box (wn rfl) (hA2.ev (v := (.agg (insC ⟨9, i.dst, ((k : Nat) : Int), i.b, i.imm, i.loc, i.off, i.index, i.size, i.fn, i.acq, i.weak, i.rel, i.pred, i.succ, i.to, i.zero⟩))) rfl) ?_)
  intro g3 w4 eg5 hG6 (m7 : Blk w4 g3 (insC ⟨9, i.dst, ((k : Nat) : Int), i.b, i.imm, i.loc, i.off, i.index, i.size, i.fn, i.acq, i.weak, i.rel, i.pred, i.succ, i.to, i.zero⟩) 23)
  have ge8 : Bd ≤ g3 := eg5 ▸ (Nat.le_trans hB b0.size)
  have n9 : g ≠ g3 := fun h => Nat.lt_irrefl _ ((h.trans eg5) ▸ hb.lt)
  have off10 := own_new hev eg5
  have off11 := own_new hpa eg5
  have m12 := hb.grow hG6
  have b13 := below_grow b0 hG6 (Nat.le_trans hB b0.size)
  have ho14 := own_grow hG6 hev
  have ho15 := own_grow hG6 hpa
  intro a16 hA17
  refine q_step hA17 rfl (d_assign (wn rfl) (hA17.ev (v := (.bool false)) rfl) ?_)
  intro a18 hA19
  refine q_end ?_
  have hA20 : St 117 [(0, (.pointer (some ⟨g, 0, none⟩))), (3, (.pointer (some ⟨g3, 0, none⟩))), (4, (.bool false))] a18 := hA19.cut _ (fm_cons (hA19.get 0 _ rfl) (fm_cons (hA19.get 3 _ rfl) (fm_cons (hA19.get 4 _ rfl) fm_nil)))
  refine t_norm ?_
  refine wp_seq ?_
  refine wp_region_lit ?_
  refine q_step hA20 rfl (d_move (wn rfl) (hA20.ev (v := (.pointer (some ⟨g, 0, none⟩))) rfl) ?_)
  intro a21 hA22
  refine q_step hA22 rfl (d_nilCheck (wn rfl) (hA22.ev (v := (.pointer (some ⟨g, 0, none⟩))) rfl) ?_)
  intro a23 hA24
  refine q_step hA24 rfl (d_fieldAddr (wn rfl) (hA24.ev (v := (.pointer (some ⟨g, 0, none⟩))) rfl) fo62_0 ?_)
  intro a25 hA26
  refine q_step hA26 rfl (d_load (v := (.int .i64 p)) (wn rfl) (hA26.ev (v := (.pointer (some ⟨g, 0, none⟩))) rfl) one3 (m12.cell rfl) ?_)
  intro a27 hA28
  refine q_step hA28 rfl (d_bin (wn rfl) (hA28.ev (v := (.int .i64 p)) rfl) (hA28.ev (v := (.int .i64 1)) rfl) (b_add _ _ p 1 _ (by omega) (by omega)) ?_)
  intro a29 hA30
  refine q_step hA30 rfl (d_assign (wn rfl) (hA30.ev (v := (.int .i64 (p + 1))) rfl) ?_)
  intro a31 hA32
  refine q_end ?_
  have hA33 : St 117 [(0, (.pointer (some ⟨g, 0, none⟩))), (3, (.pointer (some ⟨g3, 0, none⟩))), (4, (.bool false)), (5, (.int .i64 (p + 1)))] a31 := hA32.cut _ (fm_cons (hA32.get 0 _ rfl) (fm_cons (hA32.get 3 _ rfl) (fm_cons (hA32.get 4 _ rfl) (fm_cons (hA32.get 5 _ rfl) fm_nil))))
  refine t_norm ?_
  refine wp_seq ?_
  refine wp_seq ?_
  refine wp_region_lit ?_
  refine q_step hA33 rfl (d_fieldAddr (wn rfl) (hA33.ev (v := (.pointer (some ⟨g3, 0, none⟩))) rfl) fo23_0 ?_)
  intro a34 hA35
  refine q_step hA35 rfl (d_load (v := (.int .i64 9)) (wn rfl) (hA35.ev (v := (.pointer (some ⟨g3, 0, none⟩))) rfl) one3 (m7.cell rfl) ?_)
  intro a36 hA37
  refine q_end ?_
  have hA38 : St 117 [(0, (.pointer (some ⟨g, 0, none⟩))), (3, (.pointer (some ⟨g3, 0, none⟩))), (4, (.bool false)), (5, (.int .i64 (p + 1))), (12, (.int .i64 9))] a36 := hA37.cut _ (fm_cons (hA37.get 0 _ rfl) (fm_cons (hA37.get 3 _ rfl) (fm_cons (hA37.get 4 _ rfl) (fm_cons (hA37.get 5 _ rfl) (fm_cons (hA37.get 12 _ rfl) fm_nil)))))
  refine t_norm ?_
  refine wp_block ?_
  refine wp_seq ?_
  refine wp_region_lit ?_
  refine q_step hA38 rfl (d_bin (wn rfl) (hA38.ev (v := (.int .i64 9)) rfl) (hA38.ev (v := (.int .i64 1)) rfl) (b_eq _ _ 9 1 false _ rfl) ?_)
  intro a39 hA40
  refine q_step hA40 rfl (d_assign (wn rfl) (hA40.ev (v := (.bool false)) rfl) ?_)
  intro a41 hA42
  refine q_end ?_
  have hA43 : St 117 [(0, (.pointer (some ⟨g, 0, none⟩))), (3, (.pointer (some ⟨g3, 0, none⟩))), (4, (.bool false)), (5, (.int .i64 (p + 1))), (12, (.int .i64 9)), (13, (.bool false))] a41 := hA42.cut _ (fm_cons (hA42.get 0 _ rfl) (fm_cons (hA42.get 3 _ rfl) (fm_cons (hA42.get 4 _ rfl) (fm_cons (hA42.get 5 _ rfl) (fm_cons (hA42.get 12 _ rfl) (fm_cons (hA42.get 13 _ rfl) fm_nil))))))
  refine t_norm ?_
  refine c_false hA43 rfl ?_
  refine wp_seq ?_
  refine wp_region_lit ?_
  refine q_step hA43 rfl (d_bin (wn rfl) (hA43.ev (v := (.int .i64 9)) rfl) (hA43.ev (v := (.int .i64 2)) rfl) (b_eq _ _ 9 2 false _ rfl) ?_)
  intro a44 hA45
  refine q_step hA45 rfl (d_assign (wn rfl) (hA45.ev (v := (.bool false)) rfl) ?_)
  intro a46 hA47
  refine q_end ?_
  have hA48 : St 117 [(0, (.pointer (some ⟨g, 0, none⟩))), (3, (.pointer (some ⟨g3, 0, none⟩))), (4, (.bool false)), (5, (.int .i64 (p + 1))), (12, (.int .i64 9)), (23, (.bool false))] a46 := hA47.cut _ (fm_cons (hA47.get 0 _ rfl) (fm_cons (hA47.get 3 _ rfl) (fm_cons (hA47.get 4 _ rfl) (fm_cons (hA47.get 5 _ rfl) (fm_cons (hA47.get 12 _ rfl) (fm_cons (hA47.get 23 _ rfl) fm_nil))))))
  refine t_norm ?_
  refine c_false hA48 rfl ?_
  refine wp_seq ?_
  refine wp_region_lit ?_
  refine q_step hA48 rfl (d_bin (wn rfl) (hA48.ev (v := (.int .i64 9)) rfl) (hA48.ev (v := (.int .i64 3)) rfl) (b_eq _ _ 9 3 false _ rfl) ?_)
  intro a49 hA50
  refine q_step hA50 rfl (d_assign (wn rfl) (hA50.ev (v := (.bool false)) rfl) ?_)
  intro a51 hA52
  refine q_end ?_
  have hA53 : St 117 [(0, (.pointer (some ⟨g, 0, none⟩))), (3, (.pointer (some ⟨g3, 0, none⟩))), (4, (.bool false)), (5, (.int .i64 (p + 1))), (12, (.int .i64 9)), (38, (.bool false))] a51 := hA52.cut _ (fm_cons (hA52.get 0 _ rfl) (fm_cons (hA52.get 3 _ rfl) (fm_cons (hA52.get 4 _ rfl) (fm_cons (hA52.get 5 _ rfl) (fm_cons (hA52.get 12 _ rfl) (fm_cons (hA52.get 38 _ rfl) fm_nil))))))
  refine t_norm ?_
  refine c_false hA53 rfl ?_
  refine wp_seq ?_
  refine wp_seq ?_
  refine wp_region_lit ?_
  refine q_step hA53 rfl (d_bin (wn rfl) (hA53.ev (v := (.int .i64 9)) rfl) (hA53.ev (v := (.int .i64 4)) rfl) (b_eq _ _ 9 4 false _ rfl) ?_)
  intro a54 hA55
  refine q_step hA55 rfl (d_assign (wn rfl) (hA55.ev (v := (.bool false)) rfl) ?_)
  intro a56 hA57
  refine q_end ?_
  have hA58 : St 117 [(0, (.pointer (some ⟨g, 0, none⟩))), (3, (.pointer (some ⟨g3, 0, none⟩))), (4, (.bool false)), (5, (.int .i64 (p + 1))), (12, (.int .i64 9)), (62, (.bool false))] a56 := hA57.cut _ (fm_cons (hA57.get 0 _ rfl) (fm_cons (hA57.get 3 _ rfl) (fm_cons (hA57.get 4 _ rfl) (fm_cons (hA57.get 5 _ rfl) (fm_cons (hA57.get 12 _ rfl) (fm_cons (hA57.get 62 _ rfl) fm_nil))))))
  refine t_norm ?_
  refine c_false hA58 rfl ?_
  refine wp_seq ?_
  refine wp_region_lit ?_
  refine q_step hA58 rfl (d_bin (wn rfl) (hA58.ev (v := (.int .i64 9)) rfl) (hA58.ev (v := (.int .i64 5)) rfl) (b_eq _ _ 9 5 false _ rfl) ?_)
  intro a59 hA60
  refine q_step hA60 rfl (d_assign (wn rfl) (hA60.ev (v := (.bool false)) rfl) ?_)
  intro a61 hA62
  refine q_end ?_
  have hA63 : St 117 [(0, (.pointer (some ⟨g, 0, none⟩))), (3, (.pointer (some ⟨g3, 0, none⟩))), (4, (.bool false)), (5, (.int .i64 (p + 1))), (12, (.int .i64 9)), (62, (.bool false))] a61 := hA62.cut _ (fm_cons (hA62.get 0 _ rfl) (fm_cons (hA62.get 3 _ rfl) (fm_cons (hA62.get 4 _ rfl) (fm_cons (hA62.get 5 _ rfl) (fm_cons (hA62.get 12 _ rfl) (fm_cons (hA62.get 62 _ rfl) fm_nil))))))
  refine t_norm ?_
  refine c_false hA63 rfl ?_
  refine wp_region_lit ?_
  refine q_step hA63 rfl (d_bin (wn rfl) (hA63.ev (v := (.int .i64 9)) rfl) (hA63.ev (v := (.int .i64 6)) rfl) (b_eq _ _ 9 6 false _ rfl) ?_)
  intro a64 hA65
  refine q_step hA65 rfl (d_assign (wn rfl) (hA65.ev (v := (.bool false)) rfl) ?_)
  intro a66 hA67
  refine q_end ?_
  have hA68 : St 117 [(0, (.pointer (some ⟨g, 0, none⟩))), (3, (.pointer (some ⟨g3, 0, none⟩))), (4, (.bool false)), (5, (.int .i64 (p + 1))), (12, (.int .i64 9)), (62, (.bool false))] a66 := hA67.cut _ (fm_cons (hA67.get 0 _ rfl) (fm_cons (hA67.get 3 _ rfl) (fm_cons (hA67.get 4 _ rfl) (fm_cons (hA67.get 5 _ rfl) (fm_cons (hA67.get 12 _ rfl) (fm_cons (hA67.get 62 _ rfl) fm_nil))))))
  refine t_norm ?_
  refine c_false hA68 rfl ?_
  refine wp_seq ?_
  refine wp_seq ?_
  refine wp_region_lit ?_
  refine q_step hA68 rfl (d_bin (wn rfl) (hA68.ev (v := (.int .i64 9)) rfl) (hA68.ev (v := (.int .i64 7)) rfl) (b_eq _ _ 9 7 false _ rfl) ?_)
  intro a69 hA70
  refine q_step hA70 rfl (d_assign (wn rfl) (hA70.ev (v := (.bool false)) rfl) ?_)
  intro a71 hA72
  refine q_end ?_
  have hA73 : St 117 [(0, (.pointer (some ⟨g, 0, none⟩))), (3, (.pointer (some ⟨g3, 0, none⟩))), (4, (.bool false)), (5, (.int .i64 (p + 1))), (12, (.int .i64 9)), (70, (.bool false))] a71 := hA72.cut _ (fm_cons (hA72.get 0 _ rfl) (fm_cons (hA72.get 3 _ rfl) (fm_cons (hA72.get 4 _ rfl) (fm_cons (hA72.get 5 _ rfl) (fm_cons (hA72.get 12 _ rfl) (fm_cons (hA72.get 70 _ rfl) fm_nil))))))
  refine t_norm ?_
  refine c_false hA73 rfl ?_
  refine wp_region_lit ?_
  refine q_step hA73 rfl (d_bin (wn rfl) (hA73.ev (v := (.int .i64 9)) rfl) (hA73.ev (v := (.int .i64 8)) rfl) (b_eq _ _ 9 8 false _ rfl) ?_)
  intro a74 hA75
  refine q_step hA75 rfl (d_assign (wn rfl) (hA75.ev (v := (.bool false)) rfl) ?_)
  intro a76 hA77
  refine q_end ?_
  have hA78 : St 117 [(0, (.pointer (some ⟨g, 0, none⟩))), (3, (.pointer (some ⟨g3, 0, none⟩))), (4, (.bool false)), (5, (.int .i64 (p + 1))), (12, (.int .i64 9)), (70, (.bool false))] a76 := hA77.cut _ (fm_cons (hA77.get 0 _ rfl) (fm_cons (hA77.get 3 _ rfl) (fm_cons (hA77.get 4 _ rfl) (fm_cons (hA77.get 5 _ rfl) (fm_cons (hA77.get 12 _ rfl) (fm_cons (hA77.get 70 _ rfl) fm_nil))))))
  refine t_norm ?_
  refine c_false hA78 rfl ?_
  refine wp_seq ?_
  refine wp_region_lit ?_
  refine q_step hA78 rfl (d_bin (wn rfl) (hA78.ev (v := (.int .i64 9)) rfl) (hA78.ev (v := (.int .i64 9)) rfl) (b_eq _ _ 9 9 true _ rfl) ?_)
  intro a79 hA80
  refine q_step hA80 rfl (d_assign (wn rfl) (hA80.ev (v := (.bool true)) rfl) ?_)
  intro a81 hA82
  refine q_end ?_
  have hA83 : St 117 [(0, (.pointer (some ⟨g, 0, none⟩))), (3, (.pointer (some ⟨g3, 0, none⟩))), (4, (.bool false)), (5, (.int .i64 (p + 1))), (85, (.bool true))] a81 := hA82.cut _ (fm_cons (hA82.get 0 _ rfl) (fm_cons (hA82.get 3 _ rfl) (fm_cons (hA82.get 4 _ rfl) (fm_cons (hA82.get 5 _ rfl) (fm_cons (hA82.get 85 _ rfl) fm_nil)))))
  refine t_norm ?_
  refine c_true hA83 rfl ?_
  refine wp_seq ?_
  rcases Bool.eq_false_or_eq_true (r k == 0) with hb84 | hb84
  · skip
    have hq85 := eq_of_beq hb84
    rcases Bool.eq_false_or_eq_true (i.zero) with hb86 | hb86
    · skip
      have hA88 : St 117 [(0, (.pointer (some ⟨g, 0, none⟩))), (3, (.pointer (some ⟨g3, 0, none⟩))), (4, (.bool false)), (5, (.int .i64 (p + 1)))] a81 := hA83.cut _ (fm_cons (hA83.get 0 _ rfl) (fm_cons (hA83.get 3 _ rfl) (fm_cons (hA83.get 4 _ rfl) (fm_cons (hA83.get 5 _ rfl) fm_nil))))
      let M89 : Nat → Option (Array Value) := fun _ => none
      have hM89 : M89 = fun _ => none := rfl
      clear_value M89
      have hM90 : M89 g = none := (congrFun hM89 g)
      have hM91 : M89 g3 = none := (congrFun hM89 g3)
      have hM89B : ∀ k, k < Bd → M89 k = none := (fun k hk => (congrFun hM89 k))
      refine drawn (S := SM M89) (tabL [cv (.pointer (some ⟨g, 0, none⟩)), cv (.pointer (some ⟨g3, 2, none⟩)), cv (.int .i64 ((k : Nat) : Int)), cv (.pointer (some ⟨g, 0, none⟩)), cv (.pointer (some ⟨g, 1, none⟩)), cv (.pointer (some ⟨g, 1 + k, none⟩)), cv (.int .i64 (r k)), cv (.bool true), cv (.pointer (some ⟨g3, 16, none⟩)), cv (.bool true), cv (.bool true)]) mixedY SM.refl SM.trans SM.drew hA88 (by kernel_rfl) ?_ ?_
      · skip
        refine each_cons (fun x y hS hT hk => d_move (wn rfl) (hT.ev (v := (.pointer (some ⟨g, 0, none⟩))) rfl) ⟨SM.refl _, rfl⟩) ?_
        refine each_cons (fun x y hS hT hk => d_fieldAddr (wn rfl) (hT.ev (v := (.pointer (some ⟨g3, 0, none⟩))) rfl) fo23_2 ⟨SM.refl _, rfl⟩) ?_
        refine each_cons (fun x y hS hT hk => d_load (v := (.int .i64 ((k : Nat) : Int))) (wn rfl) (hk 1 rfl) one3 ((Blk.sm (w := w4.drew) m7 hS hM91).cell rfl) ⟨SM.refl _, rfl⟩) ?_
        refine each_cons (fun x y hS hT hk => d_nilCheck (wn rfl) (hk 0 rfl) ⟨SM.refl _, rfl⟩) ?_
        refine each_cons (fun x y hS hT hk => d_fieldAddr (wn rfl) (hk 3 rfl) fo62_1 ⟨SM.refl _, rfl⟩) ?_
        refine each_cons (fun x y hS hT hk => d_indexArrP (j := k) (p := 1 + k) (wn rfl) (hk 4 rfl) (hk 2 rfl) arr43 (by omega) (by omega) ⟨SM.refl _, rfl⟩) ?_
        refine each_cons (fun x y hS hT hk => d_load (v := (.int .i64 (r k))) (wn rfl) (hk 5 rfl) one3 ((Blk.sm (w := w4.drew) m12 hS hM90).cell (walk_get (by omega))) ⟨SM.refl _, rfl⟩) ?_
        refine each_cons (fun x y hS hT hk => d_bin (wn rfl) (hk 6 rfl) (hT.ev (v := (.int .i64 0)) rfl) (b_eq _ _ (r k) 0 true _ hb84) ⟨SM.refl _, rfl⟩) ?_
        refine each_cons (fun x y hS hT hk => d_fieldAddr (wn rfl) (hT.ev (v := (.pointer (some ⟨g3, 0, none⟩))) rfl) fo23_16 ⟨SM.refl _, rfl⟩) ?_
        refine each_cons (fun x y hS hT hk => d_load (v := (.bool true)) (wn rfl) (hk 8 rfl) one4 ((Blk.sm (w := w4.drew) m7 hS hM91).cell (congrArg (fun b => some (Value.bool b)) hb86)) ⟨SM.refl _, rfl⟩) ?_
        refine each_cons (fun x y hS hT hk => d_bin (wn rfl) (hk 7 rfl) (hk 9 rfl) (b_eqb _ _ true true true _ Try.underlying4 rfl) ⟨SM.refl _, rfl⟩) ?_
        exact each_nil
      intro f92 a93 w94 hS95 hC96 hA97
      have hA98 : St 117 [(0, (.pointer (some ⟨g, 0, none⟩))), (3, (.pointer (some ⟨g3, 0, none⟩))), (4, (.bool false)), (5, (.int .i64 (p + 1))), (97, (.bool true))] a93 := hA97.cut _ (fm_cons (hA97.get 0 _ rfl) (fm_cons (hA97.get 3 _ rfl) (fm_cons (hA97.get 4 _ rfl) (fm_cons (hA97.get 5 _ rfl) (fm_cons ((hA97.get 97 _ rfl).trans (hC96 10 (Nat.le_of_ble_eq_true rfl))) fm_nil)))))
      have m99 := m12.sm hS95 hM90
      have m100 := m7.sm hS95 hM91
      have b101 := hS95.below b13 (Nat.le_trans hB b13.size) hM89B
      have ho102 := own_sm ho14 hS95 (fun k => congrFun hM89 k)
      have ho103 := own_sm ho15 hS95 (fun k => congrFun hM89 k)
      refine t_norm ?_
      refine c_true hA98 rfl ?_
      refine wp_region_lit ?_
      refine q_step hA98 rfl (d_fieldAddr (wn rfl) (hA98.ev (v := (.pointer (some ⟨g3, 0, none⟩))) rfl) fo23_15 ?_)
      intro a104 hA105
      refine q_step hA105 rfl (d_load (v := (.int .i64 i.to)) (wn rfl) (hA105.ev (v := (.pointer (some ⟨g3, 15, none⟩))) rfl) one3 (m100.cell rfl) ?_)
      intro a106 hA107
      refine q_step hA107 rfl (d_assign (wn rfl) (hA107.ev (v := (.int .i64 i.to)) rfl) ?_)
      intro a108 hA109
      refine q_end ?_
      have hA110 : St 117 [(0, (.pointer (some ⟨g, 0, none⟩))), (4, (.bool false)), (5, (.int .i64 i.to))] a108 := hA109.cut _ (fm_cons (hA109.get 0 _ rfl) (fm_cons (hA109.get 4 _ rfl) (fm_cons (hA109.get 5 _ rfl) fm_nil)))
      refine i_norm ?_
      refine t_norm ?_
      refine wp_seq ?_
      have hA111 : St 117 [(0, (.pointer (some ⟨g, 0, none⟩))), (4, (.bool false)), (5, (.int .i64 i.to))] a108 := hA110.cut _ (fm_cons (hA110.get 0 _ rfl) (fm_cons (hA110.get 4 _ rfl) (fm_cons (hA110.get 5 _ rfl) fm_nil)))
      let M112 : Nat → Option (Array Value) := fun _ => none
      have hM112 : M112 = fun _ => none := rfl
      clear_value M112
      have hM112A : ∀ k, M112 k = none := fun k => congrFun hM112 k
      have hM112B : ∀ k, k < Bd → M112 k = none := fun k _ => hM112A k
      refine drawnL (S := SM M112) rfl (tabQ [some (.pointer (some ⟨g, 0, none⟩)), some (.pointer (some ⟨g, 0, none⟩)), some (.pointer (some ⟨g, 0, none⟩)), some (.pointer (some ⟨g, 11, none⟩)), none, some (.pointer (some ⟨g, 0, none⟩)), some (.pointer (some ⟨g, 0, none⟩)), some (.pointer (some ⟨g, 0, none⟩)), none, none, none, some (.pointer (some ⟨g, 0, none⟩)), some (.pointer (some ⟨g, 11, none⟩))] [cv (.pointer (some ⟨g, 0, none⟩)), cv (.pointer (some ⟨g, 0, none⟩)), cv (.pointer (some ⟨g, 0, none⟩)), cv (.pointer (some ⟨g, 11, none⟩)), cv pa, cv (.pointer (some ⟨g, 0, none⟩)), cv (.pointer (some ⟨g, 0, none⟩)), cv (.pointer (some ⟨g, 0, none⟩)), cv (.int .i64 p), cs1 M112 hM112A #[.int .i64 p] 3, cfree, cv (.pointer (some ⟨g, 0, none⟩)), cv (.pointer (some ⟨g, 11, none⟩))]) (some 10) (fun i => (([some (.pointer (some ⟨g, 0, none⟩)), some (.pointer (some ⟨g, 0, none⟩)), some (.pointer (some ⟨g, 0, none⟩)), some (.pointer (some ⟨g, 11, none⟩)), none, some (.pointer (some ⟨g, 0, none⟩)), some (.pointer (some ⟨g, 0, none⟩)), some (.pointer (some ⟨g, 0, none⟩)), none, none, none, some (.pointer (some ⟨g, 0, none⟩)), some (.pointer (some ⟨g, 11, none⟩))] : List (Option Value))[i]?).getD none) (fun v' w' => w'.ownsRow Bd 3 1 v' (path.length + 1) ((paE path) ++ (#[.int .i64 p] : Array Value).toList) ∧ Below Bd w w' ∧ Blk w' g (walkC p r rd ev pa) 62 ∧ Blk w' g3 (insC ⟨9, i.dst, ((k : Nat) : Int), i.b, i.imm, i.loc, i.off, i.index, i.size, i.fn, i.acq, i.weak, i.rel, i.pred, i.succ, i.to, i.zero⟩) 23 ∧ w'.ownsRow Bd 52 15 ev evs.length (evE evs) ∧ v'.ownBlock ≠ some g ∧ v'.ownBlock ≠ some g3 ∧ ∀ k, ev.ownBlock = some k → v'.ownBlock ≠ some k) [12, 10, 0, 1, 2, 3, 4, 5, 6, 7, 8, 9, 11] [4, 9, 3, 8, 2, 7, 1, 6, 5] mixedY SM.refl SM.trans hA111 (by kernel_rfl) (by kernel_rfl) (tabQ_cv _ _) ?_ ?_
      · skip
        refine eachD_cons (.inr (.inl ⟨by decide, _, rfl, fun x y hT hk hk0 => d_move (wn rfl) (hT.ev (v := (.pointer (some ⟨g, 0, none⟩))) rfl) ⟨rfl, rfl⟩⟩)) ?_
        refine eachD_cons (.inr (.inl ⟨by decide, _, rfl, fun x y hT hk hk0 => d_move (wn rfl) (hT.ev (v := (.pointer (some ⟨g, 0, none⟩))) rfl) ⟨rfl, rfl⟩⟩)) ?_
        refine eachD_cons (.inr (.inl ⟨by decide, _, rfl, fun x y hT hk hk0 => d_nilCheck (wn rfl) (hk 1 _ rfl rfl) ⟨rfl, rfl⟩⟩)) ?_
        refine eachD_cons (.inr (.inl ⟨by decide, _, rfl, fun x y hT hk hk0 => d_fieldAddr (wn rfl) (hk 2 _ rfl rfl) fo62_4 ⟨rfl, rfl⟩⟩)) ?_
        refine eachD_cons (.inl ⟨by decide, rfl, fun x y hS hT hk => d_load (v := pa) (wn rfl) (hk 3 rfl) one30 ((Blk.sm (w := w94.drew) m99 hS (hM112A _)).cell rfl) ⟨SM.refl _, rfl⟩⟩) ?_
        refine eachD_cons (.inr (.inl ⟨by decide, _, rfl, fun x y hT hk hk0 => d_move (wn rfl) (hT.ev (v := (.pointer (some ⟨g, 0, none⟩))) rfl) ⟨rfl, rfl⟩⟩)) ?_
        refine eachD_cons (.inr (.inl ⟨by decide, _, rfl, fun x y hT hk hk0 => d_nilCheck (wn rfl) (hk 5 _ rfl rfl) ⟨rfl, rfl⟩⟩)) ?_
        refine eachD_cons (.inr (.inl ⟨by decide, _, rfl, fun x y hT hk hk0 => d_fieldAddr (wn rfl) (hk 6 _ rfl rfl) fo62_0 ⟨rfl, rfl⟩⟩)) ?_
        refine eachD_cons (.inl ⟨by decide, rfl, fun x y hS hT hk => d_load (v := (.int .i64 p)) (wn rfl) (hk 7 rfl) one3 ((Blk.sm (w := w94.drew) m99 hS (hM112A _)).cell rfl) ⟨SM.refl _, rfl⟩⟩) ?_
        refine eachD_cons (.inl ⟨by decide, rfl, fun x y hS hT hk => d_slice1 (wn rfl) (show x.eval _ = (.int .i64 p) from (hk 8 rfl)) elm30 rfl (by decide) (fun g w' _ hG hb => ⟨SM.grow hG, g, rfl, hb⟩)⟩) ?_
        refine eachD_cons (.inr (.inr ⟨rfl, fun x y hS hT hk => ?_⟩)) ?_
        · skip
          obtain ⟨gb, hvb, hbb⟩ := hk 9 rfl
          have hG : Grow w94 y := Grow.trans ((Grow.refl _).drew) (SM.grown (by rw [hM112] at hS; exact hS))
          have hR := own_grow hG ho103
          have hO := own_grow hG ho102
          have hBl := below_grow b101 hG (Nat.le_trans hB b101.size)
          refine d_append (wn rfl) (show x.eval _ = pa from (hk 4 rfl)) hvb elm30 hR hbb rfl rfl (by omega) (by decide) (Nat.le_trans hB hBl.size) ?_
          intro v' w' h1 h2 h3
          exact ⟨h1, below_by hBl h2 (Nat.le_trans hB hBl.size) (fun k hk => (own_lt hR k hk).1), (m99.grow hG).by h2 op_, (m100.grow hG).by h2 off11, own_by hO h2 ap2, lies_ne h3 op_ (m99.grow hG).lt, lies_ne h3 off11 (m100.grow hG).lt, lies_ap h3 ap2 hO⟩
        refine eachD_cons (.inr (.inl ⟨by decide, _, rfl, fun x y hT hk hk0 => d_nilCheck (wn rfl) (hk 0 _ rfl rfl) ⟨rfl, rfl⟩⟩)) ?_
        refine eachD_cons (.inr (.inl ⟨by decide, _, rfl, fun x y hT hk hk0 => d_fieldAddr (wn rfl) (hk 11 _ rfl rfl) fo62_4 ⟨rfl, rfl⟩⟩)) ?_
        exact eachD_one
      rintro a113 w114 hA115 ⟨hP117, hW118⟩
      obtain ⟨v119, hv120⟩ : ∃ v', v' = (a113.tmps.getD 110 undef) := ⟨_, rfl⟩
      have hW121 : (fun v' w' => w'.ownsRow Bd 3 1 v' (path.length + 1) ((paE path) ++ (#[.int .i64 p] : Array Value).toList) ∧ Below Bd w w' ∧ Blk w' g (walkC p r rd ev pa) 62 ∧ Blk w' g3 (insC ⟨9, i.dst, ((k : Nat) : Int), i.b, i.imm, i.loc, i.off, i.index, i.size, i.fn, i.acq, i.weak, i.rel, i.pred, i.succ, i.to, i.zero⟩) 23 ∧ w'.ownsRow Bd 52 15 ev evs.length (evE evs) ∧ v'.ownBlock ≠ some g ∧ v'.ownBlock ≠ some g3 ∧ ∀ k, ev.ownBlock = some k → v'.ownBlock ≠ some k) v119 w114 := by rw [hv120]; exact hW118
      obtain ⟨ho122, b123, m124, m125, ho126, off127, off128, ap129⟩ := hW121
      have ap130 : ∀ k, v119.ownBlock = some k → ev.ownBlock ≠ some k := fun k h1 h2 => ap129 k h2 h1
      have hA131 : St 117 [(0, (.pointer (some ⟨g, 0, none⟩))), (4, (.bool false)), (5, (.int .i64 i.to)), (110, v119), (112, (.pointer (some ⟨g, 11, none⟩)))] a113 := hA115.cut _ (fm_cons (hA115.get 0 _ rfl) (fm_cons (hA115.get 4 _ rfl) (fm_cons (hA115.get 5 _ rfl) (fm_cons hv120.symm (fm_cons (hP117 12 _ (Nat.le_of_ble_eq_true rfl) (by decide) rfl) fm_nil)))))
      refine d_store (v := v119) (wn rfl) (hA131.ev (v := (.pointer (some ⟨g, 11, none⟩))) rfl) (hA131.ev (v := v119) rfl) one30 (one_slice (own_form ho122)) m124 (Nat.le_of_ble_eq_true rfl) ?_
      intro w132 hU133 (m134 : Blk w132 g (walkC p r rd ev v119) 62)
      have m135 := m125.upd hU133 (Ne.symm n9)
      have b136 := hU133.below b123 hge
      have ho137 := own_upd ho126 hU133 oe
      have ho138 := own_upd ho122 hU133 off127
      have hA139 : St 117 [(0, (.pointer (some ⟨g, 0, none⟩))), (4, (.bool false)), (5, (.int .i64 i.to))] a113 := hA131.cut _ (fm_cons (hA131.get 0 _ rfl) (fm_cons (hA131.get 4 _ rfl) (fm_cons (hA131.get 5 _ rfl) fm_nil)))
      refine t_norm ?_
      refine wp_seq ?_
      refine wp_region_lit ?_
      refine q_step hA139 rfl (d_move (wn rfl) (hA139.ev (v := (.pointer (some ⟨g, 0, none⟩))) rfl) ?_)
      intro a140 hA141
      refine q_step hA141 rfl (d_move (wn rfl) (hA141.ev (v := (.int .i64 i.to)) rfl) ?_)
      intro a142 hA143
      refine q_step hA143 rfl (d_nilCheck (wn rfl) (hA143.ev (v := (.pointer (some ⟨g, 0, none⟩))) rfl) ?_)
      intro a144 hA145
      refine q_step hA145 rfl (d_fieldAddr (wn rfl) (hA145.ev (v := (.pointer (some ⟨g, 0, none⟩))) rfl) fo62_0 ?_)
      intro a146 hA147
      refine q_step hA147 rfl (d_store (v := (.int .i64 i.to)) (wn rfl) (hA147.ev (v := (.pointer (some ⟨g, 0, none⟩))) rfl) (hA147.ev (v := (.int .i64 i.to)) rfl) one3 rfl m134 (Nat.le_of_ble_eq_true rfl) ?_)
      intro w148 hU149 (m150 : Blk w148 g (walkC i.to r rd ev v119) 62)
      have m151 := m135.upd hU149 (Ne.symm n9)
      have b152 := hU149.below b136 hge
      have ho153 := own_upd ho137 hU149 oe
      have ho154 := own_upd ho138 hU149 off127
      intro a155 hA156
      refine q_end ?_
      have hA157 : St 117 [(4, (.bool false))] a155 := hA156.cut _ (fm_cons (hA156.get 4 _ rfl) fm_nil)
      refine t_norm ?_
      refine wp_seq ?_
      refine wp_region_lit ?_
      refine q_step hA157 rfl (d_assign (wn rfl) (hA157.ev (v := (.bool true)) rfl) ?_)
      intro a158 hA159
      refine q_end ?_
      have hA160 : St 117 [(4, (.bool true))] a158 := hA159.cut _ (fm_cons (hA159.get 4 _ rfl) fm_nil)
      refine t_norm ?_
      refine wp_ret ?_
      refine ret1 rfl hA160 (v := (.bool true)) rfl ?_
      have hpp : (brP r k i p) = i.to := by simp [brP, eq_of_beq hb84, hb86]
      rw [hpp]
      exact ⟨rfl, b152, rd, ev, v119, m150, hge, (hrd.below b152), ho153, (by rw [List.length_append, ← paE_snoc]; exact ho154), oe, off127, ap130⟩
    · skip
      have hA162 : St 117 [(0, (.pointer (some ⟨g, 0, none⟩))), (3, (.pointer (some ⟨g3, 0, none⟩))), (4, (.bool false)), (5, (.int .i64 (p + 1)))] a81 := hA83.cut _ (fm_cons (hA83.get 0 _ rfl) (fm_cons (hA83.get 3 _ rfl) (fm_cons (hA83.get 4 _ rfl) (fm_cons (hA83.get 5 _ rfl) fm_nil))))
      let M163 : Nat → Option (Array Value) := fun _ => none
      have hM163 : M163 = fun _ => none := rfl
      clear_value M163
      have hM164 : M163 g = none := (congrFun hM163 g)
      have hM165 : M163 g3 = none := (congrFun hM163 g3)
      have hM163B : ∀ k, k < Bd → M163 k = none := (fun k hk => (congrFun hM163 k))
      refine drawn (S := SM M163) (tabL [cv (.pointer (some ⟨g, 0, none⟩)), cv (.pointer (some ⟨g3, 2, none⟩)), cv (.int .i64 ((k : Nat) : Int)), cv (.pointer (some ⟨g, 0, none⟩)), cv (.pointer (some ⟨g, 1, none⟩)), cv (.pointer (some ⟨g, 1 + k, none⟩)), cv (.int .i64 (r k)), cv (.bool true), cv (.pointer (some ⟨g3, 16, none⟩)), cv (.bool false), cv (.bool false)]) mixedY SM.refl SM.trans SM.drew hA162 (by kernel_rfl) ?_ ?_
      · skip
        refine each_cons (fun x y hS hT hk => d_move (wn rfl) (hT.ev (v := (.pointer (some ⟨g, 0, none⟩))) rfl) ⟨SM.refl _, rfl⟩) ?_
        refine each_cons (fun x y hS hT hk => d_fieldAddr (wn rfl) (hT.ev (v := (.pointer (some ⟨g3, 0, none⟩))) rfl) fo23_2 ⟨SM.refl _, rfl⟩) ?_
        refine each_cons (fun x y hS hT hk => d_load (v := (.int .i64 ((k : Nat) : Int))) (wn rfl) (hk 1 rfl) one3 ((Blk.sm (w := w4.drew) m7 hS hM165).cell rfl) ⟨SM.refl _, rfl⟩) ?_
        refine each_cons (fun x y hS hT hk => d_nilCheck (wn rfl) (hk 0 rfl) ⟨SM.refl _, rfl⟩) ?_
        refine each_cons (fun x y hS hT hk => d_fieldAddr (wn rfl) (hk 3 rfl) fo62_1 ⟨SM.refl _, rfl⟩) ?_
        refine each_cons (fun x y hS hT hk => d_indexArrP (j := k) (p := 1 + k) (wn rfl) (hk 4 rfl) (hk 2 rfl) arr43 (by omega) (by omega) ⟨SM.refl _, rfl⟩) ?_
        refine each_cons (fun x y hS hT hk => d_load (v := (.int .i64 (r k))) (wn rfl) (hk 5 rfl) one3 ((Blk.sm (w := w4.drew) m12 hS hM164).cell (walk_get (by omega))) ⟨SM.refl _, rfl⟩) ?_
        refine each_cons (fun x y hS hT hk => d_bin (wn rfl) (hk 6 rfl) (hT.ev (v := (.int .i64 0)) rfl) (b_eq _ _ (r k) 0 true _ hb84) ⟨SM.refl _, rfl⟩) ?_
        refine each_cons (fun x y hS hT hk => d_fieldAddr (wn rfl) (hT.ev (v := (.pointer (some ⟨g3, 0, none⟩))) rfl) fo23_16 ⟨SM.refl _, rfl⟩) ?_
        refine each_cons (fun x y hS hT hk => d_load (v := (.bool false)) (wn rfl) (hk 8 rfl) one4 ((Blk.sm (w := w4.drew) m7 hS hM165).cell (congrArg (fun b => some (Value.bool b)) hb86)) ⟨SM.refl _, rfl⟩) ?_
        refine each_cons (fun x y hS hT hk => d_bin (wn rfl) (hk 7 rfl) (hk 9 rfl) (b_eqb _ _ true false false _ Try.underlying4 rfl) ⟨SM.refl _, rfl⟩) ?_
        exact each_nil
      intro f166 a167 w168 hS169 hC170 hA171
      have hA172 : St 117 [(0, (.pointer (some ⟨g, 0, none⟩))), (3, (.pointer (some ⟨g3, 0, none⟩))), (4, (.bool false)), (5, (.int .i64 (p + 1))), (97, (.bool false))] a167 := hA171.cut _ (fm_cons (hA171.get 0 _ rfl) (fm_cons (hA171.get 3 _ rfl) (fm_cons (hA171.get 4 _ rfl) (fm_cons (hA171.get 5 _ rfl) (fm_cons ((hA171.get 97 _ rfl).trans (hC170 10 (Nat.le_of_ble_eq_true rfl))) fm_nil)))))
      have m173 := m12.sm hS169 hM164
      have m174 := m7.sm hS169 hM165
      have b175 := hS169.below b13 (Nat.le_trans hB b13.size) hM163B
      have ho176 := own_sm ho14 hS169 (fun k => congrFun hM163 k)
      have ho177 := own_sm ho15 hS169 (fun k => congrFun hM163 k)
      refine t_norm ?_
      refine c_false hA172 rfl ?_
      refine wp_skip ?_
      refine i_norm ?_
      refine t_norm ?_
      refine wp_seq ?_
      have hA178 : St 117 [(0, (.pointer (some ⟨g, 0, none⟩))), (4, (.bool false)), (5, (.int .i64 (p + 1)))] a167 := hA172.cut _ (fm_cons (hA172.get 0 _ rfl) (fm_cons (hA172.get 4 _ rfl) (fm_cons (hA172.get 5 _ rfl) fm_nil)))
      let M179 : Nat → Option (Array Value) := fun _ => none
      have hM179 : M179 = fun _ => none := rfl
      clear_value M179
      have hM179A : ∀ k, M179 k = none := fun k => congrFun hM179 k
      have hM179B : ∀ k, k < Bd → M179 k = none := fun k _ => hM179A k
      refine drawnL (S := SM M179) rfl (tabQ [some (.pointer (some ⟨g, 0, none⟩)), some (.pointer (some ⟨g, 0, none⟩)), some (.pointer (some ⟨g, 0, none⟩)), some (.pointer (some ⟨g, 11, none⟩)), none, some (.pointer (some ⟨g, 0, none⟩)), some (.pointer (some ⟨g, 0, none⟩)), some (.pointer (some ⟨g, 0, none⟩)), none, none, none, some (.pointer (some ⟨g, 0, none⟩)), some (.pointer (some ⟨g, 11, none⟩))] [cv (.pointer (some ⟨g, 0, none⟩)), cv (.pointer (some ⟨g, 0, none⟩)), cv (.pointer (some ⟨g, 0, none⟩)), cv (.pointer (some ⟨g, 11, none⟩)), cv pa, cv (.pointer (some ⟨g, 0, none⟩)), cv (.pointer (some ⟨g, 0, none⟩)), cv (.pointer (some ⟨g, 0, none⟩)), cv (.int .i64 p), cs1 M179 hM179A #[.int .i64 p] 3, cfree, cv (.pointer (some ⟨g, 0, none⟩)), cv (.pointer (some ⟨g, 11, none⟩))]) (some 10) (fun i => (([some (.pointer (some ⟨g, 0, none⟩)), some (.pointer (some ⟨g, 0, none⟩)), some (.pointer (some ⟨g, 0, none⟩)), some (.pointer (some ⟨g, 11, none⟩)), none, some (.pointer (some ⟨g, 0, none⟩)), some (.pointer (some ⟨g, 0, none⟩)), some (.pointer (some ⟨g, 0, none⟩)), none, none, none, some (.pointer (some ⟨g, 0, none⟩)), some (.pointer (some ⟨g, 11, none⟩))] : List (Option Value))[i]?).getD none) (fun v' w' => w'.ownsRow Bd 3 1 v' (path.length + 1) ((paE path) ++ (#[.int .i64 p] : Array Value).toList) ∧ Below Bd w w' ∧ Blk w' g (walkC p r rd ev pa) 62 ∧ Blk w' g3 (insC ⟨9, i.dst, ((k : Nat) : Int), i.b, i.imm, i.loc, i.off, i.index, i.size, i.fn, i.acq, i.weak, i.rel, i.pred, i.succ, i.to, i.zero⟩) 23 ∧ w'.ownsRow Bd 52 15 ev evs.length (evE evs) ∧ v'.ownBlock ≠ some g ∧ v'.ownBlock ≠ some g3 ∧ ∀ k, ev.ownBlock = some k → v'.ownBlock ≠ some k) [12, 10, 0, 1, 2, 3, 4, 5, 6, 7, 8, 9, 11] [4, 9, 3, 8, 2, 7, 1, 6, 5] mixedY SM.refl SM.trans hA178 (by kernel_rfl) (by kernel_rfl) (tabQ_cv _ _) ?_ ?_
      · skip
        refine eachD_cons (.inr (.inl ⟨by decide, _, rfl, fun x y hT hk hk0 => d_move (wn rfl) (hT.ev (v := (.pointer (some ⟨g, 0, none⟩))) rfl) ⟨rfl, rfl⟩⟩)) ?_
        refine eachD_cons (.inr (.inl ⟨by decide, _, rfl, fun x y hT hk hk0 => d_move (wn rfl) (hT.ev (v := (.pointer (some ⟨g, 0, none⟩))) rfl) ⟨rfl, rfl⟩⟩)) ?_
        refine eachD_cons (.inr (.inl ⟨by decide, _, rfl, fun x y hT hk hk0 => d_nilCheck (wn rfl) (hk 1 _ rfl rfl) ⟨rfl, rfl⟩⟩)) ?_
        refine eachD_cons (.inr (.inl ⟨by decide, _, rfl, fun x y hT hk hk0 => d_fieldAddr (wn rfl) (hk 2 _ rfl rfl) fo62_4 ⟨rfl, rfl⟩⟩)) ?_
        refine eachD_cons (.inl ⟨by decide, rfl, fun x y hS hT hk => d_load (v := pa) (wn rfl) (hk 3 rfl) one30 ((Blk.sm (w := w168.drew) m173 hS (hM179A _)).cell rfl) ⟨SM.refl _, rfl⟩⟩) ?_
        refine eachD_cons (.inr (.inl ⟨by decide, _, rfl, fun x y hT hk hk0 => d_move (wn rfl) (hT.ev (v := (.pointer (some ⟨g, 0, none⟩))) rfl) ⟨rfl, rfl⟩⟩)) ?_
        refine eachD_cons (.inr (.inl ⟨by decide, _, rfl, fun x y hT hk hk0 => d_nilCheck (wn rfl) (hk 5 _ rfl rfl) ⟨rfl, rfl⟩⟩)) ?_
        refine eachD_cons (.inr (.inl ⟨by decide, _, rfl, fun x y hT hk hk0 => d_fieldAddr (wn rfl) (hk 6 _ rfl rfl) fo62_0 ⟨rfl, rfl⟩⟩)) ?_
        refine eachD_cons (.inl ⟨by decide, rfl, fun x y hS hT hk => d_load (v := (.int .i64 p)) (wn rfl) (hk 7 rfl) one3 ((Blk.sm (w := w168.drew) m173 hS (hM179A _)).cell rfl) ⟨SM.refl _, rfl⟩⟩) ?_
        refine eachD_cons (.inl ⟨by decide, rfl, fun x y hS hT hk => d_slice1 (wn rfl) (show x.eval _ = (.int .i64 p) from (hk 8 rfl)) elm30 rfl (by decide) (fun g w' _ hG hb => ⟨SM.grow hG, g, rfl, hb⟩)⟩) ?_
        refine eachD_cons (.inr (.inr ⟨rfl, fun x y hS hT hk => ?_⟩)) ?_
        · skip
          obtain ⟨gb, hvb, hbb⟩ := hk 9 rfl
          have hG : Grow w168 y := Grow.trans ((Grow.refl _).drew) (SM.grown (by rw [hM179] at hS; exact hS))
          have hR := own_grow hG ho177
          have hO := own_grow hG ho176
          have hBl := below_grow b175 hG (Nat.le_trans hB b175.size)
          refine d_append (wn rfl) (show x.eval _ = pa from (hk 4 rfl)) hvb elm30 hR hbb rfl rfl (by omega) (by decide) (Nat.le_trans hB hBl.size) ?_
          intro v' w' h1 h2 h3
          exact ⟨h1, below_by hBl h2 (Nat.le_trans hB hBl.size) (fun k hk => (own_lt hR k hk).1), (m173.grow hG).by h2 op_, (m174.grow hG).by h2 off11, own_by hO h2 ap2, lies_ne h3 op_ (m173.grow hG).lt, lies_ne h3 off11 (m174.grow hG).lt, lies_ap h3 ap2 hO⟩
        refine eachD_cons (.inr (.inl ⟨by decide, _, rfl, fun x y hT hk hk0 => d_nilCheck (wn rfl) (hk 0 _ rfl rfl) ⟨rfl, rfl⟩⟩)) ?_
        refine eachD_cons (.inr (.inl ⟨by decide, _, rfl, fun x y hT hk hk0 => d_fieldAddr (wn rfl) (hk 11 _ rfl rfl) fo62_4 ⟨rfl, rfl⟩⟩)) ?_
        exact eachD_one
      rintro a180 w181 hA182 ⟨hP184, hW185⟩
      obtain ⟨v186, hv187⟩ : ∃ v', v' = (a180.tmps.getD 110 undef) := ⟨_, rfl⟩
      have hW188 : (fun v' w' => w'.ownsRow Bd 3 1 v' (path.length + 1) ((paE path) ++ (#[.int .i64 p] : Array Value).toList) ∧ Below Bd w w' ∧ Blk w' g (walkC p r rd ev pa) 62 ∧ Blk w' g3 (insC ⟨9, i.dst, ((k : Nat) : Int), i.b, i.imm, i.loc, i.off, i.index, i.size, i.fn, i.acq, i.weak, i.rel, i.pred, i.succ, i.to, i.zero⟩) 23 ∧ w'.ownsRow Bd 52 15 ev evs.length (evE evs) ∧ v'.ownBlock ≠ some g ∧ v'.ownBlock ≠ some g3 ∧ ∀ k, ev.ownBlock = some k → v'.ownBlock ≠ some k) v186 w181 := by rw [hv187]; exact hW185
      obtain ⟨ho189, b190, m191, m192, ho193, off194, off195, ap196⟩ := hW188
      have ap197 : ∀ k, v186.ownBlock = some k → ev.ownBlock ≠ some k := fun k h1 h2 => ap196 k h2 h1
      have hA198 : St 117 [(0, (.pointer (some ⟨g, 0, none⟩))), (4, (.bool false)), (5, (.int .i64 (p + 1))), (110, v186), (112, (.pointer (some ⟨g, 11, none⟩)))] a180 := hA182.cut _ (fm_cons (hA182.get 0 _ rfl) (fm_cons (hA182.get 4 _ rfl) (fm_cons (hA182.get 5 _ rfl) (fm_cons hv187.symm (fm_cons (hP184 12 _ (Nat.le_of_ble_eq_true rfl) (by decide) rfl) fm_nil)))))
      refine d_store (v := v186) (wn rfl) (hA198.ev (v := (.pointer (some ⟨g, 11, none⟩))) rfl) (hA198.ev (v := v186) rfl) one30 (one_slice (own_form ho189)) m191 (Nat.le_of_ble_eq_true rfl) ?_
      intro w199 hU200 (m201 : Blk w199 g (walkC p r rd ev v186) 62)
      have m202 := m192.upd hU200 (Ne.symm n9)
      have b203 := hU200.below b190 hge
      have ho204 := own_upd ho193 hU200 oe
      have ho205 := own_upd ho189 hU200 off194
      have hA206 : St 117 [(0, (.pointer (some ⟨g, 0, none⟩))), (4, (.bool false)), (5, (.int .i64 (p + 1)))] a180 := hA198.cut _ (fm_cons (hA198.get 0 _ rfl) (fm_cons (hA198.get 4 _ rfl) (fm_cons (hA198.get 5 _ rfl) fm_nil)))
      refine t_norm ?_
      refine wp_seq ?_
      refine wp_region_lit ?_
      refine q_step hA206 rfl (d_move (wn rfl) (hA206.ev (v := (.pointer (some ⟨g, 0, none⟩))) rfl) ?_)
      intro a207 hA208
      refine q_step hA208 rfl (d_move (wn rfl) (hA208.ev (v := (.int .i64 (p + 1))) rfl) ?_)
      intro a209 hA210
      refine q_step hA210 rfl (d_nilCheck (wn rfl) (hA210.ev (v := (.pointer (some ⟨g, 0, none⟩))) rfl) ?_)
      intro a211 hA212
      refine q_step hA212 rfl (d_fieldAddr (wn rfl) (hA212.ev (v := (.pointer (some ⟨g, 0, none⟩))) rfl) fo62_0 ?_)
      intro a213 hA214
      refine q_step hA214 rfl (d_store (v := (.int .i64 (p + 1))) (wn rfl) (hA214.ev (v := (.pointer (some ⟨g, 0, none⟩))) rfl) (hA214.ev (v := (.int .i64 (p + 1))) rfl) one3 rfl m201 (Nat.le_of_ble_eq_true rfl) ?_)
      intro w215 hU216 (m217 : Blk w215 g (walkC (p + 1) r rd ev v186) 62)
      have m218 := m202.upd hU216 (Ne.symm n9)
      have b219 := hU216.below b203 hge
      have ho220 := own_upd ho204 hU216 oe
      have ho221 := own_upd ho205 hU216 off194
      intro a222 hA223
      refine q_end ?_
      have hA224 : St 117 [(4, (.bool false))] a222 := hA223.cut _ (fm_cons (hA223.get 4 _ rfl) fm_nil)
      refine t_norm ?_
      refine wp_seq ?_
      refine wp_region_lit ?_
      refine q_step hA224 rfl (d_assign (wn rfl) (hA224.ev (v := (.bool true)) rfl) ?_)
      intro a225 hA226
      refine q_end ?_
      have hA227 : St 117 [(4, (.bool true))] a225 := hA226.cut _ (fm_cons (hA226.get 4 _ rfl) fm_nil)
      refine t_norm ?_
      refine wp_ret ?_
      refine ret1 rfl hA227 (v := (.bool true)) rfl ?_
      have hpp : (brP r k i p) = p + 1 := by simp [brP, eq_of_beq hb84, hb86]
      rw [hpp]
      exact ⟨rfl, b219, rd, ev, v186, m217, hge, (hrd.below b219), ho220, (by rw [List.length_append, ← paE_snoc]; exact ho221), oe, off194, ap197⟩
  · skip
    have hq228 := ne_of_beq hb84
    rcases Bool.eq_false_or_eq_true (i.zero) with hb229 | hb229
    · skip
      have hA231 : St 117 [(0, (.pointer (some ⟨g, 0, none⟩))), (3, (.pointer (some ⟨g3, 0, none⟩))), (4, (.bool false)), (5, (.int .i64 (p + 1)))] a81 := hA83.cut _ (fm_cons (hA83.get 0 _ rfl) (fm_cons (hA83.get 3 _ rfl) (fm_cons (hA83.get 4 _ rfl) (fm_cons (hA83.get 5 _ rfl) fm_nil))))
      let M232 : Nat → Option (Array Value) := fun _ => none
      have hM232 : M232 = fun _ => none := rfl
      clear_value M232
      have hM233 : M232 g = none := (congrFun hM232 g)
      have hM234 : M232 g3 = none := (congrFun hM232 g3)
      have hM232B : ∀ k, k < Bd → M232 k = none := (fun k hk => (congrFun hM232 k))
      refine drawn (S := SM M232) (tabL [cv (.pointer (some ⟨g, 0, none⟩)), cv (.pointer (some ⟨g3, 2, none⟩)), cv (.int .i64 ((k : Nat) : Int)), cv (.pointer (some ⟨g, 0, none⟩)), cv (.pointer (some ⟨g, 1, none⟩)), cv (.pointer (some ⟨g, 1 + k, none⟩)), cv (.int .i64 (r k)), cv (.bool false), cv (.pointer (some ⟨g3, 16, none⟩)), cv (.bool true), cv (.bool false)]) mixedY SM.refl SM.trans SM.drew hA231 (by kernel_rfl) ?_ ?_
      · skip
        refine each_cons (fun x y hS hT hk => d_move (wn rfl) (hT.ev (v := (.pointer (some ⟨g, 0, none⟩))) rfl) ⟨SM.refl _, rfl⟩) ?_
        refine each_cons (fun x y hS hT hk => d_fieldAddr (wn rfl) (hT.ev (v := (.pointer (some ⟨g3, 0, none⟩))) rfl) fo23_2 ⟨SM.refl _, rfl⟩) ?_
        refine each_cons (fun x y hS hT hk => d_load (v := (.int .i64 ((k : Nat) : Int))) (wn rfl) (hk 1 rfl) one3 ((Blk.sm (w := w4.drew) m7 hS hM234).cell rfl) ⟨SM.refl _, rfl⟩) ?_
        refine each_cons (fun x y hS hT hk => d_nilCheck (wn rfl) (hk 0 rfl) ⟨SM.refl _, rfl⟩) ?_
        refine each_cons (fun x y hS hT hk => d_fieldAddr (wn rfl) (hk 3 rfl) fo62_1 ⟨SM.refl _, rfl⟩) ?_
        refine each_cons (fun x y hS hT hk => d_indexArrP (j := k) (p := 1 + k) (wn rfl) (hk 4 rfl) (hk 2 rfl) arr43 (by omega) (by omega) ⟨SM.refl _, rfl⟩) ?_
        refine each_cons (fun x y hS hT hk => d_load (v := (.int .i64 (r k))) (wn rfl) (hk 5 rfl) one3 ((Blk.sm (w := w4.drew) m12 hS hM233).cell (walk_get (by omega))) ⟨SM.refl _, rfl⟩) ?_
        refine each_cons (fun x y hS hT hk => d_bin (wn rfl) (hk 6 rfl) (hT.ev (v := (.int .i64 0)) rfl) (b_eq _ _ (r k) 0 false _ hb84) ⟨SM.refl _, rfl⟩) ?_
        refine each_cons (fun x y hS hT hk => d_fieldAddr (wn rfl) (hT.ev (v := (.pointer (some ⟨g3, 0, none⟩))) rfl) fo23_16 ⟨SM.refl _, rfl⟩) ?_
        refine each_cons (fun x y hS hT hk => d_load (v := (.bool true)) (wn rfl) (hk 8 rfl) one4 ((Blk.sm (w := w4.drew) m7 hS hM234).cell (congrArg (fun b => some (Value.bool b)) hb229)) ⟨SM.refl _, rfl⟩) ?_
        refine each_cons (fun x y hS hT hk => d_bin (wn rfl) (hk 7 rfl) (hk 9 rfl) (b_eqb _ _ false true false _ Try.underlying4 rfl) ⟨SM.refl _, rfl⟩) ?_
        exact each_nil
      intro f235 a236 w237 hS238 hC239 hA240
      have hA241 : St 117 [(0, (.pointer (some ⟨g, 0, none⟩))), (3, (.pointer (some ⟨g3, 0, none⟩))), (4, (.bool false)), (5, (.int .i64 (p + 1))), (97, (.bool false))] a236 := hA240.cut _ (fm_cons (hA240.get 0 _ rfl) (fm_cons (hA240.get 3 _ rfl) (fm_cons (hA240.get 4 _ rfl) (fm_cons (hA240.get 5 _ rfl) (fm_cons ((hA240.get 97 _ rfl).trans (hC239 10 (Nat.le_of_ble_eq_true rfl))) fm_nil)))))
      have m242 := m12.sm hS238 hM233
      have m243 := m7.sm hS238 hM234
      have b244 := hS238.below b13 (Nat.le_trans hB b13.size) hM232B
      have ho245 := own_sm ho14 hS238 (fun k => congrFun hM232 k)
      have ho246 := own_sm ho15 hS238 (fun k => congrFun hM232 k)
      refine t_norm ?_
      refine c_false hA241 rfl ?_
      refine wp_skip ?_
      refine i_norm ?_
      refine t_norm ?_
      refine wp_seq ?_
      have hA247 : St 117 [(0, (.pointer (some ⟨g, 0, none⟩))), (4, (.bool false)), (5, (.int .i64 (p + 1)))] a236 := hA241.cut _ (fm_cons (hA241.get 0 _ rfl) (fm_cons (hA241.get 4 _ rfl) (fm_cons (hA241.get 5 _ rfl) fm_nil)))
      let M248 : Nat → Option (Array Value) := fun _ => none
      have hM248 : M248 = fun _ => none := rfl
      clear_value M248
      have hM248A : ∀ k, M248 k = none := fun k => congrFun hM248 k
      have hM248B : ∀ k, k < Bd → M248 k = none := fun k _ => hM248A k
      refine drawnL (S := SM M248) rfl (tabQ [some (.pointer (some ⟨g, 0, none⟩)), some (.pointer (some ⟨g, 0, none⟩)), some (.pointer (some ⟨g, 0, none⟩)), some (.pointer (some ⟨g, 11, none⟩)), none, some (.pointer (some ⟨g, 0, none⟩)), some (.pointer (some ⟨g, 0, none⟩)), some (.pointer (some ⟨g, 0, none⟩)), none, none, none, some (.pointer (some ⟨g, 0, none⟩)), some (.pointer (some ⟨g, 11, none⟩))] [cv (.pointer (some ⟨g, 0, none⟩)), cv (.pointer (some ⟨g, 0, none⟩)), cv (.pointer (some ⟨g, 0, none⟩)), cv (.pointer (some ⟨g, 11, none⟩)), cv pa, cv (.pointer (some ⟨g, 0, none⟩)), cv (.pointer (some ⟨g, 0, none⟩)), cv (.pointer (some ⟨g, 0, none⟩)), cv (.int .i64 p), cs1 M248 hM248A #[.int .i64 p] 3, cfree, cv (.pointer (some ⟨g, 0, none⟩)), cv (.pointer (some ⟨g, 11, none⟩))]) (some 10) (fun i => (([some (.pointer (some ⟨g, 0, none⟩)), some (.pointer (some ⟨g, 0, none⟩)), some (.pointer (some ⟨g, 0, none⟩)), some (.pointer (some ⟨g, 11, none⟩)), none, some (.pointer (some ⟨g, 0, none⟩)), some (.pointer (some ⟨g, 0, none⟩)), some (.pointer (some ⟨g, 0, none⟩)), none, none, none, some (.pointer (some ⟨g, 0, none⟩)), some (.pointer (some ⟨g, 11, none⟩))] : List (Option Value))[i]?).getD none) (fun v' w' => w'.ownsRow Bd 3 1 v' (path.length + 1) ((paE path) ++ (#[.int .i64 p] : Array Value).toList) ∧ Below Bd w w' ∧ Blk w' g (walkC p r rd ev pa) 62 ∧ Blk w' g3 (insC ⟨9, i.dst, ((k : Nat) : Int), i.b, i.imm, i.loc, i.off, i.index, i.size, i.fn, i.acq, i.weak, i.rel, i.pred, i.succ, i.to, i.zero⟩) 23 ∧ w'.ownsRow Bd 52 15 ev evs.length (evE evs) ∧ v'.ownBlock ≠ some g ∧ v'.ownBlock ≠ some g3 ∧ ∀ k, ev.ownBlock = some k → v'.ownBlock ≠ some k) [12, 10, 0, 1, 2, 3, 4, 5, 6, 7, 8, 9, 11] [4, 9, 3, 8, 2, 7, 1, 6, 5] mixedY SM.refl SM.trans hA247 (by kernel_rfl) (by kernel_rfl) (tabQ_cv _ _) ?_ ?_
      · skip
        refine eachD_cons (.inr (.inl ⟨by decide, _, rfl, fun x y hT hk hk0 => d_move (wn rfl) (hT.ev (v := (.pointer (some ⟨g, 0, none⟩))) rfl) ⟨rfl, rfl⟩⟩)) ?_
        refine eachD_cons (.inr (.inl ⟨by decide, _, rfl, fun x y hT hk hk0 => d_move (wn rfl) (hT.ev (v := (.pointer (some ⟨g, 0, none⟩))) rfl) ⟨rfl, rfl⟩⟩)) ?_
        refine eachD_cons (.inr (.inl ⟨by decide, _, rfl, fun x y hT hk hk0 => d_nilCheck (wn rfl) (hk 1 _ rfl rfl) ⟨rfl, rfl⟩⟩)) ?_
        refine eachD_cons (.inr (.inl ⟨by decide, _, rfl, fun x y hT hk hk0 => d_fieldAddr (wn rfl) (hk 2 _ rfl rfl) fo62_4 ⟨rfl, rfl⟩⟩)) ?_
        refine eachD_cons (.inl ⟨by decide, rfl, fun x y hS hT hk => d_load (v := pa) (wn rfl) (hk 3 rfl) one30 ((Blk.sm (w := w237.drew) m242 hS (hM248A _)).cell rfl) ⟨SM.refl _, rfl⟩⟩) ?_
        refine eachD_cons (.inr (.inl ⟨by decide, _, rfl, fun x y hT hk hk0 => d_move (wn rfl) (hT.ev (v := (.pointer (some ⟨g, 0, none⟩))) rfl) ⟨rfl, rfl⟩⟩)) ?_
        refine eachD_cons (.inr (.inl ⟨by decide, _, rfl, fun x y hT hk hk0 => d_nilCheck (wn rfl) (hk 5 _ rfl rfl) ⟨rfl, rfl⟩⟩)) ?_
        refine eachD_cons (.inr (.inl ⟨by decide, _, rfl, fun x y hT hk hk0 => d_fieldAddr (wn rfl) (hk 6 _ rfl rfl) fo62_0 ⟨rfl, rfl⟩⟩)) ?_
        refine eachD_cons (.inl ⟨by decide, rfl, fun x y hS hT hk => d_load (v := (.int .i64 p)) (wn rfl) (hk 7 rfl) one3 ((Blk.sm (w := w237.drew) m242 hS (hM248A _)).cell rfl) ⟨SM.refl _, rfl⟩⟩) ?_
        refine eachD_cons (.inl ⟨by decide, rfl, fun x y hS hT hk => d_slice1 (wn rfl) (show x.eval _ = (.int .i64 p) from (hk 8 rfl)) elm30 rfl (by decide) (fun g w' _ hG hb => ⟨SM.grow hG, g, rfl, hb⟩)⟩) ?_
        refine eachD_cons (.inr (.inr ⟨rfl, fun x y hS hT hk => ?_⟩)) ?_
        · skip
          obtain ⟨gb, hvb, hbb⟩ := hk 9 rfl
          have hG : Grow w237 y := Grow.trans ((Grow.refl _).drew) (SM.grown (by rw [hM248] at hS; exact hS))
          have hR := own_grow hG ho246
          have hO := own_grow hG ho245
          have hBl := below_grow b244 hG (Nat.le_trans hB b244.size)
          refine d_append (wn rfl) (show x.eval _ = pa from (hk 4 rfl)) hvb elm30 hR hbb rfl rfl (by omega) (by decide) (Nat.le_trans hB hBl.size) ?_
          intro v' w' h1 h2 h3
          exact ⟨h1, below_by hBl h2 (Nat.le_trans hB hBl.size) (fun k hk => (own_lt hR k hk).1), (m242.grow hG).by h2 op_, (m243.grow hG).by h2 off11, own_by hO h2 ap2, lies_ne h3 op_ (m242.grow hG).lt, lies_ne h3 off11 (m243.grow hG).lt, lies_ap h3 ap2 hO⟩
        refine eachD_cons (.inr (.inl ⟨by decide, _, rfl, fun x y hT hk hk0 => d_nilCheck (wn rfl) (hk 0 _ rfl rfl) ⟨rfl, rfl⟩⟩)) ?_
        refine eachD_cons (.inr (.inl ⟨by decide, _, rfl, fun x y hT hk hk0 => d_fieldAddr (wn rfl) (hk 11 _ rfl rfl) fo62_4 ⟨rfl, rfl⟩⟩)) ?_
        exact eachD_one
      rintro a249 w250 hA251 ⟨hP253, hW254⟩
      obtain ⟨v255, hv256⟩ : ∃ v', v' = (a249.tmps.getD 110 undef) := ⟨_, rfl⟩
      have hW257 : (fun v' w' => w'.ownsRow Bd 3 1 v' (path.length + 1) ((paE path) ++ (#[.int .i64 p] : Array Value).toList) ∧ Below Bd w w' ∧ Blk w' g (walkC p r rd ev pa) 62 ∧ Blk w' g3 (insC ⟨9, i.dst, ((k : Nat) : Int), i.b, i.imm, i.loc, i.off, i.index, i.size, i.fn, i.acq, i.weak, i.rel, i.pred, i.succ, i.to, i.zero⟩) 23 ∧ w'.ownsRow Bd 52 15 ev evs.length (evE evs) ∧ v'.ownBlock ≠ some g ∧ v'.ownBlock ≠ some g3 ∧ ∀ k, ev.ownBlock = some k → v'.ownBlock ≠ some k) v255 w250 := by rw [hv256]; exact hW254
      obtain ⟨ho258, b259, m260, m261, ho262, off263, off264, ap265⟩ := hW257
      have ap266 : ∀ k, v255.ownBlock = some k → ev.ownBlock ≠ some k := fun k h1 h2 => ap265 k h2 h1
      have hA267 : St 117 [(0, (.pointer (some ⟨g, 0, none⟩))), (4, (.bool false)), (5, (.int .i64 (p + 1))), (110, v255), (112, (.pointer (some ⟨g, 11, none⟩)))] a249 := hA251.cut _ (fm_cons (hA251.get 0 _ rfl) (fm_cons (hA251.get 4 _ rfl) (fm_cons (hA251.get 5 _ rfl) (fm_cons hv256.symm (fm_cons (hP253 12 _ (Nat.le_of_ble_eq_true rfl) (by decide) rfl) fm_nil)))))
      refine d_store (v := v255) (wn rfl) (hA267.ev (v := (.pointer (some ⟨g, 11, none⟩))) rfl) (hA267.ev (v := v255) rfl) one30 (one_slice (own_form ho258)) m260 (Nat.le_of_ble_eq_true rfl) ?_
      intro w268 hU269 (m270 : Blk w268 g (walkC p r rd ev v255) 62)
      have m271 := m261.upd hU269 (Ne.symm n9)
      have b272 := hU269.below b259 hge
      have ho273 := own_upd ho262 hU269 oe
      have ho274 := own_upd ho258 hU269 off263
      have hA275 : St 117 [(0, (.pointer (some ⟨g, 0, none⟩))), (4, (.bool false)), (5, (.int .i64 (p + 1)))] a249 := hA267.cut _ (fm_cons (hA267.get 0 _ rfl) (fm_cons (hA267.get 4 _ rfl) (fm_cons (hA267.get 5 _ rfl) fm_nil)))
      refine t_norm ?_
      refine wp_seq ?_
      refine wp_region_lit ?_
      refine q_step hA275 rfl (d_move (wn rfl) (hA275.ev (v := (.pointer (some ⟨g, 0, none⟩))) rfl) ?_)
      intro a276 hA277
      refine q_step hA277 rfl (d_move (wn rfl) (hA277.ev (v := (.int .i64 (p + 1))) rfl) ?_)
      intro a278 hA279
      refine q_step hA279 rfl (d_nilCheck (wn rfl) (hA279.ev (v := (.pointer (some ⟨g, 0, none⟩))) rfl) ?_)
      intro a280 hA281
      refine q_step hA281 rfl (d_fieldAddr (wn rfl) (hA281.ev (v := (.pointer (some ⟨g, 0, none⟩))) rfl) fo62_0 ?_)
      intro a282 hA283
      refine q_step hA283 rfl (d_store (v := (.int .i64 (p + 1))) (wn rfl) (hA283.ev (v := (.pointer (some ⟨g, 0, none⟩))) rfl) (hA283.ev (v := (.int .i64 (p + 1))) rfl) one3 rfl m270 (Nat.le_of_ble_eq_true rfl) ?_)
      intro w284 hU285 (m286 : Blk w284 g (walkC (p + 1) r rd ev v255) 62)
      have m287 := m271.upd hU285 (Ne.symm n9)
      have b288 := hU285.below b272 hge
      have ho289 := own_upd ho273 hU285 oe
      have ho290 := own_upd ho274 hU285 off263
      intro a291 hA292
      refine q_end ?_
      have hA293 : St 117 [(4, (.bool false))] a291 := hA292.cut _ (fm_cons (hA292.get 4 _ rfl) fm_nil)
      refine t_norm ?_
      refine wp_seq ?_
      refine wp_region_lit ?_
      refine q_step hA293 rfl (d_assign (wn rfl) (hA293.ev (v := (.bool true)) rfl) ?_)
      intro a294 hA295
      refine q_end ?_
      have hA296 : St 117 [(4, (.bool true))] a294 := hA295.cut _ (fm_cons (hA295.get 4 _ rfl) fm_nil)
      refine t_norm ?_
      refine wp_ret ?_
      refine ret1 rfl hA296 (v := (.bool true)) rfl ?_
      have hpp : (brP r k i p) = p + 1 := by simp [brP, hb84, hb229]
      rw [hpp]
      exact ⟨rfl, b288, rd, ev, v255, m286, hge, (hrd.below b288), ho289, (by rw [List.length_append, ← paE_snoc]; exact ho290), oe, off263, ap266⟩
    · skip
      have hA298 : St 117 [(0, (.pointer (some ⟨g, 0, none⟩))), (3, (.pointer (some ⟨g3, 0, none⟩))), (4, (.bool false)), (5, (.int .i64 (p + 1)))] a81 := hA83.cut _ (fm_cons (hA83.get 0 _ rfl) (fm_cons (hA83.get 3 _ rfl) (fm_cons (hA83.get 4 _ rfl) (fm_cons (hA83.get 5 _ rfl) fm_nil))))
      let M299 : Nat → Option (Array Value) := fun _ => none
      have hM299 : M299 = fun _ => none := rfl
      clear_value M299
      have hM300 : M299 g = none := (congrFun hM299 g)
      have hM301 : M299 g3 = none := (congrFun hM299 g3)
      have hM299B : ∀ k, k < Bd → M299 k = none := (fun k hk => (congrFun hM299 k))
      refine drawn (S := SM M299) (tabL [cv (.pointer (some ⟨g, 0, none⟩)), cv (.pointer (some ⟨g3, 2, none⟩)), cv (.int .i64 ((k : Nat) : Int)), cv (.pointer (some ⟨g, 0, none⟩)), cv (.pointer (some ⟨g, 1, none⟩)), cv (.pointer (some ⟨g, 1 + k, none⟩)), cv (.int .i64 (r k)), cv (.bool false), cv (.pointer (some ⟨g3, 16, none⟩)), cv (.bool false), cv (.bool true)]) mixedY SM.refl SM.trans SM.drew hA298 (by kernel_rfl) ?_ ?_
      · skip
        refine each_cons (fun x y hS hT hk => d_move (wn rfl) (hT.ev (v := (.pointer (some ⟨g, 0, none⟩))) rfl) ⟨SM.refl _, rfl⟩) ?_
        refine each_cons (fun x y hS hT hk => d_fieldAddr (wn rfl) (hT.ev (v := (.pointer (some ⟨g3, 0, none⟩))) rfl) fo23_2 ⟨SM.refl _, rfl⟩) ?_
        refine each_cons (fun x y hS hT hk => d_load (v := (.int .i64 ((k : Nat) : Int))) (wn rfl) (hk 1 rfl) one3 ((Blk.sm (w := w4.drew) m7 hS hM301).cell rfl) ⟨SM.refl _, rfl⟩) ?_
        refine each_cons (fun x y hS hT hk => d_nilCheck (wn rfl) (hk 0 rfl) ⟨SM.refl _, rfl⟩) ?_
        refine each_cons (fun x y hS hT hk => d_fieldAddr (wn rfl) (hk 3 rfl) fo62_1 ⟨SM.refl _, rfl⟩) ?_
        refine each_cons (fun x y hS hT hk => d_indexArrP (j := k) (p := 1 + k) (wn rfl) (hk 4 rfl) (hk 2 rfl) arr43 (by omega) (by omega) ⟨SM.refl _, rfl⟩) ?_
        refine each_cons (fun x y hS hT hk => d_load (v := (.int .i64 (r k))) (wn rfl) (hk 5 rfl) one3 ((Blk.sm (w := w4.drew) m12 hS hM300).cell (walk_get (by omega))) ⟨SM.refl _, rfl⟩) ?_
        refine each_cons (fun x y hS hT hk => d_bin (wn rfl) (hk 6 rfl) (hT.ev (v := (.int .i64 0)) rfl) (b_eq _ _ (r k) 0 false _ hb84) ⟨SM.refl _, rfl⟩) ?_
        refine each_cons (fun x y hS hT hk => d_fieldAddr (wn rfl) (hT.ev (v := (.pointer (some ⟨g3, 0, none⟩))) rfl) fo23_16 ⟨SM.refl _, rfl⟩) ?_
        refine each_cons (fun x y hS hT hk => d_load (v := (.bool false)) (wn rfl) (hk 8 rfl) one4 ((Blk.sm (w := w4.drew) m7 hS hM301).cell (congrArg (fun b => some (Value.bool b)) hb229)) ⟨SM.refl _, rfl⟩) ?_
        refine each_cons (fun x y hS hT hk => d_bin (wn rfl) (hk 7 rfl) (hk 9 rfl) (b_eqb _ _ false false true _ Try.underlying4 rfl) ⟨SM.refl _, rfl⟩) ?_
        exact each_nil
      intro f302 a303 w304 hS305 hC306 hA307
      have hA308 : St 117 [(0, (.pointer (some ⟨g, 0, none⟩))), (3, (.pointer (some ⟨g3, 0, none⟩))), (4, (.bool false)), (5, (.int .i64 (p + 1))), (97, (.bool true))] a303 := hA307.cut _ (fm_cons (hA307.get 0 _ rfl) (fm_cons (hA307.get 3 _ rfl) (fm_cons (hA307.get 4 _ rfl) (fm_cons (hA307.get 5 _ rfl) (fm_cons ((hA307.get 97 _ rfl).trans (hC306 10 (Nat.le_of_ble_eq_true rfl))) fm_nil)))))
      have m309 := m12.sm hS305 hM300
      have m310 := m7.sm hS305 hM301
      have b311 := hS305.below b13 (Nat.le_trans hB b13.size) hM299B
      have ho312 := own_sm ho14 hS305 (fun k => congrFun hM299 k)
      have ho313 := own_sm ho15 hS305 (fun k => congrFun hM299 k)
      refine t_norm ?_
      refine c_true hA308 rfl ?_
      refine wp_region_lit ?_
      refine q_step hA308 rfl (d_fieldAddr (wn rfl) (hA308.ev (v := (.pointer (some ⟨g3, 0, none⟩))) rfl) fo23_15 ?_)
      intro a314 hA315
      refine q_step hA315 rfl (d_load (v := (.int .i64 i.to)) (wn rfl) (hA315.ev (v := (.pointer (some ⟨g3, 15, none⟩))) rfl) one3 (m310.cell rfl) ?_)
      intro a316 hA317
      refine q_step hA317 rfl (d_assign (wn rfl) (hA317.ev (v := (.int .i64 i.to)) rfl) ?_)
      intro a318 hA319
      refine q_end ?_
      have hA320 : St 117 [(0, (.pointer (some ⟨g, 0, none⟩))), (4, (.bool false)), (5, (.int .i64 i.to))] a318 := hA319.cut _ (fm_cons (hA319.get 0 _ rfl) (fm_cons (hA319.get 4 _ rfl) (fm_cons (hA319.get 5 _ rfl) fm_nil)))
      refine i_norm ?_
      refine t_norm ?_
      refine wp_seq ?_
      have hA321 : St 117 [(0, (.pointer (some ⟨g, 0, none⟩))), (4, (.bool false)), (5, (.int .i64 i.to))] a318 := hA320.cut _ (fm_cons (hA320.get 0 _ rfl) (fm_cons (hA320.get 4 _ rfl) (fm_cons (hA320.get 5 _ rfl) fm_nil)))
      let M322 : Nat → Option (Array Value) := fun _ => none
      have hM322 : M322 = fun _ => none := rfl
      clear_value M322
      have hM322A : ∀ k, M322 k = none := fun k => congrFun hM322 k
      have hM322B : ∀ k, k < Bd → M322 k = none := fun k _ => hM322A k
      refine drawnL (S := SM M322) rfl (tabQ [some (.pointer (some ⟨g, 0, none⟩)), some (.pointer (some ⟨g, 0, none⟩)), some (.pointer (some ⟨g, 0, none⟩)), some (.pointer (some ⟨g, 11, none⟩)), none, some (.pointer (some ⟨g, 0, none⟩)), some (.pointer (some ⟨g, 0, none⟩)), some (.pointer (some ⟨g, 0, none⟩)), none, none, none, some (.pointer (some ⟨g, 0, none⟩)), some (.pointer (some ⟨g, 11, none⟩))] [cv (.pointer (some ⟨g, 0, none⟩)), cv (.pointer (some ⟨g, 0, none⟩)), cv (.pointer (some ⟨g, 0, none⟩)), cv (.pointer (some ⟨g, 11, none⟩)), cv pa, cv (.pointer (some ⟨g, 0, none⟩)), cv (.pointer (some ⟨g, 0, none⟩)), cv (.pointer (some ⟨g, 0, none⟩)), cv (.int .i64 p), cs1 M322 hM322A #[.int .i64 p] 3, cfree, cv (.pointer (some ⟨g, 0, none⟩)), cv (.pointer (some ⟨g, 11, none⟩))]) (some 10) (fun i => (([some (.pointer (some ⟨g, 0, none⟩)), some (.pointer (some ⟨g, 0, none⟩)), some (.pointer (some ⟨g, 0, none⟩)), some (.pointer (some ⟨g, 11, none⟩)), none, some (.pointer (some ⟨g, 0, none⟩)), some (.pointer (some ⟨g, 0, none⟩)), some (.pointer (some ⟨g, 0, none⟩)), none, none, none, some (.pointer (some ⟨g, 0, none⟩)), some (.pointer (some ⟨g, 11, none⟩))] : List (Option Value))[i]?).getD none) (fun v' w' => w'.ownsRow Bd 3 1 v' (path.length + 1) ((paE path) ++ (#[.int .i64 p] : Array Value).toList) ∧ Below Bd w w' ∧ Blk w' g (walkC p r rd ev pa) 62 ∧ Blk w' g3 (insC ⟨9, i.dst, ((k : Nat) : Int), i.b, i.imm, i.loc, i.off, i.index, i.size, i.fn, i.acq, i.weak, i.rel, i.pred, i.succ, i.to, i.zero⟩) 23 ∧ w'.ownsRow Bd 52 15 ev evs.length (evE evs) ∧ v'.ownBlock ≠ some g ∧ v'.ownBlock ≠ some g3 ∧ ∀ k, ev.ownBlock = some k → v'.ownBlock ≠ some k) [12, 10, 0, 1, 2, 3, 4, 5, 6, 7, 8, 9, 11] [4, 9, 3, 8, 2, 7, 1, 6, 5] mixedY SM.refl SM.trans hA321 (by kernel_rfl) (by kernel_rfl) (tabQ_cv _ _) ?_ ?_
      · skip
        refine eachD_cons (.inr (.inl ⟨by decide, _, rfl, fun x y hT hk hk0 => d_move (wn rfl) (hT.ev (v := (.pointer (some ⟨g, 0, none⟩))) rfl) ⟨rfl, rfl⟩⟩)) ?_
        refine eachD_cons (.inr (.inl ⟨by decide, _, rfl, fun x y hT hk hk0 => d_move (wn rfl) (hT.ev (v := (.pointer (some ⟨g, 0, none⟩))) rfl) ⟨rfl, rfl⟩⟩)) ?_
        refine eachD_cons (.inr (.inl ⟨by decide, _, rfl, fun x y hT hk hk0 => d_nilCheck (wn rfl) (hk 1 _ rfl rfl) ⟨rfl, rfl⟩⟩)) ?_
        refine eachD_cons (.inr (.inl ⟨by decide, _, rfl, fun x y hT hk hk0 => d_fieldAddr (wn rfl) (hk 2 _ rfl rfl) fo62_4 ⟨rfl, rfl⟩⟩)) ?_
        refine eachD_cons (.inl ⟨by decide, rfl, fun x y hS hT hk => d_load (v := pa) (wn rfl) (hk 3 rfl) one30 ((Blk.sm (w := w304.drew) m309 hS (hM322A _)).cell rfl) ⟨SM.refl _, rfl⟩⟩) ?_
        refine eachD_cons (.inr (.inl ⟨by decide, _, rfl, fun x y hT hk hk0 => d_move (wn rfl) (hT.ev (v := (.pointer (some ⟨g, 0, none⟩))) rfl) ⟨rfl, rfl⟩⟩)) ?_
        refine eachD_cons (.inr (.inl ⟨by decide, _, rfl, fun x y hT hk hk0 => d_nilCheck (wn rfl) (hk 5 _ rfl rfl) ⟨rfl, rfl⟩⟩)) ?_
        refine eachD_cons (.inr (.inl ⟨by decide, _, rfl, fun x y hT hk hk0 => d_fieldAddr (wn rfl) (hk 6 _ rfl rfl) fo62_0 ⟨rfl, rfl⟩⟩)) ?_
        refine eachD_cons (.inl ⟨by decide, rfl, fun x y hS hT hk => d_load (v := (.int .i64 p)) (wn rfl) (hk 7 rfl) one3 ((Blk.sm (w := w304.drew) m309 hS (hM322A _)).cell rfl) ⟨SM.refl _, rfl⟩⟩) ?_
        refine eachD_cons (.inl ⟨by decide, rfl, fun x y hS hT hk => d_slice1 (wn rfl) (show x.eval _ = (.int .i64 p) from (hk 8 rfl)) elm30 rfl (by decide) (fun g w' _ hG hb => ⟨SM.grow hG, g, rfl, hb⟩)⟩) ?_
        refine eachD_cons (.inr (.inr ⟨rfl, fun x y hS hT hk => ?_⟩)) ?_
        · skip
          obtain ⟨gb, hvb, hbb⟩ := hk 9 rfl
          have hG : Grow w304 y := Grow.trans ((Grow.refl _).drew) (SM.grown (by rw [hM322] at hS; exact hS))
          have hR := own_grow hG ho313
          have hO := own_grow hG ho312
          have hBl := below_grow b311 hG (Nat.le_trans hB b311.size)
          refine d_append (wn rfl) (show x.eval _ = pa from (hk 4 rfl)) hvb elm30 hR hbb rfl rfl (by omega) (by decide) (Nat.le_trans hB hBl.size) ?_
          intro v' w' h1 h2 h3
          exact ⟨h1, below_by hBl h2 (Nat.le_trans hB hBl.size) (fun k hk => (own_lt hR k hk).1), (m309.grow hG).by h2 op_, (m310.grow hG).by h2 off11, own_by hO h2 ap2, lies_ne h3 op_ (m309.grow hG).lt, lies_ne h3 off11 (m310.grow hG).lt, lies_ap h3 ap2 hO⟩
        refine eachD_cons (.inr (.inl ⟨by decide, _, rfl, fun x y hT hk hk0 => d_nilCheck (wn rfl) (hk 0 _ rfl rfl) ⟨rfl, rfl⟩⟩)) ?_
        refine eachD_cons (.inr (.inl ⟨by decide, _, rfl, fun x y hT hk hk0 => d_fieldAddr (wn rfl) (hk 11 _ rfl rfl) fo62_4 ⟨rfl, rfl⟩⟩)) ?_
        exact eachD_one
      rintro a323 w324 hA325 ⟨hP327, hW328⟩
      obtain ⟨v329, hv330⟩ : ∃ v', v' = (a323.tmps.getD 110 undef) := ⟨_, rfl⟩
      have hW331 : (fun v' w' => w'.ownsRow Bd 3 1 v' (path.length + 1) ((paE path) ++ (#[.int .i64 p] : Array Value).toList) ∧ Below Bd w w' ∧ Blk w' g (walkC p r rd ev pa) 62 ∧ Blk w' g3 (insC ⟨9, i.dst, ((k : Nat) : Int), i.b, i.imm, i.loc, i.off, i.index, i.size, i.fn, i.acq, i.weak, i.rel, i.pred, i.succ, i.to, i.zero⟩) 23 ∧ w'.ownsRow Bd 52 15 ev evs.length (evE evs) ∧ v'.ownBlock ≠ some g ∧ v'.ownBlock ≠ some g3 ∧ ∀ k, ev.ownBlock = some k → v'.ownBlock ≠ some k) v329 w324 := by rw [hv330]; exact hW328
      obtain ⟨ho332, b333, m334, m335, ho336, off337, off338, ap339⟩ := hW331
      have ap340 : ∀ k, v329.ownBlock = some k → ev.ownBlock ≠ some k := fun k h1 h2 => ap339 k h2 h1
      have hA341 : St 117 [(0, (.pointer (some ⟨g, 0, none⟩))), (4, (.bool false)), (5, (.int .i64 i.to)), (110, v329), (112, (.pointer (some ⟨g, 11, none⟩)))] a323 := hA325.cut _ (fm_cons (hA325.get 0 _ rfl) (fm_cons (hA325.get 4 _ rfl) (fm_cons (hA325.get 5 _ rfl) (fm_cons hv330.symm (fm_cons (hP327 12 _ (Nat.le_of_ble_eq_true rfl) (by decide) rfl) fm_nil)))))
      refine d_store (v := v329) (wn rfl) (hA341.ev (v := (.pointer (some ⟨g, 11, none⟩))) rfl) (hA341.ev (v := v329) rfl) one30 (one_slice (own_form ho332)) m334 (Nat.le_of_ble_eq_true rfl) ?_
      intro w342 hU343 (m344 : Blk w342 g (walkC p r rd ev v329) 62)
      have m345 := m335.upd hU343 (Ne.symm n9)
      have b346 := hU343.below b333 hge
      have ho347 := own_upd ho336 hU343 oe
      have ho348 := own_upd ho332 hU343 off337
      have hA349 : St 117 [(0, (.pointer (some ⟨g, 0, none⟩))), (4, (.bool false)), (5, (.int .i64 i.to))] a323 := hA341.cut _ (fm_cons (hA341.get 0 _ rfl) (fm_cons (hA341.get 4 _ rfl) (fm_cons (hA341.get 5 _ rfl) fm_nil)))
      refine t_norm ?_
      refine wp_seq ?_
      refine wp_region_lit ?_
      refine q_step hA349 rfl (d_move (wn rfl) (hA349.ev (v := (.pointer (some ⟨g, 0, none⟩))) rfl) ?_)
      intro a350 hA351
      refine q_step hA351 rfl (d_move (wn rfl) (hA351.ev (v := (.int .i64 i.to)) rfl) ?_)
      intro a352 hA353
      refine q_step hA353 rfl (d_nilCheck (wn rfl) (hA353.ev (v := (.pointer (some ⟨g, 0, none⟩))) rfl) ?_)
      intro a354 hA355
      refine q_step hA355 rfl (d_fieldAddr (wn rfl) (hA355.ev (v := (.pointer (some ⟨g, 0, none⟩))) rfl) fo62_0 ?_)
      intro a356 hA357
      refine q_step hA357 rfl (d_store (v := (.int .i64 i.to)) (wn rfl) (hA357.ev (v := (.pointer (some ⟨g, 0, none⟩))) rfl) (hA357.ev (v := (.int .i64 i.to)) rfl) one3 rfl m344 (Nat.le_of_ble_eq_true rfl) ?_)
      intro w358 hU359 (m360 : Blk w358 g (walkC i.to r rd ev v329) 62)
      have m361 := m345.upd hU359 (Ne.symm n9)
      have b362 := hU359.below b346 hge
      have ho363 := own_upd ho347 hU359 oe
      have ho364 := own_upd ho348 hU359 off337
      intro a365 hA366
      refine q_end ?_
      have hA367 : St 117 [(4, (.bool false))] a365 := hA366.cut _ (fm_cons (hA366.get 4 _ rfl) fm_nil)
      refine t_norm ?_
      refine wp_seq ?_
      refine wp_region_lit ?_
      refine q_step hA367 rfl (d_assign (wn rfl) (hA367.ev (v := (.bool true)) rfl) ?_)
      intro a368 hA369
      refine q_end ?_
      have hA370 : St 117 [(4, (.bool true))] a368 := hA369.cut _ (fm_cons (hA369.get 4 _ rfl) fm_nil)
      refine t_norm ?_
      refine wp_ret ?_
      refine ret1 rfl hA370 (v := (.bool true)) rfl ?_
      have hpp : (brP r k i p) = i.to := by simp [brP, hb84, hb229]
      rw [hpp]
      exact ⟨rfl, b362, rd, ev, v329, m360, hge, (hrd.below b362), ho363, (by rw [List.length_append, ← paE_snoc]; exact ho364), oe, off337, ap340⟩
end Go.Proofs.Ytlhompedcphnnaa
