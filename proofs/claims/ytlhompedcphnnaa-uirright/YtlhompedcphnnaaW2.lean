/- The event of an instruction. -/
import Derived.Test.YtlhompedcphnnaaW1
namespace Go.Proofs.Ytlhompedcphnnaa
open Go.RowKit
set_option linter.unusedSimpArgs false
set_option linter.unusedVariables false
set_option maxHeartbeats 4000000 in
set_option maxRecDepth 4000 in
theorem event_any (g : Nat) (p : Int) (r : Nat → Int) (rd ev pa : Value) (i : Ins) (np Bd : Nat) (xp : List Value) (w : World) (hb : Blk w g (walkC p r rd ev pa) 62) (hpa : w.ownsRow Bd 3 1 pa np xp) : Calls Try.prog 49 #[.pointer (some ⟨g, 0, none⟩), .agg (insC i)] w fun e w' => e = .returned (.agg (evC (ev0 i np p))) ∧ Grow w w' := by
  have b0 : Below w.heap.size w w := Below.refl _ _
  refine enter (n := 31) Try.func49 rfl rfl (Nat.le_of_ble_eq_true rfl) ?_
  intro a1 hA2
  refine wp_seq ?_
  refine wp_region_lit ?_
  refine q_step hA2 rfl (d_box (wn rfl) (hA2.ev (v := (.agg (insC i))) rfl) ?_)
  intro g3 w4 eg5 hG6 (m7 : Blk w4 g3 (insC i) 23)
  have ge8 : w.heap.size ≤ g3 := eg5 ▸ b0.size
  have n9 : g ≠ g3 := fun h => Nat.lt_irrefl _ ((h.trans eg5) ▸ hb.lt)
  have off10 := own_new hpa eg5
  have m11 := hb.grow hG6
  have b12 := below_grow b0 hG6 b0.size
  have ho13 := own_grow hG6 hpa
  intro a14 hA15
  refine q_step hA15 rfl (d_alloc (wn rfl) zero52 ?_)
  intro g16 w17 eg18 hG19 (m20 : Blk w17 g16 #[.int .i64 0, .int .i64 0, .int .i64 0, .int .i64 0, .int .i64 0, .int .i64 0, .bool false, .bool false, .int .i64 0, .int .i64 0, .bool false, .bool false, .bool false, .int .i64 0, .int .i64 0] 52)
  have ge21 : w.heap.size ≤ g16 := eg18 ▸ b12.size
  have n22 : g ≠ g16 := fun h => Nat.lt_irrefl _ ((h.trans eg18) ▸ m11.lt)
  have n23 : g3 ≠ g16 := fun h => Nat.lt_irrefl _ ((h.trans eg18) ▸ m7.lt)
  have off24 := own_new ho13 eg18
  have m25 := m11.grow hG19
  have m26 := m7.grow hG19
  have b27 := below_grow b12 hG19 b12.size
  have ho28 := own_grow hG19 ho13
  intro a29 hA30
  refine q_end ?_
  have hA31 : St 31 [(0, (.pointer (some ⟨g, 0, none⟩))), (3, (.pointer (some ⟨g3, 0, none⟩))), (4, (.pointer (some ⟨g16, 0, none⟩)))] a29 := hA30.cut _ (fm_cons (hA30.get 0 _ rfl) (fm_cons (hA30.get 3 _ rfl) (fm_cons (hA30.get 4 _ rfl) fm_nil)))
  refine t_norm ?_
  refine wp_seq ?_
  have hA32 : St 31 [(0, (.pointer (some ⟨g, 0, none⟩))), (3, (.pointer (some ⟨g3, 0, none⟩))), (4, (.pointer (some ⟨g16, 0, none⟩)))] a29 := hA31.cut _ (fm_cons (hA31.get 0 _ rfl) (fm_cons (hA31.get 3 _ rfl) (fm_cons (hA31.get 4 _ rfl) fm_nil)))
  let M33 : Nat → Option (Array Value) := fun _ => none
  have hM33 : M33 = fun _ => none := rfl
  clear_value M33
  have hM33A : ∀ k, M33 k = none := fun k => congrFun hM33 k
  have hM33B : ∀ k, k < w.heap.size → M33 k = none := fun k _ => hM33A k
  refine drawnL (S := SM M33) rfl (tabL [cv (.pointer (some ⟨g, 0, none⟩)), cv (.pointer (some ⟨g, 0, none⟩)), cv (.pointer (some ⟨g, 11, none⟩)), cv pa, cv (.int .i64 ((np : Nat) : Int)), cv (.pointer (some ⟨g, 0, none⟩)), cv (.pointer (some ⟨g, 0, none⟩)), cv (.pointer (some ⟨g, 0, none⟩)), cv (.int .i64 p), cv (.pointer (some ⟨g3, 0, none⟩)), cv (.int .i64 i.op), cv (.agg (insC i)), cv (.bool (rdB i)), cv (.agg (insC i)), cv (.bool (wrB i)), cv (.pointer (some ⟨g3, 10, none⟩)), cv (.bool i.acq), cv (.pointer (some ⟨g3, 11, none⟩)), cv (.bool i.weak), cv (.pointer (some ⟨g3, 12, none⟩)), cv (.bool i.rel), cv (.pointer (some ⟨g3, 13, none⟩)), cv (.int .i64 i.pred), cv (.pointer (some ⟨g3, 14, none⟩)), cv (.int .i64 i.succ), cv (.agg #[.int .i64 0, .int .i64 ((np : Nat) : Int), .int .i64 p, .int .i64 i.op, .int .i64 0, .int .i64 0, .bool (rdB i), .bool (wrB i), .int .i64 0, .int .i64 0, .bool i.acq, .bool i.weak, .bool i.rel, .int .i64 i.pred, .int .i64 i.succ])]) none (fun _ => none) (fun _ _ => True) [25, 14, 0, 1, 2, 3, 4, 5, 6, 7, 8, 9, 10, 11, 12, 13, 15, 16, 17, 18, 19, 20, 21, 22, 23, 24] [] mixedY SM.refl SM.trans hA32 (by kernel_rfl) (by kernel_rfl) (fun i v u w h => by cases h) ?_ ?_
  · skip
    refine eachD_cons (.inl ⟨nofun, rfl, fun x y hS hT hk => d_move (wn rfl) (hT.ev (v := (.pointer (some ⟨g, 0, none⟩))) rfl) ⟨SM.refl _, rfl⟩⟩) ?_
    refine eachD_cons (.inl ⟨nofun, rfl, fun x y hS hT hk => d_nilCheck (wn rfl) (hk 0 rfl) ⟨SM.refl _, rfl⟩⟩) ?_
    refine eachD_cons (.inl ⟨nofun, rfl, fun x y hS hT hk => d_fieldAddr (wn rfl) (hk 1 rfl) fo62_4 ⟨SM.refl _, rfl⟩⟩) ?_
    refine eachD_cons (.inl ⟨nofun, rfl, fun x y hS hT hk => d_load (v := pa) (wn rfl) (hk 2 rfl) one30 ((Blk.sm (w := w17.drew) m25 hS (hM33A _)).cell rfl) ⟨SM.refl _, rfl⟩⟩) ?_
    refine eachD_cons (.inl ⟨nofun, rfl, fun x y hS hT hk => d_len (n := np) (wn rfl) (hk 3 rfl) slc30 (own_form ho28) ⟨SM.refl _, rfl⟩⟩) ?_
    refine eachD_cons (.inl ⟨nofun, rfl, fun x y hS hT hk => d_move (wn rfl) (hT.ev (v := (.pointer (some ⟨g, 0, none⟩))) rfl) ⟨SM.refl _, rfl⟩⟩) ?_
    refine eachD_cons (.inl ⟨nofun, rfl, fun x y hS hT hk => d_nilCheck (wn rfl) (hk 5 rfl) ⟨SM.refl _, rfl⟩⟩) ?_
    refine eachD_cons (.inl ⟨nofun, rfl, fun x y hS hT hk => d_fieldAddr (wn rfl) (hk 6 rfl) fo62_0 ⟨SM.refl _, rfl⟩⟩) ?_
    refine eachD_cons (.inl ⟨nofun, rfl, fun x y hS hT hk => d_load (v := (.int .i64 p)) (wn rfl) (hk 7 rfl) one3 ((Blk.sm (w := w17.drew) m25 hS (hM33A _)).cell rfl) ⟨SM.refl _, rfl⟩⟩) ?_
    refine eachD_cons (.inl ⟨nofun, rfl, fun x y hS hT hk => d_fieldAddr (wn rfl) (hT.ev (v := (.pointer (some ⟨g3, 0, none⟩))) rfl) fo23_0 ⟨SM.refl _, rfl⟩⟩) ?_
    refine eachD_cons (.inl ⟨nofun, rfl, fun x y hS hT hk => d_load (v := (.int .i64 i.op)) (wn rfl) (hk 9 rfl) one3 ((Blk.sm (w := w17.drew) m26 hS (hM33A _)).cell rfl) ⟨SM.refl _, rfl⟩⟩) ?_
    refine eachD_cons (.inl ⟨nofun, rfl, fun x y hS hT hk => d_loadRow (cs := (insC i)) (wn rfl) (hT.ev (v := (.pointer (some ⟨g3, 0, none⟩))) rfl) row23 (Blk.sm (w := w17.drew) m26 hS (hM33A _)) ⟨SM.refl _, rfl⟩⟩) ?_
    refine eachD_cons (.inl ⟨nofun, rfl, fun x y hS hT hk => d_call (wn rfl) ent11 (map1 (show x.eval _ = (.agg (insC i)) from (hk 11 rfl))) (reads_any i y) (fun _ _ ⟨he, hG⟩ => ⟨(.bool (rdB i)), he, SM.grow hG, rfl⟩)⟩) ?_
    refine eachD_cons (.inl ⟨nofun, rfl, fun x y hS hT hk => d_loadRow (cs := (insC i)) (wn rfl) (hT.ev (v := (.pointer (some ⟨g3, 0, none⟩))) rfl) row23 (Blk.sm (w := w17.drew) m26 hS (hM33A _)) ⟨SM.refl _, rfl⟩⟩) ?_
    refine eachD_cons (.inl ⟨nofun, rfl, fun x y hS hT hk => d_call (wn rfl) ent13 (map1 (show x.eval _ = (.agg (insC i)) from (hk 13 rfl))) (writes_any i y) (fun _ _ ⟨he, hG⟩ => ⟨(.bool (wrB i)), he, SM.grow hG, rfl⟩)⟩) ?_
    refine eachD_cons (.inl ⟨nofun, rfl, fun x y hS hT hk => d_fieldAddr (wn rfl) (hT.ev (v := (.pointer (some ⟨g3, 0, none⟩))) rfl) fo23_10 ⟨SM.refl _, rfl⟩⟩) ?_
    refine eachD_cons (.inl ⟨nofun, rfl, fun x y hS hT hk => d_load (v := (.bool i.acq)) (wn rfl) (hk 15 rfl) one4 ((Blk.sm (w := w17.drew) m26 hS (hM33A _)).cell rfl) ⟨SM.refl _, rfl⟩⟩) ?_
    refine eachD_cons (.inl ⟨nofun, rfl, fun x y hS hT hk => d_fieldAddr (wn rfl) (hT.ev (v := (.pointer (some ⟨g3, 0, none⟩))) rfl) fo23_11 ⟨SM.refl _, rfl⟩⟩) ?_
    refine eachD_cons (.inl ⟨nofun, rfl, fun x y hS hT hk => d_load (v := (.bool i.weak)) (wn rfl) (hk 17 rfl) one4 ((Blk.sm (w := w17.drew) m26 hS (hM33A _)).cell rfl) ⟨SM.refl _, rfl⟩⟩) ?_
    refine eachD_cons (.inl ⟨nofun, rfl, fun x y hS hT hk => d_fieldAddr (wn rfl) (hT.ev (v := (.pointer (some ⟨g3, 0, none⟩))) rfl) fo23_12 ⟨SM.refl _, rfl⟩⟩) ?_
    refine eachD_cons (.inl ⟨nofun, rfl, fun x y hS hT hk => d_load (v := (.bool i.rel)) (wn rfl) (hk 19 rfl) one4 ((Blk.sm (w := w17.drew) m26 hS (hM33A _)).cell rfl) ⟨SM.refl _, rfl⟩⟩) ?_
    refine eachD_cons (.inl ⟨nofun, rfl, fun x y hS hT hk => d_fieldAddr (wn rfl) (hT.ev (v := (.pointer (some ⟨g3, 0, none⟩))) rfl) fo23_13 ⟨SM.refl _, rfl⟩⟩) ?_
    refine eachD_cons (.inl ⟨nofun, rfl, fun x y hS hT hk => d_load (v := (.int .i64 i.pred)) (wn rfl) (hk 21 rfl) one3 ((Blk.sm (w := w17.drew) m26 hS (hM33A _)).cell rfl) ⟨SM.refl _, rfl⟩⟩) ?_
    refine eachD_cons (.inl ⟨nofun, rfl, fun x y hS hT hk => d_fieldAddr (wn rfl) (hT.ev (v := (.pointer (some ⟨g3, 0, none⟩))) rfl) fo23_14 ⟨SM.refl _, rfl⟩⟩) ?_
    refine eachD_cons (.inl ⟨nofun, rfl, fun x y hS hT hk => d_load (v := (.int .i64 i.succ)) (wn rfl) (hk 23 rfl) one3 ((Blk.sm (w := w17.drew) m26 hS (hM33A _)).cell rfl) ⟨SM.refl _, rfl⟩⟩) ?_
    refine eachD_cons (.inl ⟨nofun, rfl, fun x y hS hT hk => d_build (cs := #[.int .i64 0, .int .i64 ((np : Nat) : Int), .int .i64 p, .int .i64 i.op, .int .i64 0, .int .i64 0, .bool (rdB i), .bool (wrB i), .int .i64 0, .int .i64 0, .bool i.acq, .bool i.weak, .bool i.rel, .int .i64 i.pred, .int .i64 i.succ]) (wn rfl) (bp_of (bq_cons (show x.eval _ = (.int .i64 ((np : Nat) : Int)) from (hk 4 rfl)) (bq_cons (show x.eval _ = (.int .i64 p) from (hk 8 rfl)) (bq_cons (show x.eval _ = (.int .i64 i.op) from (hk 10 rfl)) (bq_cons (show x.eval _ = (.bool (rdB i)) from (hk 12 rfl)) (bq_cons (show x.eval _ = (.bool (wrB i)) from (hk 14 rfl)) (bq_cons (show x.eval _ = (.bool i.acq) from (hk 16 rfl)) (bq_cons (show x.eval _ = (.bool i.weak) from (hk 18 rfl)) (bq_cons (show x.eval _ = (.bool i.rel) from (hk 20 rfl)) (bq_cons (show x.eval _ = (.int .i64 i.pred) from (hk 22 rfl)) (bq_cons (show x.eval _ = (.int .i64 i.succ) from (hk 24 rfl)) bq_nil))))))))))) zero52 places52 (by kernel_rfl) ⟨SM.refl _, rfl⟩⟩) ?_
    exact eachD_one
  rintro a34 w35 hA36 ⟨hS38, hC39⟩
  have hA40 : St 31 [(4, (.pointer (some ⟨g16, 0, none⟩))), (30, (.agg #[.int .i64 0, .int .i64 ((np : Nat) : Int), .int .i64 p, .int .i64 i.op, .int .i64 0, .int .i64 0, .bool (rdB i), .bool (wrB i), .int .i64 0, .int .i64 0, .bool i.acq, .bool i.weak, .bool i.rel, .int .i64 i.pred, .int .i64 i.succ]))] a34 := hA36.cut _ (fm_cons (hA36.get 4 _ rfl) (fm_cons (hC39 25 (Nat.le_of_ble_eq_true rfl)) fm_nil))
  have hG41 : Grow w17 w35 := Grow.trans ((Grow.refl _).drew) (SM.grown (by rw [hM33] at hS38; exact hS38))
  have m42 := m25.grow hG41
  have m43 := m26.grow hG41
  have m44 := m20.grow hG41
  have b45 := below_grow b27 hG41 b27.size
  have ho46 := own_grow hG41 ho28
  refine d_storeRow (wn rfl) (hA40.ev (v := (.pointer (some ⟨g16, 0, none⟩))) rfl) (hA40.ev (v := (.agg #[.int .i64 0, .int .i64 ((np : Nat) : Int), .int .i64 p, .int .i64 i.op, .int .i64 0, .int .i64 0, .bool (rdB i), .bool (wrB i), .int .i64 0, .int .i64 0, .bool i.acq, .bool i.weak, .bool i.rel, .int .i64 i.pred, .int .i64 i.succ])) rfl) row52 m44 rfl rfl ?_
  intro w47 hU48 (m49 : Blk w47 g16 #[.int .i64 0, .int .i64 ((np : Nat) : Int), .int .i64 p, .int .i64 i.op, .int .i64 0, .int .i64 0, .bool (rdB i), .bool (wrB i), .int .i64 0, .int .i64 0, .bool i.acq, .bool i.weak, .bool i.rel, .int .i64 i.pred, .int .i64 i.succ] 52)
  have m50 := m42.upd hU48 n22
  have m51 := m43.upd hU48 n23
  have b52 := hU48.below b45 ge21
  have ho53 := own_upd ho46 hU48 off24
  have hA54 : St 31 [(4, (.pointer (some ⟨g16, 0, none⟩)))] a34 := hA40.cut _ (fm_cons (hA40.get 4 _ rfl) fm_nil)
  refine t_norm ?_
  refine wp_ret ?_
  refine retRow (g := g16) (cs := #[.int .i64 0, .int .i64 ((np : Nat) : Int), .int .i64 p, .int .i64 i.op, .int .i64 0, .int .i64 0, .bool (rdB i), .bool (wrB i), .int .i64 0, .int .i64 0, .bool i.acq, .bool i.weak, .bool i.rel, .int .i64 i.pred, .int .i64 i.succ]) rfl hA54 rfl m49 row52 ?_
  exact ⟨rfl, b52⟩
end Go.Proofs.Ytlhompedcphnnaa
