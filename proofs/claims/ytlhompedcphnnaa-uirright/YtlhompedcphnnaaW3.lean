/- What a write writes. -/
import Derived.Test.YtlhompedcphnnaaUWalk2
namespace Go.Proofs.Ytlhompedcphnnaa
open Go.RowKit
set_option linter.unusedSimpArgs false
set_option linter.unusedVariables false
set_option maxHeartbeats 4000000 in
set_option maxRecDepth 4000 in
theorem written_5 (g : Nat) (p : Int) (r : Nat → Int) (rd ev pa : Value) (i : Ins) (o : Int) (w : World) (hb : Blk w g (walkC p r rd ev pa) 62) (hr : ∀ k, wfI (r k)) (ha : ronB i.a = true) (himm : wfI i.imm) : Calls Try.prog 59 #[.pointer (some ⟨g, 0, none⟩), .agg (insC ⟨5, i.dst, i.a, i.b, i.imm, i.loc, i.off, i.index, i.size, i.fn, i.acq, i.weak, i.rel, i.pred, i.succ, i.to, i.zero⟩), .int .i64 o] w fun e w' => e = .returned (.int .i64 (I (getR (B (orR r i.a i.imm)) 0 i.size))) ∧ Grow w w' := by
  have b0 : Below w.heap.size w w := Below.refl _ _
  refine enter (n := 32) Try.func59 rfl rfl (Nat.le_of_ble_eq_true rfl) ?_
  intro a1 hA2
  refine wp_seq ?_
  refine wp_region_lit ?_
  refine q_step hA2 rfl (d_box (wn rfl) (hA2.ev (v := (.agg (insC ⟨5, i.dst, i.a, i.b, i.imm, i.loc, i.off, i.index, i.size, i.fn, i.acq, i.weak, i.rel, i.pred, i.succ, i.to, i.zero⟩))) rfl) ?_)
  intro g3 w4 eg5 hG6 (m7 : Blk w4 g3 (insC ⟨5, i.dst, i.a, i.b, i.imm, i.loc, i.off, i.index, i.size, i.fn, i.acq, i.weak, i.rel, i.pred, i.succ, i.to, i.zero⟩) 23)
  have ge8 : w.heap.size ≤ g3 := eg5 ▸ b0.size
  have n9 : g ≠ g3 := fun h => Nat.lt_irrefl _ ((h.trans eg5) ▸ hb.lt)
  have m10 := hb.grow hG6
  have b11 := below_grow b0 hG6 b0.size
  intro a12 hA13
  refine q_step hA13 rfl (d_assign (wn rfl) (hA13.ev (v := (.int .i64 0)) rfl) ?_)
  intro a14 hA15
  refine q_end ?_
  have hA16 : St 32 [(0, (.pointer (some ⟨g, 0, none⟩))), (2, (.int .i64 o)), (4, (.pointer (some ⟨g3, 0, none⟩))), (6, (.int .i64 0))] a14 := hA15.cut _ (fm_cons (hA15.get 0 _ rfl) (fm_cons (hA15.get 2 _ rfl) (fm_cons (hA15.get 4 _ rfl) (fm_cons (hA15.get 6 _ rfl) fm_nil))))
  refine t_norm ?_
  refine wp_seq ?_
  refine wp_seq ?_
  refine wp_region_lit ?_
  refine q_step hA16 rfl (d_fieldAddr (wn rfl) (hA16.ev (v := (.pointer (some ⟨g3, 0, none⟩))) rfl) fo23_0 ?_)
  intro a17 hA18
  refine q_step hA18 rfl (d_load (v := (.int .i64 5)) (wn rfl) (hA18.ev (v := (.pointer (some ⟨g3, 0, none⟩))) rfl) one3 (m7.cell rfl) ?_)
  intro a19 hA20
  refine q_step hA20 rfl (d_bin (wn rfl) (hA20.ev (v := (.int .i64 5)) rfl) (hA20.ev (v := (.int .i64 6)) rfl) (b_eq _ _ 5 6 false _ rfl) ?_)
  intro a21 hA22
  refine q_end ?_
  have hA23 : St 32 [(0, (.pointer (some ⟨g, 0, none⟩))), (2, (.int .i64 o)), (4, (.pointer (some ⟨g3, 0, none⟩))), (6, (.int .i64 0)), (9, (.bool false))] a21 := hA22.cut _ (fm_cons (hA22.get 0 _ rfl) (fm_cons (hA22.get 2 _ rfl) (fm_cons (hA22.get 4 _ rfl) (fm_cons (hA22.get 6 _ rfl) (fm_cons (hA22.get 9 _ rfl) fm_nil)))))
  refine t_norm ?_
  refine c_false hA23 rfl ?_
  refine wp_skip ?_
  refine t_norm ?_
  refine wp_seq ?_
  have hA24 : St 32 [(0, (.pointer (some ⟨g, 0, none⟩))), (4, (.pointer (some ⟨g3, 0, none⟩)))] a21 := hA23.cut _ (fm_cons (hA23.get 0 _ rfl) (fm_cons (hA23.get 4 _ rfl) fm_nil))
  let M25 : Nat → Option (Array Value) := fun _ => none
  have hM25 : M25 = fun _ => none := rfl
  clear_value M25
  have hM26 : M25 g = none := (congrFun hM25 g)
  have hM27 : M25 g3 = none := (congrFun hM25 g3)
  have hM25B : ∀ k, k < w.heap.size → M25 k = none := (fun k hk => (congrFun hM25 k))
  refine drawn (S := SM M25) (tabL [cv (.pointer (some ⟨g, 0, none⟩)), cv (.pointer (some ⟨g3, 2, none⟩)), cv (.int .i64 i.a), cv (.pointer (some ⟨g3, 4, none⟩)), cv (.int .i64 i.imm), cv (.int .i64 (orR r i.a i.imm)), cv (.pointer (some ⟨g3, 8, none⟩)), cv (.int .i64 i.size), cv (.int .i64 (I (getR (B (orR r i.a i.imm)) 0 i.size))), cv (.int .i64 (I (getR (B (orR r i.a i.imm)) 0 i.size)))]) mixedY SM.refl SM.trans SM.drew hA24 (by kernel_rfl) ?_ ?_
  · skip
    refine each_cons (fun x y hS hT hk => d_move (wn rfl) (hT.ev (v := (.pointer (some ⟨g, 0, none⟩))) rfl) ⟨SM.refl _, rfl⟩) ?_
    refine each_cons (fun x y hS hT hk => d_fieldAddr (wn rfl) (hT.ev (v := (.pointer (some ⟨g3, 0, none⟩))) rfl) fo23_2 ⟨SM.refl _, rfl⟩) ?_
    refine each_cons (fun x y hS hT hk => d_load (v := (.int .i64 i.a)) (wn rfl) (hk 1 rfl) one3 ((Blk.sm (w := w4.drew) m7 hS hM27).cell rfl) ⟨SM.refl _, rfl⟩) ?_
    refine each_cons (fun x y hS hT hk => d_fieldAddr (wn rfl) (hT.ev (v := (.pointer (some ⟨g3, 0, none⟩))) rfl) fo23_4 ⟨SM.refl _, rfl⟩) ?_
    refine each_cons (fun x y hS hT hk => d_load (v := (.int .i64 i.imm)) (wn rfl) (hk 3 rfl) one3 ((Blk.sm (w := w4.drew) m7 hS hM27).cell rfl) ⟨SM.refl _, rfl⟩) ?_
    refine each_cons (fun x y hS hT hk => d_call (wn rfl) ent47 (map3 (show x.eval _ = (.pointer (some ⟨g, 0, none⟩)) from (hk 0 rfl)) (show x.eval _ = (.int .i64 i.a) from (hk 2 rfl)) (show x.eval _ = (.int .i64 i.imm) from (hk 4 rfl))) (regOr_any g p r rd ev pa i.a i.imm y (Blk.sm (w := w4.drew) m10 hS hM26) ha) (fun _ _ ⟨he, hG⟩ => ⟨(.int .i64 (orR r i.a i.imm)), he, SM.grow hG, rfl⟩)) ?_
    refine each_cons (fun x y hS hT hk => d_fieldAddr (wn rfl) (hT.ev (v := (.pointer (some ⟨g3, 0, none⟩))) rfl) fo23_8 ⟨SM.refl _, rfl⟩) ?_
    refine each_cons (fun x y hS hT hk => d_load (v := (.int .i64 i.size)) (wn rfl) (hk 6 rfl) one3 ((Blk.sm (w := w4.drew) m7 hS hM27).cell rfl) ⟨SM.refl _, rfl⟩) ?_
    refine each_cons (fun x y hS hT hk => d_call (wn rfl) ent58 (map3 (show x.eval _ = (.int .i64 (orR r i.a i.imm)) from (hk 5 rfl)) (show x.eval _ = (.int .i64 0) from (hT.ev (v := (.int .i64 0)) rfl)) (show x.eval _ = (.int .i64 i.size) from (hk 7 rfl))) (get_w (orR r i.a i.imm) 0 i.size y (wf_or hr himm)) (fun _ _ ⟨he, q, hw⟩ => ⟨(.int .i64 (I (getR (B (orR r i.a i.imm)) 0 i.size))), he, hw ▸ SM.grow ((Grow.refl _).drewN q), rfl⟩)) ?_
    refine each_cons (fun x y hS hT hk => d_assign (wn rfl) (hk 8 rfl) ⟨SM.refl _, rfl⟩) ?_
    exact each_nil
  intro f28 a29 w30 hS31 hC32 hA33
  have hA34 : St 32 [(6, (.int .i64 (I (getR (B (orR r i.a i.imm)) 0 i.size))))] a29 := hA33.cut _ (fm_cons ((hA33.get 6 _ rfl).trans (hC32 9 (Nat.le_of_ble_eq_true rfl))) fm_nil)
  have m35 := m10.sm hS31 hM26
  have m36 := m7.sm hS31 hM27
  have b37 := hS31.below b11 b11.size hM25B
  refine t_norm ?_
  refine wp_ret ?_
  refine ret1 rfl hA34 (v := (.int .i64 (I (getR (B (orR r i.a i.imm)) 0 i.size)))) rfl ?_
  exact ⟨rfl, b37⟩
set_option maxHeartbeats 4000000 in
set_option maxRecDepth 4000 in
theorem written_6 (g : Nat) (p : Int) (r : Nat → Int) (rd ev pa : Value) (i : Ins) (k : Nat) (o : Int) (w : World) (hb : Blk w g (walkC p r rd ev pa) 62) (hr : ∀ k, wfI (r k)) (ho : wfI o) (hk : k < 8) : Calls Try.prog 59 #[.pointer (some ⟨g, 0, none⟩), .agg (insC ⟨6, i.dst, ((k : Nat) : Int), i.b, i.imm, i.loc, i.off, i.index, i.size, i.fn, i.acq, i.weak, i.rel, i.pred, i.succ, i.to, i.zero⟩), .int .i64 o] w fun e w' => e = .returned (.int .i64 (I (rmwR i.fn (B o) (B (r k)) i.size))) ∧ Grow w w' := by
  have b0 : Below w.heap.size w w := Below.refl _ _
  refine enter (n := 32) Try.func59 rfl rfl (Nat.le_of_ble_eq_true rfl) ?_
  intro a1 hA2
  refine wp_seq ?_
  refine wp_region_lit ?_
  refine q_step hA2 rfl (d_box (wn rfl) (hA2.ev (v := (.agg (insC ⟨6, i.dst, ((k : Nat) : Int), i.b, i.imm, i.loc, i.off, i.index, i.size, i.fn, i.acq, i.weak, i.rel, i.pred, i.succ, i.to, i.zero⟩))) rfl) ?_)
  intro g3 w4 eg5 hG6 (m7 : Blk w4 g3 (insC ⟨6, i.dst, ((k : Nat) : Int), i.b, i.imm, i.loc, i.off, i.index, i.size, i.fn, i.acq, i.weak, i.rel, i.pred, i.succ, i.to, i.zero⟩) 23)
  have ge8 : w.heap.size ≤ g3 := eg5 ▸ b0.size
  have n9 : g ≠ g3 := fun h => Nat.lt_irrefl _ ((h.trans eg5) ▸ hb.lt)
  have m10 := hb.grow hG6
  have b11 := below_grow b0 hG6 b0.size
  intro a12 hA13
  refine q_step hA13 rfl (d_assign (wn rfl) (hA13.ev (v := (.int .i64 0)) rfl) ?_)
  intro a14 hA15
  refine q_end ?_
  have hA16 : St 32 [(0, (.pointer (some ⟨g, 0, none⟩))), (2, (.int .i64 o)), (4, (.pointer (some ⟨g3, 0, none⟩))), (6, (.int .i64 0))] a14 := hA15.cut _ (fm_cons (hA15.get 0 _ rfl) (fm_cons (hA15.get 2 _ rfl) (fm_cons (hA15.get 4 _ rfl) (fm_cons (hA15.get 6 _ rfl) fm_nil))))
  refine t_norm ?_
  refine wp_seq ?_
  refine wp_seq ?_
  refine wp_region_lit ?_
  refine q_step hA16 rfl (d_fieldAddr (wn rfl) (hA16.ev (v := (.pointer (some ⟨g3, 0, none⟩))) rfl) fo23_0 ?_)
  intro a17 hA18
  refine q_step hA18 rfl (d_load (v := (.int .i64 6)) (wn rfl) (hA18.ev (v := (.pointer (some ⟨g3, 0, none⟩))) rfl) one3 (m7.cell rfl) ?_)
  intro a19 hA20
  refine q_step hA20 rfl (d_bin (wn rfl) (hA20.ev (v := (.int .i64 6)) rfl) (hA20.ev (v := (.int .i64 6)) rfl) (b_eq _ _ 6 6 true _ rfl) ?_)
  intro a21 hA22
  refine q_end ?_
  have hA23 : St 32 [(0, (.pointer (some ⟨g, 0, none⟩))), (2, (.int .i64 o)), (4, (.pointer (some ⟨g3, 0, none⟩))), (6, (.int .i64 0)), (9, (.bool true))] a21 := hA22.cut _ (fm_cons (hA22.get 0 _ rfl) (fm_cons (hA22.get 2 _ rfl) (fm_cons (hA22.get 4 _ rfl) (fm_cons (hA22.get 6 _ rfl) (fm_cons (hA22.get 9 _ rfl) fm_nil)))))
  refine t_norm ?_
  refine c_true hA23 rfl ?_
  refine wp_seq ?_
  have hA24 : St 32 [(0, (.pointer (some ⟨g, 0, none⟩))), (2, (.int .i64 o)), (4, (.pointer (some ⟨g3, 0, none⟩)))] a21 := hA23.cut _ (fm_cons (hA23.get 0 _ rfl) (fm_cons (hA23.get 2 _ rfl) (fm_cons (hA23.get 4 _ rfl) fm_nil)))
  let M25 : Nat → Option (Array Value) := fun _ => none
  have hM25 : M25 = fun _ => none := rfl
  clear_value M25
  have hM26 : M25 g = none := (congrFun hM25 g)
  have hM27 : M25 g3 = none := (congrFun hM25 g3)
  have hM25B : ∀ k, k < w.heap.size → M25 k = none := (fun k hk => (congrFun hM25 k))
  refine drawn (S := SM M25) (tabL [cv (.pointer (some ⟨g3, 9, none⟩)), cv (.int .i64 i.fn), cv (.int .i64 o), cv (.pointer (some ⟨g, 0, none⟩)), cv (.pointer (some ⟨g3, 2, none⟩)), cv (.int .i64 ((k : Nat) : Int)), cv (.pointer (some ⟨g, 0, none⟩)), cv (.pointer (some ⟨g, 1, none⟩)), cv (.pointer (some ⟨g, 1 + k, none⟩)), cv (.int .i64 (r k)), cv (.pointer (some ⟨g3, 8, none⟩)), cv (.int .i64 i.size), cv (.int .i64 (I (rmwR i.fn (B o) (B (r k)) i.size))), cv (.int .i64 (I (rmwR i.fn (B o) (B (r k)) i.size)))]) mixedY SM.refl SM.trans SM.drew hA24 (by kernel_rfl) ?_ ?_
  · skip
    refine each_cons (fun x y hS hT hk => d_fieldAddr (wn rfl) (hT.ev (v := (.pointer (some ⟨g3, 0, none⟩))) rfl) fo23_9 ⟨SM.refl _, rfl⟩) ?_
    refine each_cons (fun x y hS hT hk => d_load (v := (.int .i64 i.fn)) (wn rfl) (hk 0 rfl) one3 ((Blk.sm (w := w4.drew) m7 hS hM27).cell rfl) ⟨SM.refl _, rfl⟩) ?_
    refine each_cons (fun x y hS hT hk => d_move (wn rfl) (hT.ev (v := (.int .i64 o)) rfl) ⟨SM.refl _, rfl⟩) ?_
    refine each_cons (fun x y hS hT hk => d_move (wn rfl) (hT.ev (v := (.pointer (some ⟨g, 0, none⟩))) rfl) ⟨SM.refl _, rfl⟩) ?_
    refine each_cons (fun x y hS hT hk => d_fieldAddr (wn rfl) (hT.ev (v := (.pointer (some ⟨g3, 0, none⟩))) rfl) fo23_2 ⟨SM.refl _, rfl⟩) ?_
    refine each_cons (fun x y hS hT hk => d_load (v := (.int .i64 ((k : Nat) : Int))) (wn rfl) (hk 4 rfl) one3 ((Blk.sm (w := w4.drew) m7 hS hM27).cell rfl) ⟨SM.refl _, rfl⟩) ?_
    refine each_cons (fun x y hS hT hk => d_nilCheck (wn rfl) (hk 3 rfl) ⟨SM.refl _, rfl⟩) ?_
    refine each_cons (fun x y hS hT hk => d_fieldAddr (wn rfl) (hk 6 rfl) fo62_1 ⟨SM.refl _, rfl⟩) ?_
    refine each_cons (fun x y hS hT hk => d_indexArrP (j := k) (p := 1 + k) (wn rfl) (hk 7 rfl) (hk 5 rfl) arr43 (by omega) (by omega) ⟨SM.refl _, rfl⟩) ?_
    refine each_cons (fun x y hS hT hk => d_load (v := (.int .i64 (r k))) (wn rfl) (hk 8 rfl) one3 ((Blk.sm (w := w4.drew) m10 hS hM26).cell (walk_get (by omega))) ⟨SM.refl _, rfl⟩) ?_
    refine each_cons (fun x y hS hT hk => d_fieldAddr (wn rfl) (hT.ev (v := (.pointer (some ⟨g3, 0, none⟩))) rfl) fo23_8 ⟨SM.refl _, rfl⟩) ?_
    refine each_cons (fun x y hS hT hk => d_load (v := (.int .i64 i.size)) (wn rfl) (hk 10 rfl) one3 ((Blk.sm (w := w4.drew) m7 hS hM27).cell rfl) ⟨SM.refl _, rfl⟩) ?_
    refine each_cons (fun x y hS hT hk => d_call (wn rfl) ent67 (map4 (show x.eval _ = (.int .i64 i.fn) from (hk 1 rfl)) (show x.eval _ = (.int .i64 o) from (hk 2 rfl)) (show x.eval _ = (.int .i64 (r k)) from (hk 9 rfl)) (show x.eval _ = (.int .i64 i.size) from (hk 11 rfl))) (rmw_w i.fn o (r k) i.size y ho (hr k)) (fun _ _ ⟨he, q, hw⟩ => ⟨(.int .i64 (I (rmwR i.fn (B o) (B (r k)) i.size))), he, hw ▸ SM.grow ((Grow.refl _).drewN q), rfl⟩)) ?_
    refine each_cons (fun x y hS hT hk => d_assign (wn rfl) (hk 12 rfl) ⟨SM.refl _, rfl⟩) ?_
    exact each_nil
  intro f28 a29 w30 hS31 hC32 hA33
  have hA34 : St 32 [(0, (.pointer (some ⟨g, 0, none⟩))), (4, (.pointer (some ⟨g3, 0, none⟩))), (6, (.int .i64 (I (rmwR i.fn (B o) (B (r k)) i.size))))] a29 := hA33.cut _ (fm_cons (hA33.get 0 _ rfl) (fm_cons (hA33.get 4 _ rfl) (fm_cons ((hA33.get 6 _ rfl).trans (hC32 13 (Nat.le_of_ble_eq_true rfl))) fm_nil)))
  have m35 := m10.sm hS31 hM26
  have m36 := m7.sm hS31 hM27
  have b37 := hS31.below b11 b11.size hM25B
  refine t_norm ?_
  refine wp_ret ?_
  refine t_ret ?_
  refine ret1 rfl hA34 (v := (.int .i64 (I (rmwR i.fn (B o) (B (r k)) i.size)))) rfl ?_
  exact ⟨rfl, b37⟩
end Go.Proofs.Ytlhompedcphnnaa
