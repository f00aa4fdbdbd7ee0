/- UirRight returns true. -/
import Derived.Test.YtlhompedcphnnaaURig0
namespace Go.Proofs.Ytlhompedcphnnaa
open Go.RowKit
set_option linter.unusedSimpArgs false
set_option linter.unusedVariables false
theorem ent12 : ((Try.prog.funcs[12]?).map fun fn => (fn.name == "runtime.NumGoroutine", fn.body.isNone)) = some (false, false) := by kernel_rfl
theorem ent14 : ((Try.prog.funcs[14]?).map fun fn => (fn.name == "runtime.NumGoroutine", fn.body.isNone)) = some (false, false) := by kernel_rfl
theorem ent15 : ((Try.prog.funcs[15]?).map fun fn => (fn.name == "runtime.NumGoroutine", fn.body.isNone)) = some (false, false) := by kernel_rfl
theorem ent16 : ((Try.prog.funcs[16]?).map fun fn => (fn.name == "runtime.NumGoroutine", fn.body.isNone)) = some (false, false) := by kernel_rfl
theorem ent17 : ((Try.prog.funcs[17]?).map fun fn => (fn.name == "runtime.NumGoroutine", fn.body.isNone)) = some (false, false) := by kernel_rfl
theorem ent19 : ((Try.prog.funcs[19]?).map fun fn => (fn.name == "runtime.NumGoroutine", fn.body.isNone)) = some (false, false) := by kernel_rfl
theorem ent8 : ((Try.prog.funcs[8]?).map fun fn => (fn.name == "runtime.NumGoroutine", fn.body.isNone)) = some (false, false) := by kernel_rfl
set_option maxHeartbeats 4000000 in
set_option maxRecDepth 4000 in
theorem right_law (i : Ins) (p q : Int) (w : World) : Calls Try.prog 3 #[.agg (insC i), .int .i64 p, .int .i64 q] w fun e w' => e = .returned (.bool true) ∧ Grow w w' := by
  have b0 : Below w.heap.size w w := Below.refl _ _
  refine enter (n := 47) Try.func3 rfl rfl (Nat.le_of_ble_eq_true rfl) ?_
  intro a1 hA2
  refine wp_seq ?_
  refine wp_region_lit ?_
  refine q_step hA2 rfl (d_box (wn rfl) (hA2.ev (v := (.agg (insC i))) rfl) ?_)
  intro g3 w4 eg5 hG6 (m7 : Blk w4 g3 (insC i) 23)
  have ge8 : w.heap.size ≤ g3 := eg5 ▸ b0.size
  have b9 := below_grow b0 hG6 b0.size
  intro a10 hA11
  refine q_step hA11 rfl (d_assign (wn rfl) (hA11.ev (v := (.bool false)) rfl) ?_)
  intro a12 hA13
  refine q_end ?_
  have hA14 : St 47 [(1, (.int .i64 p)), (2, (.int .i64 q)), (3, (.pointer (some ⟨g3, 0, none⟩))), (6, (.bool false))] a12 := hA13.cut _ (fm_cons (hA13.get 1 _ rfl) (fm_cons (hA13.get 2 _ rfl) (fm_cons (hA13.get 3 _ rfl) (fm_cons (hA13.get 6 _ rfl) fm_nil))))
  refine t_norm ?_
  refine wp_seq ?_
  rcases Bool.eq_false_or_eq_true (rdB i) with hb15 | hb15
  · skip
    rcases Bool.eq_false_or_eq_true (wrB i) with hb17 | hb17
    · skip
      have hA19 : St 47 [(1, (.int .i64 p)), (2, (.int .i64 q)), (3, (.pointer (some ⟨g3, 0, none⟩)))] a12 := hA14.cut _ (fm_cons (hA14.get 1 _ rfl) (fm_cons (hA14.get 2 _ rfl) (fm_cons (hA14.get 3 _ rfl) fm_nil)))
      let M20 : Nat → Option (Array Value) := fun _ => none
      have hM20 : M20 = fun _ => none := rfl
      clear_value M20
      have hM21 : M20 g3 = none := (congrFun hM20 g3)
      have hM20B : ∀ k, k < w.heap.size → M20 k = none := (fun k hk => (congrFun hM20 k))
      refine drawn (S := SM M20) (tabL [cv (.bool true), cv (.bool true), cv (.agg (insC i)), cv (.int .i64 p), cv (.int .i64 q), cv (.int .i64 (rightR i p q)), cv (.agg (insC i)), cv (.int .i64 p), cv (.int .i64 q), cv (.int .i64 (rightR i p q)), cv (.bool true), cv (.bool true), cv (.bool true), cv (.agg (insC i)), cv (.bool true), cv (.agg (insC i)), cv (.bool true), cv (.bool true), cv (.bool true), cv (.bool true), cv (.agg (insC i)), cv (.bool true), cv (.agg (insC i)), cv (.bool true), cv (.bool true), cv (.bool true), cv (.bool true), cv (.agg (insC i)), cu M20 (fun k => congrFun hM20 k) (useF i), cv (.agg (insC i)), cu M20 (fun k => congrFun hM20 k) (useF i), cv (.bool true), cv (.bool true), cv (.bool true), cv (.agg (insC i)), cv (.int .i64 (givesF i)), cv (.agg (insC i)), cv (.int .i64 (givesF i)), cv (.bool true), cv (.bool true), cv (.bool true)]) mixedY SM.refl SM.trans SM.drew hA19 (by kernel_rfl) ?_ ?_
      · skip
        refine each_cons (fun x y hS hT hk => d_call (wn rfl) ent8 (map0) (able_any y) (fun _ _ ⟨he, hG⟩ => ⟨(.bool true), he, SM.grow hG, rfl⟩)) ?_
        refine each_cons (fun x y hS hT hk => d_move (wn rfl) (hk 0 rfl) ⟨SM.refl _, rfl⟩) ?_
        refine each_cons (fun x y hS hT hk => d_loadRow (cs := (insC i)) (wy rfl rfl (hk 1 rfl)) (hT.ev (v := (.pointer (some ⟨g3, 0, none⟩))) rfl) row23 (Blk.sm (w := w4.drew) m7 hS hM21) ⟨SM.refl _, rfl⟩) ?_
        refine each_cons (fun x y hS hT hk => d_move (wy rfl rfl (hk 1 rfl)) (hT.ev (v := (.int .i64 p)) rfl) ⟨SM.refl _, rfl⟩) ?_
        refine each_cons (fun x y hS hT hk => d_move (wy rfl rfl (hk 1 rfl)) (hT.ev (v := (.int .i64 q)) rfl) ⟨SM.refl _, rfl⟩) ?_
        refine each_cons (fun x y hS hT hk => d_call (wy rfl rfl (hk 1 rfl)) ent9 (map3 (show x.eval _ = (.agg (insC i)) from (hk 2 rfl)) (show x.eval _ = (.int .i64 p) from (hk 3 rfl)) (show x.eval _ = (.int .i64 q) from (hk 4 rfl))) (right_any i p q y) (fun _ _ ⟨he, hG⟩ => ⟨(.int .i64 (rightR i p q)), he, SM.grow hG, rfl⟩)) ?_
        refine each_cons (fun x y hS hT hk => d_loadRow (cs := (insC i)) (wy rfl rfl (hk 1 rfl)) (hT.ev (v := (.pointer (some ⟨g3, 0, none⟩))) rfl) row23 (Blk.sm (w := w4.drew) m7 hS hM21) ⟨SM.refl _, rfl⟩) ?_
        refine each_cons (fun x y hS hT hk => d_move (wy rfl rfl (hk 1 rfl)) (hT.ev (v := (.int .i64 p)) rfl) ⟨SM.refl _, rfl⟩) ?_
        refine each_cons (fun x y hS hT hk => d_move (wy rfl rfl (hk 1 rfl)) (hT.ev (v := (.int .i64 q)) rfl) ⟨SM.refl _, rfl⟩) ?_
        refine each_cons (fun x y hS hT hk => d_call (wy rfl rfl (hk 1 rfl)) ent10 (map3 (show x.eval _ = (.agg (insC i)) from (hk 6 rfl)) (show x.eval _ = (.int .i64 p) from (hk 7 rfl)) (show x.eval _ = (.int .i64 q) from (hk 8 rfl))) (rright_any i p q y) (fun _ _ ⟨he, hG⟩ => ⟨(.int .i64 (rightR i p q)), he, SM.grow hG, rfl⟩)) ?_
        refine each_cons (fun x y hS hT hk => d_bin (wy rfl rfl (hk 1 rfl)) (hk 5 rfl) (hk 9 rfl) (b_eq _ _ (rightR i p q) (rightR i p q) true _ (beq_self_eq_true _)) ⟨SM.refl _, rfl⟩) ?_
        refine each_cons (fun x y hS hT hk => d_pickT (wn rfl) (hk 1 rfl) (hk 10 rfl) ⟨SM.refl _, rfl⟩) ?_
        refine each_cons (fun x y hS hT hk => d_move (wn rfl) (hk 11 rfl) ⟨SM.refl _, rfl⟩) ?_
        refine each_cons (fun x y hS hT hk => d_loadRow (cs := (insC i)) (wy rfl rfl (hk 12 rfl)) (hT.ev (v := (.pointer (some ⟨g3, 0, none⟩))) rfl) row23 (Blk.sm (w := w4.drew) m7 hS hM21) ⟨SM.refl _, rfl⟩) ?_
        refine each_cons (fun x y hS hT hk => d_call (wy rfl rfl (hk 12 rfl)) ent11 (map1 (show x.eval _ = (.agg (insC i)) from (hk 13 rfl))) (reads_any i y) (fun _ _ ⟨he, hG⟩ => ⟨(.bool true), (he.trans (ret_bool hb15)), SM.grow hG, rfl⟩)) ?_
        refine each_cons (fun x y hS hT hk => d_loadRow (cs := (insC i)) (wy rfl rfl (hk 12 rfl)) (hT.ev (v := (.pointer (some ⟨g3, 0, none⟩))) rfl) row23 (Blk.sm (w := w4.drew) m7 hS hM21) ⟨SM.refl _, rfl⟩) ?_
        refine each_cons (fun x y hS hT hk => d_call (wy rfl rfl (hk 12 rfl)) ent12 (map1 (show x.eval _ = (.agg (insC i)) from (hk 15 rfl))) (rreads_any i y) (fun _ _ ⟨he, hG⟩ => ⟨(.bool true), (he.trans (ret_bool hb15)), SM.grow hG, rfl⟩)) ?_
        refine each_cons (fun x y hS hT hk => d_bin (wy rfl rfl (hk 12 rfl)) (hk 14 rfl) (hk 16 rfl) (b_eqb _ _ true true true _ Try.underlying4 rfl) ⟨SM.refl _, rfl⟩) ?_
        refine each_cons (fun x y hS hT hk => d_pickT (wn rfl) (hk 12 rfl) (hk 17 rfl) ⟨SM.refl _, rfl⟩) ?_
        refine each_cons (fun x y hS hT hk => d_move (wn rfl) (hk 18 rfl) ⟨SM.refl _, rfl⟩) ?_
        refine each_cons (fun x y hS hT hk => d_loadRow (cs := (insC i)) (wy rfl rfl (hk 19 rfl)) (hT.ev (v := (.pointer (some ⟨g3, 0, none⟩))) rfl) row23 (Blk.sm (w := w4.drew) m7 hS hM21) ⟨SM.refl _, rfl⟩) ?_
        refine each_cons (fun x y hS hT hk => d_call (wy rfl rfl (hk 19 rfl)) ent13 (map1 (show x.eval _ = (.agg (insC i)) from (hk 20 rfl))) (writes_any i y) (fun _ _ ⟨he, hG⟩ => ⟨(.bool true), (he.trans (ret_bool hb17)), SM.grow hG, rfl⟩)) ?_
        refine each_cons (fun x y hS hT hk => d_loadRow (cs := (insC i)) (wy rfl rfl (hk 19 rfl)) (hT.ev (v := (.pointer (some ⟨g3, 0, none⟩))) rfl) row23 (Blk.sm (w := w4.drew) m7 hS hM21) ⟨SM.refl _, rfl⟩) ?_
        refine each_cons (fun x y hS hT hk => d_call (wy rfl rfl (hk 19 rfl)) ent14 (map1 (show x.eval _ = (.agg (insC i)) from (hk 22 rfl))) (rwrites_any i y) (fun _ _ ⟨he, hG⟩ => ⟨(.bool true), (he.trans (ret_bool hb17)), SM.grow hG, rfl⟩)) ?_
        refine each_cons (fun x y hS hT hk => d_bin (wy rfl rfl (hk 19 rfl)) (hk 21 rfl) (hk 23 rfl) (b_eqb _ _ true true true _ Try.underlying4 rfl) ⟨SM.refl _, rfl⟩) ?_
        refine each_cons (fun x y hS hT hk => d_pickT (wn rfl) (hk 19 rfl) (hk 24 rfl) ⟨SM.refl _, rfl⟩) ?_
        refine each_cons (fun x y hS hT hk => d_move (wn rfl) (hk 25 rfl) ⟨SM.refl _, rfl⟩) ?_
        refine each_cons (fun x y hS hT hk => d_loadRow (cs := (insC i)) (wy rfl rfl (hk 26 rfl)) (hT.ev (v := (.pointer (some ⟨g3, 0, none⟩))) rfl) row23 (Blk.sm (w := w4.drew) m7 hS hM21) ⟨SM.refl _, rfl⟩) ?_
        refine each_cons (fun x y hS hT hk => d_call (wy rfl rfl (hk 26 rfl)) ent16 (map1 (show x.eval _ = (.agg (insC i)) from (hk 27 rfl))) (uses_any i y) (fun _ _ ⟨v, he, hG, ho⟩ => ⟨v, he, SM.grow hG, _, ho⟩)) ?_
        refine each_cons (fun x y hS hT hk => d_loadRow (cs := (insC i)) (wy rfl rfl (hk 26 rfl)) (hT.ev (v := (.pointer (some ⟨g3, 0, none⟩))) rfl) row23 (Blk.sm (w := w4.drew) m7 hS hM21) ⟨SM.refl _, rfl⟩) ?_
        refine each_cons (fun x y hS hT hk => d_call (wy rfl rfl (hk 26 rfl)) ent17 (map1 (show x.eval _ = (.agg (insC i)) from (hk 29 rfl))) (ruses_any i y) (fun _ _ ⟨v, he, hG, ho⟩ => ⟨v, he, SM.grow hG, _, ho⟩)) ?_
        refine each_cons (fun x y hS hT hk => d_call (wy rfl rfl (hk 26 rfl)) ent15 (map2 (show x.eval _ = x.tmps.getD 35 undef from rfl) (show x.eval _ = x.tmps.getD 37 undef from rfl)) (ints_any (useF i) (useF i) _ _ y (cu_sl (hk 28 rfl)) (cu_sl (hk 30 rfl)) (use_le i)) (fun _ _ ⟨he, hG⟩ => ⟨.bool true, he.trans (ret_bool (decide_eq_true rfl)), SM.grow hG, rfl⟩)) ?_
        refine each_cons (fun x y hS hT hk => d_pickT (wn rfl) (hk 26 rfl) (hk 31 rfl) ⟨SM.refl _, rfl⟩) ?_
        refine each_cons (fun x y hS hT hk => d_move (wn rfl) (hk 32 rfl) ⟨SM.refl _, rfl⟩) ?_
        refine each_cons (fun x y hS hT hk => d_loadRow (cs := (insC i)) (wy rfl rfl (hk 33 rfl)) (hT.ev (v := (.pointer (some ⟨g3, 0, none⟩))) rfl) row23 (Blk.sm (w := w4.drew) m7 hS hM21) ⟨SM.refl _, rfl⟩) ?_
        refine each_cons (fun x y hS hT hk => d_call (wy rfl rfl (hk 33 rfl)) ent18 (map1 (show x.eval _ = (.agg (insC i)) from (hk 34 rfl))) (gives_any i y) (fun _ _ ⟨he, hG⟩ => ⟨(.int .i64 (givesF i)), he, SM.grow hG, rfl⟩)) ?_
        refine each_cons (fun x y hS hT hk => d_loadRow (cs := (insC i)) (wy rfl rfl (hk 33 rfl)) (hT.ev (v := (.pointer (some ⟨g3, 0, none⟩))) rfl) row23 (Blk.sm (w := w4.drew) m7 hS hM21) ⟨SM.refl _, rfl⟩) ?_
        refine each_cons (fun x y hS hT hk => d_call (wy rfl rfl (hk 33 rfl)) ent19 (map1 (show x.eval _ = (.agg (insC i)) from (hk 36 rfl))) (rgives_any i y) (fun _ _ ⟨he, hG⟩ => ⟨(.int .i64 (givesF i)), he, SM.grow hG, rfl⟩)) ?_
        refine each_cons (fun x y hS hT hk => d_bin (wy rfl rfl (hk 33 rfl)) (hk 35 rfl) (hk 37 rfl) (b_eq _ _ (givesF i) (givesF i) true _ (beq_self_eq_true _)) ⟨SM.refl _, rfl⟩) ?_
        refine each_cons (fun x y hS hT hk => d_pickT (wn rfl) (hk 33 rfl) (hk 38 rfl) ⟨SM.refl _, rfl⟩) ?_
        refine each_cons (fun x y hS hT hk => d_assign (wn rfl) (hk 39 rfl) ⟨SM.refl _, rfl⟩) ?_
        exact each_nil
      intro f22 a23 w24 hS25 hC26 hA27
      have hA28 : St 47 [(6, (.bool true))] a23 := hA27.cut _ (fm_cons ((hA27.get 6 _ rfl).trans (hC26 40 (Nat.le_of_ble_eq_true rfl))) fm_nil)
      have m29 := m7.sm hS25 hM21
      have b30 := hS25.below b9 b9.size hM20B
      refine t_norm ?_
      refine wp_ret ?_
      refine ret1 rfl hA28 (v := (.bool true)) rfl ?_
      exact ⟨rfl, b30⟩
    · skip
      have hA32 : St 47 [(1, (.int .i64 p)), (2, (.int .i64 q)), (3, (.pointer (some ⟨g3, 0, none⟩)))] a12 := hA14.cut _ (fm_cons (hA14.get 1 _ rfl) (fm_cons (hA14.get 2 _ rfl) (fm_cons (hA14.get 3 _ rfl) fm_nil)))
      let M33 : Nat → Option (Array Value) := fun _ => none
      have hM33 : M33 = fun _ => none := rfl
      clear_value M33
      have hM34 : M33 g3 = none := (congrFun hM33 g3)
      have hM33B : ∀ k, k < w.heap.size → M33 k = none := (fun k hk => (congrFun hM33 k))
      refine drawn (S := SM M33) (tabL [cv (.bool true), cv (.bool true), cv (.agg (insC i)), cv (.int .i64 p), cv (.int .i64 q), cv (.int .i64 (rightR i p q)), cv (.agg (insC i)), cv (.int .i64 p), cv (.int .i64 q), cv (.int .i64 (rightR i p q)), cv (.bool true), cv (.bool true), cv (.bool true), cv (.agg (insC i)), cv (.bool true), cv (.agg (insC i)), cv (.bool true), cv (.bool true), cv (.bool true), cv (.bool true), cv (.agg (insC i)), cv (.bool false), cv (.agg (insC i)), cv (.bool false), cv (.bool true), cv (.bool true), cv (.bool true), cv (.agg (insC i)), cu M33 (fun k => congrFun hM33 k) (useF i), cv (.agg (insC i)), cu M33 (fun k => congrFun hM33 k) (useF i), cv (.bool true), cv (.bool true), cv (.bool true), cv (.agg (insC i)), cv (.int .i64 (givesF i)), cv (.agg (insC i)), cv (.int .i64 (givesF i)), cv (.bool true), cv (.bool true), cv (.bool true)]) mixedY SM.refl SM.trans SM.drew hA32 (by kernel_rfl) ?_ ?_
      · skip
        refine each_cons (fun x y hS hT hk => d_call (wn rfl) ent8 (map0) (able_any y) (fun _ _ ⟨he, hG⟩ => ⟨(.bool true), he, SM.grow hG, rfl⟩)) ?_
        refine each_cons (fun x y hS hT hk => d_move (wn rfl) (hk 0 rfl) ⟨SM.refl _, rfl⟩) ?_
        refine each_cons (fun x y hS hT hk => d_loadRow (cs := (insC i)) (wy rfl rfl (hk 1 rfl)) (hT.ev (v := (.pointer (some ⟨g3, 0, none⟩))) rfl) row23 (Blk.sm (w := w4.drew) m7 hS hM34) ⟨SM.refl _, rfl⟩) ?_
        refine each_cons (fun x y hS hT hk => d_move (wy rfl rfl (hk 1 rfl)) (hT.ev (v := (.int .i64 p)) rfl) ⟨SM.refl _, rfl⟩) ?_
        refine each_cons (fun x y hS hT hk => d_move (wy rfl rfl (hk 1 rfl)) (hT.ev (v := (.int .i64 q)) rfl) ⟨SM.refl _, rfl⟩) ?_
        refine each_cons (fun x y hS hT hk => d_call (wy rfl rfl (hk 1 rfl)) ent9 (map3 (show x.eval _ = (.agg (insC i)) from (hk 2 rfl)) (show x.eval _ = (.int .i64 p) from (hk 3 rfl)) (show x.eval _ = (.int .i64 q) from (hk 4 rfl))) (right_any i p q y) (fun _ _ ⟨he, hG⟩ => ⟨(.int .i64 (rightR i p q)), he, SM.grow hG, rfl⟩)) ?_
        refine each_cons (fun x y hS hT hk => d_loadRow (cs := (insC i)) (wy rfl rfl (hk 1 rfl)) (hT.ev (v := (.pointer (some ⟨g3, 0, none⟩))) rfl) row23 (Blk.sm (w := w4.drew) m7 hS hM34) ⟨SM.refl _, rfl⟩) ?_
        refine each_cons (fun x y hS hT hk => d_move (wy rfl rfl (hk 1 rfl)) (hT.ev (v := (.int .i64 p)) rfl) ⟨SM.refl _, rfl⟩) ?_
        refine each_cons (fun x y hS hT hk => d_move (wy rfl rfl (hk 1 rfl)) (hT.ev (v := (.int .i64 q)) rfl) ⟨SM.refl _, rfl⟩) ?_
        refine each_cons (fun x y hS hT hk => d_call (wy rfl rfl (hk 1 rfl)) ent10 (map3 (show x.eval _ = (.agg (insC i)) from (hk 6 rfl)) (show x.eval _ = (.int .i64 p) from (hk 7 rfl)) (show x.eval _ = (.int .i64 q) from (hk 8 rfl))) (rright_any i p q y) (fun _ _ ⟨he, hG⟩ => ⟨(.int .i64 (rightR i p q)), he, SM.grow hG, rfl⟩)) ?_
        refine each_cons (fun x y hS hT hk => d_bin (wy rfl rfl (hk 1 rfl)) (hk 5 rfl) (hk 9 rfl) (b_eq _ _ (rightR i p q) (rightR i p q) true _ (beq_self_eq_true _)) ⟨SM.refl _, rfl⟩) ?_
        refine each_cons (fun x y hS hT hk => d_pickT (wn rfl) (hk 1 rfl) (hk 10 rfl) ⟨SM.refl _, rfl⟩) ?_
        refine each_cons (fun x y hS hT hk => d_move (wn rfl) (hk 11 rfl) ⟨SM.refl _, rfl⟩) ?_
        refine each_cons (fun x y hS hT hk => d_loadRow (cs := (insC i)) (wy rfl rfl (hk 12 rfl)) (hT.ev (v := (.pointer (some ⟨g3, 0, none⟩))) rfl) row23 (Blk.sm (w := w4.drew) m7 hS hM34) ⟨SM.refl _, rfl⟩) ?_
        refine each_cons (fun x y hS hT hk => d_call (wy rfl rfl (hk 12 rfl)) ent11 (map1 (show x.eval _ = (.agg (insC i)) from (hk 13 rfl))) (reads_any i y) (fun _ _ ⟨he, hG⟩ => ⟨(.bool true), (he.trans (ret_bool hb15)), SM.grow hG, rfl⟩)) ?_
        refine each_cons (fun x y hS hT hk => d_loadRow (cs := (insC i)) (wy rfl rfl (hk 12 rfl)) (hT.ev (v := (.pointer (some ⟨g3, 0, none⟩))) rfl) row23 (Blk.sm (w := w4.drew) m7 hS hM34) ⟨SM.refl _, rfl⟩) ?_
        refine each_cons (fun x y hS hT hk => d_call (wy rfl rfl (hk 12 rfl)) ent12 (map1 (show x.eval _ = (.agg (insC i)) from (hk 15 rfl))) (rreads_any i y) (fun _ _ ⟨he, hG⟩ => ⟨(.bool true), (he.trans (ret_bool hb15)), SM.grow hG, rfl⟩)) ?_
        refine each_cons (fun x y hS hT hk => d_bin (wy rfl rfl (hk 12 rfl)) (hk 14 rfl) (hk 16 rfl) (b_eqb _ _ true true true _ Try.underlying4 rfl) ⟨SM.refl _, rfl⟩) ?_
        refine each_cons (fun x y hS hT hk => d_pickT (wn rfl) (hk 12 rfl) (hk 17 rfl) ⟨SM.refl _, rfl⟩) ?_
        refine each_cons (fun x y hS hT hk => d_move (wn rfl) (hk 18 rfl) ⟨SM.refl _, rfl⟩) ?_
        refine each_cons (fun x y hS hT hk => d_loadRow (cs := (insC i)) (wy rfl rfl (hk 19 rfl)) (hT.ev (v := (.pointer (some ⟨g3, 0, none⟩))) rfl) row23 (Blk.sm (w := w4.drew) m7 hS hM34) ⟨SM.refl _, rfl⟩) ?_
        refine each_cons (fun x y hS hT hk => d_call (wy rfl rfl (hk 19 rfl)) ent13 (map1 (show x.eval _ = (.agg (insC i)) from (hk 20 rfl))) (writes_any i y) (fun _ _ ⟨he, hG⟩ => ⟨(.bool false), (he.trans (ret_bool hb17)), SM.grow hG, rfl⟩)) ?_
        refine each_cons (fun x y hS hT hk => d_loadRow (cs := (insC i)) (wy rfl rfl (hk 19 rfl)) (hT.ev (v := (.pointer (some ⟨g3, 0, none⟩))) rfl) row23 (Blk.sm (w := w4.drew) m7 hS hM34) ⟨SM.refl _, rfl⟩) ?_
        refine each_cons (fun x y hS hT hk => d_call (wy rfl rfl (hk 19 rfl)) ent14 (map1 (show x.eval _ = (.agg (insC i)) from (hk 22 rfl))) (rwrites_any i y) (fun _ _ ⟨he, hG⟩ => ⟨(.bool false), (he.trans (ret_bool hb17)), SM.grow hG, rfl⟩)) ?_
        refine each_cons (fun x y hS hT hk => d_bin (wy rfl rfl (hk 19 rfl)) (hk 21 rfl) (hk 23 rfl) (b_eqb _ _ false false true _ Try.underlying4 rfl) ⟨SM.refl _, rfl⟩) ?_
        refine each_cons (fun x y hS hT hk => d_pickT (wn rfl) (hk 19 rfl) (hk 24 rfl) ⟨SM.refl _, rfl⟩) ?_
        refine each_cons (fun x y hS hT hk => d_move (wn rfl) (hk 25 rfl) ⟨SM.refl _, rfl⟩) ?_
        refine each_cons (fun x y hS hT hk => d_loadRow (cs := (insC i)) (wy rfl rfl (hk 26 rfl)) (hT.ev (v := (.pointer (some ⟨g3, 0, none⟩))) rfl) row23 (Blk.sm (w := w4.drew) m7 hS hM34) ⟨SM.refl _, rfl⟩) ?_
        refine each_cons (fun x y hS hT hk => d_call (wy rfl rfl (hk 26 rfl)) ent16 (map1 (show x.eval _ = (.agg (insC i)) from (hk 27 rfl))) (uses_any i y) (fun _ _ ⟨v, he, hG, ho⟩ => ⟨v, he, SM.grow hG, _, ho⟩)) ?_
        refine each_cons (fun x y hS hT hk => d_loadRow (cs := (insC i)) (wy rfl rfl (hk 26 rfl)) (hT.ev (v := (.pointer (some ⟨g3, 0, none⟩))) rfl) row23 (Blk.sm (w := w4.drew) m7 hS hM34) ⟨SM.refl _, rfl⟩) ?_
        refine each_cons (fun x y hS hT hk => d_call (wy rfl rfl (hk 26 rfl)) ent17 (map1 (show x.eval _ = (.agg (insC i)) from (hk 29 rfl))) (ruses_any i y) (fun _ _ ⟨v, he, hG, ho⟩ => ⟨v, he, SM.grow hG, _, ho⟩)) ?_
        refine each_cons (fun x y hS hT hk => d_call (wy rfl rfl (hk 26 rfl)) ent15 (map2 (show x.eval _ = x.tmps.getD 35 undef from rfl) (show x.eval _ = x.tmps.getD 37 undef from rfl)) (ints_any (useF i) (useF i) _ _ y (cu_sl (hk 28 rfl)) (cu_sl (hk 30 rfl)) (use_le i)) (fun _ _ ⟨he, hG⟩ => ⟨.bool true, he.trans (ret_bool (decide_eq_true rfl)), SM.grow hG, rfl⟩)) ?_
        refine each_cons (fun x y hS hT hk => d_pickT (wn rfl) (hk 26 rfl) (hk 31 rfl) ⟨SM.refl _, rfl⟩) ?_
        refine each_cons (fun x y hS hT hk => d_move (wn rfl) (hk 32 rfl) ⟨SM.refl _, rfl⟩) ?_
        refine each_cons (fun x y hS hT hk => d_loadRow (cs := (insC i)) (wy rfl rfl (hk 33 rfl)) (hT.ev (v := (.pointer (some ⟨g3, 0, none⟩))) rfl) row23 (Blk.sm (w := w4.drew) m7 hS hM34) ⟨SM.refl _, rfl⟩) ?_
        refine each_cons (fun x y hS hT hk => d_call (wy rfl rfl (hk 33 rfl)) ent18 (map1 (show x.eval _ = (.agg (insC i)) from (hk 34 rfl))) (gives_any i y) (fun _ _ ⟨he, hG⟩ => ⟨(.int .i64 (givesF i)), he, SM.grow hG, rfl⟩)) ?_
        refine each_cons (fun x y hS hT hk => d_loadRow (cs := (insC i)) (wy rfl rfl (hk 33 rfl)) (hT.ev (v := (.pointer (some ⟨g3, 0, none⟩))) rfl) row23 (Blk.sm (w := w4.drew) m7 hS hM34) ⟨SM.refl _, rfl⟩) ?_
        refine each_cons (fun x y hS hT hk => d_call (wy rfl rfl (hk 33 rfl)) ent19 (map1 (show x.eval _ = (.agg (insC i)) from (hk 36 rfl))) (rgives_any i y) (fun _ _ ⟨he, hG⟩ => ⟨(.int .i64 (givesF i)), he, SM.grow hG, rfl⟩)) ?_
        refine each_cons (fun x y hS hT hk => d_bin (wy rfl rfl (hk 33 rfl)) (hk 35 rfl) (hk 37 rfl) (b_eq _ _ (givesF i) (givesF i) true _ (beq_self_eq_true _)) ⟨SM.refl _, rfl⟩) ?_
        refine each_cons (fun x y hS hT hk => d_pickT (wn rfl) (hk 33 rfl) (hk 38 rfl) ⟨SM.refl _, rfl⟩) ?_
        refine each_cons (fun x y hS hT hk => d_assign (wn rfl) (hk 39 rfl) ⟨SM.refl _, rfl⟩) ?_
        exact each_nil
      intro f35 a36 w37 hS38 hC39 hA40
      have hA41 : St 47 [(6, (.bool true))] a36 := hA40.cut _ (fm_cons ((hA40.get 6 _ rfl).trans (hC39 40 (Nat.le_of_ble_eq_true rfl))) fm_nil)
      have m42 := m7.sm hS38 hM34
      have b43 := hS38.below b9 b9.size hM33B
      refine t_norm ?_
      refine wp_ret ?_
      refine ret1 rfl hA41 (v := (.bool true)) rfl ?_
      exact ⟨rfl, b43⟩
  · skip
    rcases Bool.eq_false_or_eq_true (wrB i) with hb45 | hb45
    · skip
      have hA47 : St 47 [(1, (.int .i64 p)), (2, (.int .i64 q)), (3, (.pointer (some ⟨g3, 0, none⟩)))] a12 := hA14.cut _ (fm_cons (hA14.get 1 _ rfl) (fm_cons (hA14.get 2 _ rfl) (fm_cons (hA14.get 3 _ rfl) fm_nil)))
      let M48 : Nat → Option (Array Value) := fun _ => none
      have hM48 : M48 = fun _ => none := rfl
      clear_value M48
      have hM49 : M48 g3 = none := (congrFun hM48 g3)
      have hM48B : ∀ k, k < w.heap.size → M48 k = none := (fun k hk => (congrFun hM48 k))
      refine drawn (S := SM M48) (tabL [cv (.bool true), cv (.bool true), cv (.agg (insC i)), cv (.int .i64 p), cv (.int .i64 q), cv (.int .i64 (rightR i p q)), cv (.agg (insC i)), cv (.int .i64 p), cv (.int .i64 q), cv (.int .i64 (rightR i p q)), cv (.bool true), cv (.bool true), cv (.bool true), cv (.agg (insC i)), cv (.bool false), cv (.agg (insC i)), cv (.bool false), cv (.bool true), cv (.bool true), cv (.bool true), cv (.agg (insC i)), cv (.bool true), cv (.agg (insC i)), cv (.bool true), cv (.bool true), cv (.bool true), cv (.bool true), cv (.agg (insC i)), cu M48 (fun k => congrFun hM48 k) (useF i), cv (.agg (insC i)), cu M48 (fun k => congrFun hM48 k) (useF i), cv (.bool true), cv (.bool true), cv (.bool true), cv (.agg (insC i)), cv (.int .i64 (givesF i)), cv (.agg (insC i)), cv (.int .i64 (givesF i)), cv (.bool true), cv (.bool true), cv (.bool true)]) mixedY SM.refl SM.trans SM.drew hA47 (by kernel_rfl) ?_ ?_
      · skip
        refine each_cons (fun x y hS hT hk => d_call (wn rfl) ent8 (map0) (able_any y) (fun _ _ ⟨he, hG⟩ => ⟨(.bool true), he, SM.grow hG, rfl⟩)) ?_
        refine each_cons (fun x y hS hT hk => d_move (wn rfl) (hk 0 rfl) ⟨SM.refl _, rfl⟩) ?_
        refine each_cons (fun x y hS hT hk => d_loadRow (cs := (insC i)) (wy rfl rfl (hk 1 rfl)) (hT.ev (v := (.pointer (some ⟨g3, 0, none⟩))) rfl) row23 (Blk.sm (w := w4.drew) m7 hS hM49) ⟨SM.refl _, rfl⟩) ?_
        refine each_cons (fun x y hS hT hk => d_move (wy rfl rfl (hk 1 rfl)) (hT.ev (v := (.int .i64 p)) rfl) ⟨SM.refl _, rfl⟩) ?_
        refine each_cons (fun x y hS hT hk => d_move (wy rfl rfl (hk 1 rfl)) (hT.ev (v := (.int .i64 q)) rfl) ⟨SM.refl _, rfl⟩) ?_
        refine each_cons (fun x y hS hT hk => d_call (wy rfl rfl (hk 1 rfl)) ent9 (map3 (show x.eval _ = (.agg (insC i)) from (hk 2 rfl)) (show x.eval _ = (.int .i64 p) from (hk 3 rfl)) (show x.eval _ = (.int .i64 q) from (hk 4 rfl))) (right_any i p q y) (fun _ _ ⟨he, hG⟩ => ⟨(.int .i64 (rightR i p q)), he, SM.grow hG, rfl⟩)) ?_
        refine each_cons (fun x y hS hT hk => d_loadRow (cs := (insC i)) (wy rfl rfl (hk 1 rfl)) (hT.ev (v := (.pointer (some ⟨g3, 0, none⟩))) rfl) row23 (Blk.sm (w := w4.drew) m7 hS hM49) ⟨SM.refl _, rfl⟩) ?_
        refine each_cons (fun x y hS hT hk => d_move (wy rfl rfl (hk 1 rfl)) (hT.ev (v := (.int .i64 p)) rfl) ⟨SM.refl _, rfl⟩) ?_
        refine each_cons (fun x y hS hT hk => d_move (wy rfl rfl (hk 1 rfl)) (hT.ev (v := (.int .i64 q)) rfl) ⟨SM.refl _, rfl⟩) ?_
        refine each_cons (fun x y hS hT hk => d_call (wy rfl rfl (hk 1 rfl)) ent10 (map3 (show x.eval _ = (.agg (insC i)) from (hk 6 rfl)) (show x.eval _ = (.int .i64 p) from (hk 7 rfl)) (show x.eval _ = (.int .i64 q) from (hk 8 rfl))) (rright_any i p q y) (fun _ _ ⟨he, hG⟩ => ⟨(.int .i64 (rightR i p q)), he, SM.grow hG, rfl⟩)) ?_
        refine each_cons (fun x y hS hT hk => d_bin (wy rfl rfl (hk 1 rfl)) (hk 5 rfl) (hk 9 rfl) (b_eq _ _ (rightR i p q) (rightR i p q) true _ (beq_self_eq_true _)) ⟨SM.refl _, rfl⟩) ?_
        refine each_cons (fun x y hS hT hk => d_pickT (wn rfl) (hk 1 rfl) (hk 10 rfl) ⟨SM.refl _, rfl⟩) ?_
        refine each_cons (fun x y hS hT hk => d_move (wn rfl) (hk 11 rfl) ⟨SM.refl _, rfl⟩) ?_
        refine each_cons (fun x y hS hT hk => d_loadRow (cs := (insC i)) (wy rfl rfl (hk 12 rfl)) (hT.ev (v := (.pointer (some ⟨g3, 0, none⟩))) rfl) row23 (Blk.sm (w := w4.drew) m7 hS hM49) ⟨SM.refl _, rfl⟩) ?_
        refine each_cons (fun x y hS hT hk => d_call (wy rfl rfl (hk 12 rfl)) ent11 (map1 (show x.eval _ = (.agg (insC i)) from (hk 13 rfl))) (reads_any i y) (fun _ _ ⟨he, hG⟩ => ⟨(.bool false), (he.trans (ret_bool hb15)), SM.grow hG, rfl⟩)) ?_
        refine each_cons (fun x y hS hT hk => d_loadRow (cs := (insC i)) (wy rfl rfl (hk 12 rfl)) (hT.ev (v := (.pointer (some ⟨g3, 0, none⟩))) rfl) row23 (Blk.sm (w := w4.drew) m7 hS hM49) ⟨SM.refl _, rfl⟩) ?_
        refine each_cons (fun x y hS hT hk => d_call (wy rfl rfl (hk 12 rfl)) ent12 (map1 (show x.eval _ = (.agg (insC i)) from (hk 15 rfl))) (rreads_any i y) (fun _ _ ⟨he, hG⟩ => ⟨(.bool false), (he.trans (ret_bool hb15)), SM.grow hG, rfl⟩)) ?_
        refine each_cons (fun x y hS hT hk => d_bin (wy rfl rfl (hk 12 rfl)) (hk 14 rfl) (hk 16 rfl) (b_eqb _ _ false false true _ Try.underlying4 rfl) ⟨SM.refl _, rfl⟩) ?_
        refine each_cons (fun x y hS hT hk => d_pickT (wn rfl) (hk 12 rfl) (hk 17 rfl) ⟨SM.refl _, rfl⟩) ?_
        refine each_cons (fun x y hS hT hk => d_move (wn rfl) (hk 18 rfl) ⟨SM.refl _, rfl⟩) ?_
        refine each_cons (fun x y hS hT hk => d_loadRow (cs := (insC i)) (wy rfl rfl (hk 19 rfl)) (hT.ev (v := (.pointer (some ⟨g3, 0, none⟩))) rfl) row23 (Blk.sm (w := w4.drew) m7 hS hM49) ⟨SM.refl _, rfl⟩) ?_
        refine each_cons (fun x y hS hT hk => d_call (wy rfl rfl (hk 19 rfl)) ent13 (map1 (show x.eval _ = (.agg (insC i)) from (hk 20 rfl))) (writes_any i y) (fun _ _ ⟨he, hG⟩ => ⟨(.bool true), (he.trans (ret_bool hb45)), SM.grow hG, rfl⟩)) ?_
        refine each_cons (fun x y hS hT hk => d_loadRow (cs := (insC i)) (wy rfl rfl (hk 19 rfl)) (hT.ev (v := (.pointer (some ⟨g3, 0, none⟩))) rfl) row23 (Blk.sm (w := w4.drew) m7 hS hM49) ⟨SM.refl _, rfl⟩) ?_
        refine each_cons (fun x y hS hT hk => d_call (wy rfl rfl (hk 19 rfl)) ent14 (map1 (show x.eval _ = (.agg (insC i)) from (hk 22 rfl))) (rwrites_any i y) (fun _ _ ⟨he, hG⟩ => ⟨(.bool true), (he.trans (ret_bool hb45)), SM.grow hG, rfl⟩)) ?_
        refine each_cons (fun x y hS hT hk => d_bin (wy rfl rfl (hk 19 rfl)) (hk 21 rfl) (hk 23 rfl) (b_eqb _ _ true true true _ Try.underlying4 rfl) ⟨SM.refl _, rfl⟩) ?_
        refine each_cons (fun x y hS hT hk => d_pickT (wn rfl) (hk 19 rfl) (hk 24 rfl) ⟨SM.refl _, rfl⟩) ?_
        refine each_cons (fun x y hS hT hk => d_move (wn rfl) (hk 25 rfl) ⟨SM.refl _, rfl⟩) ?_
        refine each_cons (fun x y hS hT hk => d_loadRow (cs := (insC i)) (wy rfl rfl (hk 26 rfl)) (hT.ev (v := (.pointer (some ⟨g3, 0, none⟩))) rfl) row23 (Blk.sm (w := w4.drew) m7 hS hM49) ⟨SM.refl _, rfl⟩) ?_
        refine each_cons (fun x y hS hT hk => d_call (wy rfl rfl (hk 26 rfl)) ent16 (map1 (show x.eval _ = (.agg (insC i)) from (hk 27 rfl))) (uses_any i y) (fun _ _ ⟨v, he, hG, ho⟩ => ⟨v, he, SM.grow hG, _, ho⟩)) ?_
        refine each_cons (fun x y hS hT hk => d_loadRow (cs := (insC i)) (wy rfl rfl (hk 26 rfl)) (hT.ev (v := (.pointer (some ⟨g3, 0, none⟩))) rfl) row23 (Blk.sm (w := w4.drew) m7 hS hM49) ⟨SM.refl _, rfl⟩) ?_
        refine each_cons (fun x y hS hT hk => d_call (wy rfl rfl (hk 26 rfl)) ent17 (map1 (show x.eval _ = (.agg (insC i)) from (hk 29 rfl))) (ruses_any i y) (fun _ _ ⟨v, he, hG, ho⟩ => ⟨v, he, SM.grow hG, _, ho⟩)) ?_
        refine each_cons (fun x y hS hT hk => d_call (wy rfl rfl (hk 26 rfl)) ent15 (map2 (show x.eval _ = x.tmps.getD 35 undef from rfl) (show x.eval _ = x.tmps.getD 37 undef from rfl)) (ints_any (useF i) (useF i) _ _ y (cu_sl (hk 28 rfl)) (cu_sl (hk 30 rfl)) (use_le i)) (fun _ _ ⟨he, hG⟩ => ⟨.bool true, he.trans (ret_bool (decide_eq_true rfl)), SM.grow hG, rfl⟩)) ?_
        refine each_cons (fun x y hS hT hk => d_pickT (wn rfl) (hk 26 rfl) (hk 31 rfl) ⟨SM.refl _, rfl⟩) ?_
        refine each_cons (fun x y hS hT hk => d_move (wn rfl) (hk 32 rfl) ⟨SM.refl _, rfl⟩) ?_
        refine each_cons (fun x y hS hT hk => d_loadRow (cs := (insC i)) (wy rfl rfl (hk 33 rfl)) (hT.ev (v := (.pointer (some ⟨g3, 0, none⟩))) rfl) row23 (Blk.sm (w := w4.drew) m7 hS hM49) ⟨SM.refl _, rfl⟩) ?_
        refine each_cons (fun x y hS hT hk => d_call (wy rfl rfl (hk 33 rfl)) ent18 (map1 (show x.eval _ = (.agg (insC i)) from (hk 34 rfl))) (gives_any i y) (fun _ _ ⟨he, hG⟩ => ⟨(.int .i64 (givesF i)), he, SM.grow hG, rfl⟩)) ?_
        refine each_cons (fun x y hS hT hk => d_loadRow (cs := (insC i)) (wy rfl rfl (hk 33 rfl)) (hT.ev (v := (.pointer (some ⟨g3, 0, none⟩))) rfl) row23 (Blk.sm (w := w4.drew) m7 hS hM49) ⟨SM.refl _, rfl⟩) ?_
        refine each_cons (fun x y hS hT hk => d_call (wy rfl rfl (hk 33 rfl)) ent19 (map1 (show x.eval _ = (.agg (insC i)) from (hk 36 rfl))) (rgives_any i y) (fun _ _ ⟨he, hG⟩ => ⟨(.int .i64 (givesF i)), he, SM.grow hG, rfl⟩)) ?_
        refine each_cons (fun x y hS hT hk => d_bin (wy rfl rfl (hk 33 rfl)) (hk 35 rfl) (hk 37 rfl) (b_eq _ _ (givesF i) (givesF i) true _ (beq_self_eq_true _)) ⟨SM.refl _, rfl⟩) ?_
        refine each_cons (fun x y hS hT hk => d_pickT (wn rfl) (hk 33 rfl) (hk 38 rfl) ⟨SM.refl _, rfl⟩) ?_
        refine each_cons (fun x y hS hT hk => d_assign (wn rfl) (hk 39 rfl) ⟨SM.refl _, rfl⟩) ?_
        exact each_nil
      intro f50 a51 w52 hS53 hC54 hA55
      have hA56 : St 47 [(6, (.bool true))] a51 := hA55.cut _ (fm_cons ((hA55.get 6 _ rfl).trans (hC54 40 (Nat.le_of_ble_eq_true rfl))) fm_nil)
      have m57 := m7.sm hS53 hM49
      have b58 := hS53.below b9 b9.size hM48B
      refine t_norm ?_
      refine wp_ret ?_
      refine ret1 rfl hA56 (v := (.bool true)) rfl ?_
      exact ⟨rfl, b58⟩
    · skip
      have hA60 : St 47 [(1, (.int .i64 p)), (2, (.int .i64 q)), (3, (.pointer (some ⟨g3, 0, none⟩)))] a12 := hA14.cut _ (fm_cons (hA14.get 1 _ rfl) (fm_cons (hA14.get 2 _ rfl) (fm_cons (hA14.get 3 _ rfl) fm_nil)))
      let M61 : Nat → Option (Array Value) := fun _ => none
      have hM61 : M61 = fun _ => none := rfl
      clear_value M61
      have hM62 : M61 g3 = none := (congrFun hM61 g3)
      have hM61B : ∀ k, k < w.heap.size → M61 k = none := (fun k hk => (congrFun hM61 k))
      refine drawn (S := SM M61) (tabL [cv (.bool true), cv (.bool true), cv (.agg (insC i)), cv (.int .i64 p), cv (.int .i64 q), cv (.int .i64 (rightR i p q)), cv (.agg (insC i)), cv (.int .i64 p), cv (.int .i64 q), cv (.int .i64 (rightR i p q)), cv (.bool true), cv (.bool true), cv (.bool true), cv (.agg (insC i)), cv (.bool false), cv (.agg (insC i)), cv (.bool false), cv (.bool true), cv (.bool true), cv (.bool true), cv (.agg (insC i)), cv (.bool false), cv (.agg (insC i)), cv (.bool false), cv (.bool true), cv (.bool true), cv (.bool true), cv (.agg (insC i)), cu M61 (fun k => congrFun hM61 k) (useF i), cv (.agg (insC i)), cu M61 (fun k => congrFun hM61 k) (useF i), cv (.bool true), cv (.bool true), cv (.bool true), cv (.agg (insC i)), cv (.int .i64 (givesF i)), cv (.agg (insC i)), cv (.int .i64 (givesF i)), cv (.bool true), cv (.bool true), cv (.bool true)]) mixedY SM.refl SM.trans SM.drew hA60 (by kernel_rfl) ?_ ?_
      · skip
        refine each_cons (fun x y hS hT hk => d_call (wn rfl) ent8 (map0) (able_any y) (fun _ _ ⟨he, hG⟩ => ⟨(.bool true), he, SM.grow hG, rfl⟩)) ?_
        refine each_cons (fun x y hS hT hk => d_move (wn rfl) (hk 0 rfl) ⟨SM.refl _, rfl⟩) ?_
        refine each_cons (fun x y hS hT hk => d_loadRow (cs := (insC i)) (wy rfl rfl (hk 1 rfl)) (hT.ev (v := (.pointer (some ⟨g3, 0, none⟩))) rfl) row23 (Blk.sm (w := w4.drew) m7 hS hM62) ⟨SM.refl _, rfl⟩) ?_
        refine each_cons (fun x y hS hT hk => d_move (wy rfl rfl (hk 1 rfl)) (hT.ev (v := (.int .i64 p)) rfl) ⟨SM.refl _, rfl⟩) ?_
        refine each_cons (fun x y hS hT hk => d_move (wy rfl rfl (hk 1 rfl)) (hT.ev (v := (.int .i64 q)) rfl) ⟨SM.refl _, rfl⟩) ?_
        refine each_cons (fun x y hS hT hk => d_call (wy rfl rfl (hk 1 rfl)) ent9 (map3 (show x.eval _ = (.agg (insC i)) from (hk 2 rfl)) (show x.eval _ = (.int .i64 p) from (hk 3 rfl)) (show x.eval _ = (.int .i64 q) from (hk 4 rfl))) (right_any i p q y) (fun _ _ ⟨he, hG⟩ => ⟨(.int .i64 (rightR i p q)), he, SM.grow hG, rfl⟩)) ?_
        refine each_cons (fun x y hS hT hk => d_loadRow (cs := (insC i)) (wy rfl rfl (hk 1 rfl)) (hT.ev (v := (.pointer (some ⟨g3, 0, none⟩))) rfl) row23 (Blk.sm (w := w4.drew) m7 hS hM62) ⟨SM.refl _, rfl⟩) ?_
        refine each_cons (fun x y hS hT hk => d_move (wy rfl rfl (hk 1 rfl)) (hT.ev (v := (.int .i64 p)) rfl) ⟨SM.refl _, rfl⟩) ?_
        refine each_cons (fun x y hS hT hk => d_move (wy rfl rfl (hk 1 rfl)) (hT.ev (v := (.int .i64 q)) rfl) ⟨SM.refl _, rfl⟩) ?_
        refine each_cons (fun x y hS hT hk => d_call (wy rfl rfl (hk 1 rfl)) ent10 (map3 (show x.eval _ = (.agg (insC i)) from (hk 6 rfl)) (show x.eval _ = (.int .i64 p) from (hk 7 rfl)) (show x.eval _ = (.int .i64 q) from (hk 8 rfl))) (rright_any i p q y) (fun _ _ ⟨he, hG⟩ => ⟨(.int .i64 (rightR i p q)), he, SM.grow hG, rfl⟩)) ?_
        refine each_cons (fun x y hS hT hk => d_bin (wy rfl rfl (hk 1 rfl)) (hk 5 rfl) (hk 9 rfl) (b_eq _ _ (rightR i p q) (rightR i p q) true _ (beq_self_eq_true _)) ⟨SM.refl _, rfl⟩) ?_
        refine each_cons (fun x y hS hT hk => d_pickT (wn rfl) (hk 1 rfl) (hk 10 rfl) ⟨SM.refl _, rfl⟩) ?_
        refine each_cons (fun x y hS hT hk => d_move (wn rfl) (hk 11 rfl) ⟨SM.refl _, rfl⟩) ?_
        refine each_cons (fun x y hS hT hk => d_loadRow (cs := (insC i)) (wy rfl rfl (hk 12 rfl)) (hT.ev (v := (.pointer (some ⟨g3, 0, none⟩))) rfl) row23 (Blk.sm (w := w4.drew) m7 hS hM62) ⟨SM.refl _, rfl⟩) ?_
        refine each_cons (fun x y hS hT hk => d_call (wy rfl rfl (hk 12 rfl)) ent11 (map1 (show x.eval _ = (.agg (insC i)) from (hk 13 rfl))) (reads_any i y) (fun _ _ ⟨he, hG⟩ => ⟨(.bool false), (he.trans (ret_bool hb15)), SM.grow hG, rfl⟩)) ?_
        refine each_cons (fun x y hS hT hk => d_loadRow (cs := (insC i)) (wy rfl rfl (hk 12 rfl)) (hT.ev (v := (.pointer (some ⟨g3, 0, none⟩))) rfl) row23 (Blk.sm (w := w4.drew) m7 hS hM62) ⟨SM.refl _, rfl⟩) ?_
        refine each_cons (fun x y hS hT hk => d_call (wy rfl rfl (hk 12 rfl)) ent12 (map1 (show x.eval _ = (.agg (insC i)) from (hk 15 rfl))) (rreads_any i y) (fun _ _ ⟨he, hG⟩ => ⟨(.bool false), (he.trans (ret_bool hb15)), SM.grow hG, rfl⟩)) ?_
        refine each_cons (fun x y hS hT hk => d_bin (wy rfl rfl (hk 12 rfl)) (hk 14 rfl) (hk 16 rfl) (b_eqb _ _ false false true _ Try.underlying4 rfl) ⟨SM.refl _, rfl⟩) ?_
        refine each_cons (fun x y hS hT hk => d_pickT (wn rfl) (hk 12 rfl) (hk 17 rfl) ⟨SM.refl _, rfl⟩) ?_
        refine each_cons (fun x y hS hT hk => d_move (wn rfl) (hk 18 rfl) ⟨SM.refl _, rfl⟩) ?_
        refine each_cons (fun x y hS hT hk => d_loadRow (cs := (insC i)) (wy rfl rfl (hk 19 rfl)) (hT.ev (v := (.pointer (some ⟨g3, 0, none⟩))) rfl) row23 (Blk.sm (w := w4.drew) m7 hS hM62) ⟨SM.refl _, rfl⟩) ?_
        refine each_cons (fun x y hS hT hk => d_call (wy rfl rfl (hk 19 rfl)) ent13 (map1 (show x.eval _ = (.agg (insC i)) from (hk 20 rfl))) (writes_any i y) (fun _ _ ⟨he, hG⟩ => ⟨(.bool false), (he.trans (ret_bool hb45)), SM.grow hG, rfl⟩)) ?_
        refine each_cons (fun x y hS hT hk => d_loadRow (cs := (insC i)) (wy rfl rfl (hk 19 rfl)) (hT.ev (v := (.pointer (some ⟨g3, 0, none⟩))) rfl) row23 (Blk.sm (w := w4.drew) m7 hS hM62) ⟨SM.refl _, rfl⟩) ?_
        refine each_cons (fun x y hS hT hk => d_call (wy rfl rfl (hk 19 rfl)) ent14 (map1 (show x.eval _ = (.agg (insC i)) from (hk 22 rfl))) (rwrites_any i y) (fun _ _ ⟨he, hG⟩ => ⟨(.bool false), (he.trans (ret_bool hb45)), SM.grow hG, rfl⟩)) ?_
        refine each_cons (fun x y hS hT hk => d_bin (wy rfl rfl (hk 19 rfl)) (hk 21 rfl) (hk 23 rfl) (b_eqb _ _ false false true _ Try.underlying4 rfl) ⟨SM.refl _, rfl⟩) ?_
        refine each_cons (fun x y hS hT hk => d_pickT (wn rfl) (hk 19 rfl) (hk 24 rfl) ⟨SM.refl _, rfl⟩) ?_
        refine each_cons (fun x y hS hT hk => d_move (wn rfl) (hk 25 rfl) ⟨SM.refl _, rfl⟩) ?_
        refine each_cons (fun x y hS hT hk => d_loadRow (cs := (insC i)) (wy rfl rfl (hk 26 rfl)) (hT.ev (v := (.pointer (some ⟨g3, 0, none⟩))) rfl) row23 (Blk.sm (w := w4.drew) m7 hS hM62) ⟨SM.refl _, rfl⟩) ?_
        refine each_cons (fun x y hS hT hk => d_call (wy rfl rfl (hk 26 rfl)) ent16 (map1 (show x.eval _ = (.agg (insC i)) from (hk 27 rfl))) (uses_any i y) (fun _ _ ⟨v, he, hG, ho⟩ => ⟨v, he, SM.grow hG, _, ho⟩)) ?_
        refine each_cons (fun x y hS hT hk => d_loadRow (cs := (insC i)) (wy rfl rfl (hk 26 rfl)) (hT.ev (v := (.pointer (some ⟨g3, 0, none⟩))) rfl) row23 (Blk.sm (w := w4.drew) m7 hS hM62) ⟨SM.refl _, rfl⟩) ?_
        refine each_cons (fun x y hS hT hk => d_call (wy rfl rfl (hk 26 rfl)) ent17 (map1 (show x.eval _ = (.agg (insC i)) from (hk 29 rfl))) (ruses_any i y) (fun _ _ ⟨v, he, hG, ho⟩ => ⟨v, he, SM.grow hG, _, ho⟩)) ?_
        refine each_cons (fun x y hS hT hk => d_call (wy rfl rfl (hk 26 rfl)) ent15 (map2 (show x.eval _ = x.tmps.getD 35 undef from rfl) (show x.eval _ = x.tmps.getD 37 undef from rfl)) (ints_any (useF i) (useF i) _ _ y (cu_sl (hk 28 rfl)) (cu_sl (hk 30 rfl)) (use_le i)) (fun _ _ ⟨he, hG⟩ => ⟨.bool true, he.trans (ret_bool (decide_eq_true rfl)), SM.grow hG, rfl⟩)) ?_
        refine each_cons (fun x y hS hT hk => d_pickT (wn rfl) (hk 26 rfl) (hk 31 rfl) ⟨SM.refl _, rfl⟩) ?_
        refine each_cons (fun x y hS hT hk => d_move (wn rfl) (hk 32 rfl) ⟨SM.refl _, rfl⟩) ?_
        refine each_cons (fun x y hS hT hk => d_loadRow (cs := (insC i)) (wy rfl rfl (hk 33 rfl)) (hT.ev (v := (.pointer (some ⟨g3, 0, none⟩))) rfl) row23 (Blk.sm (w := w4.drew) m7 hS hM62) ⟨SM.refl _, rfl⟩) ?_
        refine each_cons (fun x y hS hT hk => d_call (wy rfl rfl (hk 33 rfl)) ent18 (map1 (show x.eval _ = (.agg (insC i)) from (hk 34 rfl))) (gives_any i y) (fun _ _ ⟨he, hG⟩ => ⟨(.int .i64 (givesF i)), he, SM.grow hG, rfl⟩)) ?_
        refine each_cons (fun x y hS hT hk => d_loadRow (cs := (insC i)) (wy rfl rfl (hk 33 rfl)) (hT.ev (v := (.pointer (some ⟨g3, 0, none⟩))) rfl) row23 (Blk.sm (w := w4.drew) m7 hS hM62) ⟨SM.refl _, rfl⟩) ?_
        refine each_cons (fun x y hS hT hk => d_call (wy rfl rfl (hk 33 rfl)) ent19 (map1 (show x.eval _ = (.agg (insC i)) from (hk 36 rfl))) (rgives_any i y) (fun _ _ ⟨he, hG⟩ => ⟨(.int .i64 (givesF i)), he, SM.grow hG, rfl⟩)) ?_
        refine each_cons (fun x y hS hT hk => d_bin (wy rfl rfl (hk 33 rfl)) (hk 35 rfl) (hk 37 rfl) (b_eq _ _ (givesF i) (givesF i) true _ (beq_self_eq_true _)) ⟨SM.refl _, rfl⟩) ?_
        refine each_cons (fun x y hS hT hk => d_pickT (wn rfl) (hk 33 rfl) (hk 38 rfl) ⟨SM.refl _, rfl⟩) ?_
        refine each_cons (fun x y hS hT hk => d_assign (wn rfl) (hk 39 rfl) ⟨SM.refl _, rfl⟩) ?_
        exact each_nil
      intro f63 a64 w65 hS66 hC67 hA68
      have hA69 : St 47 [(6, (.bool true))] a64 := hA68.cut _ (fm_cons ((hA68.get 6 _ rfl).trans (hC67 40 (Nat.le_of_ble_eq_true rfl))) fm_nil)
      have m70 := m7.sm hS66 hM62
      have b71 := hS66.below b9 b9.size hM61B
      refine t_norm ?_
      refine wp_ret ?_
      refine ret1 rfl hA69 (v := (.bool true)) rfl ?_
      exact ⟨rfl, b71⟩
end Go.Proofs.Ytlhompedcphnnaa
