/- What a register holds. -/
import Derived.Test.YtlhompedcphnnaaUFacts3
namespace Go.Proofs.Ytlhompedcphnnaa
open Go.RowKit
set_option linter.unusedSimpArgs false
set_option linter.unusedVariables false
set_option maxHeartbeats 4000000 in
set_option maxRecDepth 4000 in
theorem regOr_none (g : Nat) (p : Int) (r : Nat → Int) (rd ev pa : Value) (x : Int) (w : World) (hb : Blk w g (walkC p r rd ev pa) 62) : Calls Try.prog 47 #[.pointer (some ⟨g, 0, none⟩), .int .i64 (-1), .int .i64 x] w fun e w' => e = .returned (.int .i64 x) ∧ Grow w w' := by
  have b0 : Below w.heap.size w w := Below.refl _ _
  refine enter (n := 16) Try.func47 rfl rfl (Nat.le_of_ble_eq_true rfl) ?_
  intro a1 hA2
  refine wp_seq ?_
  refine wp_region_lit ?_
  refine q_step hA2 rfl (d_assign (wn rfl) (hA2.ev (v := (.int .i64 0)) rfl) ?_)
  intro a3 hA4
  refine q_end ?_
  have hA5 : St 16 [(0, (.pointer (some ⟨g, 0, none⟩))), (1, (.int .i64 (-1))), (2, (.int .i64 x)), (6, (.int .i64 0))] a3 := hA4.cut _ (fm_cons (hA4.get 0 _ rfl) (fm_cons (hA4.get 1 _ rfl) (fm_cons (hA4.get 2 _ rfl) (fm_cons (hA4.get 6 _ rfl) fm_nil))))
  refine t_norm ?_
  refine wp_seq ?_
  refine wp_seq ?_
  refine wp_region_lit ?_
  refine q_step hA5 rfl (d_move (wn rfl) (hA5.ev (v := (.int .i64 (-1))) rfl) ?_)
  intro a6 hA7
  refine q_step hA7 rfl (d_bin (wn rfl) (hA7.ev (v := (.int .i64 (-1))) rfl) (hA7.ev (v := (.int .i64 (-1))) rfl) (b_eq _ _ (-1) (-1) true _ rfl) ?_)
  intro a8 hA9
  refine q_end ?_
  have hA10 : St 16 [(0, (.pointer (some ⟨g, 0, none⟩))), (1, (.int .i64 (-1))), (2, (.int .i64 x)), (6, (.int .i64 0)), (8, (.bool true))] a8 := hA9.cut _ (fm_cons (hA9.get 0 _ rfl) (fm_cons (hA9.get 1 _ rfl) (fm_cons (hA9.get 2 _ rfl) (fm_cons (hA9.get 6 _ rfl) (fm_cons (hA9.get 8 _ rfl) fm_nil)))))
  refine t_norm ?_
  refine c_true hA10 rfl ?_
  refine wp_seq ?_
  refine wp_region_lit ?_
  refine q_step hA10 rfl (d_move (wn rfl) (hA10.ev (v := (.int .i64 x)) rfl) ?_)
  intro a11 hA12
  refine q_step hA12 rfl (d_assign (wn rfl) (hA12.ev (v := (.int .i64 x)) rfl) ?_)
  intro a13 hA14
  refine q_end ?_
  have hA15 : St 16 [(0, (.pointer (some ⟨g, 0, none⟩))), (1, (.int .i64 (-1))), (6, (.int .i64 x))] a13 := hA14.cut _ (fm_cons (hA14.get 0 _ rfl) (fm_cons (hA14.get 1 _ rfl) (fm_cons (hA14.get 6 _ rfl) fm_nil)))
  refine t_norm ?_
  refine wp_ret ?_
  refine t_ret ?_
  refine ret1 rfl hA15 (v := (.int .i64 x)) rfl ?_
  exact ⟨rfl, b0⟩
set_option maxHeartbeats 4000000 in
set_option maxRecDepth 4000 in
theorem regOr_reg (g : Nat) (p : Int) (r : Nat → Int) (rd ev pa : Value) (j : Nat) (x : Int) (w : World) (hb : Blk w g (walkC p r rd ev pa) 62) (hj : j < 8) : Calls Try.prog 47 #[.pointer (some ⟨g, 0, none⟩), .int .i64 ((j : Nat) : Int), .int .i64 x] w fun e w' => e = .returned (.int .i64 (r j)) ∧ Grow w w' := by
  have b0 : Below w.heap.size w w := Below.refl _ _
  refine enter (n := 16) Try.func47 rfl rfl (Nat.le_of_ble_eq_true rfl) ?_
  intro a1 hA2
  refine wp_seq ?_
  refine wp_region_lit ?_
  refine q_step hA2 rfl (d_assign (wn rfl) (hA2.ev (v := (.int .i64 0)) rfl) ?_)
  intro a3 hA4
  refine q_end ?_
  have hA5 : St 16 [(0, (.pointer (some ⟨g, 0, none⟩))), (1, (.int .i64 ((j : Nat) : Int))), (2, (.int .i64 x)), (6, (.int .i64 0))] a3 := hA4.cut _ (fm_cons (hA4.get 0 _ rfl) (fm_cons (hA4.get 1 _ rfl) (fm_cons (hA4.get 2 _ rfl) (fm_cons (hA4.get 6 _ rfl) fm_nil))))
  refine t_norm ?_
  refine wp_seq ?_
  refine wp_seq ?_
  refine wp_region_lit ?_
  refine q_step hA5 rfl (d_move (wn rfl) (hA5.ev (v := (.int .i64 ((j : Nat) : Int))) rfl) ?_)
  intro a6 hA7
  refine q_step hA7 rfl (d_bin (wn rfl) (hA7.ev (v := (.int .i64 ((j : Nat) : Int))) rfl) (hA7.ev (v := (.int .i64 (-1))) rfl) (b_eq _ _ ((j : Nat) : Int) (-1) false _ (by simp)) ?_)
  intro a8 hA9
  refine q_end ?_
  have hA10 : St 16 [(0, (.pointer (some ⟨g, 0, none⟩))), (1, (.int .i64 ((j : Nat) : Int))), (2, (.int .i64 x)), (6, (.int .i64 0)), (8, (.bool false))] a8 := hA9.cut _ (fm_cons (hA9.get 0 _ rfl) (fm_cons (hA9.get 1 _ rfl) (fm_cons (hA9.get 2 _ rfl) (fm_cons (hA9.get 6 _ rfl) (fm_cons (hA9.get 8 _ rfl) fm_nil)))))
  refine t_norm ?_
  refine c_false hA10 rfl ?_
  refine wp_skip ?_
  refine t_norm ?_
  refine wp_seq ?_
  refine wp_region_lit ?_
  refine q_step hA10 rfl (d_move (wn rfl) (hA10.ev (v := (.pointer (some ⟨g, 0, none⟩))) rfl) ?_)
  intro a11 hA12
  refine q_step hA12 rfl (d_move (wn rfl) (hA12.ev (v := (.int .i64 ((j : Nat) : Int))) rfl) ?_)
  intro a13 hA14
  refine q_step hA14 rfl (d_nilCheck (wn rfl) (hA14.ev (v := (.pointer (some ⟨g, 0, none⟩))) rfl) ?_)
  intro a15 hA16
  refine q_step hA16 rfl (d_fieldAddr (wn rfl) (hA16.ev (v := (.pointer (some ⟨g, 0, none⟩))) rfl) fo62_1 ?_)
  intro a17 hA18
  refine q_step hA18 rfl (d_indexArrP (j := j) (p := 1 + j) (wn rfl) (hA18.ev (v := (.pointer (some ⟨g, 1, none⟩))) rfl) (hA18.ev (v := (.int .i64 ((j : Nat) : Int))) rfl) arr43 (by omega) (by omega) ?_)
  intro a19 hA20
  refine q_step hA20 rfl (d_load (v := (.int .i64 (r j))) (wn rfl) (hA20.ev (v := (.pointer (some ⟨g, 1 + j, none⟩))) rfl) one3 (hb.cell (walk_get (by omega))) ?_)
  intro a21 hA22
  refine q_step hA22 rfl (d_assign (wn rfl) (hA22.ev (v := (.int .i64 (r j))) rfl) ?_)
  intro a23 hA24
  refine q_end ?_
  have hA25 : St 16 [(6, (.int .i64 (r j)))] a23 := hA24.cut _ (fm_cons (hA24.get 6 _ rfl) fm_nil)
  refine t_norm ?_
  refine wp_ret ?_
  refine ret1 rfl hA25 (v := (.int .i64 (r j))) rfl ?_
  exact ⟨rfl, b0⟩
end Go.Proofs.Ytlhompedcphnnaa
