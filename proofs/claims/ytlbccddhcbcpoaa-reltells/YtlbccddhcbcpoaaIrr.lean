/- What Irreflexive and Acyclic return, for every input. -/
import Derived.Test.YtlbccddhcbcpoaaPair
namespace Go.Proofs.Ytlbccddhcbcpoaa
open Go.RowKit

/-- no event with itself -/
def irrB (r : Rl) : Bool := eqB (met [r, idr allS]) nil
/-- no steps lead from an event to itself -/
def acyB (r : Rl) : Bool := irrB (plusT r 32)
attribute [local irreducible] wpList cells row U aft inn one nil part upd idr crs mns eqB evB stepP plusT invT uni met sqs or2 and2 seq2 allS lst nums prs prt pcs pairT pairS irrB acyB

theorem irr_def (r : Rl) : eqB (met [r, idr allS]) nil = irrB r := by unfold irrB; rfl
theorem acy_def (r : Rl) : irrB (plusT r 32) = acyB r := by unfold acyB; rfl
set_option maxHeartbeats 1000000 in
theorem irr_any (r : Rl) (w : World) : Calls Try.prog 41 #[.agg (cells r)] w fun x w' => x = .returned (.bool (irrB r)) ∧ Grow w w' := by
  have h1 := At.new w r
  have hg0 : Grow w (w.alloc (.cells (cells r) 28)) := (Grow.refl w).alloc _
  go_enter Try.func41, Try.ntmps41
  go_wp2
  refine told (tabOf ([(1, .ptr (r))] ++ [(3, .val (.agg (cells (r)))), (4, .val (.agg (cells (idr (allS))))), (5, .sl [r, idr (allS)]), (6, .val (.agg (cells (met [r, idr (allS)])))), (7, .val (.bool (irrB r))), (2, .val (.bool (irrB r)))])) (by kernel_rfl) (by kernel_rfl) (tab_out _ _ (by kernel_rfl) ?outer) ?each ?last
  case each =>
    refine List.forall_mem_cons.2 ⟨k_ld (r) (by kernel_rfl) rfl rfl trivial, ?_⟩
    refine List.forall_mem_cons.2 ⟨k_k1 (.agg (cells (idr (allS)))) (by kernel_rfl) (fun w => U_all ▸ id_any allS w) rfl trivial, ?_⟩
    refine List.forall_mem_cons.2 ⟨k_b2 (r) (idr (allS)) (by kernel_rfl) rfl (by kernel_rfl) rfl rfl trivial, ?_⟩
    refine List.forall_mem_cons.2 ⟨k_s1 [r, idr (allS)] (.agg (cells (met [r, idr (allS)]))) (by kernel_rfl) (by kernel_rfl) rfl (fun v w h => met_any [r, idr (allS)] v w h (by simp)) rfl trivial, ?_⟩
    refine List.forall_mem_cons.2 ⟨k_c1 (.agg (cells (met [r, idr (allS)]))) (.bool (irrB r)) (by kernel_rfl) (by kernel_rfl) rfl (fun w => calls_val (empty_any (met [r, idr (allS)]) w) (congrArg Value.bool (irr_def r))) rfl trivial, ?_⟩
    refine List.forall_mem_cons.2 ⟨k_as (by kernel_rfl) rfl trivial, ?_⟩
    intro _ h; cases h
  case outer =>
    intro x hx
    simp only [List.mem_cons, List.not_mem_nil, or_false] at hx
    subst hx
    exact ⟨w.heap.size, rfl, h1.drew⟩
  case last =>
    intro f w' hg hf
    have hv : f 5 = .bool (irrB r) := hf 5 2 rfl
    simp only [putF, Act.put, List.setIfInBounds_toArray, List.set_cons_zero, List.set_cons_succ]
    go_wp2
    go_ret
    exact ⟨congrArg Ending.returned hv, Grow.trans hg0 hg⟩

theorem acy_any (r : Rl) (w : World) : Calls Try.prog 43 #[.agg (cells r)] w fun x w' => x = .returned (.bool (acyB r)) ∧ Grow w w' := by
  have h1 := At.new w r
  have hg0 : Grow w (w.alloc (.cells (cells r) 28)) := (Grow.refl w).alloc _
  have hd := acy_def r
  go_enter Try.func43, Try.ntmps43
  go_wp2_with (first | (refine ld w.heap.size r (by rfl) h1 ?_) | (go_at_call 30; refine (plus_any r _).mono ?_; rintro e w1 ⟨rfl, hg1⟩) | (go_at_call 41; refine (irr_any _ _).mono ?_; rintro e w2 ⟨rfl, hg2⟩))
  go_ret
  exact ⟨rfl, Grow.trans (Grow.trans hg0 hg1) hg2⟩

end Go.Proofs.Ytlbccddhcbcpoaa
