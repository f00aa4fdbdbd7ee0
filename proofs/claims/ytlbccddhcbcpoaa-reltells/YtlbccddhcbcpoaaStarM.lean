/- What Star and Maybe return, for every input. -/
import Derived.Test.YtlbccddhcbcpoaaTabInv
import Derived.Test.YtlbccddhcbcpoaaTabPlus
namespace Go.Proofs.Ytlbccddhcbcpoaa
open Go.RowKit
attribute [local irreducible] wpList cells row U aft inn one nil part upd idr crs mns eqB evB stepP plusT invT uni met sqs or2 and2 seq2 allS lst nums prs prt pcs pairT pairS irrB acyB hasB fst pA pB pC has domT

section
variable {ops : Array Oper} {Q : Exit → Act → World → Prop} {w : World} {tab : Nat → Cl} {d : Tmp} {ty : TypeId} {pos : String} {af : Array Edge} {gd : Option (Nat × Bool)}
theorem k_c0 {f : FuncId} {ats : Array TypeId} (u : Value) (hent : ((Try.prog.funcs[f]?).map fun fn => (fn.name == "runtime.NumGoroutine", fn.body.isNone)) = some (false, false))
    (hc : ∀ w', Calls Try.prog f #[] w' fun e w'' => e = .returned u ∧ Grow w' w'') (hd : tab d = .val u)
    (hg : Gd ops tab { dst := some d, op := .call { callee := .value (.func f), args := #[], argTypes := ats }, type := ty, pos := pos, after := af, guard := gd }) :
    Obl ops Q w tab { dst := some d, op := .call { callee := .value (.func f), args := #[], argTypes := ats }, type := ty, pos := pos, after := af, guard := gd } :=
  k_call hent (fun a' w' _ _ => by
    have hm : (#[] : Array Operand).map a'.eval = #[] := by simp
    rw [hm]
    refine Calls.mono (hc w') fun e w'' he => ?_
    obtain ⟨rfl, hgr⟩ := he
    exact ⟨u, rfl, hgr, by rw [hd]; rfl⟩) hg
end

set_option maxHeartbeats 1000000 in
theorem star_any (u : St) (r : Rl) (w : World) : Calls Try.prog 31 #[.int .u32 (U u), .agg (cells r)] w fun x w' => x = .returned (.agg (cells (uni [plusT r 32, idr u]))) ∧ Grow w w' := by
  have hr0 := (At.new w r).alloc (.cells (cells nil) 28)
  have hn0 : At ((w.alloc (.cells (cells r) 28)).alloc (.cells (cells nil) 28)) (w.heap.size + 1) nil := by simpa using At.new (w.alloc (.cells (cells r) 28)) nil
  have hg0 : Grow w ((w.alloc (.cells (cells r) 28)).alloc (.cells (cells nil) 28)) := ((Grow.refl w).alloc _).alloc _
  have e1 : (w.alloc (.cells (cells r) 28)).heap.size = w.heap.size + 1 := by simp
  go_enter Try.func31, Try.ntmps31
  go_wp2_with (first | (refine al _ e1 ?_) | (refine ld w.heap.size r (by rfl) hr0 ?_) | (go_at_call 30; refine (plus_any r _).mono ?_; rintro e w1 ⟨rfl, hg1⟩) | (go_at_call 15; refine (id_any u _).mono ?_; rintro e w2 ⟨rfl, hg2⟩) | (refine bs2 (plusT r 32) (idr u) (by rfl) (by rfl) ?_; intro v3 w3 hg3 hs3) | (go_at_call 19; refine (uni_any [plusT r 32, idr u] _ _ hs3 (by simp)).mono ?_; rintro e w4 ⟨rfl, hg4⟩; have hn4 := (((hn0.grow hg1).grow hg2).grow hg3).grow hg4) | (refine st (w.heap.size + 1) nil (uni [plusT r 32, idr u]) (by rfl) (by rfl) hn4 ?_))
  exact bodyPost_ret (v := .agg (cells (uni [plusT r 32, idr u]))) (res rfl _ _ (w.heap.size + 1) _ (by rfl) hn4.put) rfl ⟨rfl, below_setRow (Grow.trans (Grow.trans (Grow.trans (Grow.trans hg0 hg1) hg2) hg3) hg4) (by omega) _⟩

set_option maxHeartbeats 1000000 in
theorem maybe_any (u : St) (r : Rl) (w : World) : Calls Try.prog 33 #[.int .u32 (U u), .agg (cells r)] w fun x w' => x = .returned (.agg (cells (uni [r, idr u]))) ∧ Grow w w' := by
  have hr0 := (At.new w r).alloc (.cells (cells nil) 28)
  have hn0 : At ((w.alloc (.cells (cells r) 28)).alloc (.cells (cells nil) 28)) (w.heap.size + 1) nil := by simpa using At.new (w.alloc (.cells (cells r) 28)) nil
  have hg0 : Grow w ((w.alloc (.cells (cells r) 28)).alloc (.cells (cells nil) 28)) := ((Grow.refl w).alloc _).alloc _
  have e1 : (w.alloc (.cells (cells r) 28)).heap.size = w.heap.size + 1 := by simp
  go_enter Try.func33, Try.ntmps33
  go_wp2_with (refine al _ e1 ?_)
  refine told_end (by simp) (tabOf ([(0, .val (.int .u32 (U (u)))), (3, .ptr (r))] ++ [(5, .val (.agg (cells (r)))), (6, .val (.int .u32 (U (u)))), (7, .val (.agg (cells (idr (u))))), (8, .sl [r, idr (u)]), (9, .val (.agg (cells (uni [r, idr (u)]))))])) (by kernel_rfl) (by kernel_rfl) (by kernel_rfl) (tab_out _ _ (by kernel_rfl) ?outer) ?each ?last
  case each =>
    refine fd_cons (k_ld (r) (by kernel_rfl) rfl rfl trivial) ?_
    refine fd_cons (k_mv (by kernel_rfl) rfl trivial) ?_
    refine fd_cons (k_c1 (.int .u32 (U (u))) (.agg (cells (idr (u)))) (by kernel_rfl) (by kernel_rfl) rfl (id_any (u)) rfl trivial) ?_
    refine fd_cons (k_b2 (r) (idr (u)) (by kernel_rfl) rfl (by kernel_rfl) rfl rfl trivial) ?_
    refine fd_cons (k_s1 [r, idr (u)] (.agg (cells (uni [r, idr (u)]))) (by kernel_rfl) (by kernel_rfl) rfl (fun v w h => uni_any [r, idr (u)] v w h (by simp)) rfl trivial) ?_
    exact fd_one
  case outer =>
    intro x hx
    simp only [List.mem_cons, List.not_mem_nil, or_false] at hx
    rcases hx with rfl | rfl
    · exact rfl
    · exact ⟨w.heap.size, rfl, hr0.drew⟩
  intro f w2 hg2 hf
  have hv : f 4 = .agg (cells (uni [r, idr u])) := hf 4 9 (by kernel_rfl)
  simp only [putF_two, putF_one, List.getLast_cons_cons, List.getLast_singleton, Act.put, List.setIfInBounds_toArray, List.set_cons_zero, List.set_cons_succ, hv]
  refine st_wp (w.heap.size + 1) nil (uni [r, idr u]) rfl rfl (hn0.grow hg2) ?_
  go_wp2
  exact bodyPost_ret (v := .agg (cells (uni [r, idr u]))) (res rfl _ _ (w.heap.size + 1) _ (by rfl) (hn0.grow hg2).put) rfl ⟨rfl, below_setRow (Grow.trans hg0 hg2) (by omega) _⟩

end Go.Proofs.Ytlbccddhcbcpoaa
