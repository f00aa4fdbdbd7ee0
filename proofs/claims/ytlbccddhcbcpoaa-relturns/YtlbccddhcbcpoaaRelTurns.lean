/- RelTurns returns true for every two relations and every set, and leaves its arguments as they were: Minus, Inverse, Plus, Star and Maybe answer as the reference does; no condition. -/
import Derived.Test.YtlbccddhcbcpoaaRows
import Derived.Test.YtlbccddhcbcpoaaArgs
import Derived.Deep.Cut
import Derived.Test.YtlbccddhcbcpoaaStarM
namespace Go.Proofs.Ytlbccddhcbcpoaa.relTurns
open Go.ChangeShapes Go.WideShapes Go.ChangeAt Go.RowKit
set_option linter.unusedVariables false

theorem own : ownKnob Try.prog.godebug = none := by kernel_rfl
theorem laidOut : laidOutB Try.prog = true := by kernel_rfl

theorem uni_join (x y : Rl) : uni [x, y] = or2 y x := rl_ext fun a b => by
  rw [has_uni2, has_or2]; exact Or.comm

attribute [local irreducible] wpList cells row U aft inn one nil part upd idr crs mns eqB evB stepP plusT invT uni met sqs or2 and2 seq2 allS lst nums prs prt pcs pairT pairS irrB acyB hasB fst pA pB pC has domT 

set_option maxRecDepth 100000 in
set_option maxHeartbeats 4000000 in
theorem walk (a b : Rl) (u0 : Int) (w0 : (Lit.int .u32 u0).wf = true) (w : World) : Calls Try.prog 5 #[.agg (cells a), .agg (cells b), .int .u32 u0] w fun e w' => e = .returned (.bool true) ∧ Grow w w' := by
  obtain ⟨u, rfl⟩ := U_of_wf w0
  clear w0
  have hA0 := (At.new w a).alloc (.cells (cells b) 28)
  have hB0 : At ((w.alloc (.cells (cells a) 28)).alloc (.cells (cells b) 28)) (w.heap.size + 1) b := by simpa using At.new (w.alloc (.cells (cells a) 28)) b
  have hG0 : Grow w ((w.alloc (.cells (cells a) 28)).alloc (.cells (cells b) 28)) := ((Grow.refl w).alloc _).alloc _
  go_enter Try.func5, Try.ntmps5
  go_upto_region 2 with (first | (refine ld w.heap.size a (by rfl) hA0 ?_) | (go_at_call 25; refine (rplus_any a _).mono ?_; rintro e w2 ⟨rfl, hg2⟩) | (refine al w2.heap.size rfl ?_) | (refine st w2.heap.size nil (plusT a 32) (by rfl) (by rfl) (At.new w2 nil) ?_))
  rw [World.setRow_alloc_new]
  have hA2 := (hA0.grow hg2).alloc (.cells (cells (plusT a 32)) 28)
  have hB2 := (hB0.grow hg2).alloc (.cells (cells (plusT a 32)) 28)
  have hG2 := Grow.alloc (Grow.trans hG0 hg2) (.cells (cells (plusT a 32)) 28)
  have hP2 := At.new w2 (plusT a 32)
  clear hA0 hB0 hG0 hg2
  generalize w2.heap.size = gp at hP2 ⊢
  generalize w2.alloc (.cells (cells (plusT a 32)) 28) = w3 at hA2 hB2 hG2 hP2 ⊢
  refine told (tabOf ([(2, .val (.int .u32 (U (u)))), (3, .ptr (a)), (4, .ptr (b)), (7, .ptr (plusT a 32))] ++ [(10, .val (.bool true)), (11, .val (.bool true)), (12, .val (.agg (cells (a)))), (13, .val (.agg (cells (b)))), (14, .val (.agg (cells (mns (a) (b))))), (15, .val (.agg (cells (a)))), (16, .val (.agg (cells (b)))), (17, .val (.agg (cells (mns (a) (b))))), (18, .val (.bool true)), (19, .val (.bool true)), (20, .val (.bool true)), (21, .val (.agg (cells (a)))), (22, .val (.agg (cells (invT (a) 32)))), (23, .val (.agg (cells (a)))), (24, .val (.agg (cells (invT (a) 32)))), (25, .val (.bool true)), (26, .val (.bool true)), (27, .val (.bool true)), (28, .val (.agg (cells (a)))), (29, .val (.agg (cells (plusT (a) 32)))), (30, .val (.agg (cells (plusT a 32)))), (31, .val (.bool true)), (32, .val (.bool true)), (33, .val (.bool true)), (34, .val (.int .u32 (U (u)))), (35, .val (.agg (cells (a)))), (36, .val (.agg (cells (uni [plusT (a) 32, idr (u)])))), (37, .val (.int .u32 (U (u)))), (38, .val (.agg (cells (idr (u))))), (39, .val (.agg (cells (plusT a 32)))), (40, .val (.agg (cells (or2 (idr (u)) (plusT a 32))))), (41, .val (.bool true)), (42, .val (.bool true)), (43, .val (.bool true)), (44, .val (.int .u32 (U (u)))), (45, .val (.agg (cells (a)))), (46, .val (.agg (cells (uni [a, idr (u)])))), (47, .val (.int .u32 (U (u)))), (48, .val (.agg (cells (idr (u))))), (49, .val (.agg (cells (a)))), (50, .val (.agg (cells (or2 (idr (u)) (a))))), (51, .val (.bool true)), (52, .val (.bool true)), (6, .val (.bool true))])) (by kernel_rfl) (by kernel_rfl) (tab_out _ _ (by kernel_rfl) ?outer) ?each ?last
  case each =>
    refine List.forall_mem_cons.2 ⟨k_c0 (.bool true) (by kernel_rfl) able_any rfl trivial, ?_⟩
    refine List.forall_mem_cons.2 ⟨k_mv (by kernel_rfl) rfl trivial, ?_⟩
    refine List.forall_mem_cons.2 ⟨k_ld (a) (by kernel_rfl) rfl rfl ⟨11, rfl, (by kernel_rfl), rfl⟩, ?_⟩
    refine List.forall_mem_cons.2 ⟨k_ld (b) (by kernel_rfl) rfl rfl ⟨11, rfl, (by kernel_rfl), rfl⟩, ?_⟩
    refine List.forall_mem_cons.2 ⟨k_c2 (.agg (cells (a))) (.agg (cells (b))) (.agg (cells (mns (a) (b)))) (by kernel_rfl) (by kernel_rfl) rfl (by kernel_rfl) rfl (mns_any (a) (b)) rfl ⟨11, rfl, (by kernel_rfl), rfl⟩, ?_⟩
    refine List.forall_mem_cons.2 ⟨k_ld (a) (by kernel_rfl) rfl rfl ⟨11, rfl, (by kernel_rfl), rfl⟩, ?_⟩
    refine List.forall_mem_cons.2 ⟨k_ld (b) (by kernel_rfl) rfl rfl ⟨11, rfl, (by kernel_rfl), rfl⟩, ?_⟩
    refine List.forall_mem_cons.2 ⟨k_c2 (.agg (cells (a))) (.agg (cells (b))) (.agg (cells (mns (a) (b)))) (by kernel_rfl) (by kernel_rfl) rfl (by kernel_rfl) rfl (rmns_any (a) (b)) rfl ⟨11, rfl, (by kernel_rfl), rfl⟩, ?_⟩
    refine List.forall_mem_cons.2 ⟨k_eq (mns (a) (b)) (mns (a) (b)) true (by kernel_rfl) (by kernel_rfl) rfl rfl rfl (eqB_same _) ⟨11, rfl, (by kernel_rfl), rfl⟩, ?_⟩
    refine List.forall_mem_cons.2 ⟨k_pt (by kernel_rfl) (by kernel_rfl) rfl rfl trivial, ?_⟩
    refine List.forall_mem_cons.2 ⟨k_mv (by kernel_rfl) rfl trivial, ?_⟩
    refine List.forall_mem_cons.2 ⟨k_ld (a) (by kernel_rfl) rfl rfl ⟨20, rfl, (by kernel_rfl), rfl⟩, ?_⟩
    refine List.forall_mem_cons.2 ⟨k_c1 (.agg (cells (a))) (.agg (cells (invT (a) 32))) (by kernel_rfl) (by kernel_rfl) rfl (inv_any (a)) rfl ⟨20, rfl, (by kernel_rfl), rfl⟩, ?_⟩
    refine List.forall_mem_cons.2 ⟨k_ld (a) (by kernel_rfl) rfl rfl ⟨20, rfl, (by kernel_rfl), rfl⟩, ?_⟩
    refine List.forall_mem_cons.2 ⟨k_c1 (.agg (cells (a))) (.agg (cells (invT (a) 32))) (by kernel_rfl) (by kernel_rfl) rfl (rinv_any (a)) rfl ⟨20, rfl, (by kernel_rfl), rfl⟩, ?_⟩
    refine List.forall_mem_cons.2 ⟨k_eq (invT (a) 32) (invT (a) 32) true (by kernel_rfl) (by kernel_rfl) rfl rfl rfl (eqB_same _) ⟨20, rfl, (by kernel_rfl), rfl⟩, ?_⟩
    refine List.forall_mem_cons.2 ⟨k_pt (by kernel_rfl) (by kernel_rfl) rfl rfl trivial, ?_⟩
    refine List.forall_mem_cons.2 ⟨k_mv (by kernel_rfl) rfl trivial, ?_⟩
    refine List.forall_mem_cons.2 ⟨k_ld (a) (by kernel_rfl) rfl rfl ⟨27, rfl, (by kernel_rfl), rfl⟩, ?_⟩
    refine List.forall_mem_cons.2 ⟨k_c1 (.agg (cells (a))) (.agg (cells (plusT (a) 32))) (by kernel_rfl) (by kernel_rfl) rfl (plus_any (a)) rfl ⟨27, rfl, (by kernel_rfl), rfl⟩, ?_⟩
    refine List.forall_mem_cons.2 ⟨k_ld (plusT a 32) (by kernel_rfl) rfl rfl ⟨27, rfl, (by kernel_rfl), rfl⟩, ?_⟩
    refine List.forall_mem_cons.2 ⟨k_eq (plusT (a) 32) (plusT a 32) true (by kernel_rfl) (by kernel_rfl) rfl rfl rfl (eqB_same _) ⟨27, rfl, (by kernel_rfl), rfl⟩, ?_⟩
    refine List.forall_mem_cons.2 ⟨k_pt (by kernel_rfl) (by kernel_rfl) rfl rfl trivial, ?_⟩
    refine List.forall_mem_cons.2 ⟨k_mv (by kernel_rfl) rfl trivial, ?_⟩
    refine List.forall_mem_cons.2 ⟨k_mv (by kernel_rfl) rfl ⟨33, rfl, (by kernel_rfl), rfl⟩, ?_⟩
    refine List.forall_mem_cons.2 ⟨k_ld (a) (by kernel_rfl) rfl rfl ⟨33, rfl, (by kernel_rfl), rfl⟩, ?_⟩
    refine List.forall_mem_cons.2 ⟨k_c2 (.int .u32 (U (u))) (.agg (cells (a))) (.agg (cells (uni [plusT (a) 32, idr (u)]))) (by kernel_rfl) (by kernel_rfl) rfl (by kernel_rfl) rfl (star_any (u) (a)) rfl ⟨33, rfl, (by kernel_rfl), rfl⟩, ?_⟩
    refine List.forall_mem_cons.2 ⟨k_mv (by kernel_rfl) rfl ⟨33, rfl, (by kernel_rfl), rfl⟩, ?_⟩
    refine List.forall_mem_cons.2 ⟨k_c1 (.int .u32 (U (u))) (.agg (cells (idr (u)))) (by kernel_rfl) (by kernel_rfl) rfl (rid_any (u)) rfl ⟨33, rfl, (by kernel_rfl), rfl⟩, ?_⟩
    refine List.forall_mem_cons.2 ⟨k_ld (plusT a 32) (by kernel_rfl) rfl rfl ⟨33, rfl, (by kernel_rfl), rfl⟩, ?_⟩
    refine List.forall_mem_cons.2 ⟨k_c2 (.agg (cells (idr (u)))) (.agg (cells (plusT a 32))) (.agg (cells (or2 (idr (u)) (plusT a 32)))) (by kernel_rfl) (by kernel_rfl) rfl (by kernel_rfl) rfl (rjoin_any (idr (u)) (plusT a 32)) rfl ⟨33, rfl, (by kernel_rfl), rfl⟩, ?_⟩
    refine List.forall_mem_cons.2 ⟨k_eq (uni [plusT (a) 32, idr (u)]) (or2 (idr (u)) (plusT a 32)) true (by kernel_rfl) (by kernel_rfl) rfl rfl rfl (eqB_of (uni_join _ _)) ⟨33, rfl, (by kernel_rfl), rfl⟩, ?_⟩
    refine List.forall_mem_cons.2 ⟨k_pt (by kernel_rfl) (by kernel_rfl) rfl rfl trivial, ?_⟩
    refine List.forall_mem_cons.2 ⟨k_mv (by kernel_rfl) rfl trivial, ?_⟩
    refine List.forall_mem_cons.2 ⟨k_mv (by kernel_rfl) rfl ⟨43, rfl, (by kernel_rfl), rfl⟩, ?_⟩
    refine List.forall_mem_cons.2 ⟨k_ld (a) (by kernel_rfl) rfl rfl ⟨43, rfl, (by kernel_rfl), rfl⟩, ?_⟩
    refine List.forall_mem_cons.2 ⟨k_c2 (.int .u32 (U (u))) (.agg (cells (a))) (.agg (cells (uni [a, idr (u)]))) (by kernel_rfl) (by kernel_rfl) rfl (by kernel_rfl) rfl (maybe_any (u) (a)) rfl ⟨43, rfl, (by kernel_rfl), rfl⟩, ?_⟩
    refine List.forall_mem_cons.2 ⟨k_mv (by kernel_rfl) rfl ⟨43, rfl, (by kernel_rfl), rfl⟩, ?_⟩
    refine List.forall_mem_cons.2 ⟨k_c1 (.int .u32 (U (u))) (.agg (cells (idr (u)))) (by kernel_rfl) (by kernel_rfl) rfl (rid_any (u)) rfl ⟨43, rfl, (by kernel_rfl), rfl⟩, ?_⟩
    refine List.forall_mem_cons.2 ⟨k_ld (a) (by kernel_rfl) rfl rfl ⟨43, rfl, (by kernel_rfl), rfl⟩, ?_⟩
    refine List.forall_mem_cons.2 ⟨k_c2 (.agg (cells (idr (u)))) (.agg (cells (a))) (.agg (cells (or2 (idr (u)) (a)))) (by kernel_rfl) (by kernel_rfl) rfl (by kernel_rfl) rfl (rjoin_any (idr (u)) (a)) rfl ⟨43, rfl, (by kernel_rfl), rfl⟩, ?_⟩
    refine List.forall_mem_cons.2 ⟨k_eq (uni [a, idr (u)]) (or2 (idr (u)) (a)) true (by kernel_rfl) (by kernel_rfl) rfl rfl rfl (eqB_of (uni_join _ _)) ⟨43, rfl, (by kernel_rfl), rfl⟩, ?_⟩
    refine List.forall_mem_cons.2 ⟨k_pt (by kernel_rfl) (by kernel_rfl) rfl rfl trivial, ?_⟩
    refine List.forall_mem_cons.2 ⟨k_as (by kernel_rfl) rfl trivial, ?_⟩
    intro _ h; cases h
  case outer =>
    intro x hx
    simp only [List.mem_cons, List.not_mem_nil, or_false] at hx
    rcases hx with rfl | rfl | rfl | rfl
    · exact rfl
    · exact ⟨w.heap.size, rfl, hA2.drew⟩
    · exact ⟨w.heap.size + 1, rfl, hB2.drew⟩
    · exact ⟨gp, rfl, hP2.drew⟩
  intro f w8 hg8 hf
  have hv : f 43 = .bool true := hf 43 6 rfl
  simp only [putF, Act.put, List.setIfInBounds_toArray, List.set_cons_zero, List.set_cons_succ, hv]
  go_wp2
  go_ret
  exact ⟨rfl, Grow.trans hG2 hg8⟩


set_option maxRecDepth 100000 in
theorem lifted (os : Os) (started : os.Started) (H : Type) (enc : TypeId × Value → H) :
    ReturnsInHanded {} Try.checked os 5 .any (Rows.relTurnsSpec.pre6 enc Try.prog Try.f5 Rows.relTurnsRow.domain false) (Rows.relTurnsSpec.post enc Try.prog Try.f5 false true false false) := by
  refine returnsInHanded_of_change (C := Try.checked) own started (by kernel_rfl) Try.func5
    (ChangeSpec.witness6 (enc := enc) (C := Try.checked) false ⟨#[], #[.agg (Array.replicate 32 (.int .u32 0)), .agg (Array.replicate 32 (.int .u32 0)), .int .u32 0], []⟩ 8 (by kernel_rfl) (by kernel_rfl) (by kernel_rfl) (by kernel_rfl)) ?_
  intro W base args ds gs before hval0 hW hcnd _
  have hval : ∀ (j : Nat) t v, Try.f5.params[j]? = some t → args[j]? = some v → Value.okWide Try.prog W .any base t v := hval0
  have hW' := hW
  obtain ⟨p, q, hA0, hV, rfl, hfz, hnd⟩ := hW
  have hA : DataW.TrodAll enc Try.prog W 0 (fun _ => true) true Try.f5.params.toList args.toList ds p := hA0
  rw [Try.params5] at hA hval
  obtain ⟨v0, vs0, d0, ds0, p0, q0, hargs, rfl, rfl, h0, r0⟩ := trodAll_cons hA
  obtain ⟨v1, vs1, d1, ds1, p1, q1, rfl, rfl, rfl, h1, r1⟩ := trodAll_cons r0
  obtain ⟨v2, vs2, d2, ds2, p2, q2, rfl, rfl, rfl, h2, r2⟩ := trodAll_cons r1
  obtain ⟨rfl, rfl, rfl⟩ := trodAll_nil r2
  obtain rfl : args = #[v0, v1, v2] := by cases args; simp_all
  obtain ⟨rfl, rfl⟩ := trodVars_none hV
  have k0 := h0
  have lt0 : ∀ x ∈ p0, x.block < W.heap.size := by obtain ⟨m, hm⟩ := k0; exact DataW.trod_lt m _ _ _ hm
  obtain ⟨a0, rfl⟩ := open_rel (hval 0 28 v0 rfl rfl) h0
  have k1 := h1
  have lt1 : ∀ x ∈ p1, x.block < W.heap.size := by obtain ⟨m, hm⟩ := k1; exact DataW.trod_lt m _ _ _ hm
  obtain ⟨a1, rfl⟩ := open_rel (hval 1 28 v1 rfl rfl) h1
  have k2 := h2
  have lt2 : ∀ x ∈ p2, x.block < W.heap.size := by obtain ⟨m, hm⟩ := k2; exact DataW.trod_lt m _ _ _ hm
  obtain ⟨a2, rfl, _, _, w2⟩ := open_int Try.underlying25 (hval 2 25 v2 rfl rfl) h2
  clear hA0 hval0
  refine (walk a0 a1 a2 w2 W).mono fun e W' ⟨he, bel⟩ => ?_
  subst he
  exact ⟨_, rfl, _, _, _, [], _, [], hW', trodAll_mk1 (shut_bool Try.underlying4 _), (trodAll_cons_mk (Below.trod laidOut (by kernel_rfl) (of_decide_eq_true (by kernel_rfl)) k0 bel lt0) (trodAll_cons_mk (Below.trod laidOut (by kernel_rfl) (of_decide_eq_true (by kernel_rfl)) k1 bel lt1) (trodAll_cons_mk (Below.trod laidOut (by kernel_rfl) (of_decide_eq_true (by kernel_rfl)) k2 bel lt2) trodAll_mk0))), rfl, bel.frame _, fun h => by cases h⟩

theorem over : Rows.relTurnsRow.holds Try.pinned (OpenSpec.ofChange Rows.relTurnsSpec) :=
  OpenClaim.holds_of_wide 5 Try.f5 rfl rfl rfl rfl rfl rfl rfl ⟨rfl, rfl, rfl, rfl, rfl⟩ rfl rfl rfl rfl rfl (by kernel_rfl) Try.func5 (by kernel_rfl)
    (of_decide_eq_true (by kernel_rfl)) (by unfold Func.isWrapper; first | (rw [if_pos (by decide +kernel)]; kernel_rfl) | (rw [if_neg (by decide +kernel)]; exact ⟨rfl, rfl⟩))
    (fun os started H enc _ => lifted os started H enc)

theorem proved : Rows.RelTurnsSaid := over
end Go.Proofs.Ytlbccddhcbcpoaa.relTurns
namespace Go.Proofs.Ytlbccddhcbcpoaa
theorem relTurns_holds : Rows.RelTurnsSaid := relTurns.proved
end Go.Proofs.Ytlbccddhcbcpoaa
#print axioms Go.Proofs.Ytlbccddhcbcpoaa.relTurns_holds
