/- RelLeast returns true for every two relations, and leaves its arguments as they were: the closure holds the relation, is closed, lies in the closure of each that holds it, and closed again it stays; no condition. -/
import Derived.Test.YtlbccddhcbcpoabRows
import Derived.Test.YtlbccddhcbcpoabArgs
import Derived.Deep.Cut
namespace Go.Proofs.Ytlbccddhcbcpoab.relLeast
open Go.ChangeShapes Go.WideShapes Go.ChangeAt Go.RowKit
set_option linter.unusedVariables false

theorem own : ownKnob Try.prog.godebug = none := by kernel_rfl
theorem laidOut : laidOutB Try.prog = true := by kernel_rfl

theorem lst1 (a : Rl) : eqB (mns a (plusT a 32)) nil = true := (empty_iff _).2 fun x y h => by
  rw [has_mns, has_plus] at h; exact h.2 (.step h.1)
theorem lst2 (a : Rl) : eqB (mns (sqs [plusT a 32, plusT a 32]) (plusT a 32)) nil = true := (empty_iff _).2 fun x y h => by
  simp only [has_mns, has_sqs2, has_plus] at h
  obtain ⟨⟨u, h1, h2⟩, h3⟩ := h
  exact h3 (Plus.trans h1 h2)
theorem lst3 (a : Rl) : plusT (plusT a 32) 32 = plusT a 32 := rl_ext fun x y => by
  rw [has_plus, has_plus]
  exact ⟨Plus.incl fun u v h => (has_plus a u v).1 h, fun h => .step ((has_plus a x y).2 h)⟩
theorem lst4 (a b : Rl) : eqB (mns (plusT a 32) (plusT (uni [a, b]) 32)) nil = true := (empty_iff _).2 fun x y h => by
  simp only [has_mns, has_plus] at h
  exact h.2 (Plus.incl (fun u v h => .step ((has_uni2 _ _ _ _).2 (.inl h))) h.1)
theorem lst5 (a : Rl) : uni [a, sqs [a, plusT a 32]] = plusT a 32 := rl_ext fun x y => by
  simp only [has_uni2, has_sqs2, has_plus]
  constructor
  · rintro (h | ⟨u, h1, h2⟩)
    · exact .step h
    · exact Plus.trans (.step h1) h2
  · exact Plus.head

attribute [local irreducible] wpList cells row U aft inn one nil part upd idr crs mns eqB evB stepP plusT invT uni met sqs or2 and2 seq2 allS lst nums prs prt pcs pairT pairS irrB acyB hasB fst pA pB pC has domT 

set_option maxRecDepth 100000 in
set_option maxHeartbeats 4000000 in
theorem walk (a b : Rl) (w : World) : Calls Try.prog 3 #[.agg (cells a), .agg (cells b)] w fun e w' => e = .returned (.bool true) ∧ Grow w w' := by
  have hA0 := (At.new w a).alloc (.cells (cells b) 25)
  have hB0 : At ((w.alloc (.cells (cells a) 25)).alloc (.cells (cells b) 25)) (w.heap.size + 1) b := by simpa using At.new (w.alloc (.cells (cells a) 25)) b
  have hG0 : Grow w ((w.alloc (.cells (cells a) 25)).alloc (.cells (cells b) 25)) := ((Grow.refl w).alloc _).alloc _
  go_enter Try.func3, Try.ntmps3
  go_upto_region 4 with (first | (go_at_call 6; refine (able_any _).mono ?_; rintro e w1 ⟨rfl, hg1⟩) | (refine ld w.heap.size a (by rfl) (hA0.grow hg1) ?_) | (go_at_call 7; refine (plus_any a _).mono ?_; rintro e w2 ⟨rfl, hg2⟩) | (refine al w2.heap.size rfl ?_) | (refine st w2.heap.size nil (plusT a 32) (by rfl) (by rfl) (At.new w2 nil) ?_))
  · rw [World.setRow_alloc_new]
    have hA2 := ((hA0.grow hg1).grow hg2).alloc (.cells (cells (plusT a 32)) 25)
    have hB2 := ((hB0.grow hg1).grow hg2).alloc (.cells (cells (plusT a 32)) 25)
    have hG2 := Grow.alloc (Grow.trans (Grow.trans hG0 hg1) hg2) (.cells (cells (plusT a 32)) 25)
    have hP2 := At.new w2 (plusT a 32)
    clear hA0 hB0 hG0 hg1 hg2
    generalize w2.heap.size = gp at hP2 ⊢
    generalize w2.alloc (.cells (cells (plusT a 32)) 25) = w3 at hA2 hB2 hG2 hP2 ⊢
    go_wp2_with (first | (refine ld w.heap.size a (by rfl) hA2 ?_) | (refine ld (w.heap.size + 1) b (by rfl) hB2 ?_) | (refine bs2 a b (by rfl) (by rfl) ?_; intro v4 w4 hg4 hs4) | (go_at_call 8; refine (uni_any [a, b] _ _ hs4 (by simp)).mono ?_; rintro e w5 ⟨rfl, hg5⟩) | (go_at_call 7; refine (plus_any _ _).mono ?_; rintro e w6 ⟨rfl, hg6⟩) | (refine al w6.heap.size rfl ?_) | (refine st w6.heap.size nil (plusT (uni [a, b]) 32) (by rfl) (by rfl) (At.new w6 nil) ?_))
    · rw [World.setRow_alloc_new]
      have hg36 := Grow.trans (Grow.trans hg4 hg5) hg6
      have hA6 := (hA2.grow hg36).alloc (.cells (cells (plusT (uni [a, b]) 32)) 25)
      have hP6 := (hP2.grow hg36).alloc (.cells (cells (plusT (uni [a, b]) 32)) 25)
      have hG6 := Grow.alloc (Grow.trans hG2 hg36) (.cells (cells (plusT (uni [a, b]) 32)) 25)
      have hQ6 := At.new w6 (plusT (uni [a, b]) 32)
      clear hA2 hB2 hG2 hP2 hg4 hg5 hg6 hs4 hg36
      generalize w6.heap.size = gq at hQ6 ⊢
      generalize w6.alloc (.cells (cells (plusT (uni [a, b]) 32)) 25) = w7 at hA6 hP6 hG6 hQ6 ⊢
      refine told (tabOf ([(2, .ptr (a)), (5, .ptr (plusT a 32)), (6, .ptr (plusT (uni [a, b]) 32))] ++ [(16, .val (.agg (cells (a)))), (17, .val (.agg (cells (plusT a 32)))), (18, .val (.agg (cells (mns (a) (plusT a 32))))), (19, .val (.bool true)), (20, .val (.bool true)), (21, .val (.agg (cells (plusT a 32)))), (22, .val (.agg (cells (plusT a 32)))), (23, .sl [plusT a 32, plusT a 32]), (24, .val (.agg (cells (sqs [plusT a 32, plusT a 32])))), (25, .val (.agg (cells (plusT a 32)))), (26, .val (.agg (cells (mns (sqs [plusT a 32, plusT a 32]) (plusT a 32))))), (27, .val (.bool true)), (28, .val (.bool true)), (29, .val (.bool true)), (30, .val (.agg (cells (plusT a 32)))), (31, .val (.agg (cells (plusT (plusT a 32) 32)))), (32, .val (.agg (cells (plusT a 32)))), (33, .val (.bool true)), (34, .val (.bool true)), (35, .val (.bool true)), (36, .val (.agg (cells (plusT a 32)))), (37, .val (.agg (cells (plusT (uni [a, b]) 32)))), (38, .val (.agg (cells (mns (plusT a 32) (plusT (uni [a, b]) 32))))), (39, .val (.bool true)), (40, .val (.bool true)), (41, .val (.bool true)), (42, .val (.agg (cells (a)))), (43, .val (.agg (cells (a)))), (44, .val (.agg (cells (plusT a 32)))), (45, .sl [a, plusT a 32]), (46, .val (.agg (cells (sqs [a, plusT a 32])))), (47, .sl [a, sqs [a, plusT a 32]]), (48, .val (.agg (cells (uni [a, sqs [a, plusT a 32]])))), (49, .val (.agg (cells (plusT a 32)))), (50, .val (.bool true)), (51, .val (.bool true)), (4, .val (.bool true))])) (by kernel_rfl) (by kernel_rfl) (tab_out _ _ (by kernel_rfl) ?outer) ?each ?last
      case each =>
        refine List.forall_mem_cons.2 ⟨k_ld (a) (by kernel_rfl) rfl rfl trivial, ?_⟩
        refine List.forall_mem_cons.2 ⟨k_ld (plusT a 32) (by kernel_rfl) rfl rfl trivial, ?_⟩
        refine List.forall_mem_cons.2 ⟨k_c2 (.agg (cells (a))) (.agg (cells (plusT a 32))) (.agg (cells (mns (a) (plusT a 32)))) (by kernel_rfl) (by kernel_rfl) rfl (by kernel_rfl) rfl (mns_any (a) (plusT a 32)) rfl trivial, ?_⟩
        refine List.forall_mem_cons.2 ⟨k_c1 (.agg (cells (mns (a) (plusT a 32)))) (.bool true) (by kernel_rfl) (by kernel_rfl) rfl (fun w => calls_val (empty_any (mns (a) (plusT a 32)) w) (congrArg Value.bool (lst1 a))) rfl trivial, ?_⟩
        refine List.forall_mem_cons.2 ⟨k_mv (by kernel_rfl) rfl trivial, ?_⟩
        refine List.forall_mem_cons.2 ⟨k_ld (plusT a 32) (by kernel_rfl) rfl rfl ⟨20, rfl, (by kernel_rfl), rfl⟩, ?_⟩
        refine List.forall_mem_cons.2 ⟨k_ld (plusT a 32) (by kernel_rfl) rfl rfl ⟨20, rfl, (by kernel_rfl), rfl⟩, ?_⟩
        refine List.forall_mem_cons.2 ⟨k_b2 (plusT a 32) (plusT a 32) (by kernel_rfl) rfl (by kernel_rfl) rfl rfl ⟨20, rfl, (by kernel_rfl), rfl⟩, ?_⟩
        refine List.forall_mem_cons.2 ⟨k_s1 [plusT a 32, plusT a 32] (.agg (cells (sqs [plusT a 32, plusT a 32]))) (by kernel_rfl) (by kernel_rfl) rfl (fun v w h => seq_any [plusT a 32, plusT a 32] v w h (by simp)) rfl ⟨20, rfl, (by kernel_rfl), rfl⟩, ?_⟩
        refine List.forall_mem_cons.2 ⟨k_ld (plusT a 32) (by kernel_rfl) rfl rfl ⟨20, rfl, (by kernel_rfl), rfl⟩, ?_⟩
        refine List.forall_mem_cons.2 ⟨k_c2 (.agg (cells (sqs [plusT a 32, plusT a 32]))) (.agg (cells (plusT a 32))) (.agg (cells (mns (sqs [plusT a 32, plusT a 32]) (plusT a 32)))) (by kernel_rfl) (by kernel_rfl) rfl (by kernel_rfl) rfl (mns_any (sqs [plusT a 32, plusT a 32]) (plusT a 32)) rfl ⟨20, rfl, (by kernel_rfl), rfl⟩, ?_⟩
        refine List.forall_mem_cons.2 ⟨k_c1 (.agg (cells (mns (sqs [plusT a 32, plusT a 32]) (plusT a 32)))) (.bool true) (by kernel_rfl) (by kernel_rfl) rfl (fun w => calls_val (empty_any (mns (sqs [plusT a 32, plusT a 32]) (plusT a 32)) w) (congrArg Value.bool (lst2 a))) rfl ⟨20, rfl, (by kernel_rfl), rfl⟩, ?_⟩
        refine List.forall_mem_cons.2 ⟨k_pt (by kernel_rfl) (by kernel_rfl) rfl rfl trivial, ?_⟩
        refine List.forall_mem_cons.2 ⟨k_mv (by kernel_rfl) rfl trivial, ?_⟩
        refine List.forall_mem_cons.2 ⟨k_ld (plusT a 32) (by kernel_rfl) rfl rfl ⟨29, rfl, (by kernel_rfl), rfl⟩, ?_⟩
        refine List.forall_mem_cons.2 ⟨k_c1 (.agg (cells (plusT a 32))) (.agg (cells (plusT (plusT a 32) 32))) (by kernel_rfl) (by kernel_rfl) rfl (plus_any (plusT a 32)) rfl ⟨29, rfl, (by kernel_rfl), rfl⟩, ?_⟩
        refine List.forall_mem_cons.2 ⟨k_ld (plusT a 32) (by kernel_rfl) rfl rfl ⟨29, rfl, (by kernel_rfl), rfl⟩, ?_⟩
        refine List.forall_mem_cons.2 ⟨k_eq (plusT (plusT a 32) 32) (plusT a 32) true (by kernel_rfl) (by kernel_rfl) rfl rfl rfl (eqB_of (lst3 a)) ⟨29, rfl, (by kernel_rfl), rfl⟩, ?_⟩
        refine List.forall_mem_cons.2 ⟨k_pt (by kernel_rfl) (by kernel_rfl) rfl rfl trivial, ?_⟩
        refine List.forall_mem_cons.2 ⟨k_mv (by kernel_rfl) rfl trivial, ?_⟩
        refine List.forall_mem_cons.2 ⟨k_ld (plusT a 32) (by kernel_rfl) rfl rfl ⟨35, rfl, (by kernel_rfl), rfl⟩, ?_⟩
        refine List.forall_mem_cons.2 ⟨k_ld (plusT (uni [a, b]) 32) (by kernel_rfl) rfl rfl ⟨35, rfl, (by kernel_rfl), rfl⟩, ?_⟩
        refine List.forall_mem_cons.2 ⟨k_c2 (.agg (cells (plusT a 32))) (.agg (cells (plusT (uni [a, b]) 32))) (.agg (cells (mns (plusT a 32) (plusT (uni [a, b]) 32)))) (by kernel_rfl) (by kernel_rfl) rfl (by kernel_rfl) rfl (mns_any (plusT a 32) (plusT (uni [a, b]) 32)) rfl ⟨35, rfl, (by kernel_rfl), rfl⟩, ?_⟩
        refine List.forall_mem_cons.2 ⟨k_c1 (.agg (cells (mns (plusT a 32) (plusT (uni [a, b]) 32)))) (.bool true) (by kernel_rfl) (by kernel_rfl) rfl (fun w => calls_val (empty_any (mns (plusT a 32) (plusT (uni [a, b]) 32)) w) (congrArg Value.bool (lst4 a b))) rfl ⟨35, rfl, (by kernel_rfl), rfl⟩, ?_⟩
        refine List.forall_mem_cons.2 ⟨k_pt (by kernel_rfl) (by kernel_rfl) rfl rfl trivial, ?_⟩
        refine List.forall_mem_cons.2 ⟨k_mv (by kernel_rfl) rfl trivial, ?_⟩
        refine List.forall_mem_cons.2 ⟨k_ld (a) (by kernel_rfl) rfl rfl ⟨41, rfl, (by kernel_rfl), rfl⟩, ?_⟩
        refine List.forall_mem_cons.2 ⟨k_ld (a) (by kernel_rfl) rfl rfl ⟨41, rfl, (by kernel_rfl), rfl⟩, ?_⟩
        refine List.forall_mem_cons.2 ⟨k_ld (plusT a 32) (by kernel_rfl) rfl rfl ⟨41, rfl, (by kernel_rfl), rfl⟩, ?_⟩
        refine List.forall_mem_cons.2 ⟨k_b2 (a) (plusT a 32) (by kernel_rfl) rfl (by kernel_rfl) rfl rfl ⟨41, rfl, (by kernel_rfl), rfl⟩, ?_⟩
        refine List.forall_mem_cons.2 ⟨k_s1 [a, plusT a 32] (.agg (cells (sqs [a, plusT a 32]))) (by kernel_rfl) (by kernel_rfl) rfl (fun v w h => seq_any [a, plusT a 32] v w h (by simp)) rfl ⟨41, rfl, (by kernel_rfl), rfl⟩, ?_⟩
        refine List.forall_mem_cons.2 ⟨k_b2 (a) (sqs [a, plusT a 32]) (by kernel_rfl) rfl (by kernel_rfl) rfl rfl ⟨41, rfl, (by kernel_rfl), rfl⟩, ?_⟩
        refine List.forall_mem_cons.2 ⟨k_s1 [a, sqs [a, plusT a 32]] (.agg (cells (uni [a, sqs [a, plusT a 32]]))) (by kernel_rfl) (by kernel_rfl) rfl (fun v w h => uni_any [a, sqs [a, plusT a 32]] v w h (by simp)) rfl ⟨41, rfl, (by kernel_rfl), rfl⟩, ?_⟩
        refine List.forall_mem_cons.2 ⟨k_ld (plusT a 32) (by kernel_rfl) rfl rfl ⟨41, rfl, (by kernel_rfl), rfl⟩, ?_⟩
        refine List.forall_mem_cons.2 ⟨k_eq (uni [a, sqs [a, plusT a 32]]) (plusT a 32) true (by kernel_rfl) (by kernel_rfl) rfl rfl rfl (eqB_of (lst5 a)) ⟨41, rfl, (by kernel_rfl), rfl⟩, ?_⟩
        refine List.forall_mem_cons.2 ⟨k_pt (by kernel_rfl) (by kernel_rfl) rfl rfl trivial, ?_⟩
        refine List.forall_mem_cons.2 ⟨k_as (by kernel_rfl) rfl trivial, ?_⟩
        intro _ h; cases h
      case outer =>
        intro x hx
        simp only [List.mem_cons, List.not_mem_nil, or_false] at hx
        rcases hx with rfl | rfl | rfl
        · exact ⟨w.heap.size, rfl, hA6.drew⟩
        · exact ⟨gp, rfl, hP6.drew⟩
        · exact ⟨gq, rfl, hQ6.drew⟩
      intro f w8 hg8 hf
      have hv : f 36 = .bool true := hf 36 4 rfl
      simp only [putF, Act.put, List.setIfInBounds_toArray, List.set_cons_zero, List.set_cons_succ, hv]
      go_wp2
      go_ret
      exact ⟨rfl, Grow.trans hG6 hg8⟩


set_option maxRecDepth 100000 in
theorem lifted (os : Os) (started : os.Started) (H : Type) (enc : TypeId × Value → H) :
    ReturnsInHanded {} Try.checked os 3 .any (Rows.relLeastSpec.pre6 enc Try.prog Try.f3 Rows.relLeastRow.domain false) (Rows.relLeastSpec.post enc Try.prog Try.f3 false true false false) := by
  refine returnsInHanded_of_change (C := Try.checked) own started (by kernel_rfl) Try.func3
    (ChangeSpec.witness6 (enc := enc) (C := Try.checked) false ⟨#[], #[.agg (Array.replicate 32 (.int .u32 0)), .agg (Array.replicate 32 (.int .u32 0))], []⟩ 8 (by kernel_rfl) (by kernel_rfl) (by kernel_rfl) (by kernel_rfl)) ?_
  intro W base args ds gs before hval0 hW hcnd _
  have hval : ∀ (j : Nat) t v, Try.f3.params[j]? = some t → args[j]? = some v → Value.okWide Try.prog W .any base t v := hval0
  have hW' := hW
  obtain ⟨p, q, hA0, hV, rfl, hfz, hnd⟩ := hW
  have hA : DataW.TrodAll enc Try.prog W 0 (fun _ => true) true Try.f3.params.toList args.toList ds p := hA0
  rw [Try.params3] at hA hval
  obtain ⟨v0, vs0, d0, ds0, p0, q0, hargs, rfl, rfl, h0, r0⟩ := trodAll_cons hA
  obtain ⟨v1, vs1, d1, ds1, p1, q1, rfl, rfl, rfl, h1, r1⟩ := trodAll_cons r0
  obtain ⟨rfl, rfl, rfl⟩ := trodAll_nil r1
  obtain rfl : args = #[v0, v1] := by cases args; simp_all
  obtain ⟨rfl, rfl⟩ := trodVars_none hV
  have k0 := h0
  have lt0 : ∀ x ∈ p0, x.block < W.heap.size := by obtain ⟨m, hm⟩ := k0; exact DataW.trod_lt m _ _ _ hm
  obtain ⟨a0, rfl⟩ := open_rel (hval 0 25 v0 rfl rfl) h0
  have k1 := h1
  have lt1 : ∀ x ∈ p1, x.block < W.heap.size := by obtain ⟨m, hm⟩ := k1; exact DataW.trod_lt m _ _ _ hm
  obtain ⟨a1, rfl⟩ := open_rel (hval 1 25 v1 rfl rfl) h1
  clear hA0 hval0
  refine (walk a0 a1 W).mono fun e W' ⟨he, bel⟩ => ?_
  subst he
  exact ⟨_, rfl, _, _, _, [], _, [], hW', trodAll_mk1 (shut_bool Try.underlying4 _), (trodAll_cons_mk (Below.trod laidOut (by kernel_rfl) (of_decide_eq_true (by kernel_rfl)) k0 bel lt0) (trodAll_cons_mk (Below.trod laidOut (by kernel_rfl) (of_decide_eq_true (by kernel_rfl)) k1 bel lt1) trodAll_mk0)), rfl, bel.frame _, fun h => by cases h⟩

theorem over : Rows.relLeastRow.holds Try.pinned (OpenSpec.ofChange Rows.relLeastSpec) :=
  OpenClaim.holds_of_wide 3 Try.f3 rfl rfl rfl rfl rfl rfl rfl ⟨rfl, rfl, rfl, rfl, rfl⟩ rfl rfl rfl rfl rfl (by kernel_rfl) Try.func3 (by kernel_rfl)
    (of_decide_eq_true (by kernel_rfl)) (by unfold Func.isWrapper; first | (rw [if_pos (by decide +kernel)]; kernel_rfl) | (rw [if_neg (by decide +kernel)]; exact ⟨rfl, rfl⟩))
    (fun os started H enc _ => lifted os started H enc)

theorem proved : Rows.RelLeastSaid := over
end Go.Proofs.Ytlbccddhcbcpoab.relLeast
namespace Go.Proofs.Ytlbccddhcbcpoab
theorem relLeast_holds : Rows.RelLeastSaid := relLeast.proved
end Go.Proofs.Ytlbccddhcbcpoab
#print axioms Go.Proofs.Ytlbccddhcbcpoab.relLeast_holds
