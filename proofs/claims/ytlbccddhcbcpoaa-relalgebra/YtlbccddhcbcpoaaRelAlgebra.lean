/- RelAlgebra returns true for every three relations, and leaves its arguments as they were: sequences do not ask for grouping, an inverse turns them round, they spread over unions, differences and meets make the whole; no condition. -/
import Derived.Test.YtlbccddhcbcpoaaRows
import Derived.Test.YtlbccddhcbcpoaaArgs
namespace Go.Proofs.Ytlbccddhcbcpoaa.relAlgebra
open Go.ChangeShapes Go.WideShapes Go.ChangeAt Go.RowKit
set_option linter.unusedVariables false

theorem own : ownKnob Try.prog.godebug = none := by kernel_rfl
theorem laidOut : laidOutB Try.prog = true := by kernel_rfl

theorem alg1 (a b c : Rl) : sqs [sqs [a, b], c] = sqs [a, sqs [b, c]] := rl_ext fun x y => by
  simp only [has_sqs2]
  exact ⟨fun ⟨u, ⟨v, h1, h2⟩, h3⟩ => ⟨v, h1, u, h2, h3⟩, fun ⟨v, h1, u, h2, h3⟩ => ⟨u, ⟨v, h1, h2⟩, h3⟩⟩
theorem alg2 (a b c : Rl) : sqs [a, b, c] = sqs [sqs [a, b], c] := by rw [sqs3, sqs2, sqs2]
theorem alg3 (a b : Rl) : invT (sqs [a, b]) 32 = sqs [invT b 32, invT a 32] := rl_ext fun x y => by
  simp only [has_inv, has_sqs2]
  exact ⟨fun ⟨u, h1, h2⟩ => ⟨u, h2, h1⟩, fun ⟨u, h1, h2⟩ => ⟨u, h2, h1⟩⟩
theorem alg4 (a b c : Rl) : sqs [a, uni [b, c]] = uni [sqs [a, b], sqs [a, c]] := rl_ext fun x y => by
  simp only [has_uni2, has_sqs2]
  constructor
  · rintro ⟨u, h1, h2 | h2⟩
    · exact .inl ⟨u, h1, h2⟩
    · exact .inr ⟨u, h1, h2⟩
  · rintro (⟨u, h1, h2⟩ | ⟨u, h1, h2⟩)
    · exact ⟨u, h1, .inl h2⟩
    · exact ⟨u, h1, .inr h2⟩
theorem alg5 (a : Rl) : invT (invT a 32) 32 = a := rl_ext fun x y => by simp only [has_inv]
theorem alg6 (a b : Rl) : uni [mns a b, met [a, b]] = a := rl_ext fun x y => by
  simp only [has_uni2, has_mns, has_met2]
  constructor
  · rintro (h | h)
    · exact h.1
    · exact h.1
  · intro h
    by_cases hb : has b x y
    · exact .inr ⟨h, hb⟩
    · exact .inl ⟨h, hb⟩
theorem alg7 (a b : Rl) : eqB (met [mns a b, b]) nil = true := (empty_iff _).2 fun x y h => by
  simp only [has_met2, has_mns] at h
  exact h.1.2 h.2
theorem alg8 (a b : Rl) : uni [a, b] = uni [b, a, a] := rl_ext fun x y => by
  simp only [has_uni2, has_uni3]
  constructor
  · rintro (h | h)
    · exact .inr (.inl h)
    · exact .inl h
  · rintro (h | h | h)
    · exact .inr h
    · exact .inl h
    · exact .inl h
theorem alg9 : idr allS = idr (fst 32) := rfl
theorem no_of {x y : Rl} (h : x = y) : (!eqB x y) = false := by rw [eqB_of h]; rfl

attribute [local irreducible] wpList cells row U aft inn one nil part upd idr crs mns eqB evB stepP plusT invT uni met sqs or2 and2 seq2 allS lst nums prs prt pcs pairT pairS irrB acyB hasB fst pA pB pC has domT 

set_option maxRecDepth 100000 in
set_option maxHeartbeats 4000000 in
theorem walk (a b c : Rl) (w : World) : Calls Try.prog 8 #[.agg (cells a), .agg (cells b), .agg (cells c)] w fun e w' => e = .returned (.bool true) ∧ Grow w w' := by
  have hA0 := ((At.new w a).alloc (.cells (cells b) 28)).alloc (.cells (cells c) 28)
  have hB0 : At (((w.alloc (.cells (cells a) 28)).alloc (.cells (cells b) 28)).alloc (.cells (cells c) 28)) (w.heap.size + 1) b := by simpa using (At.new (w.alloc (.cells (cells a) 28)) b).alloc (.cells (cells c) 28)
  have hC0 : At (((w.alloc (.cells (cells a) 28)).alloc (.cells (cells b) 28)).alloc (.cells (cells c) 28)) (w.heap.size + 2) c := by simpa using At.new ((w.alloc (.cells (cells a) 28)).alloc (.cells (cells b) 28)) c
  have hG0 : Grow w (((w.alloc (.cells (cells a) 28)).alloc (.cells (cells b) 28)).alloc (.cells (cells c) 28)) := (((Grow.refl w).alloc _).alloc _).alloc _
  go_enter Try.func8, Try.ntmps8
  go_wp2_with (go_at_call 9; refine (able_any _).mono ?_; rintro e w1 ⟨rfl, hg1⟩)
  have hA1 := hA0.grow hg1
  have hB1 := hB0.grow hg1
  have hC1 := hC0.grow hg1
  have hG1 := Grow.trans hG0 hg1
  clear hA0 hB0 hC0 hG0 hg1
  refine told (tabOf ([(3, .ptr (a)), (4, .ptr (b)), (5, .ptr (c))] ++ [(9, .val (.agg (cells (a)))), (10, .val (.agg (cells (b)))), (11, .sl [a, b]), (12, .val (.agg (cells (sqs [a, b])))), (13, .val (.agg (cells (c)))), (14, .sl [sqs [a, b], c]), (15, .val (.agg (cells (sqs [sqs [a, b], c])))), (16, .val (.agg (cells (a)))), (17, .val (.agg (cells (b)))), (18, .val (.agg (cells (c)))), (19, .sl [b, c]), (20, .val (.agg (cells (sqs [b, c])))), (21, .sl [a, sqs [b, c]]), (22, .val (.agg (cells (sqs [a, sqs [b, c]])))), (23, .val (.bool false)), (24, .val (.bool false)), (25, .val (.agg (cells (a)))), (26, .val (.agg (cells (b)))), (27, .val (.agg (cells (c)))), (28, .sl [a, b, c]), (29, .val (.agg (cells (sqs [a, b, c])))), (30, .val (.agg (cells (a)))), (31, .val (.agg (cells (b)))), (32, .sl [a, b]), (33, .val (.agg (cells (sqs [a, b])))), (34, .val (.agg (cells (c)))), (35, .sl [sqs [a, b], c]), (36, .val (.agg (cells (sqs [sqs [a, b], c])))), (37, .val (.bool false)), (38, .val (.bool false)), (39, .val (.bool false)), (40, .val (.agg (cells (a)))), (41, .val (.agg (cells (b)))), (42, .sl [a, b]), (43, .val (.agg (cells (sqs [a, b])))), (44, .val (.agg (cells (invT (sqs [a, b]) 32)))), (45, .val (.agg (cells (b)))), (46, .val (.agg (cells (invT (b) 32)))), (47, .val (.agg (cells (a)))), (48, .val (.agg (cells (invT (a) 32)))), (49, .sl [invT (b) 32, invT (a) 32]), (50, .val (.agg (cells (sqs [invT (b) 32, invT (a) 32])))), (51, .val (.bool false)), (52, .val (.bool false))])) (by kernel_rfl) (by kernel_rfl) (tab_out _ _ (by kernel_rfl) ?outer1) ?each1 ?last1
  case each1 =>
    refine List.forall_mem_cons.2 ⟨k_ld (a) (by kernel_rfl) rfl rfl trivial, ?_⟩
    refine List.forall_mem_cons.2 ⟨k_ld (b) (by kernel_rfl) rfl rfl trivial, ?_⟩
    refine List.forall_mem_cons.2 ⟨k_b2 (a) (b) (by kernel_rfl) rfl (by kernel_rfl) rfl rfl trivial, ?_⟩
    refine List.forall_mem_cons.2 ⟨k_s1 [a, b] (.agg (cells (sqs [a, b]))) (by kernel_rfl) (by kernel_rfl) rfl (fun v w h => seq_any [a, b] v w h (by simp)) rfl trivial, ?_⟩
    refine List.forall_mem_cons.2 ⟨k_ld (c) (by kernel_rfl) rfl rfl trivial, ?_⟩
    refine List.forall_mem_cons.2 ⟨k_b2 (sqs [a, b]) (c) (by kernel_rfl) rfl (by kernel_rfl) rfl rfl trivial, ?_⟩
    refine List.forall_mem_cons.2 ⟨k_s1 [sqs [a, b], c] (.agg (cells (sqs [sqs [a, b], c]))) (by kernel_rfl) (by kernel_rfl) rfl (fun v w h => seq_any [sqs [a, b], c] v w h (by simp)) rfl trivial, ?_⟩
    refine List.forall_mem_cons.2 ⟨k_ld (a) (by kernel_rfl) rfl rfl trivial, ?_⟩
    refine List.forall_mem_cons.2 ⟨k_ld (b) (by kernel_rfl) rfl rfl trivial, ?_⟩
    refine List.forall_mem_cons.2 ⟨k_ld (c) (by kernel_rfl) rfl rfl trivial, ?_⟩
    refine List.forall_mem_cons.2 ⟨k_b2 (b) (c) (by kernel_rfl) rfl (by kernel_rfl) rfl rfl trivial, ?_⟩
    refine List.forall_mem_cons.2 ⟨k_s1 [b, c] (.agg (cells (sqs [b, c]))) (by kernel_rfl) (by kernel_rfl) rfl (fun v w h => seq_any [b, c] v w h (by simp)) rfl trivial, ?_⟩
    refine List.forall_mem_cons.2 ⟨k_b2 (a) (sqs [b, c]) (by kernel_rfl) rfl (by kernel_rfl) rfl rfl trivial, ?_⟩
    refine List.forall_mem_cons.2 ⟨k_s1 [a, sqs [b, c]] (.agg (cells (sqs [a, sqs [b, c]]))) (by kernel_rfl) (by kernel_rfl) rfl (fun v w h => seq_any [a, sqs [b, c]] v w h (by simp)) rfl trivial, ?_⟩
    refine List.forall_mem_cons.2 ⟨k_ne (sqs [sqs [a, b], c]) (sqs [a, sqs [b, c]]) false (by kernel_rfl) (by kernel_rfl) rfl rfl rfl (no_of (alg1 a b c)) trivial, ?_⟩
    refine List.forall_mem_cons.2 ⟨k_mv (by kernel_rfl) rfl trivial, ?_⟩
    refine List.forall_mem_cons.2 ⟨k_ld (a) (by kernel_rfl) rfl rfl ⟨24, rfl, (by kernel_rfl), rfl⟩, ?_⟩
    refine List.forall_mem_cons.2 ⟨k_ld (b) (by kernel_rfl) rfl rfl ⟨24, rfl, (by kernel_rfl), rfl⟩, ?_⟩
    refine List.forall_mem_cons.2 ⟨k_ld (c) (by kernel_rfl) rfl rfl ⟨24, rfl, (by kernel_rfl), rfl⟩, ?_⟩
    refine List.forall_mem_cons.2 ⟨k_b3 (a) (b) (c) (by kernel_rfl) rfl (by kernel_rfl) rfl (by kernel_rfl) rfl rfl ⟨24, rfl, (by kernel_rfl), rfl⟩, ?_⟩
    refine List.forall_mem_cons.2 ⟨k_s1 [a, b, c] (.agg (cells (sqs [a, b, c]))) (by kernel_rfl) (by kernel_rfl) rfl (fun v w h => seq_any [a, b, c] v w h (by simp)) rfl ⟨24, rfl, (by kernel_rfl), rfl⟩, ?_⟩
    refine List.forall_mem_cons.2 ⟨k_ld (a) (by kernel_rfl) rfl rfl ⟨24, rfl, (by kernel_rfl), rfl⟩, ?_⟩
    refine List.forall_mem_cons.2 ⟨k_ld (b) (by kernel_rfl) rfl rfl ⟨24, rfl, (by kernel_rfl), rfl⟩, ?_⟩
    refine List.forall_mem_cons.2 ⟨k_b2 (a) (b) (by kernel_rfl) rfl (by kernel_rfl) rfl rfl ⟨24, rfl, (by kernel_rfl), rfl⟩, ?_⟩
    refine List.forall_mem_cons.2 ⟨k_s1 [a, b] (.agg (cells (sqs [a, b]))) (by kernel_rfl) (by kernel_rfl) rfl (fun v w h => seq_any [a, b] v w h (by simp)) rfl ⟨24, rfl, (by kernel_rfl), rfl⟩, ?_⟩
    refine List.forall_mem_cons.2 ⟨k_ld (c) (by kernel_rfl) rfl rfl ⟨24, rfl, (by kernel_rfl), rfl⟩, ?_⟩
    refine List.forall_mem_cons.2 ⟨k_b2 (sqs [a, b]) (c) (by kernel_rfl) rfl (by kernel_rfl) rfl rfl ⟨24, rfl, (by kernel_rfl), rfl⟩, ?_⟩
    refine List.forall_mem_cons.2 ⟨k_s1 [sqs [a, b], c] (.agg (cells (sqs [sqs [a, b], c]))) (by kernel_rfl) (by kernel_rfl) rfl (fun v w h => seq_any [sqs [a, b], c] v w h (by simp)) rfl ⟨24, rfl, (by kernel_rfl), rfl⟩, ?_⟩
    refine List.forall_mem_cons.2 ⟨k_ne (sqs [a, b, c]) (sqs [sqs [a, b], c]) false (by kernel_rfl) (by kernel_rfl) rfl rfl rfl (no_of (alg2 a b c)) ⟨24, rfl, (by kernel_rfl), rfl⟩, ?_⟩
    refine List.forall_mem_cons.2 ⟨k_pf (by kernel_rfl) (by kernel_rfl) rfl rfl trivial, ?_⟩
    refine List.forall_mem_cons.2 ⟨k_mv (by kernel_rfl) rfl trivial, ?_⟩
    refine List.forall_mem_cons.2 ⟨k_ld (a) (by kernel_rfl) rfl rfl ⟨39, rfl, (by kernel_rfl), rfl⟩, ?_⟩
    refine List.forall_mem_cons.2 ⟨k_ld (b) (by kernel_rfl) rfl rfl ⟨39, rfl, (by kernel_rfl), rfl⟩, ?_⟩
    refine List.forall_mem_cons.2 ⟨k_b2 (a) (b) (by kernel_rfl) rfl (by kernel_rfl) rfl rfl ⟨39, rfl, (by kernel_rfl), rfl⟩, ?_⟩
    refine List.forall_mem_cons.2 ⟨k_s1 [a, b] (.agg (cells (sqs [a, b]))) (by kernel_rfl) (by kernel_rfl) rfl (fun v w h => seq_any [a, b] v w h (by simp)) rfl ⟨39, rfl, (by kernel_rfl), rfl⟩, ?_⟩
    refine List.forall_mem_cons.2 ⟨k_c1 (.agg (cells (sqs [a, b]))) (.agg (cells (invT (sqs [a, b]) 32))) (by kernel_rfl) (by kernel_rfl) rfl (inv_any (sqs [a, b])) rfl ⟨39, rfl, (by kernel_rfl), rfl⟩, ?_⟩
    refine List.forall_mem_cons.2 ⟨k_ld (b) (by kernel_rfl) rfl rfl ⟨39, rfl, (by kernel_rfl), rfl⟩, ?_⟩
    refine List.forall_mem_cons.2 ⟨k_c1 (.agg (cells (b))) (.agg (cells (invT (b) 32))) (by kernel_rfl) (by kernel_rfl) rfl (inv_any (b)) rfl ⟨39, rfl, (by kernel_rfl), rfl⟩, ?_⟩
    refine List.forall_mem_cons.2 ⟨k_ld (a) (by kernel_rfl) rfl rfl ⟨39, rfl, (by kernel_rfl), rfl⟩, ?_⟩
    refine List.forall_mem_cons.2 ⟨k_c1 (.agg (cells (a))) (.agg (cells (invT (a) 32))) (by kernel_rfl) (by kernel_rfl) rfl (inv_any (a)) rfl ⟨39, rfl, (by kernel_rfl), rfl⟩, ?_⟩
    refine List.forall_mem_cons.2 ⟨k_b2 (invT (b) 32) (invT (a) 32) (by kernel_rfl) rfl (by kernel_rfl) rfl rfl ⟨39, rfl, (by kernel_rfl), rfl⟩, ?_⟩
    refine List.forall_mem_cons.2 ⟨k_s1 [invT (b) 32, invT (a) 32] (.agg (cells (sqs [invT (b) 32, invT (a) 32]))) (by kernel_rfl) (by kernel_rfl) rfl (fun v w h => seq_any [invT (b) 32, invT (a) 32] v w h (by simp)) rfl ⟨39, rfl, (by kernel_rfl), rfl⟩, ?_⟩
    refine List.forall_mem_cons.2 ⟨k_ne (invT (sqs [a, b]) 32) (sqs [invT (b) 32, invT (a) 32]) false (by kernel_rfl) (by kernel_rfl) rfl rfl rfl (no_of (alg3 a b)) ⟨39, rfl, (by kernel_rfl), rfl⟩, ?_⟩
    refine List.forall_mem_cons.2 ⟨k_pf (by kernel_rfl) (by kernel_rfl) rfl rfl trivial, ?_⟩
    intro _ h; cases h
  case outer1 =>
    intro x hx
    simp only [List.mem_cons, List.not_mem_nil, or_false] at hx
    rcases hx with rfl | rfl | rfl
    · exact ⟨w.heap.size, rfl, hA1.drew⟩
    · exact ⟨w.heap.size + 1, rfl, hB1.drew⟩
    · exact ⟨w.heap.size + 2, rfl, hC1.drew⟩
  intro f1 w2 hg2 hf
  have hv : f1 43 = .bool false := hf 43 52 rfl
  simp only [putF, Act.put, List.setIfInBounds_toArray, List.set_cons_zero, List.set_cons_succ, hv]
  go_wp2
  have hA2 := hA1.grow hg2
  have hB2 := hB1.grow hg2
  have hC2 := hC1.grow hg2
  have hG2 := Grow.trans hG1 hg2
  clear hA1 hB1 hC1 hG1 hg2 hf hv
  refine told (tabOf ([(3, .ptr (a)), (4, .ptr (b)), (5, .ptr (c))] ++ [(53, .val (.agg (cells (a)))), (54, .val (.agg (cells (b)))), (55, .val (.agg (cells (c)))), (56, .sl [b, c]), (57, .val (.agg (cells (uni [b, c])))), (58, .sl [a, uni [b, c]]), (59, .val (.agg (cells (sqs [a, uni [b, c]])))), (60, .val (.agg (cells (a)))), (61, .val (.agg (cells (b)))), (62, .sl [a, b]), (63, .val (.agg (cells (sqs [a, b])))), (64, .val (.agg (cells (a)))), (65, .val (.agg (cells (c)))), (66, .sl [a, c]), (67, .val (.agg (cells (sqs [a, c])))), (68, .sl [sqs [a, b], sqs [a, c]]), (69, .val (.agg (cells (uni [sqs [a, b], sqs [a, c]])))), (70, .val (.bool false)), (71, .val (.bool false)), (72, .val (.agg (cells (a)))), (73, .val (.agg (cells (invT (a) 32)))), (74, .val (.agg (cells (invT (invT (a) 32) 32)))), (75, .val (.agg (cells (a)))), (76, .val (.bool false)), (77, .val (.bool false))])) (by kernel_rfl) (by kernel_rfl) (tab_out _ _ (by kernel_rfl) ?outer2) ?each2 ?last2
  case each2 =>
    refine List.forall_mem_cons.2 ⟨k_ld (a) (by kernel_rfl) rfl rfl trivial, ?_⟩
    refine List.forall_mem_cons.2 ⟨k_ld (b) (by kernel_rfl) rfl rfl trivial, ?_⟩
    refine List.forall_mem_cons.2 ⟨k_ld (c) (by kernel_rfl) rfl rfl trivial, ?_⟩
    refine List.forall_mem_cons.2 ⟨k_b2 (b) (c) (by kernel_rfl) rfl (by kernel_rfl) rfl rfl trivial, ?_⟩
    refine List.forall_mem_cons.2 ⟨k_s1 [b, c] (.agg (cells (uni [b, c]))) (by kernel_rfl) (by kernel_rfl) rfl (fun v w h => uni_any [b, c] v w h (by simp)) rfl trivial, ?_⟩
    refine List.forall_mem_cons.2 ⟨k_b2 (a) (uni [b, c]) (by kernel_rfl) rfl (by kernel_rfl) rfl rfl trivial, ?_⟩
    refine List.forall_mem_cons.2 ⟨k_s1 [a, uni [b, c]] (.agg (cells (sqs [a, uni [b, c]]))) (by kernel_rfl) (by kernel_rfl) rfl (fun v w h => seq_any [a, uni [b, c]] v w h (by simp)) rfl trivial, ?_⟩
    refine List.forall_mem_cons.2 ⟨k_ld (a) (by kernel_rfl) rfl rfl trivial, ?_⟩
    refine List.forall_mem_cons.2 ⟨k_ld (b) (by kernel_rfl) rfl rfl trivial, ?_⟩
    refine List.forall_mem_cons.2 ⟨k_b2 (a) (b) (by kernel_rfl) rfl (by kernel_rfl) rfl rfl trivial, ?_⟩
    refine List.forall_mem_cons.2 ⟨k_s1 [a, b] (.agg (cells (sqs [a, b]))) (by kernel_rfl) (by kernel_rfl) rfl (fun v w h => seq_any [a, b] v w h (by simp)) rfl trivial, ?_⟩
    refine List.forall_mem_cons.2 ⟨k_ld (a) (by kernel_rfl) rfl rfl trivial, ?_⟩
    refine List.forall_mem_cons.2 ⟨k_ld (c) (by kernel_rfl) rfl rfl trivial, ?_⟩
    refine List.forall_mem_cons.2 ⟨k_b2 (a) (c) (by kernel_rfl) rfl (by kernel_rfl) rfl rfl trivial, ?_⟩
    refine List.forall_mem_cons.2 ⟨k_s1 [a, c] (.agg (cells (sqs [a, c]))) (by kernel_rfl) (by kernel_rfl) rfl (fun v w h => seq_any [a, c] v w h (by simp)) rfl trivial, ?_⟩
    refine List.forall_mem_cons.2 ⟨k_b2 (sqs [a, b]) (sqs [a, c]) (by kernel_rfl) rfl (by kernel_rfl) rfl rfl trivial, ?_⟩
    refine List.forall_mem_cons.2 ⟨k_s1 [sqs [a, b], sqs [a, c]] (.agg (cells (uni [sqs [a, b], sqs [a, c]]))) (by kernel_rfl) (by kernel_rfl) rfl (fun v w h => uni_any [sqs [a, b], sqs [a, c]] v w h (by simp)) rfl trivial, ?_⟩
    refine List.forall_mem_cons.2 ⟨k_ne (sqs [a, uni [b, c]]) (uni [sqs [a, b], sqs [a, c]]) false (by kernel_rfl) (by kernel_rfl) rfl rfl rfl (no_of (alg4 a b c)) trivial, ?_⟩
    refine List.forall_mem_cons.2 ⟨k_mv (by kernel_rfl) rfl trivial, ?_⟩
    refine List.forall_mem_cons.2 ⟨k_ld (a) (by kernel_rfl) rfl rfl ⟨71, rfl, (by kernel_rfl), rfl⟩, ?_⟩
    refine List.forall_mem_cons.2 ⟨k_c1 (.agg (cells (a))) (.agg (cells (invT (a) 32))) (by kernel_rfl) (by kernel_rfl) rfl (inv_any (a)) rfl ⟨71, rfl, (by kernel_rfl), rfl⟩, ?_⟩
    refine List.forall_mem_cons.2 ⟨k_c1 (.agg (cells (invT (a) 32))) (.agg (cells (invT (invT (a) 32) 32))) (by kernel_rfl) (by kernel_rfl) rfl (inv_any (invT (a) 32)) rfl ⟨71, rfl, (by kernel_rfl), rfl⟩, ?_⟩
    refine List.forall_mem_cons.2 ⟨k_ld (a) (by kernel_rfl) rfl rfl ⟨71, rfl, (by kernel_rfl), rfl⟩, ?_⟩
    refine List.forall_mem_cons.2 ⟨k_ne (invT (invT (a) 32) 32) (a) false (by kernel_rfl) (by kernel_rfl) rfl rfl rfl (no_of (alg5 a)) ⟨71, rfl, (by kernel_rfl), rfl⟩, ?_⟩
    refine List.forall_mem_cons.2 ⟨k_pf (by kernel_rfl) (by kernel_rfl) rfl rfl trivial, ?_⟩
    intro _ h; cases h
  case outer2 =>
    intro x hx
    simp only [List.mem_cons, List.not_mem_nil, or_false] at hx
    rcases hx with rfl | rfl | rfl
    · exact ⟨w.heap.size, rfl, hA2.drew⟩
    · exact ⟨w.heap.size + 1, rfl, hB2.drew⟩
    · exact ⟨w.heap.size + 2, rfl, hC2.drew⟩
  intro f2 w3 hg3 hf
  have hv : f2 24 = .bool false := hf 24 77 rfl
  simp only [putF, Act.put, List.setIfInBounds_toArray, List.set_cons_zero, List.set_cons_succ, hv]
  go_wp2
  have hA3 := hA2.grow hg3
  have hB3 := hB2.grow hg3
  have hC3 := hC2.grow hg3
  have hG3 := Grow.trans hG2 hg3
  clear hA2 hB2 hC2 hG2 hg3 hf hv
  refine told (tabOf ([(3, .ptr (a)), (4, .ptr (b)), (5, .ptr (c))] ++ [(78, .val (.agg (cells (a)))), (79, .val (.agg (cells (b)))), (80, .val (.agg (cells (mns (a) (b))))), (81, .val (.agg (cells (a)))), (82, .val (.agg (cells (b)))), (83, .sl [a, b]), (84, .val (.agg (cells (met [a, b])))), (85, .sl [mns (a) (b), met [a, b]]), (86, .val (.agg (cells (uni [mns (a) (b), met [a, b]])))), (87, .val (.agg (cells (a)))), (88, .val (.bool true)), (89, .val (.bool true)), (90, .val (.agg (cells (a)))), (91, .val (.agg (cells (b)))), (92, .val (.agg (cells (mns (a) (b))))), (93, .val (.agg (cells (b)))), (94, .sl [mns (a) (b), b]), (95, .val (.agg (cells (met [mns (a) (b), b])))), (96, .val (.bool true)), (97, .val (.bool true)), (98, .val (.bool true)), (99, .val (.agg (cells (a)))), (100, .val (.agg (cells (b)))), (101, .sl [a, b]), (102, .val (.agg (cells (uni [a, b])))), (103, .val (.agg (cells (b)))), (104, .val (.agg (cells (a)))), (105, .val (.agg (cells (a)))), (106, .sl [b, a, a]), (107, .val (.agg (cells (uni [b, a, a])))), (108, .val (.bool true)), (109, .val (.bool true)), (110, .val (.bool true)), (111, .val (.agg (cells (idr allS)))), (112, .val (.int .u32 (U (fst 32)))), (113, .val (.agg (cells (idr (fst 32))))), (114, .val (.bool true)), (115, .val (.bool true)), (6, .val (.bool true))])) (by kernel_rfl) (by kernel_rfl) (tab_out _ _ (by kernel_rfl) ?outer3) ?each3 ?last3
  case each3 =>
    refine List.forall_mem_cons.2 ⟨k_ld (a) (by kernel_rfl) rfl rfl trivial, ?_⟩
    refine List.forall_mem_cons.2 ⟨k_ld (b) (by kernel_rfl) rfl rfl trivial, ?_⟩
    refine List.forall_mem_cons.2 ⟨k_c2 (.agg (cells (a))) (.agg (cells (b))) (.agg (cells (mns (a) (b)))) (by kernel_rfl) (by kernel_rfl) rfl (by kernel_rfl) rfl (mns_any (a) (b)) rfl trivial, ?_⟩
    refine List.forall_mem_cons.2 ⟨k_ld (a) (by kernel_rfl) rfl rfl trivial, ?_⟩
    refine List.forall_mem_cons.2 ⟨k_ld (b) (by kernel_rfl) rfl rfl trivial, ?_⟩
    refine List.forall_mem_cons.2 ⟨k_b2 (a) (b) (by kernel_rfl) rfl (by kernel_rfl) rfl rfl trivial, ?_⟩
    refine List.forall_mem_cons.2 ⟨k_s1 [a, b] (.agg (cells (met [a, b]))) (by kernel_rfl) (by kernel_rfl) rfl (fun v w h => met_any [a, b] v w h (by simp)) rfl trivial, ?_⟩
    refine List.forall_mem_cons.2 ⟨k_b2 (mns (a) (b)) (met [a, b]) (by kernel_rfl) rfl (by kernel_rfl) rfl rfl trivial, ?_⟩
    refine List.forall_mem_cons.2 ⟨k_s1 [mns (a) (b), met [a, b]] (.agg (cells (uni [mns (a) (b), met [a, b]]))) (by kernel_rfl) (by kernel_rfl) rfl (fun v w h => uni_any [mns (a) (b), met [a, b]] v w h (by simp)) rfl trivial, ?_⟩
    refine List.forall_mem_cons.2 ⟨k_ld (a) (by kernel_rfl) rfl rfl trivial, ?_⟩
    refine List.forall_mem_cons.2 ⟨k_eq (uni [mns (a) (b), met [a, b]]) (a) true (by kernel_rfl) (by kernel_rfl) rfl rfl rfl (eqB_of (alg6 a b)) trivial, ?_⟩
    refine List.forall_mem_cons.2 ⟨k_mv (by kernel_rfl) rfl trivial, ?_⟩
    refine List.forall_mem_cons.2 ⟨k_ld (a) (by kernel_rfl) rfl rfl ⟨89, rfl, (by kernel_rfl), rfl⟩, ?_⟩
    refine List.forall_mem_cons.2 ⟨k_ld (b) (by kernel_rfl) rfl rfl ⟨89, rfl, (by kernel_rfl), rfl⟩, ?_⟩
    refine List.forall_mem_cons.2 ⟨k_c2 (.agg (cells (a))) (.agg (cells (b))) (.agg (cells (mns (a) (b)))) (by kernel_rfl) (by kernel_rfl) rfl (by kernel_rfl) rfl (mns_any (a) (b)) rfl ⟨89, rfl, (by kernel_rfl), rfl⟩, ?_⟩
    refine List.forall_mem_cons.2 ⟨k_ld (b) (by kernel_rfl) rfl rfl ⟨89, rfl, (by kernel_rfl), rfl⟩, ?_⟩
    refine List.forall_mem_cons.2 ⟨k_b2 (mns (a) (b)) (b) (by kernel_rfl) rfl (by kernel_rfl) rfl rfl ⟨89, rfl, (by kernel_rfl), rfl⟩, ?_⟩
    refine List.forall_mem_cons.2 ⟨k_s1 [mns (a) (b), b] (.agg (cells (met [mns (a) (b), b]))) (by kernel_rfl) (by kernel_rfl) rfl (fun v w h => met_any [mns (a) (b), b] v w h (by simp)) rfl ⟨89, rfl, (by kernel_rfl), rfl⟩, ?_⟩
    refine List.forall_mem_cons.2 ⟨k_c1 (.agg (cells (met [mns (a) (b), b]))) (.bool true) (by kernel_rfl) (by kernel_rfl) rfl (fun w => calls_val (empty_any (met [mns (a) (b), b]) w) (congrArg Value.bool (alg7 a b))) rfl ⟨89, rfl, (by kernel_rfl), rfl⟩, ?_⟩
    refine List.forall_mem_cons.2 ⟨k_pt (by kernel_rfl) (by kernel_rfl) rfl rfl trivial, ?_⟩
    refine List.forall_mem_cons.2 ⟨k_mv (by kernel_rfl) rfl trivial, ?_⟩
    refine List.forall_mem_cons.2 ⟨k_ld (a) (by kernel_rfl) rfl rfl ⟨98, rfl, (by kernel_rfl), rfl⟩, ?_⟩
    refine List.forall_mem_cons.2 ⟨k_ld (b) (by kernel_rfl) rfl rfl ⟨98, rfl, (by kernel_rfl), rfl⟩, ?_⟩
    refine List.forall_mem_cons.2 ⟨k_b2 (a) (b) (by kernel_rfl) rfl (by kernel_rfl) rfl rfl ⟨98, rfl, (by kernel_rfl), rfl⟩, ?_⟩
    refine List.forall_mem_cons.2 ⟨k_s1 [a, b] (.agg (cells (uni [a, b]))) (by kernel_rfl) (by kernel_rfl) rfl (fun v w h => uni_any [a, b] v w h (by simp)) rfl ⟨98, rfl, (by kernel_rfl), rfl⟩, ?_⟩
    refine List.forall_mem_cons.2 ⟨k_ld (b) (by kernel_rfl) rfl rfl ⟨98, rfl, (by kernel_rfl), rfl⟩, ?_⟩
    refine List.forall_mem_cons.2 ⟨k_ld (a) (by kernel_rfl) rfl rfl ⟨98, rfl, (by kernel_rfl), rfl⟩, ?_⟩
    refine List.forall_mem_cons.2 ⟨k_ld (a) (by kernel_rfl) rfl rfl ⟨98, rfl, (by kernel_rfl), rfl⟩, ?_⟩
    refine List.forall_mem_cons.2 ⟨k_b3 (b) (a) (a) (by kernel_rfl) rfl (by kernel_rfl) rfl (by kernel_rfl) rfl rfl ⟨98, rfl, (by kernel_rfl), rfl⟩, ?_⟩
    refine List.forall_mem_cons.2 ⟨k_s1 [b, a, a] (.agg (cells (uni [b, a, a]))) (by kernel_rfl) (by kernel_rfl) rfl (fun v w h => uni_any [b, a, a] v w h (by simp)) rfl ⟨98, rfl, (by kernel_rfl), rfl⟩, ?_⟩
    refine List.forall_mem_cons.2 ⟨k_eq (uni [a, b]) (uni [b, a, a]) true (by kernel_rfl) (by kernel_rfl) rfl rfl rfl (eqB_of (alg8 a b)) ⟨98, rfl, (by kernel_rfl), rfl⟩, ?_⟩
    refine List.forall_mem_cons.2 ⟨k_pt (by kernel_rfl) (by kernel_rfl) rfl rfl trivial, ?_⟩
    refine List.forall_mem_cons.2 ⟨k_mv (by kernel_rfl) rfl trivial, ?_⟩
    refine List.forall_mem_cons.2 ⟨k_k1 (.agg (cells (idr allS))) (by kernel_rfl) (fun w => sqs_nil w) rfl ⟨110, rfl, (by kernel_rfl), rfl⟩, ?_⟩
    refine List.forall_mem_cons.2 ⟨k_k1 (.int .u32 (U (fst 32))) (by kernel_rfl) (fun w => grow_of (first_any 32 w)) rfl ⟨110, rfl, (by kernel_rfl), rfl⟩, ?_⟩
    refine List.forall_mem_cons.2 ⟨k_c1 (.int .u32 (U (fst 32))) (.agg (cells (idr (fst 32)))) (by kernel_rfl) (by kernel_rfl) rfl (id_any (fst 32)) rfl ⟨110, rfl, (by kernel_rfl), rfl⟩, ?_⟩
    refine List.forall_mem_cons.2 ⟨k_eq (idr allS) (idr (fst 32)) true (by kernel_rfl) (by kernel_rfl) rfl rfl rfl (eqB_of alg9) ⟨110, rfl, (by kernel_rfl), rfl⟩, ?_⟩
    refine List.forall_mem_cons.2 ⟨k_pt (by kernel_rfl) (by kernel_rfl) rfl rfl trivial, ?_⟩
    refine List.forall_mem_cons.2 ⟨k_as (by kernel_rfl) rfl trivial, ?_⟩
    intro _ h; cases h
  case outer3 =>
    intro x hx
    simp only [List.mem_cons, List.not_mem_nil, or_false] at hx
    rcases hx with rfl | rfl | rfl
    · exact ⟨w.heap.size, rfl, hA3.drew⟩
    · exact ⟨w.heap.size + 1, rfl, hB3.drew⟩
    · exact ⟨w.heap.size + 2, rfl, hC3.drew⟩
  intro f3 w4 hg4 hf
  have hv : f3 38 = .bool true := hf 38 6 rfl
  simp only [putF, Act.put, List.setIfInBounds_toArray, List.set_cons_zero, List.set_cons_succ, hv]
  go_wp2
  go_ret
  exact ⟨rfl, Grow.trans hG3 hg4⟩


set_option maxRecDepth 100000 in
theorem lifted (os : Os) (started : os.Started) (H : Type) (enc : TypeId × Value → H) :
    ReturnsInHanded {} Try.checked os 8 .any (Rows.relAlgebraSpec.pre6 enc Try.prog Try.f8 Rows.relAlgebraRow.domain false) (Rows.relAlgebraSpec.post enc Try.prog Try.f8 false true false false) := by
  refine returnsInHanded_of_change (C := Try.checked) own started (by kernel_rfl) Try.func8
    (ChangeSpec.witness6 (enc := enc) (C := Try.checked) false ⟨#[], #[.agg (Array.replicate 32 (.int .u32 0)), .agg (Array.replicate 32 (.int .u32 0)), .agg (Array.replicate 32 (.int .u32 0))], []⟩ 8 (by kernel_rfl) (by kernel_rfl) (by kernel_rfl) (by kernel_rfl)) ?_
  intro W base args ds gs before hval0 hW hcnd _
  have hval : ∀ (j : Nat) t v, Try.f8.params[j]? = some t → args[j]? = some v → Value.okWide Try.prog W .any base t v := hval0
  have hW' := hW
  obtain ⟨p, q, hA0, hV, rfl, hfz, hnd⟩ := hW
  have hA : DataW.TrodAll enc Try.prog W 0 (fun _ => true) true Try.f8.params.toList args.toList ds p := hA0
  rw [Try.params8] at hA hval
  obtain ⟨v0, vs0, d0, ds0, p0, q0, hargs, rfl, rfl, h0, r0⟩ := trodAll_cons hA
  obtain ⟨v1, vs1, d1, ds1, p1, q1, rfl, rfl, rfl, h1, r1⟩ := trodAll_cons r0
  obtain ⟨v2, vs2, d2, ds2, p2, q2, rfl, rfl, rfl, h2, r2⟩ := trodAll_cons r1
  obtain ⟨rfl, rfl, rfl⟩ := trodAll_nil r2
  obtain rfl : args = #[v0, v1, v2] := by cases args; simp_all
  obtain ⟨rfl, rfl⟩ := trodVars_none hV
  have k0 := h0
  have lt0 : ∀ x ∈ p0, x.block < W.heap.size := by obtain ⟨m, hm⟩ := k0; exact DataW.trod_lt m _ _ _ hm
  obtain ⟨a0, rfl⟩ := open_rel (hval 0 28 v0 rfl rfl) h0
  have k1 := h1
  have lt1 : ∀ x ∈ p1, x.block < W.heap.size := by obtain ⟨m, hm⟩ := k1; exact DataW.trod_lt m _ _ _ hm
  obtain ⟨a1, rfl⟩ := open_rel (hval 1 28 v1 rfl rfl) h1
  have k2 := h2
  have lt2 : ∀ x ∈ p2, x.block < W.heap.size := by obtain ⟨m, hm⟩ := k2; exact DataW.trod_lt m _ _ _ hm
  obtain ⟨a2, rfl⟩ := open_rel (hval 2 28 v2 rfl rfl) h2
  clear hA0 hval0
  refine (walk a0 a1 a2 W).mono fun e W' ⟨he, bel⟩ => ?_
  subst he
  exact ⟨_, rfl, _, _, _, [], _, [], hW', trodAll_mk1 (shut_bool Try.underlying4 _), (trodAll_cons_mk (Below.trod laidOut (by kernel_rfl) (of_decide_eq_true (by kernel_rfl)) k0 bel lt0) (trodAll_cons_mk (Below.trod laidOut (by kernel_rfl) (of_decide_eq_true (by kernel_rfl)) k1 bel lt1) (trodAll_cons_mk (Below.trod laidOut (by kernel_rfl) (of_decide_eq_true (by kernel_rfl)) k2 bel lt2) trodAll_mk0))), rfl, bel.frame _, fun h => by cases h⟩

theorem over : Rows.relAlgebraRow.holds Try.pinned (OpenSpec.ofChange Rows.relAlgebraSpec) :=
  OpenClaim.holds_of_wide 8 Try.f8 rfl rfl rfl rfl rfl rfl rfl ⟨rfl, rfl, rfl, rfl, rfl⟩ rfl rfl rfl rfl rfl (by kernel_rfl) Try.func8 (by kernel_rfl)
    (of_decide_eq_true (by kernel_rfl)) (by unfold Func.isWrapper; first | (rw [if_pos (by decide +kernel)]; kernel_rfl) | (rw [if_neg (by decide +kernel)]; exact ⟨rfl, rfl⟩))
    (fun os started H enc _ => lifted os started H enc)

theorem proved : Rows.RelAlgebraSaid := over
end Go.Proofs.Ytlbccddhcbcpoaa.relAlgebra
namespace Go.Proofs.Ytlbccddhcbcpoaa
theorem relAlgebra_holds : Rows.RelAlgebraSaid := relAlgebra.proved
end Go.Proofs.Ytlbccddhcbcpoaa
#print axioms Go.Proofs.Ytlbccddhcbcpoaa.relAlgebra_holds
