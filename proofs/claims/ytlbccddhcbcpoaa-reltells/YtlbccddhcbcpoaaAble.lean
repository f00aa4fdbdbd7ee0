/- What 'able' returns: true. -/
import Derived.Test.YtlbccddhcbcpoaaTheory
namespace Go.Proofs.Ytlbccddhcbcpoaa
open Go.RowKit

theorem has_upd (r : Rl) (k : Nat) (hk : k < 32) (s : St) (a b : Nat) : has (upd r k s) a b ↔ (a = k ∧ inn s b = true) ∨ (a ≠ k ∧ has r a b) := by
  unfold has
  by_cases h : a = k
  · subst h; rw [row_upd_same _ _ _ hk]; simp
  · rw [row_upd_other _ _ _ _ h]; simp [h]
theorem has_pair1 (x y : Nat) (hx : x < 32) (hy : y < 32) (a b : Nat) : has (pairT [((x : Int), (y : Int))]) a b ↔ a = x ∧ b = y := by
  have h1 : evB x = true := by unfold evB; simp; omega
  have h2 : evB y = true := by unfold evB; simp; omega
  show has (pairS nil ((x : Int), (y : Int))) a b ↔ _
  rw [pairS_yes h1 h2, has_upd _ _ hx, row_nil, inn_or, inn_zero, inn_one]
  simp [not_has_nil]
  intro _ h; omega
def pA : Rl := pairT [(0, 1)]
def pB : Rl := pairT [(1, 2)]
def pC : Rl := pairT [(0, 2)]
theorem has_pA (a b : Nat) : has pA a b ↔ a = 0 ∧ b = 1 := has_pair1 0 1 (by omega) (by omega) a b
theorem has_pB (a b : Nat) : has pB a b ↔ a = 1 ∧ b = 2 := has_pair1 1 2 (by omega) (by omega) a b
theorem has_pC (a b : Nat) : has pC a b ↔ a = 0 ∧ b = 2 := has_pair1 0 2 (by omega) (by omega) a b
theorem seq_AB : sqs [pA, pB] = pC := rl_ext fun a c => by
  rw [has_sqs2, has_pC]
  constructor
  · rintro ⟨b, h1, h2⟩; rw [has_pA] at h1; rw [has_pB] at h2; exact ⟨h1.1, h2.2⟩
  · rintro ⟨rfl, rfl⟩; exact ⟨1, (has_pA 0 1).2 ⟨rfl, rfl⟩, (has_pB 1 2).2 ⟨rfl, rfl⟩⟩
theorem able1 : hasB (sqs [pA, pB]) 0 2 = true := by rw [seq_AB]; exact (hasB_iff pC 0 2).2 ((has_pC 0 2).2 ⟨rfl, rfl⟩)
theorem prs_C : prs pC 32 = [(0, 2)] := by kernel_rfl
theorem able2 : (((prs (sqs [pA, pB]) 32).length : Int) == 1) = true := by rw [seq_AB, prs_C]; rfl
theorem able3 : hasB (plusT (uni [pA, pB]) 32) 0 2 = true := by
  refine (hasB_iff _ 0 2).2 ((has_plus _ _ _).2 (.join (b := 1) (.step ?_) (by omega) (.step ?_)))
  · exact (has_uni2 _ _ _ _).2 (.inl ((has_pA 0 1).2 ⟨rfl, rfl⟩))
  · exact (has_uni2 _ _ _ _).2 (.inr ((has_pB 1 2).2 ⟨rfl, rfl⟩))
theorem able4 : acyB (uni [pA, invT pA 32]) = false := by
  cases h : acyB (uni [pA, invT pA 32])
  · rfl
  · refine absurd ?_ ((acy_iff _).1 h 0)
    exact .join (b := 1) (.step ((has_uni2 _ _ _ _).2 (.inl ((has_pA 0 1).2 ⟨rfl, rfl⟩)))) (by omega) (.step ((has_uni2 _ _ _ _).2 (.inr ((has_inv _ _ _).2 ((has_pA 0 1).2 ⟨rfl, rfl⟩)))))
theorem able5 : (U (fst 3) == 7) = true := by decide
attribute [local irreducible] wpList cells row U aft inn one nil part upd idr crs mns eqB evB stepP plusT invT uni met sqs or2 and2 seq2 allS lst nums prs prt pcs pairT pairS irrB acyB hasB fst pA pB pC has
theorem pair_one (x y : Int) (b : Nat) (w : World) (hb : b < w.heap.size) (h0 : w.cell? ⟨b, 0, none⟩ = some (.int .i64 x)) (h1 : w.cell? ⟨b, 1, none⟩ = some (.int .i64 y)) :
    Calls Try.prog 14 #[.slice (some ⟨b, 0, none⟩) 1 1] w fun e w' => e = .returned (.agg (cells (pairT [(x, y)]))) ∧ Grow w w' :=
  pair_sl [(x, y)] b 0 1 w hb (by simp) (fun j x' y' hj => by
    match j, hj with
    | 0, hj => simp at hj; obtain ⟨rfl, rfl⟩ := hj; exact ⟨h0, h1⟩)
theorem pA_def : pairT [(0, 1)] = pA := by unfold pA; rfl
theorem pB_def : pairT [(1, 2)] = pB := by unfold pB; rfl

set_option maxHeartbeats 2000000 in
theorem able_any (w : World) : Calls Try.prog 9 #[] w fun x w' => x = .returned (.bool true) ∧ Grow w w' := by
  go_enter Try.func9, Try.ntmps9
  go_wp2_with fail
  refine (pair_one 0 1 _ _ (by simp) (by simp) (by simp)).mono ?_
  rintro e w1 ⟨rfl, hg1⟩
  rw [pA_def]
  go_wp2_with fail
  refine (pair_one 1 2 _ _ (by simp) (by simp) (by simp)).mono ?_
  rintro e w2 ⟨rfl, hg2⟩
  rw [pB_def]
  have hgw : Grow w w2 := Grow.trans (Grow.trans ((Grow.refl w).alloc _) hg1) (Grow.trans ((Grow.refl w1).alloc _) hg2)
  clear hg1 hg2
  have hnA : At ((w2.alloc (.cells (cells nil) 28)).alloc (.cells (cells nil) 28)) w2.heap.size nil := (At.new w2 nil).alloc _
  have hnB : At ((w2.alloc (.cells (cells nil) 28)).alloc (.cells (cells nil) 28)) (w2.heap.size + 1) nil := by simpa using At.new (w2.alloc (.cells (cells nil) 28)) nil
  have hA := (hnA.put (r' := pA)).put_other (r' := pB) (g' := w2.heap.size + 1) (by omega)
  have hnB1 := hnB.put_other (r' := pA) (g' := w2.heap.size) (by omega)
  have hB := hnB1.put (r' := pB)
  have hgB : Grow w ((((w2.alloc (.cells (cells nil) 28)).alloc (.cells (cells nil) 28)).setRow w2.heap.size (cells pA)).setRow (w2.heap.size + 1) (cells pB)) :=
    below_setRow (below_setRow (Grow.alloc (Grow.alloc hgw _) _) hgw.size _) (by have := hgw.size; omega) _
  go_wp2_with (first | (refine al w2.heap.size rfl ?_) | (refine al (w2.heap.size + 1) (by simp) ?_) | (refine al w4.heap.size rfl ?_) | (refine st w2.heap.size nil pA (by rfl) (by rfl) hnA ?_) | (refine st (w2.heap.size + 1) nil pB (by rfl) (by rfl) hnB1 ?_) | (refine ld w2.heap.size pA (by rfl) hA ?_) | (refine ld (w2.heap.size + 1) pB (by rfl) hB ?_) | (refine bs2 pA pB (by rfl) (by rfl) ?_; intro v3 w3 hg3 hs3) | (go_at_call 21; refine (seq_any [pA, pB] _ _ hs3 (by simp)).mono ?_; rintro e w4 ⟨rfl, hg4⟩) | (refine st w4.heap.size nil (sqs [pA, pB]) (by rfl) (by rfl) (At.new w4 nil) ?_))
  rw [World.setRow_alloc_new]
  have hA4 := (hA.grow hg3).grow hg4
  have hB4 := (hB.grow hg3).grow hg4
  have hG4 := Grow.trans (Grow.trans hgB hg3) hg4
  have hA5 := hA4.alloc (.cells (cells (sqs [pA, pB])) 28)
  have hB5 := hB4.alloc (.cells (cells (sqs [pA, pB])) 28)
  have hS5 := At.new w4 (sqs [pA, pB])
  have hG5 := Grow.alloc hG4 (.cells (cells (sqs [pA, pB])) 28)
  generalize w4.alloc (.cells (cells (sqs [pA, pB])) 28) = w5 at hA5 hB5 hS5 hG5 ⊢
  refine told (tabOf ([(1, .ptr (pA)), (2, .ptr (pB)), (3, .ptr (sqs [pA, pB]))] ++ [(14, .val (.agg (cells (sqs [pA, pB])))), (15, .val (.bool true)), (16, .val (.bool true)), (17, .val (.agg (cells (sqs [pA, pB])))), (18, .val (.int .i64 (((prs (sqs [pA, pB]) 32).length : Nat)))), (19, .val (.bool true)), (20, .val (.bool true)), (21, .val (.bool true)), (22, .val (.agg (cells (pA)))), (23, .val (.agg (cells (pB)))), (24, .sl [pA, pB]), (25, .val (.agg (cells (uni [pA, pB])))), (26, .val (.agg (cells (plusT (uni [pA, pB]) 32)))), (27, .val (.bool true)), (28, .val (.bool true)), (29, .val (.bool true)), (30, .val (.agg (cells (pA)))), (31, .val (.agg (cells (pA)))), (32, .val (.agg (cells (invT (pA) 32)))), (33, .sl [pA, invT (pA) 32]), (34, .val (.agg (cells (uni [pA, invT (pA) 32])))), (35, .val (.bool false)), (36, .val (.bool true)), (37, .val (.bool true)), (38, .val (.bool true)), (39, .val (.int .u32 (U (fst 3)))), (40, .val (.bool true)), (41, .val (.bool true)), (0, .val (.bool true))])) (by kernel_rfl) (by kernel_rfl) (tab_out _ _ (by kernel_rfl) ?outer) ?each ?last
  case each =>
    refine List.forall_mem_cons.2 ⟨k_ld (sqs [pA, pB]) (by kernel_rfl) rfl rfl trivial, ?_⟩
    refine List.forall_mem_cons.2 ⟨k_h (.agg (cells (sqs [pA, pB]))) (.bool true) (by kernel_rfl) (by kernel_rfl) rfl (fun w => calls_val (has_any (sqs [pA, pB]) 0 2 w) (congrArg Value.bool (able1))) rfl trivial, ?_⟩
    refine List.forall_mem_cons.2 ⟨k_mv (by kernel_rfl) rfl trivial, ?_⟩
    refine List.forall_mem_cons.2 ⟨k_ld (sqs [pA, pB]) (by kernel_rfl) rfl rfl ⟨16, rfl, (by kernel_rfl), rfl⟩, ?_⟩
    refine List.forall_mem_cons.2 ⟨k_c1 (.agg (cells (sqs [pA, pB]))) (.int .i64 (((prs (sqs [pA, pB]) 32).length : Nat))) (by kernel_rfl) (by kernel_rfl) rfl (count_any (sqs [pA, pB])) rfl ⟨16, rfl, (by kernel_rfl), rfl⟩, ?_⟩
    refine List.forall_mem_cons.2 ⟨k_bin (.int .i64 (((prs (sqs [pA, pB]) 32).length : Nat))) (.int .i64 1) (.bool true) (fun _ _ h => ⟨h 18 (by kernel_rfl), rfl⟩) rfl (eqi _ _ _ _ _ able2) ⟨16, rfl, (by kernel_rfl), rfl⟩, ?_⟩
    refine List.forall_mem_cons.2 ⟨k_pt (by kernel_rfl) (by kernel_rfl) rfl rfl trivial, ?_⟩
    refine List.forall_mem_cons.2 ⟨k_mv (by kernel_rfl) rfl trivial, ?_⟩
    refine List.forall_mem_cons.2 ⟨k_ld (pA) (by kernel_rfl) rfl rfl ⟨21, rfl, (by kernel_rfl), rfl⟩, ?_⟩
    refine List.forall_mem_cons.2 ⟨k_ld (pB) (by kernel_rfl) rfl rfl ⟨21, rfl, (by kernel_rfl), rfl⟩, ?_⟩
    refine List.forall_mem_cons.2 ⟨k_b2 (pA) (pB) (by kernel_rfl) rfl (by kernel_rfl) rfl rfl ⟨21, rfl, (by kernel_rfl), rfl⟩, ?_⟩
    refine List.forall_mem_cons.2 ⟨k_s1 [pA, pB] (.agg (cells (uni [pA, pB]))) (by kernel_rfl) (by kernel_rfl) rfl (fun v w h => uni_any [pA, pB] v w h (by simp)) rfl ⟨21, rfl, (by kernel_rfl), rfl⟩, ?_⟩
    refine List.forall_mem_cons.2 ⟨k_c1 (.agg (cells (uni [pA, pB]))) (.agg (cells (plusT (uni [pA, pB]) 32))) (by kernel_rfl) (by kernel_rfl) rfl (plus_any (uni [pA, pB])) rfl ⟨21, rfl, (by kernel_rfl), rfl⟩, ?_⟩
    refine List.forall_mem_cons.2 ⟨k_h (.agg (cells (plusT (uni [pA, pB]) 32))) (.bool true) (by kernel_rfl) (by kernel_rfl) rfl (fun w => calls_val (has_any (plusT (uni [pA, pB]) 32) 0 2 w) (congrArg Value.bool (able3))) rfl ⟨21, rfl, (by kernel_rfl), rfl⟩, ?_⟩
    refine List.forall_mem_cons.2 ⟨k_pt (by kernel_rfl) (by kernel_rfl) rfl rfl trivial, ?_⟩
    refine List.forall_mem_cons.2 ⟨k_mv (by kernel_rfl) rfl trivial, ?_⟩
    refine List.forall_mem_cons.2 ⟨k_ld (pA) (by kernel_rfl) rfl rfl ⟨29, rfl, (by kernel_rfl), rfl⟩, ?_⟩
    refine List.forall_mem_cons.2 ⟨k_ld (pA) (by kernel_rfl) rfl rfl ⟨29, rfl, (by kernel_rfl), rfl⟩, ?_⟩
    refine List.forall_mem_cons.2 ⟨k_c1 (.agg (cells (pA))) (.agg (cells (invT (pA) 32))) (by kernel_rfl) (by kernel_rfl) rfl (inv_any (pA)) rfl ⟨29, rfl, (by kernel_rfl), rfl⟩, ?_⟩
    refine List.forall_mem_cons.2 ⟨k_b2 (pA) (invT (pA) 32) (by kernel_rfl) rfl (by kernel_rfl) rfl rfl ⟨29, rfl, (by kernel_rfl), rfl⟩, ?_⟩
    refine List.forall_mem_cons.2 ⟨k_s1 [pA, invT (pA) 32] (.agg (cells (uni [pA, invT (pA) 32]))) (by kernel_rfl) (by kernel_rfl) rfl (fun v w h => uni_any [pA, invT (pA) 32] v w h (by simp)) rfl ⟨29, rfl, (by kernel_rfl), rfl⟩, ?_⟩
    refine List.forall_mem_cons.2 ⟨k_c1 (.agg (cells (uni [pA, invT (pA) 32]))) (.bool false) (by kernel_rfl) (by kernel_rfl) rfl (fun w => calls_val (acy_any (uni [pA, invT (pA) 32]) w) (congrArg Value.bool (able4))) rfl ⟨29, rfl, (by kernel_rfl), rfl⟩, ?_⟩
    refine List.forall_mem_cons.2 ⟨k_not false true (by kernel_rfl) rfl rfl rfl ⟨29, rfl, (by kernel_rfl), rfl⟩, ?_⟩
    refine List.forall_mem_cons.2 ⟨k_pt (by kernel_rfl) (by kernel_rfl) rfl rfl trivial, ?_⟩
    refine List.forall_mem_cons.2 ⟨k_mv (by kernel_rfl) rfl trivial, ?_⟩
    refine List.forall_mem_cons.2 ⟨k_k1 (.int .u32 (U (fst 3))) (by kernel_rfl) (fun w => grow_of (first_any 3 w)) rfl ⟨38, rfl, (by kernel_rfl), rfl⟩, ?_⟩
    refine List.forall_mem_cons.2 ⟨k_bin (.int .u32 (U (fst 3))) (.int .u32 7) (.bool true) (fun _ _ h => ⟨h 39 (by kernel_rfl), rfl⟩) rfl (eqi _ _ _ _ _ able5) ⟨38, rfl, (by kernel_rfl), rfl⟩, ?_⟩
    refine List.forall_mem_cons.2 ⟨k_pt (by kernel_rfl) (by kernel_rfl) rfl rfl trivial, ?_⟩
    refine List.forall_mem_cons.2 ⟨k_as (by kernel_rfl) rfl trivial, ?_⟩
    intro _ h; cases h
  case outer =>
    intro x hx
    simp only [List.mem_cons, List.not_mem_nil, or_false] at hx
    rcases hx with rfl | rfl | rfl
    · exact ⟨w2.heap.size, rfl, hA5.drew⟩
    · exact ⟨w2.heap.size + 1, rfl, hB5.drew⟩
    · exact ⟨w4.heap.size, rfl, hS5.drew⟩
  case last =>
    intro f w' hg hf
    have hv : f 28 = .bool true := hf 28 0 rfl
    simp only [putF, Act.put, List.setIfInBounds_toArray, List.set_cons_zero, List.set_cons_succ]
    go_wp2
    go_ret
    exact ⟨congrArg Ending.returned hv, Grow.trans hG5 hg⟩

end Go.Proofs.Ytlbccddhcbcpoaa
