/- RelSides returns true for every two sets and every relation, and leaves its arguments as they were: a product has its sets for sides, if neither is empty; a relation lies within the product of its sides; cut to sets it is what goes from the one to the other; no condition. -/
import Derived.Test.YtlbccddhcbcpoabRows
import Derived.Test.YtlbccddhcbcpoabArgs
import Derived.Deep.Cut
namespace Go.Proofs.Ytlbccddhcbcpoab.relSides
open Go.ChangeShapes Go.WideShapes Go.ChangeAt Go.RowKit
set_option linter.unusedVariables false

theorem own : ownKnob Try.prog.godebug = none := by kernel_rfl
theorem laidOut : laidOutB Try.prog = true := by kernel_rfl

theorem sd1 (r : Rl) : eqB (mns r (crs (domT r 32) (aft allS r 32))) nil = true := (empty_iff _).2 fun x y h => by
  rw [has_mns, has_crs, inn_dom, inn_range] at h
  exact h.2 ⟨⟨y, h.1⟩, ⟨x, h.1⟩⟩
theorem lst_none (n : Nat) : lst 0#32 n = [] := by unfold lst; simp [inn_zero]
theorem count_crs (a b : St) : ∀ n, n ≤ 32 → (prs (crs a b) n).length = (lst a n).length * (lst b 32).length
  | 0, _ => by simp [prs_zero, lst_zero]
  | n + 1, h => by
    rw [prs_succ, List.length_append, List.length_map, count_crs a b n (by omega), row_crs a b n (by omega)]
    cases hn : inn a n
    · rw [lst_no hn]; simp [lst_none]
    · rw [lst_yes hn, List.length_append, Nat.add_mul]; simp
theorem sd2 (a b : St) : (prs (crs a b) 32).length = (lst a 32).length * (lst b 32).length := count_crs a b 32 (Nat.le_refl _)
theorem lst_one (a : St) (k : Nat) : ∀ n, n ≤ 32 → (lst (a &&& one k) n).length = if inn a k = true ∧ k < n then 1 else 0
  | 0, _ => by simp [lst_zero]
  | n + 1, h => by
    by_cases hkn : n = k
    · subst hkn
      cases hn : inn a n
      · have : inn (a &&& one n) n = false := by rw [inn_and, hn]; rfl
        rw [lst_no this, lst_one a n n (by omega)]; simp [hn]
      · have : inn (a &&& one n) n = true := by rw [inn_and, hn, inn_one]; simp; omega
        rw [lst_yes this, List.length_append, lst_one a n n (by omega)]; simp
    · have : inn (a &&& one k) n = false := by rw [inn_and, inn_one]; simp [hkn]
      rw [lst_no this, lst_one a k n (by omega)]
      by_cases h1 : inn a k = true
      · by_cases h2 : k < n
        · simp [h1, h2]; omega
        · have : ¬ k < n + 1 := by omega
          simp [h2, this]
      · simp [h1]
theorem count_idr (a : St) : ∀ n, n ≤ 32 → (prs (idr a) n).length = (lst a n).length
  | 0, _ => by simp [prs_zero, lst_zero]
  | n + 1, h => by
    rw [prs_succ, List.length_append, List.length_map, count_idr a n (by omega), row_idr a n (by omega), lst_one a n 32 (Nat.le_refl _)]
    cases hn : inn a n
    · rw [lst_no hn]; simp
    · have : n < 32 := by omega
      rw [lst_yes hn, List.length_append]; simp [this]
theorem sd5 (a : St) : (((prs (idr a) 32).length : Int) == ((lst a 32).length : Int)) = true := by rw [count_idr a 32 (Nat.le_refl _)]; simp
theorem sd3 (a b : St) (r : Rl) : sqs [idr a, r, idr b] = met [r, crs a b] := rl_ext fun x y => by
  rw [sqs3, has_seq2]
  simp only [has_seq2, has_idr, has_met2, has_crs]
  constructor
  · rintro ⟨u, ⟨v, ⟨rfl, h1⟩, h2⟩, rfl, h3⟩; exact ⟨h2, h1, h3⟩
  · rintro ⟨h1, h2, h3⟩; exact ⟨y, ⟨x, ⟨rfl, h2⟩, h1⟩, rfl, h3⟩
theorem sd4 (r : Rl) : domT (invT r 32) 32 = aft allS r 32 := st_ext' fun e => by
  rw [inn_dom, inn_range]; simp only [has_inv]
theorem sd4' (r : Rl) : (U (domT (invT r 32) 32) == U (aft allS r 32)) = true := by rw [sd4]; simp
theorem ne_zero {a : St} (h : a ≠ 0#32) : ∃ e, inn a e = true := by
  refine Classical.byContradiction fun hno => h (st_ext fun e _ => ?_)
  rw [inn_zero]
  cases he : inn a e
  · rfl
  · exact absurd ⟨e, he⟩ hno
theorem dom_crs {a b : St} (h : b ≠ 0#32) : domT (crs a b) 32 = a := st_ext' fun e => by
  rw [inn_dom]
  obtain ⟨u, hu⟩ := ne_zero h
  exact ⟨fun ⟨v, hv⟩ => ((has_crs a b e v).1 hv).1, fun he => ⟨u, (has_crs a b e u).2 ⟨he, hu⟩⟩⟩
theorem rng_crs {a b : St} (h : a ≠ 0#32) : aft allS (crs a b) 32 = b := st_ext' fun e => by
  rw [inn_range]
  obtain ⟨u, hu⟩ := ne_zero h
  exact ⟨fun ⟨v, hv⟩ => ((has_crs a b v e).1 hv).2, fun he => ⟨u, (has_crs a b u e).2 ⟨hu, he⟩⟩⟩
theorem empty_crs {a b : St} (h : a = 0#32 ∨ b = 0#32) : eqB (crs a b) nil = true := (empty_iff _).2 fun x y hxy => by
  rw [has_crs] at hxy
  rcases h with rfl | rfl
  · rw [inn_zero] at hxy; cases hxy.1
  · rw [inn_zero] at hxy; cases hxy.2
theorem full_crs {a b : St} (ha : a ≠ 0#32) (hb : b ≠ 0#32) : eqB (crs a b) nil = false := by
  cases h : eqB (crs a b) nil
  · rfl
  · obtain ⟨u, hu⟩ := ne_zero ha
    obtain ⟨v, hv⟩ := ne_zero hb
    exact absurd ((has_crs a b u v).2 ⟨hu, hv⟩) ((empty_iff _).1 h u v)
theorem z_yes {a : St} (h : a = 0#32) : (U a == 0) = true := by rw [h, U_zero]; rfl
theorem z_no {a : St} (h : a ≠ 0#32) : (U a == 0) = false := by rw [beq_eq_false_iff_ne]; intro e; exact h (U_inj (e.trans U_zero.symm))
theorem mul_run (x y : Operand) (a b : St) (w' : World) : (eqGuard .mul 3 x y (.int .i64 ((lst a 32).length : Nat)) (.int .i64 ((lst b 32).length : Nat))).run Try.prog w' = .ok () w' ∧
    (binOp .mul 3 (.int .i64 ((lst a 32).length : Nat)) (.int .i64 ((lst b 32).length : Nat))).run Try.prog w' = .ok (.int .i64 (((lst a 32).length * (lst b 32).length : Nat) : Int)) w' := by
  have h1 := lst_len a 32
  have h2 := lst_len b 32
  generalize (lst a 32).length = m at h1 ⊢
  generalize (lst b 32).length = n at h2 ⊢
  have h3 : m * n ≤ 32 * 32 := Nat.mul_le_mul h1 h2
  constructor
  · simp [eqGuard]
  · have : IntKind.i64.wrap ((m : Int) * (n : Int)) = ((m * n : Nat) : Int) := by
      rw [← Int.natCast_mul, IntKind.wrap_i64]; omega
    simp [binOp, Op.intArith, this]
theorem sd6 (a b : St) : (!(((prs (crs a b) 32).length : Int) == ((((lst a 32).length * (lst b 32).length : Nat)) : Int))) = false := by rw [sd2]; simp
theorem nz {x : Int} (h : (x == 0) = false) : (!(x == 0)) = true := by rw [h]; rfl
theorem zz {x : Int} (h : (x == 0) = true) : (!(x == 0)) = false := by rw [h]; rfl
theorem same {x y : St} (h : x = y) : (!(U x == U y)) = false := by rw [h]; simp

attribute [local irreducible] wpList cells row U aft inn one nil part upd idr crs mns eqB evB stepP plusT invT uni met sqs or2 and2 seq2 allS lst nums prs prt pcs pairT pairS irrB acyB hasB fst pA pB pC has domT 

set_option maxRecDepth 100000 in
set_option maxHeartbeats 8000000 in
theorem walk (a0 : Int) (w0 : (Lit.int .u32 a0).wf = true) (b0 : Int) (w1 : (Lit.int .u32 b0).wf = true) (r : Rl) (w : World) : Calls Try.prog 5 #[.int .u32 a0, .int .u32 b0, .agg (cells r)] w fun e w' => e = .returned (.bool true) ∧ Grow w w' := by
  obtain ⟨a, rfl⟩ := U_of_wf w0
  obtain ⟨b, rfl⟩ := U_of_wf w1
  clear w0 w1
  have hR0 := At.new w r
  have hG0 : Grow w (w.alloc (.cells (cells r) 25)) := (Grow.refl w).alloc _
  go_enter Try.func5, Try.ntmps5
  go_upto_region 4 with (first | (go_at_call 6; refine (able_any _).mono ?_; rintro e w1 ⟨rfl, hg1⟩) | (go_at_call 13; refine (crs_any a b _).mono ?_; rintro e w2 ⟨rfl, hg2⟩) | (refine al w2.heap.size rfl ?_) | (refine st w2.heap.size nil (crs a b) (by rfl) (by rfl) (At.new w2 nil) ?_))
  rw [World.setRow_alloc_new]
  have hR2 := ((hR0.grow hg1).grow hg2).alloc (.cells (cells (crs a b)) 25)
  have hG2 := Grow.alloc (Grow.trans (Grow.trans hG0 hg1) hg2) (.cells (cells (crs a b)) 25)
  have hC2 := At.new w2 (crs a b)
  clear hR0 hG0 hg1 hg2
  generalize w2.heap.size = gc at hC2 ⊢
  generalize w2.alloc (.cells (cells (crs a b)) 25) = w3 at hR2 hG2 hC2 ⊢
  by_cases ha : a = 0#32
  · have e1 := z_yes ha
    have e5 := empty_crs (a := a) (b := b) (.inl ha)
    clear ha
    refine toldp (tabOf ([(0, .val (.int .u32 (U (a)))), (1, .val (.int .u32 (U (b)))), (5, .ptr (r)), (7, .ptr (crs a b))] ++ [(13, .val (.int .u32 (U (a)))), (14, .val (.bool false)), (15, .val (.bool false)), (16, .val undef), (17, .val undef), (18, .val (.bool false)), (19, .val (.bool false)), (20, .val undef), (21, .val undef), (22, .val undef), (23, .val undef), (24, .val undef), (25, .val undef), (26, .val undef), (27, .val undef), (28, .val undef), (29, .val undef), (30, .val (.bool false)), (31, .val (.bool false)), (32, .val (.int .u32 (U (a)))), (33, .val (.bool true)), (34, .val (.bool true)), (35, .val undef), (36, .val undef), (37, .val (.bool true)), (38, .val (.agg (cells (crs a b)))), (39, .val (.bool true)), (40, .val (.bool false)), (41, .val (.bool false))])) (by kernel_rfl) (by kernel_rfl) (tab_out _ _ (by kernel_rfl) ?outeraa) ?eachaa ?lastaa
    case eachaa =>
      refine List.forall_mem_cons.2 ⟨.inl (k_mv (by kernel_rfl) rfl trivial), ?_⟩
      refine List.forall_mem_cons.2 ⟨.inl (k_bin (.int .u32 (U (a))) (.int .u32 0) (.bool false) (fun _ _ h => ⟨h 13 (by kernel_rfl), rfl⟩) rfl (nei _ _ _ _ _ (zz e1)) trivial), ?_⟩
      refine List.forall_mem_cons.2 ⟨.inl (k_mv (by kernel_rfl) rfl trivial), ?_⟩
      refine List.forall_mem_cons.2 ⟨.inr (k_skip 15 _ rfl rfl (by kernel_rfl) rfl (.inl rfl) (fun _ h => by cases h; rfl)), ?_⟩
      refine List.forall_mem_cons.2 ⟨.inr (k_skip 15 _ rfl rfl (by kernel_rfl) rfl (.inl rfl) (fun _ h => by cases h; rfl)), ?_⟩
      refine List.forall_mem_cons.2 ⟨.inl (k_pfc (by kernel_rfl) rfl rfl trivial), ?_⟩
      refine List.forall_mem_cons.2 ⟨.inl (k_mv (by kernel_rfl) rfl trivial), ?_⟩
      refine List.forall_mem_cons.2 ⟨.inr (k_skip 19 _ rfl rfl (by kernel_rfl) rfl (.inl rfl) (fun _ h => by cases h; rfl)), ?_⟩
      refine List.forall_mem_cons.2 ⟨.inr (k_skip 19 _ rfl rfl (by kernel_rfl) rfl (.inl rfl) (fun _ h => by cases h; rfl)), ?_⟩
      refine List.forall_mem_cons.2 ⟨.inr (k_skip 19 _ rfl rfl (by kernel_rfl) rfl (.inl rfl) (fun _ h => by cases h; rfl)), ?_⟩
      refine List.forall_mem_cons.2 ⟨.inr (k_skip 19 _ rfl rfl (by kernel_rfl) rfl (.inl rfl) (fun _ h => by cases h; rfl)), ?_⟩
      refine List.forall_mem_cons.2 ⟨.inr (k_skip 19 _ rfl rfl (by kernel_rfl) rfl (.inl rfl) (fun _ h => by cases h; rfl)), ?_⟩
      refine List.forall_mem_cons.2 ⟨.inr (k_skip 24 _ rfl rfl (by kernel_rfl) rfl (.inr rfl) (fun _ h => by cases h; rfl)), ?_⟩
      refine List.forall_mem_cons.2 ⟨.inr (k_skip 24 _ rfl rfl (by kernel_rfl) rfl (.inr rfl) (fun _ h => by cases h; rfl)), ?_⟩
      refine List.forall_mem_cons.2 ⟨.inr (k_skip 24 _ rfl rfl (by kernel_rfl) rfl (.inr rfl) (fun _ h => by cases h; rfl)), ?_⟩
      refine List.forall_mem_cons.2 ⟨.inr (k_skip 24 _ rfl rfl (by kernel_rfl) rfl (.inr rfl) (fun _ h => by cases h; rfl)), ?_⟩
      refine List.forall_mem_cons.2 ⟨.inr (k_skip 19 _ rfl rfl (by kernel_rfl) rfl (.inl rfl) (fun _ h => by cases h; rfl)), ?_⟩
      refine List.forall_mem_cons.2 ⟨.inl (k_pfc (by kernel_rfl) rfl rfl trivial), ?_⟩
      refine List.forall_mem_cons.2 ⟨.inl (k_mv (by kernel_rfl) rfl trivial), ?_⟩
      refine List.forall_mem_cons.2 ⟨.inl (k_mv (by kernel_rfl) rfl ⟨31, rfl, (by kernel_rfl), rfl⟩), ?_⟩
      refine List.forall_mem_cons.2 ⟨.inl (k_bin (.int .u32 (U (a))) (.int .u32 0) (.bool true) (fun _ _ h => ⟨h 32 (by kernel_rfl), rfl⟩) rfl (eqi _ _ _ _ _ e1) ⟨31, rfl, (by kernel_rfl), rfl⟩), ?_⟩
      refine List.forall_mem_cons.2 ⟨.inl (k_mv (by kernel_rfl) rfl ⟨31, rfl, (by kernel_rfl), rfl⟩), ?_⟩
      refine List.forall_mem_cons.2 ⟨.inr (k_skip 34 _ rfl rfl (by kernel_rfl) rfl (.inl rfl) (fun _ h => by cases h; rfl)), ?_⟩
      refine List.forall_mem_cons.2 ⟨.inr (k_skip 34 _ rfl rfl (by kernel_rfl) rfl (.inl rfl) (fun _ h => by cases h; rfl)), ?_⟩
      refine List.forall_mem_cons.2 ⟨.inl (k_ptc (by kernel_rfl) rfl rfl ⟨31, rfl, (by kernel_rfl), rfl⟩), ?_⟩
      refine List.forall_mem_cons.2 ⟨.inl (k_ld (crs a b) (by kernel_rfl) rfl rfl ⟨31, rfl, (by kernel_rfl), rfl⟩), ?_⟩
      refine List.forall_mem_cons.2 ⟨.inl (k_c1 (.agg (cells (crs a b))) (.bool true) (by kernel_rfl) (by kernel_rfl) rfl (fun w => calls_val (empty_any (crs a b) w) (congrArg Value.bool (e5))) rfl ⟨31, rfl, (by kernel_rfl), rfl⟩), ?_⟩
      refine List.forall_mem_cons.2 ⟨.inl (k_bin (.bool true) (.bool true) (.bool false) (fun _ _ h => ⟨h 37 (by kernel_rfl), h 39 (by kernel_rfl)⟩) rfl (neb _ _ _ _ _ rfl) ⟨31, rfl, (by kernel_rfl), rfl⟩), ?_⟩
      refine List.forall_mem_cons.2 ⟨.inl (k_pf (by kernel_rfl) (by kernel_rfl) rfl rfl trivial), ?_⟩
      intro _ h; cases h
    case outeraa =>
      intro x hx
      simp only [List.mem_cons, List.not_mem_nil, or_false] at hx
      rcases hx with rfl | rfl | rfl | rfl
      · exact rfl
      · exact rfl
      · exact ⟨w.heap.size, rfl, hR2⟩
      · exact ⟨gc, rfl, hC2⟩
    intro f1 w4 hg4 hf
    have hv : f1 28 = .bool false := hf 28 41 rfl
    simp only [putF, Act.put, List.setIfInBounds_toArray, List.set_cons_zero, List.set_cons_succ, hv]
    go_wp2
    have hR4 := hR2.grow hg4
    have hC4 := hC2.grow hg4
    have hG4 := Grow.trans hG2 hg4
    clear hR2 hC2 hG2 hg4 hf hv
    refine told (tabOf ([(0, .val (.int .u32 (U (a)))), (1, .val (.int .u32 (U (b)))), (5, .ptr (r)), (7, .ptr (crs a b))] ++ [(42, .val (.agg (cells (r)))), (43, .val (.agg (cells (r)))), (44, .val (.int .u32 (U (domT (r) 32)))), (45, .val (.agg (cells (r)))), (46, .val (.int .u32 (U (aft allS (r) 32)))), (47, .val (.agg (cells (crs (domT (r) 32) (aft allS (r) 32))))), (48, .val (.agg (cells (mns (r) (crs (domT (r) 32) (aft allS (r) 32)))))), (49, .val (.bool true)), (50, .val (.bool false)), (51, .val (.bool false)), (52, .val (.agg (cells (crs a b)))), (53, .val (.int .i64 (((prs (crs a b) 32).length : Nat)))), (54, .val (.int .u32 (U (a)))), (55, .any (fun v w => Il w v (lst (a) 32)) (fun _ _ _ hg h => Il.grow hg h)), (56, .val (.int .i64 (((lst (a) 32).length : Nat)))), (57, .val (.int .u32 (U (b)))), (58, .any (fun v w => Il w v (lst (b) 32)) (fun _ _ _ hg h => Il.grow hg h)), (59, .val (.int .i64 (((lst (b) 32).length : Nat)))), (60, .val (.int .i64 ((((lst (a) 32).length * (lst (b) 32).length : Nat) : Int)))), (61, .val (.bool false)), (62, .val (.bool false))])) (by kernel_rfl) (by kernel_rfl) (tab_out _ _ (by kernel_rfl) ?outerba) ?eachba ?lastba
    case eachba =>
      refine List.forall_mem_cons.2 ⟨k_ld (r) (by kernel_rfl) rfl rfl trivial, ?_⟩
      refine List.forall_mem_cons.2 ⟨k_ld (r) (by kernel_rfl) rfl rfl trivial, ?_⟩
      refine List.forall_mem_cons.2 ⟨k_c1 (.agg (cells (r))) (.int .u32 (U (domT (r) 32))) (by kernel_rfl) (by kernel_rfl) rfl (dom_any (r)) rfl trivial, ?_⟩
      refine List.forall_mem_cons.2 ⟨k_ld (r) (by kernel_rfl) rfl rfl trivial, ?_⟩
      refine List.forall_mem_cons.2 ⟨k_c1 (.agg (cells (r))) (.int .u32 (U (aft allS (r) 32))) (by kernel_rfl) (by kernel_rfl) rfl (rng_any (r)) rfl trivial, ?_⟩
      refine List.forall_mem_cons.2 ⟨k_c2 (.int .u32 (U (domT (r) 32))) (.int .u32 (U (aft allS (r) 32))) (.agg (cells (crs (domT (r) 32) (aft allS (r) 32)))) (by kernel_rfl) (by kernel_rfl) rfl (by kernel_rfl) rfl (crs_any (domT (r) 32) (aft allS (r) 32)) rfl trivial, ?_⟩
      refine List.forall_mem_cons.2 ⟨k_c2 (.agg (cells (r))) (.agg (cells (crs (domT (r) 32) (aft allS (r) 32)))) (.agg (cells (mns (r) (crs (domT (r) 32) (aft allS (r) 32))))) (by kernel_rfl) (by kernel_rfl) rfl (by kernel_rfl) rfl (mns_any (r) (crs (domT (r) 32) (aft allS (r) 32))) rfl trivial, ?_⟩
      refine List.forall_mem_cons.2 ⟨k_c1 (.agg (cells (mns (r) (crs (domT (r) 32) (aft allS (r) 32))))) (.bool true) (by kernel_rfl) (by kernel_rfl) rfl (fun w => calls_val (empty_any (mns (r) (crs (domT (r) 32) (aft allS (r) 32))) w) (congrArg Value.bool (sd1 r))) rfl trivial, ?_⟩
      refine List.forall_mem_cons.2 ⟨k_not true false (by kernel_rfl) rfl rfl rfl trivial, ?_⟩
      refine List.forall_mem_cons.2 ⟨k_mv (by kernel_rfl) rfl trivial, ?_⟩
      refine List.forall_mem_cons.2 ⟨k_ld (crs a b) (by kernel_rfl) rfl rfl ⟨51, rfl, (by kernel_rfl), rfl⟩, ?_⟩
      refine List.forall_mem_cons.2 ⟨k_c1 (.agg (cells (crs a b))) (.int .i64 (((prs (crs a b) 32).length : Nat))) (by kernel_rfl) (by kernel_rfl) rfl (count_any (crs a b)) rfl ⟨51, rfl, (by kernel_rfl), rfl⟩, ?_⟩
      refine List.forall_mem_cons.2 ⟨k_mv (by kernel_rfl) rfl ⟨51, rfl, (by kernel_rfl), rfl⟩, ?_⟩
      refine List.forall_mem_cons.2 ⟨k_a1 (.int .u32 (U (a))) (by kernel_rfl) (by kernel_rfl) rfl (fun w => Calls.mono (list_any (a) w) fun _ _ ⟨v, h1, h2, h3⟩ => ⟨v, h1, h2, own_zero h3⟩) ⟨51, rfl, (by kernel_rfl), rfl⟩, ?_⟩
      refine List.forall_mem_cons.2 ⟨k_len ((lst (a) 32).length) _ _ (by kernel_rfl) rfl (fun _ _ h => Il.form h) rfl ⟨51, rfl, (by kernel_rfl), rfl⟩, ?_⟩
      refine List.forall_mem_cons.2 ⟨k_mv (by kernel_rfl) rfl ⟨51, rfl, (by kernel_rfl), rfl⟩, ?_⟩
      refine List.forall_mem_cons.2 ⟨k_a1 (.int .u32 (U (b))) (by kernel_rfl) (by kernel_rfl) rfl (fun w => Calls.mono (list_any (b) w) fun _ _ ⟨v, h1, h2, h3⟩ => ⟨v, h1, h2, own_zero h3⟩) ⟨51, rfl, (by kernel_rfl), rfl⟩, ?_⟩
      refine List.forall_mem_cons.2 ⟨k_len ((lst (b) 32).length) _ _ (by kernel_rfl) rfl (fun _ _ h => Il.form h) rfl ⟨51, rfl, (by kernel_rfl), rfl⟩, ?_⟩
      refine List.forall_mem_cons.2 ⟨k_bin (.int .i64 (((lst (a) 32).length : Nat))) (.int .i64 (((lst (b) 32).length : Nat))) (.int .i64 ((((lst (a) 32).length * (lst (b) 32).length : Nat) : Int))) (fun _ _ h => ⟨h 56 (by kernel_rfl), h 59 (by kernel_rfl)⟩) rfl (mul_run _ _ a b) ⟨51, rfl, (by kernel_rfl), rfl⟩, ?_⟩
      refine List.forall_mem_cons.2 ⟨k_bin (.int .i64 (((prs (crs a b) 32).length : Nat))) (.int .i64 ((((lst (a) 32).length * (lst (b) 32).length : Nat) : Int))) (.bool false) (fun _ _ h => ⟨h 53 (by kernel_rfl), h 60 (by kernel_rfl)⟩) rfl (nei _ _ _ _ _ (sd6 a b)) ⟨51, rfl, (by kernel_rfl), rfl⟩, ?_⟩
      refine List.forall_mem_cons.2 ⟨k_pf (by kernel_rfl) (by kernel_rfl) rfl rfl trivial, ?_⟩
      intro _ h; cases h
    case outerba =>
      intro x hx
      simp only [List.mem_cons, List.not_mem_nil, or_false] at hx
      rcases hx with rfl | rfl | rfl | rfl
      · exact rfl
      · exact rfl
      · exact ⟨w.heap.size, rfl, hR4.drew⟩
      · exact ⟨gc, rfl, hC4.drew⟩
    intro f2 w5 hg5 hf
    have hv : f2 20 = .bool false := hf 20 62 rfl
    simp only [putF, Act.put, List.setIfInBounds_toArray, List.set_cons_zero, List.set_cons_succ, hv]
    go_wp2
    have hR5 := hR4.grow hg5
    have hC5 := hC4.grow hg5
    have hG5 := Grow.trans hG4 hg5
    clear hR4 hC4 hG4 hg5 hf hv
    refine told (tabOf ([(0, .val (.int .u32 (U (a)))), (1, .val (.int .u32 (U (b)))), (5, .ptr (r)), (7, .ptr (crs a b))] ++ [(63, .val (.int .u32 (U (a)))), (64, .val (.agg (cells (idr (a))))), (65, .val (.agg (cells (r)))), (66, .val (.int .u32 (U (b)))), (67, .val (.agg (cells (idr (b))))), (68, .sl [idr (a), r, idr (b)]), (69, .val (.agg (cells (sqs [idr (a), r, idr (b)])))), (70, .val (.agg (cells (r)))), (71, .val (.agg (cells (crs a b)))), (72, .sl [r, crs a b]), (73, .val (.agg (cells (met [r, crs a b])))), (74, .val (.bool true)), (75, .val (.bool true)), (76, .val (.agg (cells (r)))), (77, .val (.agg (cells (invT (r) 32)))), (78, .val (.int .u32 (U (domT (invT (r) 32) 32)))), (79, .val (.agg (cells (r)))), (80, .val (.int .u32 (U (aft allS (r) 32)))), (81, .val (.bool true)), (82, .val (.bool true)), (83, .val (.bool true)), (84, .val (.int .u32 (U (a)))), (85, .val (.agg (cells (idr (a))))), (86, .val (.int .i64 (((prs (idr (a)) 32).length : Nat)))), (87, .val (.int .u32 (U (a)))), (88, .any (fun v w => Il w v (lst (a) 32)) (fun _ _ _ hg h => Il.grow hg h)), (89, .val (.int .i64 (((lst (a) 32).length : Nat)))), (90, .val (.bool true)), (91, .val (.bool true)), (6, .val (.bool true))])) (by kernel_rfl) (by kernel_rfl) (tab_out _ _ (by kernel_rfl) ?outerca) ?eachca ?lastca
    case eachca =>
      refine List.forall_mem_cons.2 ⟨k_mv (by kernel_rfl) rfl trivial, ?_⟩
      refine List.forall_mem_cons.2 ⟨k_c1 (.int .u32 (U (a))) (.agg (cells (idr (a)))) (by kernel_rfl) (by kernel_rfl) rfl (id_any (a)) rfl trivial, ?_⟩
      refine List.forall_mem_cons.2 ⟨k_ld (r) (by kernel_rfl) rfl rfl trivial, ?_⟩
      refine List.forall_mem_cons.2 ⟨k_mv (by kernel_rfl) rfl trivial, ?_⟩
      refine List.forall_mem_cons.2 ⟨k_c1 (.int .u32 (U (b))) (.agg (cells (idr (b)))) (by kernel_rfl) (by kernel_rfl) rfl (id_any (b)) rfl trivial, ?_⟩
      refine List.forall_mem_cons.2 ⟨k_b3 (idr (a)) (r) (idr (b)) (by kernel_rfl) rfl (by kernel_rfl) rfl (by kernel_rfl) rfl rfl trivial, ?_⟩
      refine List.forall_mem_cons.2 ⟨k_s1 [idr (a), r, idr (b)] (.agg (cells (sqs [idr (a), r, idr (b)]))) (by kernel_rfl) (by kernel_rfl) rfl (fun v w h => seq_any [idr (a), r, idr (b)] v w h (by simp)) rfl trivial, ?_⟩
      refine List.forall_mem_cons.2 ⟨k_ld (r) (by kernel_rfl) rfl rfl trivial, ?_⟩
      refine List.forall_mem_cons.2 ⟨k_ld (crs a b) (by kernel_rfl) rfl rfl trivial, ?_⟩
      refine List.forall_mem_cons.2 ⟨k_b2 (r) (crs a b) (by kernel_rfl) rfl (by kernel_rfl) rfl rfl trivial, ?_⟩
      refine List.forall_mem_cons.2 ⟨k_s1 [r, crs a b] (.agg (cells (met [r, crs a b]))) (by kernel_rfl) (by kernel_rfl) rfl (fun v w h => met_any [r, crs a b] v w h (by simp)) rfl trivial, ?_⟩
      refine List.forall_mem_cons.2 ⟨k_eq (sqs [idr (a), r, idr (b)]) (met [r, crs a b]) true (by kernel_rfl) (by kernel_rfl) rfl rfl rfl (eqB_of (sd3 a b r)) trivial, ?_⟩
      refine List.forall_mem_cons.2 ⟨k_mv (by kernel_rfl) rfl trivial, ?_⟩
      refine List.forall_mem_cons.2 ⟨k_ld (r) (by kernel_rfl) rfl rfl ⟨75, rfl, (by kernel_rfl), rfl⟩, ?_⟩
      refine List.forall_mem_cons.2 ⟨k_c1 (.agg (cells (r))) (.agg (cells (invT (r) 32))) (by kernel_rfl) (by kernel_rfl) rfl (inv_any (r)) rfl ⟨75, rfl, (by kernel_rfl), rfl⟩, ?_⟩
      refine List.forall_mem_cons.2 ⟨k_c1 (.agg (cells (invT (r) 32))) (.int .u32 (U (domT (invT (r) 32) 32))) (by kernel_rfl) (by kernel_rfl) rfl (dom_any (invT (r) 32)) rfl ⟨75, rfl, (by kernel_rfl), rfl⟩, ?_⟩
      refine List.forall_mem_cons.2 ⟨k_ld (r) (by kernel_rfl) rfl rfl ⟨75, rfl, (by kernel_rfl), rfl⟩, ?_⟩
      refine List.forall_mem_cons.2 ⟨k_c1 (.agg (cells (r))) (.int .u32 (U (aft allS (r) 32))) (by kernel_rfl) (by kernel_rfl) rfl (rng_any (r)) rfl ⟨75, rfl, (by kernel_rfl), rfl⟩, ?_⟩
      refine List.forall_mem_cons.2 ⟨k_bin (.int .u32 (U (domT (invT (r) 32) 32))) (.int .u32 (U (aft allS (r) 32))) (.bool true) (fun _ _ h => ⟨h 78 (by kernel_rfl), h 80 (by kernel_rfl)⟩) rfl (eqi _ _ _ _ _ (sd4' r)) ⟨75, rfl, (by kernel_rfl), rfl⟩, ?_⟩
      refine List.forall_mem_cons.2 ⟨k_pt (by kernel_rfl) (by kernel_rfl) rfl rfl trivial, ?_⟩
      refine List.forall_mem_cons.2 ⟨k_mv (by kernel_rfl) rfl trivial, ?_⟩
      refine List.forall_mem_cons.2 ⟨k_mv (by kernel_rfl) rfl ⟨83, rfl, (by kernel_rfl), rfl⟩, ?_⟩
      refine List.forall_mem_cons.2 ⟨k_c1 (.int .u32 (U (a))) (.agg (cells (idr (a)))) (by kernel_rfl) (by kernel_rfl) rfl (id_any (a)) rfl ⟨83, rfl, (by kernel_rfl), rfl⟩, ?_⟩
      refine List.forall_mem_cons.2 ⟨k_c1 (.agg (cells (idr (a)))) (.int .i64 (((prs (idr (a)) 32).length : Nat))) (by kernel_rfl) (by kernel_rfl) rfl (count_any (idr (a))) rfl ⟨83, rfl, (by kernel_rfl), rfl⟩, ?_⟩
      refine List.forall_mem_cons.2 ⟨k_mv (by kernel_rfl) rfl ⟨83, rfl, (by kernel_rfl), rfl⟩, ?_⟩
      refine List.forall_mem_cons.2 ⟨k_a1 (.int .u32 (U (a))) (by kernel_rfl) (by kernel_rfl) rfl (fun w => Calls.mono (list_any (a) w) fun _ _ ⟨v, h1, h2, h3⟩ => ⟨v, h1, h2, own_zero h3⟩) ⟨83, rfl, (by kernel_rfl), rfl⟩, ?_⟩
      refine List.forall_mem_cons.2 ⟨k_len ((lst (a) 32).length) _ _ (by kernel_rfl) rfl (fun _ _ h => Il.form h) rfl ⟨83, rfl, (by kernel_rfl), rfl⟩, ?_⟩
      refine List.forall_mem_cons.2 ⟨k_bin (.int .i64 (((prs (idr (a)) 32).length : Nat))) (.int .i64 (((lst (a) 32).length : Nat))) (.bool true) (fun _ _ h => ⟨h 86 (by kernel_rfl), h 89 (by kernel_rfl)⟩) rfl (eqi _ _ _ _ _ (sd5 a)) ⟨83, rfl, (by kernel_rfl), rfl⟩, ?_⟩
      refine List.forall_mem_cons.2 ⟨k_pt (by kernel_rfl) (by kernel_rfl) rfl rfl trivial, ?_⟩
      refine List.forall_mem_cons.2 ⟨k_as (by kernel_rfl) rfl trivial, ?_⟩
      intro _ h; cases h
    case outerca =>
      intro x hx
      simp only [List.mem_cons, List.not_mem_nil, or_false] at hx
      rcases hx with rfl | rfl | rfl | rfl
      · exact rfl
      · exact rfl
      · exact ⟨w.heap.size, rfl, hR5.drew⟩
      · exact ⟨gc, rfl, hC5.drew⟩
    intro f3 w6 hg6 hf
    have hv : f3 29 = .bool true := hf 29 6 rfl
    simp only [putF, Act.put, List.setIfInBounds_toArray, List.set_cons_zero, List.set_cons_succ, hv]
    go_wp2
    go_ret
    exact ⟨rfl, Grow.trans hG5 hg6⟩
  · by_cases hb : b = 0#32
    · have e1 := z_no ha
      have e2 := z_yes hb
      have e5 := empty_crs (a := a) (b := b) (.inr hb)
      clear ha hb
      refine toldp (tabOf ([(0, .val (.int .u32 (U (a)))), (1, .val (.int .u32 (U (b)))), (5, .ptr (r)), (7, .ptr (crs a b))] ++ [(13, .val (.int .u32 (U (a)))), (14, .val (.bool true)), (15, .val (.bool true)), (16, .val (.int .u32 (U (b)))), (17, .val (.bool false)), (18, .val (.bool false)), (19, .val (.bool false)), (20, .val undef), (21, .val undef), (22, .val undef), (23, .val undef), (24, .val undef), (25, .val undef), (26, .val undef), (27, .val undef), (28, .val undef), (29, .val undef), (30, .val (.bool false)), (31, .val (.bool false)), (32, .val (.int .u32 (U (a)))), (33, .val (.bool false)), (34, .val (.bool false)), (35, .val (.int .u32 (U (b)))), (36, .val (.bool true)), (37, .val (.bool true)), (38, .val (.agg (cells (crs a b)))), (39, .val (.bool true)), (40, .val (.bool false)), (41, .val (.bool false))])) (by kernel_rfl) (by kernel_rfl) (tab_out _ _ (by kernel_rfl) ?outerab) ?eachab ?lastab
      case eachab =>
        refine List.forall_mem_cons.2 ⟨.inl (k_mv (by kernel_rfl) rfl trivial), ?_⟩
        refine List.forall_mem_cons.2 ⟨.inl (k_bin (.int .u32 (U (a))) (.int .u32 0) (.bool true) (fun _ _ h => ⟨h 13 (by kernel_rfl), rfl⟩) rfl (nei _ _ _ _ _ (nz e1)) trivial), ?_⟩
        refine List.forall_mem_cons.2 ⟨.inl (k_mv (by kernel_rfl) rfl trivial), ?_⟩
        refine List.forall_mem_cons.2 ⟨.inl (k_mv (by kernel_rfl) rfl ⟨15, rfl, (by kernel_rfl), rfl⟩), ?_⟩
        refine List.forall_mem_cons.2 ⟨.inl (k_bin (.int .u32 (U (b))) (.int .u32 0) (.bool false) (fun _ _ h => ⟨h 16 (by kernel_rfl), rfl⟩) rfl (nei _ _ _ _ _ (zz e2)) ⟨15, rfl, (by kernel_rfl), rfl⟩), ?_⟩
        refine List.forall_mem_cons.2 ⟨.inl (k_pt (by kernel_rfl) (by kernel_rfl) rfl rfl trivial), ?_⟩
        refine List.forall_mem_cons.2 ⟨.inl (k_mv (by kernel_rfl) rfl trivial), ?_⟩
        refine List.forall_mem_cons.2 ⟨.inr (k_skip 19 _ rfl rfl (by kernel_rfl) rfl (.inl rfl) (fun _ h => by cases h; rfl)), ?_⟩
        refine List.forall_mem_cons.2 ⟨.inr (k_skip 19 _ rfl rfl (by kernel_rfl) rfl (.inl rfl) (fun _ h => by cases h; rfl)), ?_⟩
        refine List.forall_mem_cons.2 ⟨.inr (k_skip 19 _ rfl rfl (by kernel_rfl) rfl (.inl rfl) (fun _ h => by cases h; rfl)), ?_⟩
        refine List.forall_mem_cons.2 ⟨.inr (k_skip 19 _ rfl rfl (by kernel_rfl) rfl (.inl rfl) (fun _ h => by cases h; rfl)), ?_⟩
        refine List.forall_mem_cons.2 ⟨.inr (k_skip 19 _ rfl rfl (by kernel_rfl) rfl (.inl rfl) (fun _ h => by cases h; rfl)), ?_⟩
        refine List.forall_mem_cons.2 ⟨.inr (k_skip 24 _ rfl rfl (by kernel_rfl) rfl (.inr rfl) (fun _ h => by cases h; rfl)), ?_⟩
        refine List.forall_mem_cons.2 ⟨.inr (k_skip 24 _ rfl rfl (by kernel_rfl) rfl (.inr rfl) (fun _ h => by cases h; rfl)), ?_⟩
        refine List.forall_mem_cons.2 ⟨.inr (k_skip 24 _ rfl rfl (by kernel_rfl) rfl (.inr rfl) (fun _ h => by cases h; rfl)), ?_⟩
        refine List.forall_mem_cons.2 ⟨.inr (k_skip 24 _ rfl rfl (by kernel_rfl) rfl (.inr rfl) (fun _ h => by cases h; rfl)), ?_⟩
        refine List.forall_mem_cons.2 ⟨.inr (k_skip 19 _ rfl rfl (by kernel_rfl) rfl (.inl rfl) (fun _ h => by cases h; rfl)), ?_⟩
        refine List.forall_mem_cons.2 ⟨.inl (k_pfc (by kernel_rfl) rfl rfl trivial), ?_⟩
        refine List.forall_mem_cons.2 ⟨.inl (k_mv (by kernel_rfl) rfl trivial), ?_⟩
        refine List.forall_mem_cons.2 ⟨.inl (k_mv (by kernel_rfl) rfl ⟨31, rfl, (by kernel_rfl), rfl⟩), ?_⟩
        refine List.forall_mem_cons.2 ⟨.inl (k_bin (.int .u32 (U (a))) (.int .u32 0) (.bool false) (fun _ _ h => ⟨h 32 (by kernel_rfl), rfl⟩) rfl (eqi _ _ _ _ _ e1) ⟨31, rfl, (by kernel_rfl), rfl⟩), ?_⟩
        refine List.forall_mem_cons.2 ⟨.inl (k_mv (by kernel_rfl) rfl ⟨31, rfl, (by kernel_rfl), rfl⟩), ?_⟩
        refine List.forall_mem_cons.2 ⟨.inl (k_mv (by kernel_rfl) rfl ⟨34, rfl, (by kernel_rfl), rfl⟩), ?_⟩
        refine List.forall_mem_cons.2 ⟨.inl (k_bin (.int .u32 (U (b))) (.int .u32 0) (.bool true) (fun _ _ h => ⟨h 35 (by kernel_rfl), rfl⟩) rfl (eqi _ _ _ _ _ e2) ⟨34, rfl, (by kernel_rfl), rfl⟩), ?_⟩
        refine List.forall_mem_cons.2 ⟨.inl (k_pf (by kernel_rfl) (by kernel_rfl) rfl rfl ⟨31, rfl, (by kernel_rfl), rfl⟩), ?_⟩
        refine List.forall_mem_cons.2 ⟨.inl (k_ld (crs a b) (by kernel_rfl) rfl rfl ⟨31, rfl, (by kernel_rfl), rfl⟩), ?_⟩
        refine List.forall_mem_cons.2 ⟨.inl (k_c1 (.agg (cells (crs a b))) (.bool true) (by kernel_rfl) (by kernel_rfl) rfl (fun w => calls_val (empty_any (crs a b) w) (congrArg Value.bool (e5))) rfl ⟨31, rfl, (by kernel_rfl), rfl⟩), ?_⟩
        refine List.forall_mem_cons.2 ⟨.inl (k_bin (.bool true) (.bool true) (.bool false) (fun _ _ h => ⟨h 37 (by kernel_rfl), h 39 (by kernel_rfl)⟩) rfl (neb _ _ _ _ _ rfl) ⟨31, rfl, (by kernel_rfl), rfl⟩), ?_⟩
        refine List.forall_mem_cons.2 ⟨.inl (k_pf (by kernel_rfl) (by kernel_rfl) rfl rfl trivial), ?_⟩
        intro _ h; cases h
      case outerab =>
        intro x hx
        simp only [List.mem_cons, List.not_mem_nil, or_false] at hx
        rcases hx with rfl | rfl | rfl | rfl
        · exact rfl
        · exact rfl
        · exact ⟨w.heap.size, rfl, hR2⟩
        · exact ⟨gc, rfl, hC2⟩
      intro f1 w4 hg4 hf
      have hv : f1 28 = .bool false := hf 28 41 rfl
      simp only [putF, Act.put, List.setIfInBounds_toArray, List.set_cons_zero, List.set_cons_succ, hv]
      go_wp2
      have hR4 := hR2.grow hg4
      have hC4 := hC2.grow hg4
      have hG4 := Grow.trans hG2 hg4
      clear hR2 hC2 hG2 hg4 hf hv
      refine told (tabOf ([(0, .val (.int .u32 (U (a)))), (1, .val (.int .u32 (U (b)))), (5, .ptr (r)), (7, .ptr (crs a b))] ++ [(42, .val (.agg (cells (r)))), (43, .val (.agg (cells (r)))), (44, .val (.int .u32 (U (domT (r) 32)))), (45, .val (.agg (cells (r)))), (46, .val (.int .u32 (U (aft allS (r) 32)))), (47, .val (.agg (cells (crs (domT (r) 32) (aft allS (r) 32))))), (48, .val (.agg (cells (mns (r) (crs (domT (r) 32) (aft allS (r) 32)))))), (49, .val (.bool true)), (50, .val (.bool false)), (51, .val (.bool false)), (52, .val (.agg (cells (crs a b)))), (53, .val (.int .i64 (((prs (crs a b) 32).length : Nat)))), (54, .val (.int .u32 (U (a)))), (55, .any (fun v w => Il w v (lst (a) 32)) (fun _ _ _ hg h => Il.grow hg h)), (56, .val (.int .i64 (((lst (a) 32).length : Nat)))), (57, .val (.int .u32 (U (b)))), (58, .any (fun v w => Il w v (lst (b) 32)) (fun _ _ _ hg h => Il.grow hg h)), (59, .val (.int .i64 (((lst (b) 32).length : Nat)))), (60, .val (.int .i64 ((((lst (a) 32).length * (lst (b) 32).length : Nat) : Int)))), (61, .val (.bool false)), (62, .val (.bool false))])) (by kernel_rfl) (by kernel_rfl) (tab_out _ _ (by kernel_rfl) ?outerbb) ?eachbb ?lastbb
      case eachbb =>
        refine List.forall_mem_cons.2 ⟨k_ld (r) (by kernel_rfl) rfl rfl trivial, ?_⟩
        refine List.forall_mem_cons.2 ⟨k_ld (r) (by kernel_rfl) rfl rfl trivial, ?_⟩
        refine List.forall_mem_cons.2 ⟨k_c1 (.agg (cells (r))) (.int .u32 (U (domT (r) 32))) (by kernel_rfl) (by kernel_rfl) rfl (dom_any (r)) rfl trivial, ?_⟩
        refine List.forall_mem_cons.2 ⟨k_ld (r) (by kernel_rfl) rfl rfl trivial, ?_⟩
        refine List.forall_mem_cons.2 ⟨k_c1 (.agg (cells (r))) (.int .u32 (U (aft allS (r) 32))) (by kernel_rfl) (by kernel_rfl) rfl (rng_any (r)) rfl trivial, ?_⟩
        refine List.forall_mem_cons.2 ⟨k_c2 (.int .u32 (U (domT (r) 32))) (.int .u32 (U (aft allS (r) 32))) (.agg (cells (crs (domT (r) 32) (aft allS (r) 32)))) (by kernel_rfl) (by kernel_rfl) rfl (by kernel_rfl) rfl (crs_any (domT (r) 32) (aft allS (r) 32)) rfl trivial, ?_⟩
        refine List.forall_mem_cons.2 ⟨k_c2 (.agg (cells (r))) (.agg (cells (crs (domT (r) 32) (aft allS (r) 32)))) (.agg (cells (mns (r) (crs (domT (r) 32) (aft allS (r) 32))))) (by kernel_rfl) (by kernel_rfl) rfl (by kernel_rfl) rfl (mns_any (r) (crs (domT (r) 32) (aft allS (r) 32))) rfl trivial, ?_⟩
        refine List.forall_mem_cons.2 ⟨k_c1 (.agg (cells (mns (r) (crs (domT (r) 32) (aft allS (r) 32))))) (.bool true) (by kernel_rfl) (by kernel_rfl) rfl (fun w => calls_val (empty_any (mns (r) (crs (domT (r) 32) (aft allS (r) 32))) w) (congrArg Value.bool (sd1 r))) rfl trivial, ?_⟩
        refine List.forall_mem_cons.2 ⟨k_not true false (by kernel_rfl) rfl rfl rfl trivial, ?_⟩
        refine List.forall_mem_cons.2 ⟨k_mv (by kernel_rfl) rfl trivial, ?_⟩
        refine List.forall_mem_cons.2 ⟨k_ld (crs a b) (by kernel_rfl) rfl rfl ⟨51, rfl, (by kernel_rfl), rfl⟩, ?_⟩
        refine List.forall_mem_cons.2 ⟨k_c1 (.agg (cells (crs a b))) (.int .i64 (((prs (crs a b) 32).length : Nat))) (by kernel_rfl) (by kernel_rfl) rfl (count_any (crs a b)) rfl ⟨51, rfl, (by kernel_rfl), rfl⟩, ?_⟩
        refine List.forall_mem_cons.2 ⟨k_mv (by kernel_rfl) rfl ⟨51, rfl, (by kernel_rfl), rfl⟩, ?_⟩
        refine List.forall_mem_cons.2 ⟨k_a1 (.int .u32 (U (a))) (by kernel_rfl) (by kernel_rfl) rfl (fun w => Calls.mono (list_any (a) w) fun _ _ ⟨v, h1, h2, h3⟩ => ⟨v, h1, h2, own_zero h3⟩) ⟨51, rfl, (by kernel_rfl), rfl⟩, ?_⟩
        refine List.forall_mem_cons.2 ⟨k_len ((lst (a) 32).length) _ _ (by kernel_rfl) rfl (fun _ _ h => Il.form h) rfl ⟨51, rfl, (by kernel_rfl), rfl⟩, ?_⟩
        refine List.forall_mem_cons.2 ⟨k_mv (by kernel_rfl) rfl ⟨51, rfl, (by kernel_rfl), rfl⟩, ?_⟩
        refine List.forall_mem_cons.2 ⟨k_a1 (.int .u32 (U (b))) (by kernel_rfl) (by kernel_rfl) rfl (fun w => Calls.mono (list_any (b) w) fun _ _ ⟨v, h1, h2, h3⟩ => ⟨v, h1, h2, own_zero h3⟩) ⟨51, rfl, (by kernel_rfl), rfl⟩, ?_⟩
        refine List.forall_mem_cons.2 ⟨k_len ((lst (b) 32).length) _ _ (by kernel_rfl) rfl (fun _ _ h => Il.form h) rfl ⟨51, rfl, (by kernel_rfl), rfl⟩, ?_⟩
        refine List.forall_mem_cons.2 ⟨k_bin (.int .i64 (((lst (a) 32).length : Nat))) (.int .i64 (((lst (b) 32).length : Nat))) (.int .i64 ((((lst (a) 32).length * (lst (b) 32).length : Nat) : Int))) (fun _ _ h => ⟨h 56 (by kernel_rfl), h 59 (by kernel_rfl)⟩) rfl (mul_run _ _ a b) ⟨51, rfl, (by kernel_rfl), rfl⟩, ?_⟩
        refine List.forall_mem_cons.2 ⟨k_bin (.int .i64 (((prs (crs a b) 32).length : Nat))) (.int .i64 ((((lst (a) 32).length * (lst (b) 32).length : Nat) : Int))) (.bool false) (fun _ _ h => ⟨h 53 (by kernel_rfl), h 60 (by kernel_rfl)⟩) rfl (nei _ _ _ _ _ (sd6 a b)) ⟨51, rfl, (by kernel_rfl), rfl⟩, ?_⟩
        refine List.forall_mem_cons.2 ⟨k_pf (by kernel_rfl) (by kernel_rfl) rfl rfl trivial, ?_⟩
        intro _ h; cases h
      case outerbb =>
        intro x hx
        simp only [List.mem_cons, List.not_mem_nil, or_false] at hx
        rcases hx with rfl | rfl | rfl | rfl
        · exact rfl
        · exact rfl
        · exact ⟨w.heap.size, rfl, hR4.drew⟩
        · exact ⟨gc, rfl, hC4.drew⟩
      intro f2 w5 hg5 hf
      have hv : f2 20 = .bool false := hf 20 62 rfl
      simp only [putF, Act.put, List.setIfInBounds_toArray, List.set_cons_zero, List.set_cons_succ, hv]
      go_wp2
      have hR5 := hR4.grow hg5
      have hC5 := hC4.grow hg5
      have hG5 := Grow.trans hG4 hg5
      clear hR4 hC4 hG4 hg5 hf hv
      refine told (tabOf ([(0, .val (.int .u32 (U (a)))), (1, .val (.int .u32 (U (b)))), (5, .ptr (r)), (7, .ptr (crs a b))] ++ [(63, .val (.int .u32 (U (a)))), (64, .val (.agg (cells (idr (a))))), (65, .val (.agg (cells (r)))), (66, .val (.int .u32 (U (b)))), (67, .val (.agg (cells (idr (b))))), (68, .sl [idr (a), r, idr (b)]), (69, .val (.agg (cells (sqs [idr (a), r, idr (b)])))), (70, .val (.agg (cells (r)))), (71, .val (.agg (cells (crs a b)))), (72, .sl [r, crs a b]), (73, .val (.agg (cells (met [r, crs a b])))), (74, .val (.bool true)), (75, .val (.bool true)), (76, .val (.agg (cells (r)))), (77, .val (.agg (cells (invT (r) 32)))), (78, .val (.int .u32 (U (domT (invT (r) 32) 32)))), (79, .val (.agg (cells (r)))), (80, .val (.int .u32 (U (aft allS (r) 32)))), (81, .val (.bool true)), (82, .val (.bool true)), (83, .val (.bool true)), (84, .val (.int .u32 (U (a)))), (85, .val (.agg (cells (idr (a))))), (86, .val (.int .i64 (((prs (idr (a)) 32).length : Nat)))), (87, .val (.int .u32 (U (a)))), (88, .any (fun v w => Il w v (lst (a) 32)) (fun _ _ _ hg h => Il.grow hg h)), (89, .val (.int .i64 (((lst (a) 32).length : Nat)))), (90, .val (.bool true)), (91, .val (.bool true)), (6, .val (.bool true))])) (by kernel_rfl) (by kernel_rfl) (tab_out _ _ (by kernel_rfl) ?outercb) ?eachcb ?lastcb
      case eachcb =>
        refine List.forall_mem_cons.2 ⟨k_mv (by kernel_rfl) rfl trivial, ?_⟩
        refine List.forall_mem_cons.2 ⟨k_c1 (.int .u32 (U (a))) (.agg (cells (idr (a)))) (by kernel_rfl) (by kernel_rfl) rfl (id_any (a)) rfl trivial, ?_⟩
        refine List.forall_mem_cons.2 ⟨k_ld (r) (by kernel_rfl) rfl rfl trivial, ?_⟩
        refine List.forall_mem_cons.2 ⟨k_mv (by kernel_rfl) rfl trivial, ?_⟩
        refine List.forall_mem_cons.2 ⟨k_c1 (.int .u32 (U (b))) (.agg (cells (idr (b)))) (by kernel_rfl) (by kernel_rfl) rfl (id_any (b)) rfl trivial, ?_⟩
        refine List.forall_mem_cons.2 ⟨k_b3 (idr (a)) (r) (idr (b)) (by kernel_rfl) rfl (by kernel_rfl) rfl (by kernel_rfl) rfl rfl trivial, ?_⟩
        refine List.forall_mem_cons.2 ⟨k_s1 [idr (a), r, idr (b)] (.agg (cells (sqs [idr (a), r, idr (b)]))) (by kernel_rfl) (by kernel_rfl) rfl (fun v w h => seq_any [idr (a), r, idr (b)] v w h (by simp)) rfl trivial, ?_⟩
        refine List.forall_mem_cons.2 ⟨k_ld (r) (by kernel_rfl) rfl rfl trivial, ?_⟩
        refine List.forall_mem_cons.2 ⟨k_ld (crs a b) (by kernel_rfl) rfl rfl trivial, ?_⟩
        refine List.forall_mem_cons.2 ⟨k_b2 (r) (crs a b) (by kernel_rfl) rfl (by kernel_rfl) rfl rfl trivial, ?_⟩
        refine List.forall_mem_cons.2 ⟨k_s1 [r, crs a b] (.agg (cells (met [r, crs a b]))) (by kernel_rfl) (by kernel_rfl) rfl (fun v w h => met_any [r, crs a b] v w h (by simp)) rfl trivial, ?_⟩
        refine List.forall_mem_cons.2 ⟨k_eq (sqs [idr (a), r, idr (b)]) (met [r, crs a b]) true (by kernel_rfl) (by kernel_rfl) rfl rfl rfl (eqB_of (sd3 a b r)) trivial, ?_⟩
        refine List.forall_mem_cons.2 ⟨k_mv (by kernel_rfl) rfl trivial, ?_⟩
        refine List.forall_mem_cons.2 ⟨k_ld (r) (by kernel_rfl) rfl rfl ⟨75, rfl, (by kernel_rfl), rfl⟩, ?_⟩
        refine List.forall_mem_cons.2 ⟨k_c1 (.agg (cells (r))) (.agg (cells (invT (r) 32))) (by kernel_rfl) (by kernel_rfl) rfl (inv_any (r)) rfl ⟨75, rfl, (by kernel_rfl), rfl⟩, ?_⟩
        refine List.forall_mem_cons.2 ⟨k_c1 (.agg (cells (invT (r) 32))) (.int .u32 (U (domT (invT (r) 32) 32))) (by kernel_rfl) (by kernel_rfl) rfl (dom_any (invT (r) 32)) rfl ⟨75, rfl, (by kernel_rfl), rfl⟩, ?_⟩
        refine List.forall_mem_cons.2 ⟨k_ld (r) (by kernel_rfl) rfl rfl ⟨75, rfl, (by kernel_rfl), rfl⟩, ?_⟩
        refine List.forall_mem_cons.2 ⟨k_c1 (.agg (cells (r))) (.int .u32 (U (aft allS (r) 32))) (by kernel_rfl) (by kernel_rfl) rfl (rng_any (r)) rfl ⟨75, rfl, (by kernel_rfl), rfl⟩, ?_⟩
        refine List.forall_mem_cons.2 ⟨k_bin (.int .u32 (U (domT (invT (r) 32) 32))) (.int .u32 (U (aft allS (r) 32))) (.bool true) (fun _ _ h => ⟨h 78 (by kernel_rfl), h 80 (by kernel_rfl)⟩) rfl (eqi _ _ _ _ _ (sd4' r)) ⟨75, rfl, (by kernel_rfl), rfl⟩, ?_⟩
        refine List.forall_mem_cons.2 ⟨k_pt (by kernel_rfl) (by kernel_rfl) rfl rfl trivial, ?_⟩
        refine List.forall_mem_cons.2 ⟨k_mv (by kernel_rfl) rfl trivial, ?_⟩
        refine List.forall_mem_cons.2 ⟨k_mv (by kernel_rfl) rfl ⟨83, rfl, (by kernel_rfl), rfl⟩, ?_⟩
        refine List.forall_mem_cons.2 ⟨k_c1 (.int .u32 (U (a))) (.agg (cells (idr (a)))) (by kernel_rfl) (by kernel_rfl) rfl (id_any (a)) rfl ⟨83, rfl, (by kernel_rfl), rfl⟩, ?_⟩
        refine List.forall_mem_cons.2 ⟨k_c1 (.agg (cells (idr (a)))) (.int .i64 (((prs (idr (a)) 32).length : Nat))) (by kernel_rfl) (by kernel_rfl) rfl (count_any (idr (a))) rfl ⟨83, rfl, (by kernel_rfl), rfl⟩, ?_⟩
        refine List.forall_mem_cons.2 ⟨k_mv (by kernel_rfl) rfl ⟨83, rfl, (by kernel_rfl), rfl⟩, ?_⟩
        refine List.forall_mem_cons.2 ⟨k_a1 (.int .u32 (U (a))) (by kernel_rfl) (by kernel_rfl) rfl (fun w => Calls.mono (list_any (a) w) fun _ _ ⟨v, h1, h2, h3⟩ => ⟨v, h1, h2, own_zero h3⟩) ⟨83, rfl, (by kernel_rfl), rfl⟩, ?_⟩
        refine List.forall_mem_cons.2 ⟨k_len ((lst (a) 32).length) _ _ (by kernel_rfl) rfl (fun _ _ h => Il.form h) rfl ⟨83, rfl, (by kernel_rfl), rfl⟩, ?_⟩
        refine List.forall_mem_cons.2 ⟨k_bin (.int .i64 (((prs (idr (a)) 32).length : Nat))) (.int .i64 (((lst (a) 32).length : Nat))) (.bool true) (fun _ _ h => ⟨h 86 (by kernel_rfl), h 89 (by kernel_rfl)⟩) rfl (eqi _ _ _ _ _ (sd5 a)) ⟨83, rfl, (by kernel_rfl), rfl⟩, ?_⟩
        refine List.forall_mem_cons.2 ⟨k_pt (by kernel_rfl) (by kernel_rfl) rfl rfl trivial, ?_⟩
        refine List.forall_mem_cons.2 ⟨k_as (by kernel_rfl) rfl trivial, ?_⟩
        intro _ h; cases h
      case outercb =>
        intro x hx
        simp only [List.mem_cons, List.not_mem_nil, or_false] at hx
        rcases hx with rfl | rfl | rfl | rfl
        · exact rfl
        · exact rfl
        · exact ⟨w.heap.size, rfl, hR5.drew⟩
        · exact ⟨gc, rfl, hC5.drew⟩
      intro f3 w6 hg6 hf
      have hv : f3 29 = .bool true := hf 29 6 rfl
      simp only [putF, Act.put, List.setIfInBounds_toArray, List.set_cons_zero, List.set_cons_succ, hv]
      go_wp2
      go_ret
      exact ⟨rfl, Grow.trans hG5 hg6⟩
    · have e1 := z_no ha
      have e2 := z_no hb
      have e3 := dom_crs (a := a) hb
      have e4 := rng_crs (b := b) ha
      have e5 := full_crs ha hb
      clear ha hb
      refine toldp (tabOf ([(0, .val (.int .u32 (U (a)))), (1, .val (.int .u32 (U (b)))), (5, .ptr (r)), (7, .ptr (crs a b))] ++ [(13, .val (.int .u32 (U (a)))), (14, .val (.bool true)), (15, .val (.bool true)), (16, .val (.int .u32 (U (b)))), (17, .val (.bool true)), (18, .val (.bool true)), (19, .val (.bool true)), (20, .val (.agg (cells (crs a b)))), (21, .val (.int .u32 (U (domT (crs a b) 32)))), (22, .val (.int .u32 (U (a)))), (23, .val (.bool false)), (24, .val (.bool false)), (25, .val (.agg (cells (crs a b)))), (26, .val (.int .u32 (U (aft allS (crs a b) 32)))), (27, .val (.int .u32 (U (b)))), (28, .val (.bool false)), (29, .val (.bool false)), (30, .val (.bool false)), (31, .val (.bool false)), (32, .val (.int .u32 (U (a)))), (33, .val (.bool false)), (34, .val (.bool false)), (35, .val (.int .u32 (U (b)))), (36, .val (.bool false)), (37, .val (.bool false)), (38, .val (.agg (cells (crs a b)))), (39, .val (.bool false)), (40, .val (.bool false)), (41, .val (.bool false))])) (by kernel_rfl) (by kernel_rfl) (tab_out _ _ (by kernel_rfl) ?outeraboth) ?eachaboth ?lastaboth
      case eachaboth =>
        refine List.forall_mem_cons.2 ⟨.inl (k_mv (by kernel_rfl) rfl trivial), ?_⟩
        refine List.forall_mem_cons.2 ⟨.inl (k_bin (.int .u32 (U (a))) (.int .u32 0) (.bool true) (fun _ _ h => ⟨h 13 (by kernel_rfl), rfl⟩) rfl (nei _ _ _ _ _ (nz e1)) trivial), ?_⟩
        refine List.forall_mem_cons.2 ⟨.inl (k_mv (by kernel_rfl) rfl trivial), ?_⟩
        refine List.forall_mem_cons.2 ⟨.inl (k_mv (by kernel_rfl) rfl ⟨15, rfl, (by kernel_rfl), rfl⟩), ?_⟩
        refine List.forall_mem_cons.2 ⟨.inl (k_bin (.int .u32 (U (b))) (.int .u32 0) (.bool true) (fun _ _ h => ⟨h 16 (by kernel_rfl), rfl⟩) rfl (nei _ _ _ _ _ (nz e2)) ⟨15, rfl, (by kernel_rfl), rfl⟩), ?_⟩
        refine List.forall_mem_cons.2 ⟨.inl (k_pt (by kernel_rfl) (by kernel_rfl) rfl rfl trivial), ?_⟩
        refine List.forall_mem_cons.2 ⟨.inl (k_mv (by kernel_rfl) rfl trivial), ?_⟩
        refine List.forall_mem_cons.2 ⟨.inl (k_ld (crs a b) (by kernel_rfl) rfl rfl ⟨19, rfl, (by kernel_rfl), rfl⟩), ?_⟩
        refine List.forall_mem_cons.2 ⟨.inl (k_c1 (.agg (cells (crs a b))) (.int .u32 (U (domT (crs a b) 32))) (by kernel_rfl) (by kernel_rfl) rfl (dom_any (crs a b)) rfl ⟨19, rfl, (by kernel_rfl), rfl⟩), ?_⟩
        refine List.forall_mem_cons.2 ⟨.inl (k_mv (by kernel_rfl) rfl ⟨19, rfl, (by kernel_rfl), rfl⟩), ?_⟩
        refine List.forall_mem_cons.2 ⟨.inl (k_bin (.int .u32 (U (domT (crs a b) 32))) (.int .u32 (U (a))) (.bool false) (fun _ _ h => ⟨h 21 (by kernel_rfl), h 22 (by kernel_rfl)⟩) rfl (nei _ _ _ _ _ (same e3)) ⟨19, rfl, (by kernel_rfl), rfl⟩), ?_⟩
        refine List.forall_mem_cons.2 ⟨.inl (k_mv (by kernel_rfl) rfl ⟨19, rfl, (by kernel_rfl), rfl⟩), ?_⟩
        refine List.forall_mem_cons.2 ⟨.inl (k_ld (crs a b) (by kernel_rfl) rfl rfl ⟨24, rfl, (by kernel_rfl), rfl⟩), ?_⟩
        refine List.forall_mem_cons.2 ⟨.inl (k_c1 (.agg (cells (crs a b))) (.int .u32 (U (aft allS (crs a b) 32))) (by kernel_rfl) (by kernel_rfl) rfl (rng_any (crs a b)) rfl ⟨24, rfl, (by kernel_rfl), rfl⟩), ?_⟩
        refine List.forall_mem_cons.2 ⟨.inl (k_mv (by kernel_rfl) rfl ⟨24, rfl, (by kernel_rfl), rfl⟩), ?_⟩
        refine List.forall_mem_cons.2 ⟨.inl (k_bin (.int .u32 (U (aft allS (crs a b) 32))) (.int .u32 (U (b))) (.bool false) (fun _ _ h => ⟨h 26 (by kernel_rfl), h 27 (by kernel_rfl)⟩) rfl (nei _ _ _ _ _ (same e4)) ⟨24, rfl, (by kernel_rfl), rfl⟩), ?_⟩
        refine List.forall_mem_cons.2 ⟨.inl (k_pf (by kernel_rfl) (by kernel_rfl) rfl rfl ⟨19, rfl, (by kernel_rfl), rfl⟩), ?_⟩
        refine List.forall_mem_cons.2 ⟨.inl (k_pt (by kernel_rfl) (by kernel_rfl) rfl rfl trivial), ?_⟩
        refine List.forall_mem_cons.2 ⟨.inl (k_mv (by kernel_rfl) rfl trivial), ?_⟩
        refine List.forall_mem_cons.2 ⟨.inl (k_mv (by kernel_rfl) rfl ⟨31, rfl, (by kernel_rfl), rfl⟩), ?_⟩
        refine List.forall_mem_cons.2 ⟨.inl (k_bin (.int .u32 (U (a))) (.int .u32 0) (.bool false) (fun _ _ h => ⟨h 32 (by kernel_rfl), rfl⟩) rfl (eqi _ _ _ _ _ e1) ⟨31, rfl, (by kernel_rfl), rfl⟩), ?_⟩
        refine List.forall_mem_cons.2 ⟨.inl (k_mv (by kernel_rfl) rfl ⟨31, rfl, (by kernel_rfl), rfl⟩), ?_⟩
        refine List.forall_mem_cons.2 ⟨.inl (k_mv (by kernel_rfl) rfl ⟨34, rfl, (by kernel_rfl), rfl⟩), ?_⟩
        refine List.forall_mem_cons.2 ⟨.inl (k_bin (.int .u32 (U (b))) (.int .u32 0) (.bool false) (fun _ _ h => ⟨h 35 (by kernel_rfl), rfl⟩) rfl (eqi _ _ _ _ _ e2) ⟨34, rfl, (by kernel_rfl), rfl⟩), ?_⟩
        refine List.forall_mem_cons.2 ⟨.inl (k_pf (by kernel_rfl) (by kernel_rfl) rfl rfl ⟨31, rfl, (by kernel_rfl), rfl⟩), ?_⟩
        refine List.forall_mem_cons.2 ⟨.inl (k_ld (crs a b) (by kernel_rfl) rfl rfl ⟨31, rfl, (by kernel_rfl), rfl⟩), ?_⟩
        refine List.forall_mem_cons.2 ⟨.inl (k_c1 (.agg (cells (crs a b))) (.bool false) (by kernel_rfl) (by kernel_rfl) rfl (fun w => calls_val (empty_any (crs a b) w) (congrArg Value.bool (e5))) rfl ⟨31, rfl, (by kernel_rfl), rfl⟩), ?_⟩
        refine List.forall_mem_cons.2 ⟨.inl (k_bin (.bool false) (.bool false) (.bool false) (fun _ _ h => ⟨h 37 (by kernel_rfl), h 39 (by kernel_rfl)⟩) rfl (neb _ _ _ _ _ rfl) ⟨31, rfl, (by kernel_rfl), rfl⟩), ?_⟩
        refine List.forall_mem_cons.2 ⟨.inl (k_pf (by kernel_rfl) (by kernel_rfl) rfl rfl trivial), ?_⟩
        intro _ h; cases h
      case outeraboth =>
        intro x hx
        simp only [List.mem_cons, List.not_mem_nil, or_false] at hx
        rcases hx with rfl | rfl | rfl | rfl
        · exact rfl
        · exact rfl
        · exact ⟨w.heap.size, rfl, hR2⟩
        · exact ⟨gc, rfl, hC2⟩
      intro f1 w4 hg4 hf
      have hv : f1 28 = .bool false := hf 28 41 rfl
      simp only [putF, Act.put, List.setIfInBounds_toArray, List.set_cons_zero, List.set_cons_succ, hv]
      go_wp2
      have hR4 := hR2.grow hg4
      have hC4 := hC2.grow hg4
      have hG4 := Grow.trans hG2 hg4
      clear hR2 hC2 hG2 hg4 hf hv
      refine told (tabOf ([(0, .val (.int .u32 (U (a)))), (1, .val (.int .u32 (U (b)))), (5, .ptr (r)), (7, .ptr (crs a b))] ++ [(42, .val (.agg (cells (r)))), (43, .val (.agg (cells (r)))), (44, .val (.int .u32 (U (domT (r) 32)))), (45, .val (.agg (cells (r)))), (46, .val (.int .u32 (U (aft allS (r) 32)))), (47, .val (.agg (cells (crs (domT (r) 32) (aft allS (r) 32))))), (48, .val (.agg (cells (mns (r) (crs (domT (r) 32) (aft allS (r) 32)))))), (49, .val (.bool true)), (50, .val (.bool false)), (51, .val (.bool false)), (52, .val (.agg (cells (crs a b)))), (53, .val (.int .i64 (((prs (crs a b) 32).length : Nat)))), (54, .val (.int .u32 (U (a)))), (55, .any (fun v w => Il w v (lst (a) 32)) (fun _ _ _ hg h => Il.grow hg h)), (56, .val (.int .i64 (((lst (a) 32).length : Nat)))), (57, .val (.int .u32 (U (b)))), (58, .any (fun v w => Il w v (lst (b) 32)) (fun _ _ _ hg h => Il.grow hg h)), (59, .val (.int .i64 (((lst (b) 32).length : Nat)))), (60, .val (.int .i64 ((((lst (a) 32).length * (lst (b) 32).length : Nat) : Int)))), (61, .val (.bool false)), (62, .val (.bool false))])) (by kernel_rfl) (by kernel_rfl) (tab_out _ _ (by kernel_rfl) ?outerbboth) ?eachbboth ?lastbboth
      case eachbboth =>
        refine List.forall_mem_cons.2 ⟨k_ld (r) (by kernel_rfl) rfl rfl trivial, ?_⟩
        refine List.forall_mem_cons.2 ⟨k_ld (r) (by kernel_rfl) rfl rfl trivial, ?_⟩
        refine List.forall_mem_cons.2 ⟨k_c1 (.agg (cells (r))) (.int .u32 (U (domT (r) 32))) (by kernel_rfl) (by kernel_rfl) rfl (dom_any (r)) rfl trivial, ?_⟩
        refine List.forall_mem_cons.2 ⟨k_ld (r) (by kernel_rfl) rfl rfl trivial, ?_⟩
        refine List.forall_mem_cons.2 ⟨k_c1 (.agg (cells (r))) (.int .u32 (U (aft allS (r) 32))) (by kernel_rfl) (by kernel_rfl) rfl (rng_any (r)) rfl trivial, ?_⟩
        refine List.forall_mem_cons.2 ⟨k_c2 (.int .u32 (U (domT (r) 32))) (.int .u32 (U (aft allS (r) 32))) (.agg (cells (crs (domT (r) 32) (aft allS (r) 32)))) (by kernel_rfl) (by kernel_rfl) rfl (by kernel_rfl) rfl (crs_any (domT (r) 32) (aft allS (r) 32)) rfl trivial, ?_⟩
        refine List.forall_mem_cons.2 ⟨k_c2 (.agg (cells (r))) (.agg (cells (crs (domT (r) 32) (aft allS (r) 32)))) (.agg (cells (mns (r) (crs (domT (r) 32) (aft allS (r) 32))))) (by kernel_rfl) (by kernel_rfl) rfl (by kernel_rfl) rfl (mns_any (r) (crs (domT (r) 32) (aft allS (r) 32))) rfl trivial, ?_⟩
        refine List.forall_mem_cons.2 ⟨k_c1 (.agg (cells (mns (r) (crs (domT (r) 32) (aft allS (r) 32))))) (.bool true) (by kernel_rfl) (by kernel_rfl) rfl (fun w => calls_val (empty_any (mns (r) (crs (domT (r) 32) (aft allS (r) 32))) w) (congrArg Value.bool (sd1 r))) rfl trivial, ?_⟩
        refine List.forall_mem_cons.2 ⟨k_not true false (by kernel_rfl) rfl rfl rfl trivial, ?_⟩
        refine List.forall_mem_cons.2 ⟨k_mv (by kernel_rfl) rfl trivial, ?_⟩
        refine List.forall_mem_cons.2 ⟨k_ld (crs a b) (by kernel_rfl) rfl rfl ⟨51, rfl, (by kernel_rfl), rfl⟩, ?_⟩
        refine List.forall_mem_cons.2 ⟨k_c1 (.agg (cells (crs a b))) (.int .i64 (((prs (crs a b) 32).length : Nat))) (by kernel_rfl) (by kernel_rfl) rfl (count_any (crs a b)) rfl ⟨51, rfl, (by kernel_rfl), rfl⟩, ?_⟩
        refine List.forall_mem_cons.2 ⟨k_mv (by kernel_rfl) rfl ⟨51, rfl, (by kernel_rfl), rfl⟩, ?_⟩
        refine List.forall_mem_cons.2 ⟨k_a1 (.int .u32 (U (a))) (by kernel_rfl) (by kernel_rfl) rfl (fun w => Calls.mono (list_any (a) w) fun _ _ ⟨v, h1, h2, h3⟩ => ⟨v, h1, h2, own_zero h3⟩) ⟨51, rfl, (by kernel_rfl), rfl⟩, ?_⟩
        refine List.forall_mem_cons.2 ⟨k_len ((lst (a) 32).length) _ _ (by kernel_rfl) rfl (fun _ _ h => Il.form h) rfl ⟨51, rfl, (by kernel_rfl), rfl⟩, ?_⟩
        refine List.forall_mem_cons.2 ⟨k_mv (by kernel_rfl) rfl ⟨51, rfl, (by kernel_rfl), rfl⟩, ?_⟩
        refine List.forall_mem_cons.2 ⟨k_a1 (.int .u32 (U (b))) (by kernel_rfl) (by kernel_rfl) rfl (fun w => Calls.mono (list_any (b) w) fun _ _ ⟨v, h1, h2, h3⟩ => ⟨v, h1, h2, own_zero h3⟩) ⟨51, rfl, (by kernel_rfl), rfl⟩, ?_⟩
        refine List.forall_mem_cons.2 ⟨k_len ((lst (b) 32).length) _ _ (by kernel_rfl) rfl (fun _ _ h => Il.form h) rfl ⟨51, rfl, (by kernel_rfl), rfl⟩, ?_⟩
        refine List.forall_mem_cons.2 ⟨k_bin (.int .i64 (((lst (a) 32).length : Nat))) (.int .i64 (((lst (b) 32).length : Nat))) (.int .i64 ((((lst (a) 32).length * (lst (b) 32).length : Nat) : Int))) (fun _ _ h => ⟨h 56 (by kernel_rfl), h 59 (by kernel_rfl)⟩) rfl (mul_run _ _ a b) ⟨51, rfl, (by kernel_rfl), rfl⟩, ?_⟩
        refine List.forall_mem_cons.2 ⟨k_bin (.int .i64 (((prs (crs a b) 32).length : Nat))) (.int .i64 ((((lst (a) 32).length * (lst (b) 32).length : Nat) : Int))) (.bool false) (fun _ _ h => ⟨h 53 (by kernel_rfl), h 60 (by kernel_rfl)⟩) rfl (nei _ _ _ _ _ (sd6 a b)) ⟨51, rfl, (by kernel_rfl), rfl⟩, ?_⟩
        refine List.forall_mem_cons.2 ⟨k_pf (by kernel_rfl) (by kernel_rfl) rfl rfl trivial, ?_⟩
        intro _ h; cases h
      case outerbboth =>
        intro x hx
        simp only [List.mem_cons, List.not_mem_nil, or_false] at hx
        rcases hx with rfl | rfl | rfl | rfl
        · exact rfl
        · exact rfl
        · exact ⟨w.heap.size, rfl, hR4.drew⟩
        · exact ⟨gc, rfl, hC4.drew⟩
      intro f2 w5 hg5 hf
      have hv : f2 20 = .bool false := hf 20 62 rfl
      simp only [putF, Act.put, List.setIfInBounds_toArray, List.set_cons_zero, List.set_cons_succ, hv]
      go_wp2
      have hR5 := hR4.grow hg5
      have hC5 := hC4.grow hg5
      have hG5 := Grow.trans hG4 hg5
      clear hR4 hC4 hG4 hg5 hf hv
      refine told (tabOf ([(0, .val (.int .u32 (U (a)))), (1, .val (.int .u32 (U (b)))), (5, .ptr (r)), (7, .ptr (crs a b))] ++ [(63, .val (.int .u32 (U (a)))), (64, .val (.agg (cells (idr (a))))), (65, .val (.agg (cells (r)))), (66, .val (.int .u32 (U (b)))), (67, .val (.agg (cells (idr (b))))), (68, .sl [idr (a), r, idr (b)]), (69, .val (.agg (cells (sqs [idr (a), r, idr (b)])))), (70, .val (.agg (cells (r)))), (71, .val (.agg (cells (crs a b)))), (72, .sl [r, crs a b]), (73, .val (.agg (cells (met [r, crs a b])))), (74, .val (.bool true)), (75, .val (.bool true)), (76, .val (.agg (cells (r)))), (77, .val (.agg (cells (invT (r) 32)))), (78, .val (.int .u32 (U (domT (invT (r) 32) 32)))), (79, .val (.agg (cells (r)))), (80, .val (.int .u32 (U (aft allS (r) 32)))), (81, .val (.bool true)), (82, .val (.bool true)), (83, .val (.bool true)), (84, .val (.int .u32 (U (a)))), (85, .val (.agg (cells (idr (a))))), (86, .val (.int .i64 (((prs (idr (a)) 32).length : Nat)))), (87, .val (.int .u32 (U (a)))), (88, .any (fun v w => Il w v (lst (a) 32)) (fun _ _ _ hg h => Il.grow hg h)), (89, .val (.int .i64 (((lst (a) 32).length : Nat)))), (90, .val (.bool true)), (91, .val (.bool true)), (6, .val (.bool true))])) (by kernel_rfl) (by kernel_rfl) (tab_out _ _ (by kernel_rfl) ?outercboth) ?eachcboth ?lastcboth
      case eachcboth =>
        refine List.forall_mem_cons.2 ⟨k_mv (by kernel_rfl) rfl trivial, ?_⟩
        refine List.forall_mem_cons.2 ⟨k_c1 (.int .u32 (U (a))) (.agg (cells (idr (a)))) (by kernel_rfl) (by kernel_rfl) rfl (id_any (a)) rfl trivial, ?_⟩
        refine List.forall_mem_cons.2 ⟨k_ld (r) (by kernel_rfl) rfl rfl trivial, ?_⟩
        refine List.forall_mem_cons.2 ⟨k_mv (by kernel_rfl) rfl trivial, ?_⟩
        refine List.forall_mem_cons.2 ⟨k_c1 (.int .u32 (U (b))) (.agg (cells (idr (b)))) (by kernel_rfl) (by kernel_rfl) rfl (id_any (b)) rfl trivial, ?_⟩
        refine List.forall_mem_cons.2 ⟨k_b3 (idr (a)) (r) (idr (b)) (by kernel_rfl) rfl (by kernel_rfl) rfl (by kernel_rfl) rfl rfl trivial, ?_⟩
        refine List.forall_mem_cons.2 ⟨k_s1 [idr (a), r, idr (b)] (.agg (cells (sqs [idr (a), r, idr (b)]))) (by kernel_rfl) (by kernel_rfl) rfl (fun v w h => seq_any [idr (a), r, idr (b)] v w h (by simp)) rfl trivial, ?_⟩
        refine List.forall_mem_cons.2 ⟨k_ld (r) (by kernel_rfl) rfl rfl trivial, ?_⟩
        refine List.forall_mem_cons.2 ⟨k_ld (crs a b) (by kernel_rfl) rfl rfl trivial, ?_⟩
        refine List.forall_mem_cons.2 ⟨k_b2 (r) (crs a b) (by kernel_rfl) rfl (by kernel_rfl) rfl rfl trivial, ?_⟩
        refine List.forall_mem_cons.2 ⟨k_s1 [r, crs a b] (.agg (cells (met [r, crs a b]))) (by kernel_rfl) (by kernel_rfl) rfl (fun v w h => met_any [r, crs a b] v w h (by simp)) rfl trivial, ?_⟩
        refine List.forall_mem_cons.2 ⟨k_eq (sqs [idr (a), r, idr (b)]) (met [r, crs a b]) true (by kernel_rfl) (by kernel_rfl) rfl rfl rfl (eqB_of (sd3 a b r)) trivial, ?_⟩
        refine List.forall_mem_cons.2 ⟨k_mv (by kernel_rfl) rfl trivial, ?_⟩
        refine List.forall_mem_cons.2 ⟨k_ld (r) (by kernel_rfl) rfl rfl ⟨75, rfl, (by kernel_rfl), rfl⟩, ?_⟩
        refine List.forall_mem_cons.2 ⟨k_c1 (.agg (cells (r))) (.agg (cells (invT (r) 32))) (by kernel_rfl) (by kernel_rfl) rfl (inv_any (r)) rfl ⟨75, rfl, (by kernel_rfl), rfl⟩, ?_⟩
        refine List.forall_mem_cons.2 ⟨k_c1 (.agg (cells (invT (r) 32))) (.int .u32 (U (domT (invT (r) 32) 32))) (by kernel_rfl) (by kernel_rfl) rfl (dom_any (invT (r) 32)) rfl ⟨75, rfl, (by kernel_rfl), rfl⟩, ?_⟩
        refine List.forall_mem_cons.2 ⟨k_ld (r) (by kernel_rfl) rfl rfl ⟨75, rfl, (by kernel_rfl), rfl⟩, ?_⟩
        refine List.forall_mem_cons.2 ⟨k_c1 (.agg (cells (r))) (.int .u32 (U (aft allS (r) 32))) (by kernel_rfl) (by kernel_rfl) rfl (rng_any (r)) rfl ⟨75, rfl, (by kernel_rfl), rfl⟩, ?_⟩
        refine List.forall_mem_cons.2 ⟨k_bin (.int .u32 (U (domT (invT (r) 32) 32))) (.int .u32 (U (aft allS (r) 32))) (.bool true) (fun _ _ h => ⟨h 78 (by kernel_rfl), h 80 (by kernel_rfl)⟩) rfl (eqi _ _ _ _ _ (sd4' r)) ⟨75, rfl, (by kernel_rfl), rfl⟩, ?_⟩
        refine List.forall_mem_cons.2 ⟨k_pt (by kernel_rfl) (by kernel_rfl) rfl rfl trivial, ?_⟩
        refine List.forall_mem_cons.2 ⟨k_mv (by kernel_rfl) rfl trivial, ?_⟩
        refine List.forall_mem_cons.2 ⟨k_mv (by kernel_rfl) rfl ⟨83, rfl, (by kernel_rfl), rfl⟩, ?_⟩
        refine List.forall_mem_cons.2 ⟨k_c1 (.int .u32 (U (a))) (.agg (cells (idr (a)))) (by kernel_rfl) (by kernel_rfl) rfl (id_any (a)) rfl ⟨83, rfl, (by kernel_rfl), rfl⟩, ?_⟩
        refine List.forall_mem_cons.2 ⟨k_c1 (.agg (cells (idr (a)))) (.int .i64 (((prs (idr (a)) 32).length : Nat))) (by kernel_rfl) (by kernel_rfl) rfl (count_any (idr (a))) rfl ⟨83, rfl, (by kernel_rfl), rfl⟩, ?_⟩
        refine List.forall_mem_cons.2 ⟨k_mv (by kernel_rfl) rfl ⟨83, rfl, (by kernel_rfl), rfl⟩, ?_⟩
        refine List.forall_mem_cons.2 ⟨k_a1 (.int .u32 (U (a))) (by kernel_rfl) (by kernel_rfl) rfl (fun w => Calls.mono (list_any (a) w) fun _ _ ⟨v, h1, h2, h3⟩ => ⟨v, h1, h2, own_zero h3⟩) ⟨83, rfl, (by kernel_rfl), rfl⟩, ?_⟩
        refine List.forall_mem_cons.2 ⟨k_len ((lst (a) 32).length) _ _ (by kernel_rfl) rfl (fun _ _ h => Il.form h) rfl ⟨83, rfl, (by kernel_rfl), rfl⟩, ?_⟩
        refine List.forall_mem_cons.2 ⟨k_bin (.int .i64 (((prs (idr (a)) 32).length : Nat))) (.int .i64 (((lst (a) 32).length : Nat))) (.bool true) (fun _ _ h => ⟨h 86 (by kernel_rfl), h 89 (by kernel_rfl)⟩) rfl (eqi _ _ _ _ _ (sd5 a)) ⟨83, rfl, (by kernel_rfl), rfl⟩, ?_⟩
        refine List.forall_mem_cons.2 ⟨k_pt (by kernel_rfl) (by kernel_rfl) rfl rfl trivial, ?_⟩
        refine List.forall_mem_cons.2 ⟨k_as (by kernel_rfl) rfl trivial, ?_⟩
        intro _ h; cases h
      case outercboth =>
        intro x hx
        simp only [List.mem_cons, List.not_mem_nil, or_false] at hx
        rcases hx with rfl | rfl | rfl | rfl
        · exact rfl
        · exact rfl
        · exact ⟨w.heap.size, rfl, hR5.drew⟩
        · exact ⟨gc, rfl, hC5.drew⟩
      intro f3 w6 hg6 hf
      have hv : f3 29 = .bool true := hf 29 6 rfl
      simp only [putF, Act.put, List.setIfInBounds_toArray, List.set_cons_zero, List.set_cons_succ, hv]
      go_wp2
      go_ret
      exact ⟨rfl, Grow.trans hG5 hg6⟩


set_option maxRecDepth 100000 in
theorem lifted (os : Os) (started : os.Started) (H : Type) (enc : TypeId × Value → H) :
    ReturnsInHanded {} Try.checked os 5 .any (Rows.relSidesSpec.pre6 enc Try.prog Try.f5 Rows.relSidesRow.domain false) (Rows.relSidesSpec.post enc Try.prog Try.f5 false true false false) := by
  refine returnsInHanded_of_change (C := Try.checked) own started (by kernel_rfl) Try.func5
    (ChangeSpec.witness6 (enc := enc) (C := Try.checked) false ⟨#[], #[.int .u32 0, .int .u32 0, .agg (Array.replicate 32 (.int .u32 0))], []⟩ 8 (by kernel_rfl) (by kernel_rfl) (by kernel_rfl) (by kernel_rfl)) ?_
  intro W base args ds gs before hval0 hW hcnd _
  have hval : ∀ (j : Nat) t v, Try.f5.params[j]? = some t → args[j]? = some v → Value.okWide Try.prog W .any base t v := hval0
  have hW' := hW
  obtain ⟨p, q, hA0, hV, rfl, hfz, hnd⟩ := hW
  have hA : DataW.TrodAll enc Try.prog W 0 (fun _ => true) true Try.f5.params.toList args.toList ds p := hA0
  rw [Try.params5] at hA hval
  obtain ⟨v0, vs0, d0, ds0, p0, q0, hargs, rfl, rfl, h0, r0⟩ := trodAll_cons hA
  obtain ⟨v1, vs1, d1, ds1, p1, q1, rfl, rfl, rfl, h1, r1⟩ := trodAll_cons r0
  obtain ⟨v2, vs2, d2, ds2, p2, q2, rfl, rfl, rfl, h2, r2⟩ := trodAll_cons r1
  obtain ⟨rfl, rfl, rfl⟩ := trodAll_nil r2
  obtain rfl : args = #[v0, v1, v2] := by cases args; simp_all
  obtain ⟨rfl, rfl⟩ := trodVars_none hV
  have k0 := h0
  have lt0 : ∀ x ∈ p0, x.block < W.heap.size := by obtain ⟨m, hm⟩ := k0; exact DataW.trod_lt m _ _ _ hm
  obtain ⟨a0, rfl, _, _, w0⟩ := open_int Try.underlying23 (hval 0 23 v0 rfl rfl) h0
  have k1 := h1
  have lt1 : ∀ x ∈ p1, x.block < W.heap.size := by obtain ⟨m, hm⟩ := k1; exact DataW.trod_lt m _ _ _ hm
  obtain ⟨a1, rfl, _, _, w1⟩ := open_int Try.underlying23 (hval 1 23 v1 rfl rfl) h1
  have k2 := h2
  have lt2 : ∀ x ∈ p2, x.block < W.heap.size := by obtain ⟨m, hm⟩ := k2; exact DataW.trod_lt m _ _ _ hm
  obtain ⟨a2, rfl⟩ := open_rel (hval 2 25 v2 rfl rfl) h2
  clear hA0 hval0
  refine (walk a0 w0 a1 w1 a2 W).mono fun e W' ⟨he, bel⟩ => ?_
  subst he
  exact ⟨_, rfl, _, _, _, [], _, [], hW', trodAll_mk1 (shut_bool Try.underlying4 _), (trodAll_cons_mk (Below.trod laidOut (by kernel_rfl) (of_decide_eq_true (by kernel_rfl)) k0 bel lt0) (trodAll_cons_mk (Below.trod laidOut (by kernel_rfl) (of_decide_eq_true (by kernel_rfl)) k1 bel lt1) (trodAll_cons_mk (Below.trod laidOut (by kernel_rfl) (of_decide_eq_true (by kernel_rfl)) k2 bel lt2) trodAll_mk0))), rfl, bel.frame _, fun h => by cases h⟩

theorem over : Rows.relSidesRow.holds Try.pinned (OpenSpec.ofChange Rows.relSidesSpec) :=
  OpenClaim.holds_of_wide 5 Try.f5 rfl rfl rfl rfl rfl rfl rfl ⟨rfl, rfl, rfl, rfl, rfl⟩ rfl rfl rfl rfl rfl (by kernel_rfl) Try.func5 (by kernel_rfl)
    (of_decide_eq_true (by kernel_rfl)) (by unfold Func.isWrapper; first | (rw [if_pos (by decide +kernel)]; kernel_rfl) | (rw [if_neg (by decide +kernel)]; exact ⟨rfl, rfl⟩))
    (fun os started H enc _ => lifted os started H enc)

theorem proved : Rows.RelSidesSaid := over
end Go.Proofs.Ytlbccddhcbcpoab.relSides
namespace Go.Proofs.Ytlbccddhcbcpoab
theorem relSides_holds : Rows.RelSidesSaid := relSides.proved
end Go.Proofs.Ytlbccddhcbcpoab
#print axioms Go.Proofs.Ytlbccddhcbcpoab.relSides_holds
