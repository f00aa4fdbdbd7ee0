/- RelTells returns true for every relation and every two numbers, and leaves its arguments as they were: Pairs, Count, Empty, Has, Domain, Range, Irreflexive and Acyclic answer as the reference does; no condition. -/
import Derived.Test.YtlbccddhcbcpoaaRows
import Derived.Test.YtlbccddhcbcpoaaArgs
import Derived.Deep.Cut
import Derived.Test.YtlbccddhcbcpoaaPairs2
import Derived.Deep.QuietTactic
import Derived.BigQuiet
namespace Go.Proofs.Ytlbccddhcbcpoaa.relTells
open Go.ChangeShapes Go.WideShapes Go.ChangeAt Go.RowKit
set_option linter.unusedVariables false

theorem own : ownKnob Try.prog.godebug = none := by kernel_rfl
theorem laidOut : laidOutB Try.prog = true := by kernel_rfl

theorem Grow_drew (w : World) (n : Nat) : Grow w (w.drewN n) := ⟨rfl, rfl, rfl, Nat.le_refl _, fun _ _ => rfl⟩
theorem neb (x y : Operand) (a b r : Bool) (h : (a != b) = r) (w' : World) :
    (eqGuard .neq 4 x y (.bool a) (.bool b)).run Try.prog w' = .ok () w' ∧ (binOp .neq 4 (.bool a) (.bool b)).run Try.prog w' = .ok (.bool r) w' := by
  subst h
  constructor
  · simp [eqGuard]
  · have h := run_equalIn_bool' (P := Try.prog) w' 9999 4 a b Try.underlying4
    simp [binOp, Op.equal, Op.maxDepth, h, bne]
theorem eqb (x y : Operand) (a b r : Bool) (h : (a == b) = r) (w' : World) :
    (eqGuard .eql 4 x y (.bool a) (.bool b)).run Try.prog w' = .ok () w' ∧ (binOp .eql 4 (.bool a) (.bool b)).run Try.prog w' = .ok (.bool r) w' := by
  subst h
  constructor
  · simp [eqGuard]
  · have h := run_equalIn_bool' (P := Try.prog) w' 9999 4 a b Try.underlying4
    simp [binOp, Op.equal, Op.maxDepth, h]

attribute [local irreducible] wpList cells row U aft inn one nil part upd idr crs mns eqB evB stepP plusT invT uni met sqs or2 and2 seq2 allS lst nums prs prt pcs pairT pairS irrB acyB hasB fst pA pB pC has domT dT gT thT

set_option maxRecDepth 100000 in
set_option maxHeartbeats 8000000 in
theorem walk (r : Rl) (a : Int) (w0 : (Lit.int .i64 a).wf = true) (b : Int) (w1 : (Lit.int .i64 b).wf = true) (w : World) : Calls Try.prog 6 #[.agg (cells r), .int .i64 a, .int .i64 b] w fun e w' => e = .returned (.bool true) ∧ Grow w w' := by
  clear w0 w1
  have hR0 := At.new w r
  have hG0 : Grow w (w.alloc (.cells (cells r) 28)) := (Grow.refl w).alloc _
  go_enter Try.func6, Try.ntmps6
  go_wp2_with (go_at_call 9; refine (able_any _).mono ?_; rintro e w1 ⟨rfl, hg1⟩)
  have hR1 := hR0.grow hg1
  have hG1 := Grow.trans hG0 hg1
  clear hR0 hG0 hg1
  refine told (tabOf ([(3, .ptr (r))] ++ [(15, .val (.agg (cells (r)))), (16, .any (pairP (prs r 32)) (pairP_grow (prs r 32))), (17, .val (.agg (cells (r)))), (18, .any (pairP (prs r 32)) (pairP_grow (prs r 32))), (7, .any (pairP (prs r 32)) (pairP_grow (prs r 32))), (8, .any (pairP (prs r 32)) (pairP_grow (prs r 32)))])) (by kernel_rfl) (by kernel_rfl) (tab_out _ _ (by kernel_rfl) ?outera) ?eacha ?lasta
  case eacha =>
    refine List.forall_mem_cons.2 ⟨k_ld (r) (by kernel_rfl) rfl rfl trivial, ?_⟩
    refine List.forall_mem_cons.2 ⟨k_a1 (.agg (cells (r))) (by kernel_rfl) (by kernel_rfl) rfl (fun w => Calls.mono (pairs_any r w) fun _ _ ⟨v, h1, h2, h3⟩ => ⟨v, h1, h2, h3⟩) trivial, ?_⟩
    refine List.forall_mem_cons.2 ⟨k_ld (r) (by kernel_rfl) rfl rfl trivial, ?_⟩
    refine List.forall_mem_cons.2 ⟨k_a1 (.agg (cells (r))) (by kernel_rfl) (by kernel_rfl) rfl (fun w => Calls.mono (rpairs_any r w) fun _ _ ⟨v, h1, h2, h3⟩ => ⟨v, h1, h2, h3⟩) trivial, ?_⟩
    refine List.forall_mem_cons.2 ⟨k_as (by kernel_rfl) rfl trivial, ?_⟩
    refine List.forall_mem_cons.2 ⟨k_as (by kernel_rfl) rfl trivial, ?_⟩
    intro _ h; cases h
  case outera =>
    intro x hx
    simp only [List.mem_cons, List.not_mem_nil, or_false] at hx
    subst hx
    exact ⟨w.heap.size, rfl, hR1.drew⟩
  intro f w2 hg2 hf
  have h7 : pairP (prs r 32) (f 4) w2 := any_ok (h := pairP_grow (prs r 32)) rfl (hf 4 7 (by kernel_rfl))
  have h8 : pairP (prs r 32) (f 5) w2 := any_ok (h := pairP_grow (prs r 32)) rfl (hf 5 8 (by kernel_rfl))
  clear hf
  have hR2 := hR1.grow hg2
  have hG2 := Grow.trans hG1 hg2
  clear hR1 hG1 hg2
  simp only [putF, Act.put, List.setIfInBounds_toArray, List.set_cons_zero, List.set_cons_succ]
  go_upto_region 4 with fail
  refine toldp (tabOf ([(3, .ptr (r)), (7, .any (pairP (prs r 32)) (pairP_grow (prs r 32))), (8, .any (pairP (prs r 32)) (pairP_grow (prs r 32)))] ++ [(19, .any (pairP (prs r 32)) (pairP_grow (prs r 32))), (20, .val (.int .i64 (((prs r 32).length : Nat)))), (21, .any (pairP (prs r 32)) (pairP_grow (prs r 32))), (22, .val (.int .i64 (((prs r 32).length : Nat)))), (23, .val (.bool false)), (24, .val (.bool false)), (25, .val (.agg (cells (r)))), (26, .val (.int .i64 (((prs (r) 32).length : Nat)))), (27, .any (pairP (prs r 32)) (pairP_grow (prs r 32))), (28, .val (.int .i64 (((prs r 32).length : Nat)))), (29, .val (.bool false)), (30, .val (.bool false)), (31, .val (.bool false)), (32, .val (.agg (cells (r)))), (33, .val (.bool (eqB r nil))), (34, .any (pairP (prs r 32)) (pairP_grow (prs r 32))), (35, .val (.int .i64 (((prs r 32).length : Nat)))), (36, .val (.bool (eqB r nil))), (37, .val (.bool false)), (38, .val (.bool false))])) (by kernel_rfl) (by kernel_rfl) (tab_out _ _ (by kernel_rfl) ?outerb) ?eachb ?lastb
  case eachb =>
    refine List.forall_mem_cons.2 ⟨.inl (k_mv (by kernel_rfl) rfl trivial), ?_⟩
    refine List.forall_mem_cons.2 ⟨.inl (k_lenp ((prs r 32).length) _ _ (by kernel_rfl) rfl (fun _ _ h => Pl.form h) rfl trivial), ?_⟩
    refine List.forall_mem_cons.2 ⟨.inl (k_mv (by kernel_rfl) rfl trivial), ?_⟩
    refine List.forall_mem_cons.2 ⟨.inl (k_lenp ((prs r 32).length) _ _ (by kernel_rfl) rfl (fun _ _ h => Pl.form h) rfl trivial), ?_⟩
    refine List.forall_mem_cons.2 ⟨.inl (k_bin (.int .i64 (((prs r 32).length : Nat))) (.int .i64 (((prs r 32).length : Nat))) (.bool false) (fun _ _ h => ⟨h 20 (by kernel_rfl), h 22 (by kernel_rfl)⟩) rfl (nei _ _ _ _ _ (by simp)) trivial), ?_⟩
    refine List.forall_mem_cons.2 ⟨.inl (k_mv (by kernel_rfl) rfl trivial), ?_⟩
    refine List.forall_mem_cons.2 ⟨.inl (k_ld (r) (by kernel_rfl) rfl rfl ⟨24, rfl, (by kernel_rfl), rfl⟩), ?_⟩
    refine List.forall_mem_cons.2 ⟨.inl (k_c1 (.agg (cells (r))) (.int .i64 (((prs (r) 32).length : Nat))) (by kernel_rfl) (by kernel_rfl) rfl (count_any (r)) rfl ⟨24, rfl, (by kernel_rfl), rfl⟩), ?_⟩
    refine List.forall_mem_cons.2 ⟨.inl (k_mv (by kernel_rfl) rfl ⟨24, rfl, (by kernel_rfl), rfl⟩), ?_⟩
    refine List.forall_mem_cons.2 ⟨.inl (k_lenp ((prs r 32).length) _ _ (by kernel_rfl) rfl (fun _ _ h => Pl.form h) rfl ⟨24, rfl, (by kernel_rfl), rfl⟩), ?_⟩
    refine List.forall_mem_cons.2 ⟨.inl (k_bin (.int .i64 (((prs (r) 32).length : Nat))) (.int .i64 (((prs r 32).length : Nat))) (.bool false) (fun _ _ h => ⟨h 26 (by kernel_rfl), h 28 (by kernel_rfl)⟩) rfl (nei _ _ _ _ _ (by simp)) ⟨24, rfl, (by kernel_rfl), rfl⟩), ?_⟩
    refine List.forall_mem_cons.2 ⟨.inl (k_pf (by kernel_rfl) (by kernel_rfl) rfl rfl trivial), ?_⟩
    refine List.forall_mem_cons.2 ⟨.inl (k_mv (by kernel_rfl) rfl trivial), ?_⟩
    refine List.forall_mem_cons.2 ⟨.inl (k_ld (r) (by kernel_rfl) rfl rfl ⟨31, rfl, (by kernel_rfl), rfl⟩), ?_⟩
    refine List.forall_mem_cons.2 ⟨.inl (k_c1 (.agg (cells (r))) (.bool (eqB r nil)) (by kernel_rfl) (by kernel_rfl) rfl (fun w => calls_val (empty_any (r) w) (congrArg Value.bool (rfl))) rfl ⟨31, rfl, (by kernel_rfl), rfl⟩), ?_⟩
    refine List.forall_mem_cons.2 ⟨.inl (k_mv (by kernel_rfl) rfl ⟨31, rfl, (by kernel_rfl), rfl⟩), ?_⟩
    refine List.forall_mem_cons.2 ⟨.inl (k_lenp ((prs r 32).length) _ _ (by kernel_rfl) rfl (fun _ _ h => Pl.form h) rfl ⟨31, rfl, (by kernel_rfl), rfl⟩), ?_⟩
    refine List.forall_mem_cons.2 ⟨.inl (k_bin (.int .i64 (((prs r 32).length : Nat))) (.int .i64 0) (.bool (eqB r nil)) (fun _ _ h => ⟨h 35 (by kernel_rfl), rfl⟩) rfl (eqi _ _ _ _ _ (empty_len r)) ⟨31, rfl, (by kernel_rfl), rfl⟩), ?_⟩
    refine List.forall_mem_cons.2 ⟨.inl (k_bin (.bool (eqB r nil)) (.bool (eqB r nil)) (.bool false) (fun _ _ h => ⟨h 33 (by kernel_rfl), h 36 (by kernel_rfl)⟩) rfl (neb _ _ _ _ _ (by simp)) ⟨31, rfl, (by kernel_rfl), rfl⟩), ?_⟩
    refine List.forall_mem_cons.2 ⟨.inl (k_pf (by kernel_rfl) (by kernel_rfl) rfl rfl trivial), ?_⟩
    intro _ h; cases h
  case outerb =>
    intro x hx
    simp only [List.mem_cons, List.not_mem_nil, or_false] at hx
    rcases hx with rfl | rfl | rfl
    · exact ⟨w.heap.size, rfl, hR2⟩
    · exact h7
    · exact h8
  intro f2 w3 hg3 hf
  have hv : f2 19 = .bool false := hf 19 38 rfl
  have hR3 := hR2.grow hg3
  have hG3 := Grow.trans hG2 hg3
  have hp7 := Pl.grow hg3 (pairP_out h7)
  have hp8 := Pl.grow hg3 (pairP_out h8)
  clear hR2 hG2 hg3 h7 h8 hf
  simp only [putF, Act.put, List.setIfInBounds_toArray, List.set_cons_zero, List.set_cons_succ, hv]
  obtain ⟨ad7, cap7, e7⟩ := hp7.form
  obtain ⟨ad8, cap8, e8⟩ := hp8.form
  rw [e7] at hp7 ⊢
  rw [e8] at hp8 ⊢
  clear hv e7 e8
  have hlen := prs_len r 32
  obtain ⟨l, Hl⟩ : ∃ l, Hid (l = prs r 32) := ⟨_, rfl⟩
  rw [← Hl.out] at hp7 hp8 hlen ⊢
  go_wp2
  go_loopw [9, 10, 11, 12] (fun s9 s10 s11 s12 wr => ∃ i : Nat, i ≤ l.length ∧ s9 = .int .u32 (U (dT l i)) ∧ s10 = .int .u32 (U (gT l i)) ∧ s11 = .bool (thT a b l i) ∧ s12 = .int .i64 i ∧ Grow w wr ∧ At wr w.heap.size r ∧ Pl wr (.slice ad7 l.length cap7) l ∧ Pl wr (.slice ad8 l.length cap8) l) (fun _ _ _ s _ => l.length - (intOf s).toNat)
  case atStart => exact ⟨0, by omega, by rw [dT_zero], by rw [gT_zero], by rw [thT_zero], rfl, hG3, hR3, hp7, hp8⟩
  case round =>
    clear hG3 hR3 hp7 hp8
    obtain ⟨i, hi, rfl, rfl, rfl, rfl, hG, hR, hp7, hp8⟩ := hrel
    by_cases hlt : i < l.length
    · obtain ⟨x, y, Hp⟩ : ∃ x y, Hid (l[i]? = some (x, y)) := ⟨l[i].1, l[i].2, List.getElem?_eq_getElem hlt⟩
      obtain ⟨g1, c1, hv1, hgl1, hc1, hc2⟩ := hp7.cell Hp.out
      obtain ⟨g2, c2, hv2, hgl2, hc3, hc4⟩ := hp8.cell Hp.out
      cases hv1
      cases hv2
      have hxy := prs_ev (r := r) (i := i) (x := x) (y := y) (by rw [← Hl.out]; exact Hp.out)
      have HD : Hid (dT l (i + 1) = dT l i ||| one x) := dT_next Hp.out
      have HGG : Hid (gT l (i + 1) = gT l i ||| one y) := gT_next Hp.out
      have HT : Hid (thT a b l (i + 1) = (thT a b l i || (((x : Int) == a) && ((y : Int) == b)))) := thT_next Hp.out
      have hpx := pow_one x
      have hpy := pow_one y
      have ho1 := bits_or (dT l i) (one x)
      have ho2 := bits_or (gT l i) (one y)
      have hE1 : ∀ w, (Op.equalIn 10000 29 (.agg #[.int .i64 (x : Int), .int .i64 (y : Int)]) (.agg #[.int .i64 (x : Int), .int .i64 (y : Int)])).run Try.prog w = .ok true w := fun w => by rw [eq_pair 9998]; simp
      have hE2 : ∀ w, (Op.equalIn 10000 29 (.agg #[.int .i64 (x : Int), .int .i64 (y : Int)]) (.agg #[.int .i64 a, .int .i64 b])).run Try.prog w = .ok (((x : Int) == a) && ((y : Int) == b)) w := fun w => eq_pair 9998 _ _ _ _ w
      cases hth : thT a b l i
      · cases heq : (((x : Int) == a) && ((y : Int) == b))
        all_goals
          rw [heq] at hE2
          go_wp2
          go_quiet ((fail))
          go_wp2
          go_roundw
          case rel => exact ⟨i + 1, by omega, by rw [HD.out], by rw [HGG.out], by rw [HT.out, hth, heq]; rfl, by go_num, Grow.trans hG (Grow_drew _ _), hR.grow (Grow_drew _ _), Pl.grow (Grow_drew _ _) hp7, Pl.grow (Grow_drew _ _) hp8⟩
          case measure => simp [intOf]; omega
      · go_wp2
        go_quiet ((fail))
        go_wp2
        go_roundw
        case rel => exact ⟨i + 1, by omega, by rw [HD.out], by rw [HGG.out], by rw [HT.out, hth]; rfl, by go_num, Grow.trans hG (Grow_drew _ _), hR.grow (Grow_drew _ _), Pl.grow (Grow_drew _ _) hp7, Pl.grow (Grow_drew _ _) hp8⟩
        case measure => simp [intOf]; omega
    · obtain rfl : i = l.length := by omega
      have hd1 : dT l l.length = domT r 32 := by rw [Hl.out]; exact dT_full r
      have hd2 : gT l l.length = aft allS r 32 := by rw [Hl.out]; exact gT_full r
      have hd3 : thT a b l l.length = hasB r a b := by rw [Hl.out]; exact thT_full a b r
      rw [hd1, hd2, hd3]
      clear hd1 hd2 hd3
      go_wp2
      refine told (tabOf ([(1, .val (.int .i64 (a))), (2, .val (.int .i64 (b))), (3, .ptr (r)), (9, .val (.int .u32 (U (domT r 32)))), (10, .val (.int .u32 (U (aft allS r 32)))), (11, .val (.bool (hasB r a b)))] ++ [(81, .val (.agg (cells (r)))), (82, .val (.int .i64 (a))), (83, .val (.int .i64 (b))), (84, .val (.bool (hasB r a b))), (85, .val (.bool (hasB r a b))), (86, .val (.bool true)), (87, .val (.bool true)), (88, .val (.agg (cells (r)))), (89, .val (.int .u32 (U (domT (r) 32)))), (90, .val (.int .u32 (U (domT r 32)))), (91, .val (.bool true)), (92, .val (.bool true)), (93, .val (.bool true)), (94, .val (.agg (cells (r)))), (95, .val (.int .u32 (U (aft allS (r) 32)))), (96, .val (.int .u32 (U (aft allS r 32)))), (97, .val (.bool true)), (98, .val (.bool true)), (99, .val (.bool true)), (100, .val (.agg (cells (r)))), (101, .val (.bool (irrB r))), (102, .val (.agg (cells (r)))), (103, .val (.bool (irrB r))), (104, .val (.bool true)), (105, .val (.bool true)), (106, .val (.bool true)), (107, .val (.agg (cells (r)))), (108, .val (.bool (acyB r))), (109, .val (.agg (cells (r)))), (110, .val (.bool (acyB r))), (111, .val (.bool true)), (112, .val (.bool true)), (6, .val (.bool true))])) (by kernel_rfl) (by kernel_rfl) (tab_out _ _ (by kernel_rfl) ?outerc) ?eachc ?lastc
      case eachc =>
        refine List.forall_mem_cons.2 ⟨k_ld (r) (by kernel_rfl) rfl rfl trivial, ?_⟩
        refine List.forall_mem_cons.2 ⟨k_mv (by kernel_rfl) rfl trivial, ?_⟩
        refine List.forall_mem_cons.2 ⟨k_mv (by kernel_rfl) rfl trivial, ?_⟩
        refine List.forall_mem_cons.2 ⟨k_c3 (.agg (cells (r))) (.int .i64 (a)) (.int .i64 (b)) (.bool (hasB r a b)) (by kernel_rfl) (by kernel_rfl) rfl (by kernel_rfl) rfl (by kernel_rfl) rfl (fun w => calls_val (has_any (r) (a) (b) w) (congrArg Value.bool (rfl))) rfl trivial, ?_⟩
        refine List.forall_mem_cons.2 ⟨k_mv (by kernel_rfl) rfl trivial, ?_⟩
        refine List.forall_mem_cons.2 ⟨k_bin (.bool (hasB r a b)) (.bool (hasB r a b)) (.bool true) (fun _ _ h => ⟨h 84 (by kernel_rfl), h 85 (by kernel_rfl)⟩) rfl (eqb _ _ _ _ _ (by simp)) trivial, ?_⟩
        refine List.forall_mem_cons.2 ⟨k_mv (by kernel_rfl) rfl trivial, ?_⟩
        refine List.forall_mem_cons.2 ⟨k_ld (r) (by kernel_rfl) rfl rfl ⟨87, rfl, (by kernel_rfl), rfl⟩, ?_⟩
        refine List.forall_mem_cons.2 ⟨k_c1 (.agg (cells (r))) (.int .u32 (U (domT (r) 32))) (by kernel_rfl) (by kernel_rfl) rfl (dom_any (r)) rfl ⟨87, rfl, (by kernel_rfl), rfl⟩, ?_⟩
        refine List.forall_mem_cons.2 ⟨k_mv (by kernel_rfl) rfl ⟨87, rfl, (by kernel_rfl), rfl⟩, ?_⟩
        refine List.forall_mem_cons.2 ⟨k_bin (.int .u32 (U (domT (r) 32))) (.int .u32 (U (domT r 32))) (.bool true) (fun _ _ h => ⟨h 89 (by kernel_rfl), h 90 (by kernel_rfl)⟩) rfl (eqi _ _ _ _ _ (by simp)) ⟨87, rfl, (by kernel_rfl), rfl⟩, ?_⟩
        refine List.forall_mem_cons.2 ⟨k_pt (by kernel_rfl) (by kernel_rfl) rfl rfl trivial, ?_⟩
        refine List.forall_mem_cons.2 ⟨k_mv (by kernel_rfl) rfl trivial, ?_⟩
        refine List.forall_mem_cons.2 ⟨k_ld (r) (by kernel_rfl) rfl rfl ⟨93, rfl, (by kernel_rfl), rfl⟩, ?_⟩
        refine List.forall_mem_cons.2 ⟨k_c1 (.agg (cells (r))) (.int .u32 (U (aft allS (r) 32))) (by kernel_rfl) (by kernel_rfl) rfl (rng_any (r)) rfl ⟨93, rfl, (by kernel_rfl), rfl⟩, ?_⟩
        refine List.forall_mem_cons.2 ⟨k_mv (by kernel_rfl) rfl ⟨93, rfl, (by kernel_rfl), rfl⟩, ?_⟩
        refine List.forall_mem_cons.2 ⟨k_bin (.int .u32 (U (aft allS (r) 32))) (.int .u32 (U (aft allS r 32))) (.bool true) (fun _ _ h => ⟨h 95 (by kernel_rfl), h 96 (by kernel_rfl)⟩) rfl (eqi _ _ _ _ _ (by simp)) ⟨93, rfl, (by kernel_rfl), rfl⟩, ?_⟩
        refine List.forall_mem_cons.2 ⟨k_pt (by kernel_rfl) (by kernel_rfl) rfl rfl trivial, ?_⟩
        refine List.forall_mem_cons.2 ⟨k_mv (by kernel_rfl) rfl trivial, ?_⟩
        refine List.forall_mem_cons.2 ⟨k_ld (r) (by kernel_rfl) rfl rfl ⟨99, rfl, (by kernel_rfl), rfl⟩, ?_⟩
        refine List.forall_mem_cons.2 ⟨k_c1 (.agg (cells (r))) (.bool (irrB r)) (by kernel_rfl) (by kernel_rfl) rfl (fun w => calls_val (irr_any (r) w) (congrArg Value.bool (rfl))) rfl ⟨99, rfl, (by kernel_rfl), rfl⟩, ?_⟩
        refine List.forall_mem_cons.2 ⟨k_ld (r) (by kernel_rfl) rfl rfl ⟨99, rfl, (by kernel_rfl), rfl⟩, ?_⟩
        refine List.forall_mem_cons.2 ⟨k_c1 (.agg (cells (r))) (.bool (irrB r)) (by kernel_rfl) (by kernel_rfl) rfl (fun w => calls_val (rirr_any (r) w) (congrArg Value.bool (rfl))) rfl ⟨99, rfl, (by kernel_rfl), rfl⟩, ?_⟩
        refine List.forall_mem_cons.2 ⟨k_bin (.bool (irrB r)) (.bool (irrB r)) (.bool true) (fun _ _ h => ⟨h 101 (by kernel_rfl), h 103 (by kernel_rfl)⟩) rfl (eqb _ _ _ _ _ (by simp)) ⟨99, rfl, (by kernel_rfl), rfl⟩, ?_⟩
        refine List.forall_mem_cons.2 ⟨k_pt (by kernel_rfl) (by kernel_rfl) rfl rfl trivial, ?_⟩
        refine List.forall_mem_cons.2 ⟨k_mv (by kernel_rfl) rfl trivial, ?_⟩
        refine List.forall_mem_cons.2 ⟨k_ld (r) (by kernel_rfl) rfl rfl ⟨106, rfl, (by kernel_rfl), rfl⟩, ?_⟩
        refine List.forall_mem_cons.2 ⟨k_c1 (.agg (cells (r))) (.bool (acyB r)) (by kernel_rfl) (by kernel_rfl) rfl (fun w => calls_val (acy_any (r) w) (congrArg Value.bool (rfl))) rfl ⟨106, rfl, (by kernel_rfl), rfl⟩, ?_⟩
        refine List.forall_mem_cons.2 ⟨k_ld (r) (by kernel_rfl) rfl rfl ⟨106, rfl, (by kernel_rfl), rfl⟩, ?_⟩
        refine List.forall_mem_cons.2 ⟨k_c1 (.agg (cells (r))) (.bool (acyB r)) (by kernel_rfl) (by kernel_rfl) rfl (fun w => calls_val (racy_any (r) w) (congrArg Value.bool (rfl))) rfl ⟨106, rfl, (by kernel_rfl), rfl⟩, ?_⟩
        refine List.forall_mem_cons.2 ⟨k_bin (.bool (acyB r)) (.bool (acyB r)) (.bool true) (fun _ _ h => ⟨h 108 (by kernel_rfl), h 110 (by kernel_rfl)⟩) rfl (eqb _ _ _ _ _ (by simp)) ⟨106, rfl, (by kernel_rfl), rfl⟩, ?_⟩
        refine List.forall_mem_cons.2 ⟨k_pt (by kernel_rfl) (by kernel_rfl) rfl rfl trivial, ?_⟩
        refine List.forall_mem_cons.2 ⟨k_as (by kernel_rfl) rfl trivial, ?_⟩
        intro _ h; cases h
      case outerc =>
        intro x hx
        simp only [List.mem_cons, List.not_mem_nil, or_false] at hx
        rcases hx with rfl | rfl | rfl | rfl | rfl | rfl
        · exact rfl
        · exact rfl
        · exact ⟨w.heap.size, rfl, hR.drew⟩
        · exact rfl
        · exact rfl
        · exact rfl
      intro f3 w6 hg6 hf
      have hv : f3 32 = .bool true := hf 32 6 rfl
      simp only [putF, Act.put, List.setIfInBounds_toArray, List.set_cons_zero, List.set_cons_succ, hv]
      go_wp2
      go_ret
      exact ⟨rfl, Grow.trans hG hg6⟩


set_option maxRecDepth 100000 in
theorem lifted (os : Os) (started : os.Started) (H : Type) (enc : TypeId × Value → H) :
    ReturnsInHanded {} Try.checked os 6 .any (Rows.relTellsSpec.pre6 enc Try.prog Try.f6 Rows.relTellsRow.domain false) (Rows.relTellsSpec.post enc Try.prog Try.f6 false true false false) := by
  refine returnsInHanded_of_change (C := Try.checked) own started (by kernel_rfl) Try.func6
    (ChangeSpec.witness6 (enc := enc) (C := Try.checked) false ⟨#[], #[.agg (Array.replicate 32 (.int .u32 0)), .int .i64 0, .int .i64 0], []⟩ 8 (by kernel_rfl) (by kernel_rfl) (by kernel_rfl) (by kernel_rfl)) ?_
  intro W base args ds gs before hval0 hW hcnd _
  have hval : ∀ (j : Nat) t v, Try.f6.params[j]? = some t → args[j]? = some v → Value.okWide Try.prog W .any base t v := hval0
  have hW' := hW
  obtain ⟨p, q, hA0, hV, rfl, hfz, hnd⟩ := hW
  have hA : DataW.TrodAll enc Try.prog W 0 (fun _ => true) true Try.f6.params.toList args.toList ds p := hA0
  rw [Try.params6] at hA hval
  obtain ⟨v0, vs0, d0, ds0, p0, q0, hargs, rfl, rfl, h0, r0⟩ := trodAll_cons hA
  obtain ⟨v1, vs1, d1, ds1, p1, q1, rfl, rfl, rfl, h1, r1⟩ := trodAll_cons r0
  obtain ⟨v2, vs2, d2, ds2, p2, q2, rfl, rfl, rfl, h2, r2⟩ := trodAll_cons r1
  obtain ⟨rfl, rfl, rfl⟩ := trodAll_nil r2
  obtain rfl : args = #[v0, v1, v2] := by cases args; simp_all
  obtain ⟨rfl, rfl⟩ := trodVars_none hV
  have k0 := h0
  have lt0 : ∀ x ∈ p0, x.block < W.heap.size := by obtain ⟨m, hm⟩ := k0; exact DataW.trod_lt m _ _ _ hm
  obtain ⟨a0, rfl⟩ := open_rel (hval 0 28 v0 rfl rfl) h0
  have k1 := h1
  have lt1 : ∀ x ∈ p1, x.block < W.heap.size := by obtain ⟨m, hm⟩ := k1; exact DataW.trod_lt m _ _ _ hm
  obtain ⟨a1, rfl, _, _, w1⟩ := open_int Try.underlying3 (hval 1 3 v1 rfl rfl) h1
  have k2 := h2
  have lt2 : ∀ x ∈ p2, x.block < W.heap.size := by obtain ⟨m, hm⟩ := k2; exact DataW.trod_lt m _ _ _ hm
  obtain ⟨a2, rfl, _, _, w2⟩ := open_int Try.underlying3 (hval 2 3 v2 rfl rfl) h2
  clear hA0 hval0
  refine (walk a0 a1 w1 a2 w2 W).mono fun e W' ⟨he, bel⟩ => ?_
  subst he
  exact ⟨_, rfl, _, _, _, [], _, [], hW', trodAll_mk1 (shut_bool Try.underlying4 _), (trodAll_cons_mk (Below.trod laidOut (by kernel_rfl) (of_decide_eq_true (by kernel_rfl)) k0 bel lt0) (trodAll_cons_mk (Below.trod laidOut (by kernel_rfl) (of_decide_eq_true (by kernel_rfl)) k1 bel lt1) (trodAll_cons_mk (Below.trod laidOut (by kernel_rfl) (of_decide_eq_true (by kernel_rfl)) k2 bel lt2) trodAll_mk0))), rfl, bel.frame _, fun h => by cases h⟩

theorem over : Rows.relTellsRow.holds Try.pinned (OpenSpec.ofChange Rows.relTellsSpec) :=
  OpenClaim.holds_of_wide 6 Try.f6 rfl rfl rfl rfl rfl rfl rfl ⟨rfl, rfl, rfl, rfl, rfl⟩ rfl rfl rfl rfl rfl (by kernel_rfl) Try.func6 (by kernel_rfl)
    (of_decide_eq_true (by kernel_rfl)) (by unfold Func.isWrapper; first | (rw [if_pos (by decide +kernel)]; kernel_rfl) | (rw [if_neg (by decide +kernel)]; exact ⟨rfl, rfl⟩))
    (fun os started H enc _ => lifted os started H enc)

theorem proved : Rows.RelTellsSaid := over
end Go.Proofs.Ytlbccddhcbcpoaa.relTells
namespace Go.Proofs.Ytlbccddhcbcpoaa
theorem relTells_holds : Rows.RelTellsSaid := relTells.proved
end Go.Proofs.Ytlbccddhcbcpoaa
#print axioms Go.Proofs.Ytlbccddhcbcpoaa.relTells_holds
