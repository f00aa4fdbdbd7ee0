/- RelRows returns true for every set and every relation, and leaves its arguments as they were: there is a row just if the relation is acyclic within the set, in it each pair goes forward, and each event of the set stands once; no condition. -/
import Derived.Test.YtlbccddhcbcpoabRows
import Derived.Test.YtlbccddhcbcpoabArgs
import Derived.Deep.Cut
import Derived.Test.YtlbccddhcbcpoabOrderT
import Derived.Test.YtlbccddhcbcpoabTold2
namespace Go.Proofs.Ytlbccddhcbcpoab.relRows
open Go.ChangeShapes Go.WideShapes Go.ChangeAt Go.RowKit
set_option linter.unusedVariables false

theorem own : ownKnob Try.prog.godebug = none := by kernel_rfl
theorem laidOut : laidOutB Try.prog = true := by kernel_rfl

theorem il_len {r : Rl} {u : St} {l : List Nat} (h : Laid u r 0#32 l) : l.length ≤ 32 := by
  have := h.len
  have := lst_len u 32
  omega
theorem has_no {u : St} {r : Rl} {l : List Nat} (h : Laid u r 0#32 l) {i k a b : Nat} (hki : k ≤ i) (ha : l[i]? = some a) (hb : l[k]? = some b) : hasB (within u r) a b = false := by
  cases hh : hasB (within u r) a b
  · rfl
  · have := (has_within u r a b).1 ((hasB_iff (within u r) a b).1 hh)
    exact absurd this.1 (h.fwd i k a b hki ha hb)
theorem evs_il {w : World} {v : Value} {l : List Nat} (hi : Il w v l) (hl : l.length ≤ 32) (hn : l ≠ []) : Calls Try.prog 17 #[v] w fun x w' => x = .returned (.int .u32 (U (evs (l.map fun n : Nat => (n : Int))))) ∧ Grow w w' := by
  have hpos : 0 < l.length := List.length_pos_iff.2 hn
  obtain ⟨g, cap, rfl, _, _⟩ := hi.cell (List.getElem?_eq_getElem hpos)
  have := events_sl (l.map fun n : Nat => (n : Int)) g 0 cap w (by simp; omega) (fun j x hj => by
    rw [List.getElem?_map] at hj
    cases hlj : l[j]? with
    | none => rw [hlj] at hj; simp at hj
    | some y =>
      rw [hlj] at hj; simp at hj; subst hj
      obtain ⟨g', cap', hv, _, hc⟩ := hi.cell hlj
      cases hv
      simpa using hc)
  rw [List.length_map] at this
  exact grow_of this
theorem evs_nil (w : World) : Calls Try.prog 17 #[.slice none 0 0] w fun x w' => x = .returned (.int .u32 0) ∧ w' = w := by
  go_enter Try.func17, Try.ntmps17
  go_wp2
  go_loop [3, 8] (fun v i => v = .int .u32 0 ∧ i = .int .i64 0) (fun _ _ => 0)
  case atStart => exact ⟨rfl, rfl⟩
  case round =>
    obtain ⟨rfl, rfl⟩ := hrel
    go_wp2
    go_ret
    exact ⟨rfl, rfl⟩
theorem evs_all {r : Rl} {u : St} {w : World} {v : Value} {l : List Nat} (h : Laid u r 0#32 l) (hi : Il w v l) : Calls Try.prog 17 #[v] w fun x w' => x = .returned (.int .u32 (U u)) ∧ Grow w w' := by
  by_cases hn : l = []
  · subst hn
    have hu : u = 0#32 := by have := h.evs; rw [← this]; rfl
    rcases hi.2 with ⟨rfl, _⟩ | ⟨g, cap, cur, rfl, hb, hg, h1, h2, h3, h4⟩
    · rw [hu, U_zero]; exact grow_of (evs_nil w)
    · have := events_sl [] g 0 cap w (by simp) (fun j x hj => by simp at hj)
      rw [hu]
      exact grow_of this
  · have := evs_il hi (il_len h) hn
    rwa [h.evs] at this
theorem win_def (u : St) (r : Rl) : met [r, crs u u] = within u r := rfl

attribute [local irreducible] wpList cells row U aft inn one nil part upd idr crs mns eqB evB stepP plusT invT uni met sqs or2 and2 seq2 allS lst nums prs prt pcs pairT pairS irrB acyB hasB fst pA pB pC has domT ordT freeS card within

set_option maxRecDepth 100000 in
set_option maxHeartbeats 8000000 in
theorem walk (a0 : Int) (w0 : (Lit.int .u32 a0).wf = true) (r : Rl) (w : World) : Calls Try.prog 4 #[.int .u32 a0, .agg (cells r)] w fun e w' => e = .returned (.bool true) ∧ Grow w w' := by
  obtain ⟨u, rfl⟩ := U_of_wf w0
  clear w0
  have hR0 := At.new w r
  have hG0 : Grow w (w.alloc (.cells (cells r) 25)) := (Grow.refl w).alloc _
  go_enter Try.func4, Try.ntmps4
  go_wp2_with (go_at_call 6; refine (able_any _).mono ?_; rintro e w1 ⟨rfl, hg1⟩)
  have hR1 := hR0.grow hg1
  have hG1 := Grow.trans hG0 hg1
  clear hR0 hG0 hg1
  refine told_end (by simp) (tabOf ([(0, .val (.int .u32 (U (u)))), (3, .ptr (r))] ++ [(12, .val (.agg (cells (r)))), (13, .val (.int .u32 (U (u)))), (14, .val (.int .u32 (U (u)))), (15, .val (.agg (cells (crs (u) (u))))), (16, .sl [r, crs (u) (u)]), (17, .val (.agg (cells (met [r, crs (u) (u)])))), (5, .any (freshP w1.heap.size) (freshP_grow w1.heap.size))])) (by kernel_rfl) (by kernel_rfl) (by kernel_rfl) (tab_out _ _ (by kernel_rfl) ?outer) ?each ?last
  case each =>
    refine fd_cons (k_ld (r) (by kernel_rfl) rfl rfl trivial) ?_
    refine fd_cons (k_mv (by kernel_rfl) rfl trivial) ?_
    refine fd_cons (k_mv (by kernel_rfl) rfl trivial) ?_
    refine fd_cons (k_c2 (.int .u32 (U (u))) (.int .u32 (U (u))) (.agg (cells (crs (u) (u)))) (by kernel_rfl) (by kernel_rfl) rfl (by kernel_rfl) rfl (crs_any (u) (u)) rfl trivial) ?_
    refine fd_cons (k_b2 (r) (crs (u) (u)) (by kernel_rfl) rfl (by kernel_rfl) rfl rfl trivial) ?_
    refine fd_cons (k_s1 [r, crs (u) (u)] (.agg (cells (met [r, crs (u) (u)]))) (by kernel_rfl) (by kernel_rfl) rfl (fun v w h => met_any [r, crs (u) (u)] v w h (by simp)) rfl trivial) ?_
    refine fd_cons (k_al _ (Nat.le_refl _) rfl trivial) ?_
    exact fd_one
  case outer =>
    intro x hx
    simp only [List.mem_cons, List.not_mem_nil, or_false] at hx
    rcases hx with rfl | rfl
    · exact rfl
    · exact ⟨w.heap.size, rfl, hR1.drew⟩
  intro f w2 hg2 hf
  have hv17 : f 5 = .agg (cells (met [r, crs u u])) := hf 5 17 (by kernel_rfl)
  have h5 : freshP w1.heap.size (f 6) w2 := any_ok (h := freshP_grow w1.heap.size) rfl (hf 6 5 (by kernel_rfl))
  simp only [putF_two, putF_one, List.getLast_cons_cons, List.getLast_singleton, Act.put, List.setIfInBounds_toArray, List.set_cons_zero, List.set_cons_succ, hv17]
  refine Exists.elim (fresh_out h5) ?_
  intro gi hh
  have hgi := hh.1
  have hv5 := hh.2.1
  have hA5 := hh.2.2
  clear h5 hh
  rw [hv5]
  refine st_wp gi nil (met [r, crs u u]) rfl rfl hA5 ?_
  rw [win_def]
  have hlt1 := hR1.lt
  have hR3 : At (w2.setRow gi (cells (within u r))) w.heap.size r := (hR1.grow hg2).put_other (by omega)
  have hI3 : At (w2.setRow gi (cells (within u r))) gi (within u r) := hA5.put
  have hG3 : Grow w (w2.setRow gi (cells (within u r))) := below_setRow (Grow.trans hG1 hg2) (by omega) _
  clear hR1 hG1 hg2 hA5 hf hv17 hv5 hlt1
  generalize w2.setRow gi (cells (within u r)) = w3 at hR3 hI3 hG3 ⊢
  go_upto_region 5 with (first | (refine ld w.heap.size r (by rfl) hR3 ?_) | (go_at_call 14; refine (order_any u r _).mono ?_; rintro e w4 ⟨v4, b4, rfl, hg4, ha4⟩))
  have hI4 := hI3.grow hg4
  have hG4 := Grow.trans hG3 hg4
  clear hR3 hI3 hG3 hg4
  rcases ha4 with ⟨rfl, rfl, h4⟩ | ⟨rfl, l, h4, hi4⟩
  · have hac := ord_acy_none h4
    clear h4
    go_wp2_with (first | (refine ld gi (within u r) (by rfl) hI4 ?_) | (go_at_call 15; refine (acy_any _ _).mono ?_; rintro e w5 ⟨rfl, hg5⟩))
    have hG5 := Grow.trans hG4 hg5
    go_loopw [8] (fun i wr => i = .int .i64 0 ∧ wr = w5) (fun _ _ => 0)
    case atStart => exact ⟨rfl, rfl⟩
    case round =>
      obtain ⟨rfl, rfl⟩ := hrel
      go_wp2
      go_ret
      exact ⟨rfl, hG5⟩
  · obtain ⟨hL, hac⟩ := ord_acy_some h4
    have HL : Hid (Laid u r 0#32 l) := hL
    have hlen := il_len hL
    obtain ⟨ad4, cap4, hv4⟩ := hi4.form
    subst hv4
    clear h4 hL
    go_wp2_with (first | (refine ld gi (within u r) (by rfl) hI4 ?_) | (go_at_call 15; refine (acy_any _ _).mono ?_; rintro e w5 ⟨rfl, hg5⟩))
    have hI5 := hI4.grow hg5
    have hG5 := Grow.trans hG4 hg5
    have hi5 := Il.grow hg5 hi4
    clear hI4 hG4 hg5 hi4
    go_loopw [8] (fun s wr => ∃ i : Nat, i ≤ l.length ∧ s = .int .i64 i ∧ Grow w wr ∧ At wr gi (within u r) ∧ Il wr (.slice ad4 l.length cap4) l) (fun s _ => l.length - (intOf s).toNat)
    case atStart => exact ⟨0, by omega, rfl, hG5, hI5, hi5⟩
    case round =>
      clear hG5 hI5 hi5
      obtain ⟨i, hi, rfl, hG6, hI6, hi6⟩ := hrel
      by_cases hlt : i < l.length
      · have hdi : decide ((i : Int) < (l.length : Int)) = true := by simp; omega
        go_wp2
        go_loopw [9] (fun s wr => ∃ k : Nat, k ≤ i + 1 ∧ s = .int .i64 k ∧ Grow w wr ∧ At wr gi (within u r) ∧ Il wr (.slice ad4 l.length cap4) l) (fun s _ => i + 1 - (intOf s).toNat)
        case atStart => exact ⟨0, by omega, rfl, hG6, hI6, hi6⟩
        case round =>
          clear hG6 hI6 hi6
          obtain ⟨k, hk, rfl, hG7, hI7, hi7⟩ := hrel
          by_cases hlt2 : k ≤ i
          · have hdk : decide ((k : Int) ≤ (i : Int)) = true := by simp; omega
            obtain ⟨x, Hx⟩ : ∃ x, Hid (l[i]? = some x) := ⟨l[i], List.getElem?_eq_getElem hlt⟩
            obtain ⟨y, Hy⟩ : ∃ y, Hid (l[k]? = some y) := ⟨l[k], List.getElem?_eq_getElem (by omega)⟩
            have HH : Hid (hasB (within u r) x y = false) := has_no HL.out hlt2 Hx.out Hy.out
            go_wp2
            · skip
              refine told (tabOf ([(5, .ptr (within u r)), (6, .any (rowP l) (rowP_grow l)), (8, .val (.int .i64 ((i : Nat)))), (9, .val (.int .i64 ((k : Nat))))] ++ [(51, .val (.agg (cells (within u r)))), (52, .any (rowP l) (rowP_grow l)), (53, .val (.int .i64 ((i : Nat)))), (54, .any (cellP (x)) (cellP_grow (x))), (55, .val (.int .i64 ((x : Nat)))), (56, .any (rowP l) (rowP_grow l)), (57, .val (.int .i64 ((k : Nat)))), (58, .any (cellP (y)) (cellP_grow (y))), (59, .val (.int .i64 ((y : Nat)))), (60, .val (.bool false))])) (by kernel_rfl) (by kernel_rfl) (tab_out _ _ (by kernel_rfl) ?outerh) ?eachh ?lasth
              case eachh =>
                refine List.forall_mem_cons.2 ⟨k_ld (within u r) (by kernel_rfl) rfl rfl trivial, ?_⟩
                refine List.forall_mem_cons.2 ⟨k_mv (by kernel_rfl) rfl trivial, ?_⟩
                refine List.forall_mem_cons.2 ⟨k_mv (by kernel_rfl) rfl trivial, ?_⟩
                refine List.forall_mem_cons.2 ⟨k_ia l ((i : Nat)) (x) (by kernel_rfl) (by kernel_rfl) rfl rfl (Hx.out) rfl trivial, ?_⟩
                refine List.forall_mem_cons.2 ⟨k_li (x) (by kernel_rfl) rfl rfl trivial, ?_⟩
                refine List.forall_mem_cons.2 ⟨k_mv (by kernel_rfl) rfl trivial, ?_⟩
                refine List.forall_mem_cons.2 ⟨k_mv (by kernel_rfl) rfl trivial, ?_⟩
                refine List.forall_mem_cons.2 ⟨k_ia l ((k : Nat)) (y) (by kernel_rfl) (by kernel_rfl) rfl rfl (Hy.out) rfl trivial, ?_⟩
                refine List.forall_mem_cons.2 ⟨k_li (y) (by kernel_rfl) rfl rfl trivial, ?_⟩
                refine List.forall_mem_cons.2 ⟨k_c3 (.agg (cells (within u r))) (.int .i64 ((x : Nat))) (.int .i64 ((y : Nat))) (.bool false) (by kernel_rfl) (by kernel_rfl) rfl (by kernel_rfl) rfl (by kernel_rfl) rfl (fun w => calls_val (has_any (within u r) ((x : Nat)) ((y : Nat)) w) (congrArg Value.bool (HH.out))) rfl trivial, ?_⟩
                intro _ h; cases h
              case outerh =>
                intro x hx
                simp only [List.mem_cons, List.not_mem_nil, or_false] at hx
                rcases hx with rfl | rfl | rfl | rfl
                · exact ⟨gi, rfl, hI7.drew⟩
                · exact hi7
                · exact rfl
                · exact rfl
              intro f w8 hg8 hf
              have hv : f 9 = .bool false := hf 9 60 rfl
              simp only [putF, Act.put, List.setIfInBounds_toArray, List.set_cons_zero, List.set_cons_succ, hv]
              go_wp2
              go_roundw
              case rel => exact ⟨k + 1, by omega, by go_num, Grow.trans hG7 hg8, hI7.grow hg8, Il.grow hg8 hi7⟩
              case measure => simp [intOf]; omega
          · obtain rfl : k = i + 1 := by omega
            have hdk : decide (((i : Int) + 1) ≤ (i : Int)) = false := by simp; omega
            go_wp2
            go_roundw
            case rel => exact ⟨i + 1, by omega, by go_num, hG7, hI7, hi7⟩
            case measure => simp [intOf]; omega
      · obtain rfl : i = l.length := by omega
        have HLL : Hid (l.length = (lst u 32).length) := HL.out.len
        go_wp2_with (first | (go_at_call 17; refine (evs_all HL.out hi6).mono ?_; rintro e w7 ⟨rfl, hg7⟩) | (go_at_call 18; refine (list_any u _).mono ?_; rintro e w8 ⟨v8, rfl, hg8, hi8⟩; obtain ⟨ad8, cap8, hv8⟩ := Il.form (own_zero hi8); subst hv8; rw [← HLL.out]))
        go_ret
        exact ⟨rfl, Grow.trans (Grow.trans hG6 hg7) hg8⟩


set_option maxRecDepth 100000 in
theorem lifted (os : Os) (started : os.Started) (H : Type) (enc : TypeId × Value → H) :
    ReturnsInHanded {} Try.checked os 4 .any (Rows.relRowsSpec.pre6 enc Try.prog Try.f4 Rows.relRowsRow.domain false) (Rows.relRowsSpec.post enc Try.prog Try.f4 false true false false) := by
  refine returnsInHanded_of_change (C := Try.checked) own started (by kernel_rfl) Try.func4
    (ChangeSpec.witness6 (enc := enc) (C := Try.checked) false ⟨#[], #[.int .u32 0, .agg (Array.replicate 32 (.int .u32 0))], []⟩ 8 (by kernel_rfl) (by kernel_rfl) (by kernel_rfl) (by kernel_rfl)) ?_
  intro W base args ds gs before hval0 hW hcnd _
  have hval : ∀ (j : Nat) t v, Try.f4.params[j]? = some t → args[j]? = some v → Value.okWide Try.prog W .any base t v := hval0
  have hW' := hW
  obtain ⟨p, q, hA0, hV, rfl, hfz, hnd⟩ := hW
  have hA : DataW.TrodAll enc Try.prog W 0 (fun _ => true) true Try.f4.params.toList args.toList ds p := hA0
  rw [Try.params4] at hA hval
  obtain ⟨v0, vs0, d0, ds0, p0, q0, hargs, rfl, rfl, h0, r0⟩ := trodAll_cons hA
  obtain ⟨v1, vs1, d1, ds1, p1, q1, rfl, rfl, rfl, h1, r1⟩ := trodAll_cons r0
  obtain ⟨rfl, rfl, rfl⟩ := trodAll_nil r1
  obtain rfl : args = #[v0, v1] := by cases args; simp_all
  obtain ⟨rfl, rfl⟩ := trodVars_none hV
  have k0 := h0
  have lt0 : ∀ x ∈ p0, x.block < W.heap.size := by obtain ⟨m, hm⟩ := k0; exact DataW.trod_lt m _ _ _ hm
  obtain ⟨a0, rfl, _, _, w0⟩ := open_int Try.underlying23 (hval 0 23 v0 rfl rfl) h0
  have k1 := h1
  have lt1 : ∀ x ∈ p1, x.block < W.heap.size := by obtain ⟨m, hm⟩ := k1; exact DataW.trod_lt m _ _ _ hm
  obtain ⟨a1, rfl⟩ := open_rel (hval 1 25 v1 rfl rfl) h1
  clear hA0 hval0
  refine (walk a0 w0 a1 W).mono fun e W' ⟨he, bel⟩ => ?_
  subst he
  exact ⟨_, rfl, _, _, _, [], _, [], hW', trodAll_mk1 (shut_bool Try.underlying4 _), (trodAll_cons_mk (Below.trod laidOut (by kernel_rfl) (of_decide_eq_true (by kernel_rfl)) k0 bel lt0) (trodAll_cons_mk (Below.trod laidOut (by kernel_rfl) (of_decide_eq_true (by kernel_rfl)) k1 bel lt1) trodAll_mk0)), rfl, bel.frame _, fun h => by cases h⟩

theorem over : Rows.relRowsRow.holds Try.pinned (OpenSpec.ofChange Rows.relRowsSpec) :=
  OpenClaim.holds_of_wide 4 Try.f4 rfl rfl rfl rfl rfl rfl rfl ⟨rfl, rfl, rfl, rfl, rfl⟩ rfl rfl rfl rfl rfl (by kernel_rfl) Try.func4 (by kernel_rfl)
    (of_decide_eq_true (by kernel_rfl)) (by unfold Func.isWrapper; first | (rw [if_pos (by decide +kernel)]; kernel_rfl) | (rw [if_neg (by decide +kernel)]; exact ⟨rfl, rfl⟩))
    (fun os started H enc _ => lifted os started H enc)

theorem proved : Rows.RelRowsSaid := over
end Go.Proofs.Ytlbccddhcbcpoab.relRows
namespace Go.Proofs.Ytlbccddhcbcpoab
theorem relRows_holds : Rows.RelRowsSaid := relRows.proved
end Go.Proofs.Ytlbccddhcbcpoab
#print axioms Go.Proofs.Ytlbccddhcbcpoab.relRows_holds
