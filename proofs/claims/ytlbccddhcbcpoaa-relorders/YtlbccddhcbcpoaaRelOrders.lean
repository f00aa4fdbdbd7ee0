/- RelOrders returns true for every set and every relation, and leaves its arguments as they were: Order lays the row that the reference lays, or none as it does; no condition. -/
import Derived.Test.YtlbccddhcbcpoaaRows
import Derived.Test.YtlbccddhcbcpoaaArgs
import Derived.Deep.Cut
import Derived.Test.YtlbccddhcbcpoaaRefOrd
namespace Go.Proofs.Ytlbccddhcbcpoaa.relOrders
open Go.ChangeShapes Go.WideShapes Go.ChangeAt Go.RowKit
set_option linter.unusedVariables false

theorem own : ownKnob Try.prog.godebug = none := by kernel_rfl
theorem laidOut : laidOutB Try.prog = true := by kernel_rfl

theorem il_nil (w : World) : Il w (.slice none 0 0) [] := own_nums _ _ _ _
theorem il_of {r : Rl} {u : St} {w : World} {v : Value} {l : List Nat} (h : ordT r 33 u [] = some l) (hi : Il w v l) : l.length ≤ 32 := by
  have := (ord_some (Laid.start u r) h).len
  have := lst_len u 32
  omega

attribute [local irreducible] wpList cells row U aft inn one nil part upd idr crs mns eqB evB stepP plusT invT uni met sqs or2 and2 seq2 allS lst nums prs prt pcs pairT pairS irrB acyB hasB fst pA pB pC has domT ordT freeS card

set_option maxRecDepth 100000 in
set_option maxHeartbeats 4000000 in
theorem walk (a0 : Int) (w0 : (Lit.int .u32 a0).wf = true) (r : Rl) (w : World) : Calls Try.prog 7 #[.int .u32 a0, .agg (cells r)] w fun e w' => e = .returned (.bool true) ∧ Grow w w' := by
  obtain ⟨u, rfl⟩ := U_of_wf w0
  clear w0
  have hR0 := At.new w r
  have hG0 : Grow w (w.alloc (.cells (cells r) 28)) := (Grow.refl w).alloc _
  go_enter Try.func7, Try.ntmps7
  go_upto_region 4 with (first | (go_at_call 9; refine (able_any _).mono ?_; rintro e w1 ⟨rfl, hg1⟩) | (refine ld w.heap.size r (by rfl) (hR0.grow hg1) ?_) | (go_at_call 45; refine (order_any u r _).mono ?_; rintro e w2 ⟨v2, b2, rfl, hg2, ha2⟩))
  have hR2 := (hR0.grow hg1).grow hg2
  have hG2 := Grow.trans (Grow.trans hG0 hg1) hg2
  clear hR0 hG0 hg1 hg2
  go_upto_region 5 with (first | (refine ld w.heap.size r (by rfl) hR2 ?_) | (go_at_call 46; refine (rorder_any u r _).mono ?_; rintro e w3 ⟨v3, b3, rfl, hg3, ha3⟩))
  have hG3 := Grow.trans hG2 hg3
  rcases ha2 with ⟨rfl, rfl, h2⟩ | ⟨rfl, l, h2, hi2⟩
  · rcases ha3 with ⟨rfl, rfl, h3⟩ | ⟨rfl, l', h3, hi3⟩
    · clear h2 h3
      go_wp2_with (go_at_call 12; refine (ints_any [] _ _ _ (il_nil _) (il_nil _) (by simp)).mono ?_; rintro e w4 ⟨rfl, hg4⟩)
      go_ret
      exact ⟨rfl, Grow.trans hG3 hg4⟩
    · rw [h2] at h3; cases h3
  · rcases ha3 with ⟨rfl, rfl, h3⟩ | ⟨rfl, l', h3, hi3⟩
    · rw [h2] at h3; cases h3
    · have hll := il_of h2 hi2
      rw [h2] at h3; cases h3
      have hi2' := Il.grow hg3 hi2
      have HL : Hid (l.length ≤ 32) := hll
      clear hll hi2 h2
      go_wp2_with (go_at_call 12; refine (ints_any l _ _ _ hi2' hi3 (by have := HL.out; omega)).mono ?_; rintro e w4 ⟨rfl, hg4⟩)
      go_ret
      exact ⟨rfl, Grow.trans hG3 hg4⟩


set_option maxRecDepth 100000 in
theorem lifted (os : Os) (started : os.Started) (H : Type) (enc : TypeId × Value → H) :
    ReturnsInHanded {} Try.checked os 7 .any (Rows.relOrdersSpec.pre6 enc Try.prog Try.f7 Rows.relOrdersRow.domain false) (Rows.relOrdersSpec.post enc Try.prog Try.f7 false true false false) := by
  refine returnsInHanded_of_change (C := Try.checked) own started (by kernel_rfl) Try.func7
    (ChangeSpec.witness6 (enc := enc) (C := Try.checked) false ⟨#[], #[.int .u32 0, .agg (Array.replicate 32 (.int .u32 0))], []⟩ 8 (by kernel_rfl) (by kernel_rfl) (by kernel_rfl) (by kernel_rfl)) ?_
  intro W base args ds gs before hval0 hW hcnd _
  have hval : ∀ (j : Nat) t v, Try.f7.params[j]? = some t → args[j]? = some v → Value.okWide Try.prog W .any base t v := hval0
  have hW' := hW
  obtain ⟨p, q, hA0, hV, rfl, hfz, hnd⟩ := hW
  have hA : DataW.TrodAll enc Try.prog W 0 (fun _ => true) true Try.f7.params.toList args.toList ds p := hA0
  rw [Try.params7] at hA hval
  obtain ⟨v0, vs0, d0, ds0, p0, q0, hargs, rfl, rfl, h0, r0⟩ := trodAll_cons hA
  obtain ⟨v1, vs1, d1, ds1, p1, q1, rfl, rfl, rfl, h1, r1⟩ := trodAll_cons r0
  obtain ⟨rfl, rfl, rfl⟩ := trodAll_nil r1
  obtain rfl : args = #[v0, v1] := by cases args; simp_all
  obtain ⟨rfl, rfl⟩ := trodVars_none hV
  have k0 := h0
  have lt0 : ∀ x ∈ p0, x.block < W.heap.size := by obtain ⟨m, hm⟩ := k0; exact DataW.trod_lt m _ _ _ hm
  obtain ⟨a0, rfl, _, _, w0⟩ := open_int Try.underlying25 (hval 0 25 v0 rfl rfl) h0
  have k1 := h1
  have lt1 : ∀ x ∈ p1, x.block < W.heap.size := by obtain ⟨m, hm⟩ := k1; exact DataW.trod_lt m _ _ _ hm
  obtain ⟨a1, rfl⟩ := open_rel (hval 1 28 v1 rfl rfl) h1
  clear hA0 hval0
  refine (walk a0 w0 a1 W).mono fun e W' ⟨he, bel⟩ => ?_
  subst he
  exact ⟨_, rfl, _, _, _, [], _, [], hW', trodAll_mk1 (shut_bool Try.underlying4 _), (trodAll_cons_mk (Below.trod laidOut (by kernel_rfl) (of_decide_eq_true (by kernel_rfl)) k0 bel lt0) (trodAll_cons_mk (Below.trod laidOut (by kernel_rfl) (of_decide_eq_true (by kernel_rfl)) k1 bel lt1) trodAll_mk0)), rfl, bel.frame _, fun h => by cases h⟩

theorem over : Rows.relOrdersRow.holds Try.pinned (OpenSpec.ofChange Rows.relOrdersSpec) :=
  OpenClaim.holds_of_wide 7 Try.f7 rfl rfl rfl rfl rfl rfl rfl ⟨rfl, rfl, rfl, rfl, rfl⟩ rfl rfl rfl rfl rfl (by kernel_rfl) Try.func7 (by kernel_rfl)
    (of_decide_eq_true (by kernel_rfl)) (by unfold Func.isWrapper; first | (rw [if_pos (by decide +kernel)]; kernel_rfl) | (rw [if_neg (by decide +kernel)]; exact ⟨rfl, rfl⟩))
    (fun os started H enc _ => lifted os started H enc)

theorem proved : Rows.RelOrdersSaid := over
end Go.Proofs.Ytlbccddhcbcpoaa.relOrders
namespace Go.Proofs.Ytlbccddhcbcpoaa
theorem relOrders_holds : Rows.RelOrdersSaid := relOrders.proved
end Go.Proofs.Ytlbccddhcbcpoaa
#print axioms Go.Proofs.Ytlbccddhcbcpoaa.relOrders_holds
