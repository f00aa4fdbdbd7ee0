/- FlowValues: what any register holds, and where it comes from, ahead of any place of any path of any right code, given what reads came to, is what the document says, at every input. No condition but the statement's own. -/
import Derived.Test.YtmieaninmidelaaRows
import Derived.Deep.Cut
import Derived.SizedLaws
import Derived.Test.YtmieaninmidelaaFlowValuesP5
namespace Go.Proofs.Ytmieaninmidelaa.flowValues
open Go.ChangeShapes Go.WideShapes Go.ChangeAt Go.RowKit
set_option linter.unusedVariables false

theorem own : ownKnob Try.prog.godebug = none := by kernel_rfl
theorem laidOut : laidOutB Try.prog = true := by kernel_rfl
theorem len_sized {H : Type} {enc : TypeId × Value → H} {W : World} {base : Nat} {spare : Nat → Bool} {held : Bool} {ts : List TypeId} {ds : List (DataW H)} {t e j b : Nat} {ao : Option Addr} {n cap : Nat} {d : DataW H} {ps : List MemPlace} (ht : Try.prog.underlying t = some (.slice e)) (hb : Try.prog.bytesOf e = b) (h : DataW.Trod enc Try.prog W base spare held t (.slice ao n cap) d ps) (hwt : (DataW.weightsEach Try.prog ts ds).all (· ≤ reachBytes) = true) (h1 : ts[j]? = some t) (h2 : ds[j]? = some d) : n * b ≤ 140737488355328 := by
  obtain ⟨fuel, hf⟩ := h
  rcases Go.Deep.open_slice ht hf with ⟨hcs, _⟩ | ⟨a, len, cap', m, k, D, Pl, hcs, _, _, _, _, hx, _⟩
  · simp [Value.cells] at hcs; obtain ⟨_, rfl, _⟩ := hcs; omega
  · simp [Value.cells] at hcs
    obtain ⟨_, rfl, _⟩ := hcs
    have hd := (Prod.ext_iff.1 hx).1
    simp only at hd
    have h3 := sized_slice hwt h1 (by rw [h2, hd]) ht
    rw [List.length_map, List.length_range] at h3
    have hR := reachBytes_lt
    have h4 : n * b ≤ (n + ((List.range (m - n)).map fun j => D (n + j)).length) * Try.prog.bytesOf e := by rw [hb]; exact Nat.mul_le_mul_right _ (Nat.le_add_right _ _)
    omega
theorem law (a0 : List In) (a1 : Int) (a2 : Nat → Int) (a3 : Int) (a4 : Int) (a5 : List Int) (a6 : Int) (W : World) (z0 : a0.length * 120 ≤ 140737488355328) {bo0 : Option (Nat × Nat)} {cap0 : Nat} (S0 : Sl insV 17 W.heap.size W (.slice (bo0.map fun x => ⟨x.1, x.2, none⟩) a0.length cap0) a0) (q0 : ∀ y ∈ a0, inR y.imm) (q1 : inR a1) (q2 : ∀ k, inR (a2 k)) (q3 : inR a3) (q4 : inR a4) (z5 : a5.length * 8 ≤ 140737488355328) {bo5 : Option (Nat × Nat)} {cap5 : Nat} (S5 : Sl (fun y : Int => [.int .i64 y]) 1 W.heap.size W (.slice (bo5.map fun x => ⟨x.1, x.2, none⟩) a5.length cap5) a5) (q5 : ∀ y ∈ a5, inR y) (q6 : inR a6) : Calls Try.prog 4 #[.slice (bo0.map fun x => ⟨x.1, x.2, none⟩) a0.length cap0, .int .i64 a1, .agg (rgV a2).toArray, .int .i64 a3, .int .i64 a4, .slice (bo5.map fun x => ⟨x.1, x.2, none⟩) a5.length cap5, .int .i64 a6] W fun e W' => e = .returned (.bool true) ∧ Grow W W' := by
  obtain ⟨kn6, rfl⟩ : ∃ kn : BV, a6 = vB kn := ⟨BitVec.ofInt 64 a6, (vB_ofInt q6).symm⟩
  obtain ⟨_, c0⟩ := lstI_of S0
  obtain ⟨_, c5⟩ := lstN_of S5
  have hM : Mem [some (.lst 17 a0.length (fun zz => insS (a0.getD zz In.z))), some (.lst 1 a5.length (fun j => [.int .i64 (a5.getD j 0)]))] [(bo0.map fun (x : Nat × Nat) => (⟨x.1, List.replicate x.2 undef, [], 0⟩ : Loc)), (bo5.map fun (x : Nat × Nat) => (⟨x.1, List.replicate x.2 undef, [], 0⟩ : Loc))] W := mem_ro rfl fun i e he => by
    match i, he with
    | 0, he => cases he; exact ⟨rfl, (c0 [] [(bo5.map fun (x : Nat × Nat) => (⟨x.1, List.replicate x.2 undef, [], 0⟩ : Loc))]).2⟩
    | 1, he => cases he; exact ⟨rfl, (c5 [(bo0.map fun (x : Nat × Nat) => (⟨x.1, List.replicate x.2 undef, [], 0⟩ : Loc))] []).2⟩
    | i + 2, he => simp at he
  refine Calls.mono ((values_law a0 cap0 a1 a2 a3 a4 a5 cap5 kn6 z0).2.2 [(bo0.map fun (x : Nat × Nat) => (⟨x.1, List.replicate x.2 undef, [], 0⟩ : Loc)), (bo5.map fun (x : Nat × Nat) => (⟨x.1, List.replicate x.2 undef, [], 0⟩ : Loc))] W _ hM (fun i e L _ _ _ => rfl) trivial (denL_mk ((c0 [] [(bo5.map fun (x : Nat × Nat) => (⟨x.1, List.replicate x.2 undef, [], 0⟩ : Loc))]).1) (denL_mk rfl (denL_mk rfl (denL_mk rfl (denL_mk rfl (denL_mk ((c5 [(bo0.map fun (x : Nat × Nat) => (⟨x.1, List.replicate x.2 undef, [], 0⟩ : Loc))] []).1) (denL_mk rfl (rfl))))))))) fun e W' hp => ?_
  obtain ⟨x, v, h1, rfl, hmx, hJ⟩ := hp
  cases hJ
  cases h1
  exact ⟨rfl, hmx.grow0⟩

set_option maxRecDepth 100000 in
theorem lifted (os : Os) (started : os.Started) (H : Type) (enc : TypeId × Value → H) :
    ReturnsInHanded {} Try.checked os 4 .any (Rows.flowValuesSpec.pre6 enc Try.prog Try.f4 Rows.flowValuesRow.domain false) (Rows.flowValuesSpec.post enc Try.prog Try.f4 false true false false) := by
  refine returnsInHanded_of_change_sized (C := Try.checked) own started (by kernel_rfl) Try.func4
    (ChangeSpec.witness6 (enc := enc) (C := Try.checked) false ⟨#[], #[.slice none 0 0, .int .i64 0, .agg #[.int .i64 0, .int .i64 0, .int .i64 0, .int .i64 0, .int .i64 0, .int .i64 0, .int .i64 0, .int .i64 0], .int .i64 0, .int .i64 0, .slice none 0 0, .int .i64 0], []⟩ 8 (by kernel_rfl) (by kernel_rfl) (by kernel_rfl) (by kernel_rfl)) ?_
  intro W base args ds gs before hval0 hW hcnd hsz0 _
  have hval : ∀ (j : Nat) t v, Try.f4.params[j]? = some t → args[j]? = some v → Value.okWide Try.prog W .any base t v := hval0
  have hW' := hW
  obtain ⟨p, q, hA0, hV, rfl, hfz, hnd⟩ := hW
  have hA : DataW.TrodAll enc Try.prog W 0 (fun _ => true) true Try.f4.params.toList args.toList ds p := hA0
  rw [Try.params4] at hA hval
  obtain ⟨v0, vs0, d0, ds0, p0, q0, hargs, rfl, rfl, h0, r0⟩ := trodAll_cons hA
  obtain ⟨v1, vs1, d1, ds1, p1, q1, rfl, rfl, rfl, h1, r1⟩ := trodAll_cons r0
  obtain ⟨v2, vs2, d2, ds2, p2, q2, rfl, rfl, rfl, h2, r2⟩ := trodAll_cons r1
  obtain ⟨v3, vs3, d3, ds3, p3, q3, rfl, rfl, rfl, h3, r3⟩ := trodAll_cons r2
  obtain ⟨v4, vs4, d4, ds4, p4, q4, rfl, rfl, rfl, h4, r4⟩ := trodAll_cons r3
  obtain ⟨v5, vs5, d5, ds5, p5, q5, rfl, rfl, rfl, h5, r5⟩ := trodAll_cons r4
  obtain ⟨v6, vs6, d6, ds6, p6, q6, rfl, rfl, rfl, h6, r6⟩ := trodAll_cons r5
  obtain ⟨rfl, rfl, rfl⟩ := trodAll_nil r6
  obtain rfl : args = #[v0, v1, v2, v3, v4, v5, v6] := by cases args; simp_all
  obtain ⟨rfl, rfl⟩ := trodVars_none hV
  have k0 := h0
  have lt0 : ∀ x ∈ p0, x.block < W.heap.size := by obtain ⟨m, hm⟩ := k0; exact DataW.trod_lt m _ _ _ hm
  have k1 := h1
  have lt1 : ∀ x ∈ p1, x.block < W.heap.size := by obtain ⟨m, hm⟩ := k1; exact DataW.trod_lt m _ _ _ hm
  have k2 := h2
  have lt2 : ∀ x ∈ p2, x.block < W.heap.size := by obtain ⟨m, hm⟩ := k2; exact DataW.trod_lt m _ _ _ hm
  have k3 := h3
  have lt3 : ∀ x ∈ p3, x.block < W.heap.size := by obtain ⟨m, hm⟩ := k3; exact DataW.trod_lt m _ _ _ hm
  have k4 := h4
  have lt4 : ∀ x ∈ p4, x.block < W.heap.size := by obtain ⟨m, hm⟩ := k4; exact DataW.trod_lt m _ _ _ hm
  have k5 := h5
  have lt5 : ∀ x ∈ p5, x.block < W.heap.size := by obtain ⟨m, hm⟩ := k5; exact DataW.trod_lt m _ _ _ hm
  have k6 := h6
  have lt6 : ∀ x ∈ p6, x.block < W.heap.size := by obtain ⟨m, hm⟩ := k6; exact DataW.trod_lt m _ _ _ hm
  have hwt : (DataW.weightsEach Try.prog [22, 3, 30, 3, 3, 29, 3] [d0, d1, d2, d3, d4, d5, d6]).all (· ≤ reachBytes) = true := by have h := hsz0; rw [Try.params4] at h; exact h
  obtain ⟨bo0, a0, cap0, rfl, S0, Q0⟩ := open_code (hval 0 22 v0 rfl rfl) h0
  obtain ⟨a1, rfl, _, _, w1⟩ := open_int Try.underlying3 (hval 1 3 v1 rfl rfl) h1
  have Q1 := wf_rng w1
  obtain ⟨a2, rfl, Q2⟩ := open_regs (hval 2 30 v2 rfl rfl) h2
  obtain ⟨a3, rfl, _, _, w3⟩ := open_int Try.underlying3 (hval 3 3 v3 rfl rfl) h3
  have Q3 := wf_rng w3
  obtain ⟨a4, rfl, _, _, w4⟩ := open_int Try.underlying3 (hval 4 3 v4 rfl rfl) h4
  have Q4 := wf_rng w4
  obtain ⟨bo5, a5, cap5, rfl, S5, Q5⟩ := open_nums (hval 5 29 v5 rfl rfl) h5
  obtain ⟨a6, rfl, _, _, w6⟩ := open_int Try.underlying3 (hval 6 3 v6 rfl rfl) h6
  have Q6 := wf_rng w6
  have l0 := len_sized (j := 0) (t := 22) (e := 49) (b := 120) (by kernel_rfl) (by kernel_rfl) h0 hwt rfl rfl
  have l5 := len_sized (j := 5) (t := 29) (e := 3) (b := 8) (by kernel_rfl) (by kernel_rfl) h5 hwt rfl rfl
  clear hA0 hval0
  refine (law a0 a1 a2 a3 a4 a5 a6 W l0 S0 Q0 Q1 Q2 Q3 Q4 l5 S5 Q5 Q6).mono fun e W' ⟨he, bel⟩ => ?_
  subst he
  exact ⟨_, rfl, _, _, _, [], _, [], hW', trodAll_mk1 (shut_bool Try.underlying4 _), (trodAll_cons_mk (Below.trod laidOut (by kernel_rfl) (of_decide_eq_true (by kernel_rfl)) k0 bel lt0) (trodAll_cons_mk (Below.trod laidOut (by kernel_rfl) (of_decide_eq_true (by kernel_rfl)) k1 bel lt1) (trodAll_cons_mk (Below.trod laidOut (by kernel_rfl) (of_decide_eq_true (by kernel_rfl)) k2 bel lt2) (trodAll_cons_mk (Below.trod laidOut (by kernel_rfl) (of_decide_eq_true (by kernel_rfl)) k3 bel lt3) (trodAll_cons_mk (Below.trod laidOut (by kernel_rfl) (of_decide_eq_true (by kernel_rfl)) k4 bel lt4) (trodAll_cons_mk (Below.trod laidOut (by kernel_rfl) (of_decide_eq_true (by kernel_rfl)) k5 bel lt5) (trodAll_cons_mk (Below.trod laidOut (by kernel_rfl) (of_decide_eq_true (by kernel_rfl)) k6 bel lt6) trodAll_mk0))))))), rfl, bel.frame _, fun h => by cases h⟩

theorem over : Rows.flowValuesRow.holds Try.pinned (OpenSpec.ofChange Rows.flowValuesSpec) :=
  OpenClaim.holds_of_wide 4 Try.f4 rfl rfl rfl rfl rfl rfl rfl ⟨rfl, rfl, rfl, rfl, rfl⟩ rfl rfl rfl rfl rfl (by kernel_rfl) Try.func4 (by kernel_rfl)
    (of_decide_eq_true (by kernel_rfl)) (by unfold Func.isWrapper; first | (rw [if_pos (by decide +kernel)]; kernel_rfl) | (rw [if_neg (by decide +kernel)]; exact ⟨rfl, rfl⟩))
    (fun os started H enc _ => lifted os started H enc)
end Go.Proofs.Ytmieaninmidelaa.flowValues
namespace Go.Proofs.Ytmieaninmidelaa
theorem flowValues_holds : Rows.FlowValuesSaid := flowValues.over
end Go.Proofs.Ytmieaninmidelaa
#print axioms Go.Proofs.Ytmieaninmidelaa.flowValues_holds
