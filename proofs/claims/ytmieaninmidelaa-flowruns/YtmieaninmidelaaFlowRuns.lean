/- FlowRuns: run by itself, any right code goes one of its paths, and what each register holds at the end is what flows along it, given what its reads came to, at every input. No condition but the statement's own. -/
import Derived.Test.YtmieaninmidelaaRows
import Derived.Deep.Cut
import Derived.SizedLaws
import Derived.Test.YtmieaninmidelaaFlowRunsP6
namespace Go.Proofs.Ytmieaninmidelaa.flowRuns
open Go.ChangeShapes Go.WideShapes Go.ChangeAt Go.RowKit
set_option linter.unusedVariables false

theorem own : ownKnob Try.prog.godebug = none := by kernel_rfl
theorem laidOut : laidOutB Try.prog = true := by kernel_rfl
theorem len_sized {H : Type} {enc : TypeId × Value → H} {W : World} {base : Nat} {spare : Nat → Bool} {held : Bool} {ts : List TypeId} {ds : List (DataW H)} {t e j b : Nat} {ao : Option Addr} {n cap : Nat} {d : DataW H} {ps : List MemPlace} (ht : Try.prog.underlying t = some (.slice e)) (hb : Try.prog.bytesOf e = b) (h : DataW.Trod enc Try.prog W base spare held t (.slice ao n cap) d ps) (hwt : (DataW.weightsEach Try.prog ts ds).all (· ≤ reachBytes) = true) (h1 : ts[j]? = some t) (h2 : ds[j]? = some d) : n * b ≤ 140737488355328 := by
  obtain ⟨fuel, hf⟩ := h
  rcases Go.Deep.open_slice ht hf with ⟨hcs, _⟩ | ⟨a, len, cap', m, k, D, Pl, hcs, _, _, _, _, hx, _⟩
  · simp [Value.cells] at hcs; obtain ⟨_, rfl, _⟩ := hcs; omega
  · simp [Value.cells] at hcs
    obtain ⟨_, rfl, _⟩ := hcs
    have hd := (Prod.ext_iff.1 hx).1
    simp only at hd
    have h3 := sized_slice hwt h1 (by rw [h2, hd]) ht
    rw [List.length_map, List.length_range] at h3
    have hR := reachBytes_lt
    have h4 : n * b ≤ (n + ((List.range (m - n)).map fun j => D (n + j)).length) * Try.prog.bytesOf e := by rw [hb]; exact Nat.mul_le_mul_right _ (Nat.le_add_right _ _)
    omega
theorem law (a0 : List In) (a1 : Nat → Int) (a2 : List Int) (W : World) (z0 : a0.length * 120 ≤ 140737488355328) {bo0 : Option (Nat × Nat)} {cap0 : Nat} (S0 : Sl insV 17 W.heap.size W (.slice (bo0.map fun x => ⟨x.1, x.2, none⟩) a0.length cap0) a0) (q0 : ∀ y ∈ a0, inR y.imm) (q1 : ∀ k, inR (a1 k)) (z2 : a2.length * 8 ≤ 140737488355328) {bo2 : Option (Nat × Nat)} {cap2 : Nat} (S2 : Sl (fun y : Int => [.int .i64 y]) 1 W.heap.size W (.slice (bo2.map fun x => ⟨x.1, x.2, none⟩) a2.length cap2) a2) (q2 : ∀ y ∈ a2, inR y) : Calls Try.prog 6 #[.slice (bo0.map fun x => ⟨x.1, x.2, none⟩) a0.length cap0, .agg (rgV a1).toArray, .slice (bo2.map fun x => ⟨x.1, x.2, none⟩) a2.length cap2] W fun e W' => e = .returned (.bool true) ∧ Grow W W' := by
  obtain ⟨_, c0⟩ := lstI_of S0
  obtain ⟨_, c2⟩ := lstN_of S2
  have hM : Mem [some (.lst 17 a0.length (fun zz => insS (a0.getD zz In.z))), some (.lst 1 a2.length (fun j => [.int .i64 (a2.getD j 0)]))] [(bo0.map fun (x : Nat × Nat) => (⟨x.1, List.replicate x.2 undef, [], 0⟩ : Loc)), (bo2.map fun (x : Nat × Nat) => (⟨x.1, List.replicate x.2 undef, [], 0⟩ : Loc))] W := mem_ro rfl fun i e he => by
    match i, he with
    | 0, he => cases he; exact ⟨rfl, (c0 [] [(bo2.map fun (x : Nat × Nat) => (⟨x.1, List.replicate x.2 undef, [], 0⟩ : Loc))]).2⟩
    | 1, he => cases he; exact ⟨rfl, (c2 [(bo0.map fun (x : Nat × Nat) => (⟨x.1, List.replicate x.2 undef, [], 0⟩ : Loc))] []).2⟩
    | i + 2, he => simp at he
  refine Calls.mono ((runs_law a0 cap0 a1 a2 cap2 _ z0 rfl).2.2 [(bo0.map fun (x : Nat × Nat) => (⟨x.1, List.replicate x.2 undef, [], 0⟩ : Loc)), (bo2.map fun (x : Nat × Nat) => (⟨x.1, List.replicate x.2 undef, [], 0⟩ : Loc))] W _ hM (fun i e L _ _ _ => rfl) trivial (denL_mk ((c0 [] [(bo2.map fun (x : Nat × Nat) => (⟨x.1, List.replicate x.2 undef, [], 0⟩ : Loc))]).1) (denL_mk rfl (denL_mk ((c2 [(bo0.map fun (x : Nat × Nat) => (⟨x.1, List.replicate x.2 undef, [], 0⟩ : Loc))] []).1) (rfl))))) fun e W' hp => ?_
  obtain ⟨x, v, h1, rfl, hmx, hJ⟩ := hp
  cases hJ
  cases h1
  exact ⟨rfl, hmx.grow0⟩

set_option maxRecDepth 100000 in
theorem lifted (os : Os) (started : os.Started) (H : Type) (enc : TypeId × Value → H) :
    ReturnsInHanded {} Try.checked os 6 .any (Rows.flowRunsSpec.pre6 enc Try.prog Try.f6 Rows.flowRunsRow.domain false) (Rows.flowRunsSpec.post enc Try.prog Try.f6 false true false false) := by
  refine returnsInHanded_of_change_sized (C := Try.checked) own started (by kernel_rfl) Try.func6
    (ChangeSpec.witness6 (enc := enc) (C := Try.checked) false ⟨#[], #[.slice none 0 0, .agg #[.int .i64 0, .int .i64 0, .int .i64 0, .int .i64 0, .int .i64 0, .int .i64 0, .int .i64 0, .int .i64 0], .slice none 0 0], []⟩ 8 (by kernel_rfl) (by kernel_rfl) (by kernel_rfl) (by kernel_rfl)) ?_
  intro W base args ds gs before hval0 hW hcnd hsz0 _
  have hval : ∀ (j : Nat) t v, Try.f6.params[j]? = some t → args[j]? = some v → Value.okWide Try.prog W .any base t v := hval0
  have hW' := hW
  obtain ⟨p, q, hA0, hV, rfl, hfz, hnd⟩ := hW
  have hA : DataW.TrodAll enc Try.prog W 0 (fun _ => true) true Try.f6.params.toList args.toList ds p := hA0
  rw [Try.params6] at hA hval
  obtain ⟨v0, vs0, d0, ds0, p0, q0, hargs, rfl, rfl, h0, r0⟩ := trodAll_cons hA
  obtain ⟨v1, vs1, d1, ds1, p1, q1, rfl, rfl, rfl, h1, r1⟩ := trodAll_cons r0
  obtain ⟨v2, vs2, d2, ds2, p2, q2, rfl, rfl, rfl, h2, r2⟩ := trodAll_cons r1
  obtain ⟨rfl, rfl, rfl⟩ := trodAll_nil r2
  obtain rfl : args = #[v0, v1, v2] := by cases args; simp_all
  obtain ⟨rfl, rfl⟩ := trodVars_none hV
  have k0 := h0
  have lt0 : ∀ x ∈ p0, x.block < W.heap.size := by obtain ⟨m, hm⟩ := k0; exact DataW.trod_lt m _ _ _ hm
  have k1 := h1
  have lt1 : ∀ x ∈ p1, x.block < W.heap.size := by obtain ⟨m, hm⟩ := k1; exact DataW.trod_lt m _ _ _ hm
  have k2 := h2
  have lt2 : ∀ x ∈ p2, x.block < W.heap.size := by obtain ⟨m, hm⟩ := k2; exact DataW.trod_lt m _ _ _ hm
  have hwt : (DataW.weightsEach Try.prog [22, 30, 29] [d0, d1, d2]).all (· ≤ reachBytes) = true := by have h := hsz0; rw [Try.params6] at h; exact h
  obtain ⟨bo0, a0, cap0, rfl, S0, Q0⟩ := open_code (hval 0 22 v0 rfl rfl) h0
  obtain ⟨a1, rfl, Q1⟩ := open_regs (hval 1 30 v1 rfl rfl) h1
  obtain ⟨bo2, a2, cap2, rfl, S2, Q2⟩ := open_nums (hval 2 29 v2 rfl rfl) h2
  have l0 := len_sized (j := 0) (t := 22) (e := 49) (b := 120) (by kernel_rfl) (by kernel_rfl) h0 hwt rfl rfl
  have l2 := len_sized (j := 2) (t := 29) (e := 3) (b := 8) (by kernel_rfl) (by kernel_rfl) h2 hwt rfl rfl
  clear hA0 hval0
  refine (law a0 a1 a2 W l0 S0 Q0 Q1 l2 S2 Q2).mono fun e W' ⟨he, bel⟩ => ?_
  subst he
  exact ⟨_, rfl, _, _, _, [], _, [], hW', trodAll_mk1 (shut_bool Try.underlying4 _), (trodAll_cons_mk (Below.trod laidOut (by kernel_rfl) (of_decide_eq_true (by kernel_rfl)) k0 bel lt0) (trodAll_cons_mk (Below.trod laidOut (by kernel_rfl) (of_decide_eq_true (by kernel_rfl)) k1 bel lt1) (trodAll_cons_mk (Below.trod laidOut (by kernel_rfl) (of_decide_eq_true (by kernel_rfl)) k2 bel lt2) trodAll_mk0))), rfl, bel.frame _, fun h => by cases h⟩

theorem over : Rows.flowRunsRow.holds Try.pinned (OpenSpec.ofChange Rows.flowRunsSpec) :=
  OpenClaim.holds_of_wide 6 Try.f6 rfl rfl rfl rfl rfl rfl rfl ⟨rfl, rfl, rfl, rfl, rfl⟩ rfl rfl rfl rfl rfl (by kernel_rfl) Try.func6 (by kernel_rfl)
    (of_decide_eq_true (by kernel_rfl)) (by unfold Func.isWrapper; first | (rw [if_pos (by decide +kernel)]; kernel_rfl) | (rw [if_neg (by decide +kernel)]; exact ⟨rfl, rfl⟩))
    (fun os started H enc _ => lifted os started H enc)
end Go.Proofs.Ytmieaninmidelaa.flowRuns
namespace Go.Proofs.Ytmieaninmidelaa
theorem flowRuns_holds : Rows.FlowRunsSaid := flowRuns.over
end Go.Proofs.Ytmieaninmidelaa
#print axioms Go.Proofs.Ytmieaninmidelaa.flowRuns_holds
