/- FlowPaths: all paths through any right code, in order, in new memory, shared with nothing, at every input. No condition but the statement's own. -/
import Derived.Test.YtmieaninmidelaaRows
import Derived.Deep.Cut
import Derived.SizedLaws
import Derived.Test.YtmieaninmidelaaFlowPathsP5
namespace Go.Proofs.Ytmieaninmidelaa.flowPaths
open Go.ChangeShapes Go.WideShapes Go.ChangeAt Go.RowKit
set_option linter.unusedVariables false

theorem own : ownKnob Try.prog.godebug = none := by kernel_rfl
theorem laidOut : laidOutB Try.prog = true := by kernel_rfl
theorem len_sized {H : Type} {enc : TypeId × Value → H} {W : World} {base : Nat} {spare : Nat → Bool} {held : Bool} {ts : List TypeId} {ds : List (DataW H)} {t e j b : Nat} {ao : Option Addr} {n cap : Nat} {d : DataW H} {ps : List MemPlace} (ht : Try.prog.underlying t = some (.slice e)) (hb : Try.prog.bytesOf e = b) (h : DataW.Trod enc Try.prog W base spare held t (.slice ao n cap) d ps) (hwt : (DataW.weightsEach Try.prog ts ds).all (· ≤ reachBytes) = true) (h1 : ts[j]? = some t) (h2 : ds[j]? = some d) : n * b ≤ 140737488355328 := by
  obtain ⟨fuel, hf⟩ := h
  rcases Go.Deep.open_slice ht hf with ⟨hcs, _⟩ | ⟨a, len, cap', m, k, D, Pl, hcs, _, _, _, _, hx, _⟩
  · simp [Value.cells] at hcs; obtain ⟨_, rfl, _⟩ := hcs; omega
  · simp [Value.cells] at hcs
    obtain ⟨_, rfl, _⟩ := hcs
    have hd := (Prod.ext_iff.1 hx).1
    simp only at hd
    have h3 := sized_slice hwt h1 (by rw [h2, hd]) ht
    rw [List.length_map, List.length_range] at h3
    have hR := reachBytes_lt
    have h4 : n * b ≤ (n + ((List.range (m - n)).map fun j => D (n + j)).length) * Try.prog.bytesOf e := by rw [hb]; exact Nat.mul_le_mul_right _ (Nat.le_add_right _ _)
    omega
theorem law (a0 : List In) (W : World) (z0 : a0.length * 120 ≤ 140737488355328) {bo0 : Option (Nat × Nat)} {cap0 : Nat} (S0 : Sl insV 17 W.heap.size W (.slice (bo0.map fun x => ⟨x.1, x.2, none⟩) a0.length cap0) a0) (q0 : ∀ y ∈ a0, inR y.imm) : Calls Try.prog 3 #[.slice (bo0.map fun x => ⟨x.1, x.2, none⟩) a0.length cap0] W fun e W' => e = .returned (.bool true) ∧ Grow W W' := by
  obtain ⟨_, c0⟩ := lstI_of S0
  have hM : Mem [some (.lst 17 a0.length (fun zz => insS (a0.getD zz In.z)))] [(bo0.map fun (x : Nat × Nat) => (⟨x.1, List.replicate x.2 undef, [], 0⟩ : Loc))] W := mem_ro rfl fun i e he => by
    match i, he with
    | 0, he => cases he; exact ⟨rfl, (c0 [] []).2⟩
    | i + 1, he => simp at he
  refine Calls.mono ((paths_law a0 cap0 z0).2.2 [(bo0.map fun (x : Nat × Nat) => (⟨x.1, List.replicate x.2 undef, [], 0⟩ : Loc))] W _ hM (fun i e L _ _ _ => rfl) trivial (denL_mk ((c0 [] []).1) (rfl))) fun e W' hp => ?_
  obtain ⟨x, v, h1, rfl, hmx, hJ⟩ := hp
  cases hJ
  cases h1
  exact ⟨rfl, hmx.grow0⟩

set_option maxRecDepth 100000 in
theorem lifted (os : Os) (started : os.Started) (H : Type) (enc : TypeId × Value → H) :
    ReturnsInHanded {} Try.checked os 3 .any (Rows.flowPathsSpec.pre6 enc Try.prog Try.f3 Rows.flowPathsRow.domain false) (Rows.flowPathsSpec.post enc Try.prog Try.f3 false true false false) := by
  refine returnsInHanded_of_change_sized (C := Try.checked) own started (by kernel_rfl) Try.func3
    (ChangeSpec.witness6 (enc := enc) (C := Try.checked) false ⟨#[], #[.slice none 0 0], []⟩ 8 (by kernel_rfl) (by kernel_rfl) (by kernel_rfl) (by kernel_rfl)) ?_
  intro W base args ds gs before hval0 hW hcnd hsz0 _
  have hval : ∀ (j : Nat) t v, Try.f3.params[j]? = some t → args[j]? = some v → Value.okWide Try.prog W .any base t v := hval0
  have hW' := hW
  obtain ⟨p, q, hA0, hV, rfl, hfz, hnd⟩ := hW
  have hA : DataW.TrodAll enc Try.prog W 0 (fun _ => true) true Try.f3.params.toList args.toList ds p := hA0
  rw [Try.params3] at hA hval
  obtain ⟨v0, vs0, d0, ds0, p0, q0, hargs, rfl, rfl, h0, r0⟩ := trodAll_cons hA
  obtain ⟨rfl, rfl, rfl⟩ := trodAll_nil r0
  obtain rfl : args = #[v0] := by cases args; simp_all
  obtain ⟨rfl, rfl⟩ := trodVars_none hV
  have k0 := h0
  have lt0 : ∀ x ∈ p0, x.block < W.heap.size := by obtain ⟨m, hm⟩ := k0; exact DataW.trod_lt m _ _ _ hm
  have hwt : (DataW.weightsEach Try.prog [22] [d0]).all (· ≤ reachBytes) = true := by have h := hsz0; rw [Try.params3] at h; exact h
  obtain ⟨bo0, a0, cap0, rfl, S0, Q0⟩ := open_code (hval 0 22 v0 rfl rfl) h0
  have l0 := len_sized (j := 0) (t := 22) (e := 49) (b := 120) (by kernel_rfl) (by kernel_rfl) h0 hwt rfl rfl
  clear hA0 hval0
  refine (law a0 W l0 S0 Q0).mono fun e W' ⟨he, bel⟩ => ?_
  subst he
  exact ⟨_, rfl, _, _, _, [], _, [], hW', trodAll_mk1 (shut_bool Try.underlying4 _), (trodAll_cons_mk (Below.trod laidOut (by kernel_rfl) (of_decide_eq_true (by kernel_rfl)) k0 bel lt0) trodAll_mk0), rfl, bel.frame _, fun h => by cases h⟩

theorem over : Rows.flowPathsRow.holds Try.pinned (OpenSpec.ofChange Rows.flowPathsSpec) :=
  OpenClaim.holds_of_wide 3 Try.f3 rfl rfl rfl rfl rfl rfl rfl ⟨rfl, rfl, rfl, rfl, rfl⟩ rfl rfl rfl rfl rfl (by kernel_rfl) Try.func3 (by kernel_rfl)
    (of_decide_eq_true (by kernel_rfl)) (by unfold Func.isWrapper; first | (rw [if_pos (by decide +kernel)]; kernel_rfl) | (rw [if_neg (by decide +kernel)]; exact ⟨rfl, rfl⟩))
    (fun os started H enc _ => lifted os started H enc)
end Go.Proofs.Ytmieaninmidelaa.flowPaths
namespace Go.Proofs.Ytmieaninmidelaa
theorem flowPaths_holds : Rows.FlowPathsSaid := flowPaths.over
end Go.Proofs.Ytmieaninmidelaa
#print axioms Go.Proofs.Ytmieaninmidelaa.flowPaths_holds
