/- UirChecks returns true at every row of codes: the first rule that they break, and where, how many operations and branches each has; the lists stay; it changes nothing that was there, and panics never; no condition but the statement's own. -/
import Derived.Test.YtlhompedcphnnaaRows
import Derived.Deep.Cut
import Derived.SizedLaws
import Derived.Test.YtlhompedcphnnaaUirChecksP8
namespace Go.Proofs.Ytlhompedcphnnaa.uirChecks
open Go.ChangeShapes Go.WideShapes Go.ChangeAt Go.RowKit
set_option linter.unusedVariables false

theorem own : ownKnob Try.prog.godebug = none := by kernel_rfl
theorem laidOut : laidOutB Try.prog = true := by kernel_rfl

set_option maxRecDepth 100000 in
theorem lifted (os : Os) (started : os.Started) (H : Type) (enc : TypeId × Value → H) :
    ReturnsInHanded {} Try.checked os 4 .any (Rows.uirChecksSpec.pre6 enc Try.prog Try.f4 Rows.uirChecksRow.domain false) (Rows.uirChecksSpec.post enc Try.prog Try.f4 false true false false) := by
  refine returnsInHanded_of_change_sized (C := Try.checked) own started (by kernel_rfl) Try.func4
    (ChangeSpec.witness6 (enc := enc) (C := Try.checked) false ⟨#[], #[.slice none 0 0], []⟩ 8 (by kernel_rfl) (by kernel_rfl) (by kernel_rfl) (by kernel_rfl)) ?_
  intro W base args ds gs before hval0 hW hcnd hsz0 _
  have hval : ∀ (j : Nat) t v, Try.f4.params[j]? = some t → args[j]? = some v → Value.okWide Try.prog W .any base t v := hval0
  have hW' := hW
  obtain ⟨p, q, hA0, hV, rfl, hfz, hnd⟩ := hW
  have hA : DataW.TrodAll enc Try.prog W 0 (fun _ => true) true Try.f4.params.toList args.toList ds p := hA0
  rw [Try.params4] at hA hval
  obtain ⟨v0, vs0, d0, ds0, p0, q0, hargs, rfl, rfl, h0, r0⟩ := trodAll_cons hA
  obtain ⟨rfl, rfl, rfl⟩ := trodAll_nil r0
  obtain rfl : args = #[v0] := by cases args; simp_all
  obtain ⟨rfl, rfl⟩ := trodVars_none hV
  have k0 := h0
  have lt0 : ∀ x ∈ p0, x.block < W.heap.size := by obtain ⟨m, hm⟩ := k0; exact DataW.trod_lt m _ _ _ hm
  haveI : Inhabited Ins := ⟨blank⟩
  have hw0 : (d0.weights Try.prog 34 ++ DataW.weightsEach Try.prog _ _).all (· ≤ reachBytes) = true := hsz0
  rw [List.all_append, Bool.and_eq_true] at hw0
  obtain ⟨_, _, _, rfl⟩ := okWide_slice (e := 35) (by kernel_rfl) (hval 0 34 v0 rfl rfl)
  obtain ⟨l0, sl0, m0, w0⟩ := open_codes h0 rfl hw0.1
  clear hA0 hval0
  refine (checks_law l0 _ W sl0 m0 w0).mono fun e W' ⟨he, bel⟩ => ?_
  subst he
  exact ⟨_, rfl, _, _, _, [], _, [], hW', trodAll_mk1 (shut_bool Try.underlying4 _), (trodAll_cons_mk (Below.trod laidOut (by kernel_rfl) (of_decide_eq_true (by kernel_rfl)) k0 bel lt0) trodAll_mk0), rfl, bel.frame _, fun h => by cases h⟩

theorem over : Rows.uirChecksRow.holds Try.pinned (OpenSpec.ofChange Rows.uirChecksSpec) :=
  OpenClaim.holds_of_wide 4 Try.f4 rfl rfl rfl rfl rfl rfl rfl ⟨rfl, rfl, rfl, rfl, rfl⟩ rfl rfl rfl rfl rfl (by kernel_rfl) Try.func4 (by kernel_rfl)
    (of_decide_eq_true (by kernel_rfl)) (by unfold Func.isWrapper; first | (rw [if_pos (by decide +kernel)]; kernel_rfl) | (rw [if_neg (by decide +kernel)]; exact ⟨rfl, rfl⟩))
    (fun os started H enc _ => lifted os started H enc)

theorem proved : Rows.UirChecksSaid := over
end Go.Proofs.Ytlhompedcphnnaa.uirChecks
namespace Go.Proofs.Ytlhompedcphnnaa
theorem uirChecks_holds : Rows.UirChecksSaid := uirChecks.proved
end Go.Proofs.Ytlhompedcphnnaa
#print axioms Go.Proofs.Ytlhompedcphnnaa.uirChecks_holds
