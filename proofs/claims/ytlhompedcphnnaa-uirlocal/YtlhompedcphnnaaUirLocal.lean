/- UirLocal returns true at every code, all registers, any reads: registers, events, path, or why it is not run, are as the reference has them; it changes nothing that was there, and panics never; no condition but the statement's own. -/
import Derived.Test.YtlhompedcphnnaaRows
import Derived.Deep.Cut
import Derived.Test.YtlhompedcphnnaaUirLocalP8

namespace Go.Proofs.Ytlhompedcphnnaa.uirLocal
open Go.ChangeShapes Go.WideShapes Go.ChangeAt Go.RowKit
set_option linter.unusedVariables false

theorem own : ownKnob Try.prog.godebug = none := by kernel_rfl
theorem laidOut : laidOutB Try.prog = true := by kernel_rfl

set_option maxRecDepth 100000 in
theorem lifted (os : Os) (started : os.Started) (H : Type) (enc : TypeId × Value → H) :
    ReturnsInHanded {} Try.checked os 5 .any (Rows.uirLocalSpec.pre6 enc Try.prog Try.f5 Rows.uirLocalRow.domain false) (Rows.uirLocalSpec.post enc Try.prog Try.f5 false true false false) := by
  refine returnsInHanded_of_change (C := Try.checked) own started (by kernel_rfl) Try.func5
    (ChangeSpec.witness6 (enc := enc) (C := Try.checked) false ⟨#[], #[.slice none 0 0, .agg #[.int .i64 0, .int .i64 0, .int .i64 0, .int .i64 0, .int .i64 0, .int .i64 0, .int .i64 0, .int .i64 0], .slice none 0 0], []⟩ 8 (by kernel_rfl) (by kernel_rfl) (by kernel_rfl) (by kernel_rfl)) ?_
  intro W base args ds gs before hval0 hW hcnd _
  have hval : ∀ (j : Nat) t v, Try.f5.params[j]? = some t → args[j]? = some v → Value.okWide Try.prog W .any base t v := hval0
  have hW' := hW
  obtain ⟨p, q, hA0, hV, rfl, hfz, hnd⟩ := hW
  have hA : DataW.TrodAll enc Try.prog W 0 (fun _ => true) true Try.f5.params.toList args.toList ds p := hA0
  rw [Try.params5] at hA hval
  obtain ⟨v0, vs0, d0, ds0, p0, q0, hargs, rfl, rfl, h0, r0⟩ := trodAll_cons hA
  obtain ⟨v1, vs1, d1, ds1, p1, q1, rfl, rfl, rfl, h1, r1⟩ := trodAll_cons r0
  obtain ⟨v2, vs2, d2, ds2, p2, q2, rfl, rfl, rfl, h2, r2⟩ := trodAll_cons r1
  obtain ⟨rfl, rfl, rfl⟩ := trodAll_nil r2
  obtain rfl : args = #[v0, v1, v2] := by cases args; simp_all
  obtain ⟨rfl, rfl⟩ := trodVars_none hV
  have k0 := h0
  have k1 := h1
  have k2 := h2
  have lt0 : ∀ x ∈ p0, x.block < W.heap.size := by obtain ⟨m, hm⟩ := k0; exact DataW.trod_lt m _ _ _ hm
  have lt1 : ∀ x ∈ p1, x.block < W.heap.size := by obtain ⟨m, hm⟩ := k1; exact DataW.trod_lt m _ _ _ hm
  have lt2 : ∀ x ∈ p2, x.block < W.heap.size := by obtain ⟨m, hm⟩ := k2; exact DataW.trod_lt m _ _ _ hm
  haveI : Inhabited Ins := ⟨blank⟩
  obtain ⟨o0, l0, c0, rfl, m0, sl0, w0⟩ := open_list (t := 35) (e := 23) (s := 17) (en := insE) (Q := fun i => wfI i.imm ∧ wfI i.off) (by kernel_rfl) (by kernel_rfl) (by decide) (fun cs n x h hl => open_insL cs n x h hl) (hval 0 35 v0 rfl rfl) h0
  obtain ⟨a1, rfl, w1⟩ := open_regs (hval 1 43 v1 rfl rfl) h1
  obtain ⟨o2, l2, c2, rfl, m2, sl2, w2⟩ := open_list (t := 30) (e := 3) (s := 1) (en := intE) (Q := wfI) (by kernel_rfl) (by kernel_rfl) (by decide) (fun cs n x h hl => open_intL cs n x h hl) (hval 2 30 v2 rfl rfl) h2
  clear hA0 hval0
  refine (local_law l0 l2 o0 o2 c0 c2 a1 W sl0 sl2 w1 w0 w2).mono fun e W' ⟨he, bel⟩ => ?_
  subst he
  exact ⟨_, rfl, _, _, _, [], _, [], hW', trodAll_mk1 (shut_bool Try.underlying4 _), (trodAll_cons_mk (Below.trod laidOut (by kernel_rfl) (of_decide_eq_true (by kernel_rfl)) k0 bel lt0) (trodAll_cons_mk (Below.trod laidOut (by kernel_rfl) (of_decide_eq_true (by kernel_rfl)) k1 bel lt1) (trodAll_cons_mk (Below.trod laidOut (by kernel_rfl) (of_decide_eq_true (by kernel_rfl)) k2 bel lt2) trodAll_mk0))), rfl, bel.frame _, fun h => by cases h⟩

theorem over : Rows.uirLocalRow.holds Try.pinned (OpenSpec.ofChange Rows.uirLocalSpec) :=
  OpenClaim.holds_of_wide 5 Try.f5 rfl rfl rfl rfl rfl rfl rfl ⟨rfl, rfl, rfl, rfl, rfl⟩ rfl rfl rfl rfl rfl (by kernel_rfl) Try.func5 (by kernel_rfl)
    (of_decide_eq_true (by kernel_rfl)) (by unfold Func.isWrapper; first | (rw [if_pos (by decide +kernel)]; kernel_rfl) | (rw [if_neg (by decide +kernel)]; exact ⟨rfl, rfl⟩))
    (fun os started H enc _ => lifted os started H enc)

theorem proved : Rows.UirLocalSaid := over
end Go.Proofs.Ytlhompedcphnnaa.uirLocal
namespace Go.Proofs.Ytlhompedcphnnaa
theorem uirLocal_holds : Rows.UirLocalSaid := uirLocal.proved
end Go.Proofs.Ytlhompedcphnnaa
#print axioms Go.Proofs.Ytlhompedcphnnaa.uirLocal_holds
