/- MachPlays: of any picks those ahead of the first one that can not be done are done, of the machine that the law makes, and no other ones; how many they are is told; the picks stay; at every input. No condition but the statement's own. -/
import Derived.Test.YtiglneecmibgmaaRows
import Derived.Deep.Cut
import Derived.SizedLaws
import Derived.Test.YtiglneecmibgmaaMachPlaysP6
namespace Go.Proofs.Ytiglneecmibgmaa.machPlays
open Go.ChangeShapes Go.WideShapes Go.ChangeAt Go.RowKit
set_option linter.unusedVariables false

theorem own : ownKnob Try.prog.godebug = none := by kernel_rfl
theorem laidOut : laidOutB Try.prog = true := by kernel_rfl
theorem len_sized {H : Type} {enc : TypeId × Value → H} {W : World} {base : Nat} {spare : Nat → Bool} {held : Bool} {ts : List TypeId} {ds : List (DataW H)} {t e j b : Nat} {ao : Option Addr} {n cap : Nat} {d : DataW H} {ps : List MemPlace} (ht : Try.prog.underlying t = some (.slice e)) (hb : Try.prog.bytesOf e = b) (h : DataW.Trod enc Try.prog W base spare held t (.slice ao n cap) d ps) (hwt : (DataW.weightsEach Try.prog ts ds).all (· ≤ reachBytes) = true) (h1 : ts[j]? = some t) (h2 : ds[j]? = some d) : n * b ≤ 140737488355328 := by
  obtain ⟨fuel, hf⟩ := h
  rcases Go.Deep.open_slice ht hf with ⟨hcs, _⟩ | ⟨a, len, cap', m, k, D, Pl, hcs, _, _, _, _, hx, _⟩
  · simp [Value.cells] at hcs; obtain ⟨_, rfl, _⟩ := hcs; omega
  · simp [Value.cells] at hcs
    obtain ⟨_, rfl, _⟩ := hcs
    have hd := (Prod.ext_iff.1 hx).1
    simp only at hd
    have h3 := sized_slice hwt h1 (by rw [h2, hd]) ht
    rw [List.length_map, List.length_range] at h3
    have hR := reachBytes_lt
    have h4 : n * b ≤ (n + ((List.range (m - n)).map fun j => D (n + j)).length) * Try.prog.bytesOf e := by rw [hb]; exact Nat.mul_le_mul_right _ (Nat.le_add_right _ _)
    omega
theorem law (a0 : Int) (a1 : List Int) (W : World) (q0 : inR a0) (z1 : a1.length * 8 ≤ 140737488355328) {bo1 : Option (Nat × Nat)} {cap1 : Nat} (S1 : Sl (fun y : Int => [.int .i64 y]) 1 W.heap.size W (.slice (bo1.map fun x => ⟨x.1, x.2, none⟩) a1.length cap1) a1) (q1 : ∀ y ∈ a1, inR y) : Calls Try.prog 3 #[.int .i64 a0, .slice (bo1.map fun x => ⟨x.1, x.2, none⟩) a1.length cap1] W fun e W' => e = .returned (.bool true) ∧ Grow W W' := by
  obtain ⟨_, c1⟩ := lstN_of S1
  have hM : Mem [some (.lst 1 a1.length (fun j => [.int .i64 (a1.getD j 0)]))] [(bo1.map fun (x : Nat × Nat) => (⟨x.1, List.replicate x.2 undef, [], 0⟩ : Loc))] W := mem_ro rfl fun i e he => by
    match i, he with
    | 0, he => cases he; exact ⟨rfl, (c1 [] []).2⟩
    | i + 1, he => simp at he
  refine Calls.mono ((machPlays_ a0 a1 cap1).2 [(bo1.map fun (x : Nat × Nat) => (⟨x.1, List.replicate x.2 undef, [], 0⟩ : Loc))] W _ hM (denL_mk rfl (denL_mk ((c1 [] []).1) (rfl)))) fun e W' hp => ?_
  obtain ⟨v, F, h1, rfl, _, hg⟩ := post_ro hp (fun i e h => by cases i with | zero => cases h; rfl | succ i => cases h)
  cases h1
  exact ⟨rfl, hg⟩

set_option maxRecDepth 100000 in
theorem lifted (os : Os) (started : os.Started) (H : Type) (enc : TypeId × Value → H) :
    ReturnsInHanded {} Try.checked os 3 .any (Rows.machPlaysSpec.pre6 enc Try.prog Try.f3 Rows.machPlaysRow.domain false) (Rows.machPlaysSpec.post enc Try.prog Try.f3 false true false false) := by
  refine returnsInHanded_of_change_sized (C := Try.checked) own started (by kernel_rfl) Try.func3
    (ChangeSpec.witness6 (enc := enc) (C := Try.checked) false ⟨#[], #[.int .i64 0, .slice none 0 0], []⟩ 8 (by kernel_rfl) (by kernel_rfl) (by kernel_rfl) (by kernel_rfl)) ?_
  intro W base args ds gs before hval0 hW hcnd hsz0 _
  have hval : ∀ (j : Nat) t v, Try.f3.params[j]? = some t → args[j]? = some v → Value.okWide Try.prog W .any base t v := hval0
  have hW' := hW
  obtain ⟨p, q, hA0, hV, rfl, hfz, hnd⟩ := hW
  have hA : DataW.TrodAll enc Try.prog W 0 (fun _ => true) true Try.f3.params.toList args.toList ds p := hA0
  rw [Try.params3] at hA hval
  obtain ⟨v0, vs0, d0, ds0, p0, q0, hargs, rfl, rfl, h0, r0⟩ := trodAll_cons hA
  obtain ⟨v1, vs1, d1, ds1, p1, q1, rfl, rfl, rfl, h1, r1⟩ := trodAll_cons r0
  obtain ⟨rfl, rfl, rfl⟩ := trodAll_nil r1
  obtain rfl : args = #[v0, v1] := by cases args; simp_all
  obtain ⟨rfl, rfl⟩ := trodVars_none hV
  have k0 := h0
  have lt0 : ∀ x ∈ p0, x.block < W.heap.size := by obtain ⟨m, hm⟩ := k0; exact DataW.trod_lt m _ _ _ hm
  have k1 := h1
  have lt1 : ∀ x ∈ p1, x.block < W.heap.size := by obtain ⟨m, hm⟩ := k1; exact DataW.trod_lt m _ _ _ hm
  have hwt : (DataW.weightsEach Try.prog [3, 22] [d0, d1]).all (· ≤ reachBytes) = true := by have h := hsz0; rw [Try.params3] at h; exact h
  obtain ⟨a0, rfl, _, _, w0⟩ := open_int Try.underlying3 (hval 0 3 v0 rfl rfl) h0
  have Q0 := wf_rng w0
  obtain ⟨bo1, a1, cap1, rfl, S1, Q1⟩ := open_nums (hval 1 22 v1 rfl rfl) h1
  have l1 := len_sized (j := 1) (t := 22) (e := 3) (b := 8) (by kernel_rfl) (by kernel_rfl) h1 hwt rfl rfl
  clear hA0 hval0
  refine (law a0 a1 W Q0 l1 S1 Q1).mono fun e W' ⟨he, bel⟩ => ?_
  subst he
  exact ⟨_, rfl, _, _, _, [], _, [], hW', trodAll_mk1 (shut_bool Try.underlying4 _), (trodAll_cons_mk (Below.trod laidOut (by kernel_rfl) (of_decide_eq_true (by kernel_rfl)) k0 bel lt0) (trodAll_cons_mk (Below.trod laidOut (by kernel_rfl) (of_decide_eq_true (by kernel_rfl)) k1 bel lt1) trodAll_mk0)), rfl, bel.frame _, fun h => by cases h⟩

theorem over : Rows.machPlaysRow.holds Try.pinned (OpenSpec.ofChange Rows.machPlaysSpec) :=
  OpenClaim.holds_of_wide 3 Try.f3 rfl rfl rfl rfl rfl rfl rfl ⟨rfl, rfl, rfl, rfl, rfl⟩ rfl rfl rfl rfl rfl (by kernel_rfl) Try.func3 (by kernel_rfl)
    (of_decide_eq_true (by kernel_rfl)) (by unfold Func.isWrapper; first | (rw [if_pos (by decide +kernel)]; kernel_rfl) | (rw [if_neg (by decide +kernel)]; exact ⟨rfl, rfl⟩))
    (fun os started H enc _ => lifted os started H enc)
end Go.Proofs.Ytiglneecmibgmaa.machPlays
namespace Go.Proofs.Ytiglneecmibgmaa
theorem machPlays_holds : Rows.MachPlaysSaid := machPlays.over
end Go.Proofs.Ytiglneecmibgmaa
#print axioms Go.Proofs.Ytiglneecmibgmaa.machPlays_holds
