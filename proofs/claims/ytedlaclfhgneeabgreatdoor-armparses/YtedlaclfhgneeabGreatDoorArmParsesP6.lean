/- ArmParses, part 6: the engine, contracts, theory. -/
import Derived.Test.YtedlaclfhgneeabGreatDoorArmParsesP5
import Derived.WalkSmall
import Derived.ProofKit
import Derived.OpenShut
import Derived.ChangeOld
namespace Go.Proofs.YtedlaclfhgneeabGreatDoor
open Go.ChangeShapes Go.WideShapes Go.ChangeAt Go.RowKit
set_option linter.unusedVariables false
set_option linter.unusedSimpArgs false
set_option maxRecDepth 100000
theorem tab_fac {W : World} (h : Lib.TabIs Tryz.prog W "internal/strconv.uint64pow10" .u64 Lib.pow10Tab) : ∃ o, W.heap[5]? = some o ∧ ∀ w : World, w.heap[5]? = some o → Lib.TabIs Tryz.prog w "internal/strconv.uint64pow10" .u64 Lib.pow10Tab := by
  have hg : Tryz.prog.globalNamed "internal/strconv.uint64pow10" = some 5 := by kernel_rfl
  cases ho : W.heap[5]? with
  | none => unfold Lib.TabIs World.var? at h; rw [hg] at h; simp [ho] at h
  | some o =>
    refine ⟨o, rfl, fun w hw => ?_⟩
    unfold Lib.TabIs World.var? at h ⊢
    rw [hg] at h ⊢
    simp only [Option.bind_some, ho, hw] at h ⊢
    exact h
theorem cell_fac {W : World} {b k : Nat} {v : Value} (h : W.cell? ⟨b, k, none⟩ = some v) : ∃ o, W.heap[b]? = some o ∧ ∀ w : World, w.heap[b]? = some o → w.cell? ⟨b, k, none⟩ = some v := by
  cases ho : W.heap[b]? with
  | none => unfold World.cell? at h; simp [ho] at h
  | some o =>
    refine ⟨o, rfl, fun w hw => ?_⟩
    unfold World.cell? at h ⊢
    simp only [ho, hw] at h ⊢
    exact h
theorem call_of {f : Nat} {args : List SV} {vs : List Value} {W : World} (hT : Lib.TabIs Tryz.prog W "internal/strconv.uint64pow10" .u64 Lib.pow10Tab) (m0 : Int) (hm : W.cell? ⟨0, 0, none⟩ = some (.int .i64 m0)) (ev : Value) (he : W.cell? ⟨1, 0, none⟩ = some ev) (hev : ev = .nilIface ∨ ∃ te pe, ev = .iface te pe) (hv : denL [] args = some vs)
    (h : ∀ os : List (Nat × Obj), (∀ w ks, Gl os w ks → ∃ m, w.cell? ⟨0, 0, none⟩ = some (.int .i64 m)) → (∀ w ks, Gl os w ks → Lib.TabIs Tryz.prog w "internal/strconv.uint64pow10" .u64 Lib.pow10Tab) → (∀ w ks, Gl os w ks → ∃ ev, w.cell? ⟨1, 0, none⟩ = some ev ∧ (ev = .nilIface ∨ ∃ te pe, ev = .iface te pe)) → FnI (Gl os) Tryz.prog f args [] (Rt .tt [])) : Calls Tryz.prog f vs.toArray W fun e W' => e = .returned (.bool true) ∧ Grow W W' := by
  obtain ⟨o5, k5, c5⟩ := tab_fac hT
  obtain ⟨o0, k0, c0⟩ := cell_fac hm
  obtain ⟨o1, k1, c1⟩ := cell_fac he
  have hG : Gl [(0, o0), (1, o1), (5, o5)] W [] := fun p hp => by
    simp only [List.mem_cons, List.not_mem_nil, or_false] at hp
    rcases hp with rfl | rfl | rfl
    · exact ⟨k0, rfl⟩
    · exact ⟨k1, rfl⟩
    · exact ⟨k5, rfl⟩
  have hf := h [(0, o0), (1, o1), (5, o5)] (fun w ks hg => ⟨m0, c0 w (hg (0, o0) (by simp)).1⟩) (fun w ks hg => c5 w (hg (5, o5) (by simp)).1) (fun w ks hg => ⟨ev, c1 w (hg (1, o1) (by simp)).1, hev⟩)
  have hM : Mem [] [] W := ⟨rfl, fun i e h => by simp at h, fun i j e f L M _ h => by simp at h⟩
  refine Calls.mono (hf.2 [] W vs hM hG hv) fun e W' hp => ?_
  obtain ⟨v, F, h1, h2, _, h4⟩ := post_ro hp (fun i e he => by simp at he)
  cases h1
  exact ⟨h2, h4⟩
end Go.Proofs.YtedlaclfhgneeabGreatDoor
