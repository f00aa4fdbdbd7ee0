/- How an instruction that is handed in by value is read. -/
import Derived.Test.YtlhompedcphnnaaUIns
import Derived.WalkSmall
import Derived.ProofKit
import Derived.OpenShut
import Derived.ChangeOld
namespace Go.Proofs.Ytlhompedcphnnaa
open Go.ChangeShapes Go.WideShapes Go.ChangeAt Go.RowKit

def insT (k : Nat) : Nat := if k == 10 || k == 11 || k == 12 || k == 16 then 4 else 3
def insFs (P : Program) : Option (Array Field) := match P.underlying 23 with | some (.struct fs) => some fs | _ => none
def insFB (P : Program) : Bool := match insFs P with | some fs => (List.range 17).all (fun k => match fs[k]? with | some f => f.offset == k && f.type == insT k | none => false) | none => false
theorem insFB_true : insFB Try.prog = true := by kernel_rfl
theorem ins_fields : ∃ fs : Array Field, Try.prog.underlying 23 = some (.struct fs) ∧ ∀ k, k < 17 → ∃ f, fs[k]? = some f ∧ f.offset = k ∧ f.type = insT k := by
  have h := insFB_true
  unfold insFB at h
  cases hq : insFs Try.prog with
  | none => simp [hq] at h
  | some fs =>
    rw [hq] at h
    refine ⟨fs, ?_, fun k hk => ?_⟩
    · unfold insFs at hq
      split at hq
      · rename_i fs' he; rw [he]; cases hq; rfl
      · cases hq
    · have h1 := List.all_eq_true.1 h k (List.mem_range.2 hk)
      cases hf : fs[k]? with
      | none => simp [hf] at h1
      | some f => rw [hf] at h1; simp only [Bool.and_eq_true, beq_iff_eq] at h1; exact ⟨f, rfl, h1.1, h1.2⟩
theorem ins_cells : Try.prog.cellsOf 23 = 17 := by kernel_rfl
theorem int_cells : Try.prog.cellsOf 3 = 1 := by kernel_rfl
theorem bool_cells : Try.prog.cellsOf 4 = 1 := by kernel_rfl
theorem take_one {l : List Value} {k : Nat} {v : Value} (h : (l.drop k).take 1 = [v]) : l[k]? = some v := by
  have := congrArg (fun l => l[0]?) h
  simpa using this
theorem open_ins {H : Type} {enc : TypeId × Value → H} {W : World} {base : Nat} {spare : Nat → Bool} {held : Bool} {base' : Nat} {v : Value} {d : DataW H} {ps : List MemPlace}
    (hv : Value.okWide Try.prog W .any base 23 v) (h : DataW.Trod enc Try.prog W base' spare held 23 v d ps) : ∃ i : Ins, v = .agg (insC i) := by
  obtain ⟨fs, hu, hfs⟩ := ins_fields
  obtain ⟨cs, rfl, hsz⟩ := okWide_struct hu hv
  rw [ins_cells] at hsz
  obtain ⟨fuel, hf⟩ := h
  obtain ⟨xs, n, _, _, _, hlen, hx⟩ := DataW.trod_struct hu hf
  have int : ∀ k, k < 17 → insT k = 3 → ∃ m : Int, cs.toList[k]? = some (.int .i64 m) := fun k hk ht => by
    obtain ⟨f, hf1, ho, hty⟩ := hfs k hk
    have h1 := hx k f hf1
    have hl := (Array.getElem?_eq_some_iff.1 hf1).1
    rw [ho, hty, ht, int_cells, List.getElem?_eq_getElem (by omega)] at h1
    obtain ⟨m, h2, _, _⟩ := DataW.trod_int Try.underlying3 h1
    exact ⟨m, take_one h2⟩
  have bool : ∀ k, k < 17 → insT k = 4 → ∃ b : Bool, cs.toList[k]? = some (.bool b) := fun k hk ht => by
    obtain ⟨f, hf1, ho, hty⟩ := hfs k hk
    have h1 := hx k f hf1
    have hl := (Array.getElem?_eq_some_iff.1 hf1).1
    rw [ho, hty, ht, bool_cells, List.getElem?_eq_getElem (by omega)] at h1
    obtain ⟨m, h2, _⟩ := DataW.trod_bool Try.underlying4 h1
    exact ⟨m, take_one h2⟩
  obtain ⟨c0, h0⟩ := int 0 (by decide) rfl
  obtain ⟨c1, h1⟩ := int 1 (by decide) rfl
  obtain ⟨c2, h2⟩ := int 2 (by decide) rfl
  obtain ⟨c3, h3⟩ := int 3 (by decide) rfl
  obtain ⟨c4, h4⟩ := int 4 (by decide) rfl
  obtain ⟨c5, h5⟩ := int 5 (by decide) rfl
  obtain ⟨c6, h6⟩ := int 6 (by decide) rfl
  obtain ⟨c7, h7⟩ := int 7 (by decide) rfl
  obtain ⟨c8, h8⟩ := int 8 (by decide) rfl
  obtain ⟨c9, h9⟩ := int 9 (by decide) rfl
  obtain ⟨c10, h10⟩ := bool 10 (by decide) rfl
  obtain ⟨c11, h11⟩ := bool 11 (by decide) rfl
  obtain ⟨c12, h12⟩ := bool 12 (by decide) rfl
  obtain ⟨c13, h13⟩ := int 13 (by decide) rfl
  obtain ⟨c14, h14⟩ := int 14 (by decide) rfl
  obtain ⟨c15, h15⟩ := int 15 (by decide) rfl
  obtain ⟨c16, h16⟩ := bool 16 (by decide) rfl
  refine ⟨⟨c0, c1, c2, c3, c4, c5, c6, c7, c8, c9, c10, c11, c12, c13, c14, c15, c16⟩, congrArg Value.agg ?_⟩
  apply Array.ext'
  apply List.ext_getElem?
  intro k
  by_cases hk : k < 17
  · have : k = 0 ∨ k = 1 ∨ k = 2 ∨ k = 3 ∨ k = 4 ∨ k = 5 ∨ k = 6 ∨ k = 7 ∨ k = 8 ∨ k = 9 ∨ k = 10 ∨ k = 11 ∨ k = 12 ∨ k = 13 ∨ k = 14 ∨ k = 15 ∨ k = 16 := by omega
    rcases this with rfl | rfl | rfl | rfl | rfl | rfl | rfl | rfl | rfl | rfl | rfl | rfl | rfl | rfl | rfl | rfl | rfl
    · exact h0
    · exact h1
    · exact h2
    · exact h3
    · exact h4
    · exact h5
    · exact h6
    · exact h7
    · exact h8
    · exact h9
    · exact h10
    · exact h11
    · exact h12
    · exact h13
    · exact h14
    · exact h15
    · exact h16
  · rw [List.getElem?_eq_none (by simp; omega), List.getElem?_eq_none (by simp [insC]; omega)]
end Go.Proofs.Ytlhompedcphnnaa
