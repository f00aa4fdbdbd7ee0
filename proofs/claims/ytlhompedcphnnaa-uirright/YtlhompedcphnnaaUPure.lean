/- What a step turns: places rise, numbers stay in range, rows grow by one at most; a run as steps. -/
import Derived.Test.YtlhompedcphnnaaUStep
namespace Go.Proofs.Ytlhompedcphnnaa
open Go.RowKit
set_option linter.unusedSimpArgs false

theorem alu_wf (fn : Int) {a b : Int} (ha : wfI a) (hb : wfI b) : wfI (aluR fn a b) := by
  unfold aluR
  rw [ha, hb]
  split
  · rw [add]; exact wf_I _
  split
  · rw [sub]; exact wf_I _
  split
  · rw [bits_xor]; exact wf_I _
  split
  · rw [bits_and]; exact wf_I _
  split
  · rw [bits_or]; exact wf_I _
  · exact wf_0
theorem right_yes {i : Ins} {p n : Int} (h : rightR i p n = 0) : soundB i = true ∧ (i.op = 9 → p < i.to ∧ i.to ≤ n) := by
  unfold rightR at h
  split at h
  · rename_i h1
    simp at h1
    refine ⟨h1.2, fun h9 => ?_⟩
    split at h
    · cases h
    · rename_i h2; simp [h9] at h2; omega
  · cases h
/-- what holds of each step of a right instruction -/
theorem step_facts {s s' : Wk} {i : Ins} {n : Int} (hr : rightR i s.p n = 0) (hlt : s.p < n) (hw : ∀ k, wfI (s.r k)) (hi : wfI i.imm) (h : stepW s i = some s') :
    s.p < s'.p ∧ s'.p ≤ n ∧ (∀ k, wfI (s'.r k)) ∧ s'.path = s.path ++ [s.p] ∧ s'.evs.length ≤ s.evs.length + 1 ∧ ∀ x ∈ s'.rds, x ∈ s.rds := by
  obtain ⟨hs, h9⟩ := right_yes hr
  unfold stepW at h
  split at h
  · cases h; exact ⟨by simp [nextW]; omega, by simp [nextW]; omega, wf_upd hw hi, rfl, by simp [nextW], fun x hx => hx⟩
  split at h
  · cases h; exact ⟨by simp [nextW]; omega, by simp [nextW]; omega, wf_upd hw (hw _), rfl, by simp [nextW], fun x hx => hx⟩
  split at h
  · cases h; exact ⟨by simp [nextW]; omega, by simp [nextW]; omega, wf_upd hw (alu_wf _ (hw _) (wf_or hw hi)), rfl, by simp [nextW], fun x hx => hx⟩
  split at h
  · split at h
    · cases h
    · rename_i u rl hl
      cases h; exact ⟨by simp [nextW]; omega, by simp [nextW]; omega, wf_upd hw (wf_I _), rfl, by simp [nextW], fun x hx => by rw [hl]; exact List.mem_cons_of_mem _ hx⟩
  split at h
  · cases h; exact ⟨by simp [nextW]; omega, by simp [nextW]; omega, hw, rfl, by simp [nextW], fun x hx => hx⟩
  split at h
  · split at h
    · cases h
    · rename_i u rl hl
      cases h; exact ⟨by simp [nextW]; omega, by simp [nextW]; omega, wf_upd hw (wf_I _), rfl, by simp [nextW], fun x hx => by rw [hl]; exact List.mem_cons_of_mem _ hx⟩
  split at h
  · rename_i h9'
    have := h9 h9'
    cases h
    refine ⟨?_, ?_, hw, rfl, by simp [nextW], fun x hx => hx⟩ <;> (simp only [brP]; split <;> omega)
  · cases h; exact ⟨by simp [nextW]; omega, by simp [nextW]; omega, hw, rfl, by simp [nextW], fun x hx => hx⟩
/-- a run of a code by itself, in so many steps at most; none: reads are used up -/
def runW (code : List Ins) : Nat → Wk → Option Wk
  | 0, s => some s
  | f + 1, s => match code[s.p.toNat]? with
    | none => some s
    | some i => match stepW s i with
      | none => none
      | some s' => runW code f s'
theorem runW_end {code : List Ins} {f : Nat} {s : Wk} (h : code.length ≤ s.p.toNat) : runW code f s = some s := by
  cases f with
  | zero => rfl
  | succ f => unfold runW; rw [List.getElem?_eq_none h]
theorem runW_step {code : List Ins} {f : Nat} {s : Wk} {i : Ins} (h : code[s.p.toNat]? = some i) : runW code (f + 1) s = match stepW s i with | none => none | some s' => runW code f s' := by
  rw [runW, h]
end Go.Proofs.Ytlhompedcphnnaa
