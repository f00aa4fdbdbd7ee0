/- The code that every statement of chapter 3 tries first: what its run comes to. -/
import Derived.Test.YtlhompedcphnnaaULoc
namespace Go.Proofs.Ytlhompedcphnnaa
open Go.RowKit

def cI : Ins := ⟨1, 1, -1, -1, 5, 0, 0, -1, 0, 0, false, false, false, 0, 0, 0, false⟩
def sI : Ins := ⟨5, -1, 1, -1, 0, 0, 0, -1, 8, 0, false, false, false, 0, 0, 0, false⟩
def s1 : Wk := (runW [cI, sI] 2 ⟨((0 : Nat) : Int), fun _ => 0, [], [], []⟩).getD ⟨0, fun _ => 0, [], [], []⟩
theorem able_run : runW [cI, sI] 2 ⟨((0 : Nat) : Int), fun _ => 0, [], [], []⟩ = some s1 := by kernel_rfl
theorem able_check : (checkR [[cI, sI]]).2.2 = 0 := by kernel_rfl
theorem able_none : (checkR []).2.2 = 30 := by kernel_rfl
theorem able_r : (s1.r 1 == 5) = true := by kernel_rfl
theorem able_e : s1.evs.length = 1 := by kernel_rfl
theorem able_p : s1.path.length = 2 := by kernel_rfl
theorem able_e1 : (((s1.evs.length : Nat) : Int) == 1) = true := by kernel_rfl
theorem able_p1 : (((s1.path.length : Nat) : Int) == 2) = true := by kernel_rfl
theorem able_n1 : ((checkR []).2.2 == 0) = false := by kernel_rfl
theorem able_ev : s1.evs[0]?.map (fun e => (e.new_ == 5, e.mask == 255)) = some (true, true) := by kernel_rfl
theorem able_w : wrB sI = true := by kernel_rfl
theorem able_g : (givesF cI == 1) = true := by kernel_rfl
def evS (e : Ev) : List Value := (evC e).toList
theorem own_sl {w : World} {b : Nat} {v : Value} {l : List Ev} (h : w.ownsRow b 52 15 v l.length (evE l)) : Sl evS 15 w.heap.size w v l := by
  obtain ⟨h1, h2⟩ := h
  rcases h2 with ⟨rfl, h2⟩ | ⟨g, cap, cur, hv, hb, hg, hc, _, hs, ht⟩
  · have : l = [] := List.eq_nil_of_length_eq_zero h2
    subst this; exact Sl.nil
  · refine ⟨some ⟨g, 0, none⟩, cap, hv, hc, fun j x hx => ⟨g, 0, rfl, (Array.getElem?_eq_some_iff.1 hg).1, fun k u hu => ?_⟩⟩
    rw [cell_of_row w g _ cur _ _ hg]
    have hk : k < 15 := by have := get_lt hu; simpa [evS, evC] using this
    have hj := get_lt hx
    have key : ∀ (l : List Ev) (j : Nat) (x : Ev), l[j]? = some x → (evE l)[j * 15 + k]? = some u ∨ evS x ≠ evS x ∨ (evE l)[j * 15 + k]? = (evS x)[k]? := by
      intro l
      induction l with
      | nil => intro j x hx; simp at hx
      | cons e l ih =>
        intro j x hx
        have hel : (evC e).toList.length = 15 := rfl
        have he : evE (e :: l) = (evC e).toList ++ evE l := by simp [evE]
        cases j with
        | zero =>
          simp at hx; subst hx
          right; right
          rw [he, Nat.zero_mul, Nat.zero_add, List.getElem?_append_left (by rw [hel]; exact hk)]
          rfl
        | succ j =>
          have := ih j x (by simpa using hx)
          rw [he, List.getElem?_append_right (by rw [hel, Nat.add_mul]; omega), hel, show (j + 1) * 15 + k - 15 = j * 15 + k by rw [Nat.add_mul]; omega]
          exact this
    have hkey : (evE l)[j * 15 + k]? = some u := by
      rcases key l j x hx with h | h | h
      · exact h
      · exact absurd rfl h
      · rw [h]; exact hu
    have hlt : j * 15 + k < l.length * 15 := by
      have := Nat.mul_le_mul_right 15 (show j + 1 ≤ l.length by omega)
      rw [Nat.add_mul] at this; omega
    have h3 : (cur.toList.take (l.length * 15))[j * 15 + k]? = some u := by rw [ht]; exact hkey
    rw [List.getElem?_take_of_lt hlt] at h3
    rw [Nat.zero_add, ← Array.getElem?_toList]; exact h3
end Go.Proofs.Ytlhompedcphnnaa
