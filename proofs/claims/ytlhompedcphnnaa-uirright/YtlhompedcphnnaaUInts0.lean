/- Two rows of numbers compared. -/
import Derived.Test.YtlhompedcphnnaaUAble
namespace Go.Proofs.Ytlhompedcphnnaa

theorem take_more {l m : List Int} {j : Nat} {y z : Int} (h : l.take j = m.take j) (hy : l[j]? = some y) (hz : m[j]? = some z) (he : y = z) : l.take (j + 1) = m.take (j + 1) := by
  rw [List.take_add_one, List.take_add_one, h, hy, hz, he]
theorem take_all {l m : List Int} {j : Nat} (h : l.take j = m.take j) (hl : l.length ≤ j) (hm : m.length ≤ j) : l = m := by
  rwa [List.take_of_length_le hl, List.take_of_length_le hm] at h
theorem eq_no_len {l m : List Int} (h : (l.length : Int) ≠ (m.length : Int)) : decide (l = m) = false := by
  rw [decide_eq_false_iff_not]; intro e; subst e; exact h rfl
theorem eq_no_at {l m : List Int} {j : Nat} {y z : Int} (hy : l[j]? = some y) (hz : m[j]? = some z) (he : y ≠ z) : decide (l = m) = false := by
  rw [decide_eq_false_iff_not]; intro e; subst e; rw [hy] at hz; cases hz; exact he rfl
end Go.Proofs.Ytlhompedcphnnaa
