/- Plain facts behind BitsBack: what is laid in is taken out, bytes beside it stay, and where an access lies; no program is named here. -/
import Derived.Test.YtmgifncjfeoomaaMatb
namespace Go.Proofs.Ytmgifncjfeoomaa
open Go.RowKit

theorem get_put (v x : BitVec 64) (o k : Nat) (h : o + k ≤ 8) : getB (putB v o k x) o k = getB x 0 k := by
  apply ext64; intro i hi
  rw [get_bits _ _ _ _ (by omega) hi, get_bits _ _ _ _ (by omega) hi]
  by_cases h1 : i < 8 * k
  · rw [put_bits v o k x (8 * o + i) h (by omega), if_pos (by omega), show 8 * o + i - 8 * o = 8 * 0 + i by omega]
  · simp [h1]
theorem get_beside (v x : BitVec 64) (o p k : Nat) (h : o + k ≤ 8) (hp : p + k ≤ 8) (hd : o + k ≤ p ∨ p + k ≤ o) : getB (putB v o k x) p k = getB v p k := by
  apply ext64; intro i hi
  rw [get_bits _ _ _ _ (by omega) hi, get_bits _ _ _ _ (by omega) hi]
  by_cases h1 : i < 8 * k
  · rw [put_bits v o k x (8 * p + i) h (by omega), if_neg (by omega)]
  · simp [h1]
theorem blend_put (v x : BitVec 64) (o k : Nat) (h : o + k ≤ 8) (m : BitVec 64) (hm : ∀ j, j < 8 → m.getLsbD j = (maskB o k).getLsbD j) : blendB (putB v o k x) v m = v := by
  apply ext64; intro i hi
  rw [blend_bits _ _ _ _ hi, hm _ (by omega), mask_bits o (by omega) k (by omega) (i / 8) (by omega) h]
  by_cases h1 : o ≤ i / 8 ∧ i / 8 < o + k
  · simp [h1]
  · have h2 : ¬ (8 * o ≤ i ∧ i < 8 * (o + k)) := by omega
    simp only [decide_eq_true_eq]
    rw [if_neg h1, put_bits v o k x i h hi, if_neg h2]
theorem count_mask : ∀ o, o < 9 → ∀ k, k < 9 → o + k ≤ 8 → countB (maskB o k) 8 = k := by decide
theorem apart (o p k : Nat) (hk : k = 1 ∨ k = 2 ∨ k = 4 ∨ k = 8) (ho : o + k ≤ 8) (hp : p + k ≤ 8) (mo : o % k = 0) (mp : p % k = 0) (hne : p ≠ o) : o + k ≤ p ∨ p + k ≤ o := by
  rcases hk with rfl | rfl | rfl | rfl <;> omega
theorem meet_apart (o k p : Nat) (ho : o + k ≤ 8) (hp : p + k ≤ 8) (hd : o + k ≤ p ∨ p + k ≤ o) : 255#64 &&& maskB p k &&& maskB o k = 0#64 := by
  apply ext64; intro i hi
  rw [BitVec.getLsbD_and, BitVec.getLsbD_and, byte255 i hi]
  by_cases h8 : i < 8
  · rw [mask_bits o (by omega) k (by omega) i h8 ho, mask_bits p (by omega) k (by omega) i h8 hp]
    by_cases h1 : p ≤ i ∧ i < p + k
    · have h2 : ¬ (o ≤ i ∧ i < o + k) := by omega
      simp [h2]
    · simp [h1]
  · simp [h8]
theorem mask_apart (o k p : Nat) (h1 : 1 ≤ k) (ho : o + k ≤ 8) (hp : p + k ≤ 8) (hd : o + k ≤ p ∨ p + k ≤ o) : maskB p k ≠ maskB o k := by
  intro h
  have e1 := mask_bits p (by omega) k (by omega) p (by omega) hp
  have e2 := mask_bits o (by omega) k (by omega) p (by omega) ho
  rw [h, e2] at e1
  have a1 : ¬ (o ≤ p ∧ p < o + k) := by omega
  have a2 : p ≤ p ∧ p < p + k := by omega
  simp only [a1, a2] at e1
  exact absurd e1 (by decide)
theorem and7_nat (p : BitVec 64) : I (p &&& 7#64) = ((p.toNat % 8 : Nat) : Int) := by
  have h : (p &&& 7#64).toNat = p.toNat % 8 := by
    rw [BitVec.toNat_and]; exact Nat.and_two_pow_sub_one_eq_mod p.toNat 3
  unfold I; rw [BitVec.toInt_eq_toNat_of_lt (by omega), h]
theorem place_fold (o i : BitVec 64) (n : Int) : placeB (o + (i &&& 7#64)) n = placeB (o + i) n := by
  have h : (i &&& 7#64).toNat = i.toNat % 8 := by
    rw [BitVec.toNat_and]; exact Nat.and_two_pow_sub_one_eq_mod i.toNat 3
  have e : I ((o + (i &&& 7#64)) &&& 7#64) = I ((o + i) &&& 7#64) := by
    rw [and7_nat, and7_nat, BitVec.toNat_add, BitVec.toNat_add, h]; omega
  unfold placeB; rw [e]
theorem place_self (o k : Nat) (hk : o + k ≤ 8) (h1 : 1 ≤ k) (hm : o % k = 0) : placeB (BitVec.ofNat 64 o + 0#64) k = o := by
  unfold placeB; rw [and7_nat]
  have e : (BitVec.ofNat 64 o + 0#64).toNat % 8 = o := by simp; omega
  rw [e]; omega
theorem place_at (p : BitVec 64) (k : Nat) (hk : k = 1 ∨ k = 2 ∨ k = 4 ∨ k = 8) : ∃ a : Nat, placeB p k = a ∧ a + k ≤ 8 ∧ a % k = 0 := by
  unfold placeB; rw [and7_nat]
  have h : p.toNat % 8 < 8 := by omega
  generalize p.toNat % 8 = a at *
  refine ⟨a - a % k, ?_, ?_, ?_⟩
  · have := Nat.mod_le a k; omega
  · rcases hk with rfl | rfl | rfl | rfl <;> omega
  · rcases hk with rfl | rfl | rfl | rfl <;> omega
end Go.Proofs.Ytmgifncjfeoomaa
