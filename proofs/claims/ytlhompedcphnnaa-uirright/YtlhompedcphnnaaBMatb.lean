/- Plain facts on bytes of sixty-four bits: taken out, laid in, blended; no program is named here. -/
import Derived.Test.YtlhompedcphnnaaBMath
namespace Go.Proofs.Ytlhompedcphnnaa
open Go.RowKit

theorem low_bits : ∀ k, k ≤ 8 → ∀ i, i < 64 → (lowB k).getLsbD i = decide (i < 8 * k) := by
  intro k hk
  have : k = 0 ∨ k = 1 ∨ k = 2 ∨ k = 3 ∨ k = 4 ∨ k = 5 ∨ k = 6 ∨ k = 7 ∨ k = 8 := by omega
  rcases this with rfl | rfl | rfl | rfl | rfl | rfl | rfl | rfl | rfl <;> decide
theorem ext64 {a b : BitVec 64} (h : ∀ i, i < 64 → a.getLsbD i = b.getLsbD i) : a = b := by
  apply BitVec.eq_of_getLsbD_eq; intro i hi; exact h i hi
theorem byte255 : ∀ i, i < 64 → (255#64).getLsbD i = decide (i < 8) := by decide
theorem byte_bits (v : BitVec 64) (k i : Nat) (hk : k < 8) (hi : i < 64) : (byteB v k).getLsbD i = (decide (i < 8) && v.getLsbD (8 * k + i)) := by
  unfold byteB
  rw [BitVec.getLsbD_and, byte255 i hi, BitVec.getLsbD_sshiftRight]
  by_cases h : i < 8
  · have h1 : 8 * k + i < 64 := by omega
    simp [h, h1, hi]
  · simp [h]
/-- the bytes at an offset -/
def getB (v : BitVec 64) (o k : Nat) : BitVec 64 := (v >>> (8 * o)) &&& lowB k
theorem get_bits (v : BitVec 64) (o k i : Nat) (hk : k ≤ 8) (hi : i < 64) : (getB v o k).getLsbD i = (decide (i < 8 * k) && v.getLsbD (8 * o + i)) := by
  unfold getB
  rw [BitVec.getLsbD_and, low_bits k hk i hi, BitVec.getLsbD_ushiftRight, Bool.and_comm]
theorem get_eq (v : BitVec 64) (o k : Nat) (h : o + k ≤ 8) : v.sshiftRight (8 * o) &&& lowB k = getB v o k := by
  apply ext64; intro i hi
  rw [get_bits v o k i (by omega) hi, BitVec.getLsbD_and, low_bits k (by omega) i hi, BitVec.getLsbD_sshiftRight]
  by_cases h' : i < 8 * k
  · have h1 : 8 * o + i < 64 := by omega
    simp [h', h1, hi]
  · simp [h']
theorem get_zero (v : BitVec 64) (o : Nat) : getB v o 0 = 0#64 := by
  apply ext64; intro i hi; rw [get_bits v o 0 i (by omega) hi]; simp
theorem get_step (v : BitVec 64) (o k : Nat) (h : o + k < 8) : getB v o k ||| (byteB v (o + k) <<< (8 * k)) = getB v o (k + 1) := by
  apply ext64; intro i hi
  rw [BitVec.getLsbD_or, get_bits v o k i (by omega) hi, get_bits v o (k + 1) i (by omega) hi, BitVec.getLsbD_shiftLeft]
  by_cases h1 : i < 8 * k
  · have h2 : i < 8 * (k + 1) := by omega
    simp [h1, h2]
  · rw [byte_bits v (o + k) (i - 8 * k) h (by omega)]
    have e : 8 * (o + k) + (i - 8 * k) = 8 * o + i := by omega
    by_cases h2 : i < 8 * (k + 1)
    · have h3 : i - 8 * k < 8 := by omega
      simp [h1, h2, h3, hi, e]
    · have h3 : ¬ (i - 8 * k < 8) := by omega
      simp [h1, h2, h3]
/-- all eight bits of each byte that the mask has, of the first k bytes -/
def spreadB (m : BitVec 64) : Nat → BitVec 64
  | 0 => 0#64
  | k + 1 => spreadB m k ||| (if m.getLsbD k = true then 255#64 <<< (8 * k) else 0#64)
theorem spread_bits (m : BitVec 64) (k i : Nat) (hi : i < 64) : (spreadB m k).getLsbD i = (decide (i < 8 * k) && m.getLsbD (i / 8)) := by
  induction k with
  | zero => simp [spreadB]
  | succ k ih =>
    unfold spreadB
    rw [BitVec.getLsbD_or, ih]
    by_cases h1 : i < 8 * k
    · have h2 : i < 8 * (k + 1) := by omega
      by_cases hm : m.getLsbD k = true
      · simp [h1, h2, hm]
      · simp [h1, h2, hm]
    · by_cases h2 : i < 8 * (k + 1)
      · have e : i / 8 = k := by omega
        rw [e]
        by_cases hm : m.getLsbD k = true
        · rw [if_pos hm, BitVec.getLsbD_shiftLeft, byte255 _ (by omega)]
          have h3 : i - 8 * k < 8 := by omega
          simp [h1, h2, h3, hm, hi]
        · simp [h1, h2, hm]
      · by_cases hm : m.getLsbD k = true
        · rw [if_pos hm, BitVec.getLsbD_shiftLeft, byte255 _ (by omega)]
          have h3 : ¬ i - 8 * k < 8 := by omega
          simp [h1, h2, h3]
        · simp [h1, h2, hm]
/-- the bits that 'p' has of 'x', the others of 'v' -/
def chooseB (v x p : BitVec 64) : BitVec 64 := (v &&& ~~~p) ||| (x &&& p)
theorem choose_bits (v x p : BitVec 64) (i : Nat) (hi : i < 64) : (chooseB v x p).getLsbD i = if p.getLsbD i = true then x.getLsbD i else v.getLsbD i := by
  unfold chooseB
  rw [BitVec.getLsbD_or, BitVec.getLsbD_and, BitVec.getLsbD_and, BitVec.getLsbD_not]
  rw [decide_eq_true hi]
  cases p.getLsbD i <;> cases v.getLsbD i <;> cases x.getLsbD i <;> rfl
/-- a value blended by a mask -/
def blendB (v x m : BitVec 64) : BitVec 64 := chooseB v x (spreadB m 8)
theorem blend_bits (v x m : BitVec 64) (i : Nat) (hi : i < 64) : (blendB v x m).getLsbD i = if m.getLsbD (i / 8) = true then x.getLsbD i else v.getLsbD i := by
  unfold blendB
  rw [choose_bits _ _ _ _ hi, spread_bits m 8 i hi]
  have : i < 8 * 8 := by omega
  simp [this]
/-- the first k bytes of a blend -/
def blendTo (v x m : BitVec 64) (k : Nat) : BitVec 64 := blendB v x m &&& lowB k
theorem blendTo_bits (v x m : BitVec 64) (k i : Nat) (hk : k ≤ 8) (hi : i < 64) : (blendTo v x m k).getLsbD i = (decide (i < 8 * k) && if m.getLsbD (i / 8) = true then x.getLsbD i else v.getLsbD i) := by
  unfold blendTo
  rw [BitVec.getLsbD_and, low_bits k hk i hi, blend_bits _ _ _ _ hi, Bool.and_comm]
theorem blendTo_zero (v x m : BitVec 64) : blendTo v x m 0 = 0#64 := by
  apply ext64; intro i hi; rw [blendTo_bits _ _ _ 0 i (by omega) hi]; simp
theorem blendTo_all (v x m : BitVec 64) : blendTo v x m 8 = blendB v x m := by
  apply ext64; intro i hi; rw [blendTo_bits _ _ _ 8 i (by omega) hi, blend_bits _ _ _ _ hi]; have : i < 8 * 8 := by omega
  simp [this]
theorem blendTo_step (v x m : BitVec 64) (k : Nat) (h : k < 8) : blendTo v x m k ||| ((if m.getLsbD k = true then byteB x k else byteB v k) <<< (8 * k)) = blendTo v x m (k + 1) := by
  apply ext64; intro i hi
  rw [BitVec.getLsbD_or, blendTo_bits _ _ _ k i (by omega) hi, blendTo_bits _ _ _ (k + 1) i (by omega) hi, BitVec.getLsbD_shiftLeft]
  by_cases h1 : i < 8 * k
  · have h2 : i < 8 * (k + 1) := by omega
    simp [h1, h2]
  · have e : 8 * k + (i - 8 * k) = i := by omega
    by_cases h2 : i < 8 * (k + 1)
    · have h3 : i - 8 * k < 8 := by omega
      have h4 : i / 8 = k := by omega
      by_cases hm : m.getLsbD k = true
      · rw [if_pos hm, byte_bits _ _ _ h (by omega), h4, if_pos hm, e]; simp [h1, h2, h3, hi]
      · rw [if_neg hm, byte_bits _ _ _ h (by omega), h4, if_neg hm, e]; simp [h1, h2, h3, hi]
    · have h3 : ¬ (i - 8 * k < 8) := by omega
      by_cases hm : m.getLsbD k = true
      · rw [if_pos hm, byte_bits _ _ _ h (by omega)]; simp [h1, h2, h3]
      · rw [if_neg hm, byte_bits _ _ _ h (by omega)]; simp [h1, h2, h3]
theorem mask_bits : ∀ o, o < 9 → ∀ k, k < 9 → ∀ i, i < 8 → o + k ≤ 8 → (maskB o k).getLsbD i = decide (o ≤ i ∧ i < o + k) := by decide
/-- the low bytes of 'x' laid in at the offset -/
def putB (v : BitVec 64) (o k : Nat) (x : BitVec 64) : BitVec 64 := chooseB v (x <<< (8 * o)) (lowB k <<< (8 * o))
theorem put_eq (v : BitVec 64) (o k : Nat) (x : BitVec 64) (h : o + k ≤ 8) : blendB v (x <<< (8 * o)) (maskB o k) = putB v o k x := by
  apply ext64; intro i hi
  unfold putB
  rw [blend_bits _ _ _ _ hi, choose_bits _ _ _ _ hi, mask_bits o (by omega) k (by omega) (i / 8) (by omega) h]
  have e : (lowB k <<< (8 * o)).getLsbD i = decide (o ≤ i / 8 ∧ i / 8 < o + k) := by
    rw [BitVec.getLsbD_shiftLeft]
    by_cases h1 : i < 8 * o
    · have : ¬ (o ≤ i / 8 ∧ i / 8 < o + k) := by omega
      simp [h1, this]
    · rw [low_bits k (by omega) _ (by omega)]
      by_cases h2 : i - 8 * o < 8 * k
      · have : (o ≤ i / 8 ∧ i / 8 < o + k) := by omega
        simp [h1, h2, this, hi]
      · have : ¬ (o ≤ i / 8 ∧ i / 8 < o + k) := by omega
        simp [h1, h2, this]
  rw [e]
theorem put_bits (v : BitVec 64) (o k : Nat) (x : BitVec 64) (i : Nat) (h : o + k ≤ 8) (hi : i < 64) : (putB v o k x).getLsbD i = if 8 * o ≤ i ∧ i < 8 * (o + k) then x.getLsbD (i - 8 * o) else v.getLsbD i := by
  rw [← put_eq v o k x h, blend_bits _ _ _ _ hi, mask_bits o (by omega) k (by omega) (i / 8) (by omega) h, BitVec.getLsbD_shiftLeft]
  by_cases h1 : o ≤ i / 8 ∧ i / 8 < o + k
  · have h2 : 8 * o ≤ i ∧ i < 8 * (o + k) := by omega
    have h3 : ¬ i < 8 * o := by omega
    rw [if_pos h2]; simp [h1, h3, hi]
  · have h2 : ¬ (8 * o ≤ i ∧ i < 8 * (o + k)) := by omega
    rw [if_neg h2]; simp only [decide_eq_true_eq]; rw [if_neg h1]
end Go.Proofs.Ytlhompedcphnnaa
