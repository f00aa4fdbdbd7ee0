/- Plain facts on sixty-four bits: how Go's '&', '|', '&^', '<<', '>>' on int read as operations on bit vectors; no program is named here. -/
import Derived.WalkKit
namespace Go.Proofs.Ytlhompedcphnnaa
open Go.RowKit

/-- the sixty-four bits of a number -/
def B (x : Int) : BitVec 64 := BitVec.ofInt 64 x
/-- the number that sixty-four bits are -/
def I (b : BitVec 64) : Int := b.toInt

theorem B_I (b : BitVec 64) : B (I b) = b := by unfold B I; exact BitVec.ofInt_toInt
theorem wf_bd {x : Int} (h : (Lit.int .i64 x).wf = true) : -9223372036854775808 ≤ x ∧ x ≤ 9223372036854775807 := by
  simpa [Lit.wf, IntKind.min, IntKind.max, IntKind.signed, IntKind.bits] using h
theorem I_bd (b : BitVec 64) : -9223372036854775808 ≤ I b ∧ I b ≤ 9223372036854775807 := by
  unfold I
  have h1 := BitVec.le_toInt b
  have h2 := BitVec.toInt_lt (x := b)
  simp at h1 h2
  omega
theorem wrap64_I (n : Int) : wrap64 n = I (B n) := by
  unfold wrap64 I B
  rw [BitVec.toInt_ofInt, Int.bmod_def]
  simp only [Nat.reducePow]
  omega
theorem I_B {x : Int} (h : (Lit.int .i64 x).wf = true) : I (B x) = x := by
  have := wf_bd h
  rw [← wrap64_I]; unfold wrap64; omega
theorem I_inj {a b : BitVec 64} (h : I a = I b) : a = b := by rw [← B_I a, h, B_I]
theorem I_wf (b : BitVec 64) : (Lit.int .i64 (I b)).wf = true := WalkArith.wf_i64 (I_bd b)
theorem wrap_toNat (b : BitVec 64) : IntKind.i64.wrap (b.toNat : Int) = I b := by
  rw [IntKind.wrap_i64]; unfold I
  rw [BitVec.toInt_eq_toNat_bmod, Int.bmod_def]
  have := b.isLt
  simp only [Nat.reducePow] at *
  omega
theorem bits_and (x y : BitVec 64) : bits .and .i64 (I x) (I y) = I (x &&& y) := by
  show IntKind.i64.wrap ((B (I x) &&& B (I y)).toNat : Int) = _
  rw [wrap_toNat, B_I, B_I]
theorem bits_or (x y : BitVec 64) : bits .or .i64 (I x) (I y) = I (x ||| y) := by
  show IntKind.i64.wrap ((B (I x) ||| B (I y)).toNat : Int) = _
  rw [wrap_toNat, B_I, B_I]
theorem bits_xor (x y : BitVec 64) : bits .xor .i64 (I x) (I y) = I (x ^^^ y) := by
  show IntKind.i64.wrap ((B (I x) ^^^ B (I y)).toNat : Int) = _
  rw [wrap_toNat, B_I, B_I]
theorem bits_andNot (x y : BitVec 64) : bits .andNot .i64 (I x) (I y) = I (x &&& ~~~y) := by
  show IntKind.i64.wrap ((B (I x) &&& ~~~B (I y)).toNat : Int) = _
  rw [wrap_toNat, B_I, B_I]
theorem B_mul_pow (x : BitVec 64) (k : Nat) : B (I x * 2 ^ k) = x <<< k := by
  have h : B (I x * 2 ^ k) = B (I x) * BitVec.ofNat 64 (2 ^ k) := by
    unfold B; rw [BitVec.ofInt_mul]
    congr 1
  rw [h, B_I, BitVec.shiftLeft_eq_mul_twoPow]
  congr 1
  exact BitVec.eq_of_toNat_eq (by simp)
theorem shl (x : BitVec 64) (k : Nat) : wrap64 (I x * 2 ^ k) = I (x <<< k) := by rw [wrap64_I, B_mul_pow]
theorem shr (x : BitVec 64) (k : Nat) : I x / 2 ^ k = I (x.sshiftRight k) := by
  unfold I; rw [BitVec.toInt_sshiftRight, Int.shiftRight_eq_div_pow]; push_cast; rfl
theorem add (x y : BitVec 64) : wrap64 (I x + I y) = I (x + y) := by
  rw [wrap64_I]; congr 1; unfold B; rw [BitVec.ofInt_add]; exact congr (congrArg _ (B_I x)) (B_I y)
theorem sub (x y : BitVec 64) : wrap64 (I x - I y) = I (x - y) := by
  rw [wrap64_I]; congr 1
  have : B (I x - I y) = B (I x) - B (I y) := by unfold B; rw [Int.sub_eq_add_neg, BitVec.ofInt_add, BitVec.ofInt_neg, BitVec.sub_eq_add_neg]
  rw [this, B_I, B_I]
theorem I_one : I 1#64 = 1 := by decide
theorem I_zero : I 0#64 = 0 := by decide
theorem I_7 : I 7#64 = 7 := by decide
theorem I_255 : I 255#64 = 255 := by decide
theorem wrap64_in (n : Int) (h : -9223372036854775808 ≤ n ∧ n ≤ 9223372036854775807) : wrap64 n = n := by unfold wrap64; omega
theorem pow_I (k : Nat) : wrap64 (2 ^ k) = I (1#64 <<< k) := by
  have key := shl 1#64 k
  rw [I_one, Int.one_mul] at key; exact key
/-- the low bytes -/
def lowB (k : Nat) : BitVec 64 := (1#64 <<< (8 * k)) - 1#64
theorem low_eq (k : Nat) : wrap64 (wrap64 (2 ^ (8 * k)) - 1) = I (lowB k) := by
  have key : wrap64 (wrap64 (I 1#64 * 2 ^ (8 * k)) - I 1#64) = I (lowB k) := by rw [shl, sub]; rfl
  rw [I_one, Int.one_mul] at key; exact key
/-- one byte -/
def byteB (v : BitVec 64) (k : Nat) : BitVec 64 := v.sshiftRight (8 * k) &&& 255#64
/-- the mask of an access -/
def maskB (o k : Nat) : BitVec 64 := ((1#64 <<< k) - 1#64) <<< o
theorem mask_eq (o k : Nat) : wrap64 (wrap64 (wrap64 (2 ^ k) - 1) * 2 ^ o) = I (maskB o k) := by
  have key : wrap64 (wrap64 (wrap64 (I 1#64 * 2 ^ k) - I 1#64) * 2 ^ o) = I (maskB o k) := by rw [shl, sub, shl]; rfl
  rw [I_one, Int.one_mul] at key; exact key
theorem mask_step : ∀ o, o < 8 → ∀ j, j < 8 → maskB o j ||| (1#64 <<< (o + j)) = maskB o (j + 1) := by decide

/-- where an access lies -/
def placeB (p : BitVec 64) (n : Int) : Int := I (p &&& 7#64) - I (p &&& 7#64) % n
theorem and7 (p : BitVec 64) : 0 ≤ I (p &&& 7#64) ∧ I (p &&& 7#64) ≤ 7 := by
  have h : (p &&& 7#64).toNat ≤ 7 := by rw [BitVec.toNat_and]; exact Nat.and_le_right
  unfold I; rw [BitVec.toInt_eq_toNat_of_lt (by omega)]; omega
theorem place_eq : ∀ p, p < 8 → ∀ n, n = 1 ∨ n = 2 ∨ n = 4 ∨ n = 8 → I (BitVec.ofNat 64 p &&& ~~~ (BitVec.ofNat 64 (n - 1))) = (p : Int) - (p : Int) % (n : Int) := by
  intro p hp n hn
  have : p = 0 ∨ p = 1 ∨ p = 2 ∨ p = 3 ∨ p = 4 ∨ p = 5 ∨ p = 6 ∨ p = 7 := by omega
  rcases hn with rfl | rfl | rfl | rfl <;> rcases this with rfl | rfl | rfl | rfl | rfl | rfl | rfl | rfl <;> decide
theorem of_I (q : BitVec 64) (h0 : 0 ≤ I q) : BitVec.ofNat 64 (I q).toNat = q := by
  have h : B ((I q).toNat : Int) = q := by rw [Int.toNat_of_nonneg h0, B_I]
  unfold B at h; rw [BitVec.ofInt_natCast] at h; exact h
theorem I_nat (n : Nat) (h : n < 9223372036854775808) : I (BitVec.ofNat 64 n) = (n : Int) := by
  unfold I; rw [BitVec.toInt_eq_toNat_of_lt (by rw [BitVec.toNat_ofNat]; omega), BitVec.toNat_ofNat]; omega
theorem place_and (p : BitVec 64) (n : Int) (hn : n = 1 ∨ n = 2 ∨ n = 4 ∨ n = 8) : bits .andNot .i64 (bits .and .i64 (I p) 7) (n - 1) = placeB p n := by
  obtain ⟨h0, h7⟩ := and7 p
  unfold placeB
  rw [← I_7, bits_and]
  generalize p &&& 7#64 = q at *
  have e := place_eq (I q).toNat (by omega) n.toNat (by omega)
  have hn' : n - 1 = I (BitVec.ofNat 64 (n.toNat - 1)) := by rw [I_nat _ (by omega)]; omega
  rw [hn', bits_andNot]
  rw [of_I q h0, Int.toNat_of_nonneg h0, Int.toNat_of_nonneg (by omega)] at e
  exact e
theorem place_ref (p : BitVec 64) (n : Int) (hn : 1 ≤ n) : wrap64 (bits .and .i64 (I p) 7 - (bits .and .i64 (I p) 7).tmod n) = placeB p n := by
  obtain ⟨h0, h7⟩ := and7 p
  unfold placeB
  rw [← I_7, bits_and, Int.tmod_eq_emod_of_nonneg h0]
  have h1 := Int.emod_nonneg (I (p &&& 7#64)) (b := n) (by omega)
  have h2 : I (p &&& 7#64) % n ≤ I (p &&& 7#64) := by
    have := Int.emod_add_mul_ediv (I (p &&& 7#64)) n
    have h3 := Int.mul_nonneg (show 0 ≤ n by omega) (Int.ediv_nonneg h0 (show 0 ≤ n by omega))
    omega
  exact wrap64_in _ (by omega)

/-- how many of the lowest bits are set -/
def countB (m : BitVec 64) : Nat → Nat
  | 0 => 0
  | k + 1 => countB m k + (m.getLsbD k).toNat
theorem count_le (m : BitVec 64) (k : Nat) : countB m k ≤ k := by
  induction k with
  | zero => exact Nat.le_refl _
  | succ k ih => unfold countB; have := (m.getLsbD k).toNat_le; omega
theorem bit_eq (m : BitVec 64) (k : Nat) (hk : k < 64) : bits .and .i64 (I m / 2 ^ k) 1 = ((m.getLsbD k).toNat : Int) := by
  rw [shr, ← I_one, bits_and]
  have h : m.sshiftRight k &&& 1#64 = BitVec.ofNat 64 (m.getLsbD k).toNat := by
    ext i hi
    rw [BitVec.getElem_and, BitVec.getElem_sshiftRight]
    cases i with
    | zero =>
      have e : m.getLsbD k = m[k] := by simp [hk]
      rw [e]; simp [hk]; cases m[k] <;> simp
    | succ i =>
      cases m.getLsbD k
      · simp
      · simp
  rw [h]
  cases m.getLsbD k <;> decide
theorem count_step (m : BitVec 64) (k : Nat) (hk : k < 8) : wrap64 ((countB m k : Int) + bits .and .i64 (I m / 2 ^ k) 1) = (countB m (k + 1) : Int) := by
  rw [bit_eq m k (by omega)]
  have h1 := count_le m k
  have h2 := (m.getLsbD k).toNat_le
  rw [wrap64_in _ (by omega)]; unfold countB; cases k <;> (push_cast; rfl)
end Go.Proofs.Ytlhompedcphnnaa
