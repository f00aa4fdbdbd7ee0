/- What Mask, Place, Get, Put, Alu, Rmw of chapter 1 return, and the reference's, each for every input; and that the statements' own first check passes. -/
import Derived.Test.YtlhompedcphnnaaBBase
import Derived.Test.YtlhompedcphnnaaBMatb
import Derived.Deep.QuietTactic
import Derived.BigQuiet
namespace Go.Proofs.Ytlhompedcphnnaa
open Go.RowKit

def maskR (off n : Int) : Int := if fitsB off n = true then I (maskB off.toNat n.toNat) else 0
theorem maskR_yes {o k : Nat} (h : fitsB o k = true) : maskR o k = I (maskB o k) := by unfold maskR; rw [if_pos h]; simp
theorem maskR_no {off n : Int} (h : fitsB off n = false) : maskR off n = 0 := by unfold maskR; rw [h]; simp
theorem mask_all (off n : Int) (w : World) : Calls Try.prog 55 #[.int .i64 off, .int .i64 n] w fun e w' => e = .returned (.int .i64 (maskR off n)) ∧ w' = w := by
  cases h : fitsB off n
  · rw [maskR_no h]; exact mask_no off n w h
  · obtain ⟨o, k, rfl, rfl, hk, hok, hm⟩ := fits_yes h
    rw [maskR_yes h]; exact mask_yes o k w hok h
theorem rmask_all (off n : Int) (w : World) : Calls Try.prog 56 #[.int .i64 off, .int .i64 n] w fun e w' => e = .returned (.int .i64 (maskR off n)) ∧ w' = w := by
  cases h : fitsB off n
  · rw [maskR_no h]; exact rmask_no off n w h
  · obtain ⟨o, k, rfl, rfl, hk, hok, hm⟩ := fits_yes h
    rw [maskR_yes h]; exact rmask_yes o k w hok h
theorem mask_ne : ∀ o, o < 9 → ∀ k, k < 9 → 1 ≤ k → o + k ≤ 8 → I (maskB o k) ≠ 0 := by decide
theorem fits_one {o k : Nat} (h : fitsB o k = true) : 1 ≤ k := by
  unfold fitsB at h; have h := of_decide_eq_true h; omega

def placeR (off i : BitVec 64) (n : Int) : Int := if sizeB n = true then placeB (off + i) n else -1
theorem place_all (off i : BitVec 64) (n : Int) (w : World) : Calls Try.prog 57 #[.int .i64 (I off), .int .i64 (I i), .int .i64 n] w fun e w' => e = .returned (.int .i64 (placeR off i n)) ∧ w' = w := by
  cases h : sizeB n
  · have e : placeR off i n = -1 := by unfold placeR; simp [h]
    rw [e]; exact place_no _ _ n w h
  · have e : placeR off i n = placeB (off + i) n := by unfold placeR; simp [h]
    rw [e]; exact place_yes off i n w h
theorem rplace_all (off i : BitVec 64) (n : Int) (w : World) : Calls Try.prog 68 #[.int .i64 (I off), .int .i64 (I i), .int .i64 n] w fun e w' => e = .returned (.int .i64 (placeR off i n)) ∧ w' = w := by
  cases h : sizeB n
  · have e : placeR off i n = -1 := by unfold placeR; simp [h]
    rw [e]; exact rplace_no _ _ n w h
  · have e : placeR off i n = placeB (off + i) n := by unfold placeR; simp [h]
    rw [e]; exact rplace_yes off i n w h

theorem get_no (v off n : Int) (w : World) (h : fitsB off n = false) : Calls Try.prog 58 #[.int .i64 v, .int .i64 off, .int .i64 n] w fun e w' => e = .returned (.int .i64 0) ∧ ∃ q, w' = w.drewN q := by
  go_enter Try.func58, Try.ntmps58
  go_wp2_with (go_at_call 63; refine (fits_any _ _ _).mono ?_; rintro e w' ⟨rfl, rfl⟩)
  go_ret
  exact ⟨rfl, 0, rfl⟩
theorem get_yes (v : BitVec 64) (o k : Nat) (w : World) (hk : o + k ≤ 8) (h : fitsB o k = true) : Calls Try.prog 58 #[.int .i64 (I v), .int .i64 o, .int .i64 k] w fun e w' => e = .returned (.int .i64 (I (getB v o k))) ∧ ∃ q, w' = w.drewN q := by
  go_enter Try.func58, Try.ntmps58
  go_wp2_with (go_at_call 63; refine (fits_any _ _ _).mono ?_; rintro e w' ⟨rfl, rfl⟩)
  go_quiet ((go_at_call 66; exact Calls.quiet_of_same (low_any _ _ (by omega))))
  go_wp2
  go_ret
  exact ⟨ret_int (by rw [shr, bits_and, get_eq v o k hk]), _, rfl⟩
def getR (v : BitVec 64) (off n : Int) : BitVec 64 := if fitsB off n = true then getB v off.toNat n.toNat else 0#64
theorem getR_yes (v : BitVec 64) {o k : Nat} (h : fitsB o k = true) : getR v o k = getB v o k := by unfold getR; rw [if_pos h]; simp
theorem getR_no (v : BitVec 64) {off n : Int} (h : fitsB off n = false) : getR v off n = 0#64 := by unfold getR; rw [h]; simp
theorem get_all (v : BitVec 64) (off n : Int) (w : World) : Calls Try.prog 58 #[.int .i64 (I v), .int .i64 off, .int .i64 n] w fun e w' => e = .returned (.int .i64 (I (getR v off n))) ∧ ∃ q, w' = w.drewN q := by
  cases h : fitsB off n
  · rw [getR_no v h, I_zero]; exact get_no _ off n w h
  · obtain ⟨o, k, rfl, rfl, hk, hok, hm⟩ := fits_yes h
    rw [getR_yes v h]; exact get_yes v o k w hok h
theorem rget_no (v off n : Int) (w : World) (h : fitsB off n = false) : Calls Try.prog 52 #[.int .i64 v, .int .i64 off, .int .i64 n] w fun e w' => e = .returned (.int .i64 0) ∧ w' = w := by
  have hm := maskR_no h
  go_enter Try.func52, Try.ntmps52
  go_wp2_with (go_at_call 56; refine (rmask_all _ _ _).mono ?_; rintro e w' ⟨rfl, rfl⟩)
  go_ret
  exact ⟨rfl, rfl⟩
theorem rget_yes (v : BitVec 64) (o k : Nat) (w : World) (hk : o + k ≤ 8) (h : fitsB o k = true) : Calls Try.prog 52 #[.int .i64 (I v), .int .i64 o, .int .i64 k] w fun e w' => e = .returned (.int .i64 (I (getB v o k))) ∧ w' = w := by
  have hm : (maskR o k == 0) = false := by
    rw [maskR_yes h]; have := mask_ne o (by omega) k (by omega) (fits_one h) hk; simpa using this
  clear h
  go_enter Try.func52, Try.ntmps52
  go_wp2_with (go_at_call 56; refine (rmask_all _ _ _).mono ?_; rintro e w' ⟨rfl, rfl⟩)
  go_loop [7, 8] (fun m i => ∃ j : Nat, j ≤ k ∧ i = .int .i64 (j : Int) ∧ m = .int .i64 (I (getB v o j))) (fun _ i => k - (intOf i).toNat)
  case atStart => exact ⟨0, Nat.zero_le _, rfl, by rw [get_zero, I_zero]⟩
  case round =>
    obtain ⟨j, hj, rfl, rfl⟩ := hrel
    by_cases hlt : j < k
    · go_wp2_with (go_at_call 62; refine (byte_any _ (o + j) _ (by omega)).mono ?_; rintro e w' ⟨rfl, rfl⟩)
      go_round
      case rel => exact ⟨j + 1, by omega, by go_num, by rw [shl, bits_or, get_step v o j (by omega)]⟩
      case measure => simp [intOf]; omega
    · obtain rfl : j = k := by omega
      go_wp2
      go_ret
      exact ⟨rfl, rfl⟩
theorem rget_all (v : BitVec 64) (off n : Int) (w : World) : Calls Try.prog 52 #[.int .i64 (I v), .int .i64 off, .int .i64 n] w fun e w' => e = .returned (.int .i64 (I (getR v off n))) ∧ w' = w := by
  cases h : fitsB off n
  · rw [getR_no v h, I_zero]; exact rget_no _ off n w h
  · obtain ⟨o, k, rfl, rfl, hk, hok, hm⟩ := fits_yes h
    rw [getR_yes v h]; exact rget_yes v o k w hok h

def putR (v : BitVec 64) (off n : Int) (x : BitVec 64) : BitVec 64 := if fitsB off n = true then putB v off.toNat n.toNat x else v
theorem putR_yes (v x : BitVec 64) {o k : Nat} (h : fitsB o k = true) : putR v o k x = putB v o k x := by unfold putR; rw [if_pos h]; simp
theorem putR_no (v x : BitVec 64) {off n : Int} (h : fitsB off n = false) : putR v off n x = v := by unfold putR; rw [h]; simp
end Go.Proofs.Ytlhompedcphnnaa
