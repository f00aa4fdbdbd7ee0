/- What the small functions of chapter 1 return, each for every input: isSize, size, fits, low, choose, Byte, Mask, Place, Count. -/
import Derived.Test.YtlhompedcphnnaaRows
import Derived.Test.YtlhompedcphnnaaBMath
namespace Go.Proofs.Ytlhompedcphnnaa
open Go.RowKit

theorem ret_int {k : IntKind} {a b : Int} (h : a = b) : Ending.returned (.int k a) = .returned (.int k b) := by rw [h]
theorem ret_bool {a b : Bool} (h : a = b) : Ending.returned (.bool a) = .returned (.bool b) := by rw [h]

def sizeB (n : Int) : Bool := decide (n = 1 ∨ n = 2 ∨ n = 4 ∨ n = 8)
def fitsB (off n : Int) : Bool := decide ((n = 1 ∨ n = 2 ∨ n = 4 ∨ n = 8) ∧ 0 ≤ off ∧ off ≤ 8 - n ∧ off % n = 0)

theorem isSize_any (n : Int) (w : World) : Calls Try.prog 65 #[.int .i64 n] w fun e w' => e = .returned (.bool (sizeB n)) ∧ w' = w := by
  by_cases h1 : n = 1
  · subst h1; go_enter Try.func65, Try.ntmps65; go_wp2; go_ret; exact ⟨rfl, rfl⟩
  by_cases h2 : n = 2
  · subst h2; go_enter Try.func65, Try.ntmps65; go_wp2; go_ret; exact ⟨rfl, rfl⟩
  by_cases h4 : n = 4
  · subst h4; go_enter Try.func65, Try.ntmps65; go_wp2; go_ret; exact ⟨rfl, rfl⟩
  by_cases h8 : n = 8
  · subst h8; go_enter Try.func65, Try.ntmps65; go_wp2; go_ret; exact ⟨rfl, rfl⟩
  have hb : sizeB n = false := by unfold sizeB; simp [h1, h2, h4, h8]
  have e1 : (n == 1) = false := by simpa using h1
  have e2 : (n == 2) = false := by simpa using h2
  have e4 : (n == 4) = false := by simpa using h4
  have e8 : (n == 8) = false := by simpa using h8
  rw [hb]; clear hb h1 h2 h4 h8
  go_enter Try.func65, Try.ntmps65
  go_wp2
  go_ret
  exact ⟨rfl, rfl⟩

theorem size_any (n : Int) (w : World) : Calls Try.prog 64 #[.int .i64 n] w fun e w' => e = .returned (.bool (sizeB n)) ∧ w' = w := by
  by_cases h1 : n = 1
  · subst h1; go_enter Try.func64, Try.ntmps64; go_wp2; go_ret; exact ⟨rfl, rfl⟩
  by_cases h2 : n = 2
  · subst h2; go_enter Try.func64, Try.ntmps64; go_wp2; go_ret; exact ⟨rfl, rfl⟩
  by_cases h4 : n = 4
  · subst h4; go_enter Try.func64, Try.ntmps64; go_wp2; go_ret; exact ⟨rfl, rfl⟩
  by_cases h8 : n = 8
  · subst h8; go_enter Try.func64, Try.ntmps64; go_wp2; go_ret; exact ⟨rfl, rfl⟩
  have hb : sizeB n = false := by unfold sizeB; simp [h1, h2, h4, h8]
  have e1 : (n == 1) = false := by simpa using h1
  have e2 : (n == 2) = false := by simpa using h2
  have e4 : (n == 4) = false := by simpa using h4
  have e8 : (n == 8) = false := by simpa using h8
  rw [hb]; clear hb h1 h2 h4 h8
  go_enter Try.func64, Try.ntmps64
  go_wp2
  go_ret
  exact ⟨rfl, rfl⟩

theorem fits_any (off n : Int) (w : World) : Calls Try.prog 63 #[.int .i64 off, .int .i64 n] w fun e w' => e = .returned (.bool (fitsB off n)) ∧ w' = w := by
  by_cases hs : n = 1 ∨ n = 2 ∨ n = 4 ∨ n = 8
  · have hz : sizeB n = true := by unfold sizeB; simp [hs]
    have hn1 : 1 ≤ n := by omega
    have hn8 : n ≤ 8 := by omega
    by_cases h0 : 0 ≤ off
    · by_cases hl : off ≤ 8 - n
      · by_cases hm : off % n = 0
        · have hb : fitsB off n = true := by unfold fitsB; simp [hs, h0, hl, hm]
          rw [hb]; clear hb
          have e : (off % n == 0) = true := by simpa using hm
          clear hs hm
          go_enter Try.func63, Try.ntmps63
          go_wp2_with (go_at_call 65; refine (isSize_any _ _).mono ?_; rintro e w' ⟨rfl, rfl⟩)
          go_ret
          exact ⟨rfl, rfl⟩
        · have hb : fitsB off n = false := by unfold fitsB; simp [hm]
          rw [hb]; clear hb
          have e : (off % n == 0) = false := by simpa using hm
          clear hs hm
          go_enter Try.func63, Try.ntmps63
          go_wp2_with (go_at_call 65; refine (isSize_any _ _).mono ?_; rintro e w' ⟨rfl, rfl⟩)
          go_ret
          exact ⟨rfl, rfl⟩
      · have hb : fitsB off n = false := by unfold fitsB; simp [hl]
        rw [hb]; clear hb hs
        have hl' : 8 - n < off := by omega
        clear hl
        go_enter Try.func63, Try.ntmps63
        go_wp2_with (go_at_call 65; refine (isSize_any _ _).mono ?_; rintro e w' ⟨rfl, rfl⟩)
        go_ret
        exact ⟨rfl, rfl⟩
    · have hb : fitsB off n = false := by unfold fitsB; simp [h0]
      rw [hb]; clear hb hs
      have h0' : off < 0 := by omega
      clear h0
      go_enter Try.func63, Try.ntmps63
      go_wp2_with (go_at_call 65; refine (isSize_any _ _).mono ?_; rintro e w' ⟨rfl, rfl⟩)
      go_ret
      exact ⟨rfl, rfl⟩
  · have hz : sizeB n = false := by unfold sizeB; simp only [hs]; rfl
    have hb : fitsB off n = false := by unfold fitsB; simp [hs]
    rw [hb]; clear hb hs
    go_enter Try.func63, Try.ntmps63
    go_wp2_with (go_at_call 65; refine (isSize_any _ _).mono ?_; rintro e w' ⟨rfl, rfl⟩)
    go_ret
    exact ⟨rfl, rfl⟩

/-- an offset and a size that fit, as natural numbers -/
theorem fits_yes {off n : Int} (h : fitsB off n = true) : ∃ o k : Nat, off = o ∧ n = k ∧ (k = 1 ∨ k = 2 ∨ k = 4 ∨ k = 8) ∧ o + k ≤ 8 ∧ o % k = 0 := by
  unfold fitsB at h
  have h := of_decide_eq_true h
  obtain ⟨hs, h0, hl, hm⟩ := h
  refine ⟨off.toNat, n.toNat, by omega, by omega, by omega, by omega, ?_⟩
  rcases hs with rfl | rfl | rfl | rfl
  · simp; omega
  · simp; omega
  · simp; omega
  · simp; omega

theorem low_any (k : Nat) (w : World) (hk : k ≤ 8) : Calls Try.prog 66 #[.int .i64 k] w fun e w' => e = .returned (.int .i64 (I (lowB k))) ∧ w' = w := by
  go_enter Try.func66, Try.ntmps66
  go_wp2
  go_ret
  exact ⟨ret_int (low_eq k), rfl⟩

theorem byte_any (v : BitVec 64) (k : Nat) (w : World) (hk : k < 8) : Calls Try.prog 62 #[.int .i64 (I v), .int .i64 k] w fun e w' => e = .returned (.int .i64 (I (byteB v k))) ∧ w' = w := by
  go_enter Try.func62, Try.ntmps62
  go_wp2
  go_ret
  exact ⟨ret_int (by rw [shr, ← I_255, bits_and]; rfl), rfl⟩

theorem mask_no (off n : Int) (w : World) (h : fitsB off n = false) : Calls Try.prog 55 #[.int .i64 off, .int .i64 n] w fun e w' => e = .returned (.int .i64 0) ∧ w' = w := by
  go_enter Try.func55, Try.ntmps55
  go_wp2_with (go_at_call 63; refine (fits_any _ _ _).mono ?_; rintro e w' ⟨rfl, rfl⟩)
  go_ret
  exact ⟨rfl, rfl⟩
theorem mask_yes (o k : Nat) (w : World) (hk : o + k ≤ 8) (h : fitsB o k = true) : Calls Try.prog 55 #[.int .i64 o, .int .i64 k] w fun e w' => e = .returned (.int .i64 (I (maskB o k))) ∧ w' = w := by
  go_enter Try.func55, Try.ntmps55
  go_wp2_with (go_at_call 63; refine (fits_any _ _ _).mono ?_; rintro e w' ⟨rfl, rfl⟩)
  go_ret
  exact ⟨ret_int (mask_eq o k), rfl⟩
theorem fits_sizeB {off n : Int} (h : fitsB off n = true) : sizeB n = true := by
  unfold fitsB at h; unfold sizeB; simp at h ⊢; exact h.1
theorem rmask_no (off n : Int) (w : World) (h : fitsB off n = false) : Calls Try.prog 56 #[.int .i64 off, .int .i64 n] w fun e w' => e = .returned (.int .i64 0) ∧ w' = w := by
  by_cases hs : n = 1 ∨ n = 2 ∨ n = 4 ∨ n = 8
  · have hz : sizeB n = true := by unfold sizeB; simp [hs]
    have hn1 : 1 ≤ n := by omega
    have hn8 : n ≤ 8 := by omega
    by_cases h0 : off < 0
    · clear h hs
      go_enter Try.func56, Try.ntmps56
      go_wp2_with (go_at_call 64; refine (size_any _ _).mono ?_; rintro e w' ⟨rfl, rfl⟩)
      go_ret
      exact ⟨rfl, rfl⟩
    have h0' : 0 ≤ off := by omega
    by_cases hl : 8 - n < off
    · clear h hs h0
      go_enter Try.func56, Try.ntmps56
      go_wp2_with (go_at_call 64; refine (size_any _ _).mono ?_; rintro e w' ⟨rfl, rfl⟩)
      go_ret
      exact ⟨rfl, rfl⟩
    have hl' : off ≤ 8 - n := by omega
    have hm : (off % n != 0) = true := by
      unfold fitsB at h; simp [hs, h0', hl'] at h; simpa using h
    clear h hs h0 hl
    go_enter Try.func56, Try.ntmps56
    go_wp2_with (go_at_call 64; refine (size_any _ _).mono ?_; rintro e w' ⟨rfl, rfl⟩)
    go_ret
    exact ⟨rfl, rfl⟩
  · have hz : sizeB n = false := by unfold sizeB; simp only [hs]; rfl
    clear h hs
    go_enter Try.func56, Try.ntmps56
    go_wp2_with (go_at_call 64; refine (size_any _ _).mono ?_; rintro e w' ⟨rfl, rfl⟩)
    go_ret
    exact ⟨rfl, rfl⟩
theorem rmask_yes (o k : Nat) (w : World) (hk : o + k ≤ 8) (h : fitsB o k = true) : Calls Try.prog 56 #[.int .i64 o, .int .i64 k] w fun e w' => e = .returned (.int .i64 (I (maskB o k))) ∧ w' = w := by
  have hz := fits_sizeB h
  have hm : (((o : Int) % (k : Int)) != 0) = false := by
    unfold fitsB at h; have h := of_decide_eq_true h; simp [h.2.2.2]
  have hk1 : 1 ≤ k := by
    unfold fitsB at h; have h := of_decide_eq_true h; omega
  clear h
  go_enter Try.func56, Try.ntmps56
  go_wp2_with (go_at_call 64; refine (size_any _ _).mono ?_; rintro e w' ⟨rfl, rfl⟩)
  go_loop [5, 6] (fun m i => ∃ j : Nat, j ≤ k ∧ i = .int .i64 ((o + j : Nat) : Int) ∧ m = .int .i64 (I (maskB o j))) (fun _ i => o + k - (intOf i).toNat)
  case atStart => exact ⟨0, Nat.zero_le _, rfl, by rw [show maskB o 0 = 0#64 by simp [maskB], I_zero]⟩
  case round =>
    obtain ⟨j, hj, rfl, rfl⟩ := hrel
    by_cases hlt : j < k
    · have HS : Hid (maskB o j ||| (1#64 <<< (o + j)) = maskB o (j + 1)) := mask_step o (by omega) j (by omega)
      go_wp2
      go_round
      case rel => exact ⟨j + 1, by omega, by go_num, by rw [pow_I, bits_or, HS.out]⟩
      case measure => simp [intOf]; omega
    · obtain rfl : j = k := by omega
      go_wp2
      go_ret
      exact ⟨rfl, rfl⟩

theorem place_no (off i n : Int) (w : World) (h : sizeB n = false) : Calls Try.prog 57 #[.int .i64 off, .int .i64 i, .int .i64 n] w fun e w' => e = .returned (.int .i64 (-1)) ∧ w' = w := by
  go_enter Try.func57, Try.ntmps57
  go_wp2_with (go_at_call 65; refine (isSize_any _ _).mono ?_; rintro e w' ⟨rfl, rfl⟩)
  go_ret
  exact ⟨rfl, rfl⟩
theorem rplace_no (off i n : Int) (w : World) (h : sizeB n = false) : Calls Try.prog 68 #[.int .i64 off, .int .i64 i, .int .i64 n] w fun e w' => e = .returned (.int .i64 (-1)) ∧ w' = w := by
  go_enter Try.func68, Try.ntmps68
  go_wp2_with (go_at_call 64; refine (size_any _ _).mono ?_; rintro e w' ⟨rfl, rfl⟩)
  go_ret
  exact ⟨rfl, rfl⟩
theorem place_yes (off i : BitVec 64) (n : Int) (w : World) (h : sizeB n = true) : Calls Try.prog 57 #[.int .i64 (I off), .int .i64 (I i), .int .i64 n] w fun e w' => e = .returned (.int .i64 (placeB (off + i) n)) ∧ w' = w := by
  have hn : n = 1 ∨ n = 2 ∨ n = 4 ∨ n = 8 := by unfold sizeB at h; exact of_decide_eq_true h
  have HN : Hid (n = 1 ∨ n = 2 ∨ n = 4 ∨ n = 8) := hn
  have h1 : 1 ≤ n := by omega
  have h8 : n ≤ 8 := by omega
  clear hn
  go_enter Try.func57, Try.ntmps57
  go_wp2_with (go_at_call 65; refine (isSize_any _ _).mono ?_; rintro e w' ⟨rfl, rfl⟩)
  go_ret
  exact ⟨ret_int (by rw [add]; exact place_and _ _ HN.out), rfl⟩
theorem rplace_yes (off i : BitVec 64) (n : Int) (w : World) (h : sizeB n = true) : Calls Try.prog 68 #[.int .i64 (I off), .int .i64 (I i), .int .i64 n] w fun e w' => e = .returned (.int .i64 (placeB (off + i) n)) ∧ w' = w := by
  have hn : n = 1 ∨ n = 2 ∨ n = 4 ∨ n = 8 := by unfold sizeB at h; exact of_decide_eq_true h
  have h1 : 1 ≤ n := by omega
  have h8 : n ≤ 8 := by omega
  clear hn
  go_enter Try.func68, Try.ntmps68
  go_wp2_with (go_at_call 64; refine (size_any _ _).mono ?_; rintro e w' ⟨rfl, rfl⟩)
  go_ret
  exact ⟨ret_int (by rw [add]; exact place_ref _ _ h1), rfl⟩

end Go.Proofs.Ytlhompedcphnnaa
