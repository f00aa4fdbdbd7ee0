/- What the reference's Blend and Put, and Alu and Rmw of chapter 1 and of the reference, return, each for every input; and that the statements' own first check passes. -/
import Derived.Test.YtmgifncjfeoomaaBytes
namespace Go.Proofs.Ytmgifncjfeoomaa
open Go.RowKit

set_option maxHeartbeats 400000 in
theorem rblend_all (v x m : BitVec 64) (w : World) : Calls Try.prog 23 #[.int .i64 (I v), .int .i64 (I x), .int .i64 (I m)] w fun e w' => e = .returned (.int .i64 (I (blendB v x m))) ∧ w' = w := by
  go_enter Try.func23, Try.ntmps23
  go_wp2
  go_loop [7, 8] (fun t i => ∃ j : Nat, j ≤ 8 ∧ i = .int .i64 (j : Int) ∧ t = .int .i64 (I (blendTo v x m j))) (fun _ i => 8 - (intOf i).toNat)
  case atStart => exact ⟨0, Nat.zero_le _, rfl, by rw [blendTo_zero, I_zero]⟩
  case round =>
    obtain ⟨j, hj, rfl, rfl⟩ := hrel
    by_cases hlt : j < 8
    · have HS : Hid (blendTo v x m j ||| ((if m.getLsbD j = true then byteB x j else byteB v j) <<< (8 * j)) = blendTo v x m (j + 1)) := blendTo_step v x m j hlt
      by_cases hb : m.getLsbD j = true
      · have ht : (bits .and .i64 (I m / 2 ^ j) 1 == 1) = true := by rw [bit_eq m j (by omega), hb]; rfl
        have HB : Hid (m.getLsbD j = true) := hb
        clear hb
        go_wp2_with (go_at_call 32; refine (byte_any _ j _ (by omega)).mono ?_; rintro e w' ⟨rfl, rfl⟩)
        go_round
        case rel => exact ⟨j + 1, by omega, by go_num, by rw [shl, bits_or]; have := HS.out; rw [if_pos HB.out] at this; rw [this]⟩
        case measure => simp [intOf]; omega
      · have hb' : m.getLsbD j = false := by simpa using hb
        have ht : (bits .and .i64 (I m / 2 ^ j) 1 == 1) = false := by rw [bit_eq m j (by omega), hb']; rfl
        have HB : Hid (¬ m.getLsbD j = true) := hb
        clear hb hb'
        go_wp2_with (go_at_call 32; refine (byte_any _ j _ (by omega)).mono ?_; rintro e w' ⟨rfl, rfl⟩)
        go_round
        case rel => exact ⟨j + 1, by omega, by go_num, by rw [shl, bits_or]; have := HS.out; rw [if_neg HB.out] at this; rw [this]⟩
        case measure => simp [intOf]; omega
    · obtain rfl : j = 8 := by omega
      go_wp2
      go_ret
      exact ⟨ret_int (by rw [blendTo_all]), rfl⟩

theorem rput_no (v off n x : Int) (w : World) (h : fitsB off n = false) : Calls Try.prog 19 #[.int .i64 v, .int .i64 off, .int .i64 n, .int .i64 x] w fun e w' => e = .returned (.int .i64 v) ∧ w' = w := by
  have hm := maskR_no h
  go_enter Try.func19, Try.ntmps19
  go_wp2_with (go_at_call 11; refine (rmask_all _ _ _).mono ?_; rintro e w' ⟨rfl, rfl⟩)
  go_ret
  exact ⟨rfl, rfl⟩
theorem rblend_int (v x m : BitVec 64) (b : Int) (hb : b = I x) (w : World) : Calls Try.prog 23 #[.int .i64 (I v), .int .i64 b, .int .i64 (I m)] w fun e w' => e = .returned (.int .i64 (I (blendB v x m))) ∧ w' = w := by
  rw [hb]; exact rblend_all v x m w
theorem rput_yes (v : BitVec 64) (o k : Nat) (x : BitVec 64) (w : World) (hk : o + k ≤ 8) (h : fitsB o k = true) : Calls Try.prog 19 #[.int .i64 (I v), .int .i64 o, .int .i64 k, .int .i64 (I x)] w fun e w' => e = .returned (.int .i64 (I (putB v o k x))) ∧ w' = w := by
  have hm : (I (maskB o k) == 0) = false := by
    have := mask_ne o (by omega) k (by omega) (fits_one h) hk; simpa using this
  go_enter Try.func19, Try.ntmps19
  go_wp2_with (first | (go_at_call 11; refine (rmask_yes _ _ _ hk h).mono ?_; rintro e w' ⟨rfl, rfl⟩) | (go_at_call 23; refine (rblend_int v (x <<< (8 * o)) (maskB o k) _ (shl x (8 * o)) _).mono ?_; rintro e w' ⟨rfl, rfl⟩))
  go_ret
  exact ⟨ret_int (by rw [put_eq v o k x hk]), rfl⟩
theorem rput_all (v : BitVec 64) (off n : Int) (x : BitVec 64) (w : World) : Calls Try.prog 19 #[.int .i64 (I v), .int .i64 off, .int .i64 n, .int .i64 (I x)] w fun e w' => e = .returned (.int .i64 (I (putR v off n x))) ∧ w' = w := by
  cases h : fitsB off n
  · rw [putR_no v x h]; exact rput_no _ off n _ w h
  · obtain ⟨o, k, rfl, rfl, hk, hok, hm⟩ := fits_yes h
    rw [putR_yes v x h]; exact rput_yes v o k x w hok h

/-- what an OpAlu computes -/
def aluR (fn a b : Int) : Int := if fn = 1 then wrap64 (a + b) else if fn = 2 then wrap64 (a - b) else if fn = 3 then bits .xor .i64 a b else if fn = 4 then bits .and .i64 a b else if fn = 5 then bits .or .i64 a b else 0
theorem alu_any (fn a b : Int) (w : World) : Calls Try.prog 24 #[.int .i64 fn, .int .i64 a, .int .i64 b] w fun e w' => e = .returned (.int .i64 (aluR fn a b)) ∧ w' = w := by
  by_cases h1 : fn = 1
  · subst h1; go_enter Try.func24, Try.ntmps24; go_wp2; go_ret; exact ⟨rfl, rfl⟩
  by_cases h2 : fn = 2
  · subst h2; go_enter Try.func24, Try.ntmps24; go_wp2; go_ret; exact ⟨rfl, rfl⟩
  by_cases h3 : fn = 3
  · subst h3; go_enter Try.func24, Try.ntmps24; go_wp2; go_ret; exact ⟨rfl, rfl⟩
  by_cases h4 : fn = 4
  · subst h4; go_enter Try.func24, Try.ntmps24; go_wp2; go_ret; exact ⟨rfl, rfl⟩
  by_cases h5 : fn = 5
  · subst h5; go_enter Try.func24, Try.ntmps24; go_wp2; go_ret; exact ⟨rfl, rfl⟩
  have e : aluR fn a b = 0 := by unfold aluR; simp [h1, h2, h3, h4, h5]
  have e1 : (fn == 1) = false := by simpa using h1
  have e2 : (fn == 2) = false := by simpa using h2
  have e3 : (fn == 3) = false := by simpa using h3
  have e4 : (fn == 4) = false := by simpa using h4
  have e5 : (fn == 5) = false := by simpa using h5
  rw [e]; clear e h1 h2 h3 h4 h5
  go_enter Try.func24, Try.ntmps24; go_wp2; go_ret; exact ⟨rfl, rfl⟩
theorem ralu_any (fn a b : Int) (w : World) : Calls Try.prog 25 #[.int .i64 fn, .int .i64 a, .int .i64 b] w fun e w' => e = .returned (.int .i64 (aluR fn a b)) ∧ w' = w := by
  by_cases h1 : fn = 1
  · subst h1; go_enter Try.func25, Try.ntmps25; go_wp2; go_ret; exact ⟨rfl, rfl⟩
  by_cases h2 : fn = 2
  · subst h2; go_enter Try.func25, Try.ntmps25; go_wp2; go_ret; exact ⟨rfl, rfl⟩
  by_cases h3 : fn = 3
  · subst h3; go_enter Try.func25, Try.ntmps25; go_wp2; go_ret; exact ⟨rfl, rfl⟩
  by_cases h4 : fn = 4
  · subst h4; go_enter Try.func25, Try.ntmps25; go_wp2; go_ret; exact ⟨rfl, rfl⟩
  by_cases h5 : fn = 5
  · subst h5; go_enter Try.func25, Try.ntmps25; go_wp2; go_ret; exact ⟨rfl, rfl⟩
  have e : aluR fn a b = 0 := by unfold aluR; simp [h1, h2, h3, h4, h5]
  have e1 : (fn == 1) = false := by simpa using h1
  have e2 : (fn == 2) = false := by simpa using h2
  have e3 : (fn == 3) = false := by simpa using h3
  have e4 : (fn == 4) = false := by simpa using h4
  have e5 : (fn == 5) = false := by simpa using h5
  rw [e]; clear e h1 h2 h3 h4 h5
  go_enter Try.func25, Try.ntmps25; go_wp2; go_ret; exact ⟨rfl, rfl⟩

theorem get_int (v : BitVec 64) (a off n : Int) (ha : a = I v) (w : World) : Calls Try.prog 16 #[.int .i64 a, .int .i64 off, .int .i64 n] w fun e w' => e = .returned (.int .i64 (I (getR v off n))) ∧ ∃ q, w' = w.drewN q := by
  rw [ha]; exact get_all v off n w
theorem rget_int (v : BitVec 64) (a off n : Int) (ha : a = I v) (w : World) : Calls Try.prog 17 #[.int .i64 a, .int .i64 off, .int .i64 n] w fun e w' => e = .returned (.int .i64 (I (getR v off n))) ∧ w' = w := by
  rw [ha]; exact rget_all v off n w
theorem put_int (v x : BitVec 64) (a off n b : Int) (ha : a = I v) (hb : b = I x) (w : World) : Calls Try.prog 18 #[.int .i64 a, .int .i64 off, .int .i64 n, .int .i64 b] w fun e w' => e = .returned (.int .i64 (I (putR v off n x))) ∧ ∃ q, w' = w.drewN q := by
  rw [ha, hb]; exact put_all v off n x w
/-- what an OpRmw writes -/
def rmwR (fn : Int) (old a : BitVec 64) (n : Int) : BitVec 64 := if fn = 6 then getR a 0 n else if fn = 1 then getR (old + a) 0 n else 0#64
theorem rmw_any (fn : Int) (old a : BitVec 64) (n : Int) (w : World) : Calls Try.prog 26 #[.int .i64 fn, .int .i64 (I old), .int .i64 (I a), .int .i64 n] w fun e w' => e = .returned (.int .i64 (I (rmwR fn old a n))) ∧ ∃ q, w' = w.drewN q := by
  by_cases h6 : fn = 6
  · subst h6
    go_enter Try.func26, Try.ntmps26
    go_wp2_with (go_at_call 16; refine (get_int a _ _ _ rfl _).mono ?_; rintro e w' ⟨rfl, q, rfl⟩)
    go_ret
    exact ⟨rfl, _, rfl⟩
  by_cases h1 : fn = 1
  · subst h1
    go_enter Try.func26, Try.ntmps26
    go_wp2_with (go_at_call 16; refine (get_int (old + a) _ _ _ (add old a) _).mono ?_; rintro e w' ⟨rfl, q, rfl⟩)
    go_ret
    exact ⟨rfl, _, rfl⟩
  have e : I (rmwR fn old a n) = 0 := by unfold rmwR; simp [h1, h6, I_zero]
  have e1 : (fn == 1) = false := by simpa using h1
  have e6 : (fn == 6) = false := by simpa using h6
  rw [e]; clear e h1 h6
  go_enter Try.func26, Try.ntmps26; go_wp2; go_ret; exact ⟨rfl, 0, rfl⟩
theorem rrmw_any (fn : Int) (old a : BitVec 64) (n : Int) (w : World) : Calls Try.prog 27 #[.int .i64 fn, .int .i64 (I old), .int .i64 (I a), .int .i64 n] w fun e w' => e = .returned (.int .i64 (I (rmwR fn old a n))) ∧ w' = w := by
  by_cases h6 : fn = 6
  · subst h6
    go_enter Try.func27, Try.ntmps27
    go_wp2_with (go_at_call 17; refine (rget_int a _ _ _ rfl _).mono ?_; rintro e w' ⟨rfl, rfl⟩)
    go_ret
    exact ⟨rfl, rfl⟩
  by_cases h1 : fn = 1
  · subst h1
    go_enter Try.func27, Try.ntmps27
    go_wp2_with (go_at_call 17; refine (rget_int (old + a) _ _ _ (add old a) _).mono ?_; rintro e w' ⟨rfl, rfl⟩)
    go_ret
    exact ⟨rfl, rfl⟩
  have e : I (rmwR fn old a n) = 0 := by unfold rmwR; simp [h1, h6, I_zero]
  have e1 : (fn == 1) = false := by simpa using h1
  have e6 : (fn == 6) = false := by simpa using h6
  rw [e]; clear e h1 h6
  go_enter Try.func27, Try.ntmps27; go_wp2; go_ret; exact ⟨rfl, rfl⟩

theorem able_any (w : World) : Calls Try.prog 9 #[] w fun e w' => e = .returned (.bool true) ∧ ∃ q, w' = w.drewN q := by
  have a1 : maskR 4 2 = 48 := by decide
  have a2 : I (getR 4660#64 1 1) = 18 := by decide
  have a3 : I (putR 0#64 2 2 74565#64) = 591724544 := by decide
  have a4 : aluR 2 1 2 = -1 := by unfold aluR; simp only [show ¬ (2 : Int) = 1 by decide, if_true, if_false]; unfold wrap64; decide
  go_enter Try.func9, Try.ntmps9
  go_wp2_with (first | (go_at_call 10; refine (mask_all _ _ _).mono ?_; rintro e w' ⟨rfl, rfl⟩) | (go_at_call 16; refine (get_int 4660#64 _ _ _ (by decide) _).mono ?_; rintro e w' ⟨rfl, q1, rfl⟩) | (go_at_call 18; refine (put_int 0#64 74565#64 _ _ _ _ (by decide) (by decide) _).mono ?_; rintro e w' ⟨rfl, q2, rfl⟩) | (go_at_call 24; refine (alu_any _ _ _ _).mono ?_; rintro e w' ⟨rfl, rfl⟩))
  go_ret
  exact ⟨rfl, _, rfl⟩
end Go.Proofs.Ytmgifncjfeoomaa
