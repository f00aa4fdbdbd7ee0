/- What the small functions of chapter 2 return, each for every input: isEvent, only, in, First. -/
import Derived.Test.YtlbccddhcbcpoaaRows
import Derived.Test.YtlbccddhcbcpoaaMath
namespace Go.Proofs.Ytlbccddhcbcpoaa
open Go.RowKit

theorem ret_int {k : IntKind} {a b : Int} (h : a = b) : Ending.returned (.int k a) = .returned (.int k b) := by rw [h]
theorem ret_bool {a b : Bool} (h : a = b) : Ending.returned (.bool a) = .returned (.bool b) := by rw [h]

/-- is a number an event? -/
def evB (n : Int) : Bool := decide (0 ≤ n ∧ n < 32)
theorem isEvent_any (n : Int) (w : World) : Calls Try.prog 47 #[.int .i64 n] w fun e w' => e = .returned (.bool (evB n)) ∧ w' = w := by
  by_cases h0 : 0 ≤ n
  · by_cases h1 : n < 32
    · have hb : evB n = true := by unfold evB; simp [h0, h1]
      rw [hb]; clear hb
      go_enter Try.func47, Try.ntmps47
      go_wp2
      go_ret
      exact ⟨rfl, rfl⟩
    · have hb : evB n = false := by unfold evB; simp [h1]
      rw [hb]; clear hb
      go_enter Try.func47, Try.ntmps47
      go_wp2
      go_ret
      exact ⟨rfl, rfl⟩
  · have hb : evB n = false := by unfold evB; simp [h0]
    rw [hb]; clear hb
    go_enter Try.func47, Try.ntmps47
    go_wp2
    go_ret
    exact ⟨rfl, rfl⟩

theorem pow_one (e : Nat) : (2 : Int) ^ e % 4294967296 = U (one e) := by
  have h := shl_one e
  rw [← h]; simp [IntKind.wrap, IntKind.bits, IntKind.signed]
theorem only_any (e : Nat) (he : e < 32) (w : World) : Calls Try.prog 48 #[.int .i64 e] w fun x w' => x = .returned (.int .u32 (U (one e))) ∧ w' = w := by
  go_enter Try.func48, Try.ntmps48
  go_wp2
  go_ret
  exact ⟨ret_int (pow_one e), rfl⟩

theorem in_test (s : St) (e : Nat) : (bits BinOp.and IntKind.u32 (U s / 2 ^ e) 1 == 1) = inn s e := by
  have h : bits BinOp.and IntKind.u32 (U s / 2 ^ e) 1 = if inn s e then 1 else 0 := by
    have h1 : bits BinOp.and IntKind.u32 (U s / 2 ^ e) (U 1#32) = if inn s e then 1 else 0 := by
      rw [shr_U, bits_and, and_one]; unfold inn; simp
    rw [U_one] at h1; exact h1
  rw [h]; cases inn s e <;> rfl
theorem in_any (s : St) (e : Nat) (he : e < 32) (w : World) : Calls Try.prog 49 #[.int .u32 (U s), .int .i64 e] w fun x w' => x = .returned (.bool (inn s e)) ∧ w' = w := by
  go_enter Try.func49, Try.ntmps49
  go_wp2
  go_ret
  exact ⟨ret_bool (in_test s e), rfl⟩

/-- nothing that was there has turned -/
abbrev Grow (w w' : World) : Prop := Below w.heap.size w w'

/-- what a step leads to: the rows of the first n events of a set, joined -/
def aft (s : St) (r : Rl) : Nat → St
  | 0 => 0#32
  | n + 1 => if inn s n then aft s r n ||| row r n else aft s r n
theorem aft_yes {s : St} {r : Rl} {k : Nat} (h : inn s k = true) : aft s r (k + 1) = aft s r k ||| row r k := by simp [aft, h]
theorem aft_no {s : St} {r : Rl} {k : Nat} (h : inn s k = false) : aft s r (k + 1) = aft s r k := by simp [aft, h]
theorem aft_zero (s : St) (r : Rl) : U (aft s r 0) = 0 := rfl
attribute [local irreducible] cells row U aft inn one
set_option maxHeartbeats 400000 in
theorem after_any (s : St) (r : Rl) (w : World) : Calls Try.prog 51 #[.int .u32 (U s), .agg (cells r)] w fun x w' => x = .returned (.int .u32 (U (aft s r 32))) ∧ Grow w w' := by
  go_enter Try.func51, Try.ntmps51
  go_wp2
  go_loop [5, 7] (fun o i => ∃ k : Nat, k ≤ 32 ∧ i = .int .i64 k ∧ o = .int .u32 (U (aft s r k))) (fun _ i => 32 - (intOf i).toNat)
  case atStart => exact ⟨0, by omega, rfl, by rw [aft_zero]⟩
  case round =>
    obtain ⟨k, hk, rfl, rfl⟩ := hrel
    by_cases hlt : k < 32
    · have hc := cells_at r k hlt
      by_cases hin : inn s k = true
      · have hs : aft s r (k + 1) = aft s r k ||| row r k := aft_yes hin
        have ho := bits_or (aft s r k) (row r k)
        have HS : Hid (aft s r (k + 1) = aft s r k ||| row r k) := hs
        clear hs
        go_wp2_with (go_at_call 49; refine (in_any _ _ hlt _).mono ?_; rintro e w' ⟨rfl, rfl⟩)
        go_round
        case rel => exact ⟨k + 1, by omega, by go_num, by rw [HS.out]⟩
        case measure => simp [intOf]; omega
      · have hin' : inn s k = false := by simpa using hin
        clear hin
        have HS : Hid (aft s r (k + 1) = aft s r k) := aft_no hin'
        go_wp2_with (go_at_call 49; refine (in_any _ _ hlt _).mono ?_; rintro e w' ⟨rfl, rfl⟩)
        go_round
        case rel => exact ⟨k + 1, by omega, by go_num, by rw [HS.out]⟩
        case measure => simp [intOf]; omega
    · obtain rfl : k = 32 := by omega
      go_wp2
      go_ret
      exact ⟨rfl, (Below.refl _ _).alloc (Nat.le_refl _) _⟩

end Go.Proofs.Ytlbccddhcbcpoaa
