/- What First, Domain, Range, Empty, Has return, each for every input. -/
import Derived.Test.YtlbccddhcbcpoaaMakes
namespace Go.Proofs.Ytlbccddhcbcpoaa
open Go.RowKit
attribute [local irreducible] wpList cells row U aft inn one nil part upd idr crs mns eqB evB

/-- the first events -/
def fst (n : Int) : St := if n < 1 then 0#32 else if 32 ≤ n then allS else one n.toNat - 1#32
theorem sub_one (e : Nat) : (U (one e) - 1) % 4294967296 = U (one e - 1#32) := by
  unfold U
  rw [BitVec.toNat_sub]
  have := (one e).isLt
  have h1 : (1#32).toNat = 1 := rfl
  rw [h1]
  omega
theorem first_any (n : Int) (w : World) : Calls Try.prog 11 #[.int .i64 n] w fun x w' => x = .returned (.int .u32 (U (fst n))) ∧ w' = w := by
  by_cases h0 : n < 1
  · have h : Hid (fst n = 0#32) := by unfold Hid fst; simp [h0]
    go_enter Try.func11, Try.ntmps11
    go_wp2
    go_ret
    exact ⟨ret_int (by rw [h.out, U_zero]), rfl⟩
  · by_cases h1 : 32 ≤ n
    · have h : Hid (fst n = allS) := by unfold Hid fst; simp [h0, h1]
      go_enter Try.func11, Try.ntmps11
      go_wp2
      go_ret
      exact ⟨ret_int (by rw [h.out, U_all]), rfl⟩
    · obtain ⟨m, rfl⟩ : ∃ m : Nat, n = m := ⟨n.toNat, by omega⟩
      have h : Hid (fst m = one m - 1#32) := by unfold Hid fst; simp [h0, h1]
      have hm : m < 32 := by omega
      have hs := sub_one m
      go_enter Try.func11, Try.ntmps11
      go_wp2_with (go_at_call 48; refine (only_any _ hm _).mono ?_; rintro e w' ⟨rfl, rfl⟩)
      go_ret
      exact ⟨ret_int (by rw [h.out]; exact hs), rfl⟩

/-- the events that stand first in a pair, of those below n -/
def domT (r : Rl) : Nat → St
  | 0 => 0#32
  | n + 1 => if row r n = 0#32 then domT r n else domT r n ||| one n
theorem domT_no {r : Rl} {n : Nat} (h : row r n = 0#32) : domT r (n + 1) = domT r n := by simp [domT, h]
theorem domT_yes {r : Rl} {n : Nat} (h : row r n ≠ 0#32) : domT r (n + 1) = domT r n ||| one n := by simp [domT, h]
theorem domT_zero (r : Rl) : U (domT r 0) = 0 := U_zero
attribute [local irreducible] domT fst allS
set_option maxHeartbeats 1000000 in
theorem dom_any (r : Rl) (w : World) : Calls Try.prog 39 #[.agg (cells r)] w fun x w' => x = .returned (.int .u32 (U (domT r 32))) ∧ Grow w w' := by
  go_enter Try.func39, Try.ntmps39
  go_wp2
  go_loop [3, 5] (fun o i => ∃ k : Nat, k ≤ 32 ∧ i = .int .i64 k ∧ o = .int .u32 (U (domT r k))) (fun _ i => 32 - (intOf i).toNat)
  case atStart => exact ⟨0, by omega, rfl, by rw [domT_zero]⟩
  case round =>
    obtain ⟨k, hk, rfl, rfl⟩ := hrel
    by_cases hlt : k < 32
    · have hc := cells_at r k hlt
      by_cases hz : row r k = 0#32
      · have hb : (U (row r k) == 0) = true := by rw [hz, U_zero]; rfl
        have HS : Hid (domT r (k + 1) = domT r k) := domT_no hz
        clear hz
        go_wp2
        go_round
        case rel => exact ⟨k + 1, by omega, by go_num, by rw [HS.out]⟩
        case measure => simp [intOf]; omega
      · have hb : (U (row r k) == 0) = false := by
          rw [beq_eq_false_iff_ne]; intro h; exact hz (U_inj (h.trans U_zero.symm))
        have HS : Hid (domT r (k + 1) = domT r k ||| one k) := domT_yes hz
        have ho := bits_or (domT r k) (one k)
        clear hz
        go_wp2_with (go_at_call 48; refine (only_any _ hlt _).mono ?_; rintro e w' ⟨rfl, rfl⟩)
        go_round
        case rel => exact ⟨k + 1, by omega, by go_num, by rw [HS.out]⟩
        case measure => simp [intOf]; omega
    · obtain rfl : k = 32 := by omega
      go_wp2
      go_ret
      exact ⟨rfl, (Below.refl _ _).alloc (Nat.le_refl _) _⟩

theorem rng_any (r : Rl) (w : World) : Calls Try.prog 40 #[.agg (cells r)] w fun x w' => x = .returned (.int .u32 (U (aft allS r 32))) ∧ Grow w w' := by
  have h1 := At.new w r
  have hg : Grow w (w.alloc (.cells (cells r) 28)) := (Grow.refl w).alloc _
  have HU := U_all
  go_enter Try.func40, Try.ntmps40
  go_wp2_with (first | (refine ld w.heap.size r (by rfl) h1 ?_) | (go_at_call 51; rw [← HU]; refine (after_any allS r _).mono ?_; rintro e w' ⟨rfl, hw⟩))
  go_ret
  exact ⟨rfl, hg.trans hw⟩

theorem empty_any (r : Rl) (w : World) : Calls Try.prog 37 #[.agg (cells r)] w fun x w' => x = .returned (.bool (eqB r nil)) ∧ Grow w w' := by
  have h1 := At.new w r
  have hg : Grow w (w.alloc (.cells (cells r) 28)) := (Grow.refl w).alloc _
  go_enter Try.func37, Try.ntmps37
  go_wp2_with (first | (refine ld w.heap.size r (by rfl) h1 ?_) | (refine eq' r nil (by rfl) (congrArg Value.agg nil_lit) ?_))
  go_ret
  exact ⟨rfl, hg⟩

/-- has a relation a pair? -/
def hasB (r : Rl) (a b : Int) : Bool := evB a && evB b && inn (row r a.toNat) b.toNat
theorem ev_nat {n : Int} (h : evB n = true) : ∃ k : Nat, n = k ∧ k < 32 := by
  unfold evB at h
  have h' : 0 ≤ n ∧ n < 32 := by simpa using h
  exact ⟨n.toNat, by omega, by omega⟩
set_option maxHeartbeats 1000000 in
theorem has_any (r : Rl) (a b : Int) (w : World) : Calls Try.prog 38 #[.agg (cells r), .int .i64 a, .int .i64 b] w fun x w' => x = .returned (.bool (hasB r a b)) ∧ Grow w w' := by
  have hg : Grow w (w.alloc (.cells (cells r) 28)) := (Grow.refl w).alloc _
  cases ha : evB a
  · have hh : Hid (hasB r a b = false) := by unfold Hid hasB; simp [ha]
    go_enter Try.func38, Try.ntmps38
    go_wp2_with (first | (go_at_call 47; refine (isEvent_any _ _).mono ?_; rintro e w' ⟨rfl, rfl⟩))
    go_ret
    exact ⟨ret_bool hh.out.symm, hg⟩
  · obtain ⟨i, rfl, hi⟩ := ev_nat ha
    cases hb : evB b
    · have hh : Hid (hasB r i b = false) := by unfold Hid hasB; simp [hb]
      go_enter Try.func38, Try.ntmps38
      go_wp2_with (first | (go_at_call 47; refine (isEvent_any _ _).mono ?_; rintro e w' ⟨rfl, rfl⟩))
      go_ret
      exact ⟨ret_bool hh.out.symm, hg⟩
    · obtain ⟨j, rfl, hj⟩ := ev_nat hb
      have hh : Hid (hasB r i j = inn (row r i) j) := by unfold Hid hasB; simp [ha, hb]
      have hc := cells_at r i hi
      go_enter Try.func38, Try.ntmps38
      go_wp2_with (first | (go_at_call 47; refine (isEvent_any _ _).mono ?_; rintro e w' ⟨rfl, rfl⟩) | (go_at_call 49; refine (in_any _ _ hj _).mono ?_; rintro e w' ⟨rfl, rfl⟩))
      go_ret
      exact ⟨ret_bool hh.out.symm, hg⟩

end Go.Proofs.Ytlbccddhcbcpoaa
