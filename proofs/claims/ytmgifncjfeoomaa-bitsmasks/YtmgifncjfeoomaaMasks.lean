/- What Union, Meet, spread and Blend of chapter 1 return for any masks that lie in memory. -/
import Derived.Test.YtmgifncjfeoomaaMore
namespace Go.Proofs.Ytmgifncjfeoomaa
open Go.RowKit

/-- the masks lie at the slice's address, one behind the other -/
def MasksAt (w : World) (a : Option Addr) (ms : List (BitVec 64)) : Prop :=
  ms = [] ∨ ∃ b off, a = some ⟨b, off, none⟩ ∧ ∀ j, j < ms.length → w.cell? ⟨b, off + j, none⟩ = some (.int .i64 (I (ms.getD j 0#64)))
def unionTo (ms : List (BitVec 64)) (k : Nat) : BitVec 64 := (ms.take k).foldl (fun a b => a ||| b) 0#64
def meetTo (ms : List (BitVec 64)) (k : Nat) : BitVec 64 := (ms.take k).foldl (fun a b => a &&& b) 255#64
def unionR (ms : List (BitVec 64)) : BitVec 64 := unionTo ms ms.length &&& 255#64
def meetR (ms : List (BitVec 64)) : BitVec 64 := meetTo ms ms.length
theorem take_one (ms : List (BitVec 64)) (k : Nat) (h : k < ms.length) : ms.take (k + 1) = ms.take k ++ [ms.getD k 0#64] := by
  rw [List.take_succ_eq_append_getElem h]; simp [h]
theorem unionTo_step (ms : List (BitVec 64)) (k : Nat) (h : k < ms.length) : unionTo ms (k + 1) = unionTo ms k ||| ms.getD k 0#64 := by
  unfold unionTo; rw [take_one ms k h, List.foldl_append]; rfl
theorem meetTo_step (ms : List (BitVec 64)) (k : Nat) (h : k < ms.length) : meetTo ms (k + 1) = meetTo ms k &&& ms.getD k 0#64 := by
  unfold meetTo; rw [take_one ms k h, List.foldl_append]; rfl
theorem cell_of {w : World} {a : Option Addr} {ms : List (BitVec 64)} (hm : MasksAt w a ms) {k : Nat} (hk : k < ms.length) :
    ∃ b off m, a = some ⟨b, off, none⟩ ∧ w.cell? ⟨b, off + k, none⟩ = some (.int .i64 (I m)) ∧ m = ms.getD k 0#64 := by
  rcases hm with rfl | ⟨b, off, rfl, hc⟩
  · simp at hk
  · exact ⟨b, off, _, rfl, hc k hk, rfl⟩

theorem union_any (a : Option Addr) (len cap : Nat) (ms : List (BitVec 64)) (w : World) (hl : len = ms.length) (hlen : len ≤ 9223372036854775807) (hm : MasksAt w a ms) :
    Calls Try.prog 21 #[.slice a len cap] w fun e w' => e = .returned (.int .i64 (I (unionR ms))) ∧ w' = w := by
  have HM : Hid (MasksAt w a ms) := hm
  have HL : Hid (len = ms.length) := hl
  clear hm hl
  go_enter Try.func21, Try.ntmps21
  go_wp2
  go_loop [3, 8] (fun u i => ∃ k : Nat, k ≤ len ∧ i = .int .i64 (k : Int) ∧ u = .int .i64 (I (unionTo ms k))) (fun _ i => len - (intOf i).toNat)
  case atStart => exact ⟨0, Nat.zero_le _, rfl, rfl⟩
  case round =>
    obtain ⟨k, hk, rfl, rfl⟩ := hrel
    by_cases hlt : k < len
    · obtain ⟨b, off, m, rfl, hc, hmk⟩ := cell_of HM.out (k := k) (by have := HL.out; omega)
      have HK : Hid (m = ms.getD k 0#64) := hmk
      clear hmk
      go_wp2
      go_round
      case rel => exact ⟨k + 1, by omega, by go_num, by rw [bits_or, unionTo_step ms k (by have := HL.out; omega), HK.out]⟩
      case measure => simp [intOf]; omega
    · obtain rfl : k = len := by omega
      go_wp2
      go_ret
      exact ⟨ret_int (by rw [← I_255, bits_and, HL.out]; rfl), rfl⟩
theorem meet_any (a : Option Addr) (len cap : Nat) (ms : List (BitVec 64)) (w : World) (hl : len = ms.length) (hlen : len ≤ 9223372036854775807) (hm : MasksAt w a ms) :
    Calls Try.prog 22 #[.slice a len cap] w fun e w' => e = .returned (.int .i64 (I (meetR ms))) ∧ w' = w := by
  have HM : Hid (MasksAt w a ms) := hm
  have HL : Hid (len = ms.length) := hl
  clear hm hl
  go_enter Try.func22, Try.ntmps22
  go_wp2
  go_loop [3, 8] (fun u i => ∃ k : Nat, k ≤ len ∧ i = .int .i64 (k : Int) ∧ u = .int .i64 (I (meetTo ms k))) (fun _ i => len - (intOf i).toNat)
  case atStart => exact ⟨0, Nat.zero_le _, rfl, by rw [show meetTo ms 0 = 255#64 from rfl, I_255]⟩
  case round =>
    obtain ⟨k, hk, rfl, rfl⟩ := hrel
    by_cases hlt : k < len
    · obtain ⟨b, off, m, rfl, hc, hmk⟩ := cell_of HM.out (k := k) (by have := HL.out; omega)
      have HK : Hid (m = ms.getD k 0#64) := hmk
      clear hmk
      go_wp2
      go_round
      case rel => exact ⟨k + 1, by omega, by go_num, by rw [bits_and, meetTo_step ms k (by have := HL.out; omega), HK.out]⟩
      case measure => simp [intOf]; omega
    · obtain rfl : k = len := by omega
      go_wp2
      go_ret
      exact ⟨ret_int (by rw [HL.out]; rfl), rfl⟩
theorem spread_step (m : BitVec 64) (k : Nat) (h : m.getLsbD k = true) : bits .or .i64 (I (spreadB m k)) (wrap64 (255 * 2 ^ (8 * k))) = I (spreadB m (k + 1)) := by
  rw [← I_255, shl, bits_or]; unfold spreadB; rw [if_pos h]; cases k <;> rfl
theorem spread_stay (m : BitVec 64) (k : Nat) (h : m.getLsbD k = false) : spreadB m (k + 1) = spreadB m k := by
  rw [show spreadB m (k + 1) = spreadB m k ||| (if m.getLsbD k = true then 255#64 <<< (8 * k) else 0#64) from rfl, h]; simp
theorem spread_any (m : BitVec 64) (w : World) : Calls Try.prog 34 #[.int .i64 (I m)] w fun e w' => e = .returned (.int .i64 (I (spreadB m 8))) ∧ w' = w := by
  go_enter Try.func34, Try.ntmps34
  go_wp2
  go_loop [3, 5] (fun u i => ∃ k : Nat, k ≤ 8 ∧ i = .int .i64 (k : Int) ∧ u = .int .i64 (I (spreadB m k))) (fun _ i => 8 - (intOf i).toNat)
  case atStart => exact ⟨0, Nat.zero_le _, rfl, rfl⟩
  case round =>
    obtain ⟨k, hk, rfl, rfl⟩ := hrel
    by_cases hlt : k < 8
    · by_cases hb : m.getLsbD k = true
      · have ht : (bits .and .i64 (I m / 2 ^ k) 1 == 1) = true := by rw [bit_eq m k (by omega), hb]; rfl
        have HB : Hid (m.getLsbD k = true) := hb
        clear hb
        go_wp2
        go_round
        case rel => exact ⟨k + 1, by omega, by go_num, by rw [spread_step m k HB.out]⟩
        case measure => simp [intOf]; omega
      · have hb' : m.getLsbD k = false := by simpa using hb
        have ht : (bits .and .i64 (I m / 2 ^ k) 1 == 1) = false := by rw [bit_eq m k (by omega), hb']; rfl
        have HB : Hid (m.getLsbD k = false) := hb'
        clear hb hb'
        go_wp2
        go_round
        case rel => exact ⟨k + 1, by omega, by go_num, by rw [spread_stay m k HB.out]⟩
        case measure => simp [intOf]; omega
    · obtain rfl : k = 8 := by omega
      go_wp2
      go_ret
      exact ⟨rfl, rfl⟩
def blendR (v x : BitVec 64) (ms : List (BitVec 64)) : BitVec 64 := blendB v x (unionR ms)
theorem choose_all (v x p : BitVec 64) (w : World) : Calls Try.prog 33 #[.int .i64 (I v), .int .i64 (I x), .int .i64 (I p)] w fun e w' => e = .returned (.int .i64 (I (chooseB v x p))) ∧ w' = w := choose_any v x p w
theorem blend_any (v x : BitVec 64) (a : Option Addr) (len cap : Nat) (ms : List (BitVec 64)) (w : World) (hl : len = ms.length) (hlen : len ≤ 9223372036854775807) (hm : MasksAt w a ms) :
    Calls Try.prog 20 #[.int .i64 (I v), .int .i64 (I x), .slice a len cap] w fun e w' => e = .returned (.int .i64 (I (blendR v x ms))) ∧ w' = w := by
  have HU := union_any a len cap ms w hl hlen hm
  clear hm hl
  go_enter Try.func20, Try.ntmps20
  go_wp2_with (first
    | (go_at_call 21; refine HU.mono ?_; rintro e w' ⟨rfl, rfl⟩)
    | (go_at_call 34; refine (spread_any _ _).mono ?_; rintro e w' ⟨rfl, rfl⟩)
    | (go_at_call 33; refine (choose_all _ _ _ _).mono ?_; rintro e w' ⟨rfl, rfl⟩))
  go_ret
  exact ⟨rfl, rfl⟩
end Go.Proofs.Ytmgifncjfeoomaa
