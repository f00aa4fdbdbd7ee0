/- What the reference's Id, Minus, Join return, each for every input. -/
import Derived.Test.YtlbccddhcbcpoaaTold2
namespace Go.Proofs.Ytlbccddhcbcpoaa
open Go.RowKit
attribute [local irreducible] wpList cells row U aft inn one nil part upd idr crs mns eqB evB stepP plusT invT uni met sqs or2 and2 seq2 allS

set_option maxHeartbeats 1000000 in
theorem rid_any (s : St) (w : World) : Calls Try.prog 16 #[.int .u32 (U s)] w fun x w' => x = .returned (.agg (cells (idr s))) ∧ Grow w w' := by
  go_enter Try.func16, Try.ntmps16
  go_wp2
  rw [nil_lit]
  have h0 : Hid (Grow w ((w.alloc (.cells (cells nil) 28)).alloc (.cells (cells nil) 28))) := ((Grow.refl w).alloc _).alloc _
  have h1 : At ((w.alloc (.cells (cells nil) 28)).alloc (.cells (cells nil) 28)) w.heap.size nil := (At.new w nil).alloc _
  have h2 : At ((w.alloc (.cells (cells nil) 28)).alloc (.cells (cells nil) 28)) (w.heap.size + 1) nil := by simpa using At.new (w.alloc (.cells (cells nil) 28)) nil
  generalize ((w.alloc (.cells (cells nil) 28)).alloc (.cells (cells nil) 28)) = w0 at h0 h1 h2 ⊢
  go_loopw [4] (fun i wr => ∃ k : Nat, k ≤ 32 ∧ i = .int .i64 k ∧ Grow w wr ∧ At wr w.heap.size nil ∧ At wr (w.heap.size + 1) (part k (idr s) nil)) (fun i _ => 32 - (intOf i).toNat)
  case atStart => exact ⟨0, by omega, rfl, h0.out, h1, by rw [part_zero]; exact h2⟩
  case round =>
    clear h0 h1 h2
    obtain ⟨k, hk, rfl, hg, hr, ho⟩ := hrel
    by_cases hlt : k < 32
    · have hc := ho.cell k hlt
      have hf := ho.frozen k
      have hp := pow_one k
      have ha := bits_and s (one k)
      go_wp2
      go_roundw
      case rel => exact ⟨k + 1, by omega, by go_num, bset hg (by omega) _, hr.set_other (by omega) _ _, by first | exact ho.step _ (fun h => (row_idr s k h).symm) | (rw [hp, ha]; exact ho.step _ (fun h => (row_idr s k h).symm))⟩
      case measure => simp [intOf]; omega
    · obtain rfl : k = 32 := by omega
      rw [part_full] at ho
      go_wp2_with (first | (refine ld (w.heap.size + 1) (idr s) (by rfl) ho ?_) | (refine st w.heap.size nil (idr s) (by rfl) (by rfl) hr ?_))
      exact bodyPost_ret (v := .agg (cells (idr s))) (res rfl _ _ w.heap.size _ (by rfl) hr.put) rfl ⟨rfl, below_setRow hg (Nat.le_refl _) _⟩

set_option maxHeartbeats 1000000 in
theorem rmns_any (a b : Rl) (w : World) : Calls Try.prog 27 #[.agg (cells a), .agg (cells b)] w fun x w' => x = .returned (.agg (cells (mns a b))) ∧ Grow w w' := by
  go_enter Try.func27, Try.ntmps27
  go_wp2
  rw [nil_lit]
  have h0 : Hid (Grow w (((w.alloc (.cells (cells a) 28)).alloc (.cells (cells b) 28)).alloc (.cells (cells nil) 28))) := (((Grow.refl w).alloc _).alloc _).alloc _
  have h1 : At (((w.alloc (.cells (cells a) 28)).alloc (.cells (cells b) 28)).alloc (.cells (cells nil) 28)) w.heap.size a := ((At.new w a).alloc _).alloc _
  have h2 : At (((w.alloc (.cells (cells a) 28)).alloc (.cells (cells b) 28)).alloc (.cells (cells nil) 28)) (w.heap.size + 1) b := by simpa using (At.new (w.alloc (.cells (cells a) 28)) b).alloc _
  have h3 : At (((w.alloc (.cells (cells a) 28)).alloc (.cells (cells b) 28)).alloc (.cells (cells nil) 28)) (w.heap.size + 2) nil := by simpa using At.new ((w.alloc (.cells (cells a) 28)).alloc (.cells (cells b) 28)) nil
  generalize (((w.alloc (.cells (cells a) 28)).alloc (.cells (cells b) 28)).alloc (.cells (cells nil) 28)) = w0 at h0 h1 h2 h3 ⊢
  go_loopw [5] (fun i wr => ∃ k : Nat, k ≤ 32 ∧ i = .int .i64 k ∧ Grow w wr ∧ At wr w.heap.size (part k (mns a b) a) ∧ At wr (w.heap.size + 1) b ∧ At wr (w.heap.size + 2) nil) (fun i _ => 32 - (intOf i).toNat)
  case atStart => exact ⟨0, by omega, rfl, h0.out, by rw [part_zero]; exact h1, h2, h3⟩
  case round =>
    clear h0 h1 h2 h3
    obtain ⟨k, hk, rfl, hg, ha, hb, hn⟩ := hrel
    by_cases hlt : k < 32
    · have ca := ha.cell k hlt
      rw [row_part_ge _ _ _ _ (Nat.le_refl _)] at ca
      have fa := ha.frozen k
      have cb := hb.cell k hlt
      have hx := bits_andNot (row a k) (row b k)
      have hi0 : (0 : Int) ≤ (k : Int) := by omega
      have hi1 : (k : Int) < 32 := by omega
      go_wp2
      go_region
      all_goals go_wp2
      all_goals
        go_roundw
        case rel => exact ⟨k + 1, by omega, by go_num, (bset hg (by omega) _).drew, (ha.step _ (fun h => (row_mns a b k h).symm)).drew, (hb.set_other (by omega) _ _).drew, (hn.set_other (by omega) _ _).drew⟩
        case measure => simp [intOf]; omega
    · obtain rfl : k = 32 := by omega
      rw [part_full] at ha
      go_wp2_with (first | (refine ld w.heap.size (mns a b) (by rfl) ha ?_) | (refine st (w.heap.size + 2) nil (mns a b) (by rfl) (by rfl) hn ?_))
      exact bodyPost_ret (v := .agg (cells (mns a b))) (res rfl _ _ (w.heap.size + 2) _ (by rfl) hn.put) rfl ⟨rfl, below_setRow hg (by omega) _⟩

set_option maxHeartbeats 1000000 in
theorem rjoin_any (a b : Rl) (w : World) : Calls Try.prog 32 #[.agg (cells a), .agg (cells b)] w fun x w' => x = .returned (.agg (cells (or2 a b))) ∧ Grow w w' := by
  go_enter Try.func32, Try.ntmps32
  go_wp2
  rw [nil_lit]
  have h0 : Hid (Grow w (((w.alloc (.cells (cells a) 28)).alloc (.cells (cells b) 28)).alloc (.cells (cells nil) 28))) := (((Grow.refl w).alloc _).alloc _).alloc _
  have h1 : At (((w.alloc (.cells (cells a) 28)).alloc (.cells (cells b) 28)).alloc (.cells (cells nil) 28)) w.heap.size a := ((At.new w a).alloc _).alloc _
  have h2 : At (((w.alloc (.cells (cells a) 28)).alloc (.cells (cells b) 28)).alloc (.cells (cells nil) 28)) (w.heap.size + 1) b := by simpa using (At.new (w.alloc (.cells (cells a) 28)) b).alloc _
  have h3 : At (((w.alloc (.cells (cells a) 28)).alloc (.cells (cells b) 28)).alloc (.cells (cells nil) 28)) (w.heap.size + 2) nil := by simpa using At.new ((w.alloc (.cells (cells a) 28)).alloc (.cells (cells b) 28)) nil
  generalize (((w.alloc (.cells (cells a) 28)).alloc (.cells (cells b) 28)).alloc (.cells (cells nil) 28)) = w0 at h0 h1 h2 h3 ⊢
  go_loopw [5] (fun i wr => ∃ k : Nat, k ≤ 32 ∧ i = .int .i64 k ∧ Grow w wr ∧ At wr w.heap.size (part k (or2 a b) a) ∧ At wr (w.heap.size + 1) b ∧ At wr (w.heap.size + 2) nil) (fun i _ => 32 - (intOf i).toNat)
  case atStart => exact ⟨0, by omega, rfl, h0.out, by rw [part_zero]; exact h1, h2, h3⟩
  case round =>
    clear h0 h1 h2 h3
    obtain ⟨k, hk, rfl, hg, ha, hb, hn⟩ := hrel
    by_cases hlt : k < 32
    · have ca := ha.cell k hlt
      rw [row_part_ge _ _ _ _ (Nat.le_refl _)] at ca
      have fa := ha.frozen k
      have cb := hb.cell k hlt
      have hx := bits_or (row a k) (row b k)
      have hi0 : (0 : Int) ≤ (k : Int) := by omega
      have hi1 : (k : Int) < 32 := by omega
      go_wp2
      go_region
      all_goals go_wp2
      all_goals
        go_roundw
        case rel => exact ⟨k + 1, by omega, by go_num, (bset hg (by omega) _).drew, (ha.step _ (fun h => (row_or2 a b k h).symm)).drew, (hb.set_other (by omega) _ _).drew, (hn.set_other (by omega) _ _).drew⟩
        case measure => simp [intOf]; omega
    · obtain rfl : k = 32 := by omega
      rw [part_full] at ha
      go_wp2_with (first | (refine ld w.heap.size (or2 a b) (by rfl) ha ?_) | (refine st (w.heap.size + 2) nil (or2 a b) (by rfl) (by rfl) hn ?_))
      exact bodyPost_ret (v := .agg (cells (or2 a b))) (res rfl _ _ (w.heap.size + 2) _ (by rfl) hn.put) rfl ⟨rfl, below_setRow hg (by omega) _⟩

end Go.Proofs.Ytlbccddhcbcpoaa
