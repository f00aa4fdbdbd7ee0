/- What Id, Cross, Minus return, each for every input. -/
import Derived.Test.YtlbccddhcbcpoaaMem
import Derived.Deep.RegionHeld3
namespace Go.Proofs.Ytlbccddhcbcpoaa
open Go.RowKit
attribute [local irreducible] wpList cells row U aft inn one nil part upd

/-- each event of a set with itself -/
def idr (s : St) : Rl := fun i => s &&& one i.val
theorem row_idr (s : St) (k : Nat) (h : k < 32) : row (idr s) k = s &&& one k := by rw [row_of _ h]; rfl
/-- each event of the one with each of the other -/
def crs (a b : St) : Rl := fun i => if inn a i.val then b else 0#32
theorem row_crs (a b : St) (k : Nat) (h : k < 32) : row (crs a b) k = if inn a k then b else 0#32 := by rw [row_of _ h]; rfl
theorem row_nil (k : Nat) : row nil k = 0#32 := by unfold row nil; split <;> rfl
/-- the pairs of the one that the other has not -/
def mns (a b : Rl) : Rl := fun i => a i &&& ~~~b i
theorem row_mns (a b : Rl) (k : Nat) (h : k < 32) : row (mns a b) k = row a k &&& ~~~row b k := by rw [row_of _ h, row_of _ h, row_of _ h]; rfl
theorem upd_same_part {f g : Rl} {k : Nat} (h : k < 32 → row f k = row g k) : part (k + 1) f g = part k f g := by
  rw [← part_step f g k (row g k) (fun hk => (h hk).symm)]
  have := upd_row (part k f g) k
  rwa [row_part_ge f g k k (Nat.le_refl _)] at this

set_option maxHeartbeats 1000000 in
theorem id_any (s : St) (w : World) : Calls Try.prog 15 #[.int .u32 (U s)] w fun x w' => x = .returned (.agg (cells (idr s))) ∧ Grow w w' := by
  go_enter Try.func15, Try.ntmps15
  go_wp2
  rw [nil_lit]
  have h0 : Hid (Grow w ((w.alloc (.cells (cells nil) 28)).alloc (.cells (cells nil) 28))) := ((Grow.refl w).alloc _).alloc _
  have h1 : At ((w.alloc (.cells (cells nil) 28)).alloc (.cells (cells nil) 28)) w.heap.size nil := (At.new w nil).alloc _
  have h2 : At ((w.alloc (.cells (cells nil) 28)).alloc (.cells (cells nil) 28)) (w.heap.size + 1) nil := by simpa using At.new (w.alloc (.cells (cells nil) 28)) nil
  generalize ((w.alloc (.cells (cells nil) 28)).alloc (.cells (cells nil) 28)) = w0 at h0 h1 h2 ⊢
  go_loopw [5] (fun i wr => ∃ k : Nat, k ≤ 32 ∧ i = .int .i64 k ∧ Grow w wr ∧ At wr w.heap.size nil ∧ At wr (w.heap.size + 1) (part k (idr s) nil)) (fun i _ => 32 - (intOf i).toNat)
  case atStart => exact ⟨0, by omega, rfl, h0.out, h1, by rw [part_zero]; exact h2⟩
  case round =>
    clear h0 h1 h2
    obtain ⟨k, hk, rfl, hg, hr, ho⟩ := hrel
    by_cases hlt : k < 32
    · have hc := ho.cell k hlt
      have hf := ho.frozen k
      have ha := bits_and s (one k)
      go_wp2_with (go_at_call 48; refine (only_any _ hlt _).mono ?_; rintro e w' ⟨rfl, rfl⟩)
      go_roundw
      case rel => exact ⟨k + 1, by omega, by go_num, bset hg (by omega) _, hr.set_other (by omega) _ _, ho.step _ (fun h => (row_idr s k h).symm)⟩
      case measure => simp [intOf]; omega
    · obtain rfl : k = 32 := by omega
      rw [part_full] at ho
      go_wp2_with (first | (refine ld (w.heap.size + 1) (idr s) (by rfl) ho ?_) | (refine st w.heap.size nil (idr s) (by rfl) (by rfl) hr ?_))
      exact bodyPost_ret (v := .agg (cells (idr s))) (res rfl _ _ w.heap.size _ (by rfl) hr.put) rfl ⟨rfl, below_setRow hg (Nat.le_refl _) _⟩

set_option maxHeartbeats 1000000 in
theorem crs_any (a b : St) (w : World) : Calls Try.prog 17 #[.int .u32 (U a), .int .u32 (U b)] w fun x w' => x = .returned (.agg (cells (crs a b))) ∧ Grow w w' := by
  go_enter Try.func17, Try.ntmps17
  go_wp2
  rw [nil_lit]
  have h0 : Hid (Grow w ((w.alloc (.cells (cells nil) 28)).alloc (.cells (cells nil) 28))) := ((Grow.refl w).alloc _).alloc _
  have h1 : At ((w.alloc (.cells (cells nil) 28)).alloc (.cells (cells nil) 28)) w.heap.size nil := (At.new w nil).alloc _
  have h2 : At ((w.alloc (.cells (cells nil) 28)).alloc (.cells (cells nil) 28)) (w.heap.size + 1) nil := by simpa using At.new (w.alloc (.cells (cells nil) 28)) nil
  generalize ((w.alloc (.cells (cells nil) 28)).alloc (.cells (cells nil) 28)) = w0 at h0 h1 h2 ⊢
  go_loopw [7] (fun i wr => ∃ k : Nat, k ≤ 32 ∧ i = .int .i64 k ∧ Grow w wr ∧ At wr w.heap.size nil ∧ At wr (w.heap.size + 1) (part k (crs a b) nil)) (fun i _ => 32 - (intOf i).toNat)
  case atStart => exact ⟨0, by omega, rfl, h0.out, h1, by rw [part_zero]; exact h2⟩
  case round =>
    clear h0 h1 h2
    obtain ⟨k, hk, rfl, hg, hr, ho⟩ := hrel
    by_cases hlt : k < 32
    · have hrw := row_crs a b k hlt
      have HR : Hid (row (crs a b) k = if inn a k then b else 0#32) := hrw
      clear hrw
      cases hin : inn a k
      · go_wp2_with (go_at_call 49; refine (in_any _ _ hlt _).mono ?_; rintro e w' ⟨rfl, rfl⟩)
        go_roundw
        case rel => exact ⟨k + 1, by omega, by go_num, hg, hr, by rw [upd_same_part (fun _ => by rw [HR.out, hin, row_nil]; rfl)]; exact ho⟩
        case measure => simp [intOf]; omega
      · have hc := ho.cell k hlt
        have hf := ho.frozen k
        go_wp2_with (go_at_call 49; refine (in_any _ _ hlt _).mono ?_; rintro e w' ⟨rfl, rfl⟩)
        go_roundw
        case rel => exact ⟨k + 1, by omega, by go_num, bset hg (by omega) _, hr.set_other (by omega) _ _, ho.step _ (fun _ => by rw [HR.out, hin]; rfl)⟩
        case measure => simp [intOf]; omega
    · obtain rfl : k = 32 := by omega
      rw [part_full] at ho
      go_wp2_with (first | (refine ld (w.heap.size + 1) (crs a b) (by rfl) ho ?_) | (refine st w.heap.size nil (crs a b) (by rfl) (by rfl) hr ?_))
      exact bodyPost_ret (v := .agg (cells (crs a b))) (res rfl _ _ w.heap.size _ (by rfl) hr.put) rfl ⟨rfl, below_setRow hg (Nat.le_refl _) _⟩

set_option maxHeartbeats 1000000 in
theorem mns_any (a b : Rl) (w : World) : Calls Try.prog 26 #[.agg (cells a), .agg (cells b)] w fun x w' => x = .returned (.agg (cells (mns a b))) ∧ Grow w w' := by
  go_enter Try.func26, Try.ntmps26
  go_wp2
  rw [nil_lit]
  have h0 : Hid (Grow w (((w.alloc (.cells (cells a) 28)).alloc (.cells (cells b) 28)).alloc (.cells (cells nil) 28))) := (((Grow.refl w).alloc _).alloc _).alloc _
  have h1 : At (((w.alloc (.cells (cells a) 28)).alloc (.cells (cells b) 28)).alloc (.cells (cells nil) 28)) w.heap.size a := ((At.new w a).alloc _).alloc _
  have h2 : At (((w.alloc (.cells (cells a) 28)).alloc (.cells (cells b) 28)).alloc (.cells (cells nil) 28)) (w.heap.size + 1) b := by simpa using (At.new (w.alloc (.cells (cells a) 28)) b).alloc _
  have h3 : At (((w.alloc (.cells (cells a) 28)).alloc (.cells (cells b) 28)).alloc (.cells (cells nil) 28)) (w.heap.size + 2) nil := by simpa using At.new ((w.alloc (.cells (cells a) 28)).alloc (.cells (cells b) 28)) nil
  generalize (((w.alloc (.cells (cells a) 28)).alloc (.cells (cells b) 28)).alloc (.cells (cells nil) 28)) = w0 at h0 h1 h2 h3 ⊢
  go_loopw [6] (fun i wr => ∃ k : Nat, k ≤ 32 ∧ i = .int .i64 k ∧ Grow w wr ∧ At wr w.heap.size (part k (mns a b) a) ∧ At wr (w.heap.size + 1) b ∧ At wr (w.heap.size + 2) nil) (fun i _ => 32 - (intOf i).toNat)
  case atStart => exact ⟨0, by omega, rfl, h0.out, by rw [part_zero]; exact h1, h2, h3⟩
  case round =>
    clear h0 h1 h2 h3
    obtain ⟨k, hk, rfl, hg, ha, hb, hn⟩ := hrel
    by_cases hlt : k < 32
    · have ca := ha.cell k hlt
      rw [row_part_ge _ _ _ _ (Nat.le_refl _)] at ca
      have fa := ha.frozen k
      have cb := hb.cell k hlt
      have hx := bits_andNot (row a k) (row b k)
      have hi0 : (0 : Int) ≤ (k : Int) := by omega
      have hi1 : (k : Int) < 32 := by omega
      go_wp2
      go_region
      all_goals go_wp2
      all_goals
        go_roundw
        case rel => exact ⟨k + 1, by omega, by go_num, (bset hg (by omega) _).drew, (ha.step _ (fun h => (row_mns a b k h).symm)).drew, (hb.set_other (by omega) _ _).drew, (hn.set_other (by omega) _ _).drew⟩
        case measure => simp [intOf]; omega
    · obtain rfl : k = 32 := by omega
      rw [part_full] at ha
      go_wp2_with (first | (refine ld w.heap.size (mns a b) (by rfl) ha ?_) | (refine st (w.heap.size + 2) nil (mns a b) (by rfl) (by rfl) hn ?_))
      exact bodyPost_ret (v := .agg (cells (mns a b))) (res rfl _ _ (w.heap.size + 2) _ (by rfl) hn.put) rfl ⟨rfl, below_setRow hg (by omega) _⟩

end Go.Proofs.Ytlbccddhcbcpoaa
