/- What Plus and Inverse return, each for every input. -/
import Derived.Test.YtlbccddhcbcpoaaTells
namespace Go.Proofs.Ytlbccddhcbcpoaa
open Go.RowKit

/-- the ways round by event k, added -/
def stepP (k : Nat) (r : Rl) : Rl := fun i => if inn (r i) k then r i ||| row r k else r i
/-- the ways round by the events below n, added -/
def plusT (r : Rl) : Nat → Rl
  | 0 => r
  | n + 1 => stepP n (plusT r n)
theorem row_stepP (k : Nat) (r : Rl) (e : Nat) (h : e < 32) : row (stepP k r) e = if inn (row r e) k then row r e ||| row r k else row r e := by
  rw [row_of _ h, row_of r h]; rfl
theorem row_stepP_self (k : Nat) (r : Rl) (e : Nat) : row (part e (stepP k r) r) k = row r k := by
  by_cases h : k < e
  · rw [row_part_lt _ _ _ _ h]
    by_cases hk : k < 32
    · rw [row_stepP k r k hk]; split
      · exact BitVec.or_self
      · rfl
    · simp [row, hk]
  · rw [row_part_ge _ _ _ _ (by omega)]
/-- each pair of the rows below n turned round -/
def invT (r : Rl) : Nat → Rl
  | 0 => nil
  | n + 1 => fun i => if inn (row r n) i.val then invT r n i ||| one n else invT r n i
theorem row_invT (r : Rl) (n e : Nat) (h : e < 32) : row (invT r (n + 1)) e = if inn (row r n) e then row (invT r n) e ||| one n else row (invT r n) e := by
  rw [row_of _ h, row_of _ h]; rfl
theorem invT_zero (r : Rl) : invT r 0 = nil := rfl
theorem plusT_zero (r : Rl) : plusT r 0 = r := rfl
theorem plusT_succ (r : Rl) (n : Nat) : plusT r (n + 1) = stepP n (plusT r n) := rfl
attribute [local irreducible] wpList cells row U aft inn one nil part upd idr crs mns eqB evB stepP plusT invT

set_option maxHeartbeats 2000000 in
theorem plus_any (r : Rl) (w : World) : Calls Try.prog 30 #[.agg (cells r)] w fun x w' => x = .returned (.agg (cells (plusT r 32))) ∧ Grow w w' := by
  go_enter Try.func30, Try.ntmps30
  go_wp2
  rw [nil_lit]
  have h0 : Hid (Grow w ((w.alloc (.cells (cells r) 28)).alloc (.cells (cells nil) 28))) := ((Grow.refl w).alloc _).alloc _
  have h1 : At ((w.alloc (.cells (cells r) 28)).alloc (.cells (cells nil) 28)) w.heap.size r := (At.new w r).alloc _
  have h2 : At ((w.alloc (.cells (cells r) 28)).alloc (.cells (cells nil) 28)) (w.heap.size + 1) nil := by simpa using At.new (w.alloc (.cells (cells r) 28)) nil
  generalize ((w.alloc (.cells (cells r) 28)).alloc (.cells (cells nil) 28)) = w0 at h0 h1 h2 ⊢
  go_loopw [5] (fun i wr => ∃ k : Nat, k ≤ 32 ∧ i = .int .i64 k ∧ Grow w wr ∧ At wr w.heap.size (plusT r k) ∧ At wr (w.heap.size + 1) nil) (fun i _ => 32 - (intOf i).toNat)
  case atStart => exact ⟨0, by omega, rfl, h0.out, by rw [plusT_zero]; exact h1, h2⟩
  case round =>
    clear h0 h1 h2
    obtain ⟨k, hk, rfl, hg, ho, hr⟩ := hrel
    by_cases hlt : k < 32
    · have HP : Hid (plusT r (k + 1) = stepP k (plusT r k)) := plusT_succ r k
      generalize plusT r k = R at ho HP
      have hdk : decide ((k : Int) < 32) = true := by simp; omega
      go_wp2
      go_loopw [8] (fun i wr => ∃ e : Nat, e ≤ 32 ∧ i = .int .i64 e ∧ Grow w wr ∧ At wr w.heap.size (part e (stepP k R) R) ∧ At wr (w.heap.size + 1) nil) (fun i _ => 32 - (intOf i).toNat)
      case atStart => exact ⟨0, by omega, rfl, hg, by rw [part_zero]; exact ho, hr⟩
      case round =>
        clear hg ho hr
        obtain ⟨e, he, rfl, hg, ho, hr⟩ := hrel
        by_cases hlt2 : e < 32
        · have hc := ho.cell e hlt2
          rw [row_part_ge _ _ _ _ (Nat.le_refl _)] at hc
          have hrow := row_stepP k R e hlt2
          have HR : Hid (row (stepP k R) e = if inn (row R e) k then row R e ||| row R k else row R e) := hrow
          clear hrow
          cases hin : inn (row R e) k
          · go_wp2_with (go_at_call 49; refine (in_any _ _ hlt _).mono ?_; rintro e w' ⟨rfl, rfl⟩)
            go_roundw
            case rel => exact ⟨e + 1, by omega, by go_num, hg, by rw [upd_same_part (fun _ => by rw [HR.out, hin]; rfl)]; exact ho, hr⟩
            case measure => simp [intOf]; omega
          · have hc2 := ho.cell k hlt
            rw [row_stepP_self] at hc2
            have hf := ho.frozen e
            have hor := bits_or (row R e) (row R k)
            go_wp2_with (go_at_call 49; refine (in_any _ _ hlt _).mono ?_; rintro e w' ⟨rfl, rfl⟩)
            go_region
            all_goals go_wp2
            all_goals
              go_roundw
              case rel => exact ⟨e + 1, by omega, by go_num, (bset hg (by omega) _).drew, (ho.step _ (fun _ => by rw [HR.out, hin]; rfl)).drew, (hr.set_other (by omega) _ _).drew⟩
              case measure => simp [intOf]; omega
        · obtain rfl : e = 32 := by omega
          rw [part_full, ← HP.out] at ho
          go_wp2
          go_roundw
          case rel => exact ⟨k + 1, by omega, by go_num, hg, ho, hr⟩
          case measure => simp [intOf]; omega
    · obtain rfl : k = 32 := by omega
      go_wp2_with (first | (refine ld w.heap.size (plusT r 32) (by rfl) ho ?_) | (refine st (w.heap.size + 1) nil (plusT r 32) (by rfl) (by rfl) hr ?_))
      exact bodyPost_ret (v := .agg (cells (plusT r 32))) (res rfl _ _ (w.heap.size + 1) _ (by rfl) hr.put) rfl ⟨rfl, below_setRow hg (by omega) _⟩

set_option maxHeartbeats 2000000 in
theorem inv_any (r : Rl) (w : World) : Calls Try.prog 28 #[.agg (cells r)] w fun x w' => x = .returned (.agg (cells (invT r 32))) ∧ Grow w w' := by
  have HC : Hid (∀ k, k < 32 → (cells r)[k]? = some (.int .u32 (U (row r k)))) := cells_at r
  go_enter Try.func28, Try.ntmps28
  have hw0 := At.new w r
  go_wp2_with (first | (refine ld w.heap.size r (by rfl) ((((At.new w r).alloc _).alloc _)) ?_))
  rw [nil_lit]
  have h0 : Hid (Grow w (((w.alloc (.cells (cells r) 28)).alloc (.cells (cells nil) 28)).alloc (.cells (cells nil) 28))) := (((Grow.refl w).alloc _).alloc _).alloc _
  have h2 : At (((w.alloc (.cells (cells r) 28)).alloc (.cells (cells nil) 28)).alloc (.cells (cells nil) 28)) (w.heap.size + 1) nil := by simpa using (At.new (w.alloc (.cells (cells r) 28)) nil).alloc _
  have h3 : At (((w.alloc (.cells (cells r) 28)).alloc (.cells (cells nil) 28)).alloc (.cells (cells nil) 28)) (w.heap.size + 2) nil := by simpa using At.new ((w.alloc (.cells (cells r) 28)).alloc (.cells (cells nil) 28)) nil
  generalize (((w.alloc (.cells (cells r) 28)).alloc (.cells (cells nil) 28)).alloc (.cells (cells nil) 28)) = w0 at h0 h2 h3 ⊢
  clear hw0
  go_loopw [8] (fun i wr => ∃ k : Nat, k ≤ 32 ∧ i = .int .i64 k ∧ Grow w wr ∧ At wr (w.heap.size + 2) (invT r k) ∧ At wr (w.heap.size + 1) nil) (fun i _ => 32 - (intOf i).toNat)
  case atStart => exact ⟨0, by omega, rfl, h0.out, by rw [invT_zero]; exact h3, h2⟩
  case round =>
    clear h0 h2 h3
    obtain ⟨k, hk, rfl, hg, ho, hr⟩ := hrel
    by_cases hlt : k < 32
    · have hck := HC.out k hlt
      have HI : Hid (∀ e, e < 32 → row (invT r (k + 1)) e = if inn (row r k) e then row (invT r k) e ||| one k else row (invT r k) e) := row_invT r k
      generalize invT r k = R at ho HI
      obtain ⟨R', HE⟩ : ∃ R', Hid (R' = invT r (k + 1)) := ⟨_, rfl⟩
      rw [← HE.out] at HI
      have hdk : decide ((k : Int) < 32) = true := by simp; omega
      go_wp2_with (refine ix r k hlt (by rfl) (by rfl) ?_)
      go_loopw [12] (fun i wr => ∃ e : Nat, e ≤ 32 ∧ i = .int .i64 e ∧ Grow w wr ∧ At wr (w.heap.size + 2) (part e R' R) ∧ At wr (w.heap.size + 1) nil) (fun i _ => 32 - (intOf i).toNat)
      case atStart => exact ⟨0, by omega, rfl, hg, by rw [part_zero]; exact ho, hr⟩
      case round =>
        clear hg ho hr
        obtain ⟨e, he, rfl, hg, ho, hr⟩ := hrel
        by_cases hlt2 : e < 32
        · have HR : Hid (row R' e = if inn (row r k) e then row R e ||| one k else row R e) := HI.out e hlt2
          cases hin : inn (row r k) e
          · go_wp2_with (go_at_call 49; refine (in_any _ _ hlt2 _).mono ?_; rintro e w' ⟨rfl, rfl⟩)
            go_roundw
            case rel => exact ⟨e + 1, by omega, by go_num, hg, by rw [upd_same_part (fun _ => by rw [HR.out, hin]; rfl)]; exact ho, hr⟩
            case measure => simp [intOf]; omega
          · have hc := ho.cell e hlt2
            rw [row_part_ge _ _ _ _ (Nat.le_refl _)] at hc
            have hf := ho.frozen e
            have hor := bits_or (row R e) (one k)
            go_wp2_with (go_at_call 49; refine (in_any _ _ hlt2 _).mono ?_; rintro e w' ⟨rfl, rfl⟩)
            go_region_with (go_at_call 48; refine (only_any _ hlt _).mono ?_; rintro e w' ⟨rfl, rfl⟩)
            all_goals go_wp2
            all_goals
              go_roundw
              case rel => exact ⟨e + 1, by omega, by go_num, (bset hg (by omega) _).drew, (ho.step _ (fun _ => by rw [HR.out, hin]; rfl)).drew, (hr.set_other (by omega) _ _).drew⟩
              case measure => simp [intOf]; omega
        · obtain rfl : e = 32 := by omega
          rw [part_full] at ho
          go_wp2
          go_roundw
          case rel => exact ⟨k + 1, by omega, by go_num, hg, HE.out ▸ ho, hr⟩
          case measure => simp [intOf]; omega
    · obtain rfl : k = 32 := by omega
      go_wp2_with (first | (refine ld (w.heap.size + 2) (invT r 32) (by rfl) ho ?_) | (refine st (w.heap.size + 1) nil (invT r 32) (by rfl) (by rfl) hr ?_))
      exact bodyPost_ret (v := .agg (cells (invT r 32))) (res rfl _ _ (w.heap.size + 1) _ (by rfl) hr.put) rfl ⟨rfl, below_setRow hg (by omega) _⟩

end Go.Proofs.Ytlbccddhcbcpoaa
