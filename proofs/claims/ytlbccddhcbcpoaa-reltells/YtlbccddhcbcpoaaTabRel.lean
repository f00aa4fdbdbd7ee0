/- What the reference's Rel and Inverse return, for every input. -/
import Derived.Test.YtlbccddhcbcpoaaTabs
namespace Go.Proofs.Ytlbccddhcbcpoaa
open Go.RowKit

/-- a table's row as a set, the events below b -/
def rowT (t : Tb) (a : Nat) : Nat → St
  | 0 => 0#32
  | b + 1 => if t a b then rowT t a b ||| one b else rowT t a b
theorem rowT_yes {t : Tb} {a b : Nat} (h : t a b = true) : rowT t a (b + 1) = rowT t a b ||| one b := by simp [rowT, h]
theorem rowT_no {t : Tb} {a b : Nat} (h : t a b = false) : rowT t a (b + 1) = rowT t a b := by simp [rowT, h]
theorem rowT_zero (t : Tb) (a : Nat) : rowT t a 0 = 0#32 := rfl
theorem inn_rowT (t : Tb) (a n e : Nat) (hn : n ≤ 32) : inn (rowT t a n) e = (decide (e < n) && t a e) := by
  induction n with
  | zero => rw [rowT_zero, inn_zero]; simp
  | succ n ih =>
    have ih := ih (by omega)
    cases h : t a n
    · rw [rowT_no h, ih]
      by_cases he : e = n
      · subst he; simp [h]
      · have : decide (e < n + 1) = decide (e < n) := by simp; omega
        rw [this]
    · rw [rowT_yes h, inn_or, ih, inn_one]
      by_cases he : e = n
      · subst he; simp [h]; omega
      · have : decide (e < n + 1) = decide (e < n) := by simp; omega
        rw [this]; simp [he]
/-- a table as a relation -/
def relR (t : Tb) : Rl := fun i => rowT t i.val 32
theorem row_relR (t : Tb) (k : Nat) (h : k < 32) : row (relR t) k = rowT t k 32 := by rw [row_of _ h]; rfl
theorem has_relR (t : Tb) (a b : Nat) : has (relR t) a b ↔ a < 32 ∧ b < 32 ∧ t a b = true := by
  constructor
  · intro h
    obtain ⟨ha, hb⟩ := has_lt h
    unfold has at h
    rw [row_relR t a ha, inn_rowT t a 32 b (Nat.le_refl _)] at h
    simp at h; exact ⟨ha, hb, h.2⟩
  · rintro ⟨ha, hb, h⟩
    unfold has
    rw [row_relR t a ha, inn_rowT t a 32 b (Nat.le_refl _)]; simp [h, hb]
theorem upd_upd (r : Rl) (k : Nat) (x y : St) : upd (upd r k x) k y = upd r k y := by funext i; unfold upd; split <;> rfl
theorem relR_start (t : Tb) (k : Nat) : upd (part k (relR t) nil) k (rowT t k 0) = part k (relR t) nil := by
  have := upd_row (part k (relR t) nil) k
  rw [row_part_ge _ _ _ _ (Nat.le_refl _), row_nil] at this
  exact this
theorem relR_end (t : Tb) (k : Nat) (h : k < 32) : upd (part k (relR t) nil) k (rowT t k 32) = part (k + 1) (relR t) nil := part_step _ _ k _ (fun _ => (row_relR t k h).symm)
/-- a table turned round, as far as it is laid -/
def invU (r : Rl) (a b : Nat) : Tb := fun x y => if y < a ∨ (y = a ∧ x < b) then inn (row r y) x else false
theorem invU_zero (r : Rl) (i j : Nat) : invU r 0 0 i j = false := by simp [invU]
theorem invU_step (r : Rl) (a b i j : Nat) : updt (invU r a b) b a (inn (row r a) b) i j = invU r a (b + 1) i j := by
  unfold updt invU
  by_cases h : i = b ∧ j = a
  · obtain ⟨rfl, rfl⟩ := h; simp
  · rw [if_neg h]
    have : (j < a ∨ (j = a ∧ i < b)) ↔ (j < a ∨ (j = a ∧ i < b + 1)) := by omega
    simp [this]
theorem invU_row (r : Rl) (a i j : Nat) (hi : i < 32) : invU r a 32 i j = invU r (a + 1) 0 i j := by
  unfold invU
  have : (j < a ∨ (j = a ∧ i < 32)) ↔ (j < a + 1 ∨ (j = a + 1 ∧ i < 0)) := by omega
  simp only [this]
theorem inv_tab (r : Rl) : relR (invU r 32 0) = invT r 32 := rl_ext fun a b => by
  rw [has_relR, has_inv]
  unfold invU has
  constructor
  · rintro ⟨ha, hb, h⟩; rw [if_pos (.inl hb)] at h; exact h
  · intro h
    obtain ⟨hb, ha⟩ := has_lt h
    exact ⟨ha, hb, by rw [if_pos (.inl hb)]; exact h⟩
theorem tabR_at (r : Rl) (a b : Nat) : tabR r a b = inn (row r a) b := rfl
attribute [local irreducible] wpList cells row U aft inn one nil part upd idr crs mns eqB evB stepP plusT invT uni met sqs or2 and2 seq2 allS tcs updt ofT tabR rowT relR invU

set_option maxHeartbeats 2000000 in
theorem rel_any (t : Tb) (w : World) : Calls Try.prog 53 #[.agg (tcs t)] w fun x w' => x = .returned (.agg (cells (relR t))) ∧ Grow w w' := by
  have e1 : (w.alloc (.cells (tcs t) 60)).heap.size = w.heap.size + 1 := by simp
  have e2 : ((w.alloc (.cells (tcs t) 60)).alloc (.cells (cells nil) 28)).heap.size = w.heap.size + 2 := by simp
  go_enter Try.func53, Try.ntmps53
  go_wp2_with (first | (refine al _ e1 ?_) | (refine al _ e2 ?_))
  clear e1 e2
  have h0 : Hid (Grow w (((w.alloc (.cells (tcs t) 60)).alloc (.cells (cells nil) 28)).alloc (.cells (cells nil) 28))) := (((Grow.refl w).alloc _).alloc _).alloc _
  have h1 : Tt (((w.alloc (.cells (tcs t) 60)).alloc (.cells (cells nil) 28)).alloc (.cells (cells nil) 28)) w.heap.size t := ((Tt.new w t).alloc _).alloc _
  have h2 : At (((w.alloc (.cells (tcs t) 60)).alloc (.cells (cells nil) 28)).alloc (.cells (cells nil) 28)) (w.heap.size + 1) nil := by simpa using (At.new (w.alloc (.cells (tcs t) 60)) nil).alloc _
  have h3 : At (((w.alloc (.cells (tcs t) 60)).alloc (.cells (cells nil) 28)).alloc (.cells (cells nil) 28)) (w.heap.size + 2) nil := by simpa using At.new ((w.alloc (.cells (tcs t) 60)).alloc (.cells (cells nil) 28)) nil
  generalize (((w.alloc (.cells (tcs t) 60)).alloc (.cells (cells nil) 28)).alloc (.cells (cells nil) 28)) = w0 at h0 h1 h2 h3 ⊢
  go_loopw [4] (fun i wr => ∃ k : Nat, k ≤ 32 ∧ i = .int .i64 k ∧ Grow w wr ∧ Tt wr w.heap.size t ∧ At wr (w.heap.size + 1) nil ∧ At wr (w.heap.size + 2) (part k (relR t) nil)) (fun i _ => 32 - (intOf i).toNat)
  case atStart => exact ⟨0, by omega, rfl, h0.out, h1, h2, by rw [part_zero]; exact h3⟩
  case round =>
    clear h0 h1 h2 h3
    obtain ⟨k, hk, rfl, hg, ht, hz, ho⟩ := hrel
    by_cases hlt : k < 32
    · have hdk : decide ((k : Int) < 32) = true := by simp; omega
      have HE : Hid (upd (part k (relR t) nil) k (rowT t k 32) = part (k + 1) (relR t) nil) := relR_end t k hlt
      have ho' : At wr (w.heap.size + 2) (upd (part k (relR t) nil) k (rowT t k 0)) := by rw [relR_start]; exact ho
      clear ho
      generalize part k (relR t) nil = R at ho' HE
      go_wp2
      go_loopw [5] (fun i wr => ∃ e : Nat, e ≤ 32 ∧ i = .int .i64 e ∧ Grow w wr ∧ Tt wr w.heap.size t ∧ At wr (w.heap.size + 1) nil ∧ At wr (w.heap.size + 2) (upd R k (rowT t k e))) (fun i _ => 32 - (intOf i).toNat)
      case atStart => exact ⟨0, by omega, rfl, hg, ht, hz, ho'⟩
      case round =>
        clear hg ht hz ho'
        obtain ⟨e, he, rfl, hg, ht, hz, ho⟩ := hrel
        by_cases hlt2 : e < 32
        · have hc := ho.cell k hlt
          rw [row_upd_same _ _ _ hlt] at hc
          have hc2 := ht.cell k e hlt hlt2
          have hf := ho.frozen k
          have hi1 : (k : Int) < 32 := by omega
          have hi2 : (e : Int) < 32 := by omega
          cases hb : t k e
          · have HS : Hid (rowT t k (e + 1) = rowT t k e) := rowT_no hb
            rw [hb] at hc2
            go_wp2
            go_roundw
            case rel => exact ⟨e + 1, by omega, by go_num, hg, ht, hz, by rw [HS.out]; exact ho⟩
            case measure => simp [intOf]; omega
          · have HS : Hid (rowT t k (e + 1) = rowT t k e ||| one e) := rowT_yes hb
            rw [hb] at hc2
            have hp := pow_one e
            have hor := bits_or (rowT t k e) (one e)
            go_wp2
            go_region
            all_goals go_wp2
            all_goals
              go_roundw
              case rel => exact ⟨e + 1, by omega, by go_num, (bset hg (by omega) _).drew, (ht.set_other (by omega) _ _).drew, (hz.set_other (by omega) _ _).drew, by rw [HS.out]; have := ho.set k (rowT t k e ||| one e); rw [upd_upd] at this; first | exact this.drew | (rw [hp, hor]; exact this.drew)⟩
              case measure => simp [intOf]; omega
        · obtain rfl : e = 32 := by omega
          rw [HE.out] at ho
          go_wp2
          go_roundw
          case rel => exact ⟨k + 1, by omega, by go_num, hg, ht, hz, ho⟩
          case measure => simp [intOf]; omega
    · obtain rfl : k = 32 := by omega
      rw [part_full] at ho
      go_wp2_with (first | (refine ld (w.heap.size + 2) (relR t) (by rfl) ho ?_) | (refine st (w.heap.size + 1) nil (relR t) (by rfl) (by rfl) hz ?_))
      exact bodyPost_ret (v := .agg (cells (relR t))) (res rfl _ _ (w.heap.size + 1) _ (by rfl) hz.put) rfl ⟨rfl, below_setRow hg (by omega) _⟩

end Go.Proofs.Ytlbccddhcbcpoaa
