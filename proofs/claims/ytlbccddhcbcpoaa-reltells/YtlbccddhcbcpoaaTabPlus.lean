/- What the reference's Plus returns, for every input. -/
import Derived.Test.YtlbccddhcbcpoaaTabRel
import Derived.Deep.Cut
namespace Go.Proofs.Ytlbccddhcbcpoaa
open Go.RowKit
/-- one pass, as far as it is done -/
def passT (T : Tb) (k a b : Nat) : Tb := fun i j => if i < a ∨ (i = a ∧ j < b) then T i j || (T i k && T k j) else T i j
theorem passT_zero (T : Tb) (k i j : Nat) : passT T k 0 0 i j = T i j := by simp [passT]
theorem passT_row (T : Tb) (k a i j : Nat) (hj : j < 32) : passT T k a 32 i j = passT T k (a + 1) 0 i j := by
  unfold passT
  have : (i < a ∨ (i = a ∧ j < 32)) ↔ (i < a + 1 ∨ (i = a + 1 ∧ j < 0)) := by omega
  simp only [this]
theorem passT_step (T : Tb) (k a b i j : Nat) : updt (passT T k a b) a b (T a b || (T a k && T k b)) i j = passT T k a (b + 1) i j := by
  unfold updt passT
  by_cases h : i = a ∧ j = b
  · obtain ⟨rfl, rfl⟩ := h; simp
  · rw [if_neg h]
    have : (i < a ∨ (i = a ∧ j < b)) ↔ (i < a ∨ (i = a ∧ j < b + 1)) := by omega
    simp only [this]
theorem passT_at (T : Tb) (k a b : Nat) : passT T k a b a b = T a b := by unfold passT; rw [if_neg (by omega)]
theorem passT_l (T : Tb) (k a b : Nat) : passT T k a b a k = T a k := by
  unfold passT; split
  · cases T a k <;> simp
  · rfl
theorem passT_r (T : Tb) (k a b : Nat) : passT T k a b k b = T k b := by
  unfold passT; split
  · cases T k b <;> simp
  · rfl
theorem pass_full (r : Rl) (k i j : Nat) (hi : i < 32) : passT (tabR (plusT r k)) k 32 0 i j = tabR (plusT r (k + 1)) i j := by
  unfold passT
  rw [if_pos (.inl hi), Bool.eq_iff_iff]
  have := has_stepP k (plusT r k) i j
  unfold has at this
  rw [plusT_succ]
  unfold tabR
  rw [this]; simp
theorem tab_rel (r : Rl) : relR (tabR r) = r := rl_ext fun a b => by
  rw [has_relR]
  unfold tabR has
  exact ⟨fun h => h.2.2, fun h => ⟨(has_lt h).1, (has_lt h).2, h⟩⟩
attribute [local irreducible] wpList cells row U aft inn one nil part upd idr crs mns eqB evB stepP plusT invT uni met sqs or2 and2 seq2 allS tcs updt ofT tabR rowT relR invU

attribute [local irreducible] passT

set_option maxHeartbeats 8000000 in
theorem rplus_any (r : Rl) (w : World) : Calls Try.prog 25 #[.agg (cells r)] w fun x w' => x = .returned (.agg (cells (plusT r 32))) ∧ Grow w w' := by
  have hr0 := (At.new w r).alloc (.cells (cells nil) 28)
  have hn0 : At ((w.alloc (.cells (cells r) 28)).alloc (.cells (cells nil) 28)) (w.heap.size + 1) nil := by simpa using At.new (w.alloc (.cells (cells r) 28)) nil
  have hg0 : Grow w ((w.alloc (.cells (cells r) 28)).alloc (.cells (cells nil) 28)) := ((Grow.refl w).alloc _).alloc _
  have e1 : (w.alloc (.cells (cells r) 28)).heap.size = w.heap.size + 1 := by simp
  go_enter Try.func25, Try.ntmps25
  go_upto_region 2 with (first | (refine al _ e1 ?_) | (refine ld w.heap.size r (by rfl) hr0 ?_) | (go_at_call 52; refine (of_any r _).mono ?_; rintro e w1 ⟨rfl, hg1⟩) | (refine alt w1.heap.size rfl ?_) | (refine stt w1.heap.size (fun _ _ => false) (tabR r) (by rfl) (by rfl) (Tt.new w1 _) ?_))
  have hT1 : Tt ((w1.alloc (.cells (tcs fun _ _ => false) 60)).setRow w1.heap.size (tcs (tabR r))) w1.heap.size (tabR r) := (Tt.new w1 _).put
  rw [World.setRow_alloc_new] at hT1 ⊢
  have hN1 := (hn0.grow hg1).alloc (.cells (tcs (tabR r)) 60)
  have hG1 := Grow.alloc (Grow.trans hg0 hg1) (.cells (tcs (tabR r)) 60)
  have hlt1 : w.heap.size + 1 < w1.heap.size := (hn0.grow hg1).lt
  clear hr0 hn0 hg0 e1 hg1
  generalize w1.alloc (.cells (tcs (tabR r)) 60) = w2 at hT1 hN1 hG1 ⊢
  generalize w1.heap.size = G at hT1 hlt1 ⊢
  go_wp2
  go_loopw [4] (fun i wr => ∃ k : Nat, k ≤ 32 ∧ i = .int .i64 k ∧ Grow w wr ∧ At wr (w.heap.size + 1) nil ∧ Tt wr G (tabR (plusT r k))) (fun i _ => 32 - (intOf i).toNat)
  case atStart => exact ⟨0, by omega, rfl, hG1, hN1, by rw [plusT_zero]; exact hT1⟩
  case round =>
    clear hG1 hN1 hT1
    obtain ⟨k, hk, rfl, hg, hz, ht⟩ := hrel
    by_cases hlt : k < 32
    · have hdk : decide ((k : Int) < 32) = true := by simp; omega
      have HF : Hid (∀ i j, i < 32 → passT (tabR (plusT r k)) k 32 0 i j = tabR (plusT r (k + 1)) i j) := fun i j hi => pass_full r k i j hi
      generalize tabR (plusT r k) = T at ht HF
      go_wp2
      go_loopw [5] (fun i wr => ∃ a : Nat, a ≤ 32 ∧ i = .int .i64 a ∧ Grow w wr ∧ At wr (w.heap.size + 1) nil ∧ Tt wr G (passT T k a 0)) (fun i _ => 32 - (intOf i).toNat)
      case atStart => exact ⟨0, by omega, rfl, hg, hz, ht.congr (fun i j _ _ => (passT_zero T k i j).symm)⟩
      case round =>
        clear hg hz ht
        obtain ⟨a, ha, rfl, hg, hz, ht⟩ := hrel
        by_cases hlta : a < 32
        · have hda : decide ((a : Int) < 32) = true := by simp; omega
          go_wp2
          go_loopw [6] (fun i wr => ∃ b : Nat, b ≤ 32 ∧ i = .int .i64 b ∧ Grow w wr ∧ At wr (w.heap.size + 1) nil ∧ Tt wr G (passT T k a b)) (fun i _ => 32 - (intOf i).toNat)
          case atStart => exact ⟨0, by omega, rfl, hg, hz, ht⟩
          case round =>
            clear hg hz ht
            obtain ⟨b, hb, rfl, hg, hz, ht⟩ := hrel
            by_cases hltb : b < 32
            · have c1 := ht.cell a b hlta hltb
              have c2 := ht.cell a k hlta hlt
              have c3 := ht.cell k b hlt hltb
              rw [passT_at] at c1
              rw [passT_l] at c2
              rw [passT_r] at c3
              have hf := ht.frozen (a * 32 + b)
              have hi1 : (k : Int) < 32 := by omega
              have hi2 : (a : Int) < 32 := by omega
              have hi3 : (b : Int) < 32 := by omega
              have HT : Hid (∀ v, v = (T a b || (T a k && T k b)) → Tt (wr.setCell ⟨G, a * 32 + b, none⟩ (.bool v)) G (passT T k a (b + 1))) := fun v hv => by rw [hv]; exact (ht.set a b hltb _).congr (fun i j _ _ => passT_step T k a b i j)
              cases x1 : T a b
              · cases x2 : T a k
                · rw [x1] at c1; rw [x2] at c2
                  go_wp2
                  go_region
                  all_goals go_wp2
                  all_goals
                    go_roundw
                    case rel => exact ⟨b + 1, by omega, by go_num, (bset hg (by omega) _).drew, (hz.set_other (by omega) _ _).drew, (HT.out _ (by rw [x1, x2]; rfl)).drew⟩
                    case measure => simp [intOf]; omega
                · rw [x1] at c1; rw [x2] at c2
                  go_wp2
                  go_region
                  all_goals go_wp2
                  all_goals
                    go_roundw
                    case rel => exact ⟨b + 1, by omega, by go_num, (bset hg (by omega) _).drew, (hz.set_other (by omega) _ _).drew, (HT.out _ (by rw [x1, x2]; simp)).drew⟩
                    case measure => simp [intOf]; omega
              · rw [x1] at c1
                go_wp2
                go_region
                all_goals go_wp2
                all_goals
                  go_roundw
                  case rel => exact ⟨b + 1, by omega, by go_num, (bset hg (by omega) _).drew, (hz.set_other (by omega) _ _).drew, (HT.out _ (by rw [x1]; rfl)).drew⟩
                  case measure => simp [intOf]; omega
            · obtain rfl : b = 32 := by omega
              go_wp2
              go_roundw
              case rel => exact ⟨a + 1, by omega, by go_num, hg, hz, ht.congr (fun i j _ hj => passT_row T k a i j hj)⟩
              case measure => simp [intOf]; omega
        · obtain rfl : a = 32 := by omega
          go_wp2
          go_roundw
          case rel => exact ⟨k + 1, by omega, by go_num, hg, hz, ht.congr (fun i j hi _ => HF.out i j hi)⟩
          case measure => simp [intOf]; omega
    · obtain rfl : k = 32 := by omega
      have HI : Hid (relR (tabR (plusT r 32)) = plusT r 32) := tab_rel _
      go_wp2_with (first | (refine ldt G (tabR (plusT r 32)) (by rfl) ht ?_) | (go_at_call 53; refine (rel_any (tabR (plusT r 32)) _).mono ?_; rintro e w5 ⟨rfl, hg5⟩; rw [HI.out]; have hz5 := hz.grow hg5) | (refine st (w.heap.size + 1) nil (plusT r 32) (by rfl) (by rfl) hz5 ?_))
      exact bodyPost_ret (v := .agg (cells (plusT r 32))) (res rfl _ _ (w.heap.size + 1) _ (by rfl) hz5.put) rfl ⟨rfl, below_setRow (Grow.trans hg hg5) (by omega) _⟩

end Go.Proofs.Ytlbccddhcbcpoaa
