/- What the reference's Inverse returns, for every input. -/
import Derived.Test.YtlbccddhcbcpoaaTabRel
import Derived.Deep.Cut
namespace Go.Proofs.Ytlbccddhcbcpoaa
open Go.RowKit
attribute [local irreducible] wpList cells row U aft inn one nil part upd idr crs mns eqB evB stepP plusT invT uni met sqs or2 and2 seq2 allS tcs updt ofT tabR rowT relR invU

set_option maxHeartbeats 4000000 in
theorem rinv_any (r : Rl) (w : World) : Calls Try.prog 29 #[.agg (cells r)] w fun x w' => x = .returned (.agg (cells (invT r 32))) ∧ Grow w w' := by
  have hr0 := (At.new w r).alloc (.cells (cells nil) 28)
  have hn0 : At ((w.alloc (.cells (cells r) 28)).alloc (.cells (cells nil) 28)) (w.heap.size + 1) nil := by simpa using At.new (w.alloc (.cells (cells r) 28)) nil
  have hg0 : Grow w ((w.alloc (.cells (cells r) 28)).alloc (.cells (cells nil) 28)) := ((Grow.refl w).alloc _).alloc _
  have e1 : (w.alloc (.cells (cells r) 28)).heap.size = w.heap.size + 1 := by simp
  go_enter Try.func29, Try.ntmps29
  go_upto_region 2 with (first | (refine al _ e1 ?_) | (refine ld w.heap.size r (by rfl) hr0 ?_) | (go_at_call 52; refine (of_any r _).mono ?_; rintro e w1 ⟨rfl, hg1⟩) | (refine alt w1.heap.size rfl ?_) | (refine stt w1.heap.size (fun _ _ => false) (tabR r) (by rfl) (by rfl) (Tt.new w1 _) ?_))
  have hT1 : Tt ((w1.alloc (.cells (tcs fun _ _ => false) 60)).setRow w1.heap.size (tcs (tabR r))) w1.heap.size (tabR r) := (Tt.new w1 _).put
  rw [World.setRow_alloc_new] at hT1 ⊢
  have hN1 := (hn0.grow hg1).alloc (.cells (tcs (tabR r)) 60)
  have hG1 := Grow.alloc (Grow.trans hg0 hg1) (.cells (tcs (tabR r)) 60)
  have hlt1 : w.heap.size + 1 < w1.heap.size := (hn0.grow hg1).lt
  have hsz1 : (w1.alloc (.cells (tcs (tabR r)) 60)).heap.size = w1.heap.size + 1 := by simp
  clear hr0 hn0 hg0 e1 hg1
  go_upto_region 3 with (refine alt _ hsz1 ?_)
  have hT2 := hT1.alloc (.cells (tcs fun _ _ => false) 60)
  have hN2 := hN1.alloc (.cells (tcs fun _ _ => false) 60)
  have hG2 := Grow.alloc hG1 (.cells (tcs fun _ _ => false) 60)
  have hV2 := Tt.new (w1.alloc (.cells (tcs (tabR r)) 60)) (fun _ _ => false)
  rw [hsz1] at hV2
  clear hT1 hN1 hG1 hsz1
  generalize (w1.alloc (.cells (tcs (tabR r)) 60)).alloc (.cells (tcs fun _ _ => false) 60) = w2 at hT2 hN2 hG2 hV2 ⊢
  generalize w1.heap.size = G at hT2 hV2 hlt1 ⊢
  go_wp2
  go_loopw [5] (fun i wr => ∃ k : Nat, k ≤ 32 ∧ i = .int .i64 k ∧ Grow w wr ∧ At wr (w.heap.size + 1) nil ∧ Tt wr G (tabR r) ∧ Tt wr (G + 1) (invU r k 0)) (fun i _ => 32 - (intOf i).toNat)
  case atStart => exact ⟨0, by omega, rfl, hG2, hN2, hT2, hV2.congr (fun i j _ _ => (invU_zero r i j).symm)⟩
  case round =>
    clear hG2 hN2 hT2 hV2
    obtain ⟨k, hk, rfl, hg, hz, ht, hv⟩ := hrel
    by_cases hlt : k < 32
    · have hdk : decide ((k : Int) < 32) = true := by simp; omega
      go_wp2
      go_loopw [6] (fun i wr => ∃ e : Nat, e ≤ 32 ∧ i = .int .i64 e ∧ Grow w wr ∧ At wr (w.heap.size + 1) nil ∧ Tt wr G (tabR r) ∧ Tt wr (G + 1) (invU r k e)) (fun i _ => 32 - (intOf i).toNat)
      case atStart => exact ⟨0, by omega, rfl, hg, hz, ht, hv⟩
      case round =>
        clear hg hz ht hv
        obtain ⟨e, he, rfl, hg, hz, ht, hv⟩ := hrel
        by_cases hlt2 : e < 32
        · have hc := ht.cell k e hlt hlt2
          rw [tabR_at] at hc
          have hc2 := hv.cell e k hlt2 hlt
          have hf := hv.frozen (e * 32 + k)
          have hi1 : (k : Int) < 32 := by omega
          have hi2 : (e : Int) < 32 := by omega
          go_wp2
          go_region
          all_goals go_wp2
          all_goals
            go_roundw
            case rel => exact ⟨e + 1, by omega, by go_num, (bset hg (by omega) _).drew, (hz.set_other (by omega) _ _).drew, (ht.set_other (by omega) _ _).drew, ((hv.set e k hlt _).congr (fun i j _ _ => invU_step r k e i j)).drew⟩
            case measure => simp [intOf]; omega
        · obtain rfl : e = 32 := by omega
          go_wp2
          go_roundw
          case rel => exact ⟨k + 1, by omega, by go_num, hg, hz, ht, hv.congr (fun i j hi _ => invU_row r k i j hi)⟩
          case measure => simp [intOf]; omega
    · obtain rfl : k = 32 := by omega
      have HI : Hid (relR (invU r 32 0) = invT r 32) := inv_tab r
      go_wp2_with (first | (refine ldt (G + 1) (invU r 32 0) (by rfl) hv ?_) | (go_at_call 53; refine (rel_any (invU r 32 0) _).mono ?_; rintro e w5 ⟨rfl, hg5⟩; rw [HI.out]; have hz5 := hz.grow hg5) | (refine st (w.heap.size + 1) nil (invT r 32) (by rfl) (by rfl) hz5 ?_))
      exact bodyPost_ret (v := .agg (cells (invT r 32))) (res rfl _ _ (w.heap.size + 1) _ (by rfl) hz5.put) rfl ⟨rfl, below_setRow (Grow.trans hg hg5) (by omega) _⟩

end Go.Proofs.Ytlbccddhcbcpoaa
