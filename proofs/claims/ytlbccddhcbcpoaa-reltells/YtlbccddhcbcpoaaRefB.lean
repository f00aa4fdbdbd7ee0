/- What the reference's Pairs, Irreflexive and Acyclic return, for every input. -/
import Derived.Test.YtlbccddhcbcpoaaStarM
namespace Go.Proofs.Ytlbccddhcbcpoaa
open Go.RowKit

/-- the pairs of the rows below n, and those of row n below e -/
def prq (r : Rl) (n e : Nat) : List (Nat × Nat) := prs r n ++ (lst (row r n) e).map fun b => (n, b)
theorem prq_zero (r : Rl) (n : Nat) : prq r n 0 = prs r n := by simp [prq, lst_zero]
theorem prq_full (r : Rl) (n : Nat) : prq r n 32 = prs r (n + 1) := by rw [prs_succ]; rfl
theorem prq_yes {r : Rl} {n e : Nat} (h : inn (row r n) e = true) : prq r n (e + 1) = prq r n e ++ [(n, e)] := by unfold prq; rw [lst_yes h]; simp
theorem prq_no {r : Rl} {n e : Nat} (h : inn (row r n) e = false) : prq r n (e + 1) = prq r n e := by unfold prq; rw [lst_no h]
theorem prq_len (r : Rl) (n e : Nat) : (prq r n e).length ≤ n * 32 + e := by
  unfold prq; rw [List.length_append, List.length_map]; have := prs_len r n; have := lst_len (row r n) e; omega
theorem irr_no {r : Rl} {k : Nat} (h : inn (row r k) k = true) : irrB r = false := by
  cases hb : irrB r
  · rfl
  · exact absurd h ((irr_iff r).1 hb k)
theorem irr_yes {r : Rl} (h : ∀ k, k < 32 → inn (row r k) k = false) : irrB r = true := (irr_iff r).2 fun a ha => by
  have := h a (has_lt ha).1
  unfold has at ha; rw [ha] at this; cases this
attribute [local irreducible] wpList cells row U aft inn one nil part upd idr crs mns eqB evB stepP plusT invT uni met sqs or2 and2 seq2 allS lst nums prs prt pcs pairT pairS irrB acyB prq

set_option maxHeartbeats 2000000 in
theorem rpairs_any (r : Rl) (w : World) : Calls Try.prog 35 #[.agg (cells r)] w fun x w' => ∃ v, x = .returned v ∧ Grow w w' ∧ Pl w' v (prs r 32) := by
  have h1 := At.new w r
  have hg0 : Grow w (w.alloc (.cells (cells r) 28)) := (Grow.refl w).alloc _
  go_enter Try.func35, Try.ntmps35
  go_wp2
  generalize w.alloc (.cells (cells r) 28) = w0 at h1 hg0 ⊢
  go_loopw [3, 4] (fun v i wr => ∃ k : Nat, k ≤ 32 ∧ i = .int .i64 k ∧ Grow w wr ∧ At wr w.heap.size r ∧ wr.ownsRow (w.heap.size + 1) 29 2 v (prs r k).length (pcs (prs r k))) (fun _ i _ => 32 - (intOf i).toNat)
  case atStart => exact ⟨0, by omega, rfl, hg0, h1, by rw [prs_zero]; exact own_pcs _ _ _ _⟩
  case round =>
    clear hg0 h1
    obtain ⟨k, hk, rfl, hg, hr, ho⟩ := hrel
    by_cases hlt : k < 32
    · have hdk : decide ((k : Int) < 32) = true := by simp; omega
      have ho' : wr.ownsRow (w.heap.size + 1) 29 2 u3 (prq r k 0).length (pcs (prq r k 0)) := by rw [prq_zero]; exact ho
      clear ho
      go_wp2
      go_loopw [3, 5] (fun v i wr => ∃ e : Nat, e ≤ 32 ∧ i = .int .i64 e ∧ Grow w wr ∧ At wr w.heap.size r ∧ wr.ownsRow (w.heap.size + 1) 29 2 v (prq r k e).length (pcs (prq r k e))) (fun _ i _ => 32 - (intOf i).toNat)
      case atStart => exact ⟨0, by omega, rfl, hg, hr, ho'⟩
      case round =>
        clear hg hr ho'
        obtain ⟨e, he, rfl, hg, hr, ho⟩ := hrel
        by_cases hlt2 : e < 32
        · have hc := hr.cell k hlt
          have htest := in_test (row r k) e
          cases hb : inn (row r k) e
          · have HS : Hid (prq r k (e + 1) = prq r k e) := prq_no hb
            rw [hb] at htest
            go_wp2
            go_roundw
            case rel => exact ⟨e + 1, by omega, by go_num, hg, hr, by rw [HS.out]; exact ho⟩
            case measure => simp [intOf]; omega
          · have HS : Hid (prq r k (e + 1) = prq r k e ++ [(k, e)]) := prq_yes hb
            have hlen : (prq r k e).length ≤ 100000 := by have := prq_len r k e; omega
            rw [hb] at htest
            have hlt0 := hr.lt
            have hsz2 := hg.size
            have hc3 : w.heap.size + 1 ≤ wr.heap.size + 1 := by omega
            go_wp2_with (at_builtin; go_must (refine app2 _ (w.heap.size + 1) (prq r k e) k e _ _ (by rfl) (by rfl) (by simp) (by simp) (own_alloc ho _) hlen (by simpa using hc3) ?_))
            intro v' w3 ho3 hb3 hm3
            have hr3 : At w3 w.heap.size r := (hr.alloc _).below hb3 (by omega)
            have hG3 : Grow w w3 := (Below.alloc hg hsz2 _).trans (hb3.mono (by omega))
            clear hm3 hb3
            have HO3 : Hid (w3.ownsRow (w.heap.size + 1) 29 2 v' (prq r k e ++ [(k, e)]).length (pcs (prq r k e ++ [(k, e)]))) := ho3
            clear ho3
            go_wp2
            go_roundw
            case rel => exact ⟨e + 1, by omega, by go_num, hG3, hr3, by rw [HS.out]; exact HO3.out⟩
            case measure => simp [intOf]; omega
        · obtain rfl : e = 32 := by omega
          rw [prq_full] at ho
          go_wp2
          go_roundw
          case rel => exact ⟨k + 1, by omega, by go_num, hg, hr, ho⟩
          case measure => simp [intOf]; omega
    · obtain rfl : k = 32 := by omega
      go_wp2
      go_ret
      exact ⟨_, rfl, hg, own_zero ho⟩

set_option maxHeartbeats 2000000 in
theorem rirr_any (r : Rl) (w : World) : Calls Try.prog 42 #[.agg (cells r)] w fun x w' => x = .returned (.bool (irrB r)) ∧ Grow w w' := by
  have h1 := At.new w r
  have hg0 : Grow w (w.alloc (.cells (cells r) 28)) := (Grow.refl w).alloc _
  go_enter Try.func42, Try.ntmps42
  go_wp2
  generalize w.alloc (.cells (cells r) 28) = w0 at h1 hg0 ⊢
  go_loop [3] (fun i => ∃ k : Nat, k ≤ 32 ∧ i = .int .i64 k ∧ Hid (∀ j, j < k → inn (row r j) j = false)) (fun i => 32 - (intOf i).toNat)
  case atStart => exact ⟨0, by omega, rfl, fun j hj => by omega⟩
  case round =>
    obtain ⟨k, hk, rfl, HK⟩ := hrel
    by_cases hlt : k < 32
    · have hc := h1.cell k hlt
      have htest := in_test (row r k) k
      cases hb : inn (row r k) k
      · have HN : Hid (∀ j, j < k + 1 → inn (row r j) j = false) := fun j hj => by
          rcases Nat.lt_or_ge j k with h | h
          · exact HK.out j h
          · have : j = k := by omega
            rw [this]; exact hb
        rw [hb] at htest
        go_wp2
        go_round
        case rel => exact ⟨k + 1, by omega, by go_num, HN⟩
        case measure => simp [intOf]; omega
      · have HN : Hid (irrB r = false) := irr_no hb
        rw [hb] at htest
        go_wp2
        go_ret
        exact ⟨ret_bool HN.out.symm, hg0⟩
    · obtain rfl : k = 32 := by omega
      have HN : Hid (irrB r = true) := irr_yes HK.out
      go_wp2
      go_ret
      exact ⟨ret_bool HN.out.symm, hg0⟩

theorem racy_any (r : Rl) (w : World) : Calls Try.prog 44 #[.agg (cells r)] w fun x w' => x = .returned (.bool (acyB r)) ∧ Grow w w' := by
  have h1 := At.new w r
  have hg0 : Grow w (w.alloc (.cells (cells r) 28)) := (Grow.refl w).alloc _
  have hd := acy_def r
  go_enter Try.func44, Try.ntmps44
  go_wp2_with (first | (refine ld w.heap.size r (by rfl) h1 ?_) | (go_at_call 25; refine (rplus_any r _).mono ?_; rintro e w1 ⟨rfl, hg1⟩) | (go_at_call 42; refine (rirr_any _ _).mono ?_; rintro e w2 ⟨rfl, hg2⟩))
  go_ret
  exact ⟨rfl, Grow.trans (Grow.trans hg0 hg1) hg2⟩

end Go.Proofs.Ytlbccddhcbcpoaa
