/- What Pair and Events return of the numbers that a slice holds. -/
import Derived.Test.YtlbccddhcbcpoaaRows2
namespace Go.Proofs.Ytlbccddhcbcpoaa
open Go.RowKit

def pairS (r : Rl) (p : Int × Int) : Rl := if evB p.1 && evB p.2 then upd r p.1.toNat (row r p.1.toNat ||| one p.2.toNat) else r
/-- those of the pairs that are pairs of events -/
def pairT (ps : List (Int × Int)) : Rl := ps.foldl pairS nil
theorem pairT_zero (ps : List (Int × Int)) : pairT (ps.take 0) = nil := rfl
theorem pairT_take {ps : List (Int × Int)} {j : Nat} {p : Int × Int} (h : ps[j]? = some p) : pairT (ps.take (j + 1)) = pairS (pairT (ps.take j)) p := by
  unfold pairT; rw [List.take_add_one, h, List.foldl_append]; rfl
theorem pairS_no {r : Rl} {x y : Int} (h : (evB x && evB y) = false) : pairS r (x, y) = r := by simp [pairS, h]
theorem pairS_yes {r : Rl} {i j : Nat} (hi : evB i = true) (hj : evB j = true) : pairS r ((i : Int), (j : Int)) = upd r i (row r i ||| one j) := by simp [pairS, hi, hj]
attribute [local irreducible] wpList cells row U aft inn one nil part upd idr crs mns eqB evB stepP plusT invT uni met sqs or2 and2 seq2 allS lst nums prs prt pcs pairT pairS

set_option maxHeartbeats 2000000 in
theorem pair_sl (ps : List (Int × Int)) (b o cap : Nat) (w : World) (hb : b < w.heap.size) (hl : ps.length ≤ 1000000)
    (HR : Hid (∀ j x y, ps[j]? = some (x, y) → w.cell? ⟨b, o + j * 2, none⟩ = some (.int .i64 x) ∧ w.cell? ⟨b, o + j * 2 + 1, none⟩ = some (.int .i64 y))) :
    Calls Try.prog 14 #[.slice (some ⟨b, o, none⟩) ps.length cap] w fun x w' => x = .returned (.agg (cells (pairT ps))) ∧ Grow w w' := by
  go_enter Try.func14, Try.ntmps14
  go_wp2
  rw [nil_lit]
  have h0 : Hid (Grow w ((w.alloc (.cells (cells nil) 28)).alloc (.cells (cells nil) 28))) := ((Grow.refl w).alloc _).alloc _
  have h1 : At ((w.alloc (.cells (cells nil) 28)).alloc (.cells (cells nil) 28)) w.heap.size nil := (At.new w nil).alloc _
  have h2 : At ((w.alloc (.cells (cells nil) 28)).alloc (.cells (cells nil) 28)) (w.heap.size + 1) nil := by simpa using At.new (w.alloc (.cells (cells nil) 28)) nil
  generalize ((w.alloc (.cells (cells nil) 28)).alloc (.cells (cells nil) 28)) = w0 at h0 h1 h2 ⊢
  have hHG : w.heap.size < w.heap.size + 1 := by omega
  generalize w.heap.size + 1 = G at h2 hHG ⊢
  go_loopw [8] (fun i wr => ∃ j : Nat, j ≤ ps.length ∧ i = .int .i64 j ∧ Grow w wr ∧ At wr w.heap.size nil ∧ At wr G (pairT (ps.take j))) (fun i _ => ps.length - (intOf i).toNat)
  case atStart => exact ⟨0, by omega, rfl, h0.out, h1, by rw [pairT_zero]; exact h2⟩
  case round =>
    clear h0 h1 h2
    obtain ⟨j, hj, rfl, hg, hr, ho⟩ := hrel
    by_cases hlt : j < ps.length
    · obtain ⟨x, y, Hp⟩ : ∃ x y, Hid (ps[j]? = some (x, y)) := ⟨ps[j].1, ps[j].2, List.getElem?_eq_getElem hlt⟩
      obtain ⟨hcx, hcy⟩ := HR.out j x y Hp.out
      have hcx' : wr.cell? ⟨b, o + j * 2, none⟩ = some (.int .i64 x) := by rw [hg.cell (p := ⟨b, o + j * 2, none⟩) hb]; exact hcx
      have hcy' : wr.cell? ⟨b, o + j * 2 + 1, none⟩ = some (.int .i64 y) := by rw [hg.cell (p := ⟨b, o + j * 2 + 1, none⟩) hb]; exact hcy
      clear hcx hcy
      have HT : Hid (pairT (ps.take (j + 1)) = pairS (pairT (ps.take j)) (x, y)) := pairT_take Hp.out
      generalize pairT (ps.take j) = R at ho HT
      cases hx : evB x
      · have HN : Hid (pairS R (x, y) = R) := pairS_no (by rw [hx]; rfl)
        go_wp2_with (go_at_call 47; refine (isEvent_any _ _).mono ?_; rintro e w' ⟨rfl, rfl⟩)
        go_roundw
        case rel => exact ⟨j + 1, by omega, by go_num, Grow.alloc hg _, hr.alloc _, by rw [HT.out, HN.out]; exact ho.alloc _⟩
        case measure => simp [intOf]; omega
      · obtain ⟨m, rfl, hm⟩ := ev_nat hx
        cases hy : evB y
        · have HN : Hid (pairS R ((m : Int), y) = R) := pairS_no (by rw [hy]; simp)
          go_wp2_with (go_at_call 47; refine (isEvent_any _ _).mono ?_; rintro e w' ⟨rfl, rfl⟩)
          go_roundw
          case rel => exact ⟨j + 1, by omega, by go_num, Grow.alloc hg _, hr.alloc _, by rw [HT.out, HN.out]; exact ho.alloc _⟩
          case measure => simp [intOf]; omega
        · obtain ⟨n, rfl, hn⟩ := ev_nat hy
          have HN : Hid (pairS R ((m : Int), (n : Int)) = upd R m (row R m ||| one n)) := pairS_yes hx hy
          have hGw := ho.lt
          have hoA := ho.alloc (.cells #[.int .i64 (m : Int), .int .i64 (n : Int)] 29)
          have hcm := ho.cell m hm
          have hfm := ho.frozen m
          have hor := bits_or (row R m) (one n)
          have hm1 : (m : Int) < 32 := by omega
          go_wp2_with (go_at_call 47; refine (isEvent_any _ _).mono ?_; rintro e w' ⟨rfl, rfl⟩)
          go_region_with (go_at_call 48; refine (only_any _ hn _).mono ?_; rintro e w' ⟨rfl, rfl⟩)
          all_goals go_wp2
          all_goals
            go_roundw
            case rel => exact ⟨j + 1, by omega, by go_num, Grow.drew (Grow.alloc (bset hg (by omega) _) _), ((hr.set_other (by omega) _ _).alloc _).drew, by rw [HT.out, HN.out]; exact ((ho.set m _).alloc _).drew⟩
            case measure => simp [intOf]; omega
    · obtain rfl : j = ps.length := by omega
      rw [List.take_length] at ho
      go_wp2_with (first | (refine ld G (pairT ps) (by rfl) ho ?_) | (refine st w.heap.size nil (pairT ps) (by rfl) (by rfl) hr ?_))
      exact bodyPost_ret (v := .agg (cells (pairT ps))) (res rfl _ _ w.heap.size _ (by rfl) hr.put) rfl ⟨rfl, below_setRow hg (by omega) _⟩

/-- the set of those numbers that are events -/
def evS (s : St) (x : Int) : St := if evB x then s ||| one x.toNat else s
def evs (l : List Int) : St := l.foldl evS 0#32
theorem evs_zero (l : List Int) : U (evs (l.take 0)) = 0 := U_zero
theorem evs_take {l : List Int} {j : Nat} {x : Int} (h : l[j]? = some x) : evs (l.take (j + 1)) = evS (evs (l.take j)) x := by
  unfold evs; rw [List.take_add_one, h, List.foldl_append]; rfl
theorem evS_no {s : St} {x : Int} (h : evB x = false) : evS s x = s := by simp [evS, h]
theorem evS_yes {s : St} {i : Nat} (h : evB i = true) : evS s (i : Int) = s ||| one i := by simp [evS, h]
attribute [local irreducible] evS evs
set_option maxHeartbeats 2000000 in
theorem events_sl (l : List Int) (b o cap : Nat) (w : World) (hl : l.length ≤ 1000000) (HR : Hid (∀ j x, l[j]? = some x → w.cell? ⟨b, o + j, none⟩ = some (.int .i64 x))) :
    Calls Try.prog 10 #[.slice (some ⟨b, o, none⟩) l.length cap] w fun x w' => x = .returned (.int .u32 (U (evs l))) ∧ w' = w := by
  go_enter Try.func10, Try.ntmps10
  go_wp2
  go_loop [3, 8] (fun v i => ∃ j : Nat, j ≤ l.length ∧ i = .int .i64 j ∧ v = .int .u32 (U (evs (l.take j)))) (fun _ i => l.length - (intOf i).toNat)
  case atStart => exact ⟨0, by omega, rfl, by rw [evs_zero]⟩
  case round =>
    obtain ⟨j, hj, rfl, rfl⟩ := hrel
    by_cases hlt : j < l.length
    · obtain ⟨x, Hp⟩ : ∃ x, Hid (l[j]? = some x) := ⟨l[j], List.getElem?_eq_getElem hlt⟩
      have hcx := HR.out j x Hp.out
      have HT : Hid (evs (l.take (j + 1)) = evS (evs (l.take j)) x) := evs_take Hp.out
      generalize evs (l.take j) = R at HT ⊢
      cases hx : evB x
      · have HN : Hid (evS R x = R) := evS_no hx
        go_wp2_with (go_at_call 47; refine (isEvent_any _ _).mono ?_; rintro e w' ⟨rfl, rfl⟩)
        go_round
        case rel => exact ⟨j + 1, by omega, by go_num, by rw [HT.out, HN.out]⟩
        case measure => simp [intOf]; omega
      · obtain ⟨m, rfl, hm⟩ := ev_nat hx
        have HN : Hid (evS R (m : Int) = R ||| one m) := evS_yes hx
        have hor := bits_or R (one m)
        go_wp2_with (first | (go_at_call 47; refine (isEvent_any _ _).mono ?_; rintro e w' ⟨rfl, rfl⟩) | (go_at_call 48; refine (only_any _ hm _).mono ?_; rintro e w' ⟨rfl, rfl⟩))
        go_round
        case rel => exact ⟨j + 1, by omega, by go_num, by rw [HT.out, HN.out]⟩
        case measure => simp [intOf]; omega
    · obtain rfl : j = l.length := by omega
      go_wp2
      go_ret
      exact ⟨rfl, rfl⟩

end Go.Proofs.Ytlbccddhcbcpoaa
