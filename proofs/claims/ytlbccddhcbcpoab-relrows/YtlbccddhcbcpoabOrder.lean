/- What Order returns, for every input. -/
import Derived.Test.YtlbccddhcbcpoabArgs
import Derived.Deep.Cut
namespace Go.Proofs.Ytlbccddhcbcpoab
open Go.RowKit

/-- those left that nothing left has ahead of it -/
def freeS (r : Rl) (s : St) : St := s &&& ~~~aft s r 32
/-- the row, with so many places at most -/
def ordT (r : Rl) : Nat → St → List Nat → Option (List Nat)
  | 0, _, _ => none
  | f + 1, s, acc => if s = 0#32 then some acc else match lst (freeS r s) 32 with
    | [] => none
    | x :: _ => ordT r f (s &&& ~~~one x) (acc ++ [x])
theorem ordT_done {r : Rl} {f : Nat} {s : St} {acc : List Nat} (h : s = 0#32) : ordT r (f + 1) s acc = some acc := by simp [ordT, h]
theorem ordT_none {r : Rl} {f : Nat} {s : St} {acc : List Nat} (h : s ≠ 0#32) (hl : lst (freeS r s) 32 = []) : ordT r (f + 1) s acc = none := by simp [ordT, h, hl]
theorem ordT_next {r : Rl} {f : Nat} {s : St} {acc l : List Nat} {x : Nat} (h : s ≠ 0#32) (hl : lst (freeS r s) 32 = x :: l) : ordT r (f + 1) s acc = ordT r f (s &&& ~~~one x) (acc ++ [x]) := by simp [ordT, h, hl]
/-- how many events a set has -/
def card (s : St) : Nat := (lst s 32).length
theorem card_le (s : St) : card s ≤ 32 := lst_len s 32
theorem inn_free {r : Rl} {s : St} {e : Nat} (h : inn (freeS r s) e = true) : inn s e = true := by
  unfold freeS at h; rw [inn_andNot _ _ _ (inn_lt h)] at h; simp at h; exact h.1
theorem lst_drop (s : St) (x : Nat) : lst (s &&& ~~~one x) 32 = (lst s 32).filter (fun e => e != x) := by
  unfold lst
  rw [List.filter_filter]
  apply List.filter_congr
  intro e he
  have he' : e < 32 := by simpa using he
  rw [inn_andNot _ _ _ he', inn_one]
  by_cases h : e = x
  · subst h; simp [he']
  · simp [h]
theorem card_drop {s : St} {x : Nat} (h : inn s x = true) : card (s &&& ~~~one x) < card s := by
  unfold card
  rw [lst_drop]
  exact List.length_filter_lt_length_iff_exists.2 ⟨x, (mem_lst s 32 x).2 ⟨inn_lt h, h⟩, by simp⟩
theorem head_inn {r : Rl} {s : St} {x : Nat} {l : List Nat} (h : lst (freeS r s) 32 = x :: l) : inn (freeS r s) x = true := ((mem_lst (freeS r s) 32 x).1 (by rw [h]; simp)).2
theorem ofInt_card (s : St) : card (BitVec.ofInt 32 (U s)) = card s := by rw [ofInt_U]
theorem u_ne {s : St} (h : s ≠ 0#32) : (U s == 0) = false := by rw [beq_eq_false_iff_ne]; intro e; exact h (U_inj (e.trans U_zero.symm))
theorem u_eq {s : St} (h : s = 0#32) : (U s == 0) = true := by rw [h, U_zero]; rfl
theorem free_def (r : Rl) (s : St) : s &&& ~~~aft s r 32 = freeS r s := rfl
attribute [local irreducible] wpList cells row U aft inn one nil part upd idr crs mns eqB evB stepP plusT invT uni met sqs or2 and2 seq2 allS lst nums prs prt pcs pairT pairS irrB acyB hasB fst pA pB pC has domT ordT freeS card

set_option maxHeartbeats 4000000 in
theorem order_any (u : St) (r : Rl) (w : World) : Calls Try.prog 14 #[.int .u32 (U u), .agg (cells r)] w fun x w' => ∃ v b, x = .returned (.tuple #[v, .bool b]) ∧ Grow w w' ∧
    ((b = false ∧ v = .slice none 0 0 ∧ ordT r 33 u [] = none) ∨ (b = true ∧ ∃ l, ordT r 33 u [] = some l ∧ Il w' v l)) := by
  have h1 := At.new w r
  have hg0 : Grow w (w.alloc (.cells (cells r) 25)) := (Grow.refl w).alloc _
  go_enter Try.func14, Try.ntmps14
  go_wp2
  generalize w.alloc (.cells (cells r) 25) = w0 at h1 hg0 ⊢
  have hk0 := card_le u
  have HO0 : Hid (∃ f, ordT r 33 u [] = ordT r f u [] ∧ card u < f) := ⟨33, rfl, by omega⟩
  go_loopw [6, 7] (fun v s wr => ∃ (left : St) (acc : List Nat), s = .int .u32 (U left) ∧ Grow w wr ∧ At wr w.heap.size r ∧ wr.ownsRow (w.heap.size + 1) 3 1 v acc.length (nums acc) ∧ acc.length + card left ≤ 32 ∧ Hid (∃ f, ordT r 33 u [] = ordT r f left acc ∧ card left < f)) (fun _ s _ => card (BitVec.ofInt 32 (intOf s)))
  case atStart => exact ⟨u, [], rfl, hg0, h1, own_nums _ _ _ _, by simpa using hk0, HO0⟩
  case round =>
    clear h1 hg0 hk0 HO0
    obtain ⟨left, acc, rfl, hg, hr, ho, hcard, HO⟩ := hrel
    have hlt0 := hr.lt
    by_cases hz : left = 0#32
    · have hzb := u_eq hz
      have HR : Hid (ordT r 33 u [] = some acc) := by
        obtain ⟨f, h1, h2⟩ := HO.out
        cases f with
        | zero => omega
        | succ f => exact h1.trans (ordT_done hz)
      clear hz
      go_wp2
      go_ret2
      exact ⟨_, true, rfl, hg, .inr ⟨rfl, acc, HR.out, own_zero ho⟩⟩
    · have hzb := u_ne hz
      have hand := bits_andNot left (aft left r 32)
      rw [free_def] at hand
      obtain ⟨l, Hl⟩ : ∃ l, Hid (l = lst (freeS r left) 32) := ⟨_, rfl⟩
      have hll : l.length ≤ 32 := by rw [Hl.out]; exact lst_len _ _
      go_upto_region 5 with (first | (refine ld w.heap.size r (by rfl) hr ?_) | (go_at_call 27; refine (after_any left r _).mono ?_; rintro e w1 ⟨rfl, hg1⟩) | (go_at_call 18; refine (list_any (freeS r left) _).mono ?_; rintro e w2 ⟨v2, rfl, hg2, hi2⟩))
      have ho2 := own_grow hg2 (own_grow hg1 ho)
      have hap2 := apart_new (own_grow hg1 ho) hi2
      have hi2 := own_zero hi2
      have hG2 := Grow.trans (Grow.trans hg hg1) hg2
      have hr2 := (hr.grow hg1).grow hg2
      have hi2 : Il w2 v2 l := by rw [Hl.out]; exact hi2
      clear hg hr ho hg1 hg2
      obtain ⟨ad2, cap2, hv2⟩ := Il.form hi2
      subst hv2
      cases hlc : l with
      | nil =>
        have HN : Hid (ordT r 33 u [] = none) := by
          obtain ⟨f, h1, h2⟩ := HO.out
          cases f with
          | zero => omega
          | succ f => exact h1.trans (ordT_none hz (by rw [← Hl.out, hlc]))
        have hl0 : l.length = 0 := by rw [hlc]; rfl
        clear hz
        go_wp2
        go_ret2
        exact ⟨_, false, rfl, hG2, .inl ⟨rfl, rfl, HN.out⟩⟩
      | cons x l' =>
        have hx : l[0]? = some x := by rw [hlc]; rfl
        have hxf := head_inn (r := r) (s := left) (x := x) (l := l') (by rw [← Hl.out, hlc])
        have hx32 := inn_lt hxf
        have hxl := inn_free hxf
        have hcd := card_drop hxl
        obtain ⟨g, cap, hv, hgl, hcx⟩ := hi2.cell hx
        cases hv
        have hpos : 0 < l.length := by rw [hlc]; simp
        have hl1 : ((l.length : Int) == 0) = false := by rw [beq_eq_false_iff_ne]; omega
        have HN : Hid (∃ f, ordT r 33 u [] = ordT r f (left &&& ~~~one x) (acc ++ [x]) ∧ card (left &&& ~~~one x) < f) := by
          obtain ⟨f, h1, h2⟩ := HO.out
          cases f with
          | zero => omega
          | succ f => exact ⟨f, h1.trans (ordT_next hz (by rw [← Hl.out, hlc])), by omega⟩
        have HX0 : Hid (l[0]? = some x) := hx
        clear hz hx hlc HO hxf hxl
        have hsz2 := hG2.size
        have hand2 := bits_andNot left (one x)
        go_upto_region 8 with (at_builtin; go_must (refine app1 _ (w.heap.size + 1) acc x _ _ (by rfl) (by rfl) ?c1 (own_alloc ho2 _) ?c2 ?c3 ?_))
        case c1 => simp
        case c2 => omega
        case c3 => have := hr2.lt; simp; omega
        intro v' w3 ho3 hb3 hm3
        have hi3 : Il w3 (.slice (some ⟨g, 0, none⟩) l.length cap2) l := own_moved (own_alloc hi2 _) (hap2.alloc _) hm3
        have Hx : Hid (l[0]? = some x) := HX0
        obtain ⟨g', cap', hv', hgl', hcx'⟩ := hi3.cell Hx.out
        cases hv'
        have hr3 : At w3 w.heap.size r := (hr2.alloc _).below hb3 (by omega)
        have hG3 : Grow w w3 := (Below.alloc hG2 hsz2 _).trans (hb3.mono (by omega))
        clear hcx hi2 hap2 ho2 hi3 hm3 hb3
        go_wp2_with (go_at_call 28; refine (only_any _ hx32 _).mono ?_; rintro e w' ⟨rfl, rfl⟩)
        go_roundw
        case rel => exact ⟨left &&& ~~~one x, acc ++ [x], rfl, hG3, hr3, ho3, by rw [List.length_append]; simp; omega, HN⟩
        case measure => simp [intOf, ofInt_card]; exact hcd

end Go.Proofs.Ytlbccddhcbcpoab
