/- What the reference's In and Order return, and whether two rows of numbers are the same. -/
import Derived.Test.YtlbccddhcbcpoaaOrderT
import Derived.Deep.QuietTactic
import Derived.BigQuiet
namespace Go.Proofs.Ytlbccddhcbcpoaa
open Go.RowKit

theorem rin_any (s : St) (e : Nat) (he : e < 32) (w : World) : Calls Try.prog 50 #[.int .u32 (U s), .int .i64 e] w fun x w' => x = .returned (.bool (inn s e)) ∧ w' = w := by
  go_enter Try.func50, Try.ntmps50
  go_wp2
  go_ret
  exact ⟨ret_bool (in_test s e), rfl⟩

/-- no event of the set below n has this one ahead of it -/
def frT (s : St) (r : Rl) (e n : Nat) : Bool := (List.range n).all fun k => !(inn s k && inn (row r k) e)
theorem frT_zero (s : St) (r : Rl) (e : Nat) : frT s r e 0 = true := rfl
theorem frT_succ (s : St) (r : Rl) (e n : Nat) : frT s r e (n + 1) = (frT s r e n && !(inn s n && inn (row r n) e)) := by
  unfold frT; rw [List.range_succ, List.all_append]; simp
theorem frT_full {s : St} {r : Rl} {e : Nat} (h : inn s e = true) : frT s r e 32 = inn (freeS r s) e := by
  rw [Bool.eq_iff_iff]
  unfold frT
  rw [List.all_eq_true]
  constructor
  · intro hall
    unfold freeS
    rw [inn_andNot _ _ _ (inn_lt h), h]
    cases hb : inn (aft s r 32) e
    · rfl
    · obtain ⟨k, h1, h2⟩ := (inn_after s r e).1 hb
      have := hall k (by simpa using inn_lt h1)
      have h3 : inn (row r k) e = true := h2
      rw [h1, h3] at this; cases this
  · intro hf k hk
    have := (free_spec hf).2 k
    cases h1 : inn s k
    · rfl
    · cases h2 : inn (row r k) e
      · rfl
      · exact absurd h2 (this h1)
theorem free_out {r : Rl} {s : St} {e : Nat} (h : inn s e = false) : inn (freeS r s) e = false := by
  cases hb : inn (freeS r s) e
  · rfl
  · have := inn_free hb; rw [h] at this; cases this
theorem lst_head {s : St} {x : Nat} (h0 : lst s x = []) (hx : inn s x = true) : ∀ n, x < n → ∃ l, lst s n = x :: l
  | 0, h => by omega
  | n + 1, h => by
    by_cases hn : n = x
    · subst hn; rw [lst_yes hx, h0]; exact ⟨[], rfl⟩
    · obtain ⟨l, hl⟩ := lst_head h0 hx n (by omega)
      cases hb : inn s n
      · rw [lst_no hb]; exact ⟨l, hl⟩
      · rw [lst_yes hb, hl]; exact ⟨l ++ [n], rfl⟩
/-- what Order answers -/
def Ans (r : Rl) (u : St) (w : World) (x : Ending) (w' : World) : Prop :=
  ∃ v b, x = .returned (.tuple #[v, .bool b]) ∧ Grow w w' ∧ ((b = false ∧ v = .slice none 0 0 ∧ ordT r 33 u [] = none) ∨ (b = true ∧ ∃ l, ordT r 33 u [] = some l ∧ Il w' v l))
theorem ans_no {r : Rl} {u : St} {w w' : World} (hg : Grow w w') (h : ordT r 33 u [] = none) : Ans r u w (.returned (.tuple #[.slice none 0 0, .bool false])) w' := ⟨_, _, rfl, hg, .inl ⟨rfl, rfl, h⟩⟩
theorem ans_yes {r : Rl} {u : St} {w w' : World} {v : Value} {l : List Nat} (hg : Grow w w') (h : ordT r 33 u [] = some l) (hi : Il w' v l) : Ans r u w (.returned (.tuple #[v, .bool true])) w' := ⟨_, _, rfl, hg, .inr ⟨rfl, l, h, hi⟩⟩
theorem sh_one (e : Nat) : (2 : Int) ^ e % 4294967296 = U (one e) := pow_one e
theorem Grow_drewN (w : World) (n : Nat) : Grow w (w.drewN n) := ⟨rfl, rfl, rfl, Nat.le_refl _, fun _ _ => rfl⟩
attribute [local irreducible] wpList cells row U aft inn one nil part upd idr crs mns eqB evB stepP plusT invT uni met sqs or2 and2 seq2 allS lst nums prs prt pcs pairT pairS irrB acyB hasB fst pA pB pC has domT ordT freeS card frT Ans

set_option maxHeartbeats 8000000 in
theorem rorder_any (u : St) (r : Rl) (w : World) : Calls Try.prog 46 #[.int .u32 (U u), .agg (cells r)] w fun x w' => Ans r u w x w' := by
  have h1 := At.new w r
  have hg0 : Grow w (w.alloc (.cells (cells r) 28)) := (Grow.refl w).alloc _
  go_enter Try.func46, Try.ntmps46
  go_wp2
  generalize w.alloc (.cells (cells r) 28) = w0 at h1 hg0 ⊢
  have hk0 := card_le u
  have HO0 : Hid (∃ f, ordT r 33 u [] = ordT r f u [] ∧ card u < f) := ⟨33, rfl, by omega⟩
  go_loopw [6, 7] (fun v s wr => ∃ (left : St) (acc : List Nat), s = .int .u32 (U left) ∧ Grow w wr ∧ At wr w.heap.size r ∧ wr.ownsRow (w.heap.size + 1) 3 1 v acc.length (nums acc) ∧ acc.length + card left ≤ 32 ∧ Hid (∃ f, ordT r 33 u [] = ordT r f left acc ∧ card left < f)) (fun _ s _ => card (BitVec.ofInt 32 (intOf s)))
  case atStart => exact ⟨u, [], rfl, hg0, h1, own_nums _ _ _ _, by simpa using hk0, HO0⟩
  case round =>
    clear h1 hg0 hk0 HO0
    obtain ⟨left, acc, rfl, hg, hr, ho, hcard, HO⟩ := hrel
    have hlt0 := hr.lt
    by_cases hz : left = 0#32
    · have hzb := u_eq hz
      have HR : Hid (ordT r 33 u [] = some acc) := by
        obtain ⟨f, h1, h2⟩ := HO.out
        cases f with
        | zero => omega
        | succ f => exact h1.trans (ordT_done hz)
      clear hz
      go_wp2
      go_ret2
      exact ans_yes hg HR.out (own_zero ho)
    · have hzb := u_ne hz
      have hzn : (U left != 0) = true := by simp [bne, hzb]
      have Hz : Hid (left ≠ 0#32) := hz
      clear hz
      go_wp2
      go_loop [8, 9] (fun n i => (∃ e : Nat, e ≤ 32 ∧ i = .int .i64 e ∧ n = .int .i64 (-1) ∧ Hid (lst (freeS r left) e = [])) ∨ (∃ x : Nat, x < 32 ∧ i = .int .i64 (x + 1 : Nat) ∧ n = .int .i64 x ∧ Hid (lst (freeS r left) x = []) ∧ Hid (inn (freeS r left) x = true))) (fun _ i => 33 - (intOf i).toNat)
      case atStart => exact .inl ⟨0, by omega, rfl, rfl, lst_zero _⟩
      case round =>
        rcases hrel with ⟨e, he, rfl, rfl, HE⟩ | ⟨x, hx32, rfl, rfl, HE, HX⟩
        · by_cases hlt : e < 32
          · have hde : decide ((e : Int) < 32) = true := by simp; omega
            cases hin : inn left e
            · have HF : Hid (lst (freeS r left) (e + 1) = []) := (lst_no (free_out hin)).trans HE.out
              go_wp2_with (go_at_call 50; refine (rin_any _ _ hlt _).mono ?_; rintro e w' ⟨rfl, rfl⟩)
              go_round
              case rel => exact .inl ⟨e + 1, by omega, by go_num, rfl, HF⟩
              case measure => simp [intOf]; omega
            · go_wp2_with (go_at_call 50; refine (rin_any _ _ hlt _).mono ?_; rintro e w' ⟨rfl, rfl⟩)
              go_loop [10, 11] (fun b i => ∃ k : Nat, k ≤ 32 ∧ i = .int .i64 k ∧ b = .bool (frT left r e k)) (fun _ i => 32 - (intOf i).toNat)
              case atStart => exact ⟨0, by omega, rfl, by rw [frT_zero]⟩
              case round =>
                obtain ⟨k, hk, rfl, rfl⟩ := hrel
                by_cases hlt3 : k < 32
                · have HS : Hid (frT left r e (k + 1) = (frT left r e k && !(inn left k && inn (row r k) e))) := frT_succ left r e k
                  have hck := hr.cell k hlt3
                  have htest := in_test (row r k) e
                  cases hb : frT left r e k
                  · go_wp2
                    go_round
                    case rel => exact ⟨k + 1, by omega, by go_num, by rw [HS.out, hb]; rfl⟩
                    case measure => simp [intOf]; omega
                  · cases hik : inn left k
                    · go_wp2_with (go_at_call 50; refine (rin_any _ _ hlt3 _).mono ?_; rintro e w' ⟨rfl, rfl⟩)
                      go_round
                      case rel => exact ⟨k + 1, by omega, by go_num, by rw [HS.out, hb, hik]; rfl⟩
                      case measure => simp [intOf]; omega
                    · cases hrk : inn (row r k) e
                      · rw [hrk] at htest
                        go_wp2_with (go_at_call 50; refine (rin_any _ _ hlt3 _).mono ?_; rintro e w' ⟨rfl, rfl⟩)
                        go_round
                        case rel => exact ⟨k + 1, by omega, by go_num, by rw [HS.out, hb, hik, hrk]; rfl⟩
                        case measure => simp [intOf]; omega
                      · rw [hrk] at htest
                        go_wp2_with (go_at_call 50; refine (rin_any _ _ hlt3 _).mono ?_; rintro e w' ⟨rfl, rfl⟩)
                        go_round
                        case rel => exact ⟨k + 1, by omega, by go_num, by rw [HS.out, hb, hik, hrk]; rfl⟩
                        case measure => simp [intOf]; omega
                · obtain rfl : k = 32 := by omega
                  have HF : Hid (frT left r e 32 = inn (freeS r left) e) := frT_full hin
                  cases hb : frT left r e 32
                  · have HF2 : Hid (lst (freeS r left) (e + 1) = []) := (lst_no (by rw [← HF.out, hb])).trans HE.out
                    go_wp2
                    go_round
                    case rel => exact .inl ⟨e + 1, by omega, by go_num, rfl, HF2⟩
                    case measure => simp [intOf]; omega
                  · have HF2 : Hid (inn (freeS r left) e = true) := HF.out.symm.trans hb
                    go_wp2
                    go_round
                    case rel => exact .inr ⟨e, hlt, by go_num, rfl, HE, HF2⟩
                    case measure => simp [intOf]; omega
          · obtain rfl : e = 32 := by omega
            have HN : Hid (ordT r 33 u [] = none) := by
              obtain ⟨f, h1, h2⟩ := HO.out
              cases f with
              | zero => omega
              | succ f => exact h1.trans (ordT_none Hz.out HE.out)
            go_wp2
            go_ret2
            exact ans_no hg HN.out
        · obtain ⟨l', hl'⟩ := lst_head HE.out HX.out 32 hx32
          have hxl := inn_free HX.out
          have hcd := card_drop hxl
          have HN : Hid (∃ f, ordT r 33 u [] = ordT r f (left &&& ~~~one x) (acc ++ [x]) ∧ card (left &&& ~~~one x) < f) := by
            obtain ⟨f, h1, h2⟩ := HO.out
            cases f with
            | zero => omega
            | succ f => exact ⟨f, h1.trans (ordT_next Hz.out hl'), by omega⟩
          clear hl' hxl HO
          have hsz2 := hg.size
          have hand2 := bits_andNot left (one x)
          have hsh := sh_one x
          have hd0 : decide ((x : Int) < 0) = false := by simp
          have hc3 : w.heap.size + 1 ≤ wr.heap.size + 1 := by omega
          have hc2 : acc.length ≤ 100000 := by omega
          go_upto_region 19 with (at_builtin; go_must (refine app1 _ (w.heap.size + 1) acc x _ _ (by rfl) (by rfl) (by simp) (own_alloc ho _) hc2 (by simpa using hc3) ?_))
          all_goals
            intro v' w3 ho3 hb3 hm3
            have hr3 : At w3 w.heap.size r := (hr.alloc _).below hb3 (by omega)
            have hG3 : Grow w w3 := (Below.alloc hg hsz2 _).trans (hb3.mono (by omega))
            clear hm3 hb3
            go_wp2
            go_roundw
            case rel => exact ⟨left &&& ~~~one x, acc ++ [x], by first | rfl | (rw [hsh, hand2]), hG3, hr3, by simpa using ho3, by rw [List.length_append]; simp; omega, HN⟩
            case measure => simp [intOf, ofInt_card]; exact hcd

set_option maxHeartbeats 2000000 in
theorem ints_any (l : List Nat) (u v : Value) (w : World) (hu : Il w u l) (hv : Il w v l) (hl : l.length ≤ 1000) : Calls Try.prog 12 #[u, v] w fun x w' => x = .returned (.bool true) ∧ Grow w w' := by
  have HU : Hid (Il w u l) := hu
  have HV : Hid (Il w v l) := hv
  obtain ⟨au, cu, rfl⟩ := hu.form
  obtain ⟨av, cv, rfl⟩ := hv.form
  clear hu hv
  go_enter Try.func12, Try.ntmps12
  go_wp2
  go_loopw [5] (fun i wr => ∃ j n : Nat, j ≤ l.length ∧ i = .int .i64 j ∧ wr = w.drewN n) (fun i _ => l.length - (intOf i).toNat)
  case atStart => exact ⟨0, 0, by omega, rfl, rfl⟩
  case round =>
    obtain ⟨j, n, hj, rfl, rfl⟩ := hrel
    by_cases hlt : j < l.length
    · obtain ⟨x, hx⟩ : ∃ x, l[j]? = some x := ⟨l[j], List.getElem?_eq_getElem hlt⟩
      obtain ⟨g1, c1, hv1, hg1, hc1⟩ := HU.out.cell hx
      obtain ⟨g2, c2, hv2, hg2, hc2⟩ := HV.out.cell hx
      cases hv1
      cases hv2
      clear hx
      go_wp2
      go_quiet ((fail))
      go_wp2
      go_roundw
      case rel => exact ⟨j + 1, _, by omega, by go_num, rfl⟩
      case measure => simp [intOf]; omega
    · obtain rfl : j = l.length := by omega
      go_wp2
      go_ret
      exact ⟨rfl, Grow_drewN w n⟩

end Go.Proofs.Ytlbccddhcbcpoaa
