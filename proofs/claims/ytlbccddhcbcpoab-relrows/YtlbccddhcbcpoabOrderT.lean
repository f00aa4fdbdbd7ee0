/- The theory of the row that Order lays: there is one just if the relation is acyclic within the set; in it each pair goes forward, and each event stands once. -/
import Derived.Test.YtlbccddhcbcpoabOrder
namespace Go.Proofs.Ytlbccddhcbcpoab
open Go.RowKit

theorem lst_one (a : St) (k : Nat) : ∀ n, n ≤ 32 → (lst (a &&& one k) n).length = if inn a k = true ∧ k < n then 1 else 0
  | 0, _ => by simp [lst_zero]
  | n + 1, h => by
    by_cases hkn : n = k
    · subst hkn
      cases hn : inn a n
      · have : inn (a &&& one n) n = false := by rw [inn_and, hn]; rfl
        rw [lst_no this, lst_one a n n (by omega)]; simp [hn]
      · have : inn (a &&& one n) n = true := by rw [inn_and, hn, inn_one]; simp; omega
        rw [lst_yes this, List.length_append, lst_one a n n (by omega)]; simp
    · have : inn (a &&& one k) n = false := by rw [inn_and, inn_one]; simp [hkn]
      rw [lst_no this, lst_one a k n (by omega)]
      by_cases h1 : inn a k = true
      · by_cases h2 : k < n
        · simp [h1, h2]; omega
        · have : ¬ k < n + 1 := by omega
          simp [h2, this]
      · simp [h1]
theorem len_split (p : Nat → Bool) : ∀ l : List Nat, l.length = (l.filter p).length + (l.filter fun e => !p e).length
  | [] => rfl
  | x :: l => by
    have ih := len_split p l
    cases h : p x <;> simp [h] <;> omega
theorem card_take {s : St} {x : Nat} (h : inn s x = true) : card (s &&& ~~~one x) + 1 = card s := by
  unfold card
  rw [lst_drop, len_split (fun e => e != x) (lst s 32)]
  have h1 : (lst s 32).filter (fun e => !(e != x)) = lst (s &&& one x) 32 := by
    unfold lst
    rw [List.filter_filter]
    apply List.filter_congr
    intro e he
    have he' : e < 32 := by simpa using he
    rw [inn_and, inn_one]
    by_cases h : e = x
    · subst h; simp [he']
    · simp [h]
  rw [h1, lst_one s x 32 (Nat.le_refl _)]
  simp [h, inn_lt h]
/-- what holds while the row is laid -/
structure Laid (u : St) (r : Rl) (s : St) (acc : List Nat) : Prop where
  mem : ∀ e : Nat, inn u e = true ↔ (e ∈ acc ∨ inn s e = true)
  apart : ∀ e ∈ acc, inn s e = false
  nodup : acc.Nodup
  num : acc.length + card s = card u
  back : ∀ e x : Nat, inn s e = true → x ∈ acc → ¬ has r e x
  fwd : ∀ i k a b : Nat, k ≤ i → acc[i]? = some a → acc[k]? = some b → ¬ has r a b
theorem Laid.start (u : St) (r : Rl) : Laid u r u [] := ⟨by simp, by simp, by simp, by simp, by simp, by simp⟩
theorem free_spec {r : Rl} {s : St} {x : Nat} (h : inn (freeS r s) x = true) : inn s x = true ∧ ∀ e, inn s e = true → ¬ has r e x := by
  refine ⟨inn_free h, fun e he hex => ?_⟩
  unfold freeS at h
  rw [inn_andNot _ _ _ (inn_lt h)] at h
  simp at h
  have := (inn_after s r x).2 ⟨e, he, hex⟩
  rw [this] at h; cases h.2
theorem inn_drop (s : St) (x e : Nat) : inn (s &&& ~~~one x) e = true ↔ inn s e = true ∧ e ≠ x := by
  constructor
  · intro h
    rw [inn_andNot _ _ _ (inn_lt h), inn_one] at h
    have := inn_lt (s := s) (e := e) (by simp at h; exact h.1)
    simp [this] at h; exact h
  · rintro ⟨h1, h2⟩
    rw [inn_andNot _ _ _ (inn_lt h1), inn_one]; simp [h1, h2]
theorem Laid.next {u : St} {r : Rl} {s : St} {acc l : List Nat} {x : Nat} (h : Laid u r s acc) (hl : lst (freeS r s) 32 = x :: l) : Laid u r (s &&& ~~~one x) (acc ++ [x]) := by
  obtain ⟨hx, hfree⟩ := free_spec (head_inn hl)
  have hxa : x ∉ acc := fun hm => by have := h.apart x hm; rw [hx] at this; cases this
  refine ⟨fun e => ?_, fun e he => ?_, ?_, ?_, fun e y he hy => ?_, fun i k a b hki ha hb => ?_⟩
  · rw [h.mem e, inn_drop, List.mem_append, List.mem_singleton]
    constructor
    · rintro (h1 | h1)
      · exact .inl (.inl h1)
      · by_cases hex : e = x
        · exact .inl (.inr hex)
        · exact .inr ⟨h1, hex⟩
    · rintro ((h1 | h1) | h1)
      · exact .inl h1
      · exact .inr (h1 ▸ hx)
      · exact .inr h1.1
  · cases hb : inn (s &&& ~~~one x) e
    · rfl
    · have := (inn_drop s x e).1 hb
      rcases List.mem_append.1 he with h1 | h1
      · have h2 := h.apart e h1; rw [this.1] at h2; cases h2
      · exact absurd (List.mem_singleton.1 h1) this.2
  · rw [List.nodup_append]
    refine ⟨h.nodup, by simp, fun a ha b hb => ?_⟩
    rw [List.mem_singleton.1 hb]; intro e; exact hxa (e ▸ ha)
  · rw [List.length_append]; have := h.num; have := card_take hx; simp; omega
  · have he' := (inn_drop s x e).1 he
    rcases List.mem_append.1 hy with h1 | h1
    · exact h.back e y he'.1 h1
    · rw [List.mem_singleton.1 h1]; exact hfree e he'.1
  · have hil := (List.getElem?_eq_some_iff.1 ha).1
    rw [List.length_append] at hil
    rcases Nat.lt_or_ge i acc.length with h1 | h1
    · rw [List.getElem?_append_left h1] at ha
      rw [List.getElem?_append_left (by omega)] at hb
      exact h.fwd i k a b hki ha hb
    · have hi : i = acc.length := by simp at hil; omega
      have ha' : a = x := by rw [hi] at ha; simpa [eq_comm] using ha
      rw [ha']
      rcases Nat.lt_or_ge k acc.length with h2 | h2
      · rw [List.getElem?_append_left h2] at hb
        exact h.back x b hx (List.mem_of_getElem? hb)
      · have hk : k = acc.length := by omega
        have hb' : b = x := by rw [hk] at hb; simpa [eq_comm] using hb
        rw [hb']; exact hfree x hx
theorem ord_some {u : St} {r : Rl} : ∀ {f : Nat} {s : St} {acc l : List Nat}, Laid u r s acc → ordT r f s acc = some l → Laid u r 0#32 l
  | 0, _, _, _, _, h => by simp [ordT] at h
  | f + 1, s, acc, l, hL, h => by
    by_cases hz : s = 0#32
    · rw [ordT_done hz] at h; cases h; rw [← hz]; exact hL
    · cases hl : lst (freeS r s) 32 with
      | nil => rw [ordT_none hz hl] at h; cases h
      | cons x l' => rw [ordT_next hz hl] at h; exact ord_some (hL.next hl) h
theorem ord_none {u : St} {r : Rl} : ∀ {f : Nat} {s : St} {acc : List Nat}, Laid u r s acc → card s < f → ordT r f s acc = none → ∃ s', s' ≠ 0#32 ∧ (∀ e, inn s' e = true → inn u e = true) ∧ ∀ e, inn s' e = true → ∃ e', inn s' e' = true ∧ has r e' e
  | 0, _, _, _, hc, _ => by omega
  | f + 1, s, acc, hL, hc, h => by
    by_cases hz : s = 0#32
    · rw [ordT_done hz] at h; cases h
    · cases hl : lst (freeS r s) 32 with
      | nil =>
        refine ⟨s, hz, fun e he => (hL.mem e).2 (.inr he), fun e he => ?_⟩
        have hno : inn (freeS r s) e = false := by
          cases hb : inn (freeS r s) e
          · rfl
          · have : e ∈ lst (freeS r s) 32 := (mem_lst _ _ _).2 ⟨inn_lt hb, hb⟩
            rw [hl] at this; cases this
        unfold freeS at hno
        rw [inn_andNot _ _ _ (inn_lt he), he] at hno
        have ha : inn (aft s r 32) e = true := by simpa using hno
        obtain ⟨e', h1, h2⟩ := (inn_after s r e).1 ha
        exact ⟨e', h1, h2⟩
      | cons x l' =>
        rw [ordT_next hz hl] at h
        have := card_take (free_spec (head_inn hl)).1
        exact ord_none (hL.next hl) (by omega) h
/-- the relation between events of the set -/
def within (u : St) (r : Rl) : Rl := met [r, crs u u]
theorem has_within (u : St) (r : Rl) (a b : Nat) : has (within u r) a b ↔ has r a b ∧ inn u a = true ∧ inn u b = true := by
  unfold within; rw [has_met2, has_crs]
theorem acy_of_some {u : St} {r : Rl} {l : List Nat} (h : Laid u r 0#32 l) : acyB (within u r) = true := by
  have hm : ∀ e, inn u e = true → e ∈ l := fun e he => by
    rcases (h.mem e).1 he with h1 | h1
    · exact h1
    · rw [inn_zero] at h1; cases h1
  have key : ∀ a b : Nat, Plus (within u r) a b → ∃ i k : Nat, l[i]? = some a ∧ l[k]? = some b ∧ i < k := by
    intro a b hw
    induction hw with
    | step h1 =>
      rw [has_within] at h1
      obtain ⟨i, hi⟩ := List.getElem?_of_mem (hm _ h1.2.1)
      obtain ⟨k, hk⟩ := List.getElem?_of_mem (hm _ h1.2.2)
      refine ⟨i, k, hi, hk, ?_⟩
      rcases Nat.lt_or_ge i k with h2 | h2
      · exact h2
      · exact absurd h1.1 (h.fwd i k _ _ h2 hi hk)
    | join _ _ _ ih1 ih2 =>
      obtain ⟨i, k, h1, h2, h3⟩ := ih1
      obtain ⟨i', k', h4, h5, h6⟩ := ih2
      have : k = i' := (List.getElem?_inj (List.getElem?_eq_some_iff.1 h2).1 h.nodup).1 (h2.trans h4.symm)
      exact ⟨i, k', h1, h5, by omega⟩
  refine (acy_iff _).2 fun a ha => ?_
  obtain ⟨i, k, h1, h2, h3⟩ := key a a ha
  have : i = k := (List.getElem?_inj (List.getElem?_eq_some_iff.1 h1).1 h.nodup).1 (h1.trans h2.symm)
  omega
theorem least (P : Nat → Prop) (f : Nat → Nat) (h : ∃ n, P n) : ∃ n, P n ∧ ∀ m, P m → f n ≤ f m := by
  have key : ∀ k n, P n → f n ≤ k → ∃ n, P n ∧ ∀ m, P m → f n ≤ f m := by
    intro k
    induction k with
    | zero => intro n hn hk; exact ⟨n, hn, fun m _ => by omega⟩
    | succ k ih =>
      intro n hn hk
      by_cases hex : ∃ m, P m ∧ f m < f n
      · obtain ⟨m, hm, hlt⟩ := hex
        exact ih m hm (by omega)
      · exact ⟨n, hn, fun m hm => Nat.le_of_not_lt fun hlt => hex ⟨m, hm, hlt⟩⟩
  obtain ⟨n, hn⟩ := h
  exact key (f n) n hn (Nat.le_refl _)
theorem cyc_of_none {u : St} {r : Rl} {s : St} (h0 : s ≠ 0#32) (h1 : ∀ e, inn s e = true → inn u e = true) (h2 : ∀ e, inn s e = true → ∃ e', inn s e' = true ∧ has r e' e) : acyB (within u r) = false := by
  cases hb : acyB (within u r)
  · rfl
  · exfalso
    have hac := (acy_iff _).1 hb
    have hex : ∃ e, inn s e = true := by
      refine Classical.byContradiction fun hno => h0 (st_ext fun e _ => ?_)
      rw [inn_zero]
      cases he : inn s e
      · rfl
      · exact absurd ⟨e, he⟩ hno
    obtain ⟨e, he, hmin⟩ := least (fun e => inn s e = true) (fun e => ((List.range 32).filter fun a => inn (row (plusT (within u r) 32) a) e).length) hex
    obtain ⟨e', he', hee⟩ := h2 e he
    have hin : has (within u r) e' e := (has_within u r e' e).2 ⟨hee, h1 e' he', h1 e he⟩
    have hle := hmin e' he'
    have hp : ∀ a, inn (row (plusT (within u r) 32) a) e' = true → inn (row (plusT (within u r) 32) a) e = true := fun a ha =>
      (has_plus _ a e).2 (Plus.trans ((has_plus _ a e').1 ha) (.step hin))
    have hsub : (List.range 32).filter (fun a => inn (row (plusT (within u r) 32) a) e') = ((List.range 32).filter (fun a => inn (row (plusT (within u r) 32) a) e)).filter (fun a => inn (row (plusT (within u r) 32) a) e') := by
      rw [List.filter_filter]
      apply List.filter_congr
      intro a _
      cases ha : inn (row (plusT (within u r) 32) a) e'
      · simp
      · simp [hp a ha]
    have hlt : ((List.range 32).filter fun a => inn (row (plusT (within u r) 32) a) e').length < ((List.range 32).filter fun a => inn (row (plusT (within u r) 32) a) e).length := by
      rw [hsub]
      refine List.length_filter_lt_length_iff_exists.2 ⟨e', ?_, ?_⟩
      · simp only [List.mem_filter, List.mem_range]
        exact ⟨inn_lt he', (has_plus _ e' e).2 (.step hin)⟩
      · intro hself
        exact hac e' ((has_plus _ e' e').1 hself)
    omega
theorem ord_acy_some {u : St} {r : Rl} {l : List Nat} (h : ordT r 33 u [] = some l) : Laid u r 0#32 l ∧ acyB (within u r) = true := by
  have hL := ord_some (Laid.start u r) h
  exact ⟨hL, acy_of_some hL⟩
theorem ord_acy_none {u : St} {r : Rl} (h : ordT r 33 u [] = none) : acyB (within u r) = false := by
  obtain ⟨s, h0, h1, h2⟩ := ord_none (Laid.start u r) (by have := card_le u; omega) h
  exact cyc_of_none h0 h1 h2
theorem card_zero : card 0#32 = 0 := by unfold card lst; simp [inn_zero]
theorem Laid.len {u : St} {r : Rl} {l : List Nat} (h : Laid u r 0#32 l) : l.length = (lst u 32).length := by
  have := h.num; rw [card_zero] at this; simpa [card] using this
theorem inn_evs (l : List Nat) (s : St) (e : Nat) : inn ((l.map fun n : Nat => (n : Int)).foldl evS s) e = true ↔ inn s e = true ∨ (e ∈ l ∧ e < 32) := by
  induction l generalizing s with
  | nil => simp
  | cons x l ih =>
    rw [List.map_cons, List.foldl_cons, ih]
    cases hx : evB (x : Int)
    · rw [evS_no hx]
      have hx32 : ¬ x < 32 := by unfold evB at hx; simp at hx; omega
      constructor
      · rintro (h | h)
        · exact .inl h
        · exact .inr ⟨List.mem_cons_of_mem _ h.1, h.2⟩
      · rintro (h | ⟨h1, h2⟩)
        · exact .inl h
        · rcases List.mem_cons.1 h1 with rfl | h1
          · exact absurd h2 hx32
          · exact .inr ⟨h1, h2⟩
    · rw [evS_yes hx, inn_or, inn_one]
      simp only [Bool.or_eq_true, Bool.and_eq_true, decide_eq_true_eq]
      constructor
      · rintro ((h | ⟨h1, rfl⟩) | h)
        · exact .inl h
        · exact .inr ⟨by simp, h1⟩
        · exact .inr ⟨List.mem_cons_of_mem _ h.1, h.2⟩
      · rintro (h | ⟨h1, h2⟩)
        · exact .inl (.inl h)
        · rcases List.mem_cons.1 h1 with rfl | h1
          · exact .inl (.inr ⟨h2, rfl⟩)
          · exact .inr ⟨h1, h2⟩
theorem Laid.evs {u : St} {r : Rl} {l : List Nat} (h : Laid u r 0#32 l) : evs (l.map fun n : Nat => (n : Int)) = u := st_ext' fun e => by
  unfold Go.Proofs.Ytlbccddhcbcpoab.evs
  rw [inn_evs, inn_zero, h.mem e, inn_zero]
  simp
  intro he
  exact inn_lt ((h.mem e).2 (.inl he))

end Go.Proofs.Ytlbccddhcbcpoab
