/- The plain theory of relations on thirty-two events: what has a pair, closure, ways. -/
import Derived.Test.YtlbccddhcbcpoaaIrr
namespace Go.Proofs.Ytlbccddhcbcpoaa
open Go.RowKit

/-- a relation has a pair -/
def has (r : Rl) (a b : Nat) : Prop := inn (row r a) b = true
theorem inn_lt {s : St} {e : Nat} (h : inn s e = true) : e < 32 := by
  rcases Nat.lt_or_ge e 32 with h1 | h1
  · exact h1
  · unfold inn at h; rw [BitVec.getLsbD_of_ge _ _ h1] at h; cases h
theorem inn_zero (e : Nat) : inn 0#32 e = false := by simp [inn]
theorem inn_all (e : Nat) : inn allS e = decide (e < 32) := by
  rcases Nat.lt_or_ge e 32 with h1 | h1
  · have : ∀ e, e < 32 → inn allS e = true := by decide
    simp [this e h1, h1]
  · unfold inn; rw [BitVec.getLsbD_of_ge _ _ h1]; simp; omega
theorem inn_one (e b : Nat) : inn (one e) b = (decide (b < 32) && decide (b = e)) := one_bit e b
theorem inn_or (x y : St) (e : Nat) : inn (x ||| y) e = (inn x e || inn y e) := by simp [inn]
theorem inn_and (x y : St) (e : Nat) : inn (x &&& y) e = (inn x e && inn y e) := by simp [inn]
theorem inn_andNot (x y : St) (e : Nat) (h : e < 32) : inn (x &&& ~~~y) e = (inn x e && !inn y e) := by simp [inn, h]
theorem st_ext {x y : St} (h : ∀ e, e < 32 → inn x e = inn y e) : x = y := ext32 h
theorem st_ext' {x y : St} (h : ∀ e, inn x e = true ↔ inn y e = true) : x = y := ext32 fun e _ => by rw [Bool.eq_iff_iff]; exact h e
theorem has_lt {r : Rl} {a b : Nat} (h : has r a b) : a < 32 ∧ b < 32 := by
  refine ⟨?_, inn_lt h⟩
  rcases Nat.lt_or_ge a 32 with h1 | h1
  · exact h1
  · unfold has row at h; rw [dif_neg (by omega)] at h; rw [inn_zero] at h; cases h
theorem rl_ext {r s : Rl} (h : ∀ a b, has r a b ↔ has s a b) : r = s := by
  funext i
  have : row r i.val = row s i.val := st_ext' fun e => h i.val e
  rwa [row_fin, row_fin] at this
theorem not_has_nil (a b : Nat) : ¬ has nil a b := by unfold has; rw [row_nil, inn_zero]; simp
theorem has_idr (s : St) (a b : Nat) : has (idr s) a b ↔ a = b ∧ inn s a = true := by
  constructor
  · intro h
    have ha := (has_lt h).1
    unfold has at h
    rw [row_idr s a ha, inn_and, inn_one] at h
    simp only [Bool.and_eq_true, decide_eq_true_eq] at h
    obtain ⟨h1, _, rfl⟩ := h
    exact ⟨rfl, h1⟩
  · rintro ⟨rfl, h⟩
    have ha := inn_lt h
    unfold has
    rw [row_idr s a ha, inn_and, inn_one]; simp [h, ha]
theorem has_crs (x y : St) (a b : Nat) : has (crs x y) a b ↔ inn x a = true ∧ inn y b = true := by
  constructor
  · intro h
    have ha := (has_lt h).1
    unfold has at h
    rw [row_crs x y a ha] at h
    cases hx : inn x a
    · rw [hx] at h; simp [inn_zero] at h
    · rw [hx] at h; exact ⟨rfl, h⟩
  · rintro ⟨h1, h2⟩
    unfold has
    rw [row_crs x y a (inn_lt h1), h1]; exact h2
theorem has_mns (r s : Rl) (a b : Nat) : has (mns r s) a b ↔ has r a b ∧ ¬ has s a b := by
  constructor
  · intro h
    obtain ⟨ha, hb⟩ := has_lt h
    unfold has at h ⊢
    rw [row_mns r s a ha, inn_andNot _ _ _ hb] at h
    simpa using h
  · rintro ⟨h1, h2⟩
    obtain ⟨ha, hb⟩ := has_lt h1
    unfold has at h1 h2 ⊢
    rw [row_mns r s a ha, inn_andNot _ _ _ hb]
    simp [h1, h2]
theorem has_or2 (r s : Rl) (a b : Nat) : has (or2 r s) a b ↔ has r a b ∨ has s a b := by
  by_cases ha : a < 32
  · unfold has; rw [row_or2 r s a ha, inn_or]; simp
  · constructor
    · intro h; exact absurd (has_lt h).1 ha
    · rintro (h | h) <;> exact absurd (has_lt h).1 ha
theorem has_and2 (r s : Rl) (a b : Nat) : has (and2 r s) a b ↔ has r a b ∧ has s a b := by
  by_cases ha : a < 32
  · unfold has; rw [row_and2 r s a ha, inn_and]; simp
  · constructor
    · intro h; exact absurd (has_lt h).1 ha
    · rintro ⟨h, _⟩; exact absurd (has_lt h).1 ha
theorem inn_aft (s : St) (r : Rl) (n b : Nat) : inn (aft s r n) b = true ↔ ∃ k, k < n ∧ inn s k = true ∧ has r k b := by
  induction n with
  | zero => show inn 0#32 b = true ↔ _; rw [inn_zero]; simp
  | succ n ih =>
    cases hn : inn s n
    · rw [aft_no hn, ih]
      constructor
      · rintro ⟨k, hk, h⟩; exact ⟨k, by omega, h⟩
      · rintro ⟨k, hk, h1, h2⟩
        rcases Nat.lt_or_ge k n with h | h
        · exact ⟨k, h, h1, h2⟩
        · have : k = n := by omega
          subst this; rw [hn] at h1; cases h1
    · rw [aft_yes hn, inn_or, Bool.or_eq_true, ih]
      constructor
      · rintro (⟨k, hk, h⟩ | h)
        · exact ⟨k, by omega, h⟩
        · exact ⟨n, by omega, hn, h⟩
      · rintro ⟨k, hk, h1, h2⟩
        rcases Nat.lt_or_ge k n with h | h
        · exact .inl ⟨k, h, h1, h2⟩
        · have : k = n := by omega
          subst this; exact .inr h2
theorem inn_after (s : St) (r : Rl) (b : Nat) : inn (aft s r 32) b = true ↔ ∃ k, inn s k = true ∧ has r k b := by
  rw [inn_aft]
  exact ⟨fun ⟨k, _, h⟩ => ⟨k, h⟩, fun ⟨k, h1, h2⟩ => ⟨k, inn_lt h1, h1, h2⟩⟩
theorem inn_range (r : Rl) (b : Nat) : inn (aft allS r 32) b = true ↔ ∃ a, has r a b := by
  rw [inn_after]
  exact ⟨fun ⟨k, _, h⟩ => ⟨k, h⟩, fun ⟨k, h⟩ => ⟨k, by rw [inn_all]; simpa using (has_lt h).1, h⟩⟩
theorem has_seq2 (r s : Rl) (a c : Nat) : has (seq2 r s) a c ↔ ∃ b, has r a b ∧ has s b c := by
  by_cases ha : a < 32
  · unfold has; rw [row_seq2 r s a ha]; exact inn_after _ _ _
  · constructor
    · intro h; exact absurd (has_lt h).1 ha
    · rintro ⟨b, h, _⟩; exact absurd (has_lt h).1 ha
theorem has_invT (r : Rl) (n a b : Nat) : has (invT r n) a b ↔ b < n ∧ has r b a := by
  induction n with
  | zero => rw [invT_zero]; constructor
            · intro h; exact absurd h (not_has_nil a b)
            · rintro ⟨h, _⟩; omega
  | succ n ih =>
    by_cases ha : a < 32
    · unfold has at ih ⊢
      rw [row_invT r n a ha]
      by_cases hn : inn (row r n) a = true
      · rw [if_pos hn, inn_or, Bool.or_eq_true, ih, inn_one]
        simp only [Bool.and_eq_true, decide_eq_true_eq]
        constructor
        · rintro (⟨h1, h2⟩ | ⟨_, rfl⟩)
          · exact ⟨by omega, h2⟩
          · exact ⟨by omega, hn⟩
        · rintro ⟨h1, h2⟩
          rcases Nat.lt_or_ge b n with h | h
          · exact .inl ⟨h, h2⟩
          · exact .inr ⟨(has_lt h2).1, by omega⟩
      · rw [if_neg hn, ih]
        constructor
        · rintro ⟨h1, h2⟩; exact ⟨by omega, h2⟩
        · rintro ⟨h1, h2⟩
          rcases Nat.lt_or_ge b n with h | h
          · exact ⟨h, h2⟩
          · have : b = n := by omega
            subst this; exact absurd h2 hn
    · constructor
      · intro h; exact absurd (has_lt h).1 ha
      · rintro ⟨_, h⟩; exact absurd (has_lt h).2 ha
theorem has_inv (r : Rl) (a b : Nat) : has (invT r 32) a b ↔ has r b a := by
  rw [has_invT]; exact ⟨fun h => h.2, fun h => ⟨(has_lt h).1, h⟩⟩
theorem has_foldl_or (l : List Rl) (x : Rl) (a b : Nat) : has (l.foldl or2 x) a b ↔ has x a b ∨ ∃ r ∈ l, has r a b := by
  induction l generalizing x with
  | nil => simp
  | cons y l ih => rw [List.foldl_cons, ih, has_or2]; simp [or_assoc]
theorem has_uni (l : List Rl) (a b : Nat) : has (uni l) a b ↔ ∃ r ∈ l, has r a b := by
  unfold uni; rw [has_foldl_or]; simp [not_has_nil]
theorem has_foldl_and (l : List Rl) (x : Rl) (a b : Nat) : has (l.foldl and2 x) a b ↔ has x a b ∧ ∀ r ∈ l, has r a b := by
  induction l generalizing x with
  | nil => simp
  | cons y l ih => rw [List.foldl_cons, ih, has_and2]; simp [and_assoc]
theorem has_met (l : List Rl) (a b : Nat) : has (met l) a b ↔ (a < 32 ∧ b < 32) ∧ ∀ r ∈ l, has r a b := by
  unfold met; rw [has_foldl_and, has_crs, inn_all, inn_all]; simp
theorem has_met2 (x y : Rl) (a b : Nat) : has (met [x, y]) a b ↔ has x a b ∧ has y a b := by
  rw [has_met]; simp
  exact fun h _ => has_lt h
theorem has_uni2 (x y : Rl) (a b : Nat) : has (uni [x, y]) a b ↔ has x a b ∨ has y a b := by rw [has_uni]; simp
theorem has_uni3 (x y z : Rl) (a b : Nat) : has (uni [x, y, z]) a b ↔ has x a b ∨ has y a b ∨ has z a b := by rw [has_uni]; simp
theorem id_seq (x : Rl) : seq2 (idr allS) x = x := rl_ext fun a b => by
  rw [has_seq2]
  constructor
  · rintro ⟨c, h1, h2⟩; rw [has_idr] at h1; rw [h1.1]; exact h2
  · intro h; exact ⟨a, (has_idr _ _ _).2 ⟨rfl, by rw [inn_all]; simpa using (has_lt h).1⟩, h⟩
theorem sqs2 (x y : Rl) : sqs [x, y] = seq2 x y := by unfold sqs; rw [List.foldl_cons, id_seq]; rfl
theorem sqs3 (x y z : Rl) : sqs [x, y, z] = seq2 (seq2 x y) z := by unfold sqs; rw [List.foldl_cons, id_seq]; rfl
theorem has_sqs2 (x y : Rl) (a c : Nat) : has (sqs [x, y]) a c ↔ ∃ b, has x a b ∧ has y b c := by rw [sqs2]; exact has_seq2 x y a c

/-! ### Ways -/
/-- steps lead from the one to the other, by events below n -/
inductive Way (r : Rl) (n : Nat) : Nat → Nat → Prop
  | step {a b : Nat} : has r a b → Way r n a b
  | join {a b c : Nat} : Way r n a b → b < n → Way r n b c → Way r n a c
theorem Way.mono {r : Rl} {n m : Nat} (h : n ≤ m) {a b : Nat} (w : Way r n a b) : Way r m a b := by
  induction w with
  | step h1 => exact .step h1
  | join _ hb _ h1 h2 => exact .join h1 (by omega) h2
theorem Way.part {r : Rl} {n : Nat} {a b : Nat} (w : Way r (n + 1) a b) : Way r n a b ∨ (Way r n a n ∧ Way r n n b) := by
  induction w with
  | step h => exact .inl (.step h)
  | @join a b c _ hb _ h1 h2 =>
    rcases Nat.lt_or_ge b n with hlt | hge
    · rcases h1 with h1 | ⟨h1, h1'⟩
      · rcases h2 with h2 | ⟨h2, h2'⟩
        · exact .inl (.join h1 hlt h2)
        · exact .inr ⟨.join h1 hlt h2, h2'⟩
      · rcases h2 with h2 | ⟨h2, h2'⟩
        · exact .inr ⟨h1, .join h1' hlt h2⟩
        · exact .inr ⟨h1, h2'⟩
    · have : b = n := by omega
      subst this
      rcases h1 with h1 | ⟨h1, _⟩
      · rcases h2 with h2 | ⟨_, h2'⟩
        · exact .inr ⟨h1, h2⟩
        · exact .inr ⟨h1, h2'⟩
      · rcases h2 with h2 | ⟨_, h2'⟩
        · exact .inr ⟨h1, h2⟩
        · exact .inr ⟨h1, h2'⟩
theorem has_stepP (k : Nat) (r : Rl) (a b : Nat) : has (stepP k r) a b ↔ has r a b ∨ (has r a k ∧ has r k b) := by
  by_cases ha : a < 32
  · unfold has
    rw [row_stepP k r a ha]
    by_cases h : inn (row r a) k = true
    · rw [if_pos h, inn_or]; simp [h]
    · rw [if_neg h]; simp [h]
  · constructor
    · intro h; exact absurd (has_lt h).1 ha
    · rintro (h | ⟨h, _⟩) <;> exact absurd (has_lt h).1 ha
theorem has_plusT (r : Rl) (n a b : Nat) : has (plusT r n) a b ↔ Way r n a b := by
  induction n generalizing a b with
  | zero =>
    rw [plusT_zero]
    constructor
    · exact .step
    · intro h
      cases h with
      | step h => exact h
      | join _ hb _ => omega
  | succ n ih =>
    rw [plusT_succ, has_stepP, ih, ih, ih]
    constructor
    · rintro (h | ⟨h1, h2⟩)
      · exact h.mono (by omega)
      · exact .join (h1.mono (by omega)) (by omega) (h2.mono (by omega))
    · exact Way.part
theorem Way.lt {r : Rl} {n a b : Nat} (h : Way r n a b) : a < 32 ∧ b < 32 := by
  induction h with
  | step h => exact has_lt h
  | join _ _ _ h1 h2 => exact ⟨h1.1, h2.2⟩
/-- steps lead from the one to the other -/
abbrev Plus (r : Rl) (a b : Nat) : Prop := Way r 32 a b
theorem has_plus (r : Rl) (a b : Nat) : has (plusT r 32) a b ↔ Plus r a b := has_plusT r 32 a b
theorem Plus.trans {r : Rl} {a b c : Nat} (h1 : Plus r a b) (h2 : Plus r b c) : Plus r a c := .join h1 h1.lt.2 h2
theorem Plus.incl {r s : Rl} (h : ∀ a b, has r a b → Plus s a b) {a b : Nat} (w : Plus r a b) : Plus s a b := by
  induction w with
  | step h1 => exact h _ _ h1
  | join _ hb _ h1 h2 => exact h1.trans h2
theorem Plus.head {r : Rl} {a c : Nat} (w : Plus r a c) : has r a c ∨ ∃ b, has r a b ∧ Plus r b c := by
  induction w with
  | step h => exact .inl h
  | join _ hb w2 h1 _ =>
    rcases h1 with h1 | ⟨x, h1, h1'⟩
    · exact .inr ⟨_, h1, w2⟩
    · exact .inr ⟨x, h1, h1'.trans w2⟩

/-! ### What is told -/
theorem inn_domT (r : Rl) (n a : Nat) : inn (domT r n) a = true ↔ a < n ∧ ∃ b, has r a b := by
  induction n with
  | zero => show inn 0#32 a = true ↔ _; rw [inn_zero]; simp
  | succ n ih =>
    by_cases hz : row r n = 0#32
    · rw [domT_no hz, ih]
      constructor
      · rintro ⟨h1, h2⟩; exact ⟨by omega, h2⟩
      · rintro ⟨h1, b, h2⟩
        rcases Nat.lt_or_ge a n with h | h
        · exact ⟨h, b, h2⟩
        · have : a = n := by omega
          subst this; unfold has at h2; rw [hz, inn_zero] at h2; cases h2
    · rw [domT_yes hz, inn_or, Bool.or_eq_true, ih, inn_one]
      simp only [Bool.and_eq_true, decide_eq_true_eq]
      constructor
      · rintro (⟨h1, h2⟩ | ⟨h1, rfl⟩)
        · exact ⟨by omega, h2⟩
        · refine ⟨by omega, ?_⟩
          refine Classical.byContradiction fun hno => hz (st_ext fun e _ => ?_)
          rw [inn_zero]
          cases he : inn (row r a) e
          · rfl
          · exact absurd ⟨e, he⟩ hno
      · rintro ⟨h1, b, h2⟩
        rcases Nat.lt_or_ge a n with h | h
        · exact .inl ⟨h, b, h2⟩
        · exact .inr ⟨(has_lt h2).1, by omega⟩
theorem inn_dom (r : Rl) (a : Nat) : inn (domT r 32) a = true ↔ ∃ b, has r a b := by
  rw [inn_domT]; exact ⟨fun h => h.2, fun ⟨b, h⟩ => ⟨(has_lt h).1, b, h⟩⟩
theorem empty_iff (r : Rl) : eqB r nil = true ↔ ∀ a b, ¬ has r a b := by
  rw [eqB_iff]
  constructor
  · intro h a b; rw [h]; exact not_has_nil a b
  · intro h; exact rl_ext fun a b => ⟨fun h1 => absurd h1 (h a b), fun h1 => absurd h1 (not_has_nil a b)⟩
theorem irr_iff (r : Rl) : irrB r = true ↔ ∀ a, ¬ has r a a := by
  unfold irrB
  rw [empty_iff]
  constructor
  · intro h a h1
    exact h a a ((has_met2 _ _ _ _).2 ⟨h1, (has_idr _ _ _).2 ⟨rfl, by rw [inn_all]; simpa using (has_lt h1).1⟩⟩)
  · intro h a b h1
    rw [has_met2, has_idr] at h1
    obtain ⟨h1, rfl, _⟩ := h1
    exact h a h1
theorem acy_iff (r : Rl) : acyB r = true ↔ ∀ a, ¬ Plus r a a := by
  unfold acyB; rw [irr_iff]
  exact ⟨fun h a h1 => h a ((has_plus r a a).2 h1), fun h a h1 => h a ((has_plus r a a).1 h1)⟩
theorem hasB_iff (r : Rl) (a b : Nat) : hasB r a b = true ↔ has r a b := by
  unfold hasB
  constructor
  · intro h; simp only [Bool.and_eq_true] at h; exact h.2
  · intro h
    obtain ⟨ha, hb⟩ := has_lt h
    have h1 : evB a = true := by unfold evB; simp; omega
    have h2 : evB b = true := by unfold evB; simp; omega
    rw [h1, h2]; exact h
theorem mem_lst (s : St) (n e : Nat) : e ∈ lst s n ↔ e < n ∧ inn s e = true := by unfold lst; simp
theorem mem_prs (r : Rl) (n : Nat) (p : Nat × Nat) : p ∈ prs r n ↔ p.1 < n ∧ has r p.1 p.2 := by
  unfold prs
  simp only [List.mem_flatMap, List.mem_range, List.mem_map, mem_lst]
  constructor
  · rintro ⟨a, ha, b, ⟨_, hb⟩, rfl⟩; exact ⟨ha, hb⟩
  · rintro ⟨h1, h2⟩; exact ⟨p.1, h1, p.2, ⟨(has_lt h2).2, h2⟩, rfl⟩

end Go.Proofs.Ytlbccddhcbcpoaa
