/- Regions that draw their order: operations that turn nothing beside a row of those that do, which wait for one another. -/
import Derived.Test.YtiglneecmibgmaaMachPlaysP2
import Derived.Test.YtiglneecmibgmaaProg
import Derived.Lib.SliceRun
namespace Go.Proofs.Ytiglneecmibgmaa
open Go.RowKit
set_option linter.unusedVariables false
set_option linter.unusedSimpArgs false
set_option linter.unusedSectionVars false

/-- what is known of memory -/
structure Ms (H : Hp) (ks : List Nat) (G0 : Gr) (w0 : World) (G : Gr) (w : World) : Prop where
  mem : Mem H G w
  pre : ∃ F, G = G0 ++ F
  own : ∀ (i : Nat) (e : Ent) (L : Loc), H[i]? = some (some e) → e.mut = true → G[i]? = some (some L) → ks.contains L.b = true ∨ w0.heap.size ≤ L.b
  mix : Mix ks w0 w
section
variable {n : Nat} {T : List (Nat × SV)} {H : Hp} {ks : List Nat} {G0 : Gr} {w0 : World} {G : Gr} {a : Act} {w w' : World}
theorem Sy.ms (A : Sy n T H ks G0 w0 G a w) : Ms H ks G0 w0 G w := ⟨A.mem, A.pre, A.own, A.mix⟩
theorem Ms.sy (h : Ms H ks G0 w0 G w) (h1 : a.tmps.size = n) (h2 : a.defers = []) (h3 : ∀ t x, look T t = some x → den G x = some (a.tmps.getD t undef)) : Sy n T H ks G0 w0 G a w := ⟨h1, h2, h3, h.mem, h.pre, h.own, h.mix⟩
theorem Ms.grow (h : Ms H ks G0 w0 G w) (hg : Grow w w') : Ms H ks G0 w0 G w' :=
  ⟨⟨h.mem.len, fun i e hi => (h.mem.ent i e hi).mix hg.mix (fun _ _ _ => rfl), h.mem.sep⟩, h.pre, h.own, h.mix.grow hg⟩
end
theorem look_mem : ∀ {T : List (Nat × SV)} {t : Nat} {x : SV}, look T t = some x → (t, x) ∈ T
  | [], _, _, h => by cases h
  | (k, y) :: T, t, x, h => by
    unfold look at h
    cases hb : Nat.beq k t with
    | true => rw [hb] at h; cases h; have := Nat.eq_of_beq_eq_true hb; subst this; simp
    | false => rw [hb] at h; exact List.mem_cons_of_mem _ (look_mem h)
/-- does it wait for all below c but the one at j? -/
def ltB (o : Oper) (j : Nat) : Nat → Bool
  | 0 => true
  | i + 1 => (Nat.beq i j || waits o i) && ltB o j i
theorem lt_spec {o : Oper} {j : Nat} : ∀ {c : Nat}, ltB o j c = true → ∀ i, i < c → i ≠ j → waits o i = true
  | 0, _, _, h, _ => by omega
  | c + 1, hb, i, h, hne => by
    simp only [ltB, Bool.and_eq_true, Bool.or_eq_true] at hb
    by_cases hi : i = c
    · subst hi
      rcases hb.1 with h1 | h1
      · exact absurd (Nat.eq_of_beq_eq_true h1) hne
      · exact h1
    · exact lt_spec hb.2 i (by omega) hne
/-- a slot that none turns, or one that comes last -/
def keepB (t c : Nat) : List Oper → Nat → Bool
  | [], _ => true
  | o :: l, j => (match o.dst with | some d => !Nat.beq d t || ltB o j c | none => true) && keepB t c l (j + 1)
theorem keepB_spec {t c : Nat} : ∀ {l : List Oper} {j : Nat}, keepB t c l j = true → ∀ (i : Nat) (o : Oper), l[i]? = some o → o.dst = some t → ltB o (j + i) c = true
  | [], _, _, _, _, h, _ => by cases h
  | p :: l, j, hb, i, o, h, hd => by
    simp only [keepB, Bool.and_eq_true] at hb
    cases i with
    | zero =>
      cases h
      have := hb.1
      rw [hd] at this
      simpa using this
    | succ i => rw [show j + (i + 1) = j + 1 + i by omega]; exact keepB_spec hb.2 i o h hd
def keepT (l : List Oper) : List (Nat × SV) → List (Nat × SV)
  | [] => []
  | (t, x) :: T => bif keepB t l.length l 0 then (t, x) :: keepT l T else keepT l T
theorem keep_look {l : List Oper} : ∀ {T : List (Nat × SV)} {t : Nat} {x : SV}, look (keepT l T) t = some x → look T t = some x ∧ keepB t l.length l 0 = true
  | [], _, _, h => by cases h
  | (k, y) :: T, t, x, h => by
    unfold keepT at h
    cases hb : keepB k l.length l 0 with
    | false =>
      rw [hb] at h
      obtain ⟨h1, h2⟩ := keep_look h
      refine ⟨?_, h2⟩
      unfold look
      cases hk : Nat.beq k t with
      | false => exact h1
      | true =>
        exfalso
        have := Nat.eq_of_beq_eq_true hk
        subst this
        rw [hb] at h2; cases h2
    | true =>
      rw [hb] at h
      simp only [cond_true] at h
      unfold look at h ⊢
      cases hk : Nat.beq k t with
      | true =>
        rw [hk] at h
        have := Nat.eq_of_beq_eq_true hk
        subst this
        exact ⟨h, hb⟩
      | false => rw [hk] at h; exact keep_look h
def twL (o : Oper) : List Oper → List SV → Nat → List (Nat × SV) → List (Nat × SV)
  | p :: l, x :: xs, k, T => bif waits o k then extS (twL o l xs (k + 1) T) p.dst x else twL o l xs (k + 1) T
  | _, _, _, T => T
theorem tw_look {o : Oper} {T : List (Nat × SV)} {t : Nat} {x : SV} : ∀ {l : List Oper} {xs : List SV} {k : Nat}, look (twL o l xs k T) t = some x → (∃ i p, l[i]? = some p ∧ xs[i]? = some x ∧ waits o (k + i) = true ∧ p.dst = some t) ∨ look T t = some x
  | [], _, _, h => .inr h
  | _ :: _, [], _, h => .inr h
  | p :: l, y :: xs, k, h => by
    have rest : look (twL o l xs (k + 1) T) t = some x → (∃ i q, (p :: l)[i]? = some q ∧ (y :: xs)[i]? = some x ∧ waits o (k + i) = true ∧ q.dst = some t) ∨ look T t = some x := fun h => by
      rcases tw_look h with ⟨i, q, h1, h2, h3, h4⟩ | h
      · exact .inl ⟨i + 1, q, by simpa using h1, by simpa using h2, by rw [show k + (i + 1) = k + 1 + i by omega]; exact h3, h4⟩
      · exact .inr h
    unfold twL at h
    cases hb : waits o k with
    | false => rw [hb] at h; exact rest h
    | true =>
      rw [hb] at h
      simp only [cond_true] at h
      cases hd : p.dst with
      | none => rw [hd] at h; exact rest h
      | some d =>
        rw [hd] at h
        simp only [extS, look] at h
        cases hk : Nat.beq d t with
        | false => rw [hk] at h; exact rest h
        | true =>
          rw [hk] at h
          cases h
          have := Nat.eq_of_beq_eq_true hk
          subst this
          exact .inl ⟨0, p, rfl, rfl, by simpa using hb, hd⟩
/-- what the operations yield in their order, which of them turn memory, what it is behind each -/
def pass1 (X : Tx) (n : Nat) (ops : Array Oper) (pc : List (Nat × SV)) (cl : List (Nat × SV × Hp)) : List Oper → Nat → List (Nat × SV) → Hp → Option (List SV × List (Nat × Hp))
  | [], _, _, _ => some ([], [])
  | o :: l, j, T, H => match cl.lookup j with
    | some (x, H') => match pass1 X n ops pc cl l (j + 1) (extS T o.dst x) H' with
      | some (xs, hs) => some (x :: xs, (j, H') :: hs)
      | none => none
    | none => match look pc j with
     | some x => match pass1 X n ops pc cl l (j + 1) (extS T o.dst x) H with
      | some (xs, hs) => some (x :: xs, hs)
      | none => none
     | none => match stepS X n ops T H o with
      | some (.val x _) => match pass1 X n ops pc cl l (j + 1) (extS T o.dst x) H with
        | some (xs, hs) => some (x :: xs, hs)
        | none => none
      | some (.new t en x) => nfH (H ++ [some en]) fun H' => match pass1 X n ops pc cl l (j + 1) (extS T o.dst x) H' with
        | some (xs, hs) => some (x :: xs, (j, H') :: hs)
        | none => none
      | some (.upd i cs _) => nfH (stH H i (some (.blk cs))) fun H' => match pass1 X n ops pc cl l (j + 1) T H' with
        | some (xs, hs) => some (.tup [] :: xs, (j, H') :: hs)
        | none => none
      | none => none
/-- by way of others -/
def wvia (ops : Array Oper) (p : Nat) : Nat → List Edge → Bool
  | 0, _ => false
  | f + 1, l => l.any fun e => Region.binds .any e && (match ops[e.on]? with | some q => waits q p || wvia ops p f q.after.toList | none => false)
theorem via_listed {ops : Array Oper} {listed : Array Bool} {p : Nat} (hcl : ∀ (j : Nat) (o : Oper) (p : Nat), ops[j]? = some o → listed.getD j false = true → waits o p = true → listed.getD p false = true) : ∀ (f : Nat) (l : List Edge), (∀ e ∈ l, Region.binds .any e = true → listed.getD e.on false = true) → wvia ops p f l = true → listed.getD p false = true
  | 0, _, _, h => by cases h
  | f + 1, l, hl, h => by
    unfold wvia at h
    rw [List.any_eq_true] at h
    obtain ⟨e, he, hb⟩ := h
    rw [Bool.and_eq_true] at hb
    have h1 := hl e he hb.1
    split at hb
    · next q hq =>
      have h2 := hb.2
      rw [Bool.or_eq_true] at h2
      rcases h2 with h2 | h2
      · exact hcl _ q p hq h1 h2
      · refine via_listed hcl f _ (fun e' he' hb' => ?_) h2
        refine hcl _ q e'.on hq h1 ?_
        unfold waits
        rw [List.any_eq_true]
        exact ⟨e', he', by simp [hb']⟩
    · exact absurd hb.2 (by simp)
def wt (ops : Array Oper) (o : Oper) (p : Nat) : Bool := bif waits o p then true else wvia ops p 2 o.after.toList
/-- may operation j come at stage k? -/
def mayB (ops : Array Oper) (o : Oper) (j k : Nat) : List (Nat × Hp) → Nat → Bool
  | [], _ => true
  | (p, _) :: es, m => (!wt ops o p || Nat.blt m k) && (match ops[p]? with | some q => !waits q j || Nat.ble k m | none => true) && mayB ops o j k es (m + 1)
theorem may_spec {ops : Array Oper} {o : Oper} {j k : Nat} : ∀ {es : List (Nat × Hp)} {m : Nat}, (∀ i p H', es[i]? = some (p, H') → (wt ops o p = true → m + i < k) ∧ (∀ q, ops[p]? = some q → waits q j = true → k ≤ m + i)) → mayB ops o j k es m = true
  | [], _, _ => rfl
  | (p, H') :: es, m, h => by
    obtain ⟨h1, h2⟩ := h 0 p H' rfl
    unfold mayB
    simp only [Bool.and_eq_true, Bool.or_eq_true, Bool.not_eq_true']
    refine ⟨⟨?_, ?_⟩, may_spec fun i q H2 hi => ?_⟩
    · cases hw : wt ops o p with
      | false => exact .inl rfl
      | true => exact .inr (by have := h1 hw; simp [Nat.blt_eq]; omega)
    · split
      · next q hq =>
        simp only [Bool.or_eq_true, Bool.not_eq_true']
        cases hw : waits q j with
        | false => exact .inl rfl
        | true => exact .inr (by have := h2 q hq hw; simpa using this)
      · rfl
    · have := h (i + 1) q H2 hi
      rw [show m + 1 + i = m + (i + 1) by omega]; exact this
/-- operation j at the stages k, k + 1, ..: what it yields, what is asked -/
def stages (X : Tx) (n : Nat) (ops : Array Oper) (es : List (Nat × Hp)) (Tw : List (Nat × SV)) (o : Oper) (j : Nat) : Nat → List Hp → Option (List SV × Ob)
  | _, [] => some ([], [])
  | k, H :: hs => match stages X n ops es Tw o j (k + 1) hs with
    | some (D, E) => bif mayB ops o j k es 0 then (match stepS X n ops Tw H o with
      | some (.val x F) => some (x :: D, F ++ E)
      | _ => none) else some (D, E)
    | none => none
theorem stages_spec {X : Tx} {n : Nat} {ops : Array Oper} {es : List (Nat × Hp)} {Tw : List (Nat × SV)} {o : Oper} {j : Nat} : ∀ {hs : List Hp} {k : Nat} {D : List SV} {E : Ob}, stages X n ops es Tw o j k hs = some (D, E) → okE E → ∀ (i : Nat) (H : Hp), hs[i]? = some H → mayB ops o j (k + i) es 0 = true →
    ∃ x F, stepS X n ops Tw H o = some (.val x F) ∧ okE F ∧ x ∈ D
  | [], k, D, E, h, hE, i, H, hi, hm => by cases hi
  | H0 :: hs, k, D, E, h, hE, i, H, hi, hm => by
    unfold stages at h
    split at h
    · next D1 E1 hs1 =>
      cases hb : mayB ops o j k es 0 with
      | false =>
        rw [hb] at h
        cases h
        cases i with
        | zero => rw [Nat.add_zero, hb] at hm; cases hm
        | succ i => exact stages_spec hs1 hE i H hi (by rw [show k + 1 + i = k + (i + 1) by omega]; exact hm)
      | true =>
        rw [hb] at h
        simp only [cond_true] at h
        split at h
        · next x F hx =>
          cases h
          obtain ⟨e1, e2⟩ := okE_app hE
          cases i with
          | zero => cases hi; exact ⟨x, F, hx, e1, by simp⟩
          | succ i =>
            obtain ⟨y, F', q1, q2, q3⟩ := stages_spec hs1 e2 i H hi (by rw [show k + 1 + i = k + (i + 1) by omega]; exact hm)
            exact ⟨y, F', q1, q2, List.mem_cons_of_mem _ q3⟩
        · cases h
    · cases h
def isEff (j : Nat) : List (Nat × Hp) → Bool
  | [] => false
  | (p, _) :: es => Nat.beq p j || isEff j es
theorem isEff_spec {j : Nat} : ∀ {es : List (Nat × Hp)}, isEff j es = true → ∃ (i : Nat) (H : Hp), es[i]? = some (j, H)
  | [], h => by cases h
  | (p, H) :: es, h => by
    simp only [isEff, Bool.or_eq_true] at h
    rcases h with h | h
    · exact ⟨0, H, by rw [Nat.eq_of_beq_eq_true h]; rfl⟩
    · obtain ⟨i, H', hi⟩ := isEff_spec h; exact ⟨i + 1, H', hi⟩
theorem not_eff {j : Nat} : ∀ {es : List (Nat × Hp)}, isEff j es = false → ∀ (i p : Nat) (H : Hp), es[i]? = some (p, H) → p ≠ j
  | [], _, i, p, H, h => by cases h
  | (q, H') :: es, hb, i, p, H, h => by
    simp only [isEff, Bool.or_eq_false_iff] at hb
    cases i with
    | zero => cases h; exact fun e => by subst e; simp at hb
    | succ i => exact not_eff hb.2 i p H h
/-- all operations: what those that turn nothing yield at each stage -/
def pass2 (X : Tx) (n : Nat) (ops : Array Oper) (all : List Oper) (xs : List SV) (T : List (Nat × SV)) (es : List (Nat × Hp)) (hs : List Hp) (pc : List (Nat × SV)) : List Oper → List SV → Nat → Option (List (SV × SV) × Ob)
  | [], _, _ => some ([], [])
  | _ :: _, [], _ => none
  | o :: l, x :: ys, j => match pass2 X n ops all xs T es hs pc l ys (j + 1) with
    | some (D, E) => bif isEff j es then some (D, E) else (match look pc j with
      | some z => some ((z, x) :: D, E)
      | none => match stages X n ops es (twL o all xs 0 T) o j 0 hs with
        | some (zs, F) => some (zs.map (fun z => (z, x)) ++ D, F ++ E)
        | none => none)
    | none => none
theorem pass2_spec {X : Tx} {n : Nat} {ops : Array Oper} {all : List Oper} {xs : List SV} {T : List (Nat × SV)} {es : List (Nat × Hp)} {hs : List Hp} {pc : List (Nat × SV)} : ∀ {l : List Oper} {ys : List SV} {j : Nat} {D : List (SV × SV)} {E : Ob}, pass2 X n ops all xs T es hs pc l ys j = some (D, E) → okE E → D.map (·.1) = D.map (·.2) →
    ∀ (i : Nat) (o : Oper), l[i]? = some o → isEff (j + i) es = false → ∃ x, ys[i]? = some x ∧ (look pc (j + i) = some x ∨ ∀ (k : Nat) (H : Hp), hs[k]? = some H → mayB ops o (j + i) k es 0 = true → ∃ F, stepS X n ops (twL o all xs 0 T) H o = some (.val x F) ∧ okE F)
  | [], ys, j, D, E, h, hE, hD, i, o, hi, _ => by cases hi
  | _ :: _, [], j, D, E, h, hE, hD, i, o, hi, _ => by cases h
  | p :: l, y :: ys, j, D, E, h, hE, hD, i, o, hi, he => by
    have step : ∀ {D1 : List (SV × SV)} {E1 : Ob}, pass2 X n ops all xs T es hs pc l ys (j + 1) = some (D1, E1) → okE E1 → D1.map (·.1) = D1.map (·.2) → ∀ i, l[i]? = some o → isEff (j + (i + 1)) es = false → ∃ x, ys[i]? = some x ∧ (look pc (j + (i + 1)) = some x ∨ ∀ (k : Nat) (H : Hp), hs[k]? = some H → mayB ops o (j + (i + 1)) k es 0 = true → ∃ F, stepS X n ops (twL o all xs 0 T) H o = some (.val x F) ∧ okE F) := by
      intro D1 E1 h1 e1 d1 i hi he
      have := pass2_spec h1 e1 d1 i o hi (by rw [show j + 1 + i = j + (i + 1) by omega]; exact he)
      rw [show j + 1 + i = j + (i + 1) by omega] at this
      exact this
    unfold pass2 at h
    split at h
    · next D1 E1 h1 =>
      cases hb : isEff j es with
      | true =>
        rw [hb] at h
        cases h
        cases i with
        | zero => rw [Nat.add_zero, hb] at he; cases he
        | succ i => exact step h1 hE hD i hi he
      | false =>
        rw [hb] at h
        simp only [cond_false] at h
        split at h
        · next z hz =>
          cases h
          simp only [List.map_cons, List.cons.injEq] at hD
          cases i with
          | zero =>
            cases hi
            refine ⟨y, rfl, .inl ?_⟩
            rw [Nat.add_zero, hz, hD.1]
          | succ i => exact step h1 hE hD.2 i hi he
        · split at h
          · next zs F hz =>
            cases h
            obtain ⟨e1, e2⟩ := okE_app hE
            simp only [List.map_append] at hD
            obtain ⟨d1, d2⟩ := List.append_inj hD (by simp)
            cases i with
            | zero =>
              cases hi
              refine ⟨y, rfl, .inr fun k H hk hm => ?_⟩
              obtain ⟨x, F', q1, q2, q3⟩ := stages_spec hz e1 k H hk (by rw [Nat.zero_add]; exact hm)
              have : x = y := by
                simp only [List.map_map] at d1
                have := List.map_inj_left.1 d1 x q3
                simpa using this
              subst this
              exact ⟨F', q1, q2⟩
            | succ i => exact step h1 e2 d2 i hi he
          · cases h
    · cases h
/-- each slot is filled once, what is waited for stands ahead, those that turn memory wait for one another -/
def chainB (ops : Array Oper) : List (Nat × Hp) → Bool
  | (p, H) :: (q, H') :: es => (match ops[q]? with | some o => wt ops o p | none => false) && Nat.blt p q && chainB ops ((q, H') :: es)
  | _ => true
theorem chain_spec {ops : Array Oper} : ∀ {es : List (Nat × Hp)}, chainB ops es = true → ∀ (i p : Nat) (H : Hp) (q : Nat) (H' : Hp), es[i]? = some (p, H) → es[i + 1]? = some (q, H') → ∃ o, ops[q]? = some o ∧ wt ops o p = true
  | [], _, i, p, H, q, H', h, _ => by cases h
  | [_], _, i, p, H, q, H', _, h => by simp at h
  | (a, Ha) :: (b, Hb) :: es, hb, i, p, H, q, H', h1, h2 => by
    simp only [chainB, Bool.and_eq_true] at hb
    cases i with
    | zero =>
      cases h1; cases h2
      have := hb.1.1
      split at this
      · next o ho => exact ⟨o, ho, this⟩
      · cases this
    | succ i => exact chain_spec hb.2 i p H q H' h1 h2
theorem chain_inc {ops : Array Oper} : ∀ {es : List (Nat × Hp)}, chainB ops es = true → ∀ (i k p : Nat) (H H' : Hp), es[i]? = some (p, H) → es[k]? = some (p, H') → i = k := by
  have lt : ∀ {es : List (Nat × Hp)} {p : Nat} {H : Hp}, chainB ops ((p, H) :: es) = true → ∀ (k q : Nat) (H' : Hp), es[k]? = some (q, H') → p < q := by
    intro es
    induction es with
    | nil => intro p H _ k q H' h; cases h
    | cons x es ih =>
      obtain ⟨b, Hb⟩ := x
      intro p H hb k q H' h
      simp only [chainB, Bool.and_eq_true] at hb
      have h1 : p < b := by have := hb.1.2; simpa [Nat.blt_eq] using this
      cases k with
      | zero => cases h; exact h1
      | succ k => have := ih hb.2 k q H' h; omega
  intro es
  induction es with
  | nil => intro _ i k p H H' h; cases h
  | cons x es ih =>
    obtain ⟨b, Hb⟩ := x
    intro hb i k p H H' h1 h2
    have hb2 : chainB ops es = true := by
      cases es with
      | nil => rfl
      | cons y es => simp only [chainB, Bool.and_eq_true] at hb; exact hb.2
    cases i with
    | zero =>
      cases k with
      | zero => rfl
      | succ k => cases h1; exact absurd (lt hb k _ H' h2) (by omega)
    | succ i =>
      cases k with
      | zero => cases h2; exact absurd (lt hb i _ H h1) (by omega)
      | succ k => rw [ih hb2 i k p H H' h1 h2]
def putS : List Oper → List SV → List (Nat × SV) → List (Nat × SV)
  | o :: l, x :: xs, T => extS (putS l xs T) o.dst x
  | _, _, T => T
theorem put_look {T : List (Nat × SV)} {t : Nat} {x : SV} : ∀ {l : List Oper} {xs : List SV}, xs.length = l.length → look (putS l xs T) t = some x → (∃ (i : Nat) (p : Oper), l[i]? = some p ∧ xs[i]? = some x ∧ p.dst = some t) ∨ (look T t = some x ∧ ∀ (i : Nat) (p : Oper), l[i]? = some p → p.dst ≠ some t)
  | [], _, _, h => .inr ⟨h, fun i p h => by cases h⟩
  | _ :: _, [], hl, h => by cases hl
  | p :: l, y :: xs, hl, h => by
    have rest : look (putS l xs T) t = some x → p.dst ≠ some t → (∃ (i : Nat) (q : Oper), (p :: l)[i]? = some q ∧ (y :: xs)[i]? = some x ∧ q.dst = some t) ∨ (look T t = some x ∧ ∀ (i : Nat) (q : Oper), (p :: l)[i]? = some q → q.dst ≠ some t) := fun h hp => by
      rcases put_look (by simpa using hl) h with ⟨i, q, h1, h2, h4⟩ | ⟨h1, h2⟩
      · exact .inl ⟨i + 1, q, by simpa using h1, by simpa using h2, h4⟩
      · refine .inr ⟨h1, fun i q hq => ?_⟩
        cases i with
        | zero => cases hq; exact hp
        | succ i => exact h2 i q (by simpa using hq)
    unfold putS at h
    cases hd : p.dst with
    | none => rw [hd] at h; exact rest h (by rw [hd]; simp)
    | some d =>
      rw [hd] at h
      simp only [extS, look] at h
      cases hk : Nat.beq d t with
      | false =>
        rw [hk] at h
        refine rest h fun e => ?_
        rw [hd] at e; cases e
        rw [show Nat.beq t t = true from Nat.beq_refl t] at hk; cases hk
      | true =>
        rw [hk] at h
        cases h
        have := Nat.eq_of_beq_eq_true hk
        subst this
        exact .inl ⟨0, p, rfl, rfl, hd⟩
section
variable {P : Program} {X : Tx} {n : Nat} {ks : List Nat} {G0 : Gr} {w0 : World} {T : List (Nat × SV)} {l : List Oper} {xs : List SV} {es : List (Nat × Hp)} {hs : List Hp} {Q : Exit → Act → World → Prop}
structure DInv (n : Nat) (ks : List Nat) (G0 : Gr) (w0 : World) (T : List (Nat × SV)) (l : List Oper) (xs : List SV) (es : List (Nat × Hp)) (hs : List Hp) (listed : Array Bool) (k : Nat) (G : Gr) (a : Act) (w : World) : Prop where
  size : a.tmps.size = n
  defers : a.defers = []
  base : ∀ t x, look T t = some x → (∀ (j : Nat) (o : Oper), l[j]? = some o → o.dst = some t → listed.getD j false = false) → den G x = some (a.tmps.getD t undef)
  done : ∀ (j : Nat) (o : Oper) (x : SV) (d : Nat), l[j]? = some o → listed.getD j false = true → xs[j]? = some x → o.dst = some d → den G x = some (a.tmps.getD d undef)
  ms : ∃ H, hs[k]? = some H ∧ Ms H ks G0 w0 G w
  eff : ∀ (i p : Nat) (H' : Hp), es[i]? = some (p, H') → (listed.getD p false = true ↔ i < k)
  closed : ∀ (j : Nat) (o : Oper) (p : Nat), l[j]? = some o → listed.getD j false = true → waits o p = true → listed.getD p false = true
def EffOK (P : Program) (n : Nat) (ops : Array Oper) (ks : List Nat) (G0 : Gr) (w0 : World) (Tw : List (Nat × SV)) (H : Hp) (o : Oper) (x : SV) (H' : Hp) : Prop :=
  ∀ G a w, Sy n Tw H ks G0 w0 G a w → Does P ops o a w fun v w' => ∃ F, den (G ++ F) x = some v ∧ Ms H' ks G0 w0 (G ++ F) w'
theorem step_val {ops : Array Oper} {o : Oper} {H : Hp} {Tw : List (Nat × SV)} {G : Gr} {a : Act} {w : World} (hX : X.ok P = true) (A : Sy n Tw H ks G0 w0 G a w) {x : SV} {E : Ob} (h : stepS X n ops Tw H o = some (.val x E)) (hE : okE E) : ∃ z, den G x = some z ∧ ∀ K : Value → World → Prop, K z w → Does P ops o a w K := by
  unfold stepS at h
  have hgn : gcOK none := fun g hg => by cases hg
  split at h
  · next hd =>
    split at h
    · next hg =>
      obtain ⟨z, hz, k⟩ := xop_val (P := P) (ops := ops) hX A h
      exact ⟨z, hz, k hE hgn (gd_run (gd := none) A hg)⟩
    · next hg => cases h; exact ⟨undef, rfl, fun K hK => does_not (gd_skip A hg) hK⟩
    · next b hg =>
      split at h
      · next y F hx =>
        cases h
        have hw := gd_sym A hg
        obtain ⟨z, hz, k⟩ := xop_val (P := P) (ops := ops) hX A hx
        cases b with
        | true => exact ⟨z, by simp [den, hz], k hE (fun g hg => by cases hg; rfl) hw⟩
        | false => exact ⟨undef, by simp [den, hz], fun K hK => does_not hw hK⟩
      · cases h
    · cases h
  · cases h
theorem drawn_go (hX : X.ok P = true) (hfit : fitB l.toArray n [] = true) (hchain : chainB l.toArray es = true) (hT : ∀ t x, look T t = some x → ∀ (j : Nat) (o : Oper), l[j]? = some o → o.dst = some t → ∀ i, i < l.length → i ≠ j → waits o i = true) (hl : xs.length = l.length) (hlen : hs.length = es.length + 1)
    (hpure : ∀ (i : Nat) (o : Oper), l[i]? = some o → isEff i es = false → ∃ x, xs[i]? = some x ∧ ∀ (k : Nat) (H : Hp), hs[k]? = some H → mayB l.toArray o i k es 0 = true → EffOK P n l.toArray ks G0 w0 (twL o l xs 0 T) H o x H)
    (heff : ∀ (m p : Nat) (H' : Hp), es[m]? = some (p, H') → hs[m + 1]? = some H' ∧ ∃ o x H, l[p]? = some o ∧ xs[p]? = some x ∧ hs[m]? = some H ∧ EffOK P n l.toArray ks G0 w0 (twL o l xs 0 T) H o x H')
    (hend : ∀ G a w H, hs[es.length]? = some H → Sy n (putS l xs T) H ks G0 w0 G a w → Q .normal a w) :
    ∀ (fuel : Nat) (listed : Array Bool) (a : Act) (w : World) (k : Nat) (G : Gr), listed.size = l.length → ((List.range l.length).filter fun i => !listed.getD i true).length ≤ fuel → DInv n ks G0 w0 T l xs es hs listed k G a w → wpAny P .any l.toArray Q fuel listed a w := by
  have last : ∀ (listed : Array Bool) (a : Act) (w : World) (k : Nat) (G : Gr), listed.size = l.length → Region.ready .any l.toArray listed = [] → DInv n ks G0 w0 T l xs es hs listed k G a w → Q .normal a w := by
    intro listed a w k G hls hr I
    have all : ∀ i, i < l.length → listed.getD i false = true := by
      intro i
      induction i using Nat.strongRecOn with
      | _ i ih =>
        intro hi
        cases hq : listed.getD i false with
        | true => rfl
        | false =>
          exfalso
          have : i ∈ Region.ready .any l.toArray listed := by
            rw [mem_ready]
            have hli : i < listed.size := by omega
            have hoi : l.toArray[i]? = some l[i] := by simp [hi]
            refine ⟨by simpa [hli] using hq, l[i], hoi, fun e he hb => ?_⟩
            have hlt := (fit_spec hfit hoi).2 e he hb
            exact ih e.on hlt (by omega)
          rw [hr] at this; cases this
    obtain ⟨H, h1, h2⟩ := I.ms
    have hk : k = es.length := by
      have hkl : k < hs.length := (List.getElem?_eq_some_iff.1 h1).1
      by_cases hk : k < es.length
      · exfalso
        have he : es[k]? = some (es[k].1, es[k].2) := by simp [hk]
        obtain ⟨_, o, x, _, ho, _⟩ := heff k _ _ he
        have hp : es[k].1 < l.length := (List.getElem?_eq_some_iff.1 ho).1
        have := (I.eff k _ _ he).1 (all _ hp)
        omega
      · omega
    subst hk
    refine hend G a w H h1 (h2.sy I.size I.defers fun t x hx => ?_)
    rcases put_look hl hx with ⟨i, p, q1, q2, q3⟩ | ⟨hx, hno⟩
    · exact I.done i p x t q1 (all i (List.getElem?_eq_some_iff.1 q1).1) q2 q3
    · exact I.base t x hx fun j o h1 h2 => absurd h2 (hno j o h1)
  intro fuel
  induction fuel with
  | zero =>
    intro listed a w k G hls hf I
    have hr : Region.ready .any l.toArray listed = [] := by
      unfold Region.ready
      rw [List.filter_eq_nil_iff]
      intro i hi
      have hnil : ((List.range l.length).filter fun i => !listed.getD i true) = [] := List.eq_nil_of_length_eq_zero (by omega)
      rw [List.filter_eq_nil_iff] at hnil
      have := hnil i (by simpa using hi)
      simp only [Bool.not_eq_true, Bool.not_eq_false'] at this
      simp [this]
    exact ⟨hr, last listed a w k G hls hr I⟩
  | succ fuel ih =>
    intro listed a w k G hls hf I
    refine ⟨fun hr => last listed a w k G hls hr I, fun i hi => ?_⟩
    obtain ⟨hun, o, hoi, hall⟩ := mem_ready.1 hi
    have hil : i < l.length := by have := (Array.getElem?_eq_some_iff.1 hoi).1; simpa using this
    have hoi' : l[i]? = some o := by simpa using hoi
    obtain ⟨hfd, hfe⟩ := fit_spec hfit hoi
    have hun' : listed.getD i false = false := by
      have hlt : i < listed.size := by omega
      simpa [hlt] using hun
    have hw : ∀ p, waits o p = true → listed.getD p false = true := fun p hp => by
      unfold waits at hp
      rw [List.any_eq_true] at hp
      obtain ⟨e, he', hb⟩ := hp
      have he : e ∈ o.after := by simpa using he'
      simp only [Bool.and_eq_true, beq_iff_eq] at hb
      rw [← hb.2]
      exact hall e he hb.1
    obtain ⟨H, hHk, hMs⟩ := I.ms
    -- what is known where it stands
    have A : Sy n (twL o l xs 0 T) H ks G0 w0 G a w := hMs.sy I.size I.defers fun t x hx => by
      rcases tw_look hx with ⟨j, p, q1, q2, q3, q4⟩ | hx
      · exact I.done j p x t q1 (hw j (by simpa using q3)) q2 q4
      · refine I.base t x hx fun j p h1 h2 => ?_
        by_cases hji : j = i
        · subst hji; exact hun'
        · cases hlj : listed.getD j false with
          | false => rfl
          | true =>
            have := I.closed j p i h1 hlj (hT t x hx j p h1 h2 i hil (Ne.symm hji))
            rw [hun'] at this; cases this
    -- the next state
    have next : ∀ (x : SV) (v : Value) (w' : World) (F : Gr) (k' : Nat), xs[i]? = some x → den (G ++ F) x = some v → (∃ H', hs[k']? = some H' ∧ Ms H' ks G0 w0 (G ++ F) w') →
        (∀ (m p : Nat) (H' : Hp), es[m]? = some (p, H') → ((p = i ∨ m < k) ↔ m < k')) → wpAny P .any l.toArray Q fuel (listed.setIfInBounds i true) (a.put o.dst v) w' := by
      intro x v w' F k' hx hv hms hk'
      have hlt : i < listed.size := by omega
      have hget : ∀ j, (listed.setIfInBounds i true).getD j false = true ↔ (j = i ∨ listed.getD j false = true) := by
        intro j
        by_cases hji : j = i
        · subst hji; simp [hlt]
        · rw [set_ne false (Ne.symm hji)]; simp [hji]
      refine ih _ _ _ k' (G ++ F) (by simpa using hls) ?_ ⟨?_, ?_, fun t y hy hno => ?_, fun j p y d q1 q2 q3 q4 => ?_, hms, fun m p H' hm => ?_, fun j p r q1 q2 q3 => ?_⟩
      · have : ((List.range l.length).filter fun k => !(listed.setIfInBounds i true).getD k true).length < ((List.range l.length).filter fun k => !listed.getD k true).length := by
          have hsub : ((List.range l.length).filter fun k => !(listed.setIfInBounds i true).getD k true) = ((List.range l.length).filter fun k => !listed.getD k true).filter (fun k => k != i) := by
            rw [List.filter_filter]
            apply List.filter_congr
            intro k _
            by_cases hk : k = i
            · subst hk; simp [hlt]
            · rw [set_ne true (Ne.symm hk)]; simp [hk]
          rw [hsub]
          refine List.length_filter_lt_length_iff_exists.2 ⟨i, ?_, by simp⟩
          simp only [List.mem_filter, List.mem_range]
          exact ⟨hil, by rw [hun]; rfl⟩
        omega
      · cases hd : o.dst <;> simp [Act.put, I.size]
      · cases hd : o.dst <;> simp [Act.put, I.defers]
      · have hno' : ∀ (j : Nat) (q : Oper), l[j]? = some q → q.dst = some t → listed.getD j false = false := fun j q h1 h2 => by
          have h3 := hno j q h1 h2
          cases hlj : listed.getD j false with
          | false => rfl
          | true => rw [(hget j).2 (.inr hlj)] at h3; cases h3
        have h1 := den_mono F y (I.base t y hy hno')
        cases hd : o.dst with
        | none => exact h1
        | some d =>
          have hne : d ≠ t := fun e => by
            have h3 := hno i o hoi' (by rw [hd, e])
            rw [(hget i).2 (.inl rfl)] at h3; cases h3
          simp only [Act.put, Array.getD_eq_getD_getElem?]
          rw [Array.getElem?_setIfInBounds_ne hne, ← Array.getD_eq_getD_getElem?]
          exact h1
      · by_cases hji : j = i
        · subst hji
          rw [hoi'] at q1; cases q1
          rw [hx] at q3; cases q3
          have hdn : d < a.tmps.size := by rw [I.size]; exact (hfd d q4).1
          rw [q4]
          simp [Act.put, hdn, hv]
        · have h2 : listed.getD j false = true := by
            rcases (hget j).1 q2 with h | h
            · exact absurd h hji
            · exact h
          have h1 := den_mono F y (I.done j p y d q1 h2 q3 q4)
          cases hd : o.dst with
          | none => exact h1
          | some d' =>
            have hne : d' ≠ d := fun e => by
              subst e
              exact hji ((hfd d' hd).2.1 j (by simpa using (List.getElem?_eq_some_iff.1 q1).1) (by simp [dstOf, q1, q4]))
            simp only [Act.put, Array.getD_eq_getD_getElem?]
            rw [Array.getElem?_setIfInBounds_ne hne, ← Array.getD_eq_getD_getElem?]
            exact h1
      · rw [hget p, I.eff m p H' hm]; exact hk' m p H' hm
      · rw [hget r]
        by_cases hji : j = i
        · subst hji; rw [hoi'] at q1; cases q1; exact .inr (hw r q3)
        · rcases (hget j).1 q2 with h | h
          · exact absurd h hji
          · exact .inr (I.closed j p r q1 h q3)
    have fin : ∀ {x : SV} {k' : Nat}, xs[i]? = some x → (∀ (m p : Nat) (H' : Hp), es[m]? = some (p, H') → ((p = i ∨ m < k) ↔ m < k')) → ∀ {H' : Hp}, hs[k']? = some H' → Does P l.toArray o a w (fun v w' => ∃ F, den (G ++ F) x = some v ∧ Ms H' ks G0 w0 (G ++ F) w') → wpOp P l.toArray Q i (wpAny P .any l.toArray Q fuel (listed.setIfInBounds i true)) a w := by
      intro x k' hx hk' H' hH' hd
      unfold wpOp
      rcases hd with ⟨hwn, h⟩ | ⟨hwn, F, h1, h2⟩
      · simp only [hoi, hwn, if_true]
        refine .inl (Oper.wp_mono (fun a2 w2 h => ?_) (h Q))
        obtain ⟨v, rfl, F, h1, h2⟩ := h
        exact next x v w2 F k' hx h1 ⟨H', hH', h2⟩ hk'
      · simp only [hoi, hwn, Bool.false_eq_true, if_false]
        exact next x undef w F k' hx h1 ⟨H', hH', h2⟩ hk'
    cases he : isEff i es with
    | true =>
      obtain ⟨m, H', hm⟩ := isEff_spec he
      obtain ⟨hH', o', x, Hm, e1, e2, e3, e4⟩ := heff m i H' hm
      rw [hoi'] at e1; cases e1
      have hmk : m = k := by
        have h1 : ¬ m < k := fun h => by have := (I.eff m i H' hm).2 h; rw [this] at hun'; cases hun'
        have h2 : m ≤ k := by
          cases m with
          | zero => omega
          | succ m =>
            have hmlt : m < es.length := by have := (List.getElem?_eq_some_iff.1 hm).1; omega
            have hem : es[m]? = some (es[m].1, es[m].2) := by simp [hmlt]
            obtain ⟨o2, g1, g2⟩ := chain_spec hchain m _ _ i H' hem hm
            rw [hoi] at g1; cases g1
            have g3 : listed.getD es[m].1 false = true := by
              unfold wt at g2
              cases hd : waits o es[m].1 with
              | true => exact hw _ hd
              | false =>
                rw [hd] at g2
                refine via_listed (fun j q p' hq hj hwq => I.closed j q p' (by simpa using hq) hj hwq) 2 _ (fun e he hb => hw e.on ?_) g2
                unfold waits
                rw [List.any_eq_true]
                exact ⟨e, he, by simp [hb]⟩
            have := (I.eff m _ _ hem).1 g3
            omega
        omega
      subst hmk
      rw [hHk] at e3; cases e3
      refine fin e2 (k' := m + 1) (fun m' p H2 hm' => ?_) hH' (e4 G a w A)
      constructor
      · rintro (rfl | h)
        · have := chain_inc hchain m' m _ H2 H' hm' hm; omega
        · omega
      · intro h
        by_cases hmm : m' = m
        · subst hmm; rw [hm] at hm'; cases hm'; exact .inl rfl
        · exact .inr (by omega)
    | false =>
      obtain ⟨x, e1, e2⟩ := hpure i o hoi' he
      have hmay : mayB l.toArray o i k es 0 = true := may_spec fun m p H' hm => by
        rw [Nat.zero_add]
        refine ⟨fun hwt => (I.eff m p H' hm).1 ?_, fun q hq hwt => ?_⟩
        · unfold wt at hwt
          cases hd : waits o p with
          | true => exact hw p hd
          | false =>
            rw [hd] at hwt
            refine via_listed (fun j q p' hq hj hwq => I.closed j q p' (by simpa using hq) hj hwq) 2 _ (fun e he hb => hw e.on ?_) hwt
            unfold waits
            rw [List.any_eq_true]
            exact ⟨e, he, by simp [hb]⟩
        by_cases hmk : m < k
        · exfalso
          have hp := (I.eff m p H' hm).2 hmk
          have := I.closed p q i (by simpa using hq) hp hwt
          rw [this] at hun'; cases hun'
        · omega
      refine fin e1 (k' := k) (fun m p H' hm => ?_) hHk (e2 k H hHk hmay G a w A)
      constructor
      · rintro (rfl | h)
        · exact absurd rfl (not_eff he m _ H' hm)
        · exact h
      · exact fun h => .inr h
end
end Go.Proofs.Ytiglneecmibgmaa
/- Regions that draw their order: the rule. -/
namespace Go.Proofs.Ytiglneecmibgmaa
open Go.RowKit
set_option linter.unusedVariables false
set_option linter.unusedSimpArgs false
set_option linter.unusedSectionVars false

def outX (H : Hp) : Out → SV
  | .val x _ => x
  | .new _ _ x => x
  | .upd _ _ _ => .tup []
def isVal : Out → Bool
  | .val _ _ => true
  | _ => false
def pass3 (X : Tx) (n : Nat) (ops : Array Oper) (l : List Oper) (xs : List SV) (T : List (Nat × SV)) (cl : List (Nat × SV × Hp)) : List (Nat × Hp) → Hp → Option (List (SV × SV) × List (Hp × Hp) × Ob)
  | [], _ => some ([], [], [])
  | (p, H') :: es, H => match pass3 X n ops l xs T cl es H' with
    | some (D, DH, E) => match lg l p, lg xs p with
      | some o, some x => match cl.lookup p with
        | some (y, _) => some ((y, x) :: D, DH, E)
        | none => match stepS X n ops (twL o l xs 0 T) H o with
          | some out => some ((outX H out, x) :: D, (outH H out, H') :: DH, outE out ++ E)
          | none => none
      | _, _ => none
    | none => none
section
variable {P : Program} {X : Tx} {n : Nat} {ks : List Nat} {G0 : Gr} {w0 : World} {T : List (Nat × SV)} {l : List Oper} {xs : List SV} {Q : Exit → Act → World → Prop} {cl : List (Nat × SV × Hp)}
def EffAll (P : Program) (n : Nat) (ops : Array Oper) (ks : List Nat) (G0 : Gr) (w0 : World) (l : List Oper) (xs : List SV) (T : List (Nat × SV)) (cl : List (Nat × SV × Hp)) : List (Nat × Hp) → Hp → Prop
  | [], _ => True
  | (p, H') :: es, H => (match cl.lookup p, lg l p with | some (x, _), some o => EffOK P n ops ks G0 w0 (twL o l xs 0 T) H o x H' | _, _ => True) ∧ EffAll P n ops ks G0 w0 l xs T cl es H'
theorem effAll_nil {ops : Array Oper} : ∀ (es : List (Nat × Hp)) (H : Hp), EffAll P n ops ks G0 w0 l xs T [] es H
  | [], _ => trivial
  | (p, H') :: es, H => ⟨by simp, effAll_nil es H'⟩
theorem eff_auto {ops : Array Oper} {o : Oper} {H : Hp} {Tw : List (Nat × SV)} {out : Out} (hX : X.ok P = true) (h : stepS X n ops Tw H o = some out) (hE : okE (outE out)) : EffOK P n ops ks G0 w0 Tw H o (outX H out) (outH H out) := by
  intro G a w A
  cases out with
  | val x E =>
    obtain ⟨z, hz, k⟩ := step_val (P := P) hX A h hE
    exact k _ ⟨[], by simpa [outX] using hz, by simpa [outH] using A.ms⟩
  | new t en x =>
    unfold stepS at h
    split at h
    · next hd =>
      split at h
      · next hg =>
        exact xop_new (P := P) (ops := ops) hX A h (gd_run (gd := none) A hg) fun g w' v a1 a2 a3 a4 a5 => ⟨[some ⟨g, [], [], t⟩], a5, (A.newBlk a1 a2 a3 a4).ms⟩
      · cases h
      · split at h <;> cases h
      · cases h
    · cases h
  | upd i cs E =>
    unfold stepS at h
    split at h
    · next hd =>
      split at h
      · next hg =>
        refine xop_upd hX A h hE (gd_run (gd := none) A hg) fun cs0 L vs' w' a1 a2 a3 a4 a5 => ⟨[], rfl, ?_⟩
        simpa [outH] using (A.turn a1 a2 a3 a4 a5).ms
      · cases h
      · split at h <;> cases h
      · cases h
    · cases h
theorem pass3_spec {ops : Array Oper} (hX : X.ok P = true) : ∀ {es : List (Nat × Hp)} {H : Hp} {D : List (SV × SV)} {DH : List (Hp × Hp)} {E : Ob}, pass3 X n ops l xs T cl es H = some (D, DH, E) → okE E → D.map (·.1) = D.map (·.2) → DH.map (·.1) = DH.map (·.2) → EffAll P n ops ks G0 w0 l xs T cl es H →
    ∀ (m p : Nat) (H' : Hp), es[m]? = some (p, H') → (H :: es.map (·.2))[m + 1]? = some H' ∧ ∃ o x Hm, l[p]? = some o ∧ xs[p]? = some x ∧ (H :: es.map (·.2))[m]? = some Hm ∧ EffOK P n ops ks G0 w0 (twL o l xs 0 T) Hm o x H'
  | [], _, _, _, _, _, _, _, _, _, m, p, H', hm => by cases hm
  | (q, Hq) :: es, H, D, DH, E, h, hE, hD, hDH, hA, m, p, H', hm => by
    unfold pass3 at h
    obtain ⟨hA1, hA2⟩ := hA
    split at h
    · next D1 DH1 E1 h1 =>
      split at h
      · next o x ho hx =>
        rw [ho] at hA1
        rw [lg_is] at ho hx
        split at h
        · next y Hy hc =>
          cases h
          simp only [List.map_cons, List.cons.injEq] at hD
          rw [hc] at hA1
          cases m with
          | zero =>
            cases hm
            refine ⟨by simp, o, x, H, ho, hx, rfl, ?_⟩
            have := hD.1
            subst this
            exact hA1
          | succ m =>
            have := pass3_spec hX h1 hE hD.2 hDH hA2 m p H' (by simpa using hm)
            simpa using this
        · next hc =>
          split at h
          · next out hs =>
            cases h
            obtain ⟨e1, e2⟩ := okE_app hE
            simp only [List.map_cons, List.cons.injEq] at hD hDH
            cases m with
            | zero =>
              cases hm
              refine ⟨by simp, o, x, H, ho, hx, rfl, ?_⟩
              have := eff_auto (P := P) (ks := ks) (G0 := G0) (w0 := w0) hX hs e1
              rw [hD.1, hDH.1] at this
              exact this
            | succ m =>
              have := pass3_spec hX h1 e2 hD.2 hDH.2 hA2 m p H' (by simpa using hm)
              simpa using this
          · cases h
      · cases h
    · cases h
theorem pass1_len {ops : Array Oper} {pc : List (Nat × SV)} : ∀ {l : List Oper} {j : Nat} {T : List (Nat × SV)} {H : Hp} {xs : List SV} {es : List (Nat × Hp)}, pass1 X n ops pc cl l j T H = some (xs, es) → xs.length = l.length
  | [], _, _, _, _, _, h => by cases h; rfl
  | o :: l, j, T, H, xs, es, h => by
    unfold pass1 at h
    split at h
    · split at h
      · next xs' hs' h1 => cases h; simp [pass1_len h1]
      · cases h
    · split at h
      · split at h
        · next xs' hs' h1 => cases h; simp [pass1_len h1]
        · cases h
      · split at h
        · split at h
          · next xs' hs' h1 => cases h; simp [pass1_len h1]
          · cases h
        · rw [nfH_is] at h
          split at h
          · next xs' hs' h1 => cases h; simp [pass1_len h1]
          · cases h
        · rw [nfH_is] at h
          split at h
          · next xs' hs' h1 => cases h; simp [pass1_len h1]
          · cases h
        · cases h
def lastH : Hp → List (Nat × Hp) → Hp
  | H, [] => H
  | _, (_, H) :: es => lastH H es
theorem lastH_is : ∀ (es : List (Nat × Hp)) (H : Hp), (H :: es.map (·.2))[es.length]? = some (lastH H es)
  | [], H => rfl
  | (p, H') :: es, H => by simpa [lastH] using lastH_is es H'
theorem eff_pure {ops : Array Oper} {Tw : List (Nat × SV)} {H : Hp} {o : Oper} {f : Nat} {az : List SV} {x : SV} (h : callS n ops Tw o = some (f, az)) (hin : inL 0 az = true) (hf : Fn P f az [] (Rt x [])) : EffOK P n ops ks G0 w0 Tw H o x H := by
  intro G a w A
  obtain ⟨hent, hf⟩ := hf
  obtain ⟨hd, vs, hv, hdo⟩ := callS_do (P := P) (ops := ops) A h hent
  -- what it is handed names no block
  have hM : Mem [] [] w := ⟨rfl, fun i e h => (by cases h), fun i j e f L M _ h => (by cases h)⟩
  have hv0 : denL [] az = some vs := by
    have := denL_take' (G := G) az hin
    simp only [List.take_zero] at this
    rw [this]; exact hv
  refine hdo (hf [] w vs hM hv0) ?_
  rintro e w' ⟨y, H', F, v, ⟨rfl, rfl⟩, hx, rfl, hM2, hmix, _⟩
  have hF : F = [] := by have := hM2.len; simp at this; exact List.eq_nil_of_length_eq_zero this.symm
  subst hF
  have hg : Grow w w' := ⟨hmix.os, hmix.tape, hmix.output, hmix.size, fun k hk => hmix.block k hk rfl⟩
  refine ⟨v, rfl, [], ?_, by simpa using A.ms.grow hg⟩
  have := den_mono (G := []) G y (by simpa using hx)
  simpa using this
/-- a call under a truth that is not known -/
def callG (n : Nat) (ops : Array Oper) (T : List (Nat × SV)) (o : Oper) : Option (Bool × Nat × List SV × Ob) := match fitsD n o.dst with
  | true => match guardS ops T o.guard with
    | some (.sym b) => match o.op with
      | .call c => match c.callee with
        | .value x => match evG (some b) T x with
          | some (.fn f l, E0) => match evsS (some b) T c.args.toList with
            | some (az, E) => some (b, f, az ++ l, E0 ++ E)
            | _ => none
          | _ => none
        | _ => none
      | _ => none
    | _ => none
  | false => none
theorem callG_do {ops : Array Oper} {o : Oper} {H : Hp} {T : List (Nat × SV)} {G : Gr} {a : Act} {w : World} (A : Sy n T H ks G0 w0 G a w) {b : Bool} {f : Nat} {az : List SV} {E : Ob} (h : callG n ops T o = some (b, f, az, E)) (hE : okE E) (hent : b = true → Ent_ P f = some (false, false)) : (b = false → Region.wanted o (yielded ops a.tmps) = false) ∧ (b = true → ∃ vs, denL G az = some vs ∧ ∀ {R : Ending → World → Prop} {K : Value → World → Prop}, Calls P f vs.toArray w R → (∀ e w', R e w' → ∃ v, e = .returned v ∧ K v w') → Does P ops o a w K) := by
  obtain ⟨d, i, ty, pos, af, gd⟩ := o
  unfold callG at h
  split at h
  · next hd =>
    split at h
    · next b' hg =>
      have hw := gd_sym A hg
      split at h
      · next c hc =>
        simp only at hc
        subst hc
        obtain ⟨callee, args, ats⟩ := c
        simp only at h
        split at h
        · next x =>
          split at h
          · next f' l E0 hx =>
            split at h
            · next az' E' hs =>
              cases h
              refine ⟨fun hb => by rw [hw, hb], fun hb => ?_⟩
              subst hb
              have h1 := A.evg (fun g hg => by cases hg; rfl) hx (okE_app hE).1
              unfold den at h1
              obtain ⟨ls, h2, h3⟩ := Option.map_eq_some_iff.1 h1
              obtain ⟨us, h4, h5⟩ := evs_den A hs
              have h6 := h5 (okE_app hE).2 (fun g hg => by cases hg; rfl)
              refine ⟨us ++ ls, denL_app h4 h2, fun hc hk => ?_⟩
              refine d_callx (lb := ls.toArray) (vs := us.toArray) (us := (us ++ ls).toArray) hw h3.symm (hent rfl) ?_ (by simp) hc hk
              rw [← h6]; apply Array.ext'; simp
            · cases h
          · cases h
        · cases h
      · cases h
    · cases h
  · cases h
theorem eff_pureG {ops : Array Oper} {Tw : List (Nat × SV)} {H : Hp} {o : Oper} {b : Bool} {f : Nat} {az : List SV} {E : Ob} {x : SV} {v0 : Value} (h : callG n ops Tw o = some (b, f, az, E)) (hE : okE E) (hin : inL 0 az = true) (hx0 : den [] x = some v0) (hf : b = true → Fn P f az [] (Rt x [])) : EffOK P n ops ks G0 w0 Tw H o (.opt b x) H := by
  intro G a w A
  obtain ⟨k1, k2⟩ := callG_do (P := P) (ops := ops) A h hE (fun hb => (hf hb).1)
  cases b with
  | false =>
    refine does_not (k1 rfl) ⟨[], ?_, by simpa using A.ms⟩
    have := den_mono (G := []) G x (by simpa using hx0)
    simp at this
    simp [den, this]
  | true =>
    obtain ⟨hent, hf⟩ := hf rfl
    obtain ⟨vs, hv, hdo⟩ := k2 rfl
    have hM : Mem [] [] w := ⟨rfl, fun i e h => (by cases h), fun i j e f L M _ h => (by cases h)⟩
    have hv0 : denL [] az = some vs := by
      have := denL_take' (G := G) az hin
      simp only [List.take_zero] at this
      rw [this]; exact hv
    refine hdo (hf [] w vs hM hv0) ?_
    rintro e w' ⟨y, H', F, v, ⟨rfl, rfl⟩, hx, rfl, hM2, hmix, _⟩
    have hF : F = [] := by have := hM2.len; simp at this; exact List.eq_nil_of_length_eq_zero this.symm
    subst hF
    have hg : Grow w w' := ⟨hmix.os, hmix.tape, hmix.output, hmix.size, fun k hk => hmix.block k hk rfl⟩
    refine ⟨v, rfl, [], ?_, by simpa using A.ms.grow hg⟩
    have := den_mono (G := []) G y (by simpa using hx)
    simp at this
    simp [den, this]
/-- a call that turns nothing -/
def PcOK (P : Program) (n : Nat) (ops : Array Oper) (Tw : List (Nat × SV)) (o : Oper) (x : SV) : Prop :=
  (∃ f az, callS n ops Tw o = some (f, az) ∧ inL 0 az = true ∧ Fn P f az [] (Rt x [])) ∨ ∃ b y f az E v0, callG n ops Tw o = some (b, f, az, E) ∧ x = .opt b y ∧ okE E ∧ inL 0 az = true ∧ den [] y = some v0 ∧ (b = true → Fn P f az [] (Rt y []))
/-- calls that turn nothing -/
def PcAll (P : Program) (n : Nat) (ops : Array Oper) (l : List Oper) (xs : List SV) (T : List (Nat × SV)) : List (Nat × SV) → Prop
  | [] => True
  | (j, x) :: pc => (match lg l j with | some o => PcOK P n ops (twL o l xs 0 T) o x | none => True) ∧ PcAll P n ops l xs T pc
theorem pc_at {ops : Array Oper} : ∀ {pc : List (Nat × SV)} {j : Nat} {x : SV} {o : Oper}, PcAll P n ops l xs T pc → look pc j = some x → l[j]? = some o → PcOK P n ops (twL o l xs 0 T) o x
  | [], _, _, _, _, h, _ => by cases h
  | (k, y) :: pc, j, x, o, hA, h, ho => by
    unfold look at h
    cases hb : Nat.beq k j with
    | true =>
      rw [hb] at h
      cases h
      have := Nat.eq_of_beq_eq_true hb
      subst this
      have := hA.1
      rw [lg_is, ho] at this
      exact this
    | false => rw [hb] at h; exact pc_at hA.2 h ho
/-- all that is asked of a region, at once -/
structure Drs where
  xs : List SV
  es : List (Nat × Hp)
  D : List (SV × SV)
  DH : List (Hp × Hp)
  E : Ob
def draws (X : Tx) (n : Nat) (pc : List (Nat × SV)) (cl : List (Nat × SV × Hp)) (l : List Oper) (T : List (Nat × SV)) (H : Hp) : Option Drs := match pass1 X n l.toArray pc cl l 0 T H with
  | some (xs, es) => match pass2 X n l.toArray l xs T es (H :: es.map (·.2)) pc l xs 0 with
    | some (D, E) => match pass3 X n l.toArray l xs T cl es H with
      | some (D', DH, E') => bif chainB l.toArray es then some ⟨xs, es, D ++ D', DH, E ++ E'⟩ else none
      | none => none
    | none => none
  | none => none
theorem DRAW0 {id : Nat} {H : Hp} {G : Gr} {a : Act} {w : World} {K : List Fr} {r : Drs} (hX : X.ok P = true) (hmo : P.follows .mixedOrders = true) (pc : List (Nat × SV)) (cl : List (Nat × SV × Hp)) (A : Sy n T H ks G0 w0 G a w) (h : draws X n pc cl l (keepT l T) H = some r) (hE : okE r.E) (hD : r.D.map (·.1) = r.D.map (·.2)) (hDH : r.DH.map (·.1) = r.DH.map (·.2)) (hfit : fitB l.toArray n [] = true)
    (hA : EffAll P n l.toArray ks G0 w0 l r.xs (keepT l T) cl r.es H) (hP : PcAll P n l.toArray l r.xs (keepT l T) pc) (hk : ∀ {G a w}, Sy n (putS l r.xs (keepT l T)) (lastH H r.es) ks G0 w0 G a w → Goal P Q K .norm a w) : Goal P Q K (.code (.region id l.toArray true)) a w := by
  unfold draws at h
  split at h
  · next xs es h1 =>
    split at h
    · next D E h2 =>
      split at h
      · next D' DH E' h3 =>
        cases hc : chainB l.toArray es with
        | false => rw [hc] at h; cases h
        | true =>
          rw [hc] at h
          cases h
          obtain ⟨e1, e2⟩ := okE_app hE
          simp only [List.map_append] at hD
          obtain ⟨d1, d2⟩ := List.append_inj hD (by
            have := congrArg List.length hD
            simp at this ⊢)
          refine wp_region_any hmo ?_
          have hB : Ms H ks G0 w0 G w.drew := A.ms.grow (Grow.refl w).drew
          refine drawn_go (P := P) (X := X) (xs := xs) (es := es) (hs := H :: es.map (·.2)) (T := keepT l T) hX hfit hc (fun t x hx j o h3 h4 i hi hne => lt_spec (by have := keepB_spec (keep_look hx).2 j o h3 h4; rwa [Nat.zero_add] at this) i hi hne) (pass1_len h1) (by simp) (fun i o hi he => ?_) (pass3_spec hX h3 e2 d2 hDH hA) (fun G a w H' hH' A' => ?_) _ _ _ _ 0 G (by simp) (by
            refine Nat.le_trans (List.length_filter_le _ _) (by simp)) ⟨A.size, A.defers, fun t x hx _ => A.get t x (keep_look hx).1, fun j o x d _ hj => ?_, ⟨H, rfl, hB⟩, fun i p H' hi => ?_, fun j o p _ hj => ?_⟩
          · obtain ⟨x, g1, g2⟩ := pass2_spec h2 e1 d1 i o hi (by rw [Nat.zero_add]; exact he)
            rw [Nat.zero_add] at g2
            refine ⟨x, g1, fun k H hk hm => ?_⟩
            rcases g2 with g2 | g2
            · rcases pc_at hP g2 hi with ⟨f, az, c1, c2, c3⟩ | ⟨b, y, f, az, E, v0, c1, rfl, c3, c4, c5, c6⟩
              · exact eff_pure c1 c2 c3
              · exact eff_pureG c1 c3 c4 c5 c6
            · obtain ⟨F, s1, s2⟩ := g2 k H hk hm
              exact eff_auto (out := .val x F) hX s1 s2
          · rw [lastH_is] at hH'
            cases hH'
            exact hk A'
          · exfalso; simp [Array.getD_eq_getD_getElem?, Array.getElem?_replicate] at hj; split at hj <;> simp at hj
          · constructor
            · intro hj; exfalso; simp [Array.getD_eq_getD_getElem?, Array.getElem?_replicate] at hj; split at hj <;> simp at hj
            · intro hj; omega
          · exfalso; simp [Array.getD_eq_getD_getElem?, Array.getElem?_replicate] at hj; split at hj <;> simp at hj
      · cases h
    · cases h
  · cases h
theorem DRAW {Y : Tb} {id : Nat} {H : Hp} {G : Gr} {a : Act} {w : World} {K : List Fr} {r : Drs} (hX : Y.ok P = true) (hmo : P.follows .mixedOrders = true) (pc : List (Nat × SV)) (cl : List (Nat × SV × Hp)) (A : Sy n T H ks G0 w0 G a w) (h : draws ⟨Y, false⟩ n pc cl l (keepT l T) H = some r) (hE : okE r.E) (hD : r.D.map (·.1) = r.D.map (·.2)) (hDH : r.DH.map (·.1) = r.DH.map (·.2)) (hfit : fitB l.toArray n [] = true)
    (hA : EffAll P n l.toArray ks G0 w0 l r.xs (keepT l T) cl r.es H) (hP : PcAll P n l.toArray l r.xs (keepT l T) pc) (hk : ∀ {G a w}, Sy n (putS l r.xs (keepT l T)) (lastH H r.es) ks G0 w0 G a w → Goal P Q K .norm a w) : Goal P Q K (.code (.region id l.toArray true)) a w := DRAW0 (X := ⟨Y, false⟩) hX hmo pc cl A h hE hD hDH hfit hA hP hk
theorem DRAWN {Y : Tb} {id : Nat} {H : Hp} {G : Gr} {a : Act} {w : World} {K : List Fr} {r : Drs} (hX : Y.ok P = true) (hmo : P.follows .mixedOrders = true) (pc : List (Nat × SV)) (cl : List (Nat × SV × Hp)) (A : Sy n T H ks G0 w0 G a w) (h : draws ⟨Y, true⟩ n pc cl l (keepT l T) H = some r) (hE : okE r.E) (hD : r.D.map (·.1) = r.D.map (·.2)) (hDH : r.DH.map (·.1) = r.DH.map (·.2)) (hfit : fitB l.toArray n [] = true)
    (hA : EffAll P n l.toArray ks G0 w0 l r.xs (keepT l T) cl r.es H) (hP : PcAll P n l.toArray l r.xs (keepT l T) pc) (hk : ∀ {G a w}, Sy n (putS l r.xs (keepT l T)) (lastH H r.es) ks G0 w0 G a w → Goal P Q K .norm a w) : Goal P Q K (.code (.region id l.toArray true)) a w := DRAW0 (X := ⟨Y, true⟩) hX hmo pc cl A h hE hD hDH hfit hA hP hk
end
end Go.Proofs.Ytiglneecmibgmaa
/- Loops; what is known cut, said otherwise. -/
namespace Go.Proofs.Ytiglneecmibgmaa
open Go.RowKit
set_option linter.unusedVariables false
set_option linter.unusedSimpArgs false
set_option linter.unusedSectionVars false

def inT (k : Nat) : List (Nat × SV) → Bool
  | [] => true
  | (_, x) :: T => inS k x && inT k T
theorem inT_at {k : Nat} : ∀ {T : List (Nat × SV)} {t : Nat} {x : SV}, inT k T = true → look T t = some x → inS k x = true
  | [], _, _, _, h => by cases h
  | (j, y) :: T, t, x, hb, h => by
    simp only [inT, Bool.and_eq_true] at hb
    unfold look at h
    cases hc : Nat.beq j t with
    | true => rw [hc] at h; cases h; exact hb.1
    | false => rw [hc] at h; exact inT_at hb.2 h
def inH (k : Nat) : Hp → Bool
  | [] => true
  | some (.blk cs) :: H => inL k cs && inH k H
  | _ :: H => inH k H
theorem inH_at {k : Nat} : ∀ {H : Hp} {i : Nat} {cs : List SV}, inH k H = true → H[i]? = some (some (.blk cs)) → inL k cs = true
  | [], _, _, _, h => by cases h
  | x :: H, 0, cs, hb, h => by cases h; simp only [inH, Bool.and_eq_true] at hb; exact hb.1
  | x :: H, i + 1, cs, hb, h => by
    refine inH_at (H := H) (i := i) ?_ h
    unfold inH at hb
    split at hb
    · next h => cases h
    · next h => cases h; rw [Bool.and_eq_true] at hb; exact hb.2
    · next h => cases h; exact hb
mutual
/-- truths that are known, as others -/
def nb : SV → SV
  | .tt => .bool true
  | .ff => .bool false
  | .agg l => .agg (nbL l)
  | .tup l => .tup (nbL l)
  | x => x
def nbL : List SV → List SV
  | [] => []
  | x :: l => nb x :: nbL l
end
mutual
theorem den_nb {G : Gr} : ∀ (x : SV), den G (nb x) = den G x
  | .tt => rfl
  | .ff => rfl
  | .agg l => by simp only [nb, den, denL_nb l]
  | .tup l => by simp only [nb, den, denL_nb l]
  | .ptr _ _ => rfl
  | .el _ _ _ _ => rfl
  | .ix _ _ _ _ _ => rfl
  | .sl _ _ _ => rfl
  | .fn _ _ => rfl
  | .opt _ _ => rfl
  | .int _ _ => rfl
  | .bool _ => rfl
  | .str _ => rfl
  | .sla _ _ _ => rfl
  | .sp _ _ _ => rfl
  | .st _ _ _ _ _ => rfl
  | .v _ => rfl
theorem denL_nb {G : Gr} : ∀ (l : List SV), denL G (nbL l) = denL G l
  | [] => rfl
  | x :: l => by simp only [nbL, denL, den_nb x, denL_nb l]
end
def nbH : Hp → Hp
  | [] => []
  | some (.blk cs) :: H => some (.blk (nbL cs)) :: nbH H
  | e :: H => e :: nbH H
theorem nbH_at : ∀ (H : Hp) (i : Nat), (nbH H)[i]? = (H[i]?).map fun e => match e with | some (.blk cs) => some (.blk (nbL cs)) | e => e
  | [], i => by simp [nbH]
  | e :: H, 0 => by
    cases e with
    | none => rfl
    | some q => cases q <;> rfl
  | e :: H, i + 1 => by
    have := nbH_at H i
    cases e with
    | none => simpa [nbH] using this
    | some q => cases q <;> simpa [nbH] using this
theorem nbH_len (H : Hp) : (nbH H).length = H.length := by
  induction H with
  | nil => rfl
  | cons e H ih =>
    cases e with
    | none => simp [nbH, ih]
    | some q => cases q <;> simp [nbH, ih]
/-- lists of blocks that are the same but for how truths are written -/
theorem nb_same {H H2 : Hp} (h : nbH H = nbH H2) (i : Nat) (e : Ent) (he : H2[i]? = some (some e)) : ∃ e', H[i]? = some (some e') ∧ e'.mut = e.mut ∧ (e'.empty ↔ e.empty) ∧ ∀ G w p, EntOK G w p e' → EntOK G w p e := by
  have h1 := nbH_at H i
  have h2 := nbH_at H2 i
  rw [h, h2, he] at h1
  cases hq : H[i]? with
  | none => rw [hq] at h1; simp at h1
  | some o =>
    rw [hq] at h1
    cases o with
    | none => cases e <;> simp at h1
    | some e' =>
      cases e with
      | blk cs =>
        cases e' with
        | blk cs' =>
          simp at h1
          refine ⟨_, rfl, rfl, Iff.rfl, fun G w p hok => ?_⟩
          obtain ⟨L, vs, k1, k2, k3⟩ := hok
          exact ⟨L, vs, k1, by rw [← denL_nb, h1, denL_nb]; exact k2, k3⟩
        | lst => simp at h1
        | row => simp at h1
        | fac => simp at h1
      | fac b o =>
        cases e' with
        | blk cs' => simp at h1
        | lst => simp at h1
        | row => simp at h1
        | fac => simp at h1; obtain ⟨rfl, rfl⟩ := h1; exact ⟨_, rfl, rfl, Iff.rfl, fun G w p hok => hok⟩
      | lst s n f =>
        cases e' with
        | blk cs' => simp at h1
        | lst => simp at h1; obtain ⟨rfl, rfl, rfl⟩ := h1; exact ⟨_, rfl, rfl, Iff.rfl, fun G w p hok => hok⟩
        | row => simp at h1
        | fac => simp at h1
      | row a b c d f =>
        cases e' with
        | blk cs' => simp at h1
        | lst => simp at h1
        | fac => simp at h1
        | row => simp at h1; obtain ⟨rfl, rfl, rfl, rfl, rfl⟩ := h1; exact ⟨_, rfl, rfl, Iff.rfl, fun G w p hok => hok⟩
section
variable {P : Program} {X : Tx} {n : Nat} {ks : List Nat} {G0 : Gr} {w0 : World} {T : List (Nat × SV)} {H : Hp} {G : Gr} {a : Act} {w : World} {Q : Exit → Act → World → Prop}
theorem Sy.sayT (A : Sy n T H ks G0 w0 G a w) {T' : List (Nat × SV)} (h : T = T') : Sy n T' H ks G0 w0 G a w := h ▸ A
theorem Sy.sayH (A : Sy n T H ks G0 w0 G a w) {H' : Hp} (h : H = H') : Sy n T H' ks G0 w0 G a w := h ▸ A
/-- a slot said otherwise -/
theorem Sy.say (A : Sy n T H ks G0 w0 G a w) (t : Nat) (y : SV) {x : SV} (h : look T t = some x) (e : x = y) : Sy n ((t, y) :: T) H ks G0 w0 G a w :=
  ⟨A.size, A.defers, fun s z hz => by
    simp only [look] at hz
    cases hc : Nat.beq t s with
    | true => rw [hc] at hz; cases hz; have := Nat.eq_of_beq_eq_true hc; subst this; subst e; exact A.get t _ h
    | false => rw [hc] at hz; exact A.get s z hz, A.mem, A.pre, A.own, A.mix⟩
def cutT (T : List (Nat × SV)) : List Nat → Option (List (Nat × SV))
  | [] => some []
  | t :: l => match look T t, cutT T l with
    | some x, some r => some ((t, x) :: r)
    | _, _ => none
theorem cut_look {T : List (Nat × SV)} : ∀ {l : List Nat} {r : List (Nat × SV)}, cutT T l = some r → ∀ t x, look r t = some x → look T t = some x
  | [], r, h, t, x, hx => by cases h; cases hx
  | k :: l, r, h, t, x, hx => by
    unfold cutT at h
    split at h
    · next y r' hy hr =>
      cases h
      simp only [look] at hx
      cases hb : Nat.beq k t with
      | true => rw [hb] at hx; cases hx; rw [← Nat.eq_of_beq_eq_true hb]; exact hy
      | false => rw [hb] at hx; exact cut_look hr t x hx
    · cases h
/-- of what is known of the frame these slots are kept, of memory the first k blocks -/
theorem Sy.cut (A : Sy n T H ks G0 w0 G a w) (l : List Nat) {T' : List (Nat × SV)} (h : cutT T l = some T') : Sy n T' H ks G0 w0 G a w :=
  ⟨A.size, A.defers, fun t x hx => A.get t x (cut_look h t x hx), A.mem, A.pre, A.own, A.mix⟩
theorem Sy.trunc (A : Sy n T H ks G0 w0 G a w) (k : Nat) {H' : Hp} (hT : inT k T = true) (hH : H.take k = H') (hi : inH k H' = true) (hk : G0.length ≤ k) : Sy n T H' ks G0 w0 (G.take k) a w := by
  have at_ : ∀ (i : Nat) (e : Ent), H'[i]? = some (some e) → H[i]? = some (some e) ∧ i < k := by
    intro i e h
    rw [← hH] at h
    have hik : i < k := by
      have := (List.getElem?_eq_some_iff.1 h).1
      simp at this; omega
    rw [List.getElem?_take_of_lt hik] at h
    exact ⟨h, hik⟩
  have hG : ∀ i, i < k → (G.take k)[i]? = G[i]? := fun i h => List.getElem?_take_of_lt h
  refine ⟨A.size, A.defers, fun t x hx => by rw [den_take x (inT_at hT hx)]; exact A.get t x hx, ⟨by rw [← hH]; simp [A.mem.len], fun i e h => ?_, fun i j e f L M hij h1 h2 h3 h4 h5 => ?_⟩, ?_, fun i e L h1 h2 h3 => ?_, A.mix⟩
  · obtain ⟨h1, h2⟩ := at_ i e h
    rw [hG i h2]
    have := A.mem.ent i e h1
    cases e with
    | blk cs =>
      obtain ⟨L, vs, q1, q2, q3⟩ := this
      exact ⟨L, vs, q1, by rw [denL_take' cs (inH_at hi h)]; exact q2, q3⟩
    | lst => exact this
    | fac => exact this
    | row => exact this
  · obtain ⟨a1, a2⟩ := at_ i e h1
    obtain ⟨b1, b2⟩ := at_ j f h2
    rw [hG i a2] at h4
    rw [hG j b2] at h5
    exact A.mem.sep i j e f L M hij a1 b1 h3 h4 h5
  · obtain ⟨F, hF⟩ := A.pre
    exact ⟨F.take (k - G0.length), by rw [hF, List.take_append, List.take_of_length_le hk]⟩
  · obtain ⟨a1, a2⟩ := at_ i e h1
    rw [hG i a2] at h3
    exact A.own i e L a1 h2 h3
/-- a call ends: of memory what it was handed is told -/
theorem RET0 {Y : Tb} {fn : Func} {R : SV → Hp → Prop} {H0 : Hp} (hX : Y.ok P = true) {y : SV} {H' : Hp} {r : List SV} {rv : List ResultVar} (A : Sy n T H (keys H0 G0) G0 w0 G a w) (hr : fn.results.toList = rv) (hv : resS ⟨Y, false⟩ T H rv = some r) (hy : oneS r = y) (h0 : H0.length = G0.length) (hi : inS H0.length y = true) (hH : H.take H0.length = H') (hj : inH H0.length H' = true) (hkp : klB H0 H' = klA H') (hR : R y H') : bodyPost P fn (Post R H0 G0 w0) .ret a w := by
  obtain ⟨v, h1, h2⟩ := res_run (X := ⟨Y, false⟩) (fn := fn) hX A hr hv hy
  have A' := (A.cut [] rfl).trunc H0.length rfl hH hj (by omega)
  obtain ⟨F, hF⟩ := A.pre
  have hG : G.take H0.length = G0 := by rw [hF, h0]; simp
  rw [hG] at A'
  refine ⟨A.defers, v, h2, y, H', [], v, hR, ?_, rfl, by simpa using A'.mem, A.mix, ?_, kl_kept hkp, fun i e he hm L hL => ?_⟩
  · rw [List.append_nil, ← hG, den_take y hi]; exact h1
  · rw [A'.mem.len]; exact Nat.le_refl _
  · rw [List.append_nil] at hL; exact A'.own i e L he hm hL
/-- the same, truths being written as they may -/
theorem RETN {Y : Tb} {fn : Func} {x : SV} {H2 : Hp} {H0 : Hp} (hX : Y.ok P = true) {y : SV} {H' : Hp} {r : List SV} {rv : List ResultVar} (A : Sy n T H (keys H0 G0) G0 w0 G a w) (hr : fn.results.toList = rv) (hv : resS ⟨Y, false⟩ T H rv = some r) (hy : oneS r = y) (h0 : H0.length = G0.length) (hi : inS H0.length y = true) (hH : H.take H0.length = H') (hj : inH H0.length H' = true) (hkp : klB H0 H2 = klA H2) (hR : nb y = nb x) (hS : nbH H' = nbH H2) : bodyPost P fn (Post (Rt x H2) H0 G0 w0) .ret a w := by
  obtain ⟨v, h1, h2⟩ := res_run (X := ⟨Y, false⟩) (fn := fn) hX A hr hv hy
  have A' := (A.cut [] rfl).trunc H0.length rfl hH hj (by omega)
  obtain ⟨F, hF⟩ := A.pre
  have hG : G.take H0.length = G0 := by rw [hF, h0]; simp
  rw [hG] at A'
  have hl2 : H2.length = H'.length := by rw [← nbH_len H2, ← hS, nbH_len]
  refine ⟨A.defers, v, h2, x, H2, [], v, ⟨rfl, rfl⟩, ?_, rfl, ?_, A.mix, ?_, kl_kept hkp, fun i e he hm L hL => ?_⟩
  · rw [List.append_nil, ← den_nb, ← hR, den_nb, ← hG, den_take y hi]; exact h1
  · rw [List.append_nil]
    refine ⟨by rw [hl2]; exact A'.mem.len, fun i e he => ?_, fun i j e f L M hij he hf hm hL hM hne => ?_⟩
    · obtain ⟨e', k1, _, _, k2⟩ := nb_same hS i e he
      exact k2 _ _ _ (A'.mem.ent i e' k1)
    · obtain ⟨e', k1, k2, _, _⟩ := nb_same hS i e he
      obtain ⟨f', l1, _, l2, _⟩ := nb_same hS j f hf
      exact A'.mem.sep i j e' f' L M hij k1 l1 (by rw [k2]; exact hm) hL hM (fun h => hne (l2.1 h))
  · rw [hl2, A'.mem.len]; exact Nat.le_refl _
  · rw [List.append_nil] at hL
    obtain ⟨e', k1, k2, _, _⟩ := nb_same hS i e he
    exact A'.own i e' L k1 (by rw [k2]; exact hm) hL
/-- a loop: what is known at its head, by a measure and what it is of -/
theorem LOOP {β : Type} {c : Code} {K : List Fr} (T' : β → List (Nat × SV)) (H' : β → Hp) (I : β → Prop) (μ : β → Nat) (z : β) (hI : I z) (A : Sy n (T' z) (H' z) ks G0 w0 G a w)
    (round : ∀ z, I z → ∀ {G a w}, Sy n (T' z) (H' z) ks G0 w0 G a w → Goal P Q (.lp (fun a w => ∃ z' G, μ z' < μ z ∧ I z' ∧ Sy n (T' z') (H' z') ks G0 w0 G a w) :: K) (.code c) a w) : Goal P Q K (.code (.loop c)) a w := by
  refine loop_by (fun m a w => ∃ z G, μ z = m ∧ I z ∧ Sy n (T' z) (H' z) ks G0 w0 G a w) (μ z) ⟨z, G, rfl, hI, A⟩ ?_
  rintro m a w ⟨z, G, rfl, hz, A⟩
  refine Code.wp_mono (fun e a' w' h => ?_) (round z hz A)
  cases e with
  | normal => obtain ⟨z', G', h1, h2, h3⟩ := h; exact ⟨μ z', h1, z', G', rfl, h2, h3⟩
  | _ => exact h
theorem LOOP1 {α : Type} {c : Code} {K : List Fr} (T' : α → List (Nat × SV)) (H' : α → Hp) (I : α → Prop) (μ : α → Nat) (x : α) (hI : I x) (A : Sy n (T' x) (H' x) ks G0 w0 G a w)
    (round : ∀ x, I x → ∀ {G a w}, Sy n (T' x) (H' x) ks G0 w0 G a w → Goal P Q (.lp (fun a w => ∃ x' G, μ x' < μ x ∧ I x' ∧ Sy n (T' x') (H' x') ks G0 w0 G a w) :: K) (.code c) a w) : Goal P Q K (.code (.loop c)) a w := LOOP T' H' I μ x hI A round
theorem lp_mono {c : Code} {K : List Fr} {J J' : Act → World → Prop} (h : ∀ a w, J a w → J' a w) (hg : Goal P Q (.lp J :: K) (.code c) a w) : Goal P Q (.lp J' :: K) (.code c) a w := by
  refine Code.wp_mono (fun e a' w' hq => ?_) hg
  cases e with
  | normal => exact h _ _ hq
  | _ => exact hq
theorem LOOP2 {α β : Type} {c : Code} {K : List Fr} (T' : α → β → List (Nat × SV)) (H' : α → β → Hp) (I : α → β → Prop) (μ : α → β → Nat) (x : α) (y : β) (hI : I x y) (A : Sy n (T' x y) (H' x y) ks G0 w0 G a w)
    (round : ∀ x y, I x y → ∀ {G a w}, Sy n (T' x y) (H' x y) ks G0 w0 G a w → Goal P Q (.lp (fun a w => ∃ x' y' G, μ x' y' < μ x y ∧ I x' y' ∧ Sy n (T' x' y') (H' x' y') ks G0 w0 G a w) :: K) (.code c) a w) : Goal P Q K (.code (.loop c)) a w :=
  LOOP (fun z : α × β => T' z.1 z.2) (fun z => H' z.1 z.2) (fun z => I z.1 z.2) (fun z => μ z.1 z.2) (x, y) hI A fun z hz {G a w} A => lp_mono (fun a w ⟨x', y', G, h1, h2, h3⟩ => ⟨(x', y'), G, h1, h2, h3⟩) (round z.1 z.2 hz A)
theorem LOOP3 {α β γ : Type} {c : Code} {K : List Fr} (T' : α → β → γ → List (Nat × SV)) (H' : α → β → γ → Hp) (I : α → β → γ → Prop) (μ : α → β → γ → Nat) (x : α) (y : β) (u : γ) (hI : I x y u) (A : Sy n (T' x y u) (H' x y u) ks G0 w0 G a w)
    (round : ∀ x y u, I x y u → ∀ {G a w}, Sy n (T' x y u) (H' x y u) ks G0 w0 G a w → Goal P Q (.lp (fun a w => ∃ x' y' u' G, μ x' y' u' < μ x y u ∧ I x' y' u' ∧ Sy n (T' x' y' u') (H' x' y' u') ks G0 w0 G a w) :: K) (.code c) a w) : Goal P Q K (.code (.loop c)) a w :=
  LOOP (fun z : α × β × γ => T' z.1 z.2.1 z.2.2) (fun z => H' z.1 z.2.1 z.2.2) (fun z => I z.1 z.2.1 z.2.2) (fun z => μ z.1 z.2.1 z.2.2) (x, y, u) hI A fun z hz {G a w} A => lp_mono (fun a w ⟨x', y', u', G, h1, h2, h3⟩ => ⟨(x', y', u'), G, h1, h2, h3⟩) (round z.1 z.2.1 z.2.2 hz A)
/-- both ways meet again -/
theorem JOIN {β : Type} {c : Code} {K : List Fr} (T' : β → List (Nat × SV)) (H' : β → Hp) (I : β → Prop) (A : Sy n T H ks G0 w0 G a w) (h : ∀ {G a w}, Sy n T H ks G0 w0 G a w → Goal P Q (.lp (fun a w => ∃ z G, I z ∧ Sy n (T' z) (H' z) ks G0 w0 G a w) :: K) (.code c) a w)
    (hk : ∀ z, I z → ∀ {G a w}, Sy n (T' z) (H' z) ks G0 w0 G a w → Goal P Q K .norm a w) : Goal P Q K (.code c) a w := by
  refine Code.wp_mono (fun e a' w' h => ?_) (h A)
  cases e with
  | normal => obtain ⟨z, G, h1, h2⟩ := h; exact hk z h1 h2
  | _ => exact h
end
theorem ok_d {p : Prop} [Decidable p] {E : Ob} (h : p) (k : okE E) : okE ((decide p, true) :: E) := by unfold okE at *; simp [h, k]
theorem ok_g {b : Bool} {p : Prop} [Decidable p] {E : Ob} (h : b = true → p) (k : okE E) : okE ((!b || decide p, true) :: E) := by
  unfold okE at *
  cases b with
  | false => simp [k]
  | true => simp [h rfl, k]
theorem ok_r {b : Bool} {E : Ob} (k : okE E) : okE ((b, b) :: E) := by unfold okE at *; simp [k]
end Go.Proofs.Ytiglneecmibgmaa
/- Rows that grow. -/
namespace Go.Proofs.Ytiglneecmibgmaa
open Go.RowKit
set_option linter.unusedVariables false
set_option linter.unusedSimpArgs false
set_option linter.unusedSectionVars false

theorem own_split {w : World} {e s n : Nat} {v : Value} {xs : List Value} (h : w.ownsRow 0 e s v n xs) : ∃ (p : Option Loc), v = .slice (p.map fun L => ⟨L.b, L.pre.length, none⟩) n (0 + rm p) ∧ (∀ L, p = some L → L.pre = []) ∧ v.ownBlock = p.map (·.b) := by
  rcases h.2 with ⟨rfl, rfl⟩ | ⟨g, cap, cur, rfl, _⟩
  · exact ⟨none, rfl, fun L h => (by cases h), rfl⟩
  · exact ⟨some ⟨g, [], List.replicate cap undef, e⟩, by simp [rm], fun L h => (by cases h; rfl), rfl⟩
section
variable {P : Program} {X : Tx} {n : Nat} {ks : List Nat} {G0 : Gr} {w0 : World} {T : List (Nat × SV)} {H : Hp} {G : Gr} {a : Act} {w w' : World} {Q : Exit → Act → World → Prop} {K : List Fr} {ops : Array Oper} {o : Oper} {rest : List Oper}
/-- a row turns into another one, in its own block or in new memory -/
theorem Sy.rowMove (A : Sy n T H ks G0 w0 G a w) {i e s m c m' c' : Nat} {f f' : Nat → List SV} {xs' : List Value} {p' : Option Loc} (hi : H[i]? = some (some (.row e s m c f)))
    (hg : w.grownBy w' (((G[i]?).getD none).map (·.b))) (hown : w'.ownsRow 0 e s (.slice (p'.map fun L => ⟨L.b, L.pre.length, none⟩) m' (c' + rm p')) m' xs') (hpre : ∀ L, p' = some L → L.pre = []) (hlies : p'.map (·.b) = ((G[i]?).getD none).map (·.b) ∨ p'.map (·.b) = some w.heap.size)
    (hf : flatV f' m' = some xs') (htot : ∀ k, ∃ vs, denL [] (f' k) = some vs ∧ vs.length = s) : Sy n T (stH H i none ++ [some (.row e s m' c' f')]) ks G0 w0 (G ++ [p']) a w' := by
  have hlen := A.mem.len
  have hilt : i < H.length := (List.getElem?_eq_some_iff.1 hi).1
  have hsl : (stH H i none).length = H.length := by rw [stH_is]; simp
  obtain ⟨q, hq⟩ : ∃ q, G[i]? = some q := ⟨G[i], by simp [← hlen, hilt]⟩
  rw [hq] at hg hlies
  simp only [Option.getD_some] at hg hlies
  have hold : ∀ (j : Nat) (x : Ent), (stH H i none ++ [some (.row e s m' c' f')])[j]? = some (some x) → (j ≠ i ∧ H[j]? = some (some x) ∧ j < H.length) ∨ (j = H.length ∧ x = .row e s m' c' f') := by
    intro j x h
    by_cases hj : j < H.length
    · rw [List.getElem?_append_left (by omega), stH_is] at h
      by_cases hji : j = i
      · subst hji; rw [List.getElem?_set_self hilt] at h; cases h
      · rw [List.getElem?_set_ne (Ne.symm hji)] at h; exact .inl ⟨hji, h, hj⟩
    · rw [List.getElem?_append_right (by omega), hsl] at h
      have : j - H.length = 0 := by
        cases hq : j - H.length with
        | zero => rfl
        | succ k => rw [hq] at h; simp at h
      rw [this] at h
      simp at h
      exact .inr ⟨by omega, h.symm⟩
  have hG : ∀ j, j < H.length → (G ++ [p'])[j]? = G[j]? := fun j hj => List.getElem?_append_left (by omega)
  have hGn : (G ++ [p'])[H.length]? = some p' := by rw [List.getElem?_append_right (by omega), hlen]; simp
  -- others lie elsewhere
  have hoff : ∀ (j : Nat) (x : Ent) (L : Loc), j ≠ i → H[j]? = some (some x) → G[j]? = some (some L) → ¬ x.empty → q.map (·.b) ≠ some L.b ∧ L.b < w.heap.size := by
    intro j x L hji hx hL hne
    have hlt : L.b < w.heap.size := by
      have := A.mem.ent j x hx
      rw [hL] at this
      exact EntOK.lt this hne
    refine ⟨fun hb => ?_, hlt⟩
    cases q with
    | none => cases hb
    | some M =>
      simp only [Option.map_some, Option.some.injEq] at hb
      exact A.mem.sep i j _ x M L (Ne.symm hji) hi hx rfl hq hL hne hb
  have hmx : Mix (match q with | some M => [M.b] | none => []) w w' := ⟨hg.os, hg.tape, hg.output, hg.size, fun k hk hc => hg.block k hk (fun hb => by
    cases q with
    | none => cases hb
    | some M => simp at hb hc; exact hc hb)⟩
  have hnew : ∀ L, p' = some L → (ks.contains L.b = true ∨ w0.heap.size ≤ L.b) := by
    intro L hL
    subst hL
    rcases hlies with h | h
    · cases q with
      | none => cases h
      | some M => simp at h; rw [h]; exact A.own i _ M hi rfl hq
    · simp at h; right; rw [h]; exact A.mix.size
  refine ⟨A.size, A.defers, fun t x hx => den_mono _ x (A.get t x hx), ⟨by simp [hsl, hlen], ?_, ?_⟩, ?_, ?_, ?_⟩
  · intro j x h
    rcases hold j x h with ⟨h1, h2, h3⟩ | ⟨rfl, rfl⟩
    · rw [hG j h3]
      refine ((A.mem.ent j x h2).mix hmx fun hne L hL => ?_).more _
      have := (hoff j x L h1 h2 (get_loc hL) hne).1
      cases q with
      | none => rfl
      | some M => simp at this ⊢; exact fun h => this h.symm
    · rw [hGn]; exact ⟨htot, hpre, xs', hf, hown⟩
  · intro j k x y L M hjk h1 h2 h3 h4 h5 h6
    rcases hold j x h1 with ⟨a1, a2, a3⟩ | ⟨rfl, rfl⟩
    · rw [hG j a3] at h4
      rcases hold k y h2 with ⟨b1, b2, b3⟩ | ⟨rfl, rfl⟩
      · rw [hG k b3] at h5; exact A.mem.sep j k x y L M hjk a2 b2 h3 h4 h5 h6
      · rw [hGn] at h5
        cases h5
        obtain ⟨g1, g2⟩ := hoff j x L a1 a2 h4 (mut_full h3)
        intro hLM
        rcases hlies with h | h
        · rw [← h] at g1; simp at g1; exact g1 hLM.symm
        · simp at h; omega
    · rw [hGn] at h4
      cases h4
      rcases hold k y h2 with ⟨b1, b2, b3⟩ | ⟨rfl, rfl⟩
      · rw [hG k b3] at h5
        obtain ⟨g1, g2⟩ := hoff k y M b1 b2 h5 h6
        intro hLM
        rcases hlies with h | h
        · rw [← h] at g1; simp at g1; exact g1 hLM
        · simp at h; omega
      · exact absurd rfl hjk
  · obtain ⟨F, hF⟩ := A.pre; exact ⟨F ++ [p'], by rw [hF, List.append_assoc]⟩
  · intro j x L h1 h2 h3
    rcases hold j x h1 with ⟨a1, a2, a3⟩ | ⟨rfl, rfl⟩
    · rw [hG j a3] at h3; exact A.own j x L a2 h2 h3
    · rw [hGn] at h3; cases h3; exact hnew L rfl
  · refine A.mix.mix hmx fun k hk hc => ?_
    cases q with
    | none => rfl
    | some M =>
      simp only [List.contains_cons, List.contains_nil, Bool.or_false, beq_eq_false_iff_ne, ne_eq]
      intro hkM
      subst hkM
      rcases A.own i _ M hi rfl hq with h | h
      · rw [h] at hc; cases hc
      · omega
/-- a nil slice, as a row of nothing -/
theorem Sy.nilRow (A : Sy n T H ks G0 w0 G a w) (t e s : Nat) (f : Nat → List SV) (h : look T t = some (.sla none 0 0)) (htot : ∀ k, ∃ vs, denL [] (f k) = some vs ∧ vs.length = s) : Sy n ((t, .sl H.length 0 0) :: T) (H ++ [some (.row e s 0 0 f)]) ks G0 w0 (G ++ [none]) a w := by
  have hlen := A.mem.len
  have hold : ∀ (j : Nat) (x : Ent), (H ++ [some (.row e s 0 0 f)])[j]? = some (some x) → (H[j]? = some (some x) ∧ j < H.length) ∨ (j = H.length ∧ x = .row e s 0 0 f) := by
    intro j x h
    by_cases hj : j < H.length
    · rw [List.getElem?_append_left hj] at h; exact .inl ⟨h, hj⟩
    · rw [List.getElem?_append_right (by omega)] at h
      have : j - H.length = 0 := by
        cases hq : j - H.length with
        | zero => rfl
        | succ k => rw [hq] at h; simp at h
      rw [this] at h
      simp at h
      exact .inr ⟨by omega, h.symm⟩
  have hG : ∀ j, j < H.length → (G ++ [(none : Option Loc)])[j]? = G[j]? := fun j hj => List.getElem?_append_left (by omega)
  have hGn : (G ++ [(none : Option Loc)])[H.length]? = some none := by rw [List.getElem?_append_right (by omega), hlen]; simp
  have A1 : Sy n T (H ++ [some (.row e s 0 0 f)]) ks G0 w0 (G ++ [none]) a w := by
    refine ⟨A.size, A.defers, fun t x hx => den_mono _ x (A.get t x hx), ⟨by simp [hlen], ?_, ?_⟩, ?_, ?_, A.mix⟩
    · intro j x h
      rcases hold j x h with ⟨h2, h3⟩ | ⟨rfl, rfl⟩
      · rw [hG j h3]; exact (A.mem.ent j x h2).more _
      · rw [hGn]; exact ⟨htot, fun L h => (by cases h), [], rfl, by simp, .inl ⟨rfl, rfl⟩⟩
    · intro j k x y L M hjk h1 h2 h3 h4 h5 h6
      rcases hold j x h1 with ⟨a2, a3⟩ | ⟨rfl, rfl⟩
      · rw [hG j a3] at h4
        rcases hold k y h2 with ⟨b2, b3⟩ | ⟨rfl, rfl⟩
        · rw [hG k b3] at h5; exact A.mem.sep j k x y L M hjk a2 b2 h3 h4 h5 h6
        · rw [hGn] at h5; cases h5
      · rw [hGn] at h4; cases h4
    · obtain ⟨F, hF⟩ := A.pre; exact ⟨F ++ [none], by rw [hF, List.append_assoc]⟩
    · intro j x L h1 h2 h3
      rcases hold j x h1 with ⟨a2, a3⟩ | ⟨rfl, rfl⟩
      · rw [hG j a3] at h3; exact A.own j x L a2 h2 h3
      · rw [hGn] at h3; cases h3
  refine ⟨A1.size, A1.defers, fun u x hx => ?_, A1.mem, A1.pre, A1.own, A1.mix⟩
  simp only [look] at hx
  cases hb : Nat.beq t u with
  | true =>
    rw [hb] at hx
    cases hx
    have := Nat.eq_of_beq_eq_true hb
    subst this
    have := A.get t _ h
    simp only [den, Option.some.injEq] at this
    unfold den
    rw [hGn, ← this]; rfl
  | false => rw [hb] at hx; exact A1.get u x hx
/-- one element is appended -/
def appS (X : Tx) (n : Nat) (ops : Array Oper) (T : List (Nat × SV)) (H : Hp) (o : Oper) : Option ((Nat × Nat × Nat × Nat × Nat) × (Nat → List SV) × List SV × (Nat × Nat) × Ob) := match fitsD n o.dst with
  | true => match guardS ops T o.guard with
    | some .run => match o.op with
      | .call c => match c.callee, c.args.toList, c.argTypes.toList with
        | .builtin .append, [x, y], [t, t'] => match evS T x, evS T y, Nat.beq t t' with
          | some (.sl i nn cc), some (.sl j 1 1), true => match lg H i, lg H j, X.get t with
            | some (some (.row e s m c f)), some (some (.blk cs)), some ti => match ti.elm, onesS cs with
              | some (e', s', b), some E => match Nat.beq e e' && Nat.beq s s' && Nat.beq cs.length s && Nat.ble b 10000 && inL 0 cs with
                | true => some ((i, e, s, m, c), f, cs, (nn, cc), E)
                | false => none
              | _, _ => none
            | _, _, _ => none
          | _, _, _ => none
        | _, _, _ => none
      | _ => none
    | _ => none
  | false => none
theorem appE {Y : Tb} {i e s m c nn cc : Nat} {f : Nat → List SV} {cs : List SV} {E : Ob} (hX : Y.ok P = true) (m' : Nat) (f' : Nat → List SV) (h : appS ⟨Y, false⟩ n ops T H o = some ((i, e, s, m, c), f, cs, (nn, cc), E)) (hE : okE E) (h1 : nn = m) (h2 : cc = c) (hb : m ≤ 1000000) (hm' : m' = m + 1)
    (hf : ∀ k, k < m → f' k = f k) (hn : f' m = cs) (htot : ∀ k, ∃ vs, denL [] (f' k) = some vs ∧ vs.length = s) : EffOK P n ops ks G0 w0 T H o (.sl H.length m' 0) (stH H i none ++ [some (.row e s m' 0 f')]) := by
  intro G a w A
  subst hm'
  obtain ⟨d, op, ty, pos, af, gd⟩ := o
  unfold appS at h
  split at h
  · next hd =>
    split at h
    · next hg =>
      have hw := gd_run (gd := none) A hg
      split at h
      · next ca hca =>
        simp only at hca
        subst hca
        obtain ⟨callee, args, ats⟩ := ca
        simp only at h
        split at h
        · next x y t t' ha ht =>
          split at h
          · next i' nn' cc' j hx hy htt =>
            split at h
            · next e' s' m' c1 f1 cs' ti hi hj hti =>
              split at h
              · next e2 s2 b E' hel hon =>
                split at h
                · next hck =>
                  cases h
                  subst h1; subst h2
                  simp only [Bool.and_eq_true] at hck
                  obtain ⟨⟨⟨⟨c1, c2⟩, c3⟩, c4⟩, c5⟩ := hck
                  have e1 := Nat.eq_of_beq_eq_true c1
                  have e2 := Nat.eq_of_beq_eq_true c2
                  have e3 := Nat.eq_of_beq_eq_true c3
                  have e4 := Nat.eq_of_beq_eq_true htt
                  have hby := Nat.le_of_ble_eq_true c4
                  subst e1; subst e2; subst e4
                  rw [lg_is] at hi hj
                  have hargs : args = #[x, y] := by have := congrArg List.toArray ha; simpa using this
                  have hats : ats = #[t, t] := by have := congrArg List.toArray ht; simpa using this
                  subst hargs; subst hats
                  obtain ⟨r1, r2, xs, r3, r4⟩ := A.mem.ent i _ hi
                  obtain ⟨L, vs, b1, b2, b3⟩ := A.mem.ent j _ hj
                  obtain ⟨ie, z, f1', f2', f3', f4', f5', f6', f7'⟩ := elem_facts (ti_elm (i := ti) (Tb.at (X := Y) hX hti) hel)
                  have hvx := A.ev hx
                  have hvy := A.ev hy
                  obtain ⟨q, hq⟩ : ∃ q, G[i]? = some q := by
                    have : i < G.length := by rw [← A.mem.len]; exact (List.getElem?_eq_some_iff.1 hi).1
                    exact ⟨G[i], by simp [this]⟩
                  rw [hq] at r2 r4
                  simp only [Option.getD_some] at r2 r4
                  unfold den at hvx hvy
                  rw [hq] at hvx
                  rw [get_loc b1] at hvy
                  simp only [Option.some.injEq] at hvx hvy
                  have hvs0 : denL [] cs = some vs := by
                    have := denL_take' (G := G) cs c5
                    simp only [List.take_zero] at this
                    rw [this]; exact b2
                  have hvl : vs.length = s := by rw [denL_len b2, e3]
                  have hrange := EntOK.range (A.mem.ent j _ hj)
                  obtain ⟨L2, vs2, g1, g2, g3⟩ := hrange
                  rw [b1] at g1; cases g1
                  rw [b2] at g2; cases g2
                  have hone := onesS_spec hon hE b2
                  have hmul : (nn + 1) * b ≤ 1000001 * 10000 := Nat.mul_le_mul (by omega) hby
                  obtain ⟨v', w', hr, k1, k2, _, k4⟩ := run_append_own_at (P := P) w 0 t ty e ie z s b f1' f2' f3' f4' f5' f6' f7' _ nn xs r4 ⟨L.b, L.pre.length, none⟩ 1 (1 + rm (some L)) vs (by omega)
                    (fun j u hj => by rw [Addr.add_mid]; exact g3 j u hj) (fun u hu => (List.all_eq_true.1 hone) u hu) (by simp only [maxLen]; omega) (by omega) (Nat.zero_le _)
                  obtain ⟨p', o1, o2, o3⟩ := own_split k1
                  have hflat : flatV f' (nn + 1) = some (xs ++ vs) := by
                    unfold flatV
                    rw [flat_congr hf, r3, hn, hvs0]
                  have hob : Value.ownBlock (.slice (q.map fun L => ⟨L.b, L.pre.length, none⟩) nn (cc + rm q)) = q.map (·.b) := by cases q <;> rfl
                  rw [hob] at k2 k4
                  rw [o3] at k4
                  rw [o1] at k1
                  refine does_val (v := v') (w' := w') hw ?_ ?_
                  · unfold execOp
                    simp only [resolve, invoke, builtin, Sem.run_bind, Sem.run_pure, Result.andThen_ok, List.map_toArray, List.map_cons, List.map_nil, ← hvx, ← hvy]
                    simp only [Option.map_some] at hr ⊢
                    simp only [hr, Result.andThen_ok]
                  · have A2 := A.rowMove (p' := p') hi (by rw [hq]; exact k2) k1 o2 (by rw [hq]; exact k4) hflat htot
                    refine ⟨[p'], ?_, A2.ms⟩
                    unfold den
                    rw [List.getElem?_append_right (by rw [A.mem.len]; exact Nat.le_refl _), A.mem.len]
                    simp [o1]
                · cases h
              · cases h
            · cases h
          · cases h
        · cases h
      · cases h
    · cases h
  · cases h
/-- an operation by what it does -/
theorem q_eff {x : SV} {H' : Hp} (A : Sy n T H ks G0 w0 G a w) (hd : fitsD n o.dst = true) (h : EffOK P n ops ks G0 w0 T H o x H') (hk : ∀ {G a w}, Sy n (extS T o.dst x) H' ks G0 w0 G a w → Goal P Q K (.ops ops rest) a w) : Goal P Q K (.ops ops (o :: rest)) a w := by
  refine q_does (Q := wpK P Q K) ?_
  rcases h G a w A with ⟨hw, h⟩ | ⟨hw, F, h1, h2⟩
  · refine .inl ⟨hw, fun Q' => ?_⟩
    refine Oper.wp_mono (fun a' w' hh => ?_) (h Q')
    obtain ⟨v, rfl, F, h1, h2⟩ := hh
    exact ⟨v, rfl, hk (Sy.put (h2.sy A.size A.defers fun t y hy => den_mono F y (A.get t y hy)) hd h1)⟩
  · exact .inr ⟨hw, hk (Sy.put (h2.sy A.size A.defers fun t y hy => den_mono F y (A.get t y hy)) hd h1)⟩
theorem app_fits {X : Tx} {r : (Nat × Nat × Nat × Nat × Nat) × (Nat → List SV) × List SV × (Nat × Nat) × Ob} (h : appS X n ops T H o = some r) : fitsD n o.dst = true := by
  unfold appS at h
  split at h
  · next hd => exact hd
  · cases h
theorem APP1 {Y : Tb} {i e s m c nn cc : Nat} {f : Nat → List SV} {cs : List SV} {E : Ob} (hX : Y.ok P = true) (m' : Nat) (f' : Nat → List SV) (A : Sy n T H ks G0 w0 G a w) (h : appS ⟨Y, false⟩ n ops T H o = some ((i, e, s, m, c), f, cs, (nn, cc), E)) (hE : okE E) (h1 : nn = m) (h2 : cc = c) (hb : m ≤ 1000000) (hm' : m' = m + 1)
    (hf : ∀ k, k < m → f' k = f k) (hn : f' m = cs) (htot : ∀ k, ∃ vs, denL [] (f' k) = some vs ∧ vs.length = s)
    (hk : ∀ {G a w}, Sy n (extS T o.dst (.sl H.length m' 0)) (stH H i none ++ [some (.row e s m' 0 f')]) ks G0 w0 G a w → Goal P Q K (.ops ops rest) a w) : Goal P Q K (.ops ops (o :: rest)) a w :=
  q_eff A (app_fits h) (appE hX m' f' h hE h1 h2 hb hm' hf hn htot) hk
end
end Go.Proofs.Ytiglneecmibgmaa
/- Rows: their parts stored into, cut, frozen, appended to by lists. -/
namespace Go.Proofs.Ytiglneecmibgmaa
open Go.RowKit
set_option linter.unusedVariables false
set_option linter.unusedSimpArgs false
set_option linter.unusedSectionVars false

theorem flat_inv {f : Nat → List SV} {s : Nat} (hs : ∀ k, ∃ vs, denL [] (f k) = some vs ∧ vs.length = s) : ∀ {n : Nat} {xs : List Value}, flatV f n = some xs → ∀ (j : Nat) (u : Value), xs[j]? = some u → ∃ k q vs, k < n ∧ denL [] (f k) = some vs ∧ vs[q]? = some u ∧ j = k * s + q
  | 0, xs, h, j, u, hj => by cases h; cases hj
  | n + 1, xs, h, j, u, hj => by
    unfold flatV at h
    obtain ⟨vs, h1, h2⟩ := hs n
    split at h
    · next l hl =>
      rw [h1] at h
      cases h
      have hll := flat_len hs hl
      by_cases hjl : j < l.length
      · rw [List.getElem?_append_left hjl] at hj
        obtain ⟨k, q, us, a1, a2, a3, a4⟩ := flat_inv hs hl j u hj
        exact ⟨k, q, us, by omega, a2, a3, a4⟩
      · rw [List.getElem?_append_right (by omega)] at hj
        exact ⟨n, j - l.length, vs, by omega, h1, hj, by omega⟩
    · cases h
theorem flat_take {f : Nat → List SV} {s : Nat} (hs : ∀ k, ∃ vs, denL [] (f k) = some vs ∧ vs.length = s) : ∀ {n : Nat} {xs : List Value}, flatV f n = some xs → ∀ m, m ≤ n → flatV f m = some (xs.take (m * s))
  | 0, xs, h, m, hm => by
    cases h
    have : m = 0 := by omega
    subst this
    simp [flatV]
  | n + 1, xs, h, m, hm => by
    by_cases hmn : m = n + 1
    · subst hmn
      rw [List.take_of_length_le (by rw [flat_len hs h]; exact Nat.le_refl _)]; exact h
    · unfold flatV at h
      obtain ⟨vs, h1, h2⟩ := hs n
      split at h
      · next l hl =>
        rw [h1] at h
        cases h
        have hll := flat_len hs hl
        have hmul : m * s ≤ n * s := Nat.mul_le_mul_right s (by omega)
        rw [List.take_append_of_le_length (by omega)]
        exact flat_take hs hl m (by omega)
      · cases h
theorem flat_more {f : Nat → List SV} : ∀ (m n : Nat) {xs ys : List Value}, flatV f n = some xs → flatV (fun k => f (n + k)) m = some ys → flatV f (n + m) = some (xs ++ ys)
  | 0, n, xs, ys, h, k => by cases k; simpa using h
  | m + 1, n, xs, ys, h, k => by
    unfold flatV at k
    split at k
    · next l hl =>
      split at k
      · next vs hv =>
        cases k
        rw [show n + (m + 1) = (n + m) + 1 by omega]
        unfold flatV
        rw [flat_more m n h hl, hv]
        simp
      · cases k
    · cases k
theorem flat_set {f f' : Nat → List SV} {s k : Nat} {vs' : List Value} (hs : ∀ k, ∃ vs, denL [] (f k) = some vs ∧ vs.length = s) (hne : ∀ j, j ≠ k → f' j = f j) (hk : denL [] (f' k) = some vs') (hl : vs'.length = s) : ∀ {n : Nat} {xs : List Value}, flatV f n = some xs → k < n → flatV f' n = some (xs.take (k * s) ++ vs' ++ xs.drop ((k + 1) * s))
  | 0, xs, h, hkn => by omega
  | n + 1, xs, h, hkn => by
    unfold flatV at h
    obtain ⟨vs, h1, h2⟩ := hs n
    split at h
    · next l hll =>
      rw [h1] at h
      cases h
      have hlen := flat_len hs hll
      unfold flatV
      by_cases hk2 : k = n
      · subst hk2
        rw [flat_congr (g := f) (fun j hj => hne j (by omega)), hll, hk]
        simp only [Option.some.injEq]
        rw [List.take_append_of_le_length (by omega), List.take_of_length_le (by omega), List.drop_of_length_le (by simp [Nat.add_mul]; omega)]
        simp
      · rw [flat_set hs hne hk hl hll (by omega), hne n (fun e => hk2 e.symm), h1]
        simp only [Option.some.injEq]
        have hmul : (k + 1) * s ≤ n * s := Nat.mul_le_mul_right s (by omega)
        have hmul2 : (k + 1) * s = k * s + s := by simp [Nat.add_mul]
        rw [List.take_append_of_le_length (by omega), List.drop_append_of_le_length (by omega)]
        simp
    · cases h
section
variable {P : Program} {X : Tx} {n : Nat} {ks : List Nat} {G0 : Gr} {w0 : World} {T : List (Nat × SV)} {H : Hp} {G : Gr} {a : Act} {w w' : World} {Q : Exit → Act → World → Prop} {K : List Fr} {ops : Array Oper} {o : Oper} {rest : List Oper}
/-- a row that is no longer turned, as a list that is read; cells of a block too -/
theorem Sy.asList (A : Sy n T H ks G0 w0 G a w) (i : Nat) {s m : Nat} {f g : Nat → List SV} {e : Ent} (hi : H[i]? = some (some e)) (he : (∃ ty c, e = .row ty s m c f) ∨ ∃ cs, e = .blk cs ∧ ∀ k, k < m → tk s (dp (k * s) cs) = some (f k) ∧ inL 0 (f k) = true) (hg : ∀ k, k < m → g k = f k) (htot : ∀ k, ∃ vs, denL [] (g k) = some vs) : Sy n T (stH H i (some (.lst s m g))) ks G0 w0 G a w := by
  have hilt : i < H.length := (List.getElem?_eq_some_iff.1 hi).1
  have hmut : e.mut = true := by rcases he with ⟨_, _, rfl⟩ | ⟨_, rfl, _⟩ <;> rfl
  have hold : ∀ (j : Nat) (x : Ent), (stH H i (some (.lst s m g)))[j]? = some (some x) → (j ≠ i ∧ H[j]? = some (some x)) ∨ (j = i ∧ x = .lst s m g) := by
    intro j x h
    rw [stH_is] at h
    by_cases hj : j = i
    · subst hj; rw [List.getElem?_set_self hilt] at h; cases h; exact .inr ⟨rfl, rfl⟩
    · rw [List.getElem?_set_ne (Ne.symm hj)] at h; exact .inl ⟨hj, h⟩
  refine ⟨A.size, A.defers, A.get, ⟨by rw [stH_is]; simpa using A.mem.len, ?_, ?_⟩, A.pre, ?_, A.mix⟩
  · intro j x h
    rcases hold j x h with ⟨k1, k2⟩ | ⟨rfl, rfl⟩
    · exact A.mem.ent j x k2
    · refine ⟨htot, ?_⟩
      by_cases h0 : m = 0
      · exact .inl h0
      · right
        have hent := A.mem.ent j e hi
        rcases he with ⟨ty, c, rfl⟩ | ⟨cs, rfl, hcs⟩
        · obtain ⟨L, _, q1, _⟩ := row_range hent (k := 0) (by omega)
          have hlt : L.b < w.heap.size := by rw [q1] at hent; exact EntOK.lt hent (fun h => h)
          refine ⟨L, q1, hlt, fun k hk => ?_⟩
          obtain ⟨L', vs, r1, r2, _, r4⟩ := row_range hent hk
          rw [q1] at r1; cases r1
          exact ⟨vs, by rw [hg k hk]; exact r2, r4⟩
        · obtain ⟨L, us, q1, q2, q3⟩ := hent.range
          have hlt : L.b < w.heap.size := by rw [q1] at hent; exact EntOK.lt hent (fun h => h)
          refine ⟨L, q1, hlt, fun k hk => ?_⟩
          obtain ⟨r1, r2⟩ := hcs k hk
          obtain ⟨r3, r4⟩ := tk_is r1
          rw [dp_is] at r3 r4
          have hd : denL G (f k) = some ((us.drop (k * s)).take s) := by rw [r3]; exact denL_take s (denL_drop _ q2)
          refine ⟨(us.drop (k * s)).take s, ?_, fun q v hv => ?_⟩
          · rw [hg k hk]
            have := denL_take' (G := G) (f k) r2
            simp only [List.take_zero] at this
            rw [this]; exact hd
          · have hq := (List.getElem?_eq_some_iff.1 hv).1
            simp only [List.length_take, List.length_drop] at hq
            rw [List.getElem?_take_of_lt (by omega), List.getElem?_drop] at hv
            have := q3 _ v hv
            rwa [← Nat.add_assoc] at this
  · intro j k x y L M hjk h1 h2 h3 h4 h5 h6
    rcases hold j x h1 with ⟨_, a2⟩ | ⟨rfl, rfl⟩
    · rcases hold k y h2 with ⟨_, b2⟩ | ⟨rfl, rfl⟩
      · exact A.mem.sep j k x y L M hjk a2 b2 h3 h4 h5 h6
      · exact A.mem.sep j k x e L M hjk a2 hi h3 h4 h5 (mut_full hmut)
    · cases h3
  · intro j x L h1 h2 h3
    rcases hold j x h1 with ⟨_, a2⟩ | ⟨rfl, rfl⟩
    · exact A.own j x L a2 h2 h3
    · cases h2
theorem Sy.freeze (A : Sy n T H ks G0 w0 G a w) (i : Nat) {e s m c : Nat} {f : Nat → List SV} (h : lg H i = some (some (.row e s m c f))) : Sy n T (stH H i (some (.lst s m f))) ks G0 w0 G a w := by
  rw [lg_is] at h
  exact A.asList i h (.inl ⟨e, c, rfl⟩) (fun _ _ => rfl) (fun k => by obtain ⟨vs, h1, _⟩ := (A.mem.ent i _ h).1 k; exact ⟨vs, h1⟩)
/-- a part of a row is turned -/
theorem Sy.rowSet (A : Sy n T H ks G0 w0 G a w) {i e s m c k q : Nat} {f f' : Nat → List SV} {l : List SV} {us : List Value} (hi : H[i]? = some (some (.row e s m c f))) (hk : k < m) (hne : ∀ j, j ≠ k → f' j = f j) (hsp : sp q (f k) l = some (f' k)) (hl : denL [] l = some us) : ∃ L, G[i]? = some (some L) ∧ L.pre = [] ∧ (∀ j, j < l.length → (w.cell? ⟨L.b, k * s + q + j, none⟩).isSome = true ∧ w.frozen? ⟨L.b, k * s + q + j, none⟩ = false) ∧
    Upd L.b w (w.setCells L.b (k * s + q) us) ∧ Sy n T (stH H i (some (.row e s m c f'))) ks G0 w0 G a (w.setCells L.b (k * s + q) us) := by
  have hilt : i < H.length := (List.getElem?_eq_some_iff.1 hi).1
  obtain ⟨h1, h2, xs, h3, h4, h5⟩ := A.mem.ent i _ hi
  obtain ⟨vs, v1, v2⟩ := h1 k
  obtain ⟨p1, p2⟩ := sp_is hsp
  have hul := denL_len hl
  have hfk : denL [] (f' k) = some (vs.take q ++ us ++ vs.drop (q + l.length)) := by rw [p1]; exact denL_app (denL_app (denL_take q v1) hl) (denL_drop _ v1)
  have hfl : (f k).length = s := by rw [← denL_len v1]; exact v2
  have htot : ∀ j, ∃ vs, denL [] (f' j) = some vs ∧ vs.length = s := fun j => by
    by_cases hj : j = k
    · subst hj; exact ⟨_, hfk, by simp; omega⟩
    · rw [hne j hj]; exact h1 j
  rcases h5 with ⟨_, h5⟩ | ⟨g, cap, cur, q1, _, q3, q4, q5, q6, q7⟩
  · omega
  cases hp : (G[i]?).getD none with
  | none => rw [hp] at q1; cases q1
  | some L =>
    rw [hp] at q1
    simp only [Option.map_some, Value.slice.injEq, Option.some.injEq, Addr.mk.injEq] at q1
    obtain ⟨⟨q8, q9, _⟩, _, q10⟩ := q1
    have hpre := h2 L hp
    subst q8
    have hxl := flat_len h1 h3
    have hm1 : (k + 1) * s ≤ m * s := Nat.mul_le_mul_right s (by omega)
    have hm2 : (k + 1) * s = k * s + s := by simp [Nat.add_mul]
    have hcs : m * s ≤ cap * s := Nat.mul_le_mul_right s q4
    have hcl : cur.toList.length = cap * s := by simpa using q6
    have hsplit : cur.toList = cur.toList.take (k * s + q) ++ (cur.toList.drop (k * s + q)).take l.length ++ cur.toList.drop (k * s + q + l.length) := by
      have e2 : cur.toList.drop (k * s + q + l.length) = (cur.toList.drop (k * s + q)).drop l.length := by rw [List.drop_drop]
      rw [e2, List.append_assoc, List.take_append_drop, List.take_append_drop]
    have hblk : Blk w L.b (cur.toList.take (k * s + q) ++ (cur.toList.drop (k * s + q)).take l.length ++ cur.toList.drop (k * s + q + l.length)).toArray e := by rw [← hsplit]; unfold Blk; simpa using q3
    have hA : (cur.toList.take (k * s + q)).length = k * s + q := by simp; omega
    obtain ⟨g1, g2⟩ := blk_cells us _ _ _ w (by simp; omega) hblk
    rw [hA] at g1 g2
    refine ⟨L, get_loc hp, hpre, fun j hj => ⟨?_, ?_⟩, g2, ?_⟩
    · have hlt : k * s + q + j < cur.size := by omega
      rw [cell_of_row w L.b _ cur e _ q3, Array.getElem?_eq_getElem hlt]; rfl
    · have : Blk w L.b cur e := q3
      exact this.frozen _
    have hold : ∀ (j : Nat) (x : Ent), (stH H i (some (.row e s m c f')))[j]? = some (some x) → (j ≠ i ∧ H[j]? = some (some x)) ∨ (j = i ∧ x = .row e s m c f') := by
      intro j x h
      rw [stH_is] at h
      by_cases hj : j = i
      · subst hj; rw [List.getElem?_set_self hilt] at h; cases h; exact .inr ⟨rfl, rfl⟩
      · rw [List.getElem?_set_ne (Ne.symm hj)] at h; exact .inl ⟨hj, h⟩
    refine ⟨A.size, A.defers, A.get, ⟨by rw [stH_is]; simpa using A.mem.len, ?_, ?_⟩, A.pre, ?_, A.mix.upd g2 (A.own i _ L hi rfl (get_loc hp))⟩
    · intro j x h
      rcases hold j x h with ⟨k1, k2⟩ | ⟨rfl, rfl⟩
      · refine (A.mem.ent j x k2).mix g2.mix fun hnx M hM => ?_
        have := A.mem.sep i j _ x L M (Ne.symm k1) hi k2 rfl (get_loc hp) (get_loc hM) hnx
        simp; exact fun e => this e.symm
      · rw [hp]
        refine ⟨htot, fun L' hL' => by cases hL'; exact hpre, _, flat_set h1 hne hfk (by simp; omega) h3 hk, ?_, .inr ⟨L.b, cap, _, ?_, Nat.zero_le _, g1, q4, q5, ?_, ?_⟩⟩
        · simp; omega
        · simp [hpre, q10]
        · simp; omega
        · rw [← q7]
          simp only [List.toList_toArray]
          apply List.ext_getElem?
          intro z
          by_cases hz : z < m * s
          · rw [List.getElem?_take_of_lt hz]
            have hvk : ∀ z', z' < s → vs[z']? = cur.toList[k * s + z']? := fun z' hz' => by
              obtain ⟨us', u1, u2⟩ := flat_at h1 h3 k hk
              rw [v1] at u1; cases u1
              have hh : vs[z']? = some (vs[z']'(by omega)) := List.getElem?_eq_getElem (by omega)
              have := u2 z' _ hh
              rw [← q7, List.getElem?_take_of_lt (by omega)] at this
              rw [hh, this]
            by_cases c1 : z < k * s
            · rw [List.append_assoc, List.append_assoc, List.getElem?_append_left (by simp; omega), List.getElem?_take_of_lt (by omega)]
              rw [List.append_assoc, List.getElem?_append_left (by simp; omega), List.getElem?_take_of_lt c1, List.getElem?_take_of_lt (by omega)]
            · by_cases c2 : z < k * s + q
              · rw [List.append_assoc, List.getElem?_append_left (by simp; omega), List.getElem?_take_of_lt (by omega)]
                rw [List.append_assoc, List.getElem?_append_right (by simp; omega), List.append_assoc, List.append_assoc, List.getElem?_append_left (by simp; omega), List.getElem?_take_of_lt (by simp; omega)]
                have := hvk (z - k * s) (by omega)
                rw [show k * s + (z - k * s) = z by omega] at this
                rw [← this]; congr 1; simp; omega
              · by_cases c3 : z < k * s + q + l.length
                · rw [List.append_assoc, List.getElem?_append_right (by simp; omega), List.getElem?_append_left (by simp; omega)]
                  rw [List.append_assoc, List.getElem?_append_right (by simp; omega), List.append_assoc, List.append_assoc, List.getElem?_append_right (by simp; omega), List.getElem?_append_left (by simp; omega)]
                  congr 1; simp; omega
                · by_cases c4 : z < k * s + s
                  · rw [List.getElem?_append_right (by simp; omega), List.getElem?_drop]
                    rw [List.append_assoc, List.getElem?_append_right (by simp; omega), List.getElem?_append_left (by simp; omega), List.getElem?_append_right (by simp; omega), List.getElem?_drop]
                    have := hvk (z - k * s) (by omega)
                    rw [show k * s + (z - k * s) = z by omega] at this
                    rw [show k * s + q + l.length + (z - (List.take (k * s + q) cur.toList ++ us).length) = z by simp; omega, ← this]
                    congr 1; simp; omega
                  · rw [List.getElem?_append_right (by simp; omega), List.getElem?_drop]
                    rw [List.getElem?_append_right (by simp; omega), List.getElem?_drop, List.getElem?_take_of_lt (by simp; omega)]
                    congr 1; simp; omega
          · rw [List.getElem?_eq_none (by simp; omega), List.getElem?_eq_none (by simp; omega)]
    · intro j k' x y L' M hjk b1 b2 b3 b4 b5 b6
      have a1 : ∃ x', H[j]? = some (some x') ∧ x'.mut = x.mut := by
        rcases hold j x b1 with ⟨_, k2⟩ | ⟨rfl, rfl⟩
        · exact ⟨x, k2, rfl⟩
        · exact ⟨_, hi, rfl⟩
      have a2 : ∃ y', H[k']? = some (some y') ∧ ¬ y'.empty := by
        rcases hold k' y b2 with ⟨_, k2⟩ | ⟨rfl, rfl⟩
        · exact ⟨y, k2, b6⟩
        · exact ⟨_, hi, fun h => h⟩
      obtain ⟨x', c1, c2⟩ := a1
      obtain ⟨y', c3, c4⟩ := a2
      exact A.mem.sep j k' x' y' L' M hjk c1 c3 (by rw [c2]; exact b3) b4 b5 c4
    · intro j x L' b1 b2 b3
      rcases hold j x b1 with ⟨_, k2⟩ | ⟨rfl, rfl⟩
      · exact A.own j x L' k2 b2 b3
      · exact A.own j _ L' hi rfl b3
end
end Go.Proofs.Ytiglneecmibgmaa
/- Rows: the operations. -/
namespace Go.Proofs.Ytiglneecmibgmaa
open Go.RowKit
set_option linter.unusedVariables false
set_option linter.unusedSimpArgs false
set_option linter.unusedSectionVars false

section
variable {P : Program} {Y : Tb} {n : Nat} {ks : List Nat} {G0 : Gr} {w0 : World} {T : List (Nat × SV)} {H : Hp} {G : Gr} {a : Act} {w w' : World} {Q : Exit → Act → World → Prop} {K : List Fr} {ops : Array Oper} {o : Oper} {rest : List Oper}
/-- a store into a part of a row -/
def strS (Y : Tb) (n : Nat) (ops : Array Oper) (T : List (Nat × SV)) (H : Hp) (o : Oper) : Option ((Nat × Nat × Nat × Nat × Nat) × (Nat → List SV) × (Int × Nat) × List SV × Ob) := match fitsD n o.dst with
  | true => match guardS ops T o.guard with
    | some .run => match o.op with
      | .store t x y => match evS T x, evS T y with
        | some (.el i s j q), some v => match lg H i, Y.get t, cellsS v with
          | some (some (.row e s' m c f)), some ti, some l => match onesS l with
            | some E => match Nat.beq s s' && inL 0 l && (match ti.row, v with | some r, .agg _ => Nat.beq l.length r | none, .agg _ => false | none, _ => ti.one | some _, _ => false) with
              | true => some ((i, e, s, m, c), f, (j, q), l, E)
              | false => none
            | none => none
          | _, _, _ => none
        | _, _ => none
      | _ => none
    | _ => none
  | false => none
theorem strE {i e s m c q : Nat} {j : Int} {f : Nat → List SV} {l : List SV} {E : Ob} (hY : Y.ok P = true) (k : Nat) (f' : Nat → List SV) (h : strS Y n ops T H o = some ((i, e, s, m, c), f, (j, q), l, E)) (hE : okE E) (hj : j.toNat = k) (hk : k < m)
    (hne : ∀ j, j ≠ k → f' j = f j) (hsp : sp q (f k) l = some (f' k)) : EffOK P n ops ks G0 w0 T H o (.tup []) (stH H i (some (.row e s m c f'))) := by
  intro G a w A
  obtain ⟨d, op, ty, pos, af, gd⟩ := o
  unfold strS at h
  split at h
  · next hd =>
    split at h
    · next hgd =>
      have hw := gd_run (gd := none) A hgd
      split at h
      · next t x y hop =>
        simp only at hop
        subst hop
        split at h
        · next i' s' j' q' v hx hy =>
          split at h
          · next e' s2 m' c' f1 ti l' hi hti hl =>
            split at h
            · next E' hon =>
              split at h
              · next hck =>
                cases h
                rw [Bool.and_eq_true, Bool.and_eq_true] at hck
                have es := Nat.eq_of_beq_eq_true hck.1.1
                subst es
                rw [lg_is] at hi
                have hvy := A.ev hy
                have hcd := cellsS_den hl hvy
                have hcl0 : denL [] l = some (a.eval y).cells.toList := by
                  have := denL_take' (G := G) l hck.1.2
                  simp only [List.take_zero] at this
                  rw [this]; exact hcd
                obtain ⟨L, hL, hpre, hcell, hu, A2⟩ := A.rowSet hi hk hne hsp hcl0
                have hone := onesS_spec hon hE hcd
                have hlen := denL_len hcd
                have hvx := A.ev hx
                unfold den at hvx
                rw [hL] at hvx
                simp only [Option.map_some, hpre, List.length_nil, Nat.zero_add, hj, Option.some.injEq] at hvx
                have htt := Tb.at hY hti
                refine does_unit (w' := w.setCells L.b (k * s + q) (a.eval y).cells.toList) hw ?_ ⟨[], rfl, by rw [List.append_nil]; exact A2.ms⟩
                have hst : (Instr.storeAt t (.pointer (some ⟨L.b, k * s + q, none⟩)) (a.eval y)).run P w = .ok () (w.setCells L.b (k * s + q) (a.eval y).cells.toList) := by
                  cases hv2 : v with
                  | agg ll =>
                    rw [hv2] at hck hvy hl
                    cases hr : ti.row with
                    | none => rw [hr] at hck; exact absurd hck.2 (by simp)
                    | some r =>
                      rw [hr] at hck
                      have hrl := Nat.eq_of_beq_eq_true hck.2
                      unfold den at hvy
                      obtain ⟨us, u1, u2⟩ := Option.map_eq_some_iff.1 hvy
                      rw [← u2]
                      rw [← u2] at hone hlen
                      simp only [Value.cells, List.toList_toArray] at hone hlen ⊢
                      have := run_storeAt_mid (P := P) w L.b (k * s + q) t us.toArray (fun z hz => hcell z (by simp at hz; omega)) (by simp; rw [hlen, hrl]; simpa using (row_facts (ti_row htt hr)).2) (by simpa using hone)
                      simpa using this
                  | _ =>
                    all_goals
                      rw [hv2] at hck hvy hl
                      cases hr : ti.row with
                      | some r => rw [hr] at hck; exact absurd hck.2 (by simp)
                      | none =>
                        rw [hr] at hck
                        first
                        | (cases hl; done)
                        | (cases hl
                           have hc1 : (a.eval y).cells = #[a.eval y] := by
                             have h1 := hlen
                             have h2 : (a.eval y).oneCell' = true ∨ True := .inr trivial
                             have hden := hcd
                             obtain ⟨v0, ws, w1, w2, w3⟩ := denL_cons hden
                             cases w2
                             rw [hvy] at w1
                             cases w1
                             apply Array.ext'
                             simpa using w3
                           rw [hc1] at hone ⊢
                           have hc := hcell 0 (by simp)
                           simp only [Nat.add_zero] at hc
                           simp only [List.all_cons, List.all_nil, Bool.and_true] at hone
                           cases hq : w.cell? ⟨L.b, k * s + q, none⟩ with
                           | none => rw [hq] at hc; cases hc.1
                           | some u =>
                             have ho := ti_one htt hck.2
                             unfold oneB at ho
                             rw [Bool.and_eq_true] at ho
                             have hs1 : (P.info? t).map (·.size) = some 1 := by simpa using ho.2
                             cases hqi : P.info? t with
                             | none => simp [hqi] at hs1
                             | some inf =>
                               have hi1 : inf.size = 1 := by simpa [hqi] using hs1
                               have hz : (sizeOf t).run P w = .ok 1 w := by simp [sizeOf, typeInfo, hqi, hi1]
                               have hsto : (store ((⟨L.b, k * s + q, none⟩ : Addr).add 0) (a.eval y)).run P w = .ok () (w.setCell ⟨L.b, k * s + q, none⟩ (a.eval y)) := by
                                 rw [Addr.add_mid, Nat.add_zero, run_store P w _ _ _ hone, hq]
                                 simp [hc.2]
                               simp [Instr.storeAt, Instr.sureAddr, storeVar, hz, hc1, storeCells, hsto, World.setCells])
                unfold execOp
                simp only [← hvx, Sem.run_bind, hst, Result.andThen_ok, Sem.run_pure]
              · cases h
            · cases h
          · cases h
        · cases h
      · cases h
    · cases h
  · cases h
theorem str_fits {r : (Nat × Nat × Nat × Nat × Nat) × (Nat → List SV) × (Int × Nat) × List SV × Ob} (h : strS Y n ops T H o = some r) : fitsD n o.dst = true := by
  unfold strS at h
  split at h
  · next hd => exact hd
  · cases h
theorem STR {i e s m c q : Nat} {j : Int} {f : Nat → List SV} {l : List SV} {E : Ob} (hY : Y.ok P = true) (k : Nat) (f' : Nat → List SV) (A : Sy n T H ks G0 w0 G a w) (h : strS Y n ops T H o = some ((i, e, s, m, c), f, (j, q), l, E)) (hE : okE E) (hj : j.toNat = k) (hk : k < m)
    (hne : ∀ j, j ≠ k → f' j = f j) (hsp : sp q (f k) l = some (f' k)) (hg : ∀ {G a w}, Sy n (extS T o.dst (.tup [])) (stH H i (some (.row e s m c f'))) ks G0 w0 G a w → Goal P Q K (.ops ops rest) a w) : Goal P Q K (.ops ops (o :: rest)) a w :=
  q_eff A (str_fits h) (strE hY k f' h hE hj hk hne hsp) hg
/-- the first parts of a row, of a list -/
def cutS (Y : Tb) (n : Nat) (ops : Array Oper) (T : List (Nat × SV)) (H : Hp) (o : Oper) : Option ((Nat × Nat × Nat) × Int × Option Ent) := match fitsD n o.dst with
  | true => match guardS ops T o.guard with
    | some .run => match o.op with
      | .slice t x none (some hi) none => match evS T x, evS T hi, Y.get t with
        | some (.sl i nn cc), some (.int .i64 j), some ti => match ti.elm, lg H i with
          | some _, some e => some ((i, nn, cc), j, e)
          | _, _ => none
        | _, _, _ => none
      | _ => none
    | _ => none
  | false => none
theorem cut_do {i nn cc : Nat} {j : Int} {en : Option Ent} (hY : Y.ok P = true) (k : Nat) (A : Sy n T H ks G0 w0 G a w) (h : cutS Y n ops T H o = some ((i, nn, cc), j, en)) (hj : j = (k : Int)) (hk : k ≤ cc + rm ((G[i]?).getD none)) : fitsD n o.dst = true ∧ H[i]? = some en ∧ ∃ p, G[i]? = some p ∧ ∀ K : Value → World → Prop, K (.slice (p.map fun L => ⟨L.b, L.pre.length, none⟩) k (cc + rm p)) w → Does P ops o a w K := by
  obtain ⟨d, op, ty, pos, af, gd⟩ := o
  unfold cutS at h
  split at h
  · next hd =>
    split at h
    · next hgd =>
      have hw := gd_run (gd := none) A hgd
      split at h
      · next t x hi hop =>
        simp only at hop
        subst hop
        split at h
        · next i' n' c' j' ti hx hh hti =>
          split at h
          · next el e' hel hlg =>
            cases h
            obtain ⟨e2, s2, b2⟩ := el
            rw [lg_is] at hlg
            have hvx := A.ev hx
            have hvh := A.ev hh
            unfold den at hvx
            split at hvx
            · next p hp =>
              rw [hp, Option.getD_some] at hk
              refine ⟨hd, hlg, p, hp, fun K hK => does_val hw ?_ hK⟩
              simp only [den, Option.some.injEq] at hvx hvh
              obtain ⟨ie, z, f1, f2, f3, f4, f5, f6, f7⟩ := elem_facts (ti_elm (Tb.at hY hti) hel)
              have hsb : (Instr.sliceBounds true nn (cc + rm p) none (some (.int .i64 (k : Int))) none).run P w = .ok (0, k, cc + rm p) w := by
                simp [Instr.sliceBounds, run_sliceBound (P := P) w .i64 (k : Int) (cc + rm p) _ (by omega) (by omega)]
              have hsz : (P.info? e2).map (·.size) = some s2 := by rw [f2]; simp [f4]
              unfold execOp
              simp only [← hvx, ← hvh, hj, Option.map_some, Option.map_none, Instr.sliceAt, Instr.slice, Sem.run_bind, run_underlying f1, hsb, Result.andThen_ok, run_size hsz, Sem.run_pure]
              cases p with
              | none => simp
              | some L => simp [Addr.add_mid]
            · cases hvx
          · cases h
        · cases h
      · cases h
    · cases h
  · cases h
theorem CUT {i nn cc e s m c : Nat} {j : Int} {f : Nat → List SV} (hY : Y.ok P = true) (k : Nat) (A : Sy n T H ks G0 w0 G a w) (h : cutS Y n ops T H o = some ((i, nn, cc), j, some (.row e s m c f))) (hj : j = (k : Int)) (hk : k ≤ m) (h2 : cc = c)
    (hg : ∀ {G a w}, Sy n (extS T o.dst (.sl H.length k c)) (stH H i none ++ [some (.row e s k c f)]) ks G0 w0 G a w → Goal P Q K (.ops ops rest) a w) : Goal P Q K (.ops ops (o :: rest)) a w := by
  subst h2
  have hcap : m ≤ cc + rm ((G[i]?).getD none) ∧ ∃ xs, flatV f m = some xs := by
    have : ∃ e', H[i]? = some (some e') ∧ e' = .row e s m cc f := by
      unfold cutS at h
      repeat' split at h
      all_goals first | (cases h; done) | skip
      all_goals (cases h; rename_i hlg; rw [lg_is] at hlg; exact ⟨_, hlg, rfl⟩)
    obtain ⟨e', g1, rfl⟩ := this
    obtain ⟨_, _, xs, g2, g3⟩ := A.mem.ent i _ g1
    refine ⟨?_, xs, g2⟩
    rcases g3.2 with ⟨q1, q2⟩ | ⟨g, cap, cur, q1, _, _, q4, _⟩
    · omega
    · cases hp : (G[i]?).getD none <;> rw [hp] at q1 <;> simp at q1; omega
  obtain ⟨hd, hi, p, hp, hdo⟩ := cut_do (P := P) hY k A h hj (by omega)
  have hent := A.mem.ent i _ hi
  rw [hp] at hent
  simp only [Option.getD_some] at hent
  obtain ⟨r1, r2, xs, r3, r4, r5⟩ := hent
  have hown : w.ownsRow 0 e s (.slice (p.map fun L => ⟨L.b, L.pre.length, none⟩) k (cc + rm p)) k (xs.take (k * s)) := by
    have hmul : k * s ≤ m * s := Nat.mul_le_mul_right s hk
    refine ⟨by simp; omega, ?_⟩
    rcases r5 with ⟨q1, q2⟩ | ⟨g, cap, cur, q1, q2, q3, q4, q5, q6, q7⟩
    · left
      cases p with
      | none => simp at q1 ⊢; omega
      | some L => simp at q1
    · right
      cases p with
      | none => cases q1
      | some L =>
        simp only [Option.map_some, Value.slice.injEq] at q1
        obtain ⟨q8, _, q9⟩ := q1
        exact ⟨g, cap, cur, by simp only [Option.map_some, q8, q9], q2, q3, by omega, q5, q6, by rw [← q7, List.take_take, Nat.min_eq_left hmul]⟩
  have A2 := A.rowMove (w' := w) (p' := p) (c' := cc) hi ⟨rfl, rfl, rfl, Nat.le_refl _, fun _ _ _ => rfl⟩ hown r2 (.inl (by rw [hp]; rfl)) (flat_take r1 r3 k hk) r1
  refine q_does (Q := wpK P Q K) (hdo _ (hg (Sy.put A2 hd ?_)))
  unfold den
  rw [List.getElem?_append_right (by rw [A.mem.len]; exact Nat.le_refl _), A.mem.len]
  simp
/-- the first parts of a list that is read -/
theorem CUTL {i nn cc s m : Nat} {j : Int} {f : Nat → List SV} (hY : Y.ok P = true) (k : Nat) (A : Sy n T H ks G0 w0 G a w) (h : cutS Y n ops T H o = some ((i, nn, cc), j, some (.lst s m f))) (hj : j = (k : Int)) (hk : k ≤ cc)
    (hg : ∀ {G a w}, Sy n (extS T o.dst (.sl i k cc)) H ks G0 w0 G a w → Goal P Q K (.ops ops rest) a w) : Goal P Q K (.ops ops (o :: rest)) a w := by
  obtain ⟨hd, hi, p, hp, hdo⟩ := cut_do (P := P) hY k A h hj (by omega)
  refine q_does (Q := wpK P Q K) (hdo _ (hg (Sy.put A hd ?_)))
  unfold den
  rw [hp]
/-- a call whose contract leaves a number open -/
abbrev Re (x : Nat → SV) (H : Nat → Hp) : SV → Hp → Prop := fun y H' => ∃ c, y = x c ∧ H' = H c
theorem CALL2 {f : Nat} {args az : List SV} {H' l : Hp} {H2 : Nat → Hp} {x : Nat → SV} {y : Nat → SV} {l2 : Nat → Hp} (m : List Nat) (hf : Fn P f args H' (Re x H2)) (A : Sy n T H ks G0 w0 G a w) (h1 : callS n ops T o = some (f, az)) (h2 : renL m args = some az) (h3 : renH m H' = some l) (h4 : pickH H m = some l) (h5 : ndB m = true)
    (h6 : ∀ c, renO (m ++ rngF H.length ((H2 c).length - m.length)) (x c) = some (y c)) (h7 : ∀ c, renH (m ++ rngF H.length ((H2 c).length - m.length)) (H2 c) = some (l2 c)) (hk : ∀ c {G a w}, Sy n (extS T o.dst (y c)) (putAll H m (l2 c)) ks G0 w0 G a w → Goal P Q K (.ops ops rest) a w) : Goal P Q K (.ops ops (o :: rest)) a w :=
  CALL m hf A h1 h2 h3 h4 h5 fun x' H' ⟨c, e1, e2⟩ => by subst e1; subst e2; exact ⟨y c, l2 c, h6 c, h7 c, hk c⟩
end
end Go.Proofs.Ytiglneecmibgmaa
/- Rows: a list is appended. -/
namespace Go.Proofs.Ytiglneecmibgmaa
open Go.RowKit
set_option linter.unusedVariables false
set_option linter.unusedSimpArgs false
set_option linter.unusedSectionVars false

section
variable {P : Program} {Y : Tb} {n : Nat} {ks : List Nat} {G0 : Gr} {w0 : World} {T : List (Nat × SV)} {H : Hp} {G : Gr} {a : Act} {w w' : World} {Q : Exit → Act → World → Prop} {K : List Fr} {ops : Array Oper} {o : Oper} {rest : List Oper}
def aplS (Y : Tb) (n : Nat) (ops : Array Oper) (T : List (Nat × SV)) (H : Hp) (o : Oper) : Option ((Nat × Nat × Nat × Nat × Nat) × (Nat → List SV) × (Nat × Nat × Nat) × (Nat → List SV) × (Nat × Nat)) := match fitsD n o.dst with
  | true => match guardS ops T o.guard with
    | some .run => match o.op with
      | .call c => match c.callee, c.args.toList, c.argTypes.toList with
        | .builtin .append, [x, y], [t, t'] => match evS T x, evS T y, Nat.beq t t' with
          | some (.sl i nn cc), some (.sl j mm mc), true => match lg H i, partsOf (lg H j), Y.get t with
            | some (some (.row e s m c f)), some (s2, mb, g), some ti => match ti.elm with
              | some (e', s', b) => match Nat.beq e e' && Nat.beq s s' && Nat.beq s s2 && Nat.ble b 10000 with
                | true => some ((i, e, s, m, c), f, (mm, mb, mc), g, (nn, cc))
                | false => none
              | _ => none
            | _, _, _ => none
          | _, _, _ => none
        | _, _, _ => none
      | _ => none
    | _ => none
  | false => none
theorem APPL {i e s m c nn cc mm mb mc : Nat} {f g : Nat → List SV} (hY : Y.ok P = true) (m' : Nat) (f' : Nat → List SV) (A : Sy n T H ks G0 w0 G a w) (h : aplS Y n ops T H o = some ((i, e, s, m, c), f, (mm, mb, mc), g, (nn, cc))) (h1 : nn = m) (h2 : cc = c) (hc0 : c = 0) (hmb : mm ≤ mb) (hb : m ≤ 1000000) (hb2 : mm ≤ 1000000) (hm' : m' = m + mm)
    (hf : ∀ k, k < m → f' k = f k) (hn : ∀ k, k < mm → f' (m + k) = g k) (htot : ∀ k, ∃ vs, denL [] (f' k) = some vs ∧ vs.length = s) (hone : ∀ k, k < mm → ∃ E, onesS (g k) = some E ∧ okE E)
    (hk : ∀ {G a w}, Sy n (extS T o.dst (.sl H.length m' 0)) (stH H i none ++ [some (.row e s m' 0 f')]) ks G0 w0 G a w → Goal P Q K (.ops ops rest) a w) : Goal P Q K (.ops ops (o :: rest)) a w := by
  subst hm'
  obtain ⟨d, op, ty, pos, af, gd⟩ := o
  unfold aplS at h
  split at h
  · next hd =>
    split at h
    · next hgd =>
      have hw := gd_run (gd := none) A hgd
      split at h
      · next ca hca =>
        simp only at hca
        subst hca
        obtain ⟨callee, args, ats⟩ := ca
        simp only at h
        split at h
        · next x y t t' ha ht =>
          split at h
          · next i' nn' cc' j mm' mc' hx hy htt =>
            split at h
            · next e' s' m' c1 f1 s2 mb' g' ti hi hj hti =>
              split at h
              · next e2 s3 b hel =>
                split at h
                · next hck =>
                  cases h
                  subst h1; subst h2
                  simp only [Bool.and_eq_true] at hck
                  obtain ⟨⟨⟨c1, c2⟩, c3⟩, c4⟩ := hck
                  have e1 := Nat.eq_of_beq_eq_true c1
                  have e2' := Nat.eq_of_beq_eq_true c2
                  have e3 := Nat.eq_of_beq_eq_true c3
                  have e4 := Nat.eq_of_beq_eq_true htt
                  have hby := Nat.le_of_ble_eq_true c4
                  subst e1; subst e2'; subst e3; subst e4
                  rw [lg_is] at hi
                  have hargs : args = #[x, y] := by have := congrArg List.toArray ha; simpa using this
                  have hats : ats = #[t, t] := by have := congrArg List.toArray ht; simpa using this
                  subst hargs; subst hats
                  obtain ⟨r1, r2, xs, r3, r4⟩ := A.mem.ent i _ hi
                  obtain ⟨g1, g2⟩ := parts_at A.mem hj
                  obtain ⟨ie, z, f1', f2', f3', f4', f5', f6', f7'⟩ := elem_facts (ti_elm (Tb.at hY hti) hel)
                  have hvx := A.ev hx
                  have hvy := A.ev hy
                  obtain ⟨q, hq⟩ : ∃ q, G[i]? = some q := by
                    have : i < G.length := by rw [← A.mem.len]; exact (List.getElem?_eq_some_iff.1 hi).1
                    exact ⟨G[i], by simp [this]⟩
                  rw [hq] at r2 r4
                  simp only [Option.getD_some] at r2 r4
                  unfold den at hvx hvy
                  rw [hq] at hvx
                  simp only [Option.some.injEq] at hvx
                  have htg : ∀ k, k < mm → ∃ vs, denL [] (g k) = some vs ∧ vs.length = s := fun k hk => by rw [← hn k hk]; exact htot _
                  obtain ⟨ys, hys⟩ := flat_ex (f := fun k => f' (nn + k)) (fun k => htot _) mm
                  have hyl := flat_len (f := fun k => f' (nn + k)) (fun k => htot _) hys
                  have hflat : flatV f' (nn + mm) = some (xs ++ ys) := flat_more mm nn (by rw [flat_congr hf]; exact r3) hys
                  have hob : Value.ownBlock (.slice (q.map fun L => ⟨L.b, L.pre.length, none⟩) nn (cc + rm q)) = q.map (·.b) := by cases q <;> rfl
                  by_cases h0 : mm = 0
                  · subst h0
                    cases hys
                    have hsrc : Src P ie.size t (a.eval y) 0 [] w := by
                      split at hvy
                      · next p hp =>
                        rw [← Option.some.inj hvy]
                        cases p with
                        | none => exact Src.ofNil w f1' mc
                        | some L => exact Src.ofSlice w f1' _ 0 _ [] (by simp) (fun j u hj => by simp at hj) (fun u hu => by cases hu)
                      · cases hvy
                    have hnc : nn ≤ cc + rm q := by
                      rcases r4.2 with ⟨q1, q2⟩ | ⟨g, cap, cur, q1, _, _, q4, _⟩
                      · omega
                      · cases q <;> simp at q1; omega
                    have hr := run_append_nothing (P := P) w t t ty e ie f1' f2' (q.map fun L => ⟨L.b, L.pre.length, none⟩) nn (cc + rm q) hnc _ hsrc
                    refine q_does (Q := wpK P Q K) (does_val (v := .slice (q.map fun L => ⟨L.b, L.pre.length, none⟩) nn (cc + rm q)) (w' := w) hw ?_ ?_)
                    · unfold execOp
                      simp only [resolve, invoke, builtin, Sem.run_bind, Sem.run_pure, Result.andThen_ok, List.map_toArray, List.map_cons, List.map_nil, ← hvx, hr]
                    · have A2 := A.rowMove (w' := w) (p' := q) (m' := nn + 0) (c' := cc) (xs' := xs ++ []) hi ⟨rfl, rfl, rfl, Nat.le_refl _, fun _ _ _ => rfl⟩ (by simpa using r4) r2 (.inl (by rw [hq]; rfl)) hflat htot
                      subst hc0
                      refine hk (Sy.put A2 hd ?_)
                      unfold den
                      rw [List.getElem?_append_right (by rw [A.mem.len]; exact Nat.le_refl _), A.mem.len]
                      simp
                  · obtain ⟨L, vs0, b1, _⟩ := g2 0 (by omega)
                    rw [get_loc b1] at hvy
                    simp only [Option.map_some, Option.some.injEq] at hvy
                    have hmul : (nn + mm) * b ≤ 2000000 * 10000 := Nat.mul_le_mul (by omega) hby
                    obtain ⟨v', w', hr, k1, k2, _, k4⟩ := run_append_own_at (P := P) w 0 t ty e ie z s b f1' f2' f3' f4' f5' f6' f7' _ nn xs r4 ⟨L.b, L.pre.length, none⟩ mm (mc + rm (some L)) ys hyl
                      (fun j u hj => by
                        obtain ⟨k, r, us, d1, d2, d3, d4⟩ := flat_inv (f := fun k => f' (nn + k)) (fun k => htot _) hys j u hj
                        obtain ⟨L', us', b1', b2', b3'⟩ := g2 k (by omega)
                        rw [b1] at b1'; cases b1'
                        rw [hn k d1, b2'] at d2
                        cases d2
                        have := b3' r u d3
                        rw [Addr.add_mid, d4, ← Nat.add_assoc]
                        exact this)
                      (fun u hu => by
                        obtain ⟨j, hj⟩ := List.mem_iff_getElem?.1 hu
                        obtain ⟨k, r, us, d1, d2, d3, d4⟩ := flat_inv (f := fun k => f' (nn + k)) (fun k => htot _) hys j u hj
                        rw [hn k d1] at d2
                        obtain ⟨E, o1, o2⟩ := hone k d1
                        exact List.all_eq_true.1 (onesS_spec o1 o2 d2) u (List.mem_of_getElem? d3))
                      (by simp only [maxLen]; omega) (by omega) (Nat.zero_le _)
                    obtain ⟨p', o1, o2, o3⟩ := own_split k1
                    rw [hob] at k2 k4
                    rw [o3] at k4
                    rw [o1] at k1
                    refine q_does (Q := wpK P Q K) (does_val (v := v') (w' := w') hw ?_ ?_)
                    · unfold execOp
                      simp only [resolve, invoke, builtin, Sem.run_bind, Sem.run_pure, Result.andThen_ok, List.map_toArray, List.map_cons, List.map_nil, ← hvx, ← hvy, hr]
                    · have A2 := A.rowMove (p' := p') hi (by rw [hq]; exact k2) k1 o2 (by rw [hq]; exact k4) hflat htot
                      refine hk (Sy.put A2 hd ?_)
                      unfold den
                      rw [List.getElem?_append_right (by rw [A.mem.len]; exact Nat.le_refl _), A.mem.len]
                      simp [o1]
                · cases h
              · cases h
            · cases h
          · cases h
        · cases h
      · cases h
    · cases h
  · cases h
end
section
variable {n : Nat} {ks : List Nat} {G0 : Gr} {w0 : World} {T : List (Nat × SV)} {H : Hp} {G : Gr} {a : Act} {w : World}
/-- a row said otherwise -/
theorem Sy.rowAs (A : Sy n T H ks G0 w0 G a w) (i m' : Nat) (f' : Nat → List SV) {e s m c : Nat} {f : Nat → List SV} (h : lg H i = some (some (.row e s m c f))) (hm : m' = m) (hf : ∀ k, k < m → f' k = f k) (htot : ∀ k, ∃ vs, denL [] (f' k) = some vs ∧ vs.length = s) : Sy n T (stH H i (some (.row e s m' c f'))) ks G0 w0 G a w := by
  subst hm
  rw [lg_is] at h
  have hilt : i < H.length := (List.getElem?_eq_some_iff.1 h).1
  have hold : ∀ (j : Nat) (x : Ent), (stH H i (some (.row e s m' c f')))[j]? = some (some x) → (j ≠ i ∧ H[j]? = some (some x)) ∨ (j = i ∧ x = .row e s m' c f') := by
    intro j x h
    rw [stH_is] at h
    by_cases hj : j = i
    · subst hj; rw [List.getElem?_set_self hilt] at h; cases h; exact .inr ⟨rfl, rfl⟩
    · rw [List.getElem?_set_ne (Ne.symm hj)] at h; exact .inl ⟨hj, h⟩
  refine ⟨A.size, A.defers, A.get, ⟨by rw [stH_is]; simpa using A.mem.len, ?_, ?_⟩, A.pre, ?_, A.mix⟩
  · intro j x hx
    rcases hold j x hx with ⟨k1, k2⟩ | ⟨rfl, rfl⟩
    · exact A.mem.ent j x k2
    · obtain ⟨h1, h2, xs, h3, h4⟩ := A.mem.ent j _ h
      exact ⟨htot, h2, xs, by rw [flat_congr hf]; exact h3, h4⟩
  · intro j k x y L M hjk b1 b2 b3 b4 b5 b6
    have a1 : ∃ x', H[j]? = some (some x') ∧ x'.mut = x.mut := by
      rcases hold j x b1 with ⟨_, k2⟩ | ⟨rfl, rfl⟩
      · exact ⟨x, k2, rfl⟩
      · exact ⟨_, h, rfl⟩
    have a2 : ∃ y', H[k]? = some (some y') ∧ ¬ y'.empty := by
      rcases hold k y b2 with ⟨_, k2⟩ | ⟨rfl, rfl⟩
      · exact ⟨y, k2, b6⟩
      · exact ⟨_, h, fun h => h⟩
    obtain ⟨x', c1, c2⟩ := a1
    obtain ⟨y', c3, c4⟩ := a2
    exact A.mem.sep j k x' y' L M hjk c1 c3 (by rw [c2]; exact b3) b4 b5 c4
  · intro j x L b1 b2 b3
    rcases hold j x b1 with ⟨_, k2⟩ | ⟨rfl, rfl⟩
    · exact A.own j x L k2 b2 b3
    · exact A.own j _ L h rfl b3
end
/-! ### Lists and their parts -/
section
variable {α : Type} {l m : List α} {d x : α} {k : Nat}
theorem getD_app_l (h : k < l.length) : (l ++ m).getD k d = l.getD k d := by simp [List.getD, List.getElem?_append_left h]
theorem getD_app_r : (l ++ m).getD (l.length + k) d = m.getD k d := by simp [List.getD, List.getElem?_append_right]
theorem getD_app_1 : (l ++ [x]).getD l.length d = x := by simp [List.getD]
theorem getD_set_ne {j : Nat} (h : j ≠ k) : (l.set k x).getD j d = l.getD j d := by simp [List.getD, List.getElem?_set_ne (Ne.symm h)]
theorem getD_set_eq (h : k < l.length) : (l.set k x).getD k d = x := by simp [List.getD, h]
theorem getD_take {j : Nat} (h : j < k) : (l.take k).getD j d = l.getD j d := by simp [List.getD, List.getElem?_take_of_lt h]
end
end Go.Proofs.Ytiglneecmibgmaa
/- The types of the program, as a table. -/
namespace Go.Proofs.Ytiglneecmibgmaa
open Go.RowKit
abbrev zI : SV := .int .i64 0
abbrev zS : SV := .str []
def X : Tb := (.n 37 ⟨false, (some 8), (some [zI, zI, zI, zI, zI, zI, zI, zI]), [], none, false, false, none, (some [0, 0, 0, 0, 0, 0, 0, 0]), (some (8, 3, 1))⟩ (.n 30 ⟨false, (some 17), (some [zI, zI, zI, zI, zI, zI, zI, zI, zI, zI, .ff, .ff, .ff, zI, zI, zI, .ff]), [(3, 0, 1), (3, 1, 1), (3, 2, 1), (3, 3, 1), (3, 4, 1), (3, 5, 1), (3, 6, 1), (3, 7, 1), (3, 8, 1), (3, 9, 1), (4, 10, 1), (4, 11, 1), (4, 12, 1), (3, 13, 1), (3, 14, 1), (3, 15, 1), (4, 16, 1)], none, false, false, none, (some [0, 0, 0, 0, 0, 0, 0, 0, 0, 0, 1, 1, 1, 0, 0, 0, 1]), none⟩ (.n 9 ⟨true, none, (some [zS]), [], none, true, false, none, none, none⟩ (.n 4 ⟨true, none, (some [.ff]), [], none, false, true, none, none, none⟩ (.n 3 ⟨true, none, (some [zI]), [], (some .i64), false, false, none, none, none⟩ .e .e) .e) (.n 26 ⟨false, (some 2), (some [zI, zI]), [(3, 0, 1), (3, 1, 1)], none, false, false, none, (some [0, 0]), none⟩ (.n 22 ⟨true, none, (some [.sla none 0 0]), [], none, false, false, (some (3, 1, 8)), none, none⟩ .e .e) .e)) (.n 34 ⟨false, (some 5), (some [zI, zI, zI, zI, zI]), [(3, 0, 1), (3, 1, 1), (3, 2, 1), (3, 3, 1), (3, 4, 1)], none, false, false, none, (some [0, 0, 0, 0, 0]), none⟩ (.n 32 ⟨true, none, (some [.sla none 0 0]), [], none, false, false, (some (31, 1, 24)), none, none⟩ (.n 31 ⟨true, none, (some [.sla none 0 0]), [], none, false, false, (some (30, 17, 120)), none, none⟩ .e .e) .e) (.n 36 ⟨false, (some 3), (some [zI, zI, zI]), [], none, false, false, none, (some [0, 0, 0]), (some (3, 3, 1))⟩ (.n 35 ⟨true, none, (some [.sla none 0 0]), [], none, false, false, (some (34, 5, 40)), none, none⟩ .e .e) .e))) (.n 53 ⟨true, none, (some [.sla none 0 0]), [], none, false, false, (some (61, 10, 96)), none, none⟩ (.n 41 ⟨true, none, (some [.v (.pointer none)]), [], none, false, false, none, none, none⟩ (.n 40 ⟨false, (some 32), (some [zI, zS, zI, zI, zI, zI, zI, zI, zI, zI, zI, zI, zI, zI, zI, zI, zI, zI, zI, zI, zI, zI, zI, zI, zI, zI, zI, zI, zI, .sla none 0 0, zI, .sla none 0 0]), [(3, 0, 1), (9, 1, 1), (36, 2, 3), (38, 5, 24), (32, 29, 1), (3, 30, 1), (35, 31, 1)], none, false, false, none, none, none⟩ (.n 38 ⟨false, (some 24), (some [zI, zI, zI, zI, zI, zI, zI, zI, zI, zI, zI, zI, zI, zI, zI, zI, zI, zI, zI, zI, zI, zI, zI, zI]), [], none, false, false, none, (some [0, 0, 0, 0, 0, 0, 0, 0, 0, 0, 0, 0, 0, 0, 0, 0, 0, 0, 0, 0, 0, 0, 0, 0]), (some (3, 37, 8))⟩ .e .e) .e) (.n 51 ⟨true, none, (some [.v .nilIface]), [], none, false, false, none, none, none⟩ (.n 44 ⟨false, (some 2), (some [zI, zI]), [(3, 0, 1), (3, 1, 1)], none, false, false, none, (some [0, 0]), none⟩ .e .e) .e)) (.n 61 ⟨false, (some 10), (some [.sla none 0 0, zI, zI, zI, zI, zI, zI, zI, zI, zI]), [(31, 0, 1), (3, 1, 1), (37, 2, 8)], none, false, false, none, none, none⟩ (.n 56 ⟨true, none, (some [zI]), [], (some .i64), false, false, none, none, none⟩ (.n 55 ⟨false, (some 1), (some [.sla none 0 0]), [(53, 0, 1)], none, false, false, none, none, none⟩ .e .e) .e) (.n 70 ⟨true, none, (some [.v .nilFunc]), [], none, false, false, none, none, none⟩ (.n 62 ⟨true, none, (some [.v (.pointer none)]), [], none, false, false, none, none, none⟩ .e .e) .e))))
theorem hX : Tb.ok Try.prog X = true := by kernel_rfl
end Go.Proofs.Ytiglneecmibgmaa
/- Blocks renumbered. -/
namespace Go.Proofs.Ytiglneecmibgmaa
open Go.RowKit
set_option linter.unusedVariables false
set_option linter.unusedSimpArgs false
def renT (m : List Nat) : List (Nat × SV) → Option (List (Nat × SV))
  | [] => some []
  | (t, x) :: T => match renO m x with
    | some y => match renT m T with
      | some r => some ((t, y) :: r)
      | none => none
    | none => none
theorem renT_look {m : List Nat} : ∀ {T' T : List (Nat × SV)}, renT m T' = some T → ∀ t x, look T' t = some x → ∃ y, look T t = some y ∧ renO m x = some y
  | [], T, h, t, x, hx => by cases hx
  | (k, z) :: T', T, h, t, x, hx => by
    unfold renT at h
    split at h
    · next y hy =>
      split at h
      · next r hr =>
        cases h
        simp only [look] at hx ⊢
        cases hb : Nat.beq k t with
        | true => rw [hb] at hx; cases hx; exact ⟨y, rfl, hy⟩
        | false => rw [hb] at hx; exact renT_look hr t x hx
      · cases h
    · cases h
section
variable {n : Nat} {ks : List Nat} {G0 : Gr} {w0 : World} {T : List (Nat × SV)} {H : Hp} {G : Gr} {a : Act} {w : World}
/-- of memory these blocks are kept, in this order -/
theorem Sy.mv (A : Sy n T H ks G0 w0 G a w) (k : Nat) (m : List Nat) {T' : List (Nat × SV)} {H' l : Hp} (hT : renT (rngF 0 k ++ m) T' = some T) (h1 : pickH H (rngF 0 k ++ m) = some l) (h2 : renH (rngF 0 k ++ m) H' = some l) (hn : ndB (rngF 0 k ++ m) = true) (hk : G0.length = k) : Sy n T' H' ks G0 w0 (pickG (rngF 0 k ++ m) G) a w := by
  obtain ⟨p1, p2, p3⟩ := pickH_at h1
  obtain ⟨r1, r2⟩ := renH_at h2
  have hm : ∀ j ∈ rngF 0 k ++ m, j < G.length := fun j hj => by rw [← A.mem.len]; exact p2 j hj
  refine ⟨A.size, A.defers, fun t x hx => ?_, A.mem.sub h1 h2 hn, ?_, fun i e L he hmut hL => ?_, A.mix⟩
  · obtain ⟨y, h3, h4⟩ := renT_look hT t x hx
    rw [den_ren hm x h4]
    exact A.get t y h3
  · obtain ⟨F, hF⟩ := A.pre
    refine ⟨pickG m G, ?_⟩
    have : pickG (rngF 0 k ++ m) G = pickG (rngF 0 k) G ++ pickG m G := by simp [pickG]
    rw [this, ← hk, hF, pick_rng]
  · obtain ⟨f, h3, h4⟩ := r2 i _ he
    have hi : i < (rngF 0 k ++ m).length := by rw [← p1]; exact (List.getElem?_eq_some_iff.1 h3).1
    obtain ⟨f', rfl⟩ := renE_some h4
    have hj : (rngF 0 k ++ m)[i]? = some (rngF 0 k ++ m)[i] := by simp [hi]
    rw [pickG_at hm hj] at hL
    exact A.own _ f' L (by rw [← p3 i _ hj]; exact h3) (by rw [(renE_mut h4).1]; exact hmut) hL
/-- memory in which truths are written otherwise -/
theorem Sy.asH (A : Sy n T H ks G0 w0 G a w) {H' : Hp} (h : nbH H = nbH H') : Sy n T H' ks G0 w0 G a w := by
  refine ⟨A.size, A.defers, A.get, ⟨by rw [← A.mem.len, ← nbH_len H, h, nbH_len], fun i e he => ?_, fun i j e f L M hij h1 h2 h3 h4 h5 h6 => ?_⟩, A.pre, fun i e L h1 h2 h3 => ?_, A.mix⟩
  · obtain ⟨e', q1, _, _, q4⟩ := nb_same h i e he
    exact q4 _ _ _ (A.mem.ent i e' q1)
  · obtain ⟨e', q1, q2, _, _⟩ := nb_same h i e h1
    obtain ⟨f', r1, _, r3, _⟩ := nb_same h j f h2
    exact A.mem.sep i j e' f' L M hij q1 r1 (by rw [q2]; exact h3) h4 h5 (fun z => h6 (r3.1 z))
  · obtain ⟨e', q1, q2, _, _⟩ := nb_same h i e h1
    exact A.own i e' L q1 (by rw [q2]; exact h2) h3
end
end Go.Proofs.Ytiglneecmibgmaa
/- Operations by what they do: calls in regions that draw their order; rows seen shorter. -/
namespace Go.Proofs.Ytiglneecmibgmaa
open Go.RowKit
set_option linter.unusedVariables false
set_option linter.unusedSimpArgs false
set_option linter.unusedSectionVars false

section
variable {P : Program} {Y : Tb} {n : Nat} {ks : List Nat} {G0 : Gr} {w0 : World} {T : List (Nat × SV)} {H : Hp} {G : Gr} {a : Act} {w w' : World} {Q : Exit → Act → World → Prop} {K : List Fr} {ops : Array Oper} {o : Oper} {rest : List Oper}
/-- a call, by what it does -/
theorem callE {f : Nat} {args az : List SV} {H' H2 l l2 : Hp} {x y : SV} (m : List Nat) (hf : Fn P f args H' (Rt x H2)) (h1 : callS n ops T o = some (f, az)) (h2 : renL m args = some az) (h3 : renH m H' = some l) (h4 : pickH H m = some l) (h5 : ndB m = true)
    (h6 : renO (m ++ rngF H.length (H2.length - m.length)) x = some y) (h7 : renH (m ++ rngF H.length (H2.length - m.length)) H2 = some l2) : EffOK P n ops ks G0 w0 T H o y (putAll H m l2) := by
  intro G a w A
  rcases call_do (R2 := fun z H3 => z = y ∧ H3 = putAll H m l2) m hf A h1 h2 h3 h4 h5 (fun x' H' ⟨e1, e2⟩ => by subst e1; subst e2; exact ⟨y, l2, h6, h7, rfl, rfl⟩) with ⟨hw, h⟩ | ⟨hw, z, H3, F, ⟨rfl, rfl⟩, g2, g3⟩
  · refine .inl ⟨hw, fun Q' => ?_⟩
    refine Oper.wp_mono (fun a' w' hh => ?_) (h Q')
    obtain ⟨v, rfl, z, H3, F, ⟨rfl, rfl⟩, g2, g3⟩ := hh
    exact ⟨v, rfl, F, g2, g3.ms⟩
  · exact .inr ⟨hw, F, g2, g3.ms⟩
theorem own_take {e s m k cap : Nat} {ao : Option Addr} {xs : List Value} (h : w.ownsRow 0 e s (.slice ao m cap) m xs) (hk : k ≤ m) : w.ownsRow 0 e s (.slice ao k cap) k (xs.take (k * s)) := by
  obtain ⟨r4, r5⟩ := h
  have hmul : k * s ≤ m * s := Nat.mul_le_mul_right s hk
  refine ⟨by simp; omega, ?_⟩
  rcases r5 with ⟨q1, q2⟩ | ⟨g, cap', cur, q1, q2, q3, q4, q5, q6, q7⟩
  · left
    cases ao with
    | none => simp at q1 ⊢; omega
    | some L => simp at q1
  · right
    cases ao with
    | none => cases q1
    | some L =>
      simp only [Value.slice.injEq] at q1
      obtain ⟨q8, _, q9⟩ := q1
      exact ⟨g, cap', cur, by simp only [q8, q9], q2, q3, by omega, q5, q6, by rw [← q7, List.take_take, Nat.min_eq_left hmul]⟩
/-- a row seen shorter -/
theorem Sy.shrink (A : Sy n T H ks G0 w0 G a w) (i k : Nat) {e s m c : Nat} {f : Nat → List SV} (h : lg H i = some (some (.row e s m c f))) (hk : k ≤ m) : Sy n T (stH H i (some (.row e s k c f))) ks G0 w0 G a w := by
  rw [lg_is] at h
  have hilt : i < H.length := (List.getElem?_eq_some_iff.1 h).1
  rw [stH_is]
  have hat : ∀ (j : Nat) (e' : Ent), (H.set i (some (.row e s k c f)))[j]? = some (some e') → (j = i ∧ e' = .row e s k c f) ∨ (j ≠ i ∧ H[j]? = some (some e')) := by
    intro j e' he
    by_cases hj : j = i
    · subst hj
      rw [List.getElem?_set_self hilt] at he
      cases he; exact .inl ⟨rfl, rfl⟩
    · rw [List.getElem?_set_ne (Ne.symm hj)] at he
      exact .inr ⟨hj, he⟩
  have back : ∀ (j : Nat) (e' : Ent), (H.set i (some (.row e s k c f)))[j]? = some (some e') → ∃ e'' : Ent, H[j]? = some (some e'') ∧ e''.mut = e'.mut ∧ (e''.empty ↔ e'.empty) := by
    intro j e' he
    rcases hat j e' he with ⟨rfl, rfl⟩ | ⟨_, h2⟩
    · exact ⟨_, h, rfl, Iff.rfl⟩
    · exact ⟨e', h2, rfl, Iff.rfl⟩
  refine ⟨A.size, A.defers, A.get, ⟨by rw [List.length_set]; exact A.mem.len, ?_, ?_⟩, A.pre, ?_, A.mix⟩
  · intro j e' he
    rcases hat j e' he with ⟨rfl, rfl⟩ | ⟨_, h2⟩
    · obtain ⟨r1, r2, xs, r3, r4⟩ := A.mem.ent j _ h
      exact ⟨r1, r2, _, flat_take r1 r3 k hk, own_take r4 hk⟩
    · exact A.mem.ent j e' h2
  · intro j j' e1 e2 L M hij he1 he2 hm hL hM hne
    obtain ⟨d1, g1, g2, g3⟩ := back j e1 he1
    obtain ⟨d2, k1, k2, k3⟩ := back j' e2 he2
    exact A.mem.sep j j' d1 d2 L M hij g1 k1 (by rw [g2]; exact hm) hL hM (fun h => hne (k3.1 h))
  · intro j e1 L he1 hm hL
    obtain ⟨d1, g1, g2, g3⟩ := back j e1 he1
    exact A.own j d1 L g1 (by rw [g2]; exact hm) hL
theorem eff_shrink {x : SV} {H' : Hp} (i k : Nat) {e s m c : Nat} {f : Nat → List SV} (h : lg H i = some (some (.row e s m c f))) (hk : k ≤ m) (hE : EffOK P n ops ks G0 w0 T (stH H i (some (.row e s k c f))) o x H') : EffOK P n ops ks G0 w0 T H o x H' :=
  fun G a w A => hE G a w (A.shrink i k h hk)
/-- an entry that is turned -/
theorem Sy.entTurn (A : Sy n T H ks G0 w0 G a w) {i : Nat} {e e' : Ent} {L : Loc} (hi : H[i]? = some (some e)) (hm : e.mut = true) (hm' : e'.mut = true) (hL : G[i]? = some (some L)) (hu : Upd L.b w w') (hn : EntOK G w' (some L) e') : Sy n T (stH H i (some e')) ks G0 w0 G a w' := by
  have hilt : i < H.length := (List.getElem?_eq_some_iff.1 hi).1
  have hold : ∀ (j : Nat) (x : Ent), (stH H i (some e'))[j]? = some (some x) → (j ≠ i ∧ H[j]? = some (some x)) ∨ (j = i ∧ x = e') := by
    intro j x h
    rw [stH_is] at h
    by_cases hj : j = i
    · subst hj; rw [List.getElem?_set_self hilt] at h; cases h; exact .inr ⟨rfl, rfl⟩
    · rw [List.getElem?_set_ne (Ne.symm hj)] at h; exact .inl ⟨hj, h⟩
  refine ⟨A.size, A.defers, A.get, ⟨by rw [stH_is]; simpa using A.mem.len, ?_, ?_⟩, A.pre, ?_, A.mix.upd hu (A.own i _ L hi hm hL)⟩
  · intro j x h
    rcases hold j x h with ⟨k1, k2⟩ | ⟨rfl, rfl⟩
    · refine (A.mem.ent j x k2).mix hu.mix fun hne M hM => ?_
      have := A.mem.sep i j _ x L M (Ne.symm k1) hi k2 hm hL (get_loc hM) hne
      simp; exact fun e => this e.symm
    · rw [hL]; exact hn
  · intro j k x f M N hjk h1 h2 h3 h4 h5 h6
    have a1 : ∃ x', H[j]? = some (some x') ∧ x'.mut = x.mut := by
      rcases hold j x h1 with ⟨_, k2⟩ | ⟨rfl, rfl⟩
      · exact ⟨x, k2, rfl⟩
      · exact ⟨_, hi, by rw [hm, hm']⟩
    have a2 : ∃ x', H[k]? = some (some x') ∧ ¬ x'.empty := by
      rcases hold k f h2 with ⟨_, k2⟩ | ⟨rfl, rfl⟩
      · exact ⟨f, k2, h6⟩
      · exact ⟨_, hi, mut_full hm⟩
    obtain ⟨e1, b1, b2⟩ := a1
    obtain ⟨f', b3, b4⟩ := a2
    exact A.mem.sep j k e1 f' M N hjk b1 b3 (by rw [b2]; exact h3) h4 h5 b4
  · intro j x M h1 h2 h3
    rcases hold j x h1 with ⟨_, k2⟩ | ⟨rfl, rfl⟩
    · exact A.own j x M k2 h2 h3
    · exact A.own j _ M hi hm h3
/-- the rest of a row is cleared -/
def clrS (Y : Tb) (n : Nat) (ops : Array Oper) (T : List (Nat × SV)) (H : Hp) (o : Oper) : Option ((Nat × Nat × Nat × Nat × Nat) × (Nat → List SV) × Nat × Nat) := match fitsD n o.dst with
  | true => match guardS ops T o.guard with
    | some .run => match o.op with
      | .call c => match c.callee, c.args.toList, c.argTypes.toList with
        | .builtin .clear, [x], [t] => match evS T x with
          | some (.st i s k n' cc) => match lg H i, Y.get t with
            | some (some (.row e s' m c f)), some ti => match ti.elm, Y.get e with
              | some (e', s2, _), some te => match te.zero with
                | some zs => match onesS zs with
                  | some [] => match Nat.beq e e' && Nat.beq s s' && Nat.beq s s2 && Nat.beq cc c with
                    | true => some ((i, e, s, m, c), f, k, n')
                    | false => none
                  | _ => none
                | none => none
              | _, _ => none
            | _, _ => none
          | _ => none
        | _, _, _ => none
      | _ => none
    | _ => none
  | false => none
theorem CLR {i e s m c k n' : Nat} {f : Nat → List SV} (hY : Y.ok P = true) (A : Sy n T H ks G0 w0 G a w) (h : clrS Y n ops T H o = some ((i, e, s, m, c), f, k, n')) (hk : k + n' = m)
    (hg : ∀ {G a w}, Sy n (extS T o.dst (.tup [])) (stH H i (some (.row e s k c f))) ks G0 w0 G a w → Goal P Q K (.ops ops rest) a w) : Goal P Q K (.ops ops (o :: rest)) a w := by
  obtain ⟨d, op, ty, pos, af, gd⟩ := o
  unfold clrS at h
  split at h
  · next hd =>
    split at h
    · next hgd =>
      have hw := gd_run (gd := none) A hgd
      split at h
      · next ca hca =>
        simp only at hca
        subst hca
        obtain ⟨callee, args, ats⟩ := ca
        simp only at h
        split at h
        · next x t ha ht =>
          split at h
          · next i' s1 k1 n1 cc hx =>
            split at h
            · next e' s' m' c' f' ti hi hti =>
              split at h
              · next e2 s2 bb te hel hte =>
                split at h
                · next zs hzs =>
                  split at h
                  · next hon =>
                    split at h
                    · next hck =>
                      cases h
                      simp only [Bool.and_eq_true] at hck
                      obtain ⟨⟨⟨c1, c2⟩, c3⟩, c4⟩ := hck
                      have q1 := Nat.eq_of_beq_eq_true c1
                      have q2 := Nat.eq_of_beq_eq_true c2
                      have q3 := Nat.eq_of_beq_eq_true c3
                      have q4 := Nat.eq_of_beq_eq_true c4
                      subst q1; subst q2; subst q3; subst q4
                      rw [lg_is] at hi
                      have hargs : args = #[x] := by have := congrArg List.toArray ha; simpa using this
                      have hats : ats = #[t] := by have := congrArg List.toArray ht; simpa using this
                      subst hargs; subst hats
                      have hvx := A.ev hx
                      obtain ⟨ie, z, f1', f2', f3', f4', f5', f6', f7'⟩ := elem_facts (ti_elm (Tb.at hY hti) hel)
                      obtain ⟨z2, m2, z3, z4⟩ := ti_zero (Tb.at hY hte) hzs
                      rw [f2'] at z3
                      simp only [Option.map_some, Option.some.injEq, Prod.mk.injEq] at z3
                      rw [f3'] at z3
                      simp only [Option.some.injEq] at z3
                      have hz2 := z3.1
                      subst hz2
                      have hone := onesS_spec (G := G) hon okE_nil (z4 G)
                      have hzv := (zero_of_info (P := P) (t := e) (v := z) (n := ie.size) (by rw [f2']; simp [f3'])).1
                      obtain ⟨r1, r2, xs, r3, r4, r5⟩ := A.mem.ent i _ hi
                      obtain ⟨q, hq⟩ : ∃ q, G[i]? = some q := by
                        have : i < G.length := by rw [← A.mem.len]; exact (List.getElem?_eq_some_iff.1 hi).1
                        exact ⟨G[i], by simp [this]⟩
                      rw [hq] at r2 r5
                      simp only [Option.getD_some] at r2 r5
                      unfold den at hvx
                      rw [hq] at hvx
                      simp only [Option.some.injEq] at hvx
                      have A1 := A.shrink i k (by rw [lg_is]; exact hi) (by omega)
                      by_cases hn0 : n' = 0
                      · subst hn0
                        refine q_does (Q := wpK P Q K) (does_val (v := .tuple #[]) (w' := w) hw ?_ (hg (Sy.put A1 hd rfl)))
                        unfold execOp
                        simp only [resolve, invoke, builtin, Sem.run_bind, Sem.run_pure, Result.andThen_ok, List.map_toArray, List.map_cons, List.map_nil, ← hvx]
                        cases q with
                        | none => simp [Builtin.clear_, run_underlying f1']
                        | some L => simp [Builtin.clear_, run_underlying f1']
                      · rcases r5 with ⟨_, r5⟩ | ⟨g, cap, cur, q1, _, q3, q4, q5, q6, q7⟩
                        · omega
                        cases q with
                        | none => cases q1
                        | some L =>
                          simp only [Option.map_some, Value.slice.injEq, Option.some.injEq, Addr.mk.injEq] at q1
                          obtain ⟨⟨q8, q9, _⟩, _, q10⟩ := q1
                          have hpre := r2 L rfl
                          subst q8
                          have hne : ¬ (cc + rm (some L) = k) := by omega
                          simp only [Option.map_some, if_neg hne, hpre, List.length_nil, Nat.zero_add] at hvx
                          have hzl : (Builtin.zeroCells z.cells n').toList.length = n' * s := by simp [Builtin.zeroCells, f6']
                          have hzo : ∀ v ∈ (Builtin.zeroCells z.cells n').toList, v.oneCell' = true := by
                            intro v hv
                            simp only [Builtin.zeroCells, Array.toList_map, List.mem_map, Array.toList_range, List.mem_range] at hv
                            obtain ⟨j, hj, rfl⟩ := hv
                            have hlt : j % z.cells.size < z.cells.size := Nat.mod_lt _ (by omega)
                            rw [getElem!_pos z.cells _ hlt]
                            exact (List.all_eq_true.1 hone) _ (by simp)
                          have hcl : cur.toList.length = cap * s := by simpa using q6
                          have hsum : k * s + n' * s = m * s := by rw [← Nat.add_mul, hk]
                          have hcs : m * s ≤ cap * s := Nat.mul_le_mul_right s q4
                          have hsplit : cur.toList = cur.toList.take (k * s) ++ (cur.toList.drop (k * s)).take (n' * s) ++ cur.toList.drop (k * s + n' * s) := by
                            have e2 : cur.toList.drop (k * s + n' * s) = (cur.toList.drop (k * s)).drop (n' * s) := by rw [List.drop_drop]
                            rw [e2, List.append_assoc, List.take_append_drop, List.take_append_drop]
                          have hblk : Blk w L.b (cur.toList.take (k * s) ++ (cur.toList.drop (k * s)).take (n' * s) ++ cur.toList.drop (k * s + n' * s)).toArray e := by rw [← hsplit]; unfold Blk; simpa using q3
                          have hA : (cur.toList.take (k * s)).length = k * s := by simp; omega
                          obtain ⟨g1, g2⟩ := blk_cells (Builtin.zeroCells z.cells n').toList _ _ _ w (by rw [hzl]; simp; omega) hblk
                          rw [hA] at g1 g2
                          have hst := run_storeCells_cells (P := P) L.b (k * s) (Builtin.zeroCells z.cells n').toList 0 w (fun j hj => by
                            have hlt : k * s + 0 + j < cur.size := by rw [hzl] at hj; omega
                            rw [cell_of_row w L.b _ cur e _ q3, Array.getElem?_eq_getElem hlt]; rfl) (fun j hj => by
                            have : Blk w L.b cur e := q3
                            exact this.frozen _) hzo
                          rw [Nat.add_zero] at hst
                          refine q_does (Q := wpK P Q K) (does_val (v := .tuple #[]) (w' := w.setCells L.b (k * s) (Builtin.zeroCells z.cells n').toList) hw ?_ (hg (Sy.put (A.entTurn hi rfl rfl hq g2 ?_) hd rfl)))
                          · obtain ⟨n1, rfl⟩ : ∃ n1, n' = n1 + 1 := ⟨n' - 1, by omega⟩
                            unfold execOp
                            simp only [resolve, invoke, builtin, Sem.run_bind, Sem.run_pure, Result.andThen_ok, List.map_toArray, List.map_cons, List.map_nil, ← hvx]
                            simp [Builtin.clear_, run_underlying f1', hzv, hst]
                          · refine ⟨r1, fun L' hL' => by cases hL'; exact hpre, _, flat_take r1 r3 k (by omega), ?_, .inr ⟨L.b, cap, _, ?_, Nat.zero_le _, g1, by omega, q5, ?_, ?_⟩⟩
                            · have := flat_len r1 r3; simp; omega
                            · simp [hpre, q10]
                            · simp [hzl]; omega
                            · rw [← q7, List.take_take, Nat.min_eq_left (by omega)]
                              simp only [List.toList_toArray]
                              rw [List.append_assoc, List.take_append_of_le_length (by simp; omega), List.take_take, Nat.min_self]
                    · cases h
                  · cases h
                · cases h
              · cases h
            · cases h
          · cases h
        · cases h
      · cases h
    · cases h
  · cases h
/-- is a slice nil? -/
def nilS (Y : Tb) (n : Nat) (ops : Array Oper) (T : List (Nat × SV)) (o : Oper) : Option (Nat × Nat) := match fitsD n o.dst with
  | true => match guardS ops T o.guard with
    | some .run => match o.op with
      | .binOp .eql t x y _ => match evS T x, evS T y, Y.get t with
        | some (.sl i m _), some (.sla none 0 0), some ti => match ti.elm with
          | some _ => some (i, m)
          | none => none
        | _, _, _ => none
      | _ => none
    | _ => none
  | false => none
theorem nil_do {i m : Nat} (hY : Y.ok P = true) (A : Sy n T H ks G0 w0 G a w) (h : nilS Y n ops T o = some (i, m)) : fitsD n o.dst = true ∧ ∃ p, G[i]? = some p ∧ ∀ K : Value → World → Prop, K (.bool p.isNone) w → Does P ops o a w K := by
  obtain ⟨d, op, ty, pos, af, gd⟩ := o
  unfold nilS at h
  split at h
  · next hd =>
    split at h
    · next hgd =>
      have hw := gd_run (gd := none) A hgd
      split at h
      · next t x y t2 hop =>
        simp only at hop
        subst hop
        split at h
        · next i' m' c' ti hx hy hti =>
          split at h
          · next el hel =>
            cases h
            obtain ⟨e, s, b⟩ := el
            have hvx := A.ev hx
            have hvy := A.ev hy
            unfold den at hvx
            split at hvx
            · next p hp =>
              simp only [den, Option.some.injEq] at hvx hvy
              refine ⟨hd, p, hp, fun K hK => d_bin (u := .slice (p.map fun L => ⟨L.b, L.pre.length, none⟩) m (c' + rm p)) (v := .slice none 0 0) hw hvx.symm hvy.symm ⟨by simp [eqGuard], ?_⟩ hK⟩
              obtain ⟨ie, z, f1', _⟩ := elem_facts (ti_elm (Tb.at hY hti) hel)
              rw [Go.Lib.run_eql_slice_nil w t e _ _ _ 0 0 f1']
              cases p <;> rfl
            · cases hvx
          · cases h
        · cases h
      · cases h
    · cases h
  · cases h
/-- one that is read: nil only if it is empty -/
theorem NILL {i m s m2 : Nat} {f : Nat → List SV} (hY : Y.ok P = true) (A : Sy n T H ks G0 w0 G a w) (h : nilS Y n ops T o = some (i, m)) (hi : lg H i = some (some (.lst s m2 f)))
    (h1 : m2 = 0 → ∀ {G a w}, Sy n (extS T o.dst .tt) H ks G0 w0 G a w → Goal P Q K (.ops ops rest) a w)
    (h2 : ∀ {G a w}, Sy n (extS T o.dst .ff) H ks G0 w0 G a w → Goal P Q K (.ops ops rest) a w) : Goal P Q K (.ops ops (o :: rest)) a w := by
  obtain ⟨hd, p, hp, hdo⟩ := nil_do hY A h
  rw [lg_is] at hi
  have hent := A.mem.ent i _ hi
  rw [hp] at hent
  simp only [Option.getD_some] at hent
  cases p with
  | none =>
    have : m2 = 0 := by
      rcases hent.2 with h | ⟨L, h, _⟩
      · exact h
      · cases h
    exact q_does (Q := wpK P Q K) (hdo _ (h1 this (Sy.put A hd rfl)))
  | some L => exact q_does (Q := wpK P Q K) (hdo _ (h2 (Sy.put A hd rfl)))
theorem NILR {i m e s m2 c : Nat} {f : Nat → List SV} (hY : Y.ok P = true) (A : Sy n T H ks G0 w0 G a w) (h : nilS Y n ops T o = some (i, m)) (hi : lg H i = some (some (.row e s m2 c f))) (h0 : 0 < m2)
    (h2 : ∀ {G a w}, Sy n (extS T o.dst .ff) H ks G0 w0 G a w → Goal P Q K (.ops ops rest) a w) : Goal P Q K (.ops ops (o :: rest)) a w := by
  obtain ⟨hd, p, hp, hdo⟩ := nil_do hY A h
  rw [lg_is] at hi
  obtain ⟨_, _, xs, _, _, r5⟩ := A.mem.ent i _ hi
  rw [hp] at r5
  simp only [Option.getD_some] at r5
  cases p with
  | none =>
    rcases r5 with ⟨_, r5⟩ | ⟨g, cap, cur, q1, _⟩
    · omega
    · cases q1
  | some L => exact q_does (Q := wpK P Q K) (hdo _ (h2 (Sy.put A hd rfl)))
/-- a body that comes to its end -/
theorem ENDN {fn : Func} {R : Ending → World → Prop} (h : bodyPost P fn R .ret a w) : bodyPost P fn R .normal a w := h
theorem JOIN1 {α : Type} {c : Code} (T' : α → List (Nat × SV)) (H' : α → Hp) (I : α → Prop) (A : Sy n T H ks G0 w0 G a w) (h : ∀ {G a w}, Sy n T H ks G0 w0 G a w → Goal P Q (.lp (fun a w => ∃ x G, I x ∧ Sy n (T' x) (H' x) ks G0 w0 G a w) :: K) (.code c) a w)
    (hk : ∀ x, I x → ∀ {G a w}, Sy n (T' x) (H' x) ks G0 w0 G a w → Goal P Q K .norm a w) : Goal P Q K (.code c) a w := JOIN T' H' I A h hk
theorem JOIN2 {α β : Type} {c : Code} (T' : α → β → List (Nat × SV)) (H' : α → β → Hp) (I : α → β → Prop) (A : Sy n T H ks G0 w0 G a w) (h : ∀ {G a w}, Sy n T H ks G0 w0 G a w → Goal P Q (.lp (fun a w => ∃ x y G, I x y ∧ Sy n (T' x y) (H' x y) ks G0 w0 G a w) :: K) (.code c) a w)
    (hk : ∀ x y, I x y → ∀ {G a w}, Sy n (T' x y) (H' x y) ks G0 w0 G a w → Goal P Q K .norm a w) : Goal P Q K (.code c) a w :=
  JOIN (fun z : α × β => T' z.1 z.2) (fun z => H' z.1 z.2) (fun z => I z.1 z.2) A (fun {G a w} A => lp_mono (fun a w ⟨x, y, G, h1, h2⟩ => ⟨(x, y), G, h1, h2⟩) (h A)) fun z hz {G a w} A => hk z.1 z.2 hz A
theorem JOIN3 {α β γ : Type} {c : Code} (T' : α → β → γ → List (Nat × SV)) (H' : α → β → γ → Hp) (I : α → β → γ → Prop) (A : Sy n T H ks G0 w0 G a w) (h : ∀ {G a w}, Sy n T H ks G0 w0 G a w → Goal P Q (.lp (fun a w => ∃ x y u G, I x y u ∧ Sy n (T' x y u) (H' x y u) ks G0 w0 G a w) :: K) (.code c) a w)
    (hk : ∀ x y u, I x y u → ∀ {G a w}, Sy n (T' x y u) (H' x y u) ks G0 w0 G a w → Goal P Q K .norm a w) : Goal P Q K (.code c) a w :=
  JOIN (fun z : α × β × γ => T' z.1 z.2.1 z.2.2) (fun z => H' z.1 z.2.1 z.2.2) (fun z => I z.1 z.2.1 z.2.2) A (fun {G a w} A => lp_mono (fun a w ⟨x, y, u, G, h1, h2⟩ => ⟨(x, y, u), G, h1, h2⟩) (h A)) fun z hz {G a w} A => hk z.1 z.2.1 z.2.2 hz A
end
end Go.Proofs.Ytiglneecmibgmaa
/- Contracts under what holds of memory all along (tables that were laid before, trees that are only read): it stands as long as only what was handed in, or is new, is turned. -/
namespace Go.Proofs.Ytiglneecmibgmaa
open Go.RowKit
set_option linter.unusedVariables false
set_option linter.unusedSimpArgs false
set_option linter.unusedSectionVars false

/-- what holds of blocks that are not among these -/
abbrev Amb := World → List Nat → Prop
/-- it goes on to hold -/
def Amb.OK (I : Amb) : Prop := ∀ w ks w' ks', I w ks → Mix ks w w' → (∀ b, ks'.contains b = true → ks.contains b = true ∨ w.heap.size ≤ b) → I w' ks'
/-- a function's contract, where that holds -/
def FnI (I : Amb) (P : Program) (f : Nat) (args : List SV) (H : Hp) (R : SV → Hp → Prop) : Prop :=
  Ent_ P f = some (false, false) ∧ ∀ G w vs, Mem H G w → I w (keys H G) → denL G args = some vs → Calls P f vs.toArray w (Post R H G w)
/-- a contract here and now -/
def FnAt (P : Program) (f : Nat) (args : List SV) (H' : Hp) (R : SV → Hp → Prop) (Gp : Gr) (w : World) (ks : List Nat) (w0 : World) : Prop :=
  Ent_ P f = some (false, false) ∧ ∀ vs, Mem H' Gp w → (∀ b, (keys H' Gp).contains b = true → ks.contains b = true ∨ w0.heap.size ≤ b) → denL Gp args = some vs → Calls P f vs.toArray w (Post R H' Gp w)
theorem Fn.toI {I : Amb} {P : Program} {f : Nat} {args : List SV} {H : Hp} {R : SV → Hp → Prop} (h : Fn P f args H R) : FnI I P f args H R := ⟨h.1, fun G w vs hM _ hv => h.2 G w vs hM hv⟩
theorem FnI.mono {I J : Amb} {P : Program} {f : Nat} {args : List SV} {H : Hp} {R : SV → Hp → Prop} (h : FnI I P f args H R) (hj : ∀ w ks, J w ks → I w ks) : FnI J P f args H R := ⟨h.1, fun G w vs hM hJ hv => h.2 G w vs hM (hj _ _ hJ) hv⟩
section
variable {P : Program} {X : Tx} {n : Nat} {ks : List Nat} {G0 : Gr} {w0 : World} {T : List (Nat × SV)} {H : Hp} {G : Gr} {a : Act} {w : World} {ops : Array Oper} {o : Oper} {rest : List Oper} {Q : Exit → Act → World → Prop} {K : List Fr} {I : Amb}
theorem FnI.at {f : Nat} {args : List SV} {H' : Hp} {R : SV → Hp → Prop} (h : FnI I P f args H' R) (hI : I.OK) (h0 : I w0 ks) (hm : Mix ks w0 w) {Gp : Gr} : FnAt P f args H' R Gp w ks w0 :=
  ⟨h.1, fun vs hM hown hv => h.2 Gp w vs hM (hI _ _ _ _ h0 hm hown) hv⟩
theorem call_doI {f : Nat} {args az : List SV} {H' l : Hp} {R R2 : SV → Hp → Prop} (m : List Nat) (A : Sy n T H ks G0 w0 G a w) (hf : FnAt P f args H' R (pickG m G) w ks w0) (h1 : callS n ops T o = some (f, az)) (h2 : renL m args = some az) (h3 : renH m H' = some l) (h4 : pickH H m = some l) (h5 : ndB m = true)
    (hk : ∀ x H2, R x H2 → ∃ y l2, renO (m ++ rngF H.length (H2.length - m.length)) x = some y ∧ renH (m ++ rngF H.length (H2.length - m.length)) H2 = some l2 ∧ R2 y (putAll H m l2)) : Does P ops o a w fun v w' => ∃ y H3 F, R2 y H3 ∧ den (G ++ F) y = some v ∧ Sy n T H3 ks G0 w0 (G ++ F) a w' := by
  obtain ⟨hent, hf⟩ := hf
  obtain ⟨hd, vs, hv, hdo⟩ := callS_do (P := P) (ops := ops) A h1 hent
  obtain ⟨p1, p2, p3⟩ := pickH_at h4
  obtain ⟨r1, r2⟩ := renH_at h3
  have hlen := A.mem.len
  have hm : ∀ j ∈ m, j < G.length := fun j hj => by rw [← hlen]; exact p2 j hj
  have hM := A.mem.sub h4 h3 h5
  have hv' : denL (pickG m G) args = some vs := by rw [denL_ren hm args h2]; exact hv
  have hml : H'.length = m.length := by rw [← r1, p1]
  have hpl : (pickG m G).length = m.length := by simp [pickG]
  -- blocks that are handed on
  have hkey : ∀ b, (keys H' (pickG m G)).contains b = true → ∃ i e L, i ∈ m ∧ H[i]? = some (some e) ∧ e.mut = true ∧ G[i]? = some (some L) ∧ L.b = b := by
    intro b hb
    obtain ⟨i, e, L, k1, km, k2, k3⟩ := mem_keys.1 hb
    obtain ⟨f, q1, q2⟩ := r2 i _ k1
    obtain ⟨f', rfl⟩ := renE_some q2
    have hi : i < m.length := by rw [← p1]; exact (List.getElem?_eq_some_iff.1 q1).1
    have hj : m[i]? = some m[i] := by simp [hi]
    rw [pickG_at hm hj] at k2
    rw [p3 i _ hj] at q1
    exact ⟨m[i], f', L, List.getElem_mem hi, q1, by rw [(renE_mut q2).1]; exact km, k2, k3⟩
  have hown : ∀ b, (keys H' (pickG m G)).contains b = true → ks.contains b = true ∨ w0.heap.size ≤ b := by
    intro b hb
    obtain ⟨i, e, L, _, k1, k2, k3, k4⟩ := hkey b hb
    subst k4
    exact A.own i e L k1 k2 k3
  refine hdo (hf vs hM hown hv') ?_
  rintro e w' ⟨x, H2, F, v, hR, hx, rfl, hM2, hmix, hll, hkept, hfr⟩
  refine ⟨v, rfl, ?_⟩
  obtain ⟨y, l2, e1, e2, e3⟩ := hk x H2 hR
  obtain ⟨s1, s2⟩ := renH_at e2
  have hH2 : H2.length = m.length + F.length := by have := hM2.len; simp [hpl] at this; exact this
  have hml2 : m.length ≤ l2.length := by rw [s1, hH2]; omega
  have hcnt : H2.length - m.length = F.length := by omega
  rw [hcnt] at e1 e2 s2
  have hrl : (rngF H.length F.length).length = F.length := rngF_len _ _
  have hpk : pickG (m ++ rngF H.length F.length) (G ++ F) = pickG m G ++ F := by
    have a1 : pickG m (G ++ F) = pickG m G := by
      unfold pickG
      refine List.map_congr_left fun j hj => ?_
      rw [List.getElem?_append_left (hm j hj)]
    have a2 : pickG (rngF H.length F.length) (G ++ F) = F := by
      apply List.ext_getElem?
      intro i
      by_cases hi : i < F.length
      · unfold pickG
        rw [List.getElem?_map, rngF_at _ _ _ hi]
        simp only [Option.map_some]
        rw [List.getElem?_append_right (by omega), show H.length + i - G.length = i by omega]
        simp [hi]
      · rw [List.getElem?_eq_none (by simp [pickG, hrl]; omega), List.getElem?_eq_none (by omega)]
    rw [show pickG (m ++ rngF H.length F.length) (G ++ F) = pickG m (G ++ F) ++ pickG (rngF H.length F.length) (G ++ F) by simp [pickG], a1, a2]
  have hm2 : ∀ j ∈ m ++ rngF H.length F.length, j < (G ++ F).length := by
    intro j hj
    rcases List.mem_append.1 hj with hj | hj
    · have := hm j hj; simp; omega
    · obtain ⟨k, hk⟩ := List.mem_iff_getElem?.1 hj
      have hk' : k < F.length := by have := (List.getElem?_eq_some_iff.1 hk).1; rwa [hrl] at this
      rw [rngF_at _ _ _ hk'] at hk
      cases hk
      simp; omega
  -- an entry of the new list: handed on, left, or new
  have cases3 : ∀ (i : Nat) (e : Ent), (putAll H m l2)[i]? = some (some e) →
      (∃ (k : Nat) (e' : Ent), (m ++ rngF H.length F.length)[k]? = some i ∧ H2[k]? = some (some e') ∧ renE (m ++ rngF H.length F.length) (some e') = some (some e)) ∨ (i ∉ m ∧ H[i]? = some (some e) ∧ i < H.length) := by
    intro i e he
    have back : ∀ k : Nat, l2[k]? = some (some e) → ∃ e', H2[k]? = some (some e') ∧ renE (m ++ rngF H.length F.length) (some e') = some (some e) := by
      intro k hk
      have hklt : k < H2.length := by rw [← s1]; exact (List.getElem?_eq_some_iff.1 hk).1
      obtain ⟨f, t1, t2⟩ := s2 k H2[k] (by simp [hklt])
      rw [hk] at t1
      cases t1
      cases hq : H2[k] with
      | none => rw [hq] at t2; cases t2
      | some e' => rw [hq] at t2; exact ⟨e', by simp [hklt, hq], t2⟩
    rcases putAll_at (H := H) (l := l2) hml2 h5 p2 i with ⟨k, q1, q2⟩ | ⟨q1, q2, q3⟩ | ⟨q1, q2⟩
    · rw [q2] at he
      obtain ⟨e', b1, b2⟩ := back k he
      exact .inl ⟨k, e', by rw [List.getElem?_append_left (List.getElem?_eq_some_iff.1 q1).1]; exact q1, b1, b2⟩
    · rw [q3] at he; exact .inr ⟨q1, he, q2⟩
    · rw [q2] at he
      obtain ⟨e', b1, b2⟩ := back _ he
      have hlt : i - H.length < F.length := by have := (List.getElem?_eq_some_iff.1 b1).1; omega
      refine .inl ⟨_, e', ?_, b1, b2⟩
      rw [List.getElem?_append_right (by omega), show m.length + (i - H.length) - m.length = i - H.length by omega, rngF_at _ _ _ hlt]
      congr 1; omega
  have hGi : ∀ (i k : Nat), (m ++ rngF H.length F.length)[k]? = some i → (pickG m G ++ F)[k]? = (G ++ F)[i]? := fun i k hk => by rw [← hpk, pickG_at hm2 hk]
  have hleft : ∀ i : Nat, i < H.length → (G ++ F)[i]? = G[i]? := fun i hi => List.getElem?_append_left (by omega)
  -- blocks of what is left are not handed on
  have hoff : ∀ (i : Nat) (e : Ent) (L : Loc), (i ∉ m ∨ e.mut = false) → H[i]? = some (some e) → G[i]? = some (some L) → ¬ e.empty → (keys H' (pickG m G)).contains L.b = false := by
    intro i e L hi he hL hne
    cases hc : (keys H' (pickG m G)).contains L.b with
    | false => rfl
    | true =>
      obtain ⟨j, e', L', k0, k1, k2, k3, k4⟩ := hkey _ hc
      refine absurd k4 (A.mem.sep j i e' e L' L (fun h => ?_) k1 he k2 k3 hL hne)
      subst h
      rcases hi with hi | hi
      · exact hi k0
      · rw [k1] at he; cases he; rw [k2] at hi; cases hi
  have hLlt : ∀ (i : Nat) (e : Ent) (L : Loc), H[i]? = some (some e) → G[i]? = some (some L) → ¬ e.empty → L.b < w.heap.size := by
    intro i e L he hL hne
    have := A.mem.ent i e he
    rw [hL] at this
    exact EntOK.lt this hne
  -- a list that is read, of what was handed on, is the caller's own
  have hread : ∀ (i k : Nat) (e e' : Ent), (m ++ rngF H.length F.length)[k]? = some i → H2[k]? = some (some e') → renE (m ++ rngF H.length F.length) (some e') = some (some e) → e.mut = false → H[i]? = some (some e) ∧ i < H.length := by
    intro i k e e' t1 t2 t3 t4
    have h6 : e'.mut = false := by rw [← (renE_mut t3).1]; exact t4
    have h7 := hkept k e' t2 h6
    obtain ⟨f, q1, q2⟩ := r2 k _ h7
    obtain ⟨f', rfl⟩ := renE_some q2
    have hk' : k < m.length := by rw [← p1]; exact (List.getElem?_eq_some_iff.1 q1).1
    rw [List.getElem?_append_left hk'] at t1
    rw [p3 k i t1] at q1
    have : e = f' := by
      cases e' with
      | lst s n g => cases q2; cases t3; rfl
      | fac b o => cases q2; cases t3; rfl
      | blk => cases h6
      | row => cases h6
    subst this
    exact ⟨q1, (List.getElem?_eq_some_iff.1 q1).1⟩
  refine ⟨y, _, F, e3, ?_, ⟨A.size, A.defers, fun t z hz => den_mono F z (A.get t z hz), ⟨?_, ?_, ?_⟩, ?_, ?_, ?_⟩⟩
  · rw [← den_ren hm2 x e1, hpk]; exact hx
  · rw [putAll_len hml2, s1, hH2]; simp; omega
  · intro i e he
    rcases cases3 i e he with ⟨k, e', t1, t2, t3⟩ | ⟨t1, t2, t3⟩
    · have := hM2.ent k e' t2
      rw [← hpk] at this
      exact (ent_ren hm2 t1 t3).1 this
    · rw [hleft i t3]
      refine ((A.mem.ent i e t2).mix hmix fun hne L hL => ?_).more F
      refine hoff i e L (.inl t1) t2 ?_ hne
      cases hq : G[i]? with
      | none => rw [hq] at hL; cases hL
      | some p => rw [hq] at hL; simp at hL; rw [hL]
  · intro i j e f L M hij he hf' hmut hL hM' hne
    -- one that is not turned: az it was in the caller's list
    have still : ∀ (i' : Nat) (e' : Ent), (putAll H m l2)[i']? = some (some e') → (∃ (k : Nat) (e'' : Ent), (m ++ rngF H.length F.length)[k]? = some i' ∧ H2[k]? = some (some e'') ∧ renE (m ++ rngF H.length F.length) (some e'') = some (some e') ∧ e'.mut = true) ∨ ((i' ∉ m ∨ e'.mut = false) ∧ H[i']? = some (some e') ∧ i' < H.length) := by
      intro i' e' he'
      rcases cases3 i' e' he' with ⟨k, e'', t1, t2, t3⟩ | ⟨t1, t2, t3⟩
      · cases hm' : e'.mut with
        | true => exact .inl ⟨k, e'', t1, t2, t3, rfl⟩
        | false => obtain ⟨g1, g2⟩ := hread i' k e' e'' t1 t2 t3 hm'; exact .inr ⟨.inr rfl, g1, g2⟩
      · exact .inr ⟨.inl t1, t2, t3⟩
    rcases still i e he with ⟨k, e', t1, t2, t3, t4⟩ | ⟨t1, t2, t3⟩
    · rcases still j f hf' with ⟨k', f', u1, u2, u3, u4⟩ | ⟨u1, u2, u3⟩
      · rw [← hGi i k t1] at hL
        rw [← hGi j k' u1] at hM'
        refine hM2.sep k k' e' f' L M (fun h => hij ?_) t2 u2 (by rw [← (renE_mut t3).1]; exact t4) hL hM' (fun h => hne ((renE_mut u3).2.2 h))
        subst h
        rw [t1] at u1
        exact Option.some.inj u1
      · rw [← hGi i k t1] at hL
        rw [hleft j u3] at hM'
        have h6 := hfr k e' t2 (by rw [← (renE_mut t3).1]; exact t4) L hL
        intro hLM
        rcases h6 with h6 | h6
        · rw [hLM, hoff j f M u1 u2 hM' hne] at h6; cases h6
        · have := hLlt j f M u2 hM' hne; omega
    · rcases still j f hf' with ⟨k', f', u1, u2, u3, u4⟩ | ⟨u1, u2, u3⟩
      · rw [← hGi j k' u1] at hM'
        rw [hleft i t3] at hL
        have h6 := hfr k' f' u2 (by rw [← (renE_mut u3).1]; exact u4) M hM'
        intro hLM
        rcases h6 with h6 | h6
        · rw [← hLM, hoff i e L t1 t2 hL (mut_full hmut)] at h6; cases h6
        · have := hLlt i e L t2 hL (mut_full hmut); omega
      · rw [hleft i t3] at hL
        rw [hleft j u3] at hM'
        exact A.mem.sep i j e f L M hij t2 u2 hmut hL hM' hne
  · obtain ⟨F0, hF0⟩ := A.pre
    exact ⟨F0 ++ F, by rw [hF0, List.append_assoc]⟩
  · intro i e L he hmut hL
    rcases cases3 i e he with ⟨k, e', t1, t2, t3⟩ | ⟨t1, t2, t3⟩
    · rw [← hGi i k t1] at hL
      rcases hfr k e' t2 (by rw [← (renE_mut t3).1]; exact hmut) L hL with h6 | h6
      · exact hown _ h6
      · right; exact Nat.le_trans A.mix.size h6
    · rw [hleft i t3] at hL; exact A.own i e L t2 hmut hL
  · refine A.mix.mix hmix fun k hkl hkc => ?_
    cases hc : (keys H' (pickG m G)).contains k with
    | false => rfl
    | true =>
      rcases hown k hc with h6 | h6
      · rw [h6] at hkc; cases hkc
      · omega

theorem CALLI {f : Nat} {args az : List SV} {H' H2 l l2 : Hp} {x y : SV} (m : List Nat) (hI : I.OK) (h0 : I w0 ks) (hf : FnI I P f args H' (Rt x H2)) (A : Sy n T H ks G0 w0 G a w) (h1 : callS n ops T o = some (f, az)) (h2 : renL m args = some az) (h3 : renH m H' = some l) (h4 : pickH H m = some l) (h5 : ndB m = true)
    (h6 : renO (m ++ rngF H.length (H2.length - m.length)) x = some y) (h7 : renH (m ++ rngF H.length (H2.length - m.length)) H2 = some l2) (hk : ∀ {G a w}, Sy n (extS T o.dst y) (putAll H m l2) ks G0 w0 G a w → Goal P Q K (.ops ops rest) a w) : Goal P Q K (.ops ops (o :: rest)) a w := by
  have hd := (callS_do (P := P) (ops := ops) A h1 hf.1).1
  refine q_does (Q := wpK P Q K) ?_
  rcases call_doI (R2 := fun y H3 => ∀ {G a w}, Sy n (extS T o.dst y) H3 ks G0 w0 G a w → Goal P Q K (.ops ops rest) a w) m A (hf.at hI h0 A.mix) h1 h2 h3 h4 h5 (fun x' H' ⟨e1, e2⟩ => by subst e1; subst e2; exact ⟨y, l2, h6, h7, hk⟩) with ⟨hw, h⟩ | ⟨hw, y, H3, F, g1, g2, g3⟩
  · refine .inl ⟨hw, fun Q' => ?_⟩
    refine Oper.wp_mono (fun a' w' hh => ?_) (h Q')
    obtain ⟨v, rfl, y, H3, F, g1, g2, g3⟩ := hh
    exact ⟨v, rfl, g1 (Sy.put g3 hd g2)⟩
  · exact .inr ⟨hw, g1 (Sy.put g3 hd g2)⟩
theorem callIE {f : Nat} {args az : List SV} {H' H2 l l2 : Hp} {x y : SV} (m : List Nat) (hI : I.OK) (h0 : I w0 ks) (hf : FnI I P f args H' (Rt x H2)) (h1 : callS n ops T o = some (f, az)) (h2 : renL m args = some az) (h3 : renH m H' = some l) (h4 : pickH H m = some l) (h5 : ndB m = true)
    (h6 : renO (m ++ rngF H.length (H2.length - m.length)) x = some y) (h7 : renH (m ++ rngF H.length (H2.length - m.length)) H2 = some l2) : EffOK P n ops ks G0 w0 T H o y (putAll H m l2) := by
  intro G a w A
  rcases call_doI (R2 := fun z H3 => z = y ∧ H3 = putAll H m l2) m A (hf.at hI h0 A.mix) h1 h2 h3 h4 h5 (fun x' H' ⟨e1, e2⟩ => by subst e1; subst e2; exact ⟨y, l2, h6, h7, rfl, rfl⟩) with ⟨hw, h⟩ | ⟨hw, z, H3, F, ⟨rfl, rfl⟩, g2, g3⟩
  · refine .inl ⟨hw, fun Q' => ?_⟩
    refine Oper.wp_mono (fun a' w' hh => ?_) (h Q')
    obtain ⟨v, rfl, z, H3, F, ⟨rfl, rfl⟩, g2, g3⟩ := hh
    exact ⟨v, rfl, F, g2, g3.ms⟩
  · exact .inr ⟨hw, F, g2, g3.ms⟩
theorem enterI {f : Nat} {fn : Func} {c : Code} {args : List SV} {R : SV → Hp → Prop} (hent : Ent_ P f = some (false, false)) (hf : P.funcs[f]? = some fn) (hb : fn.body = some c) (hn : fn.ntmps = n) (hl : Nat.ble args.length n = true)
    (h : ∀ G w a, H.length = G.length → I w (keys H G) → Sy n (argS args 0) H (keys H G) G w G a w → Goal P (bodyPost P fn (Post R H G w)) [] (.code c) a w) : FnI I P f args H R := by
  refine ⟨hent, fun G w vs hM hI hv => ?_⟩
  refine calls_of_wp hf hb (h G w _ hM.len hI ⟨?_, rfl, fun t x hx => ?_, hM, ⟨[], by simp⟩, fun i e L h1 h2 h3 => .inl (mem_keys.2 ⟨i, e, L, h1, h2, h3, rfl⟩), Mix.refl _ _⟩)
  · have := denL_len hv
    have := Nat.le_of_ble_eq_true hl
    simp [hn]; omega
  · obtain ⟨_, h2⟩ := argS_look hx
    simp only [Nat.sub_zero] at h2
    obtain ⟨v, h3, h4⟩ := denL_get hv h2
    have hlt : t < vs.length := (List.getElem?_eq_some_iff.1 h3).1
    rw [h4]
    simp [Array.getD_eq_getD_getElem?, Array.getElem?_append, hlt] at h3 ⊢
    exact h3.symm
end
end Go.Proofs.Ytiglneecmibgmaa
/- Rows of a table whose cells hold slices of their own: the slices by their addresses; where one is wanted, its block gets a place. -/
namespace Go.Proofs.Ytiglneecmibgmaa
open Go.RowKit
set_option linter.unusedVariables false
set_option linter.unusedSimpArgs false
set_option linter.unusedSectionVars false

mutual
/-- slices by their addresses, in the order in which they stand -/
def slaS : SV → List (Option Addr)
  | .sla ao _ _ => [ao]
  | .agg l => slaL l
  | _ => []
def slaL : List SV → List (Option Addr)
  | [] => []
  | x :: l => slaS x ++ slaL l
end
mutual
/-- all these slices are the block's at this place -/
def adS (i : Nat) : SV → SV
  | .sla _ m c => .sl i m c
  | .agg l => .agg (adL i l)
  | x => x
def adL (i : Nat) : List SV → List SV
  | [] => []
  | x :: l => adS i x :: adL i l
end
def locA : Option Addr → Option Loc
  | some a => some ⟨a.block, [], [], 0⟩
  | none => none
mutual
theorem ad_den {G : Gr} {i : Nat} {ao : Option Addr} (ha : ∀ a, ao = some a → a = ⟨a.block, 0, none⟩) (hG : G[i]? = some (locA ao)) : ∀ (x : SV), (∀ z ∈ slaS x, z = ao) → den G (adS i x) = den G x
  | .sla a m c, h => by
    have h1 : a = ao := h a (by unfold slaS; exact List.mem_singleton.2 rfl)
    subst h1
    unfold adS den
    rw [hG]
    cases a with
    | none => rfl
    | some a => have := ha a rfl; simp only [locA, Option.map_some, rm, List.length_nil, Nat.add_zero]; rw [this]
  | .agg l, h => by unfold adS den; rw [adL_den ha hG l (by unfold slaS at h; exact h)]
  | .int _ _, _ => rfl
  | .bool _, _ => rfl
  | .tt, _ => rfl
  | .ff, _ => rfl
  | .str _, _ => rfl
  | .ptr _ _, _ => rfl
  | .el _ _ _ _, _ => rfl
  | .ix _ _ _ _ _, _ => rfl
  | .sl _ _ _, _ => rfl
  | .sp _ _ _, _ => rfl
  | .st _ _ _ _ _, _ => rfl
  | .tup _, _ => rfl
  | .fn _ _, _ => rfl
  | .opt _ _, _ => rfl
  | .v _, _ => rfl
theorem adL_den {G : Gr} {i : Nat} {ao : Option Addr} (ha : ∀ a, ao = some a → a = ⟨a.block, 0, none⟩) (hG : G[i]? = some (locA ao)) : ∀ (l : List SV), (∀ z ∈ slaL l, z = ao) → denL G (adL i l) = denL G l
  | [], _ => rfl
  | x :: l, h => by
    unfold slaL at h
    unfold adL denL
    rw [ad_den ha hG x (fun z hz => h z (List.mem_append_left _ hz)), adL_den ha hG l (fun z hz => h z (List.mem_append_right _ hz))]
end
/-- numbers that lie at an address, outside of what may be turned -/
def LiesAt (ao : Option Addr) (ps : List Int) (w : World) (ks : List Nat) : Prop :=
  (ao = none ∧ ps = []) ∨ ∃ b, ao = some ⟨b, 0, none⟩ ∧ b < w.heap.size ∧ ks.contains b = false ∧ w.rangeAt b 0 (ps.map (Value.int .i64))
theorem LiesAt.go {ao : Option Addr} {ps : List Int} {w w' : World} {ks ks' : List Nat} (h : LiesAt ao ps w ks) (m : Mix ks w w') (hk : ∀ b, ks'.contains b = true → ks.contains b = true ∨ w.heap.size ≤ b) : LiesAt ao ps w' ks' := by
  rcases h with h | ⟨b, h1, h2, h3, h4⟩
  · exact .inl h
  · refine .inr ⟨b, h1, Nat.lt_of_lt_of_le h2 m.size, ?_, range_mix h4 m h2 h3⟩
    cases hc : ks'.contains b with
    | false => rfl
    | true =>
      rcases hk b hc with h5 | h5
      · rw [h5] at h3; cases h3
      · omega
abbrev lsI (ps : List Int) : Ent := .lst 1 ps.length fun j => [.int .i64 (ps.getD j 0)]
section
variable {P : Program} {n : Nat} {ks : List Nat} {G0 : Gr} {w0 : World} {T : List (Nat × SV)} {H : Hp} {G : Gr} {a : Act} {w : World} {Q : Exit → Act → World → Prop} {K : List Fr} {pos : Pos}
theorem Sy.adopt (A : Sy n T H ks G0 w0 G a w) {ao : Option Addr} {ps : List Int} (h0 : LiesAt ao ps w0 ks) (t : Nat) {x : SV} (hx : look T t = some x) (hs : ∀ z ∈ slaS x, z = ao) : Sy n ((t, adS H.length x) :: T) (H ++ [some (lsI ps)]) ks G0 w0 (G ++ [locA ao]) a w := by
  have hl := h0.go A.mix (ks' := ks) fun b hb => .inl hb
  have hlen := A.mem.len
  have ha : ∀ q, ao = some q → q = ⟨q.block, 0, none⟩ := by
    intro q hq
    rcases h0 with ⟨h1, _⟩ | ⟨b, h1, _⟩
    · rw [h1] at hq; cases hq
    · rw [h1] at hq; cases hq; rfl
  have hG : (G ++ [locA ao])[H.length]? = some (locA ao) := by rw [List.getElem?_append_right (by omega), hlen]; simp
  have hold : ∀ (i : Nat) (e : Ent), (H ++ [some (lsI ps)])[i]? = some (some e) → (H[i]? = some (some e) ∧ i < H.length) ∨ (i = H.length ∧ e = lsI ps) := by
    intro i e h
    by_cases hi : i < H.length
    · rw [List.getElem?_append_left hi] at h; exact .inl ⟨h, hi⟩
    · rw [List.getElem?_append_right (by omega)] at h
      have : i - H.length = 0 := by
        cases hq : i - H.length with
        | zero => rfl
        | succ k => rw [hq] at h; simp at h
      rw [this] at h
      simp at h
      exact .inr ⟨by omega, h.symm⟩
  have hGl : ∀ i, i < H.length → (G ++ [locA ao])[i]? = G[i]? := fun i hi => List.getElem?_append_left (by omega)
  refine ⟨A.size, A.defers, fun s z hz => ?_, ⟨by simp [hlen], ?_, ?_⟩, ?_, ?_, A.mix⟩
  · unfold look at hz
    cases hc : Nat.beq t s with
    | true =>
      rw [hc] at hz; cases hz
      have := Nat.eq_of_beq_eq_true hc
      subst this
      rw [ad_den ha hG x hs]
      exact den_mono _ x (A.get t x hx)
    | false => rw [hc] at hz; exact den_mono _ z (A.get s z hz)
  · intro i e h
    rcases hold i e h with ⟨h1, h2⟩ | ⟨rfl, rfl⟩
    · rw [hGl i h2]; exact (A.mem.ent i e h1).more _
    · rw [hG]
      refine ⟨fun k => ⟨_, rfl⟩, ?_⟩
      rcases hl with ⟨_, h2⟩ | ⟨b, h1, h2, _, h4⟩
      · left; rw [h2]; rfl
      · right
        subst h1
        refine ⟨_, rfl, h2, fun k hk => ⟨_, rfl, fun j y hy => ?_⟩⟩
        have hj : j = 0 := by
          cases j with
          | zero => rfl
          | succ j => simp at hy
        subst hj
        simp at hy
        subst hy
        have := h4 k (.int .i64 (ps.getD k 0)) (by simp [List.getD, hk])
        simpa using this
  · intro i j e f L M hij h1 h2 h3 h4 h5 h6
    rcases hold i e h1 with ⟨k1, k2⟩ | ⟨rfl, rfl⟩
    · rw [hGl i k2] at h4
      rcases hold j f h2 with ⟨k3, k4⟩ | ⟨rfl, rfl⟩
      · rw [hGl j k4] at h5; exact A.mem.sep i j e f L M hij k1 k3 h3 h4 h5 h6
      · rw [hG] at h5
        rcases hl with ⟨q1, _⟩ | ⟨b, q1, q2, q3, _⟩
        · subst q1; cases h5
        · subst q1
          cases h5
          intro hLM
          rcases h0 with ⟨q, _⟩ | ⟨b', q, q4, q5, _⟩
          · cases q
          · cases q
            rcases A.own i e L k1 h3 h4 with h7 | h7
            · rw [hLM] at h7; simp only at h7; rw [q3] at h7; cases h7
            · rw [hLM] at h7; simp only at h7; omega
    · cases h3
  · obtain ⟨F, hF⟩ := A.pre; exact ⟨F ++ [locA ao], by rw [hF, List.append_assoc]⟩
  · intro i e L h1 h2 h3
    rcases hold i e h1 with ⟨k1, k2⟩ | ⟨rfl, rfl⟩
    · rw [hGl i k2] at h3; exact A.own i e L k1 h2 h3
    · cases h2
theorem ADOPT {ao : Option Addr} {ps : List Int} (t : Nat) (h0 : LiesAt ao ps w0 ks) (A : Sy n T H ks G0 w0 G a w) {x y : SV} {H' : Hp} (hx : look T t = some x) (hs : slaS x = [ao]) (hy : adS H.length x = y) (hH : H ++ [some (lsI ps)] = H') (hk : ∀ {G}, Sy n ((t, y) :: T) H' ks G0 w0 G a w → Goal P Q K pos a w) : Goal P Q K pos a w := by
  subst hy; subst hH
  exact hk (A.adopt h0 t hx fun z hz => by rw [hs] at hz; exact List.mem_singleton.1 hz)
end
end Go.Proofs.Ytiglneecmibgmaa
/- A walk begun anew where it stands; blocks that are done with, known by their addresses; loops that carry what holds of such blocks. -/
namespace Go.Proofs.Ytiglneecmibgmaa
open Go.RowKit
set_option linter.unusedVariables false
set_option linter.unusedSimpArgs false
set_option linter.unusedSectionVars false

/-- cells that lie at an address, outside of what may be turned -/
def Lies (b o : Nat) (vs : List Value) (w : World) (ks : List Nat) : Prop := b < w.heap.size ∧ ks.contains b = false ∧ w.rangeAt b o vs
theorem Lies.go {b o : Nat} {vs : List Value} {w w' : World} {ks ks' : List Nat} (h : Lies b o vs w ks) (m : Mix ks w w') (hk : ∀ b, ks'.contains b = true → ks.contains b = true ∨ w.heap.size ≤ b) : Lies b o vs w' ks' := by
  obtain ⟨h1, h2, h3⟩ := h
  refine ⟨Nat.lt_of_lt_of_le h1 m.size, ?_, range_mix h3 m h1 h2⟩
  cases hc : ks'.contains b with
  | false => rfl
  | true =>
    rcases hk b hc with h5 | h5
    · rw [h5] at h2; cases h2
    · omega
abbrev adr (b o : Nat) : SV := .v (.pointer (some ⟨b, o, none⟩))
section
variable {P : Program} {n : Nat} {ks : List Nat} {G0 : Gr} {w0 : World} {T : List (Nat × SV)} {H : Hp} {G : Gr} {a : Act} {w : World} {Q : Exit → Act → World → Prop} {K : List Fr} {pos : Pos} {ops : Array Oper} {o : Oper} {rest : List Oper}
/-- begun anew -/
theorem Sy.base (A : Sy n T H ks G0 w0 G a w) : Sy n T H (keys H G) G w G a w :=
  ⟨A.size, A.defers, A.get, A.mem, ⟨[], by simp⟩, fun i e L h1 h2 h3 => .inl (mem_keys.2 ⟨i, e, L, h1, h2, h3, rfl⟩), Mix.refl _ _⟩
/-- what was handed in, or is new: so is what was turned since -/
theorem Sy.keys_own (A : Sy n T H ks G0 w0 G a w) : ∀ b, (keys H G).contains b = true → ks.contains b = true ∨ w0.heap.size ≤ b := fun b hb => by
  obtain ⟨i, e, L, h1, h2, h3, h4⟩ := mem_keys.1 hb
  rw [← h4]; exact A.own i e L h1 h2 h3
theorem Sy.trans {n' : Nat} {T1 : List (Nat × SV)} {H1 : Hp} {G1 : Gr} {a1 : Act} {w1 : World} (B : Sy n' T1 H1 ks G0 w0 G1 a1 w1) (A : Sy n T H (keys H1 G1) G1 w1 G a w) : Sy n T H ks G0 w0 G a w := by
  obtain ⟨F1, h1⟩ := B.pre
  obtain ⟨F2, h2⟩ := A.pre
  refine ⟨A.size, A.defers, A.get, A.mem, ⟨F1 ++ F2, by rw [h2, h1, List.append_assoc]⟩, fun i e L k1 k2 k3 => ?_, B.mix.mix A.mix fun k hk hc => ?_⟩
  · rcases A.own i e L k1 k2 k3 with h | h
    · exact B.keys_own _ h
    · exact .inr (Nat.le_trans B.mix.size h)
  · cases hq : (keys H1 G1).contains k with
    | false => rfl
    | true =>
      rcases B.keys_own k hq with h | h
      · rw [h] at hc; cases hc
      · omega
/-- what holds where a walk is begun anew holds where it stands -/
theorem Amb.OK.now {I : Amb} (hI : I.OK) (A : Sy n T H ks G0 w0 G a w) (h0 : I w0 ks) : I w (keys H G) := hI _ _ _ _ h0 A.mix A.keys_own
theorem Lies.now {b o : Nat} {vs : List Value} (h : Lies b o vs w0 ks) (A : Sy n T H ks G0 w0 G a w) : Lies b o vs w (keys H G) := h.go A.mix A.keys_own
/-- a block that is done with: by its address -/
theorem Sy.close (A : Sy n T H ks G0 w0 G a w) (i t : Nat) {cs : List SV} {vs : List Value} {H' : Hp} (hi : lg H i = some (some (.blk cs))) (ht : look T t = some (.ptr i 0)) (hc : denL [] cs = some vs) (hH : stH H i none = H') :
    ∃ b o, Sy n ((t, adr b o) :: T) H' ks G0 w0 G a w ∧ Lies b o vs w (keys H' G) := by
  subst hH
  rw [lg_is] at hi
  obtain ⟨L, us, h1, h2, h3⟩ := A.mem.ent i _ hi
  have h4 : denL G cs = some vs := by simpa using denL_mono G cs hc
  rw [h4] at h2
  cases h2
  have hGi : G[i]? = some (some L) := by
    cases hq : G[i]? with
    | none => rw [hq] at h1; cases h1
    | some p => rw [hq] at h1; simp at h1; rw [h1]
  have hold : ∀ (j : Nat) (e : Ent), (stH H i none)[j]? = some (some e) → j ≠ i ∧ H[j]? = some (some e) := by
    intro j e h
    rw [stH_is] at h
    by_cases hj : j = i
    · subst hj; rw [List.getElem?_set_self (List.getElem?_eq_some_iff.1 hi).1] at h; cases h
    · rw [List.getElem?_set_ne (Ne.symm hj)] at h; exact ⟨hj, h⟩
  refine ⟨L.b, L.pre.length, ⟨A.size, A.defers, fun s x hx => ?_, ⟨by rw [stH_is]; simpa using A.mem.len, fun j e he => A.mem.ent j e (hold j e he).2, fun j k e f L' M hjk g1 g2 g3 g4 g5 g6 => A.mem.sep j k e f L' M hjk (hold j e g1).2 (hold k f g2).2 g3 g4 g5 g6⟩, A.pre, fun j e L' g1 g2 g3 => A.own j e L' (hold j e g1).2 g2 g3, A.mix⟩, ?_, ?_, ?_⟩
  · unfold look at hx
    cases hb : Nat.beq t s with
    | true =>
      rw [hb] at hx; cases hx
      have := Nat.eq_of_beq_eq_true hb
      subst this
      have := A.get t _ ht
      unfold den at this
      rw [hGi] at this
      exact this
    | false => rw [hb] at hx; exact A.get s x hx
  · exact h3.lt
  · cases hq : (keys (stH H i none) G).contains L.b with
    | false => rfl
    | true =>
      obtain ⟨j, e, L', g1, g2, g3, g4⟩ := mem_keys.1 hq
      obtain ⟨k1, k2⟩ := hold j e g1
      exact absurd g4 (A.mem.sep j i e _ L' L k1 k2 hi g2 g3 hGi (fun h => h))
  · intro j x hx
    refine h3.cell ?_
    rw [List.getElem?_toArray, List.append_assoc, List.getElem?_append_right (by omega), show L.pre.length + j - L.pre.length = j by omega, List.getElem?_append_left (List.getElem?_eq_some_iff.1 hx).1]
    exact hx
/-- a block that is only read gets a place -/
theorem Sy.adoptP (A : Sy n T H ks G0 w0 G a w) {b o : Nat} {vs : List Value} (h0 : Lies b o vs w0 ks) (t s : Nat) {cs : List SV} (hx : look T t = some (adr b o)) (hc : denL [] cs = some vs) : Sy n ((t, .el H.length s 0 0) :: T) (H ++ [some (.lst s 1 fun _ => cs)]) ks G0 w0 (G ++ [some ⟨b, List.replicate o undef, [], 0⟩]) a w := by
  have hl := h0.go A.mix (ks' := ks) fun b hb => .inl hb
  have hlen := A.mem.len
  have hG : (G ++ [some (⟨b, List.replicate o undef, [], 0⟩ : Loc)])[H.length]? = some (some ⟨b, List.replicate o undef, [], 0⟩) := by rw [List.getElem?_append_right (by omega), hlen]; simp
  have hold : ∀ (i : Nat) (e : Ent), (H ++ [some (.lst s 1 fun _ => cs)])[i]? = some (some e) → (H[i]? = some (some e) ∧ i < H.length) ∨ (i = H.length ∧ e = .lst s 1 fun _ => cs) := by
    intro i e h
    by_cases hi : i < H.length
    · rw [List.getElem?_append_left hi] at h; exact .inl ⟨h, hi⟩
    · rw [List.getElem?_append_right (by omega)] at h
      have : i - H.length = 0 := by
        cases hq : i - H.length with
        | zero => rfl
        | succ k => rw [hq] at h; simp at h
      rw [this] at h
      simp at h
      exact .inr ⟨by omega, h.symm⟩
  have hGl : ∀ i, i < H.length → (G ++ [some (⟨b, List.replicate o undef, [], 0⟩ : Loc)])[i]? = G[i]? := fun i hi => List.getElem?_append_left (by omega)
  refine ⟨A.size, A.defers, fun q z hz => ?_, ⟨by simp [hlen], ?_, ?_⟩, ?_, ?_, A.mix⟩
  · unfold look at hz
    cases hb : Nat.beq t q with
    | true =>
      rw [hb] at hz; cases hz
      have := Nat.eq_of_beq_eq_true hb
      subst this
      have h1 := A.get t _ hx
      unfold den at h1 ⊢
      rw [hG, ← h1]
      simp
    | false => rw [hb] at hz; exact den_mono _ z (A.get q z hz)
  · intro i e h
    rcases hold i e h with ⟨h1, h2⟩ | ⟨rfl, rfl⟩
    · rw [hGl i h2]; exact (A.mem.ent i e h1).more _
    · rw [hG]
      refine ⟨fun k => ⟨_, hc⟩, .inr ⟨_, rfl, hl.1, fun k hk => ⟨_, hc, ?_⟩⟩⟩
      have : k = 0 := by omega
      subst this
      simpa using hl.2.2
  · intro i j e f L M hij h1 h2 h3 h4 h5 h6
    rcases hold i e h1 with ⟨k1, k2⟩ | ⟨rfl, rfl⟩
    · rw [hGl i k2] at h4
      rcases hold j f h2 with ⟨k3, k4⟩ | ⟨rfl, rfl⟩
      · rw [hGl j k4] at h5; exact A.mem.sep i j e f L M hij k1 k3 h3 h4 h5 h6
      · rw [hG] at h5
        cases h5
        intro hLM
        rcases A.own i e L k1 h3 h4 with h7 | h7
        · rw [hLM] at h7; simp only at h7; rw [h0.2.1] at h7; cases h7
        · rw [hLM] at h7; simp only at h7; have := h0.1; omega
    · cases h3
  · obtain ⟨F, hF⟩ := A.pre; exact ⟨F ++ [some ⟨b, List.replicate o undef, [], 0⟩], by rw [hF, List.append_assoc]⟩
  · intro i e L h1 h2 h3
    rcases hold i e h1 with ⟨k1, k2⟩ | ⟨rfl, rfl⟩
    · rw [hGl i k2] at h3; exact A.own i e L k1 h2 h3
    · cases h2
theorem ADOPTP {b q : Nat} {vs : List Value} (t s : Nat) {cs : List SV} (h0 : Lies b q vs w0 ks) (hc : denL [] cs = some vs) (A : Sy n T H ks G0 w0 G a w) {H' : Hp} {i : Nat} (hx : look T t = some (adr b q)) (hi : H.length = i) (hH : H ++ [some (.lst s 1 fun _ => cs)] = H') (hk : ∀ {G}, Sy n ((t, .el i s 0 0) :: T) H' ks G0 w0 G a w → Goal P Q K pos a w) : Goal P Q K pos a w := by
  subst hi; subst hH
  exact hk (A.adoptP h0 t s hx hc)
/-- it is asked whether such a pointer is nil -/
theorem nilE {x : Operand} {i s q m : Nat} {j : Int} {f : Nat → List SV} (hg : guardS ops T o.guard = some .run) (hop : o.op = .nilCheck x) (hx : evS T x = some (.el i s j q)) (hH : lg H i = some (some (.lst s (m + 1) f))) : EffOK P n ops ks G0 w0 T H o (.el i s j q) H := fun G a w A => by
  have hw := gd_run (gd := none) A hg
  obtain ⟨d, op, ty, ps, af, gd⟩ := o
  simp only at hop
  subst hop
  have h1 := A.ev hx
  rw [lg_is] at hH
  obtain ⟨_, h2⟩ := A.mem.ent i _ hH
  rcases h2 with h2 | ⟨L, h2, _⟩
  · cases h2
  · have hGi : G[i]? = some (some L) := by
      cases hq : G[i]? with
      | none => rw [hq] at h2; cases h2
      | some p => rw [hq] at h2; simp at h2; rw [h2]
    unfold den at h1
    rw [hGi] at h1
    have h1 := Option.some.inj h1
    refine d_nilCheck hw h1.symm ⟨[], ?_, ?_⟩
    · rw [List.append_nil]; unfold den; rw [hGi]; rfl
    · rw [List.append_nil]; exact A.ms
/-- a loop that carries what holds of memory -/
theorem LOOPJ {β : Type} {c : Code} (T' : β → List (Nat × SV)) (H' : β → Hp) (J : β → World → List Nat → Prop) (μ : β → Nat) (z : β) (A : Sy n (T' z) (H' z) ks G0 w0 G a w) (hJ : J z w (keys (H' z) G))
    (round : ∀ z G a w, J z w (keys (H' z) G) → G0.length ≤ G.length → Sy n (T' z) (H' z) (keys (H' z) G) G w G a w → Sy n (T' z) (H' z) ks G0 w0 G a w → Goal P Q (.lp (fun a' w' => ∃ z' G', μ z' < μ z ∧ J z' w' (keys (H' z') G') ∧ Sy n (T' z') (H' z') ks G0 w0 G' a' w') :: K) (.code c) a w) : Goal P Q K (.code (.loop c)) a w := by
  refine loop_by (fun m a w => ∃ z G, μ z = m ∧ J z w (keys (H' z) G) ∧ Sy n (T' z) (H' z) ks G0 w0 G a w) (μ z) ⟨z, G, rfl, hJ, A⟩ ?_
  rintro m a w ⟨z, G, rfl, hz, A⟩
  obtain ⟨F, hF⟩ := A.pre
  refine Code.wp_mono (fun e a' w' h => ?_) (round z G a w hz (by rw [hF]; simp) A.base A)
  cases e with
  | normal => obtain ⟨z', G', h1, h2, h3⟩ := h; exact ⟨μ z', h1, z', G', rfl, h2, h3⟩
  | _ => exact h
end
end Go.Proofs.Ytiglneecmibgmaa
/- Functions that read what they are handed, and yield what lies in new memory, by its address. -/
namespace Go.Proofs.Ytiglneecmibgmaa
open Go.RowKit
set_option linter.unusedVariables false
set_option linter.unusedSimpArgs false
set_option linter.unusedSectionVars false

/-- of memory some blocks are kept: no others may be turned -/
theorem keys_pick {H H' l : Hp} {G : Gr} {m : List Nat} (hlen : H.length = G.length) (h1 : pickH H m = some l) (h2 : renH m H' = some l) : ∀ b, (keys H' (pickG m G)).contains b = true → (keys H G).contains b = true := fun b hb => by
  obtain ⟨p1, p2, p3⟩ := pickH_at h1
  obtain ⟨r1, r2⟩ := renH_at h2
  have hm : ∀ j ∈ m, j < G.length := fun j hj => by rw [← hlen]; exact p2 j hj
  obtain ⟨i, e, L, k1, km, k2, k3⟩ := mem_keys.1 hb
  obtain ⟨f, q1, q2⟩ := r2 i _ k1
  obtain ⟨f', rfl⟩ := renE_some q2
  have hi : i < m.length := by rw [← p1]; exact (List.getElem?_eq_some_iff.1 q1).1
  have hj : m[i]? = some m[i] := by simp [hi]
  rw [pickG_at hm hj] at k2
  rw [p3 i _ hj] at q1
  exact mem_keys.2 ⟨m[i], f', L, q1, by rw [(renE_mut q2).1]; exact km, k2, k3⟩
/-- what a function yields lies in new memory -/
def FnR (P : Program) (f : Nat) (args : List SV) (H : Hp) (J : SV → World → World → Prop) : Prop :=
  Ent_ P f = some (false, false) ∧ ∀ G w vs, Mem H G w → denL G args = some vs → Calls P f vs.toArray w fun e w' => ∃ x v, den [] x = some v ∧ e = .returned v ∧ Grow w w' ∧ J x w w'
section
variable {P : Program} {n : Nat} {ks : List Nat} {G0 : Gr} {w0 : World} {T : List (Nat × SV)} {H : Hp} {G : Gr} {a : Act} {w : World} {Q : Exit → Act → World → Prop} {K : List Fr} {pos : Pos} {ops : Array Oper} {o : Oper} {rest : List Oper}
/-- a block that is done with, named by a slot of another block: by its address -/
theorem Sy.close2 (A : Sy n T H ks G0 w0 G a w) (i q : Nat) {cs : List SV} {vs : List Value} {H' : Nat → Nat → Hp} (hi : lg H i = some (some (.blk cs))) (hq : lg H q = some (some (.blk [.ptr i 0]))) (hc : denL [] cs = some vs) (hH : ∀ b p, stH (stH H i none) q (some (.blk [adr b p])) = H' b p) :
    ∃ b p, Sy n T (H' b p) ks G0 w0 G a w ∧ Lies b p vs w (keys (H' b p) G) ∧ (ks.contains b = true ∨ w0.heap.size ≤ b) := by
  rw [lg_is] at hi hq
  obtain ⟨L, us, h1, h2, h3⟩ := A.mem.ent i _ hi
  have h4 : denL G cs = some vs := by simpa using denL_mono G cs hc
  rw [h4] at h2
  cases h2
  have hGi : G[i]? = some (some L) := by
    cases hz : G[i]? with
    | none => rw [hz] at h1; cases h1
    | some p => rw [hz] at h1; simp at h1; rw [h1]
  have hiq : q ≠ i := by
    intro e
    subst e
    rw [hi] at hq
    cases hq
    cases hc
  refine ⟨L.b, L.pre.length, ?_⟩
  rw [← hH]
  have hil : i < H.length := (List.getElem?_eq_some_iff.1 hi).1
  have hql : q < H.length := (List.getElem?_eq_some_iff.1 hq).1
  have hold : ∀ (j : Nat) (e : Ent), (stH (stH H i none) q (some (.blk [adr L.b L.pre.length])))[j]? = some (some e) → j ≠ i ∧ ((j = q ∧ e = .blk [adr L.b L.pre.length]) ∨ (j ≠ q ∧ H[j]? = some (some e))) := by
    intro j e h
    rw [stH_is, stH_is] at h
    by_cases hj : j = q
    · subst hj
      rw [List.getElem?_set_self (by simpa using hql)] at h
      cases h
      exact ⟨hiq, .inl ⟨rfl, rfl⟩⟩
    · rw [List.getElem?_set_ne (Ne.symm hj)] at h
      by_cases hk : j = i
      · subst hk; rw [List.getElem?_set_self hil] at h; cases h
      · rw [List.getElem?_set_ne (Ne.symm hk)] at h; exact ⟨hk, .inr ⟨hj, h⟩⟩
  have old : ∀ (j : Nat) (e : Ent), (stH (stH H i none) q (some (.blk [adr L.b L.pre.length])))[j]? = some (some e) → ∃ e', H[j]? = some (some e') ∧ e'.mut = e.mut ∧ (e'.empty ↔ e.empty) ∧ j ≠ i := by
    intro j e h
    obtain ⟨k1, k2⟩ := hold j e h
    rcases k2 with ⟨rfl, rfl⟩ | ⟨k2, k3⟩
    · exact ⟨_, hq, rfl, Iff.rfl, k1⟩
    · exact ⟨e, k3, rfl, Iff.rfl, k1⟩
  refine ⟨⟨A.size, A.defers, A.get, ⟨by rw [stH_is, stH_is]; simpa using A.mem.len, fun j e he => ?_, fun j k e f L' M hjk g1 g2 g3 g4 g5 g6 => ?_⟩, A.pre, fun j e L' g1 g2 g3 => ?_, A.mix⟩, ⟨h3.lt, ?_, ?_⟩, A.own i _ L hi rfl hGi⟩
  · obtain ⟨k1, k2⟩ := hold j e he
    rcases k2 with ⟨rfl, rfl⟩ | ⟨k2, k3⟩
    · obtain ⟨M, us, g1, g2, g3⟩ := A.mem.ent j _ hq
      refine ⟨M, us, g1, ?_, g3⟩
      rw [← g2]
      unfold denL den
      rw [hGi]
      rfl
    · exact A.mem.ent j e k3
  · obtain ⟨e', k1, k2, _, _⟩ := old j e g1
    obtain ⟨f', l1, _, l2, _⟩ := old k f g2
    exact A.mem.sep j k e' f' L' M hjk k1 l1 (by rw [k2]; exact g3) g4 g5 (fun h => g6 (l2.1 h))
  · obtain ⟨e', k1, k2, _, _⟩ := old j e g1
    exact A.own j e' L' k1 (by rw [k2]; exact g2) g3
  · cases hz : (keys (stH (stH H i none) q (some (.blk [adr L.b L.pre.length]))) G).contains L.b with
    | false => rfl
    | true =>
      obtain ⟨j, e, L', g1, g2, g3, g4⟩ := mem_keys.1 hz
      obtain ⟨e', k1, k2, _, k4⟩ := old j e g1
      exact absurd g4 (A.mem.sep j i e' _ L' L k4 k1 hi (by rw [k2]; exact g2) g3 hGi (fun h => h))
  · intro j x hx
    refine h3.cell ?_
    rw [List.getElem?_toArray, List.append_assoc, List.getElem?_append_right (by omega), show L.pre.length + j - L.pre.length = j by omega, List.getElem?_append_left (List.getElem?_eq_some_iff.1 hx).1]
    exact hx
theorem enterR {f : Nat} {fn : Func} {c : Code} {args : List SV} {J : SV → World → World → Prop} (hent : Ent_ P f = some (false, false)) (hf : P.funcs[f]? = some fn) (hb : fn.body = some c) (hn : fn.ntmps = n) (hl : Nat.ble args.length n = true)
    (h : ∀ G w a, H.length = G.length → Sy n (argS args 0) H (keys H G) G w G a w → Goal P (bodyPost P fn fun e w' => ∃ x v, den [] x = some v ∧ e = .returned v ∧ Grow w w' ∧ J x w w') [] (.code c) a w) : FnR P f args H J := by
  refine ⟨hent, fun G w vs hM hv => ?_⟩
  refine calls_of_wp hf hb (h G w _ hM.len ⟨?_, rfl, fun t x hx => ?_, hM, ⟨[], by simp⟩, fun i e L h1 h2 h3 => .inl (mem_keys.2 ⟨i, e, L, h1, h2, h3, rfl⟩), Mix.refl _ _⟩)
  · have := denL_len hv
    have := Nat.le_of_ble_eq_true hl
    simp [hn]; omega
  · obtain ⟨_, h2⟩ := argS_look hx
    simp only [Nat.sub_zero] at h2
    obtain ⟨v, h3, h4⟩ := denL_get hv h2
    have hlt : t < vs.length := (List.getElem?_eq_some_iff.1 h3).1
    rw [h4]
    simp [Array.getD_eq_getD_getElem?, Array.getElem?_append, hlt] at h3 ⊢
    exact h3.symm
theorem RETR {Y : Tb} {fn : Func} {J : SV → World → World → Prop} {H0 : Hp} (hX : Y.ok P = true) {y : SV} {r : List SV} {rv : List ResultVar} {v' : Value} (A : Sy n T H (keys H0 G0) G0 w0 G a w) (hro : ∀ (i : Nat) (e : Ent), H0[i]? = some (some e) → e.mut = false) (hr : fn.results.toList = rv) (hv : resS ⟨Y, false⟩ T H rv = some r) (hy : oneS r = y) (hc : den [] y = some v') (hJ : J y w0 w) : bodyPost P fn (fun e w' => ∃ x v, den [] x = some v ∧ e = .returned v ∧ Grow w0 w' ∧ J x w0 w') .ret a w := by
  obtain ⟨v, h1, h2⟩ := res_run (X := ⟨Y, false⟩) (fn := fn) hX A hr hv hy
  have h3 : den G y = some v' := by simpa using den_mono G y hc
  rw [h3] at h1
  cases h1
  have hk : ∀ k, (keys H0 G0).contains k = false := fun k => by
    cases hz : (keys H0 G0).contains k with
    | false => rfl
    | true =>
      obtain ⟨i, e', L, q1, q2, _⟩ := mem_keys.1 hz
      rw [hro i e' q1] at q2; cases q2
  have hm := A.mix
  exact ⟨A.defers, v', h2, y, v', hc, rfl, ⟨hm.os, hm.tape, hm.output, hm.size, fun k hk' => hm.block k hk' (hk k)⟩, hJ⟩
theorem CALLR {f : Nat} {args az : List SV} {H' l : Hp} {J : SV → World → World → Prop} (m : List Nat) (hf : FnR P f args H' J) (A : Sy n T H ks G0 w0 G a w) (h1 : callS n ops T o = some (f, az)) (h2 : renL m args = some az) (h3 : renH m H' = some l) (h4 : pickH H m = some l) (h5 : ndB m = true)
    (hk : ∀ x a' w', J x w w' → (∀ k, (keys H G).contains k = true → k < w.heap.size) → Sy n (extS T o.dst x) H ks G0 w0 G a' w' → Goal P Q K (.ops ops rest) a' w') : Goal P Q K (.ops ops (o :: rest)) a w := by
  obtain ⟨hd, us, hu, hdo⟩ := callS_do (P := P) (ops := ops) A h1 hf.1
  obtain ⟨p1, p2, p3⟩ := pickH_at h4
  have hm : ∀ j ∈ m, j < G.length := fun j hj => by rw [← A.mem.len]; exact p2 j hj
  have hM := A.mem.sub h4 h3 h5
  have hv' : denL (pickG m G) args = some us := by rw [denL_ren hm args h2]; exact hu
  refine q_does (Q := wpK P Q K) (hdo (hf.2 _ w us hM hv') fun e w' he => ?_)
  obtain ⟨x, v, e1, rfl, hg, hJ⟩ := he
  refine ⟨v, rfl, hk x _ _ hJ (fun k hz => ?_) (Sy.put ⟨A.size, A.defers, A.get, ⟨A.mem.len, fun i e hi => (A.mem.ent i e hi).mix hg.mix (fun _ _ _ => rfl), A.mem.sep⟩, A.pre, A.own, A.mix.grow hg⟩ hd (by simpa using den_mono G x e1))⟩
  obtain ⟨i, e, L, q1, q2, q3, q4⟩ := mem_keys.1 hz
  have := A.mem.ent i e q1
  rw [q3] at this
  rw [← q4]; exact EntOK.lt this (mut_full q2)
theorem cl2 {R : Prop} (A : Sy n T H ks G0 w0 G a w) (i q : Nat) {cs : List SV} {vs : List Value} {H' : Nat → Nat → Hp} (hi : lg H i = some (some (.blk cs))) (hq : lg H q = some (some (.blk [.ptr i 0]))) (hc : denL [] cs = some vs) (hH : ∀ b p, stH (stH H i none) q (some (.blk [adr b p])) = H' b p)
    (k : ∀ b p, Sy n T (H' b p) ks G0 w0 G a w → Lies b p vs w (keys (H' b p) G) → (ks.contains b = true ∨ w0.heap.size ≤ b) → R) : R := by
  obtain ⟨b, p, h1, h2, h3⟩ := A.close2 i q hi hq hc hH
  exact k b p h1 h2 h3
theorem lo_of {H0 : Hp} (B : Sy n T H (keys H0 G0) G0 w0 G a w) (hro : ∀ (i : Nat) (e : Ent), H0[i]? = some (some e) → e.mut = false) {b : Nat} (h : (keys H G).contains b = true ∨ w.heap.size ≤ b) : w0.heap.size ≤ b := by
  rcases h with h | h
  · rcases B.keys_own b h with h | h
    · obtain ⟨i, e', L, q1, q2, _⟩ := mem_keys.1 h
      rw [hro i e' q1] at q2; cases q2
    · exact h
  · exact Nat.le_trans B.mix.size h
end
end Go.Proofs.Ytiglneecmibgmaa
/- What package-level variables hold: blocks that nobody turns; contracts of functions that only make memory, taken over. -/
namespace Go.Proofs.Ytiglneecmibgmaa
open Go.RowKit
set_option linter.unusedVariables false
set_option linter.unusedSimpArgs false
set_option linter.unusedSectionVars false

/-- these blocks are so, and are none of those that may be turned -/
def Gl (os : List (Nat × Obj)) : Amb := fun w ks => ∀ p ∈ os, w.heap[p.1]? = some p.2 ∧ ks.contains p.1 = false
theorem Gl.ok {os : List (Nat × Obj)} : Amb.OK (Gl os) := fun w ks w' ks' h m hk p hp => by
  obtain ⟨h1, h2⟩ := h p hp
  have hl : p.1 < w.heap.size := (Array.getElem?_eq_some_iff.1 h1).1
  refine ⟨by rw [m.block p.1 hl h2]; exact h1, ?_⟩
  cases hc : ks'.contains p.1 with
  | false => rfl
  | true =>
    rcases hk _ hc with h3 | h3
    · rw [h3] at h2; cases h2
    · omega
/-- a function that reads no memory of the caller's and only makes new one -/
theorem fnI_grow {I : Amb} {P : Program} {f : Nat} {args : List SV} {vs : List Value} {x : SV} {v : Value} (hent : Ent_ P f = some (false, false)) (ha : denL [] args = some vs) (hx : den [] x = some v) (h : ∀ w ks, I w ks → Calls P f vs.toArray w fun e w' => e = .returned v ∧ Grow w w') : FnI I P f args [] (Rt x []) := by
  refine ⟨hent, fun G w us hM hI hv => ?_⟩
  have h1 : denL G args = some vs := by simpa using denL_mono G args ha
  rw [h1] at hv
  cases hv
  have hG : G = [] := List.eq_nil_of_length_eq_zero hM.len.symm
  subst hG
  refine (h w _ hI).mono ?_
  rintro e w' ⟨rfl, hg⟩
  exact ⟨x, [], [], v, ⟨rfl, rfl⟩, by simpa using hx, rfl, ⟨rfl, fun i e he => by simp at he, fun i j e f L M _ he => by simp at he⟩, (Mix.refl _ w).grow hg, Nat.le_refl _, fun i e he _ => by simp at he, fun i e he => by simp at he⟩
theorem fn_grow {P : Program} {f : Nat} {args : List SV} {vs : List Value} {x : SV} {v : Value} (hent : Ent_ P f = some (false, false)) (ha : denL [] args = some vs) (hx : den [] x = some v) (h : ∀ w, Calls P f vs.toArray w fun e w' => e = .returned v ∧ Grow w w') : Fn P f args [] (Rt x []) := by
  have := fnI_grow (I := fun _ _ => True) hent ha hx fun w _ _ => h w
  exact ⟨this.1, fun G w us hM hv => this.2 G w us hM trivial hv⟩
theorem fnI_asX {I : Amb} {P : Program} {f : Nat} {az : List SV} {H H2 : Hp} {x y : SV} (h : FnI I P f az H (Rt x H2)) (e : ∀ G, den G x = den G y) : FnI I P f az H (Rt y H2) :=
  ⟨h.1, fun G w vs hM hI hv => Calls.mono (h.2 G w vs hM hI hv) fun e' w' ⟨x', H', F, v, ⟨q1, q2⟩, r⟩ => by subst q1; subst q2; exact ⟨y, _, F, v, ⟨rfl, rfl⟩, by rw [← e]; exact r.1, r.2⟩⟩
section
variable {P : Program} {n : Nat} {ks : List Nat} {G0 : Gr} {w0 : World} {I : Amb}
/-- a call under a truth that is not known, where that holds -/
theorem eff_pureIG {ops : Array Oper} {Tw : List (Nat × SV)} {H : Hp} {o : Oper} {b : Bool} {f : Nat} {az : List SV} {E : Ob} {x : SV} {v0 : Value} (hok : I.OK) (h0 : I w0 ks) (h : callG n ops Tw o = some (b, f, az, E)) (hE : okE E) (hin : inL 0 az = true) (hx0 : den [] x = some v0) (hf : b = true → FnI I P f az [] (Rt x [])) : EffOK P n ops ks G0 w0 Tw H o (.opt b x) H := by
  intro G a w A
  obtain ⟨k1, k2⟩ := callG_do (P := P) (ops := ops) A h hE (fun hb => (hf hb).1)
  cases b with
  | false =>
    refine does_not (k1 rfl) ⟨[], ?_, by simpa using A.ms⟩
    have := den_mono (G := []) G x (by simpa using hx0)
    simp at this
    simp [den, this]
  | true =>
    obtain ⟨hent, hf⟩ := hf rfl
    obtain ⟨vs, hv, hdo⟩ := k2 rfl
    have hM : Mem [] [] w := ⟨rfl, fun i e h => (by cases h), fun i j e f L M _ h => (by cases h)⟩
    have hv0 : denL [] az = some vs := by
      have := denL_take' (G := G) az hin
      simp only [List.take_zero] at this
      rw [this]; exact hv
    refine hdo (hf [] w vs hM (hok _ _ _ _ h0 A.mix fun b hb => by simp [keys] at hb) hv0) ?_
    rintro e w' ⟨y, H', F, v, ⟨rfl, rfl⟩, hx, rfl, hM2, hmix, _⟩
    have hF : F = [] := by have := hM2.len; simp at this; exact List.eq_nil_of_length_eq_zero this.symm
    subst hF
    have hg : Grow w w' := ⟨hmix.os, hmix.tape, hmix.output, hmix.size, fun k hk => hmix.block k hk rfl⟩
    refine ⟨v, rfl, [], ?_, by simpa using A.ms.grow hg⟩
    have := den_mono (G := []) G y (by simpa using hx)
    simp at this
    simp [den, this]
end
theorem LiesAt.ok {ao : Option Addr} {ps : List Int} : Amb.OK (LiesAt ao ps) := fun w ks w' ks' h m hk => h.go m hk
end Go.Proofs.Ytiglneecmibgmaa
/- An instruction. -/
namespace Go.Proofs.Ytiglneecmibgmaa
open Go.RowKit
set_option linter.unusedVariables false
set_option linter.unusedSimpArgs false
set_option maxRecDepth 100000
set_option maxHeartbeats 2000000
set_option simprocs false
theorem hmo : Try.prog.follows .mixedOrders = true := by kernel_rfl
structure In where (op dst ra rb imm loc off ix sz fn : Int) (acq weak rel : Bool) (pred succ to_ : Int) (zero : Bool)
end Go.Proofs.Ytiglneecmibgmaa
