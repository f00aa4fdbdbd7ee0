/- CondLogic, part 2: the engine, contracts, theory. -/
import Derived.Test.YtfdfjakafiglmaaDoorCondLogicP1
import Derived.Test.YtfdfjakafiglmaaDoorProg
import Derived.Lib.SliceRun
import Derived.Sort.AssemblyPlain
namespace Go.Proofs.YtfdfjakafiglmaaDoor
open Go.RowKit
set_option linter.unusedVariables false
set_option linter.unusedSimpArgs false
set_option linter.unusedSectionVars false
structure Ms (H : Hp) (ks : List Nat) (G0 : Gr) (w0 : World) (G : Gr) (w : World) : Prop where
  mem : Mem H G w
  pre : ∃ F, G = G0 ++ F
  own : ∀ (i : Nat) (e : Ent) (L : Loc), H[i]? = some (some e) → e.mut = true → G[i]? = some (some L) → ks.contains L.b = true ∨ w0.heap.size ≤ L.b
  mix : Mix ks w0 w
section
variable {n : Nat} {T : List (Nat × SV)} {H : Hp} {ks : List Nat} {G0 : Gr} {w0 : World} {G : Gr} {a : Act} {w w' : World}
theorem Sy.ms (A : Sy n T H ks G0 w0 G a w) : Ms H ks G0 w0 G w := ⟨A.mem, A.pre, A.own, A.mix⟩
theorem Ms.sy (h : Ms H ks G0 w0 G w) (h1 : a.tmps.size = n) (h2 : a.defers = []) (h3 : ∀ t x, look T t = some x → den G x = some (a.tmps.getD t undef)) : Sy n T H ks G0 w0 G a w := ⟨h1, h2, h3, h.mem, h.pre, h.own, h.mix⟩
theorem Ms.grow (h : Ms H ks G0 w0 G w) (hg : Grow w w') : Ms H ks G0 w0 G w' :=
  ⟨⟨h.mem.len, fun i e hi => (h.mem.ent i e hi).mix hg.mix (fun _ _ _ => rfl), h.mem.sep⟩, h.pre, h.own, h.mix.grow hg⟩
end
def ltB (o : Oper) (j : Nat) : Nat → Bool
  | 0 => true
  | i + 1 => (Nat.beq i j || waits o i) && ltB o j i
theorem lt_spec {o : Oper} {j : Nat} : ∀ {c : Nat}, ltB o j c = true → ∀ i, i < c → i ≠ j → waits o i = true
  | 0, _, _, h, _ => by omega
  | c + 1, hb, i, h, hne => by
    simp only [ltB, Bool.and_eq_true, Bool.or_eq_true] at hb
    by_cases hi : i = c
    · subst hi
      rcases hb.1 with h1 | h1
      · exact absurd (Nat.eq_of_beq_eq_true h1) hne
      · exact h1
    · exact lt_spec hb.2 i (by omega) hne
def keepB (t c : Nat) : List Oper → Nat → Bool
  | [], _ => true
  | o :: l, j => (match o.dst with | some d => !Nat.beq d t || ltB o j c | none => true) && keepB t c l (j + 1)
theorem keepB_spec {t c : Nat} : ∀ {l : List Oper} {j : Nat}, keepB t c l j = true → ∀ (i : Nat) (o : Oper), l[i]? = some o → o.dst = some t → ltB o (j + i) c = true
  | [], _, _, _, _, h, _ => by cases h
  | p :: l, j, hb, i, o, h, hd => by
    simp only [keepB, Bool.and_eq_true] at hb
    cases i with
    | zero =>
      cases h
      have := hb.1
      rw [hd] at this
      simpa using this
    | succ i => rw [show j + (i + 1) = j + 1 + i by omega]; exact keepB_spec hb.2 i o h hd
def keepT (l : List Oper) : List (Nat × SV) → List (Nat × SV)
  | [] => []
  | (t, x) :: T => bif keepB t l.length l 0 then (t, x) :: keepT l T else keepT l T
theorem keep_look {l : List Oper} : ∀ {T : List (Nat × SV)} {t : Nat} {x : SV}, look (keepT l T) t = some x → look T t = some x ∧ keepB t l.length l 0 = true
  | [], _, _, h => by cases h
  | (k, y) :: T, t, x, h => by
    unfold keepT at h
    cases hb : keepB k l.length l 0 with
    | false =>
      rw [hb] at h
      obtain ⟨h1, h2⟩ := keep_look h
      refine ⟨?_, h2⟩
      unfold look
      cases hk : Nat.beq k t with
      | false => exact h1
      | true =>
        exfalso
        have := Nat.eq_of_beq_eq_true hk
        subst this
        rw [hb] at h2; cases h2
    | true =>
      rw [hb] at h
      simp only [cond_true] at h
      unfold look at h ⊢
      cases hk : Nat.beq k t with
      | true =>
        rw [hk] at h
        have := Nat.eq_of_beq_eq_true hk
        subst this
        exact ⟨h, hb⟩
      | false => rw [hk] at h; exact keep_look h
def twL (o : Oper) : List Oper → List SV → Nat → List (Nat × SV) → List (Nat × SV)
  | p :: l, x :: xs, k, T => bif waits o k then extS (twL o l xs (k + 1) T) p.dst x else twL o l xs (k + 1) T
  | _, _, _, T => T
theorem tw_look {o : Oper} {T : List (Nat × SV)} {t : Nat} {x : SV} : ∀ {l : List Oper} {xs : List SV} {k : Nat}, look (twL o l xs k T) t = some x → (∃ i p, l[i]? = some p ∧ xs[i]? = some x ∧ waits o (k + i) = true ∧ p.dst = some t) ∨ look T t = some x
  | [], _, _, h => .inr h
  | _ :: _, [], _, h => .inr h
  | p :: l, y :: xs, k, h => by
    have rest : look (twL o l xs (k + 1) T) t = some x → (∃ i q, (p :: l)[i]? = some q ∧ (y :: xs)[i]? = some x ∧ waits o (k + i) = true ∧ q.dst = some t) ∨ look T t = some x := fun h => by
      rcases tw_look h with ⟨i, q, h1, h2, h3, h4⟩ | h
      · exact .inl ⟨i + 1, q, by simpa using h1, by simpa using h2, by rw [show k + (i + 1) = k + 1 + i by omega]; exact h3, h4⟩
      · exact .inr h
    unfold twL at h
    cases hb : waits o k with
    | false => rw [hb] at h; exact rest h
    | true =>
      rw [hb] at h
      simp only [cond_true] at h
      cases hd : p.dst with
      | none => rw [hd] at h; exact rest h
      | some d =>
        rw [hd] at h
        simp only [extS, look] at h
        cases hk : Nat.beq d t with
        | false => rw [hk] at h; exact rest h
        | true =>
          rw [hk] at h
          cases h
          have := Nat.eq_of_beq_eq_true hk
          subst this
          exact .inl ⟨0, p, rfl, rfl, by simpa using hb, hd⟩
def pass1 (X : Tx) (n : Nat) (ops : Array Oper) (pc : List (Nat × SV)) (cl : List (Nat × SV × Hp)) : List Oper → Nat → List (Nat × SV) → Hp → Option (List SV × List (Nat × Hp))
  | [], _, _, _ => some ([], [])
  | o :: l, j, T, H => match cl.lookup j with
    | some (x, H') => match pass1 X n ops pc cl l (j + 1) (extS T o.dst x) H' with
      | some (xs, hs) => some (x :: xs, (j, H') :: hs)
      | none => none
    | none => match look pc j with
     | some x => match pass1 X n ops pc cl l (j + 1) (extS T o.dst x) H with
      | some (xs, hs) => some (x :: xs, hs)
      | none => none
     | none => match stepS X n ops T H o with
      | some (.val x _) => match pass1 X n ops pc cl l (j + 1) (extS T o.dst x) H with
        | some (xs, hs) => some (x :: xs, hs)
        | none => none
      | some (.new t en x) => nfH (H ++ [some en]) fun H' => match pass1 X n ops pc cl l (j + 1) (extS T o.dst x) H' with
        | some (xs, hs) => some (x :: xs, (j, H') :: hs)
        | none => none
      | some (.upd i cs _) => nfH (stH H i (some (.blk cs))) fun H' => match pass1 X n ops pc cl l (j + 1) T H' with
        | some (xs, hs) => some (.tup [] :: xs, (j, H') :: hs)
        | none => none
      | none => none
def wvia (ops : Array Oper) (p : Nat) : Nat → List Edge → Bool
  | 0, _ => false
  | f + 1, l => l.any fun e => Region.binds .any e && (match ops[e.on]? with | some q => waits q p || wvia ops p f q.after.toList | none => false)
theorem via_listed {ops : Array Oper} {listed : Array Bool} {p : Nat} (hcl : ∀ (j : Nat) (o : Oper) (p : Nat), ops[j]? = some o → listed.getD j false = true → waits o p = true → listed.getD p false = true) : ∀ (f : Nat) (l : List Edge), (∀ e ∈ l, Region.binds .any e = true → listed.getD e.on false = true) → wvia ops p f l = true → listed.getD p false = true
  | 0, _, _, h => by cases h
  | f + 1, l, hl, h => by
    unfold wvia at h
    rw [List.any_eq_true] at h
    obtain ⟨e, he, hb⟩ := h
    rw [Bool.and_eq_true] at hb
    have h1 := hl e he hb.1
    split at hb
    · next q hq =>
      have h2 := hb.2
      rw [Bool.or_eq_true] at h2
      rcases h2 with h2 | h2
      · exact hcl _ q p hq h1 h2
      · refine via_listed hcl f _ (fun e' he' hb' => ?_) h2
        refine hcl _ q e'.on hq h1 ?_
        unfold waits
        rw [List.any_eq_true]
        exact ⟨e', he', by simp [hb']⟩
    · exact absurd hb.2 (by simp)
def wt (ops : Array Oper) (o : Oper) (p : Nat) : Bool := bif waits o p then true else wvia ops p 2 o.after.toList
def mayB (ops : Array Oper) (o : Oper) (j k : Nat) : List (Nat × Hp) → Nat → Bool
  | [], _ => true
  | (p, _) :: es, m => (!wt ops o p || Nat.blt m k) && (match ops[p]? with | some q => !waits q j || Nat.ble k m | none => true) && mayB ops o j k es (m + 1)
theorem may_spec {ops : Array Oper} {o : Oper} {j k : Nat} : ∀ {es : List (Nat × Hp)} {m : Nat}, (∀ i p H', es[i]? = some (p, H') → (wt ops o p = true → m + i < k) ∧ (∀ q, ops[p]? = some q → waits q j = true → k ≤ m + i)) → mayB ops o j k es m = true
  | [], _, _ => rfl
  | (p, H') :: es, m, h => by
    obtain ⟨h1, h2⟩ := h 0 p H' rfl
    unfold mayB
    simp only [Bool.and_eq_true, Bool.or_eq_true, Bool.not_eq_true']
    refine ⟨⟨?_, ?_⟩, may_spec fun i q H2 hi => ?_⟩
    · cases hw : wt ops o p with
      | false => exact .inl rfl
      | true => exact .inr (by have := h1 hw; simp [Nat.blt_eq]; omega)
    · split
      · next q hq =>
        simp only [Bool.or_eq_true, Bool.not_eq_true']
        cases hw : waits q j with
        | false => exact .inl rfl
        | true => exact .inr (by have := h2 q hq hw; simpa using this)
      · rfl
    · have := h (i + 1) q H2 hi
      rw [show m + 1 + i = m + (i + 1) by omega]; exact this
def stages (X : Tx) (n : Nat) (ops : Array Oper) (es : List (Nat × Hp)) (Tw : List (Nat × SV)) (o : Oper) (j : Nat) : Nat → List Hp → Option (List SV × Ob)
  | _, [] => some ([], [])
  | k, H :: hs => match stages X n ops es Tw o j (k + 1) hs with
    | some (D, E) => bif mayB ops o j k es 0 then (match stepS X n ops Tw H o with
      | some (.val x F) => some (x :: D, F ++ E)
      | _ => none) else some (D, E)
    | none => none
theorem stages_spec {X : Tx} {n : Nat} {ops : Array Oper} {es : List (Nat × Hp)} {Tw : List (Nat × SV)} {o : Oper} {j : Nat} : ∀ {hs : List Hp} {k : Nat} {D : List SV} {E : Ob}, stages X n ops es Tw o j k hs = some (D, E) → okE E → ∀ (i : Nat) (H : Hp), hs[i]? = some H → mayB ops o j (k + i) es 0 = true →
    ∃ x F, stepS X n ops Tw H o = some (.val x F) ∧ okE F ∧ x ∈ D
  | [], k, D, E, h, hE, i, H, hi, hm => by cases hi
  | H0 :: hs, k, D, E, h, hE, i, H, hi, hm => by
    unfold stages at h
    split at h
    · next D1 E1 hs1 =>
      cases hb : mayB ops o j k es 0 with
      | false =>
        rw [hb] at h
        cases h
        cases i with
        | zero => rw [Nat.add_zero, hb] at hm; cases hm
        | succ i => exact stages_spec hs1 hE i H hi (by rw [show k + 1 + i = k + (i + 1) by omega]; exact hm)
      | true =>
        rw [hb] at h
        simp only [cond_true] at h
        split at h
        · next x F hx =>
          cases h
          obtain ⟨e1, e2⟩ := okE_app hE
          cases i with
          | zero => cases hi; exact ⟨x, F, hx, e1, by simp⟩
          | succ i =>
            obtain ⟨y, F', q1, q2, q3⟩ := stages_spec hs1 e2 i H hi (by rw [show k + 1 + i = k + (i + 1) by omega]; exact hm)
            exact ⟨y, F', q1, q2, List.mem_cons_of_mem _ q3⟩
        · cases h
    · cases h
def isEff (j : Nat) : List (Nat × Hp) → Bool
  | [] => false
  | (p, _) :: es => Nat.beq p j || isEff j es
theorem isEff_spec {j : Nat} : ∀ {es : List (Nat × Hp)}, isEff j es = true → ∃ (i : Nat) (H : Hp), es[i]? = some (j, H)
  | [], h => by cases h
  | (p, H) :: es, h => by
    simp only [isEff, Bool.or_eq_true] at h
    rcases h with h | h
    · exact ⟨0, H, by rw [Nat.eq_of_beq_eq_true h]; rfl⟩
    · obtain ⟨i, H', hi⟩ := isEff_spec h; exact ⟨i + 1, H', hi⟩
theorem not_eff {j : Nat} : ∀ {es : List (Nat × Hp)}, isEff j es = false → ∀ (i p : Nat) (H : Hp), es[i]? = some (p, H) → p ≠ j
  | [], _, i, p, H, h => by cases h
  | (q, H') :: es, hb, i, p, H, h => by
    simp only [isEff, Bool.or_eq_false_iff] at hb
    cases i with
    | zero => cases h; exact fun e => by subst e; simp at hb
    | succ i => exact not_eff hb.2 i p H h
def pass2 (X : Tx) (n : Nat) (ops : Array Oper) (all : List Oper) (xs : List SV) (T : List (Nat × SV)) (es : List (Nat × Hp)) (hs : List Hp) (pc : List (Nat × SV)) : List Oper → List SV → Nat → Option (List (SV × SV) × Ob)
  | [], _, _ => some ([], [])
  | _ :: _, [], _ => none
  | o :: l, x :: ys, j => match pass2 X n ops all xs T es hs pc l ys (j + 1) with
    | some (D, E) => bif isEff j es then some (D, E) else (match look pc j with
      | some z => some ((z, x) :: D, E)
      | none => match stages X n ops es (twL o all xs 0 T) o j 0 hs with
        | some (zs, F) => some (zs.map (fun z => (z, x)) ++ D, F ++ E)
        | none => none)
    | none => none
theorem pass2_spec {X : Tx} {n : Nat} {ops : Array Oper} {all : List Oper} {xs : List SV} {T : List (Nat × SV)} {es : List (Nat × Hp)} {hs : List Hp} {pc : List (Nat × SV)} : ∀ {l : List Oper} {ys : List SV} {j : Nat} {D : List (SV × SV)} {E : Ob}, pass2 X n ops all xs T es hs pc l ys j = some (D, E) → okE E → D.map (·.1) = D.map (·.2) →
    ∀ (i : Nat) (o : Oper), l[i]? = some o → isEff (j + i) es = false → ∃ x, ys[i]? = some x ∧ (look pc (j + i) = some x ∨ ∀ (k : Nat) (H : Hp), hs[k]? = some H → mayB ops o (j + i) k es 0 = true → ∃ F, stepS X n ops (twL o all xs 0 T) H o = some (.val x F) ∧ okE F)
  | [], ys, j, D, E, h, hE, hD, i, o, hi, _ => by cases hi
  | _ :: _, [], j, D, E, h, hE, hD, i, o, hi, _ => by cases h
  | p :: l, y :: ys, j, D, E, h, hE, hD, i, o, hi, he => by
    have step : ∀ {D1 : List (SV × SV)} {E1 : Ob}, pass2 X n ops all xs T es hs pc l ys (j + 1) = some (D1, E1) → okE E1 → D1.map (·.1) = D1.map (·.2) → ∀ i, l[i]? = some o → isEff (j + (i + 1)) es = false → ∃ x, ys[i]? = some x ∧ (look pc (j + (i + 1)) = some x ∨ ∀ (k : Nat) (H : Hp), hs[k]? = some H → mayB ops o (j + (i + 1)) k es 0 = true → ∃ F, stepS X n ops (twL o all xs 0 T) H o = some (.val x F) ∧ okE F) := by
      intro D1 E1 h1 e1 d1 i hi he
      have := pass2_spec h1 e1 d1 i o hi (by rw [show j + 1 + i = j + (i + 1) by omega]; exact he)
      rw [show j + 1 + i = j + (i + 1) by omega] at this
      exact this
    unfold pass2 at h
    split at h
    · next D1 E1 h1 =>
      cases hb : isEff j es with
      | true =>
        rw [hb] at h
        cases h
        cases i with
        | zero => rw [Nat.add_zero, hb] at he; cases he
        | succ i => exact step h1 hE hD i hi he
      | false =>
        rw [hb] at h
        simp only [cond_false] at h
        split at h
        · next z hz =>
          cases h
          simp only [List.map_cons, List.cons.injEq] at hD
          cases i with
          | zero =>
            cases hi
            refine ⟨y, rfl, .inl ?_⟩
            rw [Nat.add_zero, hz, hD.1]
          | succ i => exact step h1 hE hD.2 i hi he
        · split at h
          · next zs F hz =>
            cases h
            obtain ⟨e1, e2⟩ := okE_app hE
            simp only [List.map_append] at hD
            obtain ⟨d1, d2⟩ := List.append_inj hD (by simp)
            cases i with
            | zero =>
              cases hi
              refine ⟨y, rfl, .inr fun k H hk hm => ?_⟩
              obtain ⟨x, F', q1, q2, q3⟩ := stages_spec hz e1 k H hk (by rw [Nat.zero_add]; exact hm)
              have : x = y := by
                simp only [List.map_map] at d1
                have := List.map_inj_left.1 d1 x q3
                simpa using this
              subst this
              exact ⟨F', q1, q2⟩
            | succ i => exact step h1 e2 d2 i hi he
          · cases h
    · cases h
def chainB (ops : Array Oper) : List (Nat × Hp) → Bool
  | (p, H) :: (q, H') :: es => (match ops[q]? with | some o => wt ops o p | none => false) && Nat.blt p q && chainB ops ((q, H') :: es)
  | _ => true
theorem chain_spec {ops : Array Oper} : ∀ {es : List (Nat × Hp)}, chainB ops es = true → ∀ (i p : Nat) (H : Hp) (q : Nat) (H' : Hp), es[i]? = some (p, H) → es[i + 1]? = some (q, H') → ∃ o, ops[q]? = some o ∧ wt ops o p = true
  | [], _, i, p, H, q, H', h, _ => by cases h
  | [_], _, i, p, H, q, H', _, h => by simp at h
  | (a, Ha) :: (b, Hb) :: es, hb, i, p, H, q, H', h1, h2 => by
    simp only [chainB, Bool.and_eq_true] at hb
    cases i with
    | zero =>
      cases h1; cases h2
      have := hb.1.1
      split at this
      · next o ho => exact ⟨o, ho, this⟩
      · cases this
    | succ i => exact chain_spec hb.2 i p H q H' h1 h2
theorem chain_inc {ops : Array Oper} : ∀ {es : List (Nat × Hp)}, chainB ops es = true → ∀ (i k p : Nat) (H H' : Hp), es[i]? = some (p, H) → es[k]? = some (p, H') → i = k := by
  have lt : ∀ {es : List (Nat × Hp)} {p : Nat} {H : Hp}, chainB ops ((p, H) :: es) = true → ∀ (k q : Nat) (H' : Hp), es[k]? = some (q, H') → p < q := by
    intro es
    induction es with
    | nil => intro p H _ k q H' h; cases h
    | cons x es ih =>
      obtain ⟨b, Hb⟩ := x
      intro p H hb k q H' h
      simp only [chainB, Bool.and_eq_true] at hb
      have h1 : p < b := by have := hb.1.2; simpa [Nat.blt_eq] using this
      cases k with
      | zero => cases h; exact h1
      | succ k => have := ih hb.2 k q H' h; omega
  intro es
  induction es with
  | nil => intro _ i k p H H' h; cases h
  | cons x es ih =>
    obtain ⟨b, Hb⟩ := x
    intro hb i k p H H' h1 h2
    have hb2 : chainB ops es = true := by
      cases es with
      | nil => rfl
      | cons y es => simp only [chainB, Bool.and_eq_true] at hb; exact hb.2
    cases i with
    | zero =>
      cases k with
      | zero => rfl
      | succ k => cases h1; exact absurd (lt hb k _ H' h2) (by omega)
    | succ i =>
      cases k with
      | zero => cases h2; exact absurd (lt hb i _ H h1) (by omega)
      | succ k => rw [ih hb2 i k p H H' h1 h2]
def putS : List Oper → List SV → List (Nat × SV) → List (Nat × SV)
  | o :: l, x :: xs, T => extS (putS l xs T) o.dst x
  | _, _, T => T
theorem put_look {T : List (Nat × SV)} {t : Nat} {x : SV} : ∀ {l : List Oper} {xs : List SV}, xs.length = l.length → look (putS l xs T) t = some x → (∃ (i : Nat) (p : Oper), l[i]? = some p ∧ xs[i]? = some x ∧ p.dst = some t) ∨ (look T t = some x ∧ ∀ (i : Nat) (p : Oper), l[i]? = some p → p.dst ≠ some t)
  | [], _, _, h => .inr ⟨h, fun i p h => by cases h⟩
  | _ :: _, [], hl, h => by cases hl
  | p :: l, y :: xs, hl, h => by
    have rest : look (putS l xs T) t = some x → p.dst ≠ some t → (∃ (i : Nat) (q : Oper), (p :: l)[i]? = some q ∧ (y :: xs)[i]? = some x ∧ q.dst = some t) ∨ (look T t = some x ∧ ∀ (i : Nat) (q : Oper), (p :: l)[i]? = some q → q.dst ≠ some t) := fun h hp => by
      rcases put_look (by simpa using hl) h with ⟨i, q, h1, h2, h4⟩ | ⟨h1, h2⟩
      · exact .inl ⟨i + 1, q, by simpa using h1, by simpa using h2, h4⟩
      · refine .inr ⟨h1, fun i q hq => ?_⟩
        cases i with
        | zero => cases hq; exact hp
        | succ i => exact h2 i q (by simpa using hq)
    unfold putS at h
    cases hd : p.dst with
    | none => rw [hd] at h; exact rest h (by rw [hd]; simp)
    | some d =>
      rw [hd] at h
      simp only [extS, look] at h
      cases hk : Nat.beq d t with
      | false =>
        rw [hk] at h
        refine rest h fun e => ?_
        rw [hd] at e; cases e
        rw [show Nat.beq t t = true from Nat.beq_refl t] at hk; cases hk
      | true =>
        rw [hk] at h
        cases h
        have := Nat.eq_of_beq_eq_true hk
        subst this
        exact .inl ⟨0, p, rfl, rfl, hd⟩
section
variable {P : Program} {X : Tx} {n : Nat} {ks : List Nat} {G0 : Gr} {w0 : World} {T : List (Nat × SV)} {l : List Oper} {xs : List SV} {es : List (Nat × Hp)} {hs : List Hp} {Q : Exit → Act → World → Prop}
structure DInv (n : Nat) (ks : List Nat) (G0 : Gr) (w0 : World) (T : List (Nat × SV)) (l : List Oper) (xs : List SV) (es : List (Nat × Hp)) (hs : List Hp) (listed : Array Bool) (k : Nat) (G : Gr) (a : Act) (w : World) : Prop where
  size : a.tmps.size = n
  defers : a.defers = []
  base : ∀ t x, look T t = some x → (∀ (j : Nat) (o : Oper), l[j]? = some o → o.dst = some t → listed.getD j false = false) → den G x = some (a.tmps.getD t undef)
  done : ∀ (j : Nat) (o : Oper) (x : SV) (d : Nat), l[j]? = some o → listed.getD j false = true → xs[j]? = some x → o.dst = some d → den G x = some (a.tmps.getD d undef)
  ms : ∃ H, hs[k]? = some H ∧ Ms H ks G0 w0 G w
  eff : ∀ (i p : Nat) (H' : Hp), es[i]? = some (p, H') → (listed.getD p false = true ↔ i < k)
  closed : ∀ (j : Nat) (o : Oper) (p : Nat), l[j]? = some o → listed.getD j false = true → waits o p = true → listed.getD p false = true
def EffOK (P : Program) (n : Nat) (ops : Array Oper) (ks : List Nat) (G0 : Gr) (w0 : World) (Tw : List (Nat × SV)) (H : Hp) (o : Oper) (x : SV) (H' : Hp) : Prop :=
  ∀ G a w, Sy n Tw H ks G0 w0 G a w → Does P ops o a w fun v w' => ∃ F, den (G ++ F) x = some v ∧ Ms H' ks G0 w0 (G ++ F) w'
theorem step_val {ops : Array Oper} {o : Oper} {H : Hp} {Tw : List (Nat × SV)} {G : Gr} {a : Act} {w : World} (hX : X.ok P = true) (A : Sy n Tw H ks G0 w0 G a w) {x : SV} {E : Ob} (h : stepS X n ops Tw H o = some (.val x E)) (hE : okE E) : ∃ z, den G x = some z ∧ ∀ K : Value → World → Prop, K z w → Does P ops o a w K := by
  unfold stepS at h
  have hgn : gcOK none := fun g hg => by cases hg
  split at h
  · next hd =>
    split at h
    · next hg =>
      obtain ⟨z, hz, k⟩ := xop_val (P := P) (ops := ops) hX A h
      exact ⟨z, hz, k hE hgn (gd_run (gd := none) A hg)⟩
    · next hg => cases h; exact ⟨undef, rfl, fun K hK => does_not (gd_skip A hg) hK⟩
    · next b hg =>
      split at h
      · next y F hx =>
        cases h
        have hw := gd_sym A hg
        obtain ⟨z, hz, k⟩ := xop_val (P := P) (ops := ops) hX A hx
        cases b with
        | true => exact ⟨z, by simp [den, hz], k hE (fun g hg => by cases hg; rfl) hw⟩
        | false => exact ⟨undef, by simp [den, hz], fun K hK => does_not hw hK⟩
      · cases h
    · cases h
  · cases h
theorem drawn_go (hX : X.ok P = true) (hfit : fitB l.toArray n [] = true) (hchain : chainB l.toArray es = true) (hT : ∀ t x, look T t = some x → ∀ (j : Nat) (o : Oper), l[j]? = some o → o.dst = some t → ∀ i, i < l.length → i ≠ j → waits o i = true) (hl : xs.length = l.length) (hlen : hs.length = es.length + 1)
    (hpure : ∀ (i : Nat) (o : Oper), l[i]? = some o → isEff i es = false → ∃ x, xs[i]? = some x ∧ ∀ (k : Nat) (H : Hp), hs[k]? = some H → mayB l.toArray o i k es 0 = true → EffOK P n l.toArray ks G0 w0 (twL o l xs 0 T) H o x H)
    (heff : ∀ (m p : Nat) (H' : Hp), es[m]? = some (p, H') → hs[m + 1]? = some H' ∧ ∃ o x H, l[p]? = some o ∧ xs[p]? = some x ∧ hs[m]? = some H ∧ EffOK P n l.toArray ks G0 w0 (twL o l xs 0 T) H o x H')
    (hend : ∀ G a w H, hs[es.length]? = some H → Sy n (putS l xs T) H ks G0 w0 G a w → Q .normal a w) :
    ∀ (fuel : Nat) (listed : Array Bool) (a : Act) (w : World) (k : Nat) (G : Gr), listed.size = l.length → ((List.range l.length).filter fun i => !listed.getD i true).length ≤ fuel → DInv n ks G0 w0 T l xs es hs listed k G a w → wpAny P .any l.toArray Q fuel listed a w := by
  have last : ∀ (listed : Array Bool) (a : Act) (w : World) (k : Nat) (G : Gr), listed.size = l.length → Region.ready .any l.toArray listed = [] → DInv n ks G0 w0 T l xs es hs listed k G a w → Q .normal a w := by
    intro listed a w k G hls hr I
    have all : ∀ i, i < l.length → listed.getD i false = true := by
      intro i
      induction i using Nat.strongRecOn with
      | _ i ih =>
        intro hi
        cases hq : listed.getD i false with
        | true => rfl
        | false =>
          exfalso
          have : i ∈ Region.ready .any l.toArray listed := by
            rw [mem_ready]
            have hli : i < listed.size := by omega
            have hoi : l.toArray[i]? = some l[i] := by simp [hi]
            refine ⟨by simpa [hli] using hq, l[i], hoi, fun e he hb => ?_⟩
            have hlt := (fit_spec hfit hoi).2 e he hb
            exact ih e.on hlt (by omega)
          rw [hr] at this; cases this
    obtain ⟨H, h1, h2⟩ := I.ms
    have hk : k = es.length := by
      have hkl : k < hs.length := (List.getElem?_eq_some_iff.1 h1).1
      by_cases hk : k < es.length
      · exfalso
        have he : es[k]? = some (es[k].1, es[k].2) := by simp [hk]
        obtain ⟨_, o, x, _, ho, _⟩ := heff k _ _ he
        have hp : es[k].1 < l.length := (List.getElem?_eq_some_iff.1 ho).1
        have := (I.eff k _ _ he).1 (all _ hp)
        omega
      · omega
    subst hk
    refine hend G a w H h1 (h2.sy I.size I.defers fun t x hx => ?_)
    rcases put_look hl hx with ⟨i, p, q1, q2, q3⟩ | ⟨hx, hno⟩
    · exact I.done i p x t q1 (all i (List.getElem?_eq_some_iff.1 q1).1) q2 q3
    · exact I.base t x hx fun j o h1 h2 => absurd h2 (hno j o h1)
  intro fuel
  induction fuel with
  | zero =>
    intro listed a w k G hls hf I
    have hr : Region.ready .any l.toArray listed = [] := by
      unfold Region.ready
      rw [List.filter_eq_nil_iff]
      intro i hi
      have hnil : ((List.range l.length).filter fun i => !listed.getD i true) = [] := List.eq_nil_of_length_eq_zero (by omega)
      rw [List.filter_eq_nil_iff] at hnil
      have := hnil i (by simpa using hi)
      simp only [Bool.not_eq_true, Bool.not_eq_false'] at this
      simp [this]
    exact ⟨hr, last listed a w k G hls hr I⟩
  | succ fuel ih =>
    intro listed a w k G hls hf I
    refine ⟨fun hr => last listed a w k G hls hr I, fun i hi => ?_⟩
    obtain ⟨hun, o, hoi, hall⟩ := mem_ready.1 hi
    have hil : i < l.length := by have := (Array.getElem?_eq_some_iff.1 hoi).1; simpa using this
    have hoi' : l[i]? = some o := by simpa using hoi
    obtain ⟨hfd, hfe⟩ := fit_spec hfit hoi
    have hun' : listed.getD i false = false := by
      have hlt : i < listed.size := by omega
      simpa [hlt] using hun
    have hw : ∀ p, waits o p = true → listed.getD p false = true := fun p hp => by
      unfold waits at hp
      rw [List.any_eq_true] at hp
      obtain ⟨e, he', hb⟩ := hp
      have he : e ∈ o.after := by simpa using he'
      simp only [Bool.and_eq_true, beq_iff_eq] at hb
      rw [← hb.2]
      exact hall e he hb.1
    obtain ⟨H, hHk, hMs⟩ := I.ms
    -- what is known where it stands
    have A : Sy n (twL o l xs 0 T) H ks G0 w0 G a w := hMs.sy I.size I.defers fun t x hx => by
      rcases tw_look hx with ⟨j, p, q1, q2, q3, q4⟩ | hx
      · exact I.done j p x t q1 (hw j (by simpa using q3)) q2 q4
      · refine I.base t x hx fun j p h1 h2 => ?_
        by_cases hji : j = i
        · subst hji; exact hun'
        · cases hlj : listed.getD j false with
          | false => rfl
          | true =>
            have := I.closed j p i h1 hlj (hT t x hx j p h1 h2 i hil (Ne.symm hji))
            rw [hun'] at this; cases this
    -- the next state
    have next : ∀ (x : SV) (v : Value) (w' : World) (F : Gr) (k' : Nat), xs[i]? = some x → den (G ++ F) x = some v → (∃ H', hs[k']? = some H' ∧ Ms H' ks G0 w0 (G ++ F) w') →
        (∀ (m p : Nat) (H' : Hp), es[m]? = some (p, H') → ((p = i ∨ m < k) ↔ m < k')) → wpAny P .any l.toArray Q fuel (listed.setIfInBounds i true) (a.put o.dst v) w' := by
      intro x v w' F k' hx hv hms hk'
      have hlt : i < listed.size := by omega
      have hget : ∀ j, (listed.setIfInBounds i true).getD j false = true ↔ (j = i ∨ listed.getD j false = true) := by
        intro j
        by_cases hji : j = i
        · subst hji; simp [hlt]
        · rw [set_ne false (Ne.symm hji)]; simp [hji]
      refine ih _ _ _ k' (G ++ F) (by simpa using hls) ?_ ⟨?_, ?_, fun t y hy hno => ?_, fun j p y d q1 q2 q3 q4 => ?_, hms, fun m p H' hm => ?_, fun j p r q1 q2 q3 => ?_⟩
      · have : ((List.range l.length).filter fun k => !(listed.setIfInBounds i true).getD k true).length < ((List.range l.length).filter fun k => !listed.getD k true).length := by
          have hsub : ((List.range l.length).filter fun k => !(listed.setIfInBounds i true).getD k true) = ((List.range l.length).filter fun k => !listed.getD k true).filter (fun k => k != i) := by
            rw [List.filter_filter]
            apply List.filter_congr
            intro k _
            by_cases hk : k = i
            · subst hk; simp [hlt]
            · rw [set_ne true (Ne.symm hk)]; simp [hk]
          rw [hsub]
          refine List.length_filter_lt_length_iff_exists.2 ⟨i, ?_, by simp⟩
          simp only [List.mem_filter, List.mem_range]
          exact ⟨hil, by rw [hun]; rfl⟩
        omega
      · cases hd : o.dst <;> simp [Act.put, I.size]
      · cases hd : o.dst <;> simp [Act.put, I.defers]
      · have hno' : ∀ (j : Nat) (q : Oper), l[j]? = some q → q.dst = some t → listed.getD j false = false := fun j q h1 h2 => by
          have h3 := hno j q h1 h2
          cases hlj : listed.getD j false with
          | false => rfl
          | true => rw [(hget j).2 (.inr hlj)] at h3; cases h3
        have h1 := den_mono F y (I.base t y hy hno')
        cases hd : o.dst with
        | none => exact h1
        | some d =>
          have hne : d ≠ t := fun e => by
            have h3 := hno i o hoi' (by rw [hd, e])
            rw [(hget i).2 (.inl rfl)] at h3; cases h3
          simp only [Act.put, Array.getD_eq_getD_getElem?]
          rw [Array.getElem?_setIfInBounds_ne hne, ← Array.getD_eq_getD_getElem?]
          exact h1
      · by_cases hji : j = i
        · subst hji
          rw [hoi'] at q1; cases q1
          rw [hx] at q3; cases q3
          have hdn : d < a.tmps.size := by rw [I.size]; exact (hfd d q4).1
          rw [q4]
          simp [Act.put, hdn, hv]
        · have h2 : listed.getD j false = true := by
            rcases (hget j).1 q2 with h | h
            · exact absurd h hji
            · exact h
          have h1 := den_mono F y (I.done j p y d q1 h2 q3 q4)
          cases hd : o.dst with
          | none => exact h1
          | some d' =>
            have hne : d' ≠ d := fun e => by
              subst e
              exact hji ((hfd d' hd).2.1 j (by simpa using (List.getElem?_eq_some_iff.1 q1).1) (by simp [dstOf, q1, q4]))
            simp only [Act.put, Array.getD_eq_getD_getElem?]
            rw [Array.getElem?_setIfInBounds_ne hne, ← Array.getD_eq_getD_getElem?]
            exact h1
      · rw [hget p, I.eff m p H' hm]; exact hk' m p H' hm
      · rw [hget r]
        by_cases hji : j = i
        · subst hji; rw [hoi'] at q1; cases q1; exact .inr (hw r q3)
        · rcases (hget j).1 q2 with h | h
          · exact absurd h hji
          · exact .inr (I.closed j p r q1 h q3)
    have fin : ∀ {x : SV} {k' : Nat}, xs[i]? = some x → (∀ (m p : Nat) (H' : Hp), es[m]? = some (p, H') → ((p = i ∨ m < k) ↔ m < k')) → ∀ {H' : Hp}, hs[k']? = some H' → Does P l.toArray o a w (fun v w' => ∃ F, den (G ++ F) x = some v ∧ Ms H' ks G0 w0 (G ++ F) w') → wpOp P l.toArray Q i (wpAny P .any l.toArray Q fuel (listed.setIfInBounds i true)) a w := by
      intro x k' hx hk' H' hH' hd
      unfold wpOp
      rcases hd with ⟨hwn, h⟩ | ⟨hwn, F, h1, h2⟩
      · simp only [hoi, hwn, if_true]
        refine .inl (Oper.wp_mono (fun a2 w2 h => ?_) (h Q))
        obtain ⟨v, rfl, F, h1, h2⟩ := h
        exact next x v w2 F k' hx h1 ⟨H', hH', h2⟩ hk'
      · simp only [hoi, hwn, Bool.false_eq_true, if_false]
        exact next x undef w F k' hx h1 ⟨H', hH', h2⟩ hk'
    cases he : isEff i es with
    | true =>
      obtain ⟨m, H', hm⟩ := isEff_spec he
      obtain ⟨hH', o', x, Hm, e1, e2, e3, e4⟩ := heff m i H' hm
      rw [hoi'] at e1; cases e1
      have hmk : m = k := by
        have h1 : ¬ m < k := fun h => by have := (I.eff m i H' hm).2 h; rw [this] at hun'; cases hun'
        have h2 : m ≤ k := by
          cases m with
          | zero => omega
          | succ m =>
            have hmlt : m < es.length := by have := (List.getElem?_eq_some_iff.1 hm).1; omega
            have hem : es[m]? = some (es[m].1, es[m].2) := by simp [hmlt]
            obtain ⟨o2, g1, g2⟩ := chain_spec hchain m _ _ i H' hem hm
            rw [hoi] at g1; cases g1
            have g3 : listed.getD es[m].1 false = true := by
              unfold wt at g2
              cases hd : waits o es[m].1 with
              | true => exact hw _ hd
              | false =>
                rw [hd] at g2
                refine via_listed (fun j q p' hq hj hwq => I.closed j q p' (by simpa using hq) hj hwq) 2 _ (fun e he hb => hw e.on ?_) g2
                unfold waits
                rw [List.any_eq_true]
                exact ⟨e, he, by simp [hb]⟩
            have := (I.eff m _ _ hem).1 g3
            omega
        omega
      subst hmk
      rw [hHk] at e3; cases e3
      refine fin e2 (k' := m + 1) (fun m' p H2 hm' => ?_) hH' (e4 G a w A)
      constructor
      · rintro (rfl | h)
        · have := chain_inc hchain m' m _ H2 H' hm' hm; omega
        · omega
      · intro h
        by_cases hmm : m' = m
        · subst hmm; rw [hm] at hm'; cases hm'; exact .inl rfl
        · exact .inr (by omega)
    | false =>
      obtain ⟨x, e1, e2⟩ := hpure i o hoi' he
      have hmay : mayB l.toArray o i k es 0 = true := may_spec fun m p H' hm => by
        rw [Nat.zero_add]
        refine ⟨fun hwt => (I.eff m p H' hm).1 ?_, fun q hq hwt => ?_⟩
        · unfold wt at hwt
          cases hd : waits o p with
          | true => exact hw p hd
          | false =>
            rw [hd] at hwt
            refine via_listed (fun j q p' hq hj hwq => I.closed j q p' (by simpa using hq) hj hwq) 2 _ (fun e he hb => hw e.on ?_) hwt
            unfold waits
            rw [List.any_eq_true]
            exact ⟨e, he, by simp [hb]⟩
        by_cases hmk : m < k
        · exfalso
          have hp := (I.eff m p H' hm).2 hmk
          have := I.closed p q i (by simpa using hq) hp hwt
          rw [this] at hun'; cases hun'
        · omega
      refine fin e1 (k' := k) (fun m p H' hm => ?_) hHk (e2 k H hHk hmay G a w A)
      constructor
      · rintro (rfl | h)
        · exact absurd rfl (not_eff he m _ H' hm)
        · exact h
      · exact fun h => .inr h
end
def outX (H : Hp) : Out → SV
  | .val x _ => x
  | .new _ _ x => x
  | .upd _ _ _ => .tup []
def pass3 (X : Tx) (n : Nat) (ops : Array Oper) (l : List Oper) (xs : List SV) (T : List (Nat × SV)) (cl : List (Nat × SV × Hp)) : List (Nat × Hp) → Hp → Option (List (SV × SV) × List (Hp × Hp) × Ob)
  | [], _ => some ([], [], [])
  | (p, H') :: es, H => match pass3 X n ops l xs T cl es H' with
    | some (D, DH, E) => match lg l p, lg xs p with
      | some o, some x => match cl.lookup p with
        | some (y, _) => some ((y, x) :: D, DH, E)
        | none => match stepS X n ops (twL o l xs 0 T) H o with
          | some out => some ((outX H out, x) :: D, (outH H out, H') :: DH, outE out ++ E)
          | none => none
      | _, _ => none
    | none => none
section
variable {P : Program} {X : Tx} {n : Nat} {ks : List Nat} {G0 : Gr} {w0 : World} {T : List (Nat × SV)} {l : List Oper} {xs : List SV} {Q : Exit → Act → World → Prop} {cl : List (Nat × SV × Hp)}
def EffAll (P : Program) (n : Nat) (ops : Array Oper) (ks : List Nat) (G0 : Gr) (w0 : World) (l : List Oper) (xs : List SV) (T : List (Nat × SV)) (cl : List (Nat × SV × Hp)) : List (Nat × Hp) → Hp → Prop
  | [], _ => True
  | (p, H') :: es, H => (match cl.lookup p, lg l p with | some (x, _), some o => EffOK P n ops ks G0 w0 (twL o l xs 0 T) H o x H' | _, _ => True) ∧ EffAll P n ops ks G0 w0 l xs T cl es H'
theorem effAll_nil {ops : Array Oper} : ∀ (es : List (Nat × Hp)) (H : Hp), EffAll P n ops ks G0 w0 l xs T [] es H
  | [], _ => trivial
  | (p, H') :: es, H => ⟨by simp, effAll_nil es H'⟩
theorem eff_auto {ops : Array Oper} {o : Oper} {H : Hp} {Tw : List (Nat × SV)} {out : Out} (hX : X.ok P = true) (h : stepS X n ops Tw H o = some out) (hE : okE (outE out)) : EffOK P n ops ks G0 w0 Tw H o (outX H out) (outH H out) := by
  intro G a w A
  cases out with
  | val x E =>
    obtain ⟨z, hz, k⟩ := step_val (P := P) hX A h hE
    exact k _ ⟨[], by simpa [outX] using hz, by simpa [outH] using A.ms⟩
  | new t en x =>
    unfold stepS at h
    split at h
    · next hd =>
      split at h
      · next hg =>
        exact xop_new (P := P) (ops := ops) hX A h (gd_run (gd := none) A hg) fun g w' v a1 a2 a3 a4 a5 => ⟨[some ⟨g, [], [], t⟩], a5, (A.newBlk a1 a2 a3 a4).ms⟩
      · cases h
      · split at h <;> cases h
      · cases h
    · cases h
  | upd i cs E =>
    unfold stepS at h
    split at h
    · next hd =>
      split at h
      · next hg =>
        refine xop_upd hX A h hE (gd_run (gd := none) A hg) fun cs0 L vs' w' a1 a2 a3 a4 a5 => ⟨[], rfl, ?_⟩
        simpa [outH] using (A.turn a1 a2 a3 a4 a5).ms
      · cases h
      · split at h <;> cases h
      · cases h
    · cases h
theorem pass3_spec {ops : Array Oper} (hX : X.ok P = true) : ∀ {es : List (Nat × Hp)} {H : Hp} {D : List (SV × SV)} {DH : List (Hp × Hp)} {E : Ob}, pass3 X n ops l xs T cl es H = some (D, DH, E) → okE E → D.map (·.1) = D.map (·.2) → DH.map (·.1) = DH.map (·.2) → EffAll P n ops ks G0 w0 l xs T cl es H →
    ∀ (m p : Nat) (H' : Hp), es[m]? = some (p, H') → (H :: es.map (·.2))[m + 1]? = some H' ∧ ∃ o x Hm, l[p]? = some o ∧ xs[p]? = some x ∧ (H :: es.map (·.2))[m]? = some Hm ∧ EffOK P n ops ks G0 w0 (twL o l xs 0 T) Hm o x H'
  | [], _, _, _, _, _, _, _, _, _, m, p, H', hm => by cases hm
  | (q, Hq) :: es, H, D, DH, E, h, hE, hD, hDH, hA, m, p, H', hm => by
    unfold pass3 at h
    obtain ⟨hA1, hA2⟩ := hA
    split at h
    · next D1 DH1 E1 h1 =>
      split at h
      · next o x ho hx =>
        rw [ho] at hA1
        rw [lg_is] at ho hx
        split at h
        · next y Hy hc =>
          cases h
          simp only [List.map_cons, List.cons.injEq] at hD
          rw [hc] at hA1
          cases m with
          | zero =>
            cases hm
            refine ⟨by simp, o, x, H, ho, hx, rfl, ?_⟩
            have := hD.1
            subst this
            exact hA1
          | succ m =>
            have := pass3_spec hX h1 hE hD.2 hDH hA2 m p H' (by simpa using hm)
            simpa using this
        · next hc =>
          split at h
          · next out hs =>
            cases h
            obtain ⟨e1, e2⟩ := okE_app hE
            simp only [List.map_cons, List.cons.injEq] at hD hDH
            cases m with
            | zero =>
              cases hm
              refine ⟨by simp, o, x, H, ho, hx, rfl, ?_⟩
              have := eff_auto (P := P) (ks := ks) (G0 := G0) (w0 := w0) hX hs e1
              rw [hD.1, hDH.1] at this
              exact this
            | succ m =>
              have := pass3_spec hX h1 e2 hD.2 hDH.2 hA2 m p H' (by simpa using hm)
              simpa using this
          · cases h
      · cases h
    · cases h
theorem pass1_len {ops : Array Oper} {pc : List (Nat × SV)} : ∀ {l : List Oper} {j : Nat} {T : List (Nat × SV)} {H : Hp} {xs : List SV} {es : List (Nat × Hp)}, pass1 X n ops pc cl l j T H = some (xs, es) → xs.length = l.length
  | [], _, _, _, _, _, h => by cases h; rfl
  | o :: l, j, T, H, xs, es, h => by
    unfold pass1 at h
    split at h
    · split at h
      · next xs' hs' h1 => cases h; simp [pass1_len h1]
      · cases h
    · split at h
      · split at h
        · next xs' hs' h1 => cases h; simp [pass1_len h1]
        · cases h
      · split at h
        · split at h
          · next xs' hs' h1 => cases h; simp [pass1_len h1]
          · cases h
        · rw [nfH_is] at h
          split at h
          · next xs' hs' h1 => cases h; simp [pass1_len h1]
          · cases h
        · rw [nfH_is] at h
          split at h
          · next xs' hs' h1 => cases h; simp [pass1_len h1]
          · cases h
        · cases h
def lastH : Hp → List (Nat × Hp) → Hp
  | H, [] => H
  | _, (_, H) :: es => lastH H es
theorem lastH_is : ∀ (es : List (Nat × Hp)) (H : Hp), (H :: es.map (·.2))[es.length]? = some (lastH H es)
  | [], H => rfl
  | (p, H') :: es, H => by simpa [lastH] using lastH_is es H'
theorem eff_pure {ops : Array Oper} {Tw : List (Nat × SV)} {H : Hp} {o : Oper} {f : Nat} {az : List SV} {x : SV} (h : callS n ops Tw o = some (f, az)) (hin : inL 0 az = true) (hf : Fn P f az [] (Rt x [])) : EffOK P n ops ks G0 w0 Tw H o x H := by
  intro G a w A
  obtain ⟨hent, hf⟩ := hf
  obtain ⟨hd, vs, hv, hdo⟩ := callS_do (P := P) (ops := ops) A h hent
  -- what it is handed names no block
  have hM : Mem [] [] w := ⟨rfl, fun i e h => (by cases h), fun i j e f L M _ h => (by cases h)⟩
  have hv0 : denL [] az = some vs := by
    have := denL_take' (G := G) az hin
    simp only [List.take_zero] at this
    rw [this]; exact hv
  refine hdo (hf [] w vs hM hv0) ?_
  rintro e w' ⟨y, H', F, v, ⟨rfl, rfl⟩, hx, rfl, hM2, hmix, _⟩
  have hF : F = [] := by have := hM2.len; simp at this; exact List.eq_nil_of_length_eq_zero this.symm
  subst hF
  have hg : Grow w w' := ⟨hmix.os, hmix.tape, hmix.output, hmix.size, fun k hk => hmix.block k hk rfl⟩
  refine ⟨v, rfl, [], ?_, by simpa using A.ms.grow hg⟩
  have := den_mono (G := []) G y (by simpa using hx)
  simpa using this
def callG (n : Nat) (ops : Array Oper) (T : List (Nat × SV)) (o : Oper) : Option (Bool × Nat × List SV × Ob) := match fitsD n o.dst with
  | true => match guardS ops T o.guard with
    | some (.sym b) => match o.op with
      | .call c => match c.callee with
        | .value x => match evG (some b) T x with
          | some (.fn f l, E0) => match evsS (some b) T c.args.toList with
            | some (az, E) => some (b, f, az ++ l, E0 ++ E)
            | _ => none
          | _ => none
        | _ => none
      | _ => none
    | _ => none
  | false => none
theorem callG_do {ops : Array Oper} {o : Oper} {H : Hp} {T : List (Nat × SV)} {G : Gr} {a : Act} {w : World} (A : Sy n T H ks G0 w0 G a w) {b : Bool} {f : Nat} {az : List SV} {E : Ob} (h : callG n ops T o = some (b, f, az, E)) (hE : okE E) (hent : b = true → Ent_ P f = some (false, false)) : (b = false → Region.wanted o (yielded ops a.tmps) = false) ∧ (b = true → ∃ vs, denL G az = some vs ∧ ∀ {R : Ending → World → Prop} {K : Value → World → Prop}, Calls P f vs.toArray w R → (∀ e w', R e w' → ∃ v, e = .returned v ∧ K v w') → Does P ops o a w K) := by
  obtain ⟨d, i, ty, pos, af, gd⟩ := o
  unfold callG at h
  split at h
  · next hd =>
    split at h
    · next b' hg =>
      have hw := gd_sym A hg
      split at h
      · next c hc =>
        simp only at hc
        subst hc
        obtain ⟨callee, args, ats⟩ := c
        simp only at h
        split at h
        · next x =>
          split at h
          · next f' l E0 hx =>
            split at h
            · next az' E' hs =>
              cases h
              refine ⟨fun hb => by rw [hw, hb], fun hb => ?_⟩
              subst hb
              have h1 := A.evg (fun g hg => by cases hg; rfl) hx (okE_app hE).1
              unfold den at h1
              obtain ⟨ls, h2, h3⟩ := Option.map_eq_some_iff.1 h1
              obtain ⟨us, h4, h5⟩ := evs_den A hs
              have h6 := h5 (okE_app hE).2 (fun g hg => by cases hg; rfl)
              refine ⟨us ++ ls, denL_app h4 h2, fun hc hk => ?_⟩
              refine d_callx (lb := ls.toArray) (vs := us.toArray) (us := (us ++ ls).toArray) hw h3.symm (hent rfl) ?_ (by simp) hc hk
              rw [← h6]; apply Array.ext'; simp
            · cases h
          · cases h
        · cases h
      · cases h
    · cases h
  · cases h
theorem eff_pureG {ops : Array Oper} {Tw : List (Nat × SV)} {H : Hp} {o : Oper} {b : Bool} {f : Nat} {az : List SV} {E : Ob} {x : SV} {v0 : Value} (h : callG n ops Tw o = some (b, f, az, E)) (hE : okE E) (hin : inL 0 az = true) (hx0 : den [] x = some v0) (hf : b = true → Fn P f az [] (Rt x [])) : EffOK P n ops ks G0 w0 Tw H o (.opt b x) H := by
  intro G a w A
  obtain ⟨k1, k2⟩ := callG_do (P := P) (ops := ops) A h hE (fun hb => (hf hb).1)
  cases b with
  | false =>
    refine does_not (k1 rfl) ⟨[], ?_, by simpa using A.ms⟩
    have := den_mono (G := []) G x (by simpa using hx0)
    simp at this
    simp [den, this]
  | true =>
    obtain ⟨hent, hf⟩ := hf rfl
    obtain ⟨vs, hv, hdo⟩ := k2 rfl
    have hM : Mem [] [] w := ⟨rfl, fun i e h => (by cases h), fun i j e f L M _ h => (by cases h)⟩
    have hv0 : denL [] az = some vs := by
      have := denL_take' (G := G) az hin
      simp only [List.take_zero] at this
      rw [this]; exact hv
    refine hdo (hf [] w vs hM hv0) ?_
    rintro e w' ⟨y, H', F, v, ⟨rfl, rfl⟩, hx, rfl, hM2, hmix, _⟩
    have hF : F = [] := by have := hM2.len; simp at this; exact List.eq_nil_of_length_eq_zero this.symm
    subst hF
    have hg : Grow w w' := ⟨hmix.os, hmix.tape, hmix.output, hmix.size, fun k hk => hmix.block k hk rfl⟩
    refine ⟨v, rfl, [], ?_, by simpa using A.ms.grow hg⟩
    have := den_mono (G := []) G y (by simpa using hx)
    simp at this
    simp [den, this]
def PcOK (P : Program) (n : Nat) (ops : Array Oper) (Tw : List (Nat × SV)) (o : Oper) (x : SV) : Prop :=
  (∃ f az, callS n ops Tw o = some (f, az) ∧ inL 0 az = true ∧ Fn P f az [] (Rt x [])) ∨ ∃ b y f az E v0, callG n ops Tw o = some (b, f, az, E) ∧ x = .opt b y ∧ okE E ∧ inL 0 az = true ∧ den [] y = some v0 ∧ (b = true → Fn P f az [] (Rt y []))
def PcAll (P : Program) (n : Nat) (ops : Array Oper) (l : List Oper) (xs : List SV) (T : List (Nat × SV)) : List (Nat × SV) → Prop
  | [] => True
  | (j, x) :: pc => (match lg l j with | some o => PcOK P n ops (twL o l xs 0 T) o x | none => True) ∧ PcAll P n ops l xs T pc
theorem pc_at {ops : Array Oper} : ∀ {pc : List (Nat × SV)} {j : Nat} {x : SV} {o : Oper}, PcAll P n ops l xs T pc → look pc j = some x → l[j]? = some o → PcOK P n ops (twL o l xs 0 T) o x
  | [], _, _, _, _, h, _ => by cases h
  | (k, y) :: pc, j, x, o, hA, h, ho => by
    unfold look at h
    cases hb : Nat.beq k j with
    | true =>
      rw [hb] at h
      cases h
      have := Nat.eq_of_beq_eq_true hb
      subst this
      have := hA.1
      rw [lg_is, ho] at this
      exact this
    | false => rw [hb] at h; exact pc_at hA.2 h ho
structure Drs where
  xs : List SV
  es : List (Nat × Hp)
  D : List (SV × SV)
  DH : List (Hp × Hp)
  E : Ob
def draws (X : Tx) (n : Nat) (pc : List (Nat × SV)) (cl : List (Nat × SV × Hp)) (l : List Oper) (T : List (Nat × SV)) (H : Hp) : Option Drs := match pass1 X n l.toArray pc cl l 0 T H with
  | some (xs, es) => match pass2 X n l.toArray l xs T es (H :: es.map (·.2)) pc l xs 0 with
    | some (D, E) => match pass3 X n l.toArray l xs T cl es H with
      | some (D', DH, E') => bif chainB l.toArray es then some ⟨xs, es, D ++ D', DH, E ++ E'⟩ else none
      | none => none
    | none => none
  | none => none
theorem DRAW0 {id : Nat} {H : Hp} {G : Gr} {a : Act} {w : World} {K : List Fr} {r : Drs} (hX : X.ok P = true) (hmo : P.follows .mixedOrders = true) (pc : List (Nat × SV)) (cl : List (Nat × SV × Hp)) (A : Sy n T H ks G0 w0 G a w) (h : draws X n pc cl l (keepT l T) H = some r) (hE : okE r.E) (hD : r.D.map (·.1) = r.D.map (·.2)) (hDH : r.DH.map (·.1) = r.DH.map (·.2)) (hfit : fitB l.toArray n [] = true)
    (hA : EffAll P n l.toArray ks G0 w0 l r.xs (keepT l T) cl r.es H) (hP : PcAll P n l.toArray l r.xs (keepT l T) pc) (hk : ∀ {G a w}, Sy n (putS l r.xs (keepT l T)) (lastH H r.es) ks G0 w0 G a w → Goal P Q K .norm a w) : Goal P Q K (.code (.region id l.toArray true)) a w := by
  unfold draws at h
  split at h
  · next xs es h1 =>
    split at h
    · next D E h2 =>
      split at h
      · next D' DH E' h3 =>
        cases hc : chainB l.toArray es with
        | false => rw [hc] at h; cases h
        | true =>
          rw [hc] at h
          cases h
          obtain ⟨e1, e2⟩ := okE_app hE
          simp only [List.map_append] at hD
          obtain ⟨d1, d2⟩ := List.append_inj hD (by
            have := congrArg List.length hD
            simp at this ⊢)
          refine wp_region_any hmo ?_
          have hB : Ms H ks G0 w0 G w.drew := A.ms.grow (Grow.refl w).drew
          refine drawn_go (P := P) (X := X) (xs := xs) (es := es) (hs := H :: es.map (·.2)) (T := keepT l T) hX hfit hc (fun t x hx j o h3 h4 i hi hne => lt_spec (by have := keepB_spec (keep_look hx).2 j o h3 h4; rwa [Nat.zero_add] at this) i hi hne) (pass1_len h1) (by simp) (fun i o hi he => ?_) (pass3_spec hX h3 e2 d2 hDH hA) (fun G a w H' hH' A' => ?_) _ _ _ _ 0 G (by simp) (by
            refine Nat.le_trans (List.length_filter_le _ _) (by simp)) ⟨A.size, A.defers, fun t x hx _ => A.get t x (keep_look hx).1, fun j o x d _ hj => ?_, ⟨H, rfl, hB⟩, fun i p H' hi => ?_, fun j o p _ hj => ?_⟩
          · obtain ⟨x, g1, g2⟩ := pass2_spec h2 e1 d1 i o hi (by rw [Nat.zero_add]; exact he)
            rw [Nat.zero_add] at g2
            refine ⟨x, g1, fun k H hk hm => ?_⟩
            rcases g2 with g2 | g2
            · rcases pc_at hP g2 hi with ⟨f, az, c1, c2, c3⟩ | ⟨b, y, f, az, E, v0, c1, rfl, c3, c4, c5, c6⟩
              · exact eff_pure c1 c2 c3
              · exact eff_pureG c1 c3 c4 c5 c6
            · obtain ⟨F, s1, s2⟩ := g2 k H hk hm
              exact eff_auto (out := .val x F) hX s1 s2
          · rw [lastH_is] at hH'
            cases hH'
            exact hk A'
          · exfalso; simp [Array.getD_eq_getD_getElem?, Array.getElem?_replicate] at hj; split at hj <;> simp at hj
          · constructor
            · intro hj; exfalso; simp [Array.getD_eq_getD_getElem?, Array.getElem?_replicate] at hj; split at hj <;> simp at hj
            · intro hj; omega
          · exfalso; simp [Array.getD_eq_getD_getElem?, Array.getElem?_replicate] at hj; split at hj <;> simp at hj
      · cases h
    · cases h
  · cases h
theorem DRAWN {Y : Tb} {id : Nat} {H : Hp} {G : Gr} {a : Act} {w : World} {K : List Fr} {r : Drs} (hX : Y.ok P = true) (hmo : P.follows .mixedOrders = true) (pc : List (Nat × SV)) (cl : List (Nat × SV × Hp)) (A : Sy n T H ks G0 w0 G a w) (h : draws ⟨Y, true⟩ n pc cl l (keepT l T) H = some r) (hE : okE r.E) (hD : r.D.map (·.1) = r.D.map (·.2)) (hDH : r.DH.map (·.1) = r.DH.map (·.2)) (hfit : fitB l.toArray n [] = true)
    (hA : EffAll P n l.toArray ks G0 w0 l r.xs (keepT l T) cl r.es H) (hP : PcAll P n l.toArray l r.xs (keepT l T) pc) (hk : ∀ {G a w}, Sy n (putS l r.xs (keepT l T)) (lastH H r.es) ks G0 w0 G a w → Goal P Q K .norm a w) : Goal P Q K (.code (.region id l.toArray true)) a w := DRAW0 (X := ⟨Y, true⟩) hX hmo pc cl A h hE hD hDH hfit hA hP hk
end
def inT (k : Nat) : List (Nat × SV) → Bool
  | [] => true
  | (_, x) :: T => inS k x && inT k T
theorem inT_at {k : Nat} : ∀ {T : List (Nat × SV)} {t : Nat} {x : SV}, inT k T = true → look T t = some x → inS k x = true
  | [], _, _, _, h => by cases h
  | (j, y) :: T, t, x, hb, h => by
    simp only [inT, Bool.and_eq_true] at hb
    unfold look at h
    cases hc : Nat.beq j t with
    | true => rw [hc] at h; cases h; exact hb.1
    | false => rw [hc] at h; exact inT_at hb.2 h
def inH (k : Nat) : Hp → Bool
  | [] => true
  | some (.blk cs) :: H => inL k cs && inH k H
  | _ :: H => inH k H
theorem inH_at {k : Nat} : ∀ {H : Hp} {i : Nat} {cs : List SV}, inH k H = true → H[i]? = some (some (.blk cs)) → inL k cs = true
  | [], _, _, _, h => by cases h
  | x :: H, 0, cs, hb, h => by cases h; simp only [inH, Bool.and_eq_true] at hb; exact hb.1
  | x :: H, i + 1, cs, hb, h => by
    refine inH_at (H := H) (i := i) ?_ h
    unfold inH at hb
    split at hb
    · next h => cases h
    · next h => cases h; rw [Bool.and_eq_true] at hb; exact hb.2
    · next h => cases h; exact hb
mutual
def nb : SV → SV
  | .tt => .bool true
  | .ff => .bool false
  | .agg l => .agg (nbL l)
  | .tup l => .tup (nbL l)
  | x => x
def nbL : List SV → List SV
  | [] => []
  | x :: l => nb x :: nbL l
end
mutual
theorem den_nb {G : Gr} : ∀ (x : SV), den G (nb x) = den G x
  | .tt => rfl
  | .ff => rfl
  | .agg l => by simp only [nb, den, denL_nb l]
  | .tup l => by simp only [nb, den, denL_nb l]
  | .ptr _ _ => rfl
  | .el _ _ _ _ => rfl
  | .ix _ _ _ _ _ => rfl
  | .sl _ _ _ => rfl
  | .fn _ _ => rfl
  | .opt _ _ => rfl
  | .int _ _ => rfl
  | .bool _ => rfl
  | .str _ => rfl
  | .sla _ _ _ => rfl
  | .sp _ _ _ => rfl
  | .st _ _ _ _ _ => rfl
  | .v _ => rfl
theorem denL_nb {G : Gr} : ∀ (l : List SV), denL G (nbL l) = denL G l
  | [] => rfl
  | x :: l => by simp only [nbL, denL, den_nb x, denL_nb l]
end
def nbH : Hp → Hp
  | [] => []
  | some (.blk cs) :: H => some (.blk (nbL cs)) :: nbH H
  | e :: H => e :: nbH H
theorem nbH_at : ∀ (H : Hp) (i : Nat), (nbH H)[i]? = (H[i]?).map fun e => match e with | some (.blk cs) => some (.blk (nbL cs)) | e => e
  | [], i => by simp [nbH]
  | e :: H, 0 => by
    cases e with
    | none => rfl
    | some q => cases q <;> rfl
  | e :: H, i + 1 => by
    have := nbH_at H i
    cases e with
    | none => simpa [nbH] using this
    | some q => cases q <;> simpa [nbH] using this
theorem nbH_len (H : Hp) : (nbH H).length = H.length := by
  induction H with
  | nil => rfl
  | cons e H ih =>
    cases e with
    | none => simp [nbH, ih]
    | some q => cases q <;> simp [nbH, ih]
theorem nb_same {H H2 : Hp} (h : nbH H = nbH H2) (i : Nat) (e : Ent) (he : H2[i]? = some (some e)) : ∃ e', H[i]? = some (some e') ∧ e'.mut = e.mut ∧ (e'.empty ↔ e.empty) ∧ ∀ G w p, EntOK G w p e' → EntOK G w p e := by
  have h1 := nbH_at H i
  have h2 := nbH_at H2 i
  rw [h, h2, he] at h1
  cases hq : H[i]? with
  | none => rw [hq] at h1; simp at h1
  | some o =>
    rw [hq] at h1
    cases o with
    | none => cases e <;> simp at h1
    | some e' =>
      cases e with
      | blk cs =>
        cases e' with
        | blk cs' =>
          simp at h1
          refine ⟨_, rfl, rfl, Iff.rfl, fun G w p hok => ?_⟩
          obtain ⟨L, vs, k1, k2, k3⟩ := hok
          exact ⟨L, vs, k1, by rw [← denL_nb, h1, denL_nb]; exact k2, k3⟩
        | lst => simp at h1
        | row => simp at h1
        | fac => simp at h1
      | fac b o =>
        cases e' with
        | blk cs' => simp at h1
        | lst => simp at h1
        | row => simp at h1
        | fac => simp at h1; obtain ⟨rfl, rfl⟩ := h1; exact ⟨_, rfl, rfl, Iff.rfl, fun G w p hok => hok⟩
      | lst s n f =>
        cases e' with
        | blk cs' => simp at h1
        | lst => simp at h1; obtain ⟨rfl, rfl, rfl⟩ := h1; exact ⟨_, rfl, rfl, Iff.rfl, fun G w p hok => hok⟩
        | row => simp at h1
        | fac => simp at h1
      | row a b c d f =>
        cases e' with
        | blk cs' => simp at h1
        | lst => simp at h1
        | fac => simp at h1
        | row => simp at h1; obtain ⟨rfl, rfl, rfl, rfl, rfl⟩ := h1; exact ⟨_, rfl, rfl, Iff.rfl, fun G w p hok => hok⟩
section
variable {P : Program} {X : Tx} {n : Nat} {ks : List Nat} {G0 : Gr} {w0 : World} {T : List (Nat × SV)} {H : Hp} {G : Gr} {a : Act} {w : World} {Q : Exit → Act → World → Prop}
theorem Sy.sayT (A : Sy n T H ks G0 w0 G a w) {T' : List (Nat × SV)} (h : T = T') : Sy n T' H ks G0 w0 G a w := h ▸ A
theorem Sy.sayH (A : Sy n T H ks G0 w0 G a w) {H' : Hp} (h : H = H') : Sy n T H' ks G0 w0 G a w := h ▸ A
theorem Sy.say (A : Sy n T H ks G0 w0 G a w) (t : Nat) (y : SV) {x : SV} (h : look T t = some x) (e : x = y) : Sy n ((t, y) :: T) H ks G0 w0 G a w :=
  ⟨A.size, A.defers, fun s z hz => by
    simp only [look] at hz
    cases hc : Nat.beq t s with
    | true => rw [hc] at hz; cases hz; have := Nat.eq_of_beq_eq_true hc; subst this; subst e; exact A.get t _ h
    | false => rw [hc] at hz; exact A.get s z hz, A.mem, A.pre, A.own, A.mix⟩
def cutT (T : List (Nat × SV)) : List Nat → Option (List (Nat × SV))
  | [] => some []
  | t :: l => match look T t, cutT T l with
    | some x, some r => some ((t, x) :: r)
    | _, _ => none
theorem cut_look {T : List (Nat × SV)} : ∀ {l : List Nat} {r : List (Nat × SV)}, cutT T l = some r → ∀ t x, look r t = some x → look T t = some x
  | [], r, h, t, x, hx => by cases h; cases hx
  | k :: l, r, h, t, x, hx => by
    unfold cutT at h
    split at h
    · next y r' hy hr =>
      cases h
      simp only [look] at hx
      cases hb : Nat.beq k t with
      | true => rw [hb] at hx; cases hx; rw [← Nat.eq_of_beq_eq_true hb]; exact hy
      | false => rw [hb] at hx; exact cut_look hr t x hx
    · cases h
theorem Sy.cut (A : Sy n T H ks G0 w0 G a w) (l : List Nat) {T' : List (Nat × SV)} (h : cutT T l = some T') : Sy n T' H ks G0 w0 G a w :=
  ⟨A.size, A.defers, fun t x hx => A.get t x (cut_look h t x hx), A.mem, A.pre, A.own, A.mix⟩
theorem Sy.trunc (A : Sy n T H ks G0 w0 G a w) (k : Nat) {H' : Hp} (hT : inT k T = true) (hH : H.take k = H') (hi : inH k H' = true) (hk : G0.length ≤ k) : Sy n T H' ks G0 w0 (G.take k) a w := by
  have at_ : ∀ (i : Nat) (e : Ent), H'[i]? = some (some e) → H[i]? = some (some e) ∧ i < k := by
    intro i e h
    rw [← hH] at h
    have hik : i < k := by
      have := (List.getElem?_eq_some_iff.1 h).1
      simp at this; omega
    rw [List.getElem?_take_of_lt hik] at h
    exact ⟨h, hik⟩
  have hG : ∀ i, i < k → (G.take k)[i]? = G[i]? := fun i h => List.getElem?_take_of_lt h
  refine ⟨A.size, A.defers, fun t x hx => by rw [den_take x (inT_at hT hx)]; exact A.get t x hx, ⟨by rw [← hH]; simp [A.mem.len], fun i e h => ?_, fun i j e f L M hij h1 h2 h3 h4 h5 => ?_⟩, ?_, fun i e L h1 h2 h3 => ?_, A.mix⟩
  · obtain ⟨h1, h2⟩ := at_ i e h
    rw [hG i h2]
    have := A.mem.ent i e h1
    cases e with
    | blk cs =>
      obtain ⟨L, vs, q1, q2, q3⟩ := this
      exact ⟨L, vs, q1, by rw [denL_take' cs (inH_at hi h)]; exact q2, q3⟩
    | lst => exact this
    | fac => exact this
    | row => exact this
  · obtain ⟨a1, a2⟩ := at_ i e h1
    obtain ⟨b1, b2⟩ := at_ j f h2
    rw [hG i a2] at h4
    rw [hG j b2] at h5
    exact A.mem.sep i j e f L M hij a1 b1 h3 h4 h5
  · obtain ⟨F, hF⟩ := A.pre
    exact ⟨F.take (k - G0.length), by rw [hF, List.take_append, List.take_of_length_le hk]⟩
  · obtain ⟨a1, a2⟩ := at_ i e h1
    rw [hG i a2] at h3
    exact A.own i e L a1 h2 h3
theorem RETN {Y : Tb} {fn : Func} {x : SV} {H2 : Hp} {H0 : Hp} (hX : Y.ok P = true) {y : SV} {H' : Hp} {r : List SV} {rv : List ResultVar} (A : Sy n T H (keys H0 G0) G0 w0 G a w) (hr : fn.results.toList = rv) (hv : resS ⟨Y, false⟩ T H rv = some r) (hy : oneS r = y) (h0 : H0.length = G0.length) (hi : inS H0.length y = true) (hH : H.take H0.length = H') (hj : inH H0.length H' = true) (hkp : klB H0 H2 = klA H2) (hR : nb y = nb x) (hS : nbH H' = nbH H2) : bodyPost P fn (Post (Rt x H2) H0 G0 w0) .ret a w := by
  obtain ⟨v, h1, h2⟩ := res_run (X := ⟨Y, false⟩) (fn := fn) hX A hr hv hy
  have A' := (A.cut [] rfl).trunc H0.length rfl hH hj (by omega)
  obtain ⟨F, hF⟩ := A.pre
  have hG : G.take H0.length = G0 := by rw [hF, h0]; simp
  rw [hG] at A'
  have hl2 : H2.length = H'.length := by rw [← nbH_len H2, ← hS, nbH_len]
  refine ⟨A.defers, v, h2, x, H2, [], v, ⟨rfl, rfl⟩, ?_, rfl, ?_, A.mix, ?_, kl_kept hkp, fun i e he hm L hL => ?_⟩
  · rw [List.append_nil, ← den_nb, ← hR, den_nb, ← hG, den_take y hi]; exact h1
  · rw [List.append_nil]
    refine ⟨by rw [hl2]; exact A'.mem.len, fun i e he => ?_, fun i j e f L M hij he hf hm hL hM hne => ?_⟩
    · obtain ⟨e', k1, _, _, k2⟩ := nb_same hS i e he
      exact k2 _ _ _ (A'.mem.ent i e' k1)
    · obtain ⟨e', k1, k2, _, _⟩ := nb_same hS i e he
      obtain ⟨f', l1, _, l2, _⟩ := nb_same hS j f hf
      exact A'.mem.sep i j e' f' L M hij k1 l1 (by rw [k2]; exact hm) hL hM (fun h => hne (l2.1 h))
  · rw [hl2, A'.mem.len]; exact Nat.le_refl _
  · rw [List.append_nil] at hL
    obtain ⟨e', k1, k2, _, _⟩ := nb_same hS i e he
    exact A'.own i e' L k1 (by rw [k2]; exact hm) hL
theorem LOOP {β : Type} {c : Code} {K : List Fr} (T' : β → List (Nat × SV)) (H' : β → Hp) (I : β → Prop) (μ : β → Nat) (z : β) (hI : I z) (A : Sy n (T' z) (H' z) ks G0 w0 G a w)
    (round : ∀ z, I z → ∀ {G a w}, Sy n (T' z) (H' z) ks G0 w0 G a w → Goal P Q (.lp (fun a w => ∃ z' G, μ z' < μ z ∧ I z' ∧ Sy n (T' z') (H' z') ks G0 w0 G a w) :: K) (.code c) a w) : Goal P Q K (.code (.loop c)) a w := by
  refine loop_by (fun m a w => ∃ z G, μ z = m ∧ I z ∧ Sy n (T' z) (H' z) ks G0 w0 G a w) (μ z) ⟨z, G, rfl, hI, A⟩ ?_
  rintro m a w ⟨z, G, rfl, hz, A⟩
  refine Code.wp_mono (fun e a' w' h => ?_) (round z hz A)
  cases e with
  | normal => obtain ⟨z', G', h1, h2, h3⟩ := h; exact ⟨μ z', h1, z', G', rfl, h2, h3⟩
  | _ => exact h
theorem LOOP1 {α : Type} {c : Code} {K : List Fr} (T' : α → List (Nat × SV)) (H' : α → Hp) (I : α → Prop) (μ : α → Nat) (x : α) (hI : I x) (A : Sy n (T' x) (H' x) ks G0 w0 G a w)
    (round : ∀ x, I x → ∀ {G a w}, Sy n (T' x) (H' x) ks G0 w0 G a w → Goal P Q (.lp (fun a w => ∃ x' G, μ x' < μ x ∧ I x' ∧ Sy n (T' x') (H' x') ks G0 w0 G a w) :: K) (.code c) a w) : Goal P Q K (.code (.loop c)) a w := LOOP T' H' I μ x hI A round
theorem lp_mono {c : Code} {K : List Fr} {J J' : Act → World → Prop} (h : ∀ a w, J a w → J' a w) (hg : Goal P Q (.lp J :: K) (.code c) a w) : Goal P Q (.lp J' :: K) (.code c) a w := by
  refine Code.wp_mono (fun e a' w' hq => ?_) hg
  cases e with
  | normal => exact h _ _ hq
  | _ => exact hq
theorem LOOP2 {α β : Type} {c : Code} {K : List Fr} (T' : α → β → List (Nat × SV)) (H' : α → β → Hp) (I : α → β → Prop) (μ : α → β → Nat) (x : α) (y : β) (hI : I x y) (A : Sy n (T' x y) (H' x y) ks G0 w0 G a w)
    (round : ∀ x y, I x y → ∀ {G a w}, Sy n (T' x y) (H' x y) ks G0 w0 G a w → Goal P Q (.lp (fun a w => ∃ x' y' G, μ x' y' < μ x y ∧ I x' y' ∧ Sy n (T' x' y') (H' x' y') ks G0 w0 G a w) :: K) (.code c) a w) : Goal P Q K (.code (.loop c)) a w :=
  LOOP (fun z : α × β => T' z.1 z.2) (fun z => H' z.1 z.2) (fun z => I z.1 z.2) (fun z => μ z.1 z.2) (x, y) hI A fun z hz {G a w} A => lp_mono (fun a w ⟨x', y', G, h1, h2, h3⟩ => ⟨(x', y'), G, h1, h2, h3⟩) (round z.1 z.2 hz A)
theorem LOOP3 {α β γ : Type} {c : Code} {K : List Fr} (T' : α → β → γ → List (Nat × SV)) (H' : α → β → γ → Hp) (I : α → β → γ → Prop) (μ : α → β → γ → Nat) (x : α) (y : β) (u : γ) (hI : I x y u) (A : Sy n (T' x y u) (H' x y u) ks G0 w0 G a w)
    (round : ∀ x y u, I x y u → ∀ {G a w}, Sy n (T' x y u) (H' x y u) ks G0 w0 G a w → Goal P Q (.lp (fun a w => ∃ x' y' u' G, μ x' y' u' < μ x y u ∧ I x' y' u' ∧ Sy n (T' x' y' u') (H' x' y' u') ks G0 w0 G a w) :: K) (.code c) a w) : Goal P Q K (.code (.loop c)) a w :=
  LOOP (fun z : α × β × γ => T' z.1 z.2.1 z.2.2) (fun z => H' z.1 z.2.1 z.2.2) (fun z => I z.1 z.2.1 z.2.2) (fun z => μ z.1 z.2.1 z.2.2) (x, y, u) hI A fun z hz {G a w} A => lp_mono (fun a w ⟨x', y', u', G, h1, h2, h3⟩ => ⟨(x', y', u'), G, h1, h2, h3⟩) (round z.1 z.2.1 z.2.2 hz A)
theorem JOIN {β : Type} {c : Code} {K : List Fr} (T' : β → List (Nat × SV)) (H' : β → Hp) (I : β → Prop) (A : Sy n T H ks G0 w0 G a w) (h : ∀ {G a w}, Sy n T H ks G0 w0 G a w → Goal P Q (.lp (fun a w => ∃ z G, I z ∧ Sy n (T' z) (H' z) ks G0 w0 G a w) :: K) (.code c) a w)
    (hk : ∀ z, I z → ∀ {G a w}, Sy n (T' z) (H' z) ks G0 w0 G a w → Goal P Q K .norm a w) : Goal P Q K (.code c) a w := by
  refine Code.wp_mono (fun e a' w' h => ?_) (h A)
  cases e with
  | normal => obtain ⟨z, G, h1, h2⟩ := h; exact hk z h1 h2
  | _ => exact h
end
theorem ok_d {p : Prop} [Decidable p] {E : Ob} (h : p) (k : okE E) : okE ((decide p, true) :: E) := by unfold okE at *; simp [h, k]
theorem ok_g {b : Bool} {p : Prop} [Decidable p] {E : Ob} (h : b = true → p) (k : okE E) : okE ((!b || decide p, true) :: E) := by
  unfold okE at *
  cases b with
  | false => simp [k]
  | true => simp [h rfl, k]
theorem ok_r {b : Bool} {E : Ob} (k : okE E) : okE ((b, b) :: E) := by unfold okE at *; simp [k]
theorem own_split {w : World} {e s n : Nat} {v : Value} {xs : List Value} (h : w.ownsRow 0 e s v n xs) : ∃ (p : Option Loc), v = .slice (p.map fun L => ⟨L.b, L.pre.length, none⟩) n (0 + rm p) ∧ (∀ L, p = some L → L.pre = []) ∧ v.ownBlock = p.map (·.b) := by
  rcases h.2 with ⟨rfl, rfl⟩ | ⟨g, cap, cur, rfl, _⟩
  · exact ⟨none, rfl, fun L h => (by cases h), rfl⟩
  · exact ⟨some ⟨g, [], List.replicate cap undef, e⟩, by simp [rm], fun L h => (by cases h; rfl), rfl⟩
section
variable {P : Program} {X : Tx} {n : Nat} {ks : List Nat} {G0 : Gr} {w0 : World} {T : List (Nat × SV)} {H : Hp} {G : Gr} {a : Act} {w w' : World} {Q : Exit → Act → World → Prop} {K : List Fr} {ops : Array Oper} {o : Oper} {rest : List Oper}
theorem Sy.rowMove (A : Sy n T H ks G0 w0 G a w) {i e s m c m' c' : Nat} {f f' : Nat → List SV} {xs' : List Value} {p' : Option Loc} (hi : H[i]? = some (some (.row e s m c f)))
    (hg : w.grownBy w' (((G[i]?).getD none).map (·.b))) (hown : w'.ownsRow 0 e s (.slice (p'.map fun L => ⟨L.b, L.pre.length, none⟩) m' (c' + rm p')) m' xs') (hpre : ∀ L, p' = some L → L.pre = []) (hlies : p'.map (·.b) = ((G[i]?).getD none).map (·.b) ∨ p'.map (·.b) = some w.heap.size)
    (hf : flatV f' m' = some xs') (htot : ∀ k, ∃ vs, denL [] (f' k) = some vs ∧ vs.length = s) : Sy n T (stH H i none ++ [some (.row e s m' c' f')]) ks G0 w0 (G ++ [p']) a w' := by
  have hlen := A.mem.len
  have hilt : i < H.length := (List.getElem?_eq_some_iff.1 hi).1
  have hsl : (stH H i none).length = H.length := by rw [stH_is]; simp
  obtain ⟨q, hq⟩ : ∃ q, G[i]? = some q := ⟨G[i], by simp [← hlen, hilt]⟩
  rw [hq] at hg hlies
  simp only [Option.getD_some] at hg hlies
  have hold : ∀ (j : Nat) (x : Ent), (stH H i none ++ [some (.row e s m' c' f')])[j]? = some (some x) → (j ≠ i ∧ H[j]? = some (some x) ∧ j < H.length) ∨ (j = H.length ∧ x = .row e s m' c' f') := by
    intro j x h
    by_cases hj : j < H.length
    · rw [List.getElem?_append_left (by omega), stH_is] at h
      by_cases hji : j = i
      · subst hji; rw [List.getElem?_set_self hilt] at h; cases h
      · rw [List.getElem?_set_ne (Ne.symm hji)] at h; exact .inl ⟨hji, h, hj⟩
    · rw [List.getElem?_append_right (by omega), hsl] at h
      have : j - H.length = 0 := by
        cases hq : j - H.length with
        | zero => rfl
        | succ k => rw [hq] at h; simp at h
      rw [this] at h
      simp at h
      exact .inr ⟨by omega, h.symm⟩
  have hG : ∀ j, j < H.length → (G ++ [p'])[j]? = G[j]? := fun j hj => List.getElem?_append_left (by omega)
  have hGn : (G ++ [p'])[H.length]? = some p' := by rw [List.getElem?_append_right (by omega), hlen]; simp
  -- others lie elsewhere
  have hoff : ∀ (j : Nat) (x : Ent) (L : Loc), j ≠ i → H[j]? = some (some x) → G[j]? = some (some L) → ¬ x.empty → q.map (·.b) ≠ some L.b ∧ L.b < w.heap.size := by
    intro j x L hji hx hL hne
    have hlt : L.b < w.heap.size := by
      have := A.mem.ent j x hx
      rw [hL] at this
      exact EntOK.lt this hne
    refine ⟨fun hb => ?_, hlt⟩
    cases q with
    | none => cases hb
    | some M =>
      simp only [Option.map_some, Option.some.injEq] at hb
      exact A.mem.sep i j _ x M L (Ne.symm hji) hi hx rfl hq hL hne hb
  have hmx : Mix (match q with | some M => [M.b] | none => []) w w' := ⟨hg.os, hg.tape, hg.output, hg.size, fun k hk hc => hg.block k hk (fun hb => by
    cases q with
    | none => cases hb
    | some M => simp at hb hc; exact hc hb)⟩
  have hnew : ∀ L, p' = some L → (ks.contains L.b = true ∨ w0.heap.size ≤ L.b) := by
    intro L hL
    subst hL
    rcases hlies with h | h
    · cases q with
      | none => cases h
      | some M => simp at h; rw [h]; exact A.own i _ M hi rfl hq
    · simp at h; right; rw [h]; exact A.mix.size
  refine ⟨A.size, A.defers, fun t x hx => den_mono _ x (A.get t x hx), ⟨by simp [hsl, hlen], ?_, ?_⟩, ?_, ?_, ?_⟩
  · intro j x h
    rcases hold j x h with ⟨h1, h2, h3⟩ | ⟨rfl, rfl⟩
    · rw [hG j h3]
      refine ((A.mem.ent j x h2).mix hmx fun hne L hL => ?_).more _
      have := (hoff j x L h1 h2 (get_loc hL) hne).1
      cases q with
      | none => rfl
      | some M => simp at this ⊢; exact fun h => this h.symm
    · rw [hGn]; exact ⟨htot, hpre, xs', hf, hown⟩
  · intro j k x y L M hjk h1 h2 h3 h4 h5 h6
    rcases hold j x h1 with ⟨a1, a2, a3⟩ | ⟨rfl, rfl⟩
    · rw [hG j a3] at h4
      rcases hold k y h2 with ⟨b1, b2, b3⟩ | ⟨rfl, rfl⟩
      · rw [hG k b3] at h5; exact A.mem.sep j k x y L M hjk a2 b2 h3 h4 h5 h6
      · rw [hGn] at h5
        cases h5
        obtain ⟨g1, g2⟩ := hoff j x L a1 a2 h4 (mut_full h3)
        intro hLM
        rcases hlies with h | h
        · rw [← h] at g1; simp at g1; exact g1 hLM.symm
        · simp at h; omega
    · rw [hGn] at h4
      cases h4
      rcases hold k y h2 with ⟨b1, b2, b3⟩ | ⟨rfl, rfl⟩
      · rw [hG k b3] at h5
        obtain ⟨g1, g2⟩ := hoff k y M b1 b2 h5 h6
        intro hLM
        rcases hlies with h | h
        · rw [← h] at g1; simp at g1; exact g1 hLM
        · simp at h; omega
      · exact absurd rfl hjk
  · obtain ⟨F, hF⟩ := A.pre; exact ⟨F ++ [p'], by rw [hF, List.append_assoc]⟩
  · intro j x L h1 h2 h3
    rcases hold j x h1 with ⟨a1, a2, a3⟩ | ⟨rfl, rfl⟩
    · rw [hG j a3] at h3; exact A.own j x L a2 h2 h3
    · rw [hGn] at h3; cases h3; exact hnew L rfl
  · refine A.mix.mix hmx fun k hk hc => ?_
    cases q with
    | none => rfl
    | some M =>
      simp only [List.contains_cons, List.contains_nil, Bool.or_false, beq_eq_false_iff_ne, ne_eq]
      intro hkM
      subst hkM
      rcases A.own i _ M hi rfl hq with h | h
      · rw [h] at hc; cases hc
      · omega
theorem Sy.nilRow (A : Sy n T H ks G0 w0 G a w) (t e s : Nat) (f : Nat → List SV) (h : look T t = some (.sla none 0 0)) (htot : ∀ k, ∃ vs, denL [] (f k) = some vs ∧ vs.length = s) : Sy n ((t, .sl H.length 0 0) :: T) (H ++ [some (.row e s 0 0 f)]) ks G0 w0 (G ++ [none]) a w := by
  have hlen := A.mem.len
  have hold : ∀ (j : Nat) (x : Ent), (H ++ [some (.row e s 0 0 f)])[j]? = some (some x) → (H[j]? = some (some x) ∧ j < H.length) ∨ (j = H.length ∧ x = .row e s 0 0 f) := by
    intro j x h
    by_cases hj : j < H.length
    · rw [List.getElem?_append_left hj] at h; exact .inl ⟨h, hj⟩
    · rw [List.getElem?_append_right (by omega)] at h
      have : j - H.length = 0 := by
        cases hq : j - H.length with
        | zero => rfl
        | succ k => rw [hq] at h; simp at h
      rw [this] at h
      simp at h
      exact .inr ⟨by omega, h.symm⟩
  have hG : ∀ j, j < H.length → (G ++ [(none : Option Loc)])[j]? = G[j]? := fun j hj => List.getElem?_append_left (by omega)
  have hGn : (G ++ [(none : Option Loc)])[H.length]? = some none := by rw [List.getElem?_append_right (by omega), hlen]; simp
  have A1 : Sy n T (H ++ [some (.row e s 0 0 f)]) ks G0 w0 (G ++ [none]) a w := by
    refine ⟨A.size, A.defers, fun t x hx => den_mono _ x (A.get t x hx), ⟨by simp [hlen], ?_, ?_⟩, ?_, ?_, A.mix⟩
    · intro j x h
      rcases hold j x h with ⟨h2, h3⟩ | ⟨rfl, rfl⟩
      · rw [hG j h3]; exact (A.mem.ent j x h2).more _
      · rw [hGn]; exact ⟨htot, fun L h => (by cases h), [], rfl, by simp, .inl ⟨rfl, rfl⟩⟩
    · intro j k x y L M hjk h1 h2 h3 h4 h5 h6
      rcases hold j x h1 with ⟨a2, a3⟩ | ⟨rfl, rfl⟩
      · rw [hG j a3] at h4
        rcases hold k y h2 with ⟨b2, b3⟩ | ⟨rfl, rfl⟩
        · rw [hG k b3] at h5; exact A.mem.sep j k x y L M hjk a2 b2 h3 h4 h5 h6
        · rw [hGn] at h5; cases h5
      · rw [hGn] at h4; cases h4
    · obtain ⟨F, hF⟩ := A.pre; exact ⟨F ++ [none], by rw [hF, List.append_assoc]⟩
    · intro j x L h1 h2 h3
      rcases hold j x h1 with ⟨a2, a3⟩ | ⟨rfl, rfl⟩
      · rw [hG j a3] at h3; exact A.own j x L a2 h2 h3
      · rw [hGn] at h3; cases h3
  refine ⟨A1.size, A1.defers, fun u x hx => ?_, A1.mem, A1.pre, A1.own, A1.mix⟩
  simp only [look] at hx
  cases hb : Nat.beq t u with
  | true =>
    rw [hb] at hx
    cases hx
    have := Nat.eq_of_beq_eq_true hb
    subst this
    have := A.get t _ h
    simp only [den, Option.some.injEq] at this
    unfold den
    rw [hGn, ← this]; rfl
  | false => rw [hb] at hx; exact A1.get u x hx
def appS (X : Tx) (n : Nat) (ops : Array Oper) (T : List (Nat × SV)) (H : Hp) (o : Oper) : Option ((Nat × Nat × Nat × Nat × Nat) × (Nat → List SV) × List SV × (Nat × Nat) × Ob) := match fitsD n o.dst with
  | true => match guardS ops T o.guard with
    | some .run => match o.op with
      | .call c => match c.callee, c.args.toList, c.argTypes.toList with
        | .builtin .append, [x, y], [t, t'] => match evS T x, evS T y, Nat.beq t t' with
          | some (.sl i nn cc), some (.sl j 1 1), true => match lg H i, lg H j, X.get t with
            | some (some (.row e s m c f)), some (some (.blk cs)), some ti => match ti.elm, onesS cs with
              | some (e', s', b), some E => match Nat.beq e e' && Nat.beq s s' && Nat.beq cs.length s && Nat.ble b 10000 && inL 0 cs with
                | true => some ((i, e, s, m, c), f, cs, (nn, cc), E)
                | false => none
              | _, _ => none
            | _, _, _ => none
          | _, _, _ => none
        | _, _, _ => none
      | _ => none
    | _ => none
  | false => none
theorem appE {Y : Tb} {i e s m c nn cc : Nat} {f : Nat → List SV} {cs : List SV} {E : Ob} (hX : Y.ok P = true) (m' : Nat) (f' : Nat → List SV) (h : appS ⟨Y, false⟩ n ops T H o = some ((i, e, s, m, c), f, cs, (nn, cc), E)) (hE : okE E) (h1 : nn = m) (h2 : cc = c) (hb : m ≤ 1000000) (hm' : m' = m + 1)
    (hf : ∀ k, k < m → f' k = f k) (hn : f' m = cs) (htot : ∀ k, ∃ vs, denL [] (f' k) = some vs ∧ vs.length = s) : EffOK P n ops ks G0 w0 T H o (.sl H.length m' 0) (stH H i none ++ [some (.row e s m' 0 f')]) := by
  intro G a w A
  subst hm'
  obtain ⟨d, op, ty, pos, af, gd⟩ := o
  unfold appS at h
  split at h
  · next hd =>
    split at h
    · next hg =>
      have hw := gd_run (gd := none) A hg
      split at h
      · next ca hca =>
        simp only at hca
        subst hca
        obtain ⟨callee, args, ats⟩ := ca
        simp only at h
        split at h
        · next x y t t' ha ht =>
          split at h
          · next i' nn' cc' j hx hy htt =>
            split at h
            · next e' s' m' c1 f1 cs' ti hi hj hti =>
              split at h
              · next e2 s2 b E' hel hon =>
                split at h
                · next hck =>
                  cases h
                  subst h1; subst h2
                  simp only [Bool.and_eq_true] at hck
                  obtain ⟨⟨⟨⟨c1, c2⟩, c3⟩, c4⟩, c5⟩ := hck
                  have e1 := Nat.eq_of_beq_eq_true c1
                  have e2 := Nat.eq_of_beq_eq_true c2
                  have e3 := Nat.eq_of_beq_eq_true c3
                  have e4 := Nat.eq_of_beq_eq_true htt
                  have hby := Nat.le_of_ble_eq_true c4
                  subst e1; subst e2; subst e4
                  rw [lg_is] at hi hj
                  have hargs : args = #[x, y] := by have := congrArg List.toArray ha; simpa using this
                  have hats : ats = #[t, t] := by have := congrArg List.toArray ht; simpa using this
                  subst hargs; subst hats
                  obtain ⟨r1, r2, xs, r3, r4⟩ := A.mem.ent i _ hi
                  obtain ⟨L, vs, b1, b2, b3⟩ := A.mem.ent j _ hj
                  obtain ⟨ie, z, f1', f2', f3', f4', f5', f6', f7'⟩ := elem_facts (ti_elm (i := ti) (Tb.at (X := Y) hX hti) hel)
                  have hvx := A.ev hx
                  have hvy := A.ev hy
                  obtain ⟨q, hq⟩ : ∃ q, G[i]? = some q := by
                    have : i < G.length := by rw [← A.mem.len]; exact (List.getElem?_eq_some_iff.1 hi).1
                    exact ⟨G[i], by simp [this]⟩
                  rw [hq] at r2 r4
                  simp only [Option.getD_some] at r2 r4
                  unfold den at hvx hvy
                  rw [hq] at hvx
                  rw [get_loc b1] at hvy
                  simp only [Option.some.injEq] at hvx hvy
                  have hvs0 : denL [] cs = some vs := by
                    have := denL_take' (G := G) cs c5
                    simp only [List.take_zero] at this
                    rw [this]; exact b2
                  have hvl : vs.length = s := by rw [denL_len b2, e3]
                  have hrange := EntOK.range (A.mem.ent j _ hj)
                  obtain ⟨L2, vs2, g1, g2, g3⟩ := hrange
                  rw [b1] at g1; cases g1
                  rw [b2] at g2; cases g2
                  have hone := onesS_spec hon hE b2
                  have hmul : (nn + 1) * b ≤ 1000001 * 10000 := Nat.mul_le_mul (by omega) hby
                  obtain ⟨v', w', hr, k1, k2, _, k4⟩ := run_append_own_at (P := P) w 0 t ty e ie z s b f1' f2' f3' f4' f5' f6' f7' _ nn xs r4 ⟨L.b, L.pre.length, none⟩ 1 (1 + rm (some L)) vs (by omega)
                    (fun j u hj => by rw [Addr.add_mid]; exact g3 j u hj) (fun u hu => (List.all_eq_true.1 hone) u hu) (by simp only [maxLen]; omega) (by omega) (Nat.zero_le _)
                  obtain ⟨p', o1, o2, o3⟩ := own_split k1
                  have hflat : flatV f' (nn + 1) = some (xs ++ vs) := by
                    unfold flatV
                    rw [flat_congr hf, r3, hn, hvs0]
                  have hob : Value.ownBlock (.slice (q.map fun L => ⟨L.b, L.pre.length, none⟩) nn (cc + rm q)) = q.map (·.b) := by cases q <;> rfl
                  rw [hob] at k2 k4
                  rw [o3] at k4
                  rw [o1] at k1
                  refine does_val (v := v') (w' := w') hw ?_ ?_
                  · unfold execOp
                    simp only [resolve, invoke, builtin, Sem.run_bind, Sem.run_pure, Result.andThen_ok, List.map_toArray, List.map_cons, List.map_nil, ← hvx, ← hvy]
                    simp only [Option.map_some] at hr ⊢
                    simp only [hr, Result.andThen_ok]
                  · have A2 := A.rowMove (p' := p') hi (by rw [hq]; exact k2) k1 o2 (by rw [hq]; exact k4) hflat htot
                    refine ⟨[p'], ?_, A2.ms⟩
                    unfold den
                    rw [List.getElem?_append_right (by rw [A.mem.len]; exact Nat.le_refl _), A.mem.len]
                    simp [o1]
                · cases h
              · cases h
            · cases h
          · cases h
        · cases h
      · cases h
    · cases h
  · cases h
theorem q_eff {x : SV} {H' : Hp} (A : Sy n T H ks G0 w0 G a w) (hd : fitsD n o.dst = true) (h : EffOK P n ops ks G0 w0 T H o x H') (hk : ∀ {G a w}, Sy n (extS T o.dst x) H' ks G0 w0 G a w → Goal P Q K (.ops ops rest) a w) : Goal P Q K (.ops ops (o :: rest)) a w := by
  refine q_does (Q := wpK P Q K) ?_
  rcases h G a w A with ⟨hw, h⟩ | ⟨hw, F, h1, h2⟩
  · refine .inl ⟨hw, fun Q' => ?_⟩
    refine Oper.wp_mono (fun a' w' hh => ?_) (h Q')
    obtain ⟨v, rfl, F, h1, h2⟩ := hh
    exact ⟨v, rfl, hk (Sy.put (h2.sy A.size A.defers fun t y hy => den_mono F y (A.get t y hy)) hd h1)⟩
  · exact .inr ⟨hw, hk (Sy.put (h2.sy A.size A.defers fun t y hy => den_mono F y (A.get t y hy)) hd h1)⟩
end
theorem flat_inv {f : Nat → List SV} {s : Nat} (hs : ∀ k, ∃ vs, denL [] (f k) = some vs ∧ vs.length = s) : ∀ {n : Nat} {xs : List Value}, flatV f n = some xs → ∀ (j : Nat) (u : Value), xs[j]? = some u → ∃ k q vs, k < n ∧ denL [] (f k) = some vs ∧ vs[q]? = some u ∧ j = k * s + q
  | 0, xs, h, j, u, hj => by cases h; cases hj
  | n + 1, xs, h, j, u, hj => by
    unfold flatV at h
    obtain ⟨vs, h1, h2⟩ := hs n
    split at h
    · next l hl =>
      rw [h1] at h
      cases h
      have hll := flat_len hs hl
      by_cases hjl : j < l.length
      · rw [List.getElem?_append_left hjl] at hj
        obtain ⟨k, q, us, a1, a2, a3, a4⟩ := flat_inv hs hl j u hj
        exact ⟨k, q, us, by omega, a2, a3, a4⟩
      · rw [List.getElem?_append_right (by omega)] at hj
        exact ⟨n, j - l.length, vs, by omega, h1, hj, by omega⟩
    · cases h
theorem flat_take {f : Nat → List SV} {s : Nat} (hs : ∀ k, ∃ vs, denL [] (f k) = some vs ∧ vs.length = s) : ∀ {n : Nat} {xs : List Value}, flatV f n = some xs → ∀ m, m ≤ n → flatV f m = some (xs.take (m * s))
  | 0, xs, h, m, hm => by
    cases h
    have : m = 0 := by omega
    subst this
    simp [flatV]
  | n + 1, xs, h, m, hm => by
    by_cases hmn : m = n + 1
    · subst hmn
      rw [List.take_of_length_le (by rw [flat_len hs h]; exact Nat.le_refl _)]; exact h
    · unfold flatV at h
      obtain ⟨vs, h1, h2⟩ := hs n
      split at h
      · next l hl =>
        rw [h1] at h
        cases h
        have hll := flat_len hs hl
        have hmul : m * s ≤ n * s := Nat.mul_le_mul_right s (by omega)
        rw [List.take_append_of_le_length (by omega)]
        exact flat_take hs hl m (by omega)
      · cases h
theorem flat_more {f : Nat → List SV} : ∀ (m n : Nat) {xs ys : List Value}, flatV f n = some xs → flatV (fun k => f (n + k)) m = some ys → flatV f (n + m) = some (xs ++ ys)
  | 0, n, xs, ys, h, k => by cases k; simpa using h
  | m + 1, n, xs, ys, h, k => by
    unfold flatV at k
    split at k
    · next l hl =>
      split at k
      · next vs hv =>
        cases k
        rw [show n + (m + 1) = (n + m) + 1 by omega]
        unfold flatV
        rw [flat_more m n h hl, hv]
        simp
      · cases k
    · cases k
theorem flat_set {f f' : Nat → List SV} {s k : Nat} {vs' : List Value} (hs : ∀ k, ∃ vs, denL [] (f k) = some vs ∧ vs.length = s) (hne : ∀ j, j ≠ k → f' j = f j) (hk : denL [] (f' k) = some vs') (hl : vs'.length = s) : ∀ {n : Nat} {xs : List Value}, flatV f n = some xs → k < n → flatV f' n = some (xs.take (k * s) ++ vs' ++ xs.drop ((k + 1) * s))
  | 0, xs, h, hkn => by omega
  | n + 1, xs, h, hkn => by
    unfold flatV at h
    obtain ⟨vs, h1, h2⟩ := hs n
    split at h
    · next l hll =>
      rw [h1] at h
      cases h
      have hlen := flat_len hs hll
      unfold flatV
      by_cases hk2 : k = n
      · subst hk2
        rw [flat_congr (g := f) (fun j hj => hne j (by omega)), hll, hk]
        simp only [Option.some.injEq]
        rw [List.take_append_of_le_length (by omega), List.take_of_length_le (by omega), List.drop_of_length_le (by simp [Nat.add_mul]; omega)]
        simp
      · rw [flat_set hs hne hk hl hll (by omega), hne n (fun e => hk2 e.symm), h1]
        simp only [Option.some.injEq]
        have hmul : (k + 1) * s ≤ n * s := Nat.mul_le_mul_right s (by omega)
        have hmul2 : (k + 1) * s = k * s + s := by simp [Nat.add_mul]
        rw [List.take_append_of_le_length (by omega), List.drop_append_of_le_length (by omega)]
        simp
    · cases h
section
variable {P : Program} {X : Tx} {n : Nat} {ks : List Nat} {G0 : Gr} {w0 : World} {T : List (Nat × SV)} {H : Hp} {G : Gr} {a : Act} {w w' : World} {Q : Exit → Act → World → Prop} {K : List Fr} {ops : Array Oper} {o : Oper} {rest : List Oper}
theorem Sy.asList (A : Sy n T H ks G0 w0 G a w) (i : Nat) {s m : Nat} {f g : Nat → List SV} {e : Ent} (hi : H[i]? = some (some e)) (he : (∃ ty c, e = .row ty s m c f) ∨ ∃ cs, e = .blk cs ∧ ∀ k, k < m → tk s (dp (k * s) cs) = some (f k) ∧ inL 0 (f k) = true) (hg : ∀ k, k < m → g k = f k) (htot : ∀ k, ∃ vs, denL [] (g k) = some vs) : Sy n T (stH H i (some (.lst s m g))) ks G0 w0 G a w := by
  have hilt : i < H.length := (List.getElem?_eq_some_iff.1 hi).1
  have hmut : e.mut = true := by rcases he with ⟨_, _, rfl⟩ | ⟨_, rfl, _⟩ <;> rfl
  have hold : ∀ (j : Nat) (x : Ent), (stH H i (some (.lst s m g)))[j]? = some (some x) → (j ≠ i ∧ H[j]? = some (some x)) ∨ (j = i ∧ x = .lst s m g) := by
    intro j x h
    rw [stH_is] at h
    by_cases hj : j = i
    · subst hj; rw [List.getElem?_set_self hilt] at h; cases h; exact .inr ⟨rfl, rfl⟩
    · rw [List.getElem?_set_ne (Ne.symm hj)] at h; exact .inl ⟨hj, h⟩
  refine ⟨A.size, A.defers, A.get, ⟨by rw [stH_is]; simpa using A.mem.len, ?_, ?_⟩, A.pre, ?_, A.mix⟩
  · intro j x h
    rcases hold j x h with ⟨k1, k2⟩ | ⟨rfl, rfl⟩
    · exact A.mem.ent j x k2
    · refine ⟨htot, ?_⟩
      by_cases h0 : m = 0
      · exact .inl h0
      · right
        have hent := A.mem.ent j e hi
        rcases he with ⟨ty, c, rfl⟩ | ⟨cs, rfl, hcs⟩
        · obtain ⟨L, _, q1, _⟩ := row_range hent (k := 0) (by omega)
          have hlt : L.b < w.heap.size := by rw [q1] at hent; exact EntOK.lt hent (fun h => h)
          refine ⟨L, q1, hlt, fun k hk => ?_⟩
          obtain ⟨L', vs, r1, r2, _, r4⟩ := row_range hent hk
          rw [q1] at r1; cases r1
          exact ⟨vs, by rw [hg k hk]; exact r2, r4⟩
        · obtain ⟨L, us, q1, q2, q3⟩ := hent.range
          have hlt : L.b < w.heap.size := by rw [q1] at hent; exact EntOK.lt hent (fun h => h)
          refine ⟨L, q1, hlt, fun k hk => ?_⟩
          obtain ⟨r1, r2⟩ := hcs k hk
          obtain ⟨r3, r4⟩ := tk_is r1
          rw [dp_is] at r3 r4
          have hd : denL G (f k) = some ((us.drop (k * s)).take s) := by rw [r3]; exact denL_take s (denL_drop _ q2)
          refine ⟨(us.drop (k * s)).take s, ?_, fun q v hv => ?_⟩
          · rw [hg k hk]
            have := denL_take' (G := G) (f k) r2
            simp only [List.take_zero] at this
            rw [this]; exact hd
          · have hq := (List.getElem?_eq_some_iff.1 hv).1
            simp only [List.length_take, List.length_drop] at hq
            rw [List.getElem?_take_of_lt (by omega), List.getElem?_drop] at hv
            have := q3 _ v hv
            rwa [← Nat.add_assoc] at this
  · intro j k x y L M hjk h1 h2 h3 h4 h5 h6
    rcases hold j x h1 with ⟨_, a2⟩ | ⟨rfl, rfl⟩
    · rcases hold k y h2 with ⟨_, b2⟩ | ⟨rfl, rfl⟩
      · exact A.mem.sep j k x y L M hjk a2 b2 h3 h4 h5 h6
      · exact A.mem.sep j k x e L M hjk a2 hi h3 h4 h5 (mut_full hmut)
    · cases h3
  · intro j x L h1 h2 h3
    rcases hold j x h1 with ⟨_, a2⟩ | ⟨rfl, rfl⟩
    · exact A.own j x L a2 h2 h3
    · cases h2
theorem Sy.freeze (A : Sy n T H ks G0 w0 G a w) (i : Nat) {e s m c : Nat} {f : Nat → List SV} (h : lg H i = some (some (.row e s m c f))) : Sy n T (stH H i (some (.lst s m f))) ks G0 w0 G a w := by
  rw [lg_is] at h
  exact A.asList i h (.inl ⟨e, c, rfl⟩) (fun _ _ => rfl) (fun k => by obtain ⟨vs, h1, _⟩ := (A.mem.ent i _ h).1 k; exact ⟨vs, h1⟩)
theorem Sy.rowSet (A : Sy n T H ks G0 w0 G a w) {i e s m c k q : Nat} {f f' : Nat → List SV} {l : List SV} {us : List Value} (hi : H[i]? = some (some (.row e s m c f))) (hk : k < m) (hne : ∀ j, j ≠ k → f' j = f j) (hsp : sp q (f k) l = some (f' k)) (hl : denL [] l = some us) : ∃ L, G[i]? = some (some L) ∧ L.pre = [] ∧ (∀ j, j < l.length → (w.cell? ⟨L.b, k * s + q + j, none⟩).isSome = true ∧ w.frozen? ⟨L.b, k * s + q + j, none⟩ = false) ∧
    Upd L.b w (w.setCells L.b (k * s + q) us) ∧ Sy n T (stH H i (some (.row e s m c f'))) ks G0 w0 G a (w.setCells L.b (k * s + q) us) := by
  have hilt : i < H.length := (List.getElem?_eq_some_iff.1 hi).1
  obtain ⟨h1, h2, xs, h3, h4, h5⟩ := A.mem.ent i _ hi
  obtain ⟨vs, v1, v2⟩ := h1 k
  obtain ⟨p1, p2⟩ := sp_is hsp
  have hul := denL_len hl
  have hfk : denL [] (f' k) = some (vs.take q ++ us ++ vs.drop (q + l.length)) := by rw [p1]; exact denL_app (denL_app (denL_take q v1) hl) (denL_drop _ v1)
  have hfl : (f k).length = s := by rw [← denL_len v1]; exact v2
  have htot : ∀ j, ∃ vs, denL [] (f' j) = some vs ∧ vs.length = s := fun j => by
    by_cases hj : j = k
    · subst hj; exact ⟨_, hfk, by simp; omega⟩
    · rw [hne j hj]; exact h1 j
  rcases h5 with ⟨_, h5⟩ | ⟨g, cap, cur, q1, _, q3, q4, q5, q6, q7⟩
  · omega
  cases hp : (G[i]?).getD none with
  | none => rw [hp] at q1; cases q1
  | some L =>
    rw [hp] at q1
    simp only [Option.map_some, Value.slice.injEq, Option.some.injEq, Addr.mk.injEq] at q1
    obtain ⟨⟨q8, q9, _⟩, _, q10⟩ := q1
    have hpre := h2 L hp
    subst q8
    have hxl := flat_len h1 h3
    have hm1 : (k + 1) * s ≤ m * s := Nat.mul_le_mul_right s (by omega)
    have hm2 : (k + 1) * s = k * s + s := by simp [Nat.add_mul]
    have hcs : m * s ≤ cap * s := Nat.mul_le_mul_right s q4
    have hcl : cur.toList.length = cap * s := by simpa using q6
    have hsplit : cur.toList = cur.toList.take (k * s + q) ++ (cur.toList.drop (k * s + q)).take l.length ++ cur.toList.drop (k * s + q + l.length) := by
      have e2 : cur.toList.drop (k * s + q + l.length) = (cur.toList.drop (k * s + q)).drop l.length := by rw [List.drop_drop]
      rw [e2, List.append_assoc, List.take_append_drop, List.take_append_drop]
    have hblk : Blk w L.b (cur.toList.take (k * s + q) ++ (cur.toList.drop (k * s + q)).take l.length ++ cur.toList.drop (k * s + q + l.length)).toArray e := by rw [← hsplit]; unfold Blk; simpa using q3
    have hA : (cur.toList.take (k * s + q)).length = k * s + q := by simp; omega
    obtain ⟨g1, g2⟩ := blk_cells us _ _ _ w (by simp; omega) hblk
    rw [hA] at g1 g2
    refine ⟨L, get_loc hp, hpre, fun j hj => ⟨?_, ?_⟩, g2, ?_⟩
    · have hlt : k * s + q + j < cur.size := by omega
      rw [cell_of_row w L.b _ cur e _ q3, Array.getElem?_eq_getElem hlt]; rfl
    · have : Blk w L.b cur e := q3
      exact this.frozen _
    have hold : ∀ (j : Nat) (x : Ent), (stH H i (some (.row e s m c f')))[j]? = some (some x) → (j ≠ i ∧ H[j]? = some (some x)) ∨ (j = i ∧ x = .row e s m c f') := by
      intro j x h
      rw [stH_is] at h
      by_cases hj : j = i
      · subst hj; rw [List.getElem?_set_self hilt] at h; cases h; exact .inr ⟨rfl, rfl⟩
      · rw [List.getElem?_set_ne (Ne.symm hj)] at h; exact .inl ⟨hj, h⟩
    refine ⟨A.size, A.defers, A.get, ⟨by rw [stH_is]; simpa using A.mem.len, ?_, ?_⟩, A.pre, ?_, A.mix.upd g2 (A.own i _ L hi rfl (get_loc hp))⟩
    · intro j x h
      rcases hold j x h with ⟨k1, k2⟩ | ⟨rfl, rfl⟩
      · refine (A.mem.ent j x k2).mix g2.mix fun hnx M hM => ?_
        have := A.mem.sep i j _ x L M (Ne.symm k1) hi k2 rfl (get_loc hp) (get_loc hM) hnx
        simp; exact fun e => this e.symm
      · rw [hp]
        refine ⟨htot, fun L' hL' => by cases hL'; exact hpre, _, flat_set h1 hne hfk (by simp; omega) h3 hk, ?_, .inr ⟨L.b, cap, _, ?_, Nat.zero_le _, g1, q4, q5, ?_, ?_⟩⟩
        · simp; omega
        · simp [hpre, q10]
        · simp; omega
        · rw [← q7]
          simp only [List.toList_toArray]
          apply List.ext_getElem?
          intro z
          by_cases hz : z < m * s
          · rw [List.getElem?_take_of_lt hz]
            have hvk : ∀ z', z' < s → vs[z']? = cur.toList[k * s + z']? := fun z' hz' => by
              obtain ⟨us', u1, u2⟩ := flat_at h1 h3 k hk
              rw [v1] at u1; cases u1
              have hh : vs[z']? = some (vs[z']'(by omega)) := List.getElem?_eq_getElem (by omega)
              have := u2 z' _ hh
              rw [← q7, List.getElem?_take_of_lt (by omega)] at this
              rw [hh, this]
            by_cases c1 : z < k * s
            · rw [List.append_assoc, List.append_assoc, List.getElem?_append_left (by simp; omega), List.getElem?_take_of_lt (by omega)]
              rw [List.append_assoc, List.getElem?_append_left (by simp; omega), List.getElem?_take_of_lt c1, List.getElem?_take_of_lt (by omega)]
            · by_cases c2 : z < k * s + q
              · rw [List.append_assoc, List.getElem?_append_left (by simp; omega), List.getElem?_take_of_lt (by omega)]
                rw [List.append_assoc, List.getElem?_append_right (by simp; omega), List.append_assoc, List.append_assoc, List.getElem?_append_left (by simp; omega), List.getElem?_take_of_lt (by simp; omega)]
                have := hvk (z - k * s) (by omega)
                rw [show k * s + (z - k * s) = z by omega] at this
                rw [← this]; congr 1; simp; omega
              · by_cases c3 : z < k * s + q + l.length
                · rw [List.append_assoc, List.getElem?_append_right (by simp; omega), List.getElem?_append_left (by simp; omega)]
                  rw [List.append_assoc, List.getElem?_append_right (by simp; omega), List.append_assoc, List.append_assoc, List.getElem?_append_right (by simp; omega), List.getElem?_append_left (by simp; omega)]
                  congr 1; simp; omega
                · by_cases c4 : z < k * s + s
                  · rw [List.getElem?_append_right (by simp; omega), List.getElem?_drop]
                    rw [List.append_assoc, List.getElem?_append_right (by simp; omega), List.getElem?_append_left (by simp; omega), List.getElem?_append_right (by simp; omega), List.getElem?_drop]
                    have := hvk (z - k * s) (by omega)
                    rw [show k * s + (z - k * s) = z by omega] at this
                    rw [show k * s + q + l.length + (z - (List.take (k * s + q) cur.toList ++ us).length) = z by simp; omega, ← this]
                    congr 1; simp; omega
                  · rw [List.getElem?_append_right (by simp; omega), List.getElem?_drop]
                    rw [List.getElem?_append_right (by simp; omega), List.getElem?_drop, List.getElem?_take_of_lt (by simp; omega)]
                    congr 1; simp; omega
          · rw [List.getElem?_eq_none (by simp; omega), List.getElem?_eq_none (by simp; omega)]
    · intro j k' x y L' M hjk b1 b2 b3 b4 b5 b6
      have a1 : ∃ x', H[j]? = some (some x') ∧ x'.mut = x.mut := by
        rcases hold j x b1 with ⟨_, k2⟩ | ⟨rfl, rfl⟩
        · exact ⟨x, k2, rfl⟩
        · exact ⟨_, hi, rfl⟩
      have a2 : ∃ y', H[k']? = some (some y') ∧ ¬ y'.empty := by
        rcases hold k' y b2 with ⟨_, k2⟩ | ⟨rfl, rfl⟩
        · exact ⟨y, k2, b6⟩
        · exact ⟨_, hi, fun h => h⟩
      obtain ⟨x', c1, c2⟩ := a1
      obtain ⟨y', c3, c4⟩ := a2
      exact A.mem.sep j k' x' y' L' M hjk c1 c3 (by rw [c2]; exact b3) b4 b5 c4
    · intro j x L' b1 b2 b3
      rcases hold j x b1 with ⟨_, k2⟩ | ⟨rfl, rfl⟩
      · exact A.own j x L' k2 b2 b3
      · exact A.own j _ L' hi rfl b3
end
section
variable {P : Program} {Y : Tb} {n : Nat} {ks : List Nat} {G0 : Gr} {w0 : World} {T : List (Nat × SV)} {H : Hp} {G : Gr} {a : Act} {w w' : World} {Q : Exit → Act → World → Prop} {K : List Fr} {ops : Array Oper} {o : Oper} {rest : List Oper}
def strS (Y : Tb) (n : Nat) (ops : Array Oper) (T : List (Nat × SV)) (H : Hp) (o : Oper) : Option ((Nat × Nat × Nat × Nat × Nat) × (Nat → List SV) × (Int × Nat) × List SV × Ob) := match fitsD n o.dst with
  | true => match guardS ops T o.guard with
    | some .run => match o.op with
      | .store t x y => match evS T x, evS T y with
        | some (.el i s j q), some v => match lg H i, Y.get t, cellsS v with
          | some (some (.row e s' m c f)), some ti, some l => match onesS l with
            | some E => match Nat.beq s s' && inL 0 l && (match ti.row, v with | some r, .agg _ => Nat.beq l.length r | none, .agg _ => false | none, _ => ti.one | some _, _ => false) with
              | true => some ((i, e, s, m, c), f, (j, q), l, E)
              | false => none
            | none => none
          | _, _, _ => none
        | _, _ => none
      | _ => none
    | _ => none
  | false => none
theorem strE {i e s m c q : Nat} {j : Int} {f : Nat → List SV} {l : List SV} {E : Ob} (hY : Y.ok P = true) (k : Nat) (f' : Nat → List SV) (h : strS Y n ops T H o = some ((i, e, s, m, c), f, (j, q), l, E)) (hE : okE E) (hj : j.toNat = k) (hk : k < m)
    (hne : ∀ j, j ≠ k → f' j = f j) (hsp : sp q (f k) l = some (f' k)) : EffOK P n ops ks G0 w0 T H o (.tup []) (stH H i (some (.row e s m c f'))) := by
  intro G a w A
  obtain ⟨d, op, ty, pos, af, gd⟩ := o
  unfold strS at h
  split at h
  · next hd =>
    split at h
    · next hgd =>
      have hw := gd_run (gd := none) A hgd
      split at h
      · next t x y hop =>
        simp only at hop
        subst hop
        split at h
        · next i' s' j' q' v hx hy =>
          split at h
          · next e' s2 m' c' f1 ti l' hi hti hl =>
            split at h
            · next E' hon =>
              split at h
              · next hck =>
                cases h
                rw [Bool.and_eq_true, Bool.and_eq_true] at hck
                have es := Nat.eq_of_beq_eq_true hck.1.1
                subst es
                rw [lg_is] at hi
                have hvy := A.ev hy
                have hcd := cellsS_den hl hvy
                have hcl0 : denL [] l = some (a.eval y).cells.toList := by
                  have := denL_take' (G := G) l hck.1.2
                  simp only [List.take_zero] at this
                  rw [this]; exact hcd
                obtain ⟨L, hL, hpre, hcell, hu, A2⟩ := A.rowSet hi hk hne hsp hcl0
                have hone := onesS_spec hon hE hcd
                have hlen := denL_len hcd
                have hvx := A.ev hx
                unfold den at hvx
                rw [hL] at hvx
                simp only [Option.map_some, hpre, List.length_nil, Nat.zero_add, hj, Option.some.injEq] at hvx
                have htt := Tb.at hY hti
                refine does_unit (w' := w.setCells L.b (k * s + q) (a.eval y).cells.toList) hw ?_ ⟨[], rfl, by rw [List.append_nil]; exact A2.ms⟩
                have hst : (Instr.storeAt t (.pointer (some ⟨L.b, k * s + q, none⟩)) (a.eval y)).run P w = .ok () (w.setCells L.b (k * s + q) (a.eval y).cells.toList) := by
                  cases hv2 : v with
                  | agg ll =>
                    rw [hv2] at hck hvy hl
                    cases hr : ti.row with
                    | none => rw [hr] at hck; exact absurd hck.2 (by simp)
                    | some r =>
                      rw [hr] at hck
                      have hrl := Nat.eq_of_beq_eq_true hck.2
                      unfold den at hvy
                      obtain ⟨us, u1, u2⟩ := Option.map_eq_some_iff.1 hvy
                      rw [← u2]
                      rw [← u2] at hone hlen
                      simp only [Value.cells, List.toList_toArray] at hone hlen ⊢
                      have := run_storeAt_mid (P := P) w L.b (k * s + q) t us.toArray (fun z hz => hcell z (by simp at hz; omega)) (by simp; rw [hlen, hrl]; simpa using (row_facts (ti_row htt hr)).2) (by simpa using hone)
                      simpa using this
                  | _ =>
                    all_goals
                      rw [hv2] at hck hvy hl
                      cases hr : ti.row with
                      | some r => rw [hr] at hck; exact absurd hck.2 (by simp)
                      | none =>
                        rw [hr] at hck
                        first
                        | (cases hl; done)
                        | (cases hl
                           have hc1 : (a.eval y).cells = #[a.eval y] := by
                             have h1 := hlen
                             have h2 : (a.eval y).oneCell' = true ∨ True := .inr trivial
                             have hden := hcd
                             obtain ⟨v0, ws, w1, w2, w3⟩ := denL_cons hden
                             cases w2
                             rw [hvy] at w1
                             cases w1
                             apply Array.ext'
                             simpa using w3
                           rw [hc1] at hone ⊢
                           have hc := hcell 0 (by simp)
                           simp only [Nat.add_zero] at hc
                           simp only [List.all_cons, List.all_nil, Bool.and_true] at hone
                           cases hq : w.cell? ⟨L.b, k * s + q, none⟩ with
                           | none => rw [hq] at hc; cases hc.1
                           | some u =>
                             have ho := ti_one htt hck.2
                             unfold oneB at ho
                             rw [Bool.and_eq_true] at ho
                             have hs1 : (P.info? t).map (·.size) = some 1 := by simpa using ho.2
                             cases hqi : P.info? t with
                             | none => simp [hqi] at hs1
                             | some inf =>
                               have hi1 : inf.size = 1 := by simpa [hqi] using hs1
                               have hz : (sizeOf t).run P w = .ok 1 w := by simp [sizeOf, typeInfo, hqi, hi1]
                               have hsto : (store ((⟨L.b, k * s + q, none⟩ : Addr).add 0) (a.eval y)).run P w = .ok () (w.setCell ⟨L.b, k * s + q, none⟩ (a.eval y)) := by
                                 rw [Addr.add_mid, Nat.add_zero, run_store P w _ _ _ hone, hq]
                                 simp [hc.2]
                               simp [Instr.storeAt, Instr.sureAddr, storeVar, hz, hc1, storeCells, hsto, World.setCells])
                unfold execOp
                simp only [← hvx, Sem.run_bind, hst, Result.andThen_ok, Sem.run_pure]
              · cases h
            · cases h
          · cases h
        · cases h
      · cases h
    · cases h
  · cases h
theorem str_fits {r : (Nat × Nat × Nat × Nat × Nat) × (Nat → List SV) × (Int × Nat) × List SV × Ob} (h : strS Y n ops T H o = some r) : fitsD n o.dst = true := by
  unfold strS at h
  split at h
  · next hd => exact hd
  · cases h
theorem STR {i e s m c q : Nat} {j : Int} {f : Nat → List SV} {l : List SV} {E : Ob} (hY : Y.ok P = true) (k : Nat) (f' : Nat → List SV) (A : Sy n T H ks G0 w0 G a w) (h : strS Y n ops T H o = some ((i, e, s, m, c), f, (j, q), l, E)) (hE : okE E) (hj : j.toNat = k) (hk : k < m)
    (hne : ∀ j, j ≠ k → f' j = f j) (hsp : sp q (f k) l = some (f' k)) (hg : ∀ {G a w}, Sy n (extS T o.dst (.tup [])) (stH H i (some (.row e s m c f'))) ks G0 w0 G a w → Goal P Q K (.ops ops rest) a w) : Goal P Q K (.ops ops (o :: rest)) a w :=
  q_eff A (str_fits h) (strE hY k f' h hE hj hk hne hsp) hg
end
section
variable {P : Program} {Y : Tb} {n : Nat} {ks : List Nat} {G0 : Gr} {w0 : World} {T : List (Nat × SV)} {H : Hp} {G : Gr} {a : Act} {w w' : World} {Q : Exit → Act → World → Prop} {K : List Fr} {ops : Array Oper} {o : Oper} {rest : List Oper}
def aplS (Y : Tb) (n : Nat) (ops : Array Oper) (T : List (Nat × SV)) (H : Hp) (o : Oper) : Option ((Nat × Nat × Nat × Nat × Nat) × (Nat → List SV) × (Nat × Nat × Nat) × (Nat → List SV) × (Nat × Nat)) := match fitsD n o.dst with
  | true => match guardS ops T o.guard with
    | some .run => match o.op with
      | .call c => match c.callee, c.args.toList, c.argTypes.toList with
        | .builtin .append, [x, y], [t, t'] => match evS T x, evS T y, Nat.beq t t' with
          | some (.sl i nn cc), some (.sl j mm mc), true => match lg H i, partsOf (lg H j), Y.get t with
            | some (some (.row e s m c f)), some (s2, mb, g), some ti => match ti.elm with
              | some (e', s', b) => match Nat.beq e e' && Nat.beq s s' && Nat.beq s s2 && Nat.ble b 10000 with
                | true => some ((i, e, s, m, c), f, (mm, mb, mc), g, (nn, cc))
                | false => none
              | _ => none
            | _, _, _ => none
          | _, _, _ => none
        | _, _, _ => none
      | _ => none
    | _ => none
  | false => none
theorem APPL {i e s m c nn cc mm mb mc : Nat} {f g : Nat → List SV} (hY : Y.ok P = true) (m' : Nat) (f' : Nat → List SV) (A : Sy n T H ks G0 w0 G a w) (h : aplS Y n ops T H o = some ((i, e, s, m, c), f, (mm, mb, mc), g, (nn, cc))) (h1 : nn = m) (h2 : cc = c) (hc0 : c = 0) (hmb : mm ≤ mb) (hb : m ≤ 1000000) (hb2 : mm ≤ 1000000) (hm' : m' = m + mm)
    (hf : ∀ k, k < m → f' k = f k) (hn : ∀ k, k < mm → f' (m + k) = g k) (htot : ∀ k, ∃ vs, denL [] (f' k) = some vs ∧ vs.length = s) (hone : ∀ k, k < mm → ∃ E, onesS (g k) = some E ∧ okE E)
    (hk : ∀ {G a w}, Sy n (extS T o.dst (.sl H.length m' 0)) (stH H i none ++ [some (.row e s m' 0 f')]) ks G0 w0 G a w → Goal P Q K (.ops ops rest) a w) : Goal P Q K (.ops ops (o :: rest)) a w := by
  subst hm'
  obtain ⟨d, op, ty, pos, af, gd⟩ := o
  unfold aplS at h
  split at h
  · next hd =>
    split at h
    · next hgd =>
      have hw := gd_run (gd := none) A hgd
      split at h
      · next ca hca =>
        simp only at hca
        subst hca
        obtain ⟨callee, args, ats⟩ := ca
        simp only at h
        split at h
        · next x y t t' ha ht =>
          split at h
          · next i' nn' cc' j mm' mc' hx hy htt =>
            split at h
            · next e' s' m' c1 f1 s2 mb' g' ti hi hj hti =>
              split at h
              · next e2 s3 b hel =>
                split at h
                · next hck =>
                  cases h
                  subst h1; subst h2
                  simp only [Bool.and_eq_true] at hck
                  obtain ⟨⟨⟨c1, c2⟩, c3⟩, c4⟩ := hck
                  have e1 := Nat.eq_of_beq_eq_true c1
                  have e2' := Nat.eq_of_beq_eq_true c2
                  have e3 := Nat.eq_of_beq_eq_true c3
                  have e4 := Nat.eq_of_beq_eq_true htt
                  have hby := Nat.le_of_ble_eq_true c4
                  subst e1; subst e2'; subst e3; subst e4
                  rw [lg_is] at hi
                  have hargs : args = #[x, y] := by have := congrArg List.toArray ha; simpa using this
                  have hats : ats = #[t, t] := by have := congrArg List.toArray ht; simpa using this
                  subst hargs; subst hats
                  obtain ⟨r1, r2, xs, r3, r4⟩ := A.mem.ent i _ hi
                  obtain ⟨g1, g2⟩ := parts_at A.mem hj
                  obtain ⟨ie, z, f1', f2', f3', f4', f5', f6', f7'⟩ := elem_facts (ti_elm (Tb.at hY hti) hel)
                  have hvx := A.ev hx
                  have hvy := A.ev hy
                  obtain ⟨q, hq⟩ : ∃ q, G[i]? = some q := by
                    have : i < G.length := by rw [← A.mem.len]; exact (List.getElem?_eq_some_iff.1 hi).1
                    exact ⟨G[i], by simp [this]⟩
                  rw [hq] at r2 r4
                  simp only [Option.getD_some] at r2 r4
                  unfold den at hvx hvy
                  rw [hq] at hvx
                  simp only [Option.some.injEq] at hvx
                  have htg : ∀ k, k < mm → ∃ vs, denL [] (g k) = some vs ∧ vs.length = s := fun k hk => by rw [← hn k hk]; exact htot _
                  obtain ⟨ys, hys⟩ := flat_ex (f := fun k => f' (nn + k)) (fun k => htot _) mm
                  have hyl := flat_len (f := fun k => f' (nn + k)) (fun k => htot _) hys
                  have hflat : flatV f' (nn + mm) = some (xs ++ ys) := flat_more mm nn (by rw [flat_congr hf]; exact r3) hys
                  have hob : Value.ownBlock (.slice (q.map fun L => ⟨L.b, L.pre.length, none⟩) nn (cc + rm q)) = q.map (·.b) := by cases q <;> rfl
                  by_cases h0 : mm = 0
                  · subst h0
                    cases hys
                    have hsrc : Src P ie.size t (a.eval y) 0 [] w := by
                      split at hvy
                      · next p hp =>
                        rw [← Option.some.inj hvy]
                        cases p with
                        | none => exact Src.ofNil w f1' mc
                        | some L => exact Src.ofSlice w f1' _ 0 _ [] (by simp) (fun j u hj => by simp at hj) (fun u hu => by cases hu)
                      · cases hvy
                    have hnc : nn ≤ cc + rm q := by
                      rcases r4.2 with ⟨q1, q2⟩ | ⟨g, cap, cur, q1, _, _, q4, _⟩
                      · omega
                      · cases q <;> simp at q1; omega
                    have hr := run_append_nothing (P := P) w t t ty e ie f1' f2' (q.map fun L => ⟨L.b, L.pre.length, none⟩) nn (cc + rm q) hnc _ hsrc
                    refine q_does (Q := wpK P Q K) (does_val (v := .slice (q.map fun L => ⟨L.b, L.pre.length, none⟩) nn (cc + rm q)) (w' := w) hw ?_ ?_)
                    · unfold execOp
                      simp only [resolve, invoke, builtin, Sem.run_bind, Sem.run_pure, Result.andThen_ok, List.map_toArray, List.map_cons, List.map_nil, ← hvx, hr]
                    · have A2 := A.rowMove (w' := w) (p' := q) (m' := nn + 0) (c' := cc) (xs' := xs ++ []) hi ⟨rfl, rfl, rfl, Nat.le_refl _, fun _ _ _ => rfl⟩ (by simpa using r4) r2 (.inl (by rw [hq]; rfl)) hflat htot
                      subst hc0
                      refine hk (Sy.put A2 hd ?_)
                      unfold den
                      rw [List.getElem?_append_right (by rw [A.mem.len]; exact Nat.le_refl _), A.mem.len]
                      simp
                  · obtain ⟨L, vs0, b1, _⟩ := g2 0 (by omega)
                    rw [get_loc b1] at hvy
                    simp only [Option.map_some, Option.some.injEq] at hvy
                    have hmul : (nn + mm) * b ≤ 2000000 * 10000 := Nat.mul_le_mul (by omega) hby
                    obtain ⟨v', w', hr, k1, k2, _, k4⟩ := run_append_own_at (P := P) w 0 t ty e ie z s b f1' f2' f3' f4' f5' f6' f7' _ nn xs r4 ⟨L.b, L.pre.length, none⟩ mm (mc + rm (some L)) ys hyl
                      (fun j u hj => by
                        obtain ⟨k, r, us, d1, d2, d3, d4⟩ := flat_inv (f := fun k => f' (nn + k)) (fun k => htot _) hys j u hj
                        obtain ⟨L', us', b1', b2', b3'⟩ := g2 k (by omega)
                        rw [b1] at b1'; cases b1'
                        rw [hn k d1, b2'] at d2
                        cases d2
                        have := b3' r u d3
                        rw [Addr.add_mid, d4, ← Nat.add_assoc]
                        exact this)
                      (fun u hu => by
                        obtain ⟨j, hj⟩ := List.mem_iff_getElem?.1 hu
                        obtain ⟨k, r, us, d1, d2, d3, d4⟩ := flat_inv (f := fun k => f' (nn + k)) (fun k => htot _) hys j u hj
                        rw [hn k d1] at d2
                        obtain ⟨E, o1, o2⟩ := hone k d1
                        exact List.all_eq_true.1 (onesS_spec o1 o2 d2) u (List.mem_of_getElem? d3))
                      (by simp only [maxLen]; omega) (by omega) (Nat.zero_le _)
                    obtain ⟨p', o1, o2, o3⟩ := own_split k1
                    rw [hob] at k2 k4
                    rw [o3] at k4
                    rw [o1] at k1
                    refine q_does (Q := wpK P Q K) (does_val (v := v') (w' := w') hw ?_ ?_)
                    · unfold execOp
                      simp only [resolve, invoke, builtin, Sem.run_bind, Sem.run_pure, Result.andThen_ok, List.map_toArray, List.map_cons, List.map_nil, ← hvx, ← hvy, hr]
                    · have A2 := A.rowMove (p' := p') hi (by rw [hq]; exact k2) k1 o2 (by rw [hq]; exact k4) hflat htot
                      refine hk (Sy.put A2 hd ?_)
                      unfold den
                      rw [List.getElem?_append_right (by rw [A.mem.len]; exact Nat.le_refl _), A.mem.len]
                      simp [o1]
                · cases h
              · cases h
            · cases h
          · cases h
        · cases h
      · cases h
    · cases h
  · cases h
end
section
variable {n : Nat} {ks : List Nat} {G0 : Gr} {w0 : World} {T : List (Nat × SV)} {H : Hp} {G : Gr} {a : Act} {w : World}
theorem Sy.rowAs (A : Sy n T H ks G0 w0 G a w) (i m' : Nat) (f' : Nat → List SV) {e s m c : Nat} {f : Nat → List SV} (h : lg H i = some (some (.row e s m c f))) (hm : m' = m) (hf : ∀ k, k < m → f' k = f k) (htot : ∀ k, ∃ vs, denL [] (f' k) = some vs ∧ vs.length = s) : Sy n T (stH H i (some (.row e s m' c f'))) ks G0 w0 G a w := by
  subst hm
  rw [lg_is] at h
  have hilt : i < H.length := (List.getElem?_eq_some_iff.1 h).1
  have hold : ∀ (j : Nat) (x : Ent), (stH H i (some (.row e s m' c f')))[j]? = some (some x) → (j ≠ i ∧ H[j]? = some (some x)) ∨ (j = i ∧ x = .row e s m' c f') := by
    intro j x h
    rw [stH_is] at h
    by_cases hj : j = i
    · subst hj; rw [List.getElem?_set_self hilt] at h; cases h; exact .inr ⟨rfl, rfl⟩
    · rw [List.getElem?_set_ne (Ne.symm hj)] at h; exact .inl ⟨hj, h⟩
  refine ⟨A.size, A.defers, A.get, ⟨by rw [stH_is]; simpa using A.mem.len, ?_, ?_⟩, A.pre, ?_, A.mix⟩
  · intro j x hx
    rcases hold j x hx with ⟨k1, k2⟩ | ⟨rfl, rfl⟩
    · exact A.mem.ent j x k2
    · obtain ⟨h1, h2, xs, h3, h4⟩ := A.mem.ent j _ h
      exact ⟨htot, h2, xs, by rw [flat_congr hf]; exact h3, h4⟩
  · intro j k x y L M hjk b1 b2 b3 b4 b5 b6
    have a1 : ∃ x', H[j]? = some (some x') ∧ x'.mut = x.mut := by
      rcases hold j x b1 with ⟨_, k2⟩ | ⟨rfl, rfl⟩
      · exact ⟨x, k2, rfl⟩
      · exact ⟨_, h, rfl⟩
    have a2 : ∃ y', H[k]? = some (some y') ∧ ¬ y'.empty := by
      rcases hold k y b2 with ⟨_, k2⟩ | ⟨rfl, rfl⟩
      · exact ⟨y, k2, b6⟩
      · exact ⟨_, h, fun h => h⟩
    obtain ⟨x', c1, c2⟩ := a1
    obtain ⟨y', c3, c4⟩ := a2
    exact A.mem.sep j k x' y' L M hjk c1 c3 (by rw [c2]; exact b3) b4 b5 c4
  · intro j x L b1 b2 b3
    rcases hold j x b1 with ⟨_, k2⟩ | ⟨rfl, rfl⟩
    · exact A.own j x L k2 b2 b3
    · exact A.own j _ L h rfl b3
end
/-! ### Lists and their parts -/
section
variable {α : Type} {l m : List α} {d x : α} {k : Nat}
theorem getD_app_l (h : k < l.length) : (l ++ m).getD k d = l.getD k d := by simp [List.getD, List.getElem?_append_left h]
theorem getD_app_r : (l ++ m).getD (l.length + k) d = m.getD k d := by simp [List.getD, List.getElem?_append_right]
theorem getD_app_1 : (l ++ [x]).getD l.length d = x := by simp [List.getD]
theorem getD_take {j : Nat} (h : j < k) : (l.take k).getD j d = l.getD j d := by simp [List.getD, List.getElem?_take_of_lt h]
end
end Go.Proofs.YtfdfjakafiglmaaDoor
namespace Go.Proofs.YtfdfjakafiglmaaDoor
open Go.RowKit
abbrev zI : SV := .int .i64 0
abbrev zS : SV := .str []
def X : Tb := (.n 64 ⟨false, (some 2), (some [zS, zI]), [(9, 0, 1), (3, 1, 1)], none, false, false, none, (some [2, 0]), none⟩ (.n 27 ⟨true, none, (some [.sla none 0 0]), [], none, false, false, (some (30, 5, 40)), none, none⟩ (.n 9 ⟨true, none, (some [zS]), [], none, true, false, none, none, none⟩ (.n 4 ⟨true, none, (some [.ff]), [], none, false, true, none, none, none⟩ (.n 3 ⟨true, none, (some [zI]), [], (some .i64), false, false, none, none, none⟩ (.n 2 ⟨true, none, (some [zI]), [], (some .i64), false, false, none, none, none⟩ .e .e) .e) (.n 5 ⟨true, none, (some [.int .u8 0]), [], (some .u8), false, false, none, none, none⟩ .e .e)) (.n 24 ⟨false, (some 3), (some [zI, zI, zI]), [], none, false, false, none, (some [0, 0, 0]), (some (3, 3, 1))⟩ (.n 23 ⟨false, (some 24), (some [zI, zI, zI, zI, zI, zI, zI, zI, zI, zI, zI, zI, zI, zI, zI, zI, zI, zI, zI, zI, zI, zI, zI, zI]), [], none, false, false, none, (some [0, 0, 0, 0, 0, 0, 0, 0, 0, 0, 0, 0, 0, 0, 0, 0, 0, 0, 0, 0, 0, 0, 0, 0]), (some (3, 22, 8))⟩ (.n 22 ⟨false, (some 8), (some [zI, zI, zI, zI, zI, zI, zI, zI]), [], none, false, false, none, (some [0, 0, 0, 0, 0, 0, 0, 0]), (some (8, 3, 1))⟩ .e .e) .e) (.n 26 ⟨false, (some 27), (some [zI, zI, zI, zI, zI, zI, zI, zI, zI, zI, zI, zI, zI, zI, zI, zI, zI, zI, zI, zI, zI, zI, zI, zI, zI, zI, zI]), [(23, 0, 24), (24, 24, 3)], none, false, false, none, (some [0, 0, 0, 0, 0, 0, 0, 0, 0, 0, 0, 0, 0, 0, 0, 0, 0, 0, 0, 0, 0, 0, 0, 0, 0, 0, 0]), none⟩ .e .e))) (.n 56 ⟨true, none, (some [.sla none 0 0]), [], none, false, false, (some (4, 1, 1)), none, none⟩ (.n 42 ⟨false, (some 30), (some [.ff, .ff, zI, zI, zI, zI, zI, zI, zI, zI, zI, zI, zI, zI, zI, zI, zI, zI, zI, zI, zI, zI, zI, zI, zI, zI, zI, zI, zI, zI]), [(4, 0, 1), (4, 1, 1), (26, 2, 27), (3, 29, 1)], none, false, false, none, (some [1, 1, 0, 0, 0, 0, 0, 0, 0, 0, 0, 0, 0, 0, 0, 0, 0, 0, 0, 0, 0, 0, 0, 0, 0, 0, 0, 0, 0, 0]), none⟩ (.n 36 ⟨true, none, (some [.sla none 0 0]), [], none, false, false, (some (26, 27, 216)), none, none⟩ (.n 30 ⟨false, (some 5), (some [zI, zI, zI, zI, zI]), [(3, 0, 1), (3, 1, 1), (3, 2, 1), (3, 3, 1), (3, 4, 1)], none, false, false, none, (some [0, 0, 0, 0, 0]), none⟩ .e .e) .e) (.n 43 ⟨true, none, (some [zI]), [], (some .i64), false, false, none, none, none⟩ .e .e)) (.n 60 ⟨true, none, (some [.v .nilFunc]), [], none, false, false, none, none, none⟩ (.n 58 ⟨true, none, (some [.v .nilFunc]), [], none, false, false, none, none, none⟩ .e .e) (.n 61 ⟨true, none, (some [.sla none 0 0]), [], none, false, false, (some (9, 1, 16)), none, none⟩ .e .e)))) (.n 95 ⟨false, (some 8), (some [zS, zS, zS, zS, zS, zS, zS, zS]), [], none, false, false, none, (some [2, 2, 2, 2, 2, 2, 2, 2]), (some (8, 9, 1))⟩ (.n 76 ⟨true, none, (some [.sla none 0 0]), [], none, false, false, (some (3, 1, 8)), none, none⟩ (.n 71 ⟨true, none, (some [.v .nilFunc]), [], none, false, false, none, none, none⟩ (.n 68 ⟨true, none, (some [.v .nilFunc]), [], none, false, false, none, none, none⟩ (.n 66 ⟨true, none, (some [.sla none 0 0]), [], none, false, false, (some (64, 2, 24)), none, none⟩ .e .e) .e) (.n 74 ⟨true, none, (some [.int .u64 0]), [], (some .u64), false, false, none, none, none⟩ .e .e)) (.n 90 ⟨true, none, (some [.int .u32 0]), [], (some .u32), false, false, none, none, none⟩ (.n 82 ⟨true, none, (some [zI]), [], (some .i64), false, false, none, none, none⟩ (.n 78 ⟨true, none, (some [.v .nilFunc]), [], none, false, false, none, none, none⟩ .e .e) .e) (.n 92 ⟨true, none, (some [.int .u64 0]), [], (some .u64), false, false, none, none, none⟩ .e .e))) (.n 116 ⟨false, (some 20), (some [.int .u64 0, .int .u64 0, .int .u64 0, .int .u64 0, .int .u64 0, .int .u64 0, .int .u64 0, .int .u64 0, .int .u64 0, .int .u64 0, .int .u64 0, .int .u64 0, .int .u64 0, .int .u64 0, .int .u64 0, .int .u64 0, .int .u64 0, .int .u64 0, .int .u64 0, .int .u64 0]), [], none, false, false, none, (some [0, 0, 0, 0, 0, 0, 0, 0, 0, 0, 0, 0, 0, 0, 0, 0, 0, 0, 0, 0]), (some (20, 92, 1))⟩ (.n 110 ⟨false, (some 24), (some [.int .u8 0, .int .u8 0, .int .u8 0, .int .u8 0, .int .u8 0, .int .u8 0, .int .u8 0, .int .u8 0, .int .u8 0, .int .u8 0, .int .u8 0, .int .u8 0, .int .u8 0, .int .u8 0, .int .u8 0, .int .u8 0, .int .u8 0, .int .u8 0, .int .u8 0, .int .u8 0, .int .u8 0, .int .u8 0, .int .u8 0, .int .u8 0]), [], none, false, false, none, (some [0, 0, 0, 0, 0, 0, 0, 0, 0, 0, 0, 0, 0, 0, 0, 0, 0, 0, 0, 0, 0, 0, 0, 0]), (some (24, 5, 1))⟩ (.n 102 ⟨true, none, (some [.v (.pointer none)]), [], none, false, false, none, none, none⟩ (.n 98 ⟨true, none, (some [.int .u64 0]), [], (some .u64), false, false, none, none, none⟩ .e .e) .e) (.n 112 ⟨true, none, (some [.sla none 0 0]), [], none, false, false, (some (5, 1, 1)), none, none⟩ .e .e)) (.n 118 ⟨false, (some 32), (some [.int .u8 0, .int .u8 0, .int .u8 0, .int .u8 0, .int .u8 0, .int .u8 0, .int .u8 0, .int .u8 0, .int .u8 0, .int .u8 0, .int .u8 0, .int .u8 0, .int .u8 0, .int .u8 0, .int .u8 0, .int .u8 0, .int .u8 0, .int .u8 0, .int .u8 0, .int .u8 0, .int .u8 0, .int .u8 0, .int .u8 0, .int .u8 0, .int .u8 0, .int .u8 0, .int .u8 0, .int .u8 0, .int .u8 0, .int .u8 0, .int .u8 0, .int .u8 0]), [], none, false, false, none, (some [0, 0, 0, 0, 0, 0, 0, 0, 0, 0, 0, 0, 0, 0, 0, 0, 0, 0, 0, 0, 0, 0, 0, 0, 0, 0, 0, 0, 0, 0, 0, 0]), (some (32, 5, 1))⟩ (.n 117 ⟨false, (some 65), (some [.int .u8 0, .int .u8 0, .int .u8 0, .int .u8 0, .int .u8 0, .int .u8 0, .int .u8 0, .int .u8 0, .int .u8 0, .int .u8 0, .int .u8 0, .int .u8 0, .int .u8 0, .int .u8 0, .int .u8 0, .int .u8 0, .int .u8 0, .int .u8 0, .int .u8 0, .int .u8 0, .int .u8 0, .int .u8 0, .int .u8 0, .int .u8 0, .int .u8 0, .int .u8 0, .int .u8 0, .int .u8 0, .int .u8 0, .int .u8 0, .int .u8 0, .int .u8 0, .int .u8 0, .int .u8 0, .int .u8 0, .int .u8 0, .int .u8 0, .int .u8 0, .int .u8 0, .int .u8 0, .int .u8 0, .int .u8 0, .int .u8 0, .int .u8 0, .int .u8 0, .int .u8 0, .int .u8 0, .int .u8 0, .int .u8 0, .int .u8 0, .int .u8 0, .int .u8 0, .int .u8 0, .int .u8 0, .int .u8 0, .int .u8 0, .int .u8 0, .int .u8 0, .int .u8 0, .int .u8 0, .int .u8 0, .int .u8 0, .int .u8 0, .int .u8 0, .int .u8 0]), [], none, false, false, none, (some [0, 0, 0, 0, 0, 0, 0, 0, 0, 0, 0, 0, 0, 0, 0, 0, 0, 0, 0, 0, 0, 0, 0, 0, 0, 0, 0, 0, 0, 0, 0, 0, 0, 0, 0, 0, 0, 0, 0, 0, 0, 0, 0, 0, 0, 0, 0, 0, 0, 0, 0, 0, 0, 0, 0, 0, 0, 0, 0, 0, 0, 0, 0, 0, 0]), (some (65, 5, 1))⟩ .e .e) (.n 119 ⟨false, (some 64), (some [.int .u8 0, .int .u8 0, .int .u8 0, .int .u8 0, .int .u8 0, .int .u8 0, .int .u8 0, .int .u8 0, .int .u8 0, .int .u8 0, .int .u8 0, .int .u8 0, .int .u8 0, .int .u8 0, .int .u8 0, .int .u8 0, .int .u8 0, .int .u8 0, .int .u8 0, .int .u8 0, .int .u8 0, .int .u8 0, .int .u8 0, .int .u8 0, .int .u8 0, .int .u8 0, .int .u8 0, .int .u8 0, .int .u8 0, .int .u8 0, .int .u8 0, .int .u8 0, .int .u8 0, .int .u8 0, .int .u8 0, .int .u8 0, .int .u8 0, .int .u8 0, .int .u8 0, .int .u8 0, .int .u8 0, .int .u8 0, .int .u8 0, .int .u8 0, .int .u8 0, .int .u8 0, .int .u8 0, .int .u8 0, .int .u8 0, .int .u8 0, .int .u8 0, .int .u8 0, .int .u8 0, .int .u8 0, .int .u8 0, .int .u8 0, .int .u8 0, .int .u8 0, .int .u8 0, .int .u8 0, .int .u8 0, .int .u8 0, .int .u8 0, .int .u8 0]), [], none, false, false, none, (some [0, 0, 0, 0, 0, 0, 0, 0, 0, 0, 0, 0, 0, 0, 0, 0, 0, 0, 0, 0, 0, 0, 0, 0, 0, 0, 0, 0, 0, 0, 0, 0, 0, 0, 0, 0, 0, 0, 0, 0, 0, 0, 0, 0, 0, 0, 0, 0, 0, 0, 0, 0, 0, 0, 0, 0, 0, 0, 0, 0, 0, 0, 0, 0]), (some (64, 5, 1))⟩ .e .e)))))
theorem hX : Tb.ok Tryd.prog X = true := by kernel_rfl
end Go.Proofs.YtfdfjakafiglmaaDoor
namespace Go.Proofs.YtfdfjakafiglmaaDoor
open Go.RowKit
set_option linter.unusedVariables false
set_option linter.unusedSimpArgs false
def renT (m : List Nat) : List (Nat × SV) → Option (List (Nat × SV))
  | [] => some []
  | (t, x) :: T => match renO m x with
    | some y => match renT m T with
      | some r => some ((t, y) :: r)
      | none => none
    | none => none
theorem renT_look {m : List Nat} : ∀ {T' T : List (Nat × SV)}, renT m T' = some T → ∀ t x, look T' t = some x → ∃ y, look T t = some y ∧ renO m x = some y
  | [], T, h, t, x, hx => by cases hx
  | (k, z) :: T', T, h, t, x, hx => by
    unfold renT at h
    split at h
    · next y hy =>
      split at h
      · next r hr =>
        cases h
        simp only [look] at hx ⊢
        cases hb : Nat.beq k t with
        | true => rw [hb] at hx; cases hx; exact ⟨y, rfl, hy⟩
        | false => rw [hb] at hx; exact renT_look hr t x hx
      · cases h
    · cases h
section
variable {n : Nat} {ks : List Nat} {G0 : Gr} {w0 : World} {T : List (Nat × SV)} {H : Hp} {G : Gr} {a : Act} {w : World}
theorem Sy.mv (A : Sy n T H ks G0 w0 G a w) (k : Nat) (m : List Nat) {T' : List (Nat × SV)} {H' l : Hp} (hT : renT (rngF 0 k ++ m) T' = some T) (h1 : pickH H (rngF 0 k ++ m) = some l) (h2 : renH (rngF 0 k ++ m) H' = some l) (hn : ndB (rngF 0 k ++ m) = true) (hk : G0.length = k) : Sy n T' H' ks G0 w0 (pickG (rngF 0 k ++ m) G) a w := by
  obtain ⟨p1, p2, p3⟩ := pickH_at h1
  obtain ⟨r1, r2⟩ := renH_at h2
  have hm : ∀ j ∈ rngF 0 k ++ m, j < G.length := fun j hj => by rw [← A.mem.len]; exact p2 j hj
  refine ⟨A.size, A.defers, fun t x hx => ?_, A.mem.sub h1 h2 hn, ?_, fun i e L he hmut hL => ?_, A.mix⟩
  · obtain ⟨y, h3, h4⟩ := renT_look hT t x hx
    rw [den_ren hm x h4]
    exact A.get t y h3
  · obtain ⟨F, hF⟩ := A.pre
    refine ⟨pickG m G, ?_⟩
    have : pickG (rngF 0 k ++ m) G = pickG (rngF 0 k) G ++ pickG m G := by simp [pickG]
    rw [this, ← hk, hF, pick_rng]
  · obtain ⟨f, h3, h4⟩ := r2 i _ he
    have hi : i < (rngF 0 k ++ m).length := by rw [← p1]; exact (List.getElem?_eq_some_iff.1 h3).1
    obtain ⟨f', rfl⟩ := renE_some h4
    have hj : (rngF 0 k ++ m)[i]? = some (rngF 0 k ++ m)[i] := by simp [hi]
    rw [pickG_at hm hj] at hL
    exact A.own _ f' L (by rw [← p3 i _ hj]; exact h3) (by rw [(renE_mut h4).1]; exact hmut) hL
end
end Go.Proofs.YtfdfjakafiglmaaDoor
namespace Go.Proofs.YtfdfjakafiglmaaDoor
open Go.RowKit
set_option linter.unusedVariables false
set_option linter.unusedSimpArgs false
set_option linter.unusedSectionVars false
section
variable {P : Program} {Y : Tb} {n : Nat} {ks : List Nat} {G0 : Gr} {w0 : World} {T : List (Nat × SV)} {H : Hp} {G : Gr} {a : Act} {w w' : World} {Q : Exit → Act → World → Prop} {K : List Fr} {ops : Array Oper} {o : Oper} {rest : List Oper}
theorem callE {f : Nat} {args az : List SV} {H' H2 l l2 : Hp} {x y : SV} (m : List Nat) (hf : Fn P f args H' (Rt x H2)) (h1 : callS n ops T o = some (f, az)) (h2 : renL m args = some az) (h3 : renH m H' = some l) (h4 : pickH H m = some l) (h5 : ndB m = true)
    (h6 : renO (m ++ rngF H.length (H2.length - m.length)) x = some y) (h7 : renH (m ++ rngF H.length (H2.length - m.length)) H2 = some l2) : EffOK P n ops ks G0 w0 T H o y (putAll H m l2) := by
  intro G a w A
  rcases call_do (R2 := fun z H3 => z = y ∧ H3 = putAll H m l2) m hf A h1 h2 h3 h4 h5 (fun x' H' ⟨e1, e2⟩ => by subst e1; subst e2; exact ⟨y, l2, h6, h7, rfl, rfl⟩) with ⟨hw, h⟩ | ⟨hw, z, H3, F, ⟨rfl, rfl⟩, g2, g3⟩
  · refine .inl ⟨hw, fun Q' => ?_⟩
    refine Oper.wp_mono (fun a' w' hh => ?_) (h Q')
    obtain ⟨v, rfl, z, H3, F, ⟨rfl, rfl⟩, g2, g3⟩ := hh
    exact ⟨v, rfl, F, g2, g3.ms⟩
  · exact .inr ⟨hw, F, g2, g3.ms⟩
theorem own_take {e s m k cap : Nat} {ao : Option Addr} {xs : List Value} (h : w.ownsRow 0 e s (.slice ao m cap) m xs) (hk : k ≤ m) : w.ownsRow 0 e s (.slice ao k cap) k (xs.take (k * s)) := by
  obtain ⟨r4, r5⟩ := h
  have hmul : k * s ≤ m * s := Nat.mul_le_mul_right s hk
  refine ⟨by simp; omega, ?_⟩
  rcases r5 with ⟨q1, q2⟩ | ⟨g, cap', cur, q1, q2, q3, q4, q5, q6, q7⟩
  · left
    cases ao with
    | none => simp at q1 ⊢; omega
    | some L => simp at q1
  · right
    cases ao with
    | none => cases q1
    | some L =>
      simp only [Value.slice.injEq] at q1
      obtain ⟨q8, _, q9⟩ := q1
      exact ⟨g, cap', cur, by simp only [q8, q9], q2, q3, by omega, q5, q6, by rw [← q7, List.take_take, Nat.min_eq_left hmul]⟩
theorem Sy.shrink (A : Sy n T H ks G0 w0 G a w) (i k : Nat) {e s m c : Nat} {f : Nat → List SV} (h : lg H i = some (some (.row e s m c f))) (hk : k ≤ m) : Sy n T (stH H i (some (.row e s k c f))) ks G0 w0 G a w := by
  rw [lg_is] at h
  have hilt : i < H.length := (List.getElem?_eq_some_iff.1 h).1
  rw [stH_is]
  have hat : ∀ (j : Nat) (e' : Ent), (H.set i (some (.row e s k c f)))[j]? = some (some e') → (j = i ∧ e' = .row e s k c f) ∨ (j ≠ i ∧ H[j]? = some (some e')) := by
    intro j e' he
    by_cases hj : j = i
    · subst hj
      rw [List.getElem?_set_self hilt] at he
      cases he; exact .inl ⟨rfl, rfl⟩
    · rw [List.getElem?_set_ne (Ne.symm hj)] at he
      exact .inr ⟨hj, he⟩
  have back : ∀ (j : Nat) (e' : Ent), (H.set i (some (.row e s k c f)))[j]? = some (some e') → ∃ e'' : Ent, H[j]? = some (some e'') ∧ e''.mut = e'.mut ∧ (e''.empty ↔ e'.empty) := by
    intro j e' he
    rcases hat j e' he with ⟨rfl, rfl⟩ | ⟨_, h2⟩
    · exact ⟨_, h, rfl, Iff.rfl⟩
    · exact ⟨e', h2, rfl, Iff.rfl⟩
  refine ⟨A.size, A.defers, A.get, ⟨by rw [List.length_set]; exact A.mem.len, ?_, ?_⟩, A.pre, ?_, A.mix⟩
  · intro j e' he
    rcases hat j e' he with ⟨rfl, rfl⟩ | ⟨_, h2⟩
    · obtain ⟨r1, r2, xs, r3, r4⟩ := A.mem.ent j _ h
      exact ⟨r1, r2, _, flat_take r1 r3 k hk, own_take r4 hk⟩
    · exact A.mem.ent j e' h2
  · intro j j' e1 e2 L M hij he1 he2 hm hL hM hne
    obtain ⟨d1, g1, g2, g3⟩ := back j e1 he1
    obtain ⟨d2, k1, k2, k3⟩ := back j' e2 he2
    exact A.mem.sep j j' d1 d2 L M hij g1 k1 (by rw [g2]; exact hm) hL hM (fun h => hne (k3.1 h))
  · intro j e1 L he1 hm hL
    obtain ⟨d1, g1, g2, g3⟩ := back j e1 he1
    exact A.own j d1 L g1 (by rw [g2]; exact hm) hL
theorem eff_shrink {x : SV} {H' : Hp} (i k : Nat) {e s m c : Nat} {f : Nat → List SV} (h : lg H i = some (some (.row e s m c f))) (hk : k ≤ m) (hE : EffOK P n ops ks G0 w0 T (stH H i (some (.row e s k c f))) o x H') : EffOK P n ops ks G0 w0 T H o x H' :=
  fun G a w A => hE G a w (A.shrink i k h hk)
theorem Sy.entTurn (A : Sy n T H ks G0 w0 G a w) {i : Nat} {e e' : Ent} {L : Loc} (hi : H[i]? = some (some e)) (hm : e.mut = true) (hm' : e'.mut = true) (hL : G[i]? = some (some L)) (hu : Upd L.b w w') (hn : EntOK G w' (some L) e') : Sy n T (stH H i (some e')) ks G0 w0 G a w' := by
  have hilt : i < H.length := (List.getElem?_eq_some_iff.1 hi).1
  have hold : ∀ (j : Nat) (x : Ent), (stH H i (some e'))[j]? = some (some x) → (j ≠ i ∧ H[j]? = some (some x)) ∨ (j = i ∧ x = e') := by
    intro j x h
    rw [stH_is] at h
    by_cases hj : j = i
    · subst hj; rw [List.getElem?_set_self hilt] at h; cases h; exact .inr ⟨rfl, rfl⟩
    · rw [List.getElem?_set_ne (Ne.symm hj)] at h; exact .inl ⟨hj, h⟩
  refine ⟨A.size, A.defers, A.get, ⟨by rw [stH_is]; simpa using A.mem.len, ?_, ?_⟩, A.pre, ?_, A.mix.upd hu (A.own i _ L hi hm hL)⟩
  · intro j x h
    rcases hold j x h with ⟨k1, k2⟩ | ⟨rfl, rfl⟩
    · refine (A.mem.ent j x k2).mix hu.mix fun hne M hM => ?_
      have := A.mem.sep i j _ x L M (Ne.symm k1) hi k2 hm hL (get_loc hM) hne
      simp; exact fun e => this e.symm
    · rw [hL]; exact hn
  · intro j k x f M N hjk h1 h2 h3 h4 h5 h6
    have a1 : ∃ x', H[j]? = some (some x') ∧ x'.mut = x.mut := by
      rcases hold j x h1 with ⟨_, k2⟩ | ⟨rfl, rfl⟩
      · exact ⟨x, k2, rfl⟩
      · exact ⟨_, hi, by rw [hm, hm']⟩
    have a2 : ∃ x', H[k]? = some (some x') ∧ ¬ x'.empty := by
      rcases hold k f h2 with ⟨_, k2⟩ | ⟨rfl, rfl⟩
      · exact ⟨f, k2, h6⟩
      · exact ⟨_, hi, mut_full hm⟩
    obtain ⟨e1, b1, b2⟩ := a1
    obtain ⟨f', b3, b4⟩ := a2
    exact A.mem.sep j k e1 f' M N hjk b1 b3 (by rw [b2]; exact h3) h4 h5 b4
  · intro j x M h1 h2 h3
    rcases hold j x h1 with ⟨_, k2⟩ | ⟨rfl, rfl⟩
    · exact A.own j x M k2 h2 h3
    · exact A.own j _ M hi hm h3
def clrS (Y : Tb) (n : Nat) (ops : Array Oper) (T : List (Nat × SV)) (H : Hp) (o : Oper) : Option ((Nat × Nat × Nat × Nat × Nat) × (Nat → List SV) × Nat × Nat) := match fitsD n o.dst with
  | true => match guardS ops T o.guard with
    | some .run => match o.op with
      | .call c => match c.callee, c.args.toList, c.argTypes.toList with
        | .builtin .clear, [x], [t] => match evS T x with
          | some (.st i s k n' cc) => match lg H i, Y.get t with
            | some (some (.row e s' m c f)), some ti => match ti.elm, Y.get e with
              | some (e', s2, _), some te => match te.zero with
                | some zs => match onesS zs with
                  | some [] => match Nat.beq e e' && Nat.beq s s' && Nat.beq s s2 && Nat.beq cc c with
                    | true => some ((i, e, s, m, c), f, k, n')
                    | false => none
                  | _ => none
                | none => none
              | _, _ => none
            | _, _ => none
          | _ => none
        | _, _, _ => none
      | _ => none
    | _ => none
  | false => none
theorem CLR {i e s m c k n' : Nat} {f : Nat → List SV} (hY : Y.ok P = true) (A : Sy n T H ks G0 w0 G a w) (h : clrS Y n ops T H o = some ((i, e, s, m, c), f, k, n')) (hk : k + n' = m)
    (hg : ∀ {G a w}, Sy n (extS T o.dst (.tup [])) (stH H i (some (.row e s k c f))) ks G0 w0 G a w → Goal P Q K (.ops ops rest) a w) : Goal P Q K (.ops ops (o :: rest)) a w := by
  obtain ⟨d, op, ty, pos, af, gd⟩ := o
  unfold clrS at h
  split at h
  · next hd =>
    split at h
    · next hgd =>
      have hw := gd_run (gd := none) A hgd
      split at h
      · next ca hca =>
        simp only at hca
        subst hca
        obtain ⟨callee, args, ats⟩ := ca
        simp only at h
        split at h
        · next x t ha ht =>
          split at h
          · next i' s1 k1 n1 cc hx =>
            split at h
            · next e' s' m' c' f' ti hi hti =>
              split at h
              · next e2 s2 bb te hel hte =>
                split at h
                · next zs hzs =>
                  split at h
                  · next hon =>
                    split at h
                    · next hck =>
                      cases h
                      simp only [Bool.and_eq_true] at hck
                      obtain ⟨⟨⟨c1, c2⟩, c3⟩, c4⟩ := hck
                      have q1 := Nat.eq_of_beq_eq_true c1
                      have q2 := Nat.eq_of_beq_eq_true c2
                      have q3 := Nat.eq_of_beq_eq_true c3
                      have q4 := Nat.eq_of_beq_eq_true c4
                      subst q1; subst q2; subst q3; subst q4
                      rw [lg_is] at hi
                      have hargs : args = #[x] := by have := congrArg List.toArray ha; simpa using this
                      have hats : ats = #[t] := by have := congrArg List.toArray ht; simpa using this
                      subst hargs; subst hats
                      have hvx := A.ev hx
                      obtain ⟨ie, z, f1', f2', f3', f4', f5', f6', f7'⟩ := elem_facts (ti_elm (Tb.at hY hti) hel)
                      obtain ⟨z2, m2, z3, z4⟩ := ti_zero (Tb.at hY hte) hzs
                      rw [f2'] at z3
                      simp only [Option.map_some, Option.some.injEq, Prod.mk.injEq] at z3
                      rw [f3'] at z3
                      simp only [Option.some.injEq] at z3
                      have hz2 := z3.1
                      subst hz2
                      have hone := onesS_spec (G := G) hon okE_nil (z4 G)
                      have hzv := (zero_of_info (P := P) (t := e) (v := z) (n := ie.size) (by rw [f2']; simp [f3'])).1
                      obtain ⟨r1, r2, xs, r3, r4, r5⟩ := A.mem.ent i _ hi
                      obtain ⟨q, hq⟩ : ∃ q, G[i]? = some q := by
                        have : i < G.length := by rw [← A.mem.len]; exact (List.getElem?_eq_some_iff.1 hi).1
                        exact ⟨G[i], by simp [this]⟩
                      rw [hq] at r2 r5
                      simp only [Option.getD_some] at r2 r5
                      unfold den at hvx
                      rw [hq] at hvx
                      simp only [Option.some.injEq] at hvx
                      have A1 := A.shrink i k (by rw [lg_is]; exact hi) (by omega)
                      by_cases hn0 : n' = 0
                      · subst hn0
                        refine q_does (Q := wpK P Q K) (does_val (v := .tuple #[]) (w' := w) hw ?_ (hg (Sy.put A1 hd rfl)))
                        unfold execOp
                        simp only [resolve, invoke, builtin, Sem.run_bind, Sem.run_pure, Result.andThen_ok, List.map_toArray, List.map_cons, List.map_nil, ← hvx]
                        cases q with
                        | none => simp [Builtin.clear_, run_underlying f1']
                        | some L => simp [Builtin.clear_, run_underlying f1']
                      · rcases r5 with ⟨_, r5⟩ | ⟨g, cap, cur, q1, _, q3, q4, q5, q6, q7⟩
                        · omega
                        cases q with
                        | none => cases q1
                        | some L =>
                          simp only [Option.map_some, Value.slice.injEq, Option.some.injEq, Addr.mk.injEq] at q1
                          obtain ⟨⟨q8, q9, _⟩, _, q10⟩ := q1
                          have hpre := r2 L rfl
                          subst q8
                          have hne : ¬ (cc + rm (some L) = k) := by omega
                          simp only [Option.map_some, if_neg hne, hpre, List.length_nil, Nat.zero_add] at hvx
                          have hzl : (Builtin.zeroCells z.cells n').toList.length = n' * s := by simp [Builtin.zeroCells, f6']
                          have hzo : ∀ v ∈ (Builtin.zeroCells z.cells n').toList, v.oneCell' = true := by
                            intro v hv
                            simp only [Builtin.zeroCells, Array.toList_map, List.mem_map, Array.toList_range, List.mem_range] at hv
                            obtain ⟨j, hj, rfl⟩ := hv
                            have hlt : j % z.cells.size < z.cells.size := Nat.mod_lt _ (by omega)
                            rw [getElem!_pos z.cells _ hlt]
                            exact (List.all_eq_true.1 hone) _ (by simp)
                          have hcl : cur.toList.length = cap * s := by simpa using q6
                          have hsum : k * s + n' * s = m * s := by rw [← Nat.add_mul, hk]
                          have hcs : m * s ≤ cap * s := Nat.mul_le_mul_right s q4
                          have hsplit : cur.toList = cur.toList.take (k * s) ++ (cur.toList.drop (k * s)).take (n' * s) ++ cur.toList.drop (k * s + n' * s) := by
                            have e2 : cur.toList.drop (k * s + n' * s) = (cur.toList.drop (k * s)).drop (n' * s) := by rw [List.drop_drop]
                            rw [e2, List.append_assoc, List.take_append_drop, List.take_append_drop]
                          have hblk : Blk w L.b (cur.toList.take (k * s) ++ (cur.toList.drop (k * s)).take (n' * s) ++ cur.toList.drop (k * s + n' * s)).toArray e := by rw [← hsplit]; unfold Blk; simpa using q3
                          have hA : (cur.toList.take (k * s)).length = k * s := by simp; omega
                          obtain ⟨g1, g2⟩ := blk_cells (Builtin.zeroCells z.cells n').toList _ _ _ w (by rw [hzl]; simp; omega) hblk
                          rw [hA] at g1 g2
                          have hst := run_storeCells_cells (P := P) L.b (k * s) (Builtin.zeroCells z.cells n').toList 0 w (fun j hj => by
                            have hlt : k * s + 0 + j < cur.size := by rw [hzl] at hj; omega
                            rw [cell_of_row w L.b _ cur e _ q3, Array.getElem?_eq_getElem hlt]; rfl) (fun j hj => by
                            have : Blk w L.b cur e := q3
                            exact this.frozen _) hzo
                          rw [Nat.add_zero] at hst
                          refine q_does (Q := wpK P Q K) (does_val (v := .tuple #[]) (w' := w.setCells L.b (k * s) (Builtin.zeroCells z.cells n').toList) hw ?_ (hg (Sy.put (A.entTurn hi rfl rfl hq g2 ?_) hd rfl)))
                          · obtain ⟨n1, rfl⟩ : ∃ n1, n' = n1 + 1 := ⟨n' - 1, by omega⟩
                            unfold execOp
                            simp only [resolve, invoke, builtin, Sem.run_bind, Sem.run_pure, Result.andThen_ok, List.map_toArray, List.map_cons, List.map_nil, ← hvx]
                            simp [Builtin.clear_, run_underlying f1', hzv, hst]
                          · refine ⟨r1, fun L' hL' => by cases hL'; exact hpre, _, flat_take r1 r3 k (by omega), ?_, .inr ⟨L.b, cap, _, ?_, Nat.zero_le _, g1, by omega, q5, ?_, ?_⟩⟩
                            · have := flat_len r1 r3; simp; omega
                            · simp [hpre, q10]
                            · simp [hzl]; omega
                            · rw [← q7, List.take_take, Nat.min_eq_left (by omega)]
                              simp only [List.toList_toArray]
                              rw [List.append_assoc, List.take_append_of_le_length (by simp; omega), List.take_take, Nat.min_self]
                    · cases h
                  · cases h
                · cases h
              · cases h
            · cases h
          · cases h
        · cases h
      · cases h
    · cases h
  · cases h
def nilS (Y : Tb) (n : Nat) (ops : Array Oper) (T : List (Nat × SV)) (o : Oper) : Option (Nat × Nat) := match fitsD n o.dst with
  | true => match guardS ops T o.guard with
    | some .run => match o.op with
      | .binOp .eql t x y _ => match evS T x, evS T y, Y.get t with
        | some (.sl i m _), some (.sla none 0 0), some ti => match ti.elm with
          | some _ => some (i, m)
          | none => none
        | _, _, _ => none
      | _ => none
    | _ => none
  | false => none
theorem nil_do {i m : Nat} (hY : Y.ok P = true) (A : Sy n T H ks G0 w0 G a w) (h : nilS Y n ops T o = some (i, m)) : fitsD n o.dst = true ∧ ∃ p, G[i]? = some p ∧ ∀ K : Value → World → Prop, K (.bool p.isNone) w → Does P ops o a w K := by
  obtain ⟨d, op, ty, pos, af, gd⟩ := o
  unfold nilS at h
  split at h
  · next hd =>
    split at h
    · next hgd =>
      have hw := gd_run (gd := none) A hgd
      split at h
      · next t x y t2 hop =>
        simp only at hop
        subst hop
        split at h
        · next i' m' c' ti hx hy hti =>
          split at h
          · next el hel =>
            cases h
            obtain ⟨e, s, b⟩ := el
            have hvx := A.ev hx
            have hvy := A.ev hy
            unfold den at hvx
            split at hvx
            · next p hp =>
              simp only [den, Option.some.injEq] at hvx hvy
              refine ⟨hd, p, hp, fun K hK => d_bin (u := .slice (p.map fun L => ⟨L.b, L.pre.length, none⟩) m (c' + rm p)) (v := .slice none 0 0) hw hvx.symm hvy.symm ⟨by simp [eqGuard], ?_⟩ hK⟩
              obtain ⟨ie, z, f1', _⟩ := elem_facts (ti_elm (Tb.at hY hti) hel)
              rw [Go.Lib.run_eql_slice_nil w t e _ _ _ 0 0 f1']
              cases p <;> rfl
            · cases hvx
          · cases h
        · cases h
      · cases h
    · cases h
  · cases h
theorem NILL {i m s m2 : Nat} {f : Nat → List SV} (hY : Y.ok P = true) (A : Sy n T H ks G0 w0 G a w) (h : nilS Y n ops T o = some (i, m)) (hi : lg H i = some (some (.lst s m2 f)))
    (h1 : m2 = 0 → ∀ {G a w}, Sy n (extS T o.dst .tt) H ks G0 w0 G a w → Goal P Q K (.ops ops rest) a w)
    (h2 : ∀ {G a w}, Sy n (extS T o.dst .ff) H ks G0 w0 G a w → Goal P Q K (.ops ops rest) a w) : Goal P Q K (.ops ops (o :: rest)) a w := by
  obtain ⟨hd, p, hp, hdo⟩ := nil_do hY A h
  rw [lg_is] at hi
  have hent := A.mem.ent i _ hi
  rw [hp] at hent
  simp only [Option.getD_some] at hent
  cases p with
  | none =>
    have : m2 = 0 := by
      rcases hent.2 with h | ⟨L, h, _⟩
      · exact h
      · cases h
    exact q_does (Q := wpK P Q K) (hdo _ (h1 this (Sy.put A hd rfl)))
  | some L => exact q_does (Q := wpK P Q K) (hdo _ (h2 (Sy.put A hd rfl)))
theorem NILR {i m e s m2 c : Nat} {f : Nat → List SV} (hY : Y.ok P = true) (A : Sy n T H ks G0 w0 G a w) (h : nilS Y n ops T o = some (i, m)) (hi : lg H i = some (some (.row e s m2 c f))) (h0 : 0 < m2)
    (h2 : ∀ {G a w}, Sy n (extS T o.dst .ff) H ks G0 w0 G a w → Goal P Q K (.ops ops rest) a w) : Goal P Q K (.ops ops (o :: rest)) a w := by
  obtain ⟨hd, p, hp, hdo⟩ := nil_do hY A h
  rw [lg_is] at hi
  obtain ⟨_, _, xs, _, _, r5⟩ := A.mem.ent i _ hi
  rw [hp] at r5
  simp only [Option.getD_some] at r5
  cases p with
  | none =>
    rcases r5 with ⟨_, r5⟩ | ⟨g, cap, cur, q1, _⟩
    · omega
    · cases q1
  | some L => exact q_does (Q := wpK P Q K) (hdo _ (h2 (Sy.put A hd rfl)))
theorem ENDN {fn : Func} {R : Ending → World → Prop} (h : bodyPost P fn R .ret a w) : bodyPost P fn R .normal a w := h
theorem JOIN1 {α : Type} {c : Code} (T' : α → List (Nat × SV)) (H' : α → Hp) (I : α → Prop) (A : Sy n T H ks G0 w0 G a w) (h : ∀ {G a w}, Sy n T H ks G0 w0 G a w → Goal P Q (.lp (fun a w => ∃ x G, I x ∧ Sy n (T' x) (H' x) ks G0 w0 G a w) :: K) (.code c) a w)
    (hk : ∀ x, I x → ∀ {G a w}, Sy n (T' x) (H' x) ks G0 w0 G a w → Goal P Q K .norm a w) : Goal P Q K (.code c) a w := JOIN T' H' I A h hk
theorem JOIN2 {α β : Type} {c : Code} (T' : α → β → List (Nat × SV)) (H' : α → β → Hp) (I : α → β → Prop) (A : Sy n T H ks G0 w0 G a w) (h : ∀ {G a w}, Sy n T H ks G0 w0 G a w → Goal P Q (.lp (fun a w => ∃ x y G, I x y ∧ Sy n (T' x y) (H' x y) ks G0 w0 G a w) :: K) (.code c) a w)
    (hk : ∀ x y, I x y → ∀ {G a w}, Sy n (T' x y) (H' x y) ks G0 w0 G a w → Goal P Q K .norm a w) : Goal P Q K (.code c) a w :=
  JOIN (fun z : α × β => T' z.1 z.2) (fun z => H' z.1 z.2) (fun z => I z.1 z.2) A (fun {G a w} A => lp_mono (fun a w ⟨x, y, G, h1, h2⟩ => ⟨(x, y), G, h1, h2⟩) (h A)) fun z hz {G a w} A => hk z.1 z.2 hz A
theorem JOIN3 {α β γ : Type} {c : Code} (T' : α → β → γ → List (Nat × SV)) (H' : α → β → γ → Hp) (I : α → β → γ → Prop) (A : Sy n T H ks G0 w0 G a w) (h : ∀ {G a w}, Sy n T H ks G0 w0 G a w → Goal P Q (.lp (fun a w => ∃ x y u G, I x y u ∧ Sy n (T' x y u) (H' x y u) ks G0 w0 G a w) :: K) (.code c) a w)
    (hk : ∀ x y u, I x y u → ∀ {G a w}, Sy n (T' x y u) (H' x y u) ks G0 w0 G a w → Goal P Q K .norm a w) : Goal P Q K (.code c) a w :=
  JOIN (fun z : α × β × γ => T' z.1 z.2.1 z.2.2) (fun z => H' z.1 z.2.1 z.2.2) (fun z => I z.1 z.2.1 z.2.2) A (fun {G a w} A => lp_mono (fun a w ⟨x, y, u, G, h1, h2⟩ => ⟨(x, y, u), G, h1, h2⟩) (h A)) fun z hz {G a w} A => hk z.1 z.2.1 z.2.2 hz A
end
end Go.Proofs.YtfdfjakafiglmaaDoor
namespace Go.Proofs.YtfdfjakafiglmaaDoor
open Go.RowKit
set_option linter.unusedVariables false
set_option linter.unusedSimpArgs false
set_option maxRecDepth 100000
set_option maxHeartbeats 2000000
set_option simprocs false
theorem hmo : Tryd.prog.follows .mixedOrders = true := by kernel_rfl
def one0 (kd : Int) (th : Int) (rg : Int) (lc : Int) (vl : Int) : Int := if kd = 1 then if ((((decide (th ≥ 0)) && (decide (th < 3))) && (decide (rg ≥ 0))) && (decide (rg < 8))) = true then if (!((((0 : Int) == 0) && (((0 : Int) == 0) && (((0 : Int) == 0) && ((lc == 0) && ((0 : Int) == 0))))))) = true then (-1) else 0 else (-1) else if kd = 2 then if ((decide (lc ≥ 0)) && (decide (lc < 3))) = true then if (!((((0 : Int) == 0) && ((th == 0) && ((rg == 0) && (((0 : Int) == 0) && ((0 : Int) == 0))))))) = true then (-1) else 0 else (-1) else if kd = 3 then if (!((((0 : Int) == 0) && ((th == 0) && ((rg == 0) && ((lc == 0) && (vl == 0))))))) = true then (-1) else 1 else if kd = 4 then if (!((((0 : Int) == 0) && ((th == 0) && ((rg == 0) && ((lc == 0) && (vl == 0))))))) = true then (-1) else 2 else if kd = 5 then if (!((((0 : Int) == 0) && ((th == 0) && ((rg == 0) && ((lc == 0) && (vl == 0))))))) = true then (-1) else 2 else (-1)
theorem below_ (k : Int) (m : Int)  : Fn Tryd.prog 35 [.int .i64 k, .int .i64 m] [] (Rt (.bool ((decide (0 ≤ k)) && (decide (k < m)))) []) :=
 enterM (n := 12) (by kernel_rfl) Tryd.func35 rfl rfl rfl fun G w a h0 A => N hX 18 A rfl rfl fun A => RETN hX A rfl rfl rfl h0 rfl rfl rfl rfl rfl rfl
def node0 (kd : Int) (th : Int) (rg : Int) (lc : Int) (vl : Int) : Bool := if kd = 1 then if ((decide (0 ≤ th)) && (decide (th < 3))) = true then ((decide (0 ≤ rg)) && (decide (rg < 8))) && (lc == 0) else false else if kd = 2 then (((decide (0 ≤ lc)) && (decide (lc < 3))) && (th == 0)) && (rg == 0) else if kd = 3 then ((kd == kd) && ((th == 0) && ((rg == 0) && ((lc == 0) && (vl == 0))))) else if kd = 4 then ((kd == kd) && ((th == 0) && ((rg == 0) && ((lc == 0) && (vl == 0))))) else if kd = 5 then ((kd == kd) && ((th == 0) && ((rg == 0) && ((lc == 0) && (vl == 0))))) else false
theorem node_ (kd : Int) (th : Int) (rg : Int) (lc : Int) (vl : Int)  : Fn Tryd.prog 21 [.agg [.int .i64 kd, .int .i64 th, .int .i64 rg, .int .i64 lc, .int .i64 vl]] [] (Rt (.bool (node0 kd th rg lc vl)) []) :=
 enterM (n := 44) (by kernel_rfl) Tryd.func21 rfl rfl rfl fun G w a h0 A => N hX 20 A rfl rfl fun A => forkE 5 A rfl
  (fun h1 A => N hX 5 A rfl rfl fun A => CALL1 [] (below_ th 3) A rfl rfl rfl rfl rfl rfl rfl fun A => N hX 1 A rfl rfl fun A => fork 10 A rfl
   (fun h2 A => N hX 2 A rfl rfl fun A => CALL1 [] (below_ rg 8) A rfl rfl rfl rfl rfl rfl rfl fun A => N hX 10 A rfl rfl fun A => RETN hX A rfl rfl rfl h0 rfl rfl rfl rfl (by simp only [oneS, nb, nbL, nbH, node0, if_pos h1, if_pos h2]) rfl)
   (fun h2 A => N hX 13 A rfl rfl fun A => RETN hX A rfl rfl rfl h0 rfl rfl rfl rfl (by simp only [oneS, nb, nbL, nbH, node0, if_pos h1, if_neg (ne_true_of_eq_false h2)]) rfl))
  (fun h1 A => N hX 7 A rfl rfl fun A => forkE 20 A rfl
   (fun h3 A => N hX 5 A rfl rfl fun A => CALL1 [] (below_ lc 3) A rfl rfl rfl rfl rfl rfl rfl fun A => N hX 14 A rfl rfl fun A => RETN hX A rfl rfl rfl h0 rfl rfl rfl rfl (by simp only [oneS, nb, nbL, nbH, node0, if_neg (h1), if_pos h3]) rfl)
   (fun h3 A => N hX 8 A rfl rfl fun A => forkE 35 A rfl
    (fun h4 A => N hX 15 A rfl rfl fun A => RETN hX A rfl rfl rfl h0 rfl rfl rfl rfl (by simp only [oneS, nb, nbL, nbH, node0, if_neg (h1), if_neg (h3), if_pos h4]) rfl)
    (fun h4 A => N hX 7 A rfl rfl fun A => forkE 35 A rfl
     (fun h5 A => N hX 15 A rfl rfl fun A => RETN hX A rfl rfl rfl h0 rfl rfl rfl rfl (by simp only [oneS, nb, nbL, nbH, node0, if_neg (h1), if_neg (h3), if_neg (h4), if_pos h5]) rfl)
     (fun h5 A => N hX 6 A rfl rfl fun A => forkE 35 A rfl
      (fun h6 A => N hX 12 A rfl rfl fun A => RETN hX A rfl rfl rfl h0 rfl rfl rfl rfl (by simp only [oneS, nb, nbL, nbH, node0, if_neg (h1), if_neg (h3), if_neg (h4), if_neg (h5), if_pos h6]) rfl)
      (fun h6 A => N hX 10 A rfl rfl fun A => RETN hX A rfl rfl rfl h0 rfl rfl rfl rfl (by simp only [oneS, nb, nbL, nbH, node0, if_neg (h1), if_neg (h3), if_neg (h4), if_neg (h5), if_neg (h6)]) rfl)))))
def parts0 (kd : Int) : Int := if kd = 3 then 1 else if kd = 4 then 2 else if kd = 5 then 2 else 0
theorem parts_ (kd : Int)  : Fn Tryd.prog 22 [.int .i64 kd] [] (Rt (.int .i64 (parts0 kd)) []) :=
 enterM (n := 9) (by kernel_rfl) Tryd.func22 rfl rfl rfl fun G w a h0 A => N hX 18 A rfl rfl fun A => forkE 4 A rfl
  (fun h1 A => N hX 7 A rfl rfl fun A => RETN hX A rfl rfl rfl h0 rfl rfl rfl rfl (by simp only [oneS, nb, nbL, nbH, parts0, if_pos h1]) rfl)
  (fun h1 A => N hX 8 A rfl rfl fun A => forkE 6 A rfl
   (fun h2 A => N hX 10 A rfl rfl fun A => RETN hX A rfl rfl rfl h0 rfl rfl rfl rfl (by simp only [oneS, nb, nbL, nbH, parts0, if_neg (h1), if_pos h2]) rfl)
   (fun h2 A => N hX 6 A rfl rfl fun A => forkE 6 A rfl
    (fun h3 A => N hX 7 A rfl rfl fun A => RETN hX A rfl rfl rfl h0 rfl rfl rfl rfl (by simp only [oneS, nb, nbL, nbH, parts0, if_neg (h1), if_neg (h2), if_pos h3]) rfl)
    (fun h3 A => N hX 10 A rfl rfl fun A => RETN hX A rfl rfl rfl h0 rfl rfl rfl rfl (by simp only [oneS, nb, nbL, nbH, parts0, if_neg (h1), if_neg (h2), if_neg (h3)]) rfl)))
theorem nan_ (k : Int)  : Fn Tryd.prog 70 [.int .i64 k] [] (Rt (.bool (!(k == k))) []) :=
 enterM (n := 6) (by kernel_rfl) Tryd.func70 rfl rfl rfl fun G w a h0 A => N hX 14 A rfl rfl fun A => RETN hX A rfl rfl rfl h0 rfl rfl rfl rfl rfl rfl
def cmpi0 (k : Int) (m : Int) : Int := if k ≠ k then if m ≠ m then 0 else (-1) else if m ≠ m then 1 else if k < m then (-1) else if k > m then 1 else 0
theorem cmpi_ (k : Int) (m : Int)  : Fn Tryd.prog 58 [.int .i64 k, .int .i64 m] [] (Rt (.int .i64 (cmpi0 k m)) []) :=
 enterM (n := 20) (by kernel_rfl) Tryd.func58 rfl rfl rfl fun G w a h0 A => N hX 8 A rfl rfl fun A => CALL1 [] (nan_ k) A rfl rfl rfl rfl rfl rfl rfl fun A => N hX 6 A rfl rfl fun A => CALL1 [] (nan_ m) A rfl rfl rfl rfl rfl rfl rfl fun A => N hX 9 A rfl rfl fun A => forkN 11 A rfl
  (fun h1 A => N hX 7 A rfl rfl fun A => forkN 12 A rfl
   (fun h2 A => N hX 7 A rfl rfl fun A => RETN hX A rfl rfl rfl h0 rfl rfl rfl rfl (by simp only [oneS, nb, nbL, nbH, cmpi0, if_pos h1, if_pos h2]) rfl)
   (fun h2 A => N hX 9 A rfl rfl fun A => RETN hX A rfl rfl rfl h0 rfl rfl rfl rfl (by simp only [oneS, nb, nbL, nbH, cmpi0, if_pos h1, if_neg (not_not_intro h2)]) rfl))
  (fun h1 A => N hX 9 A rfl rfl fun A => forkN 13 A rfl
   (fun h3 A => N hX 7 A rfl rfl fun A => RETN hX A rfl rfl rfl h0 rfl rfl rfl rfl (by simp only [oneS, nb, nbL, nbH, cmpi0, if_neg (not_not_intro h1), if_pos h3]) rfl)
   (fun h3 A => N hX 11 A rfl rfl fun A => forkD 16 A rfl
    (fun h4 A => N hX 7 A rfl rfl fun A => RETN hX A rfl rfl rfl h0 rfl rfl rfl rfl (by simp only [oneS, nb, nbL, nbH, cmpi0, if_neg (not_not_intro h1), if_neg (not_not_intro h3), if_pos h4]) rfl)
    (fun h4 A => N hX 11 A rfl rfl fun A => forkD 19 A rfl
     (fun h5 A => N hX 7 A rfl rfl fun A => RETN hX A rfl rfl rfl h0 rfl rfl rfl rfl (by simp only [oneS, nb, nbL, nbH, cmpi0, if_neg (not_not_intro h1), if_neg (not_not_intro h3), if_neg h4, if_pos h5]) rfl)
     (fun h5 A => N hX 9 A rfl rfl fun A => RETN hX A rfl rfl rfl h0 rfl rfl rfl rfl (by simp only [oneS, nb, nbL, nbH, cmpi0, if_neg (not_not_intro h1), if_neg (not_not_intro h3), if_neg h4, if_neg h5]) rfl))))
abbrev O := Nat → Int
def oz : O := fun _ => 0
instance : Inhabited O := ⟨oz⟩
abbrev oc (p : O) : List SV := [.int .i64 (p 0), .int .i64 (p 1), .int .i64 (p 2), .int .i64 (p 3), .int .i64 (p 4), .int .i64 (p 5), .int .i64 (p 6), .int .i64 (p 7), .int .i64 (p 8), .int .i64 (p 9), .int .i64 (p 10), .int .i64 (p 11), .int .i64 (p 12), .int .i64 (p 13), .int .i64 (p 14), .int .i64 (p 15), .int .i64 (p 16), .int .i64 (p 17), .int .i64 (p 18), .int .i64 (p 19), .int .i64 (p 20), .int .i64 (p 21), .int .i64 (p 22), .int .i64 (p 23), .int .i64 (p 24), .int .i64 (p 25), .int .i64 (p 26)]
def lx (p q : O) : Nat → Nat → Bool
 | 0, _ => false
 | f + 1, i => if p i = q i then lx p q f (i + 1) else decide (p i < q i)
def lessO (p q : O) : Bool := lx p q 27 0
def lxc (p q : O) : Nat → Nat → Int
 | 0, _ => 0
 | f + 1, i => if p i = q i then lxc p q f (i + 1) else if p i < q i then -1 else 1
def cmpO (p q : O) : Int := lxc p q 27 0
theorem lxc_lx (p q : O) : ∀ (f i : Nat), decide (lxc p q f i < 0) = lx p q f i
 | 0, _ => rfl
 | f + 1, i => by
   unfold lxc lx
   split
   · exact lxc_lx p q f (i + 1)
   · split
     · next h => rw [decide_eq_true h]; rfl
     · next h => rw [decide_eq_false h]; rfl
theorem cmp_less (p q : O) : decide (cmpO p q < 0) = lessO p q := lxc_lx p q 27 0
theorem lxc_add (p q : O) (n : Nat) : ∀ (m i : Nat), lxc p q (m + n) i = if lxc p q m i = 0 then lxc p q n (i + m) else lxc p q m i
 | 0, i => by simp [lxc]
 | m + 1, i => by
   rw [show m + 1 + n = (m + n) + 1 by omega, lxc, lxc]
   split
   · rw [lxc_add p q n m (i + 1), show i + 1 + m = i + (m + 1) by omega]
   · split
     · rfl
     · rfl
theorem cmpi_is (k m : Int) : cmpi0 k m = if k = m then 0 else if k < m then -1 else 1 := by
  have e1 : ¬ (k ≠ k) := fun h => h rfl
  have e2 : ¬ (m ≠ m) := fun h => h rfl
  unfold cmpi0
  rw [if_neg e1, if_neg e2]
  by_cases h : k = m
  · subst h; rw [if_neg (by omega), if_neg (by omega), if_pos rfl]
  · by_cases h2 : k < m
    · rw [if_pos h2, if_neg h, if_pos h2]
    · rw [if_neg h2, if_pos (by omega), if_neg h, if_neg h2]
theorem s24 (p : O) {t r : Nat} (ht : (t : Int) < 3) (hr : (r : Int) < 8) : [[p 0, p 1, p 2, p 3, p 4, p 5, p 6, p 7].getD ((r : Int)).toNat 0, [p 8, p 9, p 10, p 11, p 12, p 13, p 14, p 15].getD ((r : Int)).toNat 0, [p 16, p 17, p 18, p 19, p 20, p 21, p 22, p 23].getD ((r : Int)).toNat 0].getD ((t : Int)).toNat 0 = p (8 * t + r) := by
  have h : t = 0 ∨ t = 1 ∨ t = 2 := by omega
  have h' : r = 0 ∨ r = 1 ∨ r = 2 ∨ r = 3 ∨ r = 4 ∨ r = 5 ∨ r = 6 ∨ r = 7 := by omega
  rcases h with rfl | rfl | rfl <;> rcases h' with rfl | rfl | rfl | rfl | rfl | rfl | rfl | rfl <;> rfl
theorem s3 (p : O) {k : Nat} (hk : (k : Int) < 3) : [p 24, p 25, p 26].getD ((k : Int)).toNat 0 = p (24 + k) := by
  have h : k = 0 ∨ k = 1 ∨ k = 2 := by omega
  rcases h with rfl | rfl | rfl <;> rfl
structure CI (p q : O) (b m k : Nat) : Prop where
  le : k ≤ m
  eq : lxc p q m b = lxc p q (m - k) (b + k)
theorem CI.init {p q : O} {b m : Nat} : CI p q b m 0 := ⟨by omega, rfl⟩
theorem CI.at {p q : O} {b m k : Nat} (h : CI p q b m k) (hk : k < m) : lxc p q m b = if p (b + k) = q (b + k) then lxc p q (m - (k + 1)) (b + (k + 1)) else if p (b + k) < q (b + k) then -1 else 1 := by
  rw [h.eq, show m - k = (m - (k + 1)) + 1 by omega, lxc]; rfl
theorem CI.step {p q : O} {b m k : Nat} {x y : Int} (h : CI p q b m k) (hk : k < m) (e1 : x = p (b + k)) (e2 : y = q (b + k)) (e : cmpi0 x y = 0) : CI p q b m (k + 1) := by
  refine ⟨hk, ?_⟩
  rw [cmpi_is, e1, e2] at e
  rw [h.at hk]
  split at e
  · next hh => rw [if_pos hh]
  · split at e <;> cases e
theorem CI.stop {p q : O} {b m k : Nat} {x y : Int} (h : CI p q b m k) (hk : k < m) (e1 : x = p (b + k)) (e2 : y = q (b + k)) (e : cmpi0 x y ≠ 0) : cmpi0 x y = lxc p q m b := by
  rw [cmpi_is, e1, e2] at e ⊢
  rw [h.at hk]
  split at e
  · exact absurd rfl e
  · next hh => rw [if_neg hh, if_neg hh]
theorem CI.done {p q : O} {b m k : Nat} (h : CI p q b m k) (hk : ¬ k < m) : lxc p q m b = 0 := by
  rw [h.eq, show m - k = 0 by omega, lxc]
structure KI (p q : O) (t : Nat) : Prop where
  le : t ≤ 3
  eq : cmpO p q = lxc p q (27 - 8 * t) (8 * t)
theorem KI.step {p q : O} {t : Nat} (h : KI p q t) (ht : (t : Int) < 3) (e : lxc p q 8 (8 * t) = 0) : KI p q (t + 1) := by
  refine ⟨by omega, ?_⟩
  rw [h.eq, show 27 - 8 * t = 8 + (27 - 8 * (t + 1)) by omega, lxc_add, if_pos e]; rfl
theorem KI.stop {p q : O} {t : Nat} (h : KI p q t) (ht : (t : Int) < 3) (e : lxc p q 8 (8 * t) ≠ 0) : lxc p q 8 (8 * t) = cmpO p q := by
  rw [h.eq, show 27 - 8 * t = 8 + (27 - 8 * (t + 1)) by omega, lxc_add, if_neg e]
theorem KI.done {p q : O} {t : Nat} (h : KI p q t) (ht : ¬ (t : Int) < 3) : lxc p q 3 24 = cmpO p q := by
  have : t = 3 := by have := h.le; omega
  subst this
  rw [h.eq]
theorem cmp8_ (p : O) (q : O) (t : Nat) (ht : (t : Int) < 3) : Fn Tryd.prog 40 [.sp (.ix (.ptr 0 0) 8 3 (t : Int) 0) 8 8, .sp (.ix (.ptr 1 0) 8 3 (t : Int) 0) 8 8] [some (.blk (oc p)), some (.blk (oc q))] (Rt (.int .i64 (lxc p q 8 (8 * t))) [some (.blk (oc p)), some (.blk (oc q))]) :=
 enterM (n := 36) (by kernel_rfl) Tryd.func40 rfl rfl rfl fun G w a h0 A => N hX 14 A rfl rfl fun A => LOOP1 (fun (r : Nat) => [(0, .sp (.ix (.ptr 0 0) 8 3 (t : Int) 0) 8 8), (1, .sp (.ix (.ptr 1 0) 8 3 (t : Int) 0) 8 8), (4, .int .i64 0), (9, .sp (.ix (.ptr 0 0) 8 3 (t : Int) 0) 8 8), (10, .int .i64 ((8 : Nat) : Int)), (11, .int .i64 (r : Int))]) (fun (r : Nat) => [some (.blk (oc p)), some (.blk (oc q))]) (fun (r : Nat) => CI p q (8 * t) 8 r) (fun (r : Nat) => 8 - r) 0 CI.init ((A.cut [0, 1, 4, 9, 10, 11] rfl).trunc 2 rfl rfl rfl (by simp only [List.length_cons, List.length_nil] at h0; omega)) fun r hI {G a w} A => N hX 6 A rfl rfl fun A => forkD 12 A rfl
   (fun h1 A => N hX 16 A rfl (ok_d (by omega) <| ok_d (by omega) <| ok_d (by omega) <| okE_nil) fun A => N hX 7 A rfl rfl fun A => forkD 19 A rfl
    (fun h2 A => N hX 7 A rfl rfl fun A => RETN hX A rfl rfl rfl h0 rfl rfl rfl rfl (absurd h2 (by omega)) rfl)
    (fun h2 A => N hX 13 A rfl (ok_d (by omega) <| ok_d (by omega) <| ok_d (by omega) <| okE_nil) fun A => N hX 3 A rfl rfl fun A => CALL1 [] (cmpi_ ([[(p 0), (p 1), (p 2), (p 3), (p 4), (p 5), (p 6), (p 7)].getD ((r : Int)).toNat 0, [(p 8), (p 9), (p 10), (p 11), (p 12), (p 13), (p 14), (p 15)].getD ((r : Int)).toNat 0, [(p 16), (p 17), (p 18), (p 19), (p 20), (p 21), (p 22), (p 23)].getD ((r : Int)).toNat 0].getD ((t : Int)).toNat 0) ([[(q 0), (q 1), (q 2), (q 3), (q 4), (q 5), (q 6), (q 7)].getD ((r : Int)).toNat 0, [(q 8), (q 9), (q 10), (q 11), (q 12), (q 13), (q 14), (q 15)].getD ((r : Int)).toNat 0, [(q 16), (q 17), (q 18), (q 19), (q 20), (q 21), (q 22), (q 23)].getD ((r : Int)).toNat 0].getD ((t : Int)).toNat 0)) A rfl rfl rfl rfl rfl rfl rfl fun A => N hX 9 A rfl rfl fun A => forkN 28 A rfl
     (fun h3 A => N hX 8 A rfl rfl fun A => RETN hX A rfl rfl rfl h0 rfl rfl rfl rfl (by rw [hI.stop (by omega) (s24 p ht (by omega)) (s24 q ht (by omega)) h3]; rfl) rfl)
     (fun h3 A => N hX 8 A rfl (ok_d (by omega) <| okE_nil) fun A => ⟨r + 1, _, (by omega), (hI.step (by omega) (s24 p ht (by omega)) (s24 q ht (by omega)) h3), ((A.cut [0, 1, 4, 9, 10, 11] rfl).trunc 2 rfl rfl rfl (by simp only [List.length_cons, List.length_nil] at h0; omega))⟩)))
   (fun h1 A => N hX 13 A rfl rfl fun A => forkD 35 A rfl
    (fun h4 A => N hX 7 A rfl rfl fun A => RETN hX A rfl rfl rfl h0 rfl rfl rfl rfl (absurd h4 (by omega)) rfl)
    (fun h4 A => N hX 9 A rfl rfl fun A => RETN hX A rfl rfl rfl h0 rfl rfl rfl rfl (by rw [hI.done (by omega)]; rfl) rfl))
theorem cmp3_ (p : O) (q : O)  : Fn Tryd.prog 40 [.sp (.ptr 0 24) 3 3, .sp (.ptr 1 24) 3 3] [some (.blk (oc p)), some (.blk (oc q))] (Rt (.int .i64 (lxc p q 3 24)) [some (.blk (oc p)), some (.blk (oc q))]) :=
 enterM (n := 36) (by kernel_rfl) Tryd.func40 rfl rfl rfl fun G w a h0 A => N hX 14 A rfl rfl fun A => LOOP1 (fun (k : Nat) => [(0, .sp (.ptr 0 24) 3 3), (1, .sp (.ptr 1 24) 3 3), (4, .int .i64 0), (9, .sp (.ptr 0 24) 3 3), (10, .int .i64 ((3 : Nat) : Int)), (11, .int .i64 (k : Int))]) (fun (k : Nat) => [some (.blk (oc p)), some (.blk (oc q))]) (fun (k : Nat) => CI p q 24 3 k) (fun (k : Nat) => 3 - k) 0 CI.init ((A.cut [0, 1, 4, 9, 10, 11] rfl).trunc 2 rfl rfl rfl (by simp only [List.length_cons, List.length_nil] at h0; omega)) fun k hI {G a w} A => N hX 6 A rfl rfl fun A => forkD 12 A rfl
   (fun h1 A => N hX 16 A rfl (ok_d (by omega) <| ok_d (by omega) <| okE_nil) fun A => N hX 7 A rfl rfl fun A => forkD 19 A rfl
    (fun h2 A => N hX 7 A rfl rfl fun A => RETN hX A rfl rfl rfl h0 rfl rfl rfl rfl (absurd h2 (by omega)) rfl)
    (fun h2 A => N hX 13 A rfl (ok_d (by omega) <| ok_d (by omega) <| okE_nil) fun A => N hX 3 A rfl rfl fun A => CALL1 [] (cmpi_ ([(p 24), (p 25), (p 26)].getD ((k : Int)).toNat 0) ([(q 24), (q 25), (q 26)].getD ((k : Int)).toNat 0)) A rfl rfl rfl rfl rfl rfl rfl fun A => N hX 9 A rfl rfl fun A => forkN 28 A rfl
     (fun h3 A => N hX 8 A rfl rfl fun A => RETN hX A rfl rfl rfl h0 rfl rfl rfl rfl (by rw [hI.stop (by omega) (s3 p (by omega)) (s3 q (by omega)) h3]; rfl) rfl)
     (fun h3 A => N hX 8 A rfl (ok_d (by omega) <| okE_nil) fun A => ⟨k + 1, _, (by omega), (hI.step (by omega) (s3 p (by omega)) (s3 q (by omega)) h3), ((A.cut [0, 1, 4, 9, 10, 11] rfl).trunc 2 rfl rfl rfl (by simp only [List.length_cons, List.length_nil] at h0; omega))⟩)))
   (fun h1 A => N hX 13 A rfl rfl fun A => forkD 35 A rfl
    (fun h4 A => N hX 7 A rfl rfl fun A => RETN hX A rfl rfl rfl h0 rfl rfl rfl rfl (absurd h4 (by omega)) rfl)
    (fun h4 A => N hX 9 A rfl rfl fun A => RETN hX A rfl rfl rfl h0 rfl rfl rfl rfl (by rw [hI.done (by omega)]; rfl) rfl))
theorem compare_ (p : O) (q : O)  : Fn Tryd.prog 27 [.agg (oc p), .agg (oc q)] [] (Rt (.int .i64 (cmpO p q)) []) :=
 enterM (n := 28) (by kernel_rfl) Tryd.func27 rfl rfl rfl fun G w a h0 A => N hX 14 A rfl rfl fun A => LOOP1 (fun (t : Nat) => [(2, .ptr 0 0), (3, .ptr 1 0), (4, .int .i64 0), (7, .int .i64 (t : Int))]) (fun (t : Nat) => [some (.blk (oc p)), some (.blk (oc q))]) (fun (t : Nat) => KI p q t) (fun (t : Nat) => 3 - t) 0 ⟨by omega, rfl⟩ ((A.cut [2, 3, 4, 7] rfl).trunc 2 rfl rfl rfl (by simp only [List.length_cons, List.length_nil] at h0; omega)) fun t hI {G a w} A => N hX 6 A rfl rfl fun A => forkD 8 A rfl
   (fun h1 A => N hX 12 A rfl rfl fun A => DRAWN hX hmo [] [(8, .int .i64 (lxc p q 8 (8 * t)), [some (.blk (oc p)), some (.blk (oc q))])] A rfl (ok_d (by omega) <| ok_d (by omega) <| ok_d (by omega) <| ok_d (by omega) <| okE_nil) rfl rfl (by kernel_rfl) ⟨callE [0, 1] (cmp8_ p q t h1) rfl rfl rfl rfl rfl rfl rfl, trivial⟩ trivial fun A => N hX 7 A rfl rfl fun A => forkN 20 A rfl
    (fun h2 A => N hX 8 A rfl rfl fun A => RETN hX A rfl rfl rfl h0 rfl rfl rfl rfl (by rw [hI.stop h1 h2]; rfl) rfl)
    (fun h2 A => N hX 8 A rfl (ok_d (by omega) <| okE_nil) fun A => ⟨t + 1, _, (by omega), (hI.step h1 h2), ((A.cut [2, 3, 4, 7] rfl).trunc 2 rfl rfl rfl (by simp only [List.length_cons, List.length_nil] at h0; omega))⟩))
   (fun h1 A => N hX 4 A rfl rfl fun A => DRAWN hX hmo [] [(4, .int .i64 (lxc p q 3 24), [some (.blk (oc p)), some (.blk (oc q))])] A rfl rfl rfl rfl (by kernel_rfl) ⟨callE [0, 1] (cmp3_ p q) rfl rfl rfl rfl rfl rfl rfl, trivial⟩ trivial fun A => N hX 2 A rfl rfl fun A => RETN hX A rfl rfl rfl h0 rfl rfl rfl rfl (by rw [hI.done h1]; rfl) rfl)
end Go.Proofs.YtfdfjakafiglmaaDoor
namespace Go.Proofs.YtfdfjakafiglmaaDoor
open Go.RowKit
set_option linter.unusedVariables false
set_option linter.unusedSimpArgs false
set_option maxRecDepth 100000
set_option maxHeartbeats 2000000
set_option simprocs false
open Go.Sort
theorem jlt {p : Prop} [Decidable p] {b : Bool} (h : (decide p && b) = true) : p := by rw [Bool.and_eq_true, decide_eq_true_eq] at h; exact h.1
theorem jrt {b c : Bool} (h : (b && c) = true) : c = true := by rw [Bool.and_eq_true] at h; exact h.2
theorem aset_ne {d : Array O} {k z : Nat} {v : O} (h : z ≠ k) : (d.setIfInBounds k v)[z]! = d[z]! := by
  simp only [Array.getElem!_eq_getD, Array.getD_eq_getD_getElem?]
  rw [Array.getElem?_setIfInBounds_ne (Ne.symm h)]
theorem aset_at {d : Array O} {k : Nat} {v : O} (h : k < d.size) : (d.setIfInBounds k v)[k]! = v := by
  simp only [Array.getElem!_eq_getD, Array.getD_eq_getD_getElem?]
  rw [Array.getElem?_setIfInBounds_self_of_lt h]; rfl
theorem asz {d : Array O} {k : Nat} {v : O} : (d.setIfInBounds k v).size = d.size := by simp
theorem swp_sz (d : Array O) (i j : Nat) : (swp d i j).size = d.size := by simp [swp]
theorem swp_is {d : Array O} {x y : Int} {i j : Nat} (hi : x.toNat = i) (hj : y.toNat = j) : (d.setIfInBounds x.toNat (d[y.toNat]!)).setIfInBounds y.toNat (d[x.toNat]!) = swp d i j := by subst hi; subst hj; rfl
structure SO (d : Array O) (a b : Nat) (dk : Array O) (i : Nat) : Prop where
  sz : dk.size = d.size
  le : a + 1 ≤ i
  eq : insOuter lessO a b i dk = insertionSort lessO d a b
structure SJ (d : Array O) (a i : Nat) (dk dj : Array O) (j : Nat) : Prop where
  sz : dj.size = d.size
  le : j ≤ i
  eq : insInner lessO a j dj = insInner lessO a i dk
theorem SJ.step {d dk dj : Array O} {a i j : Nat} (h : SJ d a i dk dj j) (hc : (decide ((j : Int) > (a : Int)) && decide (cmpO (dj[((j : Int)).toNat]!) (dj[((j : Int) - 1).toNat]!) < 0)) = true) :
    SJ d a i dk ((dj.setIfInBounds ((j : Int)).toNat (dj[((j : Int) - 1).toNat]!)).setIfInBounds ((j : Int) - 1).toNat (dj[((j : Int)).toNat]!)) (j - 1) := by
  have h1 := jlt hc
  have h2 := jrt hc
  rw [cmp_less] at h2
  obtain ⟨k, rfl⟩ : ∃ k, j = k + 1 := ⟨j - 1, by omega⟩
  have e1 : (((k + 1 : Nat) : Int) - 1).toNat = k := by omega
  have e2 : (((k + 1 : Nat) : Int)).toNat = k + 1 := by omega
  rw [swp_is e2 e1]
  rw [e1, e2] at h2
  refine ⟨by rw [swp_sz, h.sz], by have := h.le; omega, ?_⟩
  rw [← h.eq, insInner, h2]
  rw [if_pos (by simp; omega)]; rfl
theorem SJ.stop {d dk dj : Array O} {a i j : Nat} (h : SJ d a i dk dj j) (hc : (decide ((j : Int) > (a : Int)) && decide (cmpO (dj[((j : Int)).toNat]!) (dj[((j : Int) - 1).toNat]!) < 0)) = false) : insInner lessO a i dk = dj := by
  rw [cmp_less] at hc
  rw [← h.eq]
  cases j with
  | zero => rfl
  | succ k =>
    have e1 : (((k + 1 : Nat) : Int) - 1).toNat = k := by omega
    have e2 : (((k + 1 : Nat) : Int)).toNat = k + 1 := by omega
    rw [e1, e2] at hc
    rw [insInner, if_neg]
    intro h2
    rw [Bool.and_eq_true] at h2
    rw [h2.2, Bool.and_true, decide_eq_false_iff_not] at hc
    have := of_decide_eq_true h2.1
    omega
theorem SO.step {d dk dj : Array O} {a b i j : Nat} (h : SO d a b dk i) (hi : (i : Int) < (b : Int)) (hJ : SJ d a i dk dj j) (e : insInner lessO a i dk = dj) : SO d a b dj (i + 1) := by
  refine ⟨hJ.sz, by have := h.le; omega, ?_⟩
  rw [← h.eq]
  conv => rhs; unfold insOuter
  rw [if_pos (by omega), e]
theorem SO.done {d dk : Array O} {a b i : Nat} (h : SO d a b dk i) (hi : ¬ (i : Int) < (b : Int)) : insertionSort lessO d a b = dk := by
  rw [← h.eq]
  unfold insOuter
  rw [if_neg (by omega)]
theorem isort_ (d : Array O) (nn aa b : Nat) (hn : d.size = nn) (hs : nn ≤ 1000000) (ha : aa ≤ nn) (hb : b ≤ nn) : Fn Tryd.prog 48 [.sl 0 nn 0, .int .i64 (aa : Int), .int .i64 (b : Int), .fn 27 []] [some (.row 26 27 nn 0 (fun zz => oc (d[zz]!)))] (Rt (.tup []) [some (.row 26 27 nn 0 (fun zz => oc ((Go.Sort.insertionSort lessO d aa b)[zz]!)))]) :=
 enterM (n := 53) (by kernel_rfl) Tryd.func48 rfl rfl rfl fun G w a h0 A => N hX 8 A rfl (ok_d (by (try have := hI.le); (try have := hJ.le); omega) <| okE_nil) fun A => LOOP2 (fun (i : Nat) (dk : Array O) => [(0, .sl 0 nn 0), (1, .int .i64 (aa : Int)), (2, .int .i64 (b : Int)), (3, .fn 27 []), (8, .int .i64 (i : Int))]) (fun (i : Nat) (dk : Array O) => [some (.row 26 27 nn 0 (fun zz => oc (dk[zz]!)))]) (fun (i : Nat) (dk : Array O) => SO d aa b dk i) (fun (i : Nat) (dk : Array O) => b - i) (aa + 1) d ⟨rfl, Nat.le_refl _, rfl⟩ ((A.cut [0, 1, 2, 3, 8] rfl).trunc 1 rfl rfl rfl (by simp only [List.length_cons, List.length_nil] at h0; omega)) fun i dk hI {G a w} A => N hX 8 A rfl rfl fun A => forkD 14 A rfl
   (fun h1 A => N hX 12 A rfl rfl fun A => LOOP2 (fun (j : Nat) (dj : Array O) => [(0, .sl 0 nn 0), (1, .int .i64 (aa : Int)), (2, .int .i64 (b : Int)), (3, .fn 27 []), (8, .int .i64 (i : Int)), (9, .int .i64 (j : Int))]) (fun (j : Nat) (dj : Array O) => [some (.row 26 27 nn 0 (fun zz => oc (dj[zz]!)))]) (fun (j : Nat) (dj : Array O) => SJ d aa i dk dj j) (fun (j : Nat) (dj : Array O) => j) i dk ⟨hI.sz, Nat.le_refl _, rfl⟩ ((A.cut [0, 1, 2, 3, 8, 9] rfl).trunc 1 rfl rfl rfl (by simp only [List.length_cons, List.length_nil] at h0; omega)) fun j dj hJ {G a w} A => N hX 2 A rfl rfl fun A => DRAWN hX hmo [(14, .opt (decide ((j : Int) > (aa : Int))) (.int .i64 (cmpO (dj[((j : Int)).toNat]!) (dj[((j : Int) - 1).toNat]!))))] [] A rfl (ok_r <| ok_r <| ok_g (fun hg => (by (try have := hI.le); (try have := hJ.le); have := of_decide_eq_true hg; omega)) <| ok_r <| ok_g (fun hg => (by (try have := hI.le); (try have := hJ.le); have := of_decide_eq_true hg; omega)) <| ok_r <| ok_g (fun hg => (by (try have := hI.le); (try have := hJ.le); have := of_decide_eq_true hg; omega)) <| ok_r <| ok_r <| ok_g (fun hg => (by (try have := hI.le); (try have := hJ.le); have := of_decide_eq_true hg; omega)) <| ok_r <| ok_g (fun hg => (by (try have := hI.le); (try have := hJ.le); have := of_decide_eq_true hg; omega)) <| ok_r <| ok_r <| okE_nil) rfl rfl (by kernel_rfl) (effAll_nil _ _) ⟨.inr ⟨_, _, _, _, _, _, rfl, rfl, rfl, rfl, rfl, fun hg => compare_ (dj[((j : Int)).toNat]!) (dj[((j : Int) - 1).toNat]!)⟩, trivial⟩ fun A => N hX 1 A rfl rfl fun A => fork 34 A rfl
     (fun h2 A => N hX 5 A rfl rfl fun A => DRAWN hX hmo [] [(15, .tup [], [some (.row 26 27 nn 0 (fun zz => oc ((dj.setIfInBounds ((j : Int)).toNat (dj[((j : Int) - 1).toNat]!))[zz]!)))]), (17, .tup [], [some (.row 26 27 nn 0 (fun zz => oc (((dj.setIfInBounds ((j : Int)).toNat (dj[((j : Int) - 1).toNat]!)).setIfInBounds ((j : Int) - 1).toNat (dj[((j : Int)).toNat]!))[zz]!)))])] A rfl (ok_d (by (try have := hI.le); (try have := hJ.le); have := jlt h2; omega) <| ok_d (by (try have := hI.le); (try have := hJ.le); have := jlt h2; omega) <| ok_d (by (try have := hI.le); (try have := hJ.le); have := jlt h2; omega) <| ok_d (by (try have := hI.le); (try have := hJ.le); have := jlt h2; omega) <| ok_d (by (try have := hI.le); (try have := hJ.le); have := jlt h2; omega) <| ok_d (by (try have := hI.le); (try have := hJ.le); have := jlt h2; omega) <| ok_d (by (try have := hI.le); (try have := hJ.le); have := jlt h2; omega) <| ok_d (by (try have := hI.le); (try have := hJ.le); have := jlt h2; omega) <| ok_d (by (try have := hI.le); (try have := hJ.le); have := jlt h2; omega) <| ok_d (by (try have := hI.le); (try have := hJ.le); have := jlt h2; omega) <| okE_nil) rfl rfl (by kernel_rfl) ⟨strE (i := 0) (e := 26) (s := 27) (m := nn) (c := 0) hX (((j : Int)).toNat) (fun zz => oc ((dj.setIfInBounds ((j : Int)).toNat (dj[((j : Int) - 1).toNat]!))[zz]!)) rfl rfl rfl (by (try have := hI.le); (try have := hJ.le); have := jlt h2; omega) (fun z hz => by show oc _ = oc _; rw [aset_ne hz]) (by show _ = some (oc _); rw [aset_at (by (try simp only [asz]); rw [hJ.sz, hn]; (try have := hI.le); (try have := hJ.le); have := jlt h2; omega)]; rfl), ⟨strE (i := 0) (e := 26) (s := 27) (m := nn) (c := 0) hX (((j : Int) - 1).toNat) (fun zz => oc (((dj.setIfInBounds ((j : Int)).toNat (dj[((j : Int) - 1).toNat]!)).setIfInBounds ((j : Int) - 1).toNat (dj[((j : Int)).toNat]!))[zz]!)) rfl rfl rfl (by (try have := hI.le); (try have := hJ.le); have := jlt h2; omega) (fun z hz => by show oc _ = oc _; rw [aset_ne hz]) (by show _ = some (oc _); rw [aset_at (by (try simp only [asz]); rw [hJ.sz, hn]; (try have := hI.le); (try have := hJ.le); have := jlt h2; omega)]; rfl), trivial⟩⟩ trivial fun A => N hX 7 A rfl (ok_d (by (try have := hI.le); (try have := hJ.le); have := jlt h2; omega) <| okE_nil) fun A => ⟨j - 1, (dj.setIfInBounds ((j : Int)).toNat (dj[((j : Int) - 1).toNat]!)).setIfInBounds ((j : Int) - 1).toNat (dj[((j : Int)).toNat]!), _, (by have := jlt h2; omega), (hJ.step h2), ((A.cut [0, 1, 2, 3, 8, 9] rfl).trunc 1 rfl rfl rfl (by simp only [List.length_cons, List.length_nil] at h0; omega)).sayT (by rw [show ((j - 1 : Nat) : Int) = (j : Int) - 1 by have := jlt h2; omega])⟩)
     (fun h2 A => N hX 9 A rfl (ok_d (by (try have := hI.le); (try have := hJ.le); omega) <| okE_nil) fun A => ⟨i + 1, dj, _, (by omega), (hI.step h1 hJ (hJ.stop h2)), ((A.cut [0, 1, 2, 3, 8] rfl).trunc 1 rfl rfl rfl (by simp only [List.length_cons, List.length_nil] at h0; omega))⟩))
   (fun h1 A => N hX 2 A rfl rfl fun A => ENDN (RETN hX A rfl rfl rfl h0 rfl rfl rfl rfl rfl (by rw [hI.done h1]; rfl)))
theorem isort_i {xaa xb : Int} (d : Array O) (nn aa b : Nat) (eaa : xaa = (aa : Int)) (eb : xb = (b : Int)) (hn : d.size = nn) (hs : nn ≤ 1000000) (ha : aa ≤ nn) (hb : b ≤ nn) : Fn Tryd.prog 48 [.sl 0 nn 0, .int .i64 xaa, .int .i64 xb, .fn 27 []] [some (.row 26 27 nn 0 (fun zz => oc (d[zz]!)))] (Rt (.tup []) [some (.row 26 27 nn 0 (fun zz => oc ((Go.Sort.insertionSort lessO d aa b)[zz]!)))]) := by
  subst eaa; subst eb; exact isort_ d nn aa b hn hs ha hb
structure SD (d : Array O) (hi first lo : Nat) (dk : Array O) (root : Nat) : Prop where
  sz : dk.size = d.size
  le : root ≤ d.size
  eq : siftDown lessO hi first root dk = siftDown lessO hi first lo d
section
variable {d dk : Array O} {hi first lo root : Nat}
theorem SD.stop0 (h : SD d hi first lo dk root) (h1 : (2 * (root : Int) + 1) ≥ (hi : Int)) : siftDown lessO hi first lo d = dk := by
  rw [← h.eq]; unfold siftDown; rw [dif_pos (by omega)]
theorem sdE (h1 : ¬ (2 * (root : Int) + 1) ≥ (hi : Int)) : siftDown lessO hi first root dk = if ((decide ((2 * (root : Int) + 1) + 1 < (hi : Int))) && (decide (cmpO (dk[((first : Int) + (2 * (root : Int) + 1)).toNat]!) (dk[((first : Int) + (2 * (root : Int) + 1) + 1).toNat]!) < 0))) = true then (if (!(decide (cmpO (dk[((first : Int) + (root : Int)).toNat]!) (dk[((first : Int) + ((2 * (root : Int) + 1) + 1)).toNat]!) < 0))) = true then dk else siftDown lessO hi first (2 * root + 2) (swp dk (first + root) (first + (2 * root + 2)))) else (if (!(decide (cmpO (dk[((first : Int) + (root : Int)).toNat]!) (dk[((first : Int) + (2 * (root : Int) + 1)).toNat]!) < 0))) = true then dk else siftDown lessO hi first (2 * root + 1) (swp dk (first + root) (first + (2 * root + 1)))) := by
  have e0 : ((first : Int) + (root : Int)).toNat = first + root := by omega
  have e1 : ((first : Int) + (2 * (root : Int) + 1)).toNat = first + (2 * root + 1) := by omega
  have e2 : ((first : Int) + (2 * (root : Int) + 1) + 1).toNat = first + (2 * root + 1) + 1 := by omega
  have e3 : ((first : Int) + ((2 * (root : Int) + 1) + 1)).toNat = first + (2 * root + 2) := by omega
  rw [e0, e1, e2, e3, cmp_less, cmp_less, cmp_less]
  conv => lhs; unfold siftDown
  rw [dif_neg (by omega)]
  have e4 : decide ((2 * (root : Int) + 1) + 1 < (hi : Int)) = decide (2 * root + 1 + 1 < hi) := by
    by_cases h : 2 * root + 1 + 1 < hi
    · rw [decide_eq_true h, decide_eq_true (by omega)]
    · rw [decide_eq_false h, decide_eq_false (by omega)]
  rw [e4]
  split
  · next h2 =>
    split
    · rfl
    · rw [dif_pos (by have := jlt h2; omega)]
  · rfl
theorem SD.stopA (h : SD d hi first lo dk root) (h1 : ¬ (2 * (root : Int) + 1) ≥ (hi : Int)) (h2 : ((decide ((2 * (root : Int) + 1) + 1 < (hi : Int))) && (decide (cmpO (dk[((first : Int) + (2 * (root : Int) + 1)).toNat]!) (dk[((first : Int) + (2 * (root : Int) + 1) + 1).toNat]!) < 0))) = true) (h3 : (!(decide (cmpO (dk[((first : Int) + (root : Int)).toNat]!) (dk[((first : Int) + ((2 * (root : Int) + 1) + 1)).toNat]!) < 0))) = true) : siftDown lessO hi first lo d = dk := by
  rw [← h.eq, sdE h1, if_pos h2, if_pos h3]
theorem SD.stopB (h : SD d hi first lo dk root) (h1 : ¬ (2 * (root : Int) + 1) ≥ (hi : Int)) (h2 : ((decide ((2 * (root : Int) + 1) + 1 < (hi : Int))) && (decide (cmpO (dk[((first : Int) + (2 * (root : Int) + 1)).toNat]!) (dk[((first : Int) + (2 * (root : Int) + 1) + 1).toNat]!) < 0))) = false) (h3 : (!(decide (cmpO (dk[((first : Int) + (root : Int)).toNat]!) (dk[((first : Int) + (2 * (root : Int) + 1)).toNat]!) < 0))) = true) : siftDown lessO hi first lo d = dk := by
  rw [← h.eq, sdE h1, if_neg (by rw [h2]; simp), if_pos h3]
theorem SD.stepA (h : SD d hi first lo dk root) (h1 : ¬ (2 * (root : Int) + 1) ≥ (hi : Int)) (h2 : ((decide ((2 * (root : Int) + 1) + 1 < (hi : Int))) && (decide (cmpO (dk[((first : Int) + (2 * (root : Int) + 1)).toNat]!) (dk[((first : Int) + (2 * (root : Int) + 1) + 1).toNat]!) < 0))) = true) (h3 : (!(decide (cmpO (dk[((first : Int) + (root : Int)).toNat]!) (dk[((first : Int) + ((2 * (root : Int) + 1) + 1)).toNat]!) < 0))) = false) (hd : first + hi ≤ d.size) : SD d hi first lo ((dk.setIfInBounds ((first : Int) + (root : Int)).toNat (dk[((first : Int) + ((2 * (root : Int) + 1) + 1)).toNat]!)).setIfInBounds ((first : Int) + ((2 * (root : Int) + 1) + 1)).toNat (dk[((first : Int) + (root : Int)).toNat]!)) (2 * root + 2) := by
  rw [swp_is (i := first + root) (j := first + (2 * root + 2)) (by omega) (by omega)]
  refine ⟨by rw [swp_sz, h.sz], by have := jlt h2; omega, ?_⟩
  rw [← h.eq, sdE h1, if_pos h2, if_neg (by rw [h3]; simp)]
theorem SD.stepB (h : SD d hi first lo dk root) (h1 : ¬ (2 * (root : Int) + 1) ≥ (hi : Int)) (h2 : ((decide ((2 * (root : Int) + 1) + 1 < (hi : Int))) && (decide (cmpO (dk[((first : Int) + (2 * (root : Int) + 1)).toNat]!) (dk[((first : Int) + (2 * (root : Int) + 1) + 1).toNat]!) < 0))) = false) (h3 : (!(decide (cmpO (dk[((first : Int) + (root : Int)).toNat]!) (dk[((first : Int) + (2 * (root : Int) + 1)).toNat]!) < 0))) = false) (hd : first + hi ≤ d.size) : SD d hi first lo ((dk.setIfInBounds ((first : Int) + (root : Int)).toNat (dk[((first : Int) + (2 * (root : Int) + 1)).toNat]!)).setIfInBounds ((first : Int) + (2 * (root : Int) + 1)).toNat (dk[((first : Int) + (root : Int)).toNat]!)) (2 * root + 1) := by
  rw [swp_is (i := first + root) (j := first + (2 * root + 1)) (by omega) (by omega)]
  refine ⟨by rw [swp_sz, h.sz], by omega, ?_⟩
  rw [← h.eq, sdE h1, if_neg (by rw [h2]; simp), if_neg (by rw [h3]; simp)]
end
theorem sift_ (d : Array O) (nn lo hi first : Nat) (hn : d.size = nn) (hs : nn ≤ 1000000) (hd : first + hi ≤ nn) (hl : lo ≤ nn) : Fn Tryd.prog 65 [.sl 0 nn 0, .int .i64 (lo : Int), .int .i64 (hi : Int), .int .i64 (first : Int), .fn 27 []] [some (.row 26 27 nn 0 (fun zz => oc (d[zz]!)))] (Rt (.tup []) [some (.row 26 27 nn 0 (fun zz => oc ((Go.Sort.siftDown lessO hi first lo d)[zz]!)))]) :=
 enterM (n := 82) (by kernel_rfl) Tryd.func65 rfl rfl rfl fun G w a h0 A => N hX 7 A rfl rfl fun A => LOOP2 (fun (root : Nat) (dk : Array O) => [(0, .sl 0 nn 0), (2, .int .i64 (hi : Int)), (3, .int .i64 (first : Int)), (4, .fn 27 []), (10, .int .i64 (root : Int))]) (fun (root : Nat) (dk : Array O) => [some (.row 26 27 nn 0 (fun zz => oc (dk[zz]!)))]) (fun (root : Nat) (dk : Array O) => SD d hi first lo dk root) (fun (root : Nat) (dk : Array O) => hi - root) lo d ⟨rfl, by omega, rfl⟩ ((A.cut [0, 2, 3, 4, 10] rfl).trunc 1 rfl rfl rfl (by simp only [List.length_cons, List.length_nil] at h0; omega)) fun root dk hI {G a w} A => N hX 11 A rfl (ok_d (by (try have := hI.le); omega) <| ok_d (by (try have := hI.le); omega) <| okE_nil) fun A => N hX 6 A rfl rfl fun A => forkD 18 A rfl
   (fun h1 A => N hX 2 A rfl rfl fun A => ENDN (RETN hX A rfl rfl rfl h0 rfl rfl rfl rfl rfl (by rw [hI.stop0 h1]; rfl)))
   (fun h1 A => N hX 5 A rfl rfl fun A => DRAWN hX hmo [(19, .opt (decide ((((2 * (root : Int)) + 1) + 1) < (hi : Int))) (.int .i64 (cmpO (dk[((first : Int) + ((2 * (root : Int)) + 1)).toNat]!) (dk[(((first : Int) + ((2 * (root : Int)) + 1)) + 1).toNat]!))))] [] A rfl (ok_d (by (try have := hI.le); omega) <| ok_r <| ok_r <| ok_g (fun hg => (by (try have := hI.le); have := of_decide_eq_true hg; omega)) <| ok_r <| ok_r <| ok_g (fun hg => (by (try have := hI.le); have := of_decide_eq_true hg; omega)) <| ok_r <| ok_g (fun hg => (by (try have := hI.le); have := of_decide_eq_true hg; omega)) <| ok_r <| ok_r <| ok_g (fun hg => (by (try have := hI.le); have := of_decide_eq_true hg; omega)) <| ok_r <| ok_g (fun hg => (by (try have := hI.le); have := of_decide_eq_true hg; omega)) <| ok_r <| ok_r <| ok_g (fun hg => (by (try have := hI.le); have := of_decide_eq_true hg; omega)) <| ok_r <| ok_g (fun hg => (by (try have := hI.le); have := of_decide_eq_true hg; omega)) <| ok_r <| ok_r <| okE_nil) rfl rfl (by kernel_rfl) (effAll_nil _ _) ⟨.inr ⟨_, _, _, _, _, _, rfl, rfl, rfl, rfl, rfl, fun hg => compare_ (dk[((first : Int) + ((2 * (root : Int)) + 1)).toNat]!) (dk[(((first : Int) + ((2 * (root : Int)) + 1)) + 1).toNat]!)⟩, trivial⟩ fun A => N hX 1 A rfl rfl fun A => fork 40 A rfl
    (fun h2 A => N hX 9 A rfl (ok_d (by (try have := hI.le); have := jlt h2; omega) <| okE_nil) fun A => DRAWN hX hmo [(13, .int .i64 (cmpO (dk[((first : Int) + (root : Int)).toNat]!) (dk[((first : Int) + (((2 * (root : Int)) + 1) + 1)).toNat]!)))] [] A rfl (ok_d (by (try have := hI.le); have := jlt h2; omega) <| ok_d (by (try have := hI.le); have := jlt h2; omega) <| ok_d (by (try have := hI.le); have := jlt h2; omega) <| ok_d (by (try have := hI.le); have := jlt h2; omega) <| ok_d (by (try have := hI.le); have := jlt h2; omega) <| ok_d (by (try have := hI.le); have := jlt h2; omega) <| okE_nil) rfl rfl (by kernel_rfl) (effAll_nil _ _) ⟨.inl ⟨_, _, rfl, rfl, compare_ (dk[((first : Int) + (root : Int)).toNat]!) (dk[((first : Int) + (((2 * (root : Int)) + 1) + 1)).toNat]!)⟩, trivial⟩ fun A => N hX 1 A rfl rfl fun A => fork 58 A rfl
     (fun h3 A => N hX 2 A rfl rfl fun A => RETN hX A rfl rfl rfl h0 rfl rfl rfl rfl rfl (by rw [hI.stopA h1 h2 h3]; rfl))
     (fun h3 A => N hX 4 A rfl rfl fun A => DRAWN hX hmo [] [(21, .tup [], [some (.row 26 27 nn 0 (fun zz => oc ((dk.setIfInBounds ((first : Int) + (root : Int)).toNat (dk[((first : Int) + (((2 * (root : Int)) + 1) + 1)).toNat]!))[zz]!)))]), (23, .tup [], [some (.row 26 27 nn 0 (fun zz => oc (((dk.setIfInBounds ((first : Int) + (root : Int)).toNat (dk[((first : Int) + (((2 * (root : Int)) + 1) + 1)).toNat]!)).setIfInBounds ((first : Int) + (((2 * (root : Int)) + 1) + 1)).toNat (dk[((first : Int) + (root : Int)).toNat]!))[zz]!)))])] A rfl (ok_d (by (try have := hI.le); have := jlt h2; omega) <| ok_d (by (try have := hI.le); have := jlt h2; omega) <| ok_d (by (try have := hI.le); have := jlt h2; omega) <| ok_d (by (try have := hI.le); have := jlt h2; omega) <| ok_d (by (try have := hI.le); have := jlt h2; omega) <| ok_d (by (try have := hI.le); have := jlt h2; omega) <| ok_d (by (try have := hI.le); have := jlt h2; omega) <| ok_d (by (try have := hI.le); have := jlt h2; omega) <| ok_d (by (try have := hI.le); have := jlt h2; omega) <| ok_d (by (try have := hI.le); have := jlt h2; omega) <| ok_d (by (try have := hI.le); have := jlt h2; omega) <| ok_d (by (try have := hI.le); have := jlt h2; omega) <| ok_d (by (try have := hI.le); have := jlt h2; omega) <| okE_nil) rfl rfl (by kernel_rfl) ⟨strE (i := 0) (e := 26) (s := 27) (m := nn) (c := 0) hX (((first : Int) + (root : Int)).toNat) (fun zz => oc ((dk.setIfInBounds ((first : Int) + (root : Int)).toNat (dk[((first : Int) + (((2 * (root : Int)) + 1) + 1)).toNat]!))[zz]!)) rfl rfl rfl (by (try have := hI.le); have := jlt h2; omega) (fun z hz => by show oc _ = oc _; rw [aset_ne hz]) (by show _ = some (oc _); rw [aset_at (by (try simp only [asz]); rw [hI.sz, hn]; (try have := hI.le); have := jlt h2; omega)]; rfl), ⟨strE (i := 0) (e := 26) (s := 27) (m := nn) (c := 0) hX (((first : Int) + (((2 * (root : Int)) + 1) + 1)).toNat) (fun zz => oc (((dk.setIfInBounds ((first : Int) + (root : Int)).toNat (dk[((first : Int) + (((2 * (root : Int)) + 1) + 1)).toNat]!)).setIfInBounds ((first : Int) + (((2 * (root : Int)) + 1) + 1)).toNat (dk[((first : Int) + (root : Int)).toNat]!))[zz]!)) rfl rfl rfl (by (try have := hI.le); have := jlt h2; omega) (fun z hz => by show oc _ = oc _; rw [aset_ne hz]) (by show _ = some (oc _); rw [aset_at (by (try simp only [asz]); rw [hI.sz, hn]; (try have := hI.le); have := jlt h2; omega)]; rfl), trivial⟩⟩ trivial fun A => N hX 6 A rfl rfl fun A => ⟨2 * root + 2, (dk.setIfInBounds ((first : Int) + (root : Int)).toNat (dk[((first : Int) + (((2 * (root : Int)) + 1) + 1)).toNat]!)).setIfInBounds ((first : Int) + (((2 * (root : Int)) + 1) + 1)).toNat (dk[((first : Int) + (root : Int)).toNat]!), _, (by have := jlt h2; omega), (hI.stepA h1 h2 h3 (by omega)), ((A.cut [0, 2, 3, 4, 10] rfl).trunc 1 rfl rfl rfl (by simp only [List.length_cons, List.length_nil] at h0; omega)).sayT (by rfl)⟩))
    (fun h2 A => N hX 5 A rfl rfl fun A => DRAWN hX hmo [(13, .int .i64 (cmpO (dk[((first : Int) + (root : Int)).toNat]!) (dk[((first : Int) + ((2 * (root : Int)) + 1)).toNat]!)))] [] A rfl (ok_d (by (try have := hI.le); omega) <| ok_d (by (try have := hI.le); omega) <| ok_d (by (try have := hI.le); omega) <| ok_d (by (try have := hI.le); omega) <| ok_d (by (try have := hI.le); omega) <| ok_d (by (try have := hI.le); omega) <| okE_nil) rfl rfl (by kernel_rfl) (effAll_nil _ _) ⟨.inl ⟨_, _, rfl, rfl, compare_ (dk[((first : Int) + (root : Int)).toNat]!) (dk[((first : Int) + ((2 * (root : Int)) + 1)).toNat]!)⟩, trivial⟩ fun A => N hX 1 A rfl rfl fun A => fork 58 A rfl
     (fun h4 A => N hX 2 A rfl rfl fun A => RETN hX A rfl rfl rfl h0 rfl rfl rfl rfl rfl (by rw [hI.stopB h1 h2 h4]; rfl))
     (fun h4 A => N hX 4 A rfl rfl fun A => DRAWN hX hmo [] [(21, .tup [], [some (.row 26 27 nn 0 (fun zz => oc ((dk.setIfInBounds ((first : Int) + (root : Int)).toNat (dk[((first : Int) + ((2 * (root : Int)) + 1)).toNat]!))[zz]!)))]), (23, .tup [], [some (.row 26 27 nn 0 (fun zz => oc (((dk.setIfInBounds ((first : Int) + (root : Int)).toNat (dk[((first : Int) + ((2 * (root : Int)) + 1)).toNat]!)).setIfInBounds ((first : Int) + ((2 * (root : Int)) + 1)).toNat (dk[((first : Int) + (root : Int)).toNat]!))[zz]!)))])] A rfl (ok_d (by (try have := hI.le); omega) <| ok_d (by (try have := hI.le); omega) <| ok_d (by (try have := hI.le); omega) <| ok_d (by (try have := hI.le); omega) <| ok_d (by (try have := hI.le); omega) <| ok_d (by (try have := hI.le); omega) <| ok_d (by (try have := hI.le); omega) <| ok_d (by (try have := hI.le); omega) <| ok_d (by (try have := hI.le); omega) <| ok_d (by (try have := hI.le); omega) <| ok_d (by (try have := hI.le); omega) <| ok_d (by (try have := hI.le); omega) <| ok_d (by (try have := hI.le); omega) <| okE_nil) rfl rfl (by kernel_rfl) ⟨strE (i := 0) (e := 26) (s := 27) (m := nn) (c := 0) hX (((first : Int) + (root : Int)).toNat) (fun zz => oc ((dk.setIfInBounds ((first : Int) + (root : Int)).toNat (dk[((first : Int) + ((2 * (root : Int)) + 1)).toNat]!))[zz]!)) rfl rfl rfl (by (try have := hI.le); omega) (fun z hz => by show oc _ = oc _; rw [aset_ne hz]) (by show _ = some (oc _); rw [aset_at (by (try simp only [asz]); rw [hI.sz, hn]; (try have := hI.le); omega)]; rfl), ⟨strE (i := 0) (e := 26) (s := 27) (m := nn) (c := 0) hX (((first : Int) + ((2 * (root : Int)) + 1)).toNat) (fun zz => oc (((dk.setIfInBounds ((first : Int) + (root : Int)).toNat (dk[((first : Int) + ((2 * (root : Int)) + 1)).toNat]!)).setIfInBounds ((first : Int) + ((2 * (root : Int)) + 1)).toNat (dk[((first : Int) + (root : Int)).toNat]!))[zz]!)) rfl rfl rfl (by (try have := hI.le); omega) (fun z hz => by show oc _ = oc _; rw [aset_ne hz]) (by show _ = some (oc _); rw [aset_at (by (try simp only [asz]); rw [hI.sz, hn]; (try have := hI.le); omega)]; rfl), trivial⟩⟩ trivial fun A => N hX 6 A rfl rfl fun A => ⟨2 * root + 1, (dk.setIfInBounds ((first : Int) + (root : Int)).toNat (dk[((first : Int) + ((2 * (root : Int)) + 1)).toNat]!)).setIfInBounds ((first : Int) + ((2 * (root : Int)) + 1)).toNat (dk[((first : Int) + (root : Int)).toNat]!), _, (by omega), (hI.stepB h1 h2 h4 (by omega)), ((A.cut [0, 2, 3, 4, 10] rfl).trunc 1 rfl rfl rfl (by simp only [List.length_cons, List.length_nil] at h0; omega)).sayT (by rfl)⟩)))
theorem sift_i {xlo xhi xfirst : Int} (d : Array O) (nn lo hi first : Nat) (elo : xlo = (lo : Int)) (ehi : xhi = (hi : Int)) (efirst : xfirst = (first : Int)) (hn : d.size = nn) (hs : nn ≤ 1000000) (hd : first + hi ≤ nn) (hl : lo ≤ nn) : Fn Tryd.prog 65 [.sl 0 nn 0, .int .i64 xlo, .int .i64 xhi, .int .i64 xfirst, .fn 27 []] [some (.row 26 27 nn 0 (fun zz => oc (d[zz]!)))] (Rt (.tup []) [some (.row 26 27 nn 0 (fun zz => oc ((Go.Sort.siftDown lessO hi first lo d)[zz]!)))]) := by
  subst elo; subst ehi; subst efirst; exact sift_ d nn lo hi first hn hs hd hl
structure HB (d : Array O) (N hi first : Nat) (dk : Array O) (k : Nat) : Prop where
  sz : dk.size = d.size
  le : k ≤ N + 1
  eq : heapBuild lessO hi first k dk = heapBuild lessO hi first ((hi - 1) / 2 + 1) d
structure HP (d : Array O) (N first hi : Nat) (dz dk : Array O) (k : Nat) : Prop where
  sz : dk.size = d.size
  le : k ≤ hi
  eq : heapPop lessO first k dk = heapPop lessO first hi dz
theorem sift_sz (hi first : Nat) : ∀ (f root : Nat) (dk : Array O), hi - root ≤ f → (siftDown lessO hi first root dk).size = dk.size
  | f, root, dk, hf => by
    unfold siftDown
    split
    · rfl
    · next h0 =>
      cases f with
      | zero => omega
      | succ f =>
      split
      · split
        · rfl
        · split
          · rw [sift_sz hi first f _ _ (by omega), swp_sz]
          · rfl
      · split
        · rfl
        · rw [sift_sz hi first f _ _ (by omega), swp_sz]
section
variable {d dz dk : Array O} {N hi first k : Nat}
theorem HB.step (h : HB d N hi first dk k) (h1 : (k : Int) - 1 ≥ 0) : HB d N hi first (siftDown lessO hi first (k - 1) dk) (k - 1) := by
  obtain ⟨j, rfl⟩ : ∃ j, k = j + 1 := ⟨k - 1, by omega⟩
  exact ⟨by rw [sift_sz hi first _ _ _ (Nat.le_refl _), h.sz], by have := h.le; omega, by rw [← h.eq]; rfl⟩
theorem HB.done (h : HB d N hi first dk k) (h1 : ¬ (k : Int) - 1 ≥ 0) : heapBuild lessO hi first ((hi - 1) / 2 + 1) d = dk := by
  have : k = 0 := by omega
  subst this
  rw [← h.eq]; rfl
theorem HP.step {dw : Array O} (h : HP d N first hi dz dk k) (h1 : (k : Int) - 1 ≥ 0) (e : dw = swp dk first (first + (k - 1))) : HP d N first hi dz (siftDown lessO (k - 1) first 0 dw) (k - 1) := by
  obtain ⟨j, rfl⟩ : ∃ j, k = j + 1 := ⟨k - 1, by omega⟩
  subst e
  exact ⟨by rw [sift_sz _ first _ _ _ (Nat.le_refl _), swp_sz, h.sz], by have := h.le; omega, by rw [← h.eq]; rfl⟩
theorem HP.done (h : HP d N first hi dz dk k) (h1 : ¬ (k : Int) - 1 ≥ 0) : heapPop lessO first hi dz = dk := by
  have : k = 0 := by omega
  subst this
  rw [← h.eq]; rfl
theorem tdiv_half {aa b : Nat} (ha : aa ≤ b) : ((b : Int) - (aa : Int) - 1).tdiv 2 = ((((b - aa - 1) / 2 : Nat)) : Int) := by
  rcases Nat.eq_or_lt_of_le ha with h | h
  · subst h; simp only [Int.sub_self, Nat.sub_self]; rfl
  · rw [show (b : Int) - (aa : Int) - 1 = ((b - aa - 1 : Nat) : Int) by omega]; rfl
theorem hs_is {aa b : Nat} (e1 : heapBuild lessO (b - aa) aa ((b - aa - 1) / 2 + 1) d = dz) (e2 : heapPop lessO aa (b - aa) dz = dk) : heapSort lessO d aa b = dk := by
  unfold heapSort; rw [e1, e2]
end
theorem hsort_ (d : Array O) (nn aa b : Nat) (hn : d.size = nn) (hs : nn ≤ 1000000) (ha : aa ≤ b) (hb : b ≤ nn) : Fn Tryd.prog 49 [.sl 0 nn 0, .int .i64 (aa : Int), .int .i64 (b : Int), .fn 27 []] [some (.row 26 27 nn 0 (fun zz => oc (d[zz]!)))] (Rt (.tup []) [some (.row 26 27 nn 0 (fun zz => oc ((Go.Sort.heapSort lessO d aa b)[zz]!)))]) :=
 enterM (n := 60) (by kernel_rfl) Tryd.func49 rfl rfl rfl fun G w a h0 A => N hX 21 A rfl (ok_d (by (try have := hI.le); (try have := hJ.le); omega) <| okE_nil) fun A => N hX 8 A rfl (ok_d (by (try have := hI.le); (try have := hJ.le); omega) <| ok_d (by (try have := hI.le); (try have := hJ.le); omega) <| okE_nil) fun A => have A := A.say 11 (.int .i64 (((((b - aa - 1) / 2 + 1 : Nat)) : Int) - 1)) rfl (by congr 1; rw [tdiv_half ha, wrap_in (by omega)]; omega); LOOP2 (fun (k : Nat) (dk : Array O) => [(0, .sl 0 nn 0), (3, .fn 27 []), (8, .int .i64 (aa : Int)), (9, .int .i64 0), (10, .int .i64 ((b : Int) - (aa : Int))), (11, .int .i64 ((k : Int) - 1))]) (fun (k : Nat) (dk : Array O) => [some (.row 26 27 nn 0 (fun zz => oc (dk[zz]!)))]) (fun (k : Nat) (dk : Array O) => HB d nn (b - aa) aa dk k) (fun (k : Nat) (dk : Array O) => k) ((b - aa - 1) / 2 + 1) d ⟨rfl, by omega, rfl⟩ ((A.cut [0, 3, 8, 9, 10, 11] rfl).trunc 1 rfl rfl rfl (by simp only [List.length_cons, List.length_nil] at h0; omega)) fun k dk hI {G a w} A => N hX 7 A rfl rfl fun A => forkD 21 A rfl
   (fun h1 A => N hX 11 A rfl rfl fun A => CALL1 [0] (sift_i dk nn (k - 1) (b - aa) aa (by (try have := hI.le); (try have := hJ.le); omega) (by (try have := hI.le); (try have := hJ.le); omega) (by (try have := hI.le); (try have := hJ.le); omega) (by rw [hI.sz, hn]) (by (try have := hI.le); (try have := hJ.le); omega) (by (try have := hI.le); (try have := hJ.le); omega) (by (try have := hI.le); (try have := hJ.le); omega)) A rfl rfl rfl rfl rfl rfl rfl fun A => N hX 8 A rfl (ok_d (by (try have := hI.le); (try have := hJ.le); omega) <| okE_nil) fun A => ⟨k - 1, Go.Sort.siftDown lessO (b - aa) aa (k - 1) dk, _, (by omega), (hI.step h1), ((A.cut [0, 3, 8, 9, 10, 11] rfl).trunc 1 rfl rfl rfl (by simp only [List.length_cons, List.length_nil] at h0; omega)).sayT (by rw [show ((k - 1 : Nat) : Int) - 1 = (k : Int) - 1 - 1 by omega])⟩)
   (fun h1 A => N hX 11 A rfl (ok_d (by (try have := hI.le); (try have := hJ.le); omega) <| okE_nil) fun A => have A := A.say 12 (.int .i64 ((((b - aa : Nat)) : Int) - 1)) rfl (by congr 1; omega); LOOP2 (fun (m : Nat) (dj : Array O) => [(0, .sl 0 nn 0), (3, .fn 27 []), (8, .int .i64 (aa : Int)), (9, .int .i64 0), (12, .int .i64 ((m : Int) - 1))]) (fun (m : Nat) (dj : Array O) => [some (.row 26 27 nn 0 (fun zz => oc (dj[zz]!)))]) (fun (m : Nat) (dj : Array O) => HP d nn aa (b - aa) dk dj m) (fun (m : Nat) (dj : Array O) => m) (b - aa) dk ⟨hI.sz, Nat.le_refl _, rfl⟩ ((A.cut [0, 3, 8, 9, 12] rfl).trunc 1 rfl rfl rfl (by simp only [List.length_cons, List.length_nil] at h0; omega)) fun m dj hJ {G a w} A => N hX 7 A rfl rfl fun A => forkD 33 A rfl
     (fun h2 A => N hX 6 A rfl rfl fun A => DRAWN hX hmo [] [(17, .tup [], [some (.row 26 27 nn 0 (fun zz => oc ((dj.setIfInBounds ((aa : Int)).toNat (dj[((aa : Int) + ((m : Int) - 1)).toNat]!))[zz]!)))]), (19, .tup [], [some (.row 26 27 nn 0 (fun zz => oc (((dj.setIfInBounds ((aa : Int)).toNat (dj[((aa : Int) + ((m : Int) - 1)).toNat]!)).setIfInBounds ((aa : Int) + ((m : Int) - 1)).toNat (dj[((aa : Int)).toNat]!))[zz]!)))])] A rfl (ok_d (by (try have := hI.le); (try have := hJ.le); omega) <| ok_d (by (try have := hI.le); (try have := hJ.le); omega) <| ok_d (by (try have := hI.le); (try have := hJ.le); omega) <| ok_d (by (try have := hI.le); (try have := hJ.le); omega) <| ok_d (by (try have := hI.le); (try have := hJ.le); omega) <| ok_d (by (try have := hI.le); (try have := hJ.le); omega) <| ok_d (by (try have := hI.le); (try have := hJ.le); omega) <| ok_d (by (try have := hI.le); (try have := hJ.le); omega) <| ok_d (by (try have := hI.le); (try have := hJ.le); omega) <| ok_d (by (try have := hI.le); (try have := hJ.le); omega) <| okE_nil) rfl rfl (by kernel_rfl) ⟨strE (i := 0) (e := 26) (s := 27) (m := nn) (c := 0) hX (((aa : Int)).toNat) (fun zz => oc ((dj.setIfInBounds ((aa : Int)).toNat (dj[((aa : Int) + ((m : Int) - 1)).toNat]!))[zz]!)) rfl rfl rfl (by (try have := hI.le); (try have := hJ.le); omega) (fun z hz => by show oc _ = oc _; rw [aset_ne hz]) (by show _ = some (oc _); rw [aset_at (by (try simp only [asz]); rw [hJ.sz, hn]; (try have := hI.le); (try have := hJ.le); omega)]; rfl), ⟨strE (i := 0) (e := 26) (s := 27) (m := nn) (c := 0) hX (((aa : Int) + ((m : Int) - 1)).toNat) (fun zz => oc (((dj.setIfInBounds ((aa : Int)).toNat (dj[((aa : Int) + ((m : Int) - 1)).toNat]!)).setIfInBounds ((aa : Int) + ((m : Int) - 1)).toNat (dj[((aa : Int)).toNat]!))[zz]!)) rfl rfl rfl (by (try have := hI.le); (try have := hJ.le); omega) (fun z hz => by show oc _ = oc _; rw [aset_ne hz]) (by show _ = some (oc _); rw [aset_at (by (try simp only [asz]); rw [hJ.sz, hn]; (try have := hI.le); (try have := hJ.le); omega)]; rfl), trivial⟩⟩ trivial fun A => N hX 7 A rfl rfl fun A => CALL1 [0] (sift_i ((dj.setIfInBounds ((aa : Int)).toNat (dj[((aa : Int) + ((m : Int) - 1)).toNat]!)).setIfInBounds ((aa : Int) + ((m : Int) - 1)).toNat (dj[((aa : Int)).toNat]!)) nn 0 (m - 1) aa (by (try have := hI.le); (try have := hJ.le); omega) (by (try have := hI.le); (try have := hJ.le); omega) (by (try have := hI.le); (try have := hJ.le); omega) (by (try simp only [asz]); rw [hJ.sz, hn]) (by (try have := hI.le); (try have := hJ.le); omega) (by (try have := hI.le); (try have := hJ.le); omega) (by (try have := hI.le); (try have := hJ.le); omega)) A rfl rfl rfl rfl rfl rfl rfl fun A => N hX 8 A rfl (ok_d (by (try have := hI.le); (try have := hJ.le); omega) <| okE_nil) fun A => ⟨m - 1, Go.Sort.siftDown lessO (m - 1) aa 0 ((dj.setIfInBounds ((aa : Int)).toNat (dj[((aa : Int) + ((m : Int) - 1)).toNat]!)).setIfInBounds ((aa : Int) + ((m : Int) - 1)).toNat (dj[((aa : Int)).toNat]!)), _, (by omega), (hJ.step h2 (swp_is rfl (by omega))), ((A.cut [0, 3, 8, 9, 12] rfl).trunc 1 rfl rfl rfl (by simp only [List.length_cons, List.length_nil] at h0; omega)).sayT (by rw [show ((m - 1 : Nat) : Int) - 1 = (m : Int) - 1 - 1 by omega])⟩)
     (fun h2 A => N hX 2 A rfl rfl fun A => ENDN (RETN hX A rfl rfl rfl h0 rfl rfl rfl rfl rfl (by rw [hs_is (hI.done h1) (hJ.done h2)]; rfl))))
theorem hsort_i {xaa xb : Int} (d : Array O) (nn aa b : Nat) (eaa : xaa = (aa : Int)) (eb : xb = (b : Int)) (hn : d.size = nn) (hs : nn ≤ 1000000) (ha : aa ≤ b) (hb : b ≤ nn) : Fn Tryd.prog 49 [.sl 0 nn 0, .int .i64 xaa, .int .i64 xb, .fn 27 []] [some (.row 26 27 nn 0 (fun zz => oc (d[zz]!)))] (Rt (.tup []) [some (.row 26 27 nn 0 (fun zz => oc ((Go.Sort.heapSort lessO d aa b)[zz]!)))]) := by
  subst eaa; subst eb; exact hsort_ d nn aa b hn hs ha hb
structure RV (d : Array O) (aa b : Nat) (dk : Array O) (i j : Nat) : Prop where
  sz : dk.size = d.size
  le : j < b
  eq : reverseLoop i j dk = reverseRange d aa b
theorem RV.step {d dk dw : Array O} {aa b i j : Nat} (h : RV d aa b dk i j) (h1 : (i : Int) < (j : Int)) (e : dw = swp dk i j) : RV d aa b dw (i + 1) (j - 1) := by
  subst e
  refine ⟨by rw [swp_sz, h.sz], by have := h.le; omega, ?_⟩
  rw [← h.eq]
  conv => rhs; unfold reverseLoop
  rw [if_pos (by omega)]
theorem RV.done {d dk : Array O} {aa b i j : Nat} (h : RV d aa b dk i j) (h1 : ¬ (i : Int) < (j : Int)) : reverseRange d aa b = dk := by
  rw [← h.eq]; unfold reverseLoop; rw [if_neg (by omega)]
theorem o2t {d : Array O} {aa b sw : Nat} (h : cmpO (d[((b : Int)).toNat]!) (d[((aa : Int)).toNat]!) < 0) : order2 lessO d aa b sw = (b, aa, sw + 1) := by
  have h' := decide_eq_true h
  rw [cmp_less, Int.toNat_natCast, Int.toNat_natCast] at h'
  unfold order2; rw [if_pos h']
theorem o2f {d : Array O} {aa b sw : Nat} (h : ¬ cmpO (d[((b : Int)).toNat]!) (d[((aa : Int)).toNat]!) < 0) : order2 lessO d aa b sw = (aa, b, sw) := by
  have h' := decide_eq_false h
  rw [cmp_less, Int.toNat_natCast, Int.toNat_natCast] at h'
  unfold order2; rw [if_neg (by intro h2; exact absurd (h2.symm.trans h') (by simp))]
theorem o2lt (d : Array O) {aa b nn : Nat} (sw : Nat) (ha : aa < nn) (hb : b < nn) : (order2 lessO d aa b sw).1 < nn ∧ (order2 lessO d aa b sw).2.1 < nn ∧ (order2 lessO d aa b sw).2.2 ≤ sw + 1 := by
  unfold order2; split
  · exact ⟨hb, ha, Nat.le_refl _⟩
  · exact ⟨ha, hb, Nat.le_succ _⟩
theorem medlt (d : Array O) {aa b c nn : Nat} (sw : Nat) (ha : aa < nn) (hb : b < nn) (hc : c < nn) : (median lessO d aa b c sw).1 < nn ∧ (median lessO d aa b c sw).2 ≤ sw + 3 := by
  have h1 := o2lt d sw ha hb
  have h2 := o2lt d (order2 lessO d aa b sw).2.2 h1.2.1 hc
  have h3 := o2lt d (order2 lessO d (order2 lessO d aa b sw).2.1 c (order2 lessO d aa b sw).2.2).2.2 h1.1 h2.1
  unfold median
  exact ⟨h3.2.1, Nat.le_trans h3.2.2 (by omega)⟩
theorem medalt (d : Array O) {aa nn : Nat} (sw : Nat) (ha : 1 ≤ aa) (hb : aa + 1 < nn) : (medianAdjacent lessO d aa sw).1 < nn ∧ (medianAdjacent lessO d aa sw).2 ≤ sw + 3 := medlt d sw (by omega) (by omega) hb
def hintI : Hint → Int
  | .unknown => 0
  | .increasing => 1
  | .decreasing => 2
def cpR (d : Array O) (aa b : Nat) : Nat × Nat :=
  if b - aa ≥ 8 then
    if b - aa ≥ 50 then
      median lessO d (medianAdjacent lessO d (aa + (b - aa) / 4 * 1) 0).1 (medianAdjacent lessO d (aa + (b - aa) / 4 * 2) (medianAdjacent lessO d (aa + (b - aa) / 4 * 1) 0).2).1
        (medianAdjacent lessO d (aa + (b - aa) / 4 * 3) (medianAdjacent lessO d (aa + (b - aa) / 4 * 2) (medianAdjacent lessO d (aa + (b - aa) / 4 * 1) 0).2).2).1
        (medianAdjacent lessO d (aa + (b - aa) / 4 * 3) (medianAdjacent lessO d (aa + (b - aa) / 4 * 2) (medianAdjacent lessO d (aa + (b - aa) / 4 * 1) 0).2).2).2
    else median lessO d (aa + (b - aa) / 4 * 1) (aa + (b - aa) / 4 * 2) (aa + (b - aa) / 4 * 3) 0
  else (aa + (b - aa) / 4 * 2, 0)
theorem cp_is (d : Array O) (aa b : Nat) : choosePivot lessO d aa b = ((cpR d aa b).1, if (cpR d aa b).2 = 0 then .increasing else if (cpR d aa b).2 = 12 then .decreasing else .unknown) := rfl
theorem cp_inc {d : Array O} {aa b : Nat} {r : Nat × Nat} (e : cpR d aa b = r) (h : ((r.2 : Nat) : Int) = 0) : (choosePivot lessO d aa b).1 = r.1 ∧ hintI (choosePivot lessO d aa b).2 = 1 := by
  rw [cp_is, e]; rw [if_pos (by omega)]; exact ⟨rfl, rfl⟩
theorem cp_dec {d : Array O} {aa b : Nat} {r : Nat × Nat} (e : cpR d aa b = r) (h : ((r.2 : Nat) : Int) ≠ 0) (h2 : ((r.2 : Nat) : Int) = 12) : (choosePivot lessO d aa b).1 = r.1 ∧ hintI (choosePivot lessO d aa b).2 = 2 := by
  rw [cp_is, e]; rw [if_neg (by omega), if_pos (by omega)]; exact ⟨rfl, rfl⟩
theorem cp_unk {d : Array O} {aa b : Nat} {r : Nat × Nat} (e : cpR d aa b = r) (h : ((r.2 : Nat) : Int) ≠ 0) (h2 : ((r.2 : Nat) : Int) ≠ 12) : (choosePivot lessO d aa b).1 = r.1 ∧ hintI (choosePivot lessO d aa b).2 = 0 := by
  rw [cp_is, e]; rw [if_neg (by omega), if_neg (by omega)]; exact ⟨rfl, rfl⟩
theorem cp_a {d : Array O} {aa b : Nat} (h1 : ((b - aa : Nat) : Int) ≥ 8) (h2 : ((b - aa : Nat) : Int) ≥ 50) : cpR d aa b = median lessO d (medianAdjacent lessO d (aa + (b - aa) / 4 * 1) 0).1 (medianAdjacent lessO d (aa + (b - aa) / 4 * 2) (medianAdjacent lessO d (aa + (b - aa) / 4 * 1) 0).2).1
        (medianAdjacent lessO d (aa + (b - aa) / 4 * 3) (medianAdjacent lessO d (aa + (b - aa) / 4 * 2) (medianAdjacent lessO d (aa + (b - aa) / 4 * 1) 0).2).2).1
        (medianAdjacent lessO d (aa + (b - aa) / 4 * 3) (medianAdjacent lessO d (aa + (b - aa) / 4 * 2) (medianAdjacent lessO d (aa + (b - aa) / 4 * 1) 0).2).2).2 := by
  unfold cpR; rw [if_pos (by omega), if_pos (by omega)]
theorem cp_b {d : Array O} {aa b : Nat} (h1 : ((b - aa : Nat) : Int) ≥ 8) (h2 : ¬ ((b - aa : Nat) : Int) ≥ 50) : cpR d aa b = median lessO d (aa + (b - aa) / 4 * 1) (aa + (b - aa) / 4 * 2) (aa + (b - aa) / 4 * 3) 0 := by
  unfold cpR; rw [if_pos (by omega), if_neg (by omega)]
theorem qdiv {aa b k : Nat} (ha : aa ≤ b) (hb : b ≤ 1000000) : IntKind.wrap .i64 (Int.tdiv ((b : Int) - (aa : Int)) ((k : Nat) : Int)) = (((b - aa) / k : Nat) : Int) := by
  rw [show (b : Int) - (aa : Int) = ((b - aa : Nat) : Int) by omega, show Int.tdiv ((b - aa : Nat) : Int) ((k : Nat) : Int) = (((b - aa) / k : Nat) : Int) from rfl]
  have : (b - aa) / k ≤ b - aa := Nat.div_le_self _ _
  exact wrap_in (by generalize (b - aa) / k = q at *; omega)
theorem rev_ (d : Array O) (nn aa b : Nat) (hn : d.size = nn) (hs : nn ≤ 1000000) (ha : aa < b) (hb : b ≤ nn) : Fn Tryd.prog 52 [.sl 0 nn 0, .int .i64 (aa : Int), .int .i64 (b : Int), .fn 27 []] [some (.row 26 27 nn 0 (fun zz => oc (d[zz]!)))] (Rt (.tup []) [some (.row 26 27 nn 0 (fun zz => oc ((Go.Sort.reverseRange d aa b)[zz]!)))]) :=
 enterM (n := 34) (by kernel_rfl) Tryd.func52 rfl rfl rfl fun G w a h0 A => N hX 14 A rfl (ok_d (by (try have := hI.le); omega) <| okE_nil) fun A => have A := A.say 9 (.int .i64 (((b - 1 : Nat)) : Int)) rfl (by congr 1; omega); LOOP3 (fun (i : Nat) (j : Nat) (dk : Array O) => [(0, .sl 0 nn 0), (8, .int .i64 (i : Int)), (9, .int .i64 (j : Int))]) (fun (i : Nat) (j : Nat) (dk : Array O) => [some (.row 26 27 nn 0 (fun zz => oc (dk[zz]!)))]) (fun (i : Nat) (j : Nat) (dk : Array O) => RV d aa b dk i j) (fun (i : Nat) (j : Nat) (dk : Array O) => j - i) aa (b - 1) d ⟨rfl, by omega, rfl⟩ ((A.cut [0, 8, 9] rfl).trunc 1 rfl rfl rfl (by simp only [List.length_cons, List.length_nil] at h0; omega)) fun i j dk hI {G a w} A => N hX 8 A rfl rfl fun A => forkD 15 A rfl
   (fun h1 A => N hX 5 A rfl rfl fun A => DRAWN hX hmo [] [(13, .tup [], [some (.row 26 27 nn 0 (fun zz => oc ((dk.setIfInBounds ((i : Int)).toNat (dk[((j : Int)).toNat]!))[zz]!)))]), (15, .tup [], [some (.row 26 27 nn 0 (fun zz => oc (((dk.setIfInBounds ((i : Int)).toNat (dk[((j : Int)).toNat]!)).setIfInBounds ((j : Int)).toNat (dk[((i : Int)).toNat]!))[zz]!)))])] A rfl (ok_d (by (try have := hI.le); omega) <| ok_d (by (try have := hI.le); omega) <| ok_d (by (try have := hI.le); omega) <| ok_d (by (try have := hI.le); omega) <| ok_d (by (try have := hI.le); omega) <| ok_d (by (try have := hI.le); omega) <| ok_d (by (try have := hI.le); omega) <| okE_nil) rfl rfl (by kernel_rfl) ⟨strE (i := 0) (e := 26) (s := 27) (m := nn) (c := 0) hX (((i : Int)).toNat) (fun zz => oc ((dk.setIfInBounds ((i : Int)).toNat (dk[((j : Int)).toNat]!))[zz]!)) rfl rfl rfl (by (try have := hI.le); omega) (fun z hz => by show oc _ = oc _; rw [aset_ne hz]) (by show _ = some (oc _); rw [aset_at (by (try simp only [asz]); rw [hI.sz, hn]; (try have := hI.le); omega)]; rfl), ⟨strE (i := 0) (e := 26) (s := 27) (m := nn) (c := 0) hX (((j : Int)).toNat) (fun zz => oc (((dk.setIfInBounds ((i : Int)).toNat (dk[((j : Int)).toNat]!)).setIfInBounds ((j : Int)).toNat (dk[((i : Int)).toNat]!))[zz]!)) rfl rfl rfl (by (try have := hI.le); omega) (fun z hz => by show oc _ = oc _; rw [aset_ne hz]) (by show _ = some (oc _); rw [aset_at (by (try simp only [asz]); rw [hI.sz, hn]; (try have := hI.le); omega)]; rfl), trivial⟩⟩ trivial fun A => N hX 8 A rfl (ok_d (by (try have := hI.le); omega) <| okE_nil) fun A => N hX 6 A rfl (ok_d (by (try have := hI.le); omega) <| okE_nil) fun A => ⟨i + 1, j - 1, (dk.setIfInBounds ((i : Int)).toNat (dk[((j : Int)).toNat]!)).setIfInBounds ((j : Int)).toNat (dk[((i : Int)).toNat]!), _, (by omega), (hI.step h1 (swp_is rfl rfl)), ((A.cut [0, 8, 9] rfl).trunc 1 rfl rfl rfl (by simp only [List.length_cons, List.length_nil] at h0; omega)).sayT (by rw [show ((j - 1 : Nat) : Int) = (j : Int) - 1 by omega] <;> rfl)⟩)
   (fun h1 A => N hX 2 A rfl rfl fun A => ENDN (RETN hX A rfl rfl rfl h0 rfl rfl rfl rfl rfl (by rw [hI.done h1]; rfl)))
theorem rev_i {xaa xb : Int} (d : Array O) (nn aa b : Nat) (eaa : xaa = (aa : Int)) (eb : xb = (b : Int)) (hn : d.size = nn) (hs : nn ≤ 1000000) (ha : aa < b) (hb : b ≤ nn) : Fn Tryd.prog 52 [.sl 0 nn 0, .int .i64 xaa, .int .i64 xb, .fn 27 []] [some (.row 26 27 nn 0 (fun zz => oc (d[zz]!)))] (Rt (.tup []) [some (.row 26 27 nn 0 (fun zz => oc ((Go.Sort.reverseRange d aa b)[zz]!)))]) := by
  subst eaa; subst eb; exact rev_ d nn aa b hn hs ha hb
theorem ord2_ (d : Array O) (nn aa b sw : Nat) (hn : d.size = nn) (hs : nn ≤ 1000000) (ha : aa < nn) (hb : b < nn) (hw : sw ≤ 1000) : Fn Tryd.prog 73 [.sl 0 nn 0, .int .i64 (aa : Int), .int .i64 (b : Int), .ptr 1 0, .fn 27 []] [some (.row 26 27 nn 0 (fun zz => oc (d[zz]!))), some (.blk [.int .i64 (sw : Int)])] (Rt (.tup [.int .i64 (((Go.Sort.order2 lessO d aa b sw).1 : Nat) : Int), .int .i64 (((Go.Sort.order2 lessO d aa b sw).2.1 : Nat) : Int)]) [some (.row 26 27 nn 0 (fun zz => oc (d[zz]!))), some (.blk [.int .i64 (((Go.Sort.order2 lessO d aa b sw).2.2 : Nat) : Int)])]) :=
 enterM (n := 32) (by kernel_rfl) Tryd.func73 rfl rfl rfl fun G w a h0 A => N hX 8 A rfl rfl fun A => DRAWN hX hmo [(9, .int .i64 (cmpO (d[((b : Int)).toNat]!) (d[((aa : Int)).toNat]!)))] [] A rfl (ok_d (by omega) <| ok_d (by omega) <| ok_d (by omega) <| ok_d (by omega) <| okE_nil) rfl rfl (by kernel_rfl) (effAll_nil _ _) ⟨.inl ⟨_, _, rfl, rfl, compare_ (d[((b : Int)).toNat]!) (d[((aa : Int)).toNat]!)⟩, trivial⟩ fun A => N hX 1 A rfl rfl fun A => forkD 22 A rfl
  (fun h1 A => N hX 12 A rfl (ok_d (by omega) <| okE_nil) fun A => N hX 8 A rfl rfl fun A => RETN hX A rfl rfl rfl h0 rfl rfl rfl rfl (by rw [o2t h1]; rfl) (by rw [o2t h1]; rfl))
  (fun h1 A => N hX 12 A rfl rfl fun A => RETN hX A rfl rfl rfl h0 rfl rfl rfl rfl (by rw [o2f h1]; rfl) (by rw [o2f h1]; rfl))
theorem ord2_i {xaa xb xsw : Int} (d : Array O) (nn aa b sw : Nat) (eaa : xaa = (aa : Int)) (eb : xb = (b : Int)) (esw : xsw = (sw : Int)) (hn : d.size = nn) (hs : nn ≤ 1000000) (ha : aa < nn) (hb : b < nn) (hw : sw ≤ 1000) : Fn Tryd.prog 73 [.sl 0 nn 0, .int .i64 xaa, .int .i64 xb, .ptr 1 0, .fn 27 []] [some (.row 26 27 nn 0 (fun zz => oc (d[zz]!))), some (.blk [.int .i64 xsw])] (Rt (.tup [.int .i64 (((Go.Sort.order2 lessO d aa b sw).1 : Nat) : Int), .int .i64 (((Go.Sort.order2 lessO d aa b sw).2.1 : Nat) : Int)]) [some (.row 26 27 nn 0 (fun zz => oc (d[zz]!))), some (.blk [.int .i64 (((Go.Sort.order2 lessO d aa b sw).2.2 : Nat) : Int)])]) := by
  subst eaa; subst eb; subst esw; exact ord2_ d nn aa b sw hn hs ha hb hw
theorem med_ (d : Array O) (nn aa b c sw : Nat) (hn : d.size = nn) (hs : nn ≤ 1000000) (ha : aa < nn) (hb : b < nn) (hc : c < nn) (hw : sw ≤ 900) : Fn Tryd.prog 69 [.sl 0 nn 0, .int .i64 (aa : Int), .int .i64 (b : Int), .int .i64 (c : Int), .ptr 1 0, .fn 27 []] [some (.row 26 27 nn 0 (fun zz => oc (d[zz]!))), some (.blk [.int .i64 (sw : Int)])] (Rt (.int .i64 (((Go.Sort.median lessO d aa b c sw).1 : Nat) : Int)) [some (.row 26 27 nn 0 (fun zz => oc (d[zz]!))), some (.blk [.int .i64 (((Go.Sort.median lessO d aa b c sw).2 : Nat) : Int)])]) :=
 enterM (n := 41) (by kernel_rfl) Tryd.func69 rfl rfl rfl fun G w a h0 A => N hX 12 A rfl rfl fun A => CALL1 [0, 1] (ord2_i d nn aa b sw (by have k1 := o2lt d sw ha hb; have k2 := o2lt d (Go.Sort.order2 lessO d aa b sw).2.2 k1.2.1 hc; omega) (by have k1 := o2lt d sw ha hb; have k2 := o2lt d (Go.Sort.order2 lessO d aa b sw).2.2 k1.2.1 hc; omega) (by have k1 := o2lt d sw ha hb; have k2 := o2lt d (Go.Sort.order2 lessO d aa b sw).2.2 k1.2.1 hc; omega) hn (by have k1 := o2lt d sw ha hb; have k2 := o2lt d (Go.Sort.order2 lessO d aa b sw).2.2 k1.2.1 hc; omega) (by have k1 := o2lt d sw ha hb; have k2 := o2lt d (Go.Sort.order2 lessO d aa b sw).2.2 k1.2.1 hc; omega) (by have k1 := o2lt d sw ha hb; have k2 := o2lt d (Go.Sort.order2 lessO d aa b sw).2.2 k1.2.1 hc; omega) (by have k1 := o2lt d sw ha hb; have k2 := o2lt d (Go.Sort.order2 lessO d aa b sw).2.2 k1.2.1 hc; omega)) A rfl rfl rfl rfl rfl rfl rfl fun A => N hX 14 A rfl rfl fun A => CALL1 [0, 1] (ord2_i d nn ((Go.Sort.order2 lessO d aa b sw).2.1) c ((Go.Sort.order2 lessO d aa b sw).2.2) (by have k1 := o2lt d sw ha hb; have k2 := o2lt d (Go.Sort.order2 lessO d aa b sw).2.2 k1.2.1 hc; omega) (by have k1 := o2lt d sw ha hb; have k2 := o2lt d (Go.Sort.order2 lessO d aa b sw).2.2 k1.2.1 hc; omega) (by have k1 := o2lt d sw ha hb; have k2 := o2lt d (Go.Sort.order2 lessO d aa b sw).2.2 k1.2.1 hc; omega) hn (by have k1 := o2lt d sw ha hb; have k2 := o2lt d (Go.Sort.order2 lessO d aa b sw).2.2 k1.2.1 hc; omega) (by have k1 := o2lt d sw ha hb; have k2 := o2lt d (Go.Sort.order2 lessO d aa b sw).2.2 k1.2.1 hc; omega) (by have k1 := o2lt d sw ha hb; have k2 := o2lt d (Go.Sort.order2 lessO d aa b sw).2.2 k1.2.1 hc; omega) (by have k1 := o2lt d sw ha hb; have k2 := o2lt d (Go.Sort.order2 lessO d aa b sw).2.2 k1.2.1 hc; omega)) A rfl rfl rfl rfl rfl rfl rfl fun A => N hX 14 A rfl rfl fun A => CALL1 [0, 1] (ord2_i d nn ((Go.Sort.order2 lessO d aa b sw).1) ((Go.Sort.order2 lessO d ((Go.Sort.order2 lessO d aa b sw).2.1) c ((Go.Sort.order2 lessO d aa b sw).2.2)).1) ((Go.Sort.order2 lessO d ((Go.Sort.order2 lessO d aa b sw).2.1) c ((Go.Sort.order2 lessO d aa b sw).2.2)).2.2) (by have k1 := o2lt d sw ha hb; have k2 := o2lt d (Go.Sort.order2 lessO d aa b sw).2.2 k1.2.1 hc; omega) (by have k1 := o2lt d sw ha hb; have k2 := o2lt d (Go.Sort.order2 lessO d aa b sw).2.2 k1.2.1 hc; omega) (by have k1 := o2lt d sw ha hb; have k2 := o2lt d (Go.Sort.order2 lessO d aa b sw).2.2 k1.2.1 hc; omega) hn (by have k1 := o2lt d sw ha hb; have k2 := o2lt d (Go.Sort.order2 lessO d aa b sw).2.2 k1.2.1 hc; omega) (by have k1 := o2lt d sw ha hb; have k2 := o2lt d (Go.Sort.order2 lessO d aa b sw).2.2 k1.2.1 hc; omega) (by have k1 := o2lt d sw ha hb; have k2 := o2lt d (Go.Sort.order2 lessO d aa b sw).2.2 k1.2.1 hc; omega) (by have k1 := o2lt d sw ha hb; have k2 := o2lt d (Go.Sort.order2 lessO d aa b sw).2.2 k1.2.1 hc; omega)) A rfl rfl rfl rfl rfl rfl rfl fun A => N hX 14 A rfl rfl fun A => RETN hX A rfl rfl rfl h0 rfl rfl rfl rfl rfl rfl
theorem med_i {xaa xb xc xsw : Int} (d : Array O) (nn aa b c sw : Nat) (eaa : xaa = (aa : Int)) (eb : xb = (b : Int)) (ec : xc = (c : Int)) (esw : xsw = (sw : Int)) (hn : d.size = nn) (hs : nn ≤ 1000000) (ha : aa < nn) (hb : b < nn) (hc : c < nn) (hw : sw ≤ 900) : Fn Tryd.prog 69 [.sl 0 nn 0, .int .i64 xaa, .int .i64 xb, .int .i64 xc, .ptr 1 0, .fn 27 []] [some (.row 26 27 nn 0 (fun zz => oc (d[zz]!))), some (.blk [.int .i64 xsw])] (Rt (.int .i64 (((Go.Sort.median lessO d aa b c sw).1 : Nat) : Int)) [some (.row 26 27 nn 0 (fun zz => oc (d[zz]!))), some (.blk [.int .i64 (((Go.Sort.median lessO d aa b c sw).2 : Nat) : Int)])]) := by
  subst eaa; subst eb; subst ec; subst esw; exact med_ d nn aa b c sw hn hs ha hb hc hw
theorem meda_ (d : Array O) (nn aa sw : Nat) (hn : d.size = nn) (hs : nn ≤ 1000000) (ha : 1 ≤ aa) (hb : aa + 1 < nn) (hw : sw ≤ 800) : Fn Tryd.prog 68 [.sl 0 nn 0, .int .i64 (aa : Int), .ptr 1 0, .fn 27 []] [some (.row 26 27 nn 0 (fun zz => oc (d[zz]!))), some (.blk [.int .i64 (sw : Int)])] (Rt (.int .i64 (((Go.Sort.medianAdjacent lessO d aa sw).1 : Nat) : Int)) [some (.row 26 27 nn 0 (fun zz => oc (d[zz]!))), some (.blk [.int .i64 (((Go.Sort.medianAdjacent lessO d aa sw).2 : Nat) : Int)])]) :=
 enterM (n := 18) (by kernel_rfl) Tryd.func68 rfl rfl rfl fun G w a h0 A => N hX 15 A rfl (ok_d (by omega) <| ok_d (by omega) <| okE_nil) fun A => CALL1 [0, 1] (med_i d nn (aa - 1) aa (aa + 1) sw (by omega) (by omega) (by omega) (by omega) hn (by omega) (by omega) (by omega) (by omega) (by omega)) A rfl rfl rfl rfl rfl rfl rfl fun A => N hX 4 A rfl rfl fun A => RETN hX A rfl rfl rfl h0 rfl rfl rfl rfl rfl rfl
theorem meda_i {xaa xsw : Int} (d : Array O) (nn aa sw : Nat) (eaa : xaa = (aa : Int)) (esw : xsw = (sw : Int)) (hn : d.size = nn) (hs : nn ≤ 1000000) (ha : 1 ≤ aa) (hb : aa + 1 < nn) (hw : sw ≤ 800) : Fn Tryd.prog 68 [.sl 0 nn 0, .int .i64 xaa, .ptr 1 0, .fn 27 []] [some (.row 26 27 nn 0 (fun zz => oc (d[zz]!))), some (.blk [.int .i64 xsw])] (Rt (.int .i64 (((Go.Sort.medianAdjacent lessO d aa sw).1 : Nat) : Int)) [some (.row 26 27 nn 0 (fun zz => oc (d[zz]!))), some (.blk [.int .i64 (((Go.Sort.medianAdjacent lessO d aa sw).2 : Nat) : Int)])]) := by
  subst eaa; subst esw; exact meda_ d nn aa sw hn hs ha hb hw
theorem cpv_ (d : Array O) (nn aa b : Nat) (hn : d.size = nn) (hs : nn ≤ 1000000) (ha : aa + 12 < b) (hb : b ≤ nn) : Fn Tryd.prog 51 [.sl 0 nn 0, .int .i64 (aa : Int), .int .i64 (b : Int), .fn 27 []] [some (.row 26 27 nn 0 (fun zz => oc (d[zz]!)))] (Rt (.tup [.int .i64 (((Go.Sort.choosePivot lessO d aa b).1 : Nat) : Int), .int .i64 (hintI (Go.Sort.choosePivot lessO d aa b).2)]) [some (.row 26 27 nn 0 (fun zz => oc (d[zz]!)))]) :=
 enterM (n := 63) (by kernel_rfl) Tryd.func51 rfl rfl rfl fun G w a h0 A => N hX 15 A rfl (ok_d (by omega) <| okE_nil) fun A => N hX 15 A rfl (ok_d (by omega) <| ok_d (by have k0 := qdiv (k := 4) (aa := aa) (b := b) (by omega) (by omega); simp only [Int.cast_ofNat_Int] at k0; rw [k0]; omega) <| ok_d (by have k0 := qdiv (k := 4) (aa := aa) (b := b) (by omega) (by omega); simp only [Int.cast_ofNat_Int] at k0; rw [k0]; omega) <| okE_nil) fun A => N hX 10 A rfl (ok_d (by omega) <| ok_d (by have k0 := qdiv (k := 4) (aa := aa) (b := b) (by omega) (by omega); simp only [Int.cast_ofNat_Int] at k0; rw [k0]; omega) <| ok_d (by have k0 := qdiv (k := 4) (aa := aa) (b := b) (by omega) (by omega); simp only [Int.cast_ofNat_Int] at k0; rw [k0]; omega) <| okE_nil) fun A => N hX 11 A rfl (ok_d (by omega) <| ok_d (by have k0 := qdiv (k := 4) (aa := aa) (b := b) (by omega) (by omega); simp only [Int.cast_ofNat_Int] at k0; rw [k0]; omega) <| ok_d (by have k0 := qdiv (k := 4) (aa := aa) (b := b) (by omega) (by omega); simp only [Int.cast_ofNat_Int] at k0; rw [k0]; omega) <| okE_nil) fun A => have A := A.say 10 (.int .i64 ((b - aa : Nat) : Int)) rfl (by congr 1; omega); have A := A.say 12 (.int .i64 ((aa + (b - aa) / 4 * 1 : Nat) : Int)) rfl (by congr 1; have := qdiv (k := 4) (aa := aa) (b := b) (by omega) (by omega); simp only [Int.cast_ofNat_Int] at this; rw [this]; omega); have A := A.say 13 (.int .i64 ((aa + (b - aa) / 4 * 2 : Nat) : Int)) rfl (by congr 1; have := qdiv (k := 4) (aa := aa) (b := b) (by omega) (by omega); simp only [Int.cast_ofNat_Int] at this; rw [this]; omega); have A := A.say 14 (.int .i64 ((aa + (b - aa) / 4 * 3 : Nat) : Int)) rfl (by congr 1; have := qdiv (k := 4) (aa := aa) (b := b) (by omega) (by omega); simp only [Int.cast_ofNat_Int] at this; rw [this]; omega); N hX 5 A rfl rfl fun A => forkD 34 A rfl
  (fun h1 A => N hX 8 A rfl rfl fun A => forkD 36 A rfl
   (fun h2 A => N hX 6 A rfl rfl fun A => CALL1 [0, 1] (meda_i d nn (aa + (b - aa) / 4 * 1) 0 (by have k1 := medalt d (aa := aa + (b - aa) / 4 * 1) (nn := nn) 0 (by omega) (by omega); have k2 := medalt d (aa := aa + (b - aa) / 4 * 2) (nn := nn) (Go.Sort.medianAdjacent lessO d (aa + (b - aa) / 4 * 1) 0).2 (by omega) (by omega); have k3 := medalt d (aa := aa + (b - aa) / 4 * 3) (nn := nn) (Go.Sort.medianAdjacent lessO d (aa + (b - aa) / 4 * 2) (Go.Sort.medianAdjacent lessO d (aa + (b - aa) / 4 * 1) 0).2).2 (by omega) (by omega); omega) (by have k1 := medalt d (aa := aa + (b - aa) / 4 * 1) (nn := nn) 0 (by omega) (by omega); have k2 := medalt d (aa := aa + (b - aa) / 4 * 2) (nn := nn) (Go.Sort.medianAdjacent lessO d (aa + (b - aa) / 4 * 1) 0).2 (by omega) (by omega); have k3 := medalt d (aa := aa + (b - aa) / 4 * 3) (nn := nn) (Go.Sort.medianAdjacent lessO d (aa + (b - aa) / 4 * 2) (Go.Sort.medianAdjacent lessO d (aa + (b - aa) / 4 * 1) 0).2).2 (by omega) (by omega); omega) hn (by have k1 := medalt d (aa := aa + (b - aa) / 4 * 1) (nn := nn) 0 (by omega) (by omega); have k2 := medalt d (aa := aa + (b - aa) / 4 * 2) (nn := nn) (Go.Sort.medianAdjacent lessO d (aa + (b - aa) / 4 * 1) 0).2 (by omega) (by omega); have k3 := medalt d (aa := aa + (b - aa) / 4 * 3) (nn := nn) (Go.Sort.medianAdjacent lessO d (aa + (b - aa) / 4 * 2) (Go.Sort.medianAdjacent lessO d (aa + (b - aa) / 4 * 1) 0).2).2 (by omega) (by omega); omega) (by have k1 := medalt d (aa := aa + (b - aa) / 4 * 1) (nn := nn) 0 (by omega) (by omega); have k2 := medalt d (aa := aa + (b - aa) / 4 * 2) (nn := nn) (Go.Sort.medianAdjacent lessO d (aa + (b - aa) / 4 * 1) 0).2 (by omega) (by omega); have k3 := medalt d (aa := aa + (b - aa) / 4 * 3) (nn := nn) (Go.Sort.medianAdjacent lessO d (aa + (b - aa) / 4 * 2) (Go.Sort.medianAdjacent lessO d (aa + (b - aa) / 4 * 1) 0).2).2 (by omega) (by omega); omega) (by have k1 := medalt d (aa := aa + (b - aa) / 4 * 1) (nn := nn) 0 (by omega) (by omega); have k2 := medalt d (aa := aa + (b - aa) / 4 * 2) (nn := nn) (Go.Sort.medianAdjacent lessO d (aa + (b - aa) / 4 * 1) 0).2 (by omega) (by omega); have k3 := medalt d (aa := aa + (b - aa) / 4 * 3) (nn := nn) (Go.Sort.medianAdjacent lessO d (aa + (b - aa) / 4 * 2) (Go.Sort.medianAdjacent lessO d (aa + (b - aa) / 4 * 1) 0).2).2 (by omega) (by omega); omega) (by have k1 := medalt d (aa := aa + (b - aa) / 4 * 1) (nn := nn) 0 (by omega) (by omega); have k2 := medalt d (aa := aa + (b - aa) / 4 * 2) (nn := nn) (Go.Sort.medianAdjacent lessO d (aa + (b - aa) / 4 * 1) 0).2 (by omega) (by omega); have k3 := medalt d (aa := aa + (b - aa) / 4 * 3) (nn := nn) (Go.Sort.medianAdjacent lessO d (aa + (b - aa) / 4 * 2) (Go.Sort.medianAdjacent lessO d (aa + (b - aa) / 4 * 1) 0).2).2 (by omega) (by omega); omega)) A rfl rfl rfl rfl rfl rfl rfl fun A => N hX 8 A rfl rfl fun A => CALL1 [0, 1] (meda_i d nn (aa + (b - aa) / 4 * 2) ((Go.Sort.medianAdjacent lessO d (aa + (b - aa) / 4 * 1) 0).2) (by have k1 := medalt d (aa := aa + (b - aa) / 4 * 1) (nn := nn) 0 (by omega) (by omega); have k2 := medalt d (aa := aa + (b - aa) / 4 * 2) (nn := nn) (Go.Sort.medianAdjacent lessO d (aa + (b - aa) / 4 * 1) 0).2 (by omega) (by omega); have k3 := medalt d (aa := aa + (b - aa) / 4 * 3) (nn := nn) (Go.Sort.medianAdjacent lessO d (aa + (b - aa) / 4 * 2) (Go.Sort.medianAdjacent lessO d (aa + (b - aa) / 4 * 1) 0).2).2 (by omega) (by omega); omega) (by have k1 := medalt d (aa := aa + (b - aa) / 4 * 1) (nn := nn) 0 (by omega) (by omega); have k2 := medalt d (aa := aa + (b - aa) / 4 * 2) (nn := nn) (Go.Sort.medianAdjacent lessO d (aa + (b - aa) / 4 * 1) 0).2 (by omega) (by omega); have k3 := medalt d (aa := aa + (b - aa) / 4 * 3) (nn := nn) (Go.Sort.medianAdjacent lessO d (aa + (b - aa) / 4 * 2) (Go.Sort.medianAdjacent lessO d (aa + (b - aa) / 4 * 1) 0).2).2 (by omega) (by omega); omega) hn (by have k1 := medalt d (aa := aa + (b - aa) / 4 * 1) (nn := nn) 0 (by omega) (by omega); have k2 := medalt d (aa := aa + (b - aa) / 4 * 2) (nn := nn) (Go.Sort.medianAdjacent lessO d (aa + (b - aa) / 4 * 1) 0).2 (by omega) (by omega); have k3 := medalt d (aa := aa + (b - aa) / 4 * 3) (nn := nn) (Go.Sort.medianAdjacent lessO d (aa + (b - aa) / 4 * 2) (Go.Sort.medianAdjacent lessO d (aa + (b - aa) / 4 * 1) 0).2).2 (by omega) (by omega); omega) (by have k1 := medalt d (aa := aa + (b - aa) / 4 * 1) (nn := nn) 0 (by omega) (by omega); have k2 := medalt d (aa := aa + (b - aa) / 4 * 2) (nn := nn) (Go.Sort.medianAdjacent lessO d (aa + (b - aa) / 4 * 1) 0).2 (by omega) (by omega); have k3 := medalt d (aa := aa + (b - aa) / 4 * 3) (nn := nn) (Go.Sort.medianAdjacent lessO d (aa + (b - aa) / 4 * 2) (Go.Sort.medianAdjacent lessO d (aa + (b - aa) / 4 * 1) 0).2).2 (by omega) (by omega); omega) (by have k1 := medalt d (aa := aa + (b - aa) / 4 * 1) (nn := nn) 0 (by omega) (by omega); have k2 := medalt d (aa := aa + (b - aa) / 4 * 2) (nn := nn) (Go.Sort.medianAdjacent lessO d (aa + (b - aa) / 4 * 1) 0).2 (by omega) (by omega); have k3 := medalt d (aa := aa + (b - aa) / 4 * 3) (nn := nn) (Go.Sort.medianAdjacent lessO d (aa + (b - aa) / 4 * 2) (Go.Sort.medianAdjacent lessO d (aa + (b - aa) / 4 * 1) 0).2).2 (by omega) (by omega); omega) (by have k1 := medalt d (aa := aa + (b - aa) / 4 * 1) (nn := nn) 0 (by omega) (by omega); have k2 := medalt d (aa := aa + (b - aa) / 4 * 2) (nn := nn) (Go.Sort.medianAdjacent lessO d (aa + (b - aa) / 4 * 1) 0).2 (by omega) (by omega); have k3 := medalt d (aa := aa + (b - aa) / 4 * 3) (nn := nn) (Go.Sort.medianAdjacent lessO d (aa + (b - aa) / 4 * 2) (Go.Sort.medianAdjacent lessO d (aa + (b - aa) / 4 * 1) 0).2).2 (by omega) (by omega); omega)) A rfl rfl rfl rfl rfl rfl rfl fun A => N hX 7 A rfl rfl fun A => CALL1 [0, 1] (meda_i d nn (aa + (b - aa) / 4 * 3) ((Go.Sort.medianAdjacent lessO d (aa + (b - aa) / 4 * 2) ((Go.Sort.medianAdjacent lessO d (aa + (b - aa) / 4 * 1) 0).2)).2) (by have k1 := medalt d (aa := aa + (b - aa) / 4 * 1) (nn := nn) 0 (by omega) (by omega); have k2 := medalt d (aa := aa + (b - aa) / 4 * 2) (nn := nn) (Go.Sort.medianAdjacent lessO d (aa + (b - aa) / 4 * 1) 0).2 (by omega) (by omega); have k3 := medalt d (aa := aa + (b - aa) / 4 * 3) (nn := nn) (Go.Sort.medianAdjacent lessO d (aa + (b - aa) / 4 * 2) (Go.Sort.medianAdjacent lessO d (aa + (b - aa) / 4 * 1) 0).2).2 (by omega) (by omega); omega) (by have k1 := medalt d (aa := aa + (b - aa) / 4 * 1) (nn := nn) 0 (by omega) (by omega); have k2 := medalt d (aa := aa + (b - aa) / 4 * 2) (nn := nn) (Go.Sort.medianAdjacent lessO d (aa + (b - aa) / 4 * 1) 0).2 (by omega) (by omega); have k3 := medalt d (aa := aa + (b - aa) / 4 * 3) (nn := nn) (Go.Sort.medianAdjacent lessO d (aa + (b - aa) / 4 * 2) (Go.Sort.medianAdjacent lessO d (aa + (b - aa) / 4 * 1) 0).2).2 (by omega) (by omega); omega) hn (by have k1 := medalt d (aa := aa + (b - aa) / 4 * 1) (nn := nn) 0 (by omega) (by omega); have k2 := medalt d (aa := aa + (b - aa) / 4 * 2) (nn := nn) (Go.Sort.medianAdjacent lessO d (aa + (b - aa) / 4 * 1) 0).2 (by omega) (by omega); have k3 := medalt d (aa := aa + (b - aa) / 4 * 3) (nn := nn) (Go.Sort.medianAdjacent lessO d (aa + (b - aa) / 4 * 2) (Go.Sort.medianAdjacent lessO d (aa + (b - aa) / 4 * 1) 0).2).2 (by omega) (by omega); omega) (by have k1 := medalt d (aa := aa + (b - aa) / 4 * 1) (nn := nn) 0 (by omega) (by omega); have k2 := medalt d (aa := aa + (b - aa) / 4 * 2) (nn := nn) (Go.Sort.medianAdjacent lessO d (aa + (b - aa) / 4 * 1) 0).2 (by omega) (by omega); have k3 := medalt d (aa := aa + (b - aa) / 4 * 3) (nn := nn) (Go.Sort.medianAdjacent lessO d (aa + (b - aa) / 4 * 2) (Go.Sort.medianAdjacent lessO d (aa + (b - aa) / 4 * 1) 0).2).2 (by omega) (by omega); omega) (by have k1 := medalt d (aa := aa + (b - aa) / 4 * 1) (nn := nn) 0 (by omega) (by omega); have k2 := medalt d (aa := aa + (b - aa) / 4 * 2) (nn := nn) (Go.Sort.medianAdjacent lessO d (aa + (b - aa) / 4 * 1) 0).2 (by omega) (by omega); have k3 := medalt d (aa := aa + (b - aa) / 4 * 3) (nn := nn) (Go.Sort.medianAdjacent lessO d (aa + (b - aa) / 4 * 2) (Go.Sort.medianAdjacent lessO d (aa + (b - aa) / 4 * 1) 0).2).2 (by omega) (by omega); omega) (by have k1 := medalt d (aa := aa + (b - aa) / 4 * 1) (nn := nn) 0 (by omega) (by omega); have k2 := medalt d (aa := aa + (b - aa) / 4 * 2) (nn := nn) (Go.Sort.medianAdjacent lessO d (aa + (b - aa) / 4 * 1) 0).2 (by omega) (by omega); have k3 := medalt d (aa := aa + (b - aa) / 4 * 3) (nn := nn) (Go.Sort.medianAdjacent lessO d (aa + (b - aa) / 4 * 2) (Go.Sort.medianAdjacent lessO d (aa + (b - aa) / 4 * 1) 0).2).2 (by omega) (by omega); omega)) A rfl rfl rfl rfl rfl rfl rfl fun A => N hX 9 A rfl rfl fun A => CALL1 [0, 1] (med_i d nn ((Go.Sort.medianAdjacent lessO d (aa + (b - aa) / 4 * 1) 0).1) ((Go.Sort.medianAdjacent lessO d (aa + (b - aa) / 4 * 2) ((Go.Sort.medianAdjacent lessO d (aa + (b - aa) / 4 * 1) 0).2)).1) ((Go.Sort.medianAdjacent lessO d (aa + (b - aa) / 4 * 3) ((Go.Sort.medianAdjacent lessO d (aa + (b - aa) / 4 * 2) ((Go.Sort.medianAdjacent lessO d (aa + (b - aa) / 4 * 1) 0).2)).2)).1) ((Go.Sort.medianAdjacent lessO d (aa + (b - aa) / 4 * 3) ((Go.Sort.medianAdjacent lessO d (aa + (b - aa) / 4 * 2) ((Go.Sort.medianAdjacent lessO d (aa + (b - aa) / 4 * 1) 0).2)).2)).2) (by have k1 := medalt d (aa := aa + (b - aa) / 4 * 1) (nn := nn) 0 (by omega) (by omega); have k2 := medalt d (aa := aa + (b - aa) / 4 * 2) (nn := nn) (Go.Sort.medianAdjacent lessO d (aa + (b - aa) / 4 * 1) 0).2 (by omega) (by omega); have k3 := medalt d (aa := aa + (b - aa) / 4 * 3) (nn := nn) (Go.Sort.medianAdjacent lessO d (aa + (b - aa) / 4 * 2) (Go.Sort.medianAdjacent lessO d (aa + (b - aa) / 4 * 1) 0).2).2 (by omega) (by omega); omega) (by have k1 := medalt d (aa := aa + (b - aa) / 4 * 1) (nn := nn) 0 (by omega) (by omega); have k2 := medalt d (aa := aa + (b - aa) / 4 * 2) (nn := nn) (Go.Sort.medianAdjacent lessO d (aa + (b - aa) / 4 * 1) 0).2 (by omega) (by omega); have k3 := medalt d (aa := aa + (b - aa) / 4 * 3) (nn := nn) (Go.Sort.medianAdjacent lessO d (aa + (b - aa) / 4 * 2) (Go.Sort.medianAdjacent lessO d (aa + (b - aa) / 4 * 1) 0).2).2 (by omega) (by omega); omega) (by have k1 := medalt d (aa := aa + (b - aa) / 4 * 1) (nn := nn) 0 (by omega) (by omega); have k2 := medalt d (aa := aa + (b - aa) / 4 * 2) (nn := nn) (Go.Sort.medianAdjacent lessO d (aa + (b - aa) / 4 * 1) 0).2 (by omega) (by omega); have k3 := medalt d (aa := aa + (b - aa) / 4 * 3) (nn := nn) (Go.Sort.medianAdjacent lessO d (aa + (b - aa) / 4 * 2) (Go.Sort.medianAdjacent lessO d (aa + (b - aa) / 4 * 1) 0).2).2 (by omega) (by omega); omega) (by have k1 := medalt d (aa := aa + (b - aa) / 4 * 1) (nn := nn) 0 (by omega) (by omega); have k2 := medalt d (aa := aa + (b - aa) / 4 * 2) (nn := nn) (Go.Sort.medianAdjacent lessO d (aa + (b - aa) / 4 * 1) 0).2 (by omega) (by omega); have k3 := medalt d (aa := aa + (b - aa) / 4 * 3) (nn := nn) (Go.Sort.medianAdjacent lessO d (aa + (b - aa) / 4 * 2) (Go.Sort.medianAdjacent lessO d (aa + (b - aa) / 4 * 1) 0).2).2 (by omega) (by omega); omega) hn (by have k1 := medalt d (aa := aa + (b - aa) / 4 * 1) (nn := nn) 0 (by omega) (by omega); have k2 := medalt d (aa := aa + (b - aa) / 4 * 2) (nn := nn) (Go.Sort.medianAdjacent lessO d (aa + (b - aa) / 4 * 1) 0).2 (by omega) (by omega); have k3 := medalt d (aa := aa + (b - aa) / 4 * 3) (nn := nn) (Go.Sort.medianAdjacent lessO d (aa + (b - aa) / 4 * 2) (Go.Sort.medianAdjacent lessO d (aa + (b - aa) / 4 * 1) 0).2).2 (by omega) (by omega); omega) (by have k1 := medalt d (aa := aa + (b - aa) / 4 * 1) (nn := nn) 0 (by omega) (by omega); have k2 := medalt d (aa := aa + (b - aa) / 4 * 2) (nn := nn) (Go.Sort.medianAdjacent lessO d (aa + (b - aa) / 4 * 1) 0).2 (by omega) (by omega); have k3 := medalt d (aa := aa + (b - aa) / 4 * 3) (nn := nn) (Go.Sort.medianAdjacent lessO d (aa + (b - aa) / 4 * 2) (Go.Sort.medianAdjacent lessO d (aa + (b - aa) / 4 * 1) 0).2).2 (by omega) (by omega); omega) (by have k1 := medalt d (aa := aa + (b - aa) / 4 * 1) (nn := nn) 0 (by omega) (by omega); have k2 := medalt d (aa := aa + (b - aa) / 4 * 2) (nn := nn) (Go.Sort.medianAdjacent lessO d (aa + (b - aa) / 4 * 1) 0).2 (by omega) (by omega); have k3 := medalt d (aa := aa + (b - aa) / 4 * 3) (nn := nn) (Go.Sort.medianAdjacent lessO d (aa + (b - aa) / 4 * 2) (Go.Sort.medianAdjacent lessO d (aa + (b - aa) / 4 * 1) 0).2).2 (by omega) (by omega); omega) (by have k1 := medalt d (aa := aa + (b - aa) / 4 * 1) (nn := nn) 0 (by omega) (by omega); have k2 := medalt d (aa := aa + (b - aa) / 4 * 2) (nn := nn) (Go.Sort.medianAdjacent lessO d (aa + (b - aa) / 4 * 1) 0).2 (by omega) (by omega); have k3 := medalt d (aa := aa + (b - aa) / 4 * 3) (nn := nn) (Go.Sort.medianAdjacent lessO d (aa + (b - aa) / 4 * 2) (Go.Sort.medianAdjacent lessO d (aa + (b - aa) / 4 * 1) 0).2).2 (by omega) (by omega); omega) (by have k1 := medalt d (aa := aa + (b - aa) / 4 * 1) (nn := nn) 0 (by omega) (by omega); have k2 := medalt d (aa := aa + (b - aa) / 4 * 2) (nn := nn) (Go.Sort.medianAdjacent lessO d (aa + (b - aa) / 4 * 1) 0).2 (by omega) (by omega); have k3 := medalt d (aa := aa + (b - aa) / 4 * 3) (nn := nn) (Go.Sort.medianAdjacent lessO d (aa + (b - aa) / 4 * 2) (Go.Sort.medianAdjacent lessO d (aa + (b - aa) / 4 * 1) 0).2).2 (by omega) (by omega); omega)) A rfl rfl rfl rfl rfl rfl rfl fun A => N hX 15 A rfl rfl fun A => forkE 57 A rfl
    (fun h3 A => N hX 9 A rfl rfl fun A => RETN hX A rfl rfl rfl h0 rfl rfl rfl rfl (by have h := cp_inc (cp_a h1 h2) h3; rw [h.1, h.2]; rfl) rfl)
    (fun h3 A => N hX 7 A rfl rfl fun A => forkE 60 A rfl
     (fun h4 A => N hX 9 A rfl rfl fun A => RETN hX A rfl rfl rfl h0 rfl rfl rfl rfl (by have h := cp_dec (cp_a h1 h2) h3 h4; rw [h.1, h.2]; rfl) rfl)
     (fun h4 A => N hX 9 A rfl rfl fun A => RETN hX A rfl rfl rfl h0 rfl rfl rfl rfl (by have h := cp_unk (cp_a h1 h2) h3 h4; rw [h.1, h.2]; rfl) rfl)))
   (fun h2 A => N hX 9 A rfl rfl fun A => CALL1 [0, 1] (med_i d nn (aa + (b - aa) / 4 * 1) (aa + (b - aa) / 4 * 2) (aa + (b - aa) / 4 * 3) 0 (by omega) (by omega) (by omega) (by omega) hn (by omega) (by omega) (by omega) (by omega) (by omega)) A rfl rfl rfl rfl rfl rfl rfl fun A => N hX 15 A rfl rfl fun A => forkE 57 A rfl
    (fun h5 A => N hX 9 A rfl rfl fun A => RETN hX A rfl rfl rfl h0 rfl rfl rfl rfl (by have h := cp_inc (cp_b h1 h2) h5; rw [h.1, h.2]; rfl) rfl)
    (fun h5 A => N hX 7 A rfl rfl fun A => forkE 60 A rfl
     (fun h6 A => N hX 9 A rfl rfl fun A => RETN hX A rfl rfl rfl h0 rfl rfl rfl rfl (by have h := cp_dec (cp_b h1 h2) h5 h6; rw [h.1, h.2]; rfl) rfl)
     (fun h6 A => N hX 9 A rfl rfl fun A => RETN hX A rfl rfl rfl h0 rfl rfl rfl rfl (by have h := cp_unk (cp_b h1 h2) h5 h6; rw [h.1, h.2]; rfl) rfl))))
  (fun h1 A => N hX 15 A rfl rfl fun A => forkE 57 A rfl
   (fun h7 A => N hX 9 A rfl rfl fun A => RETN hX A rfl rfl rfl h0 rfl rfl rfl rfl (absurd h1 (by omega)) rfl)
   (fun h7 A => absurd rfl h7))
theorem cpv_i {xaa xb : Int} (d : Array O) (nn aa b : Nat) (eaa : xaa = (aa : Int)) (eb : xb = (b : Int)) (hn : d.size = nn) (hs : nn ≤ 1000000) (ha : aa + 12 < b) (hb : b ≤ nn) : Fn Tryd.prog 51 [.sl 0 nn 0, .int .i64 xaa, .int .i64 xb, .fn 27 []] [some (.row 26 27 nn 0 (fun zz => oc (d[zz]!)))] (Rt (.tup [.int .i64 (((Go.Sort.choosePivot lessO d aa b).1 : Nat) : Int), .int .i64 (hintI (Go.Sort.choosePivot lessO d aa b).2)]) [some (.row 26 27 nn 0 (fun zz => oc (d[zz]!)))]) := by
  subst eaa; subst eb; exact cpv_ d nn aa b hn hs ha hb
structure UP (p : O → Bool) (D : Array O) (j i0 i : Nat) : Prop where
  le : i0 ≤ i
  ub : i ≤ j + 1 ∨ i = i0
  eq : scanUp p D j i = scanUp p D j i0
structure DN (p : O → Bool) (D : Array O) (aa i j0 j : Nat) : Prop where
  le : j ≤ j0
  lb : aa ≤ j
  eq : scanDown p D i j = scanDown p D i j0
section
variable {p q : O → Bool} {D : Array O} {aa i0 i j0 j : Nat} {c : Bool}
theorem UP.step (h : UP p D j i0 i) (hc : c = p (D[i]!)) (h1 : (decide ((i : Int) ≤ (j : Int)) && c) = true) : UP p D j i0 (i + 1) := by
  have h2 := jlt h1
  have h3 := jrt h1
  refine ⟨by have := h.le; omega, .inl (by omega), ?_⟩
  rw [← h.eq]
  conv => rhs; unfold scanUp
  rw [if_pos (by rw [← hc, h3, decide_eq_true (by omega)]; rfl)]
theorem UP.stop (h : UP p D j i0 i) (hc : c = p (D[i]!)) (h1 : (decide ((i : Int) ≤ (j : Int)) && c) = false) : scanUp p D j i0 = i := by
  rw [← h.eq]; unfold scanUp
  rw [if_neg]
  intro h2
  rw [← hc] at h2
  rw [show decide (i ≤ j) = decide ((i : Int) ≤ (j : Int)) by simp] at h2
  rw [h2] at h1; cases h1
theorem DN.step (h : DN p D aa i j0 j) (hi : aa + 1 ≤ i) (hc : c = p (D[j]!)) (h1 : (decide ((i : Int) ≤ (j : Int)) && c) = true) : DN p D aa i j0 (j - 1) := by
  have h2 := jlt h1
  have h3 := jrt h1
  obtain ⟨k, rfl⟩ : ∃ k, j = k + 1 := ⟨j - 1, by omega⟩
  refine ⟨by have := h.le; omega, by omega, ?_⟩
  rw [← h.eq]
  conv => rhs; unfold scanDown
  rw [if_pos (by rw [← hc, h3, decide_eq_true (by omega)]; rfl)]; rfl
theorem DN.stop (h : DN p D aa i j0 j) (hi : aa + 1 ≤ i) (hc : c = p (D[j]!)) (h1 : (decide ((i : Int) ≤ (j : Int)) && c) = false) : scanDown p D i j0 = j := by
  rw [← h.eq]
  cases j with
  | zero => rfl
  | succ k =>
    unfold scanDown
    rw [if_neg]
    intro h2
    rw [← hc] at h2
    rw [show decide (i ≤ k + 1) = decide ((i : Int) ≤ ((k + 1 : Nat) : Int)) by apply decide_eq_decide.2; omega] at h2
    rw [h2] at h1; cases h1
end
structure PL (F : Nat → Nat → Array O → Nat × Array O) (d : Array O) (aa b i1 j1 : Nat) (D1 : Array O) (i j : Nat) (dk : Array O) : Prop where
  sz : dk.size = d.size
  li : aa + 1 ≤ i
  lj : aa ≤ j
  uj : j < b
  ui : i ≤ b + 1
  eq : F i j dk = F i1 j1 D1
section
variable {d D1 dk dw : Array O} {aa b i1 j1 i j i2 j2 : Nat}
theorem PL.step (h : PL (fun i j D => partLoop lessO aa i j D) d aa b i1 j1 D1 i j dk) (e1 : scanUp (fun x => lessO x dk[aa]!) dk j i = i2) (e2 : scanDown (fun x => !lessO x dk[aa]!) dk i2 j = j2) (h1 : ¬ (i2 : Int) > (j2 : Int)) (k1 : i ≤ i2) (k2 : j2 ≤ j) (e : dw = swp dk i2 j2) : PL (fun i j D => partLoop lessO aa i j D) d aa b i1 j1 D1 (i2 + 1) (j2 - 1) dw := by
  subst e
  have hu := h.uj; have hl := h.li
  refine ⟨by rw [swp_sz, h.sz], by omega, by omega, by omega, by omega, ?_⟩
  rw [← h.eq]
  conv => rhs; unfold partLoop
  simp only [e1, e2]
  rw [if_neg (by omega), dif_pos (by omega)]
theorem PL.stop (h : PL (fun i j D => partLoop lessO aa i j D) d aa b i1 j1 D1 i j dk) (e1 : scanUp (fun x => lessO x dk[aa]!) dk j i = i2) (e2 : scanDown (fun x => !lessO x dk[aa]!) dk i2 j = j2) (h1 : (i2 : Int) > (j2 : Int)) : partLoop lessO aa i1 j1 D1 = (j2, dk) := by
  have := h.eq
  rw [← this]
  unfold partLoop
  simp only [e1, e2]
  rw [if_pos (by omega)]
theorem PL.stepE (h : PL (fun i j D => partEqLoop lessO aa i j D) d aa b i1 j1 D1 i j dk) (e1 : scanUp (fun x => !lessO dk[aa]! x) dk j i = i2) (e2 : scanDown (fun x => lessO dk[aa]! x) dk i2 j = j2) (h1 : ¬ (i2 : Int) > (j2 : Int)) (k1 : i ≤ i2) (k2 : j2 ≤ j) (e : dw = swp dk i2 j2) : PL (fun i j D => partEqLoop lessO aa i j D) d aa b i1 j1 D1 (i2 + 1) (j2 - 1) dw := by
  subst e
  have hu := h.uj; have hl := h.li
  refine ⟨by rw [swp_sz, h.sz], by omega, by omega, by omega, by omega, ?_⟩
  rw [← h.eq]
  conv => rhs; unfold partEqLoop
  simp only [e1, e2]
  rw [if_neg (by omega), dif_pos (by omega)]
theorem PL.stopE (h : PL (fun i j D => partEqLoop lessO aa i j D) d aa b i1 j1 D1 i j dk) (e1 : scanUp (fun x => !lessO dk[aa]! x) dk j i = i2) (e2 : scanDown (fun x => lessO dk[aa]! x) dk i2 j = j2) (h1 : (i2 : Int) > (j2 : Int)) : partEqLoop lessO aa i1 j1 D1 = (i2, dk) := by
  have := h.eq
  rw [← this]
  unfold partEqLoop
  simp only [e1, e2]
  rw [if_pos (by omega)]
theorem part1 {pv : Nat} {D : Array O} (e0 : D = swp d aa pv) (e1 : scanUp (fun x => lessO x D[aa]!) D (b - 1) (aa + 1) = i) (e2 : scanDown (fun x => !lessO x D[aa]!) D i (b - 1) = j) (h1 : (i : Int) > (j : Int)) (e : dw = swp D j aa) : partition lessO d aa b pv = (j, true, dw) := by
  subst e0; subst e
  unfold partition
  simp only [e1, e2]
  rw [if_pos (by omega)]
theorem part2 {pv : Nat} {D D1 : Array O} (e0 : D = swp d aa pv) (e1 : scanUp (fun x => lessO x D[aa]!) D (b - 1) (aa + 1) = i) (e2 : scanDown (fun x => !lessO x D[aa]!) D i (b - 1) = j) (h1 : ¬ (i : Int) > (j : Int)) (e3 : D1 = swp D i j) (e4 : partLoop lessO aa (i + 1) (j - 1) D1 = (j2, dk)) (e : dw = swp dk j2 aa) : partition lessO d aa b pv = (j2, false, dw) := by
  subst e0; subst e; subst e3
  unfold partition
  simp only [e1, e2]
  rw [if_neg (by omega)]
  simp only [e4]
theorem parte1 {pv : Nat} {D : Array O} (e0 : D = swp d aa pv) (e4 : partEqLoop lessO aa (aa + 1) (b - 1) D = (i2, dk)) : partitionEqual lessO d aa b pv = (i2, dk) := by
  subst e0
  unfold partitionEqual
  exact e4
end
theorem part_ (d : Array O) (nn aa b pv : Nat) (hn : d.size = nn) (hs : nn ≤ 1000000) (ha : aa ≤ pv) (hp : pv < b) (hb : b ≤ nn) : Fn Tryd.prog 55 [.sl 0 nn 0, .int .i64 (aa : Int), .int .i64 (b : Int), .int .i64 (pv : Int), .fn 27 []] [some (.row 26 27 nn 0 (fun zz => oc (d[zz]!)))] (Rt (.tup [.int .i64 (((Go.Sort.partition lessO d aa b pv).1 : Nat) : Int), .bool ((Go.Sort.partition lessO d aa b pv).2.1)]) [some (.row 26 27 nn 0 (fun zz => oc (((Go.Sort.partition lessO d aa b pv).2.2)[zz]!)))]) :=
 enterM (n := 178) (by kernel_rfl) Tryd.func55 rfl rfl rfl fun G w a h0 A => N hX 7 A rfl rfl fun A => DRAWN hX hmo [] [(13, .tup [], [some (.row 26 27 nn 0 (fun zz => oc ((d.setIfInBounds ((aa : Int)).toNat (d[((pv : Int)).toNat]!))[zz]!)))]), (15, .tup [], [some (.row 26 27 nn 0 (fun zz => oc (((d.setIfInBounds ((aa : Int)).toNat (d[((pv : Int)).toNat]!)).setIfInBounds ((pv : Int)).toNat (d[((aa : Int)).toNat]!))[zz]!)))])] A rfl (ok_d (by omega) <| ok_d (by omega) <| ok_d (by omega) <| ok_d (by omega) <| ok_d (by omega) <| ok_d (by omega) <| ok_d (by omega) <| okE_nil) rfl rfl (by kernel_rfl) ⟨strE (i := 0) (e := 26) (s := 27) (m := nn) (c := 0) hX (((aa : Int)).toNat) (fun zz => oc ((d.setIfInBounds ((aa : Int)).toNat (d[((pv : Int)).toNat]!))[zz]!)) rfl rfl rfl (by omega) (fun z hz => by show oc _ = oc _; rw [aset_ne hz]) (by show _ = some (oc _); rw [aset_at (by (try simp only [asz]); rw [hn]; omega)]; rfl), ⟨strE (i := 0) (e := 26) (s := 27) (m := nn) (c := 0) hX (((pv : Int)).toNat) (fun zz => oc (((d.setIfInBounds ((aa : Int)).toNat (d[((pv : Int)).toNat]!)).setIfInBounds ((pv : Int)).toNat (d[((aa : Int)).toNat]!))[zz]!)) rfl rfl rfl (by omega) (fun z hz => by show oc _ = oc _; rw [aset_ne hz]) (by show _ = some (oc _); rw [aset_at (by (try simp only [asz]); rw [hn]; omega)]; rfl), trivial⟩⟩ trivial fun A => N hX 13 A rfl (ok_d (by omega) <| ok_d (by omega) <| okE_nil) fun A => have A := A.say 13 (.int .i64 (((b - 1 : Nat)) : Int)) rfl (by congr 1; omega); LOOP1 (fun (i : Nat) => [(0, .sl 0 nn 0), (1, .int .i64 (aa : Int)), (4, .fn 27 []), (10, .int .i64 0), (11, .ff), (12, .int .i64 (i : Int)), (13, .int .i64 ((b - 1 : Nat) : Int))]) (fun (i : Nat) => [some (.row 26 27 nn 0 (fun zz => oc (((d.setIfInBounds ((aa : Int)).toNat (d[((pv : Int)).toNat]!)).setIfInBounds ((pv : Int)).toNat (d[((aa : Int)).toNat]!))[zz]!)))]) (fun (i : Nat) => UP (fun x => lessO x ((d.setIfInBounds ((aa : Int)).toNat (d[((pv : Int)).toNat]!)).setIfInBounds ((pv : Int)).toNat (d[((aa : Int)).toNat]!))[aa]!) ((d.setIfInBounds ((aa : Int)).toNat (d[((pv : Int)).toNat]!)).setIfInBounds ((pv : Int)).toNat (d[((aa : Int)).toNat]!)) (b - 1) (aa + 1) i) (fun (i : Nat) => (b - 1) + 1 - i) (aa + 1) ⟨Nat.le_refl _, .inr rfl, rfl⟩ ((A.cut [0, 1, 4, 10, 11, 12, 13] rfl).trunc 1 rfl rfl rfl (by simp only [List.length_cons, List.length_nil] at h0; omega)) fun i hU {G a w} A => N hX 2 A rfl rfl fun A => DRAWN hX hmo [(13, .opt (decide ((i : Int) ≤ ((b - 1 : Nat) : Int))) (.int .i64 (cmpO (((d.setIfInBounds ((aa : Int)).toNat (d[((pv : Int)).toNat]!)).setIfInBounds ((pv : Int)).toNat (d[((aa : Int)).toNat]!))[((i : Int)).toNat]!) (((d.setIfInBounds ((aa : Int)).toNat (d[((pv : Int)).toNat]!)).setIfInBounds ((pv : Int)).toNat (d[((aa : Int)).toNat]!))[((aa : Int)).toNat]!))))] [] A rfl (ok_r <| ok_r <| ok_g (fun hg => (by have := hU.le; have := hU.ub; have := of_decide_eq_true hg; omega)) <| ok_r <| ok_g (fun hg => (by have := hU.le; have := hU.ub; have := of_decide_eq_true hg; omega)) <| ok_r <| ok_r <| ok_g (fun hg => (by have := hU.le; have := hU.ub; have := of_decide_eq_true hg; omega)) <| ok_r <| ok_g (fun hg => (by have := hU.le; have := hU.ub; have := of_decide_eq_true hg; omega)) <| ok_r <| ok_r <| okE_nil) rfl rfl (by kernel_rfl) (effAll_nil _ _) ⟨.inr ⟨_, _, _, _, _, _, rfl, rfl, rfl, rfl, rfl, fun hg => compare_ (((d.setIfInBounds ((aa : Int)).toNat (d[((pv : Int)).toNat]!)).setIfInBounds ((pv : Int)).toNat (d[((aa : Int)).toNat]!))[((i : Int)).toNat]!) (((d.setIfInBounds ((aa : Int)).toNat (d[((pv : Int)).toNat]!)).setIfInBounds ((pv : Int)).toNat (d[((aa : Int)).toNat]!))[((aa : Int)).toNat]!)⟩, trivial⟩ fun A => N hX 1 A rfl rfl fun A => fork 47 A rfl
   (fun h1 A => N hX 10 A rfl (ok_d (by have := hU.le; have := hU.ub; have := jlt h1; omega) <| okE_nil) fun A => ⟨i + 1, _, (by have := jlt h1; omega), (hU.step (cmp_less _ _) h1), ((A.cut [0, 1, 4, 10, 11, 12, 13] rfl).trunc 1 rfl rfl rfl (by simp only [List.length_cons, List.length_nil] at h0; omega))⟩)
   (fun h1 A => N hX 5 A rfl rfl fun A => LOOP1 (fun (j : Nat) => [(0, .sl 0 nn 0), (1, .int .i64 (aa : Int)), (4, .fn 27 []), (10, .int .i64 0), (11, .ff), (12, .int .i64 (i : Int)), (13, .int .i64 (j : Int))]) (fun (j : Nat) => [some (.row 26 27 nn 0 (fun zz => oc (((d.setIfInBounds ((aa : Int)).toNat (d[((pv : Int)).toNat]!)).setIfInBounds ((pv : Int)).toNat (d[((aa : Int)).toNat]!))[zz]!)))]) (fun (j : Nat) => DN (fun x => !lessO x ((d.setIfInBounds ((aa : Int)).toNat (d[((pv : Int)).toNat]!)).setIfInBounds ((pv : Int)).toNat (d[((aa : Int)).toNat]!))[aa]!) ((d.setIfInBounds ((aa : Int)).toNat (d[((pv : Int)).toNat]!)).setIfInBounds ((pv : Int)).toNat (d[((aa : Int)).toNat]!)) aa i (b - 1) j) (fun (j : Nat) => j) (b - 1) ⟨Nat.le_refl _, (by omega), rfl⟩ ((A.cut [0, 1, 4, 10, 11, 12, 13] rfl).trunc 1 rfl rfl rfl (by simp only [List.length_cons, List.length_nil] at h0; omega)) fun j hD {G a w} A => N hX 2 A rfl rfl fun A => DRAWN hX hmo [(13, .opt (decide ((i : Int) ≤ (j : Int))) (.int .i64 (cmpO (((d.setIfInBounds ((aa : Int)).toNat (d[((pv : Int)).toNat]!)).setIfInBounds ((pv : Int)).toNat (d[((aa : Int)).toNat]!))[((j : Int)).toNat]!) (((d.setIfInBounds ((aa : Int)).toNat (d[((pv : Int)).toNat]!)).setIfInBounds ((pv : Int)).toNat (d[((aa : Int)).toNat]!))[((aa : Int)).toNat]!))))] [] A rfl (ok_r <| ok_r <| ok_g (fun hg => (by have := hU.le; have := hU.ub; have := hD.le; have := hD.lb; have := of_decide_eq_true hg; omega)) <| ok_r <| ok_g (fun hg => (by have := hU.le; have := hU.ub; have := hD.le; have := hD.lb; have := of_decide_eq_true hg; omega)) <| ok_r <| ok_r <| ok_g (fun hg => (by have := hU.le; have := hU.ub; have := hD.le; have := hD.lb; have := of_decide_eq_true hg; omega)) <| ok_r <| ok_g (fun hg => (by have := hU.le; have := hU.ub; have := hD.le; have := hD.lb; have := of_decide_eq_true hg; omega)) <| ok_r <| ok_r <| ok_r <| okE_nil) rfl rfl (by kernel_rfl) (effAll_nil _ _) ⟨.inr ⟨_, _, _, _, _, _, rfl, rfl, rfl, rfl, rfl, fun hg => compare_ (((d.setIfInBounds ((aa : Int)).toNat (d[((pv : Int)).toNat]!)).setIfInBounds ((pv : Int)).toNat (d[((aa : Int)).toNat]!))[((j : Int)).toNat]!) (((d.setIfInBounds ((aa : Int)).toNat (d[((pv : Int)).toNat]!)).setIfInBounds ((pv : Int)).toNat (d[((aa : Int)).toNat]!))[((aa : Int)).toNat]!)⟩, trivial⟩ fun A => N hX 1 A rfl rfl fun A => fork 66 A rfl
     (fun h2 A => N hX 10 A rfl (ok_d (by have := hU.le; have := hU.ub; have := hD.le; have := hD.lb; have := jlt h2; omega) <| okE_nil) fun A => ⟨j - 1, _, (by have := jlt h2; have := hD.lb; (try have := hU.le); (try have := hV.le); (try have := hL.li); omega), (hD.step hU.le (congrArg (fun x => !x) (cmp_less _ _)) h2), ((A.cut [0, 1, 4, 10, 11, 12, 13] rfl).trunc 1 rfl rfl rfl (by simp only [List.length_cons, List.length_nil] at h0; omega)).sayT (by rw [show ((j - 1 : Nat) : Int) = (j : Int) - 1 by (try have := jlt h2); (try have := hD.lb); (try have := hE.lb); (try have := hU.le); (try have := hV.le); (try have := hL.li); omega] <;> rfl)⟩)
     (fun h2 A => N hX 11 A rfl rfl fun A => forkD 71 A rfl
      (fun h3 A => N hX 2 A rfl rfl fun A => DRAWN hX hmo [] [(13, .tup [], [some (.row 26 27 nn 0 (fun zz => oc ((((d.setIfInBounds ((aa : Int)).toNat (d[((pv : Int)).toNat]!)).setIfInBounds ((pv : Int)).toNat (d[((aa : Int)).toNat]!)).setIfInBounds ((j : Int)).toNat (((d.setIfInBounds ((aa : Int)).toNat (d[((pv : Int)).toNat]!)).setIfInBounds ((pv : Int)).toNat (d[((aa : Int)).toNat]!))[((aa : Int)).toNat]!))[zz]!)))]), (15, .tup [], [some (.row 26 27 nn 0 (fun zz => oc (((((d.setIfInBounds ((aa : Int)).toNat (d[((pv : Int)).toNat]!)).setIfInBounds ((pv : Int)).toNat (d[((aa : Int)).toNat]!)).setIfInBounds ((j : Int)).toNat (((d.setIfInBounds ((aa : Int)).toNat (d[((pv : Int)).toNat]!)).setIfInBounds ((pv : Int)).toNat (d[((aa : Int)).toNat]!))[((aa : Int)).toNat]!)).setIfInBounds ((aa : Int)).toNat (((d.setIfInBounds ((aa : Int)).toNat (d[((pv : Int)).toNat]!)).setIfInBounds ((pv : Int)).toNat (d[((aa : Int)).toNat]!))[((j : Int)).toNat]!))[zz]!)))])] A rfl (ok_d (by have := hU.le; have := hU.ub; have := hD.le; have := hD.lb; omega) <| ok_d (by have := hU.le; have := hU.ub; have := hD.le; have := hD.lb; omega) <| ok_d (by have := hU.le; have := hU.ub; have := hD.le; have := hD.lb; omega) <| ok_d (by have := hU.le; have := hU.ub; have := hD.le; have := hD.lb; omega) <| ok_d (by have := hU.le; have := hU.ub; have := hD.le; have := hD.lb; omega) <| ok_d (by have := hU.le; have := hU.ub; have := hD.le; have := hD.lb; omega) <| ok_d (by have := hU.le; have := hU.ub; have := hD.le; have := hD.lb; omega) <| okE_nil) rfl rfl (by kernel_rfl) ⟨strE (i := 0) (e := 26) (s := 27) (m := nn) (c := 0) hX (((j : Int)).toNat) (fun zz => oc ((((d.setIfInBounds ((aa : Int)).toNat (d[((pv : Int)).toNat]!)).setIfInBounds ((pv : Int)).toNat (d[((aa : Int)).toNat]!)).setIfInBounds ((j : Int)).toNat (((d.setIfInBounds ((aa : Int)).toNat (d[((pv : Int)).toNat]!)).setIfInBounds ((pv : Int)).toNat (d[((aa : Int)).toNat]!))[((aa : Int)).toNat]!))[zz]!)) rfl rfl rfl (by have := hU.le; have := hU.ub; have := hD.le; have := hD.lb; omega) (fun z hz => by show oc _ = oc _; rw [aset_ne hz]) (by show _ = some (oc _); rw [aset_at (by (try simp only [asz]); rw [hn]; have := hU.le; have := hU.ub; have := hD.le; have := hD.lb; omega)]; rfl), ⟨strE (i := 0) (e := 26) (s := 27) (m := nn) (c := 0) hX (((aa : Int)).toNat) (fun zz => oc (((((d.setIfInBounds ((aa : Int)).toNat (d[((pv : Int)).toNat]!)).setIfInBounds ((pv : Int)).toNat (d[((aa : Int)).toNat]!)).setIfInBounds ((j : Int)).toNat (((d.setIfInBounds ((aa : Int)).toNat (d[((pv : Int)).toNat]!)).setIfInBounds ((pv : Int)).toNat (d[((aa : Int)).toNat]!))[((aa : Int)).toNat]!)).setIfInBounds ((aa : Int)).toNat (((d.setIfInBounds ((aa : Int)).toNat (d[((pv : Int)).toNat]!)).setIfInBounds ((pv : Int)).toNat (d[((aa : Int)).toNat]!))[((j : Int)).toNat]!))[zz]!)) rfl rfl rfl (by have := hU.le; have := hU.ub; have := hD.le; have := hD.lb; omega) (fun z hz => by show oc _ = oc _; rw [aset_ne hz]) (by show _ = some (oc _); rw [aset_at (by (try simp only [asz]); rw [hn]; have := hU.le; have := hU.ub; have := hD.le; have := hD.lb; omega)]; rfl), trivial⟩⟩ trivial fun A => N hX 9 A rfl rfl fun A => RETN hX A rfl rfl rfl h0 rfl rfl rfl rfl (by have e : Go.Sort.partition lessO d aa b pv = _ := part1 (swp_is rfl rfl) (hU.stop (cmp_less _ _) h1) (hD.stop hU.le (congrArg (fun x => !x) (cmp_less _ _)) h2) h3 (swp_is (x := (j : Int)) (y := (aa : Int)) rfl rfl); rw [e]; rfl) (by have e : Go.Sort.partition lessO d aa b pv = _ := part1 (swp_is rfl rfl) (hU.stop (cmp_less _ _) h1) (hD.stop hU.le (congrArg (fun x => !x) (cmp_less _ _)) h2) h3 (swp_is (x := (j : Int)) (y := (aa : Int)) rfl rfl); rw [e]; rfl))
      (fun h3 A => N hX 4 A rfl rfl fun A => DRAWN hX hmo [] [(13, .tup [], [some (.row 26 27 nn 0 (fun zz => oc ((((d.setIfInBounds ((aa : Int)).toNat (d[((pv : Int)).toNat]!)).setIfInBounds ((pv : Int)).toNat (d[((aa : Int)).toNat]!)).setIfInBounds ((i : Int)).toNat (((d.setIfInBounds ((aa : Int)).toNat (d[((pv : Int)).toNat]!)).setIfInBounds ((pv : Int)).toNat (d[((aa : Int)).toNat]!))[((j : Int)).toNat]!))[zz]!)))]), (15, .tup [], [some (.row 26 27 nn 0 (fun zz => oc (((((d.setIfInBounds ((aa : Int)).toNat (d[((pv : Int)).toNat]!)).setIfInBounds ((pv : Int)).toNat (d[((aa : Int)).toNat]!)).setIfInBounds ((i : Int)).toNat (((d.setIfInBounds ((aa : Int)).toNat (d[((pv : Int)).toNat]!)).setIfInBounds ((pv : Int)).toNat (d[((aa : Int)).toNat]!))[((j : Int)).toNat]!)).setIfInBounds ((j : Int)).toNat (((d.setIfInBounds ((aa : Int)).toNat (d[((pv : Int)).toNat]!)).setIfInBounds ((pv : Int)).toNat (d[((aa : Int)).toNat]!))[((i : Int)).toNat]!))[zz]!)))])] A rfl (ok_d (by have := hU.le; have := hU.ub; have := hD.le; have := hD.lb; omega) <| ok_d (by have := hU.le; have := hU.ub; have := hD.le; have := hD.lb; omega) <| ok_d (by have := hU.le; have := hU.ub; have := hD.le; have := hD.lb; omega) <| ok_d (by have := hU.le; have := hU.ub; have := hD.le; have := hD.lb; omega) <| ok_d (by have := hU.le; have := hU.ub; have := hD.le; have := hD.lb; omega) <| ok_d (by have := hU.le; have := hU.ub; have := hD.le; have := hD.lb; omega) <| ok_d (by have := hU.le; have := hU.ub; have := hD.le; have := hD.lb; omega) <| okE_nil) rfl rfl (by kernel_rfl) ⟨strE (i := 0) (e := 26) (s := 27) (m := nn) (c := 0) hX (((i : Int)).toNat) (fun zz => oc ((((d.setIfInBounds ((aa : Int)).toNat (d[((pv : Int)).toNat]!)).setIfInBounds ((pv : Int)).toNat (d[((aa : Int)).toNat]!)).setIfInBounds ((i : Int)).toNat (((d.setIfInBounds ((aa : Int)).toNat (d[((pv : Int)).toNat]!)).setIfInBounds ((pv : Int)).toNat (d[((aa : Int)).toNat]!))[((j : Int)).toNat]!))[zz]!)) rfl rfl rfl (by have := hU.le; have := hU.ub; have := hD.le; have := hD.lb; omega) (fun z hz => by show oc _ = oc _; rw [aset_ne hz]) (by show _ = some (oc _); rw [aset_at (by (try simp only [asz]); rw [hn]; have := hU.le; have := hU.ub; have := hD.le; have := hD.lb; omega)]; rfl), ⟨strE (i := 0) (e := 26) (s := 27) (m := nn) (c := 0) hX (((j : Int)).toNat) (fun zz => oc (((((d.setIfInBounds ((aa : Int)).toNat (d[((pv : Int)).toNat]!)).setIfInBounds ((pv : Int)).toNat (d[((aa : Int)).toNat]!)).setIfInBounds ((i : Int)).toNat (((d.setIfInBounds ((aa : Int)).toNat (d[((pv : Int)).toNat]!)).setIfInBounds ((pv : Int)).toNat (d[((aa : Int)).toNat]!))[((j : Int)).toNat]!)).setIfInBounds ((j : Int)).toNat (((d.setIfInBounds ((aa : Int)).toNat (d[((pv : Int)).toNat]!)).setIfInBounds ((pv : Int)).toNat (d[((aa : Int)).toNat]!))[((i : Int)).toNat]!))[zz]!)) rfl rfl rfl (by have := hU.le; have := hU.ub; have := hD.le; have := hD.lb; omega) (fun z hz => by show oc _ = oc _; rw [aset_ne hz]) (by show _ = some (oc _); rw [aset_at (by (try simp only [asz]); rw [hn]; have := hU.le; have := hU.ub; have := hD.le; have := hD.lb; omega)]; rfl), trivial⟩⟩ trivial fun A => N hX 9 A rfl (ok_d (by have := hU.le; have := hU.ub; have := hD.le; have := hD.lb; omega) <| okE_nil) fun A => N hX 8 A rfl (ok_d (by have := hU.le; have := hU.ub; have := hD.le; have := hD.lb; omega) <| okE_nil) fun A => have A := A.say 13 (.int .i64 (((j - 1 : Nat)) : Int)) rfl (by congr 1; have := hU.le; omega); LOOP3 (fun (x : Nat) (y : Nat) (dk : Array O) => [(0, .sl 0 nn 0), (1, .int .i64 (aa : Int)), (4, .fn 27 []), (10, .int .i64 0), (11, .ff), (12, .int .i64 (x : Int)), (13, .int .i64 (y : Int))]) (fun (x : Nat) (y : Nat) (dk : Array O) => [some (.row 26 27 nn 0 (fun zz => oc (dk[zz]!)))]) (fun (x : Nat) (y : Nat) (dk : Array O) => PL (fun i j D => Go.Sort.partLoop lessO aa i j D) d aa b (i + 1) (j - 1) ((((d.setIfInBounds ((aa : Int)).toNat (d[((pv : Int)).toNat]!)).setIfInBounds ((pv : Int)).toNat (d[((aa : Int)).toNat]!)).setIfInBounds ((i : Int)).toNat (((d.setIfInBounds ((aa : Int)).toNat (d[((pv : Int)).toNat]!)).setIfInBounds ((pv : Int)).toNat (d[((aa : Int)).toNat]!))[((j : Int)).toNat]!)).setIfInBounds ((j : Int)).toNat (((d.setIfInBounds ((aa : Int)).toNat (d[((pv : Int)).toNat]!)).setIfInBounds ((pv : Int)).toNat (d[((aa : Int)).toNat]!))[((i : Int)).toNat]!)) x y dk) (fun (x : Nat) (y : Nat) (dk : Array O) => y + 1 - x) (i + 1) (j - 1) ((((d.setIfInBounds ((aa : Int)).toNat (d[((pv : Int)).toNat]!)).setIfInBounds ((pv : Int)).toNat (d[((aa : Int)).toNat]!)).setIfInBounds ((i : Int)).toNat (((d.setIfInBounds ((aa : Int)).toNat (d[((pv : Int)).toNat]!)).setIfInBounds ((pv : Int)).toNat (d[((aa : Int)).toNat]!))[((j : Int)).toNat]!)).setIfInBounds ((j : Int)).toNat (((d.setIfInBounds ((aa : Int)).toNat (d[((pv : Int)).toNat]!)).setIfInBounds ((pv : Int)).toNat (d[((aa : Int)).toNat]!))[((i : Int)).toNat]!)) ⟨by simp only [asz], by have := hU.le; omega, by have := hU.le; omega, by have := hD.le; omega, by have := hU.ub; omega, rfl⟩ ((A.cut [0, 1, 4, 10, 11, 12, 13] rfl).trunc 1 rfl rfl rfl (by simp only [List.length_cons, List.length_nil] at h0; omega)) fun x y dk hL {G a w} A => N hX 3 A rfl rfl fun A => LOOP1 (fun (xi : Nat) => [(0, .sl 0 nn 0), (1, .int .i64 (aa : Int)), (4, .fn 27 []), (10, .int .i64 0), (11, .ff), (12, .int .i64 (xi : Int)), (13, .int .i64 (y : Int))]) (fun (xi : Nat) => [some (.row 26 27 nn 0 (fun zz => oc (dk[zz]!)))]) (fun (xi : Nat) => UP (fun x => lessO x (dk)[aa]!) (dk) y x xi) (fun (xi : Nat) => y + 1 - xi) x ⟨Nat.le_refl _, .inr rfl, rfl⟩ ((A.cut [0, 1, 4, 10, 11, 12, 13] rfl).trunc 1 rfl rfl rfl (by simp only [List.length_cons, List.length_nil] at h0; omega)) fun xi hV {G a w} A => N hX 2 A rfl rfl fun A => DRAWN hX hmo [(13, .opt (decide ((xi : Int) ≤ (y : Int))) (.int .i64 (cmpO (dk[((xi : Int)).toNat]!) (dk[((aa : Int)).toNat]!))))] [] A rfl (ok_r <| ok_r <| ok_g (fun hg => (by have := hU.le; have := hU.ub; have := hD.le; have := hD.lb; have := hL.li; have := hL.lj; have := hL.uj; have := hL.ui; have := hV.le; have := hV.ub; have := of_decide_eq_true hg; omega)) <| ok_r <| ok_g (fun hg => (by have := hU.le; have := hU.ub; have := hD.le; have := hD.lb; have := hL.li; have := hL.lj; have := hL.uj; have := hL.ui; have := hV.le; have := hV.ub; have := of_decide_eq_true hg; omega)) <| ok_r <| ok_r <| ok_g (fun hg => (by have := hU.le; have := hU.ub; have := hD.le; have := hD.lb; have := hL.li; have := hL.lj; have := hL.uj; have := hL.ui; have := hV.le; have := hV.ub; have := of_decide_eq_true hg; omega)) <| ok_r <| ok_g (fun hg => (by have := hU.le; have := hU.ub; have := hD.le; have := hD.lb; have := hL.li; have := hL.lj; have := hL.uj; have := hL.ui; have := hV.le; have := hV.ub; have := of_decide_eq_true hg; omega)) <| ok_r <| ok_r <| okE_nil) rfl rfl (by kernel_rfl) (effAll_nil _ _) ⟨.inr ⟨_, _, _, _, _, _, rfl, rfl, rfl, rfl, rfl, fun hg => compare_ (dk[((xi : Int)).toNat]!) (dk[((aa : Int)).toNat]!)⟩, trivial⟩ fun A => N hX 1 A rfl rfl fun A => fork 120 A rfl
         (fun h4 A => N hX 10 A rfl (ok_d (by have := hU.le; have := hU.ub; have := hD.le; have := hD.lb; have := hL.li; have := hL.lj; have := hL.uj; have := hL.ui; have := hV.le; have := hV.ub; have := jlt h4; omega) <| okE_nil) fun A => ⟨xi + 1, _, (by have := jlt h4; omega), (hV.step (cmp_less _ _) h4), ((A.cut [0, 1, 4, 10, 11, 12, 13] rfl).trunc 1 rfl rfl rfl (by simp only [List.length_cons, List.length_nil] at h0; omega))⟩)
         (fun h4 A => N hX 5 A rfl rfl fun A => LOOP1 (fun (yj : Nat) => [(0, .sl 0 nn 0), (1, .int .i64 (aa : Int)), (4, .fn 27 []), (10, .int .i64 0), (11, .ff), (12, .int .i64 (xi : Int)), (13, .int .i64 (yj : Int))]) (fun (yj : Nat) => [some (.row 26 27 nn 0 (fun zz => oc (dk[zz]!)))]) (fun (yj : Nat) => DN (fun x => !lessO x (dk)[aa]!) (dk) aa xi y yj) (fun (yj : Nat) => yj) y ⟨Nat.le_refl _, hL.lj, rfl⟩ ((A.cut [0, 1, 4, 10, 11, 12, 13] rfl).trunc 1 rfl rfl rfl (by simp only [List.length_cons, List.length_nil] at h0; omega)) fun yj hE {G a w} A => N hX 2 A rfl rfl fun A => DRAWN hX hmo [(13, .opt (decide ((xi : Int) ≤ (yj : Int))) (.int .i64 (cmpO (dk[((yj : Int)).toNat]!) (dk[((aa : Int)).toNat]!))))] [] A rfl (ok_r <| ok_r <| ok_g (fun hg => (by have := hU.le; have := hU.ub; have := hD.le; have := hD.lb; have := hL.li; have := hL.lj; have := hL.uj; have := hL.ui; have := hV.le; have := hV.ub; have := hE.le; have := hE.lb; have := of_decide_eq_true hg; omega)) <| ok_r <| ok_g (fun hg => (by have := hU.le; have := hU.ub; have := hD.le; have := hD.lb; have := hL.li; have := hL.lj; have := hL.uj; have := hL.ui; have := hV.le; have := hV.ub; have := hE.le; have := hE.lb; have := of_decide_eq_true hg; omega)) <| ok_r <| ok_r <| ok_g (fun hg => (by have := hU.le; have := hU.ub; have := hD.le; have := hD.lb; have := hL.li; have := hL.lj; have := hL.uj; have := hL.ui; have := hV.le; have := hV.ub; have := hE.le; have := hE.lb; have := of_decide_eq_true hg; omega)) <| ok_r <| ok_g (fun hg => (by have := hU.le; have := hU.ub; have := hD.le; have := hD.lb; have := hL.li; have := hL.lj; have := hL.uj; have := hL.ui; have := hV.le; have := hV.ub; have := hE.le; have := hE.lb; have := of_decide_eq_true hg; omega)) <| ok_r <| ok_r <| ok_r <| okE_nil) rfl rfl (by kernel_rfl) (effAll_nil _ _) ⟨.inr ⟨_, _, _, _, _, _, rfl, rfl, rfl, rfl, rfl, fun hg => compare_ (dk[((yj : Int)).toNat]!) (dk[((aa : Int)).toNat]!)⟩, trivial⟩ fun A => N hX 1 A rfl rfl fun A => fork 139 A rfl
           (fun h5 A => N hX 10 A rfl (ok_d (by have := hU.le; have := hU.ub; have := hD.le; have := hD.lb; have := hL.li; have := hL.lj; have := hL.uj; have := hL.ui; have := hV.le; have := hV.ub; have := hE.le; have := hE.lb; have := jlt h5; omega) <| okE_nil) fun A => ⟨yj - 1, _, (by have := jlt h5; have := hE.lb; (try have := hU.le); (try have := hV.le); (try have := hL.li); omega), (hE.step (Nat.le_trans hL.li hV.le) (congrArg (fun x => !x) (cmp_less _ _)) h5), ((A.cut [0, 1, 4, 10, 11, 12, 13] rfl).trunc 1 rfl rfl rfl (by simp only [List.length_cons, List.length_nil] at h0; omega)).sayT (by rw [show ((yj - 1 : Nat) : Int) = (yj : Int) - 1 by (try have := jlt h5); (try have := hD.lb); (try have := hE.lb); (try have := hU.le); (try have := hV.le); (try have := hL.li); omega] <;> rfl)⟩)
           (fun h5 A => N hX 11 A rfl rfl fun A => forkD 144 A rfl
            (fun h6 A => N hX 4 A rfl rfl fun A => DRAWN hX hmo [] [(13, .tup [], [some (.row 26 27 nn 0 (fun zz => oc ((dk.setIfInBounds ((yj : Int)).toNat (dk[((aa : Int)).toNat]!))[zz]!)))]), (15, .tup [], [some (.row 26 27 nn 0 (fun zz => oc (((dk.setIfInBounds ((yj : Int)).toNat (dk[((aa : Int)).toNat]!)).setIfInBounds ((aa : Int)).toNat (dk[((yj : Int)).toNat]!))[zz]!)))])] A rfl (ok_d (by have := hU.le; have := hU.ub; have := hD.le; have := hD.lb; have := hL.li; have := hL.lj; have := hL.uj; have := hL.ui; have := hV.le; have := hV.ub; have := hE.le; have := hE.lb; omega) <| ok_d (by have := hU.le; have := hU.ub; have := hD.le; have := hD.lb; have := hL.li; have := hL.lj; have := hL.uj; have := hL.ui; have := hV.le; have := hV.ub; have := hE.le; have := hE.lb; omega) <| ok_d (by have := hU.le; have := hU.ub; have := hD.le; have := hD.lb; have := hL.li; have := hL.lj; have := hL.uj; have := hL.ui; have := hV.le; have := hV.ub; have := hE.le; have := hE.lb; omega) <| ok_d (by have := hU.le; have := hU.ub; have := hD.le; have := hD.lb; have := hL.li; have := hL.lj; have := hL.uj; have := hL.ui; have := hV.le; have := hV.ub; have := hE.le; have := hE.lb; omega) <| ok_d (by have := hU.le; have := hU.ub; have := hD.le; have := hD.lb; have := hL.li; have := hL.lj; have := hL.uj; have := hL.ui; have := hV.le; have := hV.ub; have := hE.le; have := hE.lb; omega) <| ok_d (by have := hU.le; have := hU.ub; have := hD.le; have := hD.lb; have := hL.li; have := hL.lj; have := hL.uj; have := hL.ui; have := hV.le; have := hV.ub; have := hE.le; have := hE.lb; omega) <| ok_d (by have := hU.le; have := hU.ub; have := hD.le; have := hD.lb; have := hL.li; have := hL.lj; have := hL.uj; have := hL.ui; have := hV.le; have := hV.ub; have := hE.le; have := hE.lb; omega) <| okE_nil) rfl rfl (by kernel_rfl) ⟨strE (i := 0) (e := 26) (s := 27) (m := nn) (c := 0) hX (((yj : Int)).toNat) (fun zz => oc ((dk.setIfInBounds ((yj : Int)).toNat (dk[((aa : Int)).toNat]!))[zz]!)) rfl rfl rfl (by have := hU.le; have := hU.ub; have := hD.le; have := hD.lb; have := hL.li; have := hL.lj; have := hL.uj; have := hL.ui; have := hV.le; have := hV.ub; have := hE.le; have := hE.lb; omega) (fun z hz => by show oc _ = oc _; rw [aset_ne hz]) (by show _ = some (oc _); rw [aset_at (by (try simp only [asz]); rw [hL.sz, hn]; have := hU.le; have := hU.ub; have := hD.le; have := hD.lb; have := hL.li; have := hL.lj; have := hL.uj; have := hL.ui; have := hV.le; have := hV.ub; have := hE.le; have := hE.lb; omega)]; rfl), ⟨strE (i := 0) (e := 26) (s := 27) (m := nn) (c := 0) hX (((aa : Int)).toNat) (fun zz => oc (((dk.setIfInBounds ((yj : Int)).toNat (dk[((aa : Int)).toNat]!)).setIfInBounds ((aa : Int)).toNat (dk[((yj : Int)).toNat]!))[zz]!)) rfl rfl rfl (by have := hU.le; have := hU.ub; have := hD.le; have := hD.lb; have := hL.li; have := hL.lj; have := hL.uj; have := hL.ui; have := hV.le; have := hV.ub; have := hE.le; have := hE.lb; omega) (fun z hz => by show oc _ = oc _; rw [aset_ne hz]) (by show _ = some (oc _); rw [aset_at (by (try simp only [asz]); rw [hL.sz, hn]; have := hU.le; have := hU.ub; have := hD.le; have := hD.lb; have := hL.li; have := hL.lj; have := hL.uj; have := hL.ui; have := hV.le; have := hV.ub; have := hE.le; have := hE.lb; omega)]; rfl), trivial⟩⟩ trivial fun A => N hX 9 A rfl rfl fun A => RETN hX A rfl rfl rfl h0 rfl rfl rfl rfl (by have e : Go.Sort.partition lessO d aa b pv = _ := part2 (swp_is rfl rfl) (hU.stop (cmp_less _ _) h1) (hD.stop hU.le (congrArg (fun x => !x) (cmp_less _ _)) h2) h3 (swp_is rfl rfl) (hL.stop (hV.stop (cmp_less _ _) h4) (hE.stop (Nat.le_trans hL.li hV.le) (congrArg (fun x => !x) (cmp_less _ _)) h5) h6) (swp_is (x := (yj : Int)) (y := (aa : Int)) rfl rfl); rw [e]; rfl) (by have e : Go.Sort.partition lessO d aa b pv = _ := part2 (swp_is rfl rfl) (hU.stop (cmp_less _ _) h1) (hD.stop hU.le (congrArg (fun x => !x) (cmp_less _ _)) h2) h3 (swp_is rfl rfl) (hL.stop (hV.stop (cmp_less _ _) h4) (hE.stop (Nat.le_trans hL.li hV.le) (congrArg (fun x => !x) (cmp_less _ _)) h5) h6) (swp_is (x := (yj : Int)) (y := (aa : Int)) rfl rfl); rw [e]; rfl))
            (fun h6 A => N hX 4 A rfl rfl fun A => DRAWN hX hmo [] [(13, .tup [], [some (.row 26 27 nn 0 (fun zz => oc ((dk.setIfInBounds ((xi : Int)).toNat (dk[((yj : Int)).toNat]!))[zz]!)))]), (15, .tup [], [some (.row 26 27 nn 0 (fun zz => oc (((dk.setIfInBounds ((xi : Int)).toNat (dk[((yj : Int)).toNat]!)).setIfInBounds ((yj : Int)).toNat (dk[((xi : Int)).toNat]!))[zz]!)))])] A rfl (ok_d (by have := hU.le; have := hU.ub; have := hD.le; have := hD.lb; have := hL.li; have := hL.lj; have := hL.uj; have := hL.ui; have := hV.le; have := hV.ub; have := hE.le; have := hE.lb; omega) <| ok_d (by have := hU.le; have := hU.ub; have := hD.le; have := hD.lb; have := hL.li; have := hL.lj; have := hL.uj; have := hL.ui; have := hV.le; have := hV.ub; have := hE.le; have := hE.lb; omega) <| ok_d (by have := hU.le; have := hU.ub; have := hD.le; have := hD.lb; have := hL.li; have := hL.lj; have := hL.uj; have := hL.ui; have := hV.le; have := hV.ub; have := hE.le; have := hE.lb; omega) <| ok_d (by have := hU.le; have := hU.ub; have := hD.le; have := hD.lb; have := hL.li; have := hL.lj; have := hL.uj; have := hL.ui; have := hV.le; have := hV.ub; have := hE.le; have := hE.lb; omega) <| ok_d (by have := hU.le; have := hU.ub; have := hD.le; have := hD.lb; have := hL.li; have := hL.lj; have := hL.uj; have := hL.ui; have := hV.le; have := hV.ub; have := hE.le; have := hE.lb; omega) <| ok_d (by have := hU.le; have := hU.ub; have := hD.le; have := hD.lb; have := hL.li; have := hL.lj; have := hL.uj; have := hL.ui; have := hV.le; have := hV.ub; have := hE.le; have := hE.lb; omega) <| ok_d (by have := hU.le; have := hU.ub; have := hD.le; have := hD.lb; have := hL.li; have := hL.lj; have := hL.uj; have := hL.ui; have := hV.le; have := hV.ub; have := hE.le; have := hE.lb; omega) <| okE_nil) rfl rfl (by kernel_rfl) ⟨strE (i := 0) (e := 26) (s := 27) (m := nn) (c := 0) hX (((xi : Int)).toNat) (fun zz => oc ((dk.setIfInBounds ((xi : Int)).toNat (dk[((yj : Int)).toNat]!))[zz]!)) rfl rfl rfl (by have := hU.le; have := hU.ub; have := hD.le; have := hD.lb; have := hL.li; have := hL.lj; have := hL.uj; have := hL.ui; have := hV.le; have := hV.ub; have := hE.le; have := hE.lb; omega) (fun z hz => by show oc _ = oc _; rw [aset_ne hz]) (by show _ = some (oc _); rw [aset_at (by (try simp only [asz]); rw [hL.sz, hn]; have := hU.le; have := hU.ub; have := hD.le; have := hD.lb; have := hL.li; have := hL.lj; have := hL.uj; have := hL.ui; have := hV.le; have := hV.ub; have := hE.le; have := hE.lb; omega)]; rfl), ⟨strE (i := 0) (e := 26) (s := 27) (m := nn) (c := 0) hX (((yj : Int)).toNat) (fun zz => oc (((dk.setIfInBounds ((xi : Int)).toNat (dk[((yj : Int)).toNat]!)).setIfInBounds ((yj : Int)).toNat (dk[((xi : Int)).toNat]!))[zz]!)) rfl rfl rfl (by have := hU.le; have := hU.ub; have := hD.le; have := hD.lb; have := hL.li; have := hL.lj; have := hL.uj; have := hL.ui; have := hV.le; have := hV.ub; have := hE.le; have := hE.lb; omega) (fun z hz => by show oc _ = oc _; rw [aset_ne hz]) (by show _ = some (oc _); rw [aset_at (by (try simp only [asz]); rw [hL.sz, hn]; have := hU.le; have := hU.ub; have := hD.le; have := hD.lb; have := hL.li; have := hL.lj; have := hL.uj; have := hL.ui; have := hV.le; have := hV.ub; have := hE.le; have := hE.lb; omega)]; rfl), trivial⟩⟩ trivial fun A => N hX 8 A rfl (ok_d (by have := hU.le; have := hU.ub; have := hD.le; have := hD.lb; have := hL.li; have := hL.lj; have := hL.uj; have := hL.ui; have := hV.le; have := hV.ub; have := hE.le; have := hE.lb; omega) <| okE_nil) fun A => N hX 6 A rfl (ok_d (by have := hU.le; have := hU.ub; have := hD.le; have := hD.lb; have := hL.li; have := hL.lj; have := hL.uj; have := hL.ui; have := hV.le; have := hV.ub; have := hE.le; have := hE.lb; omega) <| okE_nil) fun A => ⟨xi + 1, yj - 1, (dk.setIfInBounds ((xi : Int)).toNat (dk[((yj : Int)).toNat]!)).setIfInBounds ((yj : Int)).toNat (dk[((xi : Int)).toNat]!), _, (by have := hU.le; have := hU.ub; have := hD.le; have := hD.lb; have := hL.li; have := hL.lj; have := hL.uj; have := hL.ui; have := hV.le; have := hV.ub; have := hE.le; have := hE.lb; omega), (hL.step (hV.stop (cmp_less _ _) h4) (hE.stop (Nat.le_trans hL.li hV.le) (congrArg (fun x => !x) (cmp_less _ _)) h5) h6 hV.le hE.le (swp_is rfl rfl)), ((A.cut [0, 1, 4, 10, 11, 12, 13] rfl).trunc 1 rfl rfl rfl (by simp only [List.length_cons, List.length_nil] at h0; omega)).sayT (by rw [show ((yj - 1 : Nat) : Int) = (yj : Int) - 1 by have := hE.lb; have := hL.li; have := hV.le; omega] <;> rfl)⟩))))))
theorem part_i {xaa xb xpv : Int} (d : Array O) (nn aa b pv : Nat) (eaa : xaa = (aa : Int)) (eb : xb = (b : Int)) (epv : xpv = (pv : Int)) (hn : d.size = nn) (hs : nn ≤ 1000000) (ha : aa ≤ pv) (hp : pv < b) (hb : b ≤ nn) : Fn Tryd.prog 55 [.sl 0 nn 0, .int .i64 xaa, .int .i64 xb, .int .i64 xpv, .fn 27 []] [some (.row 26 27 nn 0 (fun zz => oc (d[zz]!)))] (Rt (.tup [.int .i64 (((Go.Sort.partition lessO d aa b pv).1 : Nat) : Int), .bool ((Go.Sort.partition lessO d aa b pv).2.1)]) [some (.row 26 27 nn 0 (fun zz => oc (((Go.Sort.partition lessO d aa b pv).2.2)[zz]!)))]) := by
  subst eaa; subst eb; subst epv; exact part_ d nn aa b pv hn hs ha hp hb
theorem parte_ (d : Array O) (nn aa b pv : Nat) (hn : d.size = nn) (hs : nn ≤ 1000000) (ha : aa ≤ pv) (hp : pv < b) (hb : b ≤ nn) : Fn Tryd.prog 54 [.sl 0 nn 0, .int .i64 (aa : Int), .int .i64 (b : Int), .int .i64 (pv : Int), .fn 27 []] [some (.row 26 27 nn 0 (fun zz => oc (d[zz]!)))] (Rt (.int .i64 (((Go.Sort.partitionEqual lessO d aa b pv).1 : Nat) : Int)) [some (.row 26 27 nn 0 (fun zz => oc (((Go.Sort.partitionEqual lessO d aa b pv).2)[zz]!)))]) :=
 enterM (n := 90) (by kernel_rfl) Tryd.func54 rfl rfl rfl fun G w a h0 A => N hX 6 A rfl rfl fun A => DRAWN hX hmo [] [(13, .tup [], [some (.row 26 27 nn 0 (fun zz => oc ((d.setIfInBounds ((aa : Int)).toNat (d[((pv : Int)).toNat]!))[zz]!)))]), (15, .tup [], [some (.row 26 27 nn 0 (fun zz => oc (((d.setIfInBounds ((aa : Int)).toNat (d[((pv : Int)).toNat]!)).setIfInBounds ((pv : Int)).toNat (d[((aa : Int)).toNat]!))[zz]!)))])] A rfl (ok_d (by omega) <| ok_d (by omega) <| ok_d (by omega) <| ok_d (by omega) <| ok_d (by omega) <| ok_d (by omega) <| ok_d (by omega) <| okE_nil) rfl rfl (by kernel_rfl) ⟨strE (i := 0) (e := 26) (s := 27) (m := nn) (c := 0) hX (((aa : Int)).toNat) (fun zz => oc ((d.setIfInBounds ((aa : Int)).toNat (d[((pv : Int)).toNat]!))[zz]!)) rfl rfl rfl (by omega) (fun z hz => by show oc _ = oc _; rw [aset_ne hz]) (by show _ = some (oc _); rw [aset_at (by (try simp only [asz]); rw [hn]; omega)]; rfl), ⟨strE (i := 0) (e := 26) (s := 27) (m := nn) (c := 0) hX (((pv : Int)).toNat) (fun zz => oc (((d.setIfInBounds ((aa : Int)).toNat (d[((pv : Int)).toNat]!)).setIfInBounds ((pv : Int)).toNat (d[((aa : Int)).toNat]!))[zz]!)) rfl rfl rfl (by omega) (fun z hz => by show oc _ = oc _; rw [aset_ne hz]) (by show _ = some (oc _); rw [aset_at (by (try simp only [asz]); rw [hn]; omega)]; rfl), trivial⟩⟩ trivial fun A => N hX 13 A rfl (ok_d (by omega) <| ok_d (by omega) <| okE_nil) fun A => have A := A.say 12 (.int .i64 (((b - 1 : Nat)) : Int)) rfl (by congr 1; omega); LOOP3 (fun (x : Nat) (y : Nat) (dk : Array O) => [(0, .sl 0 nn 0), (1, .int .i64 (aa : Int)), (4, .fn 27 []), (10, .int .i64 0), (11, .int .i64 (x : Int)), (12, .int .i64 (y : Int))]) (fun (x : Nat) (y : Nat) (dk : Array O) => [some (.row 26 27 nn 0 (fun zz => oc (dk[zz]!)))]) (fun (x : Nat) (y : Nat) (dk : Array O) => PL (fun i j D => Go.Sort.partEqLoop lessO aa i j D) d aa b (aa + 1) (b - 1) ((d.setIfInBounds ((aa : Int)).toNat (d[((pv : Int)).toNat]!)).setIfInBounds ((pv : Int)).toNat (d[((aa : Int)).toNat]!)) x y dk) (fun (x : Nat) (y : Nat) (dk : Array O) => y + 1 - x) (aa + 1) (b - 1) ((d.setIfInBounds ((aa : Int)).toNat (d[((pv : Int)).toNat]!)).setIfInBounds ((pv : Int)).toNat (d[((aa : Int)).toNat]!)) ⟨by simp only [asz], by omega, by omega, by omega, by omega, rfl⟩ ((A.cut [0, 1, 4, 10, 11, 12] rfl).trunc 1 rfl rfl rfl (by simp only [List.length_cons, List.length_nil] at h0; omega)) fun x y dk hL {G a w} A => N hX 3 A rfl rfl fun A => LOOP1 (fun (xi : Nat) => [(0, .sl 0 nn 0), (1, .int .i64 (aa : Int)), (4, .fn 27 []), (10, .int .i64 0), (11, .int .i64 (xi : Int)), (12, .int .i64 (y : Int))]) (fun (xi : Nat) => [some (.row 26 27 nn 0 (fun zz => oc (dk[zz]!)))]) (fun (xi : Nat) => UP (fun x => !lessO (dk)[aa]! x) (dk) y x xi) (fun (xi : Nat) => y + 1 - xi) x ⟨Nat.le_refl _, .inr rfl, rfl⟩ ((A.cut [0, 1, 4, 10, 11, 12] rfl).trunc 1 rfl rfl rfl (by simp only [List.length_cons, List.length_nil] at h0; omega)) fun xi hV {G a w} A => N hX 2 A rfl rfl fun A => DRAWN hX hmo [(13, .opt (decide ((xi : Int) ≤ (y : Int))) (.int .i64 (cmpO (dk[((aa : Int)).toNat]!) (dk[((xi : Int)).toNat]!))))] [] A rfl (ok_r <| ok_r <| ok_g (fun hg => (by have := hL.li; have := hL.lj; have := hL.uj; have := hL.ui; have := hV.le; have := hV.ub; have := of_decide_eq_true hg; omega)) <| ok_r <| ok_g (fun hg => (by have := hL.li; have := hL.lj; have := hL.uj; have := hL.ui; have := hV.le; have := hV.ub; have := of_decide_eq_true hg; omega)) <| ok_r <| ok_r <| ok_g (fun hg => (by have := hL.li; have := hL.lj; have := hL.uj; have := hL.ui; have := hV.le; have := hV.ub; have := of_decide_eq_true hg; omega)) <| ok_r <| ok_g (fun hg => (by have := hL.li; have := hL.lj; have := hL.uj; have := hL.ui; have := hV.le; have := hV.ub; have := of_decide_eq_true hg; omega)) <| ok_r <| ok_r <| ok_r <| okE_nil) rfl rfl (by kernel_rfl) (effAll_nil _ _) ⟨.inr ⟨_, _, _, _, _, _, rfl, rfl, rfl, rfl, rfl, fun hg => compare_ (dk[((aa : Int)).toNat]!) (dk[((xi : Int)).toNat]!)⟩, trivial⟩ fun A => N hX 1 A rfl rfl fun A => fork 47 A rfl
    (fun h1 A => N hX 10 A rfl (ok_d (by have := hL.li; have := hL.lj; have := hL.uj; have := hL.ui; have := hV.le; have := hV.ub; have := jlt h1; omega) <| okE_nil) fun A => ⟨xi + 1, _, (by have := jlt h1; omega), (hV.step (congrArg (fun x => !x) (cmp_less _ _)) h1), ((A.cut [0, 1, 4, 10, 11, 12] rfl).trunc 1 rfl rfl rfl (by simp only [List.length_cons, List.length_nil] at h0; omega))⟩)
    (fun h1 A => N hX 5 A rfl rfl fun A => LOOP1 (fun (yj : Nat) => [(0, .sl 0 nn 0), (1, .int .i64 (aa : Int)), (4, .fn 27 []), (10, .int .i64 0), (11, .int .i64 (xi : Int)), (12, .int .i64 (yj : Int))]) (fun (yj : Nat) => [some (.row 26 27 nn 0 (fun zz => oc (dk[zz]!)))]) (fun (yj : Nat) => DN (fun x => lessO (dk)[aa]! x) (dk) aa xi y yj) (fun (yj : Nat) => yj) y ⟨Nat.le_refl _, hL.lj, rfl⟩ ((A.cut [0, 1, 4, 10, 11, 12] rfl).trunc 1 rfl rfl rfl (by simp only [List.length_cons, List.length_nil] at h0; omega)) fun yj hE {G a w} A => N hX 2 A rfl rfl fun A => DRAWN hX hmo [(13, .opt (decide ((xi : Int) ≤ (yj : Int))) (.int .i64 (cmpO (dk[((aa : Int)).toNat]!) (dk[((yj : Int)).toNat]!))))] [] A rfl (ok_r <| ok_r <| ok_g (fun hg => (by have := hL.li; have := hL.lj; have := hL.uj; have := hL.ui; have := hV.le; have := hV.ub; have := hE.le; have := hE.lb; have := of_decide_eq_true hg; omega)) <| ok_r <| ok_g (fun hg => (by have := hL.li; have := hL.lj; have := hL.uj; have := hL.ui; have := hV.le; have := hV.ub; have := hE.le; have := hE.lb; have := of_decide_eq_true hg; omega)) <| ok_r <| ok_r <| ok_g (fun hg => (by have := hL.li; have := hL.lj; have := hL.uj; have := hL.ui; have := hV.le; have := hV.ub; have := hE.le; have := hE.lb; have := of_decide_eq_true hg; omega)) <| ok_r <| ok_g (fun hg => (by have := hL.li; have := hL.lj; have := hL.uj; have := hL.ui; have := hV.le; have := hV.ub; have := hE.le; have := hE.lb; have := of_decide_eq_true hg; omega)) <| ok_r <| ok_r <| okE_nil) rfl rfl (by kernel_rfl) (effAll_nil _ _) ⟨.inr ⟨_, _, _, _, _, _, rfl, rfl, rfl, rfl, rfl, fun hg => compare_ (dk[((aa : Int)).toNat]!) (dk[((yj : Int)).toNat]!)⟩, trivial⟩ fun A => N hX 1 A rfl rfl fun A => fork 65 A rfl
      (fun h2 A => N hX 10 A rfl (ok_d (by have := hL.li; have := hL.lj; have := hL.uj; have := hL.ui; have := hV.le; have := hV.ub; have := hE.le; have := hE.lb; have := jlt h2; omega) <| okE_nil) fun A => ⟨yj - 1, _, (by have := jlt h2; have := hE.lb; (try have := hU.le); (try have := hV.le); (try have := hL.li); omega), (hE.step (Nat.le_trans hL.li hV.le) (cmp_less _ _) h2), ((A.cut [0, 1, 4, 10, 11, 12] rfl).trunc 1 rfl rfl rfl (by simp only [List.length_cons, List.length_nil] at h0; omega)).sayT (by rw [show ((yj - 1 : Nat) : Int) = (yj : Int) - 1 by (try have := jlt h2); (try have := hD.lb); (try have := hE.lb); (try have := hU.le); (try have := hV.le); (try have := hL.li); omega] <;> rfl)⟩)
      (fun h2 A => N hX 11 A rfl rfl fun A => forkD 70 A rfl
       (fun h3 A => N hX 10 A rfl rfl fun A => RETN hX A rfl rfl rfl h0 rfl rfl rfl rfl (by have e : Go.Sort.partitionEqual lessO d aa b pv = _ := parte1 (swp_is rfl rfl) (hL.stopE (hV.stop (congrArg (fun x => !x) (cmp_less _ _)) h1) (hE.stop (Nat.le_trans hL.li hV.le) (cmp_less _ _) h2) h3); rw [e]; rfl) (by have e : Go.Sort.partitionEqual lessO d aa b pv = _ := parte1 (swp_is rfl rfl) (hL.stopE (hV.stop (congrArg (fun x => !x) (cmp_less _ _)) h1) (hE.stop (Nat.le_trans hL.li hV.le) (cmp_less _ _) h2) h3); rw [e]; rfl))
       (fun h3 A => N hX 4 A rfl rfl fun A => DRAWN hX hmo [] [(13, .tup [], [some (.row 26 27 nn 0 (fun zz => oc ((dk.setIfInBounds ((xi : Int)).toNat (dk[((yj : Int)).toNat]!))[zz]!)))]), (15, .tup [], [some (.row 26 27 nn 0 (fun zz => oc (((dk.setIfInBounds ((xi : Int)).toNat (dk[((yj : Int)).toNat]!)).setIfInBounds ((yj : Int)).toNat (dk[((xi : Int)).toNat]!))[zz]!)))])] A rfl (ok_d (by have := hL.li; have := hL.lj; have := hL.uj; have := hL.ui; have := hV.le; have := hV.ub; have := hE.le; have := hE.lb; omega) <| ok_d (by have := hL.li; have := hL.lj; have := hL.uj; have := hL.ui; have := hV.le; have := hV.ub; have := hE.le; have := hE.lb; omega) <| ok_d (by have := hL.li; have := hL.lj; have := hL.uj; have := hL.ui; have := hV.le; have := hV.ub; have := hE.le; have := hE.lb; omega) <| ok_d (by have := hL.li; have := hL.lj; have := hL.uj; have := hL.ui; have := hV.le; have := hV.ub; have := hE.le; have := hE.lb; omega) <| ok_d (by have := hL.li; have := hL.lj; have := hL.uj; have := hL.ui; have := hV.le; have := hV.ub; have := hE.le; have := hE.lb; omega) <| ok_d (by have := hL.li; have := hL.lj; have := hL.uj; have := hL.ui; have := hV.le; have := hV.ub; have := hE.le; have := hE.lb; omega) <| ok_d (by have := hL.li; have := hL.lj; have := hL.uj; have := hL.ui; have := hV.le; have := hV.ub; have := hE.le; have := hE.lb; omega) <| okE_nil) rfl rfl (by kernel_rfl) ⟨strE (i := 0) (e := 26) (s := 27) (m := nn) (c := 0) hX (((xi : Int)).toNat) (fun zz => oc ((dk.setIfInBounds ((xi : Int)).toNat (dk[((yj : Int)).toNat]!))[zz]!)) rfl rfl rfl (by have := hL.li; have := hL.lj; have := hL.uj; have := hL.ui; have := hV.le; have := hV.ub; have := hE.le; have := hE.lb; omega) (fun z hz => by show oc _ = oc _; rw [aset_ne hz]) (by show _ = some (oc _); rw [aset_at (by (try simp only [asz]); rw [hL.sz, hn]; have := hL.li; have := hL.lj; have := hL.uj; have := hL.ui; have := hV.le; have := hV.ub; have := hE.le; have := hE.lb; omega)]; rfl), ⟨strE (i := 0) (e := 26) (s := 27) (m := nn) (c := 0) hX (((yj : Int)).toNat) (fun zz => oc (((dk.setIfInBounds ((xi : Int)).toNat (dk[((yj : Int)).toNat]!)).setIfInBounds ((yj : Int)).toNat (dk[((xi : Int)).toNat]!))[zz]!)) rfl rfl rfl (by have := hL.li; have := hL.lj; have := hL.uj; have := hL.ui; have := hV.le; have := hV.ub; have := hE.le; have := hE.lb; omega) (fun z hz => by show oc _ = oc _; rw [aset_ne hz]) (by show _ = some (oc _); rw [aset_at (by (try simp only [asz]); rw [hL.sz, hn]; have := hL.li; have := hL.lj; have := hL.uj; have := hL.ui; have := hV.le; have := hV.ub; have := hE.le; have := hE.lb; omega)]; rfl), trivial⟩⟩ trivial fun A => N hX 8 A rfl (ok_d (by have := hL.li; have := hL.lj; have := hL.uj; have := hL.ui; have := hV.le; have := hV.ub; have := hE.le; have := hE.lb; omega) <| okE_nil) fun A => N hX 6 A rfl (ok_d (by have := hL.li; have := hL.lj; have := hL.uj; have := hL.ui; have := hV.le; have := hV.ub; have := hE.le; have := hE.lb; omega) <| okE_nil) fun A => ⟨xi + 1, yj - 1, (dk.setIfInBounds ((xi : Int)).toNat (dk[((yj : Int)).toNat]!)).setIfInBounds ((yj : Int)).toNat (dk[((xi : Int)).toNat]!), _, (by have := hL.li; have := hL.lj; have := hL.uj; have := hL.ui; have := hV.le; have := hV.ub; have := hE.le; have := hE.lb; omega), (hL.stepE (hV.stop (congrArg (fun x => !x) (cmp_less _ _)) h1) (hE.stop (Nat.le_trans hL.li hV.le) (cmp_less _ _) h2) h3 hV.le hE.le (swp_is rfl rfl)), ((A.cut [0, 1, 4, 10, 11, 12] rfl).trunc 1 rfl rfl rfl (by simp only [List.length_cons, List.length_nil] at h0; omega)).sayT (by rw [show ((yj - 1 : Nat) : Int) = (yj : Int) - 1 by have := hE.lb; have := hL.li; have := hV.le; omega] <;> rfl)⟩)))
theorem parte_i {xaa xb xpv : Int} (d : Array O) (nn aa b pv : Nat) (eaa : xaa = (aa : Int)) (eb : xb = (b : Int)) (epv : xpv = (pv : Int)) (hn : d.size = nn) (hs : nn ≤ 1000000) (ha : aa ≤ pv) (hp : pv < b) (hb : b ≤ nn) : Fn Tryd.prog 54 [.sl 0 nn 0, .int .i64 xaa, .int .i64 xb, .int .i64 xpv, .fn 27 []] [some (.row 26 27 nn 0 (fun zz => oc (d[zz]!)))] (Rt (.int .i64 (((Go.Sort.partitionEqual lessO d aa b pv).1 : Nat) : Int)) [some (.row 26 27 nn 0 (fun zz => oc (((Go.Sort.partitionEqual lessO d aa b pv).2)[zz]!)))]) := by
  subst eaa; subst eb; subst epv; exact parte_ d nn aa b pv hn hs ha hp hb
end Go.Proofs.YtfdfjakafiglmaaDoor
