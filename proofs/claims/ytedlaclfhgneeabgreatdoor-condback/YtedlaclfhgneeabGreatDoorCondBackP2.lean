/- CondBack, part 2: the engine, contracts, theory. -/
import Derived.Test.YtedlaclfhgneeabGreatDoorCondBackP1
import Derived.Test.YtedlaclfhgneeabGreatDoorProg
import Derived.Lib.SliceRun
import Derived.Test.YtedlaclfhgneeabGreatDoorChecked
import Derived.Shelf.Small.Strs
import Derived.Shelf.Strings.Search3
import Derived.Lib.IndexMore
import Derived.Lib.ConvBytes
import Derived.WideLaws
import Derived.Laws.AppendOwn
import Derived.Shelf.Pu.ParseUintPublic10
import Derived.Ground.MpProg
import Derived.Laws.OwnMore
namespace Go.Proofs.YtedlaclfhgneeabGreatDoor
open Go.RowKit
set_option linter.unusedVariables false
set_option linter.unusedSimpArgs false
set_option linter.unusedSectionVars false
structure Ms (H : Hp) (ks : List Nat) (G0 : Gr) (w0 : World) (G : Gr) (w : World) : Prop where
  mem : Mem H G w
  pre : ∃ F, G = G0 ++ F
  own : ∀ (i : Nat) (e : Ent) (L : Loc), H[i]? = some (some e) → e.mut = true → G[i]? = some (some L) → ks.contains L.b = true ∨ w0.heap.size ≤ L.b
  mix : Mix ks w0 w
section
variable {n : Nat} {T : List (Nat × SV)} {H : Hp} {ks : List Nat} {G0 : Gr} {w0 : World} {G : Gr} {a : Act} {w w' : World}
theorem Sy.ms (A : Sy n T H ks G0 w0 G a w) : Ms H ks G0 w0 G w := ⟨A.mem, A.pre, A.own, A.mix⟩
theorem Ms.sy (h : Ms H ks G0 w0 G w) (h1 : a.tmps.size = n) (h2 : a.defers = []) (h3 : ∀ t x, look T t = some x → den G x = some (a.tmps.getD t undef)) : Sy n T H ks G0 w0 G a w := ⟨h1, h2, h3, h.mem, h.pre, h.own, h.mix⟩
theorem Ms.grow (h : Ms H ks G0 w0 G w) (hg : Grow w w') : Ms H ks G0 w0 G w' :=
  ⟨⟨h.mem.len, fun i e hi => (h.mem.ent i e hi).mix hg.mix (fun _ _ _ => rfl), h.mem.sep⟩, h.pre, h.own, h.mix.grow hg⟩
end
def ltB (o : Oper) (j : Nat) : Nat → Bool
  | 0 => true
  | i + 1 => (Nat.beq i j || waits o i) && ltB o j i
theorem lt_spec {o : Oper} {j : Nat} : ∀ {c : Nat}, ltB o j c = true → ∀ i, i < c → i ≠ j → waits o i = true
  | 0, _, _, h, _ => by omega
  | c + 1, hb, i, h, hne => by
    simp only [ltB, Bool.and_eq_true, Bool.or_eq_true] at hb
    by_cases hi : i = c
    · subst hi
      rcases hb.1 with h1 | h1
      · exact absurd (Nat.eq_of_beq_eq_true h1) hne
      · exact h1
    · exact lt_spec hb.2 i (by omega) hne
def keepB (t c : Nat) : List Oper → Nat → Bool
  | [], _ => true
  | o :: l, j => (match o.dst with | some d => !Nat.beq d t || ltB o j c | none => true) && keepB t c l (j + 1)
theorem keepB_spec {t c : Nat} : ∀ {l : List Oper} {j : Nat}, keepB t c l j = true → ∀ (i : Nat) (o : Oper), l[i]? = some o → o.dst = some t → ltB o (j + i) c = true
  | [], _, _, _, _, h, _ => by cases h
  | p :: l, j, hb, i, o, h, hd => by
    simp only [keepB, Bool.and_eq_true] at hb
    cases i with
    | zero =>
      cases h
      have := hb.1
      rw [hd] at this
      simpa using this
    | succ i => rw [show j + (i + 1) = j + 1 + i by omega]; exact keepB_spec hb.2 i o h hd
def keepT (l : List Oper) : List (Nat × SV) → List (Nat × SV)
  | [] => []
  | (t, x) :: T => bif keepB t l.length l 0 then (t, x) :: keepT l T else keepT l T
theorem keep_look {l : List Oper} : ∀ {T : List (Nat × SV)} {t : Nat} {x : SV}, look (keepT l T) t = some x → look T t = some x ∧ keepB t l.length l 0 = true
  | [], _, _, h => by cases h
  | (k, y) :: T, t, x, h => by
    unfold keepT at h
    cases hb : keepB k l.length l 0 with
    | false =>
      rw [hb] at h
      obtain ⟨h1, h2⟩ := keep_look h
      refine ⟨?_, h2⟩
      unfold look
      cases hk : Nat.beq k t with
      | false => exact h1
      | true =>
        exfalso
        have := Nat.eq_of_beq_eq_true hk
        subst this
        rw [hb] at h2; cases h2
    | true =>
      rw [hb] at h
      simp only [cond_true] at h
      unfold look at h ⊢
      cases hk : Nat.beq k t with
      | true =>
        rw [hk] at h
        have := Nat.eq_of_beq_eq_true hk
        subst this
        exact ⟨h, hb⟩
      | false => rw [hk] at h; exact keep_look h
def twL (o : Oper) : List Oper → List SV → Nat → List (Nat × SV) → List (Nat × SV)
  | p :: l, x :: xs, k, T => bif waits o k then extS (twL o l xs (k + 1) T) p.dst x else twL o l xs (k + 1) T
  | _, _, _, T => T
theorem tw_look {o : Oper} {T : List (Nat × SV)} {t : Nat} {x : SV} : ∀ {l : List Oper} {xs : List SV} {k : Nat}, look (twL o l xs k T) t = some x → (∃ i p, l[i]? = some p ∧ xs[i]? = some x ∧ waits o (k + i) = true ∧ p.dst = some t) ∨ look T t = some x
  | [], _, _, h => .inr h
  | _ :: _, [], _, h => .inr h
  | p :: l, y :: xs, k, h => by
    have rest : look (twL o l xs (k + 1) T) t = some x → (∃ i q, (p :: l)[i]? = some q ∧ (y :: xs)[i]? = some x ∧ waits o (k + i) = true ∧ q.dst = some t) ∨ look T t = some x := fun h => by
      rcases tw_look h with ⟨i, q, h1, h2, h3, h4⟩ | h
      · exact .inl ⟨i + 1, q, by simpa using h1, by simpa using h2, by rw [show k + (i + 1) = k + 1 + i by omega]; exact h3, h4⟩
      · exact .inr h
    unfold twL at h
    cases hb : waits o k with
    | false => rw [hb] at h; exact rest h
    | true =>
      rw [hb] at h
      simp only [cond_true] at h
      cases hd : p.dst with
      | none => rw [hd] at h; exact rest h
      | some d =>
        rw [hd] at h
        simp only [extS, look] at h
        cases hk : Nat.beq d t with
        | false => rw [hk] at h; exact rest h
        | true =>
          rw [hk] at h
          cases h
          have := Nat.eq_of_beq_eq_true hk
          subst this
          exact .inl ⟨0, p, rfl, rfl, by simpa using hb, hd⟩
def pass1 (X : Tx) (n : Nat) (ops : Array Oper) (pc : List (Nat × SV)) (cl : List (Nat × SV × Hp)) : List Oper → Nat → List (Nat × SV) → Hp → Option (List SV × List (Nat × Hp))
  | [], _, _, _ => some ([], [])
  | o :: l, j, T, H => match cl.lookup j with
    | some (x, H') => match pass1 X n ops pc cl l (j + 1) (extS T o.dst x) H' with
      | some (xs, hs) => some (x :: xs, (j, H') :: hs)
      | none => none
    | none => match look pc j with
     | some x => match pass1 X n ops pc cl l (j + 1) (extS T o.dst x) H with
      | some (xs, hs) => some (x :: xs, hs)
      | none => none
     | none => match stepS X n ops T H o with
      | some (.val x _) => match pass1 X n ops pc cl l (j + 1) (extS T o.dst x) H with
        | some (xs, hs) => some (x :: xs, hs)
        | none => none
      | some (.new t en x) => nfH (H ++ [some en]) fun H' => match pass1 X n ops pc cl l (j + 1) (extS T o.dst x) H' with
        | some (xs, hs) => some (x :: xs, (j, H') :: hs)
        | none => none
      | some (.upd i cs _) => nfH (stH H i (some (.blk cs))) fun H' => match pass1 X n ops pc cl l (j + 1) T H' with
        | some (xs, hs) => some (.tup [] :: xs, (j, H') :: hs)
        | none => none
      | none => none
def wvia (ops : Array Oper) (p : Nat) : Nat → List Edge → Bool
  | 0, _ => false
  | f + 1, l => l.any fun e => Region.binds .any e && (match ops[e.on]? with | some q => waits q p || wvia ops p f q.after.toList | none => false)
theorem via_listed {ops : Array Oper} {listed : Array Bool} {p : Nat} (hcl : ∀ (j : Nat) (o : Oper) (p : Nat), ops[j]? = some o → listed.getD j false = true → waits o p = true → listed.getD p false = true) : ∀ (f : Nat) (l : List Edge), (∀ e ∈ l, Region.binds .any e = true → listed.getD e.on false = true) → wvia ops p f l = true → listed.getD p false = true
  | 0, _, _, h => by cases h
  | f + 1, l, hl, h => by
    unfold wvia at h
    rw [List.any_eq_true] at h
    obtain ⟨e, he, hb⟩ := h
    rw [Bool.and_eq_true] at hb
    have h1 := hl e he hb.1
    split at hb
    · next q hq =>
      have h2 := hb.2
      rw [Bool.or_eq_true] at h2
      rcases h2 with h2 | h2
      · exact hcl _ q p hq h1 h2
      · refine via_listed hcl f _ (fun e' he' hb' => ?_) h2
        refine hcl _ q e'.on hq h1 ?_
        unfold waits
        rw [List.any_eq_true]
        exact ⟨e', he', by simp [hb']⟩
    · exact absurd hb.2 (by simp)
def wt (ops : Array Oper) (o : Oper) (p : Nat) : Bool := bif waits o p then true else wvia ops p 2 o.after.toList
def mayB (ops : Array Oper) (o : Oper) (j k : Nat) : List (Nat × Hp) → Nat → Bool
  | [], _ => true
  | (p, _) :: es, m => (!wt ops o p || Nat.blt m k) && (match ops[p]? with | some q => !waits q j || Nat.ble k m | none => true) && mayB ops o j k es (m + 1)
theorem may_spec {ops : Array Oper} {o : Oper} {j k : Nat} : ∀ {es : List (Nat × Hp)} {m : Nat}, (∀ i p H', es[i]? = some (p, H') → (wt ops o p = true → m + i < k) ∧ (∀ q, ops[p]? = some q → waits q j = true → k ≤ m + i)) → mayB ops o j k es m = true
  | [], _, _ => rfl
  | (p, H') :: es, m, h => by
    obtain ⟨h1, h2⟩ := h 0 p H' rfl
    unfold mayB
    simp only [Bool.and_eq_true, Bool.or_eq_true, Bool.not_eq_true']
    refine ⟨⟨?_, ?_⟩, may_spec fun i q H2 hi => ?_⟩
    · cases hw : wt ops o p with
      | false => exact .inl rfl
      | true => exact .inr (by have := h1 hw; simp [Nat.blt_eq]; omega)
    · split
      · next q hq =>
        simp only [Bool.or_eq_true, Bool.not_eq_true']
        cases hw : waits q j with
        | false => exact .inl rfl
        | true => exact .inr (by have := h2 q hq hw; simpa using this)
      · rfl
    · have := h (i + 1) q H2 hi
      rw [show m + 1 + i = m + (i + 1) by omega]; exact this
def stages (X : Tx) (n : Nat) (ops : Array Oper) (es : List (Nat × Hp)) (Tw : List (Nat × SV)) (o : Oper) (j : Nat) : Nat → List Hp → Option (List SV × Ob)
  | _, [] => some ([], [])
  | k, H :: hs => match stages X n ops es Tw o j (k + 1) hs with
    | some (D, E) => bif mayB ops o j k es 0 then (match stepS X n ops Tw H o with
      | some (.val x F) => some (x :: D, F ++ E)
      | _ => none) else some (D, E)
    | none => none
theorem stages_spec {X : Tx} {n : Nat} {ops : Array Oper} {es : List (Nat × Hp)} {Tw : List (Nat × SV)} {o : Oper} {j : Nat} : ∀ {hs : List Hp} {k : Nat} {D : List SV} {E : Ob}, stages X n ops es Tw o j k hs = some (D, E) → okE E → ∀ (i : Nat) (H : Hp), hs[i]? = some H → mayB ops o j (k + i) es 0 = true →
    ∃ x F, stepS X n ops Tw H o = some (.val x F) ∧ okE F ∧ x ∈ D
  | [], k, D, E, h, hE, i, H, hi, hm => by cases hi
  | H0 :: hs, k, D, E, h, hE, i, H, hi, hm => by
    unfold stages at h
    split at h
    · next D1 E1 hs1 =>
      cases hb : mayB ops o j k es 0 with
      | false =>
        rw [hb] at h
        cases h
        cases i with
        | zero => rw [Nat.add_zero, hb] at hm; cases hm
        | succ i => exact stages_spec hs1 hE i H hi (by rw [show k + 1 + i = k + (i + 1) by omega]; exact hm)
      | true =>
        rw [hb] at h
        simp only [cond_true] at h
        split at h
        · next x F hx =>
          cases h
          obtain ⟨e1, e2⟩ := okE_app hE
          cases i with
          | zero => cases hi; exact ⟨x, F, hx, e1, by simp⟩
          | succ i =>
            obtain ⟨y, F', q1, q2, q3⟩ := stages_spec hs1 e2 i H hi (by rw [show k + 1 + i = k + (i + 1) by omega]; exact hm)
            exact ⟨y, F', q1, q2, List.mem_cons_of_mem _ q3⟩
        · cases h
    · cases h
def isEff (j : Nat) : List (Nat × Hp) → Bool
  | [] => false
  | (p, _) :: es => Nat.beq p j || isEff j es
theorem isEff_spec {j : Nat} : ∀ {es : List (Nat × Hp)}, isEff j es = true → ∃ (i : Nat) (H : Hp), es[i]? = some (j, H)
  | [], h => by cases h
  | (p, H) :: es, h => by
    simp only [isEff, Bool.or_eq_true] at h
    rcases h with h | h
    · exact ⟨0, H, by rw [Nat.eq_of_beq_eq_true h]; rfl⟩
    · obtain ⟨i, H', hi⟩ := isEff_spec h; exact ⟨i + 1, H', hi⟩
theorem not_eff {j : Nat} : ∀ {es : List (Nat × Hp)}, isEff j es = false → ∀ (i p : Nat) (H : Hp), es[i]? = some (p, H) → p ≠ j
  | [], _, i, p, H, h => by cases h
  | (q, H') :: es, hb, i, p, H, h => by
    simp only [isEff, Bool.or_eq_false_iff] at hb
    cases i with
    | zero => cases h; exact fun e => by subst e; simp at hb
    | succ i => exact not_eff hb.2 i p H h
def pass2 (X : Tx) (n : Nat) (ops : Array Oper) (all : List Oper) (xs : List SV) (T : List (Nat × SV)) (es : List (Nat × Hp)) (hs : List Hp) (pc : List (Nat × SV)) : List Oper → List SV → Nat → Option (List (SV × SV) × Ob)
  | [], _, _ => some ([], [])
  | _ :: _, [], _ => none
  | o :: l, x :: ys, j => match pass2 X n ops all xs T es hs pc l ys (j + 1) with
    | some (D, E) => bif isEff j es then some (D, E) else (match look pc j with
      | some z => some ((z, x) :: D, E)
      | none => match stages X n ops es (twL o all xs 0 T) o j 0 hs with
        | some (zs, F) => some (zs.map (fun z => (z, x)) ++ D, F ++ E)
        | none => none)
    | none => none
theorem pass2_spec {X : Tx} {n : Nat} {ops : Array Oper} {all : List Oper} {xs : List SV} {T : List (Nat × SV)} {es : List (Nat × Hp)} {hs : List Hp} {pc : List (Nat × SV)} : ∀ {l : List Oper} {ys : List SV} {j : Nat} {D : List (SV × SV)} {E : Ob}, pass2 X n ops all xs T es hs pc l ys j = some (D, E) → okE E → D.map (·.1) = D.map (·.2) →
    ∀ (i : Nat) (o : Oper), l[i]? = some o → isEff (j + i) es = false → ∃ x, ys[i]? = some x ∧ (look pc (j + i) = some x ∨ ∀ (k : Nat) (H : Hp), hs[k]? = some H → mayB ops o (j + i) k es 0 = true → ∃ F, stepS X n ops (twL o all xs 0 T) H o = some (.val x F) ∧ okE F)
  | [], ys, j, D, E, h, hE, hD, i, o, hi, _ => by cases hi
  | _ :: _, [], j, D, E, h, hE, hD, i, o, hi, _ => by cases h
  | p :: l, y :: ys, j, D, E, h, hE, hD, i, o, hi, he => by
    have step : ∀ {D1 : List (SV × SV)} {E1 : Ob}, pass2 X n ops all xs T es hs pc l ys (j + 1) = some (D1, E1) → okE E1 → D1.map (·.1) = D1.map (·.2) → ∀ i, l[i]? = some o → isEff (j + (i + 1)) es = false → ∃ x, ys[i]? = some x ∧ (look pc (j + (i + 1)) = some x ∨ ∀ (k : Nat) (H : Hp), hs[k]? = some H → mayB ops o (j + (i + 1)) k es 0 = true → ∃ F, stepS X n ops (twL o all xs 0 T) H o = some (.val x F) ∧ okE F) := by
      intro D1 E1 h1 e1 d1 i hi he
      have := pass2_spec h1 e1 d1 i o hi (by rw [show j + 1 + i = j + (i + 1) by omega]; exact he)
      rw [show j + 1 + i = j + (i + 1) by omega] at this
      exact this
    unfold pass2 at h
    split at h
    · next D1 E1 h1 =>
      cases hb : isEff j es with
      | true =>
        rw [hb] at h
        cases h
        cases i with
        | zero => rw [Nat.add_zero, hb] at he; cases he
        | succ i => exact step h1 hE hD i hi he
      | false =>
        rw [hb] at h
        simp only [cond_false] at h
        split at h
        · next z hz =>
          cases h
          simp only [List.map_cons, List.cons.injEq] at hD
          cases i with
          | zero =>
            cases hi
            refine ⟨y, rfl, .inl ?_⟩
            rw [Nat.add_zero, hz, hD.1]
          | succ i => exact step h1 hE hD.2 i hi he
        · split at h
          · next zs F hz =>
            cases h
            obtain ⟨e1, e2⟩ := okE_app hE
            simp only [List.map_append] at hD
            obtain ⟨d1, d2⟩ := List.append_inj hD (by simp)
            cases i with
            | zero =>
              cases hi
              refine ⟨y, rfl, .inr fun k H hk hm => ?_⟩
              obtain ⟨x, F', q1, q2, q3⟩ := stages_spec hz e1 k H hk (by rw [Nat.zero_add]; exact hm)
              have : x = y := by
                simp only [List.map_map] at d1
                have := List.map_inj_left.1 d1 x q3
                simpa using this
              subst this
              exact ⟨F', q1, q2⟩
            | succ i => exact step h1 e2 d2 i hi he
          · cases h
    · cases h
def chainB (ops : Array Oper) : List (Nat × Hp) → Bool
  | (p, H) :: (q, H') :: es => (match ops[q]? with | some o => wt ops o p | none => false) && Nat.blt p q && chainB ops ((q, H') :: es)
  | _ => true
theorem chain_spec {ops : Array Oper} : ∀ {es : List (Nat × Hp)}, chainB ops es = true → ∀ (i p : Nat) (H : Hp) (q : Nat) (H' : Hp), es[i]? = some (p, H) → es[i + 1]? = some (q, H') → ∃ o, ops[q]? = some o ∧ wt ops o p = true
  | [], _, i, p, H, q, H', h, _ => by cases h
  | [_], _, i, p, H, q, H', _, h => by simp at h
  | (a, Ha) :: (b, Hb) :: es, hb, i, p, H, q, H', h1, h2 => by
    simp only [chainB, Bool.and_eq_true] at hb
    cases i with
    | zero =>
      cases h1; cases h2
      have := hb.1.1
      split at this
      · next o ho => exact ⟨o, ho, this⟩
      · cases this
    | succ i => exact chain_spec hb.2 i p H q H' h1 h2
theorem chain_inc {ops : Array Oper} : ∀ {es : List (Nat × Hp)}, chainB ops es = true → ∀ (i k p : Nat) (H H' : Hp), es[i]? = some (p, H) → es[k]? = some (p, H') → i = k := by
  have lt : ∀ {es : List (Nat × Hp)} {p : Nat} {H : Hp}, chainB ops ((p, H) :: es) = true → ∀ (k q : Nat) (H' : Hp), es[k]? = some (q, H') → p < q := by
    intro es
    induction es with
    | nil => intro p H _ k q H' h; cases h
    | cons x es ih =>
      obtain ⟨b, Hb⟩ := x
      intro p H hb k q H' h
      simp only [chainB, Bool.and_eq_true] at hb
      have h1 : p < b := by have := hb.1.2; simpa [Nat.blt_eq] using this
      cases k with
      | zero => cases h; exact h1
      | succ k => have := ih hb.2 k q H' h; omega
  intro es
  induction es with
  | nil => intro _ i k p H H' h; cases h
  | cons x es ih =>
    obtain ⟨b, Hb⟩ := x
    intro hb i k p H H' h1 h2
    have hb2 : chainB ops es = true := by
      cases es with
      | nil => rfl
      | cons y es => simp only [chainB, Bool.and_eq_true] at hb; exact hb.2
    cases i with
    | zero =>
      cases k with
      | zero => rfl
      | succ k => cases h1; exact absurd (lt hb k _ H' h2) (by omega)
    | succ i =>
      cases k with
      | zero => cases h2; exact absurd (lt hb i _ H h1) (by omega)
      | succ k => rw [ih hb2 i k p H H' h1 h2]
def putS : List Oper → List SV → List (Nat × SV) → List (Nat × SV)
  | o :: l, x :: xs, T => extS (putS l xs T) o.dst x
  | _, _, T => T
theorem put_look {T : List (Nat × SV)} {t : Nat} {x : SV} : ∀ {l : List Oper} {xs : List SV}, xs.length = l.length → look (putS l xs T) t = some x → (∃ (i : Nat) (p : Oper), l[i]? = some p ∧ xs[i]? = some x ∧ p.dst = some t) ∨ (look T t = some x ∧ ∀ (i : Nat) (p : Oper), l[i]? = some p → p.dst ≠ some t)
  | [], _, _, h => .inr ⟨h, fun i p h => by cases h⟩
  | _ :: _, [], hl, h => by cases hl
  | p :: l, y :: xs, hl, h => by
    have rest : look (putS l xs T) t = some x → p.dst ≠ some t → (∃ (i : Nat) (q : Oper), (p :: l)[i]? = some q ∧ (y :: xs)[i]? = some x ∧ q.dst = some t) ∨ (look T t = some x ∧ ∀ (i : Nat) (q : Oper), (p :: l)[i]? = some q → q.dst ≠ some t) := fun h hp => by
      rcases put_look (by simpa using hl) h with ⟨i, q, h1, h2, h4⟩ | ⟨h1, h2⟩
      · exact .inl ⟨i + 1, q, by simpa using h1, by simpa using h2, h4⟩
      · refine .inr ⟨h1, fun i q hq => ?_⟩
        cases i with
        | zero => cases hq; exact hp
        | succ i => exact h2 i q (by simpa using hq)
    unfold putS at h
    cases hd : p.dst with
    | none => rw [hd] at h; exact rest h (by rw [hd]; simp)
    | some d =>
      rw [hd] at h
      simp only [extS, look] at h
      cases hk : Nat.beq d t with
      | false =>
        rw [hk] at h
        refine rest h fun e => ?_
        rw [hd] at e; cases e
        rw [show Nat.beq t t = true from Nat.beq_refl t] at hk; cases hk
      | true =>
        rw [hk] at h
        cases h
        have := Nat.eq_of_beq_eq_true hk
        subst this
        exact .inl ⟨0, p, rfl, rfl, hd⟩
section
variable {P : Program} {X : Tx} {n : Nat} {ks : List Nat} {G0 : Gr} {w0 : World} {T : List (Nat × SV)} {l : List Oper} {xs : List SV} {es : List (Nat × Hp)} {hs : List Hp} {Q : Exit → Act → World → Prop}
structure DInv (n : Nat) (ks : List Nat) (G0 : Gr) (w0 : World) (T : List (Nat × SV)) (l : List Oper) (xs : List SV) (es : List (Nat × Hp)) (hs : List Hp) (listed : Array Bool) (k : Nat) (G : Gr) (a : Act) (w : World) : Prop where
  size : a.tmps.size = n
  defers : a.defers = []
  base : ∀ t x, look T t = some x → (∀ (j : Nat) (o : Oper), l[j]? = some o → o.dst = some t → listed.getD j false = false) → den G x = some (a.tmps.getD t undef)
  done : ∀ (j : Nat) (o : Oper) (x : SV) (d : Nat), l[j]? = some o → listed.getD j false = true → xs[j]? = some x → o.dst = some d → den G x = some (a.tmps.getD d undef)
  ms : ∃ H, hs[k]? = some H ∧ Ms H ks G0 w0 G w
  eff : ∀ (i p : Nat) (H' : Hp), es[i]? = some (p, H') → (listed.getD p false = true ↔ i < k)
  closed : ∀ (j : Nat) (o : Oper) (p : Nat), l[j]? = some o → listed.getD j false = true → waits o p = true → listed.getD p false = true
def EffOK (P : Program) (n : Nat) (ops : Array Oper) (ks : List Nat) (G0 : Gr) (w0 : World) (Tw : List (Nat × SV)) (H : Hp) (o : Oper) (x : SV) (H' : Hp) : Prop :=
  ∀ G a w, Sy n Tw H ks G0 w0 G a w → Does P ops o a w fun v w' => ∃ F, den (G ++ F) x = some v ∧ Ms H' ks G0 w0 (G ++ F) w'
theorem step_val {ops : Array Oper} {o : Oper} {H : Hp} {Tw : List (Nat × SV)} {G : Gr} {a : Act} {w : World} (hX : X.ok P = true) (A : Sy n Tw H ks G0 w0 G a w) {x : SV} {E : Ob} (h : stepS X n ops Tw H o = some (.val x E)) (hE : okE E) : ∃ z, den G x = some z ∧ ∀ K : Value → World → Prop, K z w → Does P ops o a w K := by
  unfold stepS at h
  have hgn : gcOK none := fun g hg => by cases hg
  split at h
  · next hd =>
    split at h
    · next hg =>
      obtain ⟨z, hz, k⟩ := xop_val (P := P) (ops := ops) hX A h
      exact ⟨z, hz, k hE hgn (gd_run (gd := none) A hg)⟩
    · next hg => cases h; exact ⟨undef, rfl, fun K hK => does_not (gd_skip A hg) hK⟩
    · next b hg =>
      split at h
      · next y F hx =>
        cases h
        have hw := gd_sym A hg
        obtain ⟨z, hz, k⟩ := xop_val (P := P) (ops := ops) hX A hx
        cases b with
        | true => exact ⟨z, by simp [den, hz], k hE (fun g hg => by cases hg; rfl) hw⟩
        | false => exact ⟨undef, by simp [den, hz], fun K hK => does_not hw hK⟩
      · cases h
    · cases h
  · cases h
theorem drawn_go (hX : X.ok P = true) (hfit : fitB l.toArray n [] = true) (hchain : chainB l.toArray es = true) (hT : ∀ t x, look T t = some x → ∀ (j : Nat) (o : Oper), l[j]? = some o → o.dst = some t → ∀ i, i < l.length → i ≠ j → waits o i = true) (hl : xs.length = l.length) (hlen : hs.length = es.length + 1)
    (hpure : ∀ (i : Nat) (o : Oper), l[i]? = some o → isEff i es = false → ∃ x, xs[i]? = some x ∧ ∀ (k : Nat) (H : Hp), hs[k]? = some H → mayB l.toArray o i k es 0 = true → EffOK P n l.toArray ks G0 w0 (twL o l xs 0 T) H o x H)
    (heff : ∀ (m p : Nat) (H' : Hp), es[m]? = some (p, H') → hs[m + 1]? = some H' ∧ ∃ o x H, l[p]? = some o ∧ xs[p]? = some x ∧ hs[m]? = some H ∧ EffOK P n l.toArray ks G0 w0 (twL o l xs 0 T) H o x H')
    (hend : ∀ G a w H, hs[es.length]? = some H → Sy n (putS l xs T) H ks G0 w0 G a w → Q .normal a w) :
    ∀ (fuel : Nat) (listed : Array Bool) (a : Act) (w : World) (k : Nat) (G : Gr), listed.size = l.length → ((List.range l.length).filter fun i => !listed.getD i true).length ≤ fuel → DInv n ks G0 w0 T l xs es hs listed k G a w → wpAny P .any l.toArray Q fuel listed a w := by
  have last : ∀ (listed : Array Bool) (a : Act) (w : World) (k : Nat) (G : Gr), listed.size = l.length → Region.ready .any l.toArray listed = [] → DInv n ks G0 w0 T l xs es hs listed k G a w → Q .normal a w := by
    intro listed a w k G hls hr I
    have all : ∀ i, i < l.length → listed.getD i false = true := by
      intro i
      induction i using Nat.strongRecOn with
      | _ i ih =>
        intro hi
        cases hq : listed.getD i false with
        | true => rfl
        | false =>
          exfalso
          have : i ∈ Region.ready .any l.toArray listed := by
            rw [mem_ready]
            have hli : i < listed.size := by omega
            have hoi : l.toArray[i]? = some l[i] := by simp [hi]
            refine ⟨by simpa [hli] using hq, l[i], hoi, fun e he hb => ?_⟩
            have hlt := (fit_spec hfit hoi).2 e he hb
            exact ih e.on hlt (by omega)
          rw [hr] at this; cases this
    obtain ⟨H, h1, h2⟩ := I.ms
    have hk : k = es.length := by
      have hkl : k < hs.length := (List.getElem?_eq_some_iff.1 h1).1
      by_cases hk : k < es.length
      · exfalso
        have he : es[k]? = some (es[k].1, es[k].2) := by simp [hk]
        obtain ⟨_, o, x, _, ho, _⟩ := heff k _ _ he
        have hp : es[k].1 < l.length := (List.getElem?_eq_some_iff.1 ho).1
        have := (I.eff k _ _ he).1 (all _ hp)
        omega
      · omega
    subst hk
    refine hend G a w H h1 (h2.sy I.size I.defers fun t x hx => ?_)
    rcases put_look hl hx with ⟨i, p, q1, q2, q3⟩ | ⟨hx, hno⟩
    · exact I.done i p x t q1 (all i (List.getElem?_eq_some_iff.1 q1).1) q2 q3
    · exact I.base t x hx fun j o h1 h2 => absurd h2 (hno j o h1)
  intro fuel
  induction fuel with
  | zero =>
    intro listed a w k G hls hf I
    have hr : Region.ready .any l.toArray listed = [] := by
      unfold Region.ready
      rw [List.filter_eq_nil_iff]
      intro i hi
      have hnil : ((List.range l.length).filter fun i => !listed.getD i true) = [] := List.eq_nil_of_length_eq_zero (by omega)
      rw [List.filter_eq_nil_iff] at hnil
      have := hnil i (by simpa using hi)
      simp only [Bool.not_eq_true, Bool.not_eq_false'] at this
      simp [this]
    exact ⟨hr, last listed a w k G hls hr I⟩
  | succ fuel ih =>
    intro listed a w k G hls hf I
    refine ⟨fun hr => last listed a w k G hls hr I, fun i hi => ?_⟩
    obtain ⟨hun, o, hoi, hall⟩ := mem_ready.1 hi
    have hil : i < l.length := by have := (Array.getElem?_eq_some_iff.1 hoi).1; simpa using this
    have hoi' : l[i]? = some o := by simpa using hoi
    obtain ⟨hfd, hfe⟩ := fit_spec hfit hoi
    have hun' : listed.getD i false = false := by
      have hlt : i < listed.size := by omega
      simpa [hlt] using hun
    have hw : ∀ p, waits o p = true → listed.getD p false = true := fun p hp => by
      unfold waits at hp
      rw [List.any_eq_true] at hp
      obtain ⟨e, he', hb⟩ := hp
      have he : e ∈ o.after := by simpa using he'
      simp only [Bool.and_eq_true, beq_iff_eq] at hb
      rw [← hb.2]
      exact hall e he hb.1
    obtain ⟨H, hHk, hMs⟩ := I.ms
    -- what is known where it stands
    have A : Sy n (twL o l xs 0 T) H ks G0 w0 G a w := hMs.sy I.size I.defers fun t x hx => by
      rcases tw_look hx with ⟨j, p, q1, q2, q3, q4⟩ | hx
      · exact I.done j p x t q1 (hw j (by simpa using q3)) q2 q4
      · refine I.base t x hx fun j p h1 h2 => ?_
        by_cases hji : j = i
        · subst hji; exact hun'
        · cases hlj : listed.getD j false with
          | false => rfl
          | true =>
            have := I.closed j p i h1 hlj (hT t x hx j p h1 h2 i hil (Ne.symm hji))
            rw [hun'] at this; cases this
    -- the next state
    have next : ∀ (x : SV) (v : Value) (w' : World) (F : Gr) (k' : Nat), xs[i]? = some x → den (G ++ F) x = some v → (∃ H', hs[k']? = some H' ∧ Ms H' ks G0 w0 (G ++ F) w') →
        (∀ (m p : Nat) (H' : Hp), es[m]? = some (p, H') → ((p = i ∨ m < k) ↔ m < k')) → wpAny P .any l.toArray Q fuel (listed.setIfInBounds i true) (a.put o.dst v) w' := by
      intro x v w' F k' hx hv hms hk'
      have hlt : i < listed.size := by omega
      have hget : ∀ j, (listed.setIfInBounds i true).getD j false = true ↔ (j = i ∨ listed.getD j false = true) := by
        intro j
        by_cases hji : j = i
        · subst hji; simp [hlt]
        · rw [set_ne false (Ne.symm hji)]; simp [hji]
      refine ih _ _ _ k' (G ++ F) (by simpa using hls) ?_ ⟨?_, ?_, fun t y hy hno => ?_, fun j p y d q1 q2 q3 q4 => ?_, hms, fun m p H' hm => ?_, fun j p r q1 q2 q3 => ?_⟩
      · have : ((List.range l.length).filter fun k => !(listed.setIfInBounds i true).getD k true).length < ((List.range l.length).filter fun k => !listed.getD k true).length := by
          have hsub : ((List.range l.length).filter fun k => !(listed.setIfInBounds i true).getD k true) = ((List.range l.length).filter fun k => !listed.getD k true).filter (fun k => k != i) := by
            rw [List.filter_filter]
            apply List.filter_congr
            intro k _
            by_cases hk : k = i
            · subst hk; simp [hlt]
            · rw [set_ne true (Ne.symm hk)]; simp [hk]
          rw [hsub]
          refine List.length_filter_lt_length_iff_exists.2 ⟨i, ?_, by simp⟩
          simp only [List.mem_filter, List.mem_range]
          exact ⟨hil, by rw [hun]; rfl⟩
        omega
      · cases hd : o.dst <;> simp [Act.put, I.size]
      · cases hd : o.dst <;> simp [Act.put, I.defers]
      · have hno' : ∀ (j : Nat) (q : Oper), l[j]? = some q → q.dst = some t → listed.getD j false = false := fun j q h1 h2 => by
          have h3 := hno j q h1 h2
          cases hlj : listed.getD j false with
          | false => rfl
          | true => rw [(hget j).2 (.inr hlj)] at h3; cases h3
        have h1 := den_mono F y (I.base t y hy hno')
        cases hd : o.dst with
        | none => exact h1
        | some d =>
          have hne : d ≠ t := fun e => by
            have h3 := hno i o hoi' (by rw [hd, e])
            rw [(hget i).2 (.inl rfl)] at h3; cases h3
          simp only [Act.put, Array.getD_eq_getD_getElem?]
          rw [Array.getElem?_setIfInBounds_ne hne, ← Array.getD_eq_getD_getElem?]
          exact h1
      · by_cases hji : j = i
        · subst hji
          rw [hoi'] at q1; cases q1
          rw [hx] at q3; cases q3
          have hdn : d < a.tmps.size := by rw [I.size]; exact (hfd d q4).1
          rw [q4]
          simp [Act.put, hdn, hv]
        · have h2 : listed.getD j false = true := by
            rcases (hget j).1 q2 with h | h
            · exact absurd h hji
            · exact h
          have h1 := den_mono F y (I.done j p y d q1 h2 q3 q4)
          cases hd : o.dst with
          | none => exact h1
          | some d' =>
            have hne : d' ≠ d := fun e => by
              subst e
              exact hji ((hfd d' hd).2.1 j (by simpa using (List.getElem?_eq_some_iff.1 q1).1) (by simp [dstOf, q1, q4]))
            simp only [Act.put, Array.getD_eq_getD_getElem?]
            rw [Array.getElem?_setIfInBounds_ne hne, ← Array.getD_eq_getD_getElem?]
            exact h1
      · rw [hget p, I.eff m p H' hm]; exact hk' m p H' hm
      · rw [hget r]
        by_cases hji : j = i
        · subst hji; rw [hoi'] at q1; cases q1; exact .inr (hw r q3)
        · rcases (hget j).1 q2 with h | h
          · exact absurd h hji
          · exact .inr (I.closed j p r q1 h q3)
    have fin : ∀ {x : SV} {k' : Nat}, xs[i]? = some x → (∀ (m p : Nat) (H' : Hp), es[m]? = some (p, H') → ((p = i ∨ m < k) ↔ m < k')) → ∀ {H' : Hp}, hs[k']? = some H' → Does P l.toArray o a w (fun v w' => ∃ F, den (G ++ F) x = some v ∧ Ms H' ks G0 w0 (G ++ F) w') → wpOp P l.toArray Q i (wpAny P .any l.toArray Q fuel (listed.setIfInBounds i true)) a w := by
      intro x k' hx hk' H' hH' hd
      unfold wpOp
      rcases hd with ⟨hwn, h⟩ | ⟨hwn, F, h1, h2⟩
      · simp only [hoi, hwn, if_true]
        refine .inl (Oper.wp_mono (fun a2 w2 h => ?_) (h Q))
        obtain ⟨v, rfl, F, h1, h2⟩ := h
        exact next x v w2 F k' hx h1 ⟨H', hH', h2⟩ hk'
      · simp only [hoi, hwn, Bool.false_eq_true, if_false]
        exact next x undef w F k' hx h1 ⟨H', hH', h2⟩ hk'
    cases he : isEff i es with
    | true =>
      obtain ⟨m, H', hm⟩ := isEff_spec he
      obtain ⟨hH', o', x, Hm, e1, e2, e3, e4⟩ := heff m i H' hm
      rw [hoi'] at e1; cases e1
      have hmk : m = k := by
        have h1 : ¬ m < k := fun h => by have := (I.eff m i H' hm).2 h; rw [this] at hun'; cases hun'
        have h2 : m ≤ k := by
          cases m with
          | zero => omega
          | succ m =>
            have hmlt : m < es.length := by have := (List.getElem?_eq_some_iff.1 hm).1; omega
            have hem : es[m]? = some (es[m].1, es[m].2) := by simp [hmlt]
            obtain ⟨o2, g1, g2⟩ := chain_spec hchain m _ _ i H' hem hm
            rw [hoi] at g1; cases g1
            have g3 : listed.getD es[m].1 false = true := by
              unfold wt at g2
              cases hd : waits o es[m].1 with
              | true => exact hw _ hd
              | false =>
                rw [hd] at g2
                refine via_listed (fun j q p' hq hj hwq => I.closed j q p' (by simpa using hq) hj hwq) 2 _ (fun e he hb => hw e.on ?_) g2
                unfold waits
                rw [List.any_eq_true]
                exact ⟨e, he, by simp [hb]⟩
            have := (I.eff m _ _ hem).1 g3
            omega
        omega
      subst hmk
      rw [hHk] at e3; cases e3
      refine fin e2 (k' := m + 1) (fun m' p H2 hm' => ?_) hH' (e4 G a w A)
      constructor
      · rintro (rfl | h)
        · have := chain_inc hchain m' m _ H2 H' hm' hm; omega
        · omega
      · intro h
        by_cases hmm : m' = m
        · subst hmm; rw [hm] at hm'; cases hm'; exact .inl rfl
        · exact .inr (by omega)
    | false =>
      obtain ⟨x, e1, e2⟩ := hpure i o hoi' he
      have hmay : mayB l.toArray o i k es 0 = true := may_spec fun m p H' hm => by
        rw [Nat.zero_add]
        refine ⟨fun hwt => (I.eff m p H' hm).1 ?_, fun q hq hwt => ?_⟩
        · unfold wt at hwt
          cases hd : waits o p with
          | true => exact hw p hd
          | false =>
            rw [hd] at hwt
            refine via_listed (fun j q p' hq hj hwq => I.closed j q p' (by simpa using hq) hj hwq) 2 _ (fun e he hb => hw e.on ?_) hwt
            unfold waits
            rw [List.any_eq_true]
            exact ⟨e, he, by simp [hb]⟩
        by_cases hmk : m < k
        · exfalso
          have hp := (I.eff m p H' hm).2 hmk
          have := I.closed p q i (by simpa using hq) hp hwt
          rw [this] at hun'; cases hun'
        · omega
      refine fin e1 (k' := k) (fun m p H' hm => ?_) hHk (e2 k H hHk hmay G a w A)
      constructor
      · rintro (rfl | h)
        · exact absurd rfl (not_eff he m _ H' hm)
        · exact h
      · exact fun h => .inr h
end
def outX (H : Hp) : Out → SV
  | .val x _ => x
  | .new _ _ x => x
  | .upd _ _ _ => .tup []
def pass3 (X : Tx) (n : Nat) (ops : Array Oper) (l : List Oper) (xs : List SV) (T : List (Nat × SV)) (cl : List (Nat × SV × Hp)) : List (Nat × Hp) → Hp → Option (List (SV × SV) × List (Hp × Hp) × Ob)
  | [], _ => some ([], [], [])
  | (p, H') :: es, H => match pass3 X n ops l xs T cl es H' with
    | some (D, DH, E) => match lg l p, lg xs p with
      | some o, some x => match cl.lookup p with
        | some (y, _) => some ((y, x) :: D, DH, E)
        | none => match stepS X n ops (twL o l xs 0 T) H o with
          | some out => some ((outX H out, x) :: D, (outH H out, H') :: DH, outE out ++ E)
          | none => none
      | _, _ => none
    | none => none
section
variable {P : Program} {X : Tx} {n : Nat} {ks : List Nat} {G0 : Gr} {w0 : World} {T : List (Nat × SV)} {l : List Oper} {xs : List SV} {Q : Exit → Act → World → Prop} {cl : List (Nat × SV × Hp)}
def EffAll (P : Program) (n : Nat) (ops : Array Oper) (ks : List Nat) (G0 : Gr) (w0 : World) (l : List Oper) (xs : List SV) (T : List (Nat × SV)) (cl : List (Nat × SV × Hp)) : List (Nat × Hp) → Hp → Prop
  | [], _ => True
  | (p, H') :: es, H => (match cl.lookup p, lg l p with | some (x, _), some o => EffOK P n ops ks G0 w0 (twL o l xs 0 T) H o x H' | _, _ => True) ∧ EffAll P n ops ks G0 w0 l xs T cl es H'
theorem effAll_nil {ops : Array Oper} : ∀ (es : List (Nat × Hp)) (H : Hp), EffAll P n ops ks G0 w0 l xs T [] es H
  | [], _ => trivial
  | (p, H') :: es, H => ⟨by simp, effAll_nil es H'⟩
theorem eff_auto {ops : Array Oper} {o : Oper} {H : Hp} {Tw : List (Nat × SV)} {out : Out} (hX : X.ok P = true) (h : stepS X n ops Tw H o = some out) (hE : okE (outE out)) : EffOK P n ops ks G0 w0 Tw H o (outX H out) (outH H out) := by
  intro G a w A
  cases out with
  | val x E =>
    obtain ⟨z, hz, k⟩ := step_val (P := P) hX A h hE
    exact k _ ⟨[], by simpa [outX] using hz, by simpa [outH] using A.ms⟩
  | new t en x =>
    unfold stepS at h
    split at h
    · next hd =>
      split at h
      · next hg =>
        exact xop_new (P := P) (ops := ops) hX A h (gd_run (gd := none) A hg) fun g w' v a1 a2 a3 a4 a5 => ⟨[some ⟨g, [], [], t⟩], a5, (A.newBlk a1 a2 a3 a4).ms⟩
      · cases h
      · split at h <;> cases h
      · cases h
    · cases h
  | upd i cs E =>
    unfold stepS at h
    split at h
    · next hd =>
      split at h
      · next hg =>
        refine xop_upd hX A h hE (gd_run (gd := none) A hg) fun cs0 L vs' w' a1 a2 a3 a4 a5 => ⟨[], rfl, ?_⟩
        simpa [outH] using (A.turn a1 a2 a3 a4 a5).ms
      · cases h
      · split at h <;> cases h
      · cases h
    · cases h
theorem pass3_spec {ops : Array Oper} (hX : X.ok P = true) : ∀ {es : List (Nat × Hp)} {H : Hp} {D : List (SV × SV)} {DH : List (Hp × Hp)} {E : Ob}, pass3 X n ops l xs T cl es H = some (D, DH, E) → okE E → D.map (·.1) = D.map (·.2) → DH.map (·.1) = DH.map (·.2) → EffAll P n ops ks G0 w0 l xs T cl es H →
    ∀ (m p : Nat) (H' : Hp), es[m]? = some (p, H') → (H :: es.map (·.2))[m + 1]? = some H' ∧ ∃ o x Hm, l[p]? = some o ∧ xs[p]? = some x ∧ (H :: es.map (·.2))[m]? = some Hm ∧ EffOK P n ops ks G0 w0 (twL o l xs 0 T) Hm o x H'
  | [], _, _, _, _, _, _, _, _, _, m, p, H', hm => by cases hm
  | (q, Hq) :: es, H, D, DH, E, h, hE, hD, hDH, hA, m, p, H', hm => by
    unfold pass3 at h
    obtain ⟨hA1, hA2⟩ := hA
    split at h
    · next D1 DH1 E1 h1 =>
      split at h
      · next o x ho hx =>
        rw [ho] at hA1
        rw [lg_is] at ho hx
        split at h
        · next y Hy hc =>
          cases h
          simp only [List.map_cons, List.cons.injEq] at hD
          rw [hc] at hA1
          cases m with
          | zero =>
            cases hm
            refine ⟨by simp, o, x, H, ho, hx, rfl, ?_⟩
            have := hD.1
            subst this
            exact hA1
          | succ m =>
            have := pass3_spec hX h1 hE hD.2 hDH hA2 m p H' (by simpa using hm)
            simpa using this
        · next hc =>
          split at h
          · next out hs =>
            cases h
            obtain ⟨e1, e2⟩ := okE_app hE
            simp only [List.map_cons, List.cons.injEq] at hD hDH
            cases m with
            | zero =>
              cases hm
              refine ⟨by simp, o, x, H, ho, hx, rfl, ?_⟩
              have := eff_auto (P := P) (ks := ks) (G0 := G0) (w0 := w0) hX hs e1
              rw [hD.1, hDH.1] at this
              exact this
            | succ m =>
              have := pass3_spec hX h1 e2 hD.2 hDH.2 hA2 m p H' (by simpa using hm)
              simpa using this
          · cases h
      · cases h
    · cases h
theorem pass1_len {ops : Array Oper} {pc : List (Nat × SV)} : ∀ {l : List Oper} {j : Nat} {T : List (Nat × SV)} {H : Hp} {xs : List SV} {es : List (Nat × Hp)}, pass1 X n ops pc cl l j T H = some (xs, es) → xs.length = l.length
  | [], _, _, _, _, _, h => by cases h; rfl
  | o :: l, j, T, H, xs, es, h => by
    unfold pass1 at h
    split at h
    · split at h
      · next xs' hs' h1 => cases h; simp [pass1_len h1]
      · cases h
    · split at h
      · split at h
        · next xs' hs' h1 => cases h; simp [pass1_len h1]
        · cases h
      · split at h
        · split at h
          · next xs' hs' h1 => cases h; simp [pass1_len h1]
          · cases h
        · rw [nfH_is] at h
          split at h
          · next xs' hs' h1 => cases h; simp [pass1_len h1]
          · cases h
        · rw [nfH_is] at h
          split at h
          · next xs' hs' h1 => cases h; simp [pass1_len h1]
          · cases h
        · cases h
def lastH : Hp → List (Nat × Hp) → Hp
  | H, [] => H
  | _, (_, H) :: es => lastH H es
theorem lastH_is : ∀ (es : List (Nat × Hp)) (H : Hp), (H :: es.map (·.2))[es.length]? = some (lastH H es)
  | [], H => rfl
  | (p, H') :: es, H => by simpa [lastH] using lastH_is es H'
theorem eff_pure {ops : Array Oper} {Tw : List (Nat × SV)} {H : Hp} {o : Oper} {f : Nat} {az : List SV} {x : SV} (h : callS n ops Tw o = some (f, az)) (hin : inL 0 az = true) (hf : Fn P f az [] (Rt x [])) : EffOK P n ops ks G0 w0 Tw H o x H := by
  intro G a w A
  obtain ⟨hent, hf⟩ := hf
  obtain ⟨hd, vs, hv, hdo⟩ := callS_do (P := P) (ops := ops) A h hent
  -- what it is handed names no block
  have hM : Mem [] [] w := ⟨rfl, fun i e h => (by cases h), fun i j e f L M _ h => (by cases h)⟩
  have hv0 : denL [] az = some vs := by
    have := denL_take' (G := G) az hin
    simp only [List.take_zero] at this
    rw [this]; exact hv
  refine hdo (hf [] w vs hM hv0) ?_
  rintro e w' ⟨y, H', F, v, ⟨rfl, rfl⟩, hx, rfl, hM2, hmix, _⟩
  have hF : F = [] := by have := hM2.len; simp at this; exact List.eq_nil_of_length_eq_zero this.symm
  subst hF
  have hg : Grow w w' := ⟨hmix.os, hmix.tape, hmix.output, hmix.size, fun k hk => hmix.block k hk rfl⟩
  refine ⟨v, rfl, [], ?_, by simpa using A.ms.grow hg⟩
  have := den_mono (G := []) G y (by simpa using hx)
  simpa using this
def callG (n : Nat) (ops : Array Oper) (T : List (Nat × SV)) (o : Oper) : Option (Bool × Nat × List SV × Ob) := match fitsD n o.dst with
  | true => match guardS ops T o.guard with
    | some (.sym b) => match o.op with
      | .call c => match c.callee with
        | .value x => match evG (some b) T x with
          | some (.fn f l, E0) => match evsS (some b) T c.args.toList with
            | some (az, E) => some (b, f, az ++ l, E0 ++ E)
            | _ => none
          | _ => none
        | _ => none
      | _ => none
    | _ => none
  | false => none
theorem callG_do {ops : Array Oper} {o : Oper} {H : Hp} {T : List (Nat × SV)} {G : Gr} {a : Act} {w : World} (A : Sy n T H ks G0 w0 G a w) {b : Bool} {f : Nat} {az : List SV} {E : Ob} (h : callG n ops T o = some (b, f, az, E)) (hE : okE E) (hent : b = true → Ent_ P f = some (false, false)) : (b = false → Region.wanted o (yielded ops a.tmps) = false) ∧ (b = true → ∃ vs, denL G az = some vs ∧ ∀ {R : Ending → World → Prop} {K : Value → World → Prop}, Calls P f vs.toArray w R → (∀ e w', R e w' → ∃ v, e = .returned v ∧ K v w') → Does P ops o a w K) := by
  obtain ⟨d, i, ty, pos, af, gd⟩ := o
  unfold callG at h
  split at h
  · next hd =>
    split at h
    · next b' hg =>
      have hw := gd_sym A hg
      split at h
      · next c hc =>
        simp only at hc
        subst hc
        obtain ⟨callee, args, ats⟩ := c
        simp only at h
        split at h
        · next x =>
          split at h
          · next f' l E0 hx =>
            split at h
            · next az' E' hs =>
              cases h
              refine ⟨fun hb => by rw [hw, hb], fun hb => ?_⟩
              subst hb
              have h1 := A.evg (fun g hg => by cases hg; rfl) hx (okE_app hE).1
              unfold den at h1
              obtain ⟨ls, h2, h3⟩ := Option.map_eq_some_iff.1 h1
              obtain ⟨us, h4, h5⟩ := evs_den A hs
              have h6 := h5 (okE_app hE).2 (fun g hg => by cases hg; rfl)
              refine ⟨us ++ ls, denL_app h4 h2, fun hc hk => ?_⟩
              refine d_callx (lb := ls.toArray) (vs := us.toArray) (us := (us ++ ls).toArray) hw h3.symm (hent rfl) ?_ (by simp) hc hk
              rw [← h6]; apply Array.ext'; simp
            · cases h
          · cases h
        · cases h
      · cases h
    · cases h
  · cases h
theorem eff_pureG {ops : Array Oper} {Tw : List (Nat × SV)} {H : Hp} {o : Oper} {b : Bool} {f : Nat} {az : List SV} {E : Ob} {x : SV} {v0 : Value} (h : callG n ops Tw o = some (b, f, az, E)) (hE : okE E) (hin : inL 0 az = true) (hx0 : den [] x = some v0) (hf : b = true → Fn P f az [] (Rt x [])) : EffOK P n ops ks G0 w0 Tw H o (.opt b x) H := by
  intro G a w A
  obtain ⟨k1, k2⟩ := callG_do (P := P) (ops := ops) A h hE (fun hb => (hf hb).1)
  cases b with
  | false =>
    refine does_not (k1 rfl) ⟨[], ?_, by simpa using A.ms⟩
    have := den_mono (G := []) G x (by simpa using hx0)
    simp at this
    simp [den, this]
  | true =>
    obtain ⟨hent, hf⟩ := hf rfl
    obtain ⟨vs, hv, hdo⟩ := k2 rfl
    have hM : Mem [] [] w := ⟨rfl, fun i e h => (by cases h), fun i j e f L M _ h => (by cases h)⟩
    have hv0 : denL [] az = some vs := by
      have := denL_take' (G := G) az hin
      simp only [List.take_zero] at this
      rw [this]; exact hv
    refine hdo (hf [] w vs hM hv0) ?_
    rintro e w' ⟨y, H', F, v, ⟨rfl, rfl⟩, hx, rfl, hM2, hmix, _⟩
    have hF : F = [] := by have := hM2.len; simp at this; exact List.eq_nil_of_length_eq_zero this.symm
    subst hF
    have hg : Grow w w' := ⟨hmix.os, hmix.tape, hmix.output, hmix.size, fun k hk => hmix.block k hk rfl⟩
    refine ⟨v, rfl, [], ?_, by simpa using A.ms.grow hg⟩
    have := den_mono (G := []) G y (by simpa using hx)
    simp at this
    simp [den, this]
def PcOK (P : Program) (n : Nat) (ops : Array Oper) (Tw : List (Nat × SV)) (o : Oper) (x : SV) : Prop :=
  (∃ f az, callS n ops Tw o = some (f, az) ∧ inL 0 az = true ∧ Fn P f az [] (Rt x [])) ∨ ∃ b y f az E v0, callG n ops Tw o = some (b, f, az, E) ∧ x = .opt b y ∧ okE E ∧ inL 0 az = true ∧ den [] y = some v0 ∧ (b = true → Fn P f az [] (Rt y []))
def PcAll (P : Program) (n : Nat) (ops : Array Oper) (l : List Oper) (xs : List SV) (T : List (Nat × SV)) : List (Nat × SV) → Prop
  | [] => True
  | (j, x) :: pc => (match lg l j with | some o => PcOK P n ops (twL o l xs 0 T) o x | none => True) ∧ PcAll P n ops l xs T pc
theorem pc_at {ops : Array Oper} : ∀ {pc : List (Nat × SV)} {j : Nat} {x : SV} {o : Oper}, PcAll P n ops l xs T pc → look pc j = some x → l[j]? = some o → PcOK P n ops (twL o l xs 0 T) o x
  | [], _, _, _, _, h, _ => by cases h
  | (k, y) :: pc, j, x, o, hA, h, ho => by
    unfold look at h
    cases hb : Nat.beq k j with
    | true =>
      rw [hb] at h
      cases h
      have := Nat.eq_of_beq_eq_true hb
      subst this
      have := hA.1
      rw [lg_is, ho] at this
      exact this
    | false => rw [hb] at h; exact pc_at hA.2 h ho
structure Drs where
  xs : List SV
  es : List (Nat × Hp)
  D : List (SV × SV)
  DH : List (Hp × Hp)
  E : Ob
def draws (X : Tx) (n : Nat) (pc : List (Nat × SV)) (cl : List (Nat × SV × Hp)) (l : List Oper) (T : List (Nat × SV)) (H : Hp) : Option Drs := match pass1 X n l.toArray pc cl l 0 T H with
  | some (xs, es) => match pass2 X n l.toArray l xs T es (H :: es.map (·.2)) pc l xs 0 with
    | some (D, E) => match pass3 X n l.toArray l xs T cl es H with
      | some (D', DH, E') => bif chainB l.toArray es then some ⟨xs, es, D ++ D', DH, E ++ E'⟩ else none
      | none => none
    | none => none
  | none => none
theorem DRAW0 {id : Nat} {H : Hp} {G : Gr} {a : Act} {w : World} {K : List Fr} {r : Drs} (hX : X.ok P = true) (hmo : P.follows .mixedOrders = true) (pc : List (Nat × SV)) (cl : List (Nat × SV × Hp)) (A : Sy n T H ks G0 w0 G a w) (h : draws X n pc cl l (keepT l T) H = some r) (hE : okE r.E) (hD : r.D.map (·.1) = r.D.map (·.2)) (hDH : r.DH.map (·.1) = r.DH.map (·.2)) (hfit : fitB l.toArray n [] = true)
    (hA : EffAll P n l.toArray ks G0 w0 l r.xs (keepT l T) cl r.es H) (hP : PcAll P n l.toArray l r.xs (keepT l T) pc) (hk : ∀ {G a w}, Sy n (putS l r.xs (keepT l T)) (lastH H r.es) ks G0 w0 G a w → Goal P Q K .norm a w) : Goal P Q K (.code (.region id l.toArray true)) a w := by
  unfold draws at h
  split at h
  · next xs es h1 =>
    split at h
    · next D E h2 =>
      split at h
      · next D' DH E' h3 =>
        cases hc : chainB l.toArray es with
        | false => rw [hc] at h; cases h
        | true =>
          rw [hc] at h
          cases h
          obtain ⟨e1, e2⟩ := okE_app hE
          simp only [List.map_append] at hD
          obtain ⟨d1, d2⟩ := List.append_inj hD (by
            have := congrArg List.length hD
            simp at this ⊢)
          refine wp_region_any hmo ?_
          have hB : Ms H ks G0 w0 G w.drew := A.ms.grow (Grow.refl w).drew
          refine drawn_go (P := P) (X := X) (xs := xs) (es := es) (hs := H :: es.map (·.2)) (T := keepT l T) hX hfit hc (fun t x hx j o h3 h4 i hi hne => lt_spec (by have := keepB_spec (keep_look hx).2 j o h3 h4; rwa [Nat.zero_add] at this) i hi hne) (pass1_len h1) (by simp) (fun i o hi he => ?_) (pass3_spec hX h3 e2 d2 hDH hA) (fun G a w H' hH' A' => ?_) _ _ _ _ 0 G (by simp) (by
            refine Nat.le_trans (List.length_filter_le _ _) (by simp)) ⟨A.size, A.defers, fun t x hx _ => A.get t x (keep_look hx).1, fun j o x d _ hj => ?_, ⟨H, rfl, hB⟩, fun i p H' hi => ?_, fun j o p _ hj => ?_⟩
          · obtain ⟨x, g1, g2⟩ := pass2_spec h2 e1 d1 i o hi (by rw [Nat.zero_add]; exact he)
            rw [Nat.zero_add] at g2
            refine ⟨x, g1, fun k H hk hm => ?_⟩
            rcases g2 with g2 | g2
            · rcases pc_at hP g2 hi with ⟨f, az, c1, c2, c3⟩ | ⟨b, y, f, az, E, v0, c1, rfl, c3, c4, c5, c6⟩
              · exact eff_pure c1 c2 c3
              · exact eff_pureG c1 c3 c4 c5 c6
            · obtain ⟨F, s1, s2⟩ := g2 k H hk hm
              exact eff_auto (out := .val x F) hX s1 s2
          · rw [lastH_is] at hH'
            cases hH'
            exact hk A'
          · exfalso; simp [Array.getD_eq_getD_getElem?, Array.getElem?_replicate] at hj; split at hj <;> simp at hj
          · constructor
            · intro hj; exfalso; simp [Array.getD_eq_getD_getElem?, Array.getElem?_replicate] at hj; split at hj <;> simp at hj
            · intro hj; omega
          · exfalso; simp [Array.getD_eq_getD_getElem?, Array.getElem?_replicate] at hj; split at hj <;> simp at hj
      · cases h
    · cases h
  · cases h
theorem DRAWN {Y : Tb} {id : Nat} {H : Hp} {G : Gr} {a : Act} {w : World} {K : List Fr} {r : Drs} (hX : Y.ok P = true) (hmo : P.follows .mixedOrders = true) (pc : List (Nat × SV)) (cl : List (Nat × SV × Hp)) (A : Sy n T H ks G0 w0 G a w) (h : draws ⟨Y, true⟩ n pc cl l (keepT l T) H = some r) (hE : okE r.E) (hD : r.D.map (·.1) = r.D.map (·.2)) (hDH : r.DH.map (·.1) = r.DH.map (·.2)) (hfit : fitB l.toArray n [] = true)
    (hA : EffAll P n l.toArray ks G0 w0 l r.xs (keepT l T) cl r.es H) (hP : PcAll P n l.toArray l r.xs (keepT l T) pc) (hk : ∀ {G a w}, Sy n (putS l r.xs (keepT l T)) (lastH H r.es) ks G0 w0 G a w → Goal P Q K .norm a w) : Goal P Q K (.code (.region id l.toArray true)) a w := DRAW0 (X := ⟨Y, true⟩) hX hmo pc cl A h hE hD hDH hfit hA hP hk
end
def inT (k : Nat) : List (Nat × SV) → Bool
  | [] => true
  | (_, x) :: T => inS k x && inT k T
theorem inT_at {k : Nat} : ∀ {T : List (Nat × SV)} {t : Nat} {x : SV}, inT k T = true → look T t = some x → inS k x = true
  | [], _, _, _, h => by cases h
  | (j, y) :: T, t, x, hb, h => by
    simp only [inT, Bool.and_eq_true] at hb
    unfold look at h
    cases hc : Nat.beq j t with
    | true => rw [hc] at h; cases h; exact hb.1
    | false => rw [hc] at h; exact inT_at hb.2 h
def inH (k : Nat) : Hp → Bool
  | [] => true
  | some (.blk cs) :: H => inL k cs && inH k H
  | _ :: H => inH k H
theorem inH_at {k : Nat} : ∀ {H : Hp} {i : Nat} {cs : List SV}, inH k H = true → H[i]? = some (some (.blk cs)) → inL k cs = true
  | [], _, _, _, h => by cases h
  | x :: H, 0, cs, hb, h => by cases h; simp only [inH, Bool.and_eq_true] at hb; exact hb.1
  | x :: H, i + 1, cs, hb, h => by
    refine inH_at (H := H) (i := i) ?_ h
    unfold inH at hb
    split at hb
    · next h => cases h
    · next h => cases h; rw [Bool.and_eq_true] at hb; exact hb.2
    · next h => cases h; exact hb
mutual
def nb : SV → SV
  | .tt => .bool true
  | .ff => .bool false
  | .agg l => .agg (nbL l)
  | .tup l => .tup (nbL l)
  | x => x
def nbL : List SV → List SV
  | [] => []
  | x :: l => nb x :: nbL l
end
mutual
theorem den_nb {G : Gr} : ∀ (x : SV), den G (nb x) = den G x
  | .tt => rfl
  | .ff => rfl
  | .agg l => by simp only [nb, den, denL_nb l]
  | .tup l => by simp only [nb, den, denL_nb l]
  | .ptr _ _ => rfl
  | .el _ _ _ _ => rfl
  | .ix _ _ _ _ _ => rfl
  | .sl _ _ _ => rfl
  | .fn _ _ => rfl
  | .opt _ _ => rfl
  | .int _ _ => rfl
  | .bool _ => rfl
  | .str _ => rfl
  | .sla _ _ _ => rfl
  | .sp _ _ _ => rfl
  | .st _ _ _ _ _ => rfl
  | .v _ => rfl
theorem denL_nb {G : Gr} : ∀ (l : List SV), denL G (nbL l) = denL G l
  | [] => rfl
  | x :: l => by simp only [nbL, denL, den_nb x, denL_nb l]
end
def nbH : Hp → Hp
  | [] => []
  | some (.blk cs) :: H => some (.blk (nbL cs)) :: nbH H
  | e :: H => e :: nbH H
theorem nbH_at : ∀ (H : Hp) (i : Nat), (nbH H)[i]? = (H[i]?).map fun e => match e with | some (.blk cs) => some (.blk (nbL cs)) | e => e
  | [], i => by simp [nbH]
  | e :: H, 0 => by
    cases e with
    | none => rfl
    | some q => cases q <;> rfl
  | e :: H, i + 1 => by
    have := nbH_at H i
    cases e with
    | none => simpa [nbH] using this
    | some q => cases q <;> simpa [nbH] using this
theorem nbH_len (H : Hp) : (nbH H).length = H.length := by
  induction H with
  | nil => rfl
  | cons e H ih =>
    cases e with
    | none => simp [nbH, ih]
    | some q => cases q <;> simp [nbH, ih]
theorem nb_same {H H2 : Hp} (h : nbH H = nbH H2) (i : Nat) (e : Ent) (he : H2[i]? = some (some e)) : ∃ e', H[i]? = some (some e') ∧ e'.mut = e.mut ∧ (e'.empty ↔ e.empty) ∧ ∀ G w p, EntOK G w p e' → EntOK G w p e := by
  have h1 := nbH_at H i
  have h2 := nbH_at H2 i
  rw [h, h2, he] at h1
  cases hq : H[i]? with
  | none => rw [hq] at h1; simp at h1
  | some o =>
    rw [hq] at h1
    cases o with
    | none => cases e <;> simp at h1
    | some e' =>
      cases e with
      | blk cs =>
        cases e' with
        | blk cs' =>
          simp at h1
          refine ⟨_, rfl, rfl, Iff.rfl, fun G w p hok => ?_⟩
          obtain ⟨L, vs, k1, k2, k3⟩ := hok
          exact ⟨L, vs, k1, by rw [← denL_nb, h1, denL_nb]; exact k2, k3⟩
        | lst => simp at h1
        | row => simp at h1
        | fac => simp at h1
      | fac b o =>
        cases e' with
        | blk cs' => simp at h1
        | lst => simp at h1
        | row => simp at h1
        | fac => simp at h1; obtain ⟨rfl, rfl⟩ := h1; exact ⟨_, rfl, rfl, Iff.rfl, fun G w p hok => hok⟩
      | lst s n f =>
        cases e' with
        | blk cs' => simp at h1
        | lst => simp at h1; obtain ⟨rfl, rfl, rfl⟩ := h1; exact ⟨_, rfl, rfl, Iff.rfl, fun G w p hok => hok⟩
        | row => simp at h1
        | fac => simp at h1
      | row a b c d f =>
        cases e' with
        | blk cs' => simp at h1
        | lst => simp at h1
        | fac => simp at h1
        | row => simp at h1; obtain ⟨rfl, rfl, rfl, rfl, rfl⟩ := h1; exact ⟨_, rfl, rfl, Iff.rfl, fun G w p hok => hok⟩
section
variable {P : Program} {X : Tx} {n : Nat} {ks : List Nat} {G0 : Gr} {w0 : World} {T : List (Nat × SV)} {H : Hp} {G : Gr} {a : Act} {w : World} {Q : Exit → Act → World → Prop}
theorem Sy.sayT (A : Sy n T H ks G0 w0 G a w) {T' : List (Nat × SV)} (h : T = T') : Sy n T' H ks G0 w0 G a w := h ▸ A
theorem Sy.say (A : Sy n T H ks G0 w0 G a w) (t : Nat) (y : SV) {x : SV} (h : look T t = some x) (e : x = y) : Sy n ((t, y) :: T) H ks G0 w0 G a w :=
  ⟨A.size, A.defers, fun s z hz => by
    simp only [look] at hz
    cases hc : Nat.beq t s with
    | true => rw [hc] at hz; cases hz; have := Nat.eq_of_beq_eq_true hc; subst this; subst e; exact A.get t _ h
    | false => rw [hc] at hz; exact A.get s z hz, A.mem, A.pre, A.own, A.mix⟩
def cutT (T : List (Nat × SV)) : List Nat → Option (List (Nat × SV))
  | [] => some []
  | t :: l => match look T t, cutT T l with
    | some x, some r => some ((t, x) :: r)
    | _, _ => none
theorem cut_look {T : List (Nat × SV)} : ∀ {l : List Nat} {r : List (Nat × SV)}, cutT T l = some r → ∀ t x, look r t = some x → look T t = some x
  | [], r, h, t, x, hx => by cases h; cases hx
  | k :: l, r, h, t, x, hx => by
    unfold cutT at h
    split at h
    · next y r' hy hr =>
      cases h
      simp only [look] at hx
      cases hb : Nat.beq k t with
      | true => rw [hb] at hx; cases hx; rw [← Nat.eq_of_beq_eq_true hb]; exact hy
      | false => rw [hb] at hx; exact cut_look hr t x hx
    · cases h
theorem Sy.cut (A : Sy n T H ks G0 w0 G a w) (l : List Nat) {T' : List (Nat × SV)} (h : cutT T l = some T') : Sy n T' H ks G0 w0 G a w :=
  ⟨A.size, A.defers, fun t x hx => A.get t x (cut_look h t x hx), A.mem, A.pre, A.own, A.mix⟩
theorem Sy.trunc (A : Sy n T H ks G0 w0 G a w) (k : Nat) {H' : Hp} (hT : inT k T = true) (hH : H.take k = H') (hi : inH k H' = true) (hk : G0.length ≤ k) : Sy n T H' ks G0 w0 (G.take k) a w := by
  have at_ : ∀ (i : Nat) (e : Ent), H'[i]? = some (some e) → H[i]? = some (some e) ∧ i < k := by
    intro i e h
    rw [← hH] at h
    have hik : i < k := by
      have := (List.getElem?_eq_some_iff.1 h).1
      simp at this; omega
    rw [List.getElem?_take_of_lt hik] at h
    exact ⟨h, hik⟩
  have hG : ∀ i, i < k → (G.take k)[i]? = G[i]? := fun i h => List.getElem?_take_of_lt h
  refine ⟨A.size, A.defers, fun t x hx => by rw [den_take x (inT_at hT hx)]; exact A.get t x hx, ⟨by rw [← hH]; simp [A.mem.len], fun i e h => ?_, fun i j e f L M hij h1 h2 h3 h4 h5 => ?_⟩, ?_, fun i e L h1 h2 h3 => ?_, A.mix⟩
  · obtain ⟨h1, h2⟩ := at_ i e h
    rw [hG i h2]
    have := A.mem.ent i e h1
    cases e with
    | blk cs =>
      obtain ⟨L, vs, q1, q2, q3⟩ := this
      exact ⟨L, vs, q1, by rw [denL_take' cs (inH_at hi h)]; exact q2, q3⟩
    | lst => exact this
    | fac => exact this
    | row => exact this
  · obtain ⟨a1, a2⟩ := at_ i e h1
    obtain ⟨b1, b2⟩ := at_ j f h2
    rw [hG i a2] at h4
    rw [hG j b2] at h5
    exact A.mem.sep i j e f L M hij a1 b1 h3 h4 h5
  · obtain ⟨F, hF⟩ := A.pre
    exact ⟨F.take (k - G0.length), by rw [hF, List.take_append, List.take_of_length_le hk]⟩
  · obtain ⟨a1, a2⟩ := at_ i e h1
    rw [hG i a2] at h3
    exact A.own i e L a1 h2 h3
theorem RETN {Y : Tb} {fn : Func} {x : SV} {H2 : Hp} {H0 : Hp} (hX : Y.ok P = true) {y : SV} {H' : Hp} {r : List SV} {rv : List ResultVar} (A : Sy n T H (keys H0 G0) G0 w0 G a w) (hr : fn.results.toList = rv) (hv : resS ⟨Y, false⟩ T H rv = some r) (hy : oneS r = y) (h0 : H0.length = G0.length) (hi : inS H0.length y = true) (hH : H.take H0.length = H') (hj : inH H0.length H' = true) (hkp : klB H0 H2 = klA H2) (hR : nb y = nb x) (hS : nbH H' = nbH H2) : bodyPost P fn (Post (Rt x H2) H0 G0 w0) .ret a w := by
  obtain ⟨v, h1, h2⟩ := res_run (X := ⟨Y, false⟩) (fn := fn) hX A hr hv hy
  have A' := (A.cut [] rfl).trunc H0.length rfl hH hj (by omega)
  obtain ⟨F, hF⟩ := A.pre
  have hG : G.take H0.length = G0 := by rw [hF, h0]; simp
  rw [hG] at A'
  have hl2 : H2.length = H'.length := by rw [← nbH_len H2, ← hS, nbH_len]
  refine ⟨A.defers, v, h2, x, H2, [], v, ⟨rfl, rfl⟩, ?_, rfl, ?_, A.mix, ?_, kl_kept hkp, fun i e he hm L hL => ?_⟩
  · rw [List.append_nil, ← den_nb, ← hR, den_nb, ← hG, den_take y hi]; exact h1
  · rw [List.append_nil]
    refine ⟨by rw [hl2]; exact A'.mem.len, fun i e he => ?_, fun i j e f L M hij he hf hm hL hM hne => ?_⟩
    · obtain ⟨e', k1, _, _, k2⟩ := nb_same hS i e he
      exact k2 _ _ _ (A'.mem.ent i e' k1)
    · obtain ⟨e', k1, k2, _, _⟩ := nb_same hS i e he
      obtain ⟨f', l1, _, l2, _⟩ := nb_same hS j f hf
      exact A'.mem.sep i j e' f' L M hij k1 l1 (by rw [k2]; exact hm) hL hM (fun h => hne (l2.1 h))
  · rw [hl2, A'.mem.len]; exact Nat.le_refl _
  · rw [List.append_nil] at hL
    obtain ⟨e', k1, k2, _, _⟩ := nb_same hS i e he
    exact A'.own i e' L k1 (by rw [k2]; exact hm) hL
theorem LOOP {β : Type} {c : Code} {K : List Fr} (T' : β → List (Nat × SV)) (H' : β → Hp) (I : β → Prop) (μ : β → Nat) (z : β) (hI : I z) (A : Sy n (T' z) (H' z) ks G0 w0 G a w)
    (round : ∀ z, I z → ∀ {G a w}, Sy n (T' z) (H' z) ks G0 w0 G a w → Goal P Q (.lp (fun a w => ∃ z' G, μ z' < μ z ∧ I z' ∧ Sy n (T' z') (H' z') ks G0 w0 G a w) :: K) (.code c) a w) : Goal P Q K (.code (.loop c)) a w := by
  refine loop_by (fun m a w => ∃ z G, μ z = m ∧ I z ∧ Sy n (T' z) (H' z) ks G0 w0 G a w) (μ z) ⟨z, G, rfl, hI, A⟩ ?_
  rintro m a w ⟨z, G, rfl, hz, A⟩
  refine Code.wp_mono (fun e a' w' h => ?_) (round z hz A)
  cases e with
  | normal => obtain ⟨z', G', h1, h2, h3⟩ := h; exact ⟨μ z', h1, z', G', rfl, h2, h3⟩
  | _ => exact h
theorem LOOP1 {α : Type} {c : Code} {K : List Fr} (T' : α → List (Nat × SV)) (H' : α → Hp) (I : α → Prop) (μ : α → Nat) (x : α) (hI : I x) (A : Sy n (T' x) (H' x) ks G0 w0 G a w)
    (round : ∀ x, I x → ∀ {G a w}, Sy n (T' x) (H' x) ks G0 w0 G a w → Goal P Q (.lp (fun a w => ∃ x' G, μ x' < μ x ∧ I x' ∧ Sy n (T' x') (H' x') ks G0 w0 G a w) :: K) (.code c) a w) : Goal P Q K (.code (.loop c)) a w := LOOP T' H' I μ x hI A round
theorem lp_mono {c : Code} {K : List Fr} {J J' : Act → World → Prop} (h : ∀ a w, J a w → J' a w) (hg : Goal P Q (.lp J :: K) (.code c) a w) : Goal P Q (.lp J' :: K) (.code c) a w := by
  refine Code.wp_mono (fun e a' w' hq => ?_) hg
  cases e with
  | normal => exact h _ _ hq
  | _ => exact hq
theorem LOOP2 {α β : Type} {c : Code} {K : List Fr} (T' : α → β → List (Nat × SV)) (H' : α → β → Hp) (I : α → β → Prop) (μ : α → β → Nat) (x : α) (y : β) (hI : I x y) (A : Sy n (T' x y) (H' x y) ks G0 w0 G a w)
    (round : ∀ x y, I x y → ∀ {G a w}, Sy n (T' x y) (H' x y) ks G0 w0 G a w → Goal P Q (.lp (fun a w => ∃ x' y' G, μ x' y' < μ x y ∧ I x' y' ∧ Sy n (T' x' y') (H' x' y') ks G0 w0 G a w) :: K) (.code c) a w) : Goal P Q K (.code (.loop c)) a w :=
  LOOP (fun z : α × β => T' z.1 z.2) (fun z => H' z.1 z.2) (fun z => I z.1 z.2) (fun z => μ z.1 z.2) (x, y) hI A fun z hz {G a w} A => lp_mono (fun a w ⟨x', y', G, h1, h2, h3⟩ => ⟨(x', y'), G, h1, h2, h3⟩) (round z.1 z.2 hz A)
theorem LOOP3 {α β γ : Type} {c : Code} {K : List Fr} (T' : α → β → γ → List (Nat × SV)) (H' : α → β → γ → Hp) (I : α → β → γ → Prop) (μ : α → β → γ → Nat) (x : α) (y : β) (u : γ) (hI : I x y u) (A : Sy n (T' x y u) (H' x y u) ks G0 w0 G a w)
    (round : ∀ x y u, I x y u → ∀ {G a w}, Sy n (T' x y u) (H' x y u) ks G0 w0 G a w → Goal P Q (.lp (fun a w => ∃ x' y' u' G, μ x' y' u' < μ x y u ∧ I x' y' u' ∧ Sy n (T' x' y' u') (H' x' y' u') ks G0 w0 G a w) :: K) (.code c) a w) : Goal P Q K (.code (.loop c)) a w :=
  LOOP (fun z : α × β × γ => T' z.1 z.2.1 z.2.2) (fun z => H' z.1 z.2.1 z.2.2) (fun z => I z.1 z.2.1 z.2.2) (fun z => μ z.1 z.2.1 z.2.2) (x, y, u) hI A fun z hz {G a w} A => lp_mono (fun a w ⟨x', y', u', G, h1, h2, h3⟩ => ⟨(x', y', u'), G, h1, h2, h3⟩) (round z.1 z.2.1 z.2.2 hz A)
end
theorem ok_d {p : Prop} [Decidable p] {E : Ob} (h : p) (k : okE E) : okE ((decide p, true) :: E) := by unfold okE at *; simp [h, k]
theorem ok_g {b : Bool} {p : Prop} [Decidable p] {E : Ob} (h : b = true → p) (k : okE E) : okE ((!b || decide p, true) :: E) := by
  unfold okE at *
  cases b with
  | false => simp [k]
  | true => simp [h rfl, k]
theorem ok_r {b : Bool} {E : Ob} (k : okE E) : okE ((b, b) :: E) := by unfold okE at *; simp [k]
theorem own_split {w : World} {e s n : Nat} {v : Value} {xs : List Value} (h : w.ownsRow 0 e s v n xs) : ∃ (p : Option Loc), v = .slice (p.map fun L => ⟨L.b, L.pre.length, none⟩) n (0 + rm p) ∧ (∀ L, p = some L → L.pre = []) ∧ v.ownBlock = p.map (·.b) := by
  rcases h.2 with ⟨rfl, rfl⟩ | ⟨g, cap, cur, rfl, _⟩
  · exact ⟨none, rfl, fun L h => (by cases h), rfl⟩
  · exact ⟨some ⟨g, [], List.replicate cap undef, e⟩, by simp [rm], fun L h => (by cases h; rfl), rfl⟩
section
variable {P : Program} {X : Tx} {n : Nat} {ks : List Nat} {G0 : Gr} {w0 : World} {T : List (Nat × SV)} {H : Hp} {G : Gr} {a : Act} {w w' : World} {Q : Exit → Act → World → Prop} {K : List Fr} {ops : Array Oper} {o : Oper} {rest : List Oper}
theorem Sy.rowMove (A : Sy n T H ks G0 w0 G a w) {i e s m c m' c' : Nat} {f f' : Nat → List SV} {xs' : List Value} {p' : Option Loc} (hi : H[i]? = some (some (.row e s m c f)))
    (hg : w.grownBy w' (((G[i]?).getD none).map (·.b))) (hown : w'.ownsRow 0 e s (.slice (p'.map fun L => ⟨L.b, L.pre.length, none⟩) m' (c' + rm p')) m' xs') (hpre : ∀ L, p' = some L → L.pre = []) (hlies : p'.map (·.b) = ((G[i]?).getD none).map (·.b) ∨ p'.map (·.b) = some w.heap.size)
    (hf : flatV f' m' = some xs') (htot : ∀ k, ∃ vs, denL [] (f' k) = some vs ∧ vs.length = s) : Sy n T (stH H i none ++ [some (.row e s m' c' f')]) ks G0 w0 (G ++ [p']) a w' := by
  have hlen := A.mem.len
  have hilt : i < H.length := (List.getElem?_eq_some_iff.1 hi).1
  have hsl : (stH H i none).length = H.length := by rw [stH_is]; simp
  obtain ⟨q, hq⟩ : ∃ q, G[i]? = some q := ⟨G[i], by simp [← hlen, hilt]⟩
  rw [hq] at hg hlies
  simp only [Option.getD_some] at hg hlies
  have hold : ∀ (j : Nat) (x : Ent), (stH H i none ++ [some (.row e s m' c' f')])[j]? = some (some x) → (j ≠ i ∧ H[j]? = some (some x) ∧ j < H.length) ∨ (j = H.length ∧ x = .row e s m' c' f') := by
    intro j x h
    by_cases hj : j < H.length
    · rw [List.getElem?_append_left (by omega), stH_is] at h
      by_cases hji : j = i
      · subst hji; rw [List.getElem?_set_self hilt] at h; cases h
      · rw [List.getElem?_set_ne (Ne.symm hji)] at h; exact .inl ⟨hji, h, hj⟩
    · rw [List.getElem?_append_right (by omega), hsl] at h
      have : j - H.length = 0 := by
        cases hq : j - H.length with
        | zero => rfl
        | succ k => rw [hq] at h; simp at h
      rw [this] at h
      simp at h
      exact .inr ⟨by omega, h.symm⟩
  have hG : ∀ j, j < H.length → (G ++ [p'])[j]? = G[j]? := fun j hj => List.getElem?_append_left (by omega)
  have hGn : (G ++ [p'])[H.length]? = some p' := by rw [List.getElem?_append_right (by omega), hlen]; simp
  -- others lie elsewhere
  have hoff : ∀ (j : Nat) (x : Ent) (L : Loc), j ≠ i → H[j]? = some (some x) → G[j]? = some (some L) → ¬ x.empty → q.map (·.b) ≠ some L.b ∧ L.b < w.heap.size := by
    intro j x L hji hx hL hne
    have hlt : L.b < w.heap.size := by
      have := A.mem.ent j x hx
      rw [hL] at this
      exact EntOK.lt this hne
    refine ⟨fun hb => ?_, hlt⟩
    cases q with
    | none => cases hb
    | some M =>
      simp only [Option.map_some, Option.some.injEq] at hb
      exact A.mem.sep i j _ x M L (Ne.symm hji) hi hx rfl hq hL hne hb
  have hmx : Mix (match q with | some M => [M.b] | none => []) w w' := ⟨hg.os, hg.tape, hg.output, hg.size, fun k hk hc => hg.block k hk (fun hb => by
    cases q with
    | none => cases hb
    | some M => simp at hb hc; exact hc hb)⟩
  have hnew : ∀ L, p' = some L → (ks.contains L.b = true ∨ w0.heap.size ≤ L.b) := by
    intro L hL
    subst hL
    rcases hlies with h | h
    · cases q with
      | none => cases h
      | some M => simp at h; rw [h]; exact A.own i _ M hi rfl hq
    · simp at h; right; rw [h]; exact A.mix.size
  refine ⟨A.size, A.defers, fun t x hx => den_mono _ x (A.get t x hx), ⟨by simp [hsl, hlen], ?_, ?_⟩, ?_, ?_, ?_⟩
  · intro j x h
    rcases hold j x h with ⟨h1, h2, h3⟩ | ⟨rfl, rfl⟩
    · rw [hG j h3]
      refine ((A.mem.ent j x h2).mix hmx fun hne L hL => ?_).more _
      have := (hoff j x L h1 h2 (get_loc hL) hne).1
      cases q with
      | none => rfl
      | some M => simp at this ⊢; exact fun h => this h.symm
    · rw [hGn]; exact ⟨htot, hpre, xs', hf, hown⟩
  · intro j k x y L M hjk h1 h2 h3 h4 h5 h6
    rcases hold j x h1 with ⟨a1, a2, a3⟩ | ⟨rfl, rfl⟩
    · rw [hG j a3] at h4
      rcases hold k y h2 with ⟨b1, b2, b3⟩ | ⟨rfl, rfl⟩
      · rw [hG k b3] at h5; exact A.mem.sep j k x y L M hjk a2 b2 h3 h4 h5 h6
      · rw [hGn] at h5
        cases h5
        obtain ⟨g1, g2⟩ := hoff j x L a1 a2 h4 (mut_full h3)
        intro hLM
        rcases hlies with h | h
        · rw [← h] at g1; simp at g1; exact g1 hLM.symm
        · simp at h; omega
    · rw [hGn] at h4
      cases h4
      rcases hold k y h2 with ⟨b1, b2, b3⟩ | ⟨rfl, rfl⟩
      · rw [hG k b3] at h5
        obtain ⟨g1, g2⟩ := hoff k y M b1 b2 h5 h6
        intro hLM
        rcases hlies with h | h
        · rw [← h] at g1; simp at g1; exact g1 hLM
        · simp at h; omega
      · exact absurd rfl hjk
  · obtain ⟨F, hF⟩ := A.pre; exact ⟨F ++ [p'], by rw [hF, List.append_assoc]⟩
  · intro j x L h1 h2 h3
    rcases hold j x h1 with ⟨a1, a2, a3⟩ | ⟨rfl, rfl⟩
    · rw [hG j a3] at h3; exact A.own j x L a2 h2 h3
    · rw [hGn] at h3; cases h3; exact hnew L rfl
  · refine A.mix.mix hmx fun k hk hc => ?_
    cases q with
    | none => rfl
    | some M =>
      simp only [List.contains_cons, List.contains_nil, Bool.or_false, beq_eq_false_iff_ne, ne_eq]
      intro hkM
      subst hkM
      rcases A.own i _ M hi rfl hq with h | h
      · rw [h] at hc; cases hc
      · omega
theorem Sy.nilRow (A : Sy n T H ks G0 w0 G a w) (t e s : Nat) (f : Nat → List SV) (h : look T t = some (.sla none 0 0)) (htot : ∀ k, ∃ vs, denL [] (f k) = some vs ∧ vs.length = s) : Sy n ((t, .sl H.length 0 0) :: T) (H ++ [some (.row e s 0 0 f)]) ks G0 w0 (G ++ [none]) a w := by
  have hlen := A.mem.len
  have hold : ∀ (j : Nat) (x : Ent), (H ++ [some (.row e s 0 0 f)])[j]? = some (some x) → (H[j]? = some (some x) ∧ j < H.length) ∨ (j = H.length ∧ x = .row e s 0 0 f) := by
    intro j x h
    by_cases hj : j < H.length
    · rw [List.getElem?_append_left hj] at h; exact .inl ⟨h, hj⟩
    · rw [List.getElem?_append_right (by omega)] at h
      have : j - H.length = 0 := by
        cases hq : j - H.length with
        | zero => rfl
        | succ k => rw [hq] at h; simp at h
      rw [this] at h
      simp at h
      exact .inr ⟨by omega, h.symm⟩
  have hG : ∀ j, j < H.length → (G ++ [(none : Option Loc)])[j]? = G[j]? := fun j hj => List.getElem?_append_left (by omega)
  have hGn : (G ++ [(none : Option Loc)])[H.length]? = some none := by rw [List.getElem?_append_right (by omega), hlen]; simp
  have A1 : Sy n T (H ++ [some (.row e s 0 0 f)]) ks G0 w0 (G ++ [none]) a w := by
    refine ⟨A.size, A.defers, fun t x hx => den_mono _ x (A.get t x hx), ⟨by simp [hlen], ?_, ?_⟩, ?_, ?_, A.mix⟩
    · intro j x h
      rcases hold j x h with ⟨h2, h3⟩ | ⟨rfl, rfl⟩
      · rw [hG j h3]; exact (A.mem.ent j x h2).more _
      · rw [hGn]; exact ⟨htot, fun L h => (by cases h), [], rfl, by simp, .inl ⟨rfl, rfl⟩⟩
    · intro j k x y L M hjk h1 h2 h3 h4 h5 h6
      rcases hold j x h1 with ⟨a2, a3⟩ | ⟨rfl, rfl⟩
      · rw [hG j a3] at h4
        rcases hold k y h2 with ⟨b2, b3⟩ | ⟨rfl, rfl⟩
        · rw [hG k b3] at h5; exact A.mem.sep j k x y L M hjk a2 b2 h3 h4 h5 h6
        · rw [hGn] at h5; cases h5
      · rw [hGn] at h4; cases h4
    · obtain ⟨F, hF⟩ := A.pre; exact ⟨F ++ [none], by rw [hF, List.append_assoc]⟩
    · intro j x L h1 h2 h3
      rcases hold j x h1 with ⟨a2, a3⟩ | ⟨rfl, rfl⟩
      · rw [hG j a3] at h3; exact A.own j x L a2 h2 h3
      · rw [hGn] at h3; cases h3
  refine ⟨A1.size, A1.defers, fun u x hx => ?_, A1.mem, A1.pre, A1.own, A1.mix⟩
  simp only [look] at hx
  cases hb : Nat.beq t u with
  | true =>
    rw [hb] at hx
    cases hx
    have := Nat.eq_of_beq_eq_true hb
    subst this
    have := A.get t _ h
    simp only [den, Option.some.injEq] at this
    unfold den
    rw [hGn, ← this]; rfl
  | false => rw [hb] at hx; exact A1.get u x hx
def appS (X : Tx) (n : Nat) (ops : Array Oper) (T : List (Nat × SV)) (H : Hp) (o : Oper) : Option ((Nat × Nat × Nat × Nat × Nat) × (Nat → List SV) × List SV × (Nat × Nat) × Ob) := match fitsD n o.dst with
  | true => match guardS ops T o.guard with
    | some .run => match o.op with
      | .call c => match c.callee, c.args.toList, c.argTypes.toList with
        | .builtin .append, [x, y], [t, t'] => match evS T x, evS T y, Nat.beq t t' with
          | some (.sl i nn cc), some (.sl j 1 1), true => match lg H i, lg H j, X.get t with
            | some (some (.row e s m c f)), some (some (.blk cs)), some ti => match ti.elm, onesS cs with
              | some (e', s', b), some E => match Nat.beq e e' && Nat.beq s s' && Nat.beq cs.length s && Nat.ble b 10000 && inL 0 cs with
                | true => some ((i, e, s, m, c), f, cs, (nn, cc), E)
                | false => none
              | _, _ => none
            | _, _, _ => none
          | _, _, _ => none
        | _, _, _ => none
      | _ => none
    | _ => none
  | false => none
theorem appE {Y : Tb} {i e s m c nn cc : Nat} {f : Nat → List SV} {cs : List SV} {E : Ob} (hX : Y.ok P = true) (m' : Nat) (f' : Nat → List SV) (h : appS ⟨Y, false⟩ n ops T H o = some ((i, e, s, m, c), f, cs, (nn, cc), E)) (hE : okE E) (h1 : nn = m) (h2 : cc = c) (hb : m ≤ 1000000) (hm' : m' = m + 1)
    (hf : ∀ k, k < m → f' k = f k) (hn : f' m = cs) (htot : ∀ k, ∃ vs, denL [] (f' k) = some vs ∧ vs.length = s) : EffOK P n ops ks G0 w0 T H o (.sl H.length m' 0) (stH H i none ++ [some (.row e s m' 0 f')]) := by
  intro G a w A
  subst hm'
  obtain ⟨d, op, ty, pos, af, gd⟩ := o
  unfold appS at h
  split at h
  · next hd =>
    split at h
    · next hg =>
      have hw := gd_run (gd := none) A hg
      split at h
      · next ca hca =>
        simp only at hca
        subst hca
        obtain ⟨callee, args, ats⟩ := ca
        simp only at h
        split at h
        · next x y t t' ha ht =>
          split at h
          · next i' nn' cc' j hx hy htt =>
            split at h
            · next e' s' m' c1 f1 cs' ti hi hj hti =>
              split at h
              · next e2 s2 b E' hel hon =>
                split at h
                · next hck =>
                  cases h
                  subst h1; subst h2
                  simp only [Bool.and_eq_true] at hck
                  obtain ⟨⟨⟨⟨c1, c2⟩, c3⟩, c4⟩, c5⟩ := hck
                  have e1 := Nat.eq_of_beq_eq_true c1
                  have e2 := Nat.eq_of_beq_eq_true c2
                  have e3 := Nat.eq_of_beq_eq_true c3
                  have e4 := Nat.eq_of_beq_eq_true htt
                  have hby := Nat.le_of_ble_eq_true c4
                  subst e1; subst e2; subst e4
                  rw [lg_is] at hi hj
                  have hargs : args = #[x, y] := by have := congrArg List.toArray ha; simpa using this
                  have hats : ats = #[t, t] := by have := congrArg List.toArray ht; simpa using this
                  subst hargs; subst hats
                  obtain ⟨r1, r2, xs, r3, r4⟩ := A.mem.ent i _ hi
                  obtain ⟨L, vs, b1, b2, b3⟩ := A.mem.ent j _ hj
                  obtain ⟨ie, z, f1', f2', f3', f4', f5', f6', f7'⟩ := elem_facts (ti_elm (i := ti) (Tb.at (X := Y) hX hti) hel)
                  have hvx := A.ev hx
                  have hvy := A.ev hy
                  obtain ⟨q, hq⟩ : ∃ q, G[i]? = some q := by
                    have : i < G.length := by rw [← A.mem.len]; exact (List.getElem?_eq_some_iff.1 hi).1
                    exact ⟨G[i], by simp [this]⟩
                  rw [hq] at r2 r4
                  simp only [Option.getD_some] at r2 r4
                  unfold den at hvx hvy
                  rw [hq] at hvx
                  rw [get_loc b1] at hvy
                  simp only [Option.some.injEq] at hvx hvy
                  have hvs0 : denL [] cs = some vs := by
                    have := denL_take' (G := G) cs c5
                    simp only [List.take_zero] at this
                    rw [this]; exact b2
                  have hvl : vs.length = s := by rw [denL_len b2, e3]
                  have hrange := EntOK.range (A.mem.ent j _ hj)
                  obtain ⟨L2, vs2, g1, g2, g3⟩ := hrange
                  rw [b1] at g1; cases g1
                  rw [b2] at g2; cases g2
                  have hone := onesS_spec hon hE b2
                  have hmul : (nn + 1) * b ≤ 1000001 * 10000 := Nat.mul_le_mul (by omega) hby
                  obtain ⟨v', w', hr, k1, k2, _, k4⟩ := run_append_own_at (P := P) w 0 t ty e ie z s b f1' f2' f3' f4' f5' f6' f7' _ nn xs r4 ⟨L.b, L.pre.length, none⟩ 1 (1 + rm (some L)) vs (by omega)
                    (fun j u hj => by rw [Addr.add_mid]; exact g3 j u hj) (fun u hu => (List.all_eq_true.1 hone) u hu) (by simp only [maxLen]; omega) (by omega) (Nat.zero_le _)
                  obtain ⟨p', o1, o2, o3⟩ := own_split k1
                  have hflat : flatV f' (nn + 1) = some (xs ++ vs) := by
                    unfold flatV
                    rw [flat_congr hf, r3, hn, hvs0]
                  have hob : Value.ownBlock (.slice (q.map fun L => ⟨L.b, L.pre.length, none⟩) nn (cc + rm q)) = q.map (·.b) := by cases q <;> rfl
                  rw [hob] at k2 k4
                  rw [o3] at k4
                  rw [o1] at k1
                  refine does_val (v := v') (w' := w') hw ?_ ?_
                  · unfold execOp
                    simp only [resolve, invoke, builtin, Sem.run_bind, Sem.run_pure, Result.andThen_ok, List.map_toArray, List.map_cons, List.map_nil, ← hvx, ← hvy]
                    simp only [Option.map_some] at hr ⊢
                    simp only [hr, Result.andThen_ok]
                  · have A2 := A.rowMove (p' := p') hi (by rw [hq]; exact k2) k1 o2 (by rw [hq]; exact k4) hflat htot
                    refine ⟨[p'], ?_, A2.ms⟩
                    unfold den
                    rw [List.getElem?_append_right (by rw [A.mem.len]; exact Nat.le_refl _), A.mem.len]
                    simp [o1]
                · cases h
              · cases h
            · cases h
          · cases h
        · cases h
      · cases h
    · cases h
  · cases h
theorem q_eff {x : SV} {H' : Hp} (A : Sy n T H ks G0 w0 G a w) (hd : fitsD n o.dst = true) (h : EffOK P n ops ks G0 w0 T H o x H') (hk : ∀ {G a w}, Sy n (extS T o.dst x) H' ks G0 w0 G a w → Goal P Q K (.ops ops rest) a w) : Goal P Q K (.ops ops (o :: rest)) a w := by
  refine q_does (Q := wpK P Q K) ?_
  rcases h G a w A with ⟨hw, h⟩ | ⟨hw, F, h1, h2⟩
  · refine .inl ⟨hw, fun Q' => ?_⟩
    refine Oper.wp_mono (fun a' w' hh => ?_) (h Q')
    obtain ⟨v, rfl, F, h1, h2⟩ := hh
    exact ⟨v, rfl, hk (Sy.put (h2.sy A.size A.defers fun t y hy => den_mono F y (A.get t y hy)) hd h1)⟩
  · exact .inr ⟨hw, hk (Sy.put (h2.sy A.size A.defers fun t y hy => den_mono F y (A.get t y hy)) hd h1)⟩
theorem app_fits {X : Tx} {r : (Nat × Nat × Nat × Nat × Nat) × (Nat → List SV) × List SV × (Nat × Nat) × Ob} (h : appS X n ops T H o = some r) : fitsD n o.dst = true := by
  unfold appS at h
  split at h
  · next hd => exact hd
  · cases h
theorem APP1 {Y : Tb} {i e s m c nn cc : Nat} {f : Nat → List SV} {cs : List SV} {E : Ob} (hX : Y.ok P = true) (m' : Nat) (f' : Nat → List SV) (A : Sy n T H ks G0 w0 G a w) (h : appS ⟨Y, false⟩ n ops T H o = some ((i, e, s, m, c), f, cs, (nn, cc), E)) (hE : okE E) (h1 : nn = m) (h2 : cc = c) (hb : m ≤ 1000000) (hm' : m' = m + 1)
    (hf : ∀ k, k < m → f' k = f k) (hn : f' m = cs) (htot : ∀ k, ∃ vs, denL [] (f' k) = some vs ∧ vs.length = s)
    (hk : ∀ {G a w}, Sy n (extS T o.dst (.sl H.length m' 0)) (stH H i none ++ [some (.row e s m' 0 f')]) ks G0 w0 G a w → Goal P Q K (.ops ops rest) a w) : Goal P Q K (.ops ops (o :: rest)) a w :=
  q_eff A (app_fits h) (appE hX m' f' h hE h1 h2 hb hm' hf hn htot) hk
end
theorem flat_inv {f : Nat → List SV} {s : Nat} (hs : ∀ k, ∃ vs, denL [] (f k) = some vs ∧ vs.length = s) : ∀ {n : Nat} {xs : List Value}, flatV f n = some xs → ∀ (j : Nat) (u : Value), xs[j]? = some u → ∃ k q vs, k < n ∧ denL [] (f k) = some vs ∧ vs[q]? = some u ∧ j = k * s + q
  | 0, xs, h, j, u, hj => by cases h; cases hj
  | n + 1, xs, h, j, u, hj => by
    unfold flatV at h
    obtain ⟨vs, h1, h2⟩ := hs n
    split at h
    · next l hl =>
      rw [h1] at h
      cases h
      have hll := flat_len hs hl
      by_cases hjl : j < l.length
      · rw [List.getElem?_append_left hjl] at hj
        obtain ⟨k, q, us, a1, a2, a3, a4⟩ := flat_inv hs hl j u hj
        exact ⟨k, q, us, by omega, a2, a3, a4⟩
      · rw [List.getElem?_append_right (by omega)] at hj
        exact ⟨n, j - l.length, vs, by omega, h1, hj, by omega⟩
    · cases h
theorem flat_take {f : Nat → List SV} {s : Nat} (hs : ∀ k, ∃ vs, denL [] (f k) = some vs ∧ vs.length = s) : ∀ {n : Nat} {xs : List Value}, flatV f n = some xs → ∀ m, m ≤ n → flatV f m = some (xs.take (m * s))
  | 0, xs, h, m, hm => by
    cases h
    have : m = 0 := by omega
    subst this
    simp [flatV]
  | n + 1, xs, h, m, hm => by
    by_cases hmn : m = n + 1
    · subst hmn
      rw [List.take_of_length_le (by rw [flat_len hs h]; exact Nat.le_refl _)]; exact h
    · unfold flatV at h
      obtain ⟨vs, h1, h2⟩ := hs n
      split at h
      · next l hl =>
        rw [h1] at h
        cases h
        have hll := flat_len hs hl
        have hmul : m * s ≤ n * s := Nat.mul_le_mul_right s (by omega)
        rw [List.take_append_of_le_length (by omega)]
        exact flat_take hs hl m (by omega)
      · cases h
theorem flat_more {f : Nat → List SV} : ∀ (m n : Nat) {xs ys : List Value}, flatV f n = some xs → flatV (fun k => f (n + k)) m = some ys → flatV f (n + m) = some (xs ++ ys)
  | 0, n, xs, ys, h, k => by cases k; simpa using h
  | m + 1, n, xs, ys, h, k => by
    unfold flatV at k
    split at k
    · next l hl =>
      split at k
      · next vs hv =>
        cases k
        rw [show n + (m + 1) = (n + m) + 1 by omega]
        unfold flatV
        rw [flat_more m n h hl, hv]
        simp
      · cases k
    · cases k
theorem flat_set {f f' : Nat → List SV} {s k : Nat} {vs' : List Value} (hs : ∀ k, ∃ vs, denL [] (f k) = some vs ∧ vs.length = s) (hne : ∀ j, j ≠ k → f' j = f j) (hk : denL [] (f' k) = some vs') (hl : vs'.length = s) : ∀ {n : Nat} {xs : List Value}, flatV f n = some xs → k < n → flatV f' n = some (xs.take (k * s) ++ vs' ++ xs.drop ((k + 1) * s))
  | 0, xs, h, hkn => by omega
  | n + 1, xs, h, hkn => by
    unfold flatV at h
    obtain ⟨vs, h1, h2⟩ := hs n
    split at h
    · next l hll =>
      rw [h1] at h
      cases h
      have hlen := flat_len hs hll
      unfold flatV
      by_cases hk2 : k = n
      · subst hk2
        rw [flat_congr (g := f) (fun j hj => hne j (by omega)), hll, hk]
        simp only [Option.some.injEq]
        rw [List.take_append_of_le_length (by omega), List.take_of_length_le (by omega), List.drop_of_length_le (by simp [Nat.add_mul]; omega)]
        simp
      · rw [flat_set hs hne hk hl hll (by omega), hne n (fun e => hk2 e.symm), h1]
        simp only [Option.some.injEq]
        have hmul : (k + 1) * s ≤ n * s := Nat.mul_le_mul_right s (by omega)
        have hmul2 : (k + 1) * s = k * s + s := by simp [Nat.add_mul]
        rw [List.take_append_of_le_length (by omega), List.drop_append_of_le_length (by omega)]
        simp
    · cases h
section
variable {P : Program} {X : Tx} {n : Nat} {ks : List Nat} {G0 : Gr} {w0 : World} {T : List (Nat × SV)} {H : Hp} {G : Gr} {a : Act} {w w' : World} {Q : Exit → Act → World → Prop} {K : List Fr} {ops : Array Oper} {o : Oper} {rest : List Oper}
theorem Sy.asList (A : Sy n T H ks G0 w0 G a w) (i : Nat) {s m : Nat} {f g : Nat → List SV} {e : Ent} (hi : H[i]? = some (some e)) (he : (∃ ty c, e = .row ty s m c f) ∨ ∃ cs, e = .blk cs ∧ ∀ k, k < m → tk s (dp (k * s) cs) = some (f k) ∧ inL 0 (f k) = true) (hg : ∀ k, k < m → g k = f k) (htot : ∀ k, ∃ vs, denL [] (g k) = some vs) : Sy n T (stH H i (some (.lst s m g))) ks G0 w0 G a w := by
  have hilt : i < H.length := (List.getElem?_eq_some_iff.1 hi).1
  have hmut : e.mut = true := by rcases he with ⟨_, _, rfl⟩ | ⟨_, rfl, _⟩ <;> rfl
  have hold : ∀ (j : Nat) (x : Ent), (stH H i (some (.lst s m g)))[j]? = some (some x) → (j ≠ i ∧ H[j]? = some (some x)) ∨ (j = i ∧ x = .lst s m g) := by
    intro j x h
    rw [stH_is] at h
    by_cases hj : j = i
    · subst hj; rw [List.getElem?_set_self hilt] at h; cases h; exact .inr ⟨rfl, rfl⟩
    · rw [List.getElem?_set_ne (Ne.symm hj)] at h; exact .inl ⟨hj, h⟩
  refine ⟨A.size, A.defers, A.get, ⟨by rw [stH_is]; simpa using A.mem.len, ?_, ?_⟩, A.pre, ?_, A.mix⟩
  · intro j x h
    rcases hold j x h with ⟨k1, k2⟩ | ⟨rfl, rfl⟩
    · exact A.mem.ent j x k2
    · refine ⟨htot, ?_⟩
      by_cases h0 : m = 0
      · exact .inl h0
      · right
        have hent := A.mem.ent j e hi
        rcases he with ⟨ty, c, rfl⟩ | ⟨cs, rfl, hcs⟩
        · obtain ⟨L, _, q1, _⟩ := row_range hent (k := 0) (by omega)
          have hlt : L.b < w.heap.size := by rw [q1] at hent; exact EntOK.lt hent (fun h => h)
          refine ⟨L, q1, hlt, fun k hk => ?_⟩
          obtain ⟨L', vs, r1, r2, _, r4⟩ := row_range hent hk
          rw [q1] at r1; cases r1
          exact ⟨vs, by rw [hg k hk]; exact r2, r4⟩
        · obtain ⟨L, us, q1, q2, q3⟩ := hent.range
          have hlt : L.b < w.heap.size := by rw [q1] at hent; exact EntOK.lt hent (fun h => h)
          refine ⟨L, q1, hlt, fun k hk => ?_⟩
          obtain ⟨r1, r2⟩ := hcs k hk
          obtain ⟨r3, r4⟩ := tk_is r1
          rw [dp_is] at r3 r4
          have hd : denL G (f k) = some ((us.drop (k * s)).take s) := by rw [r3]; exact denL_take s (denL_drop _ q2)
          refine ⟨(us.drop (k * s)).take s, ?_, fun q v hv => ?_⟩
          · rw [hg k hk]
            have := denL_take' (G := G) (f k) r2
            simp only [List.take_zero] at this
            rw [this]; exact hd
          · have hq := (List.getElem?_eq_some_iff.1 hv).1
            simp only [List.length_take, List.length_drop] at hq
            rw [List.getElem?_take_of_lt (by omega), List.getElem?_drop] at hv
            have := q3 _ v hv
            rwa [← Nat.add_assoc] at this
  · intro j k x y L M hjk h1 h2 h3 h4 h5 h6
    rcases hold j x h1 with ⟨_, a2⟩ | ⟨rfl, rfl⟩
    · rcases hold k y h2 with ⟨_, b2⟩ | ⟨rfl, rfl⟩
      · exact A.mem.sep j k x y L M hjk a2 b2 h3 h4 h5 h6
      · exact A.mem.sep j k x e L M hjk a2 hi h3 h4 h5 (mut_full hmut)
    · cases h3
  · intro j x L h1 h2 h3
    rcases hold j x h1 with ⟨_, a2⟩ | ⟨rfl, rfl⟩
    · exact A.own j x L a2 h2 h3
    · cases h2
theorem Sy.freeze (A : Sy n T H ks G0 w0 G a w) (i : Nat) {e s m c : Nat} {f : Nat → List SV} (h : lg H i = some (some (.row e s m c f))) : Sy n T (stH H i (some (.lst s m f))) ks G0 w0 G a w := by
  rw [lg_is] at h
  exact A.asList i h (.inl ⟨e, c, rfl⟩) (fun _ _ => rfl) (fun k => by obtain ⟨vs, h1, _⟩ := (A.mem.ent i _ h).1 k; exact ⟨vs, h1⟩)
theorem Sy.rowSet (A : Sy n T H ks G0 w0 G a w) {i e s m c k q : Nat} {f f' : Nat → List SV} {l : List SV} {us : List Value} (hi : H[i]? = some (some (.row e s m c f))) (hk : k < m) (hne : ∀ j, j ≠ k → f' j = f j) (hsp : sp q (f k) l = some (f' k)) (hl : denL [] l = some us) : ∃ L, G[i]? = some (some L) ∧ L.pre = [] ∧ (∀ j, j < l.length → (w.cell? ⟨L.b, k * s + q + j, none⟩).isSome = true ∧ w.frozen? ⟨L.b, k * s + q + j, none⟩ = false) ∧
    Upd L.b w (w.setCells L.b (k * s + q) us) ∧ Sy n T (stH H i (some (.row e s m c f'))) ks G0 w0 G a (w.setCells L.b (k * s + q) us) := by
  have hilt : i < H.length := (List.getElem?_eq_some_iff.1 hi).1
  obtain ⟨h1, h2, xs, h3, h4, h5⟩ := A.mem.ent i _ hi
  obtain ⟨vs, v1, v2⟩ := h1 k
  obtain ⟨p1, p2⟩ := sp_is hsp
  have hul := denL_len hl
  have hfk : denL [] (f' k) = some (vs.take q ++ us ++ vs.drop (q + l.length)) := by rw [p1]; exact denL_app (denL_app (denL_take q v1) hl) (denL_drop _ v1)
  have hfl : (f k).length = s := by rw [← denL_len v1]; exact v2
  have htot : ∀ j, ∃ vs, denL [] (f' j) = some vs ∧ vs.length = s := fun j => by
    by_cases hj : j = k
    · subst hj; exact ⟨_, hfk, by simp; omega⟩
    · rw [hne j hj]; exact h1 j
  rcases h5 with ⟨_, h5⟩ | ⟨g, cap, cur, q1, _, q3, q4, q5, q6, q7⟩
  · omega
  cases hp : (G[i]?).getD none with
  | none => rw [hp] at q1; cases q1
  | some L =>
    rw [hp] at q1
    simp only [Option.map_some, Value.slice.injEq, Option.some.injEq, Addr.mk.injEq] at q1
    obtain ⟨⟨q8, q9, _⟩, _, q10⟩ := q1
    have hpre := h2 L hp
    subst q8
    have hxl := flat_len h1 h3
    have hm1 : (k + 1) * s ≤ m * s := Nat.mul_le_mul_right s (by omega)
    have hm2 : (k + 1) * s = k * s + s := by simp [Nat.add_mul]
    have hcs : m * s ≤ cap * s := Nat.mul_le_mul_right s q4
    have hcl : cur.toList.length = cap * s := by simpa using q6
    have hsplit : cur.toList = cur.toList.take (k * s + q) ++ (cur.toList.drop (k * s + q)).take l.length ++ cur.toList.drop (k * s + q + l.length) := by
      have e2 : cur.toList.drop (k * s + q + l.length) = (cur.toList.drop (k * s + q)).drop l.length := by rw [List.drop_drop]
      rw [e2, List.append_assoc, List.take_append_drop, List.take_append_drop]
    have hblk : Blk w L.b (cur.toList.take (k * s + q) ++ (cur.toList.drop (k * s + q)).take l.length ++ cur.toList.drop (k * s + q + l.length)).toArray e := by rw [← hsplit]; unfold Blk; simpa using q3
    have hA : (cur.toList.take (k * s + q)).length = k * s + q := by simp; omega
    obtain ⟨g1, g2⟩ := blk_cells us _ _ _ w (by simp; omega) hblk
    rw [hA] at g1 g2
    refine ⟨L, get_loc hp, hpre, fun j hj => ⟨?_, ?_⟩, g2, ?_⟩
    · have hlt : k * s + q + j < cur.size := by omega
      rw [cell_of_row w L.b _ cur e _ q3, Array.getElem?_eq_getElem hlt]; rfl
    · have : Blk w L.b cur e := q3
      exact this.frozen _
    have hold : ∀ (j : Nat) (x : Ent), (stH H i (some (.row e s m c f')))[j]? = some (some x) → (j ≠ i ∧ H[j]? = some (some x)) ∨ (j = i ∧ x = .row e s m c f') := by
      intro j x h
      rw [stH_is] at h
      by_cases hj : j = i
      · subst hj; rw [List.getElem?_set_self hilt] at h; cases h; exact .inr ⟨rfl, rfl⟩
      · rw [List.getElem?_set_ne (Ne.symm hj)] at h; exact .inl ⟨hj, h⟩
    refine ⟨A.size, A.defers, A.get, ⟨by rw [stH_is]; simpa using A.mem.len, ?_, ?_⟩, A.pre, ?_, A.mix.upd g2 (A.own i _ L hi rfl (get_loc hp))⟩
    · intro j x h
      rcases hold j x h with ⟨k1, k2⟩ | ⟨rfl, rfl⟩
      · refine (A.mem.ent j x k2).mix g2.mix fun hnx M hM => ?_
        have := A.mem.sep i j _ x L M (Ne.symm k1) hi k2 rfl (get_loc hp) (get_loc hM) hnx
        simp; exact fun e => this e.symm
      · rw [hp]
        refine ⟨htot, fun L' hL' => by cases hL'; exact hpre, _, flat_set h1 hne hfk (by simp; omega) h3 hk, ?_, .inr ⟨L.b, cap, _, ?_, Nat.zero_le _, g1, q4, q5, ?_, ?_⟩⟩
        · simp; omega
        · simp [hpre, q10]
        · simp; omega
        · rw [← q7]
          simp only [List.toList_toArray]
          apply List.ext_getElem?
          intro z
          by_cases hz : z < m * s
          · rw [List.getElem?_take_of_lt hz]
            have hvk : ∀ z', z' < s → vs[z']? = cur.toList[k * s + z']? := fun z' hz' => by
              obtain ⟨us', u1, u2⟩ := flat_at h1 h3 k hk
              rw [v1] at u1; cases u1
              have hh : vs[z']? = some (vs[z']'(by omega)) := List.getElem?_eq_getElem (by omega)
              have := u2 z' _ hh
              rw [← q7, List.getElem?_take_of_lt (by omega)] at this
              rw [hh, this]
            by_cases c1 : z < k * s
            · rw [List.append_assoc, List.append_assoc, List.getElem?_append_left (by simp; omega), List.getElem?_take_of_lt (by omega)]
              rw [List.append_assoc, List.getElem?_append_left (by simp; omega), List.getElem?_take_of_lt c1, List.getElem?_take_of_lt (by omega)]
            · by_cases c2 : z < k * s + q
              · rw [List.append_assoc, List.getElem?_append_left (by simp; omega), List.getElem?_take_of_lt (by omega)]
                rw [List.append_assoc, List.getElem?_append_right (by simp; omega), List.append_assoc, List.append_assoc, List.getElem?_append_left (by simp; omega), List.getElem?_take_of_lt (by simp; omega)]
                have := hvk (z - k * s) (by omega)
                rw [show k * s + (z - k * s) = z by omega] at this
                rw [← this]; congr 1; simp; omega
              · by_cases c3 : z < k * s + q + l.length
                · rw [List.append_assoc, List.getElem?_append_right (by simp; omega), List.getElem?_append_left (by simp; omega)]
                  rw [List.append_assoc, List.getElem?_append_right (by simp; omega), List.append_assoc, List.append_assoc, List.getElem?_append_right (by simp; omega), List.getElem?_append_left (by simp; omega)]
                  congr 1; simp; omega
                · by_cases c4 : z < k * s + s
                  · rw [List.getElem?_append_right (by simp; omega), List.getElem?_drop]
                    rw [List.append_assoc, List.getElem?_append_right (by simp; omega), List.getElem?_append_left (by simp; omega), List.getElem?_append_right (by simp; omega), List.getElem?_drop]
                    have := hvk (z - k * s) (by omega)
                    rw [show k * s + (z - k * s) = z by omega] at this
                    rw [show k * s + q + l.length + (z - (List.take (k * s + q) cur.toList ++ us).length) = z by simp; omega, ← this]
                    congr 1; simp; omega
                  · rw [List.getElem?_append_right (by simp; omega), List.getElem?_drop]
                    rw [List.getElem?_append_right (by simp; omega), List.getElem?_drop, List.getElem?_take_of_lt (by simp; omega)]
                    congr 1; simp; omega
          · rw [List.getElem?_eq_none (by simp; omega), List.getElem?_eq_none (by simp; omega)]
    · intro j k' x y L' M hjk b1 b2 b3 b4 b5 b6
      have a1 : ∃ x', H[j]? = some (some x') ∧ x'.mut = x.mut := by
        rcases hold j x b1 with ⟨_, k2⟩ | ⟨rfl, rfl⟩
        · exact ⟨x, k2, rfl⟩
        · exact ⟨_, hi, rfl⟩
      have a2 : ∃ y', H[k']? = some (some y') ∧ ¬ y'.empty := by
        rcases hold k' y b2 with ⟨_, k2⟩ | ⟨rfl, rfl⟩
        · exact ⟨y, k2, b6⟩
        · exact ⟨_, hi, fun h => h⟩
      obtain ⟨x', c1, c2⟩ := a1
      obtain ⟨y', c3, c4⟩ := a2
      exact A.mem.sep j k' x' y' L' M hjk c1 c3 (by rw [c2]; exact b3) b4 b5 c4
    · intro j x L' b1 b2 b3
      rcases hold j x b1 with ⟨_, k2⟩ | ⟨rfl, rfl⟩
      · exact A.own j x L' k2 b2 b3
      · exact A.own j _ L' hi rfl b3
end
section
variable {P : Program} {Y : Tb} {n : Nat} {ks : List Nat} {G0 : Gr} {w0 : World} {T : List (Nat × SV)} {H : Hp} {G : Gr} {a : Act} {w w' : World} {Q : Exit → Act → World → Prop} {K : List Fr} {ops : Array Oper} {o : Oper} {rest : List Oper}
def strS (Y : Tb) (n : Nat) (ops : Array Oper) (T : List (Nat × SV)) (H : Hp) (o : Oper) : Option ((Nat × Nat × Nat × Nat × Nat) × (Nat → List SV) × (Int × Nat) × List SV × Ob) := match fitsD n o.dst with
  | true => match guardS ops T o.guard with
    | some .run => match o.op with
      | .store t x y => match evS T x, evS T y with
        | some (.el i s j q), some v => match lg H i, Y.get t, cellsS v with
          | some (some (.row e s' m c f)), some ti, some l => match onesS l with
            | some E => match Nat.beq s s' && inL 0 l && (match ti.row, v with | some r, .agg _ => Nat.beq l.length r | none, .agg _ => false | none, _ => ti.one | some _, _ => false) with
              | true => some ((i, e, s, m, c), f, (j, q), l, E)
              | false => none
            | none => none
          | _, _, _ => none
        | _, _ => none
      | _ => none
    | _ => none
  | false => none
theorem strE {i e s m c q : Nat} {j : Int} {f : Nat → List SV} {l : List SV} {E : Ob} (hY : Y.ok P = true) (k : Nat) (f' : Nat → List SV) (h : strS Y n ops T H o = some ((i, e, s, m, c), f, (j, q), l, E)) (hE : okE E) (hj : j.toNat = k) (hk : k < m)
    (hne : ∀ j, j ≠ k → f' j = f j) (hsp : sp q (f k) l = some (f' k)) : EffOK P n ops ks G0 w0 T H o (.tup []) (stH H i (some (.row e s m c f'))) := by
  intro G a w A
  obtain ⟨d, op, ty, pos, af, gd⟩ := o
  unfold strS at h
  split at h
  · next hd =>
    split at h
    · next hgd =>
      have hw := gd_run (gd := none) A hgd
      split at h
      · next t x y hop =>
        simp only at hop
        subst hop
        split at h
        · next i' s' j' q' v hx hy =>
          split at h
          · next e' s2 m' c' f1 ti l' hi hti hl =>
            split at h
            · next E' hon =>
              split at h
              · next hck =>
                cases h
                rw [Bool.and_eq_true, Bool.and_eq_true] at hck
                have es := Nat.eq_of_beq_eq_true hck.1.1
                subst es
                rw [lg_is] at hi
                have hvy := A.ev hy
                have hcd := cellsS_den hl hvy
                have hcl0 : denL [] l = some (a.eval y).cells.toList := by
                  have := denL_take' (G := G) l hck.1.2
                  simp only [List.take_zero] at this
                  rw [this]; exact hcd
                obtain ⟨L, hL, hpre, hcell, hu, A2⟩ := A.rowSet hi hk hne hsp hcl0
                have hone := onesS_spec hon hE hcd
                have hlen := denL_len hcd
                have hvx := A.ev hx
                unfold den at hvx
                rw [hL] at hvx
                simp only [Option.map_some, hpre, List.length_nil, Nat.zero_add, hj, Option.some.injEq] at hvx
                have htt := Tb.at hY hti
                refine does_unit (w' := w.setCells L.b (k * s + q) (a.eval y).cells.toList) hw ?_ ⟨[], rfl, by rw [List.append_nil]; exact A2.ms⟩
                have hst : (Instr.storeAt t (.pointer (some ⟨L.b, k * s + q, none⟩)) (a.eval y)).run P w = .ok () (w.setCells L.b (k * s + q) (a.eval y).cells.toList) := by
                  cases hv2 : v with
                  | agg ll =>
                    rw [hv2] at hck hvy hl
                    cases hr : ti.row with
                    | none => rw [hr] at hck; exact absurd hck.2 (by simp)
                    | some r =>
                      rw [hr] at hck
                      have hrl := Nat.eq_of_beq_eq_true hck.2
                      unfold den at hvy
                      obtain ⟨us, u1, u2⟩ := Option.map_eq_some_iff.1 hvy
                      rw [← u2]
                      rw [← u2] at hone hlen
                      simp only [Value.cells, List.toList_toArray] at hone hlen ⊢
                      have := run_storeAt_mid (P := P) w L.b (k * s + q) t us.toArray (fun z hz => hcell z (by simp at hz; omega)) (by simp; rw [hlen, hrl]; simpa using (row_facts (ti_row htt hr)).2) (by simpa using hone)
                      simpa using this
                  | _ =>
                    all_goals
                      rw [hv2] at hck hvy hl
                      cases hr : ti.row with
                      | some r => rw [hr] at hck; exact absurd hck.2 (by simp)
                      | none =>
                        rw [hr] at hck
                        first
                        | (cases hl; done)
                        | (cases hl
                           have hc1 : (a.eval y).cells = #[a.eval y] := by
                             have h1 := hlen
                             have h2 : (a.eval y).oneCell' = true ∨ True := .inr trivial
                             have hden := hcd
                             obtain ⟨v0, ws, w1, w2, w3⟩ := denL_cons hden
                             cases w2
                             rw [hvy] at w1
                             cases w1
                             apply Array.ext'
                             simpa using w3
                           rw [hc1] at hone ⊢
                           have hc := hcell 0 (by simp)
                           simp only [Nat.add_zero] at hc
                           simp only [List.all_cons, List.all_nil, Bool.and_true] at hone
                           cases hq : w.cell? ⟨L.b, k * s + q, none⟩ with
                           | none => rw [hq] at hc; cases hc.1
                           | some u =>
                             have ho := ti_one htt hck.2
                             unfold oneB at ho
                             rw [Bool.and_eq_true] at ho
                             have hs1 : (P.info? t).map (·.size) = some 1 := by simpa using ho.2
                             cases hqi : P.info? t with
                             | none => simp [hqi] at hs1
                             | some inf =>
                               have hi1 : inf.size = 1 := by simpa [hqi] using hs1
                               have hz : (sizeOf t).run P w = .ok 1 w := by simp [sizeOf, typeInfo, hqi, hi1]
                               have hsto : (store ((⟨L.b, k * s + q, none⟩ : Addr).add 0) (a.eval y)).run P w = .ok () (w.setCell ⟨L.b, k * s + q, none⟩ (a.eval y)) := by
                                 rw [Addr.add_mid, Nat.add_zero, run_store P w _ _ _ hone, hq]
                                 simp [hc.2]
                               simp [Instr.storeAt, Instr.sureAddr, storeVar, hz, hc1, storeCells, hsto, World.setCells])
                unfold execOp
                simp only [← hvx, Sem.run_bind, hst, Result.andThen_ok, Sem.run_pure]
              · cases h
            · cases h
          · cases h
        · cases h
      · cases h
    · cases h
  · cases h
theorem str_fits {r : (Nat × Nat × Nat × Nat × Nat) × (Nat → List SV) × (Int × Nat) × List SV × Ob} (h : strS Y n ops T H o = some r) : fitsD n o.dst = true := by
  unfold strS at h
  split at h
  · next hd => exact hd
  · cases h
theorem STR {i e s m c q : Nat} {j : Int} {f : Nat → List SV} {l : List SV} {E : Ob} (hY : Y.ok P = true) (k : Nat) (f' : Nat → List SV) (A : Sy n T H ks G0 w0 G a w) (h : strS Y n ops T H o = some ((i, e, s, m, c), f, (j, q), l, E)) (hE : okE E) (hj : j.toNat = k) (hk : k < m)
    (hne : ∀ j, j ≠ k → f' j = f j) (hsp : sp q (f k) l = some (f' k)) (hg : ∀ {G a w}, Sy n (extS T o.dst (.tup [])) (stH H i (some (.row e s m c f'))) ks G0 w0 G a w → Goal P Q K (.ops ops rest) a w) : Goal P Q K (.ops ops (o :: rest)) a w :=
  q_eff A (str_fits h) (strE hY k f' h hE hj hk hne hsp) hg
def cutS (Y : Tb) (n : Nat) (ops : Array Oper) (T : List (Nat × SV)) (H : Hp) (o : Oper) : Option ((Nat × Nat × Nat) × Int × Option Ent) := match fitsD n o.dst with
  | true => match guardS ops T o.guard with
    | some .run => match o.op with
      | .slice t x none (some hi) none => match evS T x, evS T hi, Y.get t with
        | some (.sl i nn cc), some (.int .i64 j), some ti => match ti.elm, lg H i with
          | some _, some e => some ((i, nn, cc), j, e)
          | _, _ => none
        | _, _, _ => none
      | _ => none
    | _ => none
  | false => none
theorem cut_do {i nn cc : Nat} {j : Int} {en : Option Ent} (hY : Y.ok P = true) (k : Nat) (A : Sy n T H ks G0 w0 G a w) (h : cutS Y n ops T H o = some ((i, nn, cc), j, en)) (hj : j = (k : Int)) (hk : k ≤ cc + rm ((G[i]?).getD none)) : fitsD n o.dst = true ∧ H[i]? = some en ∧ ∃ p, G[i]? = some p ∧ ∀ K : Value → World → Prop, K (.slice (p.map fun L => ⟨L.b, L.pre.length, none⟩) k (cc + rm p)) w → Does P ops o a w K := by
  obtain ⟨d, op, ty, pos, af, gd⟩ := o
  unfold cutS at h
  split at h
  · next hd =>
    split at h
    · next hgd =>
      have hw := gd_run (gd := none) A hgd
      split at h
      · next t x hi hop =>
        simp only at hop
        subst hop
        split at h
        · next i' n' c' j' ti hx hh hti =>
          split at h
          · next el e' hel hlg =>
            cases h
            obtain ⟨e2, s2, b2⟩ := el
            rw [lg_is] at hlg
            have hvx := A.ev hx
            have hvh := A.ev hh
            unfold den at hvx
            split at hvx
            · next p hp =>
              rw [hp, Option.getD_some] at hk
              refine ⟨hd, hlg, p, hp, fun K hK => does_val hw ?_ hK⟩
              simp only [den, Option.some.injEq] at hvx hvh
              obtain ⟨ie, z, f1, f2, f3, f4, f5, f6, f7⟩ := elem_facts (ti_elm (Tb.at hY hti) hel)
              have hsb : (Instr.sliceBounds true nn (cc + rm p) none (some (.int .i64 (k : Int))) none).run P w = .ok (0, k, cc + rm p) w := by
                simp [Instr.sliceBounds, run_sliceBound (P := P) w .i64 (k : Int) (cc + rm p) _ (by omega) (by omega)]
              have hsz : (P.info? e2).map (·.size) = some s2 := by rw [f2]; simp [f4]
              unfold execOp
              simp only [← hvx, ← hvh, hj, Option.map_some, Option.map_none, Instr.sliceAt, Instr.slice, Sem.run_bind, run_underlying f1, hsb, Result.andThen_ok, run_size hsz, Sem.run_pure]
              cases p with
              | none => simp
              | some L => simp [Addr.add_mid]
            · cases hvx
          · cases h
        · cases h
      · cases h
    · cases h
  · cases h
theorem CUT {i nn cc e s m c : Nat} {j : Int} {f : Nat → List SV} (hY : Y.ok P = true) (k : Nat) (A : Sy n T H ks G0 w0 G a w) (h : cutS Y n ops T H o = some ((i, nn, cc), j, some (.row e s m c f))) (hj : j = (k : Int)) (hk : k ≤ m) (h2 : cc = c)
    (hg : ∀ {G a w}, Sy n (extS T o.dst (.sl H.length k c)) (stH H i none ++ [some (.row e s k c f)]) ks G0 w0 G a w → Goal P Q K (.ops ops rest) a w) : Goal P Q K (.ops ops (o :: rest)) a w := by
  subst h2
  have hcap : m ≤ cc + rm ((G[i]?).getD none) ∧ ∃ xs, flatV f m = some xs := by
    have : ∃ e', H[i]? = some (some e') ∧ e' = .row e s m cc f := by
      unfold cutS at h
      repeat' split at h
      all_goals first | (cases h; done) | skip
      all_goals (cases h; rename_i hlg; rw [lg_is] at hlg; exact ⟨_, hlg, rfl⟩)
    obtain ⟨e', g1, rfl⟩ := this
    obtain ⟨_, _, xs, g2, g3⟩ := A.mem.ent i _ g1
    refine ⟨?_, xs, g2⟩
    rcases g3.2 with ⟨q1, q2⟩ | ⟨g, cap, cur, q1, _, _, q4, _⟩
    · omega
    · cases hp : (G[i]?).getD none <;> rw [hp] at q1 <;> simp at q1; omega
  obtain ⟨hd, hi, p, hp, hdo⟩ := cut_do (P := P) hY k A h hj (by omega)
  have hent := A.mem.ent i _ hi
  rw [hp] at hent
  simp only [Option.getD_some] at hent
  obtain ⟨r1, r2, xs, r3, r4, r5⟩ := hent
  have hown : w.ownsRow 0 e s (.slice (p.map fun L => ⟨L.b, L.pre.length, none⟩) k (cc + rm p)) k (xs.take (k * s)) := by
    have hmul : k * s ≤ m * s := Nat.mul_le_mul_right s hk
    refine ⟨by simp; omega, ?_⟩
    rcases r5 with ⟨q1, q2⟩ | ⟨g, cap, cur, q1, q2, q3, q4, q5, q6, q7⟩
    · left
      cases p with
      | none => simp at q1 ⊢; omega
      | some L => simp at q1
    · right
      cases p with
      | none => cases q1
      | some L =>
        simp only [Option.map_some, Value.slice.injEq] at q1
        obtain ⟨q8, _, q9⟩ := q1
        exact ⟨g, cap, cur, by simp only [Option.map_some, q8, q9], q2, q3, by omega, q5, q6, by rw [← q7, List.take_take, Nat.min_eq_left hmul]⟩
  have A2 := A.rowMove (w' := w) (p' := p) (c' := cc) hi ⟨rfl, rfl, rfl, Nat.le_refl _, fun _ _ _ => rfl⟩ hown r2 (.inl (by rw [hp]; rfl)) (flat_take r1 r3 k hk) r1
  refine q_does (Q := wpK P Q K) (hdo _ (hg (Sy.put A2 hd ?_)))
  unfold den
  rw [List.getElem?_append_right (by rw [A.mem.len]; exact Nat.le_refl _), A.mem.len]
  simp
end
section
variable {P : Program} {Y : Tb} {n : Nat} {ks : List Nat} {G0 : Gr} {w0 : World} {T : List (Nat × SV)} {H : Hp} {G : Gr} {a : Act} {w w' : World} {Q : Exit → Act → World → Prop} {K : List Fr} {ops : Array Oper} {o : Oper} {rest : List Oper}
def aplS (Y : Tb) (n : Nat) (ops : Array Oper) (T : List (Nat × SV)) (H : Hp) (o : Oper) : Option ((Nat × Nat × Nat × Nat × Nat) × (Nat → List SV) × (Nat × Nat × Nat) × (Nat → List SV) × (Nat × Nat)) := match fitsD n o.dst with
  | true => match guardS ops T o.guard with
    | some .run => match o.op with
      | .call c => match c.callee, c.args.toList, c.argTypes.toList with
        | .builtin .append, [x, y], [t, t'] => match evS T x, evS T y, Nat.beq t t' with
          | some (.sl i nn cc), some (.sl j mm mc), true => match lg H i, partsOf (lg H j), Y.get t with
            | some (some (.row e s m c f)), some (s2, mb, g), some ti => match ti.elm with
              | some (e', s', b) => match Nat.beq e e' && Nat.beq s s' && Nat.beq s s2 && Nat.ble b 10000 with
                | true => some ((i, e, s, m, c), f, (mm, mb, mc), g, (nn, cc))
                | false => none
              | _ => none
            | _, _, _ => none
          | _, _, _ => none
        | _, _, _ => none
      | _ => none
    | _ => none
  | false => none
theorem APPL {i e s m c nn cc mm mb mc : Nat} {f g : Nat → List SV} (hY : Y.ok P = true) (m' : Nat) (f' : Nat → List SV) (A : Sy n T H ks G0 w0 G a w) (h : aplS Y n ops T H o = some ((i, e, s, m, c), f, (mm, mb, mc), g, (nn, cc))) (h1 : nn = m) (h2 : cc = c) (hc0 : c = 0) (hmb : mm ≤ mb) (hb : m ≤ 1000000) (hb2 : mm ≤ 1000000) (hm' : m' = m + mm)
    (hf : ∀ k, k < m → f' k = f k) (hn : ∀ k, k < mm → f' (m + k) = g k) (htot : ∀ k, ∃ vs, denL [] (f' k) = some vs ∧ vs.length = s) (hone : ∀ k, k < mm → ∃ E, onesS (g k) = some E ∧ okE E)
    (hk : ∀ {G a w}, Sy n (extS T o.dst (.sl H.length m' 0)) (stH H i none ++ [some (.row e s m' 0 f')]) ks G0 w0 G a w → Goal P Q K (.ops ops rest) a w) : Goal P Q K (.ops ops (o :: rest)) a w := by
  subst hm'
  obtain ⟨d, op, ty, pos, af, gd⟩ := o
  unfold aplS at h
  split at h
  · next hd =>
    split at h
    · next hgd =>
      have hw := gd_run (gd := none) A hgd
      split at h
      · next ca hca =>
        simp only at hca
        subst hca
        obtain ⟨callee, args, ats⟩ := ca
        simp only at h
        split at h
        · next x y t t' ha ht =>
          split at h
          · next i' nn' cc' j mm' mc' hx hy htt =>
            split at h
            · next e' s' m' c1 f1 s2 mb' g' ti hi hj hti =>
              split at h
              · next e2 s3 b hel =>
                split at h
                · next hck =>
                  cases h
                  subst h1; subst h2
                  simp only [Bool.and_eq_true] at hck
                  obtain ⟨⟨⟨c1, c2⟩, c3⟩, c4⟩ := hck
                  have e1 := Nat.eq_of_beq_eq_true c1
                  have e2' := Nat.eq_of_beq_eq_true c2
                  have e3 := Nat.eq_of_beq_eq_true c3
                  have e4 := Nat.eq_of_beq_eq_true htt
                  have hby := Nat.le_of_ble_eq_true c4
                  subst e1; subst e2'; subst e3; subst e4
                  rw [lg_is] at hi
                  have hargs : args = #[x, y] := by have := congrArg List.toArray ha; simpa using this
                  have hats : ats = #[t, t] := by have := congrArg List.toArray ht; simpa using this
                  subst hargs; subst hats
                  obtain ⟨r1, r2, xs, r3, r4⟩ := A.mem.ent i _ hi
                  obtain ⟨g1, g2⟩ := parts_at A.mem hj
                  obtain ⟨ie, z, f1', f2', f3', f4', f5', f6', f7'⟩ := elem_facts (ti_elm (Tb.at hY hti) hel)
                  have hvx := A.ev hx
                  have hvy := A.ev hy
                  obtain ⟨q, hq⟩ : ∃ q, G[i]? = some q := by
                    have : i < G.length := by rw [← A.mem.len]; exact (List.getElem?_eq_some_iff.1 hi).1
                    exact ⟨G[i], by simp [this]⟩
                  rw [hq] at r2 r4
                  simp only [Option.getD_some] at r2 r4
                  unfold den at hvx hvy
                  rw [hq] at hvx
                  simp only [Option.some.injEq] at hvx
                  have htg : ∀ k, k < mm → ∃ vs, denL [] (g k) = some vs ∧ vs.length = s := fun k hk => by rw [← hn k hk]; exact htot _
                  obtain ⟨ys, hys⟩ := flat_ex (f := fun k => f' (nn + k)) (fun k => htot _) mm
                  have hyl := flat_len (f := fun k => f' (nn + k)) (fun k => htot _) hys
                  have hflat : flatV f' (nn + mm) = some (xs ++ ys) := flat_more mm nn (by rw [flat_congr hf]; exact r3) hys
                  have hob : Value.ownBlock (.slice (q.map fun L => ⟨L.b, L.pre.length, none⟩) nn (cc + rm q)) = q.map (·.b) := by cases q <;> rfl
                  by_cases h0 : mm = 0
                  · subst h0
                    cases hys
                    have hsrc : Src P ie.size t (a.eval y) 0 [] w := by
                      split at hvy
                      · next p hp =>
                        rw [← Option.some.inj hvy]
                        cases p with
                        | none => exact Src.ofNil w f1' mc
                        | some L => exact Src.ofSlice w f1' _ 0 _ [] (by simp) (fun j u hj => by simp at hj) (fun u hu => by cases hu)
                      · cases hvy
                    have hnc : nn ≤ cc + rm q := by
                      rcases r4.2 with ⟨q1, q2⟩ | ⟨g, cap, cur, q1, _, _, q4, _⟩
                      · omega
                      · cases q <;> simp at q1; omega
                    have hr := run_append_nothing (P := P) w t t ty e ie f1' f2' (q.map fun L => ⟨L.b, L.pre.length, none⟩) nn (cc + rm q) hnc _ hsrc
                    refine q_does (Q := wpK P Q K) (does_val (v := .slice (q.map fun L => ⟨L.b, L.pre.length, none⟩) nn (cc + rm q)) (w' := w) hw ?_ ?_)
                    · unfold execOp
                      simp only [resolve, invoke, builtin, Sem.run_bind, Sem.run_pure, Result.andThen_ok, List.map_toArray, List.map_cons, List.map_nil, ← hvx, hr]
                    · have A2 := A.rowMove (w' := w) (p' := q) (m' := nn + 0) (c' := cc) (xs' := xs ++ []) hi ⟨rfl, rfl, rfl, Nat.le_refl _, fun _ _ _ => rfl⟩ (by simpa using r4) r2 (.inl (by rw [hq]; rfl)) hflat htot
                      subst hc0
                      refine hk (Sy.put A2 hd ?_)
                      unfold den
                      rw [List.getElem?_append_right (by rw [A.mem.len]; exact Nat.le_refl _), A.mem.len]
                      simp
                  · obtain ⟨L, vs0, b1, _⟩ := g2 0 (by omega)
                    rw [get_loc b1] at hvy
                    simp only [Option.map_some, Option.some.injEq] at hvy
                    have hmul : (nn + mm) * b ≤ 2000000 * 10000 := Nat.mul_le_mul (by omega) hby
                    obtain ⟨v', w', hr, k1, k2, _, k4⟩ := run_append_own_at (P := P) w 0 t ty e ie z s b f1' f2' f3' f4' f5' f6' f7' _ nn xs r4 ⟨L.b, L.pre.length, none⟩ mm (mc + rm (some L)) ys hyl
                      (fun j u hj => by
                        obtain ⟨k, r, us, d1, d2, d3, d4⟩ := flat_inv (f := fun k => f' (nn + k)) (fun k => htot _) hys j u hj
                        obtain ⟨L', us', b1', b2', b3'⟩ := g2 k (by omega)
                        rw [b1] at b1'; cases b1'
                        rw [hn k d1, b2'] at d2
                        cases d2
                        have := b3' r u d3
                        rw [Addr.add_mid, d4, ← Nat.add_assoc]
                        exact this)
                      (fun u hu => by
                        obtain ⟨j, hj⟩ := List.mem_iff_getElem?.1 hu
                        obtain ⟨k, r, us, d1, d2, d3, d4⟩ := flat_inv (f := fun k => f' (nn + k)) (fun k => htot _) hys j u hj
                        rw [hn k d1] at d2
                        obtain ⟨E, o1, o2⟩ := hone k d1
                        exact List.all_eq_true.1 (onesS_spec o1 o2 d2) u (List.mem_of_getElem? d3))
                      (by simp only [maxLen]; omega) (by omega) (Nat.zero_le _)
                    obtain ⟨p', o1, o2, o3⟩ := own_split k1
                    rw [hob] at k2 k4
                    rw [o3] at k4
                    rw [o1] at k1
                    refine q_does (Q := wpK P Q K) (does_val (v := v') (w' := w') hw ?_ ?_)
                    · unfold execOp
                      simp only [resolve, invoke, builtin, Sem.run_bind, Sem.run_pure, Result.andThen_ok, List.map_toArray, List.map_cons, List.map_nil, ← hvx, ← hvy, hr]
                    · have A2 := A.rowMove (p' := p') hi (by rw [hq]; exact k2) k1 o2 (by rw [hq]; exact k4) hflat htot
                      refine hk (Sy.put A2 hd ?_)
                      unfold den
                      rw [List.getElem?_append_right (by rw [A.mem.len]; exact Nat.le_refl _), A.mem.len]
                      simp [o1]
                · cases h
              · cases h
            · cases h
          · cases h
        · cases h
      · cases h
    · cases h
  · cases h
end
section
variable {n : Nat} {ks : List Nat} {G0 : Gr} {w0 : World} {T : List (Nat × SV)} {H : Hp} {G : Gr} {a : Act} {w : World}
theorem Sy.rowAs (A : Sy n T H ks G0 w0 G a w) (i m' : Nat) (f' : Nat → List SV) {e s m c : Nat} {f : Nat → List SV} (h : lg H i = some (some (.row e s m c f))) (hm : m' = m) (hf : ∀ k, k < m → f' k = f k) (htot : ∀ k, ∃ vs, denL [] (f' k) = some vs ∧ vs.length = s) : Sy n T (stH H i (some (.row e s m' c f'))) ks G0 w0 G a w := by
  subst hm
  rw [lg_is] at h
  have hilt : i < H.length := (List.getElem?_eq_some_iff.1 h).1
  have hold : ∀ (j : Nat) (x : Ent), (stH H i (some (.row e s m' c f')))[j]? = some (some x) → (j ≠ i ∧ H[j]? = some (some x)) ∨ (j = i ∧ x = .row e s m' c f') := by
    intro j x h
    rw [stH_is] at h
    by_cases hj : j = i
    · subst hj; rw [List.getElem?_set_self hilt] at h; cases h; exact .inr ⟨rfl, rfl⟩
    · rw [List.getElem?_set_ne (Ne.symm hj)] at h; exact .inl ⟨hj, h⟩
  refine ⟨A.size, A.defers, A.get, ⟨by rw [stH_is]; simpa using A.mem.len, ?_, ?_⟩, A.pre, ?_, A.mix⟩
  · intro j x hx
    rcases hold j x hx with ⟨k1, k2⟩ | ⟨rfl, rfl⟩
    · exact A.mem.ent j x k2
    · obtain ⟨h1, h2, xs, h3, h4⟩ := A.mem.ent j _ h
      exact ⟨htot, h2, xs, by rw [flat_congr hf]; exact h3, h4⟩
  · intro j k x y L M hjk b1 b2 b3 b4 b5 b6
    have a1 : ∃ x', H[j]? = some (some x') ∧ x'.mut = x.mut := by
      rcases hold j x b1 with ⟨_, k2⟩ | ⟨rfl, rfl⟩
      · exact ⟨x, k2, rfl⟩
      · exact ⟨_, h, rfl⟩
    have a2 : ∃ y', H[k]? = some (some y') ∧ ¬ y'.empty := by
      rcases hold k y b2 with ⟨_, k2⟩ | ⟨rfl, rfl⟩
      · exact ⟨y, k2, b6⟩
      · exact ⟨_, h, fun h => h⟩
    obtain ⟨x', c1, c2⟩ := a1
    obtain ⟨y', c3, c4⟩ := a2
    exact A.mem.sep j k x' y' L M hjk c1 c3 (by rw [c2]; exact b3) b4 b5 c4
  · intro j x L b1 b2 b3
    rcases hold j x b1 with ⟨_, k2⟩ | ⟨rfl, rfl⟩
    · exact A.own j x L k2 b2 b3
    · exact A.own j _ L h rfl b3
end
/-! ### Lists and their parts -/
section
variable {α : Type} {l m : List α} {d x : α} {k : Nat}
theorem getD_app_l (h : k < l.length) : (l ++ m).getD k d = l.getD k d := by simp [List.getD, List.getElem?_append_left h]
theorem getD_app_1 : (l ++ [x]).getD l.length d = x := by simp [List.getD]
theorem getD_take {j : Nat} (h : j < k) : (l.take k).getD j d = l.getD j d := by simp [List.getD, List.getElem?_take_of_lt h]
end
end Go.Proofs.YtedlaclfhgneeabGreatDoor
namespace Go.Proofs.YtedlaclfhgneeabGreatDoor
open Go.RowKit
abbrev zI : SV := .int .i64 0
abbrev zS : SV := .str []
def X : Tb := (.n 121 ⟨true, none, (some [.v .nilFunc]), [], none, false, false, none, none, none⟩ (.n 73 ⟨false, (some 4), (some [zI, .v (.pointer none), zI, zI]), [(3, 0, 1), (69, 1, 1), (3, 2, 1), (3, 3, 1)], none, false, false, none, none, none⟩ (.n 40 ⟨true, none, (some [.v .nilFunc]), [], none, false, false, none, none, none⟩ (.n 21 ⟨true, none, (some [.int .i32 0]), [], (some .i32), false, false, none, none, none⟩ (.n 4 ⟨true, none, (some [.ff]), [], none, false, true, none, none, none⟩ (.n 3 ⟨true, none, (some [zI]), [], (some .i64), false, false, none, none, none⟩ (.n 2 ⟨true, none, (some [zI]), [], (some .i64), false, false, none, none, none⟩ .e .e) .e) (.n 9 ⟨true, none, (some [zS]), [], none, true, false, none, none, none⟩ (.n 5 ⟨true, none, (some [.int .u8 0]), [], (some .u8), false, false, none, none, none⟩ .e .e) .e)) (.n 28 ⟨false, (some 4), (some [zI, zS, zI, zI]), [(3, 0, 1), (9, 1, 1), (3, 2, 1), (3, 3, 1)], none, false, false, none, (some [0, 2, 0, 0]), none⟩ (.n 24 ⟨true, none, (some [zI]), [], (some .i64), false, false, none, none, none⟩ (.n 23 ⟨true, none, (some [.sla none 0 0]), [], none, false, false, (some (28, 4, 40)), none, none⟩ .e .e) .e) (.n 30 ⟨false, (some 17), (some [zI, zI, zI, zI, zI, zI, zI, zI, zI, zI, .ff, .ff, .ff, zI, zI, zI, .ff]), [(3, 0, 1), (3, 1, 1), (3, 2, 1), (3, 3, 1), (3, 4, 1), (3, 5, 1), (3, 6, 1), (3, 7, 1), (3, 8, 1), (3, 9, 1), (4, 10, 1), (4, 11, 1), (4, 12, 1), (3, 13, 1), (3, 14, 1), (3, 15, 1), (4, 16, 1)], none, false, false, none, (some [0, 0, 0, 0, 0, 0, 0, 0, 0, 0, 1, 1, 1, 0, 0, 0, 1]), none⟩ .e .e))) (.n 64 ⟨true, none, (some [.sla none 0 0]), [], none, false, false, (some (128, 20, 176)), none, none⟩ (.n 62 ⟨false, (some 4), (some [zS, zS, zS, zS]), [], none, false, false, none, (some [2, 2, 2, 2]), (some (4, 9, 1))⟩ (.n 61 ⟨false, (some 8), (some [zS, zS, zS, zS, zS, zS, zS, zS]), [], none, false, false, none, (some [2, 2, 2, 2, 2, 2, 2, 2]), (some (8, 9, 1))⟩ (.n 46 ⟨true, none, (some [.sla none 0 0]), [], none, false, false, (some (88, 5, 40)), none, none⟩ .e .e) .e) (.n 63 ⟨false, (some 3), (some [zS, zS, zS]), [], none, false, false, none, (some [2, 2, 2]), (some (3, 9, 1))⟩ .e .e)) (.n 69 ⟨true, none, (some [.v (.pointer none)]), [], none, false, false, none, none, none⟩ (.n 68 ⟨true, none, (some [.v (.pointer none)]), [], none, false, false, none, none, none⟩ (.n 66 ⟨false, (some 17), (some [zS, zS, zS, zS, zS, zS, zS, zS, zS, zS, zS, zS, zS, zS, zS, zS, .sla none 0 0]), [(61, 0, 8), (62, 8, 4), (9, 12, 1), (63, 13, 3), (64, 16, 1)], none, false, false, none, none, none⟩ .e .e) .e) (.n 71 ⟨false, (some 2), (some [.sla none 0 0, zI]), [(23, 0, 1), (3, 1, 1)], none, false, false, none, none, none⟩ .e .e)))) (.n 100 ⟨true, none, (some [.v (.pointer none)]), [], none, false, false, none, none, none⟩ (.n 90 ⟨false, (some 24), (some [zI, zI, zI, zI, zI, zI, zI, zI, zI, zI, zI, zI, zI, zI, zI, zI, zI, zI, zI, zI, zI, zI, zI, zI]), [], none, false, false, none, (some [0, 0, 0, 0, 0, 0, 0, 0, 0, 0, 0, 0, 0, 0, 0, 0, 0, 0, 0, 0, 0, 0, 0, 0]), (some (3, 89, 8))⟩ (.n 88 ⟨false, (some 5), (some [zI, zI, zI, zI, zI]), [(3, 0, 1), (3, 1, 1), (3, 2, 1), (3, 3, 1), (3, 4, 1)], none, false, false, none, (some [0, 0, 0, 0, 0]), none⟩ (.n 86 ⟨true, none, (some [.sla none 0 0]), [], none, false, false, (some (9, 1, 16)), none, none⟩ (.n 81 ⟨true, none, (some [.v (.pointer none)]), [], none, false, false, none, none, none⟩ .e .e) .e) (.n 89 ⟨false, (some 8), (some [zI, zI, zI, zI, zI, zI, zI, zI]), [], none, false, false, none, (some [0, 0, 0, 0, 0, 0, 0, 0]), (some (8, 3, 1))⟩ .e .e)) (.n 95 ⟨false, (some 30), (some [.ff, .ff, zI, zI, zI, zI, zI, zI, zI, zI, zI, zI, zI, zI, zI, zI, zI, zI, zI, zI, zI, zI, zI, zI, zI, zI, zI, zI, zI, zI]), [(4, 0, 1), (4, 1, 1), (93, 2, 27), (3, 29, 1)], none, false, false, none, (some [1, 1, 0, 0, 0, 0, 0, 0, 0, 0, 0, 0, 0, 0, 0, 0, 0, 0, 0, 0, 0, 0, 0, 0, 0, 0, 0, 0, 0, 0]), none⟩ (.n 93 ⟨false, (some 27), (some [zI, zI, zI, zI, zI, zI, zI, zI, zI, zI, zI, zI, zI, zI, zI, zI, zI, zI, zI, zI, zI, zI, zI, zI, zI, zI, zI]), [(90, 0, 24), (91, 24, 3)], none, false, false, none, (some [0, 0, 0, 0, 0, 0, 0, 0, 0, 0, 0, 0, 0, 0, 0, 0, 0, 0, 0, 0, 0, 0, 0, 0, 0, 0, 0]), none⟩ (.n 91 ⟨false, (some 3), (some [zI, zI, zI]), [], none, false, false, none, (some [0, 0, 0]), (some (3, 3, 1))⟩ .e .e) .e) (.n 99 ⟨true, none, (some [.v (.pointer none)]), [], none, false, false, none, none, none⟩ .e .e))) (.n 110 ⟨true, none, (some [.v (.pointer none)]), [], none, false, false, none, none, none⟩ (.n 105 ⟨true, none, (some [.v (.pointer none)]), [], none, false, false, none, none, none⟩ (.n 104 ⟨false, (some 5), (some [.v (.pointer none), .sla none 0 0, .sla none 0 0, .sla none 0 0, zI]), [(100, 0, 1), (86, 1, 1), (46, 2, 1), (102, 3, 1), (3, 4, 1)], none, false, false, none, none, none⟩ (.n 102 ⟨true, none, (some [.sla none 0 0]), [], none, false, false, (some (3, 1, 8)), none, none⟩ .e .e) .e) (.n 107 ⟨false, (some 3), (some [.v (.pointer none), zI, zI]), [(105, 0, 1), (24, 1, 1), (3, 2, 1)], none, false, false, none, none, none⟩ .e .e)) (.n 116 ⟨true, none, (some [.sla none 0 0]), [], none, false, false, (some (114, 2, 24)), none, none⟩ (.n 114 ⟨false, (some 2), (some [zS, zI]), [(9, 0, 1), (3, 1, 1)], none, false, false, none, (some [2, 0]), none⟩ (.n 112 ⟨false, (some 2), (some [.v (.pointer none), .sla none 0 0]), [(68, 0, 1), (46, 1, 1)], none, false, false, none, none, none⟩ .e .e) .e) (.n 118 ⟨true, none, (some [.v .nilFunc]), [], none, false, false, none, none, none⟩ .e .e))))) (.n 203 ⟨false, (some 2), (some [.v (.pointer none), .sla none 0 0]), [(200, 0, 1), (201, 1, 1)], none, false, false, none, none, none⟩ (.n 180 ⟨true, none, (some [.v .nilIface]), [], none, false, false, none, none, none⟩ (.n 151 ⟨true, none, (some [zI]), [], (some .i64), false, false, none, none, none⟩ (.n 130 ⟨true, none, (some [.v (.pointer none)]), [], none, false, false, none, none, none⟩ (.n 128 ⟨false, (some 20), (some [zS, zS, zI, zI, zI, zI, zI, zI, zI, zI, zI, zI, .ff, .ff, .ff, zI, zI, zI, .ff, .sla none 0 0]), [(9, 0, 1), (9, 1, 1), (30, 2, 17), (126, 19, 1)], none, false, false, none, none, none⟩ (.n 126 ⟨true, none, (some [.sla none 0 0]), [], none, false, false, (some (151, 1, 8)), none, none⟩ .e .e) .e) (.n 143 ⟨true, none, (some [.v (.pointer none)]), [], none, false, false, none, none, none⟩ (.n 132 ⟨false, (some 36), (some [.v (.pointer none), zS, zS, zS, zS, zS, zS, zS, zS, zS, zS, zS, zS, zS, zS, zS, zS, .sla none 0 0, zI, zI, zI, zI, zI, zI, zI, zI, zI, zI, .ff, .ff, .ff, zI, zI, zI, .ff, zS]), [(100, 0, 1), (66, 1, 17), (30, 18, 17), (9, 35, 1)], none, false, false, none, none, none⟩ .e .e) .e)) (.n 169 ⟨false, (some 2), (some [.sla none 0 0, zI]), [(23, 0, 1), (3, 1, 1)], none, false, false, none, none, none⟩ (.n 165 ⟨true, none, (some [.v .nilFunc]), [], none, false, false, none, none, none⟩ (.n 161 ⟨true, none, (some [.sla none 0 0]), [], none, false, false, (some (93, 27, 216)), none, none⟩ .e .e) .e) (.n 178 ⟨true, none, (some [.int .u64 0]), [], (some .u64), false, false, none, none, none⟩ .e .e))) (.n 189 ⟨true, none, (some [.sla none 0 0]), [], none, false, false, (some (188, 3, 24)), none, none⟩ (.n 187 ⟨true, none, (some [.sla none 0 0]), [], none, false, false, (some (186, 2, 24)), none, none⟩ (.n 186 ⟨false, (some 2), (some [zS, zI]), [(9, 0, 1), (3, 1, 1)], none, false, false, none, (some [2, 0]), none⟩ (.n 184 ⟨true, none, (some [.sla none 0 0]), [], none, false, false, (some (64, 1, 24)), none, none⟩ .e .e) .e) (.n 188 ⟨false, (some 3), (some [zS, .ff, .ff]), [(9, 0, 1), (4, 1, 1), (4, 2, 1)], none, false, false, none, (some [2, 1, 1]), none⟩ .e .e)) (.n 200 ⟨true, none, (some [.v (.pointer none)]), [], none, false, false, none, none, none⟩ (.n 191 ⟨true, none, (some [.sla none 0 0]), [], none, false, false, (some (190, 3, 32)), none, none⟩ (.n 190 ⟨false, (some 3), (some [zS, zI, zI]), [(9, 0, 1), (3, 1, 1), (3, 2, 1)], none, false, false, none, (some [2, 0, 0]), none⟩ .e .e) .e) (.n 201 ⟨true, none, (some [.sla none 0 0]), [], none, false, false, (some (5, 1, 1)), none, none⟩ .e .e)))) (.n 272 ⟨false, (some 24), (some [.int .u8 0, .int .u8 0, .int .u8 0, .int .u8 0, .int .u8 0, .int .u8 0, .int .u8 0, .int .u8 0, .int .u8 0, .int .u8 0, .int .u8 0, .int .u8 0, .int .u8 0, .int .u8 0, .int .u8 0, .int .u8 0, .int .u8 0, .int .u8 0, .int .u8 0, .int .u8 0, .int .u8 0, .int .u8 0, .int .u8 0, .int .u8 0]), [], none, false, false, none, (some [0, 0, 0, 0, 0, 0, 0, 0, 0, 0, 0, 0, 0, 0, 0, 0, 0, 0, 0, 0, 0, 0, 0, 0]), (some (24, 5, 1))⟩ (.n 230 ⟨true, none, (some [.v .nilFunc]), [], none, false, false, none, none, none⟩ (.n 216 ⟨true, none, (some [.v .nilFunc]), [], none, false, false, none, none, none⟩ (.n 215 ⟨true, none, (some [.sla none 0 0]), [], none, false, false, (some (4, 1, 1)), none, none⟩ (.n 213 ⟨true, none, (some [.v .nilFunc]), [], none, false, false, none, none, none⟩ .e .e) .e) (.n 224 ⟨true, none, (some [.int .u64 0]), [], (some .u64), false, false, none, none, none⟩ .e .e)) (.n 259 ⟨true, none, (some [.v (.pointer none)]), [], none, false, false, none, none, none⟩ (.n 244 ⟨true, none, (some [.int .u32 0]), [], (some .u32), false, false, none, none, none⟩ (.n 235 ⟨true, none, (some [.v (.pointer none)]), [], none, false, false, none, none, none⟩ .e .e) .e) (.n 263 ⟨true, none, (some [zI]), [], (some .i64), false, false, none, none, none⟩ .e .e))) (.n 290 ⟨false, (some 20), (some [.int .u64 0, .int .u64 0, .int .u64 0, .int .u64 0, .int .u64 0, .int .u64 0, .int .u64 0, .int .u64 0, .int .u64 0, .int .u64 0, .int .u64 0, .int .u64 0, .int .u64 0, .int .u64 0, .int .u64 0, .int .u64 0, .int .u64 0, .int .u64 0, .int .u64 0, .int .u64 0]), [], none, false, false, none, (some [0, 0, 0, 0, 0, 0, 0, 0, 0, 0, 0, 0, 0, 0, 0, 0, 0, 0, 0, 0]), (some (20, 178, 1))⟩ (.n 283 ⟨false, (some 32), (some [.int .u8 0, .int .u8 0, .int .u8 0, .int .u8 0, .int .u8 0, .int .u8 0, .int .u8 0, .int .u8 0, .int .u8 0, .int .u8 0, .int .u8 0, .int .u8 0, .int .u8 0, .int .u8 0, .int .u8 0, .int .u8 0, .int .u8 0, .int .u8 0, .int .u8 0, .int .u8 0, .int .u8 0, .int .u8 0, .int .u8 0, .int .u8 0, .int .u8 0, .int .u8 0, .int .u8 0, .int .u8 0, .int .u8 0, .int .u8 0, .int .u8 0, .int .u8 0]), [], none, false, false, none, (some [0, 0, 0, 0, 0, 0, 0, 0, 0, 0, 0, 0, 0, 0, 0, 0, 0, 0, 0, 0, 0, 0, 0, 0, 0, 0, 0, 0, 0, 0, 0, 0]), (some (16, 282, 2))⟩ (.n 282 ⟨false, (some 2), (some [.int .u8 0, .int .u8 0]), [(5, 0, 1), (5, 1, 1)], none, false, false, none, (some [0, 0]), none⟩ (.n 278 ⟨false, (some 3), (some [zS, zS, .v .nilIface]), [(9, 0, 1), (9, 1, 1), (180, 2, 1)], none, false, false, none, none, none⟩ .e .e) .e) (.n 284 ⟨true, none, (some [.int .u64 0]), [], (some .u64), false, false, none, none, none⟩ .e .e)) (.n 297 ⟨false, (some 32), (some [.int .u8 0, .int .u8 0, .int .u8 0, .int .u8 0, .int .u8 0, .int .u8 0, .int .u8 0, .int .u8 0, .int .u8 0, .int .u8 0, .int .u8 0, .int .u8 0, .int .u8 0, .int .u8 0, .int .u8 0, .int .u8 0, .int .u8 0, .int .u8 0, .int .u8 0, .int .u8 0, .int .u8 0, .int .u8 0, .int .u8 0, .int .u8 0, .int .u8 0, .int .u8 0, .int .u8 0, .int .u8 0, .int .u8 0, .int .u8 0, .int .u8 0, .int .u8 0]), [], none, false, false, none, (some [0, 0, 0, 0, 0, 0, 0, 0, 0, 0, 0, 0, 0, 0, 0, 0, 0, 0, 0, 0, 0, 0, 0, 0, 0, 0, 0, 0, 0, 0, 0, 0]), (some (32, 5, 1))⟩ (.n 294 ⟨false, (some 1), (some [zS]), [(9, 0, 1)], none, false, false, none, (some [2]), none⟩ (.n 291 ⟨false, (some 65), (some [.int .u8 0, .int .u8 0, .int .u8 0, .int .u8 0, .int .u8 0, .int .u8 0, .int .u8 0, .int .u8 0, .int .u8 0, .int .u8 0, .int .u8 0, .int .u8 0, .int .u8 0, .int .u8 0, .int .u8 0, .int .u8 0, .int .u8 0, .int .u8 0, .int .u8 0, .int .u8 0, .int .u8 0, .int .u8 0, .int .u8 0, .int .u8 0, .int .u8 0, .int .u8 0, .int .u8 0, .int .u8 0, .int .u8 0, .int .u8 0, .int .u8 0, .int .u8 0, .int .u8 0, .int .u8 0, .int .u8 0, .int .u8 0, .int .u8 0, .int .u8 0, .int .u8 0, .int .u8 0, .int .u8 0, .int .u8 0, .int .u8 0, .int .u8 0, .int .u8 0, .int .u8 0, .int .u8 0, .int .u8 0, .int .u8 0, .int .u8 0, .int .u8 0, .int .u8 0, .int .u8 0, .int .u8 0, .int .u8 0, .int .u8 0, .int .u8 0, .int .u8 0, .int .u8 0, .int .u8 0, .int .u8 0, .int .u8 0, .int .u8 0, .int .u8 0, .int .u8 0]), [], none, false, false, none, (some [0, 0, 0, 0, 0, 0, 0, 0, 0, 0, 0, 0, 0, 0, 0, 0, 0, 0, 0, 0, 0, 0, 0, 0, 0, 0, 0, 0, 0, 0, 0, 0, 0, 0, 0, 0, 0, 0, 0, 0, 0, 0, 0, 0, 0, 0, 0, 0, 0, 0, 0, 0, 0, 0, 0, 0, 0, 0, 0, 0, 0, 0, 0, 0, 0]), (some (65, 5, 1))⟩ .e .e) .e) (.n 298 ⟨false, (some 64), (some [.int .u8 0, .int .u8 0, .int .u8 0, .int .u8 0, .int .u8 0, .int .u8 0, .int .u8 0, .int .u8 0, .int .u8 0, .int .u8 0, .int .u8 0, .int .u8 0, .int .u8 0, .int .u8 0, .int .u8 0, .int .u8 0, .int .u8 0, .int .u8 0, .int .u8 0, .int .u8 0, .int .u8 0, .int .u8 0, .int .u8 0, .int .u8 0, .int .u8 0, .int .u8 0, .int .u8 0, .int .u8 0, .int .u8 0, .int .u8 0, .int .u8 0, .int .u8 0, .int .u8 0, .int .u8 0, .int .u8 0, .int .u8 0, .int .u8 0, .int .u8 0, .int .u8 0, .int .u8 0, .int .u8 0, .int .u8 0, .int .u8 0, .int .u8 0, .int .u8 0, .int .u8 0, .int .u8 0, .int .u8 0, .int .u8 0, .int .u8 0, .int .u8 0, .int .u8 0, .int .u8 0, .int .u8 0, .int .u8 0, .int .u8 0, .int .u8 0, .int .u8 0, .int .u8 0, .int .u8 0, .int .u8 0, .int .u8 0, .int .u8 0, .int .u8 0]), [], none, false, false, none, (some [0, 0, 0, 0, 0, 0, 0, 0, 0, 0, 0, 0, 0, 0, 0, 0, 0, 0, 0, 0, 0, 0, 0, 0, 0, 0, 0, 0, 0, 0, 0, 0, 0, 0, 0, 0, 0, 0, 0, 0, 0, 0, 0, 0, 0, 0, 0, 0, 0, 0, 0, 0, 0, 0, 0, 0, 0, 0, 0, 0, 0, 0, 0, 0]), (some (64, 5, 1))⟩ .e .e))))))
theorem hX : Tb.ok Tryz.prog X = true := by kernel_rfl
end Go.Proofs.YtedlaclfhgneeabGreatDoor
namespace Go.Proofs.YtedlaclfhgneeabGreatDoor
open Go.RowKit
set_option linter.unusedVariables false
set_option linter.unusedSimpArgs false
def renT (m : List Nat) : List (Nat × SV) → Option (List (Nat × SV))
  | [] => some []
  | (t, x) :: T => match renO m x with
    | some y => match renT m T with
      | some r => some ((t, y) :: r)
      | none => none
    | none => none
theorem renT_look {m : List Nat} : ∀ {T' T : List (Nat × SV)}, renT m T' = some T → ∀ t x, look T' t = some x → ∃ y, look T t = some y ∧ renO m x = some y
  | [], T, h, t, x, hx => by cases hx
  | (k, z) :: T', T, h, t, x, hx => by
    unfold renT at h
    split at h
    · next y hy =>
      split at h
      · next r hr =>
        cases h
        simp only [look] at hx ⊢
        cases hb : Nat.beq k t with
        | true => rw [hb] at hx; cases hx; exact ⟨y, rfl, hy⟩
        | false => rw [hb] at hx; exact renT_look hr t x hx
      · cases h
    · cases h
section
variable {n : Nat} {ks : List Nat} {G0 : Gr} {w0 : World} {T : List (Nat × SV)} {H : Hp} {G : Gr} {a : Act} {w : World}
theorem Sy.mv (A : Sy n T H ks G0 w0 G a w) (k : Nat) (m : List Nat) {T' : List (Nat × SV)} {H' l : Hp} (hT : renT (rngF 0 k ++ m) T' = some T) (h1 : pickH H (rngF 0 k ++ m) = some l) (h2 : renH (rngF 0 k ++ m) H' = some l) (hn : ndB (rngF 0 k ++ m) = true) (hk : G0.length = k) : Sy n T' H' ks G0 w0 (pickG (rngF 0 k ++ m) G) a w := by
  obtain ⟨p1, p2, p3⟩ := pickH_at h1
  obtain ⟨r1, r2⟩ := renH_at h2
  have hm : ∀ j ∈ rngF 0 k ++ m, j < G.length := fun j hj => by rw [← A.mem.len]; exact p2 j hj
  refine ⟨A.size, A.defers, fun t x hx => ?_, A.mem.sub h1 h2 hn, ?_, fun i e L he hmut hL => ?_, A.mix⟩
  · obtain ⟨y, h3, h4⟩ := renT_look hT t x hx
    rw [den_ren hm x h4]
    exact A.get t y h3
  · obtain ⟨F, hF⟩ := A.pre
    refine ⟨pickG m G, ?_⟩
    have : pickG (rngF 0 k ++ m) G = pickG (rngF 0 k) G ++ pickG m G := by simp [pickG]
    rw [this, ← hk, hF, pick_rng]
  · obtain ⟨f, h3, h4⟩ := r2 i _ he
    have hi : i < (rngF 0 k ++ m).length := by rw [← p1]; exact (List.getElem?_eq_some_iff.1 h3).1
    obtain ⟨f', rfl⟩ := renE_some h4
    have hj : (rngF 0 k ++ m)[i]? = some (rngF 0 k ++ m)[i] := by simp [hi]
    rw [pickG_at hm hj] at hL
    exact A.own _ f' L (by rw [← p3 i _ hj]; exact h3) (by rw [(renE_mut h4).1]; exact hmut) hL
end
end Go.Proofs.YtedlaclfhgneeabGreatDoor
namespace Go.Proofs.YtedlaclfhgneeabGreatDoor
open Go.RowKit
set_option linter.unusedVariables false
set_option linter.unusedSimpArgs false
set_option linter.unusedSectionVars false
section
variable {P : Program} {Y : Tb} {n : Nat} {ks : List Nat} {G0 : Gr} {w0 : World} {T : List (Nat × SV)} {H : Hp} {G : Gr} {a : Act} {w w' : World} {Q : Exit → Act → World → Prop} {K : List Fr} {ops : Array Oper} {o : Oper} {rest : List Oper}
theorem callE {f : Nat} {args az : List SV} {H' H2 l l2 : Hp} {x y : SV} (m : List Nat) (hf : Fn P f args H' (Rt x H2)) (h1 : callS n ops T o = some (f, az)) (h2 : renL m args = some az) (h3 : renH m H' = some l) (h4 : pickH H m = some l) (h5 : ndB m = true)
    (h6 : renO (m ++ rngF H.length (H2.length - m.length)) x = some y) (h7 : renH (m ++ rngF H.length (H2.length - m.length)) H2 = some l2) : EffOK P n ops ks G0 w0 T H o y (putAll H m l2) := by
  intro G a w A
  rcases call_do (R2 := fun z H3 => z = y ∧ H3 = putAll H m l2) m hf A h1 h2 h3 h4 h5 (fun x' H' ⟨e1, e2⟩ => by subst e1; subst e2; exact ⟨y, l2, h6, h7, rfl, rfl⟩) with ⟨hw, h⟩ | ⟨hw, z, H3, F, ⟨rfl, rfl⟩, g2, g3⟩
  · refine .inl ⟨hw, fun Q' => ?_⟩
    refine Oper.wp_mono (fun a' w' hh => ?_) (h Q')
    obtain ⟨v, rfl, z, H3, F, ⟨rfl, rfl⟩, g2, g3⟩ := hh
    exact ⟨v, rfl, F, g2, g3.ms⟩
  · exact .inr ⟨hw, F, g2, g3.ms⟩
theorem own_take {e s m k cap : Nat} {ao : Option Addr} {xs : List Value} (h : w.ownsRow 0 e s (.slice ao m cap) m xs) (hk : k ≤ m) : w.ownsRow 0 e s (.slice ao k cap) k (xs.take (k * s)) := by
  obtain ⟨r4, r5⟩ := h
  have hmul : k * s ≤ m * s := Nat.mul_le_mul_right s hk
  refine ⟨by simp; omega, ?_⟩
  rcases r5 with ⟨q1, q2⟩ | ⟨g, cap', cur, q1, q2, q3, q4, q5, q6, q7⟩
  · left
    cases ao with
    | none => simp at q1 ⊢; omega
    | some L => simp at q1
  · right
    cases ao with
    | none => cases q1
    | some L =>
      simp only [Value.slice.injEq] at q1
      obtain ⟨q8, _, q9⟩ := q1
      exact ⟨g, cap', cur, by simp only [q8, q9], q2, q3, by omega, q5, q6, by rw [← q7, List.take_take, Nat.min_eq_left hmul]⟩
theorem Sy.shrink (A : Sy n T H ks G0 w0 G a w) (i k : Nat) {e s m c : Nat} {f : Nat → List SV} (h : lg H i = some (some (.row e s m c f))) (hk : k ≤ m) : Sy n T (stH H i (some (.row e s k c f))) ks G0 w0 G a w := by
  rw [lg_is] at h
  have hilt : i < H.length := (List.getElem?_eq_some_iff.1 h).1
  rw [stH_is]
  have hat : ∀ (j : Nat) (e' : Ent), (H.set i (some (.row e s k c f)))[j]? = some (some e') → (j = i ∧ e' = .row e s k c f) ∨ (j ≠ i ∧ H[j]? = some (some e')) := by
    intro j e' he
    by_cases hj : j = i
    · subst hj
      rw [List.getElem?_set_self hilt] at he
      cases he; exact .inl ⟨rfl, rfl⟩
    · rw [List.getElem?_set_ne (Ne.symm hj)] at he
      exact .inr ⟨hj, he⟩
  have back : ∀ (j : Nat) (e' : Ent), (H.set i (some (.row e s k c f)))[j]? = some (some e') → ∃ e'' : Ent, H[j]? = some (some e'') ∧ e''.mut = e'.mut ∧ (e''.empty ↔ e'.empty) := by
    intro j e' he
    rcases hat j e' he with ⟨rfl, rfl⟩ | ⟨_, h2⟩
    · exact ⟨_, h, rfl, Iff.rfl⟩
    · exact ⟨e', h2, rfl, Iff.rfl⟩
  refine ⟨A.size, A.defers, A.get, ⟨by rw [List.length_set]; exact A.mem.len, ?_, ?_⟩, A.pre, ?_, A.mix⟩
  · intro j e' he
    rcases hat j e' he with ⟨rfl, rfl⟩ | ⟨_, h2⟩
    · obtain ⟨r1, r2, xs, r3, r4⟩ := A.mem.ent j _ h
      exact ⟨r1, r2, _, flat_take r1 r3 k hk, own_take r4 hk⟩
    · exact A.mem.ent j e' h2
  · intro j j' e1 e2 L M hij he1 he2 hm hL hM hne
    obtain ⟨d1, g1, g2, g3⟩ := back j e1 he1
    obtain ⟨d2, k1, k2, k3⟩ := back j' e2 he2
    exact A.mem.sep j j' d1 d2 L M hij g1 k1 (by rw [g2]; exact hm) hL hM (fun h => hne (k3.1 h))
  · intro j e1 L he1 hm hL
    obtain ⟨d1, g1, g2, g3⟩ := back j e1 he1
    exact A.own j d1 L g1 (by rw [g2]; exact hm) hL
theorem eff_shrink {x : SV} {H' : Hp} (i k : Nat) {e s m c : Nat} {f : Nat → List SV} (h : lg H i = some (some (.row e s m c f))) (hk : k ≤ m) (hE : EffOK P n ops ks G0 w0 T (stH H i (some (.row e s k c f))) o x H') : EffOK P n ops ks G0 w0 T H o x H' :=
  fun G a w A => hE G a w (A.shrink i k h hk)
theorem Sy.entTurn (A : Sy n T H ks G0 w0 G a w) {i : Nat} {e e' : Ent} {L : Loc} (hi : H[i]? = some (some e)) (hm : e.mut = true) (hm' : e'.mut = true) (hL : G[i]? = some (some L)) (hu : Upd L.b w w') (hn : EntOK G w' (some L) e') : Sy n T (stH H i (some e')) ks G0 w0 G a w' := by
  have hilt : i < H.length := (List.getElem?_eq_some_iff.1 hi).1
  have hold : ∀ (j : Nat) (x : Ent), (stH H i (some e'))[j]? = some (some x) → (j ≠ i ∧ H[j]? = some (some x)) ∨ (j = i ∧ x = e') := by
    intro j x h
    rw [stH_is] at h
    by_cases hj : j = i
    · subst hj; rw [List.getElem?_set_self hilt] at h; cases h; exact .inr ⟨rfl, rfl⟩
    · rw [List.getElem?_set_ne (Ne.symm hj)] at h; exact .inl ⟨hj, h⟩
  refine ⟨A.size, A.defers, A.get, ⟨by rw [stH_is]; simpa using A.mem.len, ?_, ?_⟩, A.pre, ?_, A.mix.upd hu (A.own i _ L hi hm hL)⟩
  · intro j x h
    rcases hold j x h with ⟨k1, k2⟩ | ⟨rfl, rfl⟩
    · refine (A.mem.ent j x k2).mix hu.mix fun hne M hM => ?_
      have := A.mem.sep i j _ x L M (Ne.symm k1) hi k2 hm hL (get_loc hM) hne
      simp; exact fun e => this e.symm
    · rw [hL]; exact hn
  · intro j k x f M N hjk h1 h2 h3 h4 h5 h6
    have a1 : ∃ x', H[j]? = some (some x') ∧ x'.mut = x.mut := by
      rcases hold j x h1 with ⟨_, k2⟩ | ⟨rfl, rfl⟩
      · exact ⟨x, k2, rfl⟩
      · exact ⟨_, hi, by rw [hm, hm']⟩
    have a2 : ∃ x', H[k]? = some (some x') ∧ ¬ x'.empty := by
      rcases hold k f h2 with ⟨_, k2⟩ | ⟨rfl, rfl⟩
      · exact ⟨f, k2, h6⟩
      · exact ⟨_, hi, mut_full hm⟩
    obtain ⟨e1, b1, b2⟩ := a1
    obtain ⟨f', b3, b4⟩ := a2
    exact A.mem.sep j k e1 f' M N hjk b1 b3 (by rw [b2]; exact h3) h4 h5 b4
  · intro j x M h1 h2 h3
    rcases hold j x h1 with ⟨_, k2⟩ | ⟨rfl, rfl⟩
    · exact A.own j x M k2 h2 h3
    · exact A.own j _ M hi hm h3
def clrS (Y : Tb) (n : Nat) (ops : Array Oper) (T : List (Nat × SV)) (H : Hp) (o : Oper) : Option ((Nat × Nat × Nat × Nat × Nat) × (Nat → List SV) × Nat × Nat) := match fitsD n o.dst with
  | true => match guardS ops T o.guard with
    | some .run => match o.op with
      | .call c => match c.callee, c.args.toList, c.argTypes.toList with
        | .builtin .clear, [x], [t] => match evS T x with
          | some (.st i s k n' cc) => match lg H i, Y.get t with
            | some (some (.row e s' m c f)), some ti => match ti.elm, Y.get e with
              | some (e', s2, _), some te => match te.zero with
                | some zs => match onesS zs with
                  | some [] => match Nat.beq e e' && Nat.beq s s' && Nat.beq s s2 && Nat.beq cc c with
                    | true => some ((i, e, s, m, c), f, k, n')
                    | false => none
                  | _ => none
                | none => none
              | _, _ => none
            | _, _ => none
          | _ => none
        | _, _, _ => none
      | _ => none
    | _ => none
  | false => none
theorem CLR {i e s m c k n' : Nat} {f : Nat → List SV} (hY : Y.ok P = true) (A : Sy n T H ks G0 w0 G a w) (h : clrS Y n ops T H o = some ((i, e, s, m, c), f, k, n')) (hk : k + n' = m)
    (hg : ∀ {G a w}, Sy n (extS T o.dst (.tup [])) (stH H i (some (.row e s k c f))) ks G0 w0 G a w → Goal P Q K (.ops ops rest) a w) : Goal P Q K (.ops ops (o :: rest)) a w := by
  obtain ⟨d, op, ty, pos, af, gd⟩ := o
  unfold clrS at h
  split at h
  · next hd =>
    split at h
    · next hgd =>
      have hw := gd_run (gd := none) A hgd
      split at h
      · next ca hca =>
        simp only at hca
        subst hca
        obtain ⟨callee, args, ats⟩ := ca
        simp only at h
        split at h
        · next x t ha ht =>
          split at h
          · next i' s1 k1 n1 cc hx =>
            split at h
            · next e' s' m' c' f' ti hi hti =>
              split at h
              · next e2 s2 bb te hel hte =>
                split at h
                · next zs hzs =>
                  split at h
                  · next hon =>
                    split at h
                    · next hck =>
                      cases h
                      simp only [Bool.and_eq_true] at hck
                      obtain ⟨⟨⟨c1, c2⟩, c3⟩, c4⟩ := hck
                      have q1 := Nat.eq_of_beq_eq_true c1
                      have q2 := Nat.eq_of_beq_eq_true c2
                      have q3 := Nat.eq_of_beq_eq_true c3
                      have q4 := Nat.eq_of_beq_eq_true c4
                      subst q1; subst q2; subst q3; subst q4
                      rw [lg_is] at hi
                      have hargs : args = #[x] := by have := congrArg List.toArray ha; simpa using this
                      have hats : ats = #[t] := by have := congrArg List.toArray ht; simpa using this
                      subst hargs; subst hats
                      have hvx := A.ev hx
                      obtain ⟨ie, z, f1', f2', f3', f4', f5', f6', f7'⟩ := elem_facts (ti_elm (Tb.at hY hti) hel)
                      obtain ⟨z2, m2, z3, z4⟩ := ti_zero (Tb.at hY hte) hzs
                      rw [f2'] at z3
                      simp only [Option.map_some, Option.some.injEq, Prod.mk.injEq] at z3
                      rw [f3'] at z3
                      simp only [Option.some.injEq] at z3
                      have hz2 := z3.1
                      subst hz2
                      have hone := onesS_spec (G := G) hon okE_nil (z4 G)
                      have hzv := (zero_of_info (P := P) (t := e) (v := z) (n := ie.size) (by rw [f2']; simp [f3'])).1
                      obtain ⟨r1, r2, xs, r3, r4, r5⟩ := A.mem.ent i _ hi
                      obtain ⟨q, hq⟩ : ∃ q, G[i]? = some q := by
                        have : i < G.length := by rw [← A.mem.len]; exact (List.getElem?_eq_some_iff.1 hi).1
                        exact ⟨G[i], by simp [this]⟩
                      rw [hq] at r2 r5
                      simp only [Option.getD_some] at r2 r5
                      unfold den at hvx
                      rw [hq] at hvx
                      simp only [Option.some.injEq] at hvx
                      have A1 := A.shrink i k (by rw [lg_is]; exact hi) (by omega)
                      by_cases hn0 : n' = 0
                      · subst hn0
                        refine q_does (Q := wpK P Q K) (does_val (v := .tuple #[]) (w' := w) hw ?_ (hg (Sy.put A1 hd rfl)))
                        unfold execOp
                        simp only [resolve, invoke, builtin, Sem.run_bind, Sem.run_pure, Result.andThen_ok, List.map_toArray, List.map_cons, List.map_nil, ← hvx]
                        cases q with
                        | none => simp [Builtin.clear_, run_underlying f1']
                        | some L => simp [Builtin.clear_, run_underlying f1']
                      · rcases r5 with ⟨_, r5⟩ | ⟨g, cap, cur, q1, _, q3, q4, q5, q6, q7⟩
                        · omega
                        cases q with
                        | none => cases q1
                        | some L =>
                          simp only [Option.map_some, Value.slice.injEq, Option.some.injEq, Addr.mk.injEq] at q1
                          obtain ⟨⟨q8, q9, _⟩, _, q10⟩ := q1
                          have hpre := r2 L rfl
                          subst q8
                          have hne : ¬ (cc + rm (some L) = k) := by omega
                          simp only [Option.map_some, if_neg hne, hpre, List.length_nil, Nat.zero_add] at hvx
                          have hzl : (Builtin.zeroCells z.cells n').toList.length = n' * s := by simp [Builtin.zeroCells, f6']
                          have hzo : ∀ v ∈ (Builtin.zeroCells z.cells n').toList, v.oneCell' = true := by
                            intro v hv
                            simp only [Builtin.zeroCells, Array.toList_map, List.mem_map, Array.toList_range, List.mem_range] at hv
                            obtain ⟨j, hj, rfl⟩ := hv
                            have hlt : j % z.cells.size < z.cells.size := Nat.mod_lt _ (by omega)
                            rw [getElem!_pos z.cells _ hlt]
                            exact (List.all_eq_true.1 hone) _ (by simp)
                          have hcl : cur.toList.length = cap * s := by simpa using q6
                          have hsum : k * s + n' * s = m * s := by rw [← Nat.add_mul, hk]
                          have hcs : m * s ≤ cap * s := Nat.mul_le_mul_right s q4
                          have hsplit : cur.toList = cur.toList.take (k * s) ++ (cur.toList.drop (k * s)).take (n' * s) ++ cur.toList.drop (k * s + n' * s) := by
                            have e2 : cur.toList.drop (k * s + n' * s) = (cur.toList.drop (k * s)).drop (n' * s) := by rw [List.drop_drop]
                            rw [e2, List.append_assoc, List.take_append_drop, List.take_append_drop]
                          have hblk : Blk w L.b (cur.toList.take (k * s) ++ (cur.toList.drop (k * s)).take (n' * s) ++ cur.toList.drop (k * s + n' * s)).toArray e := by rw [← hsplit]; unfold Blk; simpa using q3
                          have hA : (cur.toList.take (k * s)).length = k * s := by simp; omega
                          obtain ⟨g1, g2⟩ := blk_cells (Builtin.zeroCells z.cells n').toList _ _ _ w (by rw [hzl]; simp; omega) hblk
                          rw [hA] at g1 g2
                          have hst := run_storeCells_cells (P := P) L.b (k * s) (Builtin.zeroCells z.cells n').toList 0 w (fun j hj => by
                            have hlt : k * s + 0 + j < cur.size := by rw [hzl] at hj; omega
                            rw [cell_of_row w L.b _ cur e _ q3, Array.getElem?_eq_getElem hlt]; rfl) (fun j hj => by
                            have : Blk w L.b cur e := q3
                            exact this.frozen _) hzo
                          rw [Nat.add_zero] at hst
                          refine q_does (Q := wpK P Q K) (does_val (v := .tuple #[]) (w' := w.setCells L.b (k * s) (Builtin.zeroCells z.cells n').toList) hw ?_ (hg (Sy.put (A.entTurn hi rfl rfl hq g2 ?_) hd rfl)))
                          · obtain ⟨n1, rfl⟩ : ∃ n1, n' = n1 + 1 := ⟨n' - 1, by omega⟩
                            unfold execOp
                            simp only [resolve, invoke, builtin, Sem.run_bind, Sem.run_pure, Result.andThen_ok, List.map_toArray, List.map_cons, List.map_nil, ← hvx]
                            simp [Builtin.clear_, run_underlying f1', hzv, hst]
                          · refine ⟨r1, fun L' hL' => by cases hL'; exact hpre, _, flat_take r1 r3 k (by omega), ?_, .inr ⟨L.b, cap, _, ?_, Nat.zero_le _, g1, by omega, q5, ?_, ?_⟩⟩
                            · have := flat_len r1 r3; simp; omega
                            · simp [hpre, q10]
                            · simp [hzl]; omega
                            · rw [← q7, List.take_take, Nat.min_eq_left (by omega)]
                              simp only [List.toList_toArray]
                              rw [List.append_assoc, List.take_append_of_le_length (by simp; omega), List.take_take, Nat.min_self]
                    · cases h
                  · cases h
                · cases h
              · cases h
            · cases h
          · cases h
        · cases h
      · cases h
    · cases h
  · cases h
def nilS (Y : Tb) (n : Nat) (ops : Array Oper) (T : List (Nat × SV)) (o : Oper) : Option (Nat × Nat) := match fitsD n o.dst with
  | true => match guardS ops T o.guard with
    | some .run => match o.op with
      | .binOp .eql t x y _ => match evS T x, evS T y, Y.get t with
        | some (.sl i m _), some (.sla none 0 0), some ti => match ti.elm with
          | some _ => some (i, m)
          | none => none
        | _, _, _ => none
      | _ => none
    | _ => none
  | false => none
theorem nil_do {i m : Nat} (hY : Y.ok P = true) (A : Sy n T H ks G0 w0 G a w) (h : nilS Y n ops T o = some (i, m)) : fitsD n o.dst = true ∧ ∃ p, G[i]? = some p ∧ ∀ K : Value → World → Prop, K (.bool p.isNone) w → Does P ops o a w K := by
  obtain ⟨d, op, ty, pos, af, gd⟩ := o
  unfold nilS at h
  split at h
  · next hd =>
    split at h
    · next hgd =>
      have hw := gd_run (gd := none) A hgd
      split at h
      · next t x y t2 hop =>
        simp only at hop
        subst hop
        split at h
        · next i' m' c' ti hx hy hti =>
          split at h
          · next el hel =>
            cases h
            obtain ⟨e, s, b⟩ := el
            have hvx := A.ev hx
            have hvy := A.ev hy
            unfold den at hvx
            split at hvx
            · next p hp =>
              simp only [den, Option.some.injEq] at hvx hvy
              refine ⟨hd, p, hp, fun K hK => d_bin (u := .slice (p.map fun L => ⟨L.b, L.pre.length, none⟩) m (c' + rm p)) (v := .slice none 0 0) hw hvx.symm hvy.symm ⟨by simp [eqGuard], ?_⟩ hK⟩
              obtain ⟨ie, z, f1', _⟩ := elem_facts (ti_elm (Tb.at hY hti) hel)
              rw [Go.Lib.run_eql_slice_nil w t e _ _ _ 0 0 f1']
              cases p <;> rfl
            · cases hvx
          · cases h
        · cases h
      · cases h
    · cases h
  · cases h
theorem NILL {i m s m2 : Nat} {f : Nat → List SV} (hY : Y.ok P = true) (A : Sy n T H ks G0 w0 G a w) (h : nilS Y n ops T o = some (i, m)) (hi : lg H i = some (some (.lst s m2 f)))
    (h1 : m2 = 0 → ∀ {G a w}, Sy n (extS T o.dst .tt) H ks G0 w0 G a w → Goal P Q K (.ops ops rest) a w)
    (h2 : ∀ {G a w}, Sy n (extS T o.dst .ff) H ks G0 w0 G a w → Goal P Q K (.ops ops rest) a w) : Goal P Q K (.ops ops (o :: rest)) a w := by
  obtain ⟨hd, p, hp, hdo⟩ := nil_do hY A h
  rw [lg_is] at hi
  have hent := A.mem.ent i _ hi
  rw [hp] at hent
  simp only [Option.getD_some] at hent
  cases p with
  | none =>
    have : m2 = 0 := by
      rcases hent.2 with h | ⟨L, h, _⟩
      · exact h
      · cases h
    exact q_does (Q := wpK P Q K) (hdo _ (h1 this (Sy.put A hd rfl)))
  | some L => exact q_does (Q := wpK P Q K) (hdo _ (h2 (Sy.put A hd rfl)))
theorem NILR {i m e s m2 c : Nat} {f : Nat → List SV} (hY : Y.ok P = true) (A : Sy n T H ks G0 w0 G a w) (h : nilS Y n ops T o = some (i, m)) (hi : lg H i = some (some (.row e s m2 c f))) (h0 : 0 < m2)
    (h2 : ∀ {G a w}, Sy n (extS T o.dst .ff) H ks G0 w0 G a w → Goal P Q K (.ops ops rest) a w) : Goal P Q K (.ops ops (o :: rest)) a w := by
  obtain ⟨hd, p, hp, hdo⟩ := nil_do hY A h
  rw [lg_is] at hi
  obtain ⟨_, _, xs, _, _, r5⟩ := A.mem.ent i _ hi
  rw [hp] at r5
  simp only [Option.getD_some] at r5
  cases p with
  | none =>
    rcases r5 with ⟨_, r5⟩ | ⟨g, cap, cur, q1, _⟩
    · omega
    · cases q1
  | some L => exact q_does (Q := wpK P Q K) (hdo _ (h2 (Sy.put A hd rfl)))
theorem ENDN {fn : Func} {R : Ending → World → Prop} (h : bodyPost P fn R .ret a w) : bodyPost P fn R .normal a w := h
end
abbrev Amb := World → List Nat → Prop
def Amb.OK (I : Amb) : Prop := ∀ w ks w' ks', I w ks → Mix ks w w' → (∀ b, ks'.contains b = true → ks.contains b = true ∨ w.heap.size ≤ b) → I w' ks'
def FnI (I : Amb) (P : Program) (f : Nat) (args : List SV) (H : Hp) (R : SV → Hp → Prop) : Prop :=
  Ent_ P f = some (false, false) ∧ ∀ G w vs, Mem H G w → I w (keys H G) → denL G args = some vs → Calls P f vs.toArray w (Post R H G w)
def FnAt (P : Program) (f : Nat) (args : List SV) (H' : Hp) (R : SV → Hp → Prop) (Gp : Gr) (w : World) (ks : List Nat) (w0 : World) : Prop :=
  Ent_ P f = some (false, false) ∧ ∀ vs, Mem H' Gp w → (∀ b, (keys H' Gp).contains b = true → ks.contains b = true ∨ w0.heap.size ≤ b) → denL Gp args = some vs → Calls P f vs.toArray w (Post R H' Gp w)
theorem Fn.toI {I : Amb} {P : Program} {f : Nat} {args : List SV} {H : Hp} {R : SV → Hp → Prop} (h : Fn P f args H R) : FnI I P f args H R := ⟨h.1, fun G w vs hM _ hv => h.2 G w vs hM hv⟩
section
variable {P : Program} {X : Tx} {n : Nat} {ks : List Nat} {G0 : Gr} {w0 : World} {T : List (Nat × SV)} {H : Hp} {G : Gr} {a : Act} {w : World} {ops : Array Oper} {o : Oper} {rest : List Oper} {Q : Exit → Act → World → Prop} {K : List Fr} {I : Amb}
theorem FnI.at {f : Nat} {args : List SV} {H' : Hp} {R : SV → Hp → Prop} (h : FnI I P f args H' R) (hI : I.OK) (h0 : I w0 ks) (hm : Mix ks w0 w) {Gp : Gr} : FnAt P f args H' R Gp w ks w0 :=
  ⟨h.1, fun vs hM hown hv => h.2 Gp w vs hM (hI _ _ _ _ h0 hm hown) hv⟩
theorem call_doI {f : Nat} {args az : List SV} {H' l : Hp} {R R2 : SV → Hp → Prop} (m : List Nat) (A : Sy n T H ks G0 w0 G a w) (hf : FnAt P f args H' R (pickG m G) w ks w0) (h1 : callS n ops T o = some (f, az)) (h2 : renL m args = some az) (h3 : renH m H' = some l) (h4 : pickH H m = some l) (h5 : ndB m = true)
    (hk : ∀ x H2, R x H2 → ∃ y l2, renO (m ++ rngF H.length (H2.length - m.length)) x = some y ∧ renH (m ++ rngF H.length (H2.length - m.length)) H2 = some l2 ∧ R2 y (putAll H m l2)) : Does P ops o a w fun v w' => ∃ y H3 F, R2 y H3 ∧ den (G ++ F) y = some v ∧ Sy n T H3 ks G0 w0 (G ++ F) a w' := by
  obtain ⟨hent, hf⟩ := hf
  obtain ⟨hd, vs, hv, hdo⟩ := callS_do (P := P) (ops := ops) A h1 hent
  obtain ⟨p1, p2, p3⟩ := pickH_at h4
  obtain ⟨r1, r2⟩ := renH_at h3
  have hlen := A.mem.len
  have hm : ∀ j ∈ m, j < G.length := fun j hj => by rw [← hlen]; exact p2 j hj
  have hM := A.mem.sub h4 h3 h5
  have hv' : denL (pickG m G) args = some vs := by rw [denL_ren hm args h2]; exact hv
  have hml : H'.length = m.length := by rw [← r1, p1]
  have hpl : (pickG m G).length = m.length := by simp [pickG]
  -- blocks that are handed on
  have hkey : ∀ b, (keys H' (pickG m G)).contains b = true → ∃ i e L, i ∈ m ∧ H[i]? = some (some e) ∧ e.mut = true ∧ G[i]? = some (some L) ∧ L.b = b := by
    intro b hb
    obtain ⟨i, e, L, k1, km, k2, k3⟩ := mem_keys.1 hb
    obtain ⟨f, q1, q2⟩ := r2 i _ k1
    obtain ⟨f', rfl⟩ := renE_some q2
    have hi : i < m.length := by rw [← p1]; exact (List.getElem?_eq_some_iff.1 q1).1
    have hj : m[i]? = some m[i] := by simp [hi]
    rw [pickG_at hm hj] at k2
    rw [p3 i _ hj] at q1
    exact ⟨m[i], f', L, List.getElem_mem hi, q1, by rw [(renE_mut q2).1]; exact km, k2, k3⟩
  have hown : ∀ b, (keys H' (pickG m G)).contains b = true → ks.contains b = true ∨ w0.heap.size ≤ b := by
    intro b hb
    obtain ⟨i, e, L, _, k1, k2, k3, k4⟩ := hkey b hb
    subst k4
    exact A.own i e L k1 k2 k3
  refine hdo (hf vs hM hown hv') ?_
  rintro e w' ⟨x, H2, F, v, hR, hx, rfl, hM2, hmix, hll, hkept, hfr⟩
  refine ⟨v, rfl, ?_⟩
  obtain ⟨y, l2, e1, e2, e3⟩ := hk x H2 hR
  obtain ⟨s1, s2⟩ := renH_at e2
  have hH2 : H2.length = m.length + F.length := by have := hM2.len; simp [hpl] at this; exact this
  have hml2 : m.length ≤ l2.length := by rw [s1, hH2]; omega
  have hcnt : H2.length - m.length = F.length := by omega
  rw [hcnt] at e1 e2 s2
  have hrl : (rngF H.length F.length).length = F.length := rngF_len _ _
  have hpk : pickG (m ++ rngF H.length F.length) (G ++ F) = pickG m G ++ F := by
    have a1 : pickG m (G ++ F) = pickG m G := by
      unfold pickG
      refine List.map_congr_left fun j hj => ?_
      rw [List.getElem?_append_left (hm j hj)]
    have a2 : pickG (rngF H.length F.length) (G ++ F) = F := by
      apply List.ext_getElem?
      intro i
      by_cases hi : i < F.length
      · unfold pickG
        rw [List.getElem?_map, rngF_at _ _ _ hi]
        simp only [Option.map_some]
        rw [List.getElem?_append_right (by omega), show H.length + i - G.length = i by omega]
        simp [hi]
      · rw [List.getElem?_eq_none (by simp [pickG, hrl]; omega), List.getElem?_eq_none (by omega)]
    rw [show pickG (m ++ rngF H.length F.length) (G ++ F) = pickG m (G ++ F) ++ pickG (rngF H.length F.length) (G ++ F) by simp [pickG], a1, a2]
  have hm2 : ∀ j ∈ m ++ rngF H.length F.length, j < (G ++ F).length := by
    intro j hj
    rcases List.mem_append.1 hj with hj | hj
    · have := hm j hj; simp; omega
    · obtain ⟨k, hk⟩ := List.mem_iff_getElem?.1 hj
      have hk' : k < F.length := by have := (List.getElem?_eq_some_iff.1 hk).1; rwa [hrl] at this
      rw [rngF_at _ _ _ hk'] at hk
      cases hk
      simp; omega
  -- an entry of the new list: handed on, left, or new
  have cases3 : ∀ (i : Nat) (e : Ent), (putAll H m l2)[i]? = some (some e) →
      (∃ (k : Nat) (e' : Ent), (m ++ rngF H.length F.length)[k]? = some i ∧ H2[k]? = some (some e') ∧ renE (m ++ rngF H.length F.length) (some e') = some (some e)) ∨ (i ∉ m ∧ H[i]? = some (some e) ∧ i < H.length) := by
    intro i e he
    have back : ∀ k : Nat, l2[k]? = some (some e) → ∃ e', H2[k]? = some (some e') ∧ renE (m ++ rngF H.length F.length) (some e') = some (some e) := by
      intro k hk
      have hklt : k < H2.length := by rw [← s1]; exact (List.getElem?_eq_some_iff.1 hk).1
      obtain ⟨f, t1, t2⟩ := s2 k H2[k] (by simp [hklt])
      rw [hk] at t1
      cases t1
      cases hq : H2[k] with
      | none => rw [hq] at t2; cases t2
      | some e' => rw [hq] at t2; exact ⟨e', by simp [hklt, hq], t2⟩
    rcases putAll_at (H := H) (l := l2) hml2 h5 p2 i with ⟨k, q1, q2⟩ | ⟨q1, q2, q3⟩ | ⟨q1, q2⟩
    · rw [q2] at he
      obtain ⟨e', b1, b2⟩ := back k he
      exact .inl ⟨k, e', by rw [List.getElem?_append_left (List.getElem?_eq_some_iff.1 q1).1]; exact q1, b1, b2⟩
    · rw [q3] at he; exact .inr ⟨q1, he, q2⟩
    · rw [q2] at he
      obtain ⟨e', b1, b2⟩ := back _ he
      have hlt : i - H.length < F.length := by have := (List.getElem?_eq_some_iff.1 b1).1; omega
      refine .inl ⟨_, e', ?_, b1, b2⟩
      rw [List.getElem?_append_right (by omega), show m.length + (i - H.length) - m.length = i - H.length by omega, rngF_at _ _ _ hlt]
      congr 1; omega
  have hGi : ∀ (i k : Nat), (m ++ rngF H.length F.length)[k]? = some i → (pickG m G ++ F)[k]? = (G ++ F)[i]? := fun i k hk => by rw [← hpk, pickG_at hm2 hk]
  have hleft : ∀ i : Nat, i < H.length → (G ++ F)[i]? = G[i]? := fun i hi => List.getElem?_append_left (by omega)
  -- blocks of what is left are not handed on
  have hoff : ∀ (i : Nat) (e : Ent) (L : Loc), (i ∉ m ∨ e.mut = false) → H[i]? = some (some e) → G[i]? = some (some L) → ¬ e.empty → (keys H' (pickG m G)).contains L.b = false := by
    intro i e L hi he hL hne
    cases hc : (keys H' (pickG m G)).contains L.b with
    | false => rfl
    | true =>
      obtain ⟨j, e', L', k0, k1, k2, k3, k4⟩ := hkey _ hc
      refine absurd k4 (A.mem.sep j i e' e L' L (fun h => ?_) k1 he k2 k3 hL hne)
      subst h
      rcases hi with hi | hi
      · exact hi k0
      · rw [k1] at he; cases he; rw [k2] at hi; cases hi
  have hLlt : ∀ (i : Nat) (e : Ent) (L : Loc), H[i]? = some (some e) → G[i]? = some (some L) → ¬ e.empty → L.b < w.heap.size := by
    intro i e L he hL hne
    have := A.mem.ent i e he
    rw [hL] at this
    exact EntOK.lt this hne
  -- a list that is read, of what was handed on, is the caller's own
  have hread : ∀ (i k : Nat) (e e' : Ent), (m ++ rngF H.length F.length)[k]? = some i → H2[k]? = some (some e') → renE (m ++ rngF H.length F.length) (some e') = some (some e) → e.mut = false → H[i]? = some (some e) ∧ i < H.length := by
    intro i k e e' t1 t2 t3 t4
    have h6 : e'.mut = false := by rw [← (renE_mut t3).1]; exact t4
    have h7 := hkept k e' t2 h6
    obtain ⟨f, q1, q2⟩ := r2 k _ h7
    obtain ⟨f', rfl⟩ := renE_some q2
    have hk' : k < m.length := by rw [← p1]; exact (List.getElem?_eq_some_iff.1 q1).1
    rw [List.getElem?_append_left hk'] at t1
    rw [p3 k i t1] at q1
    have : e = f' := by
      cases e' with
      | lst s n g => cases q2; cases t3; rfl
      | fac b o => cases q2; cases t3; rfl
      | blk => cases h6
      | row => cases h6
    subst this
    exact ⟨q1, (List.getElem?_eq_some_iff.1 q1).1⟩
  refine ⟨y, _, F, e3, ?_, ⟨A.size, A.defers, fun t z hz => den_mono F z (A.get t z hz), ⟨?_, ?_, ?_⟩, ?_, ?_, ?_⟩⟩
  · rw [← den_ren hm2 x e1, hpk]; exact hx
  · rw [putAll_len hml2, s1, hH2]; simp; omega
  · intro i e he
    rcases cases3 i e he with ⟨k, e', t1, t2, t3⟩ | ⟨t1, t2, t3⟩
    · have := hM2.ent k e' t2
      rw [← hpk] at this
      exact (ent_ren hm2 t1 t3).1 this
    · rw [hleft i t3]
      refine ((A.mem.ent i e t2).mix hmix fun hne L hL => ?_).more F
      refine hoff i e L (.inl t1) t2 ?_ hne
      cases hq : G[i]? with
      | none => rw [hq] at hL; cases hL
      | some p => rw [hq] at hL; simp at hL; rw [hL]
  · intro i j e f L M hij he hf' hmut hL hM' hne
    -- one that is not turned: az it was in the caller's list
    have still : ∀ (i' : Nat) (e' : Ent), (putAll H m l2)[i']? = some (some e') → (∃ (k : Nat) (e'' : Ent), (m ++ rngF H.length F.length)[k]? = some i' ∧ H2[k]? = some (some e'') ∧ renE (m ++ rngF H.length F.length) (some e'') = some (some e') ∧ e'.mut = true) ∨ ((i' ∉ m ∨ e'.mut = false) ∧ H[i']? = some (some e') ∧ i' < H.length) := by
      intro i' e' he'
      rcases cases3 i' e' he' with ⟨k, e'', t1, t2, t3⟩ | ⟨t1, t2, t3⟩
      · cases hm' : e'.mut with
        | true => exact .inl ⟨k, e'', t1, t2, t3, rfl⟩
        | false => obtain ⟨g1, g2⟩ := hread i' k e' e'' t1 t2 t3 hm'; exact .inr ⟨.inr rfl, g1, g2⟩
      · exact .inr ⟨.inl t1, t2, t3⟩
    rcases still i e he with ⟨k, e', t1, t2, t3, t4⟩ | ⟨t1, t2, t3⟩
    · rcases still j f hf' with ⟨k', f', u1, u2, u3, u4⟩ | ⟨u1, u2, u3⟩
      · rw [← hGi i k t1] at hL
        rw [← hGi j k' u1] at hM'
        refine hM2.sep k k' e' f' L M (fun h => hij ?_) t2 u2 (by rw [← (renE_mut t3).1]; exact t4) hL hM' (fun h => hne ((renE_mut u3).2.2 h))
        subst h
        rw [t1] at u1
        exact Option.some.inj u1
      · rw [← hGi i k t1] at hL
        rw [hleft j u3] at hM'
        have h6 := hfr k e' t2 (by rw [← (renE_mut t3).1]; exact t4) L hL
        intro hLM
        rcases h6 with h6 | h6
        · rw [hLM, hoff j f M u1 u2 hM' hne] at h6; cases h6
        · have := hLlt j f M u2 hM' hne; omega
    · rcases still j f hf' with ⟨k', f', u1, u2, u3, u4⟩ | ⟨u1, u2, u3⟩
      · rw [← hGi j k' u1] at hM'
        rw [hleft i t3] at hL
        have h6 := hfr k' f' u2 (by rw [← (renE_mut u3).1]; exact u4) M hM'
        intro hLM
        rcases h6 with h6 | h6
        · rw [← hLM, hoff i e L t1 t2 hL (mut_full hmut)] at h6; cases h6
        · have := hLlt i e L t2 hL (mut_full hmut); omega
      · rw [hleft i t3] at hL
        rw [hleft j u3] at hM'
        exact A.mem.sep i j e f L M hij t2 u2 hmut hL hM' hne
  · obtain ⟨F0, hF0⟩ := A.pre
    exact ⟨F0 ++ F, by rw [hF0, List.append_assoc]⟩
  · intro i e L he hmut hL
    rcases cases3 i e he with ⟨k, e', t1, t2, t3⟩ | ⟨t1, t2, t3⟩
    · rw [← hGi i k t1] at hL
      rcases hfr k e' t2 (by rw [← (renE_mut t3).1]; exact hmut) L hL with h6 | h6
      · exact hown _ h6
      · right; exact Nat.le_trans A.mix.size h6
    · rw [hleft i t3] at hL; exact A.own i e L t2 hmut hL
  · refine A.mix.mix hmix fun k hkl hkc => ?_
    cases hc : (keys H' (pickG m G)).contains k with
    | false => rfl
    | true =>
      rcases hown k hc with h6 | h6
      · rw [h6] at hkc; cases hkc
      · omega
theorem CALLI {f : Nat} {args az : List SV} {H' H2 l l2 : Hp} {x y : SV} (m : List Nat) (hI : I.OK) (h0 : I w0 ks) (hf : FnI I P f args H' (Rt x H2)) (A : Sy n T H ks G0 w0 G a w) (h1 : callS n ops T o = some (f, az)) (h2 : renL m args = some az) (h3 : renH m H' = some l) (h4 : pickH H m = some l) (h5 : ndB m = true)
    (h6 : renO (m ++ rngF H.length (H2.length - m.length)) x = some y) (h7 : renH (m ++ rngF H.length (H2.length - m.length)) H2 = some l2) (hk : ∀ {G a w}, Sy n (extS T o.dst y) (putAll H m l2) ks G0 w0 G a w → Goal P Q K (.ops ops rest) a w) : Goal P Q K (.ops ops (o :: rest)) a w := by
  have hd := (callS_do (P := P) (ops := ops) A h1 hf.1).1
  refine q_does (Q := wpK P Q K) ?_
  rcases call_doI (R2 := fun y H3 => ∀ {G a w}, Sy n (extS T o.dst y) H3 ks G0 w0 G a w → Goal P Q K (.ops ops rest) a w) m A (hf.at hI h0 A.mix) h1 h2 h3 h4 h5 (fun x' H' ⟨e1, e2⟩ => by subst e1; subst e2; exact ⟨y, l2, h6, h7, hk⟩) with ⟨hw, h⟩ | ⟨hw, y, H3, F, g1, g2, g3⟩
  · refine .inl ⟨hw, fun Q' => ?_⟩
    refine Oper.wp_mono (fun a' w' hh => ?_) (h Q')
    obtain ⟨v, rfl, y, H3, F, g1, g2, g3⟩ := hh
    exact ⟨v, rfl, g1 (Sy.put g3 hd g2)⟩
  · exact .inr ⟨hw, g1 (Sy.put g3 hd g2)⟩
theorem enterI {f : Nat} {fn : Func} {c : Code} {args : List SV} {R : SV → Hp → Prop} (hent : Ent_ P f = some (false, false)) (hf : P.funcs[f]? = some fn) (hb : fn.body = some c) (hn : fn.ntmps = n) (hl : Nat.ble args.length n = true)
    (h : ∀ G w a, H.length = G.length → I w (keys H G) → Sy n (argS args 0) H (keys H G) G w G a w → Goal P (bodyPost P fn (Post R H G w)) [] (.code c) a w) : FnI I P f args H R := by
  refine ⟨hent, fun G w vs hM hI hv => ?_⟩
  refine calls_of_wp hf hb (h G w _ hM.len hI ⟨?_, rfl, fun t x hx => ?_, hM, ⟨[], by simp⟩, fun i e L h1 h2 h3 => .inl (mem_keys.2 ⟨i, e, L, h1, h2, h3, rfl⟩), Mix.refl _ _⟩)
  · have := denL_len hv
    have := Nat.le_of_ble_eq_true hl
    simp [hn]; omega
  · obtain ⟨_, h2⟩ := argS_look hx
    simp only [Nat.sub_zero] at h2
    obtain ⟨v, h3, h4⟩ := denL_get hv h2
    have hlt : t < vs.length := (List.getElem?_eq_some_iff.1 h3).1
    rw [h4]
    simp [Array.getD_eq_getD_getElem?, Array.getElem?_append, hlt] at h3 ⊢
    exact h3.symm
end
def LiesAt (ao : Option Addr) (ps : List Int) (w : World) (ks : List Nat) : Prop :=
  (ao = none ∧ ps = []) ∨ ∃ b, ao = some ⟨b, 0, none⟩ ∧ b < w.heap.size ∧ ks.contains b = false ∧ w.rangeAt b 0 (ps.map (Value.int .i64))
theorem LiesAt.go {ao : Option Addr} {ps : List Int} {w w' : World} {ks ks' : List Nat} (h : LiesAt ao ps w ks) (m : Mix ks w w') (hk : ∀ b, ks'.contains b = true → ks.contains b = true ∨ w.heap.size ≤ b) : LiesAt ao ps w' ks' := by
  rcases h with h | ⟨b, h1, h2, h3, h4⟩
  · exact .inl h
  · refine .inr ⟨b, h1, Nat.lt_of_lt_of_le h2 m.size, ?_, range_mix h4 m h2 h3⟩
    cases hc : ks'.contains b with
    | false => rfl
    | true =>
      rcases hk b hc with h5 | h5
      · rw [h5] at h3; cases h3
      · omega
section
variable {P : Program} {n : Nat} {ks : List Nat} {G0 : Gr} {w0 : World} {T : List (Nat × SV)} {H : Hp} {G : Gr} {a : Act} {w : World} {Q : Exit → Act → World → Prop} {K : List Fr} {pos : Pos}
end
def Lies (b o : Nat) (vs : List Value) (w : World) (ks : List Nat) : Prop := b < w.heap.size ∧ ks.contains b = false ∧ w.rangeAt b o vs
theorem Lies.go {b o : Nat} {vs : List Value} {w w' : World} {ks ks' : List Nat} (h : Lies b o vs w ks) (m : Mix ks w w') (hk : ∀ b, ks'.contains b = true → ks.contains b = true ∨ w.heap.size ≤ b) : Lies b o vs w' ks' := by
  obtain ⟨h1, h2, h3⟩ := h
  refine ⟨Nat.lt_of_lt_of_le h1 m.size, ?_, range_mix h3 m h1 h2⟩
  cases hc : ks'.contains b with
  | false => rfl
  | true =>
    rcases hk b hc with h5 | h5
    · rw [h5] at h2; cases h2
    · omega
section
variable {P : Program} {n : Nat} {ks : List Nat} {G0 : Gr} {w0 : World} {T : List (Nat × SV)} {H : Hp} {G : Gr} {a : Act} {w : World} {Q : Exit → Act → World → Prop} {K : List Fr} {pos : Pos} {ops : Array Oper} {o : Oper} {rest : List Oper}
end
section
variable {P : Program} {n : Nat} {ks : List Nat} {G0 : Gr} {w0 : World} {T : List (Nat × SV)} {H : Hp} {G : Gr} {a : Act} {w : World} {Q : Exit → Act → World → Prop} {K : List Fr} {pos : Pos} {ops : Array Oper} {o : Oper} {rest : List Oper}
end
def Gl (os : List (Nat × Obj)) : Amb := fun w ks => ∀ p ∈ os, w.heap[p.1]? = some p.2 ∧ ks.contains p.1 = false
theorem Gl.ok {os : List (Nat × Obj)} : Amb.OK (Gl os) := fun w ks w' ks' h m hk p hp => by
  obtain ⟨h1, h2⟩ := h p hp
  have hl : p.1 < w.heap.size := (Array.getElem?_eq_some_iff.1 h1).1
  refine ⟨by rw [m.block p.1 hl h2]; exact h1, ?_⟩
  cases hc : ks'.contains p.1 with
  | false => rfl
  | true =>
    rcases hk _ hc with h3 | h3
    · rw [h3] at h2; cases h2
    · omega
theorem fnI_grow {I : Amb} {P : Program} {f : Nat} {args : List SV} {vs : List Value} {x : SV} {v : Value} (hent : Ent_ P f = some (false, false)) (ha : denL [] args = some vs) (hx : den [] x = some v) (h : ∀ w ks, I w ks → Calls P f vs.toArray w fun e w' => e = .returned v ∧ Grow w w') : FnI I P f args [] (Rt x []) := by
  refine ⟨hent, fun G w us hM hI hv => ?_⟩
  have h1 : denL G args = some vs := by simpa using denL_mono G args ha
  rw [h1] at hv
  cases hv
  have hG : G = [] := List.eq_nil_of_length_eq_zero hM.len.symm
  subst hG
  refine (h w _ hI).mono ?_
  rintro e w' ⟨rfl, hg⟩
  exact ⟨x, [], [], v, ⟨rfl, rfl⟩, by simpa using hx, rfl, ⟨rfl, fun i e he => by simp at he, fun i j e f L M _ he => by simp at he⟩, (Mix.refl _ w).grow hg, Nat.le_refl _, fun i e he _ => by simp at he, fun i e he => by simp at he⟩
theorem fn_grow {P : Program} {f : Nat} {args : List SV} {vs : List Value} {x : SV} {v : Value} (hent : Ent_ P f = some (false, false)) (ha : denL [] args = some vs) (hx : den [] x = some v) (h : ∀ w, Calls P f vs.toArray w fun e w' => e = .returned v ∧ Grow w w') : Fn P f args [] (Rt x []) := by
  have := fnI_grow (I := fun _ _ => True) hent ha hx fun w _ _ => h w
  exact ⟨this.1, fun G w us hM hv => this.2 G w us hM trivial hv⟩
theorem fnI_asX {I : Amb} {P : Program} {f : Nat} {az : List SV} {H H2 : Hp} {x y : SV} (h : FnI I P f az H (Rt x H2)) (e : ∀ G, den G x = den G y) : FnI I P f az H (Rt y H2) :=
  ⟨h.1, fun G w vs hM hI hv => Calls.mono (h.2 G w vs hM hI hv) fun e' w' ⟨x', H', F, v, ⟨q1, q2⟩, r⟩ => by subst q1; subst q2; exact ⟨y, _, F, v, ⟨rfl, rfl⟩, by rw [← e]; exact r.1, r.2⟩⟩
section
variable {P : Program} {n : Nat} {ks : List Nat} {G0 : Gr} {w0 : World} {I : Amb}
end
theorem LiesAt.ok {ao : Option Addr} {ps : List Int} : Amb.OK (LiesAt ao ps) := fun w ks w' ks' h m hk => h.go m hk
end Go.Proofs.YtedlaclfhgneeabGreatDoor
namespace Go.Proofs.YtedlaclfhgneeabGreatDoor
set_option linter.unusedVariables false
def eqL (l m : List UInt8) : Bool := l == m
theorem eqL_same (l : List UInt8) : eqL l l = true := beq_self_eq_true l
theorem eqL_eq {l m : List UInt8} (h : eqL l m = true) : l = m := eq_of_beq h
def digB (b : UInt8) : Bool := decide (48 ≤ b.toNat ∧ b.toNat ≤ 57)
def letB (b : UInt8) : Bool := decide (97 ≤ b.toNat ∧ b.toNat ≤ 122 ∨ 65 ≤ b.toNat ∧ b.toNat ≤ 90)
def blkB (b : UInt8) : Bool := decide (b.toNat = 32 ∨ b.toNat = 9 ∨ b.toNat = 10)
def numB (b : UInt8) : Bool := letB b || digB b
def nbgB (b : UInt8) : Bool := letB b || b.toNat == 95
def namB (b : UInt8) : Bool := nbgB b || (digB b || b.toNat == 46)
def rn (p : UInt8 → Bool) (l : List UInt8) : Nat := (l.takeWhile p).length
theorem rn_le (p : UInt8 → Bool) (l : List UInt8) : rn p l ≤ l.length := by
  unfold rn; exact (List.takeWhile_sublist p).length_le
theorem rn_nil (p : UInt8 → Bool) : rn p [] = 0 := rfl
theorem rn_cons (p : UInt8 → Bool) (b : UInt8) (l : List UInt8) : rn p (b :: l) = if p b then rn p l + 1 else 0 := by
  unfold rn; rw [List.takeWhile_cons]; split <;> rfl
theorem drop_at {l : List UInt8} {n : Nat} {y : UInt8} (h : l[n]? = some y) : l.drop n = y :: l.drop (n + 1) := by
  obtain ⟨h1, h2⟩ := List.getElem?_eq_some_iff.1 h
  rw [List.drop_eq_getElem_cons h1, h2]
theorem rn_go {p : UInt8 → Bool} {l : List UInt8} {n : Nat} {y : UInt8} (h : l[n]? = some y) (hp : p y = true) : rn p (l.drop n) = rn p (l.drop (n + 1)) + 1 := by
  rw [drop_at h, rn_cons, if_pos hp]
theorem rn_stop {p : UInt8 → Bool} {l : List UInt8} {n : Nat} {y : UInt8} (h : l[n]? = some y) (hp : p y = false) : rn p (l.drop n) = 0 := by
  rw [drop_at h, rn_cons, if_neg (by simp [hp])]
theorem rn_end {p : UInt8 → Bool} {l : List UInt8} {n : Nat} (h : l.length ≤ n) : rn p (l.drop n) = 0 := by
  rw [List.drop_eq_nil_of_le h, rn_nil]
end Go.Proofs.YtedlaclfhgneeabGreatDoor
namespace Go.Proofs.YtedlaclfhgneeabGreatDoor
open Go.RowKit
set_option linter.unusedVariables false
set_option linter.unusedSimpArgs false
set_option maxRecDepth 100000
set_option maxHeartbeats 2000000
set_option simprocs false
theorem hmo : Tryz.prog.follows .mixedOrders = true := by kernel_rfl
theorem fn_asX {P : Program} {f : Nat} {az : List SV} {H H2 : Hp} {x y : SV} (h : Fn P f az H (Rt x H2)) (e : ∀ G, den G x = den G y) : Fn P f az H (Rt y H2) :=
  ⟨h.1, fun G w vs hM hv => Calls.mono (h.2 G w vs hM hv) fun e' w' ⟨x', H', F, v, ⟨q1, q2⟩, r⟩ => by subst q1; subst q2; exact ⟨y, _, F, v, ⟨rfl, rfl⟩, by rw [← e]; exact r.1, r.2⟩⟩
theorem as_bool {p q : Bool} (h : p = q) : ∀ G, den G (.bool p) = den G (.bool q) := fun _ => by rw [h]
theorem as_int {k : IntKind} {p q : Int} (h : p = q) : ∀ G, den G (.int k p) = den G (.int k q) := fun _ => by rw [h]
theorem isDigit_ (c : Int)  : Fn Tryz.prog 60 [.int .u8 c] [] (Rt (.bool ((decide (48 ≤ c)) && (decide (c ≤ 57)))) []) :=
 enterM (n := 9) (by kernel_rfl) Tryz.func60 rfl rfl rfl fun G w a h0 A => N hX 17 A rfl rfl fun A => RETN hX A rfl rfl rfl h0 rfl rfl rfl rfl rfl rfl
theorem isDigit_b (b : UInt8) : Fn Tryz.prog 60 [.int .u8 ((b.toNat : Nat) : Int)] [] (Rt (.bool (digB b)) []) := fn_asX (isDigit_ ((b.toNat : Nat) : Int)) (as_bool (by rw [Bool.eq_iff_iff]; simp [digB, blkB, letB, nbgB, namB, numB]; try omega))
theorem isBlank_ (c : Int)  : Fn Tryz.prog 57 [.int .u8 c] [] (Rt (.bool (((c == 32) || (c == 9)) || (c == 10))) []) :=
 enterM (n := 13) (by kernel_rfl) Tryz.func57 rfl rfl rfl fun G w a h0 A => N hX 21 A rfl rfl fun A => RETN hX A rfl rfl rfl h0 rfl rfl rfl rfl rfl rfl
theorem isBlank_b (b : UInt8) : Fn Tryz.prog 57 [.int .u8 ((b.toNat : Nat) : Int)] [] (Rt (.bool (blkB b)) []) := fn_asX (isBlank_ ((b.toNat : Nat) : Int)) (as_bool (by rw [Bool.eq_iff_iff]; simp [digB, blkB, letB, nbgB, namB, numB]; try omega))
theorem isLetter_ (c : Int)  : Fn Tryz.prog 131 [.int .u8 c] [] (Rt (.bool (((decide (97 ≤ c)) && (decide (c ≤ 122))) || ((decide (65 ≤ c)) && (decide (c ≤ 90))))) []) :=
 enterM (n := 17) (by kernel_rfl) Tryz.func131 rfl rfl rfl fun G w a h0 A => N hX 25 A rfl rfl fun A => RETN hX A rfl rfl rfl h0 rfl rfl rfl rfl rfl rfl
theorem isNameBegin_ (c : Int)  : Fn Tryz.prog 64 [.int .u8 c] [] (Rt (.bool ((((decide (97 ≤ c)) && (decide (c ≤ 122))) || ((decide (65 ≤ c)) && (decide (c ≤ 90)))) || (c == 95))) []) :=
 enterM (n := 9) (by kernel_rfl) Tryz.func64 rfl rfl rfl fun G w a h0 A => N hX 8 A rfl rfl fun A => CALL1 [] (isLetter_ c) A rfl rfl rfl rfl rfl rfl rfl fun A => N hX 8 A rfl rfl fun A => RETN hX A rfl rfl rfl h0 rfl rfl rfl rfl rfl rfl
theorem isNameBegin_b (b : UInt8) : Fn Tryz.prog 64 [.int .u8 ((b.toNat : Nat) : Int)] [] (Rt (.bool (nbgB b)) []) := fn_asX (isNameBegin_ ((b.toNat : Nat) : Int)) (as_bool (by rw [Bool.eq_iff_iff]; simp [digB, blkB, letB, nbgB, namB, numB]; try omega))
def isNamePart0 (c : Int) : Bool := if ((((decide (97 ≤ c)) && (decide (c ≤ 122))) || ((decide (65 ≤ c)) && (decide (c ≤ 90)))) || (c == 95)) = true then true else ((decide (48 ≤ c)) && (decide (c ≤ 57))) || (c == 46)
theorem isNamePart_ (c : Int)  : Fn Tryz.prog 65 [.int .u8 c] [] (Rt (.bool (isNamePart0 c)) []) :=
 enterM (n := 13) (by kernel_rfl) Tryz.func65 rfl rfl rfl fun G w a h0 A => N hX 8 A rfl rfl fun A => CALL1 [] (isNameBegin_ c) A rfl rfl rfl rfl rfl rfl rfl fun A => N hX 1 A rfl rfl fun A => fork 5 A rfl
  (fun h1 A => N hX 11 A rfl rfl fun A => RETN hX A rfl rfl rfl h0 rfl rfl rfl rfl (by simp only [oneS, nb, nbL, nbH, isNamePart0, if_pos h1]) rfl)
  (fun h1 A => N hX 1 A rfl rfl fun A => CALL1 [] (isDigit_ c) A rfl rfl rfl rfl rfl rfl rfl fun A => N hX 9 A rfl rfl fun A => RETN hX A rfl rfl rfl h0 rfl rfl rfl rfl (by simp only [oneS, nb, nbL, nbH, isNamePart0, if_neg (ne_true_of_eq_false h1)]) rfl)
theorem isNamePart_b (b : UInt8) : Fn Tryz.prog 65 [.int .u8 ((b.toNat : Nat) : Int)] [] (Rt (.bool (namB b)) []) := fn_asX (isNamePart_ ((b.toNat : Nat) : Int)) (as_bool (by rw [Bool.eq_iff_iff]; simp [isNamePart0, digB, blkB, letB, nbgB, namB, numB]; try omega))
def isNumberPart0 (c : Int) : Bool := if (((decide (97 ≤ c)) && (decide (c ≤ 122))) || ((decide (65 ≤ c)) && (decide (c ≤ 90)))) = true then true else (decide (48 ≤ c)) && (decide (c ≤ 57))
theorem isNumberPart_ (c : Int)  : Fn Tryz.prog 63 [.int .u8 c] [] (Rt (.bool (isNumberPart0 c)) []) :=
 enterM (n := 9) (by kernel_rfl) Tryz.func63 rfl rfl rfl fun G w a h0 A => N hX 8 A rfl rfl fun A => CALL1 [] (isLetter_ c) A rfl rfl rfl rfl rfl rfl rfl fun A => N hX 1 A rfl rfl fun A => fork 5 A rfl
  (fun h1 A => N hX 7 A rfl rfl fun A => RETN hX A rfl rfl rfl h0 rfl rfl rfl rfl (by simp only [oneS, nb, nbL, nbH, isNumberPart0, if_pos h1]) rfl)
  (fun h1 A => N hX 1 A rfl rfl fun A => CALL1 [] (isDigit_ c) A rfl rfl rfl rfl rfl rfl rfl fun A => N hX 5 A rfl rfl fun A => RETN hX A rfl rfl rfl h0 rfl rfl rfl rfl (by simp only [oneS, nb, nbL, nbH, isNumberPart0, if_neg (ne_true_of_eq_false h1)]) rfl)
theorem isNumberPart_b (b : UInt8) : Fn Tryz.prog 63 [.int .u8 ((b.toNat : Nat) : Int)] [] (Rt (.bool (numB b)) []) := fn_asX (isNumberPart_ ((b.toNat : Nat) : Int)) (as_bool (by rw [Bool.eq_iff_iff]; simp [isNumberPart0, digB, blkB, letB, nbgB, namB, numB]; try omega))
theorem at_of {l : List UInt8} {k : Nat} (h : (k : Int) < (l.length : Int)) : l[k]? = some (l.getD ((k : Int)).toNat 0) := by
  have hk : k < l.length := by omega
  simp [List.getD, hk]
theorem run_step {p : UInt8 → Bool} {l : List UInt8} {k : Nat} (h : k ≤ l.length ∧ k + rn p (l.drop k) = rn p l) (h1 : (k : Int) < (l.length : Int)) (h2 : p (l.getD ((k : Int)).toNat 0) = true) : k + 1 ≤ l.length ∧ k + 1 + rn p (l.drop (k + 1)) = rn p l := by
  have := rn_go (at_of h1) h2
  exact ⟨by omega, by omega⟩
theorem run_stop {p : UInt8 → Bool} {l : List UInt8} {k : Nat} (h : k ≤ l.length ∧ k + rn p (l.drop k) = rn p l) (h2 : ¬ (k : Int) < (l.length : Int) ∨ ((k : Int) < (l.length : Int) ∧ p (l.getD ((k : Int)).toNat 0) = false)) : (k : Int) = ((rn p l : Nat) : Int) := by
  rcases h2 with h2 | ⟨h1, h2⟩
  · have := rn_end (p := p) (l := l) (n := k) (by omega); omega
  · have := rn_stop (at_of h1) h2; omega
theorem run_ (f : Nat) (p : UInt8 → Bool) (l : List UInt8) (hf : ∀ b : UInt8, Fn Tryz.prog f [.int .u8 ((b.toNat : Nat) : Int)] [] (Rt (.bool (p b)) [])) (hl : l.length ≤ 1000000) : Fn Tryz.prog 62 [.str l, .fn f []] [] (Rt (.int .i64 ((rn p l : Nat) : Int)) []) :=
 enterM (n := 20) (by kernel_rfl) Tryz.func62 rfl rfl rfl fun G w a h0 A => N hX 12 A rfl rfl fun A => LOOP1 (fun (k : Nat) => [(0, .str l), (1, .fn f []), (4, .int .i64 0), (5, .int .i64 (k : Int))]) (fun (k : Nat) => []) (fun (k : Nat) => k ≤ l.length ∧ k + rn p (l.drop k) = rn p l) (fun (k : Nat) => l.length - k) 0 ⟨Nat.zero_le _, by simp⟩ ((A.cut [0, 1, 4, 5] rfl).trunc 0 rfl rfl rfl (by simp only [List.length_cons, List.length_nil] at h0; omega)) fun k hI {G a w} A => N hX 8 A rfl rfl fun A => forkD 10 A rfl
   (fun h1 A => N hX 4 A rfl (ok_d (by omega) <| okE_nil) fun A => CALL1 [] (hf (l.getD ((k : Int)).toNat 0)) A rfl rfl rfl rfl rfl rfl rfl fun A => N hX 3 A rfl rfl fun A => fork 16 A rfl
    (fun h2 A => N hX 10 A rfl (ok_d (by omega) <| okE_nil) fun A => ⟨k + 1, _, (by omega), (run_step hI h1 h2), ((A.cut [0, 1, 4, 5] rfl).trunc 0 rfl rfl rfl (by simp only [List.length_cons, List.length_nil] at h0; omega))⟩)
    (fun h2 A => N hX 10 A rfl rfl fun A => RETN hX A rfl rfl rfl h0 rfl rfl rfl rfl (congrArg (SV.int IntKind.i64) (run_stop hI (.inr ⟨h1, h2⟩))) rfl))
   (fun h1 A => N hX 18 A rfl rfl fun A => RETN hX A rfl rfl rfl h0 rfl rfl rfl rfl (congrArg (SV.int IntKind.i64) (run_stop hI (.inl h1))) rfl)
end Go.Proofs.YtedlaclfhgneeabGreatDoor
namespace Go.Proofs.YtedlaclfhgneeabGreatDoor
open Go.Shelf Go.RowKit
set_option linter.unusedVariables false
def lays137_ren : Go.Shelf.Ren := ⟨fun | 137 => 132 | 217 => 179 | 266 => 215 | n => n, fun | 9 => 9 | 5 => 5 | 3 => 3 | n => n, fun | n => n⟩
theorem lays137 : Go.Proofs.Lays.n137 Tryz.prog lays137_ren := {
  mixed := by kernel_rfl
  f137 := Tryz.func132.trans (congrArg some (by kernel_rfl))
  f217 := Tryz.func179.trans (congrArg some (by kernel_rfl))
  f266 := Tryz.func215.trans (congrArg some (by kernel_rfl))
  t3 := Tryz.underlying3
  a3 := Tryz.isAgg3
  z3 := Tryz.sizeOf3
  v3 := Tryz.zeroValue3
  t5 := Tryz.underlying5
  a5 := Tryz.isAgg5
  z5 := Tryz.sizeOf5
  v5 := Tryz.zeroValue5
  t9 := Tryz.underlying9
  a9 := Tryz.isAgg9
  z9 := Tryz.sizeOf9
  v9 := Tryz.zeroValue9 }
def lays143_ren : Go.Shelf.Ren := ⟨fun | 143 => 59 | 219 => 128 | 217 => 179 | 225 => 180 | 224 => 181 | 267 => 182 | 266 => 215 | 314 => 216 | n => n, fun | 9 => 9 | 3 => 3 | 4 => 4 | 5 => 5 | 46 => 224 | 146 => 245 | 51 => 244 | n => n, fun | 1 => 0 | n => n⟩
theorem lays143 : Go.Proofs.Lays.n143 Tryz.prog lays143_ren := {
  mixed := by kernel_rfl
  f143 := Tryz.func59.trans (congrArg some (by kernel_rfl))
  f217 := Tryz.func179.trans (congrArg some (by kernel_rfl))
  f219 := Tryz.func128.trans (congrArg some (by kernel_rfl))
  f224 := Tryz.func181.trans (congrArg some (by kernel_rfl))
  f225 := Tryz.func180.trans (congrArg some (by kernel_rfl))
  f266 := Tryz.func215.trans (congrArg some (by kernel_rfl))
  f267 := Tryz.func182.trans (congrArg some (by kernel_rfl))
  f314 := Tryz.func216.trans (congrArg some (by kernel_rfl))
  t3 := Tryz.underlying3
  a3 := Tryz.isAgg3
  z3 := Tryz.sizeOf3
  v3 := Tryz.zeroValue3
  t4 := Tryz.underlying4
  a4 := Tryz.isAgg4
  z4 := Tryz.sizeOf4
  v4 := Tryz.zeroValue4
  t5 := Tryz.underlying5
  a5 := Tryz.isAgg5
  z5 := Tryz.sizeOf5
  v5 := Tryz.zeroValue5
  t9 := Tryz.underlying9
  a9 := Tryz.isAgg9
  z9 := Tryz.sizeOf9
  v9 := Tryz.zeroValue9
  t46 := Tryz.underlying224
  a46 := Tryz.isAgg224
  z46 := Tryz.sizeOf224
  v46 := Tryz.zeroValue224
  t51 := Tryz.underlying244
  a51 := Tryz.isAgg244
  z51 := Tryz.sizeOf244
  v51 := Tryz.zeroValue244
  t146 := Tryz.underlying245
  a146 := Tryz.isAgg245
  z146 := Tryz.sizeOf245
  v146 := Tryz.zeroValue245
  g1 := by kernel_rfl }
def marksL : List UInt8 := [123, 125, 40, 41, 91, 93, 59, 124, 44, 58, 61, 43, 45, 35, 36, 126, 42, 47, 92, 38, 63, 94]
def mrkB (b : UInt8) : Bool := marksL.contains b
theorem indexByte_mark (l : List UInt8) (b : UInt8) : decide (Lib.indexByte l b ≥ 0) = l.contains b := by
  induction l with
  | nil => rfl
  | cons x l ih =>
    unfold Lib.indexByte
    rw [List.contains_cons]
    by_cases h : x = b
    · subst h; simp
    · have h1 : (x == b) = false := by simp [h]
      have h2 : (b == x) = false := by simp [Ne.symm h]
      rw [h1, h2]
      simp only [Bool.false_eq_true, if_false, Bool.false_or]
      rw [← ih]
      have h3 := Lib.indexByte_ge l b
      by_cases h4 : Lib.indexByte l b = -1
      · simp [h4]
      · have h5 : (Lib.indexByte l b == -1) = false := by simp [h4]
        rw [h5]
        simp only [Bool.false_eq_true, if_false]
        exact decide_eq_decide.2 (by omega)
theorem indexByte_any (b : UInt8) (w : World) : Calls Tryz.prog 132 #[.string (S marksL), .int .u8 ((b.toNat : Nat) : Int)] w fun e w' => e = .returned (.int .i64 (Lib.indexByte marksL b)) ∧ Grow w w' := by
  refine (Any.strings_IndexByte lays137 (S marksL) ((b.toNat : Nat) : Int) w).mono ?_
  rintro e w' ⟨rfl, rfl⟩
  refine ⟨?_, Grow.refl _⟩
  rw [S_data, Int.toNat_natCast]
  simp
theorem index_any (l q : List UInt8) (m : Int) (w : World) (hl : l.length ≤ 8192) (hm : w.cell? ⟨0, 0, none⟩ = some (.int .i64 m)) : Calls Tryz.prog 59 #[.string (S l), .string (S q)] w fun e w' => e = .returned (.int .i64 (Lib.index l q)) ∧ Grow w w' := by
  refine (Any.strings_Index lays143 (S l) (S q) m w (by rw [S_size]; omega) hm).mono ?_
  rintro e w' ⟨rfl, rfl⟩
  exact ⟨by rw [S_data, S_data], Grow.refl _⟩
end Go.Proofs.YtedlaclfhgneeabGreatDoor
namespace Go.Proofs.YtedlaclfhgneeabGreatDoor
set_option linter.unusedVariables false
def preB (l q : List UInt8) : Bool := decide (q.length ≤ l.length) && (l.take q.length == q)
theorem pre_yes {l q : List UInt8} (h : q.length ≤ l.length) (e : (l.take q.length == q) = true) : preB l q = true := by unfold preB; rw [e, decide_eq_true h]; rfl
def mkN (l : List UInt8) : Nat := if preB l [47, 92] || preB l [92, 47] then 2 else if (match l[0]? with | some b => mrkB b | none => false) then 1 else 0
theorem mkN_two {l : List UInt8} (h : preB l [47, 92] = true) : mkN l = 2 := by unfold mkN; simp [h]
theorem mkN_two' {l : List UInt8} (h : preB l [92, 47] = true) : mkN l = 2 := by unfold mkN; simp [h]
theorem mkN_one {l : List UInt8} {b : UInt8} (h1 : preB l [47, 92] = false) (h2 : preB l [92, 47] = false) (hb : l[0]? = some b) (h : decide (Lib.indexByte marksL b ≥ 0) = true) : mkN l = 1 := by
  have : mrkB b = true := by unfold mrkB; rw [← indexByte_mark]; exact h
  unfold mkN; simp [h1, h2, hb, this]
theorem mkN_no {l : List UInt8} {b : UInt8} (h1 : preB l [47, 92] = false) (h2 : preB l [92, 47] = false) (hb : l[0]? = some b) (h : decide (Lib.indexByte marksL b ≥ 0) = false) : mkN l = 0 := by
  have : mrkB b = false := by unfold mrkB; rw [← indexByte_mark]; exact h
  unfold mkN; simp [h1, h2, hb, this]
def endR (l : List UInt8) : Int := Lib.index l [42, 41]
theorem endR_ge (l : List UInt8) : -1 ≤ endR l := Lib.index_ge l _
theorem drop_lt {l : List UInt8} (n : Nat) (h : 0 < l.length) (hn : 0 < n) : (l.drop n).length < l.length := by rw [List.length_drop]; omega
def skipL (l : List UInt8) : Nat × Bool :=
  match l with
  | [] => (0, false)
  | b :: r =>
    if blkB b then ((skipL r).1 + 1, (skipL r).2)
    else if preB (b :: r) [40, 42] then
      if endR ((b :: r).drop 2) < 0 then (0, true)
      else ((skipL ((b :: r).drop (endR ((b :: r).drop 2)).toNat.succ.succ.succ.succ)).1 + ((endR ((b :: r).drop 2)).toNat + 4), (skipL ((b :: r).drop (endR ((b :: r).drop 2)).toNat.succ.succ.succ.succ)).2)
    else (0, false)
termination_by l.length
decreasing_by
  · simp
  all_goals exact drop_lt _ (by simp) (by omega)
theorem skip_nil : skipL [] = (0, false) := by rw [skipL]
theorem skip_end {l : List UInt8} {n : Nat} (h : l.length ≤ n) : skipL (l.drop n) = (0, false) := by rw [List.drop_eq_nil_of_le h, skip_nil]
theorem skip_blank {l : List UInt8} {n : Nat} {b : UInt8} (hb : l[n]? = some b) (h : blkB b = true) : skipL (l.drop n) = ((skipL (l.drop (n + 1))).1 + 1, (skipL (l.drop (n + 1))).2) := by
  rw [drop_at hb, skipL, if_pos h]
theorem skip_word {l : List UInt8} {n : Nat} {b : UInt8} (hb : l[n]? = some b) (h : blkB b = false) (hp : preB (l.drop n) [40, 42] = false) : skipL (l.drop n) = (0, false) := by
  rw [drop_at hb] at hp ⊢
  rw [skipL, if_neg (by simp [h]), if_neg (by simp [hp])]
theorem skip_open {l : List UInt8} {n : Nat} {b : UInt8} (hb : l[n]? = some b) (h : blkB b = false) (hp : preB (l.drop n) [40, 42] = true) (he : endR (l.drop (n + 2)) < 0) : skipL (l.drop n) = (0, true) := by
  have e : l.drop (n + 2) = (l.drop n).drop 2 := by rw [List.drop_drop]
  rw [e] at he
  rw [drop_at hb] at hp he ⊢
  rw [skipL, if_neg (by simp [h]), if_pos hp, if_pos he]
theorem skip_remark {l : List UInt8} {n : Nat} {b : UInt8} (hb : l[n]? = some b) (h : blkB b = false) (hp : preB (l.drop n) [40, 42] = true) (he : ¬ endR (l.drop (n + 2)) < 0) :
    skipL (l.drop n) = ((skipL (l.drop (n + 2 + (endR (l.drop (n + 2))).toNat + 2))).1 + ((endR (l.drop (n + 2))).toNat + 4), (skipL (l.drop (n + 2 + (endR (l.drop (n + 2))).toNat + 2))).2) := by
  have e : l.drop (n + 2) = (l.drop n).drop 2 := by rw [List.drop_drop]
  have e2 : l.drop (n + 2 + (endR (l.drop (n + 2))).toNat + 2) = (l.drop n).drop (endR (l.drop (n + 2))).toNat.succ.succ.succ.succ := by
    rw [List.drop_drop]; congr 1; omega
  rw [e2, e]
  rw [e] at he
  rw [drop_at hb] at hp he ⊢
  rw [skipL, if_neg (by simp [h]), if_pos hp, if_neg he]
theorem endR_nil : endR [] = -1 := rfl
theorem endR_cons (b : UInt8) (l : List UInt8) : endR (b :: l) = if [42, 41].isPrefixOf (b :: l) then 0 else if endR l == -1 then -1 else endR l + 1 := by
  unfold endR; rw [Lib.index]
theorem endR_le (l : List UInt8) : endR l < 0 ∨ (endR l).toNat + 2 ≤ l.length := by
  induction l with
  | nil => exact .inl (by rw [endR_nil]; omega)
  | cons b l ih =>
    rw [endR_cons]
    split
    · next h =>
      right
      match l, h with
      | [], h => simp at h
      | c :: l, h => simp
    · split
      · left; omega
      · next h =>
        have h1 : endR l ≠ -1 := by simpa using h
        have h2 := endR_ge l
        rcases ih with h3 | h3
        · omega
        · right; simp only [List.length_cons]; omega
end Go.Proofs.YtedlaclfhgneeabGreatDoor
namespace Go.Proofs.YtedlaclfhgneeabGreatDoor
def cutF (l q : List UInt8) : List UInt8 := if preB l q then l.drop q.length else l
theorem pre_len {l q : List UInt8} (h : preB l q = true) : q.length ≤ l.length := by unfold preB at h; rw [Bool.and_eq_true] at h; exact of_decide_eq_true h.1
end Go.Proofs.YtedlaclfhgneeabGreatDoor
namespace Go.Proofs.YtedlaclfhgneeabGreatDoor
open Go.RowKit
set_option linter.unusedVariables false
set_option linter.unusedSimpArgs false
set_option maxRecDepth 100000
set_option maxHeartbeats 2000000
set_option simprocs false
theorem preB_is (l q : List UInt8) : ((decide ((l.length : Int) ≥ (q.length : Int))) && ((l.take ((q.length : Int)).toNat) == q)) = preB l q := by
  unfold preB; rw [Int.toNat_natCast]; congr 1; exact decide_eq_decide.2 (by omega)
theorem hpre_ (l : List UInt8) (q : List UInt8)  : Fn Tryz.prog 127 [.str l, .str q] [] (Rt (.bool (preB l q)) []) :=
 enterM (n := 18) (by kernel_rfl) Tryz.func127 rfl rfl rfl fun G w a h0 A => N hX 24 A rfl (ok_r <| ok_r <| ok_r <| ok_g (fun hg => (by have := of_decide_eq_true hg; omega)) <| ok_r <| ok_r <| ok_r <| okE_nil) fun A => RETN hX A rfl rfl rfl h0 rfl rfl rfl rfl (congrArg SV.bool (preB_is l q)) rfl
theorem hasp_ (l : List UInt8) (q : List UInt8)  : Fn Tryz.prog 58 [.str l, .str q] [] (Rt (.bool (preB l q)) []) :=
 enterM (n := 8) (by kernel_rfl) Tryz.func58 rfl rfl rfl fun G w a h0 A => N hX 9 A rfl rfl fun A => CALL1 [] (hpre_ l q) A rfl rfl rfl rfl rfl rfl rfl fun A => N hX 4 A rfl rfl fun A => RETN hX A rfl rfl rfl h0 rfl rfl rfl rfl rfl rfl
theorem cutpl_ (l : List UInt8) (q : List UInt8)  : Fn Tryz.prog 183 [.str l, .str q] [] (Rt (.tup [.str (cutF l q), .bool (preB l q)]) []) :=
 enterM (n := 15) (by kernel_rfl) Tryz.func183 rfl rfl rfl fun G w a h0 A => N hX 11 A rfl rfl fun A => CALL1 [] (hpre_ l q) A rfl rfl rfl rfl rfl rfl rfl fun A => N hX 3 A rfl rfl fun A => fork 9 A rfl
  (fun h1 A => N hX 9 A rfl rfl fun A => RETN hX A rfl rfl rfl h0 rfl rfl rfl rfl (by have e : preB l q = false := (by have := h1; revert this; cases preB l q <;> simp); unfold cutF; rw [e]; simp [oneS, nb, nbL]) rfl)
  (fun h1 A => N hX 14 A rfl (ok_d (by have e : preB l q = true := (by have := h1; revert this; cases preB l q <;> simp); have := pre_len e; omega) <| okE_nil) fun A => RETN hX A rfl rfl rfl h0 rfl rfl rfl rfl (by have e : preB l q = true := (by have := h1; revert this; cases preB l q <;> simp); unfold cutF; rw [e]; simp [oneS, nb, nbL]) rfl)
theorem cutp_ (l : List UInt8) (q : List UInt8)  : Fn Tryz.prog 129 [.str l, .str q] [] (Rt (.tup [.str (cutF l q), .bool (preB l q)]) []) :=
 enterM (n := 11) (by kernel_rfl) Tryz.func129 rfl rfl rfl fun G w a h0 A => N hX 10 A rfl rfl fun A => CALL1 [] (cutpl_ l q) A rfl rfl rfl rfl rfl rfl rfl fun A => N hX 7 A rfl rfl fun A => RETN hX A rfl rfl rfl h0 rfl rfl rfl rfl rfl rfl
theorem ixb_ (b : UInt8) : Fn Tryz.prog 132 [.str marksL, .int .u8 ((b.toNat : Nat) : Int)] [] (Rt (.int .i64 (Lib.indexByte marksL b)) []) := fn_grow (by kernel_rfl) rfl rfl (indexByte_any b)
theorem at0 {l : List UInt8} (h : 0 < l.length) : l[0]? = some (l.getD (0 : Int).toNat 0) := by simp [List.getD, h]
theorem markl_ (l : List UInt8) (hl : 0 < l.length) : Fn Tryz.prog 66 [.str l] [] (Rt (.int .i64 ((mkN l : Nat) : Int)) []) :=
 enterM (n := 13) (by kernel_rfl) Tryz.func66 rfl rfl rfl fun G w a h0 A => N hX 11 A rfl rfl fun A => CALL1 [] (hasp_ l [47, 92]) A rfl rfl rfl rfl rfl rfl rfl fun A => N hX 3 A rfl rfl fun A => fork 3 A rfl
  (fun h1 A => N hX 10 A rfl rfl fun A => RETN hX A rfl rfl rfl h0 rfl rfl rfl rfl (by rw [mkN_two h1]; rfl) rfl)
  (fun h1 A => N hX 3 A rfl rfl fun A => CALL1 [] (hasp_ l [92, 47]) A rfl rfl rfl rfl rfl rfl rfl fun A => N hX 3 A rfl rfl fun A => fork 3 A rfl
   (fun h2 A => N hX 7 A rfl rfl fun A => RETN hX A rfl rfl rfl h0 rfl rfl rfl rfl (by rw [mkN_two' h2]; rfl) rfl)
   (fun h2 A => N hX 5 A rfl (ok_d (by omega) <| okE_nil) fun A => CALL1 [] (ixb_ (l.getD (0 : Int).toNat 0)) A rfl rfl rfl rfl rfl rfl rfl fun A => N hX 4 A rfl rfl fun A => forkD 8 A rfl
    (fun h3 A => N hX 7 A rfl rfl fun A => RETN hX A rfl rfl rfl h0 rfl rfl rfl rfl (by rw [mkN_one h1 h2 (at0 hl) (decide_eq_true h3)]; rfl) rfl)
    (fun h3 A => N hX 10 A rfl rfl fun A => RETN hX A rfl rfl rfl h0 rfl rfl rfl rfl (by rw [mkN_no h1 h2 (at0 hl) (decide_eq_false h3)]; rfl) rfl)))
theorem ix_ (l q : List UInt8) (os : List (Nat × Obj)) (hM : ∀ w ks, Gl os w ks → ∃ m, w.cell? ⟨0, 0, none⟩ = some (.int .i64 m)) (hl : l.length ≤ 8192) : FnI (Gl os) Tryz.prog 59 [.str l, .str q] [] (Rt (.int .i64 (Lib.index l q)) []) := fnI_grow (by kernel_rfl) rfl rfl fun w ks h => by
  obtain ⟨m, hm⟩ := hM w ks h
  exact index_any l q m w hl hm
structure KI (l : List UInt8) (a k : Nat) : Prop where
  le : k ≤ l.length
  ge : a ≤ k
  eq : (skipL (l.drop a)) = ((skipL (l.drop k)).1 + (k - a), (skipL (l.drop k)).2)
section
variable {l : List UInt8} {a k : Nat}
theorem KI.i0 (h : a ≤ l.length) : KI l a a := ⟨h, Nat.le_refl _, by simp⟩
theorem KI.bl (hI : KI l a k) (h1 : (k : Int) < (l.length : Int)) (h : blkB (l.getD ((k : Int)).toNat 0) = true) : KI l a (k + 1) := by
  have := hI.ge
  refine ⟨by omega, by omega, ?_⟩
  rw [hI.eq, skip_blank (at_of h1) h]
  simp; omega
theorem KI.rm (hI : KI l a k) (h1 : (k : Int) < (l.length : Int)) (h : blkB (l.getD ((k : Int)).toNat 0) = false) (hp : preB (l.drop ((k : Int)).toNat) [40, 42] = true) (he : ¬ endR (l.drop (((k : Int) + 2)).toNat) < 0) : KI l a (k + 2 + (endR (l.drop (k + 2))).toNat + 2) := by
  have hg := hI.ge
  have hk : ((k : Int)).toNat = k := by omega
  have hk2 : (((k : Int) + 2)).toNat = k + 2 := by omega
  rw [hk] at hp
  rw [hk2] at he
  have hl := pre_len hp
  simp only [List.length_drop, List.length_cons, List.length_nil] at hl
  have hr := endR_le (l.drop (k + 2))
  rw [List.length_drop] at hr
  refine ⟨by omega, by omega, ?_⟩
  rw [hI.eq, skip_remark (at_of h1) h hp he]
  simp; omega
theorem KI.fi (hI : KI l a k) (h : ¬ (k : Int) < (l.length : Int)) : skipL (l.drop a) = (k - a, false) := by
  rw [hI.eq, skip_end (by omega)]; simp
theorem KI.wd (hI : KI l a k) (h1 : (k : Int) < (l.length : Int)) (h : blkB (l.getD ((k : Int)).toNat 0) = false) (hp : preB (l.drop ((k : Int)).toNat) [40, 42] = false) : skipL (l.drop a) = (k - a, false) := by
  have hk : ((k : Int)).toNat = k := by omega
  rw [hk] at hp
  rw [hI.eq, skip_word (at_of h1) h hp]; simp
theorem KI.op (hI : KI l a k) (h1 : (k : Int) < (l.length : Int)) (h : blkB (l.getD ((k : Int)).toNat 0) = false) (hp : preB (l.drop ((k : Int)).toNat) [40, 42] = true) (he : endR (l.drop (((k : Int) + 2)).toNat) < 0) : skipL (l.drop a) = (k - a, true) := by
  have hk : ((k : Int)).toNat = k := by omega
  have hk2 : (((k : Int) + 2)).toNat = k + 2 := by omega
  rw [hk] at hp
  rw [hk2] at he
  rw [hI.eq, skip_open (at_of h1) h hp he]; simp
end
def skE (l : List UInt8) (a : Nat) : Int := if (skipL (l.drop a)).2 then 24 else 0
theorem skip_ (l : List UInt8) (s0 : Nat) (os : List (Nat × Obj)) (hM : ∀ w ks, Gl os w ks → ∃ m, w.cell? ⟨0, 0, none⟩ = some (.int .i64 m)) (ha : s0 ≤ l.length) (hl : l.length ≤ 8192) : FnI (Gl os) Tryz.prog 24 [.str l, .int .i64 (s0 : Int)] [] (Rt (.tup [.int .i64 ((s0 + (skipL (l.drop s0)).1 : Nat) : Int), .int .i64 (skE l s0)]) []) :=
 enterI (n := 39) (by kernel_rfl) Tryz.func24 rfl rfl rfl fun G w a h0 hI A => N hX 8 A rfl rfl fun A => LOOP1 (fun (k : Nat) => [(0, .str l), (1, .int .i64 (k : Int)), (4, .int .i64 0), (5, .int .i64 0)]) (fun (k : Nat) => []) (fun (k : Nat) => KI l s0 k) (fun (k : Nat) => l.length - k) s0 (KI.i0 ha) ((A.cut [0, 1, 4, 5] rfl).trunc 0 rfl rfl rfl (by simp only [List.length_cons, List.length_nil] at h0; omega)) fun k hI2 {G a w} A => N hX 9 A rfl rfl fun A => forkD 11 A rfl
   (fun h1 A => N hX 10 A rfl (ok_d (by have hle := hI2.le; (try simp only [List.length_drop]); omega) <| okE_nil) fun A => CALL1 [] (isBlank_b (l.getD ((k : Int)).toNat 0)) A rfl rfl rfl rfl rfl rfl rfl fun A => N hX 3 A rfl rfl fun A => fork 13 A rfl
    (fun h2 A => N hX 8 A rfl (ok_d (by have hle := hI2.le; (try simp only [List.length_drop]); omega) <| okE_nil) fun A => ⟨k + 1, _, (by omega), (hI2.bl h1 h2), ((A.cut [0, 1, 4, 5] rfl).trunc 0 rfl rfl rfl (by simp only [List.length_cons, List.length_nil] at h0; omega)).sayT (by simp)⟩)
    (fun h2 A => N hX 6 A rfl (ok_d (by have hle := hI2.le; (try simp only [List.length_drop]); omega) <| okE_nil) fun A => CALL1 [] (hasp_ (l.drop ((k : Int)).toNat) [40, 42]) A rfl rfl rfl rfl rfl rfl rfl fun A => N hX 3 A rfl rfl fun A => fork 20 A rfl
     (fun h3 A => N hX 9 A rfl (ok_d (by have hle := hI2.le; have hpl := pre_len h3; simp only [List.length_drop, List.length_cons, List.length_nil] at hpl; have hrl := endR_le (l.drop (((k : Int) + 2)).toNat); rw [List.length_drop] at hrl; (try simp only [List.length_drop]); omega) <| okE_nil) fun A => N hX 4 A rfl (ok_d (by have hle := hI2.le; have hpl := pre_len h3; simp only [List.length_drop, List.length_cons, List.length_nil] at hpl; have hrl := endR_le (l.drop (((k : Int) + 2)).toNat); rw [List.length_drop] at hrl; (try simp only [List.length_drop]); omega) <| okE_nil) fun A => CALLI [] Gl.ok hI (fnI_asX (ix_ (l.drop ((k : Int) + 2).toNat) [42, 41] os hM (by have hle := hI2.le; have hpl := pre_len h3; simp only [List.length_drop, List.length_cons, List.length_nil] at hpl; have hrl := endR_le (l.drop (((k : Int) + 2)).toNat); rw [List.length_drop] at hrl; (try simp only [List.length_drop]); omega)) (y := .int .i64 (endR (l.drop ((k : Int) + 2).toNat))) fun _ => rfl) A rfl rfl rfl rfl rfl rfl rfl fun A => N hX 10 A rfl rfl fun A => forkD 32 A rfl
      (fun h4 A => N hX 9 A rfl rfl fun A => RETN hX A rfl rfl rfl h0 rfl rfl rfl rfl (by have e := hI2.op h1 h2 h3 h4; have hg := hI2.ge; unfold skE; rw [e]; simp [oneS, nb, nbL]; omega) rfl)
      (fun h4 A => N hX 12 A rfl (ok_d (by have hle := hI2.le; have hpl := pre_len h3; simp only [List.length_drop, List.length_cons, List.length_nil] at hpl; have hrl := endR_le (l.drop (((k : Int) + 2)).toNat); rw [List.length_drop] at hrl; (try simp only [List.length_drop]); omega) <| ok_d (by have hle := hI2.le; have hpl := pre_len h3; simp only [List.length_drop, List.length_cons, List.length_nil] at hpl; have hrl := endR_le (l.drop (((k : Int) + 2)).toNat); rw [List.length_drop] at hrl; (try simp only [List.length_drop]); omega) <| okE_nil) fun A => ⟨k + 2 + (endR (l.drop (k + 2))).toNat + 2, _, (by omega), (hI2.rm h1 h2 h3 h4), ((A.cut [0, 1, 4, 5] rfl).trunc 0 rfl rfl rfl (by simp only [List.length_cons, List.length_nil] at h0; omega)).sayT (by have e2 : (((k : Int) + 2)).toNat = k + 2 := (by omega); simp only [e2] at h4 ⊢; congr 5; omega)⟩))
     (fun h3 A => N hX 9 A rfl rfl fun A => RETN hX A rfl rfl rfl h0 rfl rfl rfl rfl (by have e := hI2.wd h1 h2 h3; have hg := hI2.ge; unfold skE; rw [e]; simp [oneS, nb, nbL]; omega) rfl)))
   (fun h1 A => N hX 11 A rfl rfl fun A => RETN hX A rfl rfl rfl h0 rfl rfl rfl rfl (by have e := hI2.fi h1; have hg := hI2.ge; unfold skE; rw [e]; simp [oneS, nb, nbL]; omega) rfl)
end Go.Proofs.YtedlaclfhgneeabGreatDoor
namespace Go.Proofs.YtedlaclfhgneeabGreatDoor
set_option linter.unusedVariables false
set_option linter.unusedSimpArgs false
open Go.RowKit
def concB (P : Program) (t : TypeId) : Bool := match P.underlying t with | some (.interface _) => false | some _ => true | none => false
section
variable {P : Program} {ops : Array Oper} {a : Act} {w : World} {K : Value → World → Prop} {d : Option Tmp} {ty : TypeId} {pos : String} {af : Array Edge} {gd : Option (Nat × Bool)} {v : Value}
theorem d_iface {x : Operand} {t : Nat} {v : Value} (hw : Region.wanted { dst := d, op := .makeInterface t x, type := ty, pos := pos, after := af, guard := gd } (yielded ops a.tmps) = true) (hx : a.eval x = v) (ht : concB P t = true)
    (h : K (.iface t v) w) : Does P ops { dst := d, op := .makeInterface t x, type := ty, pos := pos, after := af, guard := gd } a w K :=
  does_val hw (by
    unfold execOp
    simp only [hx, Sem.run_bind]
    unfold concB at ht
    cases hd : P.underlying t with
    | none => simp [hd] at ht
    | some u => cases u <;> first | (simp [hd] at ht; done) | simp [Instr.makeInterface, run_underlying hd]) h
end
section
variable {P : Program} {w : World} {t : TypeId} {x y : Operand} {k : IntKind} {a b : Int}
theorem b_nilNe {c : Value} (ht : P.underlying t = some (.interface (P.methodsAt t))) : (eqGuard .neq t x (.const c) .nilIface .nilIface).run P w = .ok () w ∧ (binOp .neq t .nilIface .nilIface).run P w = .ok (.bool false) w :=
  ⟨by rw [eqGuard_nil_constR]; rfl, run_neq_nil_nil w t ht⟩
theorem b_ifcNe {tt : TypeId} {v : Value} (ht : P.underlying t = some (.interface (P.methodsAt t))) : (eqGuard .neq t x y (.iface tt v) .nilIface).run P w = .ok () w ∧ (binOp .neq t (.iface tt v) .nilIface).run P w = .ok (.bool true) w :=
  ⟨rfl, run_neq_held_nil w t tt v ht⟩
end
theorem wrap8 {n : Int} (h1 : 0 ≤ n) (h2 : n ≤ 255) : IntKind.wrap .u8 n = n := by simp only [IntKind.wrap, IntKind.signed, IntKind.bits]; simp; omega
theorem wrap64 {n : Int} (h1 : 0 ≤ n) (h2 : n ≤ 18446744073709551615) : IntKind.wrap .u64 n = n := by simp only [IntKind.wrap, IntKind.signed, IntKind.bits]; simp; omega
end Go.Proofs.YtedlaclfhgneeabGreatDoor
namespace Go.Proofs.YtedlaclfhgneeabGreatDoor
set_option linter.unusedVariables false
def lwcB (b : UInt8) : Nat := (b ||| 32).toNat
theorem lowB_le (b : UInt8) : lwcB b ≤ 255 := by unfold lwcB; exact Nat.le_of_lt_succ (b ||| 32).toNat_lt
def dv (b : UInt8) : Nat := if 48 ≤ b.toNat ∧ b.toNat ≤ 57 then b.toNat - 48 else if 97 ≤ lwcB b ∧ lwcB b ≤ 122 then lwcB b - 97 + 10 else 99
theorem dv_dig {b : UInt8} (h1 : 48 ≤ b.toNat) (h2 : b.toNat ≤ 57) : dv b = b.toNat - 48 := if_pos ⟨h1, h2⟩
theorem dv_let {b : UInt8} (h : ¬ (48 ≤ b.toNat ∧ b.toNat ≤ 57)) (h1 : 97 ≤ lwcB b) (h2 : lwcB b ≤ 122) : dv b = lwcB b - 97 + 10 := by unfold dv; rw [if_neg h, if_pos ⟨h1, h2⟩]
theorem dv_bad {b : UInt8} (h : ¬ (48 ≤ b.toNat ∧ b.toNat ≤ 57)) (h1 : ¬ (97 ≤ lwcB b ∧ lwcB b ≤ 122)) : dv b = 99 := by unfold dv; rw [if_neg h, if_neg h1]
def nv (bs : Nat) (l : List UInt8) : Nat := l.foldl (fun n b => n * bs + dv b) 0
def allD (bs : Nat) (l : List UInt8) : Bool := l.all fun b => decide (dv b < bs)
def valL (bs : Nat) (l : List UInt8) : Option Nat := if l = [] ∨ allD bs l = false then none else some (nv bs l)
theorem nv_zero (bs : Nat) (l : List UInt8) : nv bs (l.take 0) = 0 := rfl
theorem take_at {l : List UInt8} {i : Nat} {y : UInt8} (h : l[i]? = some y) : l.take (i + 1) = l.take i ++ [y] := by
  rw [List.take_add_one, h]; rfl
theorem nv_go {bs : Nat} {l : List UInt8} {i : Nat} {y : UInt8} (h : l[i]? = some y) : nv bs (l.take (i + 1)) = nv bs (l.take i) * bs + dv y := by
  rw [take_at h]; unfold nv; rw [List.foldl_append]; rfl
theorem all_go {bs : Nat} {l : List UInt8} {i : Nat} {y : UInt8} (h : l[i]? = some y) (ha : allD bs (l.take i) = true) (hy : dv y < bs) : allD bs (l.take (i + 1)) = true := by
  rw [take_at h]; unfold allD at *; rw [List.all_append, ha]; simp [hy]
theorem val_bad {bs : Nat} {l : List UInt8} {i : Nat} {y : UInt8} (h : l[i]? = some y) (hy : bs ≤ dv y) : valL bs l = none := by
  unfold valL; rw [if_pos]; right
  cases ha : allD bs l
  · rfl
  · exfalso
    have := List.all_eq_true.1 ha y (List.mem_of_getElem? h)
    have := of_decide_eq_true this
    omega
theorem val_nil {bs : Nat} {l : List UInt8} (h : l = []) : valL bs l = none := by unfold valL; rw [if_pos (.inl h)]
theorem val_end {bs : Nat} {l : List UInt8} {i : Nat} (h : l ≠ []) (ha : allD bs (l.take i) = true) (hi : l.length ≤ i) : valL bs l = some (nv bs (l.take i)) := by
  rw [List.take_of_length_le hi] at *
  unfold valL; rw [if_neg (by simp [h, ha])]
theorem nv_pow {bs : Nat} (hb : 0 < bs) (l : List UInt8) (i : Nat) (ha : allD bs (l.take i) = true) : nv bs (l.take i) < bs ^ i := by
  induction i with
  | zero => rw [nv_zero]; simp
  | succ i ih =>
    cases hy : l[i]? with
    | none =>
      have hl : l.length ≤ i := by simpa using hy
      have e : l.take (i + 1) = l.take i := by rw [List.take_of_length_le hl, List.take_of_length_le (by omega)]
      rw [e] at ha ⊢
      exact Nat.lt_of_lt_of_le (ih ha) (Nat.pow_le_pow_right hb (by omega))
    | some y =>
      rw [take_at hy] at ha
      unfold allD at ha
      rw [List.all_append, Bool.and_eq_true] at ha
      have h1 := ih ha.1
      have h2 : dv y < bs := by simpa using ha.2
      rw [nv_go hy, Nat.pow_succ]
      calc nv bs (l.take i) * bs + dv y < nv bs (l.take i) * bs + bs := by omega
        _ = (nv bs (l.take i) + 1) * bs := by rw [Nat.add_mul, Nat.one_mul]
        _ ≤ bs ^ i * bs := Nat.mul_le_mul_right _ h1
theorem nv_10 {l : List UInt8} {i : Nat} (ha : allD 10 (l.take i) = true) (hi : i ≤ 18) : nv 10 (l.take i) < 1000000000000000000 :=
  Nat.lt_of_lt_of_le (nv_pow (by omega) l i ha) (Nat.pow_le_pow_right (n := 10) (by omega) hi)
theorem nv_16 {l : List UInt8} {i : Nat} (ha : allD 16 (l.take i) = true) (hi : i ≤ 15) : nv 16 (l.take i) < 1152921504606846976 :=
  Nat.lt_of_lt_of_le (nv_pow (by omega) l i ha) (Nat.pow_le_pow_right (n := 16) (by omega) hi)
end Go.Proofs.YtedlaclfhgneeabGreatDoor
namespace Go.Proofs.YtedlaclfhgneeabGreatDoor
open Go.RowKit
set_option linter.unusedVariables false
set_option linter.unusedSimpArgs false
set_option linter.unusedSectionVars false
section
variable {P : Program} {n : Nat} {ks : List Nat} {G0 : Gr} {w0 : World} {T : List (Nat × SV)} {H : Hp} {G : Gr} {w : World} {ops : Array Oper} {o : Oper}
theorem ifcE {x : Operand} {t : Nat} {y : SV} {v : Value} (hg : guardS ops T o.guard = some .run) (hop : o.op = .makeInterface t x) (hx : evS T x = some y) (hy : den [] y = some v) (ht : concB P t = true) : EffOK P n ops ks G0 w0 T H o (.v (.iface t v)) H := fun G a w A => by
  have hw := gd_run (gd := none) A hg
  obtain ⟨d, op, ty, ps, af, gd⟩ := o
  simp only at hop
  subst hop
  have h1 := A.ev hx
  have h2 : den G y = some v := by simpa using den_mono G y hy
  rw [h2] at h1
  exact d_iface hw (Option.some.inj h1).symm ht ⟨[], rfl, by rw [List.append_nil]; exact A.ms⟩
theorem ifneE {x y : Operand} {t t2 tt : Nat} {v : Value} (hg : guardS ops T o.guard = some .run) (hop : o.op = .binOp .neq t x y t2) (hx : evS T x = some (.v (.iface tt v))) (hy : evS T y = some (.v .nilIface)) (ht : P.underlying t = some (.interface (P.methodsAt t))) : EffOK P n ops ks G0 w0 T H o .tt H := fun G a w A => by
  have hw := gd_run (gd := none) A hg
  obtain ⟨d, op, ty, ps, af, gd⟩ := o
  simp only at hop
  subst hop
  have h1 := A.ev hx
  have h2 := A.ev hy
  simp only [den, Option.some.injEq] at h1 h2
  exact d_bin hw h1.symm h2.symm (b_ifcNe ht) ⟨[], rfl, by rw [List.append_nil]; exact A.ms⟩
theorem nilneE {x : Operand} {c : Value} {t t2 : Nat} (hg : guardS ops T o.guard = some .run) (hop : o.op = .binOp .neq t x (.const c) t2) (hx : evS T x = some (.v .nilIface)) (hy : evS T (.const c) = some (.v .nilIface)) (ht : P.underlying t = some (.interface (P.methodsAt t))) : EffOK P n ops ks G0 w0 T H o .ff H := fun G a w A => by
  have hw := gd_run (gd := none) A hg
  obtain ⟨d, op, ty, ps, af, gd⟩ := o
  simp only at hop
  subst hop
  have h1 := A.ev hx
  have h2 := A.ev hy
  simp only [den, Option.some.injEq] at h1 h2
  exact d_bin hw h1.symm h2.symm (b_nilNe ht) ⟨[], rfl, by rw [List.append_nil]; exact A.ms⟩
theorem Ms.addLst (h : Ms H ks G0 w0 G w) (p : Option Loc) (e : Ent) (he : e.mut = false) (hok : EntOK (G ++ [p]) w p e) (hoff : ∀ (i : Nat) (e' : Ent) (L' L : Loc), H[i]? = some (some e') → e'.mut = true → G[i]? = some (some L') → p = some L → L'.b ≠ L.b) : Ms (H ++ [some e]) ks G0 w0 (G ++ [p]) w := by
  have hlen := h.mem.len
  have hold : ∀ (i : Nat) (e' : Ent), (H ++ [some e])[i]? = some (some e') → (H[i]? = some (some e') ∧ i < H.length) ∨ (i = H.length ∧ e' = e) := by
    intro i e' hh
    by_cases hi : i < H.length
    · rw [List.getElem?_append_left hi] at hh; exact .inl ⟨hh, hi⟩
    · rw [List.getElem?_append_right (by omega)] at hh
      have : i - H.length = 0 := by
        cases hq : i - H.length with
        | zero => rfl
        | succ k => rw [hq] at hh; simp at hh
      rw [this] at hh
      simp at hh
      exact .inr ⟨by omega, hh.symm⟩
  have hG : (G ++ [p])[H.length]? = some p := by rw [List.getElem?_append_right (by omega), hlen]; simp
  have hGl : ∀ i, i < H.length → (G ++ [p])[i]? = G[i]? := fun i hi => List.getElem?_append_left (by omega)
  refine ⟨⟨by simp [hlen], ?_, ?_⟩, ?_, ?_, h.mix⟩
  · intro i e' hh
    rcases hold i e' hh with ⟨h1, h2⟩ | ⟨rfl, rfl⟩
    · rw [hGl i h2]; exact (h.mem.ent i e' h1).more _
    · rw [hG]; exact hok
  · intro i j e1 f L M hij h1 h2 h3 h4 h5 h6
    rcases hold i e1 h1 with ⟨k1, k2⟩ | ⟨rfl, rfl⟩
    · rw [hGl i k2] at h4
      rcases hold j f h2 with ⟨k3, k4⟩ | ⟨rfl, rfl⟩
      · rw [hGl j k4] at h5; exact h.mem.sep i j e1 f L M hij k1 k3 h3 h4 h5 h6
      · rw [hG] at h5; cases h5; exact hoff i e1 L M k1 h3 h4 rfl
    · rw [he] at h3; cases h3
  · obtain ⟨F, hF⟩ := h.pre; exact ⟨F ++ [p], by rw [hF, List.append_assoc]⟩
  · intro i e1 L h1 h2 h3
    rcases hold i e1 h1 with ⟨k1, k2⟩ | ⟨rfl, rfl⟩
    · rw [hGl i k2] at h3; exact h.own i e1 L k1 h2 h3
    · rw [he] at h2; cases h2
abbrev byL (l : List UInt8) : Ent := .lst 1 l.length fun k => [.int .u8 (((l.getD k 0).toNat : Nat) : Int)]
theorem bytesE {x : Operand} {s t e i : Nat} {l : List UInt8} (hg : guardS ops T o.guard = some .run) (hop : o.op = .convert s t x) (hx : evS T x = some (.str l)) (hs : P.underlying s = some .string) (ht : P.underlying t = some (.slice e)) (he : P.underlying e = some (.int .u8)) (hi : H.length = i) : EffOK P n ops ks G0 w0 T H o (.sl i l.length 0) (H ++ [some (byL l)]) := fun G a w A => by
  have hw := gd_run (gd := none) A hg
  obtain ⟨d, op, ty, ps, af, gd⟩ := o
  simp only at hop
  subst hop
  subst hi
  have h1 := A.ev hx
  simp only [den, Option.some.injEq] at h1
  have hgr : Grow w (Lib.bytesWorld w e (S l)) := ⟨rfl, rfl, rfl, by rw [Lib.bytesWorld_size]; omega, fun k hk => Lib.bytesWorld_at_old w e (S l) k hk⟩
  refine does_val (w' := Lib.bytesWorld w e (S l)) (v := .slice (some ⟨w.heap.size, 0, none⟩) (S l).size (grownCap w (S l).size 0 e)) hw ?_ ⟨[some ⟨w.heap.size, [], List.replicate (grownCap w (S l).size 0 e) undef, 0⟩], ?_, ?_⟩
  · unfold execOp
    simp only [h1.symm, Sem.run_bind, Lib.run_convert_string_bytes w s t e (S l) hs ht he, Sem.run_pure, Result.andThen_ok]
  · unfold den
    rw [List.getElem?_append_right (by rw [A.mem.len]; exact Nat.le_refl _), A.mem.len]
    simp [rm, S_size]
  · refine (A.ms.grow hgr).addLst _ _ rfl ⟨fun k => ⟨_, rfl⟩, .inr ⟨_, rfl, by rw [Lib.bytesWorld_size]; exact Nat.lt_succ_self _, fun k hk => ⟨_, rfl, fun j z hz => ?_⟩⟩⟩ fun j e' L' L h2 h3 h4 h5 => ?_
    · have hj : j = 0 := by
        cases j with
        | zero => rfl
        | succ j => simp at hz
      subst hj
      have h2 := Lib.bytesWorld_cell w e (S l) k (by rw [S_size]; exact hk)
      rw [S_data] at h2
      simp at hz
      subst hz
      simpa [List.getD, hk] using h2
    · cases h5
      have := A.mem.ent j e' h2
      rw [h4] at this
      have := EntOK.lt this (mut_full h3)
      simp only; omega
theorem sy_sayD {a : Act} (A : Sy n T H ks G0 w0 G a w) (t : Nat) (y : SV) {x : SV} (h : look T t = some x) (e : ∀ G, den G x = den G y) : Sy n ((t, y) :: T) H ks G0 w0 G a w :=
  ⟨A.size, A.defers, fun s z hz => by
    simp only [look] at hz
    cases hc : Nat.beq t s with
    | true => rw [hc] at hz; cases hz; have := Nat.eq_of_beq_eq_true hc; subst this; rw [← e]; exact A.get t _ h
    | false => rw [hc] at hz; exact A.get s z hz, A.mem, A.pre, A.own, A.mix⟩
theorem optE {α : Type} {R : Prop} (o : Option α) (h1 : o = none → R) (h2 : ∀ x, o = some x → R) : R := by
  cases h : o with
  | none => exact h1 h
  | some x => exact h2 x h
end
end Go.Proofs.YtedlaclfhgneeabGreatDoor
namespace Go.Proofs.YtedlaclfhgneeabGreatDoor
open Go.RowKit
set_option linter.unusedVariables false
set_option linter.unusedSimpArgs false
set_option maxRecDepth 100000
set_option maxHeartbeats 2000000
set_option simprocs false
theorem lower_ (c : Int)  : Fn Tryz.prog 217 [.int .u8 c] [] (Rt (.int .u8 (IntKind.wrap .u8 ((((BitVec.ofInt (IntKind.bits .u8) c) ||| (BitVec.ofInt (IntKind.bits .u8) 32)).toNat : Nat) : Int))) []) :=
 enterM (n := 5) (by kernel_rfl) Tryz.func217 rfl rfl rfl fun G w a h0 A => N hX 13 A rfl rfl fun A => RETN hX A rfl rfl rfl h0 rfl rfl rfl rfl rfl rfl
theorem low_is (b : UInt8) : IntKind.wrap .u8 ((((BitVec.ofInt (IntKind.bits .u8) ((b.toNat : Nat) : Int)) ||| (BitVec.ofInt (IntKind.bits .u8) 32)).toNat : Nat) : Int) = ((lwcB b : Nat) : Int) := by
  have h : (BitVec.ofInt 8 ((b.toNat : Nat) : Int) ||| BitVec.ofInt 8 32).toNat = (b ||| 32).toNat := by
    have e1 : BitVec.ofInt 8 ((b.toNat : Nat) : Int) = b.toBitVec := by
      apply BitVec.eq_of_toNat_eq
      rw [BitVec.toNat_ofInt]
      have := b.toNat_lt
      simp; omega
    rw [e1]; rfl
  show IntKind.wrap .u8 (((BitVec.ofInt 8 ((b.toNat : Nat) : Int) ||| BitVec.ofInt 8 32).toNat : Nat) : Int) = _
  rw [h]
  have := lowB_le b
  unfold lwcB at this ⊢
  exact wrap8 (by omega) (by omega)
theorem low_b (b : UInt8) : Fn Tryz.prog 217 [.int .u8 ((b.toNat : Nat) : Int)] [] (Rt (.int .u8 ((lwcB b : Nat) : Int)) []) := fn_asX (lower_ _) (as_int (low_is b))
def puX (bs : Nat) (l : List UInt8) : SV := match valL bs l with | some n => .tup [.int .u64 (n : Int), .v .nilIface] | none => .tup [.int .u64 0, .v (.iface 247 (.int .i64 2))]
theorem puX_none {bs : Nat} {l : List UInt8} (h : valL bs l = none) : puX bs l = .tup [.int .u64 0, .v (.iface 247 (.int .i64 2))] := by unfold puX; rw [h]
theorem puX_some {bs : Nat} {l : List UInt8} {n : Nat} (h : valL bs l = some n) : puX bs l = .tup [.int .u64 (n : Int), .v .nilIface] := by unfold puX; rw [h]
structure NI (bs : Nat) (l : List UInt8) (j : Nat) : Prop where
  le : j ≤ l.length
  al : allD bs (l.take j) = true
theorem parse10_ (l : List UInt8) (hl : l.length ≤ 19) : Fn Tryz.prog 184 [.str l, .int .i64 10, .int .i64 64] [] (Rt (puX 10 l) []) :=
 enterM (n := 172) (by kernel_rfl) Tryz.func184 rfl rfl rfl fun G w a h0 A => N hX 13 A rfl rfl fun A => forkE 19 A rfl
  (fun h1 A => N hX 3 A rfl rfl fun A => q_eff A rfl (ifcE rfl rfl rfl rfl (by kernel_rfl)) fun A => N hX 5 A rfl rfl fun A => RETN hX A rfl rfl rfl h0 rfl rfl rfl rfl (by rw [puX_none (val_nil h1)]; rfl) rfl)
  (fun h1 A => N hX 7 A rfl rfl fun A => have A := sy_sayD A 22 (.ff) rfl (fun _ => congrArg (fun b => some (Value.bool b)) (show (10 == 0) = false by decide)); N hX 19 A rfl rfl fun A => have A := sy_sayD A 31 (.tt) rfl (fun _ => congrArg (fun b => some (Value.bool b)) (show ((decide (2 ≤ 10)) && (decide (10 ≤ 36))) = true by decide)); N hX 14 A rfl rfl fun A => forkE 77 A rfl
   (fun h2 A => absurd h2 (by decide))
   (fun h2 A => N hX 9 A rfl rfl fun A => have A := sy_sayD A 83 (.ff) rfl (fun _ => congrArg (fun b => some (Value.bool b)) (show ((decide (64 < 0)) || (decide (64 > 64))) = false by decide)); N hX 23 A rfl rfl fun A => forkE 90 A rfl
    (fun h3 A => N hX 10 A rfl rfl fun A => have A := sy_sayD A 95 (.int .u64 64) rfl (as_int (show IntKind.wrap .u64 64 = 64 by decide)); N hX 1 A rfl (ok_d (by omega) <| okE_nil) fun A => have A := sy_sayD A 96 (.int .u64 0) rfl (as_int (show IntKind.wrap .u64 (1 * 2 ^ min (64 : Int).toNat (IntKind.bits .u64)) = 0 by decide)); N hX 1 A rfl rfl fun A => have A := sy_sayD A 97 (.int .u64 18446744073709551615) rfl (as_int (show IntKind.wrap .u64 (0 - 1) = 18446744073709551615 by decide)); N hX 17 A rfl rfl fun A => q_eff A rfl (bytesE (i := 0) (e := 5) rfl rfl rfl (by kernel_rfl) (by kernel_rfl) (by kernel_rfl) rfl) fun A => N hX 5 A rfl rfl fun A => LOOP1 (fun (j : Nat) => [(1, .int .i64 10), (6, .int .u64 0), (7, .v .nilIface), (8, .ff), (9, .str l), (10, .int .u64 1844674407370955162), (11, .int .u64 18446744073709551615), (12, .ff), (13, .int .u64 ((nv 10 (l.take j) : Nat) : Int)), (99, .sl 0 l.length 0), (100, .int .i64 ((l.length : Nat) : Int)), (101, .int .i64 (j : Int))]) (fun (j : Nat) => [some (.lst 1 l.length (fun k => [.int .u8 (((l.getD k 0).toNat : Nat) : Int)]))]) (fun (j : Nat) => NI 10 l j) (fun (j : Nat) => l.length - j) 0 ⟨Nat.zero_le _, rfl⟩ ((A.cut [1, 6, 7, 8, 9, 10, 11, 12, 13, 99, 100, 101] rfl).trunc 1 rfl rfl rfl (by simp only [List.length_cons, List.length_nil] at h0; omega)) fun j hI {G a w} A => N hX 6 A rfl rfl fun A => forkD 102 A rfl
      (fun h4 A => N hX 13 A rfl (ok_d (by have := hI.le; omega) <| ok_d (by have := hI.le; omega) <| okE_nil) fun A => N hX 13 A rfl rfl fun A => have A := sy_sayD A 111 (.ff) rfl (fun _ => congrArg (fun b => some (Value.bool b)) (show (bif (((l.getD (((j : Int)).toNat) 0).toNat : Nat) : Int) == 95 then false else false) = false by simp)); N hX 15 A rfl rfl fun A => fork 112 A rfl
       (fun h5 A => N hX 4 A rfl rfl fun A => have A := sy_sayD A 120 (.int .u8 ((dv (l.getD (((j : Int)).toNat) 0) : Nat) : Int)) rfl (as_int (show IntKind.wrap .u8 ((((l.getD (((j : Int)).toNat) 0).toNat : Nat) : Int) - 48) = ((dv (l.getD (((j : Int)).toNat) 0) : Nat) : Int) by have h := h5; simp only [Bool.and_eq_true, decide_eq_true_eq] at h; rw [dv_dig (by omega) (by omega), wrap8 (by omega) (by omega)]; omega)); N hX 10 A rfl rfl fun A => have A := sy_sayD A 136 (.int .u8 10) rfl (as_int (show IntKind.wrap .u8 10 = 10 by decide)); N hX 3 A rfl rfl fun A => forkD 137 A rfl
        (fun h6 A => N hX 3 A rfl rfl fun A => q_eff A rfl (ifcE rfl rfl rfl rfl (by kernel_rfl)) fun A => N hX 5 A rfl rfl fun A => RETN hX A rfl rfl rfl h0 rfl rfl rfl rfl (by rw [puX_none (val_bad (at_of h4) (by have := h6; omega))]; rfl) rfl)
        (fun h6 A => N hX 11 A rfl rfl fun A => forkD 141 A rfl
         (fun h7 A => absurd h7 (by have hp := nv_10 hI.al; have hle := hI.le; have hj := h4; omega))
         (fun h7 A => N hX 8 A rfl rfl fun A => have A := sy_sayD A 146 (.int .u64 10) rfl (as_int (show IntKind.wrap .u64 10 = 10 by decide)); N hX 1 A rfl rfl fun A => have A := sy_sayD A 147 (.int .u64 (((nv 10 (l.take j) : Nat) : Int) * 10)) rfl (as_int (show IntKind.wrap .u64 (((nv 10 (l.take j) : Nat) : Int) * 10) = ((nv 10 (l.take j) : Nat) : Int) * 10 by have hp := nv_10 hI.al; have hle := hI.le; have hj := h4; exact wrap64 (by omega) (by omega))); N hX 8 A rfl rfl fun A => have A := sy_sayD A 150 (.int .u64 ((dv (l.getD (((j : Int)).toNat) 0) : Nat) : Int)) rfl (as_int (show IntKind.wrap .u64 ((dv (l.getD (((j : Int)).toNat) 0) : Nat) : Int) = ((dv (l.getD (((j : Int)).toNat) 0) : Nat) : Int) by have := h6; exact wrap64 (by omega) (by omega))); N hX 1 A rfl rfl fun A => have A := sy_sayD A 151 (.int .u64 ((nv 10 (l.take (j + 1)) : Nat) : Int)) rfl (as_int (show IntKind.wrap .u64 ((((nv 10 (l.take j) : Nat) : Int) * 10) + ((dv (l.getD (((j : Int)).toNat) 0) : Nat) : Int)) = ((nv 10 (l.take (j + 1)) : Nat) : Int) by have hp := nv_10 hI.al; have hle := hI.le; have hj := h4; have hd : dv (l.getD (((j : Int)).toNat) 0) < 10 := (by have := h6; omega); rw [nv_go (at_of hj)]; have e0 : (((j : Int)).toNat) = ((j : Int)).toNat := rfl; rw [wrap64 (by omega) (by omega)]; omega)); N hX 14 A rfl rfl fun A => have A := sy_sayD A 159 (.ff) rfl (fun _ => congrArg (fun b => some (Value.bool b)) (show ((decide (((nv 10 (l.take (j + 1)) : Nat) : Int) < (((nv 10 (l.take j) : Nat) : Int) * 10))) || (decide (((nv 10 (l.take (j + 1)) : Nat) : Int) > 18446744073709551615))) = false by have hp := nv_10 hI.al; have hle := hI.le; have hj := h4; have hd : dv (l.getD (((j : Int)).toNat) 0) < 10 := (by have := h6; omega); have hg := nv_go (bs := 10) (at_of hj); rw [Bool.eq_false_iff]; intro hc; simp only [Bool.or_eq_true, decide_eq_true_eq] at hc; omega)); N hX 15 A rfl (ok_d (by have := hI.le; omega) <| okE_nil) fun A => ⟨j + 1, _, (by omega), ⟨by have := hI.le; omega, all_go (at_of h4) hI.al (by have := h6; omega)⟩, ((A.cut [1, 6, 7, 8, 9, 10, 11, 12, 13, 99, 100, 101] rfl).trunc 1 rfl rfl rfl (by simp only [List.length_cons, List.length_nil] at h0; omega))⟩)))
       (fun h5 A => N hX 4 A rfl rfl fun A => CALL1 [] (low_b (l.getD (((j : Int)).toNat) 0)) A rfl rfl rfl rfl rfl rfl rfl fun A => N hX 2 A rfl rfl fun A => forkD 125 A rfl
        (fun h8 A => N hX 1 A rfl rfl fun A => CALL1 [] (low_b (l.getD (((j : Int)).toNat) 0)) A rfl rfl rfl rfl rfl rfl rfl fun A => N hX 5 A rfl rfl fun A => forkD 121 A rfl
         (fun h9 A => N hX 3 A rfl rfl fun A => CALL1 [] (low_b (l.getD (((j : Int)).toNat) 0)) A rfl rfl rfl rfl rfl rfl rfl fun A => N hX 2 A rfl rfl fun A => have A := sy_sayD A 133 (.int .u8 ((dv (l.getD (((j : Int)).toNat) 0) : Nat) : Int)) rfl (as_int (show IntKind.wrap .u8 ((IntKind.wrap .u8 (((lwcB (l.getD (((j : Int)).toNat) 0) : Nat) : Int) - 97)) + 10) = ((dv (l.getD (((j : Int)).toNat) 0) : Nat) : Int) by have h := h5; simp only [Bool.and_eq_false_iff, decide_eq_false_iff_not] at h; have h2 := h8; have h3 := h9; rw [dv_let (by omega) (by omega) (by omega), wrap8 (n := ((lwcB (l.getD (((j : Int)).toNat) 0) : Nat) : Int) - 97) (by omega) (by omega), wrap8 (by omega) (by omega)]; omega)); N hX 10 A rfl rfl fun A => have A := sy_sayD A 136 (.int .u8 10) rfl (as_int (show IntKind.wrap .u8 10 = 10 by decide)); N hX 3 A rfl rfl fun A => forkD 137 A rfl
          (fun h10 A => N hX 3 A rfl rfl fun A => q_eff A rfl (ifcE rfl rfl rfl rfl (by kernel_rfl)) fun A => N hX 5 A rfl rfl fun A => RETN hX A rfl rfl rfl h0 rfl rfl rfl rfl (by rw [puX_none (val_bad (at_of h4) (by have := h10; omega))]; rfl) rfl)
          (fun h10 A => N hX 11 A rfl rfl fun A => forkD 141 A rfl
           (fun h11 A => absurd h11 (by have hp := nv_10 hI.al; have hle := hI.le; have hj := h4; omega))
           (fun h11 A => N hX 8 A rfl rfl fun A => have A := sy_sayD A 146 (.int .u64 10) rfl (as_int (show IntKind.wrap .u64 10 = 10 by decide)); N hX 1 A rfl rfl fun A => have A := sy_sayD A 147 (.int .u64 (((nv 10 (l.take j) : Nat) : Int) * 10)) rfl (as_int (show IntKind.wrap .u64 (((nv 10 (l.take j) : Nat) : Int) * 10) = ((nv 10 (l.take j) : Nat) : Int) * 10 by have hp := nv_10 hI.al; have hle := hI.le; have hj := h4; exact wrap64 (by omega) (by omega))); N hX 8 A rfl rfl fun A => have A := sy_sayD A 150 (.int .u64 ((dv (l.getD (((j : Int)).toNat) 0) : Nat) : Int)) rfl (as_int (show IntKind.wrap .u64 ((dv (l.getD (((j : Int)).toNat) 0) : Nat) : Int) = ((dv (l.getD (((j : Int)).toNat) 0) : Nat) : Int) by have := h10; exact wrap64 (by omega) (by omega))); N hX 1 A rfl rfl fun A => have A := sy_sayD A 151 (.int .u64 ((nv 10 (l.take (j + 1)) : Nat) : Int)) rfl (as_int (show IntKind.wrap .u64 ((((nv 10 (l.take j) : Nat) : Int) * 10) + ((dv (l.getD (((j : Int)).toNat) 0) : Nat) : Int)) = ((nv 10 (l.take (j + 1)) : Nat) : Int) by have hp := nv_10 hI.al; have hle := hI.le; have hj := h4; have hd : dv (l.getD (((j : Int)).toNat) 0) < 10 := (by have := h10; omega); rw [nv_go (at_of hj)]; have e0 : (((j : Int)).toNat) = ((j : Int)).toNat := rfl; rw [wrap64 (by omega) (by omega)]; omega)); N hX 14 A rfl rfl fun A => have A := sy_sayD A 159 (.ff) rfl (fun _ => congrArg (fun b => some (Value.bool b)) (show ((decide (((nv 10 (l.take (j + 1)) : Nat) : Int) < (((nv 10 (l.take j) : Nat) : Int) * 10))) || (decide (((nv 10 (l.take (j + 1)) : Nat) : Int) > 18446744073709551615))) = false by have hp := nv_10 hI.al; have hle := hI.le; have hj := h4; have hd : dv (l.getD (((j : Int)).toNat) 0) < 10 := (by have := h10; omega); have hg := nv_go (bs := 10) (at_of hj); rw [Bool.eq_false_iff]; intro hc; simp only [Bool.or_eq_true, decide_eq_true_eq] at hc; omega)); N hX 15 A rfl (ok_d (by have := hI.le; omega) <| okE_nil) fun A => ⟨j + 1, _, (by omega), ⟨by have := hI.le; omega, all_go (at_of h4) hI.al (by have := h10; omega)⟩, ((A.cut [1, 6, 7, 8, 9, 10, 11, 12, 13, 99, 100, 101] rfl).trunc 1 rfl rfl rfl (by simp only [List.length_cons, List.length_nil] at h0; omega))⟩)))
         (fun h9 A => N hX 3 A rfl rfl fun A => q_eff A rfl (ifcE rfl rfl rfl rfl (by kernel_rfl)) fun A => N hX 5 A rfl rfl fun A => RETN hX A rfl rfl rfl h0 rfl rfl rfl rfl (by rw [puX_none (val_bad (at_of h4) (by have h := h5; simp only [Bool.and_eq_false_iff, decide_eq_false_iff_not] at h; have h0 := h8; have h1 := h9; rw [dv_bad (by omega) (by omega)]; omega))]; rfl) rfl))
        (fun h8 A => N hX 10 A rfl rfl fun A => q_eff A rfl (ifcE rfl rfl rfl rfl (by kernel_rfl)) fun A => N hX 5 A rfl rfl fun A => RETN hX A rfl rfl rfl h0 rfl rfl rfl rfl (by rw [puX_none (val_bad (at_of h4) (by have h := h5; simp only [Bool.and_eq_false_iff, decide_eq_false_iff_not] at h; have h0 := h8; rw [dv_bad (by omega) (by omega)]; omega))]; rfl) rfl)))
      (fun h4 A => N hX 25 A rfl rfl fun A => RETN hX A rfl rfl rfl h0 rfl rfl rfl rfl (by rw [puX_some (val_end h1 hI.al (by have := h4; omega))]; rfl) rfl))
    (fun h3 A => absurd rfl h3)))
theorem parse10_s (l : List UInt8) (n : Nat) (hl : l.length ≤ 19) (h : valL 10 l = some n) : Fn Tryz.prog 184 [.str l, .int .i64 10, .int .i64 64] [] (Rt (.tup [.int .u64 (n : Int), .v .nilIface]) []) := by have := parse10_ l hl; rw [puX_some h] at this; exact this
theorem parse10_n (l : List UInt8) (hl : l.length ≤ 19) (h : valL 10 l = none) : Fn Tryz.prog 184 [.str l, .int .i64 10, .int .i64 64] [] (Rt (.tup [.int .u64 0, .v (.iface 247 (.int .i64 2))]) []) := by have := parse10_ l hl; rw [puX_none h] at this; exact this
theorem parse16_ (l : List UInt8) (hl : l.length ≤ 16) : Fn Tryz.prog 184 [.str l, .int .i64 16, .int .i64 64] [] (Rt (puX 16 l) []) :=
 enterM (n := 172) (by kernel_rfl) Tryz.func184 rfl rfl rfl fun G w a h0 A => N hX 13 A rfl rfl fun A => forkE 19 A rfl
  (fun h1 A => N hX 3 A rfl rfl fun A => q_eff A rfl (ifcE rfl rfl rfl rfl (by kernel_rfl)) fun A => N hX 5 A rfl rfl fun A => RETN hX A rfl rfl rfl h0 rfl rfl rfl rfl (by rw [puX_none (val_nil h1)]; rfl) rfl)
  (fun h1 A => N hX 7 A rfl rfl fun A => have A := sy_sayD A 22 (.ff) rfl (fun _ => congrArg (fun b => some (Value.bool b)) (show (16 == 0) = false by decide)); N hX 19 A rfl rfl fun A => have A := sy_sayD A 31 (.tt) rfl (fun _ => congrArg (fun b => some (Value.bool b)) (show ((decide (2 ≤ 16)) && (decide (16 ≤ 36))) = true by decide)); N hX 14 A rfl rfl fun A => forkE 77 A rfl
   (fun h2 A => absurd h2 (by decide))
   (fun h2 A => N hX 9 A rfl rfl fun A => have A := sy_sayD A 83 (.ff) rfl (fun _ => congrArg (fun b => some (Value.bool b)) (show ((decide (64 < 0)) || (decide (64 > 64))) = false by decide)); N hX 23 A rfl rfl fun A => forkE 90 A rfl
    (fun h3 A => absurd h3 (by decide))
    (fun h3 A => N hX 7 A rfl rfl fun A => forkE 92 A rfl
     (fun h4 A => N hX 10 A rfl rfl fun A => have A := sy_sayD A 95 (.int .u64 64) rfl (as_int (show IntKind.wrap .u64 64 = 64 by decide)); N hX 1 A rfl (ok_d (by omega) <| okE_nil) fun A => have A := sy_sayD A 96 (.int .u64 0) rfl (as_int (show IntKind.wrap .u64 (1 * 2 ^ min (64 : Int).toNat (IntKind.bits .u64)) = 0 by decide)); N hX 1 A rfl rfl fun A => have A := sy_sayD A 97 (.int .u64 18446744073709551615) rfl (as_int (show IntKind.wrap .u64 (0 - 1) = 18446744073709551615 by decide)); N hX 17 A rfl rfl fun A => q_eff A rfl (bytesE (i := 0) (e := 5) rfl rfl rfl (by kernel_rfl) (by kernel_rfl) (by kernel_rfl) rfl) fun A => N hX 5 A rfl rfl fun A => LOOP1 (fun (j : Nat) => [(1, .int .i64 16), (6, .int .u64 0), (7, .v .nilIface), (8, .ff), (9, .str l), (10, .int .u64 1152921504606846976), (11, .int .u64 18446744073709551615), (12, .ff), (13, .int .u64 ((nv 16 (l.take j) : Nat) : Int)), (99, .sl 0 l.length 0), (100, .int .i64 ((l.length : Nat) : Int)), (101, .int .i64 (j : Int))]) (fun (j : Nat) => [some (.lst 1 l.length (fun k => [.int .u8 (((l.getD k 0).toNat : Nat) : Int)]))]) (fun (j : Nat) => NI 16 l j) (fun (j : Nat) => l.length - j) 0 ⟨Nat.zero_le _, rfl⟩ ((A.cut [1, 6, 7, 8, 9, 10, 11, 12, 13, 99, 100, 101] rfl).trunc 1 rfl rfl rfl (by simp only [List.length_cons, List.length_nil] at h0; omega)) fun j hI {G a w} A => N hX 6 A rfl rfl fun A => forkD 102 A rfl
       (fun h5 A => N hX 13 A rfl (ok_d (by have := hI.le; omega) <| ok_d (by have := hI.le; omega) <| okE_nil) fun A => N hX 13 A rfl rfl fun A => have A := sy_sayD A 111 (.ff) rfl (fun _ => congrArg (fun b => some (Value.bool b)) (show (bif (((l.getD (((j : Int)).toNat) 0).toNat : Nat) : Int) == 95 then false else false) = false by simp)); N hX 15 A rfl rfl fun A => fork 112 A rfl
        (fun h6 A => N hX 4 A rfl rfl fun A => have A := sy_sayD A 120 (.int .u8 ((dv (l.getD (((j : Int)).toNat) 0) : Nat) : Int)) rfl (as_int (show IntKind.wrap .u8 ((((l.getD (((j : Int)).toNat) 0).toNat : Nat) : Int) - 48) = ((dv (l.getD (((j : Int)).toNat) 0) : Nat) : Int) by have h := h6; simp only [Bool.and_eq_true, decide_eq_true_eq] at h; rw [dv_dig (by omega) (by omega), wrap8 (by omega) (by omega)]; omega)); N hX 10 A rfl rfl fun A => have A := sy_sayD A 136 (.int .u8 16) rfl (as_int (show IntKind.wrap .u8 16 = 16 by decide)); N hX 3 A rfl rfl fun A => forkD 137 A rfl
         (fun h7 A => N hX 3 A rfl rfl fun A => q_eff A rfl (ifcE rfl rfl rfl rfl (by kernel_rfl)) fun A => N hX 5 A rfl rfl fun A => RETN hX A rfl rfl rfl h0 rfl rfl rfl rfl (by rw [puX_none (val_bad (at_of h5) (by have := h7; omega))]; rfl) rfl)
         (fun h7 A => N hX 11 A rfl rfl fun A => forkD 141 A rfl
          (fun h8 A => absurd h8 (by have hp := nv_16 hI.al; have hle := hI.le; have hj := h5; omega))
          (fun h8 A => N hX 8 A rfl rfl fun A => have A := sy_sayD A 146 (.int .u64 16) rfl (as_int (show IntKind.wrap .u64 16 = 16 by decide)); N hX 1 A rfl rfl fun A => have A := sy_sayD A 147 (.int .u64 (((nv 16 (l.take j) : Nat) : Int) * 16)) rfl (as_int (show IntKind.wrap .u64 (((nv 16 (l.take j) : Nat) : Int) * 16) = ((nv 16 (l.take j) : Nat) : Int) * 16 by have hp := nv_16 hI.al; have hle := hI.le; have hj := h5; exact wrap64 (by omega) (by omega))); N hX 8 A rfl rfl fun A => have A := sy_sayD A 150 (.int .u64 ((dv (l.getD (((j : Int)).toNat) 0) : Nat) : Int)) rfl (as_int (show IntKind.wrap .u64 ((dv (l.getD (((j : Int)).toNat) 0) : Nat) : Int) = ((dv (l.getD (((j : Int)).toNat) 0) : Nat) : Int) by have := h7; exact wrap64 (by omega) (by omega))); N hX 1 A rfl rfl fun A => have A := sy_sayD A 151 (.int .u64 ((nv 16 (l.take (j + 1)) : Nat) : Int)) rfl (as_int (show IntKind.wrap .u64 ((((nv 16 (l.take j) : Nat) : Int) * 16) + ((dv (l.getD (((j : Int)).toNat) 0) : Nat) : Int)) = ((nv 16 (l.take (j + 1)) : Nat) : Int) by have hp := nv_16 hI.al; have hle := hI.le; have hj := h5; have hd : dv (l.getD (((j : Int)).toNat) 0) < 16 := (by have := h7; omega); rw [nv_go (at_of hj)]; have e0 : (((j : Int)).toNat) = ((j : Int)).toNat := rfl; rw [wrap64 (by omega) (by omega)]; omega)); N hX 14 A rfl rfl fun A => have A := sy_sayD A 159 (.ff) rfl (fun _ => congrArg (fun b => some (Value.bool b)) (show ((decide (((nv 16 (l.take (j + 1)) : Nat) : Int) < (((nv 16 (l.take j) : Nat) : Int) * 16))) || (decide (((nv 16 (l.take (j + 1)) : Nat) : Int) > 18446744073709551615))) = false by have hp := nv_16 hI.al; have hle := hI.le; have hj := h5; have hd : dv (l.getD (((j : Int)).toNat) 0) < 16 := (by have := h7; omega); have hg := nv_go (bs := 16) (at_of hj); rw [Bool.eq_false_iff]; intro hc; simp only [Bool.or_eq_true, decide_eq_true_eq] at hc; omega)); N hX 15 A rfl (ok_d (by have := hI.le; omega) <| okE_nil) fun A => ⟨j + 1, _, (by omega), ⟨by have := hI.le; omega, all_go (at_of h5) hI.al (by have := h7; omega)⟩, ((A.cut [1, 6, 7, 8, 9, 10, 11, 12, 13, 99, 100, 101] rfl).trunc 1 rfl rfl rfl (by simp only [List.length_cons, List.length_nil] at h0; omega))⟩)))
        (fun h6 A => N hX 4 A rfl rfl fun A => CALL1 [] (low_b (l.getD (((j : Int)).toNat) 0)) A rfl rfl rfl rfl rfl rfl rfl fun A => N hX 2 A rfl rfl fun A => forkD 125 A rfl
         (fun h9 A => N hX 1 A rfl rfl fun A => CALL1 [] (low_b (l.getD (((j : Int)).toNat) 0)) A rfl rfl rfl rfl rfl rfl rfl fun A => N hX 5 A rfl rfl fun A => forkD 121 A rfl
          (fun h10 A => N hX 3 A rfl rfl fun A => CALL1 [] (low_b (l.getD (((j : Int)).toNat) 0)) A rfl rfl rfl rfl rfl rfl rfl fun A => N hX 2 A rfl rfl fun A => have A := sy_sayD A 133 (.int .u8 ((dv (l.getD (((j : Int)).toNat) 0) : Nat) : Int)) rfl (as_int (show IntKind.wrap .u8 ((IntKind.wrap .u8 (((lwcB (l.getD (((j : Int)).toNat) 0) : Nat) : Int) - 97)) + 10) = ((dv (l.getD (((j : Int)).toNat) 0) : Nat) : Int) by have h := h6; simp only [Bool.and_eq_false_iff, decide_eq_false_iff_not] at h; have h2 := h9; have h3 := h10; rw [dv_let (by omega) (by omega) (by omega), wrap8 (n := ((lwcB (l.getD (((j : Int)).toNat) 0) : Nat) : Int) - 97) (by omega) (by omega), wrap8 (by omega) (by omega)]; omega)); N hX 10 A rfl rfl fun A => have A := sy_sayD A 136 (.int .u8 16) rfl (as_int (show IntKind.wrap .u8 16 = 16 by decide)); N hX 3 A rfl rfl fun A => forkD 137 A rfl
           (fun h11 A => N hX 3 A rfl rfl fun A => q_eff A rfl (ifcE rfl rfl rfl rfl (by kernel_rfl)) fun A => N hX 5 A rfl rfl fun A => RETN hX A rfl rfl rfl h0 rfl rfl rfl rfl (by rw [puX_none (val_bad (at_of h5) (by have := h11; omega))]; rfl) rfl)
           (fun h11 A => N hX 11 A rfl rfl fun A => forkD 141 A rfl
            (fun h12 A => absurd h12 (by have hp := nv_16 hI.al; have hle := hI.le; have hj := h5; omega))
            (fun h12 A => N hX 8 A rfl rfl fun A => have A := sy_sayD A 146 (.int .u64 16) rfl (as_int (show IntKind.wrap .u64 16 = 16 by decide)); N hX 1 A rfl rfl fun A => have A := sy_sayD A 147 (.int .u64 (((nv 16 (l.take j) : Nat) : Int) * 16)) rfl (as_int (show IntKind.wrap .u64 (((nv 16 (l.take j) : Nat) : Int) * 16) = ((nv 16 (l.take j) : Nat) : Int) * 16 by have hp := nv_16 hI.al; have hle := hI.le; have hj := h5; exact wrap64 (by omega) (by omega))); N hX 8 A rfl rfl fun A => have A := sy_sayD A 150 (.int .u64 ((dv (l.getD (((j : Int)).toNat) 0) : Nat) : Int)) rfl (as_int (show IntKind.wrap .u64 ((dv (l.getD (((j : Int)).toNat) 0) : Nat) : Int) = ((dv (l.getD (((j : Int)).toNat) 0) : Nat) : Int) by have := h11; exact wrap64 (by omega) (by omega))); N hX 1 A rfl rfl fun A => have A := sy_sayD A 151 (.int .u64 ((nv 16 (l.take (j + 1)) : Nat) : Int)) rfl (as_int (show IntKind.wrap .u64 ((((nv 16 (l.take j) : Nat) : Int) * 16) + ((dv (l.getD (((j : Int)).toNat) 0) : Nat) : Int)) = ((nv 16 (l.take (j + 1)) : Nat) : Int) by have hp := nv_16 hI.al; have hle := hI.le; have hj := h5; have hd : dv (l.getD (((j : Int)).toNat) 0) < 16 := (by have := h11; omega); rw [nv_go (at_of hj)]; have e0 : (((j : Int)).toNat) = ((j : Int)).toNat := rfl; rw [wrap64 (by omega) (by omega)]; omega)); N hX 14 A rfl rfl fun A => have A := sy_sayD A 159 (.ff) rfl (fun _ => congrArg (fun b => some (Value.bool b)) (show ((decide (((nv 16 (l.take (j + 1)) : Nat) : Int) < (((nv 16 (l.take j) : Nat) : Int) * 16))) || (decide (((nv 16 (l.take (j + 1)) : Nat) : Int) > 18446744073709551615))) = false by have hp := nv_16 hI.al; have hle := hI.le; have hj := h5; have hd : dv (l.getD (((j : Int)).toNat) 0) < 16 := (by have := h11; omega); have hg := nv_go (bs := 16) (at_of hj); rw [Bool.eq_false_iff]; intro hc; simp only [Bool.or_eq_true, decide_eq_true_eq] at hc; omega)); N hX 15 A rfl (ok_d (by have := hI.le; omega) <| okE_nil) fun A => ⟨j + 1, _, (by omega), ⟨by have := hI.le; omega, all_go (at_of h5) hI.al (by have := h11; omega)⟩, ((A.cut [1, 6, 7, 8, 9, 10, 11, 12, 13, 99, 100, 101] rfl).trunc 1 rfl rfl rfl (by simp only [List.length_cons, List.length_nil] at h0; omega))⟩)))
          (fun h10 A => N hX 3 A rfl rfl fun A => q_eff A rfl (ifcE rfl rfl rfl rfl (by kernel_rfl)) fun A => N hX 5 A rfl rfl fun A => RETN hX A rfl rfl rfl h0 rfl rfl rfl rfl (by rw [puX_none (val_bad (at_of h5) (by have h := h6; simp only [Bool.and_eq_false_iff, decide_eq_false_iff_not] at h; have h0 := h9; have h1 := h10; rw [dv_bad (by omega) (by omega)]; omega))]; rfl) rfl))
         (fun h9 A => N hX 10 A rfl rfl fun A => q_eff A rfl (ifcE rfl rfl rfl rfl (by kernel_rfl)) fun A => N hX 5 A rfl rfl fun A => RETN hX A rfl rfl rfl h0 rfl rfl rfl rfl (by rw [puX_none (val_bad (at_of h5) (by have h := h6; simp only [Bool.and_eq_false_iff, decide_eq_false_iff_not] at h; have h0 := h9; rw [dv_bad (by omega) (by omega)]; omega))]; rfl) rfl)))
       (fun h5 A => N hX 25 A rfl rfl fun A => RETN hX A rfl rfl rfl h0 rfl rfl rfl rfl (by rw [puX_some (val_end h1 hI.al (by have := h5; omega))]; rfl) rfl))
     (fun h4 A => absurd rfl h4))))
theorem parse16_s (l : List UInt8) (n : Nat) (hl : l.length ≤ 16) (h : valL 16 l = some n) : Fn Tryz.prog 184 [.str l, .int .i64 16, .int .i64 64] [] (Rt (.tup [.int .u64 (n : Int), .v .nilIface]) []) := by have := parse16_ l hl; rw [puX_some h] at this; exact this
theorem parse16_n (l : List UInt8) (hl : l.length ≤ 16) (h : valL 16 l = none) : Fn Tryz.prog 184 [.str l, .int .i64 16, .int .i64 64] [] (Rt (.tup [.int .u64 0, .v (.iface 247 (.int .i64 2))]) []) := by have := parse16_ l hl; rw [puX_none h] at this; exact this
end Go.Proofs.YtedlaclfhgneeabGreatDoor
namespace Go.Proofs.YtedlaclfhgneeabGreatDoor
open Go.RowKit
set_option linter.unusedVariables false
set_option linter.unusedSimpArgs false
set_option linter.unusedSectionVars false
def FnX (I : Amb) (P : Program) (f : Nat) (args : List SV) (J : SV → Prop) : Prop :=
  Ent_ P f = some (false, false) ∧ ∀ w ks vs, denL [] args = some vs → I w ks → Calls P f vs.toArray w fun e w' => ∃ x v, J x ∧ den [] x = some v ∧ e = .returned v ∧ Grow w w'
section
variable {P : Program} {n : Nat} {ks : List Nat} {G0 : Gr} {w0 : World} {T : List (Nat × SV)} {H : Hp} {G : Gr} {a : Act} {w : World} {Q : Exit → Act → World → Prop} {K : List Fr} {ops : Array Oper} {o : Oper} {rest : List Oper} {I : Amb}
theorem CALLX {f : Nat} {az : List SV} {vs : List Value} {J : SV → Prop} (hok : I.OK) (h0 : I w0 ks) (hf : FnX I P f az J) (A : Sy n T H ks G0 w0 G a w) (h1 : callS n ops T o = some (f, az)) (h2 : denL [] az = some vs)
    (hk : ∀ x, J x → ∀ {a' w'}, Sy n (extS T o.dst x) H ks G0 w0 G a' w' → Goal P Q K (.ops ops rest) a' w') : Goal P Q K (.ops ops (o :: rest)) a w := by
  obtain ⟨hd, us, hu, hdo⟩ := callS_do (P := P) (ops := ops) A h1 hf.1
  have h3 : denL G az = some vs := by simpa using denL_mono G az h2
  rw [h3] at hu
  cases hu
  refine q_does (Q := wpK P Q K) (hdo (hf.2 w ks vs h2 (hok _ _ _ _ h0 A.mix fun b hb => .inl hb)) fun e w' he => ?_)
  obtain ⟨x, v, hJ, e1, rfl, hg⟩ := he
  exact ⟨v, rfl, hk x hJ (Sy.put ⟨A.size, A.defers, A.get, ⟨A.mem.len, fun i e hi => (A.mem.ent i e hi).mix hg.mix (fun _ _ _ => rfl), A.mem.sep⟩, A.pre, A.own, A.mix.grow hg⟩ hd (by simpa using den_mono G x e1))⟩
theorem enterX (hok : I.OK) {f : Nat} {fn : Func} {c : Code} {args : List SV} {J : SV → Prop} (hent : Ent_ P f = some (false, false)) (hf : P.funcs[f]? = some fn) (hb : fn.body = some c) (hn : fn.ntmps = n) (hl : Nat.ble args.length n = true)
    (h : ∀ w a, I w [] → Sy n (argS args 0) [] [] [] w [] a w → Goal P (bodyPost P fn fun e w' => ∃ x v, J x ∧ den [] x = some v ∧ e = .returned v ∧ Grow w w') [] (.code c) a w) : FnX I P f args J := by
  refine ⟨hent, fun w ks vs hv hI => ?_⟩
  refine calls_of_wp hf hb (h w _ ?_ ⟨?_, rfl, fun t x hx => ?_, ⟨rfl, fun i e he => by simp at he, fun i j e f L M _ he => by simp at he⟩, ⟨[], by simp⟩, fun i e L h1 => by simp at h1, Mix.refl _ _⟩)
  · exact hok _ _ _ _ hI (Mix.refl ks w) fun b hb => by simp at hb
  · have := denL_len hv
    have := Nat.le_of_ble_eq_true hl
    simp [hn]; omega
  · obtain ⟨_, h2⟩ := argS_look hx
    simp only [Nat.sub_zero] at h2
    obtain ⟨v, h3, h4⟩ := denL_get hv h2
    have hlt : t < vs.length := (List.getElem?_eq_some_iff.1 h3).1
    rw [h4]
    simp [Array.getD_eq_getD_getElem?, Array.getElem?_append, hlt] at h3 ⊢
    exact h3.symm
theorem RETX {Y : Tb} {fn : Func} {J : SV → Prop} (hX : Y.ok P = true) {y : SV} {r : List SV} {rv : List ResultVar} {v' : Value} (A : Sy n T H [] [] w0 G a w) (hr : fn.results.toList = rv) (hv : resS ⟨Y, false⟩ T H rv = some r) (hy : oneS r = y) (hc : den [] y = some v') (hJ : J y) : bodyPost P fn (fun e w' => ∃ x v, J x ∧ den [] x = some v ∧ e = .returned v ∧ Grow w0 w') .ret a w := by
  obtain ⟨v, h1, h2⟩ := res_run (X := ⟨Y, false⟩) (fn := fn) hX A hr hv hy
  have h3 : den G y = some v' := by simpa using den_mono G y hc
  rw [h3] at h1
  cases h1
  have hm := A.mix
  exact ⟨A.defers, v', h2, y, v', hJ, hc, rfl, ⟨hm.os, hm.tape, hm.output, hm.size, fun k hk' => hm.block k hk' (by simp)⟩⟩
theorem CALLN (mk : Nat → SV) {f : Nat} {az : List SV} {vs : List Value} (hok : I.OK) (h0 : I w0 ks) (hf : FnX I P f az (fun x => ∃ N, x = mk N)) (A : Sy n T H ks G0 w0 G a w) (h1 : callS n ops T o = some (f, az)) (h2 : denL [] az = some vs)
    (hk : ∀ N, ∀ {a' w'}, Sy n (extS T o.dst (mk N)) H ks G0 w0 G a' w' → Goal P Q K (.ops ops rest) a' w') : Goal P Q K (.ops ops (o :: rest)) a w :=
  CALLX hok h0 hf A h1 h2 fun x hx => by obtain ⟨N, rfl⟩ := hx; exact hk N
end
end Go.Proofs.YtedlaclfhgneeabGreatDoor
namespace Go.Proofs.YtedlaclfhgneeabGreatDoor
open Go.Shelf Go.RowKit
set_option linter.unusedVariables false
def laysPu_ren : Go.Shelf.Ren := ⟨fun | 14 => 130 | 16 => 184 | 17 => 185 | 19 => 217 | 20 => 218 | 21 => 219 | 22 => 220 | 23 => 221 | 24 => 222 | 25 => 258 | 27 => 123 | 26 => 259 | 28 => 177 | 29 => 213 | 30 => 254 | 31 => 255 | 32 => 256 | 33 => 257 | 35 => 251 | 34 => 270 | 36 => 271 | 37 => 272 | 38 => 273 | 39 => 276 | 40 => 277 | n => n, fun | 9 => 9 | 3 => 3 | 22 => 178 | 24 => 180 | 25 => 181 | 4 => 4 | 34 => 247 | 5 => 5 | 36 => 224 | 37 => 201 | 0 => 0 | 39 => 249 | 21 => 21 | 44 => 278 | 47 => 235 | 50 => 294 | 48 => 292 | 2 => 2 | 52 => 272 | 55 => 274 | 59 => 290 | 60 => 244 | 20 => 20 | 61 => 291 | 65 => 297 | 66 => 298 | 67 => 195 | n => n, fun | 0 => 1 | 1 => 2 | 2 => 5 | 3 => 6 | 4 => 7 | n => n⟩
theorem laysPu : Go.Proofs.LaysPu.n14 Tryz.prog laysPu_ren := {
  mixed := by kernel_rfl
  f14 := Tryz.func130.trans (congrArg some (by kernel_rfl))
  f16 := Tryz.func184.trans (congrArg some (by kernel_rfl))
  f17 := Tryz.func185.trans (congrArg some (by kernel_rfl))
  f19 := Tryz.func217.trans (congrArg some (by kernel_rfl))
  f20 := Tryz.func218.trans (congrArg some (by kernel_rfl))
  f21 := Tryz.func219.trans (congrArg some (by kernel_rfl))
  f22 := Tryz.func220.trans (congrArg some (by kernel_rfl))
  f23 := Tryz.func221.trans (congrArg some (by kernel_rfl))
  f24 := Tryz.func222.trans (congrArg some (by kernel_rfl))
  f25 := Tryz.func258.trans (congrArg some (by kernel_rfl))
  f26 := Tryz.func259.trans (congrArg some (by kernel_rfl))
  f27 := Tryz.func123.trans (congrArg some (by kernel_rfl))
  f28 := Tryz.func177.trans (congrArg some (by kernel_rfl))
  f29 := Tryz.func213.trans (congrArg some (by kernel_rfl))
  f30 := Tryz.func254.trans (congrArg some (by kernel_rfl))
  f31 := Tryz.func255.trans (congrArg some (by kernel_rfl))
  f32 := Tryz.func256.trans (congrArg some (by kernel_rfl))
  f33 := Tryz.func257.trans (congrArg some (by kernel_rfl))
  f34 := Tryz.func270.trans (congrArg some (by kernel_rfl))
  f35 := Tryz.func251.trans (congrArg some (by kernel_rfl))
  f36 := Tryz.func271.trans (congrArg some (by kernel_rfl))
  f37 := Tryz.func272.trans (congrArg some (by kernel_rfl))
  f38 := Tryz.func273.trans (congrArg some (by kernel_rfl))
  f39 := Tryz.func276.trans (congrArg some (by kernel_rfl))
  f40 := Tryz.func277.trans (congrArg some (by kernel_rfl))
  t0 := Tryz.underlying0
  a0 := Tryz.isAgg0
  z0 := Tryz.sizeOf0
  v0 := Tryz.zeroValue0
  i0 := by kernel_rfl
  t2 := Tryz.underlying2
  a2 := Tryz.isAgg2
  z2 := Tryz.sizeOf2
  v2 := Tryz.zeroValue2
  i2 := by kernel_rfl
  t3 := Tryz.underlying3
  a3 := Tryz.isAgg3
  z3 := Tryz.sizeOf3
  v3 := Tryz.zeroValue3
  i3 := by kernel_rfl
  t4 := Tryz.underlying4
  a4 := Tryz.isAgg4
  z4 := Tryz.sizeOf4
  v4 := Tryz.zeroValue4
  i4 := by kernel_rfl
  t5 := Tryz.underlying5
  a5 := Tryz.isAgg5
  z5 := Tryz.sizeOf5
  v5 := Tryz.zeroValue5
  i5 := by kernel_rfl
  t9 := Tryz.underlying9
  a9 := Tryz.isAgg9
  z9 := Tryz.sizeOf9
  v9 := Tryz.zeroValue9
  i9 := by kernel_rfl
  t20 := Tryz.underlying20
  a20 := Tryz.isAgg20
  z20 := Tryz.sizeOf20
  v20 := Tryz.zeroValue20
  i20 := by kernel_rfl
  t21 := Tryz.underlying21
  a21 := Tryz.isAgg21
  z21 := Tryz.sizeOf21
  v21 := Tryz.zeroValue21
  i21 := by kernel_rfl
  t22 := Tryz.underlying178
  a22 := Tryz.isAgg178
  z22 := Tryz.sizeOf178
  v22 := Tryz.zeroValue178
  i22 := by kernel_rfl
  t24 := Tryz.underlying180
  a24 := Tryz.isAgg180
  z24 := Tryz.sizeOf180
  v24 := Tryz.zeroValue180
  i24 := by kernel_rfl
  t25 := Tryz.underlying181
  a25 := Tryz.isAgg181
  z25 := Tryz.sizeOf181
  v25 := Tryz.zeroValue181
  i25 := by kernel_rfl
  t34 := Tryz.underlying247
  a34 := Tryz.isAgg247
  z34 := Tryz.sizeOf247
  v34 := Tryz.zeroValue247
  i34 := by kernel_rfl
  c34 := by kernel_rfl
  t36 := Tryz.underlying224
  a36 := Tryz.isAgg224
  z36 := Tryz.sizeOf224
  v36 := Tryz.zeroValue224
  i36 := by kernel_rfl
  t37 := Tryz.underlying201
  a37 := Tryz.isAgg201
  z37 := Tryz.sizeOf201
  v37 := Tryz.zeroValue201
  i37 := by kernel_rfl
  t39 := Tryz.underlying249
  a39 := Tryz.isAgg249
  z39 := Tryz.sizeOf249
  v39 := Tryz.zeroValue249
  i39 := by kernel_rfl
  t44 := Tryz.underlying278
  a44 := Tryz.isAgg278
  z44 := Tryz.sizeOf278
  v44 := Tryz.zeroValue278
  i44 := by kernel_rfl
  t47 := Tryz.underlying235
  a47 := Tryz.isAgg235
  z47 := Tryz.sizeOf235
  v47 := Tryz.zeroValue235
  i47 := by kernel_rfl
  t48 := Tryz.underlying292
  a48 := Tryz.isAgg292
  z48 := Tryz.sizeOf292
  v48 := Tryz.zeroValue292
  i48 := by kernel_rfl
  t50 := Tryz.underlying294
  a50 := Tryz.isAgg294
  z50 := Tryz.sizeOf294
  v50 := Tryz.zeroValue294
  i50 := by kernel_rfl
  t52 := Tryz.underlying272
  a52 := Tryz.isAgg272
  z52 := Tryz.sizeOf272
  v52 := Tryz.zeroValue272
  i52 := by kernel_rfl
  t55 := Tryz.underlying274
  a55 := Tryz.isAgg274
  z55 := Tryz.sizeOf274
  v55 := Tryz.zeroValue274
  i55 := by kernel_rfl
  t59 := Tryz.underlying290
  a59 := Tryz.isAgg290
  z59 := Tryz.sizeOf290
  v59 := Tryz.zeroValue290
  i59 := by kernel_rfl
  t60 := Tryz.underlying244
  a60 := Tryz.isAgg244
  z60 := Tryz.sizeOf244
  v60 := Tryz.zeroValue244
  i60 := by kernel_rfl
  t61 := Tryz.underlying291
  a61 := Tryz.isAgg291
  z61 := Tryz.sizeOf291
  t65 := Tryz.underlying297
  a65 := Tryz.isAgg297
  z65 := Tryz.sizeOf297
  v65 := Tryz.zeroValue297
  i65 := by kernel_rfl
  t66 := Tryz.underlying298
  a66 := Tryz.isAgg298
  z66 := Tryz.sizeOf298
  v66 := Tryz.zeroValue298
  i66 := by kernel_rfl
  t67 := Tryz.underlying195
  a67 := Tryz.isAgg195
  z67 := Tryz.sizeOf195
  v67 := Tryz.zeroValue195
  i67 := by kernel_rfl
  g0 := by kernel_rfl
  m0 := by kernel_rfl
  g1 := by kernel_rfl
  m1 := by kernel_rfl
  g2 := by kernel_rfl
  m2 := by kernel_rfl
  g3 := by kernel_rfl
  m3 := by kernel_rfl
  g4 := by kernel_rfl
  m4 := by kernel_rfl }
theorem toError_any (fn l : List UInt8) (base bits : Int) (ev : Value) (w : World) (hl : l.length ≤ 19) (hv : w.cell? ⟨1, 0, none⟩ = some ev) (hev : ev = .nilIface ∨ ∃ te pe, ev = .iface te pe) :
    Calls Tryz.prog 185 #[.string (S fn), .string (S l), .int .i64 base, .int .i64 bits, .iface 247 (.int .i64 2)] w fun e w' => (∃ N, e = .returned (.iface 249 (.pointer (some ⟨N, 0, none⟩)))) ∧ Grow w w' := by
  refine (AnyPu.strconv_toError_syntax { laysPu with } (S fn) (S l) base bits ev w (by rw [S_size]; omega) hv hev).mono ?_
  rintro e w' ⟨N, he, _, _, hb⟩
  exact ⟨⟨N, he⟩, hb⟩
end Go.Proofs.YtedlaclfhgneeabGreatDoor
namespace Go.Proofs.YtedlaclfhgneeabGreatDoor
open Go.RowKit
set_option linter.unusedVariables false
set_option linter.unusedSimpArgs false
set_option maxRecDepth 100000
set_option maxHeartbeats 2000000
set_option simprocs false
theorem toerr_ (fn l : List UInt8) (base bits : Int) (os : List (Nat × Obj)) (hE : ∀ w ks, Gl os w ks → ∃ ev, w.cell? ⟨1, 0, none⟩ = some ev ∧ (ev = .nilIface ∨ ∃ te pe, ev = .iface te pe)) (hl : l.length ≤ 19) : FnX (Gl os) Tryz.prog 185 [.str fn, .str l, .int .i64 base, .int .i64 bits, .v (.iface 247 (.int .i64 2))] (fun x => ∃ pN, x = .v (.iface 249 (.pointer (some ⟨pN, 0, none⟩)))) := by
  refine ⟨by kernel_rfl, fun w ks vs hv hI => ?_⟩
  cases hv
  obtain ⟨ev, h1, h2⟩ := hE w ks hI
  refine (toError_any fn l base bits ev w hl h1 h2).mono ?_
  rintro e w' ⟨⟨pN, rfl⟩, hg⟩
  exact ⟨_, _, ⟨pN, rfl⟩, rfl, rfl, hg⟩
theorem pu10_s (l : List UInt8) (n : Nat) (hl : l.length ≤ 19) (hv : valL 10 l = some n) : Fn Tryz.prog 130 [.str l, .int .i64 10, .int .i64 64] [] (Rt (.tup [.int .u64 (n : Int), .v .nilIface]) []) :=
 enterM (n := 26) (by kernel_rfl) Tryz.func130 rfl rfl rfl fun G w a h0 A => N hX 11 A rfl rfl fun A => CALL1 [] (parse10_s l n hl hv) A rfl rfl rfl rfl rfl rfl rfl fun A => N hX 11 A rfl rfl fun A => q_eff A rfl (nilneE rfl rfl rfl rfl (by kernel_rfl)) fun A => N hX 13 A rfl rfl fun A => RETN hX A rfl rfl rfl h0 rfl rfl rfl rfl rfl rfl
theorem pu10_n (l : List UInt8) (os : List (Nat × Obj)) (hE : ∀ w ks, Gl os w ks → ∃ ev, w.cell? ⟨1, 0, none⟩ = some ev ∧ (ev = .nilIface ∨ ∃ te pe, ev = .iface te pe)) (hl : l.length ≤ 19) (hv : valL 10 l = none) : FnX (Gl os) Tryz.prog 130 [.str l, .int .i64 10, .int .i64 64] (fun x => ∃ pN, x = .tup [.int .u64 0, .v (.iface 249 (.pointer (some ⟨pN, 0, none⟩)))]) :=
 enterX Gl.ok (n := 26) (by kernel_rfl) Tryz.func130 rfl rfl rfl fun w a hI A => N hX 11 A rfl rfl fun A => CALL1 [] (parse10_n l hl hv) A rfl rfl rfl rfl rfl rfl rfl fun A => N hX 11 A rfl rfl fun A => q_eff A rfl (ifneE rfl rfl rfl rfl (by kernel_rfl)) fun A => N hX 10 A rfl rfl fun A => CALLN (fun pN => .v (.iface 249 (.pointer (some ⟨pN, 0, none⟩)))) Gl.ok hI (toerr_ [80, 97, 114, 115, 101, 85, 105, 110, 116] l 10 64 os hE (by omega)) A rfl rfl fun pN => fun A => N hX 5 A rfl rfl fun A => RETX (J := fun x => ∃ pN, x = .tup [.int .u64 0, .v (.iface 249 (.pointer (some ⟨pN, 0, none⟩)))]) hX A rfl rfl rfl rfl ⟨pN, rfl⟩
theorem pu16_s (l : List UInt8) (n : Nat) (hl : l.length ≤ 16) (hv : valL 16 l = some n) : Fn Tryz.prog 130 [.str l, .int .i64 16, .int .i64 64] [] (Rt (.tup [.int .u64 (n : Int), .v .nilIface]) []) :=
 enterM (n := 26) (by kernel_rfl) Tryz.func130 rfl rfl rfl fun G w a h0 A => N hX 11 A rfl rfl fun A => CALL1 [] (parse16_s l n hl hv) A rfl rfl rfl rfl rfl rfl rfl fun A => N hX 11 A rfl rfl fun A => q_eff A rfl (nilneE rfl rfl rfl rfl (by kernel_rfl)) fun A => N hX 13 A rfl rfl fun A => RETN hX A rfl rfl rfl h0 rfl rfl rfl rfl rfl rfl
theorem pu16_n (l : List UInt8) (os : List (Nat × Obj)) (hE : ∀ w ks, Gl os w ks → ∃ ev, w.cell? ⟨1, 0, none⟩ = some ev ∧ (ev = .nilIface ∨ ∃ te pe, ev = .iface te pe)) (hl : l.length ≤ 16) (hv : valL 16 l = none) : FnX (Gl os) Tryz.prog 130 [.str l, .int .i64 16, .int .i64 64] (fun x => ∃ pN, x = .tup [.int .u64 0, .v (.iface 249 (.pointer (some ⟨pN, 0, none⟩)))]) :=
 enterX Gl.ok (n := 26) (by kernel_rfl) Tryz.func130 rfl rfl rfl fun w a hI A => N hX 11 A rfl rfl fun A => CALL1 [] (parse16_n l hl hv) A rfl rfl rfl rfl rfl rfl rfl fun A => N hX 11 A rfl rfl fun A => q_eff A rfl (ifneE rfl rfl rfl rfl (by kernel_rfl)) fun A => N hX 10 A rfl rfl fun A => CALLN (fun pN => .v (.iface 249 (.pointer (some ⟨pN, 0, none⟩)))) Gl.ok hI (toerr_ [80, 97, 114, 115, 101, 85, 105, 110, 116] l 16 64 os hE (by omega)) A rfl rfl fun pN => fun A => N hX 5 A rfl rfl fun A => RETX (J := fun x => ∃ pN, x = .tup [.int .u64 0, .v (.iface 249 (.pointer (some ⟨pN, 0, none⟩)))]) hX A rfl rfl rfl rfl ⟨pN, rfl⟩
end Go.Proofs.YtedlaclfhgneeabGreatDoor
namespace Go.Proofs.YtedlaclfhgneeabGreatDoor
set_option linter.unusedVariables false
structure Tk where
  kind : Int
  text : List UInt8
  n : Int
  at_ : Int
def tok0 : Tk := ⟨0, [], 0, 0⟩
def fits (o : Option Nat) : Option Int := match o with | some n => if n > 9223372036854775808 then none else some (IntKind.wrap .i64 (n : Int)) | none => none
def numR (l : List UInt8) : Option Int :=
  if preB l [48, 120] then (if (cutF l [48, 120]).length > 16 then none else fits (valL 16 (cutF l [48, 120]))) else (if l.length > 19 then none else fits (valL 10 l))
section
variable {l : List UInt8} {n : Nat}
theorem num_longx (h : preB l [48, 120] = true) (hl : (cutF l [48, 120]).length > 16) : numR l = none := by unfold numR; rw [if_pos h, if_pos hl]
theorem num_longd (h : preB l [48, 120] = false) (hl : l.length > 19) : numR l = none := by unfold numR; rw [if_neg (by simp [h]), if_pos hl]
theorem num_nonex (h : preB l [48, 120] = true) (hv : valL 16 (cutF l [48, 120]) = none) : numR l = none := by unfold numR; rw [if_pos h, hv]; simp [fits]
theorem num_noned (h : preB l [48, 120] = false) (hv : valL 10 l = none) : numR l = none := by unfold numR; rw [if_neg (by simp [h]), hv]; simp [fits]
theorem num_bigx (h : preB l [48, 120] = true) (hv : valL 16 (cutF l [48, 120]) = some n) (hn : n > 9223372036854775808) : numR l = none := by unfold numR; rw [if_pos h, hv]; simp [fits, hn]
theorem num_bigd (h : preB l [48, 120] = false) (hv : valL 10 l = some n) (hn : n > 9223372036854775808) : numR l = none := by unfold numR; rw [if_neg (by simp [h]), hv]; simp [fits, hn]
theorem num_okx (h : preB l [48, 120] = true) (hl : (cutF l [48, 120]).length ≤ 16) (hv : valL 16 (cutF l [48, 120]) = some n) (hn : n ≤ 9223372036854775808) : numR l = some (IntKind.wrap .i64 (n : Int)) := by
  unfold numR; rw [if_pos h, if_neg (by omega), hv]; simp only [fits]; rw [if_neg (by omega)]
theorem num_okd (h : preB l [48, 120] = false) (hl : l.length ≤ 19) (hv : valL 10 l = some n) (hn : n ≤ 9223372036854775808) : numR l = some (IntKind.wrap .i64 (n : Int)) := by
  unfold numR; rw [if_neg (by simp [h]), if_neg (by omega), hv]; simp only [fits]; rw [if_neg (by omega)]
end
end Go.Proofs.YtedlaclfhgneeabGreatDoor
namespace Go.Proofs.YtedlaclfhgneeabGreatDoor
open Go.RowKit
set_option linter.unusedVariables false
set_option linter.unusedSimpArgs false
set_option maxRecDepth 100000
set_option maxHeartbeats 2000000
set_option simprocs false
def nk (l : List UInt8) : Int := match numR l with | some _ => 2 | none => 0
def nt (l : List UInt8) : List UInt8 := match numR l with | some _ => l | none => []
def nn (l : List UInt8) : Int := match numR l with | some n => n | none => 0
def ne_ (l : List UInt8) : Int := match numR l with | some _ => 0 | none => 23
theorem n_none {l : List UInt8} (h : numR l = none) : nk l = 0 ∧ nt l = [] ∧ nn l = 0 ∧ ne_ l = 23 := by unfold nk nt nn ne_; rw [h]; exact ⟨rfl, rfl, rfl, rfl⟩
theorem n_some {l : List UInt8} {n : Int} (h : numR l = some n) : nk l = 2 ∧ nt l = l ∧ nn l = n ∧ ne_ l = 0 := by unfold nk nt nn ne_; rw [h]; exact ⟨rfl, rfl, rfl, rfl⟩
theorem number_ (l : List UInt8) (os : List (Nat × Obj)) (hE : ∀ w ks, Gl os w ks → ∃ ev, w.cell? ⟨1, 0, none⟩ = some ev ∧ (ev = .nilIface ∨ ∃ te pe, ev = .iface te pe)) (hlen : l.length ≤ 8192) : FnI (Gl os) Tryz.prog 61 [.str l] [] (Rt (.tup [.agg [.int .i64 (nk l), .str (nt l), .int .i64 (nn l), .int .i64 0], .int .i64 (ne_ l)]) []) :=
 enterI (n := 41) (by kernel_rfl) Tryz.func61 rfl rfl rfl fun G w a h0 hI A => N hX 18 A rfl rfl fun A => CALL1 [] (cutp_ l [48, 120]) A rfl rfl rfl rfl rfl rfl rfl fun A => N hX 12 A rfl rfl fun A => fork 17 A rfl
  (fun h1 A => N hX 17 A rfl rfl fun A => forkD 22 A rfl
   (fun h2 A => N hX 9 A rfl rfl fun A => RETN hX A rfl rfl rfl h0 rfl rfl rfl rfl (by obtain ⟨e1, e2, e3, e4⟩ := n_none (num_longx h1 (by have := h2; omega)); rw [e1, e2, e3, e4]; rfl) rfl)
   (fun h2 A => N hX 7 A rfl rfl fun A => optE (valL 16 (cutF l [48, 120]))
    (fun hv => CALLN (fun pN => .tup [.int .u64 0, .v (.iface 249 (.pointer (some ⟨pN, 0, none⟩)))]) Gl.ok hI (pu16_n (cutF l [48, 120]) os hE (by have := h2; omega) hv) A rfl rfl fun pN => fun A => N hX 11 A rfl rfl fun A => q_eff A rfl (ifneE rfl rfl rfl rfl (by kernel_rfl)) fun A => N hX 15 A rfl rfl fun A => RETN hX A rfl rfl rfl h0 rfl rfl rfl rfl (by obtain ⟨e1, e2, e3, e4⟩ := n_none (num_nonex h1 hv); rw [e1, e2, e3, e4]; rfl) rfl)
    (fun n hv => CALL1 [] (pu16_s (cutF l [48, 120]) n (by have := h2; omega) hv) A rfl rfl rfl rfl rfl rfl rfl fun A => N hX 11 A rfl rfl fun A => q_eff A rfl (nilneE rfl rfl rfl rfl (by kernel_rfl)) fun A => N hX 6 A rfl rfl fun A => forkD 35 A rfl
     (fun h3 A => N hX 9 A rfl rfl fun A => RETN hX A rfl rfl rfl h0 rfl rfl rfl rfl (by obtain ⟨e1, e2, e3, e4⟩ := n_none (num_bigx h1 hv (by have := h3; omega)); rw [e1, e2, e3, e4]; rfl) rfl)
     (fun h3 A => N hX 14 A rfl rfl fun A => RETN hX A rfl rfl rfl h0 rfl rfl rfl rfl (by obtain ⟨e1, e2, e3, e4⟩ := n_some (num_okx h1 (by have := h2; omega) hv (by have := h3; omega)); rw [e1, e2, e3, e4]; rfl) rfl))))
  (fun h1 A => N hX 12 A rfl rfl fun A => forkD 22 A rfl
   (fun h4 A => N hX 9 A rfl rfl fun A => RETN hX A rfl rfl rfl h0 rfl rfl rfl rfl (by obtain ⟨e1, e2, e3, e4⟩ := n_none (num_longd h1 (by have := h4; omega)); rw [e1, e2, e3, e4]; rfl) rfl)
   (fun h4 A => N hX 7 A rfl rfl fun A => optE (valL 10 l)
    (fun hv => CALLN (fun pN => .tup [.int .u64 0, .v (.iface 249 (.pointer (some ⟨pN, 0, none⟩)))]) Gl.ok hI (pu10_n l os hE (by have := h4; omega) hv) A rfl rfl fun pN => fun A => N hX 11 A rfl rfl fun A => q_eff A rfl (ifneE rfl rfl rfl rfl (by kernel_rfl)) fun A => N hX 15 A rfl rfl fun A => RETN hX A rfl rfl rfl h0 rfl rfl rfl rfl (by obtain ⟨e1, e2, e3, e4⟩ := n_none (num_noned h1 hv); rw [e1, e2, e3, e4]; rfl) rfl)
    (fun n hv => CALL1 [] (pu10_s l n (by have := h4; omega) hv) A rfl rfl rfl rfl rfl rfl rfl fun A => N hX 11 A rfl rfl fun A => q_eff A rfl (nilneE rfl rfl rfl rfl (by kernel_rfl)) fun A => N hX 6 A rfl rfl fun A => forkD 35 A rfl
     (fun h5 A => N hX 9 A rfl rfl fun A => RETN hX A rfl rfl rfl h0 rfl rfl rfl rfl (by obtain ⟨e1, e2, e3, e4⟩ := n_none (num_bigd h1 hv (by have := h5; omega)); rw [e1, e2, e3, e4]; rfl) rfl)
     (fun h5 A => N hX 14 A rfl rfl fun A => RETN hX A rfl rfl rfl h0 rfl rfl rfl rfl (by obtain ⟨e1, e2, e3, e4⟩ := n_some (num_okd h1 (by have := h4; omega) hv (by have := h5; omega)); rw [e1, e2, e3, e4]; rfl) rfl))))
end Go.Proofs.YtedlaclfhgneeabGreatDoor
namespace Go.Proofs.YtedlaclfhgneeabGreatDoor
set_option linter.unusedVariables false
theorem mkN_le {l : List UInt8} (h : 0 < l.length) : mkN l ≤ l.length := by
  unfold mkN
  split
  · next h1 =>
    rw [Bool.or_eq_true] at h1
    rcases h1 with h1 | h1
    · exact pre_len h1
    · exact pre_len h1
  · split <;> split <;> omega
def firstR (l : List UInt8) : Tk × Int :=
  match l[0]? with
  | none => (tok0, 20)
  | some b =>
    if digB b then (match numR (l.take (rn numB l)) with | some n => (⟨2, l.take (rn numB l), n, 0⟩, 0) | none => (tok0, 23))
    else if nbgB b then (⟨1, l.take (rn namB l), 0, 0⟩, 0)
    else if mkN l > 0 then (⟨3, l.take (mkN l), 0, 0⟩, 0) else (tok0, 20)
section
variable {l : List UInt8} {b : UInt8}
theorem first_num {n : Int} (hb : l[0]? = some b) (h : digB b = true) (hn : numR (l.take (rn numB l)) = some n) : firstR l = (⟨2, l.take (rn numB l), n, 0⟩, 0) := by unfold firstR; simp [hb, h, hn]
theorem first_bad (hb : l[0]? = some b) (h : digB b = true) (hn : numR (l.take (rn numB l)) = none) : firstR l = (tok0, 23) := by unfold firstR; simp [hb, h, hn]
theorem first_name (hb : l[0]? = some b) (h : digB b = false) (h2 : nbgB b = true) : firstR l = (⟨1, l.take (rn namB l), 0, 0⟩, 0) := by unfold firstR; simp [hb, h, h2]
theorem first_mark (hb : l[0]? = some b) (h : digB b = false) (h2 : nbgB b = false) (h3 : mkN l > 0) : firstR l = (⟨3, l.take (mkN l), 0, 0⟩, 0) := by unfold firstR; simp [hb, h, h2, h3]
theorem first_byte (hb : l[0]? = some b) (h : digB b = false) (h2 : nbgB b = false) (h3 : ¬ mkN l > 0) : firstR l = (tok0, 20) := by unfold firstR; simp [hb, h, h2, h3]
end
end Go.Proofs.YtedlaclfhgneeabGreatDoor
namespace Go.Proofs.YtedlaclfhgneeabGreatDoor
open Go.RowKit
set_option linter.unusedVariables false
set_option linter.unusedSimpArgs false
set_option maxRecDepth 100000
set_option maxHeartbeats 2000000
set_option simprocs false
theorem first_ (l : List UInt8) (os : List (Nat × Obj)) (hE : ∀ w ks, Gl os w ks → ∃ ev, w.cell? ⟨1, 0, none⟩ = some ev ∧ (ev = .nilIface ∨ ∃ te pe, ev = .iface te pe)) (hl : 0 < l.length) (hlen : l.length ≤ 8192) : FnI (Gl os) Tryz.prog 25 [.str l] [] (Rt (.tup [.agg [.int .i64 ((firstR l).1.kind), .str ((firstR l).1.text), .int .i64 ((firstR l).1.n), .int .i64 ((firstR l).1.at_)], .int .i64 ((firstR l).2)]) []) :=
 enterI (n := 35) (by kernel_rfl) Tryz.func25 rfl rfl rfl fun G w a h0 hI A => N hX 16 A rfl (ok_d (by have h1 := rn_le numB l; have h2 := rn_le namB l; have h3 := mkN_le hl; (try simp only [List.length_take]); omega) <| okE_nil) fun A => N hX 2 A rfl rfl fun A => CALL1 [] (isDigit_b (l.getD (0 : Int).toNat 0)) A rfl rfl rfl rfl rfl rfl rfl fun A => N hX 3 A rfl rfl fun A => fork 8 A rfl
  (fun h1 A => N hX 5 A rfl rfl fun A => CALL1 [] (run_ 63 numB l isNumberPart_b (by omega)) A rfl rfl rfl rfl rfl rfl rfl fun A => N hX 1 A rfl (ok_d (by have h1 := rn_le numB l; have h2 := rn_le namB l; have h3 := mkN_le hl; (try simp only [List.length_take]); omega) <| okE_nil) fun A => CALLI [] Gl.ok hI (number_ (l.take (((rn numB l : Nat) : Int)).toNat) os hE (by have h1 := rn_le numB l; have h2 := rn_le namB l; have h3 := mkN_le hl; (try simp only [List.length_take]); omega)) A rfl rfl rfl rfl rfl rfl rfl fun A => N hX 7 A rfl rfl fun A => RETN hX A rfl rfl rfl h0 rfl rfl rfl rfl (by cases hn : numR (l.take (rn numB l)) with | none => (obtain ⟨e1, e2, e3, e4⟩ := n_none hn; rw [first_bad (at0 hl) h1 hn]; simp only [Int.toNat_natCast, e1, e2, e3, e4]; rfl) | some n => (obtain ⟨e1, e2, e3, e4⟩ := n_some hn; rw [first_num (at0 hl) h1 hn]; simp only [Int.toNat_natCast, e1, e2, e3, e4]; rfl)) rfl)
  (fun h1 A => N hX 4 A rfl rfl fun A => CALL1 [] (isNameBegin_b (l.getD (0 : Int).toNat 0)) A rfl rfl rfl rfl rfl rfl rfl fun A => N hX 3 A rfl rfl fun A => fork 18 A rfl
   (fun h2 A => N hX 5 A rfl rfl fun A => CALL1 [] (run_ 65 namB l isNamePart_b (by omega)) A rfl rfl rfl rfl rfl rfl rfl fun A => N hX 7 A rfl (ok_d (by have h1 := rn_le numB l; have h2 := rn_le namB l; have h3 := mkN_le hl; (try simp only [List.length_take]); omega) <| okE_nil) fun A => RETN hX A rfl rfl rfl h0 rfl rfl rfl rfl (by rw [first_name (at0 hl) h1 h2]; rfl) rfl)
   (fun h2 A => N hX 8 A rfl rfl fun A => CALL1 [] (markl_ l (by have h1 := rn_le numB l; have h2 := rn_le namB l; have h3 := mkN_le hl; (try simp only [List.length_take]); omega)) A rfl rfl rfl rfl rfl rfl rfl fun A => N hX 9 A rfl rfl fun A => forkD 29 A rfl
    (fun h3 A => N hX 12 A rfl (ok_d (by have h1 := rn_le numB l; have h2 := rn_le namB l; have h3 := mkN_le hl; (try simp only [List.length_take]); omega) <| okE_nil) fun A => RETN hX A rfl rfl rfl h0 rfl rfl rfl rfl (by rw [first_mark (at0 hl) h1 h2 (by have := h3; omega)]; rfl) rfl)
    (fun h3 A => N hX 11 A rfl rfl fun A => RETN hX A rfl rfl rfl h0 rfl rfl rfl rfl (by rw [first_byte (at0 hl) h1 h2 (by have := h3; omega)]; rfl) rfl)))
end Go.Proofs.YtedlaclfhgneeabGreatDoor
namespace Go.Proofs.YtedlaclfhgneeabGreatDoor
set_option linter.unusedVariables false
theorem skip_le (l : List UInt8) : (skipL l).1 ≤ l.length := by
  have go : ∀ n (l : List UInt8), l.length ≤ n → (skipL l).1 ≤ l.length := by
    intro n
    induction n with
    | zero => intro l hl; obtain rfl : l = [] := List.eq_nil_of_length_eq_zero (Nat.le_zero.1 hl); rw [skip_nil]; simp
    | succ n ih =>
      intro l hl
      match l, hl with
      | [], _ => rw [skip_nil]; simp
      | b :: r, hl =>
        have h0 : (b :: r)[0]? = some b := rfl
        rcases Bool.eq_false_or_eq_true (blkB b) with h1 | h1
        · have e := skip_blank h0 h1
          rw [List.drop_zero] at e
          rw [e]
          have := ih r (by simpa using hl)
          simp only [List.length_cons, Nat.zero_add, List.drop_succ_cons, List.drop_zero]
          omega
        · rcases Bool.eq_false_or_eq_true (preB (b :: r) [40, 42]) with h2 | h2
          · by_cases h3 : endR ((b :: r).drop 2) < 0
            · have e := skip_open (n := 0) h0 h1 (by rw [List.drop_zero]; exact h2) (by rw [Nat.zero_add]; exact h3)
              rw [List.drop_zero] at e; rw [e]; simp
            · have e := skip_remark (n := 0) h0 h1 (by rw [List.drop_zero]; exact h2) (by rw [Nat.zero_add]; exact h3)
              rw [List.drop_zero] at e; rw [e]
              simp only [Nat.zero_add]
              have h4 := endR_le ((b :: r).drop 2)
              have h5 := ih ((b :: r).drop (2 + (endR ((b :: r).drop 2)).toNat + 2)) (by rw [List.length_drop]; omega)
              rw [List.length_drop] at h4 h5
              omega
          · have e := skip_word (n := 0) h0 h1 (by rw [List.drop_zero]; exact h2)
            rw [List.drop_zero] at e; rw [e]; simp
  exact go l.length l (Nat.le_refl _)
theorem rn_pos {p : UInt8 → Bool} {l : List UInt8} {b : UInt8} (hb : l[0]? = some b) (h : p b = true) : 0 < rn p l := by
  have := rn_go (p := p) (n := 0) hb h
  rw [List.drop_zero] at this; omega
theorem first_len {l : List UInt8} (h : (firstR l).2 = 0) : 0 < (firstR l).1.text.length ∧ (firstR l).1.text.length ≤ l.length := by
  cases hb : l[0]? with
  | none => unfold firstR at h; simp [hb] at h
  | some b =>
    have hl : 0 < l.length := (List.getElem?_eq_some_iff.1 hb).1
    rcases Bool.eq_false_or_eq_true (digB b) with h1 | h1
    · cases hn : numR (l.take (rn numB l)) with
      | none => rw [first_bad hb h1 hn] at h; simp at h
      | some n =>
        rw [first_num hb h1 hn]
        have h2 := rn_pos (p := numB) hb (by unfold numB; rw [h1, Bool.or_true])
        have h3 := rn_le numB l
        simp only [List.length_take]; omega
    · rcases Bool.eq_false_or_eq_true (nbgB b) with h2 | h2
      · rw [first_name hb h1 h2]
        have h3 := rn_pos (p := namB) hb (by unfold namB; rw [h2, Bool.true_or])
        have h4 := rn_le namB l
        simp only [List.length_take]; omega
      · by_cases h3 : mkN l > 0
        · rw [first_mark hb h1 h2 h3]
          have h4 := mkN_le hl
          simp only [List.length_take]; omega
        · rw [first_byte hb h1 h2 h3] at h; simp at h
def toksF : Nat → List UInt8 → Nat → List Tk → List Tk × Int × Nat
  | 0, _, _, _ => ([], 0, 0)
  | f + 1, l, a, ws =>
    if (skipL (l.drop a)).2 then ([], 24, a + (skipL (l.drop a)).1)
    else if a + (skipL (l.drop a)).1 = l.length then (ws, 0, 0)
    else if (firstR (l.drop (a + (skipL (l.drop a)).1))).2 = 0 then
      toksF f l (a + (skipL (l.drop a)).1 + (firstR (l.drop (a + (skipL (l.drop a)).1))).1.text.length) (ws ++ [{ (firstR (l.drop (a + (skipL (l.drop a)).1))).1 with at_ := ((a + (skipL (l.drop a)).1 : Nat) : Int) }])
    else ([], (firstR (l.drop (a + (skipL (l.drop a)).1))).2, a + (skipL (l.drop a)).1)
def tokensR (l : List UInt8) : List Tk × Int × Nat := if l.length > 8192 then ([], 2, 0) else toksF (l.length + 1) l 0 []
section
variable {f a : Nat} {l : List UInt8} {ws : List Tk}
theorem tf_rem (h : (skipL (l.drop a)).2 = true) : toksF (f + 1) l a ws = ([], 24, a + (skipL (l.drop a)).1) := by rw [toksF, if_pos h]
theorem tf_end (h : (skipL (l.drop a)).2 = false) (h1 : a + (skipL (l.drop a)).1 = l.length) : toksF (f + 1) l a ws = (ws, 0, 0) := by rw [toksF, if_neg (by simp [h]), if_pos h1]
theorem tf_bad (h : (skipL (l.drop a)).2 = false) (h1 : ¬ a + (skipL (l.drop a)).1 = l.length) (h2 : ¬ (firstR (l.drop (a + (skipL (l.drop a)).1))).2 = 0) : toksF (f + 1) l a ws = ([], (firstR (l.drop (a + (skipL (l.drop a)).1))).2, a + (skipL (l.drop a)).1) := by
  rw [toksF, if_neg (by simp [h]), if_neg h1, if_neg h2]
theorem tf_go (h : (skipL (l.drop a)).2 = false) (h1 : ¬ a + (skipL (l.drop a)).1 = l.length) (h2 : (firstR (l.drop (a + (skipL (l.drop a)).1))).2 = 0) : toksF (f + 1) l a ws = toksF f l (a + (skipL (l.drop a)).1 + (firstR (l.drop (a + (skipL (l.drop a)).1))).1.text.length) (ws ++ [{ (firstR (l.drop (a + (skipL (l.drop a)).1))).1 with at_ := ((a + (skipL (l.drop a)).1 : Nat) : Int) }]) := by
  rw [toksF, if_neg (by simp [h]), if_neg h1, if_pos h2]
theorem tokens_long (h : l.length > 8192) : tokensR l = ([], 2, 0) := by unfold tokensR; rw [if_pos h]
theorem tokens_short (h : l.length ≤ 8192) : tokensR l = toksF (l.length + 1) l 0 [] := by unfold tokensR; rw [if_neg (by omega)]
end
end Go.Proofs.YtedlaclfhgneeabGreatDoor
namespace Go.Proofs.YtedlaclfhgneeabGreatDoor
open Go.RowKit
set_option linter.unusedVariables false
set_option linter.unusedSimpArgs false
set_option maxRecDepth 100000
set_option maxHeartbeats 2000000
set_option simprocs false
def tkc (t : Tk) : List SV := [.int .i64 t.kind, .str t.text, .int .i64 t.n, .int .i64 t.at_]
structure TkI (l : List UInt8) (a : Nat) (ws : List Tk) : Prop where
  le : a ≤ l.length
  wl : ws.length ≤ a
  eq : ∃ f, l.length < f + a ∧ tokensR l = toksF f l a ws
section
variable {l : List UInt8} {a : Nat} {ws : List Tk}
def skp (l : List UInt8) (a : Nat) : Nat := a + (skipL (l.drop a)).1
theorem TkI.i0 (h : l.length ≤ 8192) : TkI l 0 [] := ⟨Nat.zero_le _, Nat.zero_le _, l.length + 1, by omega, tokens_short h⟩
theorem TkI.sk (hI : TkI l a ws) : skp l a ≤ l.length := by
  have h := skip_le (l.drop a); rw [List.length_drop] at h; have := hI.le; unfold skp; omega
theorem TkI.rem (hI : TkI l a ws) (h : skE l a ≠ 0) : tokensR l = ([], 24, skp l a) ∧ skE l a = 24 := by
  have hs : (skipL (l.drop a)).2 = true := by
    cases hc : (skipL (l.drop a)).2 with
    | true => rfl
    | false => unfold skE at h; rw [hc] at h; exact absurd rfl h
  obtain ⟨f, hf, he⟩ := hI.eq
  cases f with
  | zero => have := hI.le; omega
  | succ f => exact ⟨by rw [he, tf_rem hs]; rfl, by unfold skE; rw [hs]; rfl⟩
theorem skE_no (h : skE l a = 0) : (skipL (l.drop a)).2 = false := by
  cases hc : (skipL (l.drop a)).2 with
  | false => rfl
  | true => unfold skE at h; rw [hc] at h; exact absurd h (by decide)
theorem TkI.done (hI : TkI l a ws) (h : skE l a = 0) (h1 : skp l a = l.length) : tokensR l = (ws, 0, 0) := by
  obtain ⟨f, hf, he⟩ := hI.eq
  cases f with
  | zero => have := hI.le; omega
  | succ f => rw [he, tf_end (skE_no h) h1]
theorem TkI.bad (hI : TkI l a ws) (h : skE l a = 0) (h1 : skp l a ≠ l.length) (h2 : (firstR (l.drop (skp l a))).2 ≠ 0) : tokensR l = ([], (firstR (l.drop (skp l a))).2, skp l a) := by
  obtain ⟨f, hf, he⟩ := hI.eq
  cases f with
  | zero => have := hI.le; omega
  | succ f => rw [he, tf_bad (skE_no h) h1 h2]; rfl
theorem TkI.len (hI : TkI l a ws) (h1 : skp l a ≠ l.length) (h2 : (firstR (l.drop (skp l a))).2 = 0) : 0 < (firstR (l.drop (skp l a))).1.text.length ∧ (firstR (l.drop (skp l a))).1.text.length + skp l a ≤ l.length := by
  have h := first_len h2
  rw [List.length_drop] at h
  have := hI.sk
  omega
theorem TkI.nx (hI : TkI l a ws) (h : skE l a = 0) (h1 : skp l a ≠ l.length) (h2 : (firstR (l.drop (skp l a))).2 = 0) : TkI l (skp l a + (firstR (l.drop (skp l a))).1.text.length) (ws ++ [⟨(firstR (l.drop (skp l a))).1.kind, (firstR (l.drop (skp l a))).1.text, (firstR (l.drop (skp l a))).1.n, ((skp l a : Nat) : Int)⟩]) := by
  obtain ⟨f, hf, he⟩ := hI.eq
  have hn := hI.len h1 h2
  have hw := hI.wl
  have hs : a ≤ skp l a := by unfold skp; omega
  cases f with
  | zero => have := hI.le; omega
  | succ f => exact ⟨by omega, by simp; omega, f, by omega, by rw [he, tf_go (skE_no h) h1 h2]; rfl⟩
theorem tk_app {x : Tk} {k : Nat} (hk : k < ws.length) : (ws ++ [x]).getD k tok0 = ws.getD k tok0 := by simp [List.getD, List.getElem?_append_left hk]
theorem tk_new {x : Tk} : (ws ++ [x]).getD ws.length tok0 = x := by simp [List.getD]
end
def TkR (l : List UInt8) : SV → Hp → Prop := fun x H2 => ((tokensR l).2.1 = 0 ∧ x = .tup [.sl 0 (tokensR l).1.length 0, .int .i64 0, .int .i64 0] ∧ H2 = [some (.row 28 4 (tokensR l).1.length 0 fun zz => tkc ((tokensR l).1.getD zz tok0))]) ∨ ((tokensR l).2.1 ≠ 0 ∧ x = .tup [.sla none 0 0, .int .i64 (tokensR l).2.1, .int .i64 ((tokensR l).2.2 : Int)] ∧ H2 = [])
theorem tokens_ (l : List UInt8) (os : List (Nat × Obj)) (hM : ∀ w ks, Gl os w ks → ∃ m, w.cell? ⟨0, 0, none⟩ = some (.int .i64 m)) (hE : ∀ w ks, Gl os w ks → ∃ ev, w.cell? ⟨1, 0, none⟩ = some ev ∧ (ev = .nilIface ∨ ∃ te pe, ev = .iface te pe)) : FnI (Gl os) Tryz.prog 9 [.str l] [] (TkR l) :=
 enterI (n := 50) (by kernel_rfl) Tryz.func9 rfl rfl rfl fun G w a h0 hI A => N hX 15 A rfl rfl fun A => forkD 12 A rfl
  (fun h1 A => N hX 9 A rfl rfl fun A => RET (x := .tup [.sla none 0 0, .int .i64 2, .int .i64 0]) (H' := []) hX [] A (by have e := tokens_long (l := l) (by omega); unfold TkR; rw [e]; exact .inr ⟨(by show (2 : Int) ≠ 0; decide), rfl, rfl⟩) rfl rfl rfl rfl rfl rfl rfl rfl h0)
  (fun h1 A => N hX 14 A rfl rfl fun A => have A := A.nilRow 5 28 4 (fun zz => tkc (([] : List Tk).getD zz tok0)) rfl (fun z => ⟨_, rfl, rfl⟩); LOOP2 (fun (e0 : Nat) (ws : List Tk) => [(0, .str l), (2, .sla none 0 0), (3, .int .i64 0), (4, .int .i64 0), (5, .sl 0 ws.length 0), (6, .int .i64 (e0 : Int))]) (fun (e0 : Nat) (ws : List Tk) => [some (.row 28 4 ws.length 0 (fun zz => tkc (ws.getD zz tok0)))]) (fun (e0 : Nat) (ws : List Tk) => TkI l e0 ws) (fun (e0 : Nat) (ws : List Tk) => l.length - e0) 0 [] (TkI.i0 (by omega)) ((A.cut [0, 2, 3, 4, 5, 6] rfl).trunc 1 rfl rfl rfl (by simp only [List.length_cons, List.length_nil] at h0; omega)) fun e0 ws hI2 {G a w} A => N hX 5 A rfl rfl fun A => CALLI [] Gl.ok hI (fnI_asX (skip_ l e0 os hM hI2.le (by omega)) (y := .tup [.int .i64 ((skp l e0 : Nat) : Int), .int .i64 (skE l e0)]) fun _ => rfl) A rfl rfl rfl rfl rfl rfl rfl fun A => N hX 14 A rfl rfl fun A => forkN 20 A rfl
    (fun h2 A => N hX 11 A rfl rfl fun A => RET (x := .tup [.sla none 0 0, .int .i64 (skE l e0), .int .i64 ((skp l e0 : Nat) : Int)]) (H' := []) hX [] A (by have e := (hI2.rem h2).1; unfold TkR; rw [e]; have e2 := (hI2.rem h2).2; rw [e2]; exact .inr ⟨(by show (24 : Int) ≠ 0; decide), rfl, rfl⟩) rfl rfl rfl rfl rfl rfl rfl rfl h0)
    (fun h2 A => N hX 12 A rfl rfl fun A => forkE 26 A rfl
     (fun h3 A => N hX 10 A rfl rfl fun A => RET (x := .tup [.sl 0 ws.length 0, .int .i64 0, .int .i64 0]) (H' := [some (.row 28 4 ws.length 0 (fun zz => tkc (ws.getD zz tok0)))]) hX [0] A (by have e := hI2.done h2 (by omega); unfold TkR; rw [e]; exact .inl ⟨rfl, rfl, rfl⟩) rfl rfl rfl rfl rfl rfl rfl rfl h0)
     (fun h3 A => N hX 8 A rfl (ok_d (by have hs := hI2.sk; have hle := hI2.le; have hwl := hI2.wl; (try simp only [List.length_drop, Int.toNat_natCast]); omega) <| okE_nil) fun A => CALLI [] Gl.ok hI (first_ (l.drop (((skp l e0 : Nat) : Int)).toNat) os hE (by have hs := hI2.sk; have hle := hI2.le; have hwl := hI2.wl; (try simp only [List.length_drop, Int.toNat_natCast]); omega) (by have hs := hI2.sk; have hle := hI2.le; have hwl := hI2.wl; (try simp only [List.length_drop, Int.toNat_natCast]); omega)) A rfl rfl rfl rfl rfl rfl rfl fun A => N hX 15 A rfl rfl fun A => forkN 36 A rfl
      (fun h4 A => N hX 11 A rfl rfl fun A => RET (x := .tup [.sla none 0 0, .int .i64 ((firstR (l.drop (((skp l e0 : Nat) : Int)).toNat)).2), .int .i64 ((skp l e0 : Nat) : Int)]) (H' := []) hX [] A (by have e := hI2.bad h2 (by intro e; apply h3; rw [e]) (by have := h4; rwa [Int.toNat_natCast] at this); unfold TkR; rw [e]; exact .inr ⟨(by have := h4; rwa [Int.toNat_natCast] at this), by simp only [Int.toNat_natCast], rfl⟩) rfl rfl rfl rfl rfl rfl rfl rfl h0)
      (fun h4 A => N hX 15 A rfl rfl fun A => APP1 hX (ws.length + 1) (fun zz => tkc ((ws ++ [(⟨(firstR (l.drop (((skp l e0 : Nat) : Int)).toNat)).1.kind, (firstR (l.drop (((skp l e0 : Nat) : Int)).toNat)).1.text, (firstR (l.drop (((skp l e0 : Nat) : Int)).toNat)).1.n, ((skp l e0 : Nat) : Int)⟩ : Tk)]).getD zz tok0)) A rfl rfl rfl rfl (by have hs := hI2.sk; have hle := hI2.le; have hwl := hI2.wl; have hn := hI2.len (by intro e; apply h3; rw [e]) (by have := h4; rwa [Int.toNat_natCast] at this); (try simp only [List.length_drop, Int.toNat_natCast]); omega) rfl (fun k hk => by show tkc _ = tkc _; rw [tk_app hk]) (by show tkc _ = _; rw [tk_new]; rfl) (fun z => ⟨_, rfl, rfl⟩) fun A => have A := (A.rowAs 3 ((ws ++ [(⟨(firstR (l.drop (((skp l e0 : Nat) : Int)).toNat)).1.kind, (firstR (l.drop (((skp l e0 : Nat) : Int)).toNat)).1.text, (firstR (l.drop (((skp l e0 : Nat) : Int)).toNat)).1.n, ((skp l e0 : Nat) : Int)⟩ : Tk)]).length) (fun zz => tkc ((ws ++ [(⟨(firstR (l.drop (((skp l e0 : Nat) : Int)).toNat)).1.kind, (firstR (l.drop (((skp l e0 : Nat) : Int)).toNat)).1.text, (firstR (l.drop (((skp l e0 : Nat) : Int)).toNat)).1.n, ((skp l e0 : Nat) : Int)⟩ : Tk)]).getD zz tok0)) rfl (by rw [List.length_append]; rfl) (fun q hq => rfl) (fun z => ⟨_, rfl, rfl⟩)).say 44 (.sl 3 ((ws ++ [(⟨(firstR (l.drop (((skp l e0 : Nat) : Int)).toNat)).1.kind, (firstR (l.drop (((skp l e0 : Nat) : Int)).toNat)).1.text, (firstR (l.drop (((skp l e0 : Nat) : Int)).toNat)).1.n, ((skp l e0 : Nat) : Int)⟩ : Tk)]).length) 0) rfl (by rw [List.length_append] <;> rfl); N hX 12 A rfl (ok_d (by have hs := hI2.sk; have hle := hI2.le; have hwl := hI2.wl; have hn := hI2.len (by intro e; apply h3; rw [e]) (by have := h4; rwa [Int.toNat_natCast] at this); (try simp only [List.length_drop, Int.toNat_natCast]); omega) <| okE_nil) fun A => ⟨skp l e0 + (firstR (l.drop (skp l e0))).1.text.length, ws ++ [(⟨(firstR (l.drop (((skp l e0 : Nat) : Int)).toNat)).1.kind, (firstR (l.drop (((skp l e0 : Nat) : Int)).toNat)).1.text, (firstR (l.drop (((skp l e0 : Nat) : Int)).toNat)).1.n, ((skp l e0 : Nat) : Int)⟩ : Tk)], _, (by have := hI2.len (by intro e; apply h3; rw [e]) (by have := h4; rwa [Int.toNat_natCast] at this); have := hI2.le; have hq : e0 ≤ skp l e0 := (by unfold skp; omega); omega), (hI2.nx h2 (by intro e; apply h3; rw [e]) (by have := h4; rwa [Int.toNat_natCast] at this)), ((A.cut [0, 2, 3, 4, 5, 6] rfl).mv 0 [3] rfl rfl rfl rfl (by simp only [List.length_cons, List.length_nil] at h0; omega)).sayT (by simp only [Int.toNat_natCast]; rfl)⟩))))
theorem fnI_mono {I : Amb} {P : Program} {f : Nat} {az : List SV} {H : Hp} {R R' : SV → Hp → Prop} (h : FnI I P f az H R) (e : ∀ x H2, R x H2 → R' x H2) : FnI I P f az H R' := ⟨h.1, fun G w vs hM hI hv => Calls.mono (h.2 G w vs hM hI hv) fun e' w' ⟨x', H', F, v, q, r⟩ => ⟨x', H', F, v, e _ _ q, r⟩⟩
theorem tokens_ok (l : List UInt8) (ws : List Tk) (os : List (Nat × Obj)) (hM : ∀ w ks, Gl os w ks → ∃ m, w.cell? ⟨0, 0, none⟩ = some (.int .i64 m)) (hE : ∀ w ks, Gl os w ks → ∃ ev, w.cell? ⟨1, 0, none⟩ = some ev ∧ (ev = .nilIface ∨ ∃ te pe, ev = .iface te pe)) (h : tokensR l = (ws, 0, 0)) : FnI (Gl os) Tryz.prog 9 [.str l] [] (Rt (.tup [.sl 0 ws.length 0, .int .i64 0, .int .i64 0]) [some (.row 28 4 ws.length 0 (fun zz => tkc (ws.getD zz tok0)))]) := fnI_mono (tokens_ l os hM hE) fun x H2 q => by
  unfold TkR at q
  rw [h] at q
  rcases q with ⟨_, q1, q2⟩ | ⟨q1, _⟩
  · exact ⟨q1, q2⟩
  · exact absurd rfl q1
theorem tokens_no (l : List UInt8) (e : Int) (k : Nat) (os : List (Nat × Obj)) (hM : ∀ w ks, Gl os w ks → ∃ m, w.cell? ⟨0, 0, none⟩ = some (.int .i64 m)) (hE : ∀ w ks, Gl os w ks → ∃ ev, w.cell? ⟨1, 0, none⟩ = some ev ∧ (ev = .nilIface ∨ ∃ te pe, ev = .iface te pe)) (h : tokensR l = ([], e, k)) (he : e ≠ 0) : FnI (Gl os) Tryz.prog 9 [.str l] [] (Rt (.tup [.sla none 0 0, .int .i64 e, .int .i64 (k : Int)]) []) := fnI_mono (tokens_ l os hM hE) fun x H2 q => by
  unfold TkR at q
  rw [h] at q
  rcases q with ⟨q1, _⟩ | ⟨_, q1, q2⟩
  · exact absurd q1 he
  · exact ⟨q1, q2⟩
end Go.Proofs.YtedlaclfhgneeabGreatDoor
namespace Go.Proofs.YtedlaclfhgneeabGreatDoor
open Go.RowKit
set_option linter.unusedVariables false
set_option linter.unusedSimpArgs false
set_option linter.unusedSectionVars false
theorem flat_rep (n : Nat) : flatV (fun _ => [.str []]) n = some (List.replicate n (.string (S []))) := by
  induction n with
  | zero => rfl
  | succ n ih =>
    unfold flatV
    rw [ih]
    show some (List.replicate n (Value.string (S [])) ++ [Value.string (S [])]) = _
    rw [List.replicate_succ', ]
section
variable {P : Program} {n : Nat} {ks : List Nat} {G0 : Gr} {w0 : World} {T : List (Nat × SV)} {H : Hp} {ops : Array Oper} {o : Oper}
theorem mkE {x y : Operand} {t e m i : Nat} {ti : TypeInfo} (hg : guardS ops T o.guard = some .run) (hop : o.op = .makeSlice t x y) (hx : evS T x = some (.int .i64 ((m : Nat) : Int))) (hy : evS T y = some (.int .i64 ((m : Nat) : Int))) (ht : P.underlying t = some (.slice e)) (hti : P.info? e = some ti) (hz : ti.zero = some (.string (S []))) (hs : ti.size = 1) (hb : ti.bytes ≤ 1000) (hm : m ≤ 1000000) (hi : H.length = i) : EffOK P n ops ks G0 w0 T H o (.sl i m m) (H ++ [some (.row e 1 m m fun _ => [.str []])]) := fun G a w A => by
  have hw := gd_run (gd := none) A hg
  obtain ⟨d, op, ty, ps, af, gd⟩ := o
  simp only at hop
  subst hop
  subst hi
  have h1 := A.ev hx
  have h2 := A.ev hy
  simp only [den, Option.some.injEq] at h1 h2
  have hmul : ti.bytes * m ≤ 1000 * 1000000 := Nat.mul_le_mul hb hm
  obtain ⟨w', hr, ho, hgb⟩ := run_makeSlice_full (P := P) w 0 t e ti _ 1 ht hti hz hs .i64 .i64 m (by omega) (by omega) (by unfold maxLen; omega) (Nat.zero_le _)
  have hgr : Grow w w' := ⟨hgb.os, hgb.tape, hgb.output, hgb.size, fun k hk => hgb.block k hk (by simp)⟩
  refine does_val (v := .slice (some ⟨w.heap.size, 0, none⟩) m m) (w' := w') hw ?_ ⟨[some ⟨w.heap.size, [], [], e⟩], ?_, ?_⟩
  · unfold execOp
    simp only [h1.symm, h2.symm, Sem.run_bind, hr, Sem.run_pure, Result.andThen_ok]
  · unfold den
    rw [List.getElem?_append_right (by rw [A.mem.len]; exact Nat.le_refl _), A.mem.len]
    simp [rm]
  · refine (A.newBlk (g := w.heap.size) (t := e) (en := .row e 1 m m fun _ => [.str []]) rfl hgr ⟨fun k => ⟨_, rfl, rfl⟩, fun L hL => by cases hL; rfl, _, flat_rep m, ?_⟩ rfl).ms
    have hc : (madeCells (Value.cells (.string (S []))) (m * 1)).toList = List.replicate m (.string (S [])) := by
      unfold madeCells
      apply List.ext_getElem
      · simp
      · intro k h1 h2
        simp [Value.cells, Nat.mod_one]
    rw [hc] at ho
    simpa [rm] using ho
theorem mkE' {x y : Operand} {t e m i : Nat} (f : Nat → List SV) (hf : ∀ j, f j = [.str []]) (hg : guardS ops T o.guard = some .run) (hop : o.op = .makeSlice t x y) (hx : evS T x = some (.int .i64 ((m : Nat) : Int))) (hy : evS T y = some (.int .i64 ((m : Nat) : Int))) (ht : P.underlying t = some (.slice e)) (hst : ∃ ti, P.info? e = some ti ∧ ti.zero = some (.string (S [])) ∧ ti.size = 1 ∧ ti.bytes ≤ 1000) (hm : m ≤ 1000000) (hi : H.length = i) : EffOK P n ops ks G0 w0 T H o (.sl i m m) (H ++ [some (.row e 1 m m f)]) := by
  have : f = fun _ => [.str []] := funext hf
  subst this
  obtain ⟨ti, hti, hz, hs, hb⟩ := hst
  exact mkE hg hop hx hy ht hti hz hs hb hm hi
end
def Acc (lo : Nat) (l : List (Nat × List SV)) (w : World) (ks : List Nat) : Prop := ∀ p ∈ l, lo ≤ p.1 ∧ ∃ vs, denL [] p.2 = some vs ∧ Lies p.1 0 vs w ks
theorem Acc.go {lo : Nat} {l : List (Nat × List SV)} {w w' : World} {ks ks' : List Nat} (h : Acc lo l w ks) (m : Mix ks w w') (hk : ∀ b, ks'.contains b = true → ks.contains b = true ∨ w.heap.size ≤ b) : Acc lo l w' ks' := fun p hp => by
  obtain ⟨h1, vs, h2, h3⟩ := h p hp
  exact ⟨h1, vs, h2, h3.go m hk⟩
section
variable {P : Program} {X : Tx} {n : Nat} {ks : List Nat} {G0 : Gr} {w0 : World} {T : List (Nat × SV)} {H : Hp} {G : Gr} {a : Act} {w w' : World} {ops : Array Oper} {o : Oper} {rest : List Oper} {Q : Exit → Act → World → Prop} {K : List Fr}
end
end Go.Proofs.YtedlaclfhgneeabGreatDoor
