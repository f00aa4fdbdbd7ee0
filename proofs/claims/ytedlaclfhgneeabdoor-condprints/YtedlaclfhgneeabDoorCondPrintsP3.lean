/- CondPrints, part 3: the engine, contracts, theory. -/
import Derived.Test.YtedlaclfhgneeabDoorCondPrintsP2
import Derived.Lib.ItoaLen
import Derived.Test.YtedlaclfhgneeabDoorChecked
import Derived.Lib.ConvBytes
import Derived.WideLaws
import Derived.Laws.AppendOwn
import Derived.Laws.OwnMore
import Derived.Lib.SlBytesRow
import Derived.Lib.ItoaNum
import Derived.WalkSmall
import Derived.ProofKit
import Derived.OpenShut
import Derived.ChangeOld
import Derived.Deep.Slices
import Derived.Lib.LaidTab
namespace Go.Proofs.YtedlaclfhgneeabDoor
open Go.RowKit
set_option linter.unusedVariables false
set_option linter.unusedSimpArgs false
set_option linter.unusedSectionVars false
theorem le0 {H : Hp} {G : Gr} {r : Nat} (h : H.length = G.length) (hb : Nat.ble H.length r = true) : G.length ≤ r := by rw [← h]; exact Nat.le_of_ble_eq_true hb
mutual
def avS (r : Nat) : SV → Bool
  | .ptr i _ => !Nat.beq i r
  | .el i _ _ _ => !Nat.beq i r
  | .sl i _ _ => !Nat.beq i r
  | .agg l => avL r l
  | .tup l => avL r l
  | .fn _ l => avL r l
  | .opt _ x => avS r x
  | .ix p _ _ _ _ => avS r p
  | .sp p _ _ => avS r p
  | .st i _ _ _ _ => !Nat.beq i r
  | _ => true
def avL (r : Nat) : List SV → Bool
  | [] => true
  | x :: l => avS r x && avL r l
end
theorem av_out {D : List Nat} {i : Nat} (h : ∀ r ∈ D, (!Nat.beq i r) = true) : i ∉ D := fun hi => by
  have := h i hi
  rw [show Nat.beq i i = true from Nat.beq_refl i] at this
  cases this
mutual
theorem den_off {G G' : Gr} {D : List Nat} (e : ∀ i, i ∉ D → G'[i]? = G[i]?) : ∀ (x : SV), (∀ r ∈ D, avS r x = true) → den G' x = den G x
  | .ptr i _, h => by unfold den; rw [e i (av_out h)]
  | .el i _ _ _, h => by unfold den; rw [e i (av_out h)]
  | .sl i _ _, h => by unfold den; rw [e i (av_out h)]
  | .agg l, h => by unfold den; rw [denL_off e l h]
  | .tup l, h => by unfold den; rw [denL_off e l h]
  | .fn _ l, h => by unfold den; rw [denL_off e l h]
  | .opt _ x, h => by unfold den; rw [den_off e x h]
  | .ix p _ _ _ _, h => by unfold den; rw [den_off e p h]
  | .sp p _ _, h => by unfold den; rw [den_off e p h]
  | .st i _ _ _ _, h => by unfold den; rw [e i (av_out h)]
  | .int _ _, _ => rfl
  | .bool _, _ => rfl
  | .tt, _ => rfl
  | .ff, _ => rfl
  | .str _, _ => rfl
  | .sla _ _ _, _ => rfl
  | .v _, _ => rfl
theorem denL_off {G G' : Gr} {D : List Nat} (e : ∀ i, i ∉ D → G'[i]? = G[i]?) : ∀ (l : List SV), (∀ r ∈ D, avL r l = true) → denL G' l = denL G l
  | [], _ => rfl
  | x :: l, h => by
    unfold denL
    rw [den_off e x fun r hr => by have := h r hr; simp only [avL, Bool.and_eq_true] at this; exact this.1, denL_off e l fun r hr => by have := h r hr; simp only [avL, Bool.and_eq_true] at this; exact this.2]
end
def avE (r : Nat) : Option Ent → Bool
  | some (.blk cs) => avL r cs
  | _ => true
def avH (r : Nat) : Hp → Bool
  | [] => true
  | e :: H => avE r e && avH r H
theorem avH_at {r : Nat} : ∀ {H : Hp}, avH r H = true → ∀ (i : Nat) (e : Option Ent), H[i]? = some e → avE r e = true
  | [], _, i, e, h => by cases h
  | f :: H, hb, i, e, h => by
    simp only [avH, Bool.and_eq_true] at hb
    cases i with
    | zero => cases h; exact hb.1
    | succ i => exact avH_at hb.2 i e (by simpa using h)
theorem EntOK.off {G G' : Gr} {r : Nat} {w : World} {p : Option Loc} {e : Ent} (h : EntOK G w p e) (hG : ∀ i, i ∉ [r] → G'[i]? = G[i]?) (ha : avE r (some e) = true) : EntOK G' w p e := by
  cases e with
  | blk cs => obtain ⟨M, vs, h1, h2, h3⟩ := h; exact ⟨M, vs, h1, by rw [denL_off hG cs (fun q hq => by simp at hq; subst hq; exact ha)]; exact h2, h3⟩
  | lst s n f => exact h
  | fac b o => exact h
  | row e s n c f => exact h
section
variable {P : Program} {X : Tx} {n : Nat} {ks : List Nat} {G0 : Gr} {w0 : World} {T : List (Nat × SV)} {H : Hp} {G : Gr} {a : Act} {w w' : World} {ops : Array Oper} {o : Oper}
theorem set_off {r : Nat} {y : Option Loc} : ∀ i, i ∉ [r] → (G.set r y)[i]? = G[i]? := fun i hi => by
  simp at hi
  rw [List.getElem?_set_ne (fun h => hi h.symm)]
theorem Sy.place (A : Sy n T H ks G0 w0 G a w) {r g : Nat} {t : TypeId} {en : Ent} (hr : H[r]? = some none) (hr0 : G0.length ≤ r) (hav : avH r H = true) (hg : g = w.heap.size) (hgr : Grow w w') (hen : EntOK G w' (some ⟨g, [], [], t⟩) en) (hmu : en.mut = true) (hae : avE r (some en) = true) :
    Ms (stH H r (some en)) ks G0 w0 (G.set r (some ⟨g, [], [], t⟩)) w' := by
  have hlen := A.mem.len
  have hrl : r < H.length := (List.getElem?_eq_some_iff.1 hr).1
  have B := A.ms.grow hgr
  have hold : ∀ (i : Nat) (e : Ent), (stH H r (some en))[i]? = some (some e) → (i ≠ r ∧ H[i]? = some (some e)) ∨ (i = r ∧ e = en) := by
    intro i e h
    rw [stH_is] at h
    by_cases hi : i = r
    · subst hi; rw [List.getElem?_set_self hrl] at h; cases h; exact .inr ⟨rfl, rfl⟩
    · rw [List.getElem?_set_ne (Ne.symm hi)] at h; exact .inl ⟨hi, h⟩
  have hself : (G.set r (some (⟨g, [], [], t⟩ : Loc)))[r]? = some (some ⟨g, [], [], t⟩) := List.getElem?_set_self (by omega)
  have hne : ∀ {i : Nat}, i ≠ r → (G.set r (some (⟨g, [], [], t⟩ : Loc)))[i]? = G[i]? := fun hi => by rw [List.getElem?_set_ne (Ne.symm hi)]
  refine ⟨⟨by rw [stH_is]; simpa using hlen, fun i e h => ?_, fun i j e f L M hij h1 h2 h3 h4 h5 h6 => ?_⟩, ?_, fun i e L h1 h2 h3 => ?_, B.mix⟩
  · rcases hold i e h with ⟨h1, h2⟩ | ⟨rfl, rfl⟩
    · rw [hne h1]; exact (B.mem.ent i e h2).off set_off (avH_at hav i _ h2)
    · rw [hself]; exact hen.off set_off hae
  · rcases hold i e h1 with ⟨a1, a2⟩ | ⟨rfl, rfl⟩
    · rw [hne a1] at h4
      rcases hold j f h2 with ⟨b1, b2⟩ | ⟨rfl, rfl⟩
      · rw [hne b1] at h5; exact B.mem.sep i j e f L M hij a2 b2 h3 h4 h5 h6
      · rw [hself] at h5; cases h5
        have := A.mem.ent i e a2
        rw [h4] at this
        have := EntOK.lt this (mut_full h3)
        show L.b ≠ g; omega
    · rw [hself] at h4; cases h4
      rcases hold j f h2 with ⟨b1, b2⟩ | ⟨rfl, rfl⟩
      · rw [hne b1] at h5
        have := A.mem.ent j f b2
        rw [h5] at this
        have := EntOK.lt this h6
        show g ≠ M.b; omega
      · exact absurd rfl hij
  · obtain ⟨F, hF⟩ := A.pre
    refine ⟨F.set (r - G0.length) (some ⟨g, [], [], t⟩), ?_⟩
    rw [hF, List.set_append_right _ _ hr0]
  · rcases hold i e h1 with ⟨a1, a2⟩ | ⟨rfl, rfl⟩
    · rw [hne a1] at h3; exact B.own i e L a2 h2 h3
    · rw [hself] at h3; cases h3
      have := A.mix.size
      exact .inr (by show w0.heap.size ≤ g; omega)
def EffAt (P : Program) (n : Nat) (ops : Array Oper) (ks : List Nat) (G0 : Gr) (w0 : World) (Tw : List (Nat × SV)) (H : Hp) (o : Oper) (x : SV) (H' : Hp) (rs : List Nat) : Prop :=
  ∀ G a w, Sy n Tw H ks G0 w0 G a w → Does P ops o a w fun v w' => ∃ G', (∀ i, i ∉ rs → G'[i]? = G[i]?) ∧ den G' x = some v ∧ Ms H' ks G0 w0 G' w'
theorem eff_at {Tw : List (Nat × SV)} {x : SV} {H' : Hp} {rs : List Nat} (h : EffOK P n ops ks G0 w0 Tw H o x H') (hl : H'.length = H.length) : EffAt P n ops ks G0 w0 Tw H o x H' rs := by
  intro G a w A
  refine does_mono (h G a w A) fun v w' ⟨F, h1, h2⟩ => ⟨G, fun _ _ => rfl, ?_⟩
  have e1 := h2.mem.len
  have e2 := A.mem.len
  have : F = [] := List.eq_nil_of_length_eq_zero (by rw [List.length_append] at e1; omega)
  subst this
  rw [List.append_nil] at h1 h2
  exact ⟨h1, h2⟩
theorem new_at (r : Nat) {Tw : List (Nat × SV)} {x x0 : SV} {H' : Hp} {rs : List Nat} {t : TypeId} {en : Ent} (hX : X.ok P = true) (h : stepS X n ops Tw H o = some (.new t en x0)) (hr : lg H r = some none) (hr0 : G0.length ≤ r) (hav : (avH r H && avE r (some en)) = true) (hren : renO (stH (rngF 0 H.length) r H.length) x = some x0) (hH : stH H r (some en) = H') (hrs : rs.contains r = true) : EffAt P n ops ks G0 w0 Tw H o x H' rs := by
  intro G a w A
  rw [Bool.and_eq_true] at hav
  rw [lg_is] at hr
  have hrl : r < H.length := (List.getElem?_eq_some_iff.1 hr).1
  unfold stepS at h
  split at h
  · next hd =>
    split at h
    · next hg =>
      refine xop_new (P := P) (ops := ops) hX A h (gd_run (gd := none) A hg) fun g w' v a1 a2 a3 a4 a5 => ⟨G.set r (some ⟨g, [], [], t⟩), fun i hi => set_off i (fun hq => ?_), ?_, ?_⟩
      · simp at hq; subst hq; exact hi (by simpa using hrs)
      · have hm : ∀ j ∈ (rngF 0 H.length).set r H.length, j < (G ++ [some (⟨g, [], [], t⟩ : Loc)]).length := fun j hj => by
          have hle : j ∈ rngF 0 H.length ∨ j = H.length := by
            rcases List.mem_or_eq_of_mem_set hj with h | h
            · exact .inl h
            · exact .inr h
          have := A.mem.len
          rcases hle with h | h
          · obtain ⟨k, hk, he⟩ := List.getElem_of_mem h
            rw [rngF_len] at hk
            have := rngF_at H.length 0 k hk
            rw [List.getElem?_eq_getElem (by rw [rngF_len]; exact hk), he] at this
            cases this
            simp; omega
          · simp; omega
        rw [stH_is] at hren
        rw [← a5, ← den_ren hm x hren]
        congr 1
        have hlen := A.mem.len
        apply List.ext_getElem?
        intro i
        by_cases hi : i < H.length
        · by_cases hir : i = r
          · subst hir
            have h1 : ((rngF 0 H.length).set i H.length)[i]? = some H.length := List.getElem?_set_self (by rw [rngF_len]; exact hi)
            rw [pickG_at hm h1, List.getElem?_set_self (by omega), List.getElem?_append_right (by omega), hlen]; simp
          · have h1 : ((rngF 0 H.length).set r H.length)[i]? = some i := by rw [List.getElem?_set_ne (Ne.symm hir), rngF_at _ _ _ hi, Nat.zero_add]
            rw [pickG_at hm h1, List.getElem?_set_ne (Ne.symm hir), List.getElem?_append_left (by omega)]
        · rw [List.getElem?_eq_none (by simp; omega), List.getElem?_eq_none (by simp [pickG, rngF_len]; omega)]
      · rw [← hH]; exact A.place hr hr0 hav.1 a1 a2 a3 a4 hav.2
    · cases h
    · split at h <;> cases h
    · cases h
  · cases h
end
section
variable {P : Program} {n : Nat} {ks : List Nat} {G0 : Gr} {w0 : World} {H : Hp} {G : Gr} {w w' : World} {ops : Array Oper} {o : Oper}
end
def mayI (ops : Array Oper) (ef c : List Nat) (i : Nat) (o : Oper) : Bool :=
  !c.contains i && ef.all (fun p => !wt ops o p || c.contains p) && c.all (fun p => match ops[p]? with | some q => !waits q i | none => true)
section
variable {P : Program} {X : Tx} {n : Nat} {ks : List Nat} {G0 : Gr} {w0 : World} {T : List (Nat × SV)} {l : List Oper} {xs : List SV} {Q : Exit → Act → World → Prop} {ef rs0 : List Nat} {tb : List (List Nat × List Nat × Hp)}
structure AInv (n : Nat) (ks : List Nat) (G0 : Gr) (w0 : World) (T : List (Nat × SV)) (l : List Oper) (xs : List SV) (ef rs0 : List Nat) (c rs : List Nat) (H : Hp) (listed : Array Bool) (G : Gr) (a : Act) (w : World) : Prop where
  size : a.tmps.size = n
  defers : a.defers = []
  base : ∀ t x, look T t = some x → (∀ (j : Nat) (o : Oper), l[j]? = some o → o.dst = some t → listed.getD j false = false) → den G x = some (a.tmps.getD t undef)
  done : ∀ (j : Nat) (o : Oper) (x : SV), l[j]? = some o → listed.getD j false = true → xs[j]? = some x → (∀ r ∈ rs, avS r x = true) ∧ ∀ d, o.dst = some d → den G x = some (a.tmps.getD d undef)
  ms : Ms H ks G0 w0 G w
  eff : ∀ p ∈ ef, (listed.getD p false = true ↔ p ∈ c)
  sub : ∀ p ∈ c, p ∈ ef
  rsub : ∀ r ∈ rs, r ∈ rs0
  closed : ∀ (j : Nat) (o : Oper) (p : Nat), l[j]? = some o → listed.getD j false = true → waits o p = true → listed.getD p false = true
def StepOb (P : Program) (n : Nat) (ks : List Nat) (G0 : Gr) (w0 : World) (T : List (Nat × SV)) (l : List Oper) (xs : List SV) (ef : List Nat) (tb : List (List Nat × List Nat × Hp)) (c rs : List Nat) (H : Hp) (i : Nat) (o : Oper) : Prop :=
  ∃ (x : SV) (c' rs' : List Nat) (H' : Hp) (k' : Nat), xs[i]? = some x ∧ tb[k']? = some (c', rs', H') ∧ ((ef.all fun p => c'.contains p == (Nat.beq p i || c.contains p)) && c'.all ef.contains) = true ∧ (rs'.all fun r => rs.contains r && avS r x) = true ∧ EffAt P n l.toArray ks G0 w0 (twL o l xs 0 T) H o x H' rs
theorem any_go (hfit : fitB l.toArray n [] = true) (hT : ∀ t x, look T t = some x → ∀ (j : Nat) (o : Oper), l[j]? = some o → o.dst = some t → ∀ i, i < l.length → i ≠ j → waits o i = true) (hTa : ∀ t x, look T t = some x → ∀ r ∈ rs0, avS r x = true) (hl : xs.length = l.length)
    (hob : ∀ (k : Nat) (c rs : List Nat) (H : Hp), tb[k]? = some (c, rs, H) → ∀ (i : Nat) (o : Oper), l[i]? = some o → mayI l.toArray ef c i o = true → StepOb P n ks G0 w0 T l xs ef tb c rs H i o)
    (hend : ∀ (k : Nat) (c rs : List Nat) (H : Hp), tb[k]? = some (c, rs, H) → (∀ p ∈ ef, p < l.length → p ∈ c) → ∀ G a w, Sy n (putS l xs T) H ks G0 w0 G a w → Q .normal a w) :
    ∀ (fuel : Nat) (listed : Array Bool) (a : Act) (w : World) (k : Nat) (c rs : List Nat) (H : Hp) (G : Gr), listed.size = l.length → ((List.range l.length).filter fun i => !listed.getD i true).length ≤ fuel → tb[k]? = some (c, rs, H) → AInv n ks G0 w0 T l xs ef rs0 c rs H listed G a w → wpAny P .any l.toArray Q fuel listed a w := by
  have last : ∀ (listed : Array Bool) (a : Act) (w : World) (k : Nat) (c rs : List Nat) (H : Hp) (G : Gr), listed.size = l.length → Region.ready .any l.toArray listed = [] → tb[k]? = some (c, rs, H) → AInv n ks G0 w0 T l xs ef rs0 c rs H listed G a w → Q .normal a w := by
    intro listed a w k c rs H G hls hr hk I
    have all : ∀ i, i < l.length → listed.getD i false = true := by
      intro i
      induction i using Nat.strongRecOn with
      | _ i ih =>
        intro hi
        cases hq : listed.getD i false with
        | true => rfl
        | false =>
          exfalso
          have : i ∈ Region.ready .any l.toArray listed := by
            rw [mem_ready]
            have hli : i < listed.size := by omega
            have hoi : l.toArray[i]? = some l[i] := by simp [hi]
            refine ⟨by simpa [hli] using hq, l[i], hoi, fun e he hb => ?_⟩
            have hlt := (fit_spec hfit hoi).2 e he hb
            exact ih e.on hlt (by omega)
          rw [hr] at this; cases this
    refine hend k c rs H hk (fun p hp hpl => (I.eff p hp).1 (all p hpl)) G a w (I.ms.sy I.size I.defers fun t x hx => ?_)
    rcases put_look hl hx with ⟨i, p, q1, q2, q3⟩ | ⟨hx, hno⟩
    · exact (I.done i p x q1 (all i (List.getElem?_eq_some_iff.1 q1).1) q2).2 t q3
    · exact I.base t x hx fun j o h1 h2 => absurd h2 (hno j o h1)
  intro fuel
  induction fuel with
  | zero =>
    intro listed a w k c rs H G hls hf hk I
    have hr : Region.ready .any l.toArray listed = [] := by
      unfold Region.ready
      rw [List.filter_eq_nil_iff]
      intro i hi
      have hnil : ((List.range l.length).filter fun i => !listed.getD i true) = [] := List.eq_nil_of_length_eq_zero (by omega)
      rw [List.filter_eq_nil_iff] at hnil
      have := hnil i (by simpa using hi)
      simp only [Bool.not_eq_true, Bool.not_eq_false'] at this
      simp [this]
    exact ⟨hr, last listed a w k c rs H G hls hr hk I⟩
  | succ fuel ih =>
    intro listed a w k c rs H G hls hf hkt I
    refine ⟨fun hr => last listed a w k c rs H G hls hr hkt I, fun i hi => ?_⟩
    obtain ⟨hun, o, hoi, hall⟩ := mem_ready.1 hi
    have hil : i < l.length := by have := (Array.getElem?_eq_some_iff.1 hoi).1; simpa using this
    have hoi' : l[i]? = some o := by simpa using hoi
    obtain ⟨hfd, hfe⟩ := fit_spec hfit hoi
    have hun' : listed.getD i false = false := by
      have hlt : i < listed.size := by omega
      simpa [hlt] using hun
    have hw : ∀ p, waits o p = true → listed.getD p false = true := fun p hp => by
      unfold waits at hp
      rw [List.any_eq_true] at hp
      obtain ⟨e, he', hb⟩ := hp
      have he : e ∈ o.after := by simpa using he'
      simp only [Bool.and_eq_true, beq_iff_eq] at hb
      rw [← hb.2]
      exact hall e he hb.1
    -- what is known where it stands
    have A : Sy n (twL o l xs 0 T) H ks G0 w0 G a w := I.ms.sy I.size I.defers fun t x hx => by
      rcases tw_look hx with ⟨j, p, q1, q2, q3, q4⟩ | hx
      · exact (I.done j p x q1 (hw j (by simpa using q3)) q2).2 t q4
      · refine I.base t x hx fun j p h1 h2 => ?_
        by_cases hji : j = i
        · subst hji; exact hun'
        · cases hlj : listed.getD j false with
          | false => rfl
          | true =>
            have := I.closed j p i h1 hlj (hT t x hx j p h1 h2 i hil (Ne.symm hji))
            rw [hun'] at this; cases this
    have hmay : mayI l.toArray ef c i o = true := by
      unfold mayI
      simp only [Bool.and_eq_true, Bool.not_eq_true', List.all_eq_true, Bool.or_eq_true]
      refine ⟨⟨?_, fun p hp => ?_⟩, fun p hp => ?_⟩
      · cases hc : c.contains i with
        | false => rfl
        | true =>
          have h1 : i ∈ c := by simpa using hc
          have := (I.eff i (I.sub i h1)).2 h1
          rw [hun'] at this; cases this
      · cases hq : wt l.toArray o p with
        | false => exact .inl rfl
        | true =>
          refine .inr ?_
          have hlp : listed.getD p false = true := by
            unfold wt at hq
            cases hd : waits o p with
            | true => exact hw p hd
            | false =>
              rw [hd] at hq
              exact via_listed (ops := l.toArray) (fun j o' p' h1 h2 h3 => I.closed j o' p' (by simpa using h1) h2 h3) 2 o.after.toList (fun e he hb => hall e (by simpa using he) hb) hq
          have := (I.eff p hp).1 hlp
          simpa using this
      · split
        · next q hq =>
          cases hd : waits q i with
          | false => rfl
          | true =>
            have h1 := (I.eff p (I.sub p hp)).2 hp
            have := I.closed p q i (by simpa using hq) h1 hd
            rw [hun'] at this; cases this
        · rfl
    obtain ⟨x, c', rs', H', k', hx, hk', hc', hrs', he⟩ := hob k c rs H hkt i o hoi' hmay
    rw [Bool.and_eq_true, List.all_eq_true, List.all_eq_true] at hc'
    rw [List.all_eq_true] at hrs'
    have hr1 : ∀ r ∈ rs', r ∈ rs ∧ avS r x = true := fun r hr => by
      have := hrs' r hr
      rw [Bool.and_eq_true] at this
      exact ⟨by simpa using this.1, this.2⟩
    -- the next state
    have next : ∀ (v : Value) (w' : World) (G' : Gr), (∀ i, i ∉ rs → G'[i]? = G[i]?) → den G' x = some v → Ms H' ks G0 w0 G' w' → wpAny P .any l.toArray Q fuel (listed.setIfInBounds i true) (a.put o.dst v) w' := by
      intro v w' G' hG hv hms
      have hlt : i < listed.size := by omega
      have hget : ∀ j, (listed.setIfInBounds i true).getD j false = true ↔ (j = i ∨ listed.getD j false = true) := by
        intro j
        by_cases hji : j = i
        · subst hji; simp [hlt]
        · rw [set_ne false (Ne.symm hji)]; simp [hji]
      refine ih _ _ _ k' c' rs' H' G' (by simpa using hls) ?_ hk' ⟨?_, ?_, fun t y hy hno => ?_, fun j p y q1 q2 q3 => ?_, hms, fun p hp => ?_, fun p hp => ?_, fun r hr => I.rsub r (hr1 r hr).1, fun j p r q1 q2 q3 => ?_⟩
      · have : ((List.range l.length).filter fun k => !(listed.setIfInBounds i true).getD k true).length < ((List.range l.length).filter fun k => !listed.getD k true).length := by
          have hsub : ((List.range l.length).filter fun k => !(listed.setIfInBounds i true).getD k true) = ((List.range l.length).filter fun k => !listed.getD k true).filter (fun k => k != i) := by
            rw [List.filter_filter]
            apply List.filter_congr
            intro k _
            by_cases hk : k = i
            · subst hk; simp [hlt]
            · rw [set_ne true (Ne.symm hk)]; simp [hk]
          rw [hsub]
          refine List.length_filter_lt_length_iff_exists.2 ⟨i, ?_, by simp⟩
          simp only [List.mem_filter, List.mem_range]
          exact ⟨hil, by rw [hun]; rfl⟩
        omega
      · cases hd : o.dst <;> simp [Act.put, I.size]
      · cases hd : o.dst <;> simp [Act.put, I.defers]
      · have hno' : ∀ (j : Nat) (q : Oper), l[j]? = some q → q.dst = some t → listed.getD j false = false := fun j q h1 h2 => by
          have h3 := hno j q h1 h2
          cases hlj : listed.getD j false with
          | false => rfl
          | true => rw [(hget j).2 (.inr hlj)] at h3; cases h3
        have h1 : den G' y = some (a.tmps.getD t undef) := by rw [den_off hG y fun r hr => hTa t y hy r (I.rsub r hr)]; exact I.base t y hy hno'
        cases hd : o.dst with
        | none => exact h1
        | some d =>
          have hne : d ≠ t := fun e => by
            have h3 := hno i o hoi' (by rw [hd, e])
            rw [(hget i).2 (.inl rfl)] at h3; cases h3
          simp only [Act.put, Array.getD_eq_getD_getElem?]
          rw [Array.getElem?_setIfInBounds_ne hne, ← Array.getD_eq_getD_getElem?]
          exact h1
      · by_cases hji : j = i
        · subst hji
          rw [hoi'] at q1; cases q1
          rw [hx] at q3; cases q3
          refine ⟨fun r hr => (hr1 r hr).2, fun d q4 => ?_⟩
          have hdn : d < a.tmps.size := by rw [I.size]; exact (hfd d q4).1
          rw [q4]
          simp [Act.put, hdn, hv]
        · have h2 : listed.getD j false = true := by
            rcases (hget j).1 q2 with h | h
            · exact absurd h hji
            · exact h
          obtain ⟨g1, g2⟩ := I.done j p y q1 h2 q3
          refine ⟨fun r hr => g1 r (hr1 r hr).1, fun d q4 => ?_⟩
          have h1 : den G' y = some (a.tmps.getD d undef) := by rw [den_off hG y g1]; exact g2 d q4
          cases hd : o.dst with
          | none => exact h1
          | some d' =>
            have hne : d' ≠ d := fun e => by
              subst e
              exact hji ((hfd d' hd).2.1 j (by simpa using (List.getElem?_eq_some_iff.1 q1).1) (by simp [dstOf, q1, q4]))
            simp only [Act.put, Array.getD_eq_getD_getElem?]
            rw [Array.getElem?_setIfInBounds_ne hne, ← Array.getD_eq_getD_getElem?]
            exact h1
      · rw [hget p, I.eff p hp]
        have := hc'.1 p hp
        have hb : (p = i ∨ p ∈ c) ↔ (Nat.beq p i || c.contains p) = true := by
          rw [Bool.or_eq_true]
          refine or_congr ⟨fun h => by subst h; exact Nat.beq_refl p, Nat.eq_of_beq_eq_true⟩ (by simp)
        rw [hb]
        rw [beq_iff_eq] at this
        rw [← this]; simp
      · have := hc'.2 p hp; simpa using this
      · rw [hget r]
        by_cases hji : j = i
        · subst hji; rw [hoi'] at q1; cases q1; exact .inr (hw r q3)
        · rcases (hget j).1 q2 with h | h
          · exact absurd h hji
          · exact .inr (I.closed j p r q1 h q3)
    unfold wpOp
    rcases he G a w A with ⟨hwn, h⟩ | ⟨hwn, G', h1, h2, h3⟩
    · simp only [hoi, hwn, if_true]
      refine .inl (Oper.wp_mono (fun a2 w2 h => ?_) (h Q))
      obtain ⟨v, rfl, G', h1, h2, h3⟩ := h
      exact next v w2 G' h1 h2 h3
    · simp only [hoi, hwn, Bool.false_eq_true, if_false]
      exact next undef w G' h1 h2 h3
def mayR (ops : Array Oper) (ef c : List Nat) : List Oper → Nat → List Bool
  | [], _ => []
  | o :: l, i => mayI ops ef c i o :: mayR ops ef c l (i + 1)
def ObS (P : Program) (n : Nat) (ks : List Nat) (G0 : Gr) (w0 : World) (T : List (Nat × SV)) (L : List Oper) (xs : List SV) (ef : List Nat) (tb : List (List Nat × List Nat × Hp)) (c rs : List Nat) (H : Hp) : List Bool → List Oper → Nat → Prop
  | true :: bs, o :: l, i => StepOb P n ks G0 w0 T L xs ef tb c rs H i o ∧ ObS P n ks G0 w0 T L xs ef tb c rs H bs l (i + 1)
  | false :: bs, o :: l, i => ObS P n ks G0 w0 T L xs ef tb c rs H bs l (i + 1)
  | _, _, _ => True
def ObA (P : Program) (n : Nat) (ks : List Nat) (G0 : Gr) (w0 : World) (T : List (Nat × SV)) (L : List Oper) (xs : List SV) (ef : List Nat) (tb : List (List Nat × List Nat × Hp)) : List (List Bool) → List (List Nat × List Nat × Hp) → Prop
  | bs :: B, (c, rs, H) :: ss => ObS P n ks G0 w0 T L xs ef tb c rs H bs L 0 ∧ ObA P n ks G0 w0 T L xs ef tb B ss
  | _, _ => True
theorem obs_at {c rs : List Nat} {H : Hp} {L : List Oper} : ∀ {m : List Oper} {j : Nat}, ObS P n ks G0 w0 T L xs ef tb c rs H (mayR L.toArray ef c m j) m j → ∀ (i : Nat) (o : Oper), m[i]? = some o → mayI L.toArray ef c (j + i) o = true → StepOb P n ks G0 w0 T L xs ef tb c rs H (j + i) o
  | [], j, _, i, o, h, _ => by cases h
  | p :: m, j, hO, i, o, h, hm => by
    unfold mayR at hO
    cases i with
    | zero =>
      cases h
      rw [Nat.add_zero] at hm ⊢
      rw [hm] at hO
      exact hO.1
    | succ i =>
      have hO' : ObS P n ks G0 w0 T L xs ef tb c rs H (mayR L.toArray ef c m (j + 1)) m (j + 1) := by
        cases hb : mayI L.toArray ef c j p with
        | true => rw [hb] at hO; exact hO.2
        | false => rw [hb] at hO; exact hO
      have := obs_at hO' i o (by simpa using h) (by rw [show j + 1 + i = j + (i + 1) by omega]; exact hm)
      rwa [show j + 1 + i = j + (i + 1) by omega] at this
theorem oba_at : ∀ {ss : List (List Nat × List Nat × Hp)}, ObA P n ks G0 w0 T l xs ef tb (ss.map fun s => mayR l.toArray ef s.1 l 0) ss → ∀ (k : Nat) (c rs : List Nat) (H : Hp), ss[k]? = some (c, rs, H) → ObS P n ks G0 w0 T l xs ef tb c rs H (mayR l.toArray ef c l 0) l 0
  | [], _, k, c, rs, H, h => by cases h
  | (c1, r1, H1) :: ss, hO, k, c, rs, H, h => by
    simp only [List.map_cons, ObA] at hO
    cases k with
    | zero => cases h; exact hO.1
    | succ k => exact oba_at hO.2 k c rs H (by simpa using h)
theorem Sy.pad {H : Hp} {G : Gr} {a : Act} {w : World} (A : Ms H ks G0 w0 G w) (m : Nat) : Ms (H ++ List.replicate m none) ks G0 w0 (G ++ List.replicate m none) w := by
  have hlen := A.mem.len
  have hold : ∀ (i : Nat) (e : Ent), (H ++ List.replicate m none)[i]? = some (some e) → H[i]? = some (some e) := by
    intro i e h
    by_cases hi : i < H.length
    · rwa [List.getElem?_append_left hi] at h
    · rw [List.getElem?_append_right (by omega), List.getElem?_replicate] at h
      split at h <;> cases h
  have hg : ∀ (i : Nat) (e : Ent), H[i]? = some (some e) → (G ++ List.replicate m none)[i]? = G[i]? := fun i e h => by
    have := (List.getElem?_eq_some_iff.1 h).1
    rw [List.getElem?_append_left (by omega)]
  refine ⟨⟨by simp [hlen], fun i e h => ?_, fun i j e f L M hij h1 h2 h3 h4 h5 h6 => ?_⟩, ?_, fun i e L h1 h2 h3 => ?_, A.mix⟩
  · rw [hg i e (hold i e h)]; exact (A.mem.ent i e (hold i e h)).more _
  · rw [hg i e (hold i e h1)] at h4
    rw [hg j f (hold j f h2)] at h5
    exact A.mem.sep i j e f L M hij (hold i e h1) (hold j f h2) h3 h4 h5 h6
  · obtain ⟨F, rfl⟩ := A.pre; exact ⟨F ++ List.replicate m none, by simp⟩
  · rw [hg i e (hold i e h1)] at h3; exact A.own i e L (hold i e h1) h2 h3
mutual
theorem av_go {G : Gr} {r : Nat} (key : ∀ i, (∃ p, G[i]? = some p) → (!Nat.beq i r) = true) : ∀ (x : SV) {v : Value}, den G x = some v → avS r x = true
  | .ptr i _, v, hx => by unfold den at hx; split at hx; · next L hL => exact key i ⟨_, hL⟩
                          · cases hx
  | .el i _ _ _, v, hx => by unfold den at hx; split at hx; · next L hL => exact key i ⟨_, hL⟩
                             · cases hx
  | .sl i _ _, v, hx => by unfold den at hx; split at hx; · next L hL => exact key i ⟨_, hL⟩
                           · cases hx
  | .st i _ _ _ _, v, hx => by unfold den at hx; split at hx; · next L hL => exact key i ⟨_, hL⟩
                               · cases hx
  | .agg l, v, hx => by unfold den at hx; obtain ⟨vs, h1, _⟩ := Option.map_eq_some_iff.1 hx; exact avL_go key l h1
  | .tup l, v, hx => by unfold den at hx; obtain ⟨vs, h1, _⟩ := Option.map_eq_some_iff.1 hx; exact avL_go key l h1
  | .fn _ l, v, hx => by unfold den at hx; obtain ⟨vs, h1, _⟩ := Option.map_eq_some_iff.1 hx; exact avL_go key l h1
  | .opt _ x, v, hx => by unfold den at hx; obtain ⟨vs, h1, _⟩ := Option.map_eq_some_iff.1 hx; exact av_go key x h1
  | .ix p _ _ _ _, v, hx => by
    unfold den at hx
    cases hq : den G p with
    | none => rw [hq] at hx; cases hx
    | some u => exact av_go key p hq
  | .sp p _ _, v, hx => by
    unfold den at hx
    cases hq : den G p with
    | none => rw [hq] at hx; cases hx
    | some u => exact av_go key p hq
  | .int _ _, _, _ => rfl
  | .bool _, _, _ => rfl
  | .tt, _, _ => rfl
  | .ff, _, _ => rfl
  | .str _, _, _ => rfl
  | .sla _ _ _, _, _ => rfl
  | .v _, _, _ => rfl
theorem avL_go {G : Gr} {r : Nat} (key : ∀ i, (∃ p, G[i]? = some p) → (!Nat.beq i r) = true) : ∀ (l : List SV) {vs : List Value}, denL G l = some vs → avL r l = true
  | [], _, _ => rfl
  | x :: l, vs, hx => by
    obtain ⟨v, ws, h1, h2, _⟩ := denL_cons hx
    unfold avL
    rw [av_go key x h1, avL_go key l h2]; rfl
end
theorem inS_av {G : Gr} {r : Nat} (h : G.length ≤ r) (x : SV) {v : Value} (hx : den G x = some v) : avS r x = true :=
  av_go (fun i ⟨p, hp⟩ => by
    have := (List.getElem?_eq_some_iff.1 hp).1
    cases hb : Nat.beq i r with
    | false => rfl
    | true => have := Nat.eq_of_beq_eq_true hb; omega) x hx
def endS (ef : List Nat) : List (List Nat × List Nat × Hp) → Option Hp
  | [] => none
  | [(_, _, H)] => some H
  | (c, _, _) :: s => bif ef.all c.contains then none else endS ef s
theorem endS_spec {HE : Hp} : ∀ {tb : List (List Nat × List Nat × Hp)}, endS ef tb = some HE → ∀ (k : Nat) (c rs : List Nat) (H : Hp), tb[k]? = some (c, rs, H) → ef.all c.contains = true → H = HE
  | [], h, k, c, rs, H, hk, _ => by cases hk
  | [(c1, r1, H1)], h, k, c, rs, H, hk, _ => by
    cases h
    cases k with
    | zero => cases hk; rfl
    | succ k => simp at hk
  | (c1, r1, H1) :: s1 :: ss, h, k, c, rs, H, hk, hc => by
    unfold endS at h
    cases hb : ef.all c1.contains with
    | true => rw [hb] at h; cases h
    | false =>
      rw [hb] at h
      cases k with
      | zero => cases hk; rw [hc] at hb; cases hb
      | succ k => exact endS_spec (tb := s1 :: ss) h k c rs H (by simpa using hk) hc
theorem ANY {id : Nat} {H HE : Hp} {G : Gr} {a : Act} {w : World} {K : List Fr} (hmo : P.follows .mixedOrders = true) (xs : List SV) (ef rs0 : List Nat) (m : Nat) (tb : List (List Nat × List Nat × Hp)) (B : List (List Bool)) (A : Sy n T H ks G0 w0 G a w)
    (h0 : tb[0]? = some ([], rs0, H ++ List.replicate m none)) (hE : endS ef tb = some HE) (hrs : (rs0.all fun r => Nat.ble H.length r) = true) (hef : (ef.all fun p => Nat.blt p l.length) = true) (hB : (tb.map fun s => mayR l.toArray ef s.1 l 0) = B) (hl : xs.length = l.length) (hfit : fitB l.toArray n [] = true)
    (hO : ObA P n ks G0 w0 (keepT l T) l xs ef tb B tb) (hk : ∀ {G a w}, Sy n (putS l xs (keepT l T)) HE ks G0 w0 G a w → Goal P Q K .norm a w) : Goal P Q K (.code (.region id l.toArray true)) a w := by
  refine wp_region_any hmo ?_
  have hB1 : Ms H ks G0 w0 G w.drew := A.ms.grow (Grow.refl w).drew
  rw [List.all_eq_true] at hrs hef
  refine any_go (P := P) (xs := xs) (T := keepT l T) (ef := ef) (rs0 := rs0) (tb := tb) hfit (fun t x hx j o h3 h4 i hi hne => lt_spec (by have := keepB_spec (keep_look hx).2 j o h3 h4; rwa [Nat.zero_add] at this) i hi hne) (fun t x hx r hr => ?_) hl (fun k c rs H hk i o hi hm => ?_) (fun k c rs H' hk' hall G a w A' => ?_) _ _ _ _ 0 [] rs0 _ (G ++ List.replicate m none) (by simp) (by
    refine Nat.le_trans (List.length_filter_le _ _) (by simp)) h0 ⟨A.size, A.defers, fun t x hx _ => den_mono _ x (A.get t x (keep_look hx).1), fun j o x _ hj => ?_, Sy.pad (a := a) hB1 m, fun p hp => ?_, fun p hp => absurd hp (by simp), fun r hr => hr, fun j o p _ hj => ?_⟩
  · have := hrs r hr
    rw [A.mem.len] at this
    exact inS_av (G := G) (Nat.le_of_ble_eq_true this) x (A.get t x (keep_look hx).1)
  · have := obs_at (oba_at (by rw [hB]; exact hO) k c rs H hk) i o hi (by rw [Nat.zero_add]; exact hm)
    rwa [Nat.zero_add] at this
  · have h2 : (ef.all c.contains) = true := by
      rw [List.all_eq_true]
      intro p hp
      have := hall p hp (by have := hef p hp; simpa [Nat.blt_eq] using this)
      simpa using this
    cases endS_spec hE k c rs H' hk' h2
    exact hk A'
  · exfalso; simp [Array.getD_eq_getD_getElem?, Array.getElem?_replicate] at hj; split at hj <;> simp at hj
  · constructor
    · intro hj; exfalso; simp [Array.getD_eq_getD_getElem?, Array.getElem?_replicate] at hj; split at hj <;> simp at hj
    · intro hj; cases hj
  · exfalso; simp [Array.getD_eq_getD_getElem?, Array.getElem?_replicate] at hj; split at hj <;> simp at hj
/-! ### Cells written out, as a list that is read -/
theorem blk_parts {α : Type} (d : α) (cf : α → List SV) (s : Nat) (hs : ∀ x, (cf x).length = s) (hin : ∀ x, inL 0 (cf x) = true) : ∀ (L : List α) (k : Nat), k < L.length → tk s (dp (k * s) (L.flatMap cf)) = some (cf (L.getD k d)) ∧ inL 0 (cf (L.getD k d)) = true
  | [], k, h => by simp at h
  | x :: L, 0, _ => by
    refine ⟨?_, hin _⟩
    have tkl : ∀ (a b : List SV), tk a.length (a ++ b) = some a := by
      intro a b
      induction a with
      | nil => rfl
      | cons y a ih => simp [tk, ih]
    rw [Nat.zero_mul, ← hs x]
    exact tkl _ _
  | x :: L, k + 1, h => by
    have := blk_parts d cf s hs hin L k (by simpa using h)
    rw [dp_is] at this ⊢
    have e : (k + 1) * s = (cf x).length + k * s := by rw [hs, Nat.add_mul]; omega
    rw [List.flatMap_cons, e, ← List.drop_drop, List.drop_left]
    exact this
theorem Sy.asT {H : Hp} {G : Gr} {a : Act} {w : World} (A : Sy n T H ks G0 w0 G a w) {α : Type} (d : α) (cf : α → List SV) (s : Nat) (hs : ∀ x, (cf x).length = s) (hin : ∀ x, inL 0 (cf x) = true) (htot : ∀ x, ∃ vs, denL [] (cf x) = some vs) (L : List α) (i : Nat) (hi : lg H i = some (some (.blk (L.flatMap cf)))) : Sy n T (stH H i (some (.lst s L.length fun zz => cf (L.getD zz d)))) ks G0 w0 G a w :=
  A.asList i (f := fun zz => cf (L.getD zz d)) (by rw [lg_is] at hi; exact hi) (.inr ⟨_, rfl, blk_parts d cf s hs hin L⟩) (fun _ _ => rfl) (fun k => htot _)
end
end Go.Proofs.YtedlaclfhgneeabDoor
namespace Go.Proofs.YtedlaclfhgneeabDoor
open Go.RowKit
set_option linter.unusedVariables false
set_option linter.unusedSimpArgs false
set_option maxRecDepth 100000
set_option maxHeartbeats 2000000
set_option simprocs false
abbrev Pc := List UInt8 × Int
def pz : Pc := ([], 0)
theorem ap_len (ks : List Int) (t : List UInt8) (k : Int) : (apT ks t k).length ≤ t.length + 2 := by
  unfold apT; split
  · simp only [List.length_append, List.length_cons, List.length_nil]; omega
  · omega
theorem wr_f {R : List (List UInt8)} {l : List Pc} {j : Nat} {rg vl : Int} (ql : ∀ q, (l.getD q pz).1.length ≤ 1000000) (qR : ∀ q, (R.getD q []).length ≤ 100) (qv : -9223372036854775808 ≤ vl ∧ vl ≤ 9223372036854775807) : (l.getD ((((j : Nat) : Int) + 0).toNat) pz).1.length ≤ 1000000 ∧ (l.getD ((((j : Nat) : Int) + 1).toNat) pz).1.length ≤ 1000000 ∧ (R.getD (rg).toNat []).length ≤ 100 ∧ (Lib.itoa vl).length ≤ 21 ∧ (apT [4, 5] (l.getD ((((j : Nat) : Int) + 0).toNat) pz).1 (l.getD ((((j : Nat) : Int) + 0).toNat) pz).2).length ≤ 1000002 ∧ (apT [5] (l.getD ((((j : Nat) : Int) + 0).toNat) pz).1 (l.getD ((((j : Nat) : Int) + 0).toNat) pz).2).length ≤ 1000002 ∧ (apT [4, 5] (l.getD ((((j : Nat) : Int) + 1).toNat) pz).1 (l.getD ((((j : Nat) : Int) + 1).toNat) pz).2).length ≤ 1000002 ∧ (apT [5] (l.getD ((((j : Nat) : Int) + 1).toNat) pz).1 (l.getD ((((j : Nat) : Int) + 1).toNat) pz).2).length ≤ 1000002 := by
  have h0 := ql ((((j : Nat) : Int) + 0).toNat); have h1 := ql ((((j : Nat) : Int) + 1).toNat)
  exact ⟨h0, h1, qR _, Lib.itoa_length_le vl qv.1 qv.2, Nat.le_trans (ap_len _ _ _) (by omega), Nat.le_trans (ap_len _ _ _) (by omega), Nat.le_trans (ap_len _ _ _) (by omega), Nat.le_trans (ap_len _ _ _) (by omega)⟩
theorem wr_l (lc : Int) (h : 0 ≤ lc ∧ lc < 3) : ([[120], [121], [122]].getD (lc).toNat ([] : List UInt8)).length ≤ 1 := by
  have : (lc).toNat = 0 ∨ (lc).toNat = 1 ∨ (lc).toNat = 2 := by omega
  rcases this with e | e | e <;> rw [e] <;> decide
def wr0 (R : List (List UInt8)) (kd : Int) (th : Int) (rg : Int) (lc : Int) (vl : Int) (l : List Pc) (j : Nat) (k : Nat) : List UInt8 := if kd = 1 then ((((Lib.itoa th) ++ [58]) ++ (R.getD ((rg).toNat) [])) ++ [61]) ++ (Lib.itoa vl) else if kd = 2 then (([[120], [121], [122]].getD (lc).toNat []) ++ [61]) ++ (Lib.itoa vl) else if kd = 3 then [126] ++ (apT [4, 5] ((l.getD ((((j : Nat) : Int) + 0).toNat) pz).1) ((l.getD ((((j : Nat) : Int) + 0).toNat) pz).2)) else if kd = 4 then ((((apT [5] ((l.getD ((((j : Nat) : Int) + 0).toNat) pz).1) ((l.getD ((((j : Nat) : Int) + 0).toNat) pz).2)) ++ [32]) ++ [47, 92]) ++ [32]) ++ (apT [4, 5] ((l.getD ((((j : Nat) : Int) + 1).toNat) pz).1) ((l.getD ((((j : Nat) : Int) + 1).toNat) pz).2)) else (((((l.getD ((((j : Nat) : Int) + 0).toNat) pz).1) ++ [32]) ++ [92, 47]) ++ [32]) ++ (apT [5] ((l.getD ((((j : Nat) : Int) + 1).toNat) pz).1) ((l.getD ((((j : Nat) : Int) + 1).toNat) pz).2))
theorem wr_ (R : List (List UInt8)) (kd : Int) (th : Int) (rg : Int) (lc : Int) (vl : Int) (l : List Pc) (j : Nat) (k : Nat) (b : Nat) (o : Obj) (hT : ∀ w : World, w.heap[b]? = some o → Lib.TabIs Tryd.prog w "internal/strconv.uint64pow10" .u64 Lib.pow10Tab) (hk : j + k ≤ l.length) (q1 : kd = 1 → 0 ≤ th ∧ th < 3 ∧ 0 ≤ rg ∧ rg < 8) (q2 : kd = 2 → 0 ≤ lc ∧ lc < 3) (q3 : kd = 3 → 1 ≤ k) (q4 : kd ≠ 1 → kd ≠ 2 → kd ≠ 3 → 2 ≤ k) (qv : -9223372036854775808 ≤ vl ∧ vl ≤ 9223372036854775807) (ql : ∀ q, (l.getD q pz).1.length ≤ 1000000) (qR : ∀ q, (R.getD q []).length ≤ 100) (hR : 8 ≤ R.length) : Fn Tryd.prog 12 [.sl 0 R.length 8, .agg [.int .i64 kd, .int .i64 th, .int .i64 rg, .int .i64 lc, .int .i64 vl], .st 1 2 j k 0] [some (.row 9 1 R.length 8 (fun zz => [.str (R.getD zz [])])), some (.row 45 2 l.length 0 (fun zz => [.str (l.getD zz pz).1, .int .i64 (l.getD zz pz).2])), some (.fac b o)] (Rt (.str (wr0 R kd th rg lc vl l j k)) [some (.row 9 1 R.length 8 (fun zz => [.str (R.getD zz [])])), some (.row 45 2 l.length 0 (fun zz => [.str (l.getD zz pz).1, .int .i64 (l.getD zz pz).2])), some (.fac b o)]) :=
 enterM (n := 75) (by kernel_rfl) Tryd.func12 rfl rfl rfl fun G w a h0 A => N hX 20 A rfl rfl fun A => forkE 9 A rfl
  (fun h1 A => N hX 2 A rfl rfl fun A => DRAWN hX hmo [] [(2, .str (Lib.itoa th), [some (.row 9 1 R.length 8 (fun zz => [.str (R.getD zz [])])), some (.row 45 2 l.length 0 (fun zz => [.str (l.getD zz pz).1, .int .i64 (l.getD zz pz).2])), some (.fac b o), some (.blk [.int .i64 kd, .int .i64 th, .int .i64 rg, .int .i64 lc, .int .i64 vl])]), (13, .str (Lib.itoa vl), [some (.row 9 1 R.length 8 (fun zz => [.str (R.getD zz [])])), some (.row 45 2 l.length 0 (fun zz => [.str (l.getD zz pz).1, .int .i64 (l.getD zz pz).2])), some (.fac b o), some (.blk [.int .i64 kd, .int .i64 th, .int .i64 rg, .int .i64 lc, .int .i64 vl])])] A rfl (ok_d (by have hz := wr_f (j := j) (rg := rg) ql qR qv; have := Lib.itoa_length_le th (by omega) (by omega); (try simp only [List.length_append, List.length_cons, List.length_nil]); omega) <| ok_d (by have hz := wr_f (j := j) (rg := rg) ql qR qv; have := Lib.itoa_length_le th (by omega) (by omega); (try simp only [List.length_append, List.length_cons, List.length_nil]); omega) <| ok_d (by have hz := wr_f (j := j) (rg := rg) ql qR qv; have := Lib.itoa_length_le th (by omega) (by omega); (try simp only [List.length_append, List.length_cons, List.length_nil]); omega) <| ok_d (by have hz := wr_f (j := j) (rg := rg) ql qR qv; have := Lib.itoa_length_le th (by omega) (by omega); (try simp only [List.length_append, List.length_cons, List.length_nil]); omega) <| ok_d (by have hz := wr_f (j := j) (rg := rg) ql qR qv; have := Lib.itoa_length_le th (by omega) (by omega); (try simp only [List.length_append, List.length_cons, List.length_nil]); omega) <| ok_d (by have hz := wr_f (j := j) (rg := rg) ql qR qv; have := Lib.itoa_length_le th (by omega) (by omega); (try simp only [List.length_append, List.length_cons, List.length_nil]); omega) <| ok_d (by have hz := wr_f (j := j) (rg := rg) ql qR qv; have := Lib.itoa_length_le th (by omega) (by omega); (try simp only [List.length_append, List.length_cons, List.length_nil]); omega) <| ok_d (by have hz := wr_f (j := j) (rg := rg) ql qR qv; have := Lib.itoa_length_le th (by omega) (by omega); (try simp only [List.length_append, List.length_cons, List.length_nil]); omega) <| ok_d (by have hz := wr_f (j := j) (rg := rg) ql qR qv; have := Lib.itoa_length_le th (by omega) (by omega); (try simp only [List.length_append, List.length_cons, List.length_nil]); omega) <| ok_d (by have hz := wr_f (j := j) (rg := rg) ql qR qv; have := Lib.itoa_length_le th (by omega) (by omega); (try simp only [List.length_append, List.length_cons, List.length_nil]); omega) <| ok_d (by have hz := wr_f (j := j) (rg := rg) ql qR qv; have := Lib.itoa_length_le th (by omega) (by omega); (try simp only [List.length_append, List.length_cons, List.length_nil]); omega) <| ok_d (by have hz := wr_f (j := j) (rg := rg) ql qR qv; have := Lib.itoa_length_le th (by omega) (by omega); (try simp only [List.length_append, List.length_cons, List.length_nil]); omega) <| ok_d (by have hz := wr_f (j := j) (rg := rg) ql qR qv; have := Lib.itoa_length_le th (by omega) (by omega); (try simp only [List.length_append, List.length_cons, List.length_nil]); omega) <| okE_nil) rfl rfl (by kernel_rfl) ⟨callE [2] (fn_itoa b o hT th (by omega) (by omega)) rfl rfl rfl rfl rfl rfl rfl, ⟨callE [2] (fn_itoa b o hT vl (by omega) (by omega)) rfl rfl rfl rfl rfl rfl rfl, trivial⟩⟩ trivial fun A => N hX 2 A rfl rfl fun A => RETN hX A rfl rfl rfl h0 rfl rfl rfl rfl (by simp only [oneS, nb, nbL, nbH, wr0, if_pos h1]) rfl)
  (fun h1 A => N hX 7 A rfl rfl fun A => forkE 26 A rfl
   (fun h2 A => N hX 2 A rfl rfl fun A => DRAWN hX hmo [] [(0, .sl 4 3 3, [some (.row 9 1 R.length 8 (fun zz => [.str (R.getD zz [])])), some (.row 45 2 l.length 0 (fun zz => [.str (l.getD zz pz).1, .int .i64 (l.getD zz pz).2])), some (.fac b o), some (.blk [.int .i64 kd, .int .i64 th, .int .i64 rg, .int .i64 lc, .int .i64 vl]), some (.blk [.str [120], .str [121], .str [122]])]), (8, .str (Lib.itoa vl), [some (.row 9 1 R.length 8 (fun zz => [.str (R.getD zz [])])), some (.row 45 2 l.length 0 (fun zz => [.str (l.getD zz pz).1, .int .i64 (l.getD zz pz).2])), some (.fac b o), some (.blk [.int .i64 kd, .int .i64 th, .int .i64 rg, .int .i64 lc, .int .i64 vl]), some (.blk [.str [120], .str [121], .str [122]])])] A rfl (ok_d (by omega) <| ok_d (by omega) <| ok_d (by omega) <| ok_d (by omega) <| ok_d (by have hz := wr_f (j := j) (rg := rg) ql qR qv; have hx := wr_l lc (by omega); (try simp only [List.length_append, List.length_cons, List.length_nil]); omega) <| ok_d (by have hz := wr_f (j := j) (rg := rg) ql qR qv; have hx := wr_l lc (by omega); (try simp only [List.length_append, List.length_cons, List.length_nil]); omega) <| ok_d (by have hz := wr_f (j := j) (rg := rg) ql qR qv; have hx := wr_l lc (by omega); (try simp only [List.length_append, List.length_cons, List.length_nil]); omega) <| okE_nil) rfl rfl (by kernel_rfl) ⟨callE [] locs_ rfl rfl rfl rfl rfl rfl rfl, ⟨callE [2] (fn_itoa b o hT vl (by omega) (by omega)) rfl rfl rfl rfl rfl rfl rfl, trivial⟩⟩ trivial fun A => N hX 2 A rfl rfl fun A => RETN hX A rfl rfl rfl h0 rfl rfl rfl rfl (by simp only [oneS, nb, nbL, nbH, wr0, if_neg (h1), if_pos h2]) rfl)
   (fun h2 A => N hX 7 A rfl rfl fun A => forkE 38 A rfl
    (fun h3 A => N hX 7 A rfl (ok_d (by have hz := wr_f (j := j) (rg := rg) ql qR qv; (try simp only [List.length_append, List.length_cons, List.length_nil]); omega) <| ok_d (by have hz := wr_f (j := j) (rg := rg) ql qR qv; (try simp only [List.length_append, List.length_cons, List.length_nil]); omega) <| okE_nil) fun A => CALL1 [4] (ap45_ ((l.getD ((((j : Nat) : Int) + 0).toNat) pz).1) ((l.getD ((((j : Nat) : Int) + 0).toNat) pz).2) (by have hz := wr_f (j := j) (rg := rg) ql qR qv; (try simp only [List.length_append, List.length_cons, List.length_nil]); omega)) A rfl rfl rfl rfl rfl rfl rfl fun A => N hX 5 A rfl (ok_d (by have hz := wr_f (j := j) (rg := rg) ql qR qv; (try simp only [List.length_append, List.length_cons, List.length_nil]); omega) <| okE_nil) fun A => RETN hX A rfl rfl rfl h0 rfl rfl rfl rfl (by simp only [oneS, nb, nbL, nbH, wr0, if_neg (h1), if_neg (h2), if_pos h3]) rfl)
    (fun h3 A => N hX 7 A rfl rfl fun A => forkE 46 A rfl
     (fun h4 A => N hX 2 A rfl rfl fun A => ANY hmo [.st 1 2 j k 0, .el 1 2 (((j : Nat) : Int) + 0) 0, .agg [.str ((l.getD ((((j : Nat) : Int) + 0).toNat) pz).1), .int .i64 ((l.getD ((((j : Nat) : Int) + 0).toNat) pz).2)], .sl 4 1 1, .str (apT [5] ((l.getD ((((j : Nat) : Int) + 0).toNat) pz).1) ((l.getD ((((j : Nat) : Int) + 0).toNat) pz).2)), .str ((apT [5] ((l.getD ((((j : Nat) : Int) + 0).toNat) pz).1) ((l.getD ((((j : Nat) : Int) + 0).toNat) pz).2)) ++ [32]), .str (((apT [5] ((l.getD ((((j : Nat) : Int) + 0).toNat) pz).1) ((l.getD ((((j : Nat) : Int) + 0).toNat) pz).2)) ++ [32]) ++ [47, 92]), .str ((((apT [5] ((l.getD ((((j : Nat) : Int) + 0).toNat) pz).1) ((l.getD ((((j : Nat) : Int) + 0).toNat) pz).2)) ++ [32]) ++ [47, 92]) ++ [32]), .st 1 2 j k 0, .el 1 2 (((j : Nat) : Int) + 1) 0, .agg [.str ((l.getD ((((j : Nat) : Int) + 1).toNat) pz).1), .int .i64 ((l.getD ((((j : Nat) : Int) + 1).toNat) pz).2)], .sl 5 2 2, .str (apT [4, 5] ((l.getD ((((j : Nat) : Int) + 1).toNat) pz).1) ((l.getD ((((j : Nat) : Int) + 1).toNat) pz).2)), .str (((((apT [5] ((l.getD ((((j : Nat) : Int) + 0).toNat) pz).1) ((l.getD ((((j : Nat) : Int) + 0).toNat) pz).2)) ++ [32]) ++ [47, 92]) ++ [32]) ++ (apT [4, 5] ((l.getD ((((j : Nat) : Int) + 1).toNat) pz).1) ((l.getD ((((j : Nat) : Int) + 1).toNat) pz).2))), .str (((((apT [5] ((l.getD ((((j : Nat) : Int) + 0).toNat) pz).1) ((l.getD ((((j : Nat) : Int) + 0).toNat) pz).2)) ++ [32]) ++ [47, 92]) ++ [32]) ++ (apT [4, 5] ((l.getD ((((j : Nat) : Int) + 1).toNat) pz).1) ((l.getD ((((j : Nat) : Int) + 1).toNat) pz).2)))] [3, 4, 11, 12] [4, 5] 2 [([], [4, 5], [some (.row 9 1 R.length 8 (fun zz => [.str (R.getD zz [])])), some (.row 45 2 l.length 0 (fun zz => [.str (l.getD zz pz).1, .int .i64 (l.getD zz pz).2])), some (.fac b o), some (.blk [.int .i64 kd, .int .i64 th, .int .i64 rg, .int .i64 lc, .int .i64 vl]), none, none]), ([3], [5], [some (.row 9 1 R.length 8 (fun zz => [.str (R.getD zz [])])), some (.row 45 2 l.length 0 (fun zz => [.str (l.getD zz pz).1, .int .i64 (l.getD zz pz).2])), some (.fac b o), some (.blk [.int .i64 kd, .int .i64 th, .int .i64 rg, .int .i64 lc, .int .i64 vl]), some (.blk [.int .i64 5]), none]), ([11], [4], [some (.row 9 1 R.length 8 (fun zz => [.str (R.getD zz [])])), some (.row 45 2 l.length 0 (fun zz => [.str (l.getD zz pz).1, .int .i64 (l.getD zz pz).2])), some (.fac b o), some (.blk [.int .i64 kd, .int .i64 th, .int .i64 rg, .int .i64 lc, .int .i64 vl]), none, some (.blk [.int .i64 4, .int .i64 5])]), ([3, 4], [5], [some (.row 9 1 R.length 8 (fun zz => [.str (R.getD zz [])])), some (.row 45 2 l.length 0 (fun zz => [.str (l.getD zz pz).1, .int .i64 (l.getD zz pz).2])), some (.fac b o), some (.blk [.int .i64 kd, .int .i64 th, .int .i64 rg, .int .i64 lc, .int .i64 vl]), some (.blk [.int .i64 5]), none]), ([3, 11], [], [some (.row 9 1 R.length 8 (fun zz => [.str (R.getD zz [])])), some (.row 45 2 l.length 0 (fun zz => [.str (l.getD zz pz).1, .int .i64 (l.getD zz pz).2])), some (.fac b o), some (.blk [.int .i64 kd, .int .i64 th, .int .i64 rg, .int .i64 lc, .int .i64 vl]), some (.blk [.int .i64 5]), some (.blk [.int .i64 4, .int .i64 5])]), ([3, 4, 11], [], [some (.row 9 1 R.length 8 (fun zz => [.str (R.getD zz [])])), some (.row 45 2 l.length 0 (fun zz => [.str (l.getD zz pz).1, .int .i64 (l.getD zz pz).2])), some (.fac b o), some (.blk [.int .i64 kd, .int .i64 th, .int .i64 rg, .int .i64 lc, .int .i64 vl]), some (.blk [.int .i64 5]), some (.blk [.int .i64 4, .int .i64 5])]), ([3, 4, 11, 12], [], [some (.row 9 1 R.length 8 (fun zz => [.str (R.getD zz [])])), some (.row 45 2 l.length 0 (fun zz => [.str (l.getD zz pz).1, .int .i64 (l.getD zz pz).2])), some (.fac b o), some (.blk [.int .i64 kd, .int .i64 th, .int .i64 rg, .int .i64 lc, .int .i64 vl]), some (.blk [.int .i64 5]), some (.blk [.int .i64 4, .int .i64 5])])] [[true, true, true, true, false, false, false, false, true, true, true, true, false, false, false], [true, true, true, false, true, false, false, false, true, true, true, true, false, false, false], [true, true, true, true, false, false, false, false, true, true, true, false, false, false, false], [true, true, false, false, false, true, true, true, true, true, true, true, false, false, false], [true, true, true, false, true, false, false, false, true, true, true, false, false, false, false], [true, true, false, false, false, true, true, true, true, true, true, false, true, false, false], [true, true, false, false, false, true, true, true, true, true, false, false, false, true, true]] A rfl rfl rfl rfl (by kernel_rfl) rfl (by kernel_rfl) ⟨⟨⟨_, _, _, _, 0, rfl, rfl, rfl, rfl, eff_at (eff_auto (X := ⟨_, true⟩) (out := .val _ _) hX rfl rfl) rfl⟩, ⟨⟨_, _, _, _, 0, rfl, rfl, rfl, rfl, eff_at (eff_auto (X := ⟨_, true⟩) (out := .val _ _) hX rfl (ok_d (by have hz := wr_f (j := j) (rg := rg) ql qR qv; (try simp only [List.length_append, List.length_cons, List.length_nil]); omega) <| okE_nil)) rfl⟩, ⟨⟨_, _, _, _, 0, rfl, rfl, rfl, rfl, eff_at (eff_auto (X := ⟨_, true⟩) (out := .val _ _) hX rfl (ok_d (by have hz := wr_f (j := j) (rg := rg) ql qR qv; (try simp only [List.length_append, List.length_cons, List.length_nil]); omega) <| okE_nil)) rfl⟩, ⟨⟨_, _, _, _, 1, rfl, rfl, rfl, rfl, new_at 4 (X := ⟨_, true⟩) hX rfl rfl (le0 h0 rfl) rfl rfl rfl rfl⟩, ⟨⟨_, _, _, _, 0, rfl, rfl, rfl, rfl, eff_at (eff_auto (X := ⟨_, true⟩) (out := .val _ _) hX rfl rfl) rfl⟩, ⟨⟨_, _, _, _, 0, rfl, rfl, rfl, rfl, eff_at (eff_auto (X := ⟨_, true⟩) (out := .val _ _) hX rfl (ok_d (by have hz := wr_f (j := j) (rg := rg) ql qR qv; (try simp only [List.length_append, List.length_cons, List.length_nil]); omega) <| okE_nil)) rfl⟩, ⟨⟨_, _, _, _, 0, rfl, rfl, rfl, rfl, eff_at (eff_auto (X := ⟨_, true⟩) (out := .val _ _) hX rfl (ok_d (by have hz := wr_f (j := j) (rg := rg) ql qR qv; (try simp only [List.length_append, List.length_cons, List.length_nil]); omega) <| okE_nil)) rfl⟩, ⟨⟨_, _, _, _, 2, rfl, rfl, rfl, rfl, new_at 5 (X := ⟨_, true⟩) hX rfl rfl (le0 h0 rfl) rfl rfl rfl rfl⟩, trivial⟩⟩⟩⟩⟩⟩⟩⟩, ⟨⟨⟨_, _, _, _, 1, rfl, rfl, rfl, rfl, eff_at (eff_auto (X := ⟨_, true⟩) (out := .val _ _) hX rfl rfl) rfl⟩, ⟨⟨_, _, _, _, 1, rfl, rfl, rfl, rfl, eff_at (eff_auto (X := ⟨_, true⟩) (out := .val _ _) hX rfl (ok_d (by have hz := wr_f (j := j) (rg := rg) ql qR qv; (try simp only [List.length_append, List.length_cons, List.length_nil]); omega) <| okE_nil)) rfl⟩, ⟨⟨_, _, _, _, 1, rfl, rfl, rfl, rfl, eff_at (eff_auto (X := ⟨_, true⟩) (out := .val _ _) hX rfl (ok_d (by have hz := wr_f (j := j) (rg := rg) ql qR qv; (try simp only [List.length_append, List.length_cons, List.length_nil]); omega) <| okE_nil)) rfl⟩, ⟨⟨_, _, _, _, 3, rfl, rfl, rfl, rfl, eff_at (callE [4] (ap5_ ((l.getD ((((j : Nat) : Int) + 0).toNat) pz).1) ((l.getD ((((j : Nat) : Int) + 0).toNat) pz).2) (by have hz := wr_f (j := j) (rg := rg) ql qR qv; (try simp only [List.length_append, List.length_cons, List.length_nil]); omega)) rfl rfl rfl rfl rfl rfl rfl) rfl⟩, ⟨⟨_, _, _, _, 1, rfl, rfl, rfl, rfl, eff_at (eff_auto (X := ⟨_, true⟩) (out := .val _ _) hX rfl rfl) rfl⟩, ⟨⟨_, _, _, _, 1, rfl, rfl, rfl, rfl, eff_at (eff_auto (X := ⟨_, true⟩) (out := .val _ _) hX rfl (ok_d (by have hz := wr_f (j := j) (rg := rg) ql qR qv; (try simp only [List.length_append, List.length_cons, List.length_nil]); omega) <| okE_nil)) rfl⟩, ⟨⟨_, _, _, _, 1, rfl, rfl, rfl, rfl, eff_at (eff_auto (X := ⟨_, true⟩) (out := .val _ _) hX rfl (ok_d (by have hz := wr_f (j := j) (rg := rg) ql qR qv; (try simp only [List.length_append, List.length_cons, List.length_nil]); omega) <| okE_nil)) rfl⟩, ⟨⟨_, _, _, _, 4, rfl, rfl, rfl, rfl, new_at 5 (X := ⟨_, true⟩) hX rfl rfl (le0 h0 rfl) rfl rfl rfl rfl⟩, trivial⟩⟩⟩⟩⟩⟩⟩⟩, ⟨⟨⟨_, _, _, _, 2, rfl, rfl, rfl, rfl, eff_at (eff_auto (X := ⟨_, true⟩) (out := .val _ _) hX rfl rfl) rfl⟩, ⟨⟨_, _, _, _, 2, rfl, rfl, rfl, rfl, eff_at (eff_auto (X := ⟨_, true⟩) (out := .val _ _) hX rfl (ok_d (by have hz := wr_f (j := j) (rg := rg) ql qR qv; (try simp only [List.length_append, List.length_cons, List.length_nil]); omega) <| okE_nil)) rfl⟩, ⟨⟨_, _, _, _, 2, rfl, rfl, rfl, rfl, eff_at (eff_auto (X := ⟨_, true⟩) (out := .val _ _) hX rfl (ok_d (by have hz := wr_f (j := j) (rg := rg) ql qR qv; (try simp only [List.length_append, List.length_cons, List.length_nil]); omega) <| okE_nil)) rfl⟩, ⟨⟨_, _, _, _, 4, rfl, rfl, rfl, rfl, new_at 4 (X := ⟨_, true⟩) hX rfl rfl (le0 h0 rfl) rfl rfl rfl rfl⟩, ⟨⟨_, _, _, _, 2, rfl, rfl, rfl, rfl, eff_at (eff_auto (X := ⟨_, true⟩) (out := .val _ _) hX rfl rfl) rfl⟩, ⟨⟨_, _, _, _, 2, rfl, rfl, rfl, rfl, eff_at (eff_auto (X := ⟨_, true⟩) (out := .val _ _) hX rfl (ok_d (by have hz := wr_f (j := j) (rg := rg) ql qR qv; (try simp only [List.length_append, List.length_cons, List.length_nil]); omega) <| okE_nil)) rfl⟩, ⟨⟨_, _, _, _, 2, rfl, rfl, rfl, rfl, eff_at (eff_auto (X := ⟨_, true⟩) (out := .val _ _) hX rfl (ok_d (by have hz := wr_f (j := j) (rg := rg) ql qR qv; (try simp only [List.length_append, List.length_cons, List.length_nil]); omega) <| okE_nil)) rfl⟩, trivial⟩⟩⟩⟩⟩⟩⟩, ⟨⟨⟨_, _, _, _, 3, rfl, rfl, rfl, rfl, eff_at (eff_auto (X := ⟨_, true⟩) (out := .val _ _) hX rfl rfl) rfl⟩, ⟨⟨_, _, _, _, 3, rfl, rfl, rfl, rfl, eff_at (eff_auto (X := ⟨_, true⟩) (out := .val _ _) hX rfl (ok_d (by have hz := wr_f (j := j) (rg := rg) ql qR qv; (try simp only [List.length_append, List.length_cons, List.length_nil]); omega) <| okE_nil)) rfl⟩, ⟨⟨_, _, _, _, 3, rfl, rfl, rfl, rfl, eff_at (eff_auto (X := ⟨_, true⟩) (out := .val _ _) hX rfl (ok_d (by have hz := wr_f (j := j) (rg := rg) ql qR qv; (try simp only [List.length_append, List.length_cons, List.length_nil]); omega) <| okE_nil)) rfl⟩, ⟨⟨_, _, _, _, 3, rfl, rfl, rfl, rfl, eff_at (eff_auto (X := ⟨_, true⟩) (out := .val _ _) hX rfl (ok_d (by have hz := wr_f (j := j) (rg := rg) ql qR qv; (try simp only [List.length_append, List.length_cons, List.length_nil]); omega) <| okE_nil)) rfl⟩, ⟨⟨_, _, _, _, 3, rfl, rfl, rfl, rfl, eff_at (eff_auto (X := ⟨_, true⟩) (out := .val _ _) hX rfl (ok_d (by have hz := wr_f (j := j) (rg := rg) ql qR qv; (try simp only [List.length_append, List.length_cons, List.length_nil]); omega) <| okE_nil)) rfl⟩, ⟨⟨_, _, _, _, 3, rfl, rfl, rfl, rfl, eff_at (eff_auto (X := ⟨_, true⟩) (out := .val _ _) hX rfl rfl) rfl⟩, ⟨⟨_, _, _, _, 3, rfl, rfl, rfl, rfl, eff_at (eff_auto (X := ⟨_, true⟩) (out := .val _ _) hX rfl (ok_d (by have hz := wr_f (j := j) (rg := rg) ql qR qv; (try simp only [List.length_append, List.length_cons, List.length_nil]); omega) <| okE_nil)) rfl⟩, ⟨⟨_, _, _, _, 3, rfl, rfl, rfl, rfl, eff_at (eff_auto (X := ⟨_, true⟩) (out := .val _ _) hX rfl (ok_d (by have hz := wr_f (j := j) (rg := rg) ql qR qv; (try simp only [List.length_append, List.length_cons, List.length_nil]); omega) <| okE_nil)) rfl⟩, ⟨⟨_, _, _, _, 5, rfl, rfl, rfl, rfl, new_at 5 (X := ⟨_, true⟩) hX rfl rfl (le0 h0 rfl) rfl rfl rfl rfl⟩, trivial⟩⟩⟩⟩⟩⟩⟩⟩⟩, ⟨⟨⟨_, _, _, _, 4, rfl, rfl, rfl, rfl, eff_at (eff_auto (X := ⟨_, true⟩) (out := .val _ _) hX rfl rfl) rfl⟩, ⟨⟨_, _, _, _, 4, rfl, rfl, rfl, rfl, eff_at (eff_auto (X := ⟨_, true⟩) (out := .val _ _) hX rfl (ok_d (by have hz := wr_f (j := j) (rg := rg) ql qR qv; (try simp only [List.length_append, List.length_cons, List.length_nil]); omega) <| okE_nil)) rfl⟩, ⟨⟨_, _, _, _, 4, rfl, rfl, rfl, rfl, eff_at (eff_auto (X := ⟨_, true⟩) (out := .val _ _) hX rfl (ok_d (by have hz := wr_f (j := j) (rg := rg) ql qR qv; (try simp only [List.length_append, List.length_cons, List.length_nil]); omega) <| okE_nil)) rfl⟩, ⟨⟨_, _, _, _, 5, rfl, rfl, rfl, rfl, eff_at (callE [4] (ap5_ ((l.getD ((((j : Nat) : Int) + 0).toNat) pz).1) ((l.getD ((((j : Nat) : Int) + 0).toNat) pz).2) (by have hz := wr_f (j := j) (rg := rg) ql qR qv; (try simp only [List.length_append, List.length_cons, List.length_nil]); omega)) rfl rfl rfl rfl rfl rfl rfl) rfl⟩, ⟨⟨_, _, _, _, 4, rfl, rfl, rfl, rfl, eff_at (eff_auto (X := ⟨_, true⟩) (out := .val _ _) hX rfl rfl) rfl⟩, ⟨⟨_, _, _, _, 4, rfl, rfl, rfl, rfl, eff_at (eff_auto (X := ⟨_, true⟩) (out := .val _ _) hX rfl (ok_d (by have hz := wr_f (j := j) (rg := rg) ql qR qv; (try simp only [List.length_append, List.length_cons, List.length_nil]); omega) <| okE_nil)) rfl⟩, ⟨⟨_, _, _, _, 4, rfl, rfl, rfl, rfl, eff_at (eff_auto (X := ⟨_, true⟩) (out := .val _ _) hX rfl (ok_d (by have hz := wr_f (j := j) (rg := rg) ql qR qv; (try simp only [List.length_append, List.length_cons, List.length_nil]); omega) <| okE_nil)) rfl⟩, trivial⟩⟩⟩⟩⟩⟩⟩, ⟨⟨⟨_, _, _, _, 5, rfl, rfl, rfl, rfl, eff_at (eff_auto (X := ⟨_, true⟩) (out := .val _ _) hX rfl rfl) rfl⟩, ⟨⟨_, _, _, _, 5, rfl, rfl, rfl, rfl, eff_at (eff_auto (X := ⟨_, true⟩) (out := .val _ _) hX rfl (ok_d (by have hz := wr_f (j := j) (rg := rg) ql qR qv; (try simp only [List.length_append, List.length_cons, List.length_nil]); omega) <| okE_nil)) rfl⟩, ⟨⟨_, _, _, _, 5, rfl, rfl, rfl, rfl, eff_at (eff_auto (X := ⟨_, true⟩) (out := .val _ _) hX rfl (ok_d (by have hz := wr_f (j := j) (rg := rg) ql qR qv; (try simp only [List.length_append, List.length_cons, List.length_nil]); omega) <| okE_nil)) rfl⟩, ⟨⟨_, _, _, _, 5, rfl, rfl, rfl, rfl, eff_at (eff_auto (X := ⟨_, true⟩) (out := .val _ _) hX rfl (ok_d (by have hz := wr_f (j := j) (rg := rg) ql qR qv; (try simp only [List.length_append, List.length_cons, List.length_nil]); omega) <| okE_nil)) rfl⟩, ⟨⟨_, _, _, _, 5, rfl, rfl, rfl, rfl, eff_at (eff_auto (X := ⟨_, true⟩) (out := .val _ _) hX rfl (ok_d (by have hz := wr_f (j := j) (rg := rg) ql qR qv; (try simp only [List.length_append, List.length_cons, List.length_nil]); omega) <| okE_nil)) rfl⟩, ⟨⟨_, _, _, _, 5, rfl, rfl, rfl, rfl, eff_at (eff_auto (X := ⟨_, true⟩) (out := .val _ _) hX rfl rfl) rfl⟩, ⟨⟨_, _, _, _, 5, rfl, rfl, rfl, rfl, eff_at (eff_auto (X := ⟨_, true⟩) (out := .val _ _) hX rfl (ok_d (by have hz := wr_f (j := j) (rg := rg) ql qR qv; (try simp only [List.length_append, List.length_cons, List.length_nil]); omega) <| okE_nil)) rfl⟩, ⟨⟨_, _, _, _, 5, rfl, rfl, rfl, rfl, eff_at (eff_auto (X := ⟨_, true⟩) (out := .val _ _) hX rfl (ok_d (by have hz := wr_f (j := j) (rg := rg) ql qR qv; (try simp only [List.length_append, List.length_cons, List.length_nil]); omega) <| okE_nil)) rfl⟩, ⟨⟨_, _, _, _, 6, rfl, rfl, rfl, rfl, eff_at (callE [5] (ap45_ ((l.getD ((((j : Nat) : Int) + 1).toNat) pz).1) ((l.getD ((((j : Nat) : Int) + 1).toNat) pz).2) (by have hz := wr_f (j := j) (rg := rg) ql qR qv; (try simp only [List.length_append, List.length_cons, List.length_nil]); omega)) rfl rfl rfl rfl rfl rfl rfl) rfl⟩, trivial⟩⟩⟩⟩⟩⟩⟩⟩⟩, ⟨⟨⟨_, _, _, _, 6, rfl, rfl, rfl, rfl, eff_at (eff_auto (X := ⟨_, true⟩) (out := .val _ _) hX rfl rfl) rfl⟩, ⟨⟨_, _, _, _, 6, rfl, rfl, rfl, rfl, eff_at (eff_auto (X := ⟨_, true⟩) (out := .val _ _) hX rfl (ok_d (by have hz := wr_f (j := j) (rg := rg) ql qR qv; (try simp only [List.length_append, List.length_cons, List.length_nil]); omega) <| okE_nil)) rfl⟩, ⟨⟨_, _, _, _, 6, rfl, rfl, rfl, rfl, eff_at (eff_auto (X := ⟨_, true⟩) (out := .val _ _) hX rfl (ok_d (by have hz := wr_f (j := j) (rg := rg) ql qR qv; (try simp only [List.length_append, List.length_cons, List.length_nil]); omega) <| okE_nil)) rfl⟩, ⟨⟨_, _, _, _, 6, rfl, rfl, rfl, rfl, eff_at (eff_auto (X := ⟨_, true⟩) (out := .val _ _) hX rfl (ok_d (by have hz := wr_f (j := j) (rg := rg) ql qR qv; (try simp only [List.length_append, List.length_cons, List.length_nil]); omega) <| okE_nil)) rfl⟩, ⟨⟨_, _, _, _, 6, rfl, rfl, rfl, rfl, eff_at (eff_auto (X := ⟨_, true⟩) (out := .val _ _) hX rfl (ok_d (by have hz := wr_f (j := j) (rg := rg) ql qR qv; (try simp only [List.length_append, List.length_cons, List.length_nil]); omega) <| okE_nil)) rfl⟩, ⟨⟨_, _, _, _, 6, rfl, rfl, rfl, rfl, eff_at (eff_auto (X := ⟨_, true⟩) (out := .val _ _) hX rfl rfl) rfl⟩, ⟨⟨_, _, _, _, 6, rfl, rfl, rfl, rfl, eff_at (eff_auto (X := ⟨_, true⟩) (out := .val _ _) hX rfl (ok_d (by have hz := wr_f (j := j) (rg := rg) ql qR qv; (try simp only [List.length_append, List.length_cons, List.length_nil]); omega) <| okE_nil)) rfl⟩, ⟨⟨_, _, _, _, 6, rfl, rfl, rfl, rfl, eff_at (eff_auto (X := ⟨_, true⟩) (out := .val _ _) hX rfl (ok_d (by have hz := wr_f (j := j) (rg := rg) ql qR qv; (try simp only [List.length_append, List.length_cons, List.length_nil]); omega) <| okE_nil)) rfl⟩, ⟨⟨_, _, _, _, 6, rfl, rfl, rfl, rfl, eff_at (eff_auto (X := ⟨_, true⟩) (out := .val _ _) hX rfl rfl) rfl⟩, trivial⟩⟩⟩⟩⟩⟩⟩⟩⟩, trivial⟩⟩⟩⟩⟩⟩⟩ fun A => N hX 2 A rfl rfl fun A => RETN hX A rfl rfl rfl h0 rfl rfl rfl rfl (by simp only [oneS, nb, nbL, nbH, wr0, if_neg (h1), if_neg (h2), if_neg (h3), if_pos h4]) rfl)
     (fun h4 A => N hX 5 A rfl rfl fun A => DRAWN hX hmo [] [(11, .str (apT [5] ((l.getD ((((j : Nat) : Int) + 1).toNat) pz).1) ((l.getD ((((j : Nat) : Int) + 1).toNat) pz).2)), [some (.row 9 1 R.length 8 (fun zz => [.str (R.getD zz [])])), some (.row 45 2 l.length 0 (fun zz => [.str (l.getD zz pz).1, .int .i64 (l.getD zz pz).2])), some (.fac b o), some (.blk [.int .i64 kd, .int .i64 th, .int .i64 rg, .int .i64 lc, .int .i64 vl]), some (.blk [.int .i64 5])])] A rfl (ok_d (by have hz := wr_f (j := j) (rg := rg) ql qR qv; (try simp only [List.length_append, List.length_cons, List.length_nil]); omega) <| ok_d (by have hz := wr_f (j := j) (rg := rg) ql qR qv; (try simp only [List.length_append, List.length_cons, List.length_nil]); omega) <| ok_d (by have hz := wr_f (j := j) (rg := rg) ql qR qv; (try simp only [List.length_append, List.length_cons, List.length_nil]); omega) <| ok_d (by have hz := wr_f (j := j) (rg := rg) ql qR qv; (try simp only [List.length_append, List.length_cons, List.length_nil]); omega) <| ok_d (by have hz := wr_f (j := j) (rg := rg) ql qR qv; (try simp only [List.length_append, List.length_cons, List.length_nil]); omega) <| ok_d (by have hz := wr_f (j := j) (rg := rg) ql qR qv; (try simp only [List.length_append, List.length_cons, List.length_nil]); omega) <| ok_d (by have hz := wr_f (j := j) (rg := rg) ql qR qv; (try simp only [List.length_append, List.length_cons, List.length_nil]); omega) <| ok_d (by have hz := wr_f (j := j) (rg := rg) ql qR qv; (try simp only [List.length_append, List.length_cons, List.length_nil]); omega) <| ok_d (by have hz := wr_f (j := j) (rg := rg) ql qR qv; (try simp only [List.length_append, List.length_cons, List.length_nil]); omega) <| ok_d (by have hz := wr_f (j := j) (rg := rg) ql qR qv; (try simp only [List.length_append, List.length_cons, List.length_nil]); omega) <| ok_d (by have hz := wr_f (j := j) (rg := rg) ql qR qv; (try simp only [List.length_append, List.length_cons, List.length_nil]); omega) <| ok_d (by have hz := wr_f (j := j) (rg := rg) ql qR qv; (try simp only [List.length_append, List.length_cons, List.length_nil]); omega) <| ok_d (by have hz := wr_f (j := j) (rg := rg) ql qR qv; (try simp only [List.length_append, List.length_cons, List.length_nil]); omega) <| ok_d (by have hz := wr_f (j := j) (rg := rg) ql qR qv; (try simp only [List.length_append, List.length_cons, List.length_nil]); omega) <| ok_d (by have hz := wr_f (j := j) (rg := rg) ql qR qv; (try simp only [List.length_append, List.length_cons, List.length_nil]); omega) <| ok_d (by have hz := wr_f (j := j) (rg := rg) ql qR qv; (try simp only [List.length_append, List.length_cons, List.length_nil]); omega) <| ok_d (by have hz := wr_f (j := j) (rg := rg) ql qR qv; (try simp only [List.length_append, List.length_cons, List.length_nil]); omega) <| ok_d (by have hz := wr_f (j := j) (rg := rg) ql qR qv; (try simp only [List.length_append, List.length_cons, List.length_nil]); omega) <| ok_d (by have hz := wr_f (j := j) (rg := rg) ql qR qv; (try simp only [List.length_append, List.length_cons, List.length_nil]); omega) <| ok_d (by have hz := wr_f (j := j) (rg := rg) ql qR qv; (try simp only [List.length_append, List.length_cons, List.length_nil]); omega) <| ok_d (by have hz := wr_f (j := j) (rg := rg) ql qR qv; (try simp only [List.length_append, List.length_cons, List.length_nil]); omega) <| ok_d (by have hz := wr_f (j := j) (rg := rg) ql qR qv; (try simp only [List.length_append, List.length_cons, List.length_nil]); omega) <| ok_d (by have hz := wr_f (j := j) (rg := rg) ql qR qv; (try simp only [List.length_append, List.length_cons, List.length_nil]); omega) <| ok_d (by have hz := wr_f (j := j) (rg := rg) ql qR qv; (try simp only [List.length_append, List.length_cons, List.length_nil]); omega) <| okE_nil) rfl rfl (by kernel_rfl) ⟨trivial, ⟨callE [4] (ap5_ ((l.getD ((((j : Nat) : Int) + 1).toNat) pz).1) ((l.getD ((((j : Nat) : Int) + 1).toNat) pz).2) (by have hz := wr_f (j := j) (rg := rg) ql qR qv; (try simp only [List.length_append, List.length_cons, List.length_nil]); omega)) rfl rfl rfl rfl rfl rfl rfl, trivial⟩⟩ trivial fun A => N hX 2 A rfl rfl fun A => RETN hX A rfl rfl rfl h0 rfl rfl rfl rfl (by simp only [oneS, nb, nbL, nbH, wr0, if_neg (h1), if_neg (h2), if_neg (h3), if_neg (h4)]) rfl))))
theorem pone_ (R : List (List UInt8)) (kd : Int) (th : Int) (rg : Int) (lc : Int) (vl : Int) (l : List Pc) (j : Nat) (k : Nat) (b : Nat) (o : Obj) (hT : ∀ w : World, w.heap[b]? = some o → Lib.TabIs Tryd.prog w "internal/strconv.uint64pow10" .u64 Lib.pow10Tab) (hk : j + k ≤ l.length) (q1 : kd = 1 → 0 ≤ th ∧ th < 3 ∧ 0 ≤ rg ∧ rg < 8) (q2 : kd = 2 → 0 ≤ lc ∧ lc < 3) (q3 : kd = 3 → 1 ≤ k) (q4 : kd ≠ 1 → kd ≠ 2 → kd ≠ 3 → 2 ≤ k) (qv : -9223372036854775808 ≤ vl ∧ vl ≤ 9223372036854775807) (ql : ∀ q, (l.getD q pz).1.length ≤ 1000000) (qR : ∀ q, (R.getD q []).length ≤ 100) (hR : 8 ≤ R.length) : Fn Tryd.prog 11 [.agg [.int .i64 kd, .int .i64 th, .int .i64 rg, .int .i64 lc, .int .i64 vl], .st 2 2 j k 0, .ptr 0 0] [some (.blk [.sl 1 R.length 8]), some (.row 9 1 R.length 8 (fun zz => [.str (R.getD zz [])])), some (.row 45 2 l.length 0 (fun zz => [.str (l.getD zz pz).1, .int .i64 (l.getD zz pz).2])), some (.fac b o)] (Rt (.agg [.str (wr0 R kd th rg lc vl l j k), .int .i64 kd]) [some (.blk [.sl 1 R.length 8]), some (.row 9 1 R.length 8 (fun zz => [.str (R.getD zz [])])), some (.row 45 2 l.length 0 (fun zz => [.str (l.getD zz pz).1, .int .i64 (l.getD zz pz).2])), some (.fac b o)]) :=
 enterM (n := 13) (by kernel_rfl) Tryd.func11 rfl rfl rfl fun G w a h0 A => N hX 7 A rfl rfl fun A => DRAWN hX hmo [] [(3, .str (wr0 R kd th rg lc vl l j k), [some (.blk [.sl 1 R.length 8]), some (.row 9 1 R.length 8 (fun zz => [.str (R.getD zz [])])), some (.row 45 2 l.length 0 (fun zz => [.str (l.getD zz pz).1, .int .i64 (l.getD zz pz).2])), some (.fac b o), some (.blk [.int .i64 kd, .int .i64 th, .int .i64 rg, .int .i64 lc, .int .i64 vl]), some (.blk [.str [], .int .i64 0])])] A rfl rfl rfl rfl (by kernel_rfl) ⟨callE [1, 2, 3] (wr_ R kd th rg lc vl l j k b o hT hk q1 q2 q3 q4 qv ql qR hR) rfl rfl rfl rfl rfl rfl rfl, ⟨trivial, trivial⟩⟩ trivial fun A => N hX 2 A rfl rfl fun A => RETN hX A rfl rfl rfl h0 rfl rfl rfl rfl rfl rfl
end Go.Proofs.YtedlaclfhgneeabDoor
namespace Go.Proofs.YtedlaclfhgneeabDoor
open Go.RowKit
set_option linter.unusedVariables false
set_option linter.unusedSimpArgs false
set_option linter.unusedSectionVars false
abbrev Amb := World → List Nat → Prop
def Amb.OK (I : Amb) : Prop := ∀ w ks w' ks', I w ks → Mix ks w w' → (∀ b, ks'.contains b = true → ks.contains b = true ∨ w.heap.size ≤ b) → I w' ks'
def FnI (I : Amb) (P : Program) (f : Nat) (args : List SV) (H : Hp) (R : SV → Hp → Prop) : Prop :=
  Ent_ P f = some (false, false) ∧ ∀ G w vs, Mem H G w → I w (keys H G) → denL G args = some vs → Calls P f vs.toArray w (Post R H G w)
def FnAt (P : Program) (f : Nat) (args : List SV) (H' : Hp) (R : SV → Hp → Prop) (Gp : Gr) (w : World) (ks : List Nat) (w0 : World) : Prop :=
  Ent_ P f = some (false, false) ∧ ∀ vs, Mem H' Gp w → (∀ b, (keys H' Gp).contains b = true → ks.contains b = true ∨ w0.heap.size ≤ b) → denL Gp args = some vs → Calls P f vs.toArray w (Post R H' Gp w)
section
variable {P : Program} {X : Tx} {n : Nat} {ks : List Nat} {G0 : Gr} {w0 : World} {T : List (Nat × SV)} {H : Hp} {G : Gr} {a : Act} {w : World} {ops : Array Oper} {o : Oper} {rest : List Oper} {Q : Exit → Act → World → Prop} {K : List Fr} {I : Amb}
theorem FnI.at {f : Nat} {args : List SV} {H' : Hp} {R : SV → Hp → Prop} (h : FnI I P f args H' R) (hI : I.OK) (h0 : I w0 ks) (hm : Mix ks w0 w) {Gp : Gr} : FnAt P f args H' R Gp w ks w0 :=
  ⟨h.1, fun vs hM hown hv => h.2 Gp w vs hM (hI _ _ _ _ h0 hm hown) hv⟩
theorem call_doI {f : Nat} {args az : List SV} {H' l : Hp} {R R2 : SV → Hp → Prop} (m : List Nat) (A : Sy n T H ks G0 w0 G a w) (hf : FnAt P f args H' R (pickG m G) w ks w0) (h1 : callS n ops T o = some (f, az)) (h2 : renL m args = some az) (h3 : renH m H' = some l) (h4 : pickH H m = some l) (h5 : ndB m = true)
    (hk : ∀ x H2, R x H2 → ∃ y l2, renO (m ++ rngF H.length (H2.length - m.length)) x = some y ∧ renH (m ++ rngF H.length (H2.length - m.length)) H2 = some l2 ∧ R2 y (putAll H m l2)) : Does P ops o a w fun v w' => ∃ y H3 F, R2 y H3 ∧ den (G ++ F) y = some v ∧ Sy n T H3 ks G0 w0 (G ++ F) a w' := by
  obtain ⟨hent, hf⟩ := hf
  obtain ⟨hd, vs, hv, hdo⟩ := callS_do (P := P) (ops := ops) A h1 hent
  obtain ⟨p1, p2, p3⟩ := pickH_at h4
  obtain ⟨r1, r2⟩ := renH_at h3
  have hlen := A.mem.len
  have hm : ∀ j ∈ m, j < G.length := fun j hj => by rw [← hlen]; exact p2 j hj
  have hM := A.mem.sub h4 h3 h5
  have hv' : denL (pickG m G) args = some vs := by rw [denL_ren hm args h2]; exact hv
  have hml : H'.length = m.length := by rw [← r1, p1]
  have hpl : (pickG m G).length = m.length := by simp [pickG]
  -- blocks that are handed on
  have hkey : ∀ b, (keys H' (pickG m G)).contains b = true → ∃ i e L, i ∈ m ∧ H[i]? = some (some e) ∧ e.mut = true ∧ G[i]? = some (some L) ∧ L.b = b := by
    intro b hb
    obtain ⟨i, e, L, k1, km, k2, k3⟩ := mem_keys.1 hb
    obtain ⟨f, q1, q2⟩ := r2 i _ k1
    obtain ⟨f', rfl⟩ := renE_some q2
    have hi : i < m.length := by rw [← p1]; exact (List.getElem?_eq_some_iff.1 q1).1
    have hj : m[i]? = some m[i] := by simp [hi]
    rw [pickG_at hm hj] at k2
    rw [p3 i _ hj] at q1
    exact ⟨m[i], f', L, List.getElem_mem hi, q1, by rw [(renE_mut q2).1]; exact km, k2, k3⟩
  have hown : ∀ b, (keys H' (pickG m G)).contains b = true → ks.contains b = true ∨ w0.heap.size ≤ b := by
    intro b hb
    obtain ⟨i, e, L, _, k1, k2, k3, k4⟩ := hkey b hb
    subst k4
    exact A.own i e L k1 k2 k3
  refine hdo (hf vs hM hown hv') ?_
  rintro e w' ⟨x, H2, F, v, hR, hx, rfl, hM2, hmix, hll, hkept, hfr⟩
  refine ⟨v, rfl, ?_⟩
  obtain ⟨y, l2, e1, e2, e3⟩ := hk x H2 hR
  obtain ⟨s1, s2⟩ := renH_at e2
  have hH2 : H2.length = m.length + F.length := by have := hM2.len; simp [hpl] at this; exact this
  have hml2 : m.length ≤ l2.length := by rw [s1, hH2]; omega
  have hcnt : H2.length - m.length = F.length := by omega
  rw [hcnt] at e1 e2 s2
  have hrl : (rngF H.length F.length).length = F.length := rngF_len _ _
  have hpk : pickG (m ++ rngF H.length F.length) (G ++ F) = pickG m G ++ F := by
    have a1 : pickG m (G ++ F) = pickG m G := by
      unfold pickG
      refine List.map_congr_left fun j hj => ?_
      rw [List.getElem?_append_left (hm j hj)]
    have a2 : pickG (rngF H.length F.length) (G ++ F) = F := by
      apply List.ext_getElem?
      intro i
      by_cases hi : i < F.length
      · unfold pickG
        rw [List.getElem?_map, rngF_at _ _ _ hi]
        simp only [Option.map_some]
        rw [List.getElem?_append_right (by omega), show H.length + i - G.length = i by omega]
        simp [hi]
      · rw [List.getElem?_eq_none (by simp [pickG, hrl]; omega), List.getElem?_eq_none (by omega)]
    rw [show pickG (m ++ rngF H.length F.length) (G ++ F) = pickG m (G ++ F) ++ pickG (rngF H.length F.length) (G ++ F) by simp [pickG], a1, a2]
  have hm2 : ∀ j ∈ m ++ rngF H.length F.length, j < (G ++ F).length := by
    intro j hj
    rcases List.mem_append.1 hj with hj | hj
    · have := hm j hj; simp; omega
    · obtain ⟨k, hk⟩ := List.mem_iff_getElem?.1 hj
      have hk' : k < F.length := by have := (List.getElem?_eq_some_iff.1 hk).1; rwa [hrl] at this
      rw [rngF_at _ _ _ hk'] at hk
      cases hk
      simp; omega
  -- an entry of the new list: handed on, left, or new
  have cases3 : ∀ (i : Nat) (e : Ent), (putAll H m l2)[i]? = some (some e) →
      (∃ (k : Nat) (e' : Ent), (m ++ rngF H.length F.length)[k]? = some i ∧ H2[k]? = some (some e') ∧ renE (m ++ rngF H.length F.length) (some e') = some (some e)) ∨ (i ∉ m ∧ H[i]? = some (some e) ∧ i < H.length) := by
    intro i e he
    have back : ∀ k : Nat, l2[k]? = some (some e) → ∃ e', H2[k]? = some (some e') ∧ renE (m ++ rngF H.length F.length) (some e') = some (some e) := by
      intro k hk
      have hklt : k < H2.length := by rw [← s1]; exact (List.getElem?_eq_some_iff.1 hk).1
      obtain ⟨f, t1, t2⟩ := s2 k H2[k] (by simp [hklt])
      rw [hk] at t1
      cases t1
      cases hq : H2[k] with
      | none => rw [hq] at t2; cases t2
      | some e' => rw [hq] at t2; exact ⟨e', by simp [hklt, hq], t2⟩
    rcases putAll_at (H := H) (l := l2) hml2 h5 p2 i with ⟨k, q1, q2⟩ | ⟨q1, q2, q3⟩ | ⟨q1, q2⟩
    · rw [q2] at he
      obtain ⟨e', b1, b2⟩ := back k he
      exact .inl ⟨k, e', by rw [List.getElem?_append_left (List.getElem?_eq_some_iff.1 q1).1]; exact q1, b1, b2⟩
    · rw [q3] at he; exact .inr ⟨q1, he, q2⟩
    · rw [q2] at he
      obtain ⟨e', b1, b2⟩ := back _ he
      have hlt : i - H.length < F.length := by have := (List.getElem?_eq_some_iff.1 b1).1; omega
      refine .inl ⟨_, e', ?_, b1, b2⟩
      rw [List.getElem?_append_right (by omega), show m.length + (i - H.length) - m.length = i - H.length by omega, rngF_at _ _ _ hlt]
      congr 1; omega
  have hGi : ∀ (i k : Nat), (m ++ rngF H.length F.length)[k]? = some i → (pickG m G ++ F)[k]? = (G ++ F)[i]? := fun i k hk => by rw [← hpk, pickG_at hm2 hk]
  have hleft : ∀ i : Nat, i < H.length → (G ++ F)[i]? = G[i]? := fun i hi => List.getElem?_append_left (by omega)
  -- blocks of what is left are not handed on
  have hoff : ∀ (i : Nat) (e : Ent) (L : Loc), (i ∉ m ∨ e.mut = false) → H[i]? = some (some e) → G[i]? = some (some L) → ¬ e.empty → (keys H' (pickG m G)).contains L.b = false := by
    intro i e L hi he hL hne
    cases hc : (keys H' (pickG m G)).contains L.b with
    | false => rfl
    | true =>
      obtain ⟨j, e', L', k0, k1, k2, k3, k4⟩ := hkey _ hc
      refine absurd k4 (A.mem.sep j i e' e L' L (fun h => ?_) k1 he k2 k3 hL hne)
      subst h
      rcases hi with hi | hi
      · exact hi k0
      · rw [k1] at he; cases he; rw [k2] at hi; cases hi
  have hLlt : ∀ (i : Nat) (e : Ent) (L : Loc), H[i]? = some (some e) → G[i]? = some (some L) → ¬ e.empty → L.b < w.heap.size := by
    intro i e L he hL hne
    have := A.mem.ent i e he
    rw [hL] at this
    exact EntOK.lt this hne
  -- a list that is read, of what was handed on, is the caller's own
  have hread : ∀ (i k : Nat) (e e' : Ent), (m ++ rngF H.length F.length)[k]? = some i → H2[k]? = some (some e') → renE (m ++ rngF H.length F.length) (some e') = some (some e) → e.mut = false → H[i]? = some (some e) ∧ i < H.length := by
    intro i k e e' t1 t2 t3 t4
    have h6 : e'.mut = false := by rw [← (renE_mut t3).1]; exact t4
    have h7 := hkept k e' t2 h6
    obtain ⟨f, q1, q2⟩ := r2 k _ h7
    obtain ⟨f', rfl⟩ := renE_some q2
    have hk' : k < m.length := by rw [← p1]; exact (List.getElem?_eq_some_iff.1 q1).1
    rw [List.getElem?_append_left hk'] at t1
    rw [p3 k i t1] at q1
    have : e = f' := by
      cases e' with
      | lst s n g => cases q2; cases t3; rfl
      | fac b o => cases q2; cases t3; rfl
      | blk => cases h6
      | row => cases h6
    subst this
    exact ⟨q1, (List.getElem?_eq_some_iff.1 q1).1⟩
  refine ⟨y, _, F, e3, ?_, ⟨A.size, A.defers, fun t z hz => den_mono F z (A.get t z hz), ⟨?_, ?_, ?_⟩, ?_, ?_, ?_⟩⟩
  · rw [← den_ren hm2 x e1, hpk]; exact hx
  · rw [putAll_len hml2, s1, hH2]; simp; omega
  · intro i e he
    rcases cases3 i e he with ⟨k, e', t1, t2, t3⟩ | ⟨t1, t2, t3⟩
    · have := hM2.ent k e' t2
      rw [← hpk] at this
      exact (ent_ren hm2 t1 t3).1 this
    · rw [hleft i t3]
      refine ((A.mem.ent i e t2).mix hmix fun hne L hL => ?_).more F
      refine hoff i e L (.inl t1) t2 ?_ hne
      cases hq : G[i]? with
      | none => rw [hq] at hL; cases hL
      | some p => rw [hq] at hL; simp at hL; rw [hL]
  · intro i j e f L M hij he hf' hmut hL hM' hne
    -- one that is not turned: az it was in the caller's list
    have still : ∀ (i' : Nat) (e' : Ent), (putAll H m l2)[i']? = some (some e') → (∃ (k : Nat) (e'' : Ent), (m ++ rngF H.length F.length)[k]? = some i' ∧ H2[k]? = some (some e'') ∧ renE (m ++ rngF H.length F.length) (some e'') = some (some e') ∧ e'.mut = true) ∨ ((i' ∉ m ∨ e'.mut = false) ∧ H[i']? = some (some e') ∧ i' < H.length) := by
      intro i' e' he'
      rcases cases3 i' e' he' with ⟨k, e'', t1, t2, t3⟩ | ⟨t1, t2, t3⟩
      · cases hm' : e'.mut with
        | true => exact .inl ⟨k, e'', t1, t2, t3, rfl⟩
        | false => obtain ⟨g1, g2⟩ := hread i' k e' e'' t1 t2 t3 hm'; exact .inr ⟨.inr rfl, g1, g2⟩
      · exact .inr ⟨.inl t1, t2, t3⟩
    rcases still i e he with ⟨k, e', t1, t2, t3, t4⟩ | ⟨t1, t2, t3⟩
    · rcases still j f hf' with ⟨k', f', u1, u2, u3, u4⟩ | ⟨u1, u2, u3⟩
      · rw [← hGi i k t1] at hL
        rw [← hGi j k' u1] at hM'
        refine hM2.sep k k' e' f' L M (fun h => hij ?_) t2 u2 (by rw [← (renE_mut t3).1]; exact t4) hL hM' (fun h => hne ((renE_mut u3).2.2 h))
        subst h
        rw [t1] at u1
        exact Option.some.inj u1
      · rw [← hGi i k t1] at hL
        rw [hleft j u3] at hM'
        have h6 := hfr k e' t2 (by rw [← (renE_mut t3).1]; exact t4) L hL
        intro hLM
        rcases h6 with h6 | h6
        · rw [hLM, hoff j f M u1 u2 hM' hne] at h6; cases h6
        · have := hLlt j f M u2 hM' hne; omega
    · rcases still j f hf' with ⟨k', f', u1, u2, u3, u4⟩ | ⟨u1, u2, u3⟩
      · rw [← hGi j k' u1] at hM'
        rw [hleft i t3] at hL
        have h6 := hfr k' f' u2 (by rw [← (renE_mut u3).1]; exact u4) M hM'
        intro hLM
        rcases h6 with h6 | h6
        · rw [← hLM, hoff i e L t1 t2 hL (mut_full hmut)] at h6; cases h6
        · have := hLlt i e L t2 hL (mut_full hmut); omega
      · rw [hleft i t3] at hL
        rw [hleft j u3] at hM'
        exact A.mem.sep i j e f L M hij t2 u2 hmut hL hM' hne
  · obtain ⟨F0, hF0⟩ := A.pre
    exact ⟨F0 ++ F, by rw [hF0, List.append_assoc]⟩
  · intro i e L he hmut hL
    rcases cases3 i e he with ⟨k, e', t1, t2, t3⟩ | ⟨t1, t2, t3⟩
    · rw [← hGi i k t1] at hL
      rcases hfr k e' t2 (by rw [← (renE_mut t3).1]; exact hmut) L hL with h6 | h6
      · exact hown _ h6
      · right; exact Nat.le_trans A.mix.size h6
    · rw [hleft i t3] at hL; exact A.own i e L t2 hmut hL
  · refine A.mix.mix hmix fun k hkl hkc => ?_
    cases hc : (keys H' (pickG m G)).contains k with
    | false => rfl
    | true =>
      rcases hown k hc with h6 | h6
      · rw [h6] at hkc; cases hkc
      · omega
theorem CALLI {f : Nat} {args az : List SV} {H' H2 l l2 : Hp} {x y : SV} (m : List Nat) (hI : I.OK) (h0 : I w0 ks) (hf : FnI I P f args H' (Rt x H2)) (A : Sy n T H ks G0 w0 G a w) (h1 : callS n ops T o = some (f, az)) (h2 : renL m args = some az) (h3 : renH m H' = some l) (h4 : pickH H m = some l) (h5 : ndB m = true)
    (h6 : renO (m ++ rngF H.length (H2.length - m.length)) x = some y) (h7 : renH (m ++ rngF H.length (H2.length - m.length)) H2 = some l2) (hk : ∀ {G a w}, Sy n (extS T o.dst y) (putAll H m l2) ks G0 w0 G a w → Goal P Q K (.ops ops rest) a w) : Goal P Q K (.ops ops (o :: rest)) a w := by
  have hd := (callS_do (P := P) (ops := ops) A h1 hf.1).1
  refine q_does (Q := wpK P Q K) ?_
  rcases call_doI (R2 := fun y H3 => ∀ {G a w}, Sy n (extS T o.dst y) H3 ks G0 w0 G a w → Goal P Q K (.ops ops rest) a w) m A (hf.at hI h0 A.mix) h1 h2 h3 h4 h5 (fun x' H' ⟨e1, e2⟩ => by subst e1; subst e2; exact ⟨y, l2, h6, h7, hk⟩) with ⟨hw, h⟩ | ⟨hw, y, H3, F, g1, g2, g3⟩
  · refine .inl ⟨hw, fun Q' => ?_⟩
    refine Oper.wp_mono (fun a' w' hh => ?_) (h Q')
    obtain ⟨v, rfl, y, H3, F, g1, g2, g3⟩ := hh
    exact ⟨v, rfl, g1 (Sy.put g3 hd g2)⟩
  · exact .inr ⟨hw, g1 (Sy.put g3 hd g2)⟩
theorem callIE {f : Nat} {args az : List SV} {H' H2 l l2 : Hp} {x y : SV} (m : List Nat) (hI : I.OK) (h0 : I w0 ks) (hf : FnI I P f args H' (Rt x H2)) (h1 : callS n ops T o = some (f, az)) (h2 : renL m args = some az) (h3 : renH m H' = some l) (h4 : pickH H m = some l) (h5 : ndB m = true)
    (h6 : renO (m ++ rngF H.length (H2.length - m.length)) x = some y) (h7 : renH (m ++ rngF H.length (H2.length - m.length)) H2 = some l2) : EffOK P n ops ks G0 w0 T H o y (putAll H m l2) := by
  intro G a w A
  rcases call_doI (R2 := fun z H3 => z = y ∧ H3 = putAll H m l2) m A (hf.at hI h0 A.mix) h1 h2 h3 h4 h5 (fun x' H' ⟨e1, e2⟩ => by subst e1; subst e2; exact ⟨y, l2, h6, h7, rfl, rfl⟩) with ⟨hw, h⟩ | ⟨hw, z, H3, F, ⟨rfl, rfl⟩, g2, g3⟩
  · refine .inl ⟨hw, fun Q' => ?_⟩
    refine Oper.wp_mono (fun a' w' hh => ?_) (h Q')
    obtain ⟨v, rfl, z, H3, F, ⟨rfl, rfl⟩, g2, g3⟩ := hh
    exact ⟨v, rfl, F, g2, g3.ms⟩
  · exact .inr ⟨hw, F, g2, g3.ms⟩
theorem enterI {f : Nat} {fn : Func} {c : Code} {args : List SV} {R : SV → Hp → Prop} (hent : Ent_ P f = some (false, false)) (hf : P.funcs[f]? = some fn) (hb : fn.body = some c) (hn : fn.ntmps = n) (hl : Nat.ble args.length n = true)
    (h : ∀ G w a, H.length = G.length → I w (keys H G) → Sy n (argS args 0) H (keys H G) G w G a w → Goal P (bodyPost P fn (Post R H G w)) [] (.code c) a w) : FnI I P f args H R := by
  refine ⟨hent, fun G w vs hM hI hv => ?_⟩
  refine calls_of_wp hf hb (h G w _ hM.len hI ⟨?_, rfl, fun t x hx => ?_, hM, ⟨[], by simp⟩, fun i e L h1 h2 h3 => .inl (mem_keys.2 ⟨i, e, L, h1, h2, h3, rfl⟩), Mix.refl _ _⟩)
  · have := denL_len hv
    have := Nat.le_of_ble_eq_true hl
    simp [hn]; omega
  · obtain ⟨_, h2⟩ := argS_look hx
    simp only [Nat.sub_zero] at h2
    obtain ⟨v, h3, h4⟩ := denL_get hv h2
    have hlt : t < vs.length := (List.getElem?_eq_some_iff.1 h3).1
    rw [h4]
    simp [Array.getD_eq_getD_getElem?, Array.getElem?_append, hlt] at h3 ⊢
    exact h3.symm
end
section
variable {P : Program} {n : Nat} {ks : List Nat} {G0 : Gr} {w0 : World} {T : List (Nat × SV)} {H : Hp} {G : Gr} {a : Act} {w : World} {Q : Exit → Act → World → Prop} {K : List Fr} {pos : Pos}
end
def Lies (b o : Nat) (vs : List Value) (w : World) (ks : List Nat) : Prop := b < w.heap.size ∧ ks.contains b = false ∧ w.rangeAt b o vs
theorem Lies.go {b o : Nat} {vs : List Value} {w w' : World} {ks ks' : List Nat} (h : Lies b o vs w ks) (m : Mix ks w w') (hk : ∀ b, ks'.contains b = true → ks.contains b = true ∨ w.heap.size ≤ b) : Lies b o vs w' ks' := by
  obtain ⟨h1, h2, h3⟩ := h
  refine ⟨Nat.lt_of_lt_of_le h1 m.size, ?_, range_mix h3 m h1 h2⟩
  cases hc : ks'.contains b with
  | false => rfl
  | true =>
    rcases hk b hc with h5 | h5
    · rw [h5] at h2; cases h2
    · omega
abbrev adr (b o : Nat) : SV := .v (.pointer (some ⟨b, o, none⟩))
section
variable {P : Program} {n : Nat} {ks : List Nat} {G0 : Gr} {w0 : World} {T : List (Nat × SV)} {H : Hp} {G : Gr} {a : Act} {w : World} {Q : Exit → Act → World → Prop} {K : List Fr} {pos : Pos} {ops : Array Oper} {o : Oper} {rest : List Oper}
theorem Sy.base (A : Sy n T H ks G0 w0 G a w) : Sy n T H (keys H G) G w G a w :=
  ⟨A.size, A.defers, A.get, A.mem, ⟨[], by simp⟩, fun i e L h1 h2 h3 => .inl (mem_keys.2 ⟨i, e, L, h1, h2, h3, rfl⟩), Mix.refl _ _⟩
theorem Sy.keys_own (A : Sy n T H ks G0 w0 G a w) : ∀ b, (keys H G).contains b = true → ks.contains b = true ∨ w0.heap.size ≤ b := fun b hb => by
  obtain ⟨i, e, L, h1, h2, h3, h4⟩ := mem_keys.1 hb
  rw [← h4]; exact A.own i e L h1 h2 h3
theorem Sy.trans {n' : Nat} {T1 : List (Nat × SV)} {H1 : Hp} {G1 : Gr} {a1 : Act} {w1 : World} (B : Sy n' T1 H1 ks G0 w0 G1 a1 w1) (A : Sy n T H (keys H1 G1) G1 w1 G a w) : Sy n T H ks G0 w0 G a w := by
  obtain ⟨F1, h1⟩ := B.pre
  obtain ⟨F2, h2⟩ := A.pre
  refine ⟨A.size, A.defers, A.get, A.mem, ⟨F1 ++ F2, by rw [h2, h1, List.append_assoc]⟩, fun i e L k1 k2 k3 => ?_, B.mix.mix A.mix fun k hk hc => ?_⟩
  · rcases A.own i e L k1 k2 k3 with h | h
    · exact B.keys_own _ h
    · exact .inr (Nat.le_trans B.mix.size h)
  · cases hq : (keys H1 G1).contains k with
    | false => rfl
    | true =>
      rcases B.keys_own k hq with h | h
      · rw [h] at hc; cases hc
      · omega
theorem Sy.adoptP (A : Sy n T H ks G0 w0 G a w) {b o : Nat} {vs : List Value} (h0 : Lies b o vs w0 ks) (t s : Nat) {cs : List SV} (hx : look T t = some (adr b o)) (hc : denL [] cs = some vs) : Sy n ((t, .el H.length s 0 0) :: T) (H ++ [some (.lst s 1 fun _ => cs)]) ks G0 w0 (G ++ [some ⟨b, List.replicate o undef, [], 0⟩]) a w := by
  have hl := h0.go A.mix (ks' := ks) fun b hb => .inl hb
  have hlen := A.mem.len
  have hG : (G ++ [some (⟨b, List.replicate o undef, [], 0⟩ : Loc)])[H.length]? = some (some ⟨b, List.replicate o undef, [], 0⟩) := by rw [List.getElem?_append_right (by omega), hlen]; simp
  have hold : ∀ (i : Nat) (e : Ent), (H ++ [some (.lst s 1 fun _ => cs)])[i]? = some (some e) → (H[i]? = some (some e) ∧ i < H.length) ∨ (i = H.length ∧ e = .lst s 1 fun _ => cs) := by
    intro i e h
    by_cases hi : i < H.length
    · rw [List.getElem?_append_left hi] at h; exact .inl ⟨h, hi⟩
    · rw [List.getElem?_append_right (by omega)] at h
      have : i - H.length = 0 := by
        cases hq : i - H.length with
        | zero => rfl
        | succ k => rw [hq] at h; simp at h
      rw [this] at h
      simp at h
      exact .inr ⟨by omega, h.symm⟩
  have hGl : ∀ i, i < H.length → (G ++ [some (⟨b, List.replicate o undef, [], 0⟩ : Loc)])[i]? = G[i]? := fun i hi => List.getElem?_append_left (by omega)
  refine ⟨A.size, A.defers, fun q z hz => ?_, ⟨by simp [hlen], ?_, ?_⟩, ?_, ?_, A.mix⟩
  · unfold look at hz
    cases hb : Nat.beq t q with
    | true =>
      rw [hb] at hz; cases hz
      have := Nat.eq_of_beq_eq_true hb
      subst this
      have h1 := A.get t _ hx
      unfold den at h1 ⊢
      rw [hG, ← h1]
      simp
    | false => rw [hb] at hz; exact den_mono _ z (A.get q z hz)
  · intro i e h
    rcases hold i e h with ⟨h1, h2⟩ | ⟨rfl, rfl⟩
    · rw [hGl i h2]; exact (A.mem.ent i e h1).more _
    · rw [hG]
      refine ⟨fun k => ⟨_, hc⟩, .inr ⟨_, rfl, hl.1, fun k hk => ⟨_, hc, ?_⟩⟩⟩
      have : k = 0 := by omega
      subst this
      simpa using hl.2.2
  · intro i j e f L M hij h1 h2 h3 h4 h5 h6
    rcases hold i e h1 with ⟨k1, k2⟩ | ⟨rfl, rfl⟩
    · rw [hGl i k2] at h4
      rcases hold j f h2 with ⟨k3, k4⟩ | ⟨rfl, rfl⟩
      · rw [hGl j k4] at h5; exact A.mem.sep i j e f L M hij k1 k3 h3 h4 h5 h6
      · rw [hG] at h5
        cases h5
        intro hLM
        rcases A.own i e L k1 h3 h4 with h7 | h7
        · rw [hLM] at h7; simp only at h7; rw [h0.2.1] at h7; cases h7
        · rw [hLM] at h7; simp only at h7; have := h0.1; omega
    · cases h3
  · obtain ⟨F, hF⟩ := A.pre; exact ⟨F ++ [some ⟨b, List.replicate o undef, [], 0⟩], by rw [hF, List.append_assoc]⟩
  · intro i e L h1 h2 h3
    rcases hold i e h1 with ⟨k1, k2⟩ | ⟨rfl, rfl⟩
    · rw [hGl i k2] at h3; exact A.own i e L k1 h2 h3
    · cases h2
theorem ADOPTP {b q : Nat} {vs : List Value} (t s : Nat) {cs : List SV} (h0 : Lies b q vs w0 ks) (hc : denL [] cs = some vs) (A : Sy n T H ks G0 w0 G a w) {H' : Hp} {i : Nat} (hx : look T t = some (adr b q)) (hi : H.length = i) (hH : H ++ [some (.lst s 1 fun _ => cs)] = H') (hk : ∀ {G}, Sy n ((t, .el i s 0 0) :: T) H' ks G0 w0 G a w → Goal P Q K pos a w) : Goal P Q K pos a w := by
  subst hi; subst hH
  exact hk (A.adoptP h0 t s hx hc)
theorem nilE {x : Operand} {i s q m : Nat} {j : Int} {f : Nat → List SV} (hg : guardS ops T o.guard = some .run) (hop : o.op = .nilCheck x) (hx : evS T x = some (.el i s j q)) (hH : lg H i = some (some (.lst s (m + 1) f))) : EffOK P n ops ks G0 w0 T H o (.el i s j q) H := fun G a w A => by
  have hw := gd_run (gd := none) A hg
  obtain ⟨d, op, ty, ps, af, gd⟩ := o
  simp only at hop
  subst hop
  have h1 := A.ev hx
  rw [lg_is] at hH
  obtain ⟨_, h2⟩ := A.mem.ent i _ hH
  rcases h2 with h2 | ⟨L, h2, _⟩
  · cases h2
  · have hGi : G[i]? = some (some L) := by
      cases hq : G[i]? with
      | none => rw [hq] at h2; cases h2
      | some p => rw [hq] at h2; simp at h2; rw [h2]
    unfold den at h1
    rw [hGi] at h1
    have h1 := Option.some.inj h1
    refine d_nilCheck hw h1.symm ⟨[], ?_, ?_⟩
    · rw [List.append_nil]; unfold den; rw [hGi]; rfl
    · rw [List.append_nil]; exact A.ms
theorem LOOPJ {β : Type} {c : Code} (T' : β → List (Nat × SV)) (H' : β → Hp) (J : β → World → List Nat → Prop) (μ : β → Nat) (z : β) (A : Sy n (T' z) (H' z) ks G0 w0 G a w) (hJ : J z w (keys (H' z) G))
    (round : ∀ z G a w, J z w (keys (H' z) G) → G0.length ≤ G.length → Sy n (T' z) (H' z) (keys (H' z) G) G w G a w → Sy n (T' z) (H' z) ks G0 w0 G a w → Goal P Q (.lp (fun a' w' => ∃ z' G', μ z' < μ z ∧ J z' w' (keys (H' z') G') ∧ Sy n (T' z') (H' z') ks G0 w0 G' a' w') :: K) (.code c) a w) : Goal P Q K (.code (.loop c)) a w := by
  refine loop_by (fun m a w => ∃ z G, μ z = m ∧ J z w (keys (H' z) G) ∧ Sy n (T' z) (H' z) ks G0 w0 G a w) (μ z) ⟨z, G, rfl, hJ, A⟩ ?_
  rintro m a w ⟨z, G, rfl, hz, A⟩
  obtain ⟨F, hF⟩ := A.pre
  refine Code.wp_mono (fun e a' w' h => ?_) (round z G a w hz (by rw [hF]; simp) A.base A)
  cases e with
  | normal => obtain ⟨z', G', h1, h2, h3⟩ := h; exact ⟨μ z', h1, z', G', rfl, h2, h3⟩
  | _ => exact h
end
theorem keys_pick {H H' l : Hp} {G : Gr} {m : List Nat} (hlen : H.length = G.length) (h1 : pickH H m = some l) (h2 : renH m H' = some l) : ∀ b, (keys H' (pickG m G)).contains b = true → (keys H G).contains b = true := fun b hb => by
  obtain ⟨p1, p2, p3⟩ := pickH_at h1
  obtain ⟨r1, r2⟩ := renH_at h2
  have hm : ∀ j ∈ m, j < G.length := fun j hj => by rw [← hlen]; exact p2 j hj
  obtain ⟨i, e, L, k1, km, k2, k3⟩ := mem_keys.1 hb
  obtain ⟨f, q1, q2⟩ := r2 i _ k1
  obtain ⟨f', rfl⟩ := renE_some q2
  have hi : i < m.length := by rw [← p1]; exact (List.getElem?_eq_some_iff.1 q1).1
  have hj : m[i]? = some m[i] := by simp [hi]
  rw [pickG_at hm hj] at k2
  rw [p3 i _ hj] at q1
  exact mem_keys.2 ⟨m[i], f', L, q1, by rw [(renE_mut q2).1]; exact km, k2, k3⟩
def FnR (P : Program) (f : Nat) (args : List SV) (H : Hp) (J : SV → World → World → Prop) : Prop :=
  Ent_ P f = some (false, false) ∧ ∀ G w vs, Mem H G w → denL G args = some vs → Calls P f vs.toArray w fun e w' => ∃ x v, den [] x = some v ∧ e = .returned v ∧ Grow w w' ∧ J x w w'
section
variable {P : Program} {n : Nat} {ks : List Nat} {G0 : Gr} {w0 : World} {T : List (Nat × SV)} {H : Hp} {G : Gr} {a : Act} {w : World} {Q : Exit → Act → World → Prop} {K : List Fr} {pos : Pos} {ops : Array Oper} {o : Oper} {rest : List Oper}
theorem Sy.close2 (A : Sy n T H ks G0 w0 G a w) (i q : Nat) {cs : List SV} {vs : List Value} {H' : Nat → Nat → Hp} (hi : lg H i = some (some (.blk cs))) (hq : lg H q = some (some (.blk [.ptr i 0]))) (hc : denL [] cs = some vs) (hH : ∀ b p, stH (stH H i none) q (some (.blk [adr b p])) = H' b p) :
    ∃ b p, Sy n T (H' b p) ks G0 w0 G a w ∧ Lies b p vs w (keys (H' b p) G) ∧ (ks.contains b = true ∨ w0.heap.size ≤ b) := by
  rw [lg_is] at hi hq
  obtain ⟨L, us, h1, h2, h3⟩ := A.mem.ent i _ hi
  have h4 : denL G cs = some vs := by simpa using denL_mono G cs hc
  rw [h4] at h2
  cases h2
  have hGi : G[i]? = some (some L) := by
    cases hz : G[i]? with
    | none => rw [hz] at h1; cases h1
    | some p => rw [hz] at h1; simp at h1; rw [h1]
  have hiq : q ≠ i := by
    intro e
    subst e
    rw [hi] at hq
    cases hq
    cases hc
  refine ⟨L.b, L.pre.length, ?_⟩
  rw [← hH]
  have hil : i < H.length := (List.getElem?_eq_some_iff.1 hi).1
  have hql : q < H.length := (List.getElem?_eq_some_iff.1 hq).1
  have hold : ∀ (j : Nat) (e : Ent), (stH (stH H i none) q (some (.blk [adr L.b L.pre.length])))[j]? = some (some e) → j ≠ i ∧ ((j = q ∧ e = .blk [adr L.b L.pre.length]) ∨ (j ≠ q ∧ H[j]? = some (some e))) := by
    intro j e h
    rw [stH_is, stH_is] at h
    by_cases hj : j = q
    · subst hj
      rw [List.getElem?_set_self (by simpa using hql)] at h
      cases h
      exact ⟨hiq, .inl ⟨rfl, rfl⟩⟩
    · rw [List.getElem?_set_ne (Ne.symm hj)] at h
      by_cases hk : j = i
      · subst hk; rw [List.getElem?_set_self hil] at h; cases h
      · rw [List.getElem?_set_ne (Ne.symm hk)] at h; exact ⟨hk, .inr ⟨hj, h⟩⟩
  have old : ∀ (j : Nat) (e : Ent), (stH (stH H i none) q (some (.blk [adr L.b L.pre.length])))[j]? = some (some e) → ∃ e', H[j]? = some (some e') ∧ e'.mut = e.mut ∧ (e'.empty ↔ e.empty) ∧ j ≠ i := by
    intro j e h
    obtain ⟨k1, k2⟩ := hold j e h
    rcases k2 with ⟨rfl, rfl⟩ | ⟨k2, k3⟩
    · exact ⟨_, hq, rfl, Iff.rfl, k1⟩
    · exact ⟨e, k3, rfl, Iff.rfl, k1⟩
  refine ⟨⟨A.size, A.defers, A.get, ⟨by rw [stH_is, stH_is]; simpa using A.mem.len, fun j e he => ?_, fun j k e f L' M hjk g1 g2 g3 g4 g5 g6 => ?_⟩, A.pre, fun j e L' g1 g2 g3 => ?_, A.mix⟩, ⟨h3.lt, ?_, ?_⟩, A.own i _ L hi rfl hGi⟩
  · obtain ⟨k1, k2⟩ := hold j e he
    rcases k2 with ⟨rfl, rfl⟩ | ⟨k2, k3⟩
    · obtain ⟨M, us, g1, g2, g3⟩ := A.mem.ent j _ hq
      refine ⟨M, us, g1, ?_, g3⟩
      rw [← g2]
      unfold denL den
      rw [hGi]
      rfl
    · exact A.mem.ent j e k3
  · obtain ⟨e', k1, k2, _, _⟩ := old j e g1
    obtain ⟨f', l1, _, l2, _⟩ := old k f g2
    exact A.mem.sep j k e' f' L' M hjk k1 l1 (by rw [k2]; exact g3) g4 g5 (fun h => g6 (l2.1 h))
  · obtain ⟨e', k1, k2, _, _⟩ := old j e g1
    exact A.own j e' L' k1 (by rw [k2]; exact g2) g3
  · cases hz : (keys (stH (stH H i none) q (some (.blk [adr L.b L.pre.length]))) G).contains L.b with
    | false => rfl
    | true =>
      obtain ⟨j, e, L', g1, g2, g3, g4⟩ := mem_keys.1 hz
      obtain ⟨e', k1, k2, _, k4⟩ := old j e g1
      exact absurd g4 (A.mem.sep j i e' _ L' L k4 k1 hi (by rw [k2]; exact g2) g3 hGi (fun h => h))
  · intro j x hx
    refine h3.cell ?_
    rw [List.getElem?_toArray, List.append_assoc, List.getElem?_append_right (by omega), show L.pre.length + j - L.pre.length = j by omega, List.getElem?_append_left (List.getElem?_eq_some_iff.1 hx).1]
    exact hx
theorem enterR {f : Nat} {fn : Func} {c : Code} {args : List SV} {J : SV → World → World → Prop} (hent : Ent_ P f = some (false, false)) (hf : P.funcs[f]? = some fn) (hb : fn.body = some c) (hn : fn.ntmps = n) (hl : Nat.ble args.length n = true)
    (h : ∀ G w a, H.length = G.length → Sy n (argS args 0) H (keys H G) G w G a w → Goal P (bodyPost P fn fun e w' => ∃ x v, den [] x = some v ∧ e = .returned v ∧ Grow w w' ∧ J x w w') [] (.code c) a w) : FnR P f args H J := by
  refine ⟨hent, fun G w vs hM hv => ?_⟩
  refine calls_of_wp hf hb (h G w _ hM.len ⟨?_, rfl, fun t x hx => ?_, hM, ⟨[], by simp⟩, fun i e L h1 h2 h3 => .inl (mem_keys.2 ⟨i, e, L, h1, h2, h3, rfl⟩), Mix.refl _ _⟩)
  · have := denL_len hv
    have := Nat.le_of_ble_eq_true hl
    simp [hn]; omega
  · obtain ⟨_, h2⟩ := argS_look hx
    simp only [Nat.sub_zero] at h2
    obtain ⟨v, h3, h4⟩ := denL_get hv h2
    have hlt : t < vs.length := (List.getElem?_eq_some_iff.1 h3).1
    rw [h4]
    simp [Array.getD_eq_getD_getElem?, Array.getElem?_append, hlt] at h3 ⊢
    exact h3.symm
theorem RETR {Y : Tb} {fn : Func} {J : SV → World → World → Prop} {H0 : Hp} (hX : Y.ok P = true) {y : SV} {r : List SV} {rv : List ResultVar} {v' : Value} (A : Sy n T H (keys H0 G0) G0 w0 G a w) (hro : ∀ (i : Nat) (e : Ent), H0[i]? = some (some e) → e.mut = false) (hr : fn.results.toList = rv) (hv : resS ⟨Y, false⟩ T H rv = some r) (hy : oneS r = y) (hc : den [] y = some v') (hJ : J y w0 w) : bodyPost P fn (fun e w' => ∃ x v, den [] x = some v ∧ e = .returned v ∧ Grow w0 w' ∧ J x w0 w') .ret a w := by
  obtain ⟨v, h1, h2⟩ := res_run (X := ⟨Y, false⟩) (fn := fn) hX A hr hv hy
  have h3 : den G y = some v' := by simpa using den_mono G y hc
  rw [h3] at h1
  cases h1
  have hk : ∀ k, (keys H0 G0).contains k = false := fun k => by
    cases hz : (keys H0 G0).contains k with
    | false => rfl
    | true =>
      obtain ⟨i, e', L, q1, q2, _⟩ := mem_keys.1 hz
      rw [hro i e' q1] at q2; cases q2
  have hm := A.mix
  exact ⟨A.defers, v', h2, y, v', hc, rfl, ⟨hm.os, hm.tape, hm.output, hm.size, fun k hk' => hm.block k hk' (hk k)⟩, hJ⟩
theorem CALLR {f : Nat} {args az : List SV} {H' l : Hp} {J : SV → World → World → Prop} (m : List Nat) (hf : FnR P f args H' J) (A : Sy n T H ks G0 w0 G a w) (h1 : callS n ops T o = some (f, az)) (h2 : renL m args = some az) (h3 : renH m H' = some l) (h4 : pickH H m = some l) (h5 : ndB m = true)
    (hk : ∀ x a' w', J x w w' → (∀ k, (keys H G).contains k = true → k < w.heap.size) → Sy n (extS T o.dst x) H ks G0 w0 G a' w' → Goal P Q K (.ops ops rest) a' w') : Goal P Q K (.ops ops (o :: rest)) a w := by
  obtain ⟨hd, us, hu, hdo⟩ := callS_do (P := P) (ops := ops) A h1 hf.1
  obtain ⟨p1, p2, p3⟩ := pickH_at h4
  have hm : ∀ j ∈ m, j < G.length := fun j hj => by rw [← A.mem.len]; exact p2 j hj
  have hM := A.mem.sub h4 h3 h5
  have hv' : denL (pickG m G) args = some us := by rw [denL_ren hm args h2]; exact hu
  refine q_does (Q := wpK P Q K) (hdo (hf.2 _ w us hM hv') fun e w' he => ?_)
  obtain ⟨x, v, e1, rfl, hg, hJ⟩ := he
  refine ⟨v, rfl, hk x _ _ hJ (fun k hz => ?_) (Sy.put ⟨A.size, A.defers, A.get, ⟨A.mem.len, fun i e hi => (A.mem.ent i e hi).mix hg.mix (fun _ _ _ => rfl), A.mem.sep⟩, A.pre, A.own, A.mix.grow hg⟩ hd (by simpa using den_mono G x e1))⟩
  obtain ⟨i, e, L, q1, q2, q3, q4⟩ := mem_keys.1 hz
  have := A.mem.ent i e q1
  rw [q3] at this
  rw [← q4]; exact EntOK.lt this (mut_full q2)
theorem cl2 {R : Prop} (A : Sy n T H ks G0 w0 G a w) (i q : Nat) {cs : List SV} {vs : List Value} {H' : Nat → Nat → Hp} (hi : lg H i = some (some (.blk cs))) (hq : lg H q = some (some (.blk [.ptr i 0]))) (hc : denL [] cs = some vs) (hH : ∀ b p, stH (stH H i none) q (some (.blk [adr b p])) = H' b p)
    (k : ∀ b p, Sy n T (H' b p) ks G0 w0 G a w → Lies b p vs w (keys (H' b p) G) → (ks.contains b = true ∨ w0.heap.size ≤ b) → R) : R := by
  obtain ⟨b, p, h1, h2, h3⟩ := A.close2 i q hi hq hc hH
  exact k b p h1 h2 h3
theorem lo_of {H0 : Hp} (B : Sy n T H (keys H0 G0) G0 w0 G a w) (hro : ∀ (i : Nat) (e : Ent), H0[i]? = some (some e) → e.mut = false) {b : Nat} (h : (keys H G).contains b = true ∨ w.heap.size ≤ b) : w0.heap.size ≤ b := by
  rcases h with h | h
  · rcases B.keys_own b h with h | h
    · obtain ⟨i, e', L, q1, q2, _⟩ := mem_keys.1 h
      rw [hro i e' q1] at q2; cases q2
    · exact h
  · exact Nat.le_trans B.mix.size h
end
section
variable {P : Program} {n : Nat} {ks : List Nat} {G0 : Gr} {w0 : World} {I : Amb}
end
end Go.Proofs.YtedlaclfhgneeabDoor
namespace Go.Proofs.YtedlaclfhgneeabDoor
set_option linter.unusedVariables false

end Go.Proofs.YtedlaclfhgneeabDoor
namespace Go.Proofs.YtedlaclfhgneeabDoor
set_option linter.unusedVariables false
set_option linter.unusedSimpArgs false
open Go.RowKit
section
variable {P : Program} {ops : Array Oper} {a : Act} {w : World} {K : Value → World → Prop} {d : Option Tmp} {ty : TypeId} {pos : String} {af : Array Edge} {gd : Option (Nat × Bool)} {v : Value}
end
section
variable {P : Program} {w : World} {t : TypeId} {x y : Operand} {k : IntKind} {a b : Int}
end
end Go.Proofs.YtedlaclfhgneeabDoor
namespace Go.Proofs.YtedlaclfhgneeabDoor
open Go.RowKit
set_option linter.unusedVariables false
set_option linter.unusedSimpArgs false
set_option linter.unusedSectionVars false
section
variable {P : Program} {n : Nat} {ks : List Nat} {G0 : Gr} {w0 : World} {T : List (Nat × SV)} {H : Hp} {G : Gr} {w : World} {ops : Array Oper} {o : Oper}
end
section
variable {P : Program} {n : Nat} {ks : List Nat} {G0 : Gr} {w0 : World} {T : List (Nat × SV)} {H : Hp} {G : Gr} {a : Act} {w : World} {Q : Exit → Act → World → Prop} {K : List Fr} {ops : Array Oper} {o : Oper} {rest : List Oper} {I : Amb}
end
theorem flat_rep (n : Nat) : flatV (fun _ => [.str []]) n = some (List.replicate n (.string (S []))) := by
  induction n with
  | zero => rfl
  | succ n ih =>
    unfold flatV
    rw [ih]
    show some (List.replicate n (Value.string (S [])) ++ [Value.string (S [])]) = _
    rw [List.replicate_succ', ]
section
variable {P : Program} {n : Nat} {ks : List Nat} {G0 : Gr} {w0 : World} {T : List (Nat × SV)} {H : Hp} {ops : Array Oper} {o : Oper}
theorem mkE {x y : Operand} {t e m i : Nat} {ti : TypeInfo} (hg : guardS ops T o.guard = some .run) (hop : o.op = .makeSlice t x y) (hx : evS T x = some (.int .i64 ((m : Nat) : Int))) (hy : evS T y = some (.int .i64 ((m : Nat) : Int))) (ht : P.underlying t = some (.slice e)) (hti : P.info? e = some ti) (hz : ti.zero = some (.string (S []))) (hs : ti.size = 1) (hb : ti.bytes ≤ 1000) (hm : m ≤ 1000000) (hi : H.length = i) : EffOK P n ops ks G0 w0 T H o (.sl i m m) (H ++ [some (.row e 1 m m fun _ => [.str []])]) := fun G a w A => by
  have hw := gd_run (gd := none) A hg
  obtain ⟨d, op, ty, ps, af, gd⟩ := o
  simp only at hop
  subst hop
  subst hi
  have h1 := A.ev hx
  have h2 := A.ev hy
  simp only [den, Option.some.injEq] at h1 h2
  have hmul : ti.bytes * m ≤ 1000 * 1000000 := Nat.mul_le_mul hb hm
  obtain ⟨w', hr, ho, hgb⟩ := run_makeSlice_full (P := P) w 0 t e ti _ 1 ht hti hz hs .i64 .i64 m (by omega) (by omega) (by unfold maxLen; omega) (Nat.zero_le _)
  have hgr : Grow w w' := ⟨hgb.os, hgb.tape, hgb.output, hgb.size, fun k hk => hgb.block k hk (by simp)⟩
  refine does_val (v := .slice (some ⟨w.heap.size, 0, none⟩) m m) (w' := w') hw ?_ ⟨[some ⟨w.heap.size, [], [], e⟩], ?_, ?_⟩
  · unfold execOp
    simp only [h1.symm, h2.symm, Sem.run_bind, hr, Sem.run_pure, Result.andThen_ok]
  · unfold den
    rw [List.getElem?_append_right (by rw [A.mem.len]; exact Nat.le_refl _), A.mem.len]
    simp [rm]
  · refine (A.newBlk (g := w.heap.size) (t := e) (en := .row e 1 m m fun _ => [.str []]) rfl hgr ⟨fun k => ⟨_, rfl, rfl⟩, fun L hL => by cases hL; rfl, _, flat_rep m, ?_⟩ rfl).ms
    have hc : (madeCells (Value.cells (.string (S []))) (m * 1)).toList = List.replicate m (.string (S [])) := by
      unfold madeCells
      apply List.ext_getElem
      · simp
      · intro k h1 h2
        simp [Value.cells, Nat.mod_one]
    rw [hc] at ho
    simpa [rm] using ho
theorem mkE' {x y : Operand} {t e m i : Nat} (f : Nat → List SV) (hf : ∀ j, f j = [.str []]) (hg : guardS ops T o.guard = some .run) (hop : o.op = .makeSlice t x y) (hx : evS T x = some (.int .i64 ((m : Nat) : Int))) (hy : evS T y = some (.int .i64 ((m : Nat) : Int))) (ht : P.underlying t = some (.slice e)) (hst : ∃ ti, P.info? e = some ti ∧ ti.zero = some (.string (S [])) ∧ ti.size = 1 ∧ ti.bytes ≤ 1000) (hm : m ≤ 1000000) (hi : H.length = i) : EffOK P n ops ks G0 w0 T H o (.sl i m m) (H ++ [some (.row e 1 m m f)]) := by
  have : f = fun _ => [.str []] := funext hf
  subst this
  obtain ⟨ti, hti, hz, hs, hb⟩ := hst
  exact mkE hg hop hx hy ht hti hz hs hb hm hi
end
end Go.Proofs.YtedlaclfhgneeabDoor
namespace Go.Proofs.YtedlaclfhgneeabDoor
open Go.RowKit
set_option linter.unusedVariables false
set_option linter.unusedSimpArgs false
set_option maxRecDepth 100000
set_option maxHeartbeats 2000000
set_option simprocs false
def regnm0 (s0 : List UInt8) (s1 : List UInt8) (s2 : List UInt8) (s3 : List UInt8) (s4 : List UInt8) (s5 : List UInt8) (s6 : List UInt8) (s7 : List UInt8) (r : Int) : List UInt8 := if ((decide (r < 0)) || (decide (r ≥ 8))) = true then [] else [s0, s1, s2, s3, s4, s5, s6, s7].getD (r).toNat []
theorem regnm_ (s0 : List UInt8) (s1 : List UInt8) (s2 : List UInt8) (s3 : List UInt8) (s4 : List UInt8) (s5 : List UInt8) (s6 : List UInt8) (s7 : List UInt8) (r : Int)  : Fn Tryd.prog 42 [.agg [.str s0, .str s1, .str s2, .str s3, .str s4, .str s5, .str s6, .str s7], .int .i64 r] [] (Rt (.str (regnm0 s0 s1 s2 s3 s4 s5 s6 s7 r)) []) :=
 enterM (n := 14) (by kernel_rfl) Tryd.func42 rfl rfl rfl fun G w a h0 A => N hX 17 A rfl rfl fun A => fork 10 A rfl
  (fun h1 A => N hX 7 A rfl rfl fun A => RETN hX A rfl rfl rfl h0 rfl rfl rfl rfl (by simp only [oneS, nb, nbL, nbH, regnm0, if_pos h1]) rfl)
  (fun h1 A => N hX 12 A rfl (ok_d (by have hz := h1; simp only [Bool.or_eq_false_iff, decide_eq_false_iff_not] at hz; omega) <| ok_d (by have hz := h1; simp only [Bool.or_eq_false_iff, decide_eq_false_iff_not] at hz; omega) <| okE_nil) fun A => RETN hX A rfl rfl rfl h0 rfl rfl rfl rfl (by simp only [oneS, nb, nbL, nbH, regnm0, if_neg (ne_true_of_eq_false h1)]) rfl)
theorem xregs_   : Fn Tryd.prog 41 [] [] (Rt (.agg [.str [82, 65, 88], .str [82, 66, 88], .str [82, 67, 88], .str [82, 68, 88], .str [82, 83, 73], .str [82, 68, 73], .str [82, 56], .str [82, 57]]) []) :=
 enterM (n := 2) (by kernel_rfl) Tryd.func41 rfl rfl rfl fun G w a h0 A => N hX 12 A rfl rfl fun A => RETN hX A rfl rfl rfl h0 rfl rfl rfl rfl rfl rfl
theorem xnam_ (r : Int)  : Fn Tryd.prog 23 [.int .i64 r] [] (Rt (.str (regnm0 [82, 65, 88] [82, 66, 88] [82, 67, 88] [82, 68, 88] [82, 83, 73] [82, 68, 73] [82, 56] [82, 57] r)) []) :=
 enterM (n := 6) (by kernel_rfl) Tryd.func23 rfl rfl rfl fun G w a h0 A => N hX 7 A rfl rfl fun A => CALL1 [] (xregs_ ) A rfl rfl rfl rfl rfl rfl rfl fun A => N hX 1 A rfl rfl fun A => CALL1 [] (regnm_ [82, 65, 88] [82, 66, 88] [82, 67, 88] [82, 68, 88] [82, 83, 73] [82, 68, 73] [82, 56] [82, 57] r) A rfl rfl rfl rfl rfl rfl rfl fun A => N hX 4 A rfl rfl fun A => RETN hX A rfl rfl rfl h0 rfl rfl rfl rfl rfl rfl
def nfX (r : Int) : List UInt8 := regnm0 [82, 65, 88] [82, 66, 88] [82, 67, 88] [82, 68, 88] [82, 83, 73] [82, 68, 73] [82, 56] [82, 57] r
theorem xname_ (r : Int) : Fn Tryd.prog 23 [.int .i64 r] [] (Rt (.str (nfX r)) []) := xnam_ r
theorem nfX_len (x : Int) : (nfX x).length ≤ 20 := by
  unfold nfX regnm0; split
  · decide
  · next h =>
    have : x = 0 ∨ x = 1 ∨ x = 2 ∨ x = 3 ∨ x = 4 ∨ x = 5 ∨ x = 6 ∨ x = 7 := by revert h; simp only [Bool.or_eq_true, decide_eq_true_eq]; omega
    rcases this with e | e | e | e | e | e | e | e <;> subst e <;> decide
theorem vregs_   : Fn Tryd.prog 43 [] [] (Rt (.agg [.str [97, 48], .str [97, 49], .str [97, 50], .str [97, 51], .str [97, 52], .str [97, 53], .str [97, 54], .str [97, 55]]) []) :=
 enterM (n := 2) (by kernel_rfl) Tryd.func43 rfl rfl rfl fun G w a h0 A => N hX 12 A rfl rfl fun A => RETN hX A rfl rfl rfl h0 rfl rfl rfl rfl rfl rfl
theorem vnam_ (r : Int)  : Fn Tryd.prog 24 [.int .i64 r] [] (Rt (.str (regnm0 [97, 48] [97, 49] [97, 50] [97, 51] [97, 52] [97, 53] [97, 54] [97, 55] r)) []) :=
 enterM (n := 6) (by kernel_rfl) Tryd.func24 rfl rfl rfl fun G w a h0 A => N hX 7 A rfl rfl fun A => CALL1 [] (vregs_ ) A rfl rfl rfl rfl rfl rfl rfl fun A => N hX 1 A rfl rfl fun A => CALL1 [] (regnm_ [97, 48] [97, 49] [97, 50] [97, 51] [97, 52] [97, 53] [97, 54] [97, 55] r) A rfl rfl rfl rfl rfl rfl rfl fun A => N hX 4 A rfl rfl fun A => RETN hX A rfl rfl rfl h0 rfl rfl rfl rfl rfl rfl
def nfV (r : Int) : List UInt8 := regnm0 [97, 48] [97, 49] [97, 50] [97, 51] [97, 52] [97, 53] [97, 54] [97, 55] r
theorem vname_ (r : Int) : Fn Tryd.prog 24 [.int .i64 r] [] (Rt (.str (nfV r)) []) := vnam_ r
theorem nfV_len (x : Int) : (nfV x).length ≤ 20 := by
  unfold nfV regnm0; split
  · decide
  · next h =>
    have : x = 0 ∨ x = 1 ∨ x = 2 ∨ x = 3 ∨ x = 4 ∨ x = 5 ∨ x = 6 ∨ x = 7 := by revert h; simp only [Bool.or_eq_true, decide_eq_true_eq]; omega
    rcases this with e | e | e | e | e | e | e | e <;> subst e <;> decide
theorem aregs_   : Fn Tryd.prog 44 [] [] (Rt (.agg [.str [88, 48], .str [88, 49], .str [88, 50], .str [88, 51], .str [88, 52], .str [88, 53], .str [88, 54], .str [88, 55]]) []) :=
 enterM (n := 2) (by kernel_rfl) Tryd.func44 rfl rfl rfl fun G w a h0 A => N hX 12 A rfl rfl fun A => RETN hX A rfl rfl rfl h0 rfl rfl rfl rfl rfl rfl
theorem anam_ (r : Int)  : Fn Tryd.prog 25 [.int .i64 r] [] (Rt (.str (regnm0 [88, 48] [88, 49] [88, 50] [88, 51] [88, 52] [88, 53] [88, 54] [88, 55] r)) []) :=
 enterM (n := 6) (by kernel_rfl) Tryd.func25 rfl rfl rfl fun G w a h0 A => N hX 7 A rfl rfl fun A => CALL1 [] (aregs_ ) A rfl rfl rfl rfl rfl rfl rfl fun A => N hX 1 A rfl rfl fun A => CALL1 [] (regnm_ [88, 48] [88, 49] [88, 50] [88, 51] [88, 52] [88, 53] [88, 54] [88, 55] r) A rfl rfl rfl rfl rfl rfl rfl fun A => N hX 4 A rfl rfl fun A => RETN hX A rfl rfl rfl h0 rfl rfl rfl rfl rfl rfl
def nfA (r : Int) : List UInt8 := regnm0 [88, 48] [88, 49] [88, 50] [88, 51] [88, 52] [88, 53] [88, 54] [88, 55] r
theorem aname_ (r : Int) : Fn Tryd.prog 25 [.int .i64 r] [] (Rt (.str (nfA r)) []) := anam_ r
theorem nfA_len (x : Int) : (nfA x).length ≤ 20 := by
  unfold nfA regnm0; split
  · decide
  · next h =>
    have : x = 0 ∨ x = 1 ∨ x = 2 ∨ x = 3 ∨ x = 4 ∨ x = 5 ∨ x = 6 ∨ x = 7 := by revert h; simp only [Bool.or_eq_true, decide_eq_true_eq]; omega
    rcases this with e | e | e | e | e | e | e | e <;> subst e <;> decide
def rgA (nf : Int → List UInt8) (k j : Nat) : List UInt8 := if j < k then nf j else []
theorem rgA_ne {nf : Int → List UInt8} {k j : Nat} (h : j ≠ k) : rgA nf (k + 1) j = rgA nf k j := by
  unfold rgA
  by_cases hj : j < k
  · rw [if_pos hj, if_pos (by omega)]
  · rw [if_neg hj, if_neg (by omega)]
theorem rgA_at {nf : Int → List UInt8} {k : Nat} : rgA nf (k + 1) k = nf k := by unfold rgA; rw [if_pos (by omega)]
def rgL (nf : Int → List UInt8) : List (List UInt8) := [nf 0, nf 1, nf 2, nf 3, nf 4, nf 5, nf 6, nf 7]
theorem rgA_8 {nf : Int → List UInt8} (j : Nat) (h : j < 8) : (rgL nf).getD j [] = rgA nf 8 j := by
  have : j = 0 ∨ j = 1 ∨ j = 2 ∨ j = 3 ∨ j = 4 ∨ j = 5 ∨ j = 6 ∨ j = 7 := by omega
  rcases this with e | e | e | e | e | e | e | e <;> subst e <;> rfl
theorem strInfo : ∃ ti, Tryd.prog.info? 9 = some ti ∧ ti.zero = some (.string (S [])) ∧ ti.size = 1 ∧ ti.bytes ≤ 1000 := by
  have h : (Tryd.prog.info? 9).map (fun ti => (ti.zero, ti.size, ti.bytes)) = some (some (.string (S [])), 1, 16) := by kernel_rfl
  cases e : Tryd.prog.info? 9 with
  | none => rw [e] at h; cases h
  | some ti =>
    rw [e] at h
    simp only [Option.map_some, Option.some.injEq, Prod.mk.injEq] at h
    exact ⟨ti, rfl, h.1, h.2.1, by omega⟩
theorem regnX_   : Fn Tryd.prog 22 [.fn 23 []] [] (Rt (.sl 0 8 8) [some (.row 9 1 8 8 (fun zz => [.str ((rgL nfX).getD zz [])]))]) :=
 enterM (n := 19) (by kernel_rfl) Tryd.func22 rfl rfl rfl fun G w a h0 A => N hX 7 A rfl rfl fun A => q_eff A rfl (mkE' (m := 8) (fun j => [.str (rgA nfX 0 j)]) (fun j => by show [SV.str (rgA nfX 0 j)] = _; unfold rgA; rw [if_neg (by omega)]) rfl rfl rfl rfl (by kernel_rfl) strInfo (by omega) rfl) fun A => N hX 12 A rfl rfl fun A => LOOP1 (fun (k : Nat) => [(0, .fn 23 []), (2, .sla none 0 0), (3, .sl 0 8 8), (7, .int .i64 ((8 : Nat) : Int)), (8, .int .i64 (k : Int))]) (fun (k : Nat) => [some (.row 9 1 8 8 (fun j => [.str (rgA nfX k j)]))]) (fun (k : Nat) => k ≤ 8 ∧ True) (fun (k : Nat) => 8 - k) 0 ⟨by omega, trivial⟩ ((A.cut [0, 2, 3, 7, 8] rfl).trunc 1 rfl rfl rfl (by simp only [List.length_cons, List.length_nil] at h0; omega)) fun k hI {G a w} A => N hX 6 A rfl rfl fun A => forkD 9 A rfl
   (fun h1 A => N hX 16 A rfl rfl fun A => CALL1 [] (xname_ (k : Int)) A rfl rfl rfl rfl rfl rfl rfl fun A => N hX 1 A rfl (ok_d (by have := hI.1; omega) <| okE_nil) fun A => STR (i := 0) (e := 9) (s := 1) (m := 8) (c := 8) hX k (fun j => [.str (rgA nfX (k + 1) j)]) A rfl rfl (Int.toNat_natCast k) (by omega) (fun z hz => by show [SV.str _] = [SV.str _]; rw [rgA_ne hz]) (by show _ = some [SV.str _]; rw [rgA_at]; rfl) fun A => N hX 7 A rfl (ok_d (by have := hI.1; omega) <| okE_nil) fun A => ⟨k + 1, _, (by omega), ⟨by omega, trivial⟩, ((A.cut [0, 2, 3, 7, 8] rfl).trunc 1 rfl rfl rfl (by simp only [List.length_cons, List.length_nil] at h0; omega))⟩)
   (fun h1 A => N hX 10 A rfl rfl fun A => have A := A.rowAs 0 8 (fun zz => [.str ((rgL nfX).getD zz [])]) rfl rfl (fun j hj => by show [SV.str _] = [SV.str (rgA nfX k j)]; rw [show k = 8 by have := hI.1; omega, rgA_8 j hj]) (fun z => ⟨_, rfl, rfl⟩); RET hX [0] A ⟨rfl, rfl⟩ rfl rfl rfl rfl rfl rfl rfl rfl h0)
theorem regnV_   : Fn Tryd.prog 22 [.fn 24 []] [] (Rt (.sl 0 8 8) [some (.row 9 1 8 8 (fun zz => [.str ((rgL nfV).getD zz [])]))]) :=
 enterM (n := 19) (by kernel_rfl) Tryd.func22 rfl rfl rfl fun G w a h0 A => N hX 7 A rfl rfl fun A => q_eff A rfl (mkE' (m := 8) (fun j => [.str (rgA nfV 0 j)]) (fun j => by show [SV.str (rgA nfV 0 j)] = _; unfold rgA; rw [if_neg (by omega)]) rfl rfl rfl rfl (by kernel_rfl) strInfo (by omega) rfl) fun A => N hX 12 A rfl rfl fun A => LOOP1 (fun (k : Nat) => [(0, .fn 24 []), (2, .sla none 0 0), (3, .sl 0 8 8), (7, .int .i64 ((8 : Nat) : Int)), (8, .int .i64 (k : Int))]) (fun (k : Nat) => [some (.row 9 1 8 8 (fun j => [.str (rgA nfV k j)]))]) (fun (k : Nat) => k ≤ 8 ∧ True) (fun (k : Nat) => 8 - k) 0 ⟨by omega, trivial⟩ ((A.cut [0, 2, 3, 7, 8] rfl).trunc 1 rfl rfl rfl (by simp only [List.length_cons, List.length_nil] at h0; omega)) fun k hI {G a w} A => N hX 6 A rfl rfl fun A => forkD 9 A rfl
   (fun h1 A => N hX 16 A rfl rfl fun A => CALL1 [] (vname_ (k : Int)) A rfl rfl rfl rfl rfl rfl rfl fun A => N hX 1 A rfl (ok_d (by have := hI.1; omega) <| okE_nil) fun A => STR (i := 0) (e := 9) (s := 1) (m := 8) (c := 8) hX k (fun j => [.str (rgA nfV (k + 1) j)]) A rfl rfl (Int.toNat_natCast k) (by omega) (fun z hz => by show [SV.str _] = [SV.str _]; rw [rgA_ne hz]) (by show _ = some [SV.str _]; rw [rgA_at]; rfl) fun A => N hX 7 A rfl (ok_d (by have := hI.1; omega) <| okE_nil) fun A => ⟨k + 1, _, (by omega), ⟨by omega, trivial⟩, ((A.cut [0, 2, 3, 7, 8] rfl).trunc 1 rfl rfl rfl (by simp only [List.length_cons, List.length_nil] at h0; omega))⟩)
   (fun h1 A => N hX 10 A rfl rfl fun A => have A := A.rowAs 0 8 (fun zz => [.str ((rgL nfV).getD zz [])]) rfl rfl (fun j hj => by show [SV.str _] = [SV.str (rgA nfV k j)]; rw [show k = 8 by have := hI.1; omega, rgA_8 j hj]) (fun z => ⟨_, rfl, rfl⟩); RET hX [0] A ⟨rfl, rfl⟩ rfl rfl rfl rfl rfl rfl rfl rfl h0)
theorem regnA_   : Fn Tryd.prog 22 [.fn 25 []] [] (Rt (.sl 0 8 8) [some (.row 9 1 8 8 (fun zz => [.str ((rgL nfA).getD zz [])]))]) :=
 enterM (n := 19) (by kernel_rfl) Tryd.func22 rfl rfl rfl fun G w a h0 A => N hX 7 A rfl rfl fun A => q_eff A rfl (mkE' (m := 8) (fun j => [.str (rgA nfA 0 j)]) (fun j => by show [SV.str (rgA nfA 0 j)] = _; unfold rgA; rw [if_neg (by omega)]) rfl rfl rfl rfl (by kernel_rfl) strInfo (by omega) rfl) fun A => N hX 12 A rfl rfl fun A => LOOP1 (fun (k : Nat) => [(0, .fn 25 []), (2, .sla none 0 0), (3, .sl 0 8 8), (7, .int .i64 ((8 : Nat) : Int)), (8, .int .i64 (k : Int))]) (fun (k : Nat) => [some (.row 9 1 8 8 (fun j => [.str (rgA nfA k j)]))]) (fun (k : Nat) => k ≤ 8 ∧ True) (fun (k : Nat) => 8 - k) 0 ⟨by omega, trivial⟩ ((A.cut [0, 2, 3, 7, 8] rfl).trunc 1 rfl rfl rfl (by simp only [List.length_cons, List.length_nil] at h0; omega)) fun k hI {G a w} A => N hX 6 A rfl rfl fun A => forkD 9 A rfl
   (fun h1 A => N hX 16 A rfl rfl fun A => CALL1 [] (aname_ (k : Int)) A rfl rfl rfl rfl rfl rfl rfl fun A => N hX 1 A rfl (ok_d (by have := hI.1; omega) <| okE_nil) fun A => STR (i := 0) (e := 9) (s := 1) (m := 8) (c := 8) hX k (fun j => [.str (rgA nfA (k + 1) j)]) A rfl rfl (Int.toNat_natCast k) (by omega) (fun z hz => by show [SV.str _] = [SV.str _]; rw [rgA_ne hz]) (by show _ = some [SV.str _]; rw [rgA_at]; rfl) fun A => N hX 7 A rfl (ok_d (by have := hI.1; omega) <| okE_nil) fun A => ⟨k + 1, _, (by omega), ⟨by omega, trivial⟩, ((A.cut [0, 2, 3, 7, 8] rfl).trunc 1 rfl rfl rfl (by simp only [List.length_cons, List.length_nil] at h0; omega))⟩)
   (fun h1 A => N hX 10 A rfl rfl fun A => have A := A.rowAs 0 8 (fun zz => [.str ((rgL nfA).getD zz [])]) rfl rfl (fun j hj => by show [SV.str _] = [SV.str (rgA nfA k j)]; rw [show k = 8 by have := hI.1; omega, rgA_8 j hj]) (fun z => ⟨_, rfl, rfl⟩); RET hX [0] A ⟨rfl, rfl⟩ rfl rfl rfl rfl rfl rfl rfl rfl h0)
theorem regs1_   : Fn Tryd.prog 9 [.int .i64 1] [] (Rt (.sl 0 8 8) [some (.row 9 1 8 8 (fun zz => [.str ((rgL nfX).getD zz [])]))]) :=
 enterM (n := 13) (by kernel_rfl) Tryd.func9 rfl rfl rfl fun G w a h0 A => N hX 18 A rfl rfl fun A => forkE 4 A rfl
  (fun h1 A => N hX 3 A rfl rfl fun A => CALL1 [] regnX_ A rfl rfl rfl rfl rfl rfl rfl fun A => N hX 4 A rfl rfl fun A => RET hX [0] A ⟨rfl, rfl⟩ rfl rfl rfl rfl rfl rfl rfl rfl h0)
  (fun h1 A => absurd rfl h1)
theorem regs2_   : Fn Tryd.prog 9 [.int .i64 2] [] (Rt (.sl 0 8 8) [some (.row 9 1 8 8 (fun zz => [.str ((rgL nfV).getD zz [])]))]) :=
 enterM (n := 13) (by kernel_rfl) Tryd.func9 rfl rfl rfl fun G w a h0 A => N hX 18 A rfl rfl fun A => forkE 4 A rfl
  (fun h1 A => absurd h1 (by decide))
  (fun h1 A => N hX 7 A rfl rfl fun A => forkE 7 A rfl
   (fun h2 A => N hX 3 A rfl rfl fun A => CALL1 [] regnV_ A rfl rfl rfl rfl rfl rfl rfl fun A => N hX 4 A rfl rfl fun A => RET hX [0] A ⟨rfl, rfl⟩ rfl rfl rfl rfl rfl rfl rfl rfl h0)
   (fun h2 A => absurd rfl h2))
theorem regs3_   : Fn Tryd.prog 9 [.int .i64 3] [] (Rt (.sl 0 8 8) [some (.row 9 1 8 8 (fun zz => [.str ((rgL nfA).getD zz [])]))]) :=
 enterM (n := 13) (by kernel_rfl) Tryd.func9 rfl rfl rfl fun G w a h0 A => N hX 18 A rfl rfl fun A => forkE 4 A rfl
  (fun h1 A => absurd h1 (by decide))
  (fun h1 A => N hX 7 A rfl rfl fun A => forkE 7 A rfl
   (fun h2 A => absurd h2 (by decide))
   (fun h2 A => N hX 7 A rfl rfl fun A => forkE 10 A rfl
    (fun h3 A => N hX 3 A rfl rfl fun A => CALL1 [] regnA_ A rfl rfl rfl rfl rfl rfl rfl fun A => N hX 4 A rfl rfl fun A => RET hX [0] A ⟨rfl, rfl⟩ rfl rfl rfl rfl rfl rfl rfl rfl h0)
    (fun h3 A => absurd rfl h3)))
theorem regs0_ (ar : Int) (g1 : ar ≠ 1) (g2 : ar ≠ 2) (g3 : ar ≠ 3) : Fn Tryd.prog 9 [.int .i64 ar] [] (Rt (.sla none 0 0) []) :=
 enterM (n := 13) (by kernel_rfl) Tryd.func9 rfl rfl rfl fun G w a h0 A => N hX 18 A rfl rfl fun A => forkE 4 A rfl
  (fun h1 A => absurd h1 g1)
  (fun h1 A => N hX 7 A rfl rfl fun A => forkE 7 A rfl
   (fun h2 A => absurd h2 g2)
   (fun h2 A => N hX 7 A rfl rfl fun A => forkE 10 A rfl
    (fun h3 A => absurd h3 g3)
    (fun h3 A => N hX 10 A rfl rfl fun A => RETN hX A rfl rfl rfl h0 rfl rfl rfl rfl rfl rfl)))
def stepP (R : List (List UInt8)) (c : Cn) (l : List Pc) : List Pc := l.take (((l.length : Nat) : Int) - parts0 c.kd).toNat ++ [(wr0 R c.kd c.th c.rg c.lc c.vl l (((l.length : Nat) : Int) - parts0 c.kd).toNat (l.length - (((l.length : Nat) : Int) - parts0 c.kd).toNat), c.kd)]
def foldP (R : List (List UInt8)) (cs : List Cn) : List Pc := cs.foldl (fun l c => stepP R c l) []
structure FI (R : List (List UInt8)) (cs : List Cn) (l : List Pc) (i : Nat) : Prop where
  lb : ∃ lb, EI oz cs lb i ∧ lb.length = l.length
  eq : l = foldP R (cs.take i)
theorem stepP_len {R : List (List UInt8)} {c : Cn} {l : List Pc} (h : 0 ≤ parts0 c.kd) : (stepP R c l).length = (((l.length : Nat) : Int) - parts0 c.kd).toNat + 1 := by
  unfold stepP; rw [List.length_append, List.length_take, List.length_cons, List.length_nil]; omega
section
variable {R : List (List UInt8)} {L : List Cn} {n i : Nat} {l : List Pc}
theorem FI.i0 (hr : right (L.take n) = true) : FI R (L.take n) [] 0 := ⟨⟨[], EI.i0 hr, rfl⟩, by simp [foldP]⟩
theorem FI.kn (hI : FI R (L.take n) l i) (hn : n ≤ L.length) (h1 : (i : Int) < ((n : Nat) : Int)) : ¬ (L.getD ((i : Int)).toNat Cn.z).n < 0 ∧ (L.getD ((i : Int)).toNat Cn.z).n ≤ (l.length : Int) ∧ (L.getD ((i : Int)).toNat Cn.z).n = parts0 (L.getD ((i : Int)).toNat Cn.z).kd ∧ (((L.getD ((i : Int)).toNat Cn.z).kd = 1 ∧ (L.getD ((i : Int)).toNat Cn.z).n = 0 ∧ 0 ≤ (L.getD ((i : Int)).toNat Cn.z).th ∧ (L.getD ((i : Int)).toNat Cn.z).th < 3 ∧ 0 ≤ (L.getD ((i : Int)).toNat Cn.z).rg ∧ (L.getD ((i : Int)).toNat Cn.z).rg < 8) ∨ ((L.getD ((i : Int)).toNat Cn.z).kd = 2 ∧ (L.getD ((i : Int)).toNat Cn.z).n = 0 ∧ 0 ≤ (L.getD ((i : Int)).toNat Cn.z).lc ∧ (L.getD ((i : Int)).toNat Cn.z).lc < 3) ∨ ((L.getD ((i : Int)).toNat Cn.z).kd = 3 ∧ (L.getD ((i : Int)).toNat Cn.z).n = 1) ∨ ((L.getD ((i : Int)).toNat Cn.z).kd = 4 ∧ (L.getD ((i : Int)).toNat Cn.z).n = 2) ∨ ((L.getD ((i : Int)).toNat Cn.z).kd = 5 ∧ (L.getD ((i : Int)).toNat Cn.z).n = 2)) ∧ l.length ≤ i := by
  obtain ⟨lb, h2, h3⟩ := hI.lb
  have := h2.kn hn h1
  rw [h3] at this
  exact this
theorem FI.nx (hI : FI R (L.take n) l i) (hr : right (L.take n) = true) (hn : n ≤ L.length) (h1 : (i : Int) < ((n : Nat) : Int)) : FI R (L.take n) (stepP R (L.getD ((i : Int)).toNat Cn.z) l) (i + 1) := by
  obtain ⟨lb, h2, h3⟩ := hI.lb
  have k := h2.kn hn h1
  refine ⟨⟨_, h2.nx hr hn h1, ?_⟩, ?_⟩
  · rw [← fold_st (p := oz) (l := lb) k.1 k.2.1 k.2.2.1 rfl, stepP_len (by omega), List.length_append, List.length_take, List.length_cons, List.length_nil, h3]; omega
  · have hi : i < (L.take n).length := by simp; omega
    rw [List.take_succ_eq_append_getElem hi, foldP, List.foldl_append, ← foldP, ← hI.eq]
    have e : (L.take n)[i] = (L.getD ((i : Int)).toNat Cn.z) := by simp [List.getD, show i < L.length by omega]
    rw [e]; rfl
theorem FI.fi (hI : FI R (L.take n) l i) (hr : right (L.take n) = true) (hn : n ≤ L.length) (h1 : ¬ (i : Int) < ((n : Nat) : Int)) : l.length = 1 ∧ l = foldP R (L.take n) := by
  obtain ⟨lb, h2, h3⟩ := hI.lb
  have := h2.fi hr hn h1
  have he := hI.eq
  rw [List.take_of_length_le (by simp; omega)] at he
  exact ⟨by omega, he⟩
theorem FI.sm (hI : FI R (L.take n) l i) (hl : ∀ i q, ((foldP R ((L.take n).take i)).getD q pz).1.length ≤ 1000000) : ∀ q, (l.getD q pz).1.length ≤ 1000000 := fun q => by rw [hI.eq]; exact hl i q
theorem papp1 {k : Nat} {x : Pc} (h : k ≤ l.length) : (l.take k ++ [x]).getD k pz = x := by
  have := getD_app_1 (l := l.take k) (x := x) (d := pz)
  rw [List.length_take, Nat.min_eq_left h] at this; exact this
end
theorem foldp_ (R : List (List UInt8)) (L : List Cn) (n : Nat) (c : Nat) (b : Nat) (o : Obj) (hT : ∀ w : World, w.heap[b]? = some o → Lib.TabIs Tryd.prog w "internal/strconv.uint64pow10" .u64 Lib.pow10Tab) (hn : n ≤ L.length) (hN : n ≤ 1000000) (hr : right (L.take n) = true) (hv : ∀ q, -9223372036854775808 ≤ (L.getD q Cn.z).vl ∧ (L.getD q Cn.z).vl ≤ 9223372036854775807) (hl : ∀ i q, ((foldP R ((L.take n).take i)).getD q pz).1.length ≤ 1000000) (qR : ∀ q, (R.getD q []).length ≤ 100) (hR : 8 ≤ R.length) : Fn Tryd.prog 10 [.sl 0 n c, .fn 11 [.ptr 1 0]] [some (.lst 5 L.length (fun zz => cc (L.getD zz Cn.z))), some (.blk [.sl 2 R.length 8]), some (.row 9 1 R.length 8 (fun zz => [.str (R.getD zz [])])), some (.fac b o)] (Rt (.agg [.str (((foldP R (L.take n)).getD 0 pz).1), .int .i64 (((foldP R (L.take n)).getD 0 pz).2)]) [some (.lst 5 L.length (fun zz => cc (L.getD zz Cn.z))), some (.blk [.sl 2 R.length 8]), some (.row 9 1 R.length 8 (fun zz => [.str (R.getD zz [])])), some (.fac b o)]) :=
 enterM (n := 36) (by kernel_rfl) Tryd.func10 rfl rfl rfl fun G w a h0 A => N hX 19 A rfl rfl fun A => have A := A.nilRow 5 45 2 (fun zz => [.str (([] : List Pc).getD zz pz).1, .int .i64 (([] : List Pc).getD zz pz).2]) rfl (fun z => ⟨_, rfl, rfl⟩); LOOP2 (fun (l : List Pc) (i : Nat) => [(1, .fn 11 [.ptr 1 0]), (4, .ptr 4 0), (5, .sl 5 l.length 0), (9, .sl 0 n c), (10, .int .i64 ((n : Nat) : Int)), (11, .int .i64 (i : Int))]) (fun (l : List Pc) (i : Nat) => [some (.lst 5 L.length (fun zz => cc (L.getD zz Cn.z))), some (.blk [.sl 2 R.length 8]), some (.row 9 1 R.length 8 (fun zz => [.str (R.getD zz [])])), some (.fac b o), some (.blk [.str [], .int .i64 0]), some (.row 45 2 l.length 0 (fun zz => [.str (l.getD zz pz).1, .int .i64 (l.getD zz pz).2]))]) (fun (l : List Pc) (i : Nat) => FI R (L.take n) l i) (fun (l : List Pc) (i : Nat) => n - i) [] 0 (FI.i0 hr) ((A.cut [1, 4, 5, 9, 10, 11] rfl).trunc 6 rfl rfl rfl (by simp only [List.length_cons, List.length_nil] at h0; omega)) fun l i hI {G a w} A => N hX 6 A rfl rfl fun A => forkD 12 A rfl
   (fun h1 A => N hX 14 A rfl (ok_d (by have hq := hI.kn hn h1; omega) <| ok_d (by have hq := hI.kn hn h1; omega) <| okE_nil) fun A => N hX 5 A rfl rfl fun A => CALL1 [] (parts_ ((L.getD (((i : Int)).toNat) Cn.z).kd)) A rfl rfl rfl rfl rfl rfl rfl fun A => N hX 4 A rfl (ok_d (by have hq := hI.kn hn h1; omega) <| okE_nil) fun A => DRAWN hX hmo [] [(8, .agg [.str (wr0 R ((L.getD (((i : Int)).toNat) Cn.z).kd) ((L.getD (((i : Int)).toNat) Cn.z).th) ((L.getD (((i : Int)).toNat) Cn.z).rg) ((L.getD (((i : Int)).toNat) Cn.z).lc) ((L.getD (((i : Int)).toNat) Cn.z).vl) l ((((l.length : Nat) : Int) - (parts0 ((L.getD (((i : Int)).toNat) Cn.z).kd))).toNat) (l.length - (((l.length : Nat) : Int) - (parts0 ((L.getD (((i : Int)).toNat) Cn.z).kd))).toNat)), .int .i64 ((L.getD (((i : Int)).toNat) Cn.z).kd)], [some (.lst 5 L.length (fun zz => cc (L.getD zz Cn.z))), some (.blk [.sl 2 R.length 8]), some (.row 9 1 R.length 8 (fun zz => [.str (R.getD zz [])])), some (.fac b o), some (.blk [.str [], .int .i64 0]), some (.row 45 2 l.length 0 (fun zz => [.str (l.getD zz pz).1, .int .i64 (l.getD zz pz).2])), some (.blk [.int .i64 ((L.getD (((i : Int)).toNat) Cn.z).kd), .int .i64 ((L.getD (((i : Int)).toNat) Cn.z).th), .int .i64 ((L.getD (((i : Int)).toNat) Cn.z).rg), .int .i64 ((L.getD (((i : Int)).toNat) Cn.z).lc), .int .i64 ((L.getD (((i : Int)).toNat) Cn.z).vl)])]), (10, .sl 8 (((((l.length : Nat) : Int) - (parts0 ((L.getD (((i : Int)).toNat) Cn.z).kd))).toNat) + 1) 0, [some (.lst 5 L.length (fun zz => cc (L.getD zz Cn.z))), some (.blk [.sl 2 R.length 8]), some (.row 9 1 R.length 8 (fun zz => [.str (R.getD zz [])])), some (.fac b o), some (.blk [.str [], .int .i64 0]), none, some (.blk [.int .i64 ((L.getD (((i : Int)).toNat) Cn.z).kd), .int .i64 ((L.getD (((i : Int)).toNat) Cn.z).th), .int .i64 ((L.getD (((i : Int)).toNat) Cn.z).rg), .int .i64 ((L.getD (((i : Int)).toNat) Cn.z).lc), .int .i64 ((L.getD (((i : Int)).toNat) Cn.z).vl)]), some (.blk [.str (wr0 R ((L.getD (((i : Int)).toNat) Cn.z).kd) ((L.getD (((i : Int)).toNat) Cn.z).th) ((L.getD (((i : Int)).toNat) Cn.z).rg) ((L.getD (((i : Int)).toNat) Cn.z).lc) ((L.getD (((i : Int)).toNat) Cn.z).vl) l ((((l.length : Nat) : Int) - (parts0 ((L.getD (((i : Int)).toNat) Cn.z).kd))).toNat) (l.length - (((l.length : Nat) : Int) - (parts0 ((L.getD (((i : Int)).toNat) Cn.z).kd))).toNat)), .int .i64 ((L.getD (((i : Int)).toNat) Cn.z).kd)]), some (.row 45 2 (((((l.length : Nat) : Int) - (parts0 ((L.getD (((i : Int)).toNat) Cn.z).kd))).toNat) + 1) 0 (fun zz => [.str ((l.take ((((l.length : Nat) : Int) - (parts0 ((L.getD (((i : Int)).toNat) Cn.z).kd))).toNat) ++ [(wr0 R ((L.getD (((i : Int)).toNat) Cn.z).kd) ((L.getD (((i : Int)).toNat) Cn.z).th) ((L.getD (((i : Int)).toNat) Cn.z).rg) ((L.getD (((i : Int)).toNat) Cn.z).lc) ((L.getD (((i : Int)).toNat) Cn.z).vl) l ((((l.length : Nat) : Int) - (parts0 ((L.getD (((i : Int)).toNat) Cn.z).kd))).toNat) (l.length - (((l.length : Nat) : Int) - (parts0 ((L.getD (((i : Int)).toNat) Cn.z).kd))).toNat), (L.getD (((i : Int)).toNat) Cn.z).kd)]).getD zz pz).1, .int .i64 ((l.take ((((l.length : Nat) : Int) - (parts0 ((L.getD (((i : Int)).toNat) Cn.z).kd))).toNat) ++ [(wr0 R ((L.getD (((i : Int)).toNat) Cn.z).kd) ((L.getD (((i : Int)).toNat) Cn.z).th) ((L.getD (((i : Int)).toNat) Cn.z).rg) ((L.getD (((i : Int)).toNat) Cn.z).lc) ((L.getD (((i : Int)).toNat) Cn.z).vl) l ((((l.length : Nat) : Int) - (parts0 ((L.getD (((i : Int)).toNat) Cn.z).kd))).toNat) (l.length - (((l.length : Nat) : Int) - (parts0 ((L.getD (((i : Int)).toNat) Cn.z).kd))).toNat), (L.getD (((i : Int)).toNat) Cn.z).kd)]).getD zz pz).2]))])] A rfl (ok_d (by show 0 ≤ ((l.length : Nat) : Int) - (parts0 ((L.getD (((i : Int)).toNat) Cn.z).kd)) ∧ ((l.length : Nat) : Int) - (parts0 ((L.getD (((i : Int)).toNat) Cn.z).kd)) ≤ ((l.length : Nat) : Int); exact (by have hq := hI.kn hn h1; omega)) <| ok_d (by show 0 ≤ ((l.length : Nat) : Int) - (parts0 ((L.getD (((i : Int)).toNat) Cn.z).kd)) ∧ ((l.length : Nat) : Int) - (parts0 ((L.getD (((i : Int)).toNat) Cn.z).kd)) ≤ ((l.length : Nat) : Int); exact (by have hq := hI.kn hn h1; omega)) <| ok_d (by show 0 ≤ ((l.length : Nat) : Int) - (parts0 ((L.getD (((i : Int)).toNat) Cn.z).kd)) ∧ ((l.length : Nat) : Int) - (parts0 ((L.getD (((i : Int)).toNat) Cn.z).kd)) ≤ ((l.length : Nat) : Int); exact (by have hq := hI.kn hn h1; omega)) <| ok_d (by have hq := hI.kn hn h1; omega) <| okE_nil) rfl rfl (by kernel_rfl) ⟨callE [1, 2, 5, 3] (pone_ R ((L.getD (((i : Int)).toNat) Cn.z).kd) ((L.getD (((i : Int)).toNat) Cn.z).th) ((L.getD (((i : Int)).toNat) Cn.z).rg) ((L.getD (((i : Int)).toNat) Cn.z).lc) ((L.getD (((i : Int)).toNat) Cn.z).vl) l ((((l.length : Nat) : Int) - (parts0 ((L.getD (((i : Int)).toNat) Cn.z).kd))).toNat) (l.length - (((l.length : Nat) : Int) - (parts0 ((L.getD (((i : Int)).toNat) Cn.z).kd))).toNat) b o hT (by have hq := hI.kn hn h1; omega) (by have hq := hI.kn hn h1; omega) (by have hq := hI.kn hn h1; omega) (by have hq := hI.kn hn h1; omega) (by have hq := hI.kn hn h1; omega) (hv _) (hI.sm hl) qR hR) rfl rfl rfl rfl rfl rfl rfl, ⟨trivial, ⟨eff_shrink (e := 45) (s := 2) 5 ((((l.length : Nat) : Int) - (parts0 ((L.getD (((i : Int)).toNat) Cn.z).kd))).toNat) rfl (by have hq := hI.kn hn h1; omega) (appE (i := 5) (e := 45) (s := 2) hX (((((l.length : Nat) : Int) - (parts0 ((L.getD (((i : Int)).toNat) Cn.z).kd))).toNat) + 1) (fun zz => [.str ((l.take ((((l.length : Nat) : Int) - (parts0 ((L.getD (((i : Int)).toNat) Cn.z).kd))).toNat) ++ [(wr0 R ((L.getD (((i : Int)).toNat) Cn.z).kd) ((L.getD (((i : Int)).toNat) Cn.z).th) ((L.getD (((i : Int)).toNat) Cn.z).rg) ((L.getD (((i : Int)).toNat) Cn.z).lc) ((L.getD (((i : Int)).toNat) Cn.z).vl) l ((((l.length : Nat) : Int) - (parts0 ((L.getD (((i : Int)).toNat) Cn.z).kd))).toNat) (l.length - (((l.length : Nat) : Int) - (parts0 ((L.getD (((i : Int)).toNat) Cn.z).kd))).toNat), (L.getD (((i : Int)).toNat) Cn.z).kd)]).getD zz pz).1, .int .i64 ((l.take ((((l.length : Nat) : Int) - (parts0 ((L.getD (((i : Int)).toNat) Cn.z).kd))).toNat) ++ [(wr0 R ((L.getD (((i : Int)).toNat) Cn.z).kd) ((L.getD (((i : Int)).toNat) Cn.z).th) ((L.getD (((i : Int)).toNat) Cn.z).rg) ((L.getD (((i : Int)).toNat) Cn.z).lc) ((L.getD (((i : Int)).toNat) Cn.z).vl) l ((((l.length : Nat) : Int) - (parts0 ((L.getD (((i : Int)).toNat) Cn.z).kd))).toNat) (l.length - (((l.length : Nat) : Int) - (parts0 ((L.getD (((i : Int)).toNat) Cn.z).kd))).toNat), (L.getD (((i : Int)).toNat) Cn.z).kd)]).getD zz pz).2]) rfl rfl rfl rfl (by have hq := hI.kn hn h1; omega) rfl (fun q hq => by show [SV.str _, SV.int _ _] = [SV.str _, SV.int _ _]; rw [getD_app_l (by rw [List.length_take]; have hq := hI.kn hn h1; omega), getD_take hq]) (by show [SV.str _, SV.int _ _] = _; rw [papp1 (by have hq := hI.kn hn h1; omega)]) (fun z => ⟨_, rfl, rfl⟩)), trivial⟩⟩⟩ trivial fun A => N hX 6 A rfl (ok_d (by have hq := hI.kn hn h1; omega) <| okE_nil) fun A => ⟨stepP R (L.getD ((i : Int)).toNat Cn.z) l, i + 1, _, (by omega), (hI.nx hr hn h1), ((((A.rowAs 8 (stepP R (L.getD ((i : Int)).toNat Cn.z) l).length (fun zz => [.str ((stepP R (L.getD ((i : Int)).toNat Cn.z) l).getD zz pz).1, .int .i64 ((stepP R (L.getD ((i : Int)).toNat Cn.z) l).getD zz pz).2]) rfl (stepP_len (R := R) (c := (L.getD ((i : Int)).toNat Cn.z)) (l := l) (by have hq := hI.kn hn h1; omega)) (fun q hq => rfl) (fun z => ⟨_, rfl, rfl⟩)).say 5 (.sl 8 (stepP R (L.getD ((i : Int)).toNat Cn.z) l).length 0) rfl (by rw [(stepP_len (R := R) (c := (L.getD ((i : Int)).toNat Cn.z)) (l := l) (by have hq := hI.kn hn h1; omega))])).cut [1, 4, 5, 9, 10, 11] rfl).mv 4 [4, 8] rfl rfl rfl rfl (by simp only [List.length_cons, List.length_nil] at h0; omega))⟩)
   (fun h1 A => N hX 12 A rfl (ok_d (by have hq := (hI.fi hr hn h1).1; omega) <| ok_d (by have hq := (hI.fi hr hn h1).1; omega) <| okE_nil) fun A => RETN hX A rfl rfl rfl h0 rfl rfl rfl rfl (by rw [← (hI.fi hr hn h1).2]; rfl) rfl)
theorem rgL_len {nf : Int → List UInt8} (h : ∀ x, (nf x).length ≤ 20) (q : Nat) : ((rgL nf).getD q []).length ≤ 100 := by
  by_cases hq : q < 8
  · have : q = 0 ∨ q = 1 ∨ q = 2 ∨ q = 3 ∨ q = 4 ∨ q = 5 ∨ q = 6 ∨ q = 7 := by omega
    rcases this with e | e | e | e | e | e | e | e <;> subst e <;> exact Nat.le_trans (h _) (by decide)
  · rw [List.getD_eq_getElem?_getD, List.getElem?_eq_none (by show 8 ≤ q; omega)]; decide
theorem print1_ (L : List Cn) (n : Nat) (c : Nat) (b : Nat) (o : Obj) (hT : ∀ w : World, w.heap[b]? = some o → Lib.TabIs Tryd.prog w "internal/strconv.uint64pow10" .u64 Lib.pow10Tab) (hn : n ≤ L.length) (hN : n ≤ 1000000) (hr : right (L.take n) = true) (hv : ∀ q, -9223372036854775808 ≤ (L.getD q Cn.z).vl ∧ (L.getD q Cn.z).vl ≤ 9223372036854775807) (hl : ∀ i q, ((foldP (rgL nfX) ((L.take n).take i)).getD q pz).1.length ≤ 1000000) : Fn Tryd.prog 5 [.int .i64 1, .sl 0 n c] [some (.lst 5 L.length (fun zz => cc (L.getD zz Cn.z))), some (.fac b o)] (Rt (.tup [.str (((foldP (rgL nfX) (L.take n)).getD 0 pz).1), .int .i64 0]) [some (.lst 5 L.length (fun zz => cc (L.getD zz Cn.z))), some (.fac b o)]) :=
 enterM (n := 20) (by kernel_rfl) Tryd.func5 rfl rfl rfl fun G w a h0 A => N hX 9 A rfl rfl fun A => CALL1 [] regs1_ A rfl rfl rfl rfl rfl rfl rfl fun A => N hX 8 A rfl rfl fun A => NILR hX A rfl rfl (by omega) fun A => N hX 9 A rfl rfl fun A => CALL1 [0] (pright_ L n c hn) A rfl rfl rfl rfl rfl rfl rfl fun A => N hX 3 A rfl rfl fun A => fork 14 A rfl
  (fun h1 A => absurd h1 (by rw [hr]; decide))
  (fun h1 A => N hX 7 A rfl rfl fun A => CALL1 [0, 3, 2, 1] (foldp_ (rgL nfX) L n c b o hT hn hN hr hv hl (rgL_len nfX_len) (by decide)) A rfl rfl rfl rfl rfl rfl rfl fun A => N hX 13 A rfl rfl fun A => RETN hX A rfl rfl rfl h0 rfl rfl rfl rfl rfl rfl)
theorem print1n_ (L : List Cn) (n : Nat) (c : Nat) (hn : n ≤ L.length) (hr : right (L.take n) = false) : Fn Tryd.prog 5 [.int .i64 1, .sl 0 n c] [some (.lst 5 L.length (fun zz => cc (L.getD zz Cn.z)))] (Rt (.tup [.str [], .int .i64 22]) [some (.lst 5 L.length (fun zz => cc (L.getD zz Cn.z)))]) :=
 enterM (n := 20) (by kernel_rfl) Tryd.func5 rfl rfl rfl fun G w a h0 A => N hX 9 A rfl rfl fun A => CALL1 [] regs1_ A rfl rfl rfl rfl rfl rfl rfl fun A => N hX 8 A rfl rfl fun A => NILR hX A rfl rfl (by omega) fun A => N hX 9 A rfl rfl fun A => CALL1 [0] (pright_ L n c hn) A rfl rfl rfl rfl rfl rfl rfl fun A => N hX 3 A rfl rfl fun A => fork 14 A rfl
  (fun h1 A => N hX 8 A rfl rfl fun A => RETN hX A rfl rfl rfl h0 rfl rfl rfl rfl rfl rfl)
  (fun h1 A => absurd h1 (by rw [hr]; decide))
theorem print2_ (L : List Cn) (n : Nat) (c : Nat) (b : Nat) (o : Obj) (hT : ∀ w : World, w.heap[b]? = some o → Lib.TabIs Tryd.prog w "internal/strconv.uint64pow10" .u64 Lib.pow10Tab) (hn : n ≤ L.length) (hN : n ≤ 1000000) (hr : right (L.take n) = true) (hv : ∀ q, -9223372036854775808 ≤ (L.getD q Cn.z).vl ∧ (L.getD q Cn.z).vl ≤ 9223372036854775807) (hl : ∀ i q, ((foldP (rgL nfV) ((L.take n).take i)).getD q pz).1.length ≤ 1000000) : Fn Tryd.prog 5 [.int .i64 2, .sl 0 n c] [some (.lst 5 L.length (fun zz => cc (L.getD zz Cn.z))), some (.fac b o)] (Rt (.tup [.str (((foldP (rgL nfV) (L.take n)).getD 0 pz).1), .int .i64 0]) [some (.lst 5 L.length (fun zz => cc (L.getD zz Cn.z))), some (.fac b o)]) :=
 enterM (n := 20) (by kernel_rfl) Tryd.func5 rfl rfl rfl fun G w a h0 A => N hX 9 A rfl rfl fun A => CALL1 [] regs2_ A rfl rfl rfl rfl rfl rfl rfl fun A => N hX 8 A rfl rfl fun A => NILR hX A rfl rfl (by omega) fun A => N hX 9 A rfl rfl fun A => CALL1 [0] (pright_ L n c hn) A rfl rfl rfl rfl rfl rfl rfl fun A => N hX 3 A rfl rfl fun A => fork 14 A rfl
  (fun h1 A => absurd h1 (by rw [hr]; decide))
  (fun h1 A => N hX 7 A rfl rfl fun A => CALL1 [0, 3, 2, 1] (foldp_ (rgL nfV) L n c b o hT hn hN hr hv hl (rgL_len nfV_len) (by decide)) A rfl rfl rfl rfl rfl rfl rfl fun A => N hX 13 A rfl rfl fun A => RETN hX A rfl rfl rfl h0 rfl rfl rfl rfl rfl rfl)
theorem print2n_ (L : List Cn) (n : Nat) (c : Nat) (hn : n ≤ L.length) (hr : right (L.take n) = false) : Fn Tryd.prog 5 [.int .i64 2, .sl 0 n c] [some (.lst 5 L.length (fun zz => cc (L.getD zz Cn.z)))] (Rt (.tup [.str [], .int .i64 22]) [some (.lst 5 L.length (fun zz => cc (L.getD zz Cn.z)))]) :=
 enterM (n := 20) (by kernel_rfl) Tryd.func5 rfl rfl rfl fun G w a h0 A => N hX 9 A rfl rfl fun A => CALL1 [] regs2_ A rfl rfl rfl rfl rfl rfl rfl fun A => N hX 8 A rfl rfl fun A => NILR hX A rfl rfl (by omega) fun A => N hX 9 A rfl rfl fun A => CALL1 [0] (pright_ L n c hn) A rfl rfl rfl rfl rfl rfl rfl fun A => N hX 3 A rfl rfl fun A => fork 14 A rfl
  (fun h1 A => N hX 8 A rfl rfl fun A => RETN hX A rfl rfl rfl h0 rfl rfl rfl rfl rfl rfl)
  (fun h1 A => absurd h1 (by rw [hr]; decide))
theorem print3_ (L : List Cn) (n : Nat) (c : Nat) (b : Nat) (o : Obj) (hT : ∀ w : World, w.heap[b]? = some o → Lib.TabIs Tryd.prog w "internal/strconv.uint64pow10" .u64 Lib.pow10Tab) (hn : n ≤ L.length) (hN : n ≤ 1000000) (hr : right (L.take n) = true) (hv : ∀ q, -9223372036854775808 ≤ (L.getD q Cn.z).vl ∧ (L.getD q Cn.z).vl ≤ 9223372036854775807) (hl : ∀ i q, ((foldP (rgL nfA) ((L.take n).take i)).getD q pz).1.length ≤ 1000000) : Fn Tryd.prog 5 [.int .i64 3, .sl 0 n c] [some (.lst 5 L.length (fun zz => cc (L.getD zz Cn.z))), some (.fac b o)] (Rt (.tup [.str (((foldP (rgL nfA) (L.take n)).getD 0 pz).1), .int .i64 0]) [some (.lst 5 L.length (fun zz => cc (L.getD zz Cn.z))), some (.fac b o)]) :=
 enterM (n := 20) (by kernel_rfl) Tryd.func5 rfl rfl rfl fun G w a h0 A => N hX 9 A rfl rfl fun A => CALL1 [] regs3_ A rfl rfl rfl rfl rfl rfl rfl fun A => N hX 8 A rfl rfl fun A => NILR hX A rfl rfl (by omega) fun A => N hX 9 A rfl rfl fun A => CALL1 [0] (pright_ L n c hn) A rfl rfl rfl rfl rfl rfl rfl fun A => N hX 3 A rfl rfl fun A => fork 14 A rfl
  (fun h1 A => absurd h1 (by rw [hr]; decide))
  (fun h1 A => N hX 7 A rfl rfl fun A => CALL1 [0, 3, 2, 1] (foldp_ (rgL nfA) L n c b o hT hn hN hr hv hl (rgL_len nfA_len) (by decide)) A rfl rfl rfl rfl rfl rfl rfl fun A => N hX 13 A rfl rfl fun A => RETN hX A rfl rfl rfl h0 rfl rfl rfl rfl rfl rfl)
theorem print3n_ (L : List Cn) (n : Nat) (c : Nat) (hn : n ≤ L.length) (hr : right (L.take n) = false) : Fn Tryd.prog 5 [.int .i64 3, .sl 0 n c] [some (.lst 5 L.length (fun zz => cc (L.getD zz Cn.z)))] (Rt (.tup [.str [], .int .i64 22]) [some (.lst 5 L.length (fun zz => cc (L.getD zz Cn.z)))]) :=
 enterM (n := 20) (by kernel_rfl) Tryd.func5 rfl rfl rfl fun G w a h0 A => N hX 9 A rfl rfl fun A => CALL1 [] regs3_ A rfl rfl rfl rfl rfl rfl rfl fun A => N hX 8 A rfl rfl fun A => NILR hX A rfl rfl (by omega) fun A => N hX 9 A rfl rfl fun A => CALL1 [0] (pright_ L n c hn) A rfl rfl rfl rfl rfl rfl rfl fun A => N hX 3 A rfl rfl fun A => fork 14 A rfl
  (fun h1 A => N hX 8 A rfl rfl fun A => RETN hX A rfl rfl rfl h0 rfl rfl rfl rfl rfl rfl)
  (fun h1 A => absurd h1 (by rw [hr]; decide))
theorem itoa1 : Lib.itoa 1 = [49] := by unfold Lib.itoa; rw [if_neg (by decide)]; show Lib.decDigits 1 = _; unfold Lib.decDigits; rfl
theorem fp0 (R : List (List UInt8)) : foldP R [] = [] := rfl
theorem fp1 (R : List (List UInt8)) : foldP R [aC] = [([120, 61, 49], 2)] := by
  show stepP R aC [] = _
  have : wr0 R aC.kd aC.th aC.rg aC.lc aC.vl [] 0 0 = [120, 61] ++ Lib.itoa 1 := rfl
  show [] ++ [(wr0 R aC.kd aC.th aC.rg aC.lc aC.vl [] 0 0, 2)] = _
  rw [this, itoa1]; rfl
theorem fp2 (R : List (List UInt8)) : foldP R [aC, nC] = [([126, 120, 61, 49], 3)] := by
  have : foldP R [aC, nC] = stepP R nC (foldP R [aC]) := rfl
  rw [this, fp1]; rfl
theorem fpl (R : List (List UInt8)) : ∀ i q, ((foldP R (([aC, nC].take 2).take i)).getD q pz).1.length ≤ 1000000 := by
  intro i q
  have hi : ([aC, nC].take 2).take i = [] ∨ ([aC, nC].take 2).take i = [aC] ∨ ([aC, nC].take 2).take i = [aC, nC] := by
    rcases i with _ | _ | i
    · exact .inl rfl
    · exact .inr (.inl rfl)
    · exact .inr (.inr (List.take_of_length_le (by simp)))
  rcases hi with h | h | h <;> rw [h]
  · rw [fp0]; show (pz.1).length ≤ _; decide
  · rw [fp1]; rcases q with _ | q
    · decide
    · show (pz.1).length ≤ _; decide
  · rw [fp2]; rcases q with _ | q
    · decide
    · show (pz.1).length ≤ _; decide
theorem vA : ∀ q, -9223372036854775808 ≤ ([aC, nC].getD q Cn.z).vl ∧ ([aC, nC].getD q Cn.z).vl ≤ 9223372036854775807 := fun q => by
  rcases q with _ | _ | q
  · decide
  · decide
  · show -9223372036854775808 ≤ Cn.z.vl ∧ Cn.z.vl ≤ 9223372036854775807; decide
theorem printA_ (b : Nat) (o : Obj) (hT : ∀ w : World, w.heap[b]? = some o → Lib.TabIs Tryd.prog w "internal/strconv.uint64pow10" .u64 Lib.pow10Tab) : Fn Tryd.prog 5 [.int .i64 1, .sl 0 2 2] [some (.lst 5 ([aC, nC].length) (fun zz => cc ([aC, nC].getD zz Cn.z))), some (.fac b o)] (Rt (.tup [.str [126, 120, 61, 49], .int .i64 0]) [some (.lst 5 ([aC, nC].length) (fun zz => cc ([aC, nC].getD zz Cn.z))), some (.fac b o)]) :=
  fn_asX (print1_ [aC, nC] 2 2 b o hT (by decide) (by decide) rfl vA (fpl _)) fun _ => by rw [show ([aC, nC] : List Cn).take 2 = [aC, nC] from rfl, fp2]; rfl
theorem able_ (b : Nat) (o : Obj) (hT : ∀ w : World, w.heap[b]? = some o → Lib.TabIs Tryd.prog w "internal/strconv.uint64pow10" .u64 Lib.pow10Tab) : Fn Tryd.prog 4 [] [some (.fac b o)] (Rt (.tt) [some (.fac b o)]) :=
 enterM (n := 55) (by kernel_rfl) Tryd.func4 rfl rfl rfl fun G w a h0 A => N hX 17 A rfl rfl fun A => have A := A.asT Cn.z cc 5 tyC.1 tyC.2.1 tyC.2.2 [aC, nC] 2 rfl; CALL1 [2, 0] (printA_ b o hT) A rfl rfl rfl rfl rfl rfl rfl fun A => N hX 15 A rfl rfl fun A => have A := A.asT Cn.z cc 5 tyC.1 tyC.2.1 tyC.2.2 [aC] 3 rfl; have A := A.asT oz oc 27 tyO.1 tyO.2.1 tyO.2.2 o2 4 rfl; CALL1 [3, 4] judgeA_ A rfl rfl rfl rfl rfl rfl rfl fun A => N hX 13 A rfl rfl fun A => forkE 26 A rfl
  (fun h1 A => N hX 4 A rfl rfl fun A => forkE 30 A rfl
   (fun h2 A => N hX 4 A rfl rfl fun A => forkE 34 A rfl
    (fun h3 A => N hX 9 A rfl rfl fun A => forkE 43 A rfl
     (fun h4 A => N hX 7 A rfl (ok_d (by omega) <| ok_d (by omega) <| okE_nil) fun A => forkE 50 A rfl
      (fun h5 A => N hX 2 A rfl rfl fun A => have A := A.asT Cn.z cc 5 tyC.1 tyC.2.1 tyC.2.2 [aC] 6 rfl; CALL1 [6] (rightA_ 1) A rfl rfl rfl rfl rfl rfl rfl fun A => N hX 5 A rfl rfl fun A => RETN hX A rfl rfl rfl h0 rfl rfl rfl rfl rfl rfl)
      (fun h5 A => absurd rfl h5))
     (fun h4 A => absurd rfl h4))
    (fun h3 A => absurd rfl h3))
   (fun h2 A => absurd rfl h2))
  (fun h1 A => absurd rfl h1)
end Go.Proofs.YtedlaclfhgneeabDoor
namespace Go.Proofs.YtedlaclfhgneeabDoor
open Go.RowKit
set_option linter.unusedVariables false
set_option linter.unusedSimpArgs false
set_option linter.unusedSectionVars false
section
variable {P : Program} {n : Nat} {ks : List Nat} {G0 : Gr} {w0 : World} {T : List (Nat × SV)} {H : Hp} {ops : Array Oper} {o : Oper}
theorem conv1E {x : Operand} {s t e i c : Nat} {d : Int} (b : UInt8) (hg : guardS ops T o.guard = some .run) (hop : o.op = .convert s t x) (hx : evS T x = some (.sl i 1 c)) (hH : lg H i = some (some (.blk [.int .u8 d]))) (hs : P.underlying s = some (.slice e)) (he : P.underlying e = some (.int .u8)) (ht : P.underlying t = some .string) (hd : d = ((b.toNat : Nat) : Int)) : EffOK P n ops ks G0 w0 T H o (.str [b]) H := fun G a w A => by
  have hw := gd_run (gd := none) A hg
  obtain ⟨ds, op, ty, ps, af, gd⟩ := o
  simp only at hop
  subst hop
  have h1 := A.ev hx
  rw [lg_is] at hH
  obtain ⟨L, vs, h2, h3, h4⟩ := A.mem.ent i _ hH
  have hGi : G[i]? = some (some L) := by
    cases hq : G[i]? with
    | none => rw [hq] at h2; cases h2
    | some p => rw [hq] at h2; simp at h2; rw [h2]
  have hv : vs = [.int .u8 d] := by have : denL G [.int .u8 d] = some [.int .u8 d] := rfl; rw [this] at h3; exact (Option.some.inj h3).symm
  subst hv
  unfold den at h1
  rw [hGi] at h1
  have h1 := (Option.some.inj h1).symm
  refine does_val (w' := w) hw ?_ ⟨[], rfl, by rw [List.append_nil]; exact A.ms⟩
  have hr := Lib.run_convert_whole (P := P) w s e t hs he ht L.b L.pre.length (S [b]) (fun k hk => by
    have h0 : k = 0 := by have : (S [b]).size = 1 := rfl; omega
    subst h0
    refine h4.cell ?_
    rw [List.getElem?_toArray, List.append_assoc, List.getElem?_append_right (by omega), show L.pre.length + 0 - L.pre.length = 0 by omega, hd]
    rfl) (c + rm (some L))
  have hsz : (S [b]).size = 1 := rfl
  rw [hsz] at hr
  unfold execOp
  simp only [Option.map_some] at h1
  simp only [h1, Sem.run_bind, hr, Result.andThen_ok, Sem.run_pure]
end
def dinv (n m : Int) (l : List UInt8) : Prop := (l = [] ∧ m = n) ∨ (l ≠ [] ∧ Lib.decDigits n.natAbs = if m = 0 then l else Lib.decDigits m.natAbs ++ l)
def dgB (m : Int) : UInt8 := UInt8.ofNat (48 + m.natAbs % 10)
theorem abs_quo (m : Int) : (m.tdiv 10).natAbs = m.natAbs / 10 := Int.natAbs_tdiv m 10
theorem dg_cons (m : Int) : Lib.decDigits m.natAbs = (if m.tdiv 10 = 0 then [] else Lib.decDigits (m.tdiv 10).natAbs) ++ [dgB m] := by
  have hq := abs_quo m
  rw [Lib.decDigits]
  by_cases h : m.natAbs < 10
  · have h0 : m.tdiv 10 = 0 := Int.natAbs_eq_zero.1 (by rw [hq]; omega)
    rw [dif_pos h, if_pos h0]
    unfold dgB
    rw [Nat.mod_eq_of_lt h]; rfl
  · have h0 : ¬ m.tdiv 10 = 0 := fun e => by rw [e] at hq; simp at hq; omega
    rw [dif_neg h, if_neg h0, hq]; rfl
theorem dinv_go {n m : Int} {l : List UInt8} (h : dinv n m l) (hc : l = [] ∨ m ≠ 0) : dinv n (m.tdiv 10) (dgB m :: l) := by
  refine .inr ⟨by simp, ?_⟩
  have hd := dg_cons m
  rcases h with ⟨rfl, rfl⟩ | ⟨hl, he⟩
  · rw [hd]; split <;> simp
  · have hm : m ≠ 0 := hc.resolve_left hl
    rw [he, if_neg hm, hd]
    split <;> simp
theorem dinv_end {n : Int} {l : List UInt8} (h : dinv n 0 l) (hl : l ≠ []) : l = Lib.decDigits n.natAbs := by
  rcases h with ⟨h1, _⟩ | ⟨_, h⟩
  · exact absurd h1 hl
  · rw [h]; simp
theorem itoa_neg {n : Int} (h : n < 0) : Lib.itoa n = 45 :: Lib.decDigits n.natAbs := by unfold Lib.itoa; rw [if_pos h]
theorem itoa_pos {n : Int} (h : ¬ n < 0) : Lib.itoa n = Lib.decDigits n.natAbs := by unfold Lib.itoa; rw [if_neg h]; congr 1; omega
theorem tmod_abs (m : Int) : (m.tmod 10).natAbs = m.natAbs % 10 := Int.natAbs_tmod m 10
theorem dg_p {m : Int} (h : ¬ m.tmod 10 < 0) : m.tmod 10 = ((m.natAbs % 10 : Nat) : Int) := by have := tmod_abs m; omega
theorem dg_n {m : Int} (h : m.tmod 10 < 0) : IntKind.wrap .i64 (0 - m.tmod 10) = ((m.natAbs % 10 : Nat) : Int) := by
  have h1 := tmod_abs m
  have h2 : 0 - m.tmod 10 = ((m.natAbs % 10 : Nat) : Int) := by omega
  rw [h2]
  have h3 : m.natAbs % 10 < 10 := Nat.mod_lt _ (by decide)
  simp only [IntKind.wrap, IntKind.signed, IntKind.bits]; simp; omega
theorem by_of (m : Int) : IntKind.wrap .u8 (48 + ((m.natAbs % 10 : Nat) : Int)) = (((dgB m).toNat : Nat) : Int) := by
  have h3 : m.natAbs % 10 < 10 := Nat.mod_lt _ (by decide)
  unfold dgB
  rw [UInt8.toNat_ofNat']
  simp only [IntKind.wrap, IntKind.signed, IntKind.bits]; simp <;> omega
theorem quo_w {m : Int} (h1 : -9223372036854775808 ≤ m) (h2 : m ≤ 9223372036854775807) : IntKind.wrap .i64 (Int.tdiv m 10) = m.tdiv 10 := by
  have := abs_quo m
  simp only [IntKind.wrap, IntKind.signed, IntKind.bits]; simp; omega
structure DI (n m : Int) (l : List UInt8) : Prop where
  d : dinv n m l
  a : -9223372036854775808 ≤ m
  b : m ≤ 9223372036854775807
  s : l.length ≤ 25
theorem DI.i0 {n : Int} (h1 : -9223372036854775808 ≤ n) (h2 : n ≤ 9223372036854775807) : DI n n [] := ⟨.inl ⟨rfl, rfl⟩, h1, h2, by simp⟩
theorem DI.nx {n m : Int} {l : List UInt8} (h : DI n m l) (h1 : -9223372036854775808 ≤ n) (h2 : n ≤ 9223372036854775807) (hc : (l == [] || !(m == 0)) = true) : DI n (IntKind.wrap .i64 (Int.tdiv m 10)) ([dgB m] ++ l) := by
  have hc' : l = [] ∨ m ≠ 0 := by
    rcases Bool.or_eq_true_iff.1 hc with h | h
    · exact .inl (by simpa using h)
    · exact .inr (by simpa using h)
  rw [quo_w h.a h.b]
  have hq := abs_quo m
  have ha := h.a; have hb := h.b
  have hd := dinv_go h.d hc'
  refine ⟨hd, by omega, by omega, ?_⟩
  have hl : ([dgB m] ++ l).length ≤ (Lib.decDigits n.natAbs).length := by
    rcases hd with ⟨h, _⟩ | ⟨_, h⟩
    · cases h
    · rw [h]; split
      · exact Nat.le_refl _
      · simp only [List.length_append, List.length_cons, List.length_nil]; omega
  have hi := Lib.itoa_length_le n h1 h2
  have : (Lib.decDigits n.natAbs).length ≤ (Lib.itoa n).length := by
    by_cases h : n < 0
    · rw [itoa_neg h]; simp
    · rw [itoa_pos h]; exact Nat.le_refl _
  omega
theorem DI.ms {n m : Int} {l : List UInt8} (h : DI n m l) (hc : (l == [] || !(m == 0)) = true) : (IntKind.wrap .i64 (Int.tdiv m 10)).natAbs + (if [dgB m] ++ l = [] then 1 else 0) < m.natAbs + (if l = [] then 1 else 0) := by
  rw [quo_w h.a h.b, if_neg (by simp), abs_quo]
  rcases Bool.or_eq_true_iff.1 hc with h | h
  · rw [if_pos (by simpa using h)]; omega
  · have : m ≠ 0 := by simpa using h
    have : 0 < m.natAbs := Int.natAbs_pos.2 this
    omega
theorem DI.fi {n m : Int} {l : List UInt8} (h : DI n m l) (hc : (l == [] || !(m == 0)) = false) : l = Lib.decDigits n.natAbs := by
  obtain ⟨h1, h2⟩ := Bool.or_eq_false_iff.1 hc
  have hm : m = 0 := by simpa using h2
  subst hm
  exact dinv_end h.d (by simpa using h1)
end Go.Proofs.YtedlaclfhgneeabDoor
namespace Go.Proofs.YtedlaclfhgneeabDoor
open Go.RowKit
set_option linter.unusedVariables false
set_option linter.unusedSimpArgs false
set_option maxRecDepth 100000
set_option maxHeartbeats 2000000
set_option simprocs false
theorem digits_ (v : Int) (h1 : -9223372036854775808 ≤ v) (h2 : v ≤ 9223372036854775807) : Fn Tryd.prog 30 [.int .i64 v] [] (Rt (.str (Lib.itoa v)) []) :=
 enterM (n := 33) (by kernel_rfl) Tryd.func30 rfl rfl rfl fun G w a h0 A => N hX 18 A rfl rfl fun A => LOOP2 (fun (m : Int) (l : List UInt8) => [(0, .int .i64 v), (2, .str []), (3, .str l), (4, .int .i64 m)]) (fun (m : Int) (l : List UInt8) => []) (fun (m : Int) (l : List UInt8) => DI v m l) (fun (m : Int) (l : List UInt8) => m.natAbs + (if l = [] then 1 else 0)) v [] (DI.i0 h1 h2) ((A.cut [0, 2, 3, 4] rfl).trunc 0 rfl rfl rfl (by simp only [List.length_cons, List.length_nil] at h0; omega)) fun m l hI {G a w} A => N hX 11 A rfl rfl fun A => fork 12 A rfl
   (fun h11 A => N hX 14 A rfl (ok_d (by (try simp only [List.length_append, List.length_cons, List.length_nil]); have := hI.s; omega) <| okE_nil) fun A => N hX 5 A rfl rfl fun A => forkD 18 A rfl
    (fun h12 A => N hX 12 A rfl (ok_d (by have hz := dg_n h12; have hy : m.natAbs % 10 < 10 := Nat.mod_lt _ (by decide); (try simp only [List.length_append, List.length_cons, List.length_nil]); have := hI.s; omega) <| okE_nil) fun A => q_eff A rfl (conv1E (e := 5) (dgB m) rfl rfl rfl rfl (by kernel_rfl) (by kernel_rfl) (by kernel_rfl) (by rw [dg_n h12]; exact by_of m)) fun A => N hX 6 A rfl (ok_d (by have hz := dg_n h12; have hy : m.natAbs % 10 < 10 := Nat.mod_lt _ (by decide); (try simp only [List.length_append, List.length_cons, List.length_nil]); have := hI.s; omega) <| okE_nil) fun A => N hX 5 A rfl (ok_d (by have hz := dg_n h12; have hy : m.natAbs % 10 < 10 := Nat.mod_lt _ (by decide); (try simp only [List.length_append, List.length_cons, List.length_nil]); have := hI.s; omega) <| okE_nil) fun A => ⟨IntKind.wrap .i64 (Int.tdiv m 10), [dgB m] ++ l, _, (hI.ms h11), (hI.nx h1 h2 h11), ((A.cut [0, 2, 3, 4] rfl).trunc 0 rfl rfl rfl (by simp only [List.length_cons, List.length_nil] at h0; omega))⟩)
    (fun h12 A => N hX 8 A rfl (ok_d (by have hz := dg_p h12; have hy : m.natAbs % 10 < 10 := Nat.mod_lt _ (by decide); (try simp only [List.length_append, List.length_cons, List.length_nil]); have := hI.s; omega) <| okE_nil) fun A => q_eff A rfl (conv1E (e := 5) (dgB m) rfl rfl rfl rfl (by kernel_rfl) (by kernel_rfl) (by kernel_rfl) (by rw [dg_p h12]; exact by_of m)) fun A => N hX 6 A rfl (ok_d (by have hz := dg_p h12; have hy : m.natAbs % 10 < 10 := Nat.mod_lt _ (by decide); (try simp only [List.length_append, List.length_cons, List.length_nil]); have := hI.s; omega) <| okE_nil) fun A => N hX 5 A rfl (ok_d (by have hz := dg_p h12; have hy : m.natAbs % 10 < 10 := Nat.mod_lt _ (by decide); (try simp only [List.length_append, List.length_cons, List.length_nil]); have := hI.s; omega) <| okE_nil) fun A => ⟨IntKind.wrap .i64 (Int.tdiv m 10), [dgB m] ++ l, _, (hI.ms h11), (hI.nx h1 h2 h11), ((A.cut [0, 2, 3, 4] rfl).trunc 0 rfl rfl rfl (by simp only [List.length_cons, List.length_nil] at h0; omega))⟩))
   (fun h11 A => N hX 10 A rfl rfl fun A => forkD 29 A rfl
    (fun h13 A => N hX 8 A rfl (ok_d (by (try simp only [List.length_append, List.length_cons, List.length_nil]); have := hI.s; omega) <| okE_nil) fun A => N hX 6 A rfl rfl fun A => RETN hX A rfl rfl rfl h0 rfl rfl rfl rfl (by rw [itoa_neg h13, ← hI.fi h11]; rfl) rfl)
    (fun h13 A => N hX 10 A rfl rfl fun A => RETN hX A rfl rfl rfl h0 rfl rfl rfl rfl (by rw [itoa_pos h13, ← hI.fi h11]; rfl) rfl))
def rname0 (ar : Int) (g : Int) : List UInt8 := if ((decide (g < 0)) || (decide (g > 7))) = true then [] else if ar = 1 then [[82, 65, 88], [82, 66, 88], [82, 67, 88], [82, 68, 88], [82, 83, 73], [82, 68, 73], [82, 56], [82, 57]].getD (g).toNat [] else if ar = 2 then [97] ++ (([48, 49, 50, 51, 52, 53, 54, 55].take (g + 1).toNat).drop (g).toNat) else if ar = 3 then [88] ++ (([48, 49, 50, 51, 52, 53, 54, 55].take (g + 1).toNat).drop (g).toNat) else []
theorem rname_ (ar : Int) (g : Int)  : Fn Tryd.prog 31 [.int .i64 ar, .int .i64 g] [] (Rt (.str (rname0 ar g)) []) :=
 enterM (n := 37) (by kernel_rfl) Tryd.func31 rfl rfl rfl fun G w a h0 A => N hX 16 A rfl rfl fun A => fork 12 A rfl
  (fun h1 A => N hX 7 A rfl rfl fun A => RETN hX A rfl rfl rfl h0 rfl rfl rfl rfl (by simp only [oneS, nb, nbL, nbH, rname0, if_pos h1]) rfl)
  (fun h1 A => N hX 27 A rfl rfl fun A => forkE 15 A rfl
   (fun h2 A => N hX 11 A rfl (ok_d (by have hz := h1; simp only [Bool.or_eq_false_iff, decide_eq_false_iff_not] at hz; (try simp only [List.length_cons, List.length_nil, List.length_drop, List.length_take]); omega) <| ok_d (by have hz := h1; simp only [Bool.or_eq_false_iff, decide_eq_false_iff_not] at hz; (try simp only [List.length_cons, List.length_nil, List.length_drop, List.length_take]); omega) <| okE_nil) fun A => RETN hX A rfl rfl rfl h0 rfl rfl rfl rfl (by simp only [oneS, nb, nbL, nbH, rname0, if_neg (ne_true_of_eq_false h1), if_pos h2]) rfl)
   (fun h2 A => N hX 7 A rfl rfl fun A => forkE 21 A rfl
    (fun h3 A => N hX 13 A rfl (ok_d (by have hz := h1; simp only [Bool.or_eq_false_iff, decide_eq_false_iff_not] at hz; (try simp only [List.length_cons, List.length_nil, List.length_drop, List.length_take]); omega) <| ok_d (by have hz := h1; simp only [Bool.or_eq_false_iff, decide_eq_false_iff_not] at hz; (try simp only [List.length_cons, List.length_nil, List.length_drop, List.length_take]); omega) <| ok_d (by have hz := h1; simp only [Bool.or_eq_false_iff, decide_eq_false_iff_not] at hz; (try simp only [List.length_cons, List.length_nil, List.length_drop, List.length_take]); omega) <| okE_nil) fun A => RETN hX A rfl rfl rfl h0 rfl rfl rfl rfl (by simp only [oneS, nb, nbL, nbH, rname0, if_neg (ne_true_of_eq_false h1), if_neg (h2), if_pos h3]) rfl)
    (fun h3 A => N hX 7 A rfl rfl fun A => forkE 29 A rfl
     (fun h4 A => N hX 13 A rfl (ok_d (by have hz := h1; simp only [Bool.or_eq_false_iff, decide_eq_false_iff_not] at hz; (try simp only [List.length_cons, List.length_nil, List.length_drop, List.length_take]); omega) <| ok_d (by have hz := h1; simp only [Bool.or_eq_false_iff, decide_eq_false_iff_not] at hz; (try simp only [List.length_cons, List.length_nil, List.length_drop, List.length_take]); omega) <| ok_d (by have hz := h1; simp only [Bool.or_eq_false_iff, decide_eq_false_iff_not] at hz; (try simp only [List.length_cons, List.length_nil, List.length_drop, List.length_take]); omega) <| okE_nil) fun A => RETN hX A rfl rfl rfl h0 rfl rfl rfl rfl (by simp only [oneS, nb, nbL, nbH, rname0, if_neg (ne_true_of_eq_false h1), if_neg (h2), if_neg (h3), if_pos h4]) rfl)
     (fun h4 A => N hX 10 A rfl rfl fun A => RETN hX A rfl rfl rfl h0 rfl rfl rfl rfl (by simp only [oneS, nb, nbL, nbH, rname0, if_neg (ne_true_of_eq_false h1), if_neg (h2), if_neg (h3), if_neg (h4)]) rfl))))
theorem lname_ (g : Int) (hr : 0 ≤ g ∧ g < 3) : Fn Tryd.prog 32 [.int .i64 g] [] (Rt (.str (([120, 121, 122].take (g + 1).toNat).drop (g).toNat)) []) :=
 enterM (n := 7) (by kernel_rfl) Tryd.func32 rfl rfl rfl fun G w a h0 A => N hX 15 A rfl (ok_d (by (try simp only [List.length_cons, List.length_nil]); omega) <| ok_d (by (try simp only [List.length_cons, List.length_nil]); omega) <| okE_nil) fun A => RETN hX A rfl rfl rfl h0 rfl rfl rfl rfl rfl rfl
def level0 (kd : Int) (th : Int) (rg : Int) (lc : Int) (vl : Int) : Int := if kd = 5 then 0 else if kd = 4 then 1 else if kd = 3 then 2 else 3
theorem level_ (kd : Int) (th : Int) (rg : Int) (lc : Int) (vl : Int)  : Fn Tryd.prog 47 [.agg [.int .i64 kd, .int .i64 th, .int .i64 rg, .int .i64 lc, .int .i64 vl]] [] (Rt (.int .i64 (level0 kd th rg lc vl)) []) :=
 enterM (n := 11) (by kernel_rfl) Tryd.func47 rfl rfl rfl fun G w a h0 A => N hX 20 A rfl rfl fun A => forkE 5 A rfl
  (fun h1 A => N hX 7 A rfl rfl fun A => RETN hX A rfl rfl rfl h0 rfl rfl rfl rfl (by simp only [oneS, nb, nbL, nbH, level0, if_pos h1]) rfl)
  (fun h1 A => N hX 7 A rfl rfl fun A => forkE 7 A rfl
   (fun h2 A => N hX 7 A rfl rfl fun A => RETN hX A rfl rfl rfl h0 rfl rfl rfl rfl (by simp only [oneS, nb, nbL, nbH, level0, if_neg (h1), if_pos h2]) rfl)
   (fun h2 A => N hX 7 A rfl rfl fun A => forkE 9 A rfl
    (fun h3 A => N hX 7 A rfl rfl fun A => RETN hX A rfl rfl rfl h0 rfl rfl rfl rfl (by simp only [oneS, nb, nbL, nbH, level0, if_neg (h1), if_neg (h2), if_pos h3]) rfl)
    (fun h3 A => N hX 10 A rfl rfl fun A => RETN hX A rfl rfl rfl h0 rfl rfl rfl rfl (by simp only [oneS, nb, nbL, nbH, level0, if_neg (h1), if_neg (h2), if_neg (h3)]) rfl)))
end Go.Proofs.YtedlaclfhgneeabDoor
namespace Go.Proofs.YtedlaclfhgneeabDoor
open Go.RowKit
set_option linter.unusedVariables false
set_option linter.unusedSimpArgs false
set_option linter.unusedSectionVars false
inductive Tr where
  | lf (c : Cn)
  | un (c : Cn) (t : Tr)
  | bi (c : Cn) (l r : Tr)
def Tr.c : Tr → Cn
  | .lf c => c
  | .un c _ => c
  | .bi c _ _ => c
def Tr.nd : Tr → Nat
  | .lf _ => 1
  | .un _ t => t.nd + 1
  | .bi _ l r => l.nd + r.nd + 1
def lvl (k : Int) : Int := if k = 5 then 0 else if k = 4 then 1 else if k = 3 then 2 else 3
def brk (s : List UInt8) (l k : Int) : List UInt8 := if l < k then ([40] ++ s) ++ [41] else s
def locT (g : Int) : List UInt8 := ([120, 121, 122].take (g + 1).toNat).drop (g).toNat
def tx (ar : Int) : Tr → List UInt8
  | .lf c => if c.kd = 1 then (((Lib.itoa c.th ++ [58]) ++ rname0 ar c.rg) ++ [61]) ++ Lib.itoa c.vl else (locT c.lc ++ [61]) ++ Lib.itoa c.vl
  | .un c t => [126] ++ brk (tx ar t) (lvl t.c.kd) 2
  | .bi c l r => if c.kd = 4 then (brk (tx ar l) (lvl l.c.kd) 1 ++ [32, 47, 92, 32]) ++ brk (tx ar r) (lvl r.c.kd) 2 else (brk (tx ar l) (lvl l.c.kd) 0 ++ [32, 92, 47, 32]) ++ brk (tx ar r) (lvl r.c.kd) 1
def okV (v : Int) : Prop := -9223372036854775808 ≤ v ∧ v ≤ 9223372036854775807
def Tr.ok : Tr → Prop
  | .lf c => ((c.kd = 1 ∧ 0 ≤ c.th ∧ c.th < 3 ∧ 0 ≤ c.rg ∧ c.rg < 8) ∨ (c.kd = 2 ∧ 0 ≤ c.lc ∧ c.lc < 3)) ∧ okV c.vl
  | .un c t => c.kd = 3 ∧ t.ok
  | .bi c l r => (c.kd = 4 ∨ c.kd = 5) ∧ l.ok ∧ r.ok
theorem rname_len (ar g : Int) : (rname0 ar g).length ≤ 9 := by
  unfold rname0
  split
  · simp
  · next h =>
    simp only [Bool.or_eq_true, decide_eq_true_eq, not_or, Int.not_lt] at h
    have hg : g = 0 ∨ g = 1 ∨ g = 2 ∨ g = 3 ∨ g = 4 ∨ g = 5 ∨ g = 6 ∨ g = 7 := by omega
    split
    · rcases hg with rfl | rfl | rfl | rfl | rfl | rfl | rfl | rfl <;> decide
    · split
      · rcases hg with rfl | rfl | rfl | rfl | rfl | rfl | rfl | rfl <;> decide
      · split
        · rcases hg with rfl | rfl | rfl | rfl | rfl | rfl | rfl | rfl <;> decide
        · decide
theorem loc_len (g : Int) : (locT g).length ≤ 3 := by unfold locT; simp; omega
theorem brk_len (s : List UInt8) (l k : Int) : (brk s l k).length ≤ s.length + 2 := by
  unfold brk; split <;> simp
theorem tx_len (ar : Int) : ∀ t : Tr, t.ok → (tx ar t).length ≤ 64 * t.nd
  | .lf c, h => by
    have h1 := Lib.itoa_length_le c.vl h.2.1 h.2.2
    have h2 := rname_len ar c.rg
    have h3 := loc_len c.lc
    unfold tx Tr.nd
    split
    · next hk =>
      have h4 : (Lib.itoa c.th).length ≤ 21 := Lib.itoa_length_le c.th (by rcases h.1 with h | h <;> omega) (by rcases h.1 with h | h <;> omega)
      simp only [List.length_append, List.length_cons, List.length_nil]; omega
    · simp only [List.length_append, List.length_cons, List.length_nil]; omega
  | .un c t, h => by
    have h1 := tx_len ar t h.2
    have h2 := brk_len (tx ar t) (lvl t.c.kd) 2
    unfold tx Tr.nd
    simp only [List.length_append, List.length_cons, List.length_nil]; omega
  | .bi c l r, h => by
    have h1 := tx_len ar l h.2.1
    have h2 := tx_len ar r h.2.2
    have h3 := brk_len (tx ar l) (lvl l.c.kd) 1
    have h4 := brk_len (tx ar r) (lvl r.c.kd) 2
    have h5 := brk_len (tx ar l) (lvl l.c.kd) 0
    have h6 := brk_len (tx ar r) (lvl r.c.kd) 1
    unfold tx Tr.nd
    split <;> (simp only [List.length_append, List.length_cons, List.length_nil]; omega)
/-! ### In memory -/
abbrev PA := Option (Nat × Nat)
def pv (p : PA) : Value := .pointer (p.map fun x => ⟨x.1, x.2, none⟩)
def vsT (c : Cn) (p q : PA) : List Value := [.int .i64 c.kd, .int .i64 c.th, .int .i64 c.rg, .int .i64 c.lc, .int .i64 c.vl, pv p, pv q]
def csT (c : Cn) (p q : PA) : List SV := [.int .i64 c.kd, .int .i64 c.th, .int .i64 c.rg, .int .i64 c.lc, .int .i64 c.vl, .v (pv p), .v (pv q)]
theorem csT_den (c : Cn) (p q : PA) : denL [] (csT c p q) = some (vsT c p q) := rfl
def TrAt (lo : Nat) : Tr → Nat → Nat → Amb
  | .lf c, b, o => fun w ks => lo ≤ b ∧ Lies b o (vsT c none none) w ks
  | .un c t, b, o => fun w ks => lo ≤ b ∧ ∃ b1 o1, Lies b o (vsT c (some (b1, o1)) none) w ks ∧ TrAt lo t b1 o1 w ks
  | .bi c l r, b, o => fun w ks => lo ≤ b ∧ ∃ b1 o1 b2 o2, Lies b o (vsT c (some (b1, o1)) (some (b2, o2))) w ks ∧ TrAt lo l b1 o1 w ks ∧ TrAt lo r b2 o2 w ks
theorem TrAt.ok {lo : Nat} : ∀ (t : Tr) (b o : Nat), Amb.OK (TrAt lo t b o)
  | .lf c, b, o => fun w ks w' ks' h m hk => ⟨h.1, h.2.go m hk⟩
  | .un c t, b, o => fun w ks w' ks' h m hk => by
    obtain ⟨h0, b1, o1, h1, h2⟩ := h
    exact ⟨h0, b1, o1, h1.go m hk, TrAt.ok t b1 o1 w ks w' ks' h2 m hk⟩
  | .bi c l r, b, o => fun w ks w' ks' h m hk => by
    obtain ⟨h0, b1, o1, b2, o2, h1, h2, h3⟩ := h
    exact ⟨h0, b1, o1, b2, o2, h1.go m hk, TrAt.ok l b1 o1 w ks w' ks' h2 m hk, TrAt.ok r b2 o2 w ks w' ks' h3 m hk⟩
theorem TrAt.root {lo : Nat} {t : Tr} {b o : Nat} {w : World} {ks : List Nat} (h : TrAt lo t b o w ks) : ∃ p q, Lies b o (vsT t.c p q) w ks := by
  cases t with
  | lf c => exact ⟨none, none, h.2⟩
  | un c t => obtain ⟨_, b1, o1, h1, _⟩ := h; exact ⟨_, _, h1⟩
  | bi c l r => obtain ⟨_, b1, o1, b2, o2, h1, _⟩ := h; exact ⟨_, _, h1⟩
theorem off1 {lo b : Nat} {ks' : List Nat} (hk : ∀ b, ks'.contains b = true → b < lo) (h : lo ≤ b) : ks'.contains b = false := by
  cases hc : ks'.contains b with
  | false => rfl
  | true => have := hk b hc; omega
theorem TrAt.off {lo : Nat} {w : World} {ks ks' : List Nat} (hk : ∀ b, ks'.contains b = true → b < lo) : ∀ (t : Tr) (b o : Nat), TrAt lo t b o w ks → TrAt lo t b o w ks'
  | .lf c, b, o, h => ⟨h.1, h.2.1, off1 hk h.1, h.2.2.2⟩
  | .un c t, b, o, h => by
    obtain ⟨h0, b1, o1, h1, h2⟩ := h
    exact ⟨h0, b1, o1, ⟨h1.1, off1 hk h0, h1.2.2⟩, TrAt.off hk t b1 o1 h2⟩
  | .bi c l r, b, o, h => by
    obtain ⟨h0, b1, o1, b2, o2, h1, h2, h3⟩ := h
    exact ⟨h0, b1, o1, b2, o2, ⟨h1.1, off1 hk h0, h1.2.2⟩, TrAt.off hk l b1 o1 h2, TrAt.off hk r b2 o2 h3⟩
/-! ### The stack of trees -/
abbrev PT := Nat × Nat × Tr
def tz : PT := (0, 0, .lf Cn.z)
def adT (p : PT) : SV := adr p.1 p.2.1
def mkT (c : Cn) (ts : List Tr) : Tr :=
  if parts0 c.kd = 1 then .un c (ts.getD (((ts.length : Nat) : Int) - 1).toNat (.lf Cn.z)) else
  if parts0 c.kd = 2 then .bi c (ts.getD (((ts.length : Nat) : Int) - 2).toNat (.lf Cn.z)) (ts.getD (((ts.length : Nat) : Int) - 1).toNat (.lf Cn.z)) else .lf c
def stepB (c : Cn) (ts : List Tr) : List Tr := ts.take (((ts.length : Nat) : Int) - parts0 c.kd).toNat ++ [mkT c ts]
def foldB (cs : List Cn) : List Tr := cs.foldl (fun l c => stepB c l) []
def trs (l : List PT) : List Tr := l.map (·.2.2)
structure BI (cs : List Cn) (l : List PT) (i : Nat) : Prop where
  lb : ∃ lb, EI oz cs lb i ∧ lb.length = l.length
  eq : trs l = foldB (cs.take i)
def AllT (lo : Nat) (l : List PT) (w : World) (ks : List Nat) : Prop := ∀ p ∈ l, TrAt lo p.2.2 p.1 p.2.1 w ks
theorem AllT.go {lo : Nat} {l : List PT} {w w' : World} {ks ks' : List Nat} (h : AllT lo l w ks) (m : Mix ks w w') (hk : ∀ b, ks'.contains b = true → ks.contains b = true ∨ w.heap.size ≤ b) : AllT lo l w' ks' := fun p hp => TrAt.ok _ _ _ _ _ _ _ (h p hp) m hk
theorem AllT.now {lo n : Nat} {T : List (Nat × SV)} {H : Hp} {ks : List Nat} {G0 : Gr} {w0 : World} {G : Gr} {a : Act} {w : World} {l : List PT} (h : AllT lo l w0 ks) (A : Sy n T H ks G0 w0 G a w) : AllT lo l w (keys H G) := h.go A.mix A.keys_own
section
variable {L : List Cn} {i : Nat} {l : List PT}
abbrev nodeAt (L : List Cn) (i : Nat) : Cn := L.getD ((i : Int)).toNat Cn.z
theorem BI.i0 (hr : right L = true) : BI L [] 0 := ⟨⟨[], EI.init (by rw [hr]; rfl), rfl⟩, by simp [foldB, trs]⟩
theorem BI.kn (hI : BI L l i) (h1 : (i : Int) < ((L.length : Nat) : Int)) : ¬ (nodeAt L i).n < 0 ∧ (nodeAt L i).n ≤ (l.length : Int) ∧ (nodeAt L i).n = parts0 (nodeAt L i).kd ∧ (((nodeAt L i).kd = 1 ∧ (nodeAt L i).n = 0 ∧ 0 ≤ (nodeAt L i).th ∧ (nodeAt L i).th < 3 ∧ 0 ≤ (nodeAt L i).rg ∧ (nodeAt L i).rg < 8) ∨ ((nodeAt L i).kd = 2 ∧ (nodeAt L i).n = 0 ∧ 0 ≤ (nodeAt L i).lc ∧ (nodeAt L i).lc < 3) ∨ ((nodeAt L i).kd = 3 ∧ (nodeAt L i).n = 1) ∨ ((nodeAt L i).kd = 4 ∧ (nodeAt L i).n = 2) ∨ ((nodeAt L i).kd = 5 ∧ (nodeAt L i).n = 2)) ∧ l.length ≤ i := by
  obtain ⟨lb, h2, h3⟩ := hI.lb
  rw [show L = L.take L.length by simp] at h2
  have := h2.kn (Nat.le_refl _) h1
  rw [h3] at this
  exact this
theorem BI.le (hI : BI L l i) : i ≤ L.length := by obtain ⟨lb, h2, _⟩ := hI.lb; exact h2.le
theorem BI.nx (hI : BI L l i) (hr : right L = true) (h1 : (i : Int) < ((L.length : Nat) : Int)) (b o : Nat) : BI L (l.take (((l.length : Nat) : Int) - (nodeAt L i).n).toNat ++ [(b, o, mkT (nodeAt L i) (trs l))]) (i + 1) := by
  obtain ⟨lb, h2, h3⟩ := hI.lb
  have k := hI.kn h1
  have h2' : EI oz (L.take L.length) lb i := by rw [List.take_length]; exact h2
  have k' := h2'.kn (Nat.le_refl _) h1
  have hn := h2'.nx (by rw [List.take_length]; exact hr) (Nat.le_refl _) h1
  rw [List.take_length] at hn
  refine ⟨⟨_, hn, ?_⟩, ?_⟩
  · rw [← fold_st (p := oz) (l := lb) k'.1 k'.2.1 k'.2.2.1 rfl]
    simp only [List.length_append, List.length_take, List.length_cons, List.length_nil, h3]
    have h5 := k.2.2.1
    have h6 := k.2.1
    have h7 := k.1
    simp only [nodeAt] at h5 h6 h7 ⊢
    omega
  · have hi : i < L.length := by omega
    rw [List.take_succ_eq_append_getElem hi, foldB, List.foldl_append, ← foldB, ← hI.eq]
    have e : L[i] = nodeAt L i := by simp [List.getD, hi]
    rw [e]
    have hl : (trs l).length = l.length := by simp [trs]
    show trs _ = stepB (nodeAt L i) (trs l)
    unfold stepB
    rw [hl, ← k.2.2.1]
    simp [trs, List.map_append, List.map_take]
theorem BI.fi (hI : BI L l i) (hr : right L = true) (h1 : ¬ (i : Int) < ((L.length : Nat) : Int)) : l.length = 1 ∧ trs l = foldB L := by
  obtain ⟨lb, h2, h3⟩ := hI.lb
  have := h2.fin h1
  have he := hI.eq
  rw [List.take_of_length_le (by omega)] at he
  exact ⟨by omega, he⟩
end
theorem getD_trs {l : List PT} {k : Nat} (h : k < l.length) : (trs l).getD k (.lf Cn.z) = (l.getD k tz).2.2 := by
  simp [trs, List.getD, h]
theorem AllT.at {lo : Nat} {l : List PT} {w : World} {ks : List Nat} (h : AllT lo l w ks) {k : Nat} (hk : k < l.length) : TrAt lo (l.getD k tz).2.2 (l.getD k tz).1 (l.getD k tz).2.1 w ks := by
  have : l.getD k tz ∈ l := by rw [List.getD_eq_getElem?_getD, List.getElem?_eq_getElem hk]; exact List.getElem_mem hk
  exact h _ this
theorem AllT.app {lo : Nat} {l : List PT} {w : World} {ks : List Nat} (h : AllT lo l w ks) {k b p : Nat} {t : Tr} (ht : TrAt lo t b p w ks) : AllT lo (l.take k ++ [(b, p, t)]) w ks := fun x hx => by
  rcases List.mem_append.1 hx with hx | hx
  · exact h x (List.mem_of_mem_take hx)
  · rw [List.mem_singleton.1 hx]; exact ht
section
variable {L : List Cn} {i lo : Nat} {l : List PT} {w : World} {ks : List Nat} {b p k : Nat}
theorem add0 (hB : BI L l i) (h1 : (i : Int) < ((L.length : Nat) : Int)) (h : AllT lo l w ks) (h2 : (nodeAt L i).n ≠ 1) (h3 : (nodeAt L i).n ≠ 2) (hlo : lo ≤ b) (hl : Lies b p (vsT (nodeAt L i) none none) w ks) : AllT lo (l.take k ++ [(b, p, mkT (nodeAt L i) (trs l))]) w ks := by
  have hk := hB.kn h1
  refine h.app ?_
  unfold mkT
  rw [← hk.2.2.1, if_neg h2, if_neg h3]
  exact ⟨hlo, hl⟩
theorem add1 (hB : BI L l i) (h1 : (i : Int) < ((L.length : Nat) : Int)) (h : AllT lo l w ks) (h2 : (nodeAt L i).n = 1) (hlo : lo ≤ b) (hl : Lies b p (vsT (nodeAt L i) (some ((l.getD (((l.length : Nat) : Int) - 1).toNat tz).1, (l.getD (((l.length : Nat) : Int) - 1).toNat tz).2.1)) none) w ks) : AllT lo (l.take k ++ [(b, p, mkT (nodeAt L i) (trs l))]) w ks := by
  have hk := hB.kn h1
  have hk1 := hk.2.1
  have hk3 := hk.2.2.1
  refine h.app ?_
  have hn : (((l.length : Nat) : Int) - 1).toNat < l.length := by omega
  unfold mkT
  rw [← hk3, if_pos h2, show (trs l).length = l.length by simp [trs], getD_trs hn]
  exact ⟨hlo, _, _, hl, h.at hn⟩
theorem add2 (hB : BI L l i) (h1 : (i : Int) < ((L.length : Nat) : Int)) (h : AllT lo l w ks) (h2 : (nodeAt L i).n = 2) (hlo : lo ≤ b) (hl : Lies b p (vsT (nodeAt L i) (some ((l.getD (((l.length : Nat) : Int) - 2).toNat tz).1, (l.getD (((l.length : Nat) : Int) - 2).toNat tz).2.1)) (some ((l.getD (((l.length : Nat) : Int) - 1).toNat tz).1, (l.getD (((l.length : Nat) : Int) - 1).toNat tz).2.1))) w ks) : AllT lo (l.take k ++ [(b, p, mkT (nodeAt L i) (trs l))]) w ks := by
  have hk := hB.kn h1
  have hk1 := hk.2.1
  have hk3 := hk.2.2.1
  refine h.app ?_
  have hn : (((l.length : Nat) : Int) - 1).toNat < l.length := by omega
  have hm : (((l.length : Nat) : Int) - 2).toNat < l.length := by omega
  unfold mkT
  rw [← hk3, if_neg (by rw [h2]; decide), if_pos h2, show (trs l).length = l.length by simp [trs], getD_trs hn, getD_trs hm]
  exact ⟨hlo, _, _, _, _, hl, h.at hm, h.at hn⟩
theorem bi_len (F b o : Nat) (t : Tr) (h : F ≤ l.length) : (l.take F ++ [(b, o, t)]).length = F + 1 := by
  rw [List.length_append, List.length_take, List.length_cons, List.length_nil]; omega
theorem bi_app {F : Nat} {x : PT} (h : F ≤ l.length) : (l.take F ++ [x]).getD F tz = x := by
  have := getD_app_1 (l := l.take F) (x := x) (d := tz)
  rw [List.length_take, Nat.min_eq_left h] at this; exact this
theorem bi_end (hB : BI L l i) (hr : right L = true) (h1 : ¬ (i : Int) < ((L.length : Nat) : Int)) (h : AllT lo l w ks) : TrAt lo ((foldB L).getD 0 (.lf Cn.z)) (l.getD 0 tz).1 (l.getD 0 tz).2.1 w [] := by
  obtain ⟨h2, h3⟩ := hB.fi hr h1
  rw [← h3, getD_trs (by omega)]
  exact TrAt.off (fun b hb => by simp at hb) _ _ _ (h.at (by omega))
end
end Go.Proofs.YtedlaclfhgneeabDoor
namespace Go.Proofs.YtedlaclfhgneeabDoor
open Go.RowKit
set_option linter.unusedVariables false
set_option linter.unusedSimpArgs false
set_option maxRecDepth 100000
set_option maxHeartbeats 2000000
set_option simprocs false
theorem tx1 {ar : Int} {c : Cn} (h : c.kd = 1) : tx ar (.lf c) = (((Lib.itoa c.th ++ [58]) ++ rname0 ar c.rg) ++ [61]) ++ Lib.itoa c.vl := by unfold tx; rw [if_pos h]
theorem tx2 {ar : Int} {c : Cn} (h : c.kd = 2) : tx ar (.lf c) = (locT c.lc ++ [61]) ++ Lib.itoa c.vl := by unfold tx; rw [if_neg (by rw [h]; decide)]
theorem tx3 {ar : Int} {c : Cn} {l : Tr} (h : c.kd = 3) : tx ar (.un c l) = [126] ++ brk (tx ar l) (lvl l.c.kd) 2 := rfl
theorem tx4 {ar : Int} {c : Cn} {l r : Tr} (h : c.kd = 4) : tx ar (.bi c l r) = (brk (tx ar l) (lvl l.c.kd) 1 ++ [32, 47, 92, 32]) ++ brk (tx ar r) (lvl r.c.kd) 2 := by
  have : tx ar (.bi c l r) = if c.kd = 4 then (brk (tx ar l) (lvl l.c.kd) 1 ++ [32, 47, 92, 32]) ++ brk (tx ar r) (lvl r.c.kd) 2 else (brk (tx ar l) (lvl l.c.kd) 0 ++ [32, 92, 47, 32]) ++ brk (tx ar r) (lvl r.c.kd) 1 := rfl
  rw [this, if_pos h]
theorem tx5 {ar : Int} {c : Cn} {l r : Tr} (h : c.kd = 5) : tx ar (.bi c l r) = (brk (tx ar l) (lvl l.c.kd) 0 ++ [32, 92, 47, 32]) ++ brk (tx ar r) (lvl r.c.kd) 1 := by
  have : tx ar (.bi c l r) = if c.kd = 4 then (brk (tx ar l) (lvl l.c.kd) 1 ++ [32, 47, 92, 32]) ++ brk (tx ar r) (lvl r.c.kd) 2 else (brk (tx ar l) (lvl l.c.kd) 0 ++ [32, 92, 47, 32]) ++ brk (tx ar r) (lvl r.c.kd) 1 := rfl
  rw [this, if_neg (by rw [h]; decide)]
theorem elr {lo : Nat} {t : Tr} {b o : Nat} {w : World} {ks : List Nat} {R : Prop} (h : TrAt lo t b o w ks) (k : ∀ p q, Lies b o (vsT t.c p q) w ks → R) : R := by obtain ⟨p, q, hl⟩ := h.root; exact k p q hl
theorem el0 {lo : Nat} {c : Cn} {b o : Nat} {w : World} {ks : List Nat} {R : Prop} (h : TrAt lo (.lf c) b o w ks) (k : Lies b o (vsT c none none) w ks → R) : R := k h.2
theorem el1 {lo : Nat} {c : Cn} {l : Tr} {b o : Nat} {w : World} {ks : List Nat} {R : Prop} (h : TrAt lo (.un c l) b o w ks) (k : ∀ bl kl, Lies b o (vsT c (some (bl, kl)) none) w ks → TrAt lo l bl kl w ks → R) : R := by obtain ⟨_, bl, kl, h1, h2⟩ := h; exact k bl kl h1 h2
theorem el2 {lo : Nat} {c : Cn} {l r : Tr} {b o : Nat} {w : World} {ks : List Nat} {R : Prop} (h : TrAt lo (.bi c l r) b o w ks) (k : ∀ bl kl br kr, Lies b o (vsT c (some (bl, kl)) (some (br, kr))) w ks → TrAt lo l bl kl w ks → TrAt lo r br kr w ks → R) : R := by obtain ⟨_, bl, kl, br, kr, h1, h2, h3⟩ := h; exact k bl kl br kr h1 h2 h3
theorem at_of (ar : Int) (t : Tr) (lo : Nat) (b : Nat) (o : Nat) (k : Int) (hok : t.ok) (hnd : t.nd ≤ 1000) (hx : FnI (TrAt lo t b o) Tryd.prog 14 [.int .i64 ar, .v (.pointer (some ⟨b, o, none⟩))] [] (Rt (.str (tx ar t)) [])) : FnI (TrAt lo t b o) Tryd.prog 33 [.int .i64 ar, .v (.pointer (some ⟨b, o, none⟩)), .int .i64 k] [] (Rt (.str (brk (tx ar t) (lvl t.c.kd) k)) []) :=
 enterI (n := 22) (by kernel_rfl) Tryd.func33 rfl rfl rfl fun G w a h0 hI A => elr hI fun p q hl => N hX 9 A rfl rfl fun A => CALLI [] (TrAt.ok t b o) hI hx A rfl rfl rfl rfl rfl rfl rfl fun A => N hX 5 A rfl rfl fun A => ADOPTP (i := 0) (H' := [some (.lst 7 1 (fun _ => [.int .i64 t.c.kd, .int .i64 t.c.th, .int .i64 t.c.rg, .int .i64 t.c.lc, .int .i64 t.c.vl, .v (pv p), .v (pv q)]))]) (cs := [.int .i64 t.c.kd, .int .i64 t.c.th, .int .i64 t.c.rg, .int .i64 t.c.lc, .int .i64 t.c.vl, .v (pv p), .v (pv q)]) 1 7 hl (csT_den _ _ _) A rfl rfl rfl fun A => N hX 2 A rfl rfl fun A => q_eff A rfl (nilE rfl rfl rfl rfl) fun A => N hX 2 A rfl (ok_d (by have := tx_len ar t hok; (try simp only [List.length_append, List.length_cons, List.length_nil]); first | omega | decide) <| ok_d (by have := tx_len ar t hok; (try simp only [List.length_append, List.length_cons, List.length_nil]); first | omega | decide) <| okE_nil) fun A => CALL1 [] (fn_asX (level_ t.c.kd t.c.th t.c.rg t.c.lc t.c.vl) (y := .int .i64 (lvl t.c.kd)) fun _ => rfl) A rfl rfl rfl rfl rfl rfl rfl fun A => N hX 4 A rfl rfl fun A => forkD 17 A rfl
  (fun h1 A => N hX 10 A rfl (ok_d (by have := tx_len ar t hok; (try simp only [List.length_append, List.length_cons, List.length_nil]); first | omega | decide) <| ok_d (by have := tx_len ar t hok; (try simp only [List.length_append, List.length_cons, List.length_nil]); first | omega | decide) <| okE_nil) fun A => RETN hX A rfl rfl rfl h0 rfl rfl rfl rfl (by unfold brk; rw [if_pos h1]; rfl) rfl)
  (fun h1 A => N hX 10 A rfl rfl fun A => RETN hX A rfl rfl rfl h0 rfl rfl rfl rfl (by unfold brk; rw [if_neg h1]; rfl) rfl)
theorem text1 (ar : Int) (c : Cn) (lo : Nat) (b : Nat) (o : Nat) (hk : c.kd = 1) (h1 : 0 ≤ c.th ∧ c.th < 3) (hv : okV c.vl) : FnI (TrAt lo (.lf c) b o) Tryd.prog 14 [.int .i64 ar, .v (.pointer (some ⟨b, o, none⟩))] [] (Rt (.str (tx ar (.lf c))) []) :=
 enterI (n := 90) (by kernel_rfl) Tryd.func14 rfl rfl rfl fun G w a h0 hI A => el0 hI fun hl => have hl := (show Lies _ _ [.int .i64 1, .int .i64 c.th, .int .i64 c.rg, .int .i64 c.lc, .int .i64 c.vl, .pointer none, .pointer none] _ _ by have := hl; unfold vsT at this; rw [hk] at this; exact this); ADOPTP (i := 0) (H' := [some (.lst 7 1 (fun _ => [.int .i64 1, .int .i64 c.th, .int .i64 c.rg, .int .i64 c.lc, .int .i64 c.vl, .v (.pointer none), .v (.pointer none)]))]) (cs := [.int .i64 1, .int .i64 c.th, .int .i64 c.rg, .int .i64 c.lc, .int .i64 c.vl, .v (.pointer none), .v (.pointer none)]) 1 7 hl rfl A rfl rfl rfl fun A => N hX 9 A rfl rfl fun A => q_eff A rfl (nilE rfl rfl rfl rfl) fun A => N hX 7 A rfl (ok_d (by have := hv.1; have := hv.2; (try simp only [List.length_append, List.length_cons, List.length_nil]); first | omega | decide) <| ok_d (by have := hv.1; have := hv.2; (try simp only [List.length_append, List.length_cons, List.length_nil]); first | omega | decide) <| ok_d (by have := hv.1; have := hv.2; (try simp only [List.length_append, List.length_cons, List.length_nil]); first | omega | decide) <| okE_nil) fun A => N hX 5 A rfl rfl fun A => forkE 10 A rfl
  (fun h1 A => N hX 2 A rfl rfl fun A => ANY hmo [.el 0 7 0 0, .el 0 7 0 0, .el 0 7 0 0, .el 0 7 0 1, .int .i64 c.th, .str (Lib.itoa c.th), .str ((Lib.itoa c.th) ++ [58]), .int .i64 ar, .el 0 7 0 0, .el 0 7 0 0, .el 0 7 0 0, .el 0 7 0 2, .int .i64 c.rg, .str (rname0 ar c.rg), .str (((Lib.itoa c.th) ++ [58]) ++ (rname0 ar c.rg)), .str ((((Lib.itoa c.th) ++ [58]) ++ (rname0 ar c.rg)) ++ [61]), .el 0 7 0 0, .el 0 7 0 0, .el 0 7 0 0, .el 0 7 0 4, .int .i64 c.vl, .str (Lib.itoa c.vl), .str (((((Lib.itoa c.th) ++ [58]) ++ (rname0 ar c.rg)) ++ [61]) ++ (Lib.itoa c.vl)), .str (((((Lib.itoa c.th) ++ [58]) ++ (rname0 ar c.rg)) ++ [61]) ++ (Lib.itoa c.vl))] [] [] 0 [([], [], [some (.lst 7 1 (fun _ => [.int .i64 1, .int .i64 c.th, .int .i64 c.rg, .int .i64 c.lc, .int .i64 c.vl, .v (.pointer none), .v (.pointer none)]))])] [[true, true, true, true, true, true, true, true, true, true, true, true, true, true, true, true, true, true, true, true, true, true, true, true]] A rfl rfl rfl rfl (by kernel_rfl) rfl (by kernel_rfl) ⟨⟨⟨_, _, _, _, 0, rfl, rfl, rfl, rfl, eff_at (eff_auto (X := ⟨_, true⟩) (out := .val _ _) hX rfl rfl) rfl⟩, ⟨⟨_, _, _, _, 0, rfl, rfl, rfl, rfl, eff_at (nilE rfl rfl rfl rfl) rfl⟩, ⟨⟨_, _, _, _, 0, rfl, rfl, rfl, rfl, eff_at (eff_auto (X := ⟨_, true⟩) (out := .val _ _) hX rfl (ok_d (by have := hv.1; have := hv.2; (try simp only [List.length_append, List.length_cons, List.length_nil]); first | omega | decide) <| okE_nil)) rfl⟩, ⟨⟨_, _, _, _, 0, rfl, rfl, rfl, rfl, eff_at (eff_auto (X := ⟨_, true⟩) (out := .val _ _) hX rfl (ok_d (by have := hv.1; have := hv.2; (try simp only [List.length_append, List.length_cons, List.length_nil]); first | omega | decide) <| okE_nil)) rfl⟩, ⟨⟨_, _, _, _, 0, rfl, rfl, rfl, rfl, eff_at (eff_auto (X := ⟨_, true⟩) (out := .val _ _) hX rfl (ok_d (by have := hv.1; have := hv.2; (try simp only [List.length_append, List.length_cons, List.length_nil]); first | omega | decide) <| okE_nil)) rfl⟩, ⟨⟨_, _, _, _, 0, rfl, rfl, rfl, rfl, eff_at (eff_pure rfl rfl (digits_ c.th (by have := hv.1; have := hv.2; (try simp only [List.length_append, List.length_cons, List.length_nil]); first | omega | decide) (by have := hv.1; have := hv.2; (try simp only [List.length_append, List.length_cons, List.length_nil]); first | omega | decide))) rfl⟩, ⟨⟨_, _, _, _, 0, rfl, rfl, rfl, rfl, eff_at (eff_auto (X := ⟨_, true⟩) (out := .val _ _) hX rfl (ok_d (by have := hv.1; have := hv.2; have := Lib.itoa_length_le c.vl hv.1 hv.2; have := loc_len c.lc; have := rname_len ar c.rg; have := Lib.itoa_length_le c.th (by omega) (by omega); (try simp only [List.length_append, List.length_cons, List.length_nil]); first | omega | decide) <| okE_nil)) rfl⟩, ⟨⟨_, _, _, _, 0, rfl, rfl, rfl, rfl, eff_at (eff_auto (X := ⟨_, true⟩) (out := .val _ _) hX rfl rfl) rfl⟩, ⟨⟨_, _, _, _, 0, rfl, rfl, rfl, rfl, eff_at (eff_auto (X := ⟨_, true⟩) (out := .val _ _) hX rfl rfl) rfl⟩, ⟨⟨_, _, _, _, 0, rfl, rfl, rfl, rfl, eff_at (nilE rfl rfl rfl rfl) rfl⟩, ⟨⟨_, _, _, _, 0, rfl, rfl, rfl, rfl, eff_at (eff_auto (X := ⟨_, true⟩) (out := .val _ _) hX rfl (ok_d (by have := hv.1; have := hv.2; (try simp only [List.length_append, List.length_cons, List.length_nil]); first | omega | decide) <| okE_nil)) rfl⟩, ⟨⟨_, _, _, _, 0, rfl, rfl, rfl, rfl, eff_at (eff_auto (X := ⟨_, true⟩) (out := .val _ _) hX rfl (ok_d (by have := hv.1; have := hv.2; (try simp only [List.length_append, List.length_cons, List.length_nil]); first | omega | decide) <| okE_nil)) rfl⟩, ⟨⟨_, _, _, _, 0, rfl, rfl, rfl, rfl, eff_at (eff_auto (X := ⟨_, true⟩) (out := .val _ _) hX rfl (ok_d (by have := hv.1; have := hv.2; (try simp only [List.length_append, List.length_cons, List.length_nil]); first | omega | decide) <| okE_nil)) rfl⟩, ⟨⟨_, _, _, _, 0, rfl, rfl, rfl, rfl, eff_at (eff_pure rfl rfl (rname_ ar c.rg)) rfl⟩, ⟨⟨_, _, _, _, 0, rfl, rfl, rfl, rfl, eff_at (eff_auto (X := ⟨_, true⟩) (out := .val _ _) hX rfl (ok_d (by have := hv.1; have := hv.2; have := Lib.itoa_length_le c.vl hv.1 hv.2; have := loc_len c.lc; have := rname_len ar c.rg; have := Lib.itoa_length_le c.th (by omega) (by omega); (try simp only [List.length_append, List.length_cons, List.length_nil]); first | omega | decide) <| okE_nil)) rfl⟩, ⟨⟨_, _, _, _, 0, rfl, rfl, rfl, rfl, eff_at (eff_auto (X := ⟨_, true⟩) (out := .val _ _) hX rfl (ok_d (by have := hv.1; have := hv.2; have := Lib.itoa_length_le c.vl hv.1 hv.2; have := loc_len c.lc; have := rname_len ar c.rg; have := Lib.itoa_length_le c.th (by omega) (by omega); (try simp only [List.length_append, List.length_cons, List.length_nil]); first | omega | decide) <| okE_nil)) rfl⟩, ⟨⟨_, _, _, _, 0, rfl, rfl, rfl, rfl, eff_at (eff_auto (X := ⟨_, true⟩) (out := .val _ _) hX rfl rfl) rfl⟩, ⟨⟨_, _, _, _, 0, rfl, rfl, rfl, rfl, eff_at (nilE rfl rfl rfl rfl) rfl⟩, ⟨⟨_, _, _, _, 0, rfl, rfl, rfl, rfl, eff_at (eff_auto (X := ⟨_, true⟩) (out := .val _ _) hX rfl (ok_d (by have := hv.1; have := hv.2; (try simp only [List.length_append, List.length_cons, List.length_nil]); first | omega | decide) <| okE_nil)) rfl⟩, ⟨⟨_, _, _, _, 0, rfl, rfl, rfl, rfl, eff_at (eff_auto (X := ⟨_, true⟩) (out := .val _ _) hX rfl (ok_d (by have := hv.1; have := hv.2; (try simp only [List.length_append, List.length_cons, List.length_nil]); first | omega | decide) <| okE_nil)) rfl⟩, ⟨⟨_, _, _, _, 0, rfl, rfl, rfl, rfl, eff_at (eff_auto (X := ⟨_, true⟩) (out := .val _ _) hX rfl (ok_d (by have := hv.1; have := hv.2; (try simp only [List.length_append, List.length_cons, List.length_nil]); first | omega | decide) <| okE_nil)) rfl⟩, ⟨⟨_, _, _, _, 0, rfl, rfl, rfl, rfl, eff_at (eff_pure rfl rfl (digits_ c.vl (by have := hv.1; have := hv.2; (try simp only [List.length_append, List.length_cons, List.length_nil]); first | omega | decide) (by have := hv.1; have := hv.2; (try simp only [List.length_append, List.length_cons, List.length_nil]); first | omega | decide))) rfl⟩, ⟨⟨_, _, _, _, 0, rfl, rfl, rfl, rfl, eff_at (eff_auto (X := ⟨_, true⟩) (out := .val _ _) hX rfl (ok_d (by have := hv.1; have := hv.2; have := Lib.itoa_length_le c.vl hv.1 hv.2; have := loc_len c.lc; have := rname_len ar c.rg; have := Lib.itoa_length_le c.th (by omega) (by omega); (try simp only [List.length_append, List.length_cons, List.length_nil]); first | omega | decide) <| okE_nil)) rfl⟩, ⟨⟨_, _, _, _, 0, rfl, rfl, rfl, rfl, eff_at (eff_auto (X := ⟨_, true⟩) (out := .val _ _) hX rfl rfl) rfl⟩, trivial⟩⟩⟩⟩⟩⟩⟩⟩⟩⟩⟩⟩⟩⟩⟩⟩⟩⟩⟩⟩⟩⟩⟩⟩, trivial⟩ fun A => N hX 2 A rfl rfl fun A => RETN hX A rfl rfl rfl h0 rfl rfl rfl rfl (by rw [tx1 hk]; rfl) rfl)
  (fun h1 A => absurd rfl h1)
theorem text2 (ar : Int) (c : Cn) (lo : Nat) (b : Nat) (o : Nat) (hk : c.kd = 2) (h1 : 0 ≤ c.lc ∧ c.lc < 3) (hv : okV c.vl) : FnI (TrAt lo (.lf c) b o) Tryd.prog 14 [.int .i64 ar, .v (.pointer (some ⟨b, o, none⟩))] [] (Rt (.str (tx ar (.lf c))) []) :=
 enterI (n := 90) (by kernel_rfl) Tryd.func14 rfl rfl rfl fun G w a h0 hI A => el0 hI fun hl => have hl := (show Lies _ _ [.int .i64 2, .int .i64 c.th, .int .i64 c.rg, .int .i64 c.lc, .int .i64 c.vl, .pointer none, .pointer none] _ _ by have := hl; unfold vsT at this; rw [hk] at this; exact this); ADOPTP (i := 0) (H' := [some (.lst 7 1 (fun _ => [.int .i64 2, .int .i64 c.th, .int .i64 c.rg, .int .i64 c.lc, .int .i64 c.vl, .v (.pointer none), .v (.pointer none)]))]) (cs := [.int .i64 2, .int .i64 c.th, .int .i64 c.rg, .int .i64 c.lc, .int .i64 c.vl, .v (.pointer none), .v (.pointer none)]) 1 7 hl rfl A rfl rfl rfl fun A => N hX 9 A rfl rfl fun A => q_eff A rfl (nilE rfl rfl rfl rfl) fun A => N hX 7 A rfl (ok_d (by have := hv.1; have := hv.2; (try simp only [List.length_append, List.length_cons, List.length_nil]); first | omega | decide) <| ok_d (by have := hv.1; have := hv.2; (try simp only [List.length_append, List.length_cons, List.length_nil]); first | omega | decide) <| ok_d (by have := hv.1; have := hv.2; (try simp only [List.length_append, List.length_cons, List.length_nil]); first | omega | decide) <| okE_nil) fun A => N hX 5 A rfl rfl fun A => forkE 10 A rfl
  (fun h1 A => absurd h1 (by decide))
  (fun h1 A => N hX 7 A rfl rfl fun A => forkE 35 A rfl
   (fun h2 A => N hX 2 A rfl rfl fun A => ANY hmo [.el 0 7 0 0, .el 0 7 0 0, .el 0 7 0 0, .el 0 7 0 3, .int .i64 c.lc, .str (locT c.lc), .str ((locT c.lc) ++ [61]), .el 0 7 0 0, .el 0 7 0 0, .el 0 7 0 0, .el 0 7 0 4, .int .i64 c.vl, .str (Lib.itoa c.vl), .str (((locT c.lc) ++ [61]) ++ (Lib.itoa c.vl)), .str (((locT c.lc) ++ [61]) ++ (Lib.itoa c.vl))] [] [] 0 [([], [], [some (.lst 7 1 (fun _ => [.int .i64 2, .int .i64 c.th, .int .i64 c.rg, .int .i64 c.lc, .int .i64 c.vl, .v (.pointer none), .v (.pointer none)]))])] [[true, true, true, true, true, true, true, true, true, true, true, true, true, true, true]] A rfl rfl rfl rfl (by kernel_rfl) rfl (by kernel_rfl) ⟨⟨⟨_, _, _, _, 0, rfl, rfl, rfl, rfl, eff_at (eff_auto (X := ⟨_, true⟩) (out := .val _ _) hX rfl rfl) rfl⟩, ⟨⟨_, _, _, _, 0, rfl, rfl, rfl, rfl, eff_at (nilE rfl rfl rfl rfl) rfl⟩, ⟨⟨_, _, _, _, 0, rfl, rfl, rfl, rfl, eff_at (eff_auto (X := ⟨_, true⟩) (out := .val _ _) hX rfl (ok_d (by have := hv.1; have := hv.2; (try simp only [List.length_append, List.length_cons, List.length_nil]); first | omega | decide) <| okE_nil)) rfl⟩, ⟨⟨_, _, _, _, 0, rfl, rfl, rfl, rfl, eff_at (eff_auto (X := ⟨_, true⟩) (out := .val _ _) hX rfl (ok_d (by have := hv.1; have := hv.2; (try simp only [List.length_append, List.length_cons, List.length_nil]); first | omega | decide) <| okE_nil)) rfl⟩, ⟨⟨_, _, _, _, 0, rfl, rfl, rfl, rfl, eff_at (eff_auto (X := ⟨_, true⟩) (out := .val _ _) hX rfl (ok_d (by have := hv.1; have := hv.2; (try simp only [List.length_append, List.length_cons, List.length_nil]); first | omega | decide) <| okE_nil)) rfl⟩, ⟨⟨_, _, _, _, 0, rfl, rfl, rfl, rfl, eff_at (eff_pure rfl rfl (lname_ c.lc (by omega))) rfl⟩, ⟨⟨_, _, _, _, 0, rfl, rfl, rfl, rfl, eff_at (eff_auto (X := ⟨_, true⟩) (out := .val _ _) hX rfl (ok_d (by have := hv.1; have := hv.2; have := Lib.itoa_length_le c.vl hv.1 hv.2; have := loc_len c.lc; have := rname_len ar c.rg; (try simp only [List.length_append, List.length_cons, List.length_nil]); first | omega | decide) <| okE_nil)) rfl⟩, ⟨⟨_, _, _, _, 0, rfl, rfl, rfl, rfl, eff_at (eff_auto (X := ⟨_, true⟩) (out := .val _ _) hX rfl rfl) rfl⟩, ⟨⟨_, _, _, _, 0, rfl, rfl, rfl, rfl, eff_at (nilE rfl rfl rfl rfl) rfl⟩, ⟨⟨_, _, _, _, 0, rfl, rfl, rfl, rfl, eff_at (eff_auto (X := ⟨_, true⟩) (out := .val _ _) hX rfl (ok_d (by have := hv.1; have := hv.2; (try simp only [List.length_append, List.length_cons, List.length_nil]); first | omega | decide) <| okE_nil)) rfl⟩, ⟨⟨_, _, _, _, 0, rfl, rfl, rfl, rfl, eff_at (eff_auto (X := ⟨_, true⟩) (out := .val _ _) hX rfl (ok_d (by have := hv.1; have := hv.2; (try simp only [List.length_append, List.length_cons, List.length_nil]); first | omega | decide) <| okE_nil)) rfl⟩, ⟨⟨_, _, _, _, 0, rfl, rfl, rfl, rfl, eff_at (eff_auto (X := ⟨_, true⟩) (out := .val _ _) hX rfl (ok_d (by have := hv.1; have := hv.2; (try simp only [List.length_append, List.length_cons, List.length_nil]); first | omega | decide) <| okE_nil)) rfl⟩, ⟨⟨_, _, _, _, 0, rfl, rfl, rfl, rfl, eff_at (eff_pure rfl rfl (digits_ c.vl (by have := hv.1; have := hv.2; (try simp only [List.length_append, List.length_cons, List.length_nil]); first | omega | decide) (by have := hv.1; have := hv.2; (try simp only [List.length_append, List.length_cons, List.length_nil]); first | omega | decide))) rfl⟩, ⟨⟨_, _, _, _, 0, rfl, rfl, rfl, rfl, eff_at (eff_auto (X := ⟨_, true⟩) (out := .val _ _) hX rfl (ok_d (by have := hv.1; have := hv.2; have := Lib.itoa_length_le c.vl hv.1 hv.2; have := loc_len c.lc; have := rname_len ar c.rg; (try simp only [List.length_append, List.length_cons, List.length_nil]); first | omega | decide) <| okE_nil)) rfl⟩, ⟨⟨_, _, _, _, 0, rfl, rfl, rfl, rfl, eff_at (eff_auto (X := ⟨_, true⟩) (out := .val _ _) hX rfl rfl) rfl⟩, trivial⟩⟩⟩⟩⟩⟩⟩⟩⟩⟩⟩⟩⟩⟩⟩, trivial⟩ fun A => N hX 2 A rfl rfl fun A => RETN hX A rfl rfl rfl h0 rfl rfl rfl rfl (by rw [tx2 hk]; rfl) rfl)
   (fun h2 A => absurd rfl h2))
theorem text3 (ar : Int) (c : Cn) (l : Tr) (lo : Nat) (b : Nat) (o : Nat) (hk : c.kd = 3) (hokl : l.ok) (hndl : l.nd ≤ 1000) (hxl : ∀ b o, FnI (TrAt lo l b o) Tryd.prog 14 [.int .i64 ar, .v (.pointer (some ⟨b, o, none⟩))] [] (Rt (.str (tx ar l)) [])) : FnI (TrAt lo (.un c l) b o) Tryd.prog 14 [.int .i64 ar, .v (.pointer (some ⟨b, o, none⟩))] [] (Rt (.str (tx ar (.un c l))) []) :=
 enterI (n := 90) (by kernel_rfl) Tryd.func14 rfl rfl rfl fun G w a h0 hI A => el1 hI fun bl kl hl hIl => have hl := (show Lies _ _ [.int .i64 3, .int .i64 c.th, .int .i64 c.rg, .int .i64 c.lc, .int .i64 c.vl, .pointer (some ⟨bl, kl, none⟩), .pointer none] _ _ by have := hl; unfold vsT at this; rw [hk] at this; exact this); ADOPTP (i := 0) (H' := [some (.lst 7 1 (fun _ => [.int .i64 3, .int .i64 c.th, .int .i64 c.rg, .int .i64 c.lc, .int .i64 c.vl, .v (.pointer (some ⟨bl, kl, none⟩)), .v (.pointer none)]))]) (cs := [.int .i64 3, .int .i64 c.th, .int .i64 c.rg, .int .i64 c.lc, .int .i64 c.vl, .v (.pointer (some ⟨bl, kl, none⟩)), .v (.pointer none)]) 1 7 hl rfl A rfl rfl rfl fun A => N hX 9 A rfl rfl fun A => q_eff A rfl (nilE rfl rfl rfl rfl) fun A => N hX 7 A rfl (ok_d (by have := tx_len ar l hokl; have := brk_len (tx ar l) (lvl l.c.kd) 0; have := brk_len (tx ar l) (lvl l.c.kd) 1; have := brk_len (tx ar l) (lvl l.c.kd) 2; (try simp only [List.length_append, List.length_cons, List.length_nil]); first | omega | decide) <| ok_d (by have := tx_len ar l hokl; have := brk_len (tx ar l) (lvl l.c.kd) 0; have := brk_len (tx ar l) (lvl l.c.kd) 1; have := brk_len (tx ar l) (lvl l.c.kd) 2; (try simp only [List.length_append, List.length_cons, List.length_nil]); first | omega | decide) <| ok_d (by have := tx_len ar l hokl; have := brk_len (tx ar l) (lvl l.c.kd) 0; have := brk_len (tx ar l) (lvl l.c.kd) 1; have := brk_len (tx ar l) (lvl l.c.kd) 2; (try simp only [List.length_append, List.length_cons, List.length_nil]); first | omega | decide) <| okE_nil) fun A => N hX 5 A rfl rfl fun A => forkE 10 A rfl
  (fun h1 A => absurd h1 (by decide))
  (fun h1 A => N hX 7 A rfl rfl fun A => forkE 35 A rfl
   (fun h2 A => absurd h2 (by decide))
   (fun h2 A => N hX 7 A rfl rfl fun A => forkE 51 A rfl
    (fun h3 A => N hX 5 A rfl rfl fun A => q_eff A rfl (nilE rfl rfl rfl rfl) fun A => N hX 2 A rfl (ok_d (by have := tx_len ar l hokl; have := brk_len (tx ar l) (lvl l.c.kd) 0; have := brk_len (tx ar l) (lvl l.c.kd) 1; have := brk_len (tx ar l) (lvl l.c.kd) 2; (try simp only [List.length_append, List.length_cons, List.length_nil]); first | omega | decide) <| ok_d (by have := tx_len ar l hokl; have := brk_len (tx ar l) (lvl l.c.kd) 0; have := brk_len (tx ar l) (lvl l.c.kd) 1; have := brk_len (tx ar l) (lvl l.c.kd) 2; (try simp only [List.length_append, List.length_cons, List.length_nil]); first | omega | decide) <| okE_nil) fun A => CALLI [] (TrAt.ok l bl kl) hIl (at_of ar l lo bl kl 2 hokl (by omega) (hxl bl kl)) A rfl rfl rfl rfl rfl rfl rfl fun A => N hX 5 A rfl (ok_d (by have := tx_len ar l hokl; have := brk_len (tx ar l) (lvl l.c.kd) 0; have := brk_len (tx ar l) (lvl l.c.kd) 1; have := brk_len (tx ar l) (lvl l.c.kd) 2; (try simp only [List.length_append, List.length_cons, List.length_nil]); first | omega | decide) <| okE_nil) fun A => RETN hX A rfl rfl rfl h0 rfl rfl rfl rfl (by rw [tx3 hk]; rfl) rfl)
    (fun h3 A => absurd rfl h3)))
theorem text4 (ar : Int) (c : Cn) (l : Tr) (r : Tr) (lo : Nat) (b : Nat) (o : Nat) (hk : c.kd = 4) (hokl : l.ok) (hndl : l.nd ≤ 1000) (hxl : ∀ b o, FnI (TrAt lo l b o) Tryd.prog 14 [.int .i64 ar, .v (.pointer (some ⟨b, o, none⟩))] [] (Rt (.str (tx ar l)) [])) (hokr : r.ok) (hndr : r.nd ≤ 1000) (hxr : ∀ b o, FnI (TrAt lo r b o) Tryd.prog 14 [.int .i64 ar, .v (.pointer (some ⟨b, o, none⟩))] [] (Rt (.str (tx ar r)) [])) : FnI (TrAt lo (.bi c l r) b o) Tryd.prog 14 [.int .i64 ar, .v (.pointer (some ⟨b, o, none⟩))] [] (Rt (.str (tx ar (.bi c l r))) []) :=
 enterI (n := 90) (by kernel_rfl) Tryd.func14 rfl rfl rfl fun G w a h0 hI A => el2 hI fun bl kl br kr hl hIl hIr => have hl := (show Lies _ _ [.int .i64 4, .int .i64 c.th, .int .i64 c.rg, .int .i64 c.lc, .int .i64 c.vl, .pointer (some ⟨bl, kl, none⟩), .pointer (some ⟨br, kr, none⟩)] _ _ by have := hl; unfold vsT at this; rw [hk] at this; exact this); ADOPTP (i := 0) (H' := [some (.lst 7 1 (fun _ => [.int .i64 4, .int .i64 c.th, .int .i64 c.rg, .int .i64 c.lc, .int .i64 c.vl, .v (.pointer (some ⟨bl, kl, none⟩)), .v (.pointer (some ⟨br, kr, none⟩))]))]) (cs := [.int .i64 4, .int .i64 c.th, .int .i64 c.rg, .int .i64 c.lc, .int .i64 c.vl, .v (.pointer (some ⟨bl, kl, none⟩)), .v (.pointer (some ⟨br, kr, none⟩))]) 1 7 hl rfl A rfl rfl rfl fun A => N hX 9 A rfl rfl fun A => q_eff A rfl (nilE rfl rfl rfl rfl) fun A => N hX 7 A rfl (ok_d (by have := tx_len ar l hokl; have := brk_len (tx ar l) (lvl l.c.kd) 0; have := brk_len (tx ar l) (lvl l.c.kd) 1; have := brk_len (tx ar l) (lvl l.c.kd) 2; have := tx_len ar r hokr; have := brk_len (tx ar r) (lvl r.c.kd) 0; have := brk_len (tx ar r) (lvl r.c.kd) 1; have := brk_len (tx ar r) (lvl r.c.kd) 2; (try simp only [List.length_append, List.length_cons, List.length_nil]); first | omega | decide) <| ok_d (by have := tx_len ar l hokl; have := brk_len (tx ar l) (lvl l.c.kd) 0; have := brk_len (tx ar l) (lvl l.c.kd) 1; have := brk_len (tx ar l) (lvl l.c.kd) 2; have := tx_len ar r hokr; have := brk_len (tx ar r) (lvl r.c.kd) 0; have := brk_len (tx ar r) (lvl r.c.kd) 1; have := brk_len (tx ar r) (lvl r.c.kd) 2; (try simp only [List.length_append, List.length_cons, List.length_nil]); first | omega | decide) <| ok_d (by have := tx_len ar l hokl; have := brk_len (tx ar l) (lvl l.c.kd) 0; have := brk_len (tx ar l) (lvl l.c.kd) 1; have := brk_len (tx ar l) (lvl l.c.kd) 2; have := tx_len ar r hokr; have := brk_len (tx ar r) (lvl r.c.kd) 0; have := brk_len (tx ar r) (lvl r.c.kd) 1; have := brk_len (tx ar r) (lvl r.c.kd) 2; (try simp only [List.length_append, List.length_cons, List.length_nil]); first | omega | decide) <| okE_nil) fun A => N hX 5 A rfl rfl fun A => forkE 10 A rfl
  (fun h1 A => absurd h1 (by decide))
  (fun h1 A => N hX 7 A rfl rfl fun A => forkE 35 A rfl
   (fun h2 A => absurd h2 (by decide))
   (fun h2 A => N hX 7 A rfl rfl fun A => forkE 51 A rfl
    (fun h3 A => absurd h3 (by decide))
    (fun h3 A => N hX 7 A rfl rfl fun A => forkE 60 A rfl
     (fun h4 A => N hX 2 A rfl rfl fun A => ANY hmo [.int .i64 ar, .el 0 7 0 0, .el 0 7 0 0, .el 0 7 0 5, .v (.pointer (some ⟨bl, kl, none⟩)), .str (brk (tx ar l) (lvl l.c.kd) 1), .str ((brk (tx ar l) (lvl l.c.kd) 1) ++ [32, 47, 92, 32]), .int .i64 ar, .el 0 7 0 0, .el 0 7 0 0, .el 0 7 0 6, .v (.pointer (some ⟨br, kr, none⟩)), .str (brk (tx ar r) (lvl r.c.kd) 2), .str (((brk (tx ar l) (lvl l.c.kd) 1) ++ [32, 47, 92, 32]) ++ (brk (tx ar r) (lvl r.c.kd) 2)), .str (((brk (tx ar l) (lvl l.c.kd) 1) ++ [32, 47, 92, 32]) ++ (brk (tx ar r) (lvl r.c.kd) 2))] [] [] 0 [([], [], [some (.lst 7 1 (fun _ => [.int .i64 4, .int .i64 c.th, .int .i64 c.rg, .int .i64 c.lc, .int .i64 c.vl, .v (.pointer (some ⟨bl, kl, none⟩)), .v (.pointer (some ⟨br, kr, none⟩))]))])] [[true, true, true, true, true, true, true, true, true, true, true, true, true, true, true]] A rfl rfl rfl rfl (by kernel_rfl) rfl (by kernel_rfl) ⟨⟨⟨_, _, _, _, 0, rfl, rfl, rfl, rfl, eff_at (eff_auto (X := ⟨_, true⟩) (out := .val _ _) hX rfl rfl) rfl⟩, ⟨⟨_, _, _, _, 0, rfl, rfl, rfl, rfl, eff_at (eff_auto (X := ⟨_, true⟩) (out := .val _ _) hX rfl rfl) rfl⟩, ⟨⟨_, _, _, _, 0, rfl, rfl, rfl, rfl, eff_at (nilE rfl rfl rfl rfl) rfl⟩, ⟨⟨_, _, _, _, 0, rfl, rfl, rfl, rfl, eff_at (eff_auto (X := ⟨_, true⟩) (out := .val _ _) hX rfl (ok_d (by have := tx_len ar l hokl; have := brk_len (tx ar l) (lvl l.c.kd) 0; have := brk_len (tx ar l) (lvl l.c.kd) 1; have := brk_len (tx ar l) (lvl l.c.kd) 2; have := tx_len ar r hokr; have := brk_len (tx ar r) (lvl r.c.kd) 0; have := brk_len (tx ar r) (lvl r.c.kd) 1; have := brk_len (tx ar r) (lvl r.c.kd) 2; (try simp only [List.length_append, List.length_cons, List.length_nil]); first | omega | decide) <| okE_nil)) rfl⟩, ⟨⟨_, _, _, _, 0, rfl, rfl, rfl, rfl, eff_at (eff_auto (X := ⟨_, true⟩) (out := .val _ _) hX rfl (ok_d (by have := tx_len ar l hokl; have := brk_len (tx ar l) (lvl l.c.kd) 0; have := brk_len (tx ar l) (lvl l.c.kd) 1; have := brk_len (tx ar l) (lvl l.c.kd) 2; have := tx_len ar r hokr; have := brk_len (tx ar r) (lvl r.c.kd) 0; have := brk_len (tx ar r) (lvl r.c.kd) 1; have := brk_len (tx ar r) (lvl r.c.kd) 2; (try simp only [List.length_append, List.length_cons, List.length_nil]); first | omega | decide) <| okE_nil)) rfl⟩, ⟨⟨_, _, _, _, 0, rfl, rfl, rfl, rfl, eff_at (callIE [] (TrAt.ok l bl kl) hIl (at_of ar l lo bl kl 1 hokl (by omega) (hxl bl kl)) rfl rfl rfl rfl rfl rfl rfl) rfl⟩, ⟨⟨_, _, _, _, 0, rfl, rfl, rfl, rfl, eff_at (eff_auto (X := ⟨_, true⟩) (out := .val _ _) hX rfl (ok_d (by have := tx_len ar l hokl; have := brk_len (tx ar l) (lvl l.c.kd) 0; have := brk_len (tx ar l) (lvl l.c.kd) 1; have := brk_len (tx ar l) (lvl l.c.kd) 2; have := tx_len ar r hokr; have := brk_len (tx ar r) (lvl r.c.kd) 0; have := brk_len (tx ar r) (lvl r.c.kd) 1; have := brk_len (tx ar r) (lvl r.c.kd) 2; (try simp only [List.length_append, List.length_cons, List.length_nil]); first | omega | decide) <| okE_nil)) rfl⟩, ⟨⟨_, _, _, _, 0, rfl, rfl, rfl, rfl, eff_at (eff_auto (X := ⟨_, true⟩) (out := .val _ _) hX rfl rfl) rfl⟩, ⟨⟨_, _, _, _, 0, rfl, rfl, rfl, rfl, eff_at (eff_auto (X := ⟨_, true⟩) (out := .val _ _) hX rfl rfl) rfl⟩, ⟨⟨_, _, _, _, 0, rfl, rfl, rfl, rfl, eff_at (nilE rfl rfl rfl rfl) rfl⟩, ⟨⟨_, _, _, _, 0, rfl, rfl, rfl, rfl, eff_at (eff_auto (X := ⟨_, true⟩) (out := .val _ _) hX rfl (ok_d (by have := tx_len ar l hokl; have := brk_len (tx ar l) (lvl l.c.kd) 0; have := brk_len (tx ar l) (lvl l.c.kd) 1; have := brk_len (tx ar l) (lvl l.c.kd) 2; have := tx_len ar r hokr; have := brk_len (tx ar r) (lvl r.c.kd) 0; have := brk_len (tx ar r) (lvl r.c.kd) 1; have := brk_len (tx ar r) (lvl r.c.kd) 2; (try simp only [List.length_append, List.length_cons, List.length_nil]); first | omega | decide) <| okE_nil)) rfl⟩, ⟨⟨_, _, _, _, 0, rfl, rfl, rfl, rfl, eff_at (eff_auto (X := ⟨_, true⟩) (out := .val _ _) hX rfl (ok_d (by have := tx_len ar l hokl; have := brk_len (tx ar l) (lvl l.c.kd) 0; have := brk_len (tx ar l) (lvl l.c.kd) 1; have := brk_len (tx ar l) (lvl l.c.kd) 2; have := tx_len ar r hokr; have := brk_len (tx ar r) (lvl r.c.kd) 0; have := brk_len (tx ar r) (lvl r.c.kd) 1; have := brk_len (tx ar r) (lvl r.c.kd) 2; (try simp only [List.length_append, List.length_cons, List.length_nil]); first | omega | decide) <| okE_nil)) rfl⟩, ⟨⟨_, _, _, _, 0, rfl, rfl, rfl, rfl, eff_at (callIE [] (TrAt.ok r br kr) hIr (at_of ar r lo br kr 2 hokr (by omega) (hxr br kr)) rfl rfl rfl rfl rfl rfl rfl) rfl⟩, ⟨⟨_, _, _, _, 0, rfl, rfl, rfl, rfl, eff_at (eff_auto (X := ⟨_, true⟩) (out := .val _ _) hX rfl (ok_d (by have := tx_len ar l hokl; have := brk_len (tx ar l) (lvl l.c.kd) 0; have := brk_len (tx ar l) (lvl l.c.kd) 1; have := brk_len (tx ar l) (lvl l.c.kd) 2; have := tx_len ar r hokr; have := brk_len (tx ar r) (lvl r.c.kd) 0; have := brk_len (tx ar r) (lvl r.c.kd) 1; have := brk_len (tx ar r) (lvl r.c.kd) 2; (try simp only [List.length_append, List.length_cons, List.length_nil]); first | omega | decide) <| okE_nil)) rfl⟩, ⟨⟨_, _, _, _, 0, rfl, rfl, rfl, rfl, eff_at (eff_auto (X := ⟨_, true⟩) (out := .val _ _) hX rfl rfl) rfl⟩, trivial⟩⟩⟩⟩⟩⟩⟩⟩⟩⟩⟩⟩⟩⟩⟩, trivial⟩ fun A => N hX 2 A rfl rfl fun A => RETN hX A rfl rfl rfl h0 rfl rfl rfl rfl (by rw [tx4 hk]; rfl) rfl)
     (fun h4 A => absurd rfl h4))))
theorem text5 (ar : Int) (c : Cn) (l : Tr) (r : Tr) (lo : Nat) (b : Nat) (o : Nat) (hk : c.kd = 5) (hokl : l.ok) (hndl : l.nd ≤ 1000) (hxl : ∀ b o, FnI (TrAt lo l b o) Tryd.prog 14 [.int .i64 ar, .v (.pointer (some ⟨b, o, none⟩))] [] (Rt (.str (tx ar l)) [])) (hokr : r.ok) (hndr : r.nd ≤ 1000) (hxr : ∀ b o, FnI (TrAt lo r b o) Tryd.prog 14 [.int .i64 ar, .v (.pointer (some ⟨b, o, none⟩))] [] (Rt (.str (tx ar r)) [])) : FnI (TrAt lo (.bi c l r) b o) Tryd.prog 14 [.int .i64 ar, .v (.pointer (some ⟨b, o, none⟩))] [] (Rt (.str (tx ar (.bi c l r))) []) :=
 enterI (n := 90) (by kernel_rfl) Tryd.func14 rfl rfl rfl fun G w a h0 hI A => el2 hI fun bl kl br kr hl hIl hIr => have hl := (show Lies _ _ [.int .i64 5, .int .i64 c.th, .int .i64 c.rg, .int .i64 c.lc, .int .i64 c.vl, .pointer (some ⟨bl, kl, none⟩), .pointer (some ⟨br, kr, none⟩)] _ _ by have := hl; unfold vsT at this; rw [hk] at this; exact this); ADOPTP (i := 0) (H' := [some (.lst 7 1 (fun _ => [.int .i64 5, .int .i64 c.th, .int .i64 c.rg, .int .i64 c.lc, .int .i64 c.vl, .v (.pointer (some ⟨bl, kl, none⟩)), .v (.pointer (some ⟨br, kr, none⟩))]))]) (cs := [.int .i64 5, .int .i64 c.th, .int .i64 c.rg, .int .i64 c.lc, .int .i64 c.vl, .v (.pointer (some ⟨bl, kl, none⟩)), .v (.pointer (some ⟨br, kr, none⟩))]) 1 7 hl rfl A rfl rfl rfl fun A => N hX 9 A rfl rfl fun A => q_eff A rfl (nilE rfl rfl rfl rfl) fun A => N hX 7 A rfl (ok_d (by have := tx_len ar l hokl; have := brk_len (tx ar l) (lvl l.c.kd) 0; have := brk_len (tx ar l) (lvl l.c.kd) 1; have := brk_len (tx ar l) (lvl l.c.kd) 2; have := tx_len ar r hokr; have := brk_len (tx ar r) (lvl r.c.kd) 0; have := brk_len (tx ar r) (lvl r.c.kd) 1; have := brk_len (tx ar r) (lvl r.c.kd) 2; (try simp only [List.length_append, List.length_cons, List.length_nil]); first | omega | decide) <| ok_d (by have := tx_len ar l hokl; have := brk_len (tx ar l) (lvl l.c.kd) 0; have := brk_len (tx ar l) (lvl l.c.kd) 1; have := brk_len (tx ar l) (lvl l.c.kd) 2; have := tx_len ar r hokr; have := brk_len (tx ar r) (lvl r.c.kd) 0; have := brk_len (tx ar r) (lvl r.c.kd) 1; have := brk_len (tx ar r) (lvl r.c.kd) 2; (try simp only [List.length_append, List.length_cons, List.length_nil]); first | omega | decide) <| ok_d (by have := tx_len ar l hokl; have := brk_len (tx ar l) (lvl l.c.kd) 0; have := brk_len (tx ar l) (lvl l.c.kd) 1; have := brk_len (tx ar l) (lvl l.c.kd) 2; have := tx_len ar r hokr; have := brk_len (tx ar r) (lvl r.c.kd) 0; have := brk_len (tx ar r) (lvl r.c.kd) 1; have := brk_len (tx ar r) (lvl r.c.kd) 2; (try simp only [List.length_append, List.length_cons, List.length_nil]); first | omega | decide) <| okE_nil) fun A => N hX 5 A rfl rfl fun A => forkE 10 A rfl
  (fun h1 A => absurd h1 (by decide))
  (fun h1 A => N hX 7 A rfl rfl fun A => forkE 35 A rfl
   (fun h2 A => absurd h2 (by decide))
   (fun h2 A => N hX 7 A rfl rfl fun A => forkE 51 A rfl
    (fun h3 A => absurd h3 (by decide))
    (fun h3 A => N hX 7 A rfl rfl fun A => forkE 60 A rfl
     (fun h4 A => absurd h4 (by decide))
     (fun h4 A => N hX 5 A rfl rfl fun A => ANY hmo [.int .i64 ar, .el 0 7 0 0, .el 0 7 0 0, .el 0 7 0 5, .v (.pointer (some ⟨bl, kl, none⟩)), .str (brk (tx ar l) (lvl l.c.kd) 0), .str ((brk (tx ar l) (lvl l.c.kd) 0) ++ [32, 92, 47, 32]), .int .i64 ar, .el 0 7 0 0, .el 0 7 0 0, .el 0 7 0 6, .v (.pointer (some ⟨br, kr, none⟩)), .str (brk (tx ar r) (lvl r.c.kd) 1), .str (((brk (tx ar l) (lvl l.c.kd) 0) ++ [32, 92, 47, 32]) ++ (brk (tx ar r) (lvl r.c.kd) 1)), .str (((brk (tx ar l) (lvl l.c.kd) 0) ++ [32, 92, 47, 32]) ++ (brk (tx ar r) (lvl r.c.kd) 1))] [] [] 0 [([], [], [some (.lst 7 1 (fun _ => [.int .i64 5, .int .i64 c.th, .int .i64 c.rg, .int .i64 c.lc, .int .i64 c.vl, .v (.pointer (some ⟨bl, kl, none⟩)), .v (.pointer (some ⟨br, kr, none⟩))]))])] [[true, true, true, true, true, true, true, true, true, true, true, true, true, true, true]] A rfl rfl rfl rfl (by kernel_rfl) rfl (by kernel_rfl) ⟨⟨⟨_, _, _, _, 0, rfl, rfl, rfl, rfl, eff_at (eff_auto (X := ⟨_, true⟩) (out := .val _ _) hX rfl rfl) rfl⟩, ⟨⟨_, _, _, _, 0, rfl, rfl, rfl, rfl, eff_at (eff_auto (X := ⟨_, true⟩) (out := .val _ _) hX rfl rfl) rfl⟩, ⟨⟨_, _, _, _, 0, rfl, rfl, rfl, rfl, eff_at (nilE rfl rfl rfl rfl) rfl⟩, ⟨⟨_, _, _, _, 0, rfl, rfl, rfl, rfl, eff_at (eff_auto (X := ⟨_, true⟩) (out := .val _ _) hX rfl (ok_d (by have := tx_len ar l hokl; have := brk_len (tx ar l) (lvl l.c.kd) 0; have := brk_len (tx ar l) (lvl l.c.kd) 1; have := brk_len (tx ar l) (lvl l.c.kd) 2; have := tx_len ar r hokr; have := brk_len (tx ar r) (lvl r.c.kd) 0; have := brk_len (tx ar r) (lvl r.c.kd) 1; have := brk_len (tx ar r) (lvl r.c.kd) 2; (try simp only [List.length_append, List.length_cons, List.length_nil]); first | omega | decide) <| okE_nil)) rfl⟩, ⟨⟨_, _, _, _, 0, rfl, rfl, rfl, rfl, eff_at (eff_auto (X := ⟨_, true⟩) (out := .val _ _) hX rfl (ok_d (by have := tx_len ar l hokl; have := brk_len (tx ar l) (lvl l.c.kd) 0; have := brk_len (tx ar l) (lvl l.c.kd) 1; have := brk_len (tx ar l) (lvl l.c.kd) 2; have := tx_len ar r hokr; have := brk_len (tx ar r) (lvl r.c.kd) 0; have := brk_len (tx ar r) (lvl r.c.kd) 1; have := brk_len (tx ar r) (lvl r.c.kd) 2; (try simp only [List.length_append, List.length_cons, List.length_nil]); first | omega | decide) <| okE_nil)) rfl⟩, ⟨⟨_, _, _, _, 0, rfl, rfl, rfl, rfl, eff_at (callIE [] (TrAt.ok l bl kl) hIl (at_of ar l lo bl kl 0 hokl (by omega) (hxl bl kl)) rfl rfl rfl rfl rfl rfl rfl) rfl⟩, ⟨⟨_, _, _, _, 0, rfl, rfl, rfl, rfl, eff_at (eff_auto (X := ⟨_, true⟩) (out := .val _ _) hX rfl (ok_d (by have := tx_len ar l hokl; have := brk_len (tx ar l) (lvl l.c.kd) 0; have := brk_len (tx ar l) (lvl l.c.kd) 1; have := brk_len (tx ar l) (lvl l.c.kd) 2; have := tx_len ar r hokr; have := brk_len (tx ar r) (lvl r.c.kd) 0; have := brk_len (tx ar r) (lvl r.c.kd) 1; have := brk_len (tx ar r) (lvl r.c.kd) 2; (try simp only [List.length_append, List.length_cons, List.length_nil]); first | omega | decide) <| okE_nil)) rfl⟩, ⟨⟨_, _, _, _, 0, rfl, rfl, rfl, rfl, eff_at (eff_auto (X := ⟨_, true⟩) (out := .val _ _) hX rfl rfl) rfl⟩, ⟨⟨_, _, _, _, 0, rfl, rfl, rfl, rfl, eff_at (eff_auto (X := ⟨_, true⟩) (out := .val _ _) hX rfl rfl) rfl⟩, ⟨⟨_, _, _, _, 0, rfl, rfl, rfl, rfl, eff_at (nilE rfl rfl rfl rfl) rfl⟩, ⟨⟨_, _, _, _, 0, rfl, rfl, rfl, rfl, eff_at (eff_auto (X := ⟨_, true⟩) (out := .val _ _) hX rfl (ok_d (by have := tx_len ar l hokl; have := brk_len (tx ar l) (lvl l.c.kd) 0; have := brk_len (tx ar l) (lvl l.c.kd) 1; have := brk_len (tx ar l) (lvl l.c.kd) 2; have := tx_len ar r hokr; have := brk_len (tx ar r) (lvl r.c.kd) 0; have := brk_len (tx ar r) (lvl r.c.kd) 1; have := brk_len (tx ar r) (lvl r.c.kd) 2; (try simp only [List.length_append, List.length_cons, List.length_nil]); first | omega | decide) <| okE_nil)) rfl⟩, ⟨⟨_, _, _, _, 0, rfl, rfl, rfl, rfl, eff_at (eff_auto (X := ⟨_, true⟩) (out := .val _ _) hX rfl (ok_d (by have := tx_len ar l hokl; have := brk_len (tx ar l) (lvl l.c.kd) 0; have := brk_len (tx ar l) (lvl l.c.kd) 1; have := brk_len (tx ar l) (lvl l.c.kd) 2; have := tx_len ar r hokr; have := brk_len (tx ar r) (lvl r.c.kd) 0; have := brk_len (tx ar r) (lvl r.c.kd) 1; have := brk_len (tx ar r) (lvl r.c.kd) 2; (try simp only [List.length_append, List.length_cons, List.length_nil]); first | omega | decide) <| okE_nil)) rfl⟩, ⟨⟨_, _, _, _, 0, rfl, rfl, rfl, rfl, eff_at (callIE [] (TrAt.ok r br kr) hIr (at_of ar r lo br kr 1 hokr (by omega) (hxr br kr)) rfl rfl rfl rfl rfl rfl rfl) rfl⟩, ⟨⟨_, _, _, _, 0, rfl, rfl, rfl, rfl, eff_at (eff_auto (X := ⟨_, true⟩) (out := .val _ _) hX rfl (ok_d (by have := tx_len ar l hokl; have := brk_len (tx ar l) (lvl l.c.kd) 0; have := brk_len (tx ar l) (lvl l.c.kd) 1; have := brk_len (tx ar l) (lvl l.c.kd) 2; have := tx_len ar r hokr; have := brk_len (tx ar r) (lvl r.c.kd) 0; have := brk_len (tx ar r) (lvl r.c.kd) 1; have := brk_len (tx ar r) (lvl r.c.kd) 2; (try simp only [List.length_append, List.length_cons, List.length_nil]); first | omega | decide) <| okE_nil)) rfl⟩, ⟨⟨_, _, _, _, 0, rfl, rfl, rfl, rfl, eff_at (eff_auto (X := ⟨_, true⟩) (out := .val _ _) hX rfl rfl) rfl⟩, trivial⟩⟩⟩⟩⟩⟩⟩⟩⟩⟩⟩⟩⟩⟩⟩, trivial⟩ fun A => N hX 2 A rfl rfl fun A => RETN hX A rfl rfl rfl h0 rfl rfl rfl rfl (by rw [tx5 hk]; rfl) rfl))))
theorem text_ (ar : Int) (lo : Nat) : ∀ (t : Tr) (b o : Nat), t.ok → t.nd ≤ 1000 → FnI (TrAt lo t b o) Tryd.prog 14 [.int .i64 ar, .v (.pointer (some ⟨b, o, none⟩))] [] (Rt (.str (tx ar t)) [])
  | .lf c, b, o, h, _ => by
    rcases h.1 with h1 | h1
    · exact text1 ar c lo b o h1.1 ⟨h1.2.1, h1.2.2.1⟩ h.2
    · exact text2 ar c lo b o h1.1 h1.2 h.2
  | .un c l, b, o, h, hn => text3 ar c l lo b o h.1 h.2 (by have : l.nd + 1 ≤ 1000 := hn; omega) fun b o => text_ ar lo l b o h.2 (by have : l.nd + 1 ≤ 1000 := hn; omega)
  | .bi c l r, b, o, h, hn => by
    have h1 : l.nd + r.nd + 1 ≤ 1000 := hn
    have hl := fun b o => text_ ar lo l b o h.2.1 (by omega)
    have hr := fun b o => text_ ar lo r b o h.2.2 (by omega)
    rcases h.1 with h2 | h2
    · exact text4 ar c l r lo b o h2 h.2.1 (by omega) hl h.2.2 (by omega) hr
    · exact text5 ar c l r lo b o h2 h.2.1 (by omega) hl h.2.2 (by omega) hr
theorem ro1 {s m : Nat} {f : Nat → List SV} : ∀ (i : Nat) (e : Ent), ([some (.lst s m f)] : Hp)[i]? = some (some e) → e.mut = false
  | 0, e, h => by cases h; rfl
  | i + 1, e, h => by set_option simprocs true in simp at h
theorem build_ (L : List Cn) (c : Nat) (hr : right L = true) (hn : L.length ≤ 32) : FnR Tryd.prog 15 [.sl 0 L.length c] [some (.lst 5 L.length (fun zz => cc (L.getD zz Cn.z)))] (fun x w w' => ∃ b o, x = adr b o ∧ TrAt w.heap.size ((foldB L).getD 0 (.lf Cn.z)) b o w' []) :=
 enterR (n := 66) (by kernel_rfl) Tryd.func15 rfl rfl rfl fun G w a h0 A => N hX 17 A rfl rfl fun A => have A := A.nilRow 3 52 1 (fun zz => [adT (([] : List PT).getD zz tz)]) rfl (fun z => ⟨_, rfl, rfl⟩); LOOPJ (fun (z : List PT × Nat) => [(0, .sl 0 L.length c), (2, .v (.pointer none)), (3, .sl 1 z.1.length 0), (4, .int .i64 (z.2 : Int))]) (fun (z : List PT × Nat) => [some (.lst 5 L.length (fun zz => cc (L.getD zz Cn.z))), some (.row 52 1 z.1.length 0 (fun zz => [adT (z.1.getD zz tz)]))]) (fun z w1 ks1 => BI L z.1 z.2 ∧ AllT w.heap.size z.1 w1 ks1) (fun z => L.length - z.2) ([], 0) (A.cut [0, 2, 3, 4] rfl) ⟨BI.i0 hr, fun p hp => by cases hp⟩ fun z G1 a1 w1 hJ hg A B => N hX 9 A rfl rfl fun A => forkD 11 A rfl
   (fun h1 A => N hX 17 A rfl (ok_d (by have hle := hJ.1.le; have hq := hJ.1.kn h1; simp only [nodeAt] at hq; omega) <| ok_d (by have hle := hJ.1.le; have hq := hJ.1.kn h1; simp only [nodeAt] at hq; omega) <| okE_nil) fun A => N hX 12 A rfl (ok_d (by have hle := hJ.1.le; have hq := hJ.1.kn h1; simp only [nodeAt] at hq; omega) <| ok_d (by have hle := hJ.1.le; have hq := hJ.1.kn h1; simp only [nodeAt] at hq; omega) <| okE_nil) fun A => CALL1 [] (fn_asX (one_ ((L.getD (((z.2 : Int)).toNat) Cn.z).kd) ((L.getD (((z.2 : Int)).toNat) Cn.z).th) ((L.getD (((z.2 : Int)).toNat) Cn.z).rg) ((L.getD (((z.2 : Int)).toNat) Cn.z).lc) ((L.getD (((z.2 : Int)).toNat) Cn.z).vl)) (y := .int .i64 (L.getD (((z.2 : Int)).toNat) Cn.z).n) fun _ => rfl) A rfl rfl rfl rfl rfl rfl rfl fun A => N hX 10 A rfl rfl fun A => forkE 28 A rfl
    (fun h2 A => N hX 15 A rfl (ok_d (by have hle := hJ.1.le; have hq := hJ.1.kn h1; simp only [nodeAt] at hq; omega) <| ok_d (by have hle := hJ.1.le; have hq := hJ.1.kn h1; simp only [nodeAt] at hq; omega) <| ok_d (by have hle := hJ.1.le; have hq := hJ.1.kn h1; simp only [nodeAt] at hq; omega) <| okE_nil) fun A => N hX 5 A rfl rfl fun A => forkE 38 A rfl
     (fun h3 A => N hX 14 A rfl (ok_d (by have hle := hJ.1.le; have hq := hJ.1.kn h1; simp only [nodeAt] at hq; omega) <| ok_d (by have hle := hJ.1.le; have hq := hJ.1.kn h1; simp only [nodeAt] at hq; omega) <| ok_d (by have hle := hJ.1.le; have hq := hJ.1.kn h1; simp only [nodeAt] at hq; omega) <| okE_nil) fun A => N hX 12 A rfl (ok_d (by have hle := hJ.1.le; have hq := hJ.1.kn h1; simp only [nodeAt] at hq; omega) <| ok_d (by have hle := hJ.1.le; have hq := hJ.1.kn h1; simp only [nodeAt] at hq; omega) <| ok_d (by have hle := hJ.1.le; have hq := hJ.1.kn h1; simp only [nodeAt] at hq; omega) <| okE_nil) fun A => N hX 8 A rfl (ok_d (by have hle := hJ.1.le; have hq := hJ.1.kn h1; simp only [nodeAt] at hq; omega) <| ok_d (by show 0 ≤ ((z.1.length : Nat) : Int) - ((L.getD (((z.2 : Int)).toNat) Cn.z).n) ∧ ((z.1.length : Nat) : Int) - ((L.getD (((z.2 : Int)).toNat) Cn.z).n) ≤ ((z.1.length : Nat) : Int); exact (by have hle := hJ.1.le; have hq := hJ.1.kn h1; simp only [nodeAt] at hq; omega)) <| okE_nil) fun A => absurd (h2.symm.trans h3) (by decide))
     (fun h3 A => N hX 11 A rfl (ok_d (by have hle := hJ.1.le; have hq := hJ.1.kn h1; simp only [nodeAt] at hq; omega) <| ok_d (by show 0 ≤ ((z.1.length : Nat) : Int) - ((L.getD (((z.2 : Int)).toNat) Cn.z).n) ∧ ((z.1.length : Nat) : Int) - ((L.getD (((z.2 : Int)).toNat) Cn.z).n) ≤ ((z.1.length : Nat) : Int); exact (by have hle := hJ.1.le; have hq := hJ.1.kn h1; simp only [nodeAt] at hq; omega)) <| okE_nil) fun A => cl2 A 2 3 (H' := fun nb np => [some (.lst 5 L.length (fun zz => cc (L.getD zz Cn.z))), some (.row 52 1 z.1.length 0 (fun zz => [adT (z.1.getD zz tz)])), none, some (.blk [.v (.pointer (some ⟨nb, np, none⟩))])]) rfl rfl rfl (fun _ _ => rfl) fun nb np A2 hL hO => have hT := add1 hJ.1 h1 (hJ.2.now A2) h2 (k := (((z.1.length : Nat) : Int) - ((L.getD (((z.2 : Int)).toNat) Cn.z).n)).toNat) (lo_of B ro1 hO) hL; have A := A2.base; q_eff A rfl (eff_shrink (e := 52) (s := 1) 1 ((((z.1.length : Nat) : Int) - ((L.getD (((z.2 : Int)).toNat) Cn.z).n)).toNat) rfl (by have hle := hJ.1.le; have hq := hJ.1.kn h1; simp only [nodeAt] at hq; omega) (appE (i := 1) (e := 52) (s := 1) hX (((((z.1.length : Nat) : Int) - ((L.getD (((z.2 : Int)).toNat) Cn.z).n)).toNat) + 1) (fun zz => [adT ((z.1.take ((((z.1.length : Nat) : Int) - ((L.getD (((z.2 : Int)).toNat) Cn.z).n)).toNat) ++ [(nb, np, mkT (L.getD (((z.2 : Int)).toNat) Cn.z) (trs z.1))]).getD zz tz)]) rfl rfl rfl rfl (by have hle := hJ.1.le; have hq := hJ.1.kn h1; simp only [nodeAt] at hq; omega) rfl (fun q hq => by show [adT _] = [adT _]; rw [getD_app_l (by rw [List.length_take]; have hz := (by have hle := hJ.1.le; have hq := hJ.1.kn h1; simp only [nodeAt] at hq; omega); omega), getD_take hq]) (by show [adT _] = _; rw [bi_app (by have hle := hJ.1.le; have hq := hJ.1.kn h1; simp only [nodeAt] at hq; omega)]; rfl) (fun z => ⟨_, rfl, rfl⟩))) fun A => have A := (A.rowAs 4 ((z.1.take ((((z.1.length : Nat) : Int) - ((L.getD (((z.2 : Int)).toNat) Cn.z).n)).toNat) ++ [(nb, np, mkT (L.getD (((z.2 : Int)).toNat) Cn.z) (trs z.1))]).length) (fun zz => [adT ((z.1.take ((((z.1.length : Nat) : Int) - ((L.getD (((z.2 : Int)).toNat) Cn.z).n)).toNat) ++ [(nb, np, mkT (L.getD (((z.2 : Int)).toNat) Cn.z) (trs z.1))]).getD zz tz)]) rfl (bi_len (l := z.1) ((((z.1.length : Nat) : Int) - ((L.getD (((z.2 : Int)).toNat) Cn.z).n)).toNat) nb np (mkT (L.getD (((z.2 : Int)).toNat) Cn.z) (trs z.1)) (by have hle := hJ.1.le; have hq := hJ.1.kn h1; simp only [nodeAt] at hq; omega)) (fun q hq => rfl) (fun z => ⟨_, rfl, rfl⟩)).say 62 (.sl 4 ((z.1.take ((((z.1.length : Nat) : Int) - ((L.getD (((z.2 : Int)).toNat) Cn.z).n)).toNat) ++ [(nb, np, mkT (L.getD (((z.2 : Int)).toNat) Cn.z) (trs z.1))]).length) 0) rfl (by rw [(bi_len (l := z.1) ((((z.1.length : Nat) : Int) - ((L.getD (((z.2 : Int)).toNat) Cn.z).n)).toNat) nb np (mkT (L.getD (((z.2 : Int)).toNat) Cn.z) (trs z.1)) (by have hle := hJ.1.le; have hq := hJ.1.kn h1; simp only [nodeAt] at hq; omega))] <;> rfl); N hX 9 A rfl (ok_d (by have hle := hJ.1.le; have hq := hJ.1.kn h1; simp only [nodeAt] at hq; omega) <| okE_nil) fun A => ⟨(z.1.take ((((z.1.length : Nat) : Int) - ((L.getD (((z.2 : Int)).toNat) Cn.z).n)).toNat) ++ [(nb, np, mkT (L.getD (((z.2 : Int)).toNat) Cn.z) (trs z.1))], z.2 + 1), _, (by have := h1; show _ - _ < _ - _; omega), ⟨hJ.1.nx hr h1 nb np, (hT.now A).go (Mix.refl _ _) (fun b hb => .inl (keys_pick (H := [some (.lst 5 L.length (fun zz => cc (L.getD zz Cn.z))), none, none, some (.blk [.v (.pointer (some ⟨nb, np, none⟩))]), some (.row 52 1 ((z.1.take ((((z.1.length : Nat) : Int) - ((L.getD (((z.2 : Int)).toNat) Cn.z).n)).toNat) ++ [(nb, np, mkT (L.getD (((z.2 : Int)).toNat) Cn.z) (trs z.1))]).length) 0 (fun zz => [adT ((z.1.take ((((z.1.length : Nat) : Int) - ((L.getD (((z.2 : Int)).toNat) Cn.z).n)).toNat) ++ [(nb, np, mkT (L.getD (((z.2 : Int)).toNat) Cn.z) (trs z.1))]).getD zz tz)]))]) (m := rngF 0 1 ++ [4]) A.mem.len rfl rfl b hb))⟩, (((B.trans (A2.trans A)).cut [0, 2, 3, 4] rfl).mv 1 [4] rfl rfl rfl rfl (by simp only [List.length_cons, List.length_nil] at h0; omega))⟩))
    (fun h2 A => N hX 10 A rfl rfl fun A => forkE 38 A rfl
     (fun h4 A => N hX 14 A rfl (ok_d (by have hle := hJ.1.le; have hq := hJ.1.kn h1; simp only [nodeAt] at hq; omega) <| ok_d (by have hle := hJ.1.le; have hq := hJ.1.kn h1; simp only [nodeAt] at hq; omega) <| ok_d (by have hle := hJ.1.le; have hq := hJ.1.kn h1; simp only [nodeAt] at hq; omega) <| okE_nil) fun A => N hX 12 A rfl (ok_d (by have hle := hJ.1.le; have hq := hJ.1.kn h1; simp only [nodeAt] at hq; omega) <| ok_d (by have hle := hJ.1.le; have hq := hJ.1.kn h1; simp only [nodeAt] at hq; omega) <| ok_d (by have hle := hJ.1.le; have hq := hJ.1.kn h1; simp only [nodeAt] at hq; omega) <| okE_nil) fun A => N hX 8 A rfl (ok_d (by have hle := hJ.1.le; have hq := hJ.1.kn h1; simp only [nodeAt] at hq; omega) <| ok_d (by show 0 ≤ ((z.1.length : Nat) : Int) - ((L.getD (((z.2 : Int)).toNat) Cn.z).n) ∧ ((z.1.length : Nat) : Int) - ((L.getD (((z.2 : Int)).toNat) Cn.z).n) ≤ ((z.1.length : Nat) : Int); exact (by have hle := hJ.1.le; have hq := hJ.1.kn h1; simp only [nodeAt] at hq; omega)) <| okE_nil) fun A => cl2 A 2 3 (H' := fun nb np => [some (.lst 5 L.length (fun zz => cc (L.getD zz Cn.z))), some (.row 52 1 z.1.length 0 (fun zz => [adT (z.1.getD zz tz)])), none, some (.blk [.v (.pointer (some ⟨nb, np, none⟩))])]) rfl rfl rfl (fun _ _ => rfl) fun nb np A2 hL hO => have hT := add2 hJ.1 h1 (hJ.2.now A2) h4 (k := (((z.1.length : Nat) : Int) - ((L.getD (((z.2 : Int)).toNat) Cn.z).n)).toNat) (lo_of B ro1 hO) hL; have A := A2.base; q_eff A rfl (eff_shrink (e := 52) (s := 1) 1 ((((z.1.length : Nat) : Int) - ((L.getD (((z.2 : Int)).toNat) Cn.z).n)).toNat) rfl (by have hle := hJ.1.le; have hq := hJ.1.kn h1; simp only [nodeAt] at hq; omega) (appE (i := 1) (e := 52) (s := 1) hX (((((z.1.length : Nat) : Int) - ((L.getD (((z.2 : Int)).toNat) Cn.z).n)).toNat) + 1) (fun zz => [adT ((z.1.take ((((z.1.length : Nat) : Int) - ((L.getD (((z.2 : Int)).toNat) Cn.z).n)).toNat) ++ [(nb, np, mkT (L.getD (((z.2 : Int)).toNat) Cn.z) (trs z.1))]).getD zz tz)]) rfl rfl rfl rfl (by have hle := hJ.1.le; have hq := hJ.1.kn h1; simp only [nodeAt] at hq; omega) rfl (fun q hq => by show [adT _] = [adT _]; rw [getD_app_l (by rw [List.length_take]; have hz := (by have hle := hJ.1.le; have hq := hJ.1.kn h1; simp only [nodeAt] at hq; omega); omega), getD_take hq]) (by show [adT _] = _; rw [bi_app (by have hle := hJ.1.le; have hq := hJ.1.kn h1; simp only [nodeAt] at hq; omega)]; rfl) (fun z => ⟨_, rfl, rfl⟩))) fun A => have A := (A.rowAs 4 ((z.1.take ((((z.1.length : Nat) : Int) - ((L.getD (((z.2 : Int)).toNat) Cn.z).n)).toNat) ++ [(nb, np, mkT (L.getD (((z.2 : Int)).toNat) Cn.z) (trs z.1))]).length) (fun zz => [adT ((z.1.take ((((z.1.length : Nat) : Int) - ((L.getD (((z.2 : Int)).toNat) Cn.z).n)).toNat) ++ [(nb, np, mkT (L.getD (((z.2 : Int)).toNat) Cn.z) (trs z.1))]).getD zz tz)]) rfl (bi_len (l := z.1) ((((z.1.length : Nat) : Int) - ((L.getD (((z.2 : Int)).toNat) Cn.z).n)).toNat) nb np (mkT (L.getD (((z.2 : Int)).toNat) Cn.z) (trs z.1)) (by have hle := hJ.1.le; have hq := hJ.1.kn h1; simp only [nodeAt] at hq; omega)) (fun q hq => rfl) (fun z => ⟨_, rfl, rfl⟩)).say 62 (.sl 4 ((z.1.take ((((z.1.length : Nat) : Int) - ((L.getD (((z.2 : Int)).toNat) Cn.z).n)).toNat) ++ [(nb, np, mkT (L.getD (((z.2 : Int)).toNat) Cn.z) (trs z.1))]).length) 0) rfl (by rw [(bi_len (l := z.1) ((((z.1.length : Nat) : Int) - ((L.getD (((z.2 : Int)).toNat) Cn.z).n)).toNat) nb np (mkT (L.getD (((z.2 : Int)).toNat) Cn.z) (trs z.1)) (by have hle := hJ.1.le; have hq := hJ.1.kn h1; simp only [nodeAt] at hq; omega))] <;> rfl); N hX 9 A rfl (ok_d (by have hle := hJ.1.le; have hq := hJ.1.kn h1; simp only [nodeAt] at hq; omega) <| okE_nil) fun A => ⟨(z.1.take ((((z.1.length : Nat) : Int) - ((L.getD (((z.2 : Int)).toNat) Cn.z).n)).toNat) ++ [(nb, np, mkT (L.getD (((z.2 : Int)).toNat) Cn.z) (trs z.1))], z.2 + 1), _, (by have := h1; show _ - _ < _ - _; omega), ⟨hJ.1.nx hr h1 nb np, (hT.now A).go (Mix.refl _ _) (fun b hb => .inl (keys_pick (H := [some (.lst 5 L.length (fun zz => cc (L.getD zz Cn.z))), none, none, some (.blk [.v (.pointer (some ⟨nb, np, none⟩))]), some (.row 52 1 ((z.1.take ((((z.1.length : Nat) : Int) - ((L.getD (((z.2 : Int)).toNat) Cn.z).n)).toNat) ++ [(nb, np, mkT (L.getD (((z.2 : Int)).toNat) Cn.z) (trs z.1))]).length) 0 (fun zz => [adT ((z.1.take ((((z.1.length : Nat) : Int) - ((L.getD (((z.2 : Int)).toNat) Cn.z).n)).toNat) ++ [(nb, np, mkT (L.getD (((z.2 : Int)).toNat) Cn.z) (trs z.1))]).getD zz tz)]))]) (m := rngF 0 1 ++ [4]) A.mem.len rfl rfl b hb))⟩, (((B.trans (A2.trans A)).cut [0, 2, 3, 4] rfl).mv 1 [4] rfl rfl rfl rfl (by simp only [List.length_cons, List.length_nil] at h0; omega))⟩)
     (fun h4 A => N hX 11 A rfl (ok_d (by have hle := hJ.1.le; have hq := hJ.1.kn h1; simp only [nodeAt] at hq; omega) <| ok_d (by show 0 ≤ ((z.1.length : Nat) : Int) - ((L.getD (((z.2 : Int)).toNat) Cn.z).n) ∧ ((z.1.length : Nat) : Int) - ((L.getD (((z.2 : Int)).toNat) Cn.z).n) ≤ ((z.1.length : Nat) : Int); exact (by have hle := hJ.1.le; have hq := hJ.1.kn h1; simp only [nodeAt] at hq; omega)) <| okE_nil) fun A => cl2 A 2 3 (H' := fun nb np => [some (.lst 5 L.length (fun zz => cc (L.getD zz Cn.z))), some (.row 52 1 z.1.length 0 (fun zz => [adT (z.1.getD zz tz)])), none, some (.blk [.v (.pointer (some ⟨nb, np, none⟩))])]) rfl rfl rfl (fun _ _ => rfl) fun nb np A2 hL hO => have hT := add0 hJ.1 h1 (hJ.2.now A2) h2 h4 (k := (((z.1.length : Nat) : Int) - ((L.getD (((z.2 : Int)).toNat) Cn.z).n)).toNat) (lo_of B ro1 hO) hL; have A := A2.base; q_eff A rfl (eff_shrink (e := 52) (s := 1) 1 ((((z.1.length : Nat) : Int) - ((L.getD (((z.2 : Int)).toNat) Cn.z).n)).toNat) rfl (by have hle := hJ.1.le; have hq := hJ.1.kn h1; simp only [nodeAt] at hq; omega) (appE (i := 1) (e := 52) (s := 1) hX (((((z.1.length : Nat) : Int) - ((L.getD (((z.2 : Int)).toNat) Cn.z).n)).toNat) + 1) (fun zz => [adT ((z.1.take ((((z.1.length : Nat) : Int) - ((L.getD (((z.2 : Int)).toNat) Cn.z).n)).toNat) ++ [(nb, np, mkT (L.getD (((z.2 : Int)).toNat) Cn.z) (trs z.1))]).getD zz tz)]) rfl rfl rfl rfl (by have hle := hJ.1.le; have hq := hJ.1.kn h1; simp only [nodeAt] at hq; omega) rfl (fun q hq => by show [adT _] = [adT _]; rw [getD_app_l (by rw [List.length_take]; have hz := (by have hle := hJ.1.le; have hq := hJ.1.kn h1; simp only [nodeAt] at hq; omega); omega), getD_take hq]) (by show [adT _] = _; rw [bi_app (by have hle := hJ.1.le; have hq := hJ.1.kn h1; simp only [nodeAt] at hq; omega)]; rfl) (fun z => ⟨_, rfl, rfl⟩))) fun A => have A := (A.rowAs 4 ((z.1.take ((((z.1.length : Nat) : Int) - ((L.getD (((z.2 : Int)).toNat) Cn.z).n)).toNat) ++ [(nb, np, mkT (L.getD (((z.2 : Int)).toNat) Cn.z) (trs z.1))]).length) (fun zz => [adT ((z.1.take ((((z.1.length : Nat) : Int) - ((L.getD (((z.2 : Int)).toNat) Cn.z).n)).toNat) ++ [(nb, np, mkT (L.getD (((z.2 : Int)).toNat) Cn.z) (trs z.1))]).getD zz tz)]) rfl (bi_len (l := z.1) ((((z.1.length : Nat) : Int) - ((L.getD (((z.2 : Int)).toNat) Cn.z).n)).toNat) nb np (mkT (L.getD (((z.2 : Int)).toNat) Cn.z) (trs z.1)) (by have hle := hJ.1.le; have hq := hJ.1.kn h1; simp only [nodeAt] at hq; omega)) (fun q hq => rfl) (fun z => ⟨_, rfl, rfl⟩)).say 62 (.sl 4 ((z.1.take ((((z.1.length : Nat) : Int) - ((L.getD (((z.2 : Int)).toNat) Cn.z).n)).toNat) ++ [(nb, np, mkT (L.getD (((z.2 : Int)).toNat) Cn.z) (trs z.1))]).length) 0) rfl (by rw [(bi_len (l := z.1) ((((z.1.length : Nat) : Int) - ((L.getD (((z.2 : Int)).toNat) Cn.z).n)).toNat) nb np (mkT (L.getD (((z.2 : Int)).toNat) Cn.z) (trs z.1)) (by have hle := hJ.1.le; have hq := hJ.1.kn h1; simp only [nodeAt] at hq; omega))] <;> rfl); N hX 9 A rfl (ok_d (by have hle := hJ.1.le; have hq := hJ.1.kn h1; simp only [nodeAt] at hq; omega) <| okE_nil) fun A => ⟨(z.1.take ((((z.1.length : Nat) : Int) - ((L.getD (((z.2 : Int)).toNat) Cn.z).n)).toNat) ++ [(nb, np, mkT (L.getD (((z.2 : Int)).toNat) Cn.z) (trs z.1))], z.2 + 1), _, (by have := h1; show _ - _ < _ - _; omega), ⟨hJ.1.nx hr h1 nb np, (hT.now A).go (Mix.refl _ _) (fun b hb => .inl (keys_pick (H := [some (.lst 5 L.length (fun zz => cc (L.getD zz Cn.z))), none, none, some (.blk [.v (.pointer (some ⟨nb, np, none⟩))]), some (.row 52 1 ((z.1.take ((((z.1.length : Nat) : Int) - ((L.getD (((z.2 : Int)).toNat) Cn.z).n)).toNat) ++ [(nb, np, mkT (L.getD (((z.2 : Int)).toNat) Cn.z) (trs z.1))]).length) 0 (fun zz => [adT ((z.1.take ((((z.1.length : Nat) : Int) - ((L.getD (((z.2 : Int)).toNat) Cn.z).n)).toNat) ++ [(nb, np, mkT (L.getD (((z.2 : Int)).toNat) Cn.z) (trs z.1))]).getD zz tz)]))]) (m := rngF 0 1 ++ [4]) A.mem.len rfl rfl b hb))⟩, (((B.trans (A2.trans A)).cut [0, 2, 3, 4] rfl).mv 1 [4] rfl rfl rfl rfl (by simp only [List.length_cons, List.length_nil] at h0; omega))⟩)))
   (fun h1 A => N hX 12 A rfl (ok_d (by have hle := hJ.1.le; have hq := (hJ.1.fi hr h1).1; omega) <| ok_d (by have hle := hJ.1.le; have hq := (hJ.1.fi hr h1).1; omega) <| okE_nil) fun A => RETR (J := fun x w w' => ∃ b o, x = adr b o ∧ TrAt w.heap.size ((foldB L).getD 0 (.lf Cn.z)) b o w' []) hX (B.trans A) ro1 rfl rfl rfl rfl ⟨_, _, rfl, bi_end hJ.1 hr h1 (hJ.2.now A)⟩)
end Go.Proofs.YtedlaclfhgneeabDoor
namespace Go.Proofs.YtedlaclfhgneeabDoor
open Go.RowKit
set_option linter.unusedVariables false
set_option linter.unusedSimpArgs false
set_option linter.unusedSectionVars false
theorem nilaE {P : Program} {n : Nat} {ks : List Nat} {G0 : Gr} {w0 : World} {T : List (Nat × SV)} {H : Hp} {ops : Array Oper} {o : Oper} {t t2 e : TypeId} {x y : Operand} (hg : guardS ops T o.guard = some .run) (hop : o.op = .binOp .eql t x y t2) (hx : evS T x = some (.sla none 0 0)) (hy : evS T y = some (.sla none 0 0)) (hu : P.underlying t = some (.slice e)) : EffOK P n ops ks G0 w0 T H o .tt H := fun G a w A => by
  have hw := gd_run (gd := none) A hg
  obtain ⟨d, op, ty, pos, af, gd⟩ := o
  simp only at hop
  subst hop
  have hvx := A.ev hx
  have hvy := A.ev hy
  simp only [den, Option.some.injEq] at hvx hvy
  refine d_bin (u := .slice none 0 0) (v := .slice none 0 0) (r := .bool true) hw hvx.symm hvy.symm ⟨by simp [eqGuard], ?_⟩ ⟨[], rfl, by rw [List.append_nil]; exact A.ms⟩
  rw [Go.Lib.run_eql_slice_nil w t e _ _ _ 0 0 hu]
  rfl
theorem ap45 (s : List UInt8) (k : Int) : apT [4, 5] s k = brk s (lvl k) 2 := by
  unfold apT brk lvl
  by_cases h5 : k = 5
  · subst h5; rfl
  · by_cases h4 : k = 4
    · subst h4; rfl
    · have : ixf k [4, 5] 0 = -1 := by simp [ixf, h4, h5]
      rw [this, if_neg h5, if_neg h4, if_neg (by decide)]
      split <;> rfl
theorem ap5 (s : List UInt8) (k : Int) : apT [5] s k = brk s (lvl k) 1 := by
  unfold apT brk lvl
  by_cases h5 : k = 5
  · subst h5; rfl
  · have : ixf k [5] 0 = -1 := by simp [ixf, h5]
    rw [this, if_neg h5, if_neg (by decide)]
    split
    · rfl
    · split <;> rfl
theorem ap0 (s : List UInt8) (k : Int) : brk s (lvl k) 0 = s := by
  unfold brk
  have h : ¬ lvl k < 0 := by
    unfold lvl
    by_cases h5 : k = 5
    · rw [if_pos h5]; decide
    · rw [if_neg h5]
      by_cases h4 : k = 4
      · rw [if_pos h4]; decide
      · rw [if_neg h4]
        by_cases h3 : k = 3
        · rw [if_pos h3]; decide
        · rw [if_neg h3]; decide
  rw [if_neg h]
theorem getD_el {ts : List Tr} {k : Nat} (h : k < ts.length) : ts.getD k (.lf Cn.z) = ts[k] := by rw [List.getD_eq_getElem?_getD, List.getElem?_eq_getElem h]; rfl
def gT (ar : Int) (t : Tr) : Pc := (tx ar t, t.c.kd)
theorem mkT_c (c : Cn) (ts : List Tr) : (mkT c ts).c = c := by unfold mkT; split <;> (try split) <;> rfl
theorem getD_map {ar : Int} {ts : List Tr} {k : Nat} (h : k < ts.length) : (ts.map (gT ar)).getD k pz = gT ar (ts.getD k (.lf Cn.z)) := by simp [List.getD, h]
section
variable {ar : Int} {R : List (List UInt8)} {c : Cn} {ts : List Tr}
theorem wr_tx (hR : ∀ g : Int, 0 ≤ g → g < 8 → R.getD (g).toNat [] = rname0 ar g) (hn : ¬ c.n < 0) (hl : c.n ≤ (ts.length : Int)) (hp : c.n = parts0 c.kd) {k : Nat} : wr0 R c.kd c.th c.rg c.lc c.vl (ts.map (gT ar)) (((ts.length : Nat) : Int) - parts0 c.kd).toNat k = tx ar (mkT c ts) := by
  rcases cn_kind hn with h | h | h | h | h
  · have hk := h.1
    unfold mkT
    rw [if_neg (by rw [← hp]; omega), if_neg (by rw [← hp]; omega), tx1 hk]
    unfold wr0
    rw [if_pos hk, hR c.rg (by omega) (by omega)]
  · have hk := h.1
    unfold mkT
    rw [if_neg (by rw [← hp]; omega), if_neg (by rw [← hp]; omega), tx2 hk]
    unfold wr0
    rw [if_neg (by omega), if_pos hk]
    have : c.lc = 0 ∨ c.lc = 1 ∨ c.lc = 2 := by omega
    rcases this with e | e | e <;> rw [e] <;> rfl
  · have hk := h.1
    have h1 : parts0 c.kd = 1 := by rw [← hp]; omega
    have hj : ((((((ts.length : Nat) : Int) - 1).toNat : Nat) : Int) + 0).toNat = (((ts.length : Nat) : Int) - 1).toNat := by omega
    unfold mkT
    rw [if_pos h1, tx3 hk]
    unfold wr0
    rw [if_neg (by omega), if_neg (by omega), if_pos hk, ap45, h1, hj, getD_map (by omega)]
    rfl
  · have hk := h.1
    have h1 : parts0 c.kd = 2 := by rw [← hp]; omega
    have hj : ((((((ts.length : Nat) : Int) - 2).toNat : Nat) : Int) + 0).toNat = (((ts.length : Nat) : Int) - 2).toNat := by omega
    have hi : ((((((ts.length : Nat) : Int) - 2).toNat : Nat) : Int) + 1).toNat = (((ts.length : Nat) : Int) - 1).toNat := by omega
    unfold mkT
    rw [if_neg (by omega), if_pos h1, tx4 hk]
    unfold wr0
    rw [if_neg (by omega), if_neg (by omega), if_neg (by omega), if_pos hk, ap45, ap5, h1, hj, hi, getD_map (by omega), getD_map (by omega)]
    simp [gT, List.append_assoc]
  · have hk := h.1
    have h1 : parts0 c.kd = 2 := by rw [← hp]; omega
    have hj : ((((((ts.length : Nat) : Int) - 2).toNat : Nat) : Int) + 0).toNat = (((ts.length : Nat) : Int) - 2).toNat := by omega
    have hi : ((((((ts.length : Nat) : Int) - 2).toNat : Nat) : Int) + 1).toNat = (((ts.length : Nat) : Int) - 1).toNat := by omega
    unfold mkT
    rw [if_neg (by omega), if_pos h1, tx5 hk]
    unfold wr0
    rw [if_neg (by omega), if_neg (by omega), if_neg (by omega), if_neg (by omega), ap5, h1, hj, hi, getD_map (by omega), getD_map (by omega), ap0]
    simp [gT, List.append_assoc]
def sz (ts : List Tr) : Nat := (ts.map Tr.nd).sum
theorem sz_app (a b : List Tr) : sz (a ++ b) = sz a + sz b := by simp [sz]
theorem sz_mk (hn : ¬ c.n < 0) (hl : c.n ≤ (ts.length : Int)) (hp : c.n = parts0 c.kd) : sz (stepB c ts) = sz ts + 1 := by
  have hd : ∀ k, k ≤ ts.length → sz ts = sz (ts.take k) + sz (ts.drop k) := fun k _ => by rw [← sz_app, List.take_append_drop]
  have one : ∀ t : Tr, sz [t] = t.nd := fun t => by simp [sz]
  unfold stepB mkT
  rw [sz_app, one, ← hp]
  rcases cn_kind hn with h | h | h | h | h
  · rw [if_neg (by omega), if_neg (by omega), h.2.1, show (((ts.length : Nat) : Int) - 0).toNat = ts.length by omega, List.take_length]; rfl
  · rw [if_neg (by omega), if_neg (by omega), h.2.1, show (((ts.length : Nat) : Int) - 0).toNat = ts.length by omega, List.take_length]; rfl
  · rw [if_pos h.2, h.2]
    have hi : (((ts.length : Nat) : Int) - 1).toNat < ts.length := by omega
    rw [hd _ (Nat.le_of_lt hi), List.drop_eq_getElem_cons hi, List.drop_eq_nil_of_le (by omega)]
    have e : ts.getD (((ts.length : Nat) : Int) - 1).toNat (.lf Cn.z) = ts[(((ts.length : Nat) : Int) - 1).toNat] := getD_el hi
    rw [e, one]
    show _ + (Tr.nd _ + 1) = _
    omega
  all_goals
    rw [if_neg (by omega), if_pos h.2, h.2]
    have hi : (((ts.length : Nat) : Int) - 2).toNat < ts.length := by omega
    have hj : (((ts.length : Nat) : Int) - 1).toNat < ts.length := by omega
    have hij : (((ts.length : Nat) : Int) - 2).toNat + 1 = (((ts.length : Nat) : Int) - 1).toNat := by omega
    rw [hd _ (Nat.le_of_lt hi), List.drop_eq_getElem_cons hi, List.drop_eq_getElem_cons (by omega), List.drop_eq_nil_of_le (by omega)]
    have e : ts.getD (((ts.length : Nat) : Int) - 2).toNat (.lf Cn.z) = ts[(((ts.length : Nat) : Int) - 2).toNat] := getD_el hi
    have e2 : ts.getD (((ts.length : Nat) : Int) - 1).toNat (.lf Cn.z) = ts[(((ts.length : Nat) : Int) - 2).toNat + 1] := by rw [← hij]; exact getD_el (by omega)
    rw [e, e2]
    have t2 : ∀ a b : Tr, sz [a, b] = a.nd + b.nd := fun a b => by simp [sz]
    rw [t2]
    show _ + (Tr.nd _ + Tr.nd _ + 1) = _
    omega
theorem ok_mk (hn : ¬ c.n < 0) (hl : c.n ≤ (ts.length : Int)) (hp : c.n = parts0 c.kd) (hv : okV c.vl) (h : ∀ t ∈ ts, t.ok) : ∀ t ∈ stepB c ts, t.ok := by
  have at_ : ∀ k, k < ts.length → (ts.getD k (.lf Cn.z)).ok := fun k hk => by
    rw [List.getD_eq_getElem?_getD, List.getElem?_eq_getElem hk]; exact h _ (List.getElem_mem hk)
  intro t ht
  rcases List.mem_append.1 ht with ht | ht
  · exact h t (List.mem_of_mem_take ht)
  · rw [List.mem_singleton.1 ht]
    unfold mkT
    rw [← hp]
    rcases cn_kind hn with q | q | q | q | q
    · rw [if_neg (by omega), if_neg (by omega)]; exact ⟨.inl ⟨q.1, q.2.2⟩, hv⟩
    · rw [if_neg (by omega), if_neg (by omega)]; exact ⟨.inr ⟨q.1, q.2.2⟩, hv⟩
    · rw [if_pos q.2]; exact ⟨q.1, at_ _ (by omega)⟩
    · rw [if_neg (by omega), if_pos q.2]; exact ⟨.inl q.1, at_ _ (by omega), at_ _ (by omega)⟩
    · rw [if_neg (by omega), if_pos q.2]; exact ⟨.inr q.1, at_ _ (by omega), at_ _ (by omega)⟩
end
structure STK (ar : Int) (R : List (List UInt8)) (L : List Cn) (i : Nat) : Prop where
  lb : ∃ lb, EI oz L lb i ∧ lb.length = (foldB (L.take i)).length
  eq : foldP R (L.take i) = (foldB (L.take i)).map (gT ar)
  ok : ∀ t ∈ foldB (L.take i), t.ok
  nd : sz (foldB (L.take i)) = i
theorem ss_all {ar : Int} {R : List (List UInt8)} {L : List Cn} (hR : ∀ g : Int, 0 ≤ g → g < 8 → R.getD (g).toNat [] = rname0 ar g) (hr : right L = true) (hv : ∀ q, okV (L.getD q Cn.z).vl) : ∀ i, i ≤ L.length → STK ar R L i
  | 0, _ => ⟨⟨[], EI.init (by rw [hr]; rfl), rfl⟩, rfl, fun t ht => by simp [foldB] at ht, rfl⟩
  | i + 1, hi => by
    have hs := ss_all hR hr hv i (by omega)
    obtain ⟨lb, h2, h3⟩ := hs.lb
    have h2' : EI oz (L.take L.length) lb i := by rw [List.take_length]; exact h2
    have k' := h2'.kn (Nat.le_refl _) (show (i : Int) < ((L.length : Nat) : Int) by omega)
    have hn := h2'.nx (by rw [List.take_length]; exact hr) (Nat.le_refl _) (show (i : Int) < ((L.length : Nat) : Int) by omega)
    rw [List.take_length] at hn
    have hi' : i < L.length := by omega
    have e : L[i] = L.getD ((i : Int)).toNat Cn.z := by simp [List.getD, hi']
    have eB : foldB (L.take (i + 1)) = stepB (L.getD ((i : Int)).toNat Cn.z) (foldB (L.take i)) := by
      rw [List.take_succ_eq_append_getElem hi', e]; unfold foldB; rw [List.foldl_append]; rfl
    have eP : foldP R (L.take (i + 1)) = stepP R (L.getD ((i : Int)).toNat Cn.z) (foldP R (L.take i)) := by
      rw [List.take_succ_eq_append_getElem hi', e]; unfold foldP; rw [List.foldl_append]; rfl
    have a1 := k'.1
    have a2 : (L.getD ((i : Int)).toNat Cn.z).n ≤ ((foldB (L.take i)).length : Int) := by rw [← h3]; exact k'.2.1
    have a3 := k'.2.2.1
    refine ⟨⟨_, hn, ?_⟩, ?_, ?_, ?_⟩
    · rw [← fold_st (p := oz) (l := lb) k'.1 k'.2.1 k'.2.2.1 rfl, eB]
      unfold stepB
      simp only [List.length_append, List.length_take, List.length_cons, List.length_nil, h3]
    · rw [eP, eB, hs.eq]
      unfold stepP stepB
      rw [List.map_append, List.map_take, List.length_map, wr_tx hR a1 a2 a3]
      simp [gT, mkT_c]
    · rw [eB]; exact ok_mk a1 a2 a3 (hv _) hs.ok
    · rw [eB, sz_mk a1 a2 a3, hs.nd]
theorem nd_le {ts : List Tr} {t : Tr} (h : t ∈ ts) : t.nd ≤ sz ts := by
  induction ts with
  | nil => cases h
  | cons x l ih =>
    have : sz (x :: l) = x.nd + sz l := by simp [sz]
    rcases List.mem_cons.1 h with rfl | h
    · omega
    · have := ih h; omega
section
variable {ar : Int} {R : List (List UInt8)} {L : List Cn} (hR : ∀ g : Int, 0 ≤ g → g < 8 → R.getD (g).toNat [] = rname0 ar g) (hr : right L = true) (hv : ∀ q, okV (L.getD q Cn.z).vl)
include hR hr hv
theorem foldP_len (i q : Nat) : ((foldP R (L.take i)).getD q pz).1.length ≤ 1000000 := by
  have key : ∀ i, i ≤ L.length → ((foldP R (L.take i)).getD q pz).1.length ≤ 1000000 := fun i hi => by
    have hs := ss_all hR hr hv i hi
    rw [hs.eq]
    by_cases hq : q < (foldB (L.take i)).length
    · rw [getD_map hq]
      have hm : (foldB (L.take i)).getD q (.lf Cn.z) ∈ foldB (L.take i) := by rw [List.getD_eq_getElem?_getD, List.getElem?_eq_getElem hq]; exact List.getElem_mem hq
      have h1 := tx_len ar _ (hs.ok _ hm)
      have h2 := nd_le hm
      have h3 := hs.nd
      have h4 : L.length ≤ 32 := by unfold right at hr; split at hr <;> first | cases hr | omega
      show (tx ar _).length ≤ _
      omega
    · rw [List.getD_eq_getElem?_getD, List.getElem?_eq_none (by simp; omega)]; decide
  by_cases hi : i ≤ L.length
  · exact key i hi
  · have := key L.length (Nat.le_refl _)
    rw [List.take_of_length_le (by omega)]
    rwa [List.take_length] at this
theorem tree_fin : ((foldB L).getD 0 (.lf Cn.z)).ok ∧ ((foldB L).getD 0 (.lf Cn.z)).nd ≤ 1000 ∧ tx ar ((foldB L).getD 0 (.lf Cn.z)) = ((foldP R L).getD 0 pz).1 := by
  have hs := ss_all hR hr hv L.length (Nat.le_refl _)
  obtain ⟨lb, h2, h3⟩ := hs.lb
  have h4 := h2.fin (by omega)
  have e1 := hs.eq; have e2 := hs.ok; have e3 := hs.nd
  rw [List.take_length] at h3 e1 e2 e3
  have hq : 0 < (foldB L).length := by omega
  have hm : (foldB L).getD 0 (.lf Cn.z) ∈ foldB L := by rw [List.getD_eq_getElem?_getD, List.getElem?_eq_getElem hq]; exact List.getElem_mem hq
  have h5 := nd_le hm
  have h6 : L.length ≤ 32 := by unfold right at hr; split at hr <;> first | cases hr | omega
  refine ⟨e2 _ hm, by omega, ?_⟩
  rw [e1, getD_map hq]; rfl
end
end Go.Proofs.YtedlaclfhgneeabDoor
namespace Go.Proofs.YtedlaclfhgneeabDoor
open Go.RowKit
set_option linter.unusedVariables false
set_option linter.unusedSimpArgs false
theorem mem_ro {H : Hp} {G : Gr} {w : World} (hl : H.length = G.length) (h : ∀ (i : Nat) (e : Ent), H[i]? = some (some e) → e.mut = false ∧ EntOK G w ((G[i]?).getD none) e) : Mem H G w :=
  ⟨hl, fun i e he => (h i e he).2, fun i j e f L M _ he _ hm => by rw [(h i e he).1] at hm; cases hm⟩
theorem lst_of {α : Type} {enc : α → List Value} {f : Nat → List SV} {s B n cap : Nat} {w : World} {l : List α} {bo : Option (Nat × Nat)} (h : Sl enc s B w (.slice (bo.map fun x => ⟨x.1, x.2, none⟩) n cap) l) (hB : B ≤ w.heap.size)
    (hf : ∀ k x, l[k]? = some x → denL [] (f k) = some (enc x)) (htot : ∀ k, ∃ vs, denL [] (f k) = some vs) :
    n = l.length ∧ ∀ (G F : Gr), den (G ++ (bo.map fun x => (⟨x.1, List.replicate x.2 undef, [], 0⟩ : Loc)) :: F) (.sl G.length l.length cap) = some (.slice (bo.map fun x => ⟨x.1, x.2, none⟩) n cap) ∧ EntOK (G ++ (bo.map fun x => (⟨x.1, List.replicate x.2 undef, [], 0⟩ : Loc)) :: F) w (bo.map fun x => (⟨x.1, List.replicate x.2 undef, [], 0⟩ : Loc)) (.lst s l.length f) := by
  obtain ⟨ao, cap', hv, hlc, he⟩ := h
  simp only [Value.slice.injEq] at hv
  obtain ⟨rfl, rfl, rfl⟩ := hv
  refine ⟨rfl, fun G F => ⟨?_, htot, ?_⟩⟩
  · unfold den
    rw [List.getElem?_append_right (Nat.le_refl _)]
    cases bo <;> simp [rm]
  · cases bo with
    | none =>
      left
      cases l with
      | nil => rfl
      | cons x l => obtain ⟨b, o, h1, _⟩ := he 0 x rfl; cases h1
    | some x =>
      obtain ⟨b, o⟩ := x
      cases hl : l with
      | nil => left; rfl
      | cons y l' =>
        right
        have hb : b < B := by
          obtain ⟨b', o', h1, h2, _⟩ := he 0 y (by rw [hl]; rfl)
          cases h1; exact h2
        refine ⟨_, rfl, (by show b < _; omega), fun k hk => ?_⟩
        have hk' : k < l.length := by rw [hl]; exact hk
        obtain ⟨b', o', h1, h2, h3⟩ := he k l[k] (by simp [hk'])
        cases h1
        exact ⟨_, hf k l[k] (by simp [hk']), by simpa using h3⟩
theorem post_ro {x : SV} {H H2 : Hp} {G : Gr} {w w' : World} {e : Ending} (h : Post (Rt x H2) H G w e w') (hro : ∀ (i : Nat) (e : Ent), H[i]? = some (some e) → e.mut = false) : ∃ v F, den (G ++ F) x = some v ∧ e = .returned v ∧ Mem H2 (G ++ F) w' ∧ Grow w w' := by
  obtain ⟨y, H', F, v, ⟨rfl, rfl⟩, h1, h2, h3, hmix, _⟩ := h
  have hk : ∀ k, (keys H G).contains k = false := fun k => by
    cases hc : (keys H G).contains k with
    | false => rfl
    | true =>
      obtain ⟨i, e', L, q1, q2, _⟩ := mem_keys.1 hc
      rw [hro i e' q1] at q2; cases q2
  exact ⟨v, F, h1, h2, h3, ⟨hmix.os, hmix.tape, hmix.output, hmix.size, fun k hk' => hmix.block k hk' (hk k)⟩⟩
end Go.Proofs.YtedlaclfhgneeabDoor
namespace Go.Proofs.YtedlaclfhgneeabDoor
open Go.RowKit
set_option linter.unusedVariables false
set_option linter.unusedSimpArgs false
set_option maxRecDepth 100000
set_option maxHeartbeats 2000000
set_option simprocs false
theorem printX_ (ar : Int) (L : List Cn) (n : Nat) (c : Nat) (b : Nat) (o : Obj) (g1 : ar ≠ 1) (g2 : ar ≠ 2) (g3 : ar ≠ 3) : Fn Tryd.prog 5 [.int .i64 ar, .sl 0 n c] [some (.lst 5 L.length (fun zz => cc (L.getD zz Cn.z))), some (.fac b o)] (Rt (.tup [.str [], .int .i64 36]) [some (.lst 5 L.length (fun zz => cc (L.getD zz Cn.z))), some (.fac b o)]) :=
 enterM (n := 20) (by kernel_rfl) Tryd.func5 rfl rfl rfl fun G w a h0 A => N hX 9 A rfl rfl fun A => CALL1 [] (regs0_ ar g1 g2 g3) A rfl rfl rfl rfl rfl rfl rfl fun A => N hX 8 A rfl rfl fun A => q_eff A rfl (nilaE (e := 9) rfl rfl rfl rfl (by kernel_rfl)) fun A => N hX 10 A rfl rfl fun A => RETN hX A rfl rfl rfl h0 rfl rfl rfl rfl rfl rfl
def badA (ar : Int) : Bool := (decide (ar < 1)) || (decide (ar > 3))
def treeOf (L : List Cn) : Tr := (foldB L).getD 0 (.lf Cn.z)
def prT (ar : Int) (L : List Cn) : List UInt8 := if badA ar = true then [] else if (!(right L)) = true then [] else tx ar (treeOf L)
def prE (ar : Int) (L : List Cn) : Int := if badA ar = true then 36 else if (!(right L)) = true then 22 else 0
theorem fn_addF {P : Program} {f : Nat} {az : List SV} {s m : Nat} {g : Nat → List SV} {x : SV} {b : Nat} {o : Obj} (h : Fn P f az [some (.lst s m g)] (Rt x [some (.lst s m g)])) (hx : inS 0 x = true) (ha : inL 1 az = true) : Fn P f az [some (.lst s m g), some (.fac b o)] (Rt x [some (.lst s m g), some (.fac b o)]) := by
  refine ⟨h.1, fun G w vs hM hv => ?_⟩
  have hl : G.length = 2 := hM.len.symm
  obtain ⟨p, q, rfl⟩ : ∃ p q, G = [p, q] := by
    match G, hl with
    | [p, q], _ => exact ⟨p, q, rfl⟩
  have hM1 : Mem [some (.lst s m g)] [p] w := mem_ro rfl fun i e he => by
    match i, he with
    | 0, he => cases he; exact ⟨rfl, hM.ent 0 _ rfl⟩
    | i + 1, he => set_option simprocs true in simp at he
  have hv1 : denL [p] az = some vs := by have := denL_take' (G := [p, q]) az ha; simp only [List.take_succ_cons, List.take_zero] at this; rw [this]; exact hv
  refine Calls.mono (h.2 [p] w vs hM1 hv1) fun e w' hp => ?_
  obtain ⟨v, F, h1, h2, _, hg⟩ := post_ro hp (fun i e he => by
    match i, he with
    | 0, he => cases he; rfl
    | i + 1, he => set_option simprocs true in simp at he)
  refine ⟨x, _, [], v, ⟨rfl, rfl⟩, ?_, h2, ?_, (Mix.refl _ w).grow hg, by rw [hM.len]; exact Nat.le_refl _, fun i e he _ => he, fun i e he hm L hL => ?_⟩
  · rw [← den_take x hx] at h1 ⊢; simpa using h1
  · rw [List.append_nil]; exact ⟨hM.len, fun i e he => (hM.ent i e he).mix hg.mix (fun _ _ _ => rfl), hM.sep⟩
  · match i, he with
    | 0, he => cases he; cases hm
    | 1, he => cases he; cases hm
    | i + 2, he => set_option simprocs true in simp at he
theorem rg1 : ∀ g : Int, 0 ≤ g → g < 8 → (rgL nfX).getD (g).toNat [] = rname0 1 g := fun g h1 h2 => by
  have : g = 0 ∨ g = 1 ∨ g = 2 ∨ g = 3 ∨ g = 4 ∨ g = 5 ∨ g = 6 ∨ g = 7 := by omega
  rcases this with rfl | rfl | rfl | rfl | rfl | rfl | rfl | rfl <;> decide
theorem pprint1 (L : List Cn) (c b : Nat) (o : Obj) (hT : ∀ w : World, w.heap[b]? = some o → Lib.TabIs Tryd.prog w "internal/strconv.uint64pow10" .u64 Lib.pow10Tab) (hv : ∀ q, okV (L.getD q Cn.z).vl) (hN : L.length ≤ 1000000) : Fn Tryd.prog 5 [.int .i64 1, .sl 0 L.length c] [some (.lst 5 L.length (fun zz => cc (L.getD zz Cn.z))), some (.fac b o)] (Rt (.tup [.str (prT 1 L), .int .i64 (prE 1 L)]) [some (.lst 5 L.length (fun zz => cc (L.getD zz Cn.z))), some (.fac b o)]) := by
  cases hr : right L with
  | true =>
    refine fn_asX (print1_ L L.length c b o hT (Nat.le_refl _) hN (by rw [List.take_length]; exact hr) hv (fun i q => by rw [List.take_length]; exact foldP_len rg1 hr hv i q)) fun _ => ?_
    have h := (tree_fin rg1 hr hv).2.2
    have e1 : prT 1 L = tx 1 (treeOf L) := by unfold prT; rw [hr]; rfl
    have e2 : prE 1 L = 0 := by unfold prE; rw [hr]; rfl
    rw [e1, e2, treeOf, h, List.take_length]
  | false =>
    refine fn_asX (fn_addF (print1n_ L L.length c (Nat.le_refl _) (by rw [List.take_length]; exact hr)) rfl rfl) fun _ => ?_
    have e1 : prT 1 L = [] := by unfold prT; rw [hr]; rfl
    have e2 : prE 1 L = 22 := by unfold prE; rw [hr]; rfl
    rw [e1, e2]
theorem rg2 : ∀ g : Int, 0 ≤ g → g < 8 → (rgL nfV).getD (g).toNat [] = rname0 2 g := fun g h1 h2 => by
  have : g = 0 ∨ g = 1 ∨ g = 2 ∨ g = 3 ∨ g = 4 ∨ g = 5 ∨ g = 6 ∨ g = 7 := by omega
  rcases this with rfl | rfl | rfl | rfl | rfl | rfl | rfl | rfl <;> decide
theorem pprint2 (L : List Cn) (c b : Nat) (o : Obj) (hT : ∀ w : World, w.heap[b]? = some o → Lib.TabIs Tryd.prog w "internal/strconv.uint64pow10" .u64 Lib.pow10Tab) (hv : ∀ q, okV (L.getD q Cn.z).vl) (hN : L.length ≤ 1000000) : Fn Tryd.prog 5 [.int .i64 2, .sl 0 L.length c] [some (.lst 5 L.length (fun zz => cc (L.getD zz Cn.z))), some (.fac b o)] (Rt (.tup [.str (prT 2 L), .int .i64 (prE 2 L)]) [some (.lst 5 L.length (fun zz => cc (L.getD zz Cn.z))), some (.fac b o)]) := by
  cases hr : right L with
  | true =>
    refine fn_asX (print2_ L L.length c b o hT (Nat.le_refl _) hN (by rw [List.take_length]; exact hr) hv (fun i q => by rw [List.take_length]; exact foldP_len rg2 hr hv i q)) fun _ => ?_
    have h := (tree_fin rg2 hr hv).2.2
    have e1 : prT 2 L = tx 2 (treeOf L) := by unfold prT; rw [hr]; rfl
    have e2 : prE 2 L = 0 := by unfold prE; rw [hr]; rfl
    rw [e1, e2, treeOf, h, List.take_length]
  | false =>
    refine fn_asX (fn_addF (print2n_ L L.length c (Nat.le_refl _) (by rw [List.take_length]; exact hr)) rfl rfl) fun _ => ?_
    have e1 : prT 2 L = [] := by unfold prT; rw [hr]; rfl
    have e2 : prE 2 L = 22 := by unfold prE; rw [hr]; rfl
    rw [e1, e2]
theorem rg3 : ∀ g : Int, 0 ≤ g → g < 8 → (rgL nfA).getD (g).toNat [] = rname0 3 g := fun g h1 h2 => by
  have : g = 0 ∨ g = 1 ∨ g = 2 ∨ g = 3 ∨ g = 4 ∨ g = 5 ∨ g = 6 ∨ g = 7 := by omega
  rcases this with rfl | rfl | rfl | rfl | rfl | rfl | rfl | rfl <;> decide
theorem pprint3 (L : List Cn) (c b : Nat) (o : Obj) (hT : ∀ w : World, w.heap[b]? = some o → Lib.TabIs Tryd.prog w "internal/strconv.uint64pow10" .u64 Lib.pow10Tab) (hv : ∀ q, okV (L.getD q Cn.z).vl) (hN : L.length ≤ 1000000) : Fn Tryd.prog 5 [.int .i64 3, .sl 0 L.length c] [some (.lst 5 L.length (fun zz => cc (L.getD zz Cn.z))), some (.fac b o)] (Rt (.tup [.str (prT 3 L), .int .i64 (prE 3 L)]) [some (.lst 5 L.length (fun zz => cc (L.getD zz Cn.z))), some (.fac b o)]) := by
  cases hr : right L with
  | true =>
    refine fn_asX (print3_ L L.length c b o hT (Nat.le_refl _) hN (by rw [List.take_length]; exact hr) hv (fun i q => by rw [List.take_length]; exact foldP_len rg3 hr hv i q)) fun _ => ?_
    have h := (tree_fin rg3 hr hv).2.2
    have e1 : prT 3 L = tx 3 (treeOf L) := by unfold prT; rw [hr]; rfl
    have e2 : prE 3 L = 0 := by unfold prE; rw [hr]; rfl
    rw [e1, e2, treeOf, h, List.take_length]
  | false =>
    refine fn_asX (fn_addF (print3n_ L L.length c (Nat.le_refl _) (by rw [List.take_length]; exact hr)) rfl rfl) fun _ => ?_
    have e1 : prT 3 L = [] := by unfold prT; rw [hr]; rfl
    have e2 : prE 3 L = 22 := by unfold prE; rw [hr]; rfl
    rw [e1, e2]
theorem pprint_ (ar : Int) (L : List Cn) (c b : Nat) (o : Obj) (hT : ∀ w : World, w.heap[b]? = some o → Lib.TabIs Tryd.prog w "internal/strconv.uint64pow10" .u64 Lib.pow10Tab) (hv : ∀ q, okV (L.getD q Cn.z).vl) (hN : L.length ≤ 1000000) : Fn Tryd.prog 5 [.int .i64 ar, .sl 0 L.length c] [some (.lst 5 L.length (fun zz => cc (L.getD zz Cn.z))), some (.fac b o)] (Rt (.tup [.str (prT ar L), .int .i64 (prE ar L)]) [some (.lst 5 L.length (fun zz => cc (L.getD zz Cn.z))), some (.fac b o)]) := by
  by_cases h1 : ar = 1
  · subst h1; exact pprint1 L c b o hT hv hN
  · by_cases h2 : ar = 2
    · subst h2; exact pprint2 L c b o hT hv hN
    · by_cases h3 : ar = 3
      · subst h3; exact pprint3 L c b o hT hv hN
      · refine fn_asX (printX_ ar L L.length c b o h1 h2 h3) fun _ => ?_
        have ha : badA ar = true := by unfold badA; simp; omega
        have e1 : prT ar L = [] := by unfold prT; rw [ha]; rfl
        have e2 : prE ar L = 36 := by unfold prE; rw [ha]; rfl
        rw [e1, e2]
section
variable {P : Program} {n : Nat} {ks : List Nat} {G0 : Gr} {w0 : World} {T : List (Nat × SV)} {H : Hp} {G : Gr} {a : Act} {w : World} {Q : Exit → Act → World → Prop} {K : List Fr} {ops : Array Oper} {o : Oper} {rest : List Oper}
theorem CALLB {f : Nat} {args az : List SV} {H' l : Hp} {t : Tr} (m : List Nat) (hf : FnR P f args H' (fun x w w' => ∃ b p, x = adr b p ∧ TrAt w.heap.size t b p w' [])) (A : Sy n T H ks G0 w0 G a w) (h1 : callS n ops T o = some (f, az)) (h2 : renL m args = some az) (h3 : renH m H' = some l) (h4 : pickH H m = some l) (h5 : ndB m = true)
    (hk : ∀ b p a' w', TrAt w.heap.size t b p w' (keys H G) → Sy n (extS T o.dst (adr b p)) H ks G0 w0 G a' w' → Goal P Q K (.ops ops rest) a' w') : Goal P Q K (.ops ops (o :: rest)) a w :=
  CALLR m hf A h1 h2 h3 h4 h5 fun x a' w' hJ hq A' => by
    obtain ⟨b, p, rfl, ht⟩ := hJ
    exact hk b p a' w' (TrAt.off hq _ _ _ ht) A'
end
theorem len32 {L : List Cn} (hr : right L = true) : L.length ≤ 32 := by unfold right at hr; split at hr <;> first | cases hr | omega
theorem tree_ok (ar : Int) {L : List Cn} (hr : right L = true) (hv : ∀ q, okV (L.getD q Cn.z).vl) : (treeOf L).ok ∧ (treeOf L).nd ≤ 1000 := by
  have h := tree_fin (ar := 1) rg1 hr hv
  exact ⟨h.1, h.2.1⟩
theorem rprint_ (ar : Int) (L : List Cn) (c : Nat) (hv : ∀ q, okV (L.getD q Cn.z).vl) (hN : L.length ≤ 4000) : Fn Tryd.prog 6 [.int .i64 ar, .sl 0 L.length c] [some (.lst 5 L.length (fun zz => cc (L.getD zz Cn.z)))] (Rt (.tup [.str (prT ar L), .int .i64 (prE ar L)]) [some (.lst 5 L.length (fun zz => cc (L.getD zz Cn.z)))]) :=
 enterM (n := 21) (by kernel_rfl) Tryd.func6 rfl rfl rfl fun G w a h0 A => N hX 17 A rfl rfl fun A => fork 12 A rfl
  (fun h1 A => N hX 8 A rfl rfl fun A => RETN hX A rfl rfl rfl h0 rfl rfl rfl rfl (by unfold prT prE; rw [show badA ar = true from h1]; rfl) rfl)
  (fun h1 A => N hX 6 A rfl rfl fun A => CALL1 [0] (rright_ L c (by omega)) A rfl rfl rfl rfl rfl rfl rfl fun A => N hX 10 A rfl rfl fun A => fork 16 A rfl
   (fun h2 A => N hX 8 A rfl rfl fun A => RETN hX A rfl rfl rfl h0 rfl rfl rfl rfl (by unfold prT prE; rw [show badA ar = false from h1]; rw [h2]; rfl) rfl)
   (fun h2 A => N hX 7 A rfl rfl fun A => have hr := right_of h2; CALLB [0] (build_ L c hr (len32 hr)) A rfl rfl rfl rfl rfl fun tb tp a2 w2 hT2 A => have B := A; have A := A.base; CALLI [] (TrAt.ok _ _ _) hT2 (text_ ar _ (treeOf L) tb tp (tree_ok ar hr hv).1 (tree_ok ar hr hv).2) A rfl rfl rfl rfl rfl rfl rfl fun A => N hX 5 A rfl rfl fun A => RETN hX (B.trans A) rfl rfl rfl h0 rfl rfl rfl rfl (by unfold prT prE; rw [show badA ar = false from h1]; rw [h2]; rfl) rfl))
theorem prints_ (ar : Int) (cs : List Cn) (c : Nat) (b : Nat) (o : Obj) (hT : ∀ w : World, w.heap[b]? = some o → Lib.TabIs Tryd.prog w "internal/strconv.uint64pow10" .u64 Lib.pow10Tab) (hv : ∀ q, okV (cs.getD q Cn.z).vl) : Fn Tryd.prog 3 [.int .i64 ar, .sl 0 cs.length c] [some (.lst 5 cs.length (fun zz => cc (cs.getD zz Cn.z))), some (.fac b o)] (Rt (.tt) [some (.lst 5 cs.length (fun zz => cc (cs.getD zz Cn.z))), some (.fac b o)]) :=
 enterM (n := 36) (by kernel_rfl) Tryd.func3 rfl rfl rfl fun G w a h0 A => N hX 8 A rfl rfl fun A => CALL1 [1] (able_ b o hT) A rfl rfl rfl rfl rfl rfl rfl fun A => N hX 14 A rfl rfl fun A => forkD 13 A rfl
  (fun h1 A => N hX 7 A rfl rfl fun A => RETN hX A rfl rfl rfl h0 rfl rfl rfl rfl rfl rfl)
  (fun h1 A => N hX 8 A rfl rfl fun A => APPL hX (cs.length) (fun zz => cc (cs.getD zz Cn.z)) A rfl rfl rfl rfl (Nat.le_refl _) (by (try simp only [List.length_append, List.length_cons, List.length_nil]); omega) (by (try simp only [List.length_append, List.length_cons, List.length_nil]); omega) (by rw [Nat.zero_add]) (fun k hk => by omega) (fun k hk => by show cc _ = cc _; rw [Nat.zero_add]) (fun z => ⟨_, rfl, rfl⟩) (fun k hk => ⟨_, rfl, okE_nil⟩) fun A => have A := A.freeze 3 rfl; CALL1 [3, 1] (pprint_ ar cs 0 b o hT hv (by omega)) A rfl rfl rfl rfl rfl rfl rfl fun A => N hX 11 A rfl rfl fun A => CALL1 [0] (rprint_ ar cs c hv (by omega)) A rfl rfl rfl rfl rfl rfl rfl fun A => N hX 21 A rfl rfl fun A => RETN hX A rfl rfl rfl h0 rfl rfl rfl rfl (by simp only [beq_self_eq_true, Bool.and_self]; rfl) rfl)
end Go.Proofs.YtedlaclfhgneeabDoor
namespace Go.Proofs.YtedlaclfhgneeabDoor
set_option linter.unusedSimpArgs false
set_option linter.unusedVariables false
set_option maxRecDepth 100000
open Go.ChangeShapes Go.WideShapes Go.ChangeAt Go.RowKit Go.Deep
section
variable {H : Type} {enc : TypeId × Value → H} {W : World} {base : Nat} {spare : Nat → Bool} {held : Bool} {base' : Nat}
theorem open_list {α : Type} [Inhabited α] {en : α → List Value} {Q : α → Prop} {t e s : Nat} {v : Value} {d : DataW H} {ps : List MemPlace} (ht : Tryd.prog.underlying t = some (.slice e)) (hc : Tryd.prog.cellsOf e = s) (h0 : 0 < s)
    (hel : ∀ cs n x, DataW.trod enc Tryd.prog W base' spare held n e cs = some x → cs.length = s → ∃ y : α, cs = en y ∧ Q y)
    (hv : Value.okWide Tryd.prog W .any base t v) (h : DataW.Trod enc Tryd.prog W base' spare held t v d ps) :
    ∃ (ao : Option Addr) (l : List α) (cap : Nat), v = .slice ao l.length cap ∧ l.length ≤ maxLen ∧ Sl en s W.heap.size W v l ∧ ∀ y ∈ l, Q y := by
  obtain ⟨a0, len0, cap0, rfl⟩ := okWide_slice ht hv
  obtain ⟨fuel, hf⟩ := h
  rcases open_slice ht hf with ⟨hcs, _⟩ | ⟨a, len, cap, m, n, D, Pl, hcs, hb, hl, hm, hmm, _, hx⟩
  · simp [Value.cells] at hcs
    obtain ⟨rfl, rfl, rfl⟩ := hcs
    exact ⟨none, [], 0, rfl, by simp, Sl.nil, fun y hy => by cases hy⟩
  · simp [Value.cells] at hcs
    obtain ⟨rfl, rfl, rfl⟩ := hcs
    have hlm : len0 ≤ m := by rw [hmm]; split <;> omega
    rw [hc] at hx
    obtain ⟨Y, hY⟩ := choose_lt (α := α) (n := len0) (p := fun i y => Q y ∧ (en y).length = s ∧ ∀ k, k < s → W.cell? ((a.add (i * s)).add k) = (en y)[k]?) (fun i hi => by
      obtain ⟨cs', h1, h2⟩ := hx i (by omega)
      obtain ⟨_, hlen, hcell⟩ := World.cells?_some h1
      obtain ⟨y, rfl, hq⟩ := hel cs' n _ h2 hlen
      exact ⟨y, hq, hlen, hcell⟩)
    have hlen : ((List.range len0).map Y).length = len0 := by simp
    refine ⟨some a, (List.range len0).map Y, cap0, by rw [hlen], by rw [hlen]; omega, ⟨some a, cap0, by rw [hlen], by rw [hlen]; exact hl, fun j x hj => ?_⟩, fun y hy => ?_⟩
    · have hjl : j < len0 := by have := (List.getElem?_eq_some_iff.1 hj).1; simpa using this
      have hxe : x = Y j := by simp [hjl] at hj; exact hj.symm
      subst hxe
      obtain ⟨_, hyl, hcell⟩ := hY j hjl
      obtain ⟨b, o, spot⟩ := a
      obtain ⟨_, hy0, hcell0⟩ := hY 0 (by omega)
      have h00 := hcell0 0 h0
      rw [List.getElem?_eq_getElem (by omega)] at h00
      have hspot : spot = none := by simpa [Addr.add] using World.cell?_spot h00
      subst hspot
      refine ⟨b, o, rfl, ?_, fun k u hu => ?_⟩
      · have := World.block_lt_of_cell? W _ h00
        rw [Addr.add_mid, Addr.add_mid] at this
        exact this
      · have hk : k < s := by have := (List.getElem?_eq_some_iff.1 hu).1; omega
        have := hcell k hk
        rw [hu, Addr.add_mid, Addr.add_mid] at this
        exact this
    · obtain ⟨i, hi, rfl⟩ := List.mem_map.1 hy
      exact (hY i (by simpa using hi)).1
theorem slice_bo {t e n cap : Nat} {ao : Option Addr} (ht : Tryd.prog.underlying t = some (.slice e)) (hv : Value.okWide Tryd.prog W .any base t (.slice ao n cap)) : ∃ bo : Option (Nat × Nat), ao = bo.map fun x => ⟨x.1, x.2, none⟩ := by
  cases ao with
  | none => exact ⟨none, rfl⟩
  | some a =>
    unfold Value.okWide at hv
    rw [ht] at hv
    simp only [Cell.okWide, ht, Cell.ok] at hv
    obtain ⟨b, o, s⟩ := a
    have : s = none := hv.2.2.2.1
    subst this
    exact ⟨some (b, o), rfl⟩
def AI (enc : TypeId × Value → H) (W : World) (base' : Nat) (spare : Nat → Bool) (held : Bool) (t s : Nat) : Prop := Tryd.prog.cellsOf t = s ∧ ∀ (cs : List Value) (n : Nat) (x : DataW H × List MemPlace), DataW.trod enc Tryd.prog W base' spare held n t cs = some x → ∀ k, k < s → ∃ m : Int, cs[k]? = some (.int .i64 m) ∧ -9223372036854775808 ≤ m ∧ m ≤ 9223372036854775807
theorem wf_rng {n : Int} (h : (Lit.int .i64 n).wf = true) : -9223372036854775808 ≤ n ∧ n ≤ 9223372036854775807 := by
  have h' : (decide ((IntKind.i64).min ≤ n) && decide (n ≤ (IntKind.i64).max)) = true := h
  rw [Bool.and_eq_true, decide_eq_true_eq, decide_eq_true_eq, show (IntKind.i64).min = -9223372036854775808 from rfl, show (IntKind.i64).max = 9223372036854775807 from rfl] at h'
  exact h'
theorem AI.int : AI enc W base' spare held 3 1 := ⟨by kernel_rfl, fun cs n x h k hk => by
  obtain ⟨m, h2, _, h3⟩ := DataW.trod_int Tryd.underlying3 h
  obtain rfl : k = 0 := by omega
  exact ⟨m, by rw [h2]; rfl, wf_rng h3⟩⟩
theorem sub_at {cs : List Value} {o s j : Nat} (hj : j < s) : ((cs.drop o).take s)[j]? = cs[o + j]? := by
  rw [List.getElem?_take_of_lt hj, List.getElem?_drop]
def fldAt (P : Program) (t i : Nat) : Option (Nat × Nat) := match P.underlying t with | some (.struct fs) => (fs[i]?).map fun f => (f.offset, f.type) | _ => none
theorem AI.str {t s : Nat} {fs : Array Field} (hu : Tryd.prog.underlying t = some (.struct fs)) (hc : Tryd.prog.cellsOf t = s) (hf : ∀ k, k < s → ∃ i o u z, fldAt Tryd.prog t i = some (o, u) ∧ AI enc W base' spare held u z ∧ o ≤ k ∧ k < o + z) : AI enc W base' spare held t s := ⟨hc, fun cs n x h k hk => by
  obtain ⟨i, o, u, z, h1, h2, h3, h4⟩ := hf k hk
  obtain ⟨xs, m, _, _, _, hxl, hx⟩ := DataW.trod_struct hu h
  unfold fldAt at h1
  rw [hu] at h1
  obtain ⟨f, hf1, hf2⟩ := Option.map_eq_some_iff.1 h1
  cases hf2
  have h5 := hx i f hf1
  have hil := (Array.getElem?_eq_some_iff.1 hf1).1
  rw [h2.1, List.getElem?_eq_getElem (by omega)] at h5
  obtain ⟨q, h6, h7⟩ := h2.2 _ _ _ h5 (k - f.offset) (by omega)
  rw [sub_at (by omega), show f.offset + (k - f.offset) = k by omega] at h6
  exact ⟨q, h6, h7⟩⟩
def isStr (P : Program) (t : Nat) : Bool := match P.underlying t with | some (.struct _) => true | _ => false
theorem str_of {t : Nat} (h : isStr Tryd.prog t = true) : ∃ fs, Tryd.prog.underlying t = some (.struct fs) := by
  unfold isStr at h
  split at h
  · next fs he => exact ⟨fs, he⟩
  · cases h
theorem AI.cond : AI enc W base' spare held 31 5 := by
  obtain ⟨fs, hu⟩ := str_of (t := 31) (by kernel_rfl)
  refine AI.str hu (by kernel_rfl) fun k hk => ?_
  have : k = 0 ∨ k = 1 ∨ k = 2 ∨ k = 3 ∨ k = 4 := by omega
  rcases this with rfl | rfl | rfl | rfl | rfl
  · exact ⟨0, 0, 3, 1, by kernel_rfl, AI.int, by omega, by omega⟩
  · exact ⟨1, 1, 3, 1, by kernel_rfl, AI.int, by omega, by omega⟩
  · exact ⟨2, 2, 3, 1, by kernel_rfl, AI.int, by omega, by omega⟩
  · exact ⟨3, 3, 3, 1, by kernel_rfl, AI.int, by omega, by omega⟩
  · exact ⟨4, 4, 3, 1, by kernel_rfl, AI.int, by omega, by omega⟩
def ccV (c : Cn) : List Value := [.int .i64 c.kd, .int .i64 c.th, .int .i64 c.rg, .int .i64 c.lc, .int .i64 c.vl]
def wfC (c : Cn) : Prop := -9223372036854775808 ≤ c.vl ∧ c.vl ≤ 9223372036854775807
instance : Inhabited Cn := ⟨Cn.z⟩
theorem open_cnL (cs : List Value) (n : Nat) (x : DataW H × List MemPlace) (h : DataW.trod enc Tryd.prog W base' spare held n 31 cs = some x) (hl : cs.length = 5) : ∃ y : Cn, cs = ccV y ∧ wfC y := by
  have A := AI.cond.2 cs n x h
  obtain ⟨a, ha, _⟩ := A 0 (by omega)
  obtain ⟨b, hb, _⟩ := A 1 (by omega)
  obtain ⟨c, hc, _⟩ := A 2 (by omega)
  obtain ⟨d, hd, _⟩ := A 3 (by omega)
  obtain ⟨e, he, h5⟩ := A 4 (by omega)
  refine ⟨⟨a, b, c, d, e⟩, ?_, h5⟩
  match cs, hl, ha, hb, hc, hd, he with
  | [u0, u1, u2, u3, u4], _, ha, hb, hc, hd, he => simp at ha hb hc hd he; subst ha hb hc hd he; rfl
theorem open_conds {v : Value} {d : DataW H} {ps : List MemPlace} (hv : Value.okWide Tryd.prog W .any base 22 v) (h : DataW.Trod enc Tryd.prog W base' spare held 22 v d ps) :
    ∃ (bo : Option (Nat × Nat)) (l : List Cn) (cap : Nat), v = .slice (bo.map fun x => ⟨x.1, x.2, none⟩) l.length cap ∧ Sl ccV 5 W.heap.size W v l ∧ ∀ y ∈ l, wfC y := by
  obtain ⟨ao, l, cap, rfl, _, hs, hq⟩ := open_list (t := 22) (e := 31) (s := 5) (by kernel_rfl) (by kernel_rfl) (by omega) open_cnL hv h
  obtain ⟨bo, rfl⟩ := slice_bo (t := 22) (e := 31) (by kernel_rfl) hv
  exact ⟨bo, l, cap, rfl, hs, hq⟩
end
theorem tab_fac {W : World} (h : Lib.TabIs Tryd.prog W "internal/strconv.uint64pow10" .u64 Lib.pow10Tab) : ∃ o, W.heap[0]? = some o ∧ ∀ w : World, w.heap[0]? = some o → Lib.TabIs Tryd.prog w "internal/strconv.uint64pow10" .u64 Lib.pow10Tab := by
  have hg : Tryd.prog.globalNamed "internal/strconv.uint64pow10" = some 0 := by kernel_rfl
  cases ho : W.heap[0]? with
  | none => unfold Lib.TabIs World.var? at h; rw [hg] at h; simp [ho] at h
  | some o =>
    refine ⟨o, rfl, fun w hw => ?_⟩
    unfold Lib.TabIs World.var? at h ⊢
    rw [hg] at h ⊢
    simp only [Option.bind_some, ho, hw] at h ⊢
    exact h
theorem lstC_of {bo : Option (Nat × Nat)} {n cap : Nat} {w : World} {l : List Cn} (h : Sl ccV 5 w.heap.size w (.slice (bo.map fun x => ⟨x.1, x.2, none⟩) n cap) l) : n = l.length ∧ ∀ (G F : Gr), den (G ++ (bo.map fun x => (⟨x.1, List.replicate x.2 undef, [], 0⟩ : Loc)) :: F) (.sl G.length l.length cap) = some (.slice (bo.map fun x => ⟨x.1, x.2, none⟩) n cap) ∧ EntOK (G ++ (bo.map fun x => (⟨x.1, List.replicate x.2 undef, [], 0⟩ : Loc)) :: F) w (bo.map fun x => (⟨x.1, List.replicate x.2 undef, [], 0⟩ : Loc)) (.lst 5 l.length (fun zz => cc (l.getD zz Cn.z))) := lst_of (f := fun zz => cc (l.getD zz Cn.z)) h (Nat.le_refl _) (fun k x hx => by show denL [] (cc (l.getD k Cn.z)) = _; rw [List.getD_eq_getElem?_getD, hx]; rfl) (fun k => ⟨_, rfl⟩)
end Go.Proofs.YtedlaclfhgneeabDoor
