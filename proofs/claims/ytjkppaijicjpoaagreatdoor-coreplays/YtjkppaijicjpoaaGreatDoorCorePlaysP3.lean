/- CorePlays, part 3: the engine, contracts, theory. -/
import Derived.Test.YtjkppaijicjpoaaGreatDoorCorePlaysP2
import Derived.Laws.Pointers
namespace Go.Proofs.YtjkppaijicjpoaaGreatDoor
open Go.RowKit
set_option linter.unusedVariables false
set_option linter.unusedSimpArgs false
set_option linter.unusedSectionVars false
theorem le0 {H : Hp} {G : Gr} {r : Nat} (h : H.length = G.length) (hb : Nat.ble H.length r = true) : G.length ≤ r := by rw [← h]; exact Nat.le_of_ble_eq_true hb
mutual
def avS (r : Nat) : SV → Bool
 | .ptr i _ => !Nat.beq i r
 | .el i _ _ _ => !Nat.beq i r
 | .sl i _ _ => !Nat.beq i r
 | .agg l => avL r l
 | .tup l => avL r l
 | .fn _ l => avL r l
 | .opt _ x => avS r x
 | .ix p _ _ _ _ => avS r p
 | .sp p _ _ => avS r p
 | .st i _ _ _ _ => !Nat.beq i r
 | _ => true
def avL (r : Nat) : List SV → Bool
 | [] => true
 | x :: l => avS r x && avL r l
end
theorem av_out {D : List Nat} {i : Nat} (h : ∀ r ∈ D, (!Nat.beq i r) = true) : i ∉ D := fun hi => by
 have := h i hi
 rw [show Nat.beq i i = true from Nat.beq_refl i] at this
 cases this
mutual
theorem den_off {G G' : Gr} {D : List Nat} (e : ∀ i, i ∉ D → G'[i]? = G[i]?) : ∀ (x : SV), (∀ r ∈ D, avS r x = true) → den G' x = den G x
 | .ptr i _, h => by unfold den; rw [e i (av_out h)]
 | .el i _ _ _, h => by unfold den; rw [e i (av_out h)]
 | .sl i _ _, h => by unfold den; rw [e i (av_out h)]
 | .agg l, h => by unfold den; rw [denL_off e l h]
 | .tup l, h => by unfold den; rw [denL_off e l h]
 | .fn _ l, h => by unfold den; rw [denL_off e l h]
 | .opt _ x, h => by unfold den; rw [den_off e x h]
 | .ix p _ _ _ _, h => by unfold den; rw [den_off e p h]
 | .sp p _ _, h => by unfold den; rw [den_off e p h]
 | .st i _ _ _ _, h => by unfold den; rw [e i (av_out h)]
 | .int _ _, _ => rfl
 | .bool _, _ => rfl
 | .tt, _ => rfl
 | .ff, _ => rfl
 | .str _, _ => rfl
 | .sla _ _ _, _ => rfl
 | .v _, _ => rfl
theorem denL_off {G G' : Gr} {D : List Nat} (e : ∀ i, i ∉ D → G'[i]? = G[i]?) : ∀ (l : List SV), (∀ r ∈ D, avL r l = true) → denL G' l = denL G l
 | [], _ => rfl
 | x :: l, h => by
  unfold denL
  rw [den_off e x fun r hr => by have := h r hr; simp only [avL, Bool.and_eq_true] at this; exact this.1, denL_off e l fun r hr => by have := h r hr; simp only [avL, Bool.and_eq_true] at this; exact this.2]
end
def avE (r : Nat) : Option Ent → Bool
 | some (.blk cs) => avL r cs
 | _ => true
def avH (r : Nat) : Hp → Bool
 | [] => true
 | e :: H => avE r e && avH r H
theorem avH_at {r : Nat} : ∀ {H : Hp}, avH r H = true → ∀ (i : Nat) (e : Option Ent), H[i]? = some e → avE r e = true
 | [], _, i, e, h => by cases h
 | f :: H, hb, i, e, h => by
  simp only [avH, Bool.and_eq_true] at hb
  cases i with
  | zero => cases h; exact hb.1
  | succ i => exact avH_at hb.2 i e (by simpa using h)
theorem EntOK.off {G G' : Gr} {r : Nat} {w : World} {p : Option Loc} {e : Ent} (h : EntOK G w p e) (hG : ∀ i, i ∉ [r] → G'[i]? = G[i]?) (ha : avE r (some e) = true) : EntOK G' w p e := by
 cases e with
 | blk cs => obtain ⟨M, vs, h1, h2, h3⟩ := h; exact ⟨M, vs, h1, by rw [denL_off hG cs (fun q hq => by simp at hq; subst hq; exact ha)]; exact h2, h3⟩
 | lst s n f => exact h
 | fac b o => exact h
 | row e s n c f => exact h
section
variable {P : Program} {X : Tx} {n : Nat} {ks : List Nat} {G0 : Gr} {w0 : World} {T : List (Nat × SV)} {H : Hp} {G : Gr} {a : Act} {w w' : World} {ops : Array Oper} {o : Oper}
theorem set_off {r : Nat} {y : Option Loc} : ∀ i, i ∉ [r] → (G.set r y)[i]? = G[i]? := fun i hi => by
 simp at hi
 rw [List.getElem?_set_ne (fun h => hi h.symm)]
theorem Sy.place (A : Sy n T H ks G0 w0 G a w) {r g : Nat} {t : TypeId} {en : Ent} (hr : H[r]? = some none) (hr0 : G0.length ≤ r) (hav : avH r H = true) (hg : g = w.heap.size) (hgr : Grow w w') (hen : EntOK G w' (some ⟨g, [], [], t⟩) en) (hmu : en.mut = true) (hae : avE r (some en) = true) :
  Ms (stH H r (some en)) ks G0 w0 (G.set r (some ⟨g, [], [], t⟩)) w' := by
 have hlen := A.mem.len
 have hrl : r < H.length := (List.getElem?_eq_some_iff.1 hr).1
 have B := A.ms.grow hgr
 have hold : ∀ (i : Nat) (e : Ent), (stH H r (some en))[i]? = some (some e) → (i ≠ r ∧ H[i]? = some (some e)) ∨ (i = r ∧ e = en) := by
  intro i e h
  rw [stH_is] at h
  by_cases hi : i = r
  ·subst hi; rw [List.getElem?_set_self hrl] at h; cases h; exact .inr ⟨rfl, rfl⟩
  ·rw [List.getElem?_set_ne (Ne.symm hi)] at h; exact .inl ⟨hi, h⟩
 have hself : (G.set r (some (⟨g, [], [], t⟩ : Loc)))[r]? = some (some ⟨g, [], [], t⟩) := List.getElem?_set_self (by omega)
 have hne : ∀ {i : Nat}, i ≠ r → (G.set r (some (⟨g, [], [], t⟩ : Loc)))[i]? = G[i]? := fun hi => by rw [List.getElem?_set_ne (Ne.symm hi)]
 refine ⟨⟨by rw [stH_is]; simpa using hlen, fun i e h => ?_, fun i j e f L M hij h1 h2 h3 h4 h5 h6 => ?_⟩, ?_, fun i e L h1 h2 h3 => ?_, B.mix⟩
 ·rcases hold i e h with ⟨h1, h2⟩ | ⟨rfl, rfl⟩
  ·rw [hne h1]; exact (B.mem.ent i e h2).off set_off (avH_at hav i _ h2)
  ·rw [hself]; exact hen.off set_off hae
 ·rcases hold i e h1 with ⟨a1, a2⟩ | ⟨rfl, rfl⟩
  ·rw [hne a1] at h4
   rcases hold j f h2 with ⟨b1, b2⟩ | ⟨rfl, rfl⟩
   ·rw [hne b1] at h5; exact B.mem.sep i j e f L M hij a2 b2 h3 h4 h5 h6
   ·rw [hself] at h5; cases h5
    have := A.mem.ent i e a2
    rw [h4] at this
    have := EntOK.lt this (mut_full h3)
    show L.b ≠ g; omega
  ·rw [hself] at h4; cases h4
   rcases hold j f h2 with ⟨b1, b2⟩ | ⟨rfl, rfl⟩
   ·rw [hne b1] at h5
    have := A.mem.ent j f b2
    rw [h5] at this
    have := EntOK.lt this h6
    show g ≠ M.b; omega
   ·exact absurd rfl hij
 ·obtain ⟨F, hF⟩ := A.pre
  refine ⟨F.set (r - G0.length) (some ⟨g, [], [], t⟩), ?_⟩
  rw [hF, List.set_append_right _ _ hr0]
 ·rcases hold i e h1 with ⟨a1, a2⟩ | ⟨rfl, rfl⟩
  ·rw [hne a1] at h3; exact B.own i e L a2 h2 h3
  ·rw [hself] at h3; cases h3
   have := A.mix.size
   exact .inr (by show w0.heap.size ≤ g; omega)
def EffAt (P : Program) (n : Nat) (ops : Array Oper) (ks : List Nat) (G0 : Gr) (w0 : World) (Tw : List (Nat × SV)) (H : Hp) (o : Oper) (x : SV) (H' : Hp) (rs : List Nat) : Prop :=
 ∀ G a w, Sy n Tw H ks G0 w0 G a w → Does P ops o a w fun v w' => ∃ G', (∀ i, i ∉ rs → G'[i]? = G[i]?) ∧ den G' x = some v ∧ Ms H' ks G0 w0 G' w'
theorem eff_at {Tw : List (Nat × SV)} {x : SV} {H' : Hp} {rs : List Nat} (h : EffOK P n ops ks G0 w0 Tw H o x H') (hl : H'.length = H.length) : EffAt P n ops ks G0 w0 Tw H o x H' rs := by
 intro G a w A
 refine does_mono (h G a w A) fun v w' ⟨F, h1, h2⟩ => ⟨G, fun _ _ => rfl, ?_⟩
 have e1 := h2.mem.len
 have e2 := A.mem.len
 have : F = [] := List.eq_nil_of_length_eq_zero (by rw [List.length_append] at e1; omega)
 subst this
 rw [List.append_nil] at h1 h2
 exact ⟨h1, h2⟩
theorem new_at (r : Nat) {Tw : List (Nat × SV)} {x x0 : SV} {H' : Hp} {rs : List Nat} {t : TypeId} {en : Ent} (hX : X.ok P = true) (h : stepS X n ops Tw H o = some (.new t en x0)) (hr : lg H r = some none) (hr0 : G0.length ≤ r) (hav : (avH r H && avE r (some en)) = true) (hren : renO (stH (rngF 0 H.length) r H.length) x = some x0) (hH : stH H r (some en) = H') (hrs : rs.contains r = true) : EffAt P n ops ks G0 w0 Tw H o x H' rs := by
 intro G a w A
 rw [Bool.and_eq_true] at hav
 rw [lg_is] at hr
 have hrl : r < H.length := (List.getElem?_eq_some_iff.1 hr).1
 unfold stepS at h
 split at h
 ·next hd =>
  split at h
  ·next hg =>
   refine xop_new (P := P) (ops := ops) hX A h (gd_run (gd := none) A hg) fun g w' v a1 a2 a3 a4 a5 => ⟨G.set r (some ⟨g, [], [], t⟩), fun i hi => set_off i (fun hq => ?_), ?_, ?_⟩
   ·simp at hq; subst hq; exact hi (by simpa using hrs)
   ·have hm : ∀ j ∈ (rngF 0 H.length).set r H.length, j < (G ++ [some (⟨g, [], [], t⟩ : Loc)]).length := fun j hj => by
     have hle : j ∈ rngF 0 H.length ∨ j = H.length := by
      rcases List.mem_or_eq_of_mem_set hj with h | h
      ·exact .inl h
      ·exact .inr h
     have := A.mem.len
     rcases hle with h | h
     ·obtain ⟨k, hk, he⟩ := List.getElem_of_mem h
      rw [rngF_len] at hk
      have := rngF_at H.length 0 k hk
      rw [List.getElem?_eq_getElem (by rw [rngF_len]; exact hk), he] at this
      cases this
      simp; omega
     ·simp; omega
    rw [stH_is] at hren
    rw [← a5, ← den_ren hm x hren]
    congr 1
    have hlen := A.mem.len
    apply List.ext_getElem?
    intro i
    by_cases hi : i < H.length
    ·by_cases hir : i = r
     ·subst hir
      have h1 : ((rngF 0 H.length).set i H.length)[i]? = some H.length := List.getElem?_set_self (by rw [rngF_len]; exact hi)
      rw [pickG_at hm h1, List.getElem?_set_self (by omega), List.getElem?_append_right (by omega), hlen]; simp
     ·have h1 : ((rngF 0 H.length).set r H.length)[i]? = some i := by rw [List.getElem?_set_ne (Ne.symm hir), rngF_at _ _ _ hi, Nat.zero_add]
      rw [pickG_at hm h1, List.getElem?_set_ne (Ne.symm hir), List.getElem?_append_left (by omega)]
    ·rw [List.getElem?_eq_none (by simp; omega), List.getElem?_eq_none (by simp [pickG, rngF_len]; omega)]
   ·rw [← hH]; exact A.place hr hr0 hav.1 a1 a2 a3 a4 hav.2
  ·cases h
  ·split at h <;> cases h
  ·cases h
 ·cases h
end
section
variable {P : Program} {n : Nat} {ks : List Nat} {G0 : Gr} {w0 : World} {H : Hp} {G : Gr} {w w' : World} {ops : Array Oper} {o : Oper}
theorem EntOK.offL {G G' : Gr} {D : List Nat} {w : World} {p : Option Loc} {e : Ent} (h : EntOK G w p e) (hG : ∀ i, i ∉ D → G'[i]? = G[i]?) (ha : ∀ r ∈ D, avE r (some e) = true) : EntOK G' w p e := by
 cases e with
 | blk cs => obtain ⟨M, vs, h1, h2, h3⟩ := h; exact ⟨M, vs, h1, by rw [denL_off hG cs ha]; exact h2, h3⟩
 | lst s n f => exact h
 | fac b o => exact h
 | row e s n c f => exact h
theorem Ms.put {r : Nat} {en : Ent} {p : Option Loc} (M : Ms (H ++ [some en]) ks G0 w0 (G ++ [p]) w') (hr : H[r]? = some none) (hr0 : G0.length ≤ r) (hav : ∀ q ∈ [r, H.length], avH q H = true ∧ avE q (some en) = true) : Ms (stH H r (some en)) ks G0 w0 (G.set r p) w' := by
 have hlen : H.length = G.length := by have := M.mem.len; simpa using this
 have hrl : r < H.length := (List.getElem?_eq_some_iff.1 hr).1
 have hold : ∀ (i : Nat) (e : Ent), (stH H r (some en))[i]? = some (some e) → ∃ j, (H ++ [some en])[j]? = some (some e) ∧ (G.set r p)[i]? = (G ++ [p])[j]? ∧ ((i ≠ r ∧ j = i ∧ H[i]? = some (some e)) ∨ (i = r ∧ j = H.length ∧ e = en)) := by
  intro i e h
  rw [stH_is] at h
  by_cases hi : i = r
  ·subst hi; rw [List.getElem?_set_self hrl] at h; cases h
   refine ⟨H.length, by simp, ?_, .inr ⟨rfl, rfl, rfl⟩⟩
   rw [List.getElem?_set_self (by omega), hlen]; simp
  ·rw [List.getElem?_set_ne (Ne.symm hi)] at h
   have hl := (List.getElem?_eq_some_iff.1 h).1
   refine ⟨i, by rw [List.getElem?_append_left hl]; exact h, ?_, .inl ⟨hi, rfl, h⟩⟩
   rw [List.getElem?_set_ne (Ne.symm hi), List.getElem?_append_left (by omega)]
 have hoff : ∀ i, i ∉ [r, H.length] → (G.set r p)[i]? = (G ++ [p])[i]? := fun i hi => by
  simp at hi
  rw [List.getElem?_set_ne (fun h => hi.1 h.symm)]
  by_cases hg : i < G.length
  ·rw [List.getElem?_append_left hg]
  ·rw [List.getElem?_eq_none (by omega), List.getElem?_eq_none (by simp; omega)]
 refine ⟨⟨by rw [stH_is]; simpa using hlen, fun i e h => ?_, fun i j e f L N hij h1 h2 h3 h4 h5 h6 => ?_⟩, ?_, fun i e L h1 h2 h3 => ?_, M.mix⟩
 ·obtain ⟨j, g1, g2, g3⟩ := hold i e h
  rw [g2]
  refine (M.mem.ent j e g1).offL hoff fun q hq => ?_
  rcases g3 with ⟨_, _, g⟩ | ⟨_, _, rfl⟩
  ·exact avH_at (hav q hq).1 i _ g
  ·exact (hav q hq).2
 ·obtain ⟨i', g1, g2, g3⟩ := hold i e h1
  obtain ⟨j', k1, k2, k3⟩ := hold j f h2
  rw [g2] at h4
  rw [k2] at h5
  refine M.mem.sep i' j' e f L N ?_ g1 k1 h3 h4 h5 h6
  have hi : ∀ {i : Nat} {e : Ent}, H[i]? = some (some e) → i < H.length := fun h => (List.getElem?_eq_some_iff.1 h).1
  rcases g3 with ⟨a1, a2, a3⟩ | ⟨a1, a2, a3⟩ <;> rcases k3 with ⟨b1, b2, b3⟩ | ⟨b1, b2, b3⟩
  ·omega
  ·have := hi a3; omega
  ·have := hi b3; omega
  ·omega
 ·obtain ⟨F, hF⟩ := M.pre
  refine ⟨(G.set r p).drop G0.length, ?_⟩
  have e : (G.set r p).take G0.length = G0 := by
   have h1 : (G ++ [p]).take G0.length = G0 := by rw [hF]; simp
   rw [List.take_append_of_le_length (by omega)] at h1
   rw [List.take_set_of_le (by omega)]; exact h1
  have := (List.take_append_drop G0.length (G.set r p)).symm
  rw [e] at this; exact this
 ·obtain ⟨i', g1, g2, g3⟩ := hold i e h1
  rw [g2] at h3
  exact M.own i' e L g1 h2 h3
theorem put_at (r : Nat) {Tw : List (Nat × SV)} {x x0 : SV} {H1 H' : Hp} {rs : List Nat} {en : Ent} (h : EffOK P n ops ks G0 w0 Tw H o x0 (H1 ++ [some en])) (hl : H1.length = H.length) (hr : lg H1 r = some none) (hr0 : G0.length ≤ r) (hav : (avH r H1 && avE r (some en) && avH H1.length H1 && avE H1.length (some en)) = true) (hren : renO (stH (rngF 0 H1.length) r H1.length) x = some x0) (hH : stH H1 r (some en) = H') (hrs : rs.contains r = true) : EffAt P n ops ks G0 w0 Tw H o x H' rs := by
 intro G a w A
 rw [lg_is] at hr
 have hrl : r < H1.length := (List.getElem?_eq_some_iff.1 hr).1
 simp only [Bool.and_eq_true] at hav
 refine does_mono (h G a w A) fun v w' ⟨F, h1, h2⟩ => ?_
 have e1 := h2.mem.len
 have e2 := A.mem.len
 have hF1 : F.length = 1 := by simp at e1; omega
 obtain ⟨p, rfl⟩ := List.length_eq_one_iff.1 hF1
 refine ⟨G.set r p, fun i hi => set_off i (fun hq => ?_), ?_, ?_⟩
 ·simp at hq; subst hq; exact hi (by simpa using hrs)
 ·have hm : ∀ j ∈ (rngF 0 H1.length).set r H1.length, j < (G ++ [p]).length := fun j hj => by
   rcases List.mem_or_eq_of_mem_set hj with h | h
   ·obtain ⟨k, hk, he⟩ := List.getElem_of_mem h
    rw [rngF_len] at hk
    have := rngF_at H1.length 0 k hk
    rw [List.getElem?_eq_getElem (by rw [rngF_len]; exact hk), he] at this
    cases this
    simp; omega
   ·simp; omega
  rw [stH_is] at hren
  rw [← h1, ← den_ren hm x hren]
  congr 1
  apply List.ext_getElem?
  intro i
  by_cases hi : i < H1.length
  ·by_cases hir : i = r
   ·subst hir
    have h1 : ((rngF 0 H1.length).set i H1.length)[i]? = some H1.length := List.getElem?_set_self (by rw [rngF_len]; exact hi)
    rw [pickG_at hm h1, List.getElem?_set_self (by omega), List.getElem?_append_right (by omega), hl, e2]; simp
   ·have h1 : ((rngF 0 H1.length).set r H1.length)[i]? = some i := by rw [List.getElem?_set_ne (Ne.symm hir), rngF_at _ _ _ hi, Nat.zero_add]
    rw [pickG_at hm h1, List.getElem?_set_ne (Ne.symm hir), List.getElem?_append_left (by omega)]
  ·rw [List.getElem?_eq_none (by simp; omega), List.getElem?_eq_none (by simp [pickG, rngF_len]; omega)]
 ·rw [← hH]
  refine h2.put hr hr0 fun q hq => ?_
  simp at hq
  rcases hq with rfl | rfl
  ·exact ⟨hav.1.1.1, hav.1.1.2⟩
  ·exact ⟨hav.1.2, hav.2⟩
end
def mayI (ops : Array Oper) (ef c : List Nat) (i : Nat) (o : Oper) : Bool :=
 !c.contains i && ef.all (fun p => !wt ops o p || c.contains p) && c.all (fun p => match ops[p]? with | some q => !waits q i | none => true)
section
variable {P : Program} {X : Tx} {n : Nat} {ks : List Nat} {G0 : Gr} {w0 : World} {T : List (Nat × SV)} {l : List Oper} {xs : List SV} {Q : Exit → Act → World → Prop} {ef rs0 : List Nat} {tb : List (List Nat × List Nat × Hp)}
structure AInv (n : Nat) (ks : List Nat) (G0 : Gr) (w0 : World) (T : List (Nat × SV)) (l : List Oper) (xs : List SV) (ef rs0 : List Nat) (c rs : List Nat) (H : Hp) (listed : Array Bool) (G : Gr) (a : Act) (w : World) : Prop where
 size : a.tmps.size = n
 defers : a.defers = []
 base : ∀ t x, look T t = some x → (∀ (j : Nat) (o : Oper), l[j]? = some o → o.dst = some t → listed.getD j false = false) → den G x = some (a.tmps.getD t undef)
 done : ∀ (j : Nat) (o : Oper) (x : SV), l[j]? = some o → listed.getD j false = true → xs[j]? = some x → (∀ r ∈ rs, avS r x = true) ∧ ∀ d, o.dst = some d → den G x = some (a.tmps.getD d undef)
 ms : Ms H ks G0 w0 G w
 eff : ∀ p ∈ ef, (listed.getD p false = true ↔ p ∈ c)
 sub : ∀ p ∈ c, p ∈ ef
 rsub : ∀ r ∈ rs, r ∈ rs0
 closed : ∀ (j : Nat) (o : Oper) (p : Nat), l[j]? = some o → listed.getD j false = true → waits o p = true → listed.getD p false = true
theorem tw_look2 {o : Oper} {T : List (Nat × SV)} {t : Nat} {x : SV} : ∀ {l : List Oper} {xs : List SV} {k : Nat}, xs.length = l.length → look (twL o l xs k T) t = some x → (∃ i p, l[i]? = some p ∧ xs[i]? = some x ∧ waits o (k + i) = true ∧ p.dst = some t) ∨ (look T t = some x ∧ ∀ (i : Nat) (p : Oper), l[i]? = some p → p.dst = some t → waits o (k + i) = false)
 | [], _, _, _, h => .inr ⟨h, fun i p hi => by cases hi⟩
 | _ :: _, [], _, hl, h => by cases hl
 | p :: l, y :: xs, k, hl, h => by
  have rest : (p.dst = some t → waits o k = false) → look (twL o l xs (k + 1) T) t = some x → (∃ i q, (p :: l)[i]? = some q ∧ (y :: xs)[i]? = some x ∧ waits o (k + i) = true ∧ q.dst = some t) ∨ (look T t = some x ∧ ∀ (i : Nat) (q : Oper), (p :: l)[i]? = some q → q.dst = some t → waits o (k + i) = false) := fun h0 h => by
   rcases tw_look2 (by simpa using hl) h with ⟨i, q, h1, h2, h3, h4⟩ | ⟨h, hn⟩
   ·exact .inl ⟨i + 1, q, by simpa using h1, by simpa using h2, by rw [show k + (i + 1) = k + 1 + i by omega]; exact h3, h4⟩
   ·refine .inr ⟨h, fun i q hi hd => ?_⟩
    cases i with
    | zero => cases hi; simpa using h0 hd
    | succ i => rw [show k + (i + 1) = k + 1 + i by omega]; exact hn i q (by simpa using hi) hd
  unfold twL at h
  cases hb : waits o k with
  | false => rw [hb] at h; exact rest (fun _ => hb) h
  | true =>
   rw [hb] at h
   simp only [cond_true] at h
   cases hd : p.dst with
   | none => rw [hd] at h; exact rest (fun e => by rw [hd] at e; cases e) h
   | some d =>
    rw [hd] at h
    simp only [extS, look] at h
    cases hk : Nat.beq d t with
    | false => rw [hk] at h; exact rest (fun e => by rw [hd] at e; cases e; rw [Nat.beq_refl] at hk; cases hk) h
    | true =>
     rw [hk] at h
     cases h
     have := Nat.eq_of_beq_eq_true hk
     subst this
     exact .inl ⟨0, p, rfl, rfl, by simpa using hb, hd⟩
def StepOb (P : Program) (n : Nat) (ks : List Nat) (G0 : Gr) (w0 : World) (T : List (Nat × SV)) (l : List Oper) (xs : List SV) (ef : List Nat) (tb : List (List Nat × List Nat × Hp)) (c rs : List Nat) (H : Hp) (i : Nat) (o : Oper) : Prop :=
 ∃ (x : SV) (c' rs' : List Nat) (H' : Hp) (k' : Nat), xs[i]? = some x ∧ tb[k']? = some (c', rs', H') ∧ ((ef.all fun p => c'.contains p == (Nat.beq p i || c.contains p)) && c'.all ef.contains) = true ∧ (rs'.all fun r => rs.contains r && avS r x) = true ∧ EffAt P n l.toArray ks G0 w0 (twL o l xs 0 T) H o x H' rs
theorem any_go (hfit : fitB l.toArray n [] = true) (hT : ∀ t x, look T t = some x → ∀ (j : Nat) (o : Oper), l[j]? = some o → o.dst = some t → ∀ (i : Nat) (q : Oper), l[i]? = some q → i ≠ j → waits o i = true ∨ waits q j = true) (hTa : ∀ t x, look T t = some x → ∀ r ∈ rs0, avS r x = true) (hl : xs.length = l.length)
  (hob : ∀ (k : Nat) (c rs : List Nat) (H : Hp), tb[k]? = some (c, rs, H) → ∀ (i : Nat) (o : Oper), l[i]? = some o → mayI l.toArray ef c i o = true → StepOb P n ks G0 w0 T l xs ef tb c rs H i o)
  (hend : ∀ (k : Nat) (c rs : List Nat) (H : Hp), tb[k]? = some (c, rs, H) → (∀ p ∈ ef, p < l.length → p ∈ c) → ∀ G a w, Sy n (putS l xs T) H ks G0 w0 G a w → Q .normal a w) :
  ∀ (fuel : Nat) (listed : Array Bool) (a : Act) (w : World) (k : Nat) (c rs : List Nat) (H : Hp) (G : Gr), listed.size = l.length → ((List.range l.length).filter fun i => !listed.getD i true).length ≤ fuel → tb[k]? = some (c, rs, H) → AInv n ks G0 w0 T l xs ef rs0 c rs H listed G a w → wpAny P .any l.toArray Q fuel listed a w := by
 have last : ∀ (listed : Array Bool) (a : Act) (w : World) (k : Nat) (c rs : List Nat) (H : Hp) (G : Gr), listed.size = l.length → Region.ready .any l.toArray listed = [] → tb[k]? = some (c, rs, H) → AInv n ks G0 w0 T l xs ef rs0 c rs H listed G a w → Q .normal a w := by
  intro listed a w k c rs H G hls hr hk I
  have all : ∀ i, i < l.length → listed.getD i false = true := by
   intro i
   induction i using Nat.strongRecOn with
   | _ i ih =>
    intro hi
    cases hq : listed.getD i false with
    | true => rfl
    | false =>
     exfalso
     have : i ∈ Region.ready .any l.toArray listed := by
      rw [mem_ready]
      have hli : i < listed.size := by omega
      have hoi : l.toArray[i]? = some l[i] := by simp [hi]
      refine ⟨by simpa [hli] using hq, l[i], hoi, fun e he hb => ?_⟩
      have hlt := (fit_spec hfit hoi).2 e he hb
      exact ih e.on hlt (by omega)
     rw [hr] at this; cases this
  refine hend k c rs H hk (fun p hp hpl => (I.eff p hp).1 (all p hpl)) G a w (I.ms.sy I.size I.defers fun t x hx => ?_)
  rcases put_look hl hx with ⟨i, p, q1, q2, q3⟩ | ⟨hx, hno⟩
  ·exact (I.done i p x q1 (all i (List.getElem?_eq_some_iff.1 q1).1) q2).2 t q3
  ·exact I.base t x hx fun j o h1 h2 => absurd h2 (hno j o h1)
 intro fuel
 induction fuel with
 | zero =>
  intro listed a w k c rs H G hls hf hk I
  have hr : Region.ready .any l.toArray listed = [] := by
   unfold Region.ready
   rw [List.filter_eq_nil_iff]
   intro i hi
   have hnil : ((List.range l.length).filter fun i => !listed.getD i true) = [] := List.eq_nil_of_length_eq_zero (by omega)
   rw [List.filter_eq_nil_iff] at hnil
   have := hnil i (by simpa using hi)
   simp only [Bool.not_eq_true, Bool.not_eq_false'] at this
   simp [this]
  exact ⟨hr, last listed a w k c rs H G hls hr hk I⟩
 | succ fuel ih =>
  intro listed a w k c rs H G hls hf hkt I
  refine ⟨fun hr => last listed a w k c rs H G hls hr hkt I, fun i hi => ?_⟩
  obtain ⟨hun, o, hoi, hall⟩ := mem_ready.1 hi
  have hil : i < l.length := by have := (Array.getElem?_eq_some_iff.1 hoi).1; simpa using this
  have hoi' : l[i]? = some o := by simpa using hoi
  obtain ⟨hfd, hfe⟩ := fit_spec hfit hoi
  have hun' : listed.getD i false = false := by
   have hlt : i < listed.size := by omega
   simpa [hlt] using hun
  have hw : ∀ p, waits o p = true → listed.getD p false = true := fun p hp => by
   unfold waits at hp
   rw [List.any_eq_true] at hp
   obtain ⟨e, he', hb⟩ := hp
   have he : e ∈ o.after := by simpa using he'
   simp only [Bool.and_eq_true, beq_iff_eq] at hb
   rw [← hb.2]
   exact hall e he hb.1
  -- what is known where it stands
  have A : Sy n (twL o l xs 0 T) H ks G0 w0 G a w := I.ms.sy I.size I.defers fun t x hx => by
   rcases tw_look2 hl hx with ⟨j, p, q1, q2, q3, q4⟩ | ⟨hx, hnw⟩
   ·exact (I.done j p x q1 (hw j (by simpa using q3)) q2).2 t q4
   ·refine I.base t x hx fun j p h1 h2 => ?_
    by_cases hji : j = i
    ·subst hji; exact hun'
    ·cases hlj : listed.getD j false with
     | false => rfl
     | true =>
      rcases hT t x hx j p h1 h2 i o hoi' (Ne.symm hji) with hwt | hwt
      ·have := I.closed j p i h1 hlj hwt
       rw [hun'] at this; cases this
      ·have := hnw j p h1 h2
       rw [Nat.zero_add] at this
       rw [hwt] at this; cases this
  have hmay : mayI l.toArray ef c i o = true := by
   unfold mayI
   simp only [Bool.and_eq_true, Bool.not_eq_true', List.all_eq_true, Bool.or_eq_true]
   refine ⟨⟨?_, fun p hp => ?_⟩, fun p hp => ?_⟩
   ·cases hc : c.contains i with
    | false => rfl
    | true =>
     have h1 : i ∈ c := by simpa using hc
     have := (I.eff i (I.sub i h1)).2 h1
     rw [hun'] at this; cases this
   ·cases hq : wt l.toArray o p with
    | false => exact .inl rfl
    | true =>
     refine .inr ?_
     have hlp : listed.getD p false = true := by
      unfold wt at hq
      cases hd : waits o p with
      | true => exact hw p hd
      | false =>
       rw [hd] at hq
       exact via_listed (ops := l.toArray) (fun j o' p' h1 h2 h3 => I.closed j o' p' (by simpa using h1) h2 h3) 2 o.after.toList (fun e he hb => hall e (by simpa using he) hb) hq
     have := (I.eff p hp).1 hlp
     simpa using this
   ·split
    ·next q hq =>
     cases hd : waits q i with
     | false => rfl
     | true =>
      have h1 := (I.eff p (I.sub p hp)).2 hp
      have := I.closed p q i (by simpa using hq) h1 hd
      rw [hun'] at this; cases this
    ·rfl
  obtain ⟨x, c', rs', H', k', hx, hk', hc', hrs', he⟩ := hob k c rs H hkt i o hoi' hmay
  rw [Bool.and_eq_true, List.all_eq_true, List.all_eq_true] at hc'
  rw [List.all_eq_true] at hrs'
  have hr1 : ∀ r ∈ rs', r ∈ rs ∧ avS r x = true := fun r hr => by
   have := hrs' r hr
   rw [Bool.and_eq_true] at this
   exact ⟨by simpa using this.1, this.2⟩
  -- the next state
  have next : ∀ (v : Value) (w' : World) (G' : Gr), (∀ i, i ∉ rs → G'[i]? = G[i]?) → den G' x = some v → Ms H' ks G0 w0 G' w' → wpAny P .any l.toArray Q fuel (listed.setIfInBounds i true) (a.put o.dst v) w' := by
   intro v w' G' hG hv hms
   have hlt : i < listed.size := by omega
   have hget : ∀ j, (listed.setIfInBounds i true).getD j false = true ↔ (j = i ∨ listed.getD j false = true) := by
    intro j
    by_cases hji : j = i
    ·subst hji; simp [hlt]
    ·rw [set_ne false (Ne.symm hji)]; simp [hji]
   refine ih _ _ _ k' c' rs' H' G' (by simpa using hls) ?_ hk' ⟨?_, ?_, fun t y hy hno => ?_, fun j p y q1 q2 q3 => ?_, hms, fun p hp => ?_, fun p hp => ?_, fun r hr => I.rsub r (hr1 r hr).1, fun j p r q1 q2 q3 => ?_⟩
   ·have : ((List.range l.length).filter fun k => !(listed.setIfInBounds i true).getD k true).length < ((List.range l.length).filter fun k => !listed.getD k true).length := by
     have hsub : ((List.range l.length).filter fun k => !(listed.setIfInBounds i true).getD k true) = ((List.range l.length).filter fun k => !listed.getD k true).filter (fun k => k != i) := by
      rw [List.filter_filter]
      apply List.filter_congr
      intro k _
      by_cases hk : k = i
      ·subst hk; simp [hlt]
      ·rw [set_ne true (Ne.symm hk)]; simp [hk]
     rw [hsub]
     refine List.length_filter_lt_length_iff_exists.2 ⟨i, ?_, by simp⟩
     simp only [List.mem_filter, List.mem_range]
     exact ⟨hil, by rw [hun]; rfl⟩
    omega
   ·cases hd : o.dst <;> simp [Act.put, I.size]
   ·cases hd : o.dst <;> simp [Act.put, I.defers]
   ·have hno' : ∀ (j : Nat) (q : Oper), l[j]? = some q → q.dst = some t → listed.getD j false = false := fun j q h1 h2 => by
     have h3 := hno j q h1 h2
     cases hlj : listed.getD j false with
     | false => rfl
     | true => rw [(hget j).2 (.inr hlj)] at h3; cases h3
    have h1 : den G' y = some (a.tmps.getD t undef) := by rw [den_off hG y fun r hr => hTa t y hy r (I.rsub r hr)]; exact I.base t y hy hno'
    cases hd : o.dst with
    | none => exact h1
    | some d =>
     have hne : d ≠ t := fun e => by
      have h3 := hno i o hoi' (by rw [hd, e])
      rw [(hget i).2 (.inl rfl)] at h3; cases h3
     simp only [Act.put, Array.getD_eq_getD_getElem?]
     rw [Array.getElem?_setIfInBounds_ne hne, ← Array.getD_eq_getD_getElem?]
     exact h1
   ·by_cases hji : j = i
    ·subst hji
     rw [hoi'] at q1; cases q1
     rw [hx] at q3; cases q3
     refine ⟨fun r hr => (hr1 r hr).2, fun d q4 => ?_⟩
     have hdn : d < a.tmps.size := by rw [I.size]; exact (hfd d q4).1
     rw [q4]
     simp [Act.put, hdn, hv]
    ·have h2 : listed.getD j false = true := by
      rcases (hget j).1 q2 with h | h
      ·exact absurd h hji
      ·exact h
     obtain ⟨g1, g2⟩ := I.done j p y q1 h2 q3
     refine ⟨fun r hr => g1 r (hr1 r hr).1, fun d q4 => ?_⟩
     have h1 : den G' y = some (a.tmps.getD d undef) := by rw [den_off hG y g1]; exact g2 d q4
     cases hd : o.dst with
     | none => exact h1
     | some d' =>
      have hne : d' ≠ d := fun e => by
       subst e
       exact hji ((hfd d' hd).2.1 j (by simpa using (List.getElem?_eq_some_iff.1 q1).1) (by simp [dstOf, q1, q4]))
      simp only [Act.put, Array.getD_eq_getD_getElem?]
      rw [Array.getElem?_setIfInBounds_ne hne, ← Array.getD_eq_getD_getElem?]
      exact h1
   ·rw [hget p, I.eff p hp]
    have := hc'.1 p hp
    have hb : (p = i ∨ p ∈ c) ↔ (Nat.beq p i || c.contains p) = true := by
     rw [Bool.or_eq_true]
     refine or_congr ⟨fun h => by subst h; exact Nat.beq_refl p, Nat.eq_of_beq_eq_true⟩ (by simp)
    rw [hb]
    rw [beq_iff_eq] at this
    rw [← this]; simp
   ·have := hc'.2 p hp; simpa using this
   ·rw [hget r]
    by_cases hji : j = i
    ·subst hji; rw [hoi'] at q1; cases q1; exact .inr (hw r q3)
    ·rcases (hget j).1 q2 with h | h
     ·exact absurd h hji
     ·exact .inr (I.closed j p r q1 h q3)
  unfold wpOp
  rcases he G a w A with ⟨hwn, h⟩ | ⟨hwn, G', h1, h2, h3⟩
  ·simp only [hoi, hwn, if_true]
   refine .inl (Oper.wp_mono (fun a2 w2 h => ?_) (h Q))
   obtain ⟨v, rfl, G', h1, h2, h3⟩ := h
   exact next v w2 G' h1 h2 h3
  ·simp only [hoi, hwn, Bool.false_eq_true, if_false]
   exact next undef w G' h1 h2 h3
def mayR (ops : Array Oper) (ef c : List Nat) : List Oper → Nat → List Bool
 | [], _ => []
 | o :: l, i => mayI ops ef c i o :: mayR ops ef c l (i + 1)
def ObS (P : Program) (n : Nat) (ks : List Nat) (G0 : Gr) (w0 : World) (T : List (Nat × SV)) (L : List Oper) (xs : List SV) (ef : List Nat) (tb : List (List Nat × List Nat × Hp)) (c rs : List Nat) (H : Hp) : List Bool → List Oper → Nat → Prop
 | true :: bs, o :: l, i => StepOb P n ks G0 w0 T L xs ef tb c rs H i o ∧ ObS P n ks G0 w0 T L xs ef tb c rs H bs l (i + 1)
 | false :: bs, o :: l, i => ObS P n ks G0 w0 T L xs ef tb c rs H bs l (i + 1)
 | _, _, _ => True
def ObA (P : Program) (n : Nat) (ks : List Nat) (G0 : Gr) (w0 : World) (T : List (Nat × SV)) (L : List Oper) (xs : List SV) (ef : List Nat) (tb : List (List Nat × List Nat × Hp)) : List (List Bool) → List (List Nat × List Nat × Hp) → Prop
 | bs :: B, (c, rs, H) :: ss => ObS P n ks G0 w0 T L xs ef tb c rs H bs L 0 ∧ ObA P n ks G0 w0 T L xs ef tb B ss
 | _, _ => True
theorem obs_at {c rs : List Nat} {H : Hp} {L : List Oper} : ∀ {m : List Oper} {j : Nat}, ObS P n ks G0 w0 T L xs ef tb c rs H (mayR L.toArray ef c m j) m j → ∀ (i : Nat) (o : Oper), m[i]? = some o → mayI L.toArray ef c (j + i) o = true → StepOb P n ks G0 w0 T L xs ef tb c rs H (j + i) o
 | [], j, _, i, o, h, _ => by cases h
 | p :: m, j, hO, i, o, h, hm => by
  unfold mayR at hO
  cases i with
  | zero =>
   cases h
   rw [Nat.add_zero] at hm ⊢
   rw [hm] at hO
   exact hO.1
  | succ i =>
   have hO' : ObS P n ks G0 w0 T L xs ef tb c rs H (mayR L.toArray ef c m (j + 1)) m (j + 1) := by
    cases hb : mayI L.toArray ef c j p with
    | true => rw [hb] at hO; exact hO.2
    | false => rw [hb] at hO; exact hO
   have := obs_at hO' i o (by simpa using h) (by rw [show j + 1 + i = j + (i + 1) by omega]; exact hm)
   rwa [show j + 1 + i = j + (i + 1) by omega] at this
theorem oba_at : ∀ {ss : List (List Nat × List Nat × Hp)}, ObA P n ks G0 w0 T l xs ef tb (ss.map fun s => mayR l.toArray ef s.1 l 0) ss → ∀ (k : Nat) (c rs : List Nat) (H : Hp), ss[k]? = some (c, rs, H) → ObS P n ks G0 w0 T l xs ef tb c rs H (mayR l.toArray ef c l 0) l 0
 | [], _, k, c, rs, H, h => by cases h
 | (c1, r1, H1) :: ss, hO, k, c, rs, H, h => by
  simp only [List.map_cons, ObA] at hO
  cases k with
  | zero => cases h; exact hO.1
  | succ k => exact oba_at hO.2 k c rs H (by simpa using h)
theorem Sy.pad {H : Hp} {G : Gr} {a : Act} {w : World} (A : Ms H ks G0 w0 G w) (m : Nat) : Ms (H ++ List.replicate m none) ks G0 w0 (G ++ List.replicate m none) w := by
 have hlen := A.mem.len
 have hold : ∀ (i : Nat) (e : Ent), (H ++ List.replicate m none)[i]? = some (some e) → H[i]? = some (some e) := by
  intro i e h
  by_cases hi : i < H.length
  ·rwa [List.getElem?_append_left hi] at h
  ·rw [List.getElem?_append_right (by omega), List.getElem?_replicate] at h
   split at h <;> cases h
 have hg : ∀ (i : Nat) (e : Ent), H[i]? = some (some e) → (G ++ List.replicate m none)[i]? = G[i]? := fun i e h => by
  have := (List.getElem?_eq_some_iff.1 h).1
  rw [List.getElem?_append_left (by omega)]
 refine ⟨⟨by simp [hlen], fun i e h => ?_, fun i j e f L M hij h1 h2 h3 h4 h5 h6 => ?_⟩, ?_, fun i e L h1 h2 h3 => ?_, A.mix⟩
 ·rw [hg i e (hold i e h)]; exact (A.mem.ent i e (hold i e h)).more _
 ·rw [hg i e (hold i e h1)] at h4
  rw [hg j f (hold j f h2)] at h5
  exact A.mem.sep i j e f L M hij (hold i e h1) (hold j f h2) h3 h4 h5 h6
 ·obtain ⟨F, rfl⟩ := A.pre; exact ⟨F ++ List.replicate m none, by simp⟩
 ·rw [hg i e (hold i e h1)] at h3; exact A.own i e L (hold i e h1) h2 h3
mutual
theorem av_go {G : Gr} {r : Nat} (key : ∀ i, (∃ p, G[i]? = some p) → (!Nat.beq i r) = true) : ∀ (x : SV) {v : Value}, den G x = some v → avS r x = true
  | .ptr i _, v, hx => by unfold den at hx; split at hx; · next L hL => exact key i ⟨_, hL⟩
                          · cases hx
  | .el i _ _ _, v, hx => by unfold den at hx; split at hx; · next L hL => exact key i ⟨_, hL⟩
                             · cases hx
  | .sl i _ _, v, hx => by unfold den at hx; split at hx; · next L hL => exact key i ⟨_, hL⟩
                           · cases hx
  | .st i _ _ _ _, v, hx => by unfold den at hx; split at hx; · next L hL => exact key i ⟨_, hL⟩
                               · cases hx
  | .agg l, v, hx => by unfold den at hx; obtain ⟨vs, h1, _⟩ := Option.map_eq_some_iff.1 hx; exact avL_go key l h1
  | .tup l, v, hx => by unfold den at hx; obtain ⟨vs, h1, _⟩ := Option.map_eq_some_iff.1 hx; exact avL_go key l h1
  | .fn _ l, v, hx => by unfold den at hx; obtain ⟨vs, h1, _⟩ := Option.map_eq_some_iff.1 hx; exact avL_go key l h1
  | .opt _ x, v, hx => by unfold den at hx; obtain ⟨vs, h1, _⟩ := Option.map_eq_some_iff.1 hx; exact av_go key x h1
  | .ix p _ _ _ _, v, hx => by
    unfold den at hx
    cases hq : den G p with
    | none => rw [hq] at hx; cases hx
    | some u => exact av_go key p hq
  | .sp p _ _, v, hx => by
    unfold den at hx
    cases hq : den G p with
    | none => rw [hq] at hx; cases hx
    | some u => exact av_go key p hq
  | .int _ _, _, _ => rfl
  | .bool _, _, _ => rfl
  | .tt, _, _ => rfl
  | .ff, _, _ => rfl
  | .str _, _, _ => rfl
  | .sla _ _ _, _, _ => rfl
  | .v _, _, _ => rfl
theorem avL_go {G : Gr} {r : Nat} (key : ∀ i, (∃ p, G[i]? = some p) → (!Nat.beq i r) = true) : ∀ (l : List SV) {vs : List Value}, denL G l = some vs → avL r l = true
 | [], _, _ => rfl
 | x :: l, vs, hx => by
  obtain ⟨v, ws, h1, h2, _⟩ := denL_cons hx
  unfold avL
  rw [av_go key x h1, avL_go key l h2]; rfl
end
theorem inS_av {G : Gr} {r : Nat} (h : G.length ≤ r) (x : SV) {v : Value} (hx : den G x = some v) : avS r x = true :=
 av_go (fun i ⟨p, hp⟩ => by
  have := (List.getElem?_eq_some_iff.1 hp).1
  cases hb : Nat.beq i r with
  | false => rfl
  | true => have := Nat.eq_of_beq_eq_true hb; omega) x hx
def endS (ef : List Nat) : List (List Nat × List Nat × Hp) → Option Hp
 | [] => none
 | [(_, _, H)] => some H
 | (c, _, _) :: s => bif ef.all c.contains then none else endS ef s
theorem endS_spec {HE : Hp} : ∀ {tb : List (List Nat × List Nat × Hp)}, endS ef tb = some HE → ∀ (k : Nat) (c rs : List Nat) (H : Hp), tb[k]? = some (c, rs, H) → ef.all c.contains = true → H = HE
 | [], h, k, c, rs, H, hk, _ => by cases hk
 | [(c1, r1, H1)], h, k, c, rs, H, hk, _ => by
  cases h
  cases k with
  | zero => cases hk; rfl
  | succ k => simp at hk
 | (c1, r1, H1) :: s1 :: ss, h, k, c, rs, H, hk, hc => by
  unfold endS at h
  cases hb : ef.all c1.contains with
  | true => rw [hb] at h; cases h
  | false =>
   rw [hb] at h
   cases k with
   | zero => cases hk; rw [hc] at hb; cases hb
   | succ k => exact endS_spec (tb := s1 :: ss) h k c rs H (by simpa using hk) hc
theorem ANY {id : Nat} {H HE : Hp} {G : Gr} {a : Act} {w : World} {K : List Fr} (hmo : P.follows .mixedOrders = true) (xs : List SV) (ef rs0 : List Nat) (m : Nat) (tb : List (List Nat × List Nat × Hp)) (B : List (List Bool)) (A : Sy n T H ks G0 w0 G a w)
  (h0 : tb[0]? = some ([], rs0, H ++ List.replicate m none)) (hE : endS ef tb = some HE) (hrs : (rs0.all fun r => Nat.ble H.length r) = true) (hef : (ef.all fun p => Nat.blt p l.length) = true) (hB : (tb.map fun s => mayR l.toArray ef s.1 l 0) = B) (hl : xs.length = l.length) (hfit : fitB l.toArray n [] = true)
  (hO : ObA P n ks G0 w0 (keepT l T) l xs ef tb B tb) (hk : ∀ {G a w}, Sy n (putS l xs (keepT l T)) HE ks G0 w0 G a w → Goal P Q K .norm a w) : Goal P Q K (.code (.region id l.toArray true)) a w := by
 refine wp_region_any hmo ?_
 have hB1 : Ms H ks G0 w0 G w.drew := A.ms.grow (Grow.refl w).drew
 rw [List.all_eq_true] at hrs hef
 refine any_go (P := P) (xs := xs) (T := keepT l T) (ef := ef) (rs0 := rs0) (tb := tb) hfit (fun t x hx j o h3 h4 i q hq hne => .inl <| lt_spec (by have := keepB_spec (keep_look hx).2 j o h3 h4; rwa [Nat.zero_add] at this) i (List.getElem?_eq_some_iff.1 hq).1 hne) (fun t x hx r hr => ?_) hl (fun k c rs H hk i o hi hm => ?_) (fun k c rs H' hk' hall G a w A' => ?_) _ _ _ _ 0 [] rs0 _ (G ++ List.replicate m none) (by simp) (by
  refine Nat.le_trans (List.length_filter_le _ _) (by simp)) h0 ⟨A.size, A.defers, fun t x hx _ => den_mono _ x (A.get t x (keep_look hx).1), fun j o x _ hj => ?_, Sy.pad (a := a) hB1 m, fun p hp => ?_, fun p hp => absurd hp (by simp), fun r hr => hr, fun j o p _ hj => ?_⟩
 ·have := hrs r hr
  rw [A.mem.len] at this
  exact inS_av (G := G) (Nat.le_of_ble_eq_true this) x (A.get t x (keep_look hx).1)
 ·have := obs_at (oba_at (by rw [hB]; exact hO) k c rs H hk) i o hi (by rw [Nat.zero_add]; exact hm)
  rwa [Nat.zero_add] at this
 ·have h2 : (ef.all c.contains) = true := by
   rw [List.all_eq_true]
   intro p hp
   have := hall p hp (by have := hef p hp; simpa [Nat.blt_eq] using this)
   simpa using this
  cases endS_spec hE k c rs H' hk' h2
  exact hk A'
 ·exfalso; simp [Array.getD_eq_getD_getElem?, Array.getElem?_replicate] at hj; split at hj <;> simp at hj
 ·constructor
  ·intro hj; exfalso; simp [Array.getD_eq_getD_getElem?, Array.getElem?_replicate] at hj; split at hj <;> simp at hj
  ·intro hj; cases hj
 ·exfalso; simp [Array.getD_eq_getD_getElem?, Array.getElem?_replicate] at hj; split at hj <;> simp at hj
/-! ### Cells written out, as a list that is read -/
theorem blk_parts {α : Type} (d : α) (cf : α → List SV) (s : Nat) (hs : ∀ x, (cf x).length = s) (hin : ∀ x, inL 0 (cf x) = true) : ∀ (L : List α) (k : Nat), k < L.length → tk s (dp (k * s) (L.flatMap cf)) = some (cf (L.getD k d)) ∧ inL 0 (cf (L.getD k d)) = true
 | [], k, h => by simp at h
 | x :: L, 0, _ => by
  refine ⟨?_, hin _⟩
  have tkl : ∀ (a b : List SV), tk a.length (a ++ b) = some a := by
   intro a b
   induction a with
   | nil => rfl
   | cons y a ih => simp [tk, ih]
  rw [Nat.zero_mul, ← hs x]
  exact tkl _ _
 | x :: L, k + 1, h => by
  have := blk_parts d cf s hs hin L k (by simpa using h)
  rw [dp_is] at this ⊢
  have e : (k + 1) * s = (cf x).length + k * s := by rw [hs, Nat.add_mul]; omega
  rw [List.flatMap_cons, e, ← List.drop_drop, List.drop_left]
  exact this
theorem Sy.asT {H : Hp} {G : Gr} {a : Act} {w : World} (A : Sy n T H ks G0 w0 G a w) {α : Type} (d : α) (cf : α → List SV) (s : Nat) (hs : ∀ x, (cf x).length = s) (hin : ∀ x, inL 0 (cf x) = true) (htot : ∀ x, ∃ vs, denL [] (cf x) = some vs) (L : List α) (i : Nat) (hi : lg H i = some (some (.blk (L.flatMap cf)))) : Sy n T (stH H i (some (.lst s L.length fun zz => cf (L.getD zz d)))) ks G0 w0 G a w :=
 A.asList i (f := fun zz => cf (L.getD zz d)) (by rw [lg_is] at hi; exact hi) (.inr ⟨_, rfl, blk_parts d cf s hs hin L⟩) (fun _ _ => rfl) (fun k => htot _)
end
section
variable {n : Nat} {ks : List Nat} {G0 : Gr} {w0 : World} {T T' : List (Nat × SV)} {H H' : Hp} {G : Gr} {a : Act} {w : World} {Q : Exit → Act → World → Prop} {K K' : List Fr} {pos pos' : Pos} {E : Ob}
theorem oV9 {l : List Oper} {xs : List SV} {ef : List Nat} {tb : List (List Nat × List Nat × Hp)} {c rs : List Nat} {i : Nat} {o : Oper} {x : SV} {c' rs' : List Nat} (k' : Nat) (h : (xs[i]?, tb[k']?, ((ef.all fun p => c'.contains p == (Nat.beq p i || c.contains p)) && c'.all ef.contains), (rs'.all fun r => rs.contains r && avS r x), stepS ⟨X, true⟩ n l.toArray (twL o l xs 0 T) H o) = (some x, some (c', rs', H), true, true, some (.val x E))) (hE : okE E) : StepOb Tryz.prog n ks G0 w0 T l xs ef tb c rs H i o := by
 simp only [Prod.mk.injEq] at h
 exact ⟨x, c', rs', H, k', h.1, h.2.1, h.2.2.1, h.2.2.2.1, eff_at (eff_auto (X := ⟨X, true⟩) (out := .val x E) hX h.2.2.2.2 hE) rfl⟩
theorem oE9 {l : List Oper} {xs : List SV} {ef : List Nat} {tb : List (List Nat × List Nat × Hp)} {c rs : List Nat} {i : Nat} {o : Oper} {x : SV} {c' rs' : List Nat} (k' : Nat) (h : (xs[i]?, tb[k']?, ((ef.all fun p => c'.contains p == (Nat.beq p i || c.contains p)) && c'.all ef.contains), (rs'.all fun r => rs.contains r && avS r x), H'.length) = (some x, some (c', rs', H'), true, true, H.length)) (e : EffOK Tryz.prog n l.toArray ks G0 w0 (twL o l xs 0 T) H o x H') : StepOb Tryz.prog n ks G0 w0 T l xs ef tb c rs H i o := by
 simp only [Prod.mk.injEq] at h
 exact ⟨x, c', rs', H', k', h.1, h.2.1, h.2.2.1, h.2.2.2.1, eff_at e h.2.2.2.2⟩
end
def Given (e s m : Nat) (f : Nat → List SV) (b cp : Nat) (w : World) : Prop := (∀ k, ∃ vs, denL [] (f k) = some vs ∧ vs.length = s) ∧ ∃ xs, flatV f m = some xs ∧ w.ownsRow 0 e s (.slice (some ⟨b, 0, none⟩) m cp) m xs
section
variable {P : Program} {n : Nat} {ks : List Nat} {G0 : Gr} {w0 : World} {T : List (Nat × SV)} {H : Hp} {G : Gr} {a : Act} {w w' : World}
theorem Sy.giveRow (A : Sy n T H ks G0 w0 G a w) (i t : Nat) {e s m c : Nat} {f : Nat → List SV} {H' : Hp} (hm : 0 < m) (hi : lg H i = some (some (.row e s m c f))) (ht : look T t = some (.sl i m c)) (hH : stH H i none = H') :
  ∃ b cp, Sy n ((t, .sla (some ⟨b, 0, none⟩) m cp) :: T) H' ks G0 w0 G a w ∧ Given e s m f b cp w ∧ (ks.contains b = true ∨ w0.heap.size ≤ b) ∧ (keys H' G).contains b = false := by
 subst hH
 rw [lg_is] at hi
 obtain ⟨h1, h2, xs, h3, h4⟩ := A.mem.ent i _ hi
 have h5 : ∃ L, G[i]? = some (some L) := by
  cases hq : G[i]? with
  | none =>
   rw [hq] at h4
   rcases h4.2 with ⟨_, h⟩ | ⟨g, cap, cur, h, _⟩
   ·omega
   ·cases h
  | some p =>
   cases p with
   | none =>
    rw [hq] at h4
    rcases h4.2 with ⟨_, h⟩ | ⟨g, cap, cur, h, _⟩
    ·omega
    ·cases h
   | some L => exact ⟨L, rfl⟩
 obtain ⟨L, hGi⟩ := h5
 rw [hGi] at h2 h4
 have hpre : L.pre = [] := h2 L rfl
 have h4' : w.ownsRow 0 e s (.slice (some ⟨L.b, 0, none⟩) m (c + rm (some L))) m xs := by
  have : (Option.map (fun L : Loc => (⟨L.b, L.pre.length, none⟩ : Addr)) (some L)) = some ⟨L.b, 0, none⟩ := by simp [hpre]
  rw [← this]; exact h4
 have hold : ∀ (j : Nat) (e : Ent), (stH H i none)[j]? = some (some e) → j ≠ i ∧ H[j]? = some (some e) := by
  intro j e h
  rw [stH_is] at h
  by_cases hj : j = i
  ·subst hj; rw [List.getElem?_set_self (List.getElem?_eq_some_iff.1 hi).1] at h; cases h
  ·rw [List.getElem?_set_ne (Ne.symm hj)] at h; exact ⟨hj, h⟩
 refine ⟨L.b, c + rm (some L), ⟨A.size, A.defers, fun q x hx => ?_, ⟨by rw [stH_is]; simpa using A.mem.len, fun j e he => A.mem.ent j e (hold j e he).2, fun j k e f L' M hjk g1 g2 g3 g4 g5 g6 => A.mem.sep j k e f L' M hjk (hold j e g1).2 (hold k f g2).2 g3 g4 g5 g6⟩, A.pre, fun j e L' g1 g2 g3 => A.own j e L' (hold j e g1).2 g2 g3, A.mix⟩, ⟨h1, xs, h3, h4'⟩, A.own i _ L hi rfl hGi, ?_⟩
 ·unfold look at hx
  cases hb : Nat.beq t q with
  | true =>
   rw [hb] at hx; cases hx
   have := Nat.eq_of_beq_eq_true hb
   subst this
   have := A.get t _ ht
   unfold den at this
   rw [hGi] at this
   rw [← this]
   simp [den, hpre]
  | false => rw [hb] at hx; exact A.get q x hx
 ·cases hq : (keys (stH H i none) G).contains L.b with
  | false => rfl
  | true =>
   obtain ⟨j, e, L', g1, g2, g3, g4⟩ := mem_keys.1 hq
   obtain ⟨k1, k2⟩ := hold j e g1
   exact absurd g4.symm (A.mem.sep i j _ e L L' (Ne.symm k1) hi k2 rfl hGi g3 (mut_full g2))
theorem Sy.takeRow (A : Sy n T H ks G0 w0 G a w) (t : Nat) {e s m b cp : Nat} {f : Nat → List SV} (hg : Given e s m f b cp w) (hn : ∀ (i : Nat) (e : Ent) (L : Loc), H[i]? = some (some e) → G[i]? = some (some L) → ¬ e.empty → L.b ≠ b) (ho : w0.heap.size ≤ b) (ht : look T t = some (.sla (some ⟨b, 0, none⟩) m cp)) :
  Sy n ((t, .sl H.length m 0) :: T) (H ++ [some (.row e s m 0 f)]) ks G0 w0 (G ++ [some ⟨b, [], List.replicate cp undef, e⟩]) a w := by
 have hlen := A.mem.len
 obtain ⟨p1, xs, p2, p3⟩ := hg
 have hen : EntOK G w (some ⟨b, [], List.replicate cp undef, e⟩) (.row e s m 0 f) := ⟨p1, fun L hL => by cases hL; rfl, xs, p2, by simpa [rm] using p3⟩
 have hold : ∀ (i : Nat) (x : Ent), (H ++ [some (Ent.row e s m 0 f)])[i]? = some (some x) → (H[i]? = some (some x) ∧ i < H.length) ∨ (i = H.length ∧ x = .row e s m 0 f) := by
  intro i x h
  by_cases hi : i < H.length
  ·rw [List.getElem?_append_left hi] at h; exact .inl ⟨h, hi⟩
  ·rw [List.getElem?_append_right (by omega)] at h
   have : i - H.length = 0 := by
    cases hq : i - H.length with
    | zero => rfl
    | succ k => rw [hq] at h; simp at h
   rw [this] at h
   simp at h
   exact .inr ⟨by omega, h.symm⟩
 have hG : ∀ i, i < H.length → (G ++ [some (⟨b, [], List.replicate cp undef, e⟩ : Loc)])[i]? = G[i]? := fun i hi => List.getElem?_append_left (by omega)
 have hGn : (G ++ [some (⟨b, [], List.replicate cp undef, e⟩ : Loc)])[H.length]? = some (some ⟨b, [], List.replicate cp undef, e⟩) := by rw [List.getElem?_append_right (by omega), hlen]; simp
 refine ⟨A.size, A.defers, fun q x hx => ?_, ⟨by simp [hlen], ?_, ?_⟩, ?_, ?_, A.mix⟩
 ·unfold look at hx
  cases hb : Nat.beq t q with
  | true =>
   rw [hb] at hx; cases hx
   have := Nat.eq_of_beq_eq_true hb
   subst this
   have := A.get t _ ht
   unfold den at this ⊢
   rw [hGn, ← this]
   simp [rm]
  | false => rw [hb] at hx; exact den_mono _ x (A.get q x hx)
 ·intro i x h
  rcases hold i x h with ⟨h1, h2⟩ | ⟨rfl, rfl⟩
  ·rw [hG i h2]; exact (A.mem.ent i x h1).more _
  ·rw [hGn]; exact hen.more _
 ·intro i j x y L M hij h1 h2 h3 h4 h5 h6
  rcases hold i x h1 with ⟨k1, k2⟩ | ⟨rfl, rfl⟩
  ·rw [hG i k2] at h4
   rcases hold j y h2 with ⟨k3, k4⟩ | ⟨rfl, rfl⟩
   ·rw [hG j k4] at h5; exact A.mem.sep i j x y L M hij k1 k3 h3 h4 h5 h6
   ·rw [hGn] at h5; cases h5; exact hn i x L k1 h4 (mut_full h3)
  ·rw [hGn] at h4; cases h4
   rcases hold j y h2 with ⟨k3, k4⟩ | ⟨rfl, rfl⟩
   ·rw [hG j k4] at h5; exact fun z => hn j y M k3 h5 h6 z.symm
   ·exact absurd rfl hij
 ·obtain ⟨F, hF⟩ := A.pre; exact ⟨F ++ [some ⟨b, [], List.replicate cp undef, e⟩], by rw [hF, List.append_assoc]⟩
 ·intro i x L h1 h2 h3
  rcases hold i x h1 with ⟨k1, k2⟩ | ⟨rfl, rfl⟩
  ·rw [hG i k2] at h3; exact A.own i x L k1 h2 h3
  ·rw [hGn] at h3; cases h3; exact .inr ho
theorem Sy.adoptL (A : Sy n T H ks G0 w0 G a w) {α : Type} (d : α) (cf : α → List SV) (s : Nat) (hs : ∀ x, (cf x).length = s) (hin : ∀ x, inL 0 (cf x) = true) (htot : ∀ x, ∃ vs, denL [] (cf x) = some vs) (R : List α) {b cp : Nat} {vs : List Value} (h0 : Lies b 0 vs w0 ks) (hv : denL [] (R.flatMap cf) = some vs) (t : Nat) (hx : look T t = some (.sla (some ⟨b, 0, none⟩) R.length cp)) :
  Sy n ((t, .sl H.length R.length cp) :: T) (H ++ [some (.lst s R.length fun zz => cf (R.getD zz d))]) ks G0 w0 (G ++ [some ⟨b, [], [], 0⟩]) a w := by
 have hl := h0.go A.mix (ks' := ks) fun b hb => .inl hb
 have hlen := A.mem.len
 have hG : (G ++ [some (⟨b, [], [], 0⟩ : Loc)])[H.length]? = some (some ⟨b, [], [], 0⟩) := by rw [List.getElem?_append_right (by omega), hlen]; simp
 have hold : ∀ (i : Nat) (e : Ent), (H ++ [some (Ent.lst s R.length fun zz => cf (R.getD zz d))])[i]? = some (some e) → (H[i]? = some (some e) ∧ i < H.length) ∨ (i = H.length ∧ e = .lst s R.length fun zz => cf (R.getD zz d)) := by
  intro i e h
  by_cases hi : i < H.length
  ·rw [List.getElem?_append_left hi] at h; exact .inl ⟨h, hi⟩
  ·rw [List.getElem?_append_right (by omega)] at h
   have : i - H.length = 0 := by
    cases hq : i - H.length with
    | zero => rfl
    | succ k => rw [hq] at h; simp at h
   rw [this] at h
   simp at h
   exact .inr ⟨by omega, h.symm⟩
 have hGl : ∀ i, i < H.length → (G ++ [some (⟨b, [], [], 0⟩ : Loc)])[i]? = G[i]? := fun i hi => List.getElem?_append_left (by omega)
 refine ⟨A.size, A.defers, fun q z hz => ?_, ⟨by simp [hlen], ?_, ?_⟩, ?_, ?_, A.mix⟩
 ·unfold look at hz
  cases hb : Nat.beq t q with
  | true =>
   rw [hb] at hz; cases hz
   have := Nat.eq_of_beq_eq_true hb
   subst this
   have h1 := A.get t _ hx
   unfold den at h1 ⊢
   rw [hG, ← h1]
   simp [rm]
  | false => rw [hb] at hz; exact den_mono _ z (A.get q z hz)
 ·intro i e h
  rcases hold i e h with ⟨h1, h2⟩ | ⟨rfl, rfl⟩
  ·rw [hGl i h2]; exact (A.mem.ent i e h1).more _
  ·rw [hG]
   refine ⟨fun k => htot _, .inr ⟨_, rfl, hl.1, fun k hk => ?_⟩⟩
   obtain ⟨r1, r2⟩ := blk_parts d cf s hs hin R k hk
   obtain ⟨r3, r4⟩ := tk_is r1
   rw [dp_is] at r3 r4
   have hd : denL [] (cf (R.getD k d)) = some ((vs.drop (k * s)).take s) := by rw [r3]; exact denL_take s (denL_drop _ hv)
   refine ⟨_, hd, fun q v hq => ?_⟩
   have hq' : vs[k * s + q]? = some v := by
    rw [List.getElem?_take] at hq
    split at hq
    ·rw [List.getElem?_drop] at hq; exact hq
    ·cases hq
   have := hl.2.2 (k * s + q) v hq'
   simpa using this
 ·intro i j e f L M hij h1 h2 h3 h4 h5 h6
  rcases hold i e h1 with ⟨k1, k2⟩ | ⟨rfl, rfl⟩
  ·rw [hGl i k2] at h4
   rcases hold j f h2 with ⟨k3, k4⟩ | ⟨rfl, rfl⟩
   ·rw [hGl j k4] at h5; exact A.mem.sep i j e f L M hij k1 k3 h3 h4 h5 h6
   ·rw [hG] at h5
    cases h5
    intro hLM
    rcases A.own i e L k1 h3 h4 with h7 | h7
    ·rw [hLM] at h7; simp only at h7; rw [h0.2.1] at h7; cases h7
    ·rw [hLM] at h7; simp only at h7; have := h0.1; omega
  ·cases h3
 ·obtain ⟨F, hF⟩ := A.pre; exact ⟨F ++ [some ⟨b, [], [], 0⟩], by rw [hF, List.append_assoc]⟩
 ·intro i e L h1 h2 h3
  rcases hold i e h1 with ⟨k1, k2⟩ | ⟨rfl, rfl⟩
  ·rw [hGl i k2] at h3; exact A.own i e L k1 h2 h3
  ·cases h2
end
section
variable {P : Program} {n : Nat} {ks : List Nat} {G0 : Gr} {w0 : World} {T : List (Nat × SV)} {H : Hp} {G : Gr} {a : Act} {w w' : World} {Q : Exit → Act → World → Prop} {K : List Fr} {ops : Array Oper} {o : Oper} {rest : List Oper}
theorem CALLROW {β : Type} {e s m t f : Nat} {F : β → Nat → List SV} {R : β → Nat → World → World → Prop} (hf : FnR P f [] [] (fun x w w' => ∃ (L : β) (b cp : Nat), x = .sla (some ⟨b, 0, none⟩) m cp ∧ R L b w w' ∧ w.heap.size ≤ b ∧ Given e s m (F L) b cp w')) (A : Sy n T H ks G0 w0 G a w) (hd : o.dst = some t) (h1 : callS n ops T o = some (f, []))
  (k : ∀ L b cp a' w' G', R L b w w' → w.heap.size ≤ b → (∀ k, (keys (H ++ [some (.row e s m 0 (F L))]) G').contains k = true → k < w.heap.size ∨ k = b) → Sy n ((t, .sl H.length m 0) :: extS T o.dst (.sla (some ⟨b, 0, none⟩) m cp)) (H ++ [some (.row e s m 0 (F L))]) ks G0 w0 G' a' w' → Goal P Q K (.ops ops rest) a' w') : Goal P Q K (.ops ops (o :: rest)) a w := by
 refine CALLR [] hf A h1 rfl rfl rfl rfl fun x a' w' hJ hk A' => ?_
 obtain ⟨L, b, cp, rfl, hR, hlo, hg⟩ := hJ
 have hl : look (extS T o.dst (.sla (some ⟨b, 0, none⟩) m cp)) t = some (.sla (some ⟨b, 0, none⟩) m cp) := by rw [hd]; simp [extS, look, Nat.beq_refl]
 have A2 := A'.takeRow t hg (fun i e L q1 q2 q3 => by
  have := A.mem.ent i e q1
  rw [q2] at this
  have := EntOK.lt this q3
  omega) (Nat.le_trans A.mix.size hlo) hl
 refine k L b cp a' w' _ hR hlo (fun k hk' => ?_) A2
 obtain ⟨i, e', M, q1, q2, q3, q4⟩ := mem_keys.1 hk'
 have hlen := A.mem.len
 by_cases hi : i < H.length
 ·rw [List.getElem?_append_left hi] at q1
  rw [List.getElem?_append_left (by omega)] at q3
  exact .inl (hk k (mem_keys.2 ⟨i, e', M, q1, q2, q3, q4⟩))
 ·right
  have hi2 : i = G.length := by
   have := (List.getElem?_eq_some_iff.1 q3).1
   simp at this
   omega
  subst hi2
  rw [List.getElem?_append_right (Nat.le_refl _)] at q3
  simp at q3
  rw [← q4, ← q3]
end
def bl : Option Addr → List Nat
 | some a => [a.block]
 | none => []
abbrev Ro (e : Nat) (w : World) (ao : Option Addr) (n cp : Nat) (xs : List Value) : Prop := w.ownsRow 0 e 1 (.slice ao n cp) n xs
theorem bl_own {ao : Option Addr} {n cp k : Nat} : (bl ao).contains k = true ↔ (Value.slice ao n cp).ownBlock = some k := by
 cases ao with
 | none => simp [bl, Value.ownBlock]
 | some a => simp [bl, Value.ownBlock]; exact ⟨fun h => h.symm, fun h => h.symm⟩
theorem Ro.lt {e : Nat} {w : World} {ao : Option Addr} {n cp : Nat} {xs : List Value} (h : Ro e w ao n cp xs) {k : Nat} (hk : (bl ao).contains k = true) : k < w.heap.size := (own_lt h k (bl_own.1 hk)).2
theorem Ro.cell {e : Nat} {w : World} {b n cp : Nat} {xs : List Value} (h : Ro e w (some ⟨b, 0, none⟩) n cp xs) : ∀ j u, xs[j]? = some u → w.cell? ((⟨b, 0, none⟩ : Addr).add j) = some u := h.cells (g := b) rfl
theorem Ro.range {e : Nat} {w : World} {b n cp : Nat} {xs : List Value} (h : Ro e w (some ⟨b, 0, none⟩) n cp xs) : w.rangeAt b 0 xs := fun j u hu => by
 have := h.cell j u hu
 rw [Addr.add_mid, Nat.zero_add] at this; simpa using this
section
variable {P : Program} {X : Tx} {n : Nat} {ks : List Nat} {G0 : Gr} {w0 : World} {T : List (Nat × SV)} {H : Hp} {G : Gr} {a : Act} {w w' : World} {ops : Array Oper} {o : Oper} {rest : List Oper} {Q : Exit → Act → World → Prop} {K : List Fr}
def Off (H : Hp) (G : Gr) (ks : List Nat) : Prop := ∀ (i : Nat) (e : Ent) (L : Loc), H[i]? = some (some e) → G[i]? = some (some L) → ¬ e.empty → ks.contains L.b = false
theorem Sy.mixed (A : Sy n T H ks G0 w0 G a w) {ks' : List Nat} (m : Mix ks' w w') (hoff : Off H G ks') (hk : ∀ b, ks'.contains b = true → ks.contains b = true ∨ w0.heap.size ≤ b) : Sy n T H ks G0 w0 G a w' := by
 refine ⟨A.size, A.defers, A.get, ⟨A.mem.len, fun i e h => (A.mem.ent i e h).mix m (fun hne L hL => hoff i e L h ?_ hne), A.mem.sep⟩, A.pre, A.own, A.mix.mix m fun k hl hc => ?_⟩
 ·cases hq : G[i]? with
  | none => rw [hq] at hL; cases hL
  | some p => rw [hq] at hL; simp at hL; rw [hL]
 ·cases hz : ks'.contains k with
  | false => rfl
  | true =>
   rcases hk k hz with h | h
   ·rw [h] at hc; cases hc
   ·omega
theorem NILQ {x y : Operand} {t rt : Nat} {ao : Option Addr} {nn cp : Nat} (A : Sy n T H ks G0 w0 G a w) (hg : guardS ops T o.guard = some .run) (hd : fitsD n o.dst = true) (hop : o.op = .binOp .eql t x y rt) (hx : evS T x = some (.sla ao nn cp)) (hy : evS T y = some (.sla none 0 0)) {e : Nat} (ht : P.underlying t = some (.slice e)) {r : SV} (hr : den [] r = some (.bool ao.isNone))
  (k : ∀ {a}, Sy n (extS T o.dst r) H ks G0 w0 G a w → Goal P Q K (.ops ops rest) a w) : Goal P Q K (.ops ops (o :: rest)) a w := by
 have hw := gd_run (gd := none) A hg
 obtain ⟨d, op, ty, pos, af, gd⟩ := o
 simp only at hop
 subst hop
 have hvx := A.ev hx
 have hvy := A.ev hy
 unfold den at hvx hvy
 simp only [Option.some.injEq] at hvx hvy
 exact q_does (Q := wpK P Q K) (d_bin (u := .slice ao nn cp) (v := .slice none 0 0) hw hvx.symm hvy.symm ⟨by simp [eqGuard], Lib.run_eql_slice_nil w t e ao nn cp 0 0 ht⟩ (k (Sy.put A hd (by simpa using den_mono G r hr))))
end
def FnW (P : Program) (f : Nat) (args : List SV) (H : Hp) (ks : List Nat) (pre : World → Prop) (J : SV → World → World → Prop) : Prop :=
 Ent_ P f = some (false, false) ∧ (∀ (i : Nat) (e : Ent), H[i]? = some (some e) → e.mut = false) ∧ ∀ G w vs, Mem H G w → Off H G ks → pre w → denL G args = some vs → Calls P f vs.toArray w fun e w' => ∃ x v, den [] x = some v ∧ e = .returned v ∧ Mix ks w w' ∧ J x w w'
section
variable {P : Program} {n : Nat} {ks : List Nat} {G0 : Gr} {w0 : World} {T : List (Nat × SV)} {H : Hp} {G : Gr} {a : Act} {w : World} {Q : Exit → Act → World → Prop} {K : List Fr} {pos : Pos} {ops : Array Oper} {o : Oper} {rest : List Oper} {pre : World → Prop}
theorem enterW {f : Nat} {fn : Func} {c : Code} {args : List SV} {J : SV → World → World → Prop} (hent : Ent_ P f = some (false, false)) (hf : P.funcs[f]? = some fn) (hb : fn.body = some c) (hn : fn.ntmps = n) (hl : Nat.ble args.length n = true) (hro : ∀ (i : Nat) (e : Ent), H[i]? = some (some e) → e.mut = false)
  (h : ∀ G w a, H.length = G.length → Off H G ks → pre w → Sy n (argS args 0) H ks G w G a w → Goal P (bodyPost P fn fun e w' => ∃ x v, den [] x = some v ∧ e = .returned v ∧ Mix ks w w' ∧ J x w w') [] (.code c) a w) : FnW P f args H ks pre J := by
 refine ⟨hent, hro, fun G w vs hM ho hp hv => ?_⟩
 refine calls_of_wp hf hb (h G w _ hM.len ho hp ⟨?_, rfl, fun t x hx => ?_, hM, ⟨[], by simp⟩, fun i e L h1 h2 h3 => (by rw [hro i e h1] at h2; cases h2), Mix.refl _ _⟩)
 ·have := denL_len hv
  have := Nat.le_of_ble_eq_true hl
  simp [hn]; omega
 ·obtain ⟨_, h2⟩ := argS_look hx
  simp only [Nat.sub_zero] at h2
  obtain ⟨v, h3, h4⟩ := denL_get hv h2
  have hlt : t < vs.length := (List.getElem?_eq_some_iff.1 h3).1
  rw [h4]
  simp [Array.getD_eq_getD_getElem?, Array.getElem?_append, hlt] at h3 ⊢
  exact h3.symm
theorem RETW {Y : Tb} {fn : Func} {J : SV → World → World → Prop} (hX : Y.ok P = true) {y : SV} {r : List SV} {rv : List ResultVar} {v' : Value} (A : Sy n T H ks G0 w0 G a w) (hr : fn.results.toList = rv) (hv : resS ⟨Y, false⟩ T H rv = some r) (hy : oneS r = y) (hc : den [] y = some v') (hJ : J y w0 w) : bodyPost P fn (fun e w' => ∃ x v, den [] x = some v ∧ e = .returned v ∧ Mix ks w0 w' ∧ J x w0 w') .ret a w := by
 obtain ⟨v, h1, h2⟩ := res_run (X := ⟨Y, false⟩) (fn := fn) hX A hr hv hy
 have h3 : den G y = some v' := by simpa using den_mono G y hc
 rw [h3] at h1
 cases h1
 exact ⟨A.defers, v', h2, y, v', hc, rfl, A.mix, hJ⟩
theorem CALLW {f : Nat} {args az : List SV} {H' l : Hp} {ks' : List Nat} {J : SV → World → World → Prop} (m : List Nat) (hf : FnW P f args H' ks' pre J) (A : Sy n T H ks G0 w0 G a w) (hp : pre w) (hoff : Off H G ks') (hk : ∀ b, ks'.contains b = true → ks.contains b = true ∨ w0.heap.size ≤ b) (h1 : callS n ops T o = some (f, az)) (h2 : renL m args = some az) (h3 : renH m H' = some l) (h4 : pickH H m = some l) (h5 : ndB m = true)
  (k : ∀ {x a' w'}, Mix ks' w w' → J x w w' → Sy n (extS T o.dst x) H ks G0 w0 G a' w' → Goal P Q K (.ops ops rest) a' w') : Goal P Q K (.ops ops (o :: rest)) a w := by
 obtain ⟨hd, us, hu, hdo⟩ := callS_do (P := P) (ops := ops) A h1 hf.1
 obtain ⟨p1, p2, p3⟩ := pickH_at h4
 obtain ⟨r1, r2⟩ := renH_at h3
 have hm : ∀ j ∈ m, j < G.length := fun j hj => by rw [← A.mem.len]; exact p2 j hj
 have hM := A.mem.sub h4 h3 h5
 have hv' : denL (pickG m G) args = some us := by rw [denL_ren hm args h2]; exact hu
 have ho' : Off H' (pickG m G) ks' := fun i e L q1 q2 q3 => by
  obtain ⟨f, s1, s2⟩ := r2 i _ q1
  obtain ⟨f', rfl⟩ := renE_some s2
  have hi : i < m.length := by rw [← p1]; exact (List.getElem?_eq_some_iff.1 s1).1
  have hj : m[i]? = some m[i] := by simp [hi]
  rw [pickG_at hm hj] at q2
  rw [p3 i _ hj] at s1
  exact hoff _ f' L s1 q2 fun h => q3 ((renE_mut s2).2.1 h)
 refine q_does (Q := wpK P Q K) (hdo (hf.2.2 _ w us hM ho' hp hv') fun e w' he => ?_)
 obtain ⟨x, v, e1, rfl, hg, hJ⟩ := he
 exact ⟨v, rfl, k hg hJ (Sy.put (A.mixed hg hoff hk) hd (by simpa using den_mono G x e1))⟩
theorem Off.nil : Off H G [] := fun _ _ _ _ _ _ => rfl
end
section
variable {P : Program} {n : Nat} {ks : List Nat} {G0 : Gr} {w0 : World} {T : List (Nat × SV)} {H : Hp} {G : Gr} {a : Act} {w : World} {Q : Exit → Act → World → Prop} {K : List Fr}
end
theorem ix_ptr {i o s m k : Nat} (j : Nat) {q : Nat} (hq : o + j * s + k = q) : ∀ G, den G (.ix (.ptr i o) s m (j : Int) k) = den G (.ptr i q) := fun G => by
 subst hq
 unfold den
 cases hG : G[i]? with
 | none => unfold den; rw [hG]
 | some p => cases p with
  | none => unfold den; rw [hG]
  | some L => unfold den; rw [hG]; simp [Nat.add_assoc]
section
variable {P : Program} {Y : Tb} {n : Nat} {ks : List Nat} {G0 : Gr} {w0 : World} {T : List (Nat × SV)} {H : Hp} {G : Gr} {a : Act} {w w' : World} {Q : Exit → Act → World → Prop} {K : List Fr} {ops : Array Oper} {o : Oper} {rest : List Oper}
end
theorem lt8 {j : Int} (h : 0 ≤ j ∧ j < 8) : j = 0 ∨ j = 1 ∨ j = 2 ∨ j = 3 ∨ j = 4 ∨ j = 5 ∨ j = 6 ∨ j = 7 := by omega
section
variable {P : Program} {Y : Tb} {n : Nat} {ks : List Nat} {G0 : Gr} {w0 : World} {T : List (Nat × SV)} {H : Hp} {ops : Array Oper} {o : Oper} {rest : List Oper} {Q : Exit → Act → World → Prop} {K : List Fr}
end
abbrev Rg := Nat → Int
def updR (r : Rg) (k : Nat) (x : Int) : Rg := fun j => if j = k then x else r j
section
variable {P : Program} {Y : Tb} {n : Nat} {ks : List Nat} {G0 : Gr} {w0 : World} {T : List (Nat × SV)} {H : Hp} {ops : Array Oper} {o : Oper} {rest : List Oper} {Q : Exit → Act → World → Prop} {K : List Fr}
end
abbrev rnS (x : SV) (at_ : Int) (r : Rg) : List SV := [x, .int .i64 at_, .int .i64 (r 0), .int .i64 (r 1), .int .i64 (r 2), .int .i64 (r 3), .int .i64 (r 4), .int .i64 (r 5), .int .i64 (r 6), .int .i64 (r 7)]
section
variable {P : Program} {Y : Tb} {n : Nat} {ks : List Nat} {G0 : Gr} {w0 : World} {T : List (Nat × SV)} {H : Hp} {ops : Array Oper} {o : Oper} {rest : List Oper} {Q : Exit → Act → World → Prop} {K : List Fr}
theorem stnE {x y : Operand} {ty i : Nat} {j v at_ : Int} {r : Rg} {s1 : SV} {ti : TI} (hX : Y.ok P = true) (hop : o.op = .store ty x y) (hg : guardS ops T o.guard = some .run) (hx : evS T x = some (.ix (.ptr i 2) 1 8 j 0)) (hy : evS T y = some (.int .i64 v)) (hH : lg H i = some (some (.blk (rnS s1 at_ r)))) (hti : Y.get ty = some ti) (hrow : ti.row = none) (hone : ti.one = true) (hj : 0 ≤ j ∧ j < 8) :
  EffOK P n ops ks G0 w0 T H o (.tup []) (stH H i (some (.blk (rnS s1 at_ (updR r j.toNat v))))) := fun G a w A => by
 have hw := gd_run (gd := none) A hg
 obtain ⟨d, op, ty', pos, af, gd⟩ := o
 simp only at hop
 subst hop
 have hvx := A.ev hx
 have hvy := A.ev hy
 have key : ∀ k : Nat, j = (k : Int) → (∀ q : List SV, sp (2 + k) (rnS s1 at_ r) [.int .i64 v] = some q → q = rnS s1 at_ (updR r j.toNat v) → Does P ops { dst := d, op := .store ty x y, type := ty', pos := pos, after := af, guard := gd } a w fun v' w' => ∃ F, den (G ++ F) (.tup []) = some v' ∧ Ms (stH H i (some (.blk (rnS s1 at_ (updR r j.toNat v))))) ks G0 w0 (G ++ F) w') := by
  intro k hk q hr e
  rw [hk, ix_ptr (q := 2 + k) k (by omega)] at hvx
  have hs : storeS ⟨Y, true⟩ H ty (.ptr i (2 + k)) (.int .i64 v) = some (i, q, []) := by
   have ht : Tx.get ⟨Y, true⟩ ty = some ti := hti
   simp only [storeS, hH, ht, hrow, hone, hr]
   rfl
  refine storeS_do (X := ⟨Y, true⟩) hX A hs okE_nil hvx hvy rfl rfl hw fun cs L vs' w' a1 a2 a3 a4 a5 => ⟨[], rfl, ?_⟩
  subst e
  simpa using (A.turn a1 a2 a3 a4 a5).ms
 rcases lt8 hj with rfl | rfl | rfl | rfl | rfl | rfl | rfl | rfl
 ·exact key 0 rfl _ rfl rfl
 ·exact key 1 rfl _ rfl rfl
 ·exact key 2 rfl _ rfl rfl
 ·exact key 3 rfl _ rfl rfl
 ·exact key 4 rfl _ rfl rfl
 ·exact key 5 rfl _ rfl rfl
 ·exact key 6 rfl _ rfl rfl
 ·exact key 7 rfl _ rfl rfl
theorem ldnE {x : Operand} {ty i : Nat} {j at_ : Int} {r : Rg} {s1 : SV} {ti : TI} (hX : Y.ok P = true) (hop : o.op = .load ty x) (hg : guardS ops T o.guard = some .run) (hx : evS T x = some (.ix (.ptr i 2) 1 8 j 0)) (hH : lg H i = some (some (.blk (rnS s1 at_ r)))) (hti : Y.get ty = some ti) (hrow : ti.row = none) (hone : ti.one = true) (hj : 0 ≤ j ∧ j < 8) :
  EffOK P n ops ks G0 w0 T H o (.int .i64 (r j.toNat)) H := fun G a w A => by
 have hw := gd_run (gd := none) A hg
 obtain ⟨d, op, ty', pos, af, gd⟩ := o
 simp only at hop
 subst hop
 have hvx := A.ev hx
 have key : ∀ k : Nat, j = (k : Int) → (lg (rnS s1 at_ r) (2 + k) = some (.int .i64 (r j.toNat))) → Does P ops { dst := d, op := .load ty x, type := ty', pos := pos, after := af, guard := gd } a w fun v' w' => ∃ F, den (G ++ F) (.int .i64 (r j.toNat)) = some v' ∧ Ms H ks G0 w0 (G ++ F) w' := by
  intro k hk hr
  rw [hk, ix_ptr (q := 2 + k) k (by omega)] at hvx
  have hs : loadS ⟨Y, true⟩ H ty (.ptr i (2 + k)) = some (.int .i64 (r j.toNat), []) := by
   have ht : Tx.get ⟨Y, true⟩ ty = some ti := hti
   simp only [loadS, baseS, hH, selL, cellS, ht, hrow, hone, hr, cond_true]
  obtain ⟨z, hz, h3⟩ := loadS_do (X := ⟨Y, true⟩) (P := P) (ops := ops) (d := d) (ty := ty') (pos := pos) (af := af) (gd := gd) (x := x) hX A hs hvx
  exact h3 (fun p hp => by cases hp) rfl hw _ ⟨[], by simpa using hz, by simpa using A.ms⟩
 rcases lt8 hj with rfl | rfl | rfl | rfl | rfl | rfl | rfl | rfl
 ·exact key 0 rfl rfl
 ·exact key 1 rfl rfl
 ·exact key 2 rfl rfl
 ·exact key 3 rfl rfl
 ·exact key 4 rfl rfl
 ·exact key 5 rfl rfl
 ·exact key 6 rfl rfl
 ·exact key 7 rfl rfl
def adJ (ao : Option Addr) (s : Nat) (j : Int) : Option Addr := ao.map fun a => ⟨a.block, a.off + j.toNat * s, none⟩
theorem ixcE {x y : Operand} {t e nn cp s : Nat} {j : Int} {ao : Option Addr} {f : Nat → List SV} (hop : o.op = .indexAddr t x y) (hg : guardS ops T o.guard = some .run) (hx : evS T x = some (.sla ao nn cp)) (hy : evS T y = some (.int .i64 j)) (h0 : LstAt ao s nn f w0 ks) (ht : sliceB P t e s = true) (hj : 0 ≤ j ∧ j < ((nn : Nat) : Int)) :
  EffOK P n ops ks G0 w0 T H o (.v (.pointer (adJ ao s j))) H := fun G a w A => by
 rcases h0.2 with q | ⟨b, q, rfl, _⟩
 ·omega
 have hw := gd_run (gd := none) A hg
 obtain ⟨d, op, ty, pos, af, gd⟩ := o
 simp only at hop
 subst hop
 have hvx := A.ev hx
 have hvy := A.ev hy
 unfold den at hvx hvy
 simp only [Option.some.injEq] at hvx hvy
 exact d_indexAt (n := nn) (s := s) (b := b) (o := q + j.toNat * s) (j := j.toNat) hw hvx.symm (by rw [← hvy]; congr 1; omega) ht ⟨q, cp, rfl, rfl⟩ (by omega) ⟨[], rfl, by simpa using A.ms⟩
theorem ldcE {x : Operand} {ty s nn : Nat} {j : Int} {ao : Option Addr} {f : Nat → List SV} (r : List SV) (hX : Y.ok P = true) (hop : o.op = .load ty x) (hg : guardS ops T o.guard = some .run) (hx : evS T x = some (.v (.pointer (adJ ao s j)))) (h0 : LstAt ao s nn f w0 ks) (hj : 0 ≤ j ∧ j < ((nn : Nat) : Int)) (hr : f j.toNat = r) (hc : cellS ⟨Y, true⟩ ty r 0 = some (.agg r)) :
  EffOK P n ops ks G0 w0 T H o (.agg r) H := fun G a w A => by
 have h1 := LstAt.ok w0 ks w ks h0 A.mix (fun b hb => .inl hb)
 rcases h1.2 with q | ⟨b, q, rfl, _, _, h4⟩
 ·omega
 have hw := gd_run (gd := none) A hg
 obtain ⟨d, op, ty, pos, af, gd⟩ := o
 simp only at hop
 subst hop
 have hvx := A.ev hx
 unfold den at hvx
 simp only [Option.some.injEq] at hvx
 obtain ⟨vs, v1, v2⟩ := h4 j.toNat (by omega)
 rw [hr] at v1
 have v3 : denL G r = some vs := by simpa using denL_mono G r v1
 exact cellS_load (X := ⟨Y, true⟩) hX hc v3 (by show (denL G r).map _ = _; rw [v3]; rfl) v2 hw hvx.symm ⟨[], by simp only [List.append_nil]; show (denL G r).map _ = _; rw [v3]; rfl, by simpa using A.ms⟩
end
theorem fnI_el {I : Amb} {P : Program} {f : Nat} {args : List SV} {x : SV} {e s m c : Nat} {F F' : Nat → List SV} {j : Int} (k : Nat) (hjk : j.toNat = k) (hj : k < m)
  (h : FnI I P f (.ptr 0 0 :: args) [some (.blk (F k))] (Rt x [some (.blk (F' k))])) (hin : inL 0 args = true) (hxin : inS 0 x = true) (hne : ∀ q, q ≠ k → F' q = F q) (hcl : ∃ vs, denL [] (F' k) = some vs ∧ vs.length = s) :
  FnI I P f (.el 0 s j 0 :: args) [some (.row e s m c F)] (Rt x [some (.row e s m c F')]) := by
 refine ⟨h.1, fun G w vs hM hI hv => ?_⟩
 have hGl : G.length = 1 := hM.len.symm
 obtain ⟨p, rfl⟩ : ∃ p, G = [p] := by
  cases G with
  | nil => cases hGl
  | cons p G => cases G with
   | nil => exact ⟨p, rfl⟩
   | cons _ _ => simp at hGl
 obtain ⟨htot, hpre, xs, hxs, hown⟩ := hM.ent 0 _ rfl
 obtain ⟨us, hus, husl⟩ := htot k
 have hxl := flat_len htot hxs
 have hmk : (k + 1) * s ≤ m * s := Nat.mul_le_mul_right s (by omega)
 have hks : (k + 1) * s = k * s + s := by rw [Nat.add_mul, Nat.one_mul]
 rcases hown.2 with ⟨_, h0⟩ | ⟨g, cap, cur, hsl, hb, hg, hnc, hcm, hcs, hxc⟩
 ·omega
 obtain ⟨L, rfl⟩ : ∃ L, p = some L := by
  cases p with
  | none => simp at hsl
  | some L => exact ⟨L, rfl⟩
 have hp0 := hpre L rfl
 simp only [List.getElem?_cons_zero, Option.getD_some, Option.map_some, Value.slice.injEq, Option.some.injEq, Addr.mk.injEq, true_and] at hsl
 have hbg : L.b = g := hsl.1.1
 have hcc : m * s ≤ cap * s := Nat.mul_le_mul_right s hnc
 have hcl' : cur.toList.length = cap * s := by simpa using hcs
 have hmid : (cur.toList.drop (k * s)).take s = us := by
  obtain ⟨us2, e1, e2⟩ := flat_at htot hxs k hj
  rw [hus] at e1; cases e1
  apply List.ext_getElem?
  intro q
  by_cases hq : q < s
  ·rw [List.getElem?_take_of_lt hq, List.getElem?_drop]
   have hqu : q < us.length := by omega
   have := e2 q us[q] (List.getElem?_eq_getElem hqu)
   rw [← hxc, List.getElem?_take_of_lt (by omega)] at this
   rw [this, List.getElem?_eq_getElem hqu]
  ·rw [List.getElem?_eq_none (by rw [List.length_take]; omega), List.getElem?_eq_none (by omega)]
 have hsplit : cur.toList.take (k * s) ++ us ++ cur.toList.drop ((k + 1) * s) = cur.toList := by
  rw [← hmid, hks, ← List.drop_drop, List.append_assoc, List.take_append_drop, List.take_append_drop]
 have hpl : (cur.toList.take (k * s)).length = k * s := by rw [List.length_take]; omega
 let L' : Loc := ⟨g, cur.toList.take (k * s), cur.toList.drop ((k + 1) * s), e⟩
 have hden : ∀ {l : List SV} {vs : List Value} {G : Gr}, denL [] l = some vs → denL G l = some vs := fun {l vs G} h => by simpa using denL_mono G l h
 have hM' : Mem [some (.blk (F k))] [some L'] w := by
  refine ⟨rfl, fun i e' he => ?_, fun i q e1 e2 L1 L2 hne' h1 h2 => ?_⟩
  ·cases i with
   | succ i => cases he
   | zero =>
    cases he
    refine ⟨L', us, rfl, hden hus, ?_⟩
    show Blk w g (cur.toList.take (k * s) ++ us ++ cur.toList.drop ((k + 1) * s)).toArray e
    rw [hsplit]
    exact hg
  ·cases i with
   | succ i => cases h1
   | zero => cases q with
    | zero => exact absurd rfl hne'
    | succ q => cases h2
 have hkeys : keys [some (.row e s m c F)] [some L] = keys [some (.blk (F k))] [some L'] := by
  show [L.b] = [g]
  rw [hbg]
 have hargs : denL [some L'] (.ptr 0 0 :: args) = some vs := by
  obtain ⟨v, ws, e1, e2, rfl⟩ := denL_cons hv
  refine denL_mk ?_ ?_
  ·rw [← e1]
   show some (Value.pointer (some ⟨g, (cur.toList.take (k * s)).length + 0, none⟩)) = some (Value.pointer (some ⟨L.b, L.pre.length + j.toNat * s + 0, none⟩))
   rw [hpl, hbg, hp0, hjk]
   simp
  ·have a1 := denL_take' (G := [some L]) (k := 0) args hin
   have a2 := denL_take' (G := [some L']) (k := 0) args hin
   rw [List.take_zero] at a1 a2
   rw [← a2, a1, e2]
 refine Calls.mono (h.2 [some L'] w vs hM' (hkeys ▸ hI) hargs) ?_
 rintro en w' ⟨y, H', Fr, v, ⟨rfl, rfl⟩, d1, rfl, hM2, hmix, _, _, _⟩
 have hF : Fr = [] := by
  have := hM2.len
  cases Fr with
  | nil => rfl
  | cons _ _ => simp at this
 subst hF
 obtain ⟨L2, vs', q1, q2, q3⟩ := hM2.ent 0 _ rfl
 cases q1
 obtain ⟨vs2, r1, r2⟩ := hcl
 have r3 := hden (G := [some L'] ++ []) r1
 rw [r3] at q2
 cases q2
 have htot' : ∀ k, ∃ vs, denL [] (F' k) = some vs ∧ vs.length = s := fun q => by
  by_cases hq : q = k
  ·subst hq; exact ⟨vs', r1, r2⟩
  ·rw [hne q hq]; exact htot q
 have hxs' := flat_set htot hne r1 r2 hxs hj
 rw [← hkeys] at hmix
 refine ⟨y, _, [], v, ⟨rfl, rfl⟩, ?_, rfl, ⟨rfl, fun i e' he => ?_, fun i q e1 e2 L1 L2 hne' h1 h2 => ?_⟩, hmix, Nat.le_refl _, fun i e' he hm => ?_, fun i e' he hm L1 hL1 => ?_⟩
 ·have a1 := den_take (G := [some L] ++ []) (k := 0) y hxin
  have a2 := den_take (G := [some L'] ++ []) (k := 0) y hxin
  rw [List.take_zero] at a1 a2
  rw [← a1, a2]; exact d1
 ·cases i with
  | succ i => cases he
  | zero =>
   cases he
   refine ⟨htot', fun M hM => by cases hM; exact hp0, _, hxs', ?_, .inr ⟨g, cap, (cur.toList.take (k * s) ++ vs' ++ cur.toList.drop ((k + 1) * s)).toArray, ?_, hb, q3, hnc, hcm, ?_, ?_⟩⟩
   ·simp only [List.length_append, List.length_take, List.length_drop]; omega
   ·simp only [List.append_nil, List.getElem?_cons_zero, Option.getD_some, Option.map_some, Value.slice.injEq, Option.some.injEq, Addr.mk.injEq, true_and]
    exact hsl
   ·simp only [List.size_toArray, List.length_append, List.length_take, List.length_drop]; omega
   ·have e1 : (cur.toList.take (k * s) ++ vs').length = (k + 1) * s := by rw [List.length_append, hpl, r2, hks]
    show (cur.toList.take (k * s) ++ vs' ++ cur.toList.drop ((k + 1) * s)).take (m * s) = _
    rw [List.take_append, List.take_of_length_le (l := cur.toList.take (k * s) ++ vs') (by omega), e1, ← hxc, List.take_take, Nat.min_eq_left (by omega), List.drop_take]
 ·cases i with
  | succ i => cases h1
  | zero => cases q with
   | zero => exact absurd rfl hne'
   | succ q => cases h2
 ·cases i with
  | succ i => cases he
  | zero => cases he; cases hm
 ·cases i with
  | succ i => cases he
  | zero =>
   cases he
   cases hL1
   exact .inl (by show [L.b].contains L.b = true; simp)
section
variable {P : Program} {n : Nat} {ks : List Nat} {G0 : Gr} {w0 : World} {H : Hp} {G : Gr} {w w' : World} {ops : Array Oper} {o : Oper}
end
theorem denL_last {G : Gr} {x y : SV} (h : den G x = den G y) : ∀ {l : List SV}, denL G (l ++ [x]) = denL G (l ++ [y])
 | [] => by
  show denL G [x] = denL G [y]
  unfold denL
  rw [h]
 | z :: l => by
  show denL G (z :: (l ++ [x])) = denL G (z :: (l ++ [y]))
  unfold denL
  rw [denL_last h]
section
variable {P : Program} {n : Nat} {ks : List Nat} {G0 : Gr} {w0 : World} {T : List (Nat × SV)} {H : Hp} {G : Gr} {a : Act} {w w' : World} {Q : Exit → Act → World → Prop} {K : List Fr} {ops : Array Oper} {o : Oper} {rest : List Oper}
theorem Sy.takeRowG (A : Sy n T H ks G0 w0 G a w) (t : Nat) {e s m b cp : Nat} {f : Nat → List SV} {x y : SV} (hg : Given e s m f b cp w) (hn : ∀ (i : Nat) (e : Ent) (L : Loc), H[i]? = some (some e) → G[i]? = some (some L) → ¬ e.empty → L.b ≠ b) (ho : w0.heap.size ≤ b) (ht : look T t = some x) (hy : den (G ++ [some ⟨b, [], List.replicate cp undef, e⟩]) y = den (G ++ [some ⟨b, [], List.replicate cp undef, e⟩]) x) :
  Sy n ((t, y) :: T) (H ++ [some (.row e s m 0 f)]) ks G0 w0 (G ++ [some ⟨b, [], List.replicate cp undef, e⟩]) a w := by
 have hlen := A.mem.len
 obtain ⟨p1, xs, p2, p3⟩ := hg
 have hen : EntOK G w (some ⟨b, [], List.replicate cp undef, e⟩) (.row e s m 0 f) := ⟨p1, fun L hL => by cases hL; rfl, xs, p2, by simpa [rm] using p3⟩
 have hold : ∀ (i : Nat) (x : Ent), (H ++ [some (Ent.row e s m 0 f)])[i]? = some (some x) → (H[i]? = some (some x) ∧ i < H.length) ∨ (i = H.length ∧ x = .row e s m 0 f) := by
  intro i x h
  by_cases hi : i < H.length
  ·rw [List.getElem?_append_left hi] at h; exact .inl ⟨h, hi⟩
  ·rw [List.getElem?_append_right (by omega)] at h
   have : i - H.length = 0 := by
    cases hq : i - H.length with
    | zero => rfl
    | succ k => rw [hq] at h; simp at h
   rw [this] at h
   simp at h
   exact .inr ⟨by omega, h.symm⟩
 have hG : ∀ i, i < H.length → (G ++ [some (⟨b, [], List.replicate cp undef, e⟩ : Loc)])[i]? = G[i]? := fun i hi => List.getElem?_append_left (by omega)
 have hGn : (G ++ [some (⟨b, [], List.replicate cp undef, e⟩ : Loc)])[H.length]? = some (some ⟨b, [], List.replicate cp undef, e⟩) := by rw [List.getElem?_append_right (by omega), hlen]; simp
 refine ⟨A.size, A.defers, fun q x hx => ?_, ⟨by simp [hlen], ?_, ?_⟩, ?_, ?_, A.mix⟩
 ·unfold look at hx
  cases hb : Nat.beq t q with
  | true =>
   rw [hb] at hx; cases hx
   have := Nat.eq_of_beq_eq_true hb
   subst this
   rw [hy]; exact den_mono _ _ (A.get t _ ht)
  | false => rw [hb] at hx; exact den_mono _ x (A.get q x hx)
 ·intro i x h
  rcases hold i x h with ⟨h1, h2⟩ | ⟨rfl, rfl⟩
  ·rw [hG i h2]; exact (A.mem.ent i x h1).more _
  ·rw [hGn]; exact hen.more _
 ·intro i j x y L M hij h1 h2 h3 h4 h5 h6
  rcases hold i x h1 with ⟨k1, k2⟩ | ⟨rfl, rfl⟩
  ·rw [hG i k2] at h4
   rcases hold j y h2 with ⟨k3, k4⟩ | ⟨rfl, rfl⟩
   ·rw [hG j k4] at h5; exact A.mem.sep i j x y L M hij k1 k3 h3 h4 h5 h6
   ·rw [hGn] at h5; cases h5; exact hn i x L k1 h4 (mut_full h3)
  ·rw [hGn] at h4; cases h4
   rcases hold j y h2 with ⟨k3, k4⟩ | ⟨rfl, rfl⟩
   ·rw [hG j k4] at h5; exact fun z => hn j y M k3 h5 h6 z.symm
   ·exact absurd rfl hij
 ·obtain ⟨F, hF⟩ := A.pre; exact ⟨F ++ [some ⟨b, [], List.replicate cp undef, e⟩], by rw [hF, List.append_assoc]⟩
 ·intro i x L h1 h2 h3
  rcases hold i x h1 with ⟨k1, k2⟩ | ⟨rfl, rfl⟩
  ·rw [hG i k2] at h3; exact A.own i x L k1 h2 h3
  ·rw [hGn] at h3; cases h3; exact .inr ho
end
section
variable {P : Program} {Y : Tb} {n : Nat} {ks : List Nat} {G0 : Gr} {w0 : World} {T : List (Nat × SV)} {H : Hp} {ops : Array Oper} {o : Oper}
theorem eff_say {x y : SV} {H' : Hp} (e : ∀ G, den G x = den G y) (h : EffOK P n ops ks G0 w0 T H o x H') : EffOK P n ops ks G0 w0 T H o y H' := fun G a w A =>
 does_mono (h G a w A) fun v w' ⟨F, h1, h2⟩ => ⟨F, by rw [← e]; exact h1, h2⟩
theorem aplE {i e s m c nn cc mm mb mc : Nat} {f g : Nat → List SV} (hY : Y.ok P = true) (m' : Nat) (f' : Nat → List SV) (h : aplS Y n ops T H o = some ((i, e, s, m, c), f, (mm, mb, mc), g, (nn, cc))) (h1 : nn = m) (h2 : cc = c) (hc0 : c = 0) (hmb : mm ≤ mb) (hb : m ≤ 1000000) (hb2 : mm ≤ 1000000) (hm' : m' = m + mm)
  (hf : ∀ k, k < m → f' k = f k) (hn : ∀ k, k < mm → f' (m + k) = g k) (htot : ∀ k, ∃ vs, denL [] (f' k) = some vs ∧ vs.length = s) (hone : ∀ k, k < mm → ∃ E, onesS (g k) = some E ∧ okE E) :
  EffOK P n ops ks G0 w0 T H o (.sl H.length m' 0) (stH H i none ++ [some (.row e s m' 0 f')]) := by
 subst hm'
 intro G a w A
 obtain ⟨d, op, ty, pos, af, gd⟩ := o
 unfold aplS at h
 split at h
 ·next hd =>
  split at h
  ·next hgd =>
   have hw := gd_run (gd := none) A hgd
   split at h
   ·next ca hca =>
    simp only at hca
    subst hca
    obtain ⟨callee, args, ats⟩ := ca
    simp only at h
    split at h
    ·next x y t t' ha ht =>
     split at h
     ·next i' nn' cc' j mm' mc' hx hy htt =>
      split at h
      ·next e' s' m' c1 f1 s2 mb' g' ti hi hj hti =>
       split at h
       ·next e2 s3 b hel =>
        split at h
        ·next hck =>
         cases h
         subst h1; subst h2
         simp only [Bool.and_eq_true] at hck
         obtain ⟨⟨⟨c1, c2⟩, c3⟩, c4⟩ := hck
         have e1 := Nat.eq_of_beq_eq_true c1
         have e2' := Nat.eq_of_beq_eq_true c2
         have e3 := Nat.eq_of_beq_eq_true c3
         have e4 := Nat.eq_of_beq_eq_true htt
         have hby := Nat.le_of_ble_eq_true c4
         subst e1; subst e2'; subst e3; subst e4
         rw [lg_is] at hi
         have hargs : args = #[x, y] := by have := congrArg List.toArray ha; simpa using this
         have hats : ats = #[t, t] := by have := congrArg List.toArray ht; simpa using this
         subst hargs; subst hats
         obtain ⟨r1, r2, xs, r3, r4⟩ := A.mem.ent i _ hi
         obtain ⟨g1, g2⟩ := parts_at A.mem hj
         obtain ⟨ie, z, f1', f2', f3', f4', f5', f6', f7'⟩ := elem_facts (ti_elm (Tb.at hY hti) hel)
         have hvx := A.ev hx
         have hvy := A.ev hy
         obtain ⟨q, hq⟩ : ∃ q, G[i]? = some q := by
          have : i < G.length := by rw [← A.mem.len]; exact (List.getElem?_eq_some_iff.1 hi).1
          exact ⟨G[i], by simp [this]⟩
         rw [hq] at r2 r4
         simp only [Option.getD_some] at r2 r4
         unfold den at hvx hvy
         rw [hq] at hvx
         simp only [Option.some.injEq] at hvx
         have htg : ∀ k, k < mm → ∃ vs, denL [] (g k) = some vs ∧ vs.length = s := fun k hk => by rw [← hn k hk]; exact htot _
         obtain ⟨ys, hys⟩ := flat_ex (f := fun k => f' (nn + k)) (fun k => htot _) mm
         have hyl := flat_len (f := fun k => f' (nn + k)) (fun k => htot _) hys
         have hflat : flatV f' (nn + mm) = some (xs ++ ys) := flat_more mm nn (by rw [flat_congr hf]; exact r3) hys
         have hob : Value.ownBlock (.slice (q.map fun L => ⟨L.b, L.pre.length, none⟩) nn (cc + rm q)) = q.map (·.b) := by cases q <;> rfl
         by_cases h0 : mm = 0
         ·subst h0
          cases hys
          have hsrc : Src P ie.size t (a.eval y) 0 [] w := by
           split at hvy
           ·next p hp =>
            rw [← Option.some.inj hvy]
            cases p with
            | none => exact Src.ofNil w f1' mc
            | some L => exact Src.ofSlice w f1' _ 0 _ [] (by simp) (fun j u hj => by simp at hj) (fun u hu => by cases hu)
           ·cases hvy
          have hnc : nn ≤ cc + rm q := by
           rcases r4.2 with ⟨q1, q2⟩ | ⟨g, cap, cur, q1, _, _, q4, _⟩
           ·omega
           ·cases q <;> simp at q1; omega
          have hr := run_append_nothing (P := P) w t t ty e ie f1' f2' (q.map fun L => ⟨L.b, L.pre.length, none⟩) nn (cc + rm q) hnc _ hsrc
          refine does_val (v := .slice (q.map fun L => ⟨L.b, L.pre.length, none⟩) nn (cc + rm q)) (w' := w) hw ?_ ?_
          ·unfold execOp
           simp only [resolve, invoke, builtin, Sem.run_bind, Sem.run_pure, Result.andThen_ok, List.map_toArray, List.map_cons, List.map_nil, ← hvx, hr]
          ·have A2 := A.rowMove (w' := w) (p' := q) (m' := nn + 0) (c' := cc) (xs' := xs ++ []) hi ⟨rfl, rfl, rfl, Nat.le_refl _, fun _ _ _ => rfl⟩ (by simpa using r4) r2 (.inl (by rw [hq]; rfl)) hflat htot
           subst hc0
           refine ⟨_, ?_, A2.ms⟩
           unfold den
           rw [List.getElem?_append_right (by rw [A.mem.len]; exact Nat.le_refl _), A.mem.len]
           simp
         ·obtain ⟨L, vs0, b1, _⟩ := g2 0 (by omega)
          rw [get_loc b1] at hvy
          simp only [Option.map_some, Option.some.injEq] at hvy
          have hmul : (nn + mm) * b ≤ 2000000 * 10000 := Nat.mul_le_mul (by omega) hby
          obtain ⟨v', w', hr, k1, k2, _, k4⟩ := run_append_own_at (P := P) w 0 t ty e ie z s b f1' f2' f3' f4' f5' f6' f7' _ nn xs r4 ⟨L.b, L.pre.length, none⟩ mm (mc + rm (some L)) ys hyl
           (fun j u hj => by
            obtain ⟨k, r, us, d1, d2, d3, d4⟩ := flat_inv (f := fun k => f' (nn + k)) (fun k => htot _) hys j u hj
            obtain ⟨L', us', b1', b2', b3'⟩ := g2 k (by omega)
            rw [b1] at b1'; cases b1'
            rw [hn k d1, b2'] at d2
            cases d2
            have := b3' r u d3
            rw [Addr.add_mid, d4, ← Nat.add_assoc]
            exact this)
           (fun u hu => by
            obtain ⟨j, hj⟩ := List.mem_iff_getElem?.1 hu
            obtain ⟨k, r, us, d1, d2, d3, d4⟩ := flat_inv (f := fun k => f' (nn + k)) (fun k => htot _) hys j u hj
            rw [hn k d1] at d2
            obtain ⟨E, o1, o2⟩ := hone k d1
            exact List.all_eq_true.1 (onesS_spec o1 o2 d2) u (List.mem_of_getElem? d3))
           (by simp only [maxLen]; omega) (by omega) (Nat.zero_le _)
          obtain ⟨p', o1, o2, o3⟩ := own_split k1
          rw [hob] at k2 k4
          rw [o3] at k4
          rw [o1] at k1
          refine does_val (v := v') (w' := w') hw ?_ ?_
          ·unfold execOp
           simp only [resolve, invoke, builtin, Sem.run_bind, Sem.run_pure, Result.andThen_ok, List.map_toArray, List.map_cons, List.map_nil, ← hvx, ← hvy, hr]
          ·have A2 := A.rowMove (p' := p') hi (by rw [hq]; exact k2) k1 o2 (by rw [hq]; exact k4) hflat htot
           refine ⟨_, ?_, A2.ms⟩
           unfold den
           rw [List.getElem?_append_right (by rw [A.mem.len]; exact Nat.le_refl _), A.mem.len]
           simp [o1]
        ·cases h
       ·cases h
      ·cases h
     ·cases h
    ·cases h
   ·cases h
  ·cases h
 ·cases h
end
end Go.Proofs.YtjkppaijicjpoaaGreatDoor
namespace Go.Proofs.YtjkppaijicjpoaaGreatDoor
open Go.RowKit
set_option linter.unusedVariables false
set_option linter.unusedSimpArgs false
section
variable {n : Nat} {T : List (Nat × SV)} {H : Hp} {ks : List Nat} {G0 : Gr} {w0 : World} {G : Gr} {a : Act} {w : World}
end
section
variable {n : Nat} {T : List (Nat × SV)} {H : Hp} {ks : List Nat} {G0 : Gr} {w0 : World} {G : Gr} {a : Act} {w : World}
theorem denL_at {G : Gr} {x y : SV} (h : den G x = den G y) : ∀ (l r : List SV), denL G (l ++ x :: r) = denL G (l ++ y :: r)
 | [], r => by
  show denL G (x :: r) = denL G (y :: r)
  unfold denL; rw [h]
 | z :: l, r => by
  show denL G (z :: (l ++ x :: r)) = denL G (z :: (l ++ y :: r))
  unfold denL; rw [denL_at h l r]
end
end Go.Proofs.YtjkppaijicjpoaaGreatDoor
namespace Go.Proofs.YtjkppaijicjpoaaGreatDoor.Mc
open Go.RowKit
set_option linter.unusedVariables false
set_option linter.unusedSimpArgs false
set_option maxRecDepth 100000
set_option maxHeartbeats 2000000
set_option simprocs false
abbrev rQ9 (x : SV) (a : Int) (r : Nat → Int) : List SV := [x, .int .i64 a, .int .i64 (r 0), .int .i64 (r 1), .int .i64 (r 2), .int .i64 (r 3), .int .i64 (r 4), .int .i64 (r 5), .int .i64 (r 6), .int .i64 (r 7)]
theorem okM {a b : Bool} {o1 : Int} {c : Bool} (h : (!(((a && (decide (o1 ≥ 0))) && b) && c)) = false) : 0 ≤ o1 := by
 simp at h; exact h.1.1.2
theorem blow_ (s1 : Int) (hs : s1 = 1 ∨ s1 = 2 ∨ s1 = 4 ∨ s1 = 8) : Fn Tryz.prog 91 [.int .i64 s1] [] (Rt (.int .i64 (IntKind.wrap .i64 ((IntKind.wrap .i64 (1 * 2 ^ min ((IntKind.wrap .i64 (8 * s1))).toNat (IntKind.bits .i64))) - 1))) []) :=
 enterM (n := 7) (by kernel_rfl) Tryz.func91 rfl rfl rfl fun G w a h0 A => M hX 15 A rfl (ok_d (by first | omega | (rcases hs with rfl | rfl | rfl | rfl <;> decide)) <| okE_nil) fun A => R9 A rfl h0 rfl rfl rfl
def bplace0 (o1 x1 s1 : Int) : Int := if (!((((s1 == 1) || (s1 == 2)) || (s1 == 4)) || (s1 == 8))) = true then (-1) else IntKind.wrap .i64 ((((BitVec.ofInt (IntKind.bits .i64) (IntKind.wrap .i64 ((((BitVec.ofInt (IntKind.bits .i64) (IntKind.wrap .i64 (o1 + x1))) &&& (BitVec.ofInt (IntKind.bits .i64) 7)).toNat : Nat) : Int))) &&& ~~~ (BitVec.ofInt (IntKind.bits .i64) (IntKind.wrap .i64 (s1 - 1)))).toNat : Nat) : Int)
theorem bplace_ (o1 x1 s1 : Int)  : Fn Tryz.prog 68 [.int .i64 o1, .int .i64 x1, .int .i64 s1] [] (Rt (.int .i64 (bplace0 o1 x1 s1)) []) :=
 enterM (n := 19) (by kernel_rfl) Tryz.func68 rfl rfl rfl fun G w a h0 A => M hX 9 A rfl rfl fun A => C9 [] (isSize_ s1) A rfl fun A => M hX 3 A rfl rfl fun A => fork 10 A rfl
  (fun h1 A => M hX 7 A rfl rfl fun A => R9 A rfl h0 rfl (by simp only [oneS, nb, nbL, nbH, bplace0, if_pos h1]) rfl)
  (fun h1 A => M hX 22 A rfl rfl fun A => R9 A rfl h0 rfl (by simp only [oneS, nb, nbL, nbH, bplace0, if_neg (ne_true_of_eq_false h1)]) rfl)
def bmask0 (o1 s1 : Int) : Int := if (!(((((((s1 == 1) || (s1 == 2)) || (s1 == 4)) || (s1 == 8)) && (decide (o1 ≥ 0))) && (decide (o1 ≤ (IntKind.wrap .i64 (8 - s1))))) && ((Int.tmod o1 s1) == 0))) = true then 0 else IntKind.wrap .i64 ((IntKind.wrap .i64 ((IntKind.wrap .i64 (1 * 2 ^ min (s1).toNat (IntKind.bits .i64))) - 1)) * 2 ^ min (o1).toNat (IntKind.bits .i64))
theorem bmask_ (o1 s1 : Int) (hs : s1 = 1 ∨ s1 = 2 ∨ s1 = 4 ∨ s1 = 8) : Fn Tryz.prog 69 [.int .i64 o1, .int .i64 s1] [] (Rt (.int .i64 (bmask0 o1 s1)) []) :=
 enterM (n := 14) (by kernel_rfl) Tryz.func69 rfl rfl rfl fun G w a h0 A => M hX 10 A rfl rfl fun A => C9 [] (bfits_ o1 s1) A rfl fun A => M hX 3 A rfl rfl fun A => fork 8 A rfl
  (fun h1 A => M hX 7 A rfl rfl fun A => R9 A rfl h0 rfl (by simp only [oneS, nb, nbL, nbH, bmask0, if_pos h1]) rfl)
  (fun h1 A => M hX 14 A rfl (ok_d (by have := okM h1; omega) <| ok_d (by have := okM h1; omega) <| okE_nil) fun A => R9 A rfl h0 rfl (by simp only [oneS, nb, nbL, nbH, bmask0, if_neg (ne_true_of_eq_false h1)]) rfl)
def bget0 (v1 s1 : Int) : Int := if (!(((((((s1 == 1) || (s1 == 2)) || (s1 == 4)) || (s1 == 8)) && (decide ((0 : Int) ≥ 0))) && (decide (0 ≤ (IntKind.wrap .i64 (8 - s1))))) && ((Int.tmod 0 s1) == 0))) = true then 0 else IntKind.wrap .i64 ((((BitVec.ofInt (IntKind.bits .i64) (Int.fdiv v1 (2 ^ min ((IntKind.wrap .i64 (8 * 0))).toNat (IntKind.bits .i64)))) &&& (BitVec.ofInt (IntKind.bits .i64) (IntKind.wrap .i64 ((IntKind.wrap .i64 (1 * 2 ^ min ((IntKind.wrap .i64 (8 * s1))).toNat (IntKind.bits .i64))) - 1)))).toNat : Nat) : Int)
theorem bget_ (v1 s1 : Int) (hs : s1 = 1 ∨ s1 = 2 ∨ s1 = 4 ∨ s1 = 8) : Fn Tryz.prog 60 [.int .i64 v1, .z9, .int .i64 s1] [] (Rt (.int .i64 (bget0 v1 s1)) []) :=
 enterM (n := 18) (by kernel_rfl) Tryz.func60 rfl rfl rfl fun G w a h0 A => M hX 10 A rfl rfl fun A => C9 [] (bfits_ 0 s1) A rfl fun A => M hX 3 A rfl rfl fun A => fork 10 A rfl
  (fun h1 A => M hX 7 A rfl rfl fun A => R9 A rfl h0 rfl (by simp only [oneS, nb, nbL, nbH, bget0, if_pos h1]) rfl)
  (fun h1 A => M hX 4 A rfl rfl fun A => DRAW hX hmo [(5, .int .i64 (IntKind.wrap .i64 ((IntKind.wrap .i64 (1 * 2 ^ min ((IntKind.wrap .i64 (8 * s1))).toNat (IntKind.bits .i64))) - 1)))] [] A rfl (ok_d (by first | decide | omega) <| okE_nil) rfl rfl (by kernel_rfl) (effAll_nil _ _) ⟨.inl ⟨_, _, rfl, rfl, blow_ s1 hs⟩, trivial⟩ fun A => M hX 2 A rfl rfl fun A => R9 A rfl h0 rfl (by simp only [oneS, nb, nbL, nbH, bget0, if_neg (ne_true_of_eq_false h1)]) rfl)
def balu0 (fn a1 b1 : Int) : Int := if fn = 1 then IntKind.wrap .i64 (a1 + b1) else if fn = 2 then IntKind.wrap .i64 (a1 - b1) else if fn = 3 then IntKind.wrap .i64 ((((BitVec.ofInt (IntKind.bits .i64) a1) ^^^ (BitVec.ofInt (IntKind.bits .i64) b1)).toNat : Nat) : Int) else if fn = 4 then IntKind.wrap .i64 ((((BitVec.ofInt (IntKind.bits .i64) a1) &&& (BitVec.ofInt (IntKind.bits .i64) b1)).toNat : Nat) : Int) else if fn = 5 then IntKind.wrap .i64 ((((BitVec.ofInt (IntKind.bits .i64) a1) ||| (BitVec.ofInt (IntKind.bits .i64) b1)).toNat : Nat) : Int) else 0
theorem balu_ (fn a1 b1 : Int)  : Fn Tryz.prog 61 [.int .i64 fn, .int .i64 a1, .int .i64 b1] [] (Rt (.int .i64 (balu0 fn a1 b1)) []) :=
 enterM (n := 33) (by kernel_rfl) Tryz.func61 rfl rfl rfl fun G w a h0 A => M hX 18 A rfl rfl fun A => forkE 8 A rfl
  (fun h1 A => M hX 10 A rfl rfl fun A => R9 A rfl h0 rfl (by simp only [oneS, nb, nbL, nbH, balu0, if_pos h1]) rfl)
  (fun h1 A => M hX 7 A rfl rfl fun A => forkE 13 A rfl
   (fun h2 A => M hX 10 A rfl rfl fun A => R9 A rfl h0 rfl (by simp only [oneS, nb, nbL, nbH, balu0, if_neg (h1), if_pos h2]) rfl)
   (fun h2 A => M hX 7 A rfl rfl fun A => forkE 18 A rfl
    (fun h3 A => M hX 10 A rfl rfl fun A => R9 A rfl h0 rfl (by simp only [oneS, nb, nbL, nbH, balu0, if_neg (h1), if_neg (h2), if_pos h3]) rfl)
    (fun h3 A => M hX 7 A rfl rfl fun A => forkE 23 A rfl
     (fun h4 A => M hX 10 A rfl rfl fun A => R9 A rfl h0 rfl (by simp only [oneS, nb, nbL, nbH, balu0, if_neg (h1), if_neg (h2), if_neg (h3), if_pos h4]) rfl)
     (fun h4 A => M hX 7 A rfl rfl fun A => forkE 28 A rfl
      (fun h5 A => M hX 10 A rfl rfl fun A => R9 A rfl h0 rfl (by simp only [oneS, nb, nbL, nbH, balu0, if_neg (h1), if_neg (h2), if_neg (h3), if_neg (h4), if_pos h5]) rfl)
      (fun h5 A => M hX 10 A rfl rfl fun A => R9 A rfl h0 rfl (by simp only [oneS, nb, nbL, nbH, balu0, if_neg (h1), if_neg (h2), if_neg (h3), if_neg (h4), if_neg (h5)]) rfl)))))
abbrev CdAt (ao : Option Addr) (l : List In) : Amb := LstAt ao 17 l.length (fun zz => insS (l.getD zz In.z))
def rgO (r : Rg) (g o1 : Int) : Int := if g = -1 then o1 else r g.toNat
theorem regOr_ (l : List In) (ao : Option Addr) (cp : Nat) (at_ : Int) (r : Rg) (g o1 : Int) (hg : -1 ≤ g ∧ g < 8) : Fn Tryz.prog 67 [.ptr 0 0, .int .i64 g, .int .i64 o1] [some (.blk (rQ9 (.sla ao l.length cp) at_ r))] (Rt (.int .i64 (rgO r g o1)) [some (.blk (rQ9 (.sla ao l.length cp) at_ r))]) :=
 enterM (n := 16) (by kernel_rfl) Tryz.func67 rfl rfl rfl fun G w a h0 A => N9 12 A rfl rfl fun A => forkE 8 A rfl
  (fun h1 A => N9 8 A rfl rfl fun A => R9 A rfl h0 rfl (by unfold rgO; rw [if_pos h1] <;> rfl) rfl)
  (fun h1 A => N9 10 A rfl (ok_d (by omega) <| okE_nil) fun A => q_eff A rfl (ldnE (r := r) hX rfl rfl rfl rfl rfl rfl rfl (by omega)) fun A => N9 4 A rfl rfl fun A => R9 A rfl h0 rfl (by unfold rgO; rw [if_neg h1] <;> rfl) rfl)
theorem ready_ (l : List In) (ao : Option Addr) (cp : Nat) (at_ : Int) (r : Rg) (hat : 0 ≤ at_ ∧ at_ ≤ ((l.length : Nat) : Int)) : FnI (CdAt ao l) Tryz.prog 43 [.ptr 0 0] [some (.blk (rQ9 (.sla ao l.length cp) at_ r))] (Rt (.tup [.agg (inQ9 (l.getD (at_).toNat In.z)), .bool (!(at_ == ((l.length : Nat) : Int)))]) [some (.blk (rQ9 (.sla ao l.length cp) at_ r))]) :=
 enterI (n := 25) (by kernel_rfl) Tryz.func43 rfl rfl rfl fun G w a h0 hI A => N9 8 A rfl rfl fun A => DRAWN hX hmo [] [] A rfl rfl rfl rfl (by kernel_rfl) (effAll_nil _ _) trivial fun A => N9 1 A rfl rfl fun A => forkE 13 A rfl
  (fun h1 A => N9 9 A rfl rfl fun A => R9 A rfl h0 rfl (by rw [h1, Int.toNat_natCast, List.getD_eq_getElem?_getD, List.getElem?_eq_none (Nat.le_refl _), beq_self_eq_true]; rfl) rfl)
  (fun h1 A => N9 4 A rfl rfl fun A => ANY hmo [.ptr 0 0, .ptr 0 0, .ptr 0 0, .sla ao l.length cp, .ptr 0 0, .ptr 0 0, .ptr 0 1, .int .i64 at_, .v (.pointer (adJ ao 17 at_)), .agg (inQ9 (l.getD (at_).toNat In.z)), .tup [], .tt] [10] [] 0 [([], [], [some (.blk (rQ9 (.sla ao l.length cp) at_ r)), some (.blk [.z9, .z9, .z9, .z9, .z9, .z9, .z9, .z9, .z9, .z9, .ff, .ff, .ff, .z9, .z9, .z9, .ff])]), ([10], [], [some (.blk (rQ9 (.sla ao l.length cp) at_ r)), some (.blk (inQ9 (l.getD (at_).toNat In.z)))])] [[true, true, true, true, true, true, true, true, true, true, true, false], [false, false, false, false, false, false, false, false, false, false, false, true]] A rfl rfl rfl rfl (by kernel_rfl) rfl (by kernel_rfl) ⟨⟨oV9 0 rfl rfl, ⟨oV9 0 rfl rfl, ⟨oV9 0 rfl rfl, ⟨oV9 0 rfl rfl, ⟨oV9 0 rfl rfl, ⟨oV9 0 rfl rfl, ⟨oV9 0 rfl rfl, ⟨oV9 0 rfl rfl, ⟨oE9 0 rfl (ixcE (e := 56) rfl rfl rfl rfl hI (by kernel_rfl) (by omega)), ⟨oE9 0 rfl (ldcE (insS (l.getD (at_).toNat In.z)) hX rfl rfl rfl hI (by omega) rfl rfl), ⟨oE9 1 rfl (eff_auto (X := ⟨_, true⟩) (out := .upd 1 (inQ9 (l.getD (at_).toNat In.z)) _) hX rfl rfl), trivial⟩⟩⟩⟩⟩⟩⟩⟩⟩⟩⟩, ⟨⟨oV9 1 rfl rfl, trivial⟩, trivial⟩⟩ fun A => N9 2 A rfl rfl fun A => R9 A rfl h0 rfl (by rw [beq_eq_false_iff_ne.2 h1]; rfl) rfl)
end Go.Proofs.YtjkppaijicjpoaaGreatDoor.Mc
namespace Go.Proofs.YtjkppaijicjpoaaGreatDoor.Mc
open Go.RowKit
set_option linter.unusedVariables false
set_option linter.unusedSimpArgs false
set_option maxRecDepth 100000
def sndI (i : In) : Bool := sound0 i.op i.dst i.ra i.rb i.imm i.loc i.off i.ix i.sz i.fn i.acq i.weak i.rel i.pred i.succ i.to_ i.zero
def accI (i : In) : Bool := isAccess0 i.op i.dst i.ra i.rb i.imm i.loc i.off i.ix i.sz i.fn i.acq i.weak i.rel i.pred i.succ i.to_ i.zero
theorem right_sound {i : In} {a n : Int} (h : R17 i a n = 0) : sndI i = true ∧ (i.op = 9 → a < i.to_ ∧ i.to_ ≤ n) := by
 unfold R17 Right0 at h
 split at h
 ·omega
 ·next h1 =>
  split at h
  ·omega
  ·next h2 =>
   refine ⟨?_, fun h9 => ?_⟩
   ·cases hs : sndI i with
    | true => rfl
    | false => unfold sndI at hs; rw [hs] at h1; simp at h1
   ·rw [h9] at h2
    simp at h2
    omega
structure Snd (i : In) : Prop where
 op : 1 ≤ i.op ∧ i.op ≤ 9
 d : (i.op = 1 ∨ i.op = 2 ∨ i.op = 3 ∨ i.op = 4 ∨ i.op = 6) → 0 ≤ i.dst ∧ i.dst < 8
 a : (i.op = 2 ∨ i.op = 3 ∨ i.op = 6 ∨ i.op = 9) → 0 ≤ i.ra ∧ i.ra < 8
 a5 : i.op = 5 → -1 ≤ i.ra ∧ i.ra < 8
 b : i.op = 3 → -1 ≤ i.rb ∧ i.rb < 8
 x : (i.op = 4 ∨ i.op = 5 ∨ i.op = 6) → -1 ≤ i.ix ∧ i.ix < 8
theorem rn_of {r : Int} (h : isRegOrNone0 r = true) : -1 ≤ r ∧ r < 8 := by
 unfold isRegOrNone0 at h
 split at h
 ·omega
 ·simp at h; omega
theorem acc_of {i : In} (h : accI i = true) : -1 ≤ i.ix ∧ i.ix < 8 := by
 unfold accI isAccess0 at h
 split at h
 ·split at h
  ·split at h
   ·next h1 => exact rn_of h1
   ·cases h
  ·cases h
 ·cases h
theorem snd_of {i : In} (h : sndI i = true) : Snd i := by
 unfold sndI sound0 at h
 by_cases h1 : i.op = 1
 ·rw [if_pos h1] at h; simp at h
  exact ⟨by omega, fun _ => by omega, fun h => by omega, fun h => by omega, fun h => by omega, fun h => by omega⟩
 rw [if_neg h1] at h
 by_cases h2 : i.op = 2
 ·rw [if_pos h2] at h
  split at h
  ·next q => simp at h q; exact ⟨by omega, fun _ => by omega, fun _ => by omega, fun h => by omega, fun h => by omega, fun h => by omega⟩
  ·cases h
 rw [if_neg h2] at h
 by_cases h3 : i.op = 3
 ·rw [if_pos h3] at h
  split at h
  ·next q =>
   split at h
   ·next q2 => simp at h q q2; have := rn_of h.1.1; exact ⟨by omega, fun _ => by omega, fun _ => by omega, fun h => by omega, fun _ => by omega, fun h => by omega⟩
   ·cases h
  ·cases h
 rw [if_neg h3] at h
 by_cases h4 : i.op = 4
 ·rw [if_pos h4] at h
  split at h
  ·next q => rw [Bool.and_eq_true] at h; simp at q; have := acc_of h.1; exact ⟨by omega, fun _ => by omega, fun h => by omega, fun h => by omega, fun h => by omega, fun _ => by omega⟩
  ·cases h
 rw [if_neg h4] at h
 by_cases h5 : i.op = 5
 ·rw [if_pos h5] at h
  split at h
  ·next q => have := rn_of q; have := acc_of h; exact ⟨by omega, fun h => by omega, fun h => by omega, fun _ => by omega, fun h => by omega, fun _ => by omega⟩
  ·cases h
 rw [if_neg h5] at h
 by_cases h6 : i.op = 6
 ·rw [if_pos h6] at h
  split at h
  ·next q =>
   split at h
   ·next q2 => rw [Bool.and_eq_true] at h; simp at q q2; have := acc_of h.1; exact ⟨by omega, fun _ => by omega, fun _ => by omega, fun h => by omega, fun h => by omega, fun _ => by omega⟩
   ·cases h
  ·cases h
 rw [if_neg h6] at h
 by_cases h7 : i.op = 7
 ·exact ⟨by omega, fun h => by omega, fun h => by omega, fun h => by omega, fun h => by omega, fun h => by omega⟩
 rw [if_neg h7] at h
 by_cases h8 : i.op = 8
 ·exact ⟨by omega, fun h => by omega, fun h => by omega, fun h => by omega, fun h => by omega, fun h => by omega⟩
 rw [if_neg h8] at h
 by_cases h9 : i.op = 9
 ·rw [if_pos h9] at h; simp at h
  exact ⟨by omega, fun h => by omega, fun _ => by omega, fun h => by omega, fun h => by omega, fun h => by omega⟩
 rw [if_neg h9] at h
 cases h
theorem sz_of {i : In} (h : accI i = true) : i.sz = 1 ∨ i.sz = 2 ∨ i.sz = 4 ∨ i.sz = 8 := by
 unfold accI isAccess0 at h
 split at h
 ·split at h
  ·split at h
   ·unfold bMask0 at h
    split at h
    ·cases h
    ·next h1 =>
     rw [Bool.not_eq_true, Bool.not_eq_false', Bool.and_eq_true, Bool.and_eq_true, Bool.and_eq_true, Bool.or_eq_true, Bool.or_eq_true, Bool.or_eq_true] at h1
     simp only [beq_iff_eq] at h1
     rcases h1.1.1.1 with ((h | h) | h) | h
     ·exact .inl h
     ·exact .inr (.inl h)
     ·exact .inr (.inr (.inl h))
     ·exact .inr (.inr (.inr h))
   ·cases h
  ·cases h
 ·cases h
theorem szs_of {i : In} (h : sndI i = true) (ho : i.op = 4 ∨ i.op = 5 ∨ i.op = 6) : i.sz = 1 ∨ i.sz = 2 ∨ i.sz = 4 ∨ i.sz = 8 := by
 unfold sndI sound0 at h
 rw [if_neg (by omega), if_neg (by omega), if_neg (by omega)] at h
 rcases ho with ho | ho | ho
 ·rw [if_pos ho] at h
  split at h
  ·rw [Bool.and_eq_true] at h; exact sz_of h.1
  ·cases h
 ·rw [if_neg (by omega), if_pos ho] at h
  split at h
  ·exact sz_of h
  ·cases h
 ·rw [if_neg (by omega), if_neg (by omega), if_pos ho] at h
  split at h
  ·split at h
   ·rw [Bool.and_eq_true] at h; exact sz_of h.1
   ·cases h
  ·cases h
structure RCd (l : List In) : Prop where
 n : l.length ≤ 8
 r : ∀ k, k < l.length → R17 (l.getD k In.z) (k : Int) ((l.length : Nat) : Int) = 0
theorem RCd.snd {l : List In} (h : RCd l) {k : Nat} (hk : k < l.length) : Snd (l.getD k In.z) := snd_of (right_sound (h.r k hk)).1
theorem RCd.brs {l : List In} (h : RCd l) {k : Nat} (hk : k < l.length) (h9 : (l.getD k In.z).op = 9) : (k : Int) < (l.getD k In.z).to_ ∧ (l.getD k In.z).to_ ≤ ((l.length : Nat) : Int) := (right_sound (h.r k hk)).2 h9
theorem RCd.szs {l : List In} (h : RCd l) {k : Nat} (hk : k < l.length) (ho : (l.getD k In.z).op = 4 ∨ (l.getD k In.z).op = 5 ∨ (l.getD k In.z).op = 6) : (l.getD k In.z).sz = 1 ∨ (l.getD k In.z).sz = 2 ∨ (l.getD k In.z).sz = 4 ∨ (l.getD k In.z).sz = 8 := szs_of (right_sound (h.r k hk)).1 ho
theorem rcd_of {cs : List Cde} (h : ckE cs = 0) : (1 ≤ cs.length ∧ cs.length ≤ 3) ∧ ∀ c ∈ cs, RCd c.l := by
 unfold ckE at h
 split at h
 ·omega
 ·next h0 =>
  simp at h0
  refine ⟨by omega, ?_⟩
  cases h1 : bad1 cs with
  | some k => rw [h1] at h; simp at h
  | none =>
   rw [h1] at h
   have hb1 := bad1_le h1
   cases h2 : bad2 cs with
   | some k =>
    rw [h2] at h
    exfalso
    unfold bad2 at h2
    have h3 := List.find?_some h2
    cases h4 : badC (cs.getD k Cde.z) with
    | none => rw [h4] at h3; cases h3
    | some q =>
     simp only [h4, Option.getD_some] at h
     unfold badC at h4
     have h5 := List.find?_some h4
     rw [h] at h5
     cases h5
   | none =>
    intro c hc
    refine ⟨hb1 c hc, fun k hk => ?_⟩
    obtain ⟨j, hj⟩ := List.getElem?_of_mem hc
    have hl := (List.getElem?_eq_some_iff.1 hj).1
    unfold bad2 at h2
    rw [List.find?_eq_none] at h2
    have h3 := h2 j (List.mem_range.2 hl)
    rw [List.getD_eq_getElem?_getD, hj] at h3
    simp only [Option.getD_some] at h3
    cases h4 : badC c with
    | some q => rw [h4] at h3; exact absurd rfl h3
    | none =>
     unfold badC at h4
     rw [List.find?_eq_none] at h4
     have h5 := h4 k (List.mem_range.2 hk)
     simpa using h5
def cpA (at_ : Int) (r : Rg) (i : In) : Int := if i.op = 9 then (if (r i.ra.toNat == 0) = i.zero then i.to_ else at_ + 1) else at_ + 1
def cpR (r : Rg) (i : In) : Rg := if i.op = 1 then updR r i.dst.toNat i.imm else if i.op = 2 then updR r i.dst.toNat (r i.ra.toNat) else if i.op = 3 then updR r i.dst.toNat (balu0 i.fn (r i.ra.toNat) (rgO r i.rb i.imm)) else r
def stpI (i : In) : Bool := (i.op == 4) || (i.op == 5) || (i.op == 6) || (i.op == 7) || (i.op == 8)
structure Th where (at_ : Nat) (r : Rg)
def setF (l : List In) : Nat → Th → Th
 | 0, s => s
 | f + 1, s => if s.at_ < l.length ∧ stpI (l.getD s.at_ In.z) = false then setF l f ⟨(cpA (s.at_ : Int) s.r (l.getD s.at_ In.z)).toNat, cpR s.r (l.getD s.at_ In.z)⟩ else s
def setl (l : List In) (s : Th) : Th := setF l l.length s
def nxT (l : List In) (z : Th) : Th := ⟨(cpA ((z.at_ : Nat) : Int) z.r (l.getD ((z.at_ : Nat) : Int).toNat In.z)).toNat, cpR z.r (l.getD ((z.at_ : Nat) : Int).toNat In.z)⟩
theorem cpA_rng {l : List In} {z : Th} (hc : RCd l) (h1 : z.at_ < l.length) : (z.at_ : Int) < cpA ((z.at_ : Nat) : Int) z.r (l.getD z.at_ In.z) ∧ cpA ((z.at_ : Nat) : Int) z.r (l.getD z.at_ In.z) ≤ ((l.length : Nat) : Int) := by
 unfold cpA
 split
 ·next h9 =>
  have := hc.brs h1 h9
  split <;> omega
 ·omega
structure SI (l : List In) (s z : Th) : Prop where
 le : z.at_ ≤ l.length
 eq : ∃ f, l.length - z.at_ ≤ f ∧ setF l f z = setl l s
theorem SI.i0 {l : List In} {s : Th} (h : s.at_ ≤ l.length) : SI l s s := ⟨h, l.length, Nat.sub_le _ _, rfl⟩
theorem SI.nx {l : List In} {s z : Th} (h : SI l s z) (hc : RCd l) (h1 : ((z.at_ : Nat) : Int) ≠ ((l.length : Nat) : Int)) (h2 : (!(stpI (l.getD ((z.at_ : Nat) : Int).toNat In.z))) = true) : SI l s (nxT l z) ∧ l.length - (nxT l z).at_ < l.length - z.at_ := by
 have hlt : z.at_ < l.length := by have := h.le; omega
 have hr := cpA_rng (z := z) hc hlt
 have e : (nxT l z).at_ = (cpA ((z.at_ : Nat) : Int) z.r (l.getD z.at_ In.z)).toNat := rfl
 have hb : z.at_ < (nxT l z).at_ ∧ (nxT l z).at_ ≤ l.length := by rw [e]; omega
 have hst : stpI (l.getD z.at_ In.z) = false := by
  have : stpI (l.getD ((z.at_ : Nat) : Int).toNat In.z) = false := by simpa using h2
  exact this
 obtain ⟨f, hf, he⟩ := h.eq
 refine ⟨⟨hb.2, ?_⟩, by omega⟩
 cases f with
 | zero => omega
 | succ f =>
  refine ⟨f, by omega, ?_⟩
  rw [← he]
  show _ = setF l (f + 1) z
  rw [setF, if_pos ⟨hlt, hst⟩]
  rfl
theorem setF_stop {l : List In} {z : Th} (h : ¬ (z.at_ < l.length ∧ stpI (l.getD z.at_ In.z) = false)) : ∀ f, setF l f z = z
 | 0 => rfl
 | f + 1 => by rw [setF, if_neg h]
theorem SI.fin {l : List In} {s z : Th} (h : SI l s z) (hn : ¬ (z.at_ < l.length ∧ stpI (l.getD z.at_ In.z) = false)) : setl l s = z := by
 obtain ⟨f, _, he⟩ := h.eq
 rw [← he, setF_stop hn]
theorem SI.f1 {l : List In} {s z : Th} (h : SI l s z) (h1 : ((z.at_ : Nat) : Int) = ((l.length : Nat) : Int)) : setl l s = z := h.fin (by omega)
theorem SI.f2 {l : List In} {s z : Th} (h : SI l s z) (h2 : (!(stpI (l.getD ((z.at_ : Nat) : Int).toNat In.z))) = false) : setl l s = z := h.fin (fun q => by
 have e : stpI (l.getD ((z.at_ : Nat) : Int).toNat In.z) = false := q.2
 rw [e] at h2; cases h2)
theorem setF_le {l : List In} (hc : RCd l) : ∀ f s, s.at_ ≤ l.length → (setF l f s).at_ ≤ l.length
 | 0, s, h => h
 | f + 1, s, h => by
  rw [setF]
  split
  ·next q =>
   have hr := cpA_rng (z := s) hc q.1
   exact setF_le hc f _ (by show (cpA _ _ _).toNat ≤ _; omega)
  ·exact h
theorem setl_le {l : List In} (hc : RCd l) {s : Th} (h : s.at_ ≤ l.length) : (setl l s).at_ ≤ l.length := setF_le hc _ s h
def paR (r : Rg) (i : In) (old : Int) : Rg := if ((i.op == 4) || (i.op == 6)) = true then updR r i.dst.toNat (bget0 old i.sz) else r
def paT (l : List In) (s : Th) (old : Int) : Th := if s.at_ = l.length then s else setl l ⟨s.at_ + 1, paR s.r (l.getD s.at_ In.z) old⟩
theorem paT_le {l : List In} (hc : RCd l) {s : Th} (h : s.at_ ≤ l.length) (old : Int) : (paT l s old).at_ ≤ l.length := by
 unfold paT
 split
 ·exact h
 ·exact setl_le hc (by show s.at_ + 1 ≤ _; omega)
def mopI (i : In) : Bool := (i.op == 4) || (i.op == 5) || (i.op == 6)
def spL (i : In) : Int := if mopI i = true then i.loc else 0
def spM (r : Rg) (i : In) : Int := if mopI i = true then bmask0 (bplace0 i.off (rgO r i.ix 0) i.sz) i.sz else 0
def spD (r : Rg) (i : In) : Int := if mopI i = true then (if i.op = 5 then bget0 (rgO r i.ra i.imm) i.sz else if i.op = 6 then r i.ra.toNat else 0) else 0
end Go.Proofs.YtjkppaijicjpoaaGreatDoor.Mc
namespace Go.Proofs.YtjkppaijicjpoaaGreatDoor.Mc
open Go.RowKit
set_option linter.unusedVariables false
set_option linter.unusedSimpArgs false
set_option maxRecDepth 100000
set_option maxHeartbeats 2000000
set_option simprocs false
theorem mop_ (i : In)  : Fn Tryz.prog 66 [.agg (inQ9 i)] [] (Rt (.bool (mopI i)) []) :=
 enterM (n := 9) (by kernel_rfl) Tryz.func66 rfl rfl rfl fun G w a h0 A => N9 9 A rfl rfl fun A => C9 [] (Reads_ i.op i.dst i.ra i.rb i.imm i.loc i.off i.ix i.sz i.fn i.acq i.weak i.rel i.pred i.succ i.to_ i.zero) A rfl fun A => N9 1 A rfl rfl fun A => fork 5 A rfl
  (fun h1 A => N9 7 A rfl rfl fun A => R9 A rfl h0 rfl (by rw [show mopI i = true from (by revert h1; simp only [mopI, stpI] <;> (cases (i.op == 4) <;> cases (i.op == 5) <;> cases (i.op == 6) <;> cases (i.op == 7) <;> cases (i.op == 8) <;> first | rfl | simp))]; rfl) rfl)
  (fun h1 A => N9 1 A rfl rfl fun A => C9 [] (Writes_ i.op i.dst i.ra i.rb i.imm i.loc i.off i.ix i.sz i.fn i.acq i.weak i.rel i.pred i.succ i.to_ i.zero) A rfl fun A => N9 5 A rfl rfl fun A => R9 A rfl h0 rfl (congrArg SV.bool (by revert h1; simp only [mopI, stpI] <;> (cases (i.op == 4) <;> cases (i.op == 5) <;> cases (i.op == 6) <;> cases (i.op == 7) <;> cases (i.op == 8) <;> first | rfl | simp))) rfl)
theorem stops_ (i : In)  : Fn Tryz.prog 54 [.agg (inQ9 i)] [] (Rt (.bool (stpI i)) []) :=
 enterM (n := 15) (by kernel_rfl) Tryz.func54 rfl rfl rfl fun G w a h0 A => N9 9 A rfl rfl fun A => C9 [] (mop_ i) A rfl fun A => N9 14 A rfl rfl fun A => R9 A rfl h0 rfl (congrArg SV.bool (by simp only [mopI, stpI] <;> (cases (i.op == 4) <;> cases (i.op == 5) <;> cases (i.op == 6) <;> cases (i.op == 7) <;> cases (i.op == 8) <;> first | rfl | simp))) rfl
theorem compute_ (l : List In) (ao : Option Addr) (cp : Nat) (at_ : Int) (r : Rg) (i : In) (hat : 0 ≤ at_ ∧ at_ ≤ 1000) (hd : i.op = 1 ∨ i.op = 2 ∨ i.op = 3 → 0 ≤ i.dst ∧ i.dst < 8) (ha : i.op = 2 ∨ i.op = 3 ∨ i.op = 9 → 0 ≤ i.ra ∧ i.ra < 8) (hb : i.op = 3 → -1 ≤ i.rb ∧ i.rb < 8) : Fn Tryz.prog 55 [.ptr 0 0, .agg (inQ9 i)] [some (.blk (rQ9 (.sla ao l.length cp) at_ r))] (Rt (.tup []) [some (.blk (rQ9 (.sla ao l.length cp) (cpA at_ r i) (cpR r i)))]) :=
 enterM (n := 80) (by kernel_rfl) Tryz.func55 rfl rfl rfl fun G w a h0 A => N9 18 A rfl (ok_d (by omega) <| okE_nil) fun A => N9 12 A rfl rfl fun A => forkE 13 A rfl
  (fun h1 A => N9 1 A rfl rfl fun A => DRAWN hX hmo [] [(8, .tup [], [some (.blk (rQ9 (.sla ao l.length cp) (at_ + 1) (updR r (i.dst).toNat i.imm))), some (.blk (inQ9 i))])] A rfl (ok_d (by omega) <| okE_nil) rfl rfl (by kernel_rfl) ⟨stnE (i := 0) (r := r) hX rfl rfl rfl rfl rfl rfl rfl rfl (by first | exact hd (by omega) | exact ha (by omega) | exact hb (by omega)), trivial⟩ trivial fun A => N9 1 A rfl rfl fun A => ENDN (R9 A rfl h0 rfl rfl (by have e1 : cpA at_ r i = _ := (by unfold cpA; rw [if_neg (by omega)] <;> rfl); have e2 : cpR r i = _ := (by unfold cpR; rw [if_pos h1] <;> rfl); rw [e1, e2] <;> rfl)))
  (fun h1 A => N9 7 A rfl rfl fun A => forkE 23 A rfl
   (fun h2 A => N9 1 A rfl rfl fun A => ANY hmo [.ptr 0 0, .ptr 1 1, .int .i64 i.dst, .ptr 0 0, .ptr 1 2, .int .i64 i.ra, .ptr 0 0, .ptr 0 2, .ix (.ptr 0 2) 1 8 i.ra 0, .int .i64 (r (i.ra).toNat), .ptr 0 0, .ptr 0 2, .ix (.ptr 0 2) 1 8 i.dst 0, .tup []] [13] [] 0 [([], [], [some (.blk (rQ9 (.sla ao l.length cp) (at_ + 1) r)), some (.blk (inQ9 i))]), ([13], [], [some (.blk (rQ9 (.sla ao l.length cp) (at_ + 1) (updR r (i.dst).toNat (r (i.ra).toNat)))), some (.blk (inQ9 i))])] [[true, true, true, true, true, true, true, true, true, true, true, true, true, true], [false, false, false, false, false, false, false, false, false, false, true, true, false, false]] A rfl rfl rfl rfl (by kernel_rfl) rfl (by kernel_rfl) ⟨⟨oV9 0 rfl rfl, ⟨oV9 0 rfl rfl, ⟨oV9 0 rfl rfl, ⟨oV9 0 rfl rfl, ⟨oV9 0 rfl rfl, ⟨oV9 0 rfl rfl, ⟨oV9 0 rfl rfl, ⟨oV9 0 rfl rfl, ⟨oV9 0 rfl (ok_d (by omega) <| okE_nil), ⟨oE9 0 rfl (ldnE (r := r) hX rfl rfl rfl rfl rfl rfl rfl (by first | exact hd (by omega) | exact ha (by omega) | exact hb (by omega))), ⟨oV9 0 rfl rfl, ⟨oV9 0 rfl rfl, ⟨oV9 0 rfl (ok_d (by omega) <| okE_nil), ⟨oE9 1 rfl (stnE (i := 0) (r := r) hX rfl rfl rfl rfl rfl rfl rfl rfl (by first | exact hd (by omega) | exact ha (by omega) | exact hb (by omega))), trivial⟩⟩⟩⟩⟩⟩⟩⟩⟩⟩⟩⟩⟩⟩, ⟨⟨oV9 1 rfl rfl, ⟨oV9 1 rfl rfl, trivial⟩⟩, trivial⟩⟩ fun A => N9 1 A rfl rfl fun A => ENDN (R9 A rfl h0 rfl rfl (by have e1 : cpA at_ r i = _ := (by unfold cpA; rw [if_neg (by omega)] <;> rfl); have e2 : cpR r i = _ := (by unfold cpR; rw [if_neg (by omega), if_pos h2] <;> rfl); rw [e1, e2] <;> rfl)))
   (fun h2 A => N9 7 A rfl rfl fun A => forkE 38 A rfl
    (fun h3 A => N9 1 A rfl rfl fun A => ANY hmo [.ptr 0 0, .ptr 1 1, .int .i64 i.dst, .ptr 1 9, .int .i64 i.fn, .ptr 0 0, .ptr 1 2, .int .i64 i.ra, .ptr 0 0, .ptr 0 2, .ix (.ptr 0 2) 1 8 i.ra 0, .int .i64 (r (i.ra).toNat), .ptr 0 0, .ptr 1 3, .int .i64 i.rb, .ptr 1 4, .int .i64 i.imm, .int .i64 (rgO r i.rb i.imm), .int .i64 (balu0 i.fn (r (i.ra).toNat) (rgO r i.rb i.imm)), .ptr 0 0, .ptr 0 2, .ix (.ptr 0 2) 1 8 i.dst 0, .tup []] [17, 22] [] 0 [([], [], [some (.blk (rQ9 (.sla ao l.length cp) (at_ + 1) r)), some (.blk (inQ9 i))]), ([17], [], [some (.blk (rQ9 (.sla ao l.length cp) (at_ + 1) r)), some (.blk (inQ9 i))]), ([17, 22], [], [some (.blk (rQ9 (.sla ao l.length cp) (at_ + 1) (updR r (i.dst).toNat (balu0 i.fn (r (i.ra).toNat) (rgO r i.rb i.imm))))), some (.blk (inQ9 i))])] [[true, true, true, true, true, true, true, true, true, true, true, true, true, true, true, true, true, true, false, true, true, false, false], [true, true, true, true, true, true, true, true, true, true, true, true, false, true, false, true, false, false, true, true, true, true, true], [false, false, false, false, false, false, false, false, false, false, false, false, false, false, false, false, false, false, false, true, true, false, false]] A rfl rfl rfl rfl (by kernel_rfl) rfl (by kernel_rfl) ⟨⟨oV9 0 rfl rfl, ⟨oV9 0 rfl rfl, ⟨oV9 0 rfl rfl, ⟨oV9 0 rfl rfl, ⟨oV9 0 rfl rfl, ⟨oV9 0 rfl rfl, ⟨oV9 0 rfl rfl, ⟨oV9 0 rfl rfl, ⟨oV9 0 rfl rfl, ⟨oV9 0 rfl rfl, ⟨oV9 0 rfl (ok_d (by omega) <| okE_nil), ⟨oE9 0 rfl (ldnE (r := r) hX rfl rfl rfl rfl rfl rfl rfl (by first | exact hd (by omega) | exact ha (by omega) | exact hb (by omega))), ⟨oV9 0 rfl rfl, ⟨oV9 0 rfl rfl, ⟨oV9 0 rfl rfl, ⟨oV9 0 rfl rfl, ⟨oV9 0 rfl rfl, ⟨oE9 1 rfl (callE [0] (regOr_ l ao cp (at_ + 1) r i.rb i.imm (by first | exact hd (by omega) | exact ha (by omega) | exact hb (by omega))) rfl rfl rfl rfl rfl rfl rfl), ⟨oV9 0 rfl rfl, ⟨oV9 0 rfl rfl, trivial⟩⟩⟩⟩⟩⟩⟩⟩⟩⟩⟩⟩⟩⟩⟩⟩⟩⟩⟩⟩, ⟨⟨oV9 1 rfl rfl, ⟨oV9 1 rfl rfl, ⟨oV9 1 rfl rfl, ⟨oV9 1 rfl rfl, ⟨oV9 1 rfl rfl, ⟨oV9 1 rfl rfl, ⟨oV9 1 rfl rfl, ⟨oV9 1 rfl rfl, ⟨oV9 1 rfl rfl, ⟨oV9 1 rfl rfl, ⟨oV9 1 rfl (ok_d (by omega) <| okE_nil), ⟨oE9 1 rfl (ldnE (r := r) hX rfl rfl rfl rfl rfl rfl rfl (by first | exact hd (by omega) | exact ha (by omega) | exact hb (by omega))), ⟨oV9 1 rfl rfl, ⟨oV9 1 rfl rfl, ⟨oE9 1 rfl (eff_pure rfl rfl (balu_ i.fn (r (i.ra).toNat) (rgO r i.rb i.imm))), ⟨oV9 1 rfl rfl, ⟨oV9 1 rfl rfl, ⟨oV9 1 rfl (ok_d (by omega) <| okE_nil), ⟨oE9 2 rfl (stnE (i := 0) (r := r) hX rfl rfl rfl rfl rfl rfl rfl rfl (by first | exact hd (by omega) | exact ha (by omega) | exact hb (by omega))), trivial⟩⟩⟩⟩⟩⟩⟩⟩⟩⟩⟩⟩⟩⟩⟩⟩⟩⟩⟩, ⟨⟨oV9 2 rfl rfl, ⟨oV9 2 rfl rfl, trivial⟩⟩, trivial⟩⟩⟩ fun A => N9 1 A rfl rfl fun A => ENDN (R9 A rfl h0 rfl rfl (by have e1 : cpA at_ r i = _ := (by unfold cpA; rw [if_neg (by omega)] <;> rfl); have e2 : cpR r i = _ := (by unfold cpR; rw [if_neg (by omega), if_neg (by omega), if_pos h3] <;> rfl); rw [e1, e2] <;> rfl)))
    (fun h3 A => N9 7 A rfl rfl fun A => forkE 62 A rfl
     (fun h4 A => N9 2 A rfl rfl fun A => ANY hmo [.ptr 0 0, .ptr 1 2, .int .i64 i.ra, .ptr 0 0, .ptr 0 2, .ix (.ptr 0 2) 1 8 i.ra 0, .int .i64 (r (i.ra).toNat), .bool ((r (i.ra).toNat) == 0), .ptr 1 16, .bool i.zero, .bool (((r (i.ra).toNat) == 0) == i.zero)] [] [] 0 [([], [], [some (.blk (rQ9 (.sla ao l.length cp) (at_ + 1) r)), some (.blk (inQ9 i))])] [[true, true, true, true, true, true, true, true, true, true, true]] A rfl rfl rfl rfl (by kernel_rfl) rfl (by kernel_rfl) ⟨⟨oV9 0 rfl rfl, ⟨oV9 0 rfl rfl, ⟨oV9 0 rfl rfl, ⟨oV9 0 rfl rfl, ⟨oV9 0 rfl rfl, ⟨oV9 0 rfl (ok_d (by omega) <| okE_nil), ⟨oE9 0 rfl (ldnE (r := r) hX rfl rfl rfl rfl rfl rfl rfl (by first | exact hd (by omega) | exact ha (by omega) | exact hb (by omega))), ⟨oV9 0 rfl rfl, ⟨oV9 0 rfl rfl, ⟨oV9 0 rfl rfl, ⟨oV9 0 rfl rfl, trivial⟩⟩⟩⟩⟩⟩⟩⟩⟩⟩⟩, trivial⟩ fun A => N9 1 A rfl rfl fun A => forkE 74 A rfl
      (fun h5 A => N9 10 A rfl rfl fun A => ENDN (R9 A rfl h0 rfl rfl (by have e1 : cpA at_ r i = _ := (by unfold cpA; rw [if_pos h4, if_pos h5] <;> rfl); have e2 : cpR r i = _ := (by unfold cpR; rw [if_neg (by omega), if_neg (by omega), if_neg (by omega)] <;> rfl); rw [e1, e2] <;> rfl)))
      (fun h5 A => N9 3 A rfl rfl fun A => ENDN (R9 A rfl h0 rfl rfl (by have e1 : cpA at_ r i = _ := (by unfold cpA; rw [if_pos h4, if_neg h5] <;> rfl); have e2 : cpR r i = _ := (by unfold cpR; rw [if_neg (by omega), if_neg (by omega), if_neg (by omega)] <;> rfl); rw [e1, e2] <;> rfl))))
     (fun h4 A => N9 3 A rfl rfl fun A => ENDN (R9 A rfl h0 rfl rfl (by have e1 : cpA at_ r i = _ := (by unfold cpA; rw [if_neg (by omega)] <;> rfl); have e2 : cpR r i = _ := (by unfold cpR; rw [if_neg (by omega), if_neg (by omega), if_neg (by omega)] <;> rfl); rw [e1, e2] <;> rfl))))))
end Go.Proofs.YtjkppaijicjpoaaGreatDoor.Mc
namespace Go.Proofs.YtjkppaijicjpoaaGreatDoor
open Go.RowKit
set_option linter.unusedVariables false
set_option linter.unusedSimpArgs false
set_option linter.unusedSectionVars false
def kp1 (o : Oper) (j : Nat) : List Oper → Nat → Bool
 | [], _ => true
 | q :: r, i => (Nat.beq i j || waits o i || waits q j) && kp1 o j r (i + 1)
def kp2 (l : List Oper) (t : Nat) : List Oper → Nat → Bool
 | [], _ => true
 | o :: r, j => (match o.dst with | some d => !Nat.beq d t || kp1 o j l 0 | none => true) && kp2 l t r (j + 1)
def kpT (l : List Oper) : List (Nat × SV) → Bool
 | [] => true
 | p :: T => kp2 l p.1 l 0 && kpT l T
theorem kp1_spec {o : Oper} {j : Nat} : ∀ {r : List Oper} {k : Nat}, kp1 o j r k = true → ∀ (i : Nat) (q : Oper), r[i]? = some q → k + i ≠ j → waits o (k + i) = true ∨ waits q j = true
 | [], _, _, _, _, h, _ => by cases h
 | p :: r, k, h, i, q, hi, hne => by
  simp only [kp1, Bool.and_eq_true, Bool.or_eq_true] at h
  cases i with
  | zero =>
   cases hi
   rcases h.1 with (h1 | h1) | h1
   ·exact absurd (Nat.eq_of_beq_eq_true h1) (by simpa using hne)
   ·exact .inl (by simpa using h1)
   ·exact .inr h1
  | succ i => rw [show k + (i + 1) = k + 1 + i by omega] at hne ⊢; exact kp1_spec h.2 i q (by simpa using hi) hne
theorem kp2_spec {l : List Oper} {t : Nat} : ∀ {r : List Oper} {k : Nat}, kp2 l t r k = true → ∀ (j : Nat) (o : Oper), r[j]? = some o → o.dst = some t → kp1 o (k + j) l 0 = true
 | [], _, _, _, _, h, _ => by cases h
 | p :: r, k, h, j, o, hj, hd => by
  simp only [kp2, Bool.and_eq_true] at h
  cases j with
  | zero => cases hj; have := h.1; rw [hd] at this; simpa using this
  | succ j => rw [show k + (j + 1) = k + 1 + j by omega]; exact kp2_spec h.2 j o (by simpa using hj) hd
theorem kpT_look {l : List Oper} : ∀ {T : List (Nat × SV)} {t : Nat} {x : SV}, kpT l T = true → look T t = some x → kp2 l t l 0 = true
 | [], _, _, _, h => by cases h
 | (k, y) :: T, t, x, hT, h => by
  simp only [kpT, Bool.and_eq_true] at hT
  unfold look at h
  cases hk : Nat.beq k t with
  | true => have := Nat.eq_of_beq_eq_true hk; subst this; exact hT.1
  | false => rw [hk] at h; exact kpT_look hT.2 h
theorem kp_spec {l : List Oper} {T : List (Nat × SV)} {t : Nat} {x : SV} {j i : Nat} {o q : Oper} (hkp : kpT l T = true) (hx : look T t = some x) (h3 : l[j]? = some o) (h4 : o.dst = some t) (hq : l[i]? = some q) (hne : i ≠ j) : waits o i = true ∨ waits q j = true := by
 have := kp1_spec (kp2_spec (kpT_look hkp hx) j o h3 h4) i q hq (by simpa using hne)
 simpa using this
section
variable {P : Program} {X : Tx} {n : Nat} {ks : List Nat} {G0 : Gr} {w0 : World} {T : List (Nat × SV)} {l : List Oper} {xs : List SV} {Q : Exit → Act → World → Prop} {ef rs0 : List Nat} {tb : List (List Nat × List Nat × Hp)}
theorem ANY2 {id : Nat} {H HE : Hp} {G : Gr} {a : Act} {w : World} {K : List Fr} (hmo : P.follows .mixedOrders = true) (xs : List SV) (ef rs0 : List Nat) (m : Nat) (tb : List (List Nat × List Nat × Hp)) (B : List (List Bool)) (A : Sy n T H ks G0 w0 G a w)
  (h0 : tb[0]? = some ([], rs0, H ++ List.replicate m none)) (hE : endS ef tb = some HE) (hrs : (rs0.all fun r => Nat.ble H.length r) = true) (hef : (ef.all fun p => Nat.blt p l.length) = true) (hB : (tb.map fun s => mayR l.toArray ef s.1 l 0) = B) (hl : xs.length = l.length) (hfit : fitB l.toArray n [] = true)
  (hkp : kpT l T = true) (hO : ObA P n ks G0 w0 T l xs ef tb B tb) (hk : ∀ {G a w}, Sy n (putS l xs T) HE ks G0 w0 G a w → Goal P Q K .norm a w) : Goal P Q K (.code (.region id l.toArray true)) a w := by
 refine wp_region_any hmo ?_
 have hB1 : Ms H ks G0 w0 G w.drew := A.ms.grow (Grow.refl w).drew
 rw [List.all_eq_true] at hrs hef
 refine any_go (P := P) (xs := xs) (T := T) (ef := ef) (rs0 := rs0) (tb := tb) hfit (fun t x hx j o h3 h4 i q hq hne => kp_spec hkp hx h3 h4 hq hne) (fun t x hx r hr => ?_) hl (fun k c rs H hk i o hi hm => ?_) (fun k c rs H' hk' hall G a w A' => ?_) _ _ _ _ 0 [] rs0 _ (G ++ List.replicate m none) (by simp) (by
  refine Nat.le_trans (List.length_filter_le _ _) (by simp)) h0 ⟨A.size, A.defers, fun t x hx _ => den_mono _ x (A.get t x hx), fun j o x _ hj => ?_, Sy.pad (a := a) hB1 m, fun p hp => ?_, fun p hp => absurd hp (by simp), fun r hr => hr, fun j o p _ hj => ?_⟩
 ·have := hrs r hr
  rw [A.mem.len] at this
  exact inS_av (G := G) (Nat.le_of_ble_eq_true this) x (A.get t x hx)
 ·have := obs_at (oba_at (by rw [hB]; exact hO) k c rs H hk) i o hi (by rw [Nat.zero_add]; exact hm)
  rwa [Nat.zero_add] at this
 ·have h2 : (ef.all c.contains) = true := by
   rw [List.all_eq_true]
   intro p hp
   have := hall p hp (by have := hef p hp; simpa [Nat.blt_eq] using this)
   simpa using this
  cases endS_spec hE k c rs H' hk' h2
  exact hk A'
 ·exfalso; simp [Array.getD_eq_getD_getElem?, Array.getElem?_replicate] at hj; split at hj <;> simp at hj
 ·constructor
  ·intro hj; exfalso; simp [Array.getD_eq_getD_getElem?, Array.getElem?_replicate] at hj; split at hj <;> simp at hj
  ·intro hj; cases hj
 ·exfalso; simp [Array.getD_eq_getD_getElem?, Array.getElem?_replicate] at hj; split at hj <;> simp at hj
end
end Go.Proofs.YtjkppaijicjpoaaGreatDoor
namespace Go.Proofs.YtjkppaijicjpoaaGreatDoor.Mc
open Go.RowKit
set_option linter.unusedVariables false
set_option linter.unusedSimpArgs false
set_option maxRecDepth 100000
set_option maxHeartbeats 2000000
set_option simprocs false
theorem computeT_ (l : List In) (ao : Option Addr) (cp : Nat) (z : Th) (hc : RCd l) (hle : z.at_ ≤ l.length) (h1 : ((z.at_ : Nat) : Int) ≠ ((l.length : Nat) : Int)) (h2 : (!(stpI (l.getD ((z.at_ : Nat) : Int).toNat In.z))) = true) : Fn Tryz.prog 55 [.ptr 0 0, .agg (insS (l.getD ((z.at_ : Nat) : Int).toNat In.z))] [some (.blk (rQ9 (.sla ao l.length cp) ((z.at_ : Nat) : Int) z.r))] (Rt (.tup []) [some (.blk (rQ9 (.sla ao l.length cp) (((nxT l z).at_ : Nat) : Int) ((nxT l z).r)))]) := by
 have hlt : z.at_ < l.length := by omega
 have hr := cpA_rng (z := z) hc hlt
 have hs := hc.snd hlt
 have hn := hc.n
 have e : cpA ((z.at_ : Nat) : Int) z.r (l.getD ((z.at_ : Nat) : Int).toNat In.z) = (((nxT l z).at_ : Nat) : Int) := by
  show cpA ((z.at_ : Nat) : Int) z.r (l.getD z.at_ In.z) = (((cpA ((z.at_ : Nat) : Int) z.r (l.getD z.at_ In.z)).toNat : Nat) : Int)
  omega
 have h := compute_ l ao cp ((z.at_ : Nat) : Int) z.r (l.getD ((z.at_ : Nat) : Int).toNat In.z) (by omega) (fun q => hs.d (by show _ ∨ _; have q' : (l.getD z.at_ In.z).op = 1 ∨ (l.getD z.at_ In.z).op = 2 ∨ (l.getD z.at_ In.z).op = 3 := q; omega)) (fun q => hs.a (by show _ ∨ _; have q' : (l.getD z.at_ In.z).op = 2 ∨ (l.getD z.at_ In.z).op = 3 ∨ (l.getD z.at_ In.z).op = 9 := q; omega)) (fun q => hs.b q)
 rw [e] at h
 exact h
abbrev gQ9 (l : List In) (s : Th) : In := l.getD (((s.at_ : Nat) : Int)).toNat In.z
theorem settleN_ (l : List In) (ao : Option Addr) (cp : Nat) (s : Th) (hc : RCd l) (hat : s.at_ ≤ l.length) : FnI (CdAt ao l) Tryz.prog 31 [.ptr 0 0] [some (.blk (rQ9 (.sla ao l.length cp) ((s.at_ : Nat) : Int) s.r))] (Rt (.tup []) [some (.blk (rQ9 (.sla ao l.length cp) (((setl l s).at_ : Nat) : Int) ((setl l s).r)))]) :=
 enterI (n := 24) (by kernel_rfl) Tryz.func31 rfl rfl rfl fun G w a h0 hI A => N9 3 A rfl rfl fun A => I9 [0] LstAt.ok hI (ready_ l ao cp ((s.at_ : Nat) : Int) s.r (by omega)) A rfl fun A => N9 9 A rfl rfl fun A => LOOP1 (fun (z : Th) => [(0, .ptr 0 0), (2, .ptr 1 0), (3, .bool (!(((z.at_ : Nat) : Int) == ((l.length : Nat) : Int))))]) (fun (z : Th) => [some (.blk (rQ9 (.sla ao l.length cp) ((z.at_ : Nat) : Int) z.r)), some (.blk (inQ9 (l.getD (((z.at_ : Nat) : Int)).toNat In.z)))]) (fun (z : Th) => SI l s z) (fun (z : Th) => l.length - z.at_) s (SI.i0 hat) ((A.cut [0, 2, 3] rfl).trunc 2 rfl rfl rfl (by simp only [List.length_cons, List.length_nil] at h0; omega)) fun z hJ {G a w} A => N9 5 A rfl rfl fun A => forkN 10 A rfl
   (fun h1 A => N9 1 A rfl rfl fun A => C9 [] (stops_ (l.getD (((z.at_ : Nat) : Int)).toNat In.z)) A rfl fun A => N9 4 A rfl rfl fun A => fork 14 A rfl
    (fun h2 A => N9 8 A rfl rfl fun A => C9 [0] (computeT_ l ao cp z hc hJ.le h1 h2) A rfl fun A => N9 16 A rfl rfl fun A => I9 [0] LstAt.ok hI (ready_ l ao cp (((nxT l z).at_ : Nat) : Int) ((nxT l z).r) (by have hq := (hJ.nx hc h1 h2).1.le; omega)) A rfl fun A => N9 6 A rfl rfl fun A => ⟨nxT l z, _, (hJ.nx hc h1 h2).2, (hJ.nx hc h1 h2).1, ((A.cut [0, 2, 3] rfl).mv 1 [2] rfl rfl rfl rfl (by simp only [List.length_cons, List.length_nil] at h0; omega))⟩)
    (fun h2 A => N9 2 A rfl rfl fun A => ENDN (R9 A rfl h0 rfl rfl (by rw [hJ.f2 h2] <;> rfl))))
   (fun h1 A => N9 8 A rfl rfl fun A => ENDN (R9 A rfl h0 rfl rfl (by rw [hJ.f1 h1] <;> rfl)))
theorem settle_ (l : List In) (ao : Option Addr) (cp : Nat) (at_ : Int) (r : Rg) (hc : RCd l) (hat : 0 ≤ at_ ∧ at_ ≤ ((l.length : Nat) : Int)) : FnI (CdAt ao l) Tryz.prog 31 [.ptr 0 0] [some (.blk (rQ9 (.sla ao l.length cp) at_ r))] (Rt (.tup []) [some (.blk (rQ9 (.sla ao l.length cp) (((setl l ⟨at_.toNat, r⟩).at_ : Nat) : Int) ((setl l ⟨at_.toNat, r⟩).r)))]) := by
 obtain ⟨k, rfl⟩ := Int.eq_ofNat_of_zero_le hat.1
 exact settleN_ l ao cp ⟨k, r⟩ hc (by show k ≤ _; omega)
theorem nnT {a b : Int} (h : (!(!(a == b))) = true) : a = b := by simpa using h
theorem nnF {a b : Int} (h : (!(!(a == b))) = false) : a ≠ b := by simpa using h
theorem mopY {i : In} (h : (!(mopI i)) = false) : mopI i = true := by simpa using h
theorem opM {i : In} (h : (!(mopI i)) = false) : i.op = 4 ∨ i.op = 5 ∨ i.op = 6 := by
 have h := mopY h
 unfold mopI at h
 simp at h
 omega
theorem spZ {l : List In} {s : Th} (h : ((s.at_ : Nat) : Int) = ((l.length : Nat) : Int)) : (SV.tup [.agg [.int .i64 (spL (l.getD ((s.at_ : Nat) : Int).toNat In.z)), .int .i64 (spM s.r (l.getD ((s.at_ : Nat) : Int).toNat In.z))], .int .i64 (spD s.r (l.getD ((s.at_ : Nat) : Int).toNat In.z)), .bool (mopI (l.getD ((s.at_ : Nat) : Int).toNat In.z))]) = .tup [.agg [.z9, .z9], .z9, .bool false] := by
 have e : l.getD ((s.at_ : Nat) : Int).toNat In.z = In.z := by rw [List.getD_eq_getElem?_getD, List.getElem?_eq_none (by omega)]; rfl
 rw [e]; rfl
theorem spN {i : In} {r : Rg} (h : (!(mopI i)) = true) : (SV.tup [.agg [.int .i64 (spL i), .int .i64 (spM r i)], .int .i64 (spD r i), .bool (mopI i)]) = .tup [.agg [.z9, .z9], .z9, .bool false] := by
 have e : mopI i = false := by simpa using h
 unfold spL spM spD
 rw [e]; rfl
theorem okSp {l : List In} {s : Th} (hc : RCd l) (hat : s.at_ ≤ l.length) (h1 : ((s.at_ : Nat) : Int) ≠ ((l.length : Nat) : Int)) (h2 : (!(mopI (l.getD ((s.at_ : Nat) : Int).toNat In.z))) = false) : ((l.getD ((s.at_ : Nat) : Int).toNat In.z).sz = 1 ∨ (l.getD ((s.at_ : Nat) : Int).toNat In.z).sz = 2 ∨ (l.getD ((s.at_ : Nat) : Int).toNat In.z).sz = 4 ∨ (l.getD ((s.at_ : Nat) : Int).toNat In.z).sz = 8) ∧ (-1 ≤ (l.getD ((s.at_ : Nat) : Int).toNat In.z).ix ∧ (l.getD ((s.at_ : Nat) : Int).toNat In.z).ix < 8) ∧ ((l.getD ((s.at_ : Nat) : Int).toNat In.z).op = 5 → -1 ≤ (l.getD ((s.at_ : Nat) : Int).toNat In.z).ra ∧ (l.getD ((s.at_ : Nat) : Int).toNat In.z).ra < 8) ∧ ((l.getD ((s.at_ : Nat) : Int).toNat In.z).op = 6 → 0 ≤ (l.getD ((s.at_ : Nat) : Int).toNat In.z).ra ∧ (l.getD ((s.at_ : Nat) : Int).toNat In.z).ra < 8) := by
 have hlt : s.at_ < l.length := by omega
 have ho := opM h2
 have hs := hc.snd hlt
 exact ⟨hc.szs hlt ho, hs.x ho, fun q => hs.a5 q, fun q => hs.a (.inr (.inr (.inl q)))⟩
theorem okSp9 {l : List In} {s : Th} (hc : RCd l) (hat : s.at_ ≤ l.length) (h1 : ((s.at_ : Nat) : Int) ≠ ((l.length : Nat) : Int)) (h2 : (!(mopI (gQ9 l s))) = false) : ((gQ9 l s).sz = 1 ∨ (gQ9 l s).sz = 2 ∨ (gQ9 l s).sz = 4 ∨ (gQ9 l s).sz = 8) ∧ (-1 ≤ (gQ9 l s).ix ∧ (gQ9 l s).ix < 8) ∧ ((gQ9 l s).op = 5 → -1 ≤ (gQ9 l s).ra ∧ (gQ9 l s).ra < 8) ∧ ((gQ9 l s).op = 6 → 0 ≤ (gQ9 l s).ra ∧ (gQ9 l s).ra < 8) := okSp hc hat h1 h2
theorem spot_ (l : List In) (ao : Option Addr) (cp : Nat) (s : Th) (hc : RCd l) (hat : s.at_ ≤ l.length) : FnI (CdAt ao l) Tryz.prog 46 [.ptr 0 0] [some (.blk (rQ9 (.sla ao l.length cp) ((s.at_ : Nat) : Int) s.r))] (Rt (.tup [.agg [.int .i64 (spL (gQ9 l s)), .int .i64 (spM s.r (gQ9 l s))], .int .i64 (spD s.r (gQ9 l s)), .bool (mopI (gQ9 l s))]) [some (.blk (rQ9 (.sla ao l.length cp) ((s.at_ : Nat) : Int) s.r))]) :=
 enterI (n := 59) (by kernel_rfl) Tryz.func46 rfl rfl rfl fun G w a h0 hI A => N9 10 A rfl rfl fun A => I9 [0] LstAt.ok hI (ready_ l ao cp ((s.at_ : Nat) : Int) s.r (by omega)) A rfl fun A => N9 14 A rfl rfl fun A => fork 14 A rfl
  (fun h1 A => N9 16 A rfl rfl fun A => R9 A rfl h0 rfl (by rw [spZ (nnT h1)] <;> rfl) rfl)
  (fun h1 A => N9 1 A rfl rfl fun A => C9 [] (mop_ (gQ9 l s)) A rfl fun A => N9 4 A rfl rfl fun A => fork 18 A rfl
   (fun h2 A => N9 10 A rfl rfl fun A => R9 A rfl h0 rfl (by rw [spN h2] <;> rfl) rfl)
   (fun h2 A => N9 17 A rfl rfl fun A => forkE 22 A rfl
    (fun h3 A => N9 1 A rfl rfl fun A => DRAWN hX hmo [(8, .int .i64 (bget0 (rgO s.r ((gQ9 l s).ra) ((gQ9 l s).imm)) ((gQ9 l s).sz)))] [(5, .int .i64 (rgO s.r ((gQ9 l s).ra) ((gQ9 l s).imm)), [some (.blk (rQ9 (.sla ao l.length cp) ((s.at_ : Nat) : Int) s.r)), some (.blk [.z9, .z9]), some (.blk (inQ9 (gQ9 l s)))])] A rfl rfl rfl rfl (by kernel_rfl) ⟨callE [0] (regOr_ l ao cp ((s.at_ : Nat) : Int) s.r ((gQ9 l s).ra) ((gQ9 l s).imm) (by have q := okSp9 hc hat (nnF h1) h2; have o := opM h2; first | exact q.1 | exact q.2.1 | exact q.2.2.1 (by assumption) | exact q.2.2.2 (by omega) | omega)) rfl rfl rfl rfl rfl rfl rfl, trivial⟩ ⟨.inl ⟨_, _, rfl, rfl, bget_ (rgO s.r ((gQ9 l s).ra) ((gQ9 l s).imm)) ((gQ9 l s).sz) (by have q := okSp9 hc hat (nnF h1) h2; have o := opM h2; first | exact q.1 | exact q.2.1 | exact q.2.2.1 (by assumption) | exact q.2.2.2 (by omega) | omega)⟩, trivial⟩ fun A => N9 3 A rfl rfl fun A => DRAWN hX hmo [(8, .int .i64 (bplace0 ((gQ9 l s).off) (rgO s.r ((gQ9 l s).ix) 0) ((gQ9 l s).sz)))] [(5, .int .i64 (rgO s.r ((gQ9 l s).ix) 0), [some (.blk (rQ9 (.sla ao l.length cp) ((s.at_ : Nat) : Int) s.r)), some (.blk [.z9, .z9]), some (.blk (inQ9 (gQ9 l s)))])] A rfl rfl rfl rfl (by kernel_rfl) ⟨callE [0] (regOr_ l ao cp ((s.at_ : Nat) : Int) s.r ((gQ9 l s).ix) 0 (by have q := okSp9 hc hat (nnF h1) h2; have o := opM h2; first | exact q.1 | exact q.2.1 | exact q.2.2.1 (by assumption) | exact q.2.2.2 (by omega) | omega)) rfl rfl rfl rfl rfl rfl rfl, trivial⟩ ⟨.inl ⟨_, _, rfl, rfl, bplace_ ((gQ9 l s).off) (rgO s.r ((gQ9 l s).ix) 0) ((gQ9 l s).sz)⟩, trivial⟩ fun A => N9 2 A rfl rfl fun A => have A := A.cut [0, 2, 3, 4, 5, 6, 7, 8, 9, 10, 11, 12, 13, 14, 15, 16, 17, 18, 20, 21, 22, 23, 24, 25, 26, 27, 28, 29, 30, 31, 32, 42, 43, 44, 45, 46, 47, 48, 49, 50] rfl; ANY2 hmo [.ptr 2 5, .int .i64 ((gQ9 l s).loc), .int .i64 (bplace0 ((gQ9 l s).off) (rgO s.r ((gQ9 l s).ix) 0) ((gQ9 l s).sz)), .ptr 2 8, .int .i64 ((gQ9 l s).sz), .int .i64 (bmask0 (bplace0 ((gQ9 l s).off) (rgO s.r ((gQ9 l s).ix) 0) ((gQ9 l s).sz)) ((gQ9 l s).sz)), .agg [.int .i64 ((gQ9 l s).loc), .int .i64 (bmask0 (bplace0 ((gQ9 l s).off) (rgO s.r ((gQ9 l s).ix) 0) ((gQ9 l s).sz)) ((gQ9 l s).sz))], .int .i64 (bget0 (rgO s.r ((gQ9 l s).ra) ((gQ9 l s).imm)) ((gQ9 l s).sz)), .tup [], .int .i64 (bget0 (rgO s.r ((gQ9 l s).ra) ((gQ9 l s).imm)) ((gQ9 l s).sz)), .tt] [8] [] 0 [([], [], [some (.blk (rQ9 (.sla ao l.length cp) ((s.at_ : Nat) : Int) s.r)), some (.blk [.z9, .z9]), some (.blk (inQ9 (gQ9 l s)))]), ([8], [], [some (.blk (rQ9 (.sla ao l.length cp) ((s.at_ : Nat) : Int) s.r)), some (.blk [.int .i64 ((gQ9 l s).loc), .int .i64 (bmask0 (bplace0 ((gQ9 l s).off) (rgO s.r ((gQ9 l s).ix) 0) ((gQ9 l s).sz)) ((gQ9 l s).sz))]), some (.blk (inQ9 (gQ9 l s)))])] [[true, true, true, true, true, true, true, true, true, false, false], [false, false, false, false, false, false, false, true, false, true, true]] A rfl rfl rfl rfl (by kernel_rfl) rfl (by kernel_rfl) (by kernel_rfl) ⟨⟨oV9 0 rfl rfl, ⟨oV9 0 rfl rfl, ⟨oV9 0 rfl rfl, ⟨oV9 0 rfl rfl, ⟨oV9 0 rfl rfl, ⟨oE9 0 rfl (eff_pure rfl rfl (bmask_ (bplace0 ((gQ9 l s).off) (rgO s.r ((gQ9 l s).ix) 0) ((gQ9 l s).sz)) ((gQ9 l s).sz) (by have q := okSp9 hc hat (nnF h1) h2; have o := opM h2; first | exact q.1 | exact q.2.1 | exact q.2.2.1 (by assumption) | exact q.2.2.2 (by omega) | omega))), ⟨oV9 0 rfl rfl, ⟨oV9 0 rfl rfl, ⟨oE9 1 rfl (eff_auto (X := ⟨_, true⟩) (out := .upd 1 [.int .i64 ((gQ9 l s).loc), .int .i64 (bmask0 (bplace0 ((gQ9 l s).off) (rgO s.r ((gQ9 l s).ix) 0) ((gQ9 l s).sz)) ((gQ9 l s).sz))] _) hX rfl rfl), trivial⟩⟩⟩⟩⟩⟩⟩⟩⟩, ⟨⟨oV9 1 rfl rfl, ⟨oV9 1 rfl rfl, ⟨oV9 1 rfl rfl, trivial⟩⟩⟩, trivial⟩⟩ fun A => N9 2 A rfl rfl fun A => R9 A rfl h0 rfl (by have hm := mopY h2; unfold spL spM spD; rw [hm, if_pos rfl, if_pos rfl, if_pos rfl, if_pos h3] <;> rfl) rfl)
    (fun h3 A => N9 7 A rfl rfl fun A => forkE 33 A rfl
     (fun h4 A => N9 1 A rfl rfl fun A => ANY hmo [.ptr 0 0, .ptr 2 2, .int .i64 ((gQ9 l s).ra), .ptr 0 0, .ptr 0 2, .ix (.ptr 0 2) 1 8 ((gQ9 l s).ra) 0, .int .i64 (s.r ((gQ9 l s).ra).toNat), .int .i64 (s.r ((gQ9 l s).ra).toNat)] [] [] 0 [([], [], [some (.blk (rQ9 (.sla ao l.length cp) ((s.at_ : Nat) : Int) s.r)), some (.blk [.z9, .z9]), some (.blk (inQ9 (gQ9 l s)))])] [[true, true, true, true, true, true, true, true]] A rfl rfl rfl rfl (by kernel_rfl) rfl (by kernel_rfl) ⟨⟨oV9 0 rfl rfl, ⟨oV9 0 rfl rfl, ⟨oV9 0 rfl rfl, ⟨oV9 0 rfl rfl, ⟨oV9 0 rfl rfl, ⟨oV9 0 rfl (ok_d (by have q := okSp9 hc hat (nnF h1) h2; have o := opM h2; first | exact q.1 | exact q.2.1 | exact q.2.2.1 (by assumption) | exact q.2.2.2 (by omega) | omega) <| okE_nil), ⟨oE9 0 rfl (ldnE (r := s.r) hX rfl rfl rfl rfl rfl rfl rfl (by have q := okSp9 hc hat (nnF h1) h2; have o := opM h2; first | exact q.1 | exact q.2.1 | exact q.2.2.1 (by assumption) | exact q.2.2.2 (by omega) | omega)), ⟨oV9 0 rfl rfl, trivial⟩⟩⟩⟩⟩⟩⟩⟩, trivial⟩ fun A => N9 3 A rfl rfl fun A => DRAWN hX hmo [(8, .int .i64 (bplace0 ((gQ9 l s).off) (rgO s.r ((gQ9 l s).ix) 0) ((gQ9 l s).sz)))] [(5, .int .i64 (rgO s.r ((gQ9 l s).ix) 0), [some (.blk (rQ9 (.sla ao l.length cp) ((s.at_ : Nat) : Int) s.r)), some (.blk [.z9, .z9]), some (.blk (inQ9 (gQ9 l s)))])] A rfl rfl rfl rfl (by kernel_rfl) ⟨callE [0] (regOr_ l ao cp ((s.at_ : Nat) : Int) s.r ((gQ9 l s).ix) 0 (by have q := okSp9 hc hat (nnF h1) h2; have o := opM h2; first | exact q.1 | exact q.2.1 | exact q.2.2.1 (by assumption) | exact q.2.2.2 (by omega) | omega)) rfl rfl rfl rfl rfl rfl rfl, trivial⟩ ⟨.inl ⟨_, _, rfl, rfl, bplace_ ((gQ9 l s).off) (rgO s.r ((gQ9 l s).ix) 0) ((gQ9 l s).sz)⟩, trivial⟩ fun A => N9 2 A rfl rfl fun A => have A := A.cut [0, 2, 3, 4, 5, 6, 7, 8, 9, 10, 11, 12, 13, 14, 15, 16, 17, 18, 20, 21, 22, 23, 33, 34, 35, 36, 37, 38, 39, 40, 41, 42, 43, 44, 45, 46, 47, 48, 49, 50] rfl; ANY2 hmo [.ptr 2 5, .int .i64 ((gQ9 l s).loc), .int .i64 (bplace0 ((gQ9 l s).off) (rgO s.r ((gQ9 l s).ix) 0) ((gQ9 l s).sz)), .ptr 2 8, .int .i64 ((gQ9 l s).sz), .int .i64 (bmask0 (bplace0 ((gQ9 l s).off) (rgO s.r ((gQ9 l s).ix) 0) ((gQ9 l s).sz)) ((gQ9 l s).sz)), .agg [.int .i64 ((gQ9 l s).loc), .int .i64 (bmask0 (bplace0 ((gQ9 l s).off) (rgO s.r ((gQ9 l s).ix) 0) ((gQ9 l s).sz)) ((gQ9 l s).sz))], .int .i64 (s.r ((gQ9 l s).ra).toNat), .tup [], .int .i64 (s.r ((gQ9 l s).ra).toNat), .tt] [8] [] 0 [([], [], [some (.blk (rQ9 (.sla ao l.length cp) ((s.at_ : Nat) : Int) s.r)), some (.blk [.z9, .z9]), some (.blk (inQ9 (gQ9 l s)))]), ([8], [], [some (.blk (rQ9 (.sla ao l.length cp) ((s.at_ : Nat) : Int) s.r)), some (.blk [.int .i64 ((gQ9 l s).loc), .int .i64 (bmask0 (bplace0 ((gQ9 l s).off) (rgO s.r ((gQ9 l s).ix) 0) ((gQ9 l s).sz)) ((gQ9 l s).sz))]), some (.blk (inQ9 (gQ9 l s)))])] [[true, true, true, true, true, true, true, true, true, false, false], [false, false, false, false, false, false, false, true, false, true, true]] A rfl rfl rfl rfl (by kernel_rfl) rfl (by kernel_rfl) (by kernel_rfl) ⟨⟨oV9 0 rfl rfl, ⟨oV9 0 rfl rfl, ⟨oV9 0 rfl rfl, ⟨oV9 0 rfl rfl, ⟨oV9 0 rfl rfl, ⟨oE9 0 rfl (eff_pure rfl rfl (bmask_ (bplace0 ((gQ9 l s).off) (rgO s.r ((gQ9 l s).ix) 0) ((gQ9 l s).sz)) ((gQ9 l s).sz) (by have q := okSp9 hc hat (nnF h1) h2; have o := opM h2; first | exact q.1 | exact q.2.1 | exact q.2.2.1 (by assumption) | exact q.2.2.2 (by omega) | omega))), ⟨oV9 0 rfl rfl, ⟨oV9 0 rfl rfl, ⟨oE9 1 rfl (eff_auto (X := ⟨_, true⟩) (out := .upd 1 [.int .i64 ((gQ9 l s).loc), .int .i64 (bmask0 (bplace0 ((gQ9 l s).off) (rgO s.r ((gQ9 l s).ix) 0) ((gQ9 l s).sz)) ((gQ9 l s).sz))] _) hX rfl rfl), trivial⟩⟩⟩⟩⟩⟩⟩⟩⟩, ⟨⟨oV9 1 rfl rfl, ⟨oV9 1 rfl rfl, ⟨oV9 1 rfl rfl, trivial⟩⟩⟩, trivial⟩⟩ fun A => N9 2 A rfl rfl fun A => R9 A rfl h0 rfl (by have hm := mopY h2; unfold spL spM spD; rw [hm, if_pos rfl, if_pos rfl, if_pos rfl, if_neg h3, if_pos h4] <;> rfl) rfl)
     (fun h4 A => N9 5 A rfl rfl fun A => DRAWN hX hmo [(8, .int .i64 (bplace0 ((gQ9 l s).off) (rgO s.r ((gQ9 l s).ix) 0) ((gQ9 l s).sz)))] [(5, .int .i64 (rgO s.r ((gQ9 l s).ix) 0), [some (.blk (rQ9 (.sla ao l.length cp) ((s.at_ : Nat) : Int) s.r)), some (.blk [.z9, .z9]), some (.blk (inQ9 (gQ9 l s)))])] A rfl rfl rfl rfl (by kernel_rfl) ⟨callE [0] (regOr_ l ao cp ((s.at_ : Nat) : Int) s.r ((gQ9 l s).ix) 0 (by have q := okSp9 hc hat (nnF h1) h2; have o := opM h2; first | exact q.1 | exact q.2.1 | exact q.2.2.1 (by assumption) | exact q.2.2.2 (by omega) | omega)) rfl rfl rfl rfl rfl rfl rfl, trivial⟩ ⟨.inl ⟨_, _, rfl, rfl, bplace_ ((gQ9 l s).off) (rgO s.r ((gQ9 l s).ix) 0) ((gQ9 l s).sz)⟩, trivial⟩ fun A => N9 2 A rfl rfl fun A => have A := A.cut [0, 2, 3, 4, 5, 6, 7, 8, 9, 10, 11, 12, 13, 14, 15, 16, 17, 18, 20, 21, 22, 23, 33, 34, 42, 43, 44, 45, 46, 47, 48, 49, 50] rfl; ANY2 hmo [.ptr 2 5, .int .i64 ((gQ9 l s).loc), .int .i64 (bplace0 ((gQ9 l s).off) (rgO s.r ((gQ9 l s).ix) 0) ((gQ9 l s).sz)), .ptr 2 8, .int .i64 ((gQ9 l s).sz), .int .i64 (bmask0 (bplace0 ((gQ9 l s).off) (rgO s.r ((gQ9 l s).ix) 0) ((gQ9 l s).sz)) ((gQ9 l s).sz)), .agg [.int .i64 ((gQ9 l s).loc), .int .i64 (bmask0 (bplace0 ((gQ9 l s).off) (rgO s.r ((gQ9 l s).ix) 0) ((gQ9 l s).sz)) ((gQ9 l s).sz))], .z9, .tup [], .z9, .tt] [8] [] 0 [([], [], [some (.blk (rQ9 (.sla ao l.length cp) ((s.at_ : Nat) : Int) s.r)), some (.blk [.z9, .z9]), some (.blk (inQ9 (gQ9 l s)))]), ([8], [], [some (.blk (rQ9 (.sla ao l.length cp) ((s.at_ : Nat) : Int) s.r)), some (.blk [.int .i64 ((gQ9 l s).loc), .int .i64 (bmask0 (bplace0 ((gQ9 l s).off) (rgO s.r ((gQ9 l s).ix) 0) ((gQ9 l s).sz)) ((gQ9 l s).sz))]), some (.blk (inQ9 (gQ9 l s)))])] [[true, true, true, true, true, true, true, true, true, false, false], [false, false, false, false, false, false, false, true, false, true, true]] A rfl rfl rfl rfl (by kernel_rfl) rfl (by kernel_rfl) (by kernel_rfl) ⟨⟨oV9 0 rfl rfl, ⟨oV9 0 rfl rfl, ⟨oV9 0 rfl rfl, ⟨oV9 0 rfl rfl, ⟨oV9 0 rfl rfl, ⟨oE9 0 rfl (eff_pure rfl rfl (bmask_ (bplace0 ((gQ9 l s).off) (rgO s.r ((gQ9 l s).ix) 0) ((gQ9 l s).sz)) ((gQ9 l s).sz) (by have q := okSp9 hc hat (nnF h1) h2; have o := opM h2; first | exact q.1 | exact q.2.1 | exact q.2.2.1 (by assumption) | exact q.2.2.2 (by omega) | omega))), ⟨oV9 0 rfl rfl, ⟨oV9 0 rfl rfl, ⟨oE9 1 rfl (eff_auto (X := ⟨_, true⟩) (out := .upd 1 [.int .i64 ((gQ9 l s).loc), .int .i64 (bmask0 (bplace0 ((gQ9 l s).off) (rgO s.r ((gQ9 l s).ix) 0) ((gQ9 l s).sz)) ((gQ9 l s).sz))] _) hX rfl rfl), trivial⟩⟩⟩⟩⟩⟩⟩⟩⟩, ⟨⟨oV9 1 rfl rfl, ⟨oV9 1 rfl rfl, ⟨oV9 1 rfl rfl, trivial⟩⟩⟩, trivial⟩⟩ fun A => N9 2 A rfl rfl fun A => R9 A rfl h0 rfl (by have hm := mopY h2; unfold spL spM spD; rw [hm, if_pos rfl, if_pos rfl, if_pos rfl, if_neg h3, if_neg h4] <;> rfl) rfl))))
theorem okPa {l : List In} {s : Th} (hc : RCd l) (hat : s.at_ ≤ l.length) (h1 : ((s.at_ : Nat) : Int) ≠ ((l.length : Nat) : Int)) (h2 : (((l.getD ((s.at_ : Nat) : Int).toNat In.z).op == 4) || ((l.getD ((s.at_ : Nat) : Int).toNat In.z).op == 6)) = true) : ((l.getD ((s.at_ : Nat) : Int).toNat In.z).sz = 1 ∨ (l.getD ((s.at_ : Nat) : Int).toNat In.z).sz = 2 ∨ (l.getD ((s.at_ : Nat) : Int).toNat In.z).sz = 4 ∨ (l.getD ((s.at_ : Nat) : Int).toNat In.z).sz = 8) ∧ (0 ≤ (l.getD ((s.at_ : Nat) : Int).toNat In.z).dst ∧ (l.getD ((s.at_ : Nat) : Int).toNat In.z).dst < 8) := by
 have hlt : s.at_ < l.length := by omega
 have ho : (l.getD s.at_ In.z).op = 4 ∨ (l.getD s.at_ In.z).op = 6 := by
  have h3 : (((l.getD s.at_ In.z).op == 4) || ((l.getD s.at_ In.z).op == 6)) = true := h2
  simp at h3
  exact h3
 have hs := hc.snd hlt
 exact ⟨hc.szs hlt (by rcases ho with h | h; exact .inl h; exact .inr (.inr h)), hs.d (by rcases ho with h | h; exact .inr (.inr (.inr (.inl h))); exact .inr (.inr (.inr (.inr h))))⟩
theorem pass_ (l : List In) (ao : Option Addr) (cp : Nat) (s : Th) (old : Int) (hc : RCd l) (hat : s.at_ ≤ l.length) : FnI (CdAt ao l) Tryz.prog 38 [.ptr 0 0, .int .i64 old] [some (.blk (rQ9 (.sla ao l.length cp) ((s.at_ : Nat) : Int) s.r))] (Rt (.bool (!(((s.at_ : Nat) : Int) == ((l.length : Nat) : Int)))) [some (.blk (rQ9 (.sla ao l.length cp) (((paT l s old).at_ : Nat) : Int) ((paT l s old).r)))]) :=
 enterI (n := 35) (by kernel_rfl) Tryz.func38 rfl rfl rfl fun G w a h0 hI A => N9 8 A rfl rfl fun A => I9 [0] LstAt.ok hI (ready_ l ao cp ((s.at_ : Nat) : Int) s.r (by omega)) A rfl fun A => N9 15 A rfl rfl fun A => fork 13 A rfl
  (fun h1 A => N9 7 A rfl rfl fun A => R9 A rfl h0 rfl (by rw [beq_iff_eq.2 (nnT h1)]; rfl) (by unfold paT; rw [if_pos (show s.at_ = l.length from (by have e := (nnT h1); omega))] <;> rfl))
  (fun h1 A => N9 7 A rfl rfl fun A => C9 [] (Reads_ ((gQ9 l s).op) ((gQ9 l s).dst) ((gQ9 l s).ra) ((gQ9 l s).rb) ((gQ9 l s).imm) ((gQ9 l s).loc) ((gQ9 l s).off) ((gQ9 l s).ix) ((gQ9 l s).sz) ((gQ9 l s).fn) ((gQ9 l s).acq) ((gQ9 l s).weak) ((gQ9 l s).rel) ((gQ9 l s).pred) ((gQ9 l s).succ) ((gQ9 l s).to_) ((gQ9 l s).zero)) A rfl fun A => N9 2 A rfl rfl fun A => fork 15 A rfl
   (fun h2 A => N9 1 A rfl rfl fun A => DRAWN hX hmo [(6, .int .i64 (bget0 old ((gQ9 l s).sz)))] [(10, .tup [], [some (.blk (rQ9 (.sla ao l.length cp) ((s.at_ : Nat) : Int) (updR s.r ((gQ9 l s).dst).toNat (bget0 old ((gQ9 l s).sz))))), some (.blk (inQ9 (gQ9 l s)))])] A rfl (ok_d (by have hn := hc.n; (try have q := okPa hc hat (nnF h1) h2); first | exact q.1 | exact q.2 | omega) <| okE_nil) rfl rfl (by kernel_rfl) ⟨stnE (i := 0) (r := s.r) hX rfl rfl rfl rfl rfl rfl rfl rfl (by have hn := hc.n; (try have q := okPa hc hat (nnF h1) h2); first | exact q.1 | exact q.2 | omega), trivial⟩ ⟨.inl ⟨_, _, rfl, rfl, bget_ old ((gQ9 l s).sz) (by have hn := hc.n; (try have q := okPa hc hat (nnF h1) h2); first | exact q.1 | exact q.2 | omega)⟩, trivial⟩ fun A => N9 14 A rfl (ok_d (by have hn := hc.n; (try have q := okPa hc hat (nnF h1) h2); first | exact q.1 | exact q.2 | omega) <| okE_nil) fun A => N9 2 A rfl rfl fun A => I9 [0] LstAt.ok hI (settle_ l ao cp (((s.at_ : Nat) : Int) + 1) (updR s.r ((gQ9 l s).dst).toNat (bget0 old ((gQ9 l s).sz))) hc (by have e := (nnF h1); omega)) A rfl fun A => N9 8 A rfl rfl fun A => R9 A rfl h0 rfl (by rw [beq_eq_false_iff_ne.2 (nnF h1)]; rfl) (by rw [show paT l s old = setl l ⟨s.at_ + 1, paR s.r (gQ9 l s) old⟩ from if_neg (show s.at_ ≠ l.length from (by have e := (nnF h1); omega))]; unfold paR; rw [if_pos h2] <;> rfl))
   (fun h2 A => N9 16 A rfl (ok_d (by have hn := hc.n; (try have q := okPa hc hat (nnF h1) h2); first | exact q.1 | exact q.2 | omega) <| okE_nil) fun A => N9 2 A rfl rfl fun A => I9 [0] LstAt.ok hI (settle_ l ao cp (((s.at_ : Nat) : Int) + 1) s.r hc (by have e := (nnF h1); omega)) A rfl fun A => N9 8 A rfl rfl fun A => R9 A rfl h0 rfl (by rw [beq_eq_false_iff_ne.2 (nnF h1)]; rfl) (by rw [show paT l s old = setl l ⟨s.at_ + 1, paR s.r (gQ9 l s) old⟩ from if_neg (show s.at_ ≠ l.length from (by have e := (nnF h1); omega))]; unfold paR; rw [if_neg (ne_true_of_eq_false h2)] <;> rfl)))
end Go.Proofs.YtjkppaijicjpoaaGreatDoor.Mc
namespace Go.Proofs.YtjkppaijicjpoaaGreatDoor
open Go.RowKit
set_option linter.unusedVariables false
set_option linter.unusedSimpArgs false
set_option linter.unusedSectionVars false
section
variable {P : Program} {Y : Tb} {n : Nat} {ks : List Nat} {G0 : Gr} {w0 : World} {T : List (Nat × SV)} {H : Hp} {G : Gr} {a : Act} {w : World} {Q : Exit → Act → World → Prop} {K : List Fr} {pos : Pos} {ops : Array Oper} {o : Oper} {rest : List Oper}
theorem APP0 {x y : Operand} {t e s i m c cp : Nat} {ao : Option Addr} {f : Nat → List SV} (A : Sy n T H ks G0 w0 G a w) (hg : guardS ops T o.guard = some .run) (hd : fitsD n o.dst = true) (hop : o.op = .call { callee := .builtin .append, args := #[x, y], argTypes := #[t, t] }) (hx : evS T x = some (.sl i m c)) (hi : lg H i = some (some (.row e s m c f))) (hy : evS T y = some (.sla ao 0 cp)) (ht : sliceB P t e s = true)
  (hk : ∀ {G a w}, Sy n (extS T o.dst (.sl i m c)) H ks G0 w0 G a w → Goal P Q K (.ops ops rest) a w) : Goal P Q K (.ops ops (o :: rest)) a w := by
 have hw := gd_run (gd := none) A hg
 obtain ⟨d, op, ty, pos, af, gd⟩ := o
 simp only at hop
 subst hop
 obtain ⟨hu, hs⟩ := slice_facts ht
 obtain ⟨ie, hie, _⟩ := Option.map_eq_some_iff.1 hs
 rw [lg_is] at hi
 obtain ⟨p, hp⟩ : ∃ p, G[i]? = some p := by
  have : i < G.length := by rw [← A.mem.len]; exact (List.getElem?_eq_some_iff.1 hi).1
  exact ⟨G[i], by simp [this]⟩
 obtain ⟨_, hpre, xs, hxs, hown⟩ := A.mem.ent i _ hi
 rw [hp] at hown
 simp only [Option.getD_some] at hown
 have hvx := A.ev hx
 have hvy := A.ev hy
 have hden : den G (.sl i m c) = some (.slice (p.map fun L => ⟨L.b, L.pre.length, none⟩) m (c + rm p)) := by unfold den; rw [hp]
 rw [hden] at hvx
 unfold den at hvy
 simp only [Option.some.injEq] at hvx hvy
 have hsrc : Src P ie.size t (.slice ao 0 cp) 0 [] w := by
  cases ao with
  | none => exact Src.ofNil w hu cp
  | some x0 => exact Src.ofSlice w hu x0 0 cp [] (by simp) (fun j u hj => by simp at hj) (fun u hu => by cases hu)
 have hle : m ≤ c + rm p := by
  rcases hown.2 with ⟨q1, q2⟩ | ⟨g, cap, cur, q1, _, _, q4, _⟩
  ·omega
  ·cases p <;> simp at q1; omega
 have hr := run_append_nothing (P := P) w t t ty e ie hu hie (p.map fun L => ⟨L.b, L.pre.length, none⟩) m (c + rm p) hle _ hsrc
 refine q_does (Q := wpK P Q K) (does_val (v := .slice (p.map fun L => ⟨L.b, L.pre.length, none⟩) m (c + rm p)) (w' := w) hw ?_ ?_)
 ·unfold execOp
  simp only [resolve, invoke, builtin, Sem.run_bind, Sem.run_pure, Result.andThen_ok, List.map_toArray, List.map_cons, List.map_nil, ← hvx, ← hvy, hr]
 ·exact hk (Sy.put A hd hden)
theorem Sy.hide (A : Sy n T H ks G0 w0 G a w) (i : Nat) : Sy n T (stH H i none) ks G0 w0 G a w := by
 have hold : ∀ (j : Nat) (e : Ent), (stH H i none)[j]? = some (some e) → H[j]? = some (some e) := by
  intro j e h
  rw [stH_is] at h
  by_cases hj : j = i
  ·subst hj
   by_cases hl : j < H.length
   ·rw [List.getElem?_set_self hl] at h; cases h
   ·rw [List.getElem?_eq_none (by simp; omega)] at h; cases h
  ·rw [List.getElem?_set_ne (Ne.symm hj)] at h; exact h
 exact ⟨A.size, A.defers, A.get, ⟨by rw [stH_is]; simpa using A.mem.len, fun j e he => A.mem.ent j e (hold j e he), fun j k e f L' M hjk g1 g2 g3 g4 g5 g6 => A.mem.sep j k e f L' M hjk (hold j e g1) (hold k f g2) g3 g4 g5 g6⟩, A.pre, fun j e L' g1 g2 g3 => A.own j e L' (hold j e g1) g2 g3, A.mix⟩
theorem Sy.layAt (A : Sy n T H ks G0 w0 G a w) (i : Nat) {e s m c : Nat} {f : Nat → List SV} {H' : Hp} (hi : lg H i = some (some (.row e s m c f))) (hH : stH H i none = H') :
  ∃ ao cp, (den G (.sl i m c) = some (.slice ao m cp)) ∧ Sy n T H' ks G0 w0 G a w ∧ LstAt ao s m f w (keys H' G) ∧ (∀ q : Addr, ao = some q → ks.contains q.block = true ∨ w0.heap.size ≤ q.block) := by
 subst hH
 rw [lg_is] at hi
 obtain ⟨p, hp⟩ : ∃ p, G[i]? = some p := by
  have : i < G.length := by rw [← A.mem.len]; exact (List.getElem?_eq_some_iff.1 hi).1
  exact ⟨G[i], by simp [this]⟩
 have hent := A.mem.ent i _ hi
 have htot := hent.1
 refine ⟨p.map fun L => ⟨L.b, L.pre.length, none⟩, c + rm p, by unfold den; rw [hp], A.hide i, ⟨fun k => ?_, ?_⟩, fun q hq => ?_⟩
 ·obtain ⟨vs, h, _⟩ := htot k; exact ⟨vs, h⟩
 ·by_cases h0 : m = 0
  ·exact .inl h0
  ·right
   obtain ⟨L, _, q1, _⟩ := row_range hent (k := 0) (by omega)
   rw [hp] at q1
   simp only [Option.getD_some] at q1
   subst q1
   have hlt : L.b < w.heap.size := by rw [hp] at hent; exact EntOK.lt hent (fun h => h)
   refine ⟨L.b, L.pre.length, rfl, hlt, ?_, fun k hk => ?_⟩
   ·cases hq : (keys (stH H i none) G).contains L.b with
    | false => rfl
    | true =>
     obtain ⟨j, e', L', g1, g2, g3, g4⟩ := mem_keys.1 hq
     have hji : j ≠ i := by
      intro e; subst e
      rw [stH_is, List.getElem?_set_self (List.getElem?_eq_some_iff.1 hi).1] at g1; cases g1
     have g1' : H[j]? = some (some e') := by rw [stH_is, List.getElem?_set_ne (Ne.symm hji)] at g1; exact g1
     exact absurd g4.symm (A.mem.sep i j _ e' L L' (Ne.symm hji) hi g1' rfl hp g3 (mut_full g2))
   ·obtain ⟨L', vs, r1, r2, _, r4⟩ := row_range hent hk
    rw [hp] at r1
    simp only [Option.getD_some, Option.some.injEq] at r1
    subst r1
    exact ⟨vs, r2, r4⟩
 ·cases p with
  | none => cases hq
  | some L => cases hq; exact A.own i _ L hi rfl hp
theorem Sy.cellEq (A : Sy n T H ks G0 w0 G a w) (i : Nat) {cs cs' : List SV} {H' : Hp} (hi : lg H i = some (some (.blk cs))) (hd : denL G cs' = denL G cs) (hH : stH H i (some (.blk cs')) = H') : Sy n T H' ks G0 w0 G a w := by
 subst hH
 rw [lg_is] at hi
 have hilt := (List.getElem?_eq_some_iff.1 hi).1
 have hold : ∀ (j : Nat) (e : Ent), (stH H i (some (.blk cs')))[j]? = some (some e) → (j ≠ i ∧ H[j]? = some (some e)) ∨ (j = i ∧ e = .blk cs') := by
  intro j e h
  rw [stH_is] at h
  by_cases hj : j = i
  ·subst hj; rw [List.getElem?_set_self hilt] at h; cases h; exact .inr ⟨rfl, rfl⟩
  ·rw [List.getElem?_set_ne (Ne.symm hj)] at h; exact .inl ⟨hj, h⟩
 refine ⟨A.size, A.defers, A.get, ⟨by rw [stH_is]; simpa using A.mem.len, fun j e he => ?_, fun j k e f L M hjk g1 g2 g3 g4 g5 g6 => ?_⟩, A.pre, fun j e L g1 g2 g3 => ?_, A.mix⟩
 ·rcases hold j e he with ⟨_, h⟩ | ⟨rfl, rfl⟩
  ·exact A.mem.ent j e h
  ·obtain ⟨L, vs, h1, h2, h3⟩ := A.mem.ent j _ hi
   exact ⟨L, vs, h1, by rw [hd]; exact h2, h3⟩
 ·rcases hold j e g1 with ⟨_, h1⟩ | ⟨rfl, rfl⟩
  ·rcases hold k f g2 with ⟨_, h2⟩ | ⟨rfl, rfl⟩
   ·exact A.mem.sep j k e f L M hjk h1 h2 g3 g4 g5 g6
   ·exact A.mem.sep j k e _ L M hjk h1 hi g3 g4 g5 (fun h => h)
  ·rcases hold k f g2 with ⟨_, h2⟩ | ⟨rfl, rfl⟩
   ·exact A.mem.sep j k _ f L M hjk hi h2 rfl g4 g5 g6
   ·exact absurd rfl hjk
 ·rcases hold j e g1 with ⟨_, h1⟩ | ⟨rfl, rfl⟩
  ·exact A.own j e L h1 g2 g3
  ·exact A.own j _ L hi rfl g3
theorem Sy.slotEq (A : Sy n T H ks G0 w0 G a w) (t : Nat) {x y : SV} (hx : look T t = some x) (hd : den G y = den G x) : Sy n ((t, y) :: T) H ks G0 w0 G a w :=
 ⟨A.size, A.defers, fun q z hz => by
  unfold look at hz
  cases hb : Nat.beq t q with
  | true => rw [hb] at hz; cases hz; have := Nat.eq_of_beq_eq_true hb; subst this; rw [hd]; exact A.get t x hx
  | false => rw [hb] at hz; exact A.get q z hz, A.mem, A.pre, A.own, A.mix⟩
theorem Sy.takeEnt (A : Sy n T H ks G0 w0 G a w) {L : Loc} {en : Ent} (hen : EntOK G w (some L) en) (hmu : en.mut = true) (hn : ∀ (i : Nat) (e : Ent) (M : Loc), H[i]? = some (some e) → G[i]? = some (some M) → ¬ e.empty → M.b ≠ L.b) (ho : w0.heap.size ≤ L.b) :
  Sy n T (H ++ [some en]) ks G0 w0 (G ++ [some L]) a w := by
 have hlen := A.mem.len
 have hold : ∀ (i : Nat) (x : Ent), (H ++ [some en])[i]? = some (some x) → (H[i]? = some (some x) ∧ i < H.length) ∨ (i = H.length ∧ x = en) := by
  intro i x h
  by_cases hi : i < H.length
  ·rw [List.getElem?_append_left hi] at h; exact .inl ⟨h, hi⟩
  ·rw [List.getElem?_append_right (by omega)] at h
   have : i - H.length = 0 := by
    cases hq : i - H.length with
    | zero => rfl
    | succ k => rw [hq] at h; simp at h
   rw [this] at h
   simp at h
   exact .inr ⟨by omega, h.symm⟩
 have hG : ∀ i, i < H.length → (G ++ [some L])[i]? = G[i]? := fun i hi => List.getElem?_append_left (by omega)
 have hGn : (G ++ [some L])[H.length]? = some (some L) := by rw [List.getElem?_append_right (by omega), hlen]; simp
 refine ⟨A.size, A.defers, fun q x hx => den_mono _ x (A.get q x hx), ⟨by simp [hlen], ?_, ?_⟩, ?_, ?_, A.mix⟩
 ·intro i x h
  rcases hold i x h with ⟨h1, h2⟩ | ⟨rfl, rfl⟩
  ·rw [hG i h2]; exact (A.mem.ent i x h1).more _
  ·rw [hGn]; exact hen.more _
 ·intro i j x y M N hij h1 h2 h3 h4 h5 h6
  rcases hold i x h1 with ⟨k1, k2⟩ | ⟨rfl, rfl⟩
  ·rw [hG i k2] at h4
   rcases hold j y h2 with ⟨k3, k4⟩ | ⟨rfl, rfl⟩
   ·rw [hG j k4] at h5; exact A.mem.sep i j x y M N hij k1 k3 h3 h4 h5 h6
   ·rw [hGn] at h5; cases h5; exact hn i x M k1 h4 (mut_full h3)
  ·rw [hGn] at h4; cases h4
   rcases hold j y h2 with ⟨k3, k4⟩ | ⟨rfl, rfl⟩
   ·rw [hG j k4] at h5; exact fun z => hn j y N k3 h5 h6 z.symm
   ·exact absurd rfl hij
 ·obtain ⟨F, hF⟩ := A.pre; exact ⟨F ++ [some L], by rw [hF, List.append_assoc]⟩
 ·intro i x M h1 h2 h3
  rcases hold i x h1 with ⟨k1, k2⟩ | ⟨rfl, rfl⟩
  ·rw [hG i k2] at h3; exact A.own i x M k1 h2 h3
  ·rw [hGn] at h3; cases h3; exact .inr ho
theorem ldixE {x : Operand} {ty i q s m k : Nat} {cs r : List SV} (hX : Y.ok P = true) (hop : o.op = .load ty x) (hg : guardS ops T o.guard = some .run) (hx : evS T x = some (.ix (.ptr i q) s m (k : Int) 0)) (hH : lg H i = some (some (.blk cs))) (hc : cellS ⟨Y, true⟩ ty cs (q + k * s) = some (.agg r)) :
  EffOK P n ops ks G0 w0 T H o (.agg r) H := fun G a w A => by
 have hw := gd_run (gd := none) A hg
 obtain ⟨d, op, ty', pos, af, gd⟩ := o
 simp only at hop
 subst hop
 have hvx := A.ev hx
 rw [ix_ptr (q := q + k * s) k (by omega)] at hvx
 have hs : loadS ⟨Y, true⟩ H ty (.ptr i (q + k * s)) = some (.agg r, []) := by
  simp only [loadS, baseS, hH, selL, hc]
 obtain ⟨z, hz, h3⟩ := loadS_do (X := ⟨Y, true⟩) (P := P) (ops := ops) (d := d) (ty := ty') (pos := pos) (af := af) (gd := gd) (x := x) hX A hs hvx
 exact h3 (fun p hp => by cases hp) rfl hw _ ⟨[], by simpa using hz, by simpa using A.ms⟩
theorem pnilE {x y : Operand} {t rt i q : Nat} {en : Ent} (hop : o.op = .binOp .eql t x y rt) (hg : guardS ops T o.guard = some .run) (hx : evS T x = some (.ptr i q)) (hy : evS T y = some (.v (.pointer none))) (hi : lg H i = some (some en)) (ht : P.underlying t = some (.pointer (P.pointee t))) : EffOK P n ops ks G0 w0 T H o .ff H := fun G a w A => by
 have hw := gd_run (gd := none) A hg
 obtain ⟨d, op, ty, pos, af, gd⟩ := o
 simp only at hop
 subst hop
 have hvx := A.ev hx
 have hvy := A.ev hy
 unfold den at hvx hvy
 split at hvx
 ·next L hL =>
  simp only [Option.some.injEq] at hvx hvy
  exact d_bin hw hvx.symm hvy.symm ⟨by simp [eqGuard], run_eql_pointer_nil w t _ ht⟩ ⟨[], rfl, by simpa using A.ms⟩
 ·cases hvx
theorem nckE {x : Operand} {i s m e c q : Nat} {j : Int} {f : Nat → List SV} (hop : o.op = .nilCheck x) (hg : guardS ops T o.guard = some .run) (hx : evS T x = some (.el i s j q)) (hi : lg H i = some (some (.row e s m c f))) (hj : j.toNat < m) : EffOK P n ops ks G0 w0 T H o (.el i s j q) H := fun G a w A => by
 have hw := gd_run (gd := none) A hg
 obtain ⟨d, op, ty, pos, af, gd⟩ := o
 simp only at hop
 subst hop
 have hvx := A.ev hx
 rw [lg_is] at hi
 obtain ⟨L, vs, q1, _⟩ := row_range (A.mem.ent i _ hi) hj
 have hp : G[i]? = some (some L) := by
  cases hq : G[i]? with
  | none => rw [hq] at q1; cases q1
  | some p => rw [hq] at q1; simp only [Option.getD_some] at q1; rw [q1]
 have hden : den G (.el i s j q) = some (.pointer (some ⟨L.b, L.pre.length + j.toNat * s + q, none⟩)) := by unfold den; rw [hp]; rfl
 rw [hden] at hvx
 exact d_nilCheck hw (by rw [← Option.some.inj hvx]) ⟨[], by simpa using hden, by simpa using A.ms⟩
theorem Sy.nilPlace (A : Sy n T H ks G0 w0 G a w) (e s : Nat) (f : Nat → List SV) (htot : ∀ k, ∃ vs, denL [] (f k) = some vs ∧ vs.length = s) : Sy n T (H ++ [some (.row e s 0 0 f)]) ks G0 w0 (G ++ [none]) a w := by
 have hlen := A.mem.len
 have hold : ∀ (j : Nat) (x : Ent), (H ++ [some (.row e s 0 0 f)])[j]? = some (some x) → (H[j]? = some (some x) ∧ j < H.length) ∨ (j = H.length ∧ x = .row e s 0 0 f) := by
  intro j x h
  by_cases hj : j < H.length
  ·rw [List.getElem?_append_left hj] at h; exact .inl ⟨h, hj⟩
  ·rw [List.getElem?_append_right (by omega)] at h
   have : j - H.length = 0 := by
    cases hq : j - H.length with
    | zero => rfl
    | succ k => rw [hq] at h; simp at h
   rw [this] at h
   simp at h
   exact .inr ⟨by omega, h.symm⟩
 have hG : ∀ j, j < H.length → (G ++ [(none : Option Loc)])[j]? = G[j]? := fun j hj => List.getElem?_append_left (by omega)
 have hGn : (G ++ [(none : Option Loc)])[H.length]? = some none := by rw [List.getElem?_append_right (by omega), hlen]; simp
 have A1 : Sy n T (H ++ [some (.row e s 0 0 f)]) ks G0 w0 (G ++ [none]) a w := by
  refine ⟨A.size, A.defers, fun t x hx => den_mono _ x (A.get t x hx), ⟨by simp [hlen], ?_, ?_⟩, ?_, ?_, A.mix⟩
  ·intro j x h
   rcases hold j x h with ⟨h2, h3⟩ | ⟨rfl, rfl⟩
   ·rw [hG j h3]; exact (A.mem.ent j x h2).more _
   ·rw [hGn]; exact ⟨htot, fun L h => (by cases h), [], rfl, by simp, .inl ⟨rfl, rfl⟩⟩
  ·intro j k x y L M hjk h1 h2 h3 h4 h5 h6
   rcases hold j x h1 with ⟨a2, a3⟩ | ⟨rfl, rfl⟩
   ·rw [hG j a3] at h4
    rcases hold k y h2 with ⟨b2, b3⟩ | ⟨rfl, rfl⟩
    ·rw [hG k b3] at h5; exact A.mem.sep j k x y L M hjk a2 b2 h3 h4 h5 h6
    ·rw [hGn] at h5; cases h5
   ·rw [hGn] at h4; cases h4
  ·obtain ⟨F, hF⟩ := A.pre; exact ⟨F ++ [none], by rw [hF, List.append_assoc]⟩
  ·intro j x L h1 h2 h3
   rcases hold j x h1 with ⟨a2, a3⟩ | ⟨rfl, rfl⟩
   ·rw [hG j a3] at h3; exact A.own j x L a2 h2 h3
   ·rw [hGn] at h3; cases h3
 exact A1
theorem Sy.nilCel1 (A : Sy n T H ks G0 w0 G a w) (i e s : Nat) (f : Nat → List SV) {H' : Hp} (hi : lg H i = some (some (.blk [.sla none 0 0]))) (htot : ∀ k, ∃ vs, denL [] (f k) = some vs ∧ vs.length = s) (hH : stH (H ++ [some (.row e s 0 0 f)]) i (some (.blk [.sl H.length 0 0])) = H') : ∃ G', Sy n T H' ks G0 w0 G' a w := by
 have B := A.nilPlace e s f htot
 rw [lg_is] at hi
 refine ⟨_, B.cellEq i (cs := [.sla none 0 0]) (by rw [lg_is, List.getElem?_append_left (List.getElem?_eq_some_iff.1 hi).1]; exact hi) ?_ hH⟩
 have : den (G ++ [none]) (.sl H.length 0 0) = some (.slice none 0 0) := by
  unfold den
  rw [List.getElem?_append_right (by rw [A.mem.len]; exact Nat.le_refl _), A.mem.len]
  simp [rm]
 unfold denL
 rw [this]
 rfl
theorem Sy.layCell (A : Sy n T H ks G0 w0 G a w) (i j : Nat) {e s m c : Nat} {f : Nat → List SV} {cs : List SV} {H' : Option Addr → Nat → Hp} (hi : lg H i = some (some (.row e s m c f))) (hj : lg H j = some (some (.blk (.sl i m c :: cs)))) (hij : Nat.beq i j = false) (hH : ∀ ao cp, stH (stH H i none) j (some (.blk (.sla ao m cp :: cs))) = H' ao cp) :
  ∃ ao cp, Sy n T (H' ao cp) ks G0 w0 G a w ∧ LstAt ao s m f w (keys (H' ao cp) G) ∧ (∀ q : Addr, ao = some q → ks.contains q.block = true ∨ w0.heap.size ≤ q.block) := by
 obtain ⟨ao, cp, hd, A1, hl, hfr⟩ := A.layAt i hi rfl
 have hne : i ≠ j := fun e => by subst e; rw [Nat.beq_refl] at hij; cases hij
 have hj1 : lg (stH H i none) j = some (some (.blk (.sl i m c :: cs))) := by
  rw [lg_is] at hj ⊢
  rw [stH_is, List.getElem?_set_ne hne]; exact hj
 have A2 := A1.cellEq j (cs' := .sla ao m cp :: cs) hj1 (by
  unfold denL
  rw [hd]
  rfl) (hH ao cp)
 refine ⟨ao, cp, A2, LstAt.ok w _ w _ hl (Mix.refl _ _) (fun b hb => .inl ?_), hfr⟩
 obtain ⟨k, en, L, g1, g2, g3, g4⟩ := mem_keys.1 hb
 rw [← hH ao cp, stH_is] at g1
 by_cases hk : k = j
 ·subst hk
  rw [lg_is] at hj1
  exact mem_keys.2 ⟨k, _, L, hj1, rfl, g3, g4⟩
 ·rw [List.getElem?_set_ne (Ne.symm hk)] at g1
  exact mem_keys.2 ⟨k, en, L, g1, g2, g3, g4⟩
theorem NILC (i e s : Nat) (f : Nat → List SV) {H' : Hp} (A : Sy n T H ks G0 w0 G a w) (hi : lg H i = some (some (.blk [.sla none 0 0]))) (htot : ∀ k, ∃ vs, denL [] (f k) = some vs ∧ vs.length = s) (hH : stH (H ++ [some (.row e s 0 0 f)]) i (some (.blk [.sl H.length 0 0])) = H') (k : ∀ {G}, Sy n T H' ks G0 w0 G a w → Goal P Q K pos a w) : Goal P Q K pos a w := by
 obtain ⟨G', h⟩ := A.nilCel1 i e s f hi htot hH
 exact k h
theorem LAYC (i j : Nat) {e s m c : Nat} {f : Nat → List SV} {cs : List SV} (H' : Option Addr → Nat → Hp) (A : Sy n T H ks G0 w0 G a w) (hi : lg H i = some (some (.row e s m c f))) (hj : lg H j = some (some (.blk (.sl i m c :: cs)))) (hij : Nat.beq i j = false) (hH : ∀ ao cp, stH (stH H i none) j (some (.blk (.sla ao m cp :: cs))) = H' ao cp)
  (k : ∀ ao cp, Sy n T (H' ao cp) ks G0 w0 G a w → LstAt ao s m f w (keys (H' ao cp) G) → (∀ q : Addr, ao = some q → ks.contains q.block = true ∨ w0.heap.size ≤ q.block) → Goal P Q K pos a w) : Goal P Q K pos a w := by
 obtain ⟨ao, cp, h1, h2, h3⟩ := A.layCell i j hi hj hij hH
 exact k ao cp h1 h2 h3
structure OutC (e s m : Nat) (f : Nat → List SV) (L : Loc) (bt cp N : Nat) (w : World) : Prop where
 blk : Blk w L.b (L.pre ++ [Value.slice (some ⟨bt, 0, none⟩) m cp] ++ L.post).toArray L.t
 row : Given e s m f bt cp w
 ne : L.b ≠ bt
 lo : N ≤ L.b
 lt : N ≤ bt
theorem Sy.giveCore (A : Sy n T H [] G0 w0 G a w) (i q t : Nat) {e s m c : Nat} {f : Nat → List SV} (hm : 0 < m) (hi : lg H i = some (some (.blk [.sl q m c]))) (hq : lg H q = some (some (.row e s m c f))) (hiq : Nat.beq i q = false) (ht : look T t = some (.ptr i 0)) :
  ∃ L bt cp, Sy n ((t, adr L.b L.pre.length) :: T) H [] G0 w0 G a w ∧ OutC e s m f L bt cp w0.heap.size w ∧ (keys H G).contains L.b = true ∧ (keys H G).contains bt = true := by
 have hne : i ≠ q := fun e => by subst e; rw [Nat.beq_refl] at hiq; cases hiq
 rw [lg_is] at hi hq
 obtain ⟨L, vs, p1, p2, p3⟩ := A.mem.ent i _ hi
 have hGi : G[i]? = some (some L) := by
  cases hz : G[i]? with
  | none => rw [hz] at p1; cases p1
  | some p => rw [hz] at p1; simp only [Option.getD_some] at p1; rw [p1]
 obtain ⟨h1, h2, xs, h3, h4⟩ := A.mem.ent q _ hq
 obtain ⟨M, _, q1, _⟩ := row_range (A.mem.ent q _ hq) (k := 0) hm
 have hGq : G[q]? = some (some M) := by
  cases hz : G[q]? with
  | none => rw [hz] at q1; cases q1
  | some p => rw [hz] at q1; simp only [Option.getD_some] at q1; rw [q1]
 rw [hGq] at h2 h4
 have hpre : M.pre = [] := h2 M rfl
 have h4' : w.ownsRow 0 e s (.slice (some ⟨M.b, 0, none⟩) m (c + rm (some M))) m xs := by
  have : (Option.map (fun L : Loc => (⟨L.b, L.pre.length, none⟩ : Addr)) (some M)) = some ⟨M.b, 0, none⟩ := by simp [hpre]
  rw [← this]; exact h4
 have hvs : vs = [.slice (some ⟨M.b, 0, none⟩) m (c + rm (some M))] := by
  have : denL G [.sl q m c] = some [.slice (some ⟨M.b, 0, none⟩) m (c + rm (some M))] := by
   unfold denL den
   rw [hGq]
   simp [hpre, denL]
  rw [this] at p2; exact (Option.some.inj p2).symm
 subst hvs
 have own : ∀ {k : Nat} {en : Ent} {L : Loc}, H[k]? = some (some en) → en.mut = true → G[k]? = some (some L) → w0.heap.size ≤ L.b := fun h1 h2 h3 => (A.own _ _ _ h1 h2 h3).elim (fun h => by cases h) id
 refine ⟨L, M.b, c + rm (some M), A.slotEq t ht (by unfold den; rw [hGi]; rfl), ⟨p3, ⟨h1, xs, h3, h4'⟩, A.mem.sep i q _ _ L M hne hi hq rfl hGi hGq (fun h => h), own hi rfl hGi, own hq rfl hGq⟩, mem_keys.2 ⟨i, _, L, hi, rfl, hGi, rfl⟩, mem_keys.2 ⟨q, _, M, hq, rfl, hGq, rfl⟩⟩
theorem Sy.takeCore (A : Sy n T H ks G0 w0 G a w) (t : Nat) {e s m bt cp N : Nat} {f : Nat → List SV} {L : Loc} {H' : Hp} (ho : OutC e s m f L bt cp N w) (hN : w0.heap.size ≤ N) (hold : ∀ (i : Nat) (e : Ent) (M : Loc), H[i]? = some (some e) → G[i]? = some (some M) → ¬ e.empty → M.b < N) (ht : look T t = some (adr L.b L.pre.length)) (hH : H ++ [some (.row e s m 0 f)] ++ [some (.blk [.sl H.length m 0])] = H') :
  ∃ G', Sy n ((t, .ptr (H.length + 1) 0) :: T) H' ks G0 w0 G' a w ∧ ∀ b, (keys H' G').contains b = true → b < N ∨ b = L.b ∨ b = bt := by
 subst hH
 have hlen := A.mem.len
 obtain ⟨p1, xs, p2, p3⟩ := ho.row
 have A1 := A.takeEnt (L := ⟨bt, [], List.replicate cp undef, e⟩) (en := .row e s m 0 f) ⟨p1, fun L hL => by cases hL; rfl, xs, p2, by simpa [rm] using p3⟩ rfl (fun i e M h1 h2 h3 => by have := hold i e M h1 h2 h3; have := ho.lt; show M.b ≠ bt; omega) (Nat.le_trans hN ho.lt)
 have hG1 : (G ++ [some (⟨bt, [], List.replicate cp undef, e⟩ : Loc)])[H.length]? = some (some ⟨bt, [], List.replicate cp undef, e⟩) := by rw [List.getElem?_append_right (by omega), hlen]; simp
 have hd : denL (G ++ [some (⟨bt, [], List.replicate cp undef, e⟩ : Loc)]) [.sl H.length m 0] = some [.slice (some ⟨bt, 0, none⟩) m cp] := by
  unfold denL den
  rw [hG1]
  simp [rm, denL]
 have A2 := A1.takeEnt (L := L) (en := .blk [.sl H.length m 0]) ⟨L, _, rfl, hd, ho.blk⟩ rfl (fun i e' M h1 h2 h3 => by
  by_cases hi : i < H.length
  ·rw [List.getElem?_append_left hi] at h1
   rw [List.getElem?_append_left (by omega)] at h2
   have := hold i e' M h1 h2 h3; have := ho.lo; omega
  ·have hi2 : i = H.length := by
    have := (List.getElem?_eq_some_iff.1 h1).1
    simp at this; omega
   subst hi2
   rw [hG1] at h2
   cases h2
   exact fun z => ho.ne z.symm) (Nat.le_trans hN ho.lo)
 refine ⟨_, A2.slotEq t ht ?_, fun b hb => ?_⟩
 ·unfold den
  rw [List.getElem?_append_right (by simp; omega)]
  simp [hlen]
 ·obtain ⟨i, en, M, g1, g2, g3, g4⟩ := mem_keys.1 hb
  by_cases hi : i < H.length
  ·rw [List.append_assoc, List.getElem?_append_left hi] at g1
   rw [List.append_assoc, List.getElem?_append_left (by omega)] at g3
   exact .inl (by rw [← g4]; exact hold i en M g1 g3 (mut_full g2))
  ·by_cases hi2 : i = H.length
   ·subst hi2
    rw [List.getElem?_append_left (by simp; omega), hG1] at g3
    cases g3
    exact .inr (.inr g4.symm)
   ·have hi3 : i = H.length + 1 := by
     have := (List.getElem?_eq_some_iff.1 g1).1
     simp at this; omega
    subst hi3
    rw [List.getElem?_append_right (by simp; omega)] at g3
    simp [hlen] at g3
    subst g3
    exact .inr (.inl g4.symm)
end
end Go.Proofs.YtjkppaijicjpoaaGreatDoor
namespace Go.Proofs.YtjkppaijicjpoaaGreatDoor.Mc
open Go.RowKit
set_option linter.unusedVariables false
set_option linter.unusedSimpArgs false
set_option maxRecDepth 100000
set_option maxHeartbeats 2000000
set_option simprocs false
def Th.z : Th := ⟨0, fun _ => 0⟩
abbrev rnT (c : Cde) (s : Th) : List SV := rnS (.sla c.ao c.l.length c.cp) ((s.at_ : Nat) : Int) s.r
structure CoreOK (cs : List Cde) (ts : List Th) (nn : Nat) : Prop where
 n : ts.length = cs.length
 m : cs.length = nn
 r : ∀ k, k < cs.length → RCd (cs.getD k Cde.z).l
 a : ∀ k, k < cs.length → (ts.getD k Th.z).at_ ≤ (cs.getD k Cde.z).l.length
def setTh (cs : List Cde) (ts : List Th) (j old : Int) : List Th := ts.set j.toNat (paT (cs.getD j.toNat Cde.z).l (ts.getD j.toNat Th.z) old)
theorem setTh_len {cs : List Cde} {ts : List Th} {j old : Int} : (setTh cs ts j old).length = ts.length := by unfold setTh; simp
theorem gd_eq {α : Type} {l : List α} {k : Nat} {x d : α} (h : k < l.length) : (l.set k x).getD k d = x := by simp [List.getD, h]
theorem gd_ne {α : Type} {l : List α} {j k : Nat} {x d : α} (h : j ≠ k) : (l.set k x).getD j d = l.getD j d := by simp [List.getD, List.getElem?_set_ne (Ne.symm h)]
theorem CoreOK.set {cs : List Cde} {ts : List Th} {nn : Nat} (h : CoreOK cs ts nn) {j : Int} (hj : 0 ≤ j ∧ j < ((nn : Nat) : Int)) (old : Int) : CoreOK cs (setTh cs ts j old) nn := by
 have hn := h.n
 have hm := h.m
 refine ⟨by rw [setTh_len]; exact h.n, h.m, h.r, fun k hk => ?_⟩
 unfold setTh
 by_cases e : k = j.toNat
 ·subst e; rw [gd_eq (by omega)]; exact paT_le (h.r _ hk) (h.a _ hk) old
 ·rw [gd_ne e]; exact h.a k hk
theorem rcd_nil : RCd [] := ⟨by decide, fun k hk => by cases hk⟩
theorem cdat_nil {w : World} {ks : List Nat} : CdAt none [] w ks := ⟨fun k => ⟨_, rfl⟩, .inl rfl⟩
theorem FnI.free {I : Amb} {P : Program} {f : Nat} {args : List SV} {H : Hp} {R : SV → Hp → Prop} (h : FnI I P f args H R) (hI : ∀ w ks, I w ks) : Fn P f args H R := ⟨h.1, fun G w vs hM hv => h.2 G w vs hM (hI _ _) hv⟩
abbrev _root_.Go.Proofs.YtjkppaijicjpoaaGreatDoor.coR9 (cs : List Cde) (ts : List Th) (nn : Nat) : Ent := .row 89 10 nn 0 (fun zz => rnT (cs.getD zz Cde.z) (ts.getD zz Th.z))
theorem spotE_ (cs : List Cde) (ts : List Th) (nn : Nat) (hC : CoreOK cs ts nn) (j : Int) (hj : 0 ≤ j ∧ j < ((nn : Nat) : Int)) : FnI (CodesAt cs) Tryz.prog 46 [.el 0 10 j 0] [some (coR9 cs ts nn)] (Rt (.tup [.agg [.int .i64 (spL ((cs.getD ((j).toNat) Cde.z).l.getD ((((ts.getD ((j).toNat) Th.z).at_ : Nat) : Int)).toNat In.z)), .int .i64 (spM (ts.getD ((j).toNat) Th.z).r ((cs.getD ((j).toNat) Cde.z).l.getD ((((ts.getD ((j).toNat) Th.z).at_ : Nat) : Int)).toNat In.z))], .int .i64 (spD (ts.getD ((j).toNat) Th.z).r ((cs.getD ((j).toNat) Cde.z).l.getD ((((ts.getD ((j).toNat) Th.z).at_ : Nat) : Int)).toNat In.z)), .bool (mopI ((cs.getD ((j).toNat) Cde.z).l.getD ((((ts.getD ((j).toNat) Th.z).at_ : Nat) : Int)).toNat In.z))]) [some (coR9 cs ts nn)]) := by
 have hn := hC.n
 have hm := hC.m
 have hk : (j).toNat < ts.length := by omega
 exact FnI.mono (fnI_el (F := fun zz => rnT (cs.getD zz Cde.z) (ts.getD zz Th.z)) (F' := fun zz => rnT (cs.getD zz Cde.z) (ts.getD zz Th.z)) (j).toNat rfl (by omega) (spot_ (cs.getD ((j).toNat) Cde.z).l (cs.getD ((j).toNat) Cde.z).ao (cs.getD ((j).toNat) Cde.z).cp (ts.getD ((j).toNat) Th.z) (hC.r _ (by omega)) (hC.a _ (by omega))) rfl rfl (fun q hq => rfl) ⟨_, rfl, rfl⟩) (fun w ks h => h.at (by omega))
theorem passE_ (cs : List Cde) (ts : List Th) (nn : Nat) (hC : CoreOK cs ts nn) (j old : Int) (hj : 0 ≤ j ∧ j < ((nn : Nat) : Int)) : FnI (CodesAt cs) Tryz.prog 38 [.el 0 10 j 0, .int .i64 old] [some (coR9 cs ts nn)] (Rt (.bool (!((((ts.getD ((j).toNat) Th.z).at_ : Nat) : Int) == (((cs.getD ((j).toNat) Cde.z).l.length : Nat) : Int)))) [some (coR9 cs (setTh cs ts j old) nn)]) := by
 have hn := hC.n
 have hm := hC.m
 have hk : (j).toNat < ts.length := by omega
 exact FnI.mono (fnI_el (F := fun zz => rnT (cs.getD zz Cde.z) (ts.getD zz Th.z)) (F' := fun zz => rnT (cs.getD zz Cde.z) ((setTh cs ts j old).getD zz Th.z)) (j).toNat rfl (by omega) (by
   have e : rnT (cs.getD ((j).toNat) Cde.z) ((setTh cs ts j old).getD (j).toNat Th.z) = rnT (cs.getD ((j).toNat) Cde.z) (paT (cs.getD ((j).toNat) Cde.z).l (ts.getD ((j).toNat) Th.z) old) := by unfold setTh; rw [gd_eq hk]
   show FnI _ _ _ _ _ (Rt _ [some (.blk (rnT (cs.getD ((j).toNat) Cde.z) ((setTh cs ts j old).getD (j).toNat Th.z)))])
   rw [e]
   exact pass_ (cs.getD ((j).toNat) Cde.z).l (cs.getD ((j).toNat) Cde.z).ao (cs.getD ((j).toNat) Cde.z).cp (ts.getD ((j).toNat) Th.z) old (hC.r _ (by omega)) (hC.a _ (by omega))) rfl rfl (fun q hq => by show rnT _ _ = rnT _ _; unfold setTh; rw [gd_ne hq]) ⟨_, rfl, rfl⟩) (fun w ks h => h.at (by omega))
theorem readyE_ (cs : List Cde) (ts : List Th) (nn : Nat) (hC : CoreOK cs ts nn) (j : Int) (hj : 0 ≤ j ∧ j < ((nn : Nat) : Int)) : FnI (CodesAt cs) Tryz.prog 43 [.el 0 10 j 0] [some (coR9 cs ts nn)] (Rt (.tup [.agg (inQ9 ((cs.getD ((j).toNat) Cde.z).l.getD ((((ts.getD ((j).toNat) Th.z).at_ : Nat) : Int)).toNat In.z)), .bool (!((((ts.getD ((j).toNat) Th.z).at_ : Nat) : Int) == (((cs.getD ((j).toNat) Cde.z).l.length : Nat) : Int)))]) [some (coR9 cs ts nn)]) := by
 have hn := hC.n
 have hm := hC.m
 have hk : (j).toNat < ts.length := by omega
 exact FnI.mono (fnI_el (F := fun zz => rnT (cs.getD zz Cde.z) (ts.getD zz Th.z)) (F' := fun zz => rnT (cs.getD zz Cde.z) (ts.getD zz Th.z)) (j).toNat rfl (by omega) (ready_ (cs.getD ((j).toNat) Cde.z).l (cs.getD ((j).toNat) Cde.z).ao (cs.getD ((j).toNat) Cde.z).cp (((ts.getD ((j).toNat) Th.z).at_ : Nat) : Int) (ts.getD ((j).toNat) Th.z).r (by have := hC.a (j).toNat (by omega); omega)) rfl rfl (fun q hq => rfl) ⟨_, rfl, rfl⟩) (fun w ks h => h.at (by omega))
theorem fn_ff {P : Program} {f : Nat} {args : List SV} {H H2 : Hp} {x y : SV} (h : Fn P f args H (Rt x H2)) (e : ∀ {G}, den G x = den G y) : Fn P f args H (Rt y H2) := ⟨h.1, fun G w vs hM hv => Calls.mono (h.2 G w vs hM hv) fun e' w' ⟨x', H', F, v, ⟨q1, q2⟩, r⟩ => by subst q1; subst q2; exact ⟨y, _, F, v, ⟨rfl, rfl⟩, by rw [← e]; exact r.1, r.2⟩⟩
theorem spotZ_ : Fn Tryz.prog 46 [.ptr 0 0] [some (.blk [.sla none 0 0, .z9, .z9, .z9, .z9, .z9, .z9, .z9, .z9, .z9])] (Rt (.tup [.agg [.z9, .z9], .z9, .ff]) [some (.blk [.sla none 0 0, .z9, .z9, .z9, .z9, .z9, .z9, .z9, .z9, .z9])]) := by
 have h := FnI.free (spot_ [] none 0 Th.z rcd_nil (Nat.le_refl _)) (fun _ _ => cdat_nil)
 exact fn_ff h rfl
theorem passZ_ (old : Int) : Fn Tryz.prog 38 [.ptr 0 0, .int .i64 old] [some (.blk [.sla none 0 0, .z9, .z9, .z9, .z9, .z9, .z9, .z9, .z9, .z9])] (Rt .ff [some (.blk [.sla none 0 0, .z9, .z9, .z9, .z9, .z9, .z9, .z9, .z9, .z9])]) := by
 have h := FnI.free (pass_ [] none 0 Th.z old rcd_nil (Nat.le_refl _)) (fun _ _ => cdat_nil)
 exact fn_ff h rfl
theorem readyZ_ : Fn Tryz.prog 43 [.ptr 0 0] [some (.blk [.sla none 0 0, .z9, .z9, .z9, .z9, .z9, .z9, .z9, .z9, .z9])] (Rt (.tup [.agg (insS In.z), .ff]) [some (.blk [.sla none 0 0, .z9, .z9, .z9, .z9, .z9, .z9, .z9, .z9, .z9])]) := by
 have h := FnI.free (ready_ [] none 0 0 Th.z.r (by decide)) (fun _ _ => cdat_nil)
 exact fn_ff h rfl
theorem ofI_ (cs : List Cde) (ts : List Th) (nn : Nat) (th : Int) (hth : 0 ≤ th ∧ th < ((nn : Nat) : Int)) : Fn Tryz.prog 37 [.ptr 0 0, .int .i64 th] [some (.blk [.sl 1 nn 0]), some (coR9 cs ts nn)] (Rt (.el 1 10 th 0) [some (.blk [.sl 1 nn 0]), some (coR9 cs ts nn)]) :=
 enterM (n := 24) (by kernel_rfl) Tryz.func37 rfl rfl rfl fun G w a h0 A => N9 21 A rfl rfl fun A => fork 15 A rfl
  (fun h1 A => absurd h1 (by simp; omega))
  (fun h1 A => N9 15 A rfl (ok_d (by omega) <| okE_nil) fun A => R9 A rfl h0 rfl rfl rfl)
theorem ofO_ (cs : List Cde) (ts : List Th) (nn : Nat) (th : Int) (hth : ¬ (0 ≤ th ∧ th < ((nn : Nat) : Int))) : Fn Tryz.prog 37 [.ptr 0 0, .int .i64 th] [some (.blk [.sl 1 nn 0]), some (coR9 cs ts nn)] (Rt (.ptr 2 0) [some (.blk [.sl 1 nn 0]), some (coR9 cs ts nn), some (.blk [.sla none 0 0, .z9, .z9, .z9, .z9, .z9, .z9, .z9, .z9, .z9])]) :=
 enterM (n := 24) (by kernel_rfl) Tryz.func37 rfl rfl rfl fun G w a h0 A => N9 21 A rfl rfl fun A => fork 15 A rfl
  (fun h1 A => N9 9 A rfl rfl fun A => RET hX [2] A ⟨rfl, rfl⟩ rfl rfl rfl rfl rfl rfl rfl rfl h0)
  (fun h1 A => absurd h1 (by simp; omega))
theorem cAtI_ (cs : List Cde) (ts : List Th) (nn : Nat) (th : Int) (hth : 0 ≤ th ∧ th < ((nn : Nat) : Int)) : Fn Tryz.prog 18 [.ptr 0 0, .int .i64 th] [some (.blk [.sl 1 nn 0]), some (coR9 cs ts nn)] (Rt (.int .i64 (((ts.getD ((th).toNat) Th.z).at_ : Nat) : Int)) [some (.blk [.sl 1 nn 0]), some (coR9 cs ts nn)]) :=
 enterM (n := 11) (by kernel_rfl) Tryz.func18 rfl rfl rfl fun G w a h0 A => N9 9 A rfl rfl fun A => C9 [0, 1] (ofI_ cs ts nn th hth) A rfl fun A => q_eff A rfl (nckE rfl rfl rfl rfl (by omega)) fun A => N9 6 A rfl (ok_d (by omega) <| ok_d (by omega) <| okE_nil) fun A => R9 A rfl h0 rfl rfl rfl
theorem cAtO_ (cs : List Cde) (ts : List Th) (nn : Nat) (th : Int) (hth : ¬ (0 ≤ th ∧ th < ((nn : Nat) : Int))) : Fn Tryz.prog 18 [.ptr 0 0, .int .i64 th] [some (.blk [.sl 1 nn 0]), some (coR9 cs ts nn)] (Rt (.int .i64 0) [some (.blk [.sl 1 nn 0]), some (coR9 cs ts nn)]) :=
 enterM (n := 11) (by kernel_rfl) Tryz.func18 rfl rfl rfl fun G w a h0 A => N9 9 A rfl rfl fun A => C9 [0, 1] (ofO_ cs ts nn th hth) A rfl fun A => N9 7 A rfl rfl fun A => R9 A rfl h0 rfl rfl rfl
theorem cSpotI_ (cs : List Cde) (ts : List Th) (nn : Nat) (th : Int) (hC : CoreOK cs ts nn) (hth : 0 ≤ th ∧ th < ((nn : Nat) : Int)) : FnI (CodesAt cs) Tryz.prog 21 [.ptr 0 0, .int .i64 th] [some (.blk [.sl 1 nn 0]), some (coR9 cs ts nn)] (Rt (.tup [.agg [.int .i64 (spL ((cs.getD ((th).toNat) Cde.z).l.getD ((((ts.getD ((th).toNat) Th.z).at_ : Nat) : Int)).toNat In.z)), .int .i64 (spM (ts.getD ((th).toNat) Th.z).r ((cs.getD ((th).toNat) Cde.z).l.getD ((((ts.getD ((th).toNat) Th.z).at_ : Nat) : Int)).toNat In.z))], .int .i64 (spD (ts.getD ((th).toNat) Th.z).r ((cs.getD ((th).toNat) Cde.z).l.getD ((((ts.getD ((th).toNat) Th.z).at_ : Nat) : Int)).toNat In.z)), .bool (mopI ((cs.getD ((th).toNat) Cde.z).l.getD ((((ts.getD ((th).toNat) Th.z).at_ : Nat) : Int)).toNat In.z))]) [some (.blk [.sl 1 nn 0]), some (coR9 cs ts nn)]) :=
 enterI (n := 14) (by kernel_rfl) Tryz.func21 rfl rfl rfl fun G w a h0 hI A => N9 11 A rfl rfl fun A => C9 [0, 1] (ofI_ cs ts nn th hth) A rfl fun A => I9 [1] CodesAt.ok hI (spotE_ cs ts nn hC th hth) A rfl fun A => N9 9 A rfl rfl fun A => R9 A rfl h0 rfl rfl rfl
theorem cSpotO_ (cs : List Cde) (ts : List Th) (nn : Nat) (th : Int) (hth : ¬ (0 ≤ th ∧ th < ((nn : Nat) : Int))) : FnI (CodesAt cs) Tryz.prog 21 [.ptr 0 0, .int .i64 th] [some (.blk [.sl 1 nn 0]), some (coR9 cs ts nn)] (Rt (.tup [.agg [.z9, .z9], .z9, .ff]) [some (.blk [.sl 1 nn 0]), some (coR9 cs ts nn)]) :=
 enterI (n := 14) (by kernel_rfl) Tryz.func21 rfl rfl rfl fun G w a h0 hI A => N9 11 A rfl rfl fun A => C9 [0, 1] (ofO_ cs ts nn th hth) A rfl fun A => C9 [3] spotZ_ A rfl fun A => N9 9 A rfl rfl fun A => R9 A rfl h0 rfl rfl rfl
theorem cPassI_ (cs : List Cde) (ts : List Th) (nn : Nat) (th old : Int) (hC : CoreOK cs ts nn) (hth : 0 ≤ th ∧ th < ((nn : Nat) : Int)) : FnI (CodesAt cs) Tryz.prog 12 [.ptr 0 0, .int .i64 th, .int .i64 old] [some (.blk [.sl 1 nn 0]), some (coR9 cs ts nn)] (Rt (.bool (!((((ts.getD ((th).toNat) Th.z).at_ : Nat) : Int) == (((cs.getD ((th).toNat) Cde.z).l.length : Nat) : Int)))) [some (.blk [.sl 1 nn 0]), some (coR9 cs (setTh cs ts th old) nn)]) :=
 enterI (n := 12) (by kernel_rfl) Tryz.func12 rfl rfl rfl fun G w a h0 hI A => N9 9 A rfl rfl fun A => C9 [0, 1] (ofI_ cs ts nn th hth) A rfl fun A => N9 1 A rfl rfl fun A => I9 [1] CodesAt.ok hI (passE_ cs ts nn hC th old hth) A rfl fun A => N9 4 A rfl rfl fun A => R9 A rfl h0 rfl rfl rfl
theorem cPassO_ (cs : List Cde) (ts : List Th) (nn : Nat) (th old : Int) (hth : ¬ (0 ≤ th ∧ th < ((nn : Nat) : Int))) : FnI (CodesAt cs) Tryz.prog 12 [.ptr 0 0, .int .i64 th, .int .i64 old] [some (.blk [.sl 1 nn 0]), some (coR9 cs ts nn)] (Rt (.ff) [some (.blk [.sl 1 nn 0]), some (coR9 cs ts nn)]) :=
 enterI (n := 12) (by kernel_rfl) Tryz.func12 rfl rfl rfl fun G w a h0 hI A => N9 9 A rfl rfl fun A => C9 [0, 1] (ofO_ cs ts nn th hth) A rfl fun A => N9 1 A rfl rfl fun A => C9 [2] (passZ_ old) A rfl fun A => N9 4 A rfl rfl fun A => R9 A rfl h0 rfl rfl rfl
theorem cThreads_ (cs : List Cde) (ts : List Th) (nn : Nat)  : Fn Tryz.prog 22 [.ptr 0 0] [some (.blk [.sl 1 nn 0]), some (coR9 cs ts nn)] (Rt (.int .i64 ((nn : Nat) : Int)) [some (.blk [.sl 1 nn 0]), some (coR9 cs ts nn)]) :=
 enterM (n := 8) (by kernel_rfl) Tryz.func22 rfl rfl rfl fun G w a h0 A => N9 16 A rfl rfl fun A => R9 A rfl h0 rfl rfl rfl
theorem cReadyI_ (cs : List Cde) (ts : List Th) (nn : Nat) (th : Int) (hC : CoreOK cs ts nn) (hth : 0 ≤ th ∧ th < ((nn : Nat) : Int)) : FnI (CodesAt cs) Tryz.prog 15 [.ptr 0 0, .int .i64 th] [some (.blk [.sl 1 nn 0]), some (coR9 cs ts nn)] (Rt (.tup [.agg (inQ9 ((cs.getD ((th).toNat) Cde.z).l.getD ((((ts.getD ((th).toNat) Th.z).at_ : Nat) : Int)).toNat In.z)), .bool (!((((ts.getD ((th).toNat) Th.z).at_ : Nat) : Int) == (((cs.getD ((th).toNat) Cde.z).l.length : Nat) : Int)))]) [some (.blk [.sl 1 nn 0]), some (coR9 cs ts nn)]) :=
 enterI (n := 12) (by kernel_rfl) Tryz.func15 rfl rfl rfl fun G w a h0 hI A => N9 10 A rfl rfl fun A => C9 [0, 1] (ofI_ cs ts nn th hth) A rfl fun A => I9 [1] CodesAt.ok hI (readyE_ cs ts nn hC th hth) A rfl fun A => N9 7 A rfl rfl fun A => R9 A rfl h0 rfl rfl rfl
theorem cReadyO_ (cs : List Cde) (ts : List Th) (nn : Nat) (th : Int) (hth : ¬ (0 ≤ th ∧ th < ((nn : Nat) : Int))) : FnI (CodesAt cs) Tryz.prog 15 [.ptr 0 0, .int .i64 th] [some (.blk [.sl 1 nn 0]), some (coR9 cs ts nn)] (Rt (.tup [.agg (inQ9 In.z), .ff]) [some (.blk [.sl 1 nn 0]), some (coR9 cs ts nn)]) :=
 enterI (n := 12) (by kernel_rfl) Tryz.func15 rfl rfl rfl fun G w a h0 hI A => N9 10 A rfl rfl fun A => C9 [0, 1] (ofO_ cs ts nn th hth) A rfl fun A => C9 [3] readyZ_ A rfl fun A => N9 7 A rfl rfl fun A => R9 A rfl h0 rfl rfl rfl
end Go.Proofs.YtjkppaijicjpoaaGreatDoor.Mc
namespace Go.Proofs.YtjkppaijicjpoaaGreatDoor.Mc
open Go.RowKit
set_option linter.unusedVariables false
set_option linter.unusedSimpArgs false
set_option maxRecDepth 100000
set_option maxHeartbeats 2000000
set_option simprocs false
theorem cloneN_ (cp : Nat)  : Fn Tryz.prog 30 [.sla none (([] : List In).length) cp] [] (Rt (.sl 0 (([] : List In).length) 0) [some (.row 56 17 (([] : List In).length) 0 (fun zz => insS (([] : List In).getD zz In.z)))]) :=
 enterM (n := 8) (by kernel_rfl) Tryz.func30 rfl rfl rfl fun G w a h0 A => N9 9 A rfl rfl fun A => NILQ (r := .tt) A rfl rfl rfl rfl rfl (e := 56) (by kernel_rfl) rfl fun A => N9 9 A rfl rfl fun A => have A := A.nilRow 2 56 17 (fun zz => insS (([] : List In).getD zz In.z)) rfl (fun z => ⟨_, rfl, rfl⟩); RET hX [0] (x := .sl 0 0 0) A ⟨rfl, rfl⟩ rfl rfl rfl rfl rfl rfl rfl rfl h0
theorem cloneE_ (ad : Addr) (cp : Nat)  : Fn Tryz.prog 30 [.sla (some ad) (([] : List In).length) cp] [] (Rt (.sl 0 (([] : List In).length) 0) [some (.row 56 17 (([] : List In).length) 0 (fun zz => insS (([] : List In).getD zz In.z)))]) :=
 enterM (n := 8) (by kernel_rfl) Tryz.func30 rfl rfl rfl fun G w a h0 A => N9 9 A rfl rfl fun A => NILQ (r := .ff) A rfl rfl rfl rfl rfl (e := 56) (by kernel_rfl) rfl fun A => N9 9 A rfl rfl fun A => APP0 (e := 56) (s := 17) A rfl rfl rfl rfl rfl rfl (by kernel_rfl) fun A => N9 4 A rfl rfl fun A => have A := A.rowAs 0 0 (fun zz => insS (([] : List In).getD zz In.z)) rfl rfl (fun k hk => by omega) (fun z => ⟨_, rfl, rfl⟩); RET hX [0] (x := .sl 0 0 0) A ⟨rfl, rfl⟩ rfl rfl rfl rfl rfl rfl rfl rfl h0
theorem cloneS_ (l : List In) (ad : Addr) (cp : Nat) (hl : l.length ≠ 0) (hn : l.length ≤ 1000000) : FnI (CdAt (some ad) l) Tryz.prog 30 [.sla (some ad) l.length cp] [] (Rt (.sl 0 l.length 0) [some (.row 56 17 l.length 0 (fun zz => insS (l.getD zz In.z)))]) :=
 enterI (n := 8) (by kernel_rfl) Tryz.func30 rfl rfl rfl fun G w a h0 hI A => N9 9 A rfl rfl fun A => NILQ (r := .ff) A rfl rfl rfl rfl rfl (e := 56) (by kernel_rfl) rfl fun A => N9 9 A rfl rfl fun A => ADOPTD 6 hI hl A rfl rfl rfl rfl fun _ A => APPL hX l.length (fun zz => insS (l.getD zz In.z)) A rfl rfl rfl rfl (Nat.le_refl _) (by omega) hn (by omega) (fun k hk => by omega) (fun k hk => by show insS _ = insS _; rw [Nat.zero_add]) (fun z => ⟨_, rfl, rfl⟩) (fun k hk => ⟨_, rfl, okE_nil⟩) fun A => N9 4 A rfl rfl fun A => RET hX [2] (x := .sl 0 l.length 0) A ⟨rfl, rfl⟩ rfl rfl rfl rfl rfl rfl rfl rfl h0
theorem clone_ (l : List In) (ao : Option Addr) (cp : Nat) (hn : l.length ≤ 1000000) : FnI (CdAt ao l) Tryz.prog 30 [.sla ao l.length cp] [] (Rt (.sl 0 l.length 0) [some (.row 56 17 l.length 0 (fun zz => insS (l.getD zz In.z)))]) := by
 by_cases h0 : l.length = 0
 ·have e := List.eq_nil_of_length_eq_zero h0
  subst e
  cases ao with
  | none => exact (cloneN_ cp).toI
  | some ad => exact (cloneE_ ad cp).toI
 ·cases ao with
  | none => exact ⟨(cloneN_ cp).1, fun G w vs hM hI hv => by
    rcases hI.2 with h | ⟨b, o, h, _⟩
    ·exact absurd h h0
    ·cases h⟩
  | some ad => exact cloneS_ l ad cp h0 hn
end Go.Proofs.YtjkppaijicjpoaaGreatDoor.Mc
namespace Go.Proofs.YtjkppaijicjpoaaGreatDoor.Mc
open Go.RowKit
set_option linter.unusedVariables false
set_option linter.unusedSimpArgs false
set_option maxRecDepth 100000
set_option maxHeartbeats 2000000
set_option simprocs false
abbrev ngQ9 (x0 : Int) (nm : List UInt8) (y0 y1 y2 : Int) (rg : Nat → Nat → Int) (c : SV) (x1 : Int) (k : SV) : List SV := [.int .i64 x0, .str nm, .int .i64 y0, .int .i64 y1, .int .i64 y2, .int .i64 (rg 0 0), .int .i64 (rg 0 1), .int .i64 (rg 0 2), .int .i64 (rg 0 3), .int .i64 (rg 0 4), .int .i64 (rg 0 5), .int .i64 (rg 0 6), .int .i64 (rg 0 7), .int .i64 (rg 1 0), .int .i64 (rg 1 1), .int .i64 (rg 1 2), .int .i64 (rg 1 3), .int .i64 (rg 1 4), .int .i64 (rg 1 5), .int .i64 (rg 1 6), .int .i64 (rg 1 7), .int .i64 (rg 2 0), .int .i64 (rg 2 1), .int .i64 (rg 2 2), .int .i64 (rg 2 3), .int .i64 (rg 2 4), .int .i64 (rg 2 5), .int .i64 (rg 2 6), .int .i64 (rg 2 7), c, .int .i64 x1, k]
def iniL (cs : List Cde) (rg : Nat → Rg) : List Th := (List.range cs.length).map fun k => setl (cs.getD k Cde.z).l ⟨0, rg k⟩
theorem iniL_len {cs : List Cde} {rg : Nat → Rg} : (iniL cs rg).length = cs.length := by unfold iniL; simp
theorem iniL_at {cs : List Cde} {rg : Nat → Rg} {k : Nat} (h : k < cs.length) : (iniL cs rg).getD k Th.z = setl (cs.getD k Cde.z).l ⟨0, rg k⟩ := by
 unfold iniL
 rw [List.getD_eq_getElem?_getD, List.getElem?_map, List.getElem?_range h]
 rfl
theorem rcAt {cs : List Cde} (h : ∀ c ∈ cs, RCd c.l) {k : Nat} (hk : k < cs.length) : RCd (cs.getD k Cde.z).l := h _ (by rw [List.getD_eq_getElem?_getD, List.getElem?_eq_getElem hk]; exact List.getElem_mem hk)
theorem tcell {cs : List Cde} {ao co : Option Addr} {cx cn cc : Nat} {rg : Nat → Rg} {x0 x1 y0 y1 y2 : Int} {nm : List UInt8} {k : Nat} (h : k < 3) : cellS ⟨X, true⟩ 23 (ngQ9 x0 nm y0 y1 y2 rg (.sla ao cs.length cx) x1 (.sla co cn cc)) (5 + k * 8) = some (.agg [.int .i64 (rg k 0), .int .i64 (rg k 1), .int .i64 (rg k 2), .int .i64 (rg k 3), .int .i64 (rg k 4), .int .i64 (rg k 5), .int .i64 (rg k 6), .int .i64 (rg k 7)]) := by
 match k, h with
 | 0, _ => rfl
 | 1, _ => rfl
 | 2, _ => rfl
theorem gd_l {l : List Cde} {x : Cde} {m k : Nat} (hm : l.length = m) (h : k < m) : (l ++ [x]).getD k Cde.z = l.getD k Cde.z := by rw [List.getD_eq_getElem?_getD, List.getD_eq_getElem?_getD, List.getElem?_append_left (by omega)]
theorem gd_1 {l : List Cde} {x : Cde} {m : Nat} (hm : l.length = m) : (l ++ [x]).getD m Cde.z = x := by subst hm; simp [List.getD]
structure NJ (cs : List Cde) (N : Nat) (z : List Cde × Nat) (w : World) (ks : List Nat) : Prop where
 m : z.1.length = z.2
 le : z.2 ≤ cs.length
 eq : ∀ k, k < z.2 → (z.1.getD k Cde.z).l = (cs.getD k Cde.z).l
 at_ : ∀ c ∈ z.1, c.lies w ks ∧ ∀ q : Addr, c.ao = some q → N ≤ q.block
theorem NJ.ok {cs : List Cde} {N : Nat} {z : List Cde × Nat} : Amb.OK (NJ cs N z) := fun w ks w' ks' h m hk => ⟨h.m, h.le, h.eq, fun c hc => ⟨LstAt.ok _ _ _ _ (h.at_ c hc).1 m hk, (h.at_ c hc).2⟩⟩
theorem NJ.i0 {cs : List Cde} {N : Nat} {w : World} {ks : List Nat} : NJ cs N ([], 0) w ks := ⟨rfl, Nat.zero_le _, fun k hk => (by cases hk), fun c hc => (by cases hc)⟩
theorem NJ.nx {cs : List Cde} {N : Nat} {z : List Cde × Nat} {w : World} {ks : List Nat} {ao : Option Addr} {cp : Nat} (h : NJ cs N z w ks) (hlt : z.2 < cs.length) (hl : LstAt ao 17 (cs.getD (((z.2 : Nat) : Int)).toNat Cde.z).l.length (fun zz => insS ((cs.getD (((z.2 : Nat) : Int)).toNat Cde.z).l.getD zz In.z)) w ks) (hf : ∀ q : Addr, ao = some q → N ≤ q.block) : NJ cs N (z.1 ++ [(⟨ao, (cs.getD (((z.2 : Nat) : Int)).toNat Cde.z).l, cp⟩ : Cde)], z.2 + 1) w ks := by
 refine ⟨by simp [h.m], by show z.2 + 1 ≤ _; omega, fun k hk => ?_, fun c hc => ?_⟩
 ·by_cases e : k = z.2
  ·subst e; show ((z.1 ++ [_]).getD z.2 Cde.z).l = _; rw [gd_1 h.m]; rfl
  ·have hk' : k < z.2 := by have : k < z.2 + 1 := hk; omega
   show ((z.1 ++ [_]).getD k Cde.z).l = _; rw [gd_l h.m hk']; exact h.eq k hk'
 ·rcases List.mem_append.1 hc with hc | hc
  ·exact h.at_ c hc
  ·rw [List.mem_singleton] at hc; subst hc; exact ⟨hl, hf⟩
theorem NJ.mv {cs : List Cde} {N : Nat} {z : List Cde × Nat} {w : World} {H H' l : Hp} {G : Gr} {m : List Nat} (h : NJ cs N z w (keys H G)) (hlen : H.length = G.length) (h1 : pickH H m = some l) (h2 : renH m H' = some l) : NJ cs N z w (keys H' (pickG m G)) := NJ.ok _ _ _ _ h (Mix.refl _ _) (fun b hb => .inl (keys_pick hlen h1 h2 b hb))
def CoreJ (cs : List Cde) (rg : Nat → Rg) : SV → World → World → Prop := fun x w w' => ∃ (L : Loc) (bt cp : Nat) (cs' : List Cde), x = adr L.b L.pre.length ∧ OutC 89 10 cs.length (fun zz => rnT (cs'.getD zz Cde.z) ((iniL cs rg).getD zz Th.z)) L bt cp w.heap.size w' ∧ CoreOK cs' (iniL cs rg) cs.length ∧ (∀ k, k < cs.length → (cs'.getD k Cde.z).l = (cs.getD k Cde.z).l) ∧ ∀ ks, (∀ b, ks.contains b = true → b < w.heap.size ∨ b = L.b ∨ b = bt) → CodesAt cs' w' ks
theorem coreJ_of {cs : List Cde} {rg : Nat → Rg} {z : List Cde × Nat} {w w' : World} {ks : List Nat} {L : Loc} {bt cp : Nat} (hrc : ∀ c ∈ cs, RCd c.l) (hz : NJ cs w.heap.size z w' ks) (hz2 : z.2 = cs.length) (ho : OutC 89 10 z.2 (fun zz => rnT (z.1.getD zz Cde.z) ((iniL cs rg).getD zz Th.z)) L bt cp w.heap.size w') (h1 : ks.contains L.b = true) (h2 : ks.contains bt = true) : CoreJ cs rg (adr L.b L.pre.length) w w' := by
 have hm := hz.m
 refine ⟨L, bt, cp, z.1, rfl, by rw [← hz2]; exact ho, ⟨by rw [iniL_len]; omega, by omega, fun k hk => ?_, fun k hk => ?_⟩, fun k hk => hz.eq k (by omega), fun ks' hk c hc => ?_⟩
 ·rw [hz.eq k (by omega)]; exact rcAt hrc (by omega)
 ·rw [iniL_at (by omega), hz.eq k (by omega)]; exact setl_le (rcAt hrc (by omega)) (Nat.zero_le _)
 ·obtain ⟨h3, h4⟩ := hz.at_ c hc
  refine ⟨h3.1, ?_⟩
  rcases h3.2 with h | ⟨b, o, e1, e2, e3, e4⟩
  ·exact .inl h
  ·refine .inr ⟨b, o, e1, e2, ?_, e4⟩
   have hb := h4 _ e1
   cases hq : ks'.contains b with
   | false => rfl
   | true =>
    rcases hk b hq with h | h | h
    ·have : w.heap.size ≤ b := hb; omega
    ·subst h; rw [h1] at e3; cases e3
    ·subst h; rw [h2] at e3; cases e3
theorem newCore_ (cs : List Cde) (ao : Option Addr) (cx : Nat) (rg : Nat → Rg) (x0 x1 y0 y1 y2 : Int) (nm : List UInt8) (co : Option Addr) (cn cc : Nat) (hck : ckE cs = 0) : FnW Tryz.prog 8 [.agg (ngQ9 x0 nm y0 y1 y2 rg (.sla ao cs.length cx) x1 (.sla co cn cc))] [] [] (fun w => LstAt ao 1 cs.length (fun zz => cdc (cs.getD zz Cde.z)) w [] ∧ CodesAt cs w []) (CoreJ cs rg) :=
 enterW (n := 50) (by kernel_rfl) Tryz.func8 rfl rfl rfl (fun i e h => by rw [List.getElem?_nil] at h; cases h) fun G w a h0 ho hp A => have hrc := rcd_of hck; N9 18 A rfl rfl fun A => ADOPTD 14 hp.1 (by omega) A rfl rfl rfl rfl fun _ A => I9 [2] CodesAt.ok hp.2 (uCheck_ cs cx (fun c hc => Nat.le_trans (hrc.2 c hc).n (by decide)) (fun hG hn => ucc_ cs cx (fun c hc => Nat.le_trans (bad1_le hG c hc) (by decide)) (by omega))) A rfl fun A => N9 15 A rfl rfl fun A => forkN 20 A rfl
  (fun h1 A => absurd hck h1)
  (fun h1 A => N9 13 A rfl rfl fun A => ADOPTD 23 hp.1 (by omega) A rfl rfl rfl rfl fun _ A => NILC 1 89 10 (fun zz => rnT (([] : List Cde).getD zz Cde.z) ((iniL cs rg).getD zz Th.z)) A rfl (fun z => ⟨_, rfl, rfl⟩) rfl fun A => LOOPJ (fun (z : List Cde × Nat) => [(1, .ptr 0 0), (3, .ptr 1 0), (23, .sl 2 cs.length cx), (24, .int .i64 ((cs.length : Nat) : Int)), (25, .int .i64 ((z.2 : Nat) : Int))]) (fun (z : List Cde × Nat) => [some (.blk (ngQ9 x0 nm y0 y1 y2 rg (.sla ao cs.length cx) x1 (.sla co cn cc))), some (.blk [.sl 3 z.2 0]), some (cdL9 cs), some (coR9 z.1 (iniL cs rg) z.2)]) (fun z w' ks => NJ cs w.heap.size z w' ks) (fun z => cs.length - z.2) ([], 0) ((A.cut [1, 3, 23, 24, 25] rfl).mv 0 [0, 1, 3, 4] rfl rfl rfl rfl h0.symm) NJ.i0 fun z G a w hz hGl A B => have h00 := h0; have h0 := B.mem.len; N9 6 A rfl rfl fun A => forkD 26 A rfl
    (fun h2 A => N9 6 A rfl rfl fun A => have hlt : z.2 < cs.length := (by omega); have hlt3 : z.2 < 3 := (by omega); have hcd := (CodesAt.ok.now B hp.2).at hlt; N9 9 A rfl (ok_d (by have := hz.le; omega) <| ok_d (by have := hz.le; omega) <| okE_nil) fun A => ANY hmo [.sla ((cs.getD ((((z.2 : Nat) : Int)).toNat) Cde.z).ao) ((cs.getD ((((z.2 : Nat) : Int)).toNat) Cde.z).l.length) ((cs.getD ((((z.2 : Nat) : Int)).toNat) Cde.z).cp), .sl 4 ((cs.getD ((((z.2 : Nat) : Int)).toNat) Cde.z).l.length) 0, .int .i64 ((z.2 : Nat) : Int), .ptr 0 5, .ix (.ptr 0 5) 8 3 ((z.2 : Nat) : Int) 0, .agg [.int .i64 (rg z.2 0), .int .i64 (rg z.2 1), .int .i64 (rg z.2 2), .int .i64 (rg z.2 3), .int .i64 (rg z.2 4), .int .i64 (rg z.2 5), .int .i64 (rg z.2 6), .int .i64 (rg z.2 7)], .agg [.sl 4 ((cs.getD ((((z.2 : Nat) : Int)).toNat) Cde.z).l.length) 0, .z9, .int .i64 (rg z.2 0), .int .i64 (rg z.2 1), .int .i64 (rg z.2 2), .int .i64 (rg z.2 3), .int .i64 (rg z.2 4), .int .i64 (rg z.2 5), .int .i64 (rg z.2 6), .int .i64 (rg z.2 7)], .ptr 5 0, .tup []] [1, 7, 8] [4, 5] 2 [([], [4, 5], [some (.blk (ngQ9 x0 nm y0 y1 y2 rg (.sla ao cs.length cx) x1 (.sla co cn cc))), some (.blk [.sl 3 z.2 0]), some (cdL9 cs), some (coR9 z.1 (iniL cs rg) z.2), none, none]), ([1], [5], [some (.blk (ngQ9 x0 nm y0 y1 y2 rg (.sla ao cs.length cx) x1 (.sla co cn cc))), some (.blk [.sl 3 z.2 0]), some (cdL9 cs), some (coR9 z.1 (iniL cs rg) z.2), some (.row 56 17 ((cs.getD ((((z.2 : Nat) : Int)).toNat) Cde.z).l.length) 0 (fun zz => insS ((cs.getD ((((z.2 : Nat) : Int)).toNat) Cde.z).l.getD zz In.z))), none]), ([7], [4], [some (.blk (ngQ9 x0 nm y0 y1 y2 rg (.sla ao cs.length cx) x1 (.sla co cn cc))), some (.blk [.sl 3 z.2 0]), some (cdL9 cs), some (coR9 z.1 (iniL cs rg) z.2), none, some (.blk [.sla none 0 0, .z9, .z9, .z9, .z9, .z9, .z9, .z9, .z9, .z9])]), ([1, 7], [], [some (.blk (ngQ9 x0 nm y0 y1 y2 rg (.sla ao cs.length cx) x1 (.sla co cn cc))), some (.blk [.sl 3 z.2 0]), some (cdL9 cs), some (coR9 z.1 (iniL cs rg) z.2), some (.row 56 17 ((cs.getD ((((z.2 : Nat) : Int)).toNat) Cde.z).l.length) 0 (fun zz => insS ((cs.getD ((((z.2 : Nat) : Int)).toNat) Cde.z).l.getD zz In.z))), some (.blk [.sla none 0 0, .z9, .z9, .z9, .z9, .z9, .z9, .z9, .z9, .z9])]), ([1, 7, 8], [], [some (.blk (ngQ9 x0 nm y0 y1 y2 rg (.sla ao cs.length cx) x1 (.sla co cn cc))), some (.blk [.sl 3 z.2 0]), some (cdL9 cs), some (coR9 z.1 (iniL cs rg) z.2), some (.row 56 17 ((cs.getD ((((z.2 : Nat) : Int)).toNat) Cde.z).l.length) 0 (fun zz => insS ((cs.getD ((((z.2 : Nat) : Int)).toNat) Cde.z).l.getD zz In.z))), some (.blk [.sl 4 ((cs.getD ((((z.2 : Nat) : Int)).toNat) Cde.z).l.length) 0, .z9, .int .i64 (rg z.2 0), .int .i64 (rg z.2 1), .int .i64 (rg z.2 2), .int .i64 (rg z.2 3), .int .i64 (rg z.2 4), .int .i64 (rg z.2 5), .int .i64 (rg z.2 6), .int .i64 (rg z.2 7)])])] [[true, true, true, true, true, true, false, true, false], [false, false, true, true, true, true, true, true, false], [true, true, true, true, true, true, false, false, false], [false, false, true, true, true, true, true, false, true], [false, false, false, false, false, false, false, false, false]] A rfl rfl rfl rfl (by kernel_rfl) rfl (by kernel_rfl) ⟨⟨oV9 0 rfl rfl, ⟨⟨_, _, _, _, 1, rfl, rfl, rfl, rfl, put_at 4 (callIE [] LstAt.ok hcd (clone_ ((cs.getD ((((z.2 : Nat) : Int)).toNat) Cde.z).l) ((cs.getD ((((z.2 : Nat) : Int)).toNat) Cde.z).ao) ((cs.getD ((((z.2 : Nat) : Int)).toNat) Cde.z).cp) (Nat.le_trans (rcAt hrc.2 hlt).n (by decide))) rfl rfl rfl rfl rfl rfl rfl) rfl rfl (le0 h0 rfl) rfl rfl rfl rfl⟩, ⟨oV9 0 rfl rfl, ⟨oV9 0 rfl rfl, ⟨oV9 0 rfl (ok_d (by have := hz.le; omega) <| okE_nil), ⟨oE9 0 rfl (ldixE (k := z.2) hX rfl rfl rfl rfl (tcell hlt3)), ⟨⟨_, _, _, _, 2, rfl, rfl, rfl, rfl, new_at 5 (X := ⟨_, true⟩) hX rfl rfl (le0 h0 rfl) rfl rfl rfl rfl⟩, trivial⟩⟩⟩⟩⟩⟩⟩, ⟨⟨oV9 1 rfl rfl, ⟨oV9 1 rfl rfl, ⟨oV9 1 rfl (ok_d (by have := hz.le; omega) <| okE_nil), ⟨oE9 1 rfl (ldixE (k := z.2) hX rfl rfl rfl rfl (tcell hlt3)), ⟨oV9 1 rfl rfl, ⟨⟨_, _, _, _, 3, rfl, rfl, rfl, rfl, new_at 5 (X := ⟨_, true⟩) hX rfl rfl (le0 h0 rfl) rfl rfl rfl rfl⟩, trivial⟩⟩⟩⟩⟩⟩, ⟨⟨oV9 2 rfl rfl, ⟨⟨_, _, _, _, 3, rfl, rfl, rfl, rfl, put_at 4 (callIE [] LstAt.ok hcd (clone_ ((cs.getD ((((z.2 : Nat) : Int)).toNat) Cde.z).l) ((cs.getD ((((z.2 : Nat) : Int)).toNat) Cde.z).ao) ((cs.getD ((((z.2 : Nat) : Int)).toNat) Cde.z).cp) (Nat.le_trans (rcAt hrc.2 hlt).n (by decide))) rfl rfl rfl rfl rfl rfl rfl) rfl rfl (le0 h0 rfl) rfl rfl rfl rfl⟩, ⟨oV9 2 rfl rfl, ⟨oV9 2 rfl rfl, ⟨oV9 2 rfl (ok_d (by have := hz.le; omega) <| okE_nil), ⟨oE9 2 rfl (ldixE (k := z.2) hX rfl rfl rfl rfl (tcell hlt3)), trivial⟩⟩⟩⟩⟩⟩, ⟨⟨oV9 3 rfl rfl, ⟨oV9 3 rfl rfl, ⟨oV9 3 rfl (ok_d (by have := hz.le; omega) <| okE_nil), ⟨oE9 3 rfl (ldixE (k := z.2) hX rfl rfl rfl rfl (tcell hlt3)), ⟨oV9 3 rfl rfl, ⟨oE9 4 rfl (eff_auto (X := ⟨_, true⟩) (out := .upd 5 [.sl 4 ((cs.getD ((((z.2 : Nat) : Int)).toNat) Cde.z).l.length) 0, .z9, .int .i64 (rg z.2 0), .int .i64 (rg z.2 1), .int .i64 (rg z.2 2), .int .i64 (rg z.2 3), .int .i64 (rg z.2 4), .int .i64 (rg z.2 5), .int .i64 (rg z.2 6), .int .i64 (rg z.2 7)] _) hX rfl rfl), trivial⟩⟩⟩⟩⟩⟩, ⟨trivial, trivial⟩⟩⟩⟩⟩ fun A => N9 2 A rfl rfl fun A => LAYC 4 5 (fun ao' cp' => [some (.blk (ngQ9 x0 nm y0 y1 y2 rg (.sla ao cs.length cx) x1 (.sla co cn cc))), some (.blk [.sl 3 z.2 0]), some (cdL9 cs), some (coR9 z.1 (iniL cs rg) z.2), none, some (.blk (rQ9 (.sla ao' ((cs.getD ((((z.2 : Nat) : Int)).toNat) Cde.z).l.length) cp') 0 (rg z.2)))]) A rfl rfl rfl (fun _ _ => rfl) fun ao' cp' A hl hfr => have hz := NJ.ok.now A hz; have hfr : ∀ q : Addr, ao' = some q → _ ≤ q.block := fun q hq => (hfr q hq).elim (fun h => (B.keys_own _ h).elim (fun h => by cases h) id) (fun h => Nat.le_trans B.mix.size h); have B := B.trans A; have A := B.base; have h0 := B.mem.len; N9 1 A rfl rfl fun A => I9 [5] LstAt.ok hl (settle_ ((cs.getD ((((z.2 : Nat) : Int)).toNat) Cde.z).l) ao' cp' (0 : Int) (rg z.2) (rcAt hrc.2 hlt) (by omega)) A rfl fun A => N9 2 A rfl rfl fun A => DRAWN hX hmo [] [(7, .sl 7 (z.2 + 1) 0, [some (.blk (ngQ9 x0 nm y0 y1 y2 rg (.sla ao cs.length cx) x1 (.sla co cn cc))), some (.blk [.sl 3 z.2 0]), some (cdL9 cs), none, none, some (.blk (rQ9 (.sla ao' ((cs.getD ((((z.2 : Nat) : Int)).toNat) Cde.z).l.length) cp') (((setl (cs.getD ((((z.2 : Nat) : Int)).toNat) Cde.z).l ⟨((0 : Int)).toNat, rg z.2⟩).at_ : Nat) : Int) ((setl (cs.getD ((((z.2 : Nat) : Int)).toNat) Cde.z).l ⟨((0 : Int)).toNat, rg z.2⟩).r))), some (.blk (rQ9 (.sla ao' ((cs.getD ((((z.2 : Nat) : Int)).toNat) Cde.z).l.length) cp') (((setl (cs.getD ((((z.2 : Nat) : Int)).toNat) Cde.z).l ⟨((0 : Int)).toNat, rg z.2⟩).at_ : Nat) : Int) ((setl (cs.getD ((((z.2 : Nat) : Int)).toNat) Cde.z).l ⟨((0 : Int)).toNat, rg z.2⟩).r))), some (.row 89 10 (z.2 + 1) 0 (fun zz => rnT ((z.1 ++ [(⟨ao', (cs.getD (((z.2 : Nat) : Int)).toNat Cde.z).l, cp'⟩ : Cde)]).getD zz Cde.z) ((iniL cs rg).getD zz Th.z)))])] A rfl rfl rfl rfl (by kernel_rfl) ⟨trivial, ⟨appE (i := 3) hX (z.2 + 1) (fun zz => rnT ((z.1 ++ [(⟨ao', (cs.getD (((z.2 : Nat) : Int)).toNat Cde.z).l, cp'⟩ : Cde)]).getD zz Cde.z) ((iniL cs rg).getD zz Th.z)) rfl rfl rfl rfl (by omega) rfl (fun k hk => by show rnT _ _ = rnT _ _; rw [gd_l hz.m hk]) (by show rnT _ _ = _; rw [gd_1 hz.m, iniL_at hlt] <;> rfl) (fun z => ⟨_, rfl, rfl⟩), ⟨trivial, trivial⟩⟩⟩ trivial fun A => N9 6 A rfl (ok_d (by have := hz.le; omega) <| okE_nil) fun A => ⟨((z.1 ++ [(⟨ao', (cs.getD (((z.2 : Nat) : Int)).toNat Cde.z).l, cp'⟩ : Cde)]), z.2 + 1), _, (by show cs.length - (z.2 + 1) < cs.length - z.2; omega), ((NJ.ok.now A hz).nx hlt (LstAt.ok.now A hl) hfr).mv (m := [0, 1, 2, 7]) A.mem.len rfl rfl, (((B.trans A).cut [1, 3, 23, 24, 25] rfl).mv 0 [0, 1, 2, 7] rfl rfl rfl rfl h00.symm)⟩)
    (fun h2 A => N9 10 A rfl rfl fun A => have hz2 : z.2 = cs.length := (by have := hz.le; omega); match (B.trans A).giveCore 1 3 2 (by omega) rfl rfl rfl rfl with | ⟨L, bt, cp, A', ho, hk1, hk2⟩ => RETW hX A' rfl rfl rfl rfl (coreJ_of hrc.2 (NJ.ok.now A hz) hz2 ho hk1 hk2)))
end Go.Proofs.YtjkppaijicjpoaaGreatDoor.Mc
namespace Go.Proofs.YtjkppaijicjpoaaGreatDoor.Mc
open Go.RowKit
set_option linter.unusedVariables false
set_option linter.unusedSimpArgs false
set_option maxRecDepth 100000
set_option maxHeartbeats 2000000
set_option simprocs false
abbrev codA : List In := [(⟨1, 1, -1, -1, 5, 0, 0, -1, 0, 0, false, false, false, 0, 0, 0, false⟩ : In), (⟨5, -1, 1, -1, 0, 0, 0, -1, 8, 0, false, false, false, 0, 0, 0, false⟩ : In)]
abbrev csA (b : Nat) : List Cde := [⟨some ⟨b, 0, none⟩, codA, 2⟩]
abbrev rgA : Nat → Rg := fun _ _ => 0
theorem ckA_ (b : Nat) : ckE (csA b) = 0 := by rfl
theorem lstL_of {α : Type} (d : α) (cf : α → List SV) (s : Nat) (hs : ∀ x, (cf x).length = s) (hin : ∀ x, inL 0 (cf x) = true) (htot : ∀ x, ∃ vs, denL [] (cf x) = some vs) (L : List α) {b : Nat} {vs : List Value} {w : World} {ks : List Nat} (hl : Lies b 0 vs w ks) (hv : denL [] (L.flatMap cf) = some vs) : LstAt (some ⟨b, 0, none⟩) s L.length (fun zz => cf (L.getD zz d)) w ks := by
 refine ⟨fun k => htot _, .inr ⟨b, 0, rfl, hl.1, hl.2.1, fun k hk => ?_⟩⟩
 obtain ⟨r1, r2⟩ := blk_parts d cf s hs hin L k hk
 obtain ⟨r3, r4⟩ := tk_is r1
 rw [dp_is] at r3 r4
 have hd : denL [] (cf (L.getD k d)) = some ((vs.drop (k * s)).take s) := by rw [r3]; exact denL_take s (denL_drop _ hv)
 refine ⟨_, hd, fun q v hq => ?_⟩
 have hlt := (List.getElem?_eq_some_iff.1 hq).1
 simp only [List.length_take, List.length_drop] at hlt
 rw [List.getElem?_take_of_lt (by omega), List.getElem?_drop] at hq
 have := hl.2.2 _ v hq
 rwa [← Nat.add_assoc] at this
theorem preA {b1 b2 b3 lo : Nat} {cz c1 : List SV} {w : World} {ks : List Nat} (hA : Acc lo [(b3, cz), (b2, [.sla (some ⟨b1, 0, none⟩) 2 2]), (b1, c1)] w ks) (hc1 : denL [] c1 = denL [] (codA.flatMap insS)) : LstAt (some ⟨b2, 0, none⟩) 1 (csA b1).length (fun zz => cdc ((csA b1).getD zz Cde.z)) w [] ∧ CodesAt (csA b1) w [] := by
 have hA := hA.bare
 obtain ⟨_, v2, d2, l2⟩ := hA (b2, _) (.tail _ (.head _))
 obtain ⟨_, v1, d1, l1⟩ := hA (b1, _) (.tail _ (.tail _ (.head _)))
 refine ⟨lstL_of Cde.z cdc 1 (fun _ => rfl) (fun _ => rfl) (fun x => ⟨_, rfl⟩) (csA b1) l2 d2, fun c hc => ?_⟩
 rw [List.mem_singleton] at hc
 subst hc
 exact lstL_of In.z insS 17 (fun _ => rfl) (fun _ => rfl) (fun x => ⟨_, rfl⟩) codA l1 (hc1.symm.trans d1)
theorem fnI_ff {I : Amb} {P : Program} {f : Nat} {args : List SV} {H H2 : Hp} {x y : SV} (h : FnI I P f args H (Rt x H2)) (e : ∀ {G}, den G x = den G y) : FnI I P f args H (Rt y H2) := ⟨h.1, fun G w vs hM hI hv => Calls.mono (h.2 G w vs hM hI hv) fun e' w' ⟨x', H', F, v, ⟨q1, q2⟩, r⟩ => by subst q1; subst q2; exact ⟨y, _, F, v, ⟨rfl, rfl⟩, by rw [← e]; exact r.1, r.2⟩⟩
theorem NEWC {P : Program} {n : Nat} {ks : List Nat} {G0 : Gr} {w0 : World} {T : List (Nat × SV)} {H : Hp} {G : Gr} {a : Act} {w : World} {Q : Exit → Act → World → Prop} {K : List Fr} {ops : Array Oper} {o : Oper} {rest : List Oper} {f : Nat} {args az : List SV} {pre : World → Prop} {cs : List Cde} {rg : Nat → Rg} {t : Nat} {H' : List Cde → Hp} (hf : FnW P f args [] [] pre (CoreJ cs rg)) (A : Sy n T H ks G0 w0 G a w) (hp : pre w) (h1 : callS n ops T o = some (f, az)) (h2 : renL [] args = some az) (hd : o.dst = some t)
  (hH : ∀ cs' : List Cde, H ++ [some (coR9 cs' (iniL cs rg) cs.length)] ++ [some (.blk [.sl H.length cs.length 0])] = H' cs')
  (k : ∀ cs' {G a w}, CoreOK cs' (iniL cs rg) cs.length → (∀ k, k < cs.length → (cs'.getD k Cde.z).l = (cs.getD k Cde.z).l) → CodesAt cs' w (keys (H' cs') G) → Sy n ((t, .ptr (H.length + 1) 0) :: T) (H' cs') ks G0 w0 G a w → Goal P Q K (.ops ops rest) a w) : Goal P Q K (.ops ops (o :: rest)) a w := by
 refine CALLW [] hf A hp Off.nil (fun b h => by cases h) h1 h2 rfl rfl rfl fun {x a' w'} hm hJ A' => ?_
 obtain ⟨L, bt, cp, cs', rfl, ho, hok, heq, hcd⟩ := hJ
 rw [hd] at A'
 obtain ⟨G', A2, hk⟩ := A'.takeCore t ho A.mix.size (fun i e M q1 q2 q3 => by
  have := A.mem.ent i e q1
  rw [q2] at this
  exact EntOK.lt this q3) (by simp [extS, look, Nat.beq_refl]) (hH cs')
 refine k cs' hok heq (hcd _ hk) ⟨A2.size, A2.defers, fun q x hx => A2.get q x ?_, A2.mem, A2.pre, A2.own, A2.mix⟩
 unfold look at hx ⊢
 cases hb : Nat.beq t q with
 | true => rw [hb] at hx; exact hx
 | false =>
  rw [hb] at hx
  show look (extS T (some t) _) q = some x
  simp only [extS]
  unfold look
  rw [hb]
  exact hx
theorem aSpot0_ (b1 : Nat) (cs' : List Cde) (hok : CoreOK cs' (iniL (csA b1) rgA) 1) (he : (cs'.getD 0 Cde.z).l = codA) : FnI (CodesAt cs') Tryz.prog 21 [.ptr 0 0, .z9] [some (.blk [.sl 1 1 0]), some (coR9 cs' (iniL (csA b1) rgA) 1)] (Rt (.tup [.agg [.z9, .int .i64 255], .int .i64 5, .tt]) [some (.blk [.sl 1 1 0]), some (coR9 cs' (iniL (csA b1) rgA) 1)]) := by
 have h := cSpotI_ cs' (iniL (csA b1) rgA) 1 0 hok (by decide)
 refine fnI_ff h (fun {G} => ?_)
 rw [show (cs'.getD (0 : Int).toNat Cde.z).l = codA from he]; kernel_rfl
theorem aAt0_ (b1 : Nat) (cs' : List Cde) (hok : CoreOK cs' (iniL (csA b1) rgA) 1) (he : (cs'.getD 0 Cde.z).l = codA) : FnI (CodesAt cs') Tryz.prog 18 [.ptr 0 0, .z9] [some (.blk [.sl 1 1 0]), some (coR9 cs' (iniL (csA b1) rgA) 1)] (Rt (.int .i64 1) [some (.blk [.sl 1 1 0]), some (coR9 cs' (iniL (csA b1) rgA) 1)]) := by
 have h := cAtI_ cs' (iniL (csA b1) rgA) 1 0 (by decide)
 refine fnI_ff h.toI (fun {G} => ?_)
 rfl
theorem aPass0_ (b1 : Nat) (cs' : List Cde) (hok : CoreOK cs' (iniL (csA b1) rgA) 1) (he : (cs'.getD 0 Cde.z).l = codA) : FnI (CodesAt cs') Tryz.prog 12 [.ptr 0 0, .z9, .z9] [some (.blk [.sl 1 1 0]), some (coR9 cs' (iniL (csA b1) rgA) 1)] (Rt (.tt) [some (.blk [.sl 1 1 0]), some (coR9 cs' (setTh cs' (iniL (csA b1) rgA) 0 0) 1)]) := by
 have h := cPassI_ cs' (iniL (csA b1) rgA) 1 0 0 hok (by decide)
 refine fnI_ff h (fun {G} => ?_)
 rw [show (cs'.getD (0 : Int).toNat Cde.z).l = codA from he]; kernel_rfl
theorem aAt1_ (b1 : Nat) (cs' : List Cde) (hok : CoreOK cs' (iniL (csA b1) rgA) 1) (he : (cs'.getD 0 Cde.z).l = codA) : FnI (CodesAt cs') Tryz.prog 18 [.ptr 0 0, .z9] [some (.blk [.sl 1 1 0]), some (coR9 cs' (setTh cs' (iniL (csA b1) rgA) 0 0) 1)] (Rt (.int .i64 2) [some (.blk [.sl 1 1 0]), some (coR9 cs' (setTh cs' (iniL (csA b1) rgA) 0 0) 1)]) := by
 have h := cAtI_ cs' (setTh cs' (iniL (csA b1) rgA) 0 0) 1 0 (by decide)
 refine fnI_ff h.toI (fun {G} => ?_)
 unfold setTh; rw [show (cs'.getD (0 : Int).toNat Cde.z).l = codA from he]; kernel_rfl
theorem aPass1_ (b1 : Nat) (cs' : List Cde) (hok : CoreOK cs' (iniL (csA b1) rgA) 1) (he : (cs'.getD 0 Cde.z).l = codA) : FnI (CodesAt cs') Tryz.prog 12 [.ptr 0 0, .z9, .z9] [some (.blk [.sl 1 1 0]), some (coR9 cs' (setTh cs' (iniL (csA b1) rgA) 0 0) 1)] (Rt (.ff) [some (.blk [.sl 1 1 0]), some (.row 89 10 1 0 (fun zz => rnT (cs'.getD zz Cde.z) ((setTh cs' (setTh cs' (iniL (csA b1) rgA) 0 0) 0 0).getD zz Th.z)))]) := by
 have h := cPassI_ cs' (setTh cs' (iniL (csA b1) rgA) 0 0) 1 0 0 (hok.set (by decide) 0) (by decide)
 refine fnI_ff h (fun {G} => ?_)
 show den G (.bool (!(((((setTh cs' (iniL (csA b1) rgA) 0 0).getD (0 : Int).toNat Th.z).at_ : Nat) : Int) == (((cs'.getD (0 : Int).toNat Cde.z).l.length : Nat) : Int)))) = _; unfold setTh; rw [show (cs'.getD (0 : Int).toNat Cde.z).l = codA from he]; kernel_rfl
theorem aThr0_ (b1 : Nat) (cs' : List Cde) (hok : CoreOK cs' (iniL (csA b1) rgA) 1) (he : (cs'.getD 0 Cde.z).l = codA) : FnI (CodesAt cs') Tryz.prog 22 [.ptr 0 0] [some (.blk [.sl 1 1 0]), some (.row 89 10 1 0 (fun zz => rnT (cs'.getD zz Cde.z) ((setTh cs' (setTh cs' (iniL (csA b1) rgA) 0 0) 0 0).getD zz Th.z)))] (Rt (.int .i64 1) [some (.blk [.sl 1 1 0]), some (.row 89 10 1 0 (fun zz => rnT (cs'.getD zz Cde.z) ((setTh cs' (setTh cs' (iniL (csA b1) rgA) 0 0) 0 0).getD zz Th.z)))]) := by
 have h := cThreads_ cs' (setTh cs' (setTh cs' (iniL (csA b1) rgA) 0 0) 0 0) 1
 refine fnI_ff h.toI (fun {G} => ?_)
 rfl
theorem able_ : Fn Tryz.prog 6 [] [] (Rt .tt []) :=
 enterM (n := 57) (by kernel_rfl) Tryz.func6 rfl rfl rfl fun G w a h0 A => have B := A; have hA := Acc.nil (lo := w.heap.size) (w := w) (ks := keys [] G); have A := A.base; N9 9 A rfl rfl fun A => BSCA [.int .i64 1, .int .i64 1, .int .i64 (-1), .int .i64 (-1), .int .i64 5, .z9, .z9, .int .i64 (-1), .z9, .z9, .ff, .ff, .ff, .z9, .z9, .z9, .ff, .int .i64 5, .int .i64 (-1), .int .i64 1, .int .i64 (-1), .z9, .z9, .z9, .int .i64 (-1), .int .i64 8, .z9, .ff, .ff, .ff, .z9, .z9, .z9, .ff] (X := ⟨_, true⟩) hX B hA A rfl rfl rfl rfl fun b1 B hA A =>
 BSCA [.sla (some ⟨b1, 0, none⟩) 2 2] (X := ⟨_, true⟩) hX B hA A rfl rfl rfl rfl fun b2 B hA A =>
 N9 1 A rfl rfl fun A => BSCA [.int .i64 2, .z9, .z9, .z9, .z9] (X := ⟨_, true⟩) hX B hA A rfl rfl rfl rfl fun b3 B hA A =>
 N9 8 A rfl rfl fun A => NEWC (H' := fun cs' => [some (.blk [.int .i64 2, .str [97], .z9, .z9, .z9, .z9, .z9, .z9, .z9, .z9, .z9, .z9, .z9, .z9, .z9, .z9, .z9, .z9, .z9, .z9, .z9, .z9, .z9, .z9, .z9, .z9, .z9, .z9, .z9, .sla (some ⟨b2, 0, none⟩) 1 1, .int .i64 1, .sla (some ⟨b3, 0, none⟩) 1 1]), some (coR9 cs' (iniL (csA b1) rgA) 1), some (.blk [.sl 1 1 0])]) (newCore_ (csA b1) (some ⟨b2, 0, none⟩) 1 rgA 2 1 0 0 0 [97] (some ⟨b3, 0, none⟩) 1 1 (ckA_ b1)) A (preA (hA.now A) rfl) rfl rfl rfl (fun _ => rfl) fun cs' {_ _ _} hok he hI A => have B := B.trans A; have A := B.base; have he := he 0 (Nat.zero_lt_succ _); N9 7 A rfl rfl fun A => q_eff A rfl (pnilE rfl rfl rfl rfl rfl (by kernel_rfl)) fun A => N9 8 A rfl rfl fun A => I9 [2, 1] CodesAt.ok hI (aSpot0_ b1 cs' hok he) A rfl fun A => N9 13 A rfl rfl fun A => I9 [2, 1] CodesAt.ok hI (aAt0_ b1 cs' hok he) A rfl fun A => N9 2 A rfl rfl fun A => forkE 26 A rfl
  (fun h1 A => N9 8 A rfl rfl fun A => forkE 34 A rfl
   (fun h2 A => N9 4 A rfl rfl fun A => forkE 38 A rfl
    (fun h3 A => N9 1 A rfl rfl fun A => I9 [2, 1] CodesAt.ok hI (aPass0_ b1 cs' hok he) A rfl fun A => N9 3 A rfl rfl fun A => I9 [2, 1] CodesAt.ok hI (aAt1_ b1 cs' hok he) A rfl fun A => N9 3 A rfl rfl fun A => forkE 47 A rfl
     (fun h4 A => N9 1 A rfl rfl fun A => I9 [2, 1] CodesAt.ok hI (aPass1_ b1 cs' hok he) A rfl fun A => N9 4 A rfl rfl fun A => I9 [2, 1] CodesAt.ok hI (aThr0_ b1 cs' hok he) A rfl fun A => N9 6 A rfl rfl fun A => R9 (B.trans A) rfl h0 rfl rfl rfl)
     (fun h4 A => absurd rfl h4))
    (fun h3 A => absurd rfl h3))
   (fun h2 A => absurd rfl h2))
  (fun h1 A => absurd rfl h1)
end Go.Proofs.YtjkppaijicjpoaaGreatDoor.Mc
namespace Go.Proofs.YtjkppaijicjpoaaGreatDoor.Mc
open Go.RowKit
set_option linter.unusedVariables false
set_option linter.unusedSimpArgs false
set_option maxRecDepth 100000
set_option maxHeartbeats 2000000
set_option simprocs false
theorem rsize_ (s1 : Int)  : Fn Tryz.prog 89 [.int .i64 s1] [] (Rt (.bool ((((s1 == 1) || (s1 == 2)) || (s1 == 4)) || (s1 == 8))) []) :=
 enterM (n := 17) (by kernel_rfl) Tryz.func89 rfl rfl rfl fun G w a h0 A => M hX 25 A rfl rfl fun A => R9 A rfl h0 rfl rfl rfl
def mkM (o1 : Int) : Nat → Int
 | 0 => 0
 | j + 1 => IntKind.wrap .i64 ((((BitVec.ofInt (IntKind.bits .i64) (mkM o1 j)) ||| (BitVec.ofInt (IntKind.bits .i64) (IntKind.wrap .i64 (1 * 2 ^ min ((o1 + (j : Int))).toNat (IntKind.bits .i64))))).toNat : Nat) : Int)
theorem mkM_eq {o1 s1 : Int} {j : Nat} (hs : s1 = 1 ∨ s1 = 2 ∨ s1 = 4 ∨ s1 = 8) (ho : 0 ≤ o1 ∧ o1 ≤ 8 - s1 ∧ Int.tmod o1 s1 = 0) (hj : j = s1.toNat) : mkM o1 j = bmask0 o1 s1 := by
 subst hj
 have h1 := ho.1
 have h2 := ho.2.1
 have h3 := ho.2.2
 have h4 : s1 ≥ 1 := by rcases hs with h | h | h | h <;> omega
 have h8 : o1 = 0 ∨ o1 = 1 ∨ o1 = 2 ∨ o1 = 3 ∨ o1 = 4 ∨ o1 = 5 ∨ o1 = 6 ∨ o1 = 7 := by omega
 rcases h8 with rfl | rfl | rfl | rfl | rfl | rfl | rfl | rfl <;> rcases hs with rfl | rfl | rfl | rfl <;> first | (exfalso; omega) | exact absurd h3 (by decide) | decide
theorem rmask_ (o1 s1 : Int) (hs : s1 = 1 ∨ s1 = 2 ∨ s1 = 4 ∨ s1 = 8) (ho : 0 ≤ o1 ∧ o1 ≤ 8 - s1 ∧ Int.tmod o1 s1 = 0) : Fn Tryz.prog 58 [.int .i64 o1, .int .i64 s1] [] (Rt (.int .i64 (bmask0 o1 s1)) []) :=
 enterM (n := 39) (by kernel_rfl) Tryz.func58 rfl rfl rfl fun G w a h0 A => N9 9 A rfl rfl fun A => C9 [] (rsize_ s1) A rfl fun A => N9 19 A rfl (ok_r <| ok_r <| ok_r <| ok_g (fun hg => (by have := ho; rcases hs with rfl | rfl | rfl | rfl <;> omega)) <| ok_r <| ok_r <| ok_r <| ok_r <| ok_r <| ok_g (fun hg => (by have := ho; rcases hs with rfl | rfl | rfl | rfl <;> omega)) <| ok_r <| ok_r <| okE_nil) fun A => fork 25 A rfl
  (fun h1 A => absurd h1 (by have h1 := ho.1; have h2 := ho.2.1; have h3 := ho.2.2; rcases hs with rfl | rfl | rfl | rfl <;> simp [h3] <;> omega))
  (fun h1 A => N9 16 A rfl rfl fun A => have A := sy_sayD A 6 (.int .i64 (o1 + ((0 : Nat) : Int))) rfl (fun _ => congrArg (fun z => some (Value.int .i64 z)) (by omega)); LOOP1 (fun (j : Nat) => [(0, .int .i64 o1), (1, .int .i64 s1), (4, .int .i64 0), (5, .int .i64 (mkM o1 j)), (6, .int .i64 (o1 + (j : Int)))]) (fun (j : Nat) => []) (fun (j : Nat) => j ≤ s1.toNat) (fun (j : Nat) => s1.toNat - j) 0 (Nat.zero_le _) ((A.cut [0, 1, 4, 5, 6] rfl).trunc 0 rfl rfl rfl (by simp only [List.length_cons, List.length_nil] at h0; omega)) fun j hJ {G a w} A => N9 10 A rfl (ok_d (by first | omega | (rcases hs with rfl | rfl | rfl | rfl <;> omega)) <| okE_nil) fun A => forkD 31 A rfl
    (fun h2 A => N9 14 A rfl (ok_d (by first | omega | (rcases hs with rfl | rfl | rfl | rfl <;> omega)) <| okE_nil) fun A => N9 5 A rfl (ok_d (by first | omega | (rcases hs with rfl | rfl | rfl | rfl <;> omega)) <| okE_nil) fun A => ⟨j + 1, _, (by omega), (by omega), (((sy_sayD A 6 (.int .i64 (o1 + ((j + 1 : Nat) : Int))) rfl (fun _ => congrArg (fun z => some (Value.int .i64 z)) (by omega))).cut [0, 1, 4, 5, 6] rfl).trunc 0 rfl rfl rfl (by simp only [List.length_cons, List.length_nil] at h0; omega)).sayT (by rfl)⟩)
    (fun h2 A => N9 10 A rfl rfl fun A => R9 A rfl h0 rfl (congrArg (SV.int .i64) (mkM_eq hs ho (show j = s1.toNat from (by omega)))) rfl))
theorem rbyte_ (v1 k1 : Int) (hk : 0 ≤ k1 ∧ k1 < 8) : Fn Tryz.prog 59 [.int .i64 v1, .int .i64 k1] [] (Rt (.int .i64 (IntKind.wrap .i64 ((((BitVec.ofInt (IntKind.bits .i64) (Int.fdiv v1 (2 ^ min ((8 * k1)).toNat (IntKind.bits .i64)))) &&& (BitVec.ofInt (IntKind.bits .i64) 255)).toNat : Nat) : Int))) []) :=
 enterM (n := 10) (by kernel_rfl) Tryz.func59 rfl rfl rfl fun G w a h0 A => N9 16 A rfl (ok_d (by omega) <| ok_d (by omega) <| okE_nil) fun A => R9 A rfl h0 rfl rfl rfl
def gtM (v1 : Int) : Nat → Int
 | 0 => 0
 | j + 1 => IntKind.wrap .i64 ((((BitVec.ofInt (IntKind.bits .i64) (gtM v1 j)) ||| (BitVec.ofInt (IntKind.bits .i64) (IntKind.wrap .i64 ((IntKind.wrap .i64 ((((BitVec.ofInt (IntKind.bits .i64) (Int.fdiv v1 (2 ^ min ((8 * (0 + (j : Int)))).toNat (IntKind.bits .i64)))) &&& (BitVec.ofInt (IntKind.bits .i64) 255)).toNat : Nat) : Int)) * 2 ^ min ((8 * (j : Int))).toNat (IntKind.bits .i64))))).toNat : Nat) : Int)
theorem wrap_if (x : Int) : IntKind.wrap .i64 x = if x % 18446744073709551616 ≥ 9223372036854775808 then x % 18446744073709551616 - 18446744073709551616 else x % 18446744073709551616 := by
 have h : IntKind.wrap .i64 x = if (true && decide (x % 18446744073709551616 ≥ 9223372036854775808)) = true then x % 18446744073709551616 - 18446744073709551616 else x % 18446744073709551616 := rfl
 rw [h]
 simp only [Bool.true_and, decide_eq_true_eq]
theorem wrap_mod (x : Int) : IntKind.wrap .i64 x % 18446744073709551616 = x % 18446744073709551616 := by
 rw [wrap_if]; split <;> omega
theorem ofI_n (x : Int) : (BitVec.ofInt 64 x).toNat = (x % 18446744073709551616).toNat := by rw [BitVec.toNat_ofInt]; rfl
theorem ofI_w (x : BitVec 64) : BitVec.ofInt 64 (IntKind.wrap .i64 ((x.toNat : Nat) : Int)) = x := by
 apply BitVec.eq_of_toNat_eq
 have := x.isLt
 rw [ofI_n, wrap_mod]
 omega
theorem gstep {v A : Int} {k K : Nat} (hk : (k, K) = (0, 1) ∨ (k, K) = (8, 256) ∨ (k, K) = (16, 65536) ∨ (k, K) = (24, 16777216) ∨ (k, K) = (32, 4294967296) ∨ (k, K) = (40, 1099511627776) ∨ (k, K) = (48, 281474976710656) ∨ (k, K) = (56, 72057594037927936)) (hA : (BitVec.ofInt 64 A).toNat = (v % 18446744073709551616).toNat % K) : (BitVec.ofInt 64 (IntKind.wrap .i64 ((((BitVec.ofInt 64 A) ||| (BitVec.ofInt 64 (IntKind.wrap .i64 ((IntKind.wrap .i64 ((((BitVec.ofInt 64 (Int.fdiv v (2 ^ k))) &&& (BitVec.ofInt 64 255)).toNat : Nat) : Int)) * 2 ^ k)))).toNat : Nat) : Int))).toNat = (v % 18446744073709551616).toNat % (K * 256) := by
 have hK : (2 : Int) ^ k = (K : Int) ∧ 2 ^ k = K ∧ 0 < K := by rcases hk with h | h | h | h | h | h | h | h <;> cases h <;> exact ⟨by decide, by decide, by decide⟩
 rw [ofI_w, BitVec.toNat_or, hA, hK.1]
 have hY : ((BitVec.ofInt 64 (Int.fdiv v (K : Int))) &&& (BitVec.ofInt 64 255)).toNat = ((v / (K : Int)) % 18446744073709551616).toNat % 256 := by
  rw [BitVec.toNat_and, ofI_n, show (BitVec.ofInt 64 255).toNat = 2 ^ 8 - 1 from rfl, Nat.and_two_pow_sub_one_eq_mod, Int.fdiv_eq_ediv_of_nonneg _ (by omega)]
 rw [hY]
 generalize hy : ((v / (K : Int)) % 18446744073709551616).toNat % 256 = y
 have hy8 : y < 256 := by rw [← hy]; exact Nat.mod_lt _ (by decide)
 have e1 : IntKind.wrap .i64 ((y : Nat) : Int) = (y : Int) := by rw [wrap_if]; split <;> omega
 have e2 : (BitVec.ofInt 64 (IntKind.wrap .i64 ((y : Int) * (K : Int)))).toNat = K * y := by
  rw [ofI_n, wrap_mod]
  rcases hk with h | h | h | h | h | h | h | h <;> cases h <;> omega
 rw [e1, e2, Nat.or_comm]
 have e3 := Nat.two_pow_add_eq_or_of_lt (i := k) (b := (v % 18446744073709551616).toNat % K) (by rw [hK.2.1]; exact Nat.mod_lt _ hK.2.2) y
 rw [hK.2.1] at e3
 rw [← e3]
 clear hA hY e1 e2 e3
 rcases hk with h | h | h | h | h | h | h | h <;> cases h <;> omega
theorem gt_n (v : Int) : ∀ j, j ≤ 8 → (BitVec.ofInt 64 (gtM v j)).toNat = (v % 18446744073709551616).toNat % 256 ^ j
 | 0, _ => by rw [show gtM v 0 = 0 from rfl, ofI_n]; omega
 | j + 1, h => by
  have ih := gt_n v j (by omega)
  have hj : j = 0 ∨ j = 1 ∨ j = 2 ∨ j = 3 ∨ j = 4 ∨ j = 5 ∨ j = 6 ∨ j = 7 := by omega
  rcases hj with rfl | rfl | rfl | rfl | rfl | rfl | rfl | rfl
  ·exact gstep (k := 0) (K := 1) (.inl rfl) ih
  ·exact gstep (k := 8) (K := 256) (.inr (.inl rfl)) ih
  ·exact gstep (k := 16) (K := 65536) (.inr (.inr (.inl rfl))) ih
  ·exact gstep (k := 24) (K := 16777216) (.inr (.inr (.inr (.inl rfl)))) ih
  ·exact gstep (k := 32) (K := 4294967296) (.inr (.inr (.inr (.inr (.inl rfl))))) ih
  ·exact gstep (k := 40) (K := 1099511627776) (.inr (.inr (.inr (.inr (.inr (.inl rfl)))))) ih
  ·exact gstep (k := 48) (K := 281474976710656) (.inr (.inr (.inr (.inr (.inr (.inr (.inl rfl))))))) ih
  ·exact gstep (k := 56) (K := 72057594037927936) (.inr (.inr (.inr (.inr (.inr (.inr (.inr rfl))))))) ih
theorem bg_n {v : Int} {X : BitVec 64} {k : Nat} (hX : X.toNat = 2 ^ k - 1) : ((BitVec.ofInt 64 (Int.fdiv v 1)) &&& X).toNat = (v % 18446744073709551616).toNat % 2 ^ k := by
 rw [BitVec.toNat_and, ofI_n, hX, Nat.and_two_pow_sub_one_eq_mod, Int.fdiv_one]
theorem gtM_w (v : Int) : ∀ j, ∃ x : BitVec 64, gtM v j = IntKind.wrap .i64 ((x.toNat : Nat) : Int)
 | 0 => ⟨0#64, rfl⟩
 | j + 1 => ⟨_, rfl⟩
theorem gtM_of {v : Int} {X : BitVec 64} {j : Nat} (hj : j ≤ 8) (hX : X.toNat = 2 ^ (8 * j) - 1) : gtM v j = IntKind.wrap .i64 ((((BitVec.ofInt 64 (Int.fdiv v 1)) &&& X).toNat : Nat) : Int) := by
 obtain ⟨x, hx⟩ := gtM_w v j
 have h := gt_n v j hj
 rw [hx, ofI_w] at h
 rw [hx, h, bg_n hX, Nat.pow_mul]
theorem gtM_eq {v1 s1 : Int} {j : Nat} (hs : s1 = 1 ∨ s1 = 2 ∨ s1 = 4 ∨ s1 = 8) (hj : j = s1.toNat) : gtM v1 j = bget0 v1 s1 := by
 subst hj
 rcases hs with rfl | rfl | rfl | rfl
 ·exact gtM_of (j := 1) (by decide) (by decide)
 ·exact gtM_of (j := 2) (by decide) (by decide)
 ·exact gtM_of (j := 4) (by decide) (by decide)
 ·exact gtM_of (j := 8) (by decide) (by decide)
theorem rget_ (v1 s1 : Int) (hs : s1 = 1 ∨ s1 = 2 ∨ s1 = 4 ∨ s1 = 8) : Fn Tryz.prog 35 [.int .i64 v1, .z9, .int .i64 s1] [] (Rt (.int .i64 (bget0 v1 s1)) []) :=
 enterM (n := 29) (by kernel_rfl) Tryz.func35 rfl rfl rfl fun G w a h0 A => N9 10 A rfl rfl fun A => C9 [] (rmask_ 0 s1 hs (by rcases hs with rfl | rfl | rfl | rfl <;> decide)) A rfl fun A => N9 3 A rfl rfl fun A => forkE 12 A rfl
  (fun h1 A => absurd h1 (by rcases hs with rfl | rfl | rfl | rfl <;> decide))
  (fun h1 A => N9 15 A rfl rfl fun A => LOOP1 (fun (j : Nat) => [(0, .int .i64 v1), (1, .int .i64 0), (2, .int .i64 s1), (6, .int .i64 0), (7, .int .i64 (gtM v1 j)), (8, .int .i64 (j : Int))]) (fun (j : Nat) => []) (fun (j : Nat) => j ≤ s1.toNat) (fun (j : Nat) => s1.toNat - j) 0 (Nat.zero_le _) ((A.cut [0, 1, 2, 6, 7, 8] rfl).trunc 0 rfl rfl rfl (by simp only [List.length_cons, List.length_nil] at h0; omega)) fun j hJ {G a w} A => N9 8 A rfl rfl fun A => forkD 15 A rfl
    (fun h2 A => N9 11 A rfl (ok_d (by first | omega | (rcases hs with rfl | rfl | rfl | rfl <;> omega)) <| okE_nil) fun A => C9 [] (rbyte_ v1 (0 + (j : Int)) (by first | omega | (rcases hs with rfl | rfl | rfl | rfl <;> omega))) A rfl fun A => N9 8 A rfl (ok_d (by first | omega | (rcases hs with rfl | rfl | rfl | rfl <;> omega)) <| ok_d (by first | omega | (rcases hs with rfl | rfl | rfl | rfl <;> omega)) <| okE_nil) fun A => N9 5 A rfl (ok_d (by first | omega | (rcases hs with rfl | rfl | rfl | rfl <;> omega)) <| okE_nil) fun A => ⟨j + 1, _, (by omega), (by omega), ((A.cut [0, 1, 2, 6, 7, 8] rfl).trunc 0 rfl rfl rfl (by simp only [List.length_cons, List.length_nil] at h0; omega)).sayT (by rfl)⟩)
    (fun h2 A => N9 10 A rfl rfl fun A => R9 A rfl h0 rfl (congrArg (SV.int .i64) (gtM_eq hs (show j = s1.toNat from (by omega)))) rfl))
def ralu0 (fn a1 b1 : Int) : Int := if fn = 1 then IntKind.wrap .i64 (a1 + b1) else if fn = 2 then IntKind.wrap .i64 (a1 - b1) else if fn = 3 then IntKind.wrap .i64 ((((BitVec.ofInt (IntKind.bits .i64) a1) ^^^ (BitVec.ofInt (IntKind.bits .i64) b1)).toNat : Nat) : Int) else if fn = 4 then IntKind.wrap .i64 ((((BitVec.ofInt (IntKind.bits .i64) a1) &&& (BitVec.ofInt (IntKind.bits .i64) b1)).toNat : Nat) : Int) else if fn = 5 then IntKind.wrap .i64 ((((BitVec.ofInt (IntKind.bits .i64) a1) ||| (BitVec.ofInt (IntKind.bits .i64) b1)).toNat : Nat) : Int) else 0
theorem ralu_ (fn a1 b1 : Int)  : Fn Tryz.prog 33 [.int .i64 fn, .int .i64 a1, .int .i64 b1] [] (Rt (.int .i64 (ralu0 fn a1 b1)) []) :=
 enterM (n := 33) (by kernel_rfl) Tryz.func33 rfl rfl rfl fun G w a h0 A => M hX 18 A rfl rfl fun A => forkE 8 A rfl
  (fun h1 A => M hX 10 A rfl rfl fun A => R9 A rfl h0 rfl (by simp only [oneS, nb, nbL, nbH, ralu0, if_pos h1]) rfl)
  (fun h1 A => M hX 7 A rfl rfl fun A => forkE 13 A rfl
   (fun h2 A => M hX 10 A rfl rfl fun A => R9 A rfl h0 rfl (by simp only [oneS, nb, nbL, nbH, ralu0, if_neg (h1), if_pos h2]) rfl)
   (fun h2 A => M hX 7 A rfl rfl fun A => forkE 18 A rfl
    (fun h3 A => M hX 10 A rfl rfl fun A => R9 A rfl h0 rfl (by simp only [oneS, nb, nbL, nbH, ralu0, if_neg (h1), if_neg (h2), if_pos h3]) rfl)
    (fun h3 A => M hX 7 A rfl rfl fun A => forkE 23 A rfl
     (fun h4 A => M hX 10 A rfl rfl fun A => R9 A rfl h0 rfl (by simp only [oneS, nb, nbL, nbH, ralu0, if_neg (h1), if_neg (h2), if_neg (h3), if_pos h4]) rfl)
     (fun h4 A => M hX 7 A rfl rfl fun A => forkE 28 A rfl
      (fun h5 A => M hX 10 A rfl rfl fun A => R9 A rfl h0 rfl (by simp only [oneS, nb, nbL, nbH, ralu0, if_neg (h1), if_neg (h2), if_neg (h3), if_neg (h4), if_pos h5]) rfl)
      (fun h5 A => M hX 10 A rfl rfl fun A => R9 A rfl h0 rfl (by simp only [oneS, nb, nbL, nbH, ralu0, if_neg (h1), if_neg (h2), if_neg (h3), if_neg (h4), if_neg (h5)]) rfl)))))
def rrmw0 (fn v1 a1 s1 : Int) : Int := if fn = 6 then bget0 a1 s1 else if fn = 1 then bget0 (IntKind.wrap .i64 (v1 + a1)) s1 else 0
theorem rrmw_ (fn v1 a1 s1 : Int) (hs : s1 = 1 ∨ s1 = 2 ∨ s1 = 4 ∨ s1 = 8) : Fn Tryz.prog 41 [.int .i64 fn, .int .i64 v1, .int .i64 a1, .int .i64 s1] [] (Rt (.int .i64 (rrmw0 fn v1 a1 s1)) []) :=
 enterM (n := 22) (by kernel_rfl) Tryz.func41 rfl rfl rfl fun G w a h0 A => M hX 18 A rfl rfl fun A => forkE 10 A rfl
  (fun h1 A => M hX 5 A rfl rfl fun A => C9 [] (rget_ a1 s1 hs) A rfl fun A => M hX 4 A rfl rfl fun A => R9 A rfl h0 rfl (by simp only [oneS, nb, nbL, nbH, rrmw0, if_pos h1]) rfl)
  (fun h1 A => M hX 7 A rfl rfl fun A => forkE 15 A rfl
   (fun h2 A => M hX 7 A rfl rfl fun A => C9 [] (rget_ (IntKind.wrap .i64 (v1 + a1)) s1 hs) A rfl fun A => M hX 4 A rfl rfl fun A => R9 A rfl h0 rfl (by simp only [oneS, nb, nbL, nbH, rrmw0, if_neg (h1), if_pos h2]) rfl)
   (fun h2 A => M hX 10 A rfl rfl fun A => R9 A rfl h0 rfl (by simp only [oneS, nb, nbL, nbH, rrmw0, if_neg (h1), if_neg (h2)]) rfl))
def rplace0 (o1 x1 s1 : Int) : Int := if (!((((s1 == 1) || (s1 == 2)) || (s1 == 4)) || (s1 == 8))) = true then (-1) else IntKind.wrap .i64 ((IntKind.wrap .i64 ((((BitVec.ofInt (IntKind.bits .i64) (IntKind.wrap .i64 (o1 + x1))) &&& (BitVec.ofInt (IntKind.bits .i64) 7)).toNat : Nat) : Int)) - (Int.tmod (IntKind.wrap .i64 ((((BitVec.ofInt (IntKind.bits .i64) (IntKind.wrap .i64 (o1 + x1))) &&& (BitVec.ofInt (IntKind.bits .i64) 7)).toNat : Nat) : Int)) s1))
theorem rplace_ (o1 x1 s1 : Int)  : Fn Tryz.prog 88 [.int .i64 o1, .int .i64 x1, .int .i64 s1] [] (Rt (.int .i64 (rplace0 o1 x1 s1)) []) :=
 enterM (n := 20) (by kernel_rfl) Tryz.func88 rfl rfl rfl fun G w a h0 A => M hX 9 A rfl rfl fun A => C9 [] (rsize_ s1) A rfl fun A => M hX 3 A rfl rfl fun A => fork 10 A rfl
  (fun h1 A => M hX 7 A rfl rfl fun A => R9 A rfl h0 rfl (by simp only [oneS, nb, nbL, nbH, rplace0, if_pos h1]) rfl)
  (fun h1 A => M hX 23 A rfl (ok_d (by simp at *; omega) <| okE_nil) fun A => R9 A rfl h0 rfl (by simp only [oneS, nb, nbL, nbH, rplace0, if_neg (ne_true_of_eq_false h1)]) rfl)
theorem and7 (x : Int) : ∃ q : Int, IntKind.wrap .i64 ((((BitVec.ofInt (IntKind.bits .i64) x) &&& (BitVec.ofInt (IntKind.bits .i64) 7)).toNat : Nat) : Int) = q ∧ (q = 0 ∨ q = 1 ∨ q = 2 ∨ q = 3 ∨ q = 4 ∨ q = 5 ∨ q = 6 ∨ q = 7) := by
 have h : ((BitVec.ofInt 64 x) &&& (BitVec.ofInt 64 7)).toNat ≤ 7 := by
  rw [BitVec.toNat_and]; exact Nat.and_le_right
 refine ⟨((((BitVec.ofInt 64 x) &&& (BitVec.ofInt 64 7)).toNat : Nat) : Int), ?_, by omega⟩
 show IntKind.wrap .i64 ((((BitVec.ofInt 64 x) &&& (BitVec.ofInt 64 7)).toNat : Nat) : Int) = _
 rw [wrap_if, if_neg (by omega)]
 omega
theorem pl_eq (o1 x1 : Int) {s1 : Int} (hs : s1 = 1 ∨ s1 = 2 ∨ s1 = 4 ∨ s1 = 8) : rplace0 o1 x1 s1 = bplace0 o1 x1 s1 ∧ 0 ≤ bplace0 o1 x1 s1 ∧ bplace0 o1 x1 s1 ≤ 8 - s1 ∧ Int.tmod (bplace0 o1 x1 s1) s1 = 0 := by
 obtain ⟨q, h1, h2⟩ := and7 (IntKind.wrap .i64 (o1 + x1))
 unfold rplace0 bplace0
 rw [h1]
 rcases hs with rfl | rfl | rfl | rfl <;> rcases h2 with rfl | rfl | rfl | rfl | rfl | rfl | rfl | rfl <;> decide
theorem rMem_ (i : In)  : Fn Tryz.prog 32 [.agg (inQ9 i)] [] (Rt (.bool (((i.op == 4) || (i.op == 5)) || (i.op == 6))) []) :=
 enterM (n := 16) (by kernel_rfl) Tryz.func32 rfl rfl rfl fun G w a h0 A => N9 25 A rfl rfl fun A => R9 A rfl h0 rfl rfl rfl
theorem rRds_ (i : In)  : Fn Tryz.prog 39 [.agg (inQ9 i)] [] (Rt (.bool ((i.op == 4) || (i.op == 6))) []) :=
 enterM (n := 11) (by kernel_rfl) Tryz.func39 rfl rfl rfl fun G w a h0 A => N9 20 A rfl rfl fun A => R9 A rfl h0 rfl rfl rfl
theorem rWrs_ (i : In)  : Fn Tryz.prog 40 [.agg (inQ9 i)] [] (Rt (.bool ((i.op == 5) || (i.op == 6))) []) :=
 enterM (n := 11) (by kernel_rfl) Tryz.func40 rfl rfl rfl fun G w a h0 A => N9 20 A rfl rfl fun A => R9 A rfl h0 rfl rfl rfl
theorem rplaceB_ (o1 x1 s1 : Int) (hs : s1 = 1 ∨ s1 = 2 ∨ s1 = 4 ∨ s1 = 8) : Fn Tryz.prog 88 [.int .i64 o1, .int .i64 x1, .int .i64 s1] [] (Rt (.int .i64 (bplace0 o1 x1 s1)) []) := by
 rw [← (pl_eq o1 x1 hs).1]; exact rplace_ o1 x1 s1
theorem rSpan_ (i : In) (x1 : Int) (hs : i.sz = 1 ∨ i.sz = 2 ∨ i.sz = 4 ∨ i.sz = 8) : Fn Tryz.prog 56 [.agg (inQ9 i), .int .i64 x1] [] (Rt (.agg [.int .i64 i.loc, .int .i64 (bmask0 (bplace0 i.off x1 i.sz) i.sz)]) []) :=
 enterM (n := 17) (by kernel_rfl) Tryz.func56 rfl rfl rfl fun G w a h0 A => N9 7 A rfl rfl fun A => DRAWN hX hmo [(7, .int .i64 (bplace0 i.off x1 i.sz)), (10, .int .i64 (bmask0 (bplace0 i.off x1 i.sz) i.sz))] [] A rfl rfl rfl rfl (by kernel_rfl) (effAll_nil _ _) ⟨.inl ⟨_, _, rfl, rfl, rplaceB_ i.off x1 i.sz hs⟩, ⟨.inl ⟨_, _, rfl, rfl, rmask_ (bplace0 i.off x1 i.sz) i.sz hs (pl_eq _ _ hs).2⟩, trivial⟩⟩ fun A => N9 2 A rfl rfl fun A => R9 A rfl h0 rfl rfl rfl
end Go.Proofs.YtjkppaijicjpoaaGreatDoor.Mc
namespace Go.Proofs.YtjkppaijicjpoaaGreatDoor
open Go.RowKit
set_option linter.unusedVariables false
set_option linter.unusedSimpArgs false
set_option linter.unusedSectionVars false
section
variable {P : Program} {n : Nat} {ks : List Nat} {G0 : Gr} {w0 : World} {T : List (Nat × SV)} {H : Hp} {G : Gr} {a : Act} {w w' : World} {Q : Exit → Act → World → Prop} {K : List Fr} {ops : Array Oper} {o : Oper} {rest : List Oper} {fuel i : Nat} {listed : Array Bool}
theorem any_in {id : Nat} (f : Nat) (hmo : P.follows .mixedOrders = true) (hf : ops.size = f) (A : Sy n T H ks G0 w0 G a w) (h : ∀ {w}, Sy n T H ks G0 w0 G a w → wpAny P .any ops (wpK P Q K) f (Array.replicate f false) a w) : Goal P Q K (.code (.region id ops true)) a w := by
 subst hf
 refine wp_region_any hmo ?_
 have hB1 : Ms H ks G0 w0 G w.drew := A.ms.grow (Grow.refl w).drew
 exact h (hB1.sy A.size A.defers A.get)
theorem any_cut {p q : Prop} (h : p → q) (t : p) : q := h t
theorem any_at {rs : List Nat} (hr : Region.ready .any ops listed = rs) (hne : rs ≠ []) (h : ∀ i ∈ rs, wpOp P ops Q i (wpAny P .any ops Q fuel (listed.setIfInBounds i true)) a w) : wpAny P .any ops Q (fuel + 1) listed a w := by
 unfold wpAny
 rw [hr]
 exact ⟨fun e => absurd e hne, h⟩
theorem any_end (hr : Region.ready .any ops listed = []) (h : Goal P Q K .norm a w) : wpAny P .any ops (wpK P Q K) fuel listed a w := by
 cases fuel with
 | zero => exact ⟨hr, h⟩
 | succ f =>
  unfold wpAny
  rw [hr]
  exact ⟨fun _ => h, fun i hi => by cases hi⟩
theorem any_does (ho : ops[i]? = some o) (h : Does P ops o a w fun v w' => wpAny P .any ops Q fuel (listed.setIfInBounds i true) (a.put o.dst v) w') : wpOp P ops Q i (wpAny P .any ops Q fuel (listed.setIfInBounds i true)) a w := by
 unfold wpOp
 rcases h with ⟨hw, h⟩ | ⟨hw, h⟩
 ·simp only [ho, hw, if_true]
  refine .inl (Oper.wp_mono (fun a2 w2 h => ?_) (h Q))
  obtain ⟨v, rfl, h1⟩ := h
  exact h1
 ·simp only [ho, hw, Bool.false_eq_true, if_false]
  exact h
theorem any_eff {x : SV} {H' : Hp} (ho : ops[i]? = some o) (A : Sy n T H ks G0 w0 G a w) (hd : fitsD n o.dst = true) (h : EffOK P n ops ks G0 w0 T H o x H') (hk : ∀ {G a w}, Sy n (extS T o.dst x) H' ks G0 w0 G a w → wpAny P .any ops Q fuel (listed.setIfInBounds i true) a w) : wpOp P ops Q i (wpAny P .any ops Q fuel (listed.setIfInBounds i true)) a w := by
 refine any_does ho ?_
 rcases h G a w A with ⟨hw, h⟩ | ⟨hw, F, h1, h2⟩
 ·refine .inl ⟨hw, fun Q' => ?_⟩
  refine Oper.wp_mono (fun a' w' hh => ?_) (h Q')
  obtain ⟨v, rfl, F, h1, h2⟩ := hh
  exact ⟨v, rfl, hk (Sy.put (h2.sy A.size A.defers fun t y hy => den_mono F y (A.get t y hy)) hd h1)⟩
 ·exact .inr ⟨hw, hk (Sy.put (h2.sy A.size A.defers fun t y hy => den_mono F y (A.get t y hy)) hd h1)⟩
theorem does_R {f : Nat} {J : SV → World → World → Prop} {K : Value → World → Prop} (hf : FnR P f [] [] J) (A : Sy n T H ks G0 w0 G a w) (h1 : callS n ops T o = some (f, []))
  (hk : ∀ x v w', J x w w' → (∀ k, (keys H G).contains k = true → k < w.heap.size) → Sy n (extS T o.dst x) H ks G0 w0 G (a.put o.dst v) w' → K v w') : Does P ops o a w K := by
 obtain ⟨hd, us, hu, hdo⟩ := callS_do (P := P) (ops := ops) A h1 hf.1
 have hu' : us = [] := by cases hu; rfl
 subst hu'
 have hM : Mem [] [] w := ⟨rfl, fun i e h => by simp at h, fun i j e f L M _ h => by simp at h⟩
 refine hdo (hf.2 [] w [] hM rfl) fun e w' he => ?_
 obtain ⟨x, v, e1, rfl, hg, hJ⟩ := he
 refine ⟨v, rfl, hk x v _ hJ (fun k hz => ?_) (Sy.put ⟨A.size, A.defers, A.get, ⟨A.mem.len, fun i e hi => (A.mem.ent i e hi).mix hg.mix (fun _ _ _ => rfl), A.mem.sep⟩, A.pre, A.own, A.mix.grow hg⟩ hd (by simpa using den_mono G x e1))⟩
 obtain ⟨i, e, L, q1, q2, q3, q4⟩ := mem_keys.1 hz
 have := A.mem.ent i e q1
 rw [q3] at this
 rw [← q4]; exact EntOK.lt this (mut_full q2)
theorem any_agg {β : Type} {e s m t f : Nat} {l : List SV} {F : β → Nat → List SV} {R : β → Nat → World → World → Prop} (ho : ops[i]? = some o) (hf : FnR P f [] [] (fun x w w' => ∃ (L : β) (b cp : Nat), x = .agg (l ++ [.sla (some ⟨b, 0, none⟩) m cp]) ∧ R L b w w' ∧ w.heap.size ≤ b ∧ Given e s m (F L) b cp w')) (A : Sy n T H ks G0 w0 G a w) (hd : o.dst = some t) (h1 : callS n ops T o = some (f, []))
  (k : ∀ L b cp a' w' G', R L b w w' → w.heap.size ≤ b → (∀ k, (keys (H ++ [some (.row e s m 0 (F L))]) G').contains k = true → k < w.heap.size ∨ k = b) → Sy n ((t, .agg (l ++ [.sl H.length m 0])) :: extS T o.dst (.agg (l ++ [.sla (some ⟨b, 0, none⟩) m cp]))) (H ++ [some (.row e s m 0 (F L))]) ks G0 w0 G' a' w' → wpAny P .any ops Q fuel (listed.setIfInBounds i true) a' w') : wpOp P ops Q i (wpAny P .any ops Q fuel (listed.setIfInBounds i true)) a w := by
 refine any_does ho (does_R hf A h1 fun x v w' hJ hk A' => ?_)
 obtain ⟨L, b, cp, rfl, hR, hlo, hg⟩ := hJ
 have hl : look (extS T o.dst (.agg (l ++ [.sla (some ⟨b, 0, none⟩) m cp]))) t = some (.agg (l ++ [.sla (some ⟨b, 0, none⟩) m cp])) := by rw [hd]; simp [extS, look, Nat.beq_refl]
 have hlen := A'.mem.len
 have A2 := A'.takeRowG t (y := .agg (l ++ [.sl H.length m 0])) hg (fun i e L q1 q2 q3 => by
  have := A.mem.ent i e q1
  rw [q2] at this
  have := EntOK.lt this q3
  omega) (Nat.le_trans A.mix.size hlo) hl (by
   unfold den
   rw [denL_last (y := .sla (some ⟨b, 0, none⟩) m cp)]
   unfold den
   rw [List.getElem?_append_right (by omega), hlen]
   simp [rm])
 refine k L b cp _ w' _ hR hlo (fun q hq => ?_) A2
 obtain ⟨i, e', L', q1, q2, q3, q4⟩ := mem_keys.1 hq
 by_cases hi : i < H.length
 ·rw [List.getElem?_append_left hi] at q1
  rw [List.getElem?_append_left (by omega)] at q3
  exact .inl (hk q (mem_keys.2 ⟨i, e', L', q1, q2, q3, q4⟩))
 ·have hi2 : i = H.length := by
   have := (List.getElem?_eq_some_iff.1 q1).1
   simp at this; omega
  subst hi2
  rw [List.getElem?_append_right (by omega), hlen] at q3
  simp at q3
  subst q3
  exact .inr q4.symm
end
section
variable {n : Nat} {ks : List Nat} {G0 : Gr} {w0 : World} {T T' : List (Nat × SV)} {H H' : Hp} {G : Gr} {a : Act} {w : World} {Q : Exit → Act → World → Prop} {K K' : List Fr} {pos pos' : Pos} {E : Ob}
theorem aV9 {ops : Array Oper} {o : Oper} {i fuel : Nat} {listed : Array Bool} {QQ : Exit → Act → World → Prop} (x : SV) (ho : ops[i]? = some o) (A : Sy n T H ks G0 w0 G a w) (h : (fitsD n o.dst, stepS ⟨X, true⟩ n ops T H o) = (true, some (.val x E))) (hE : okE E) (hk : ∀ {G a w}, Sy n (extS T o.dst x) H ks G0 w0 G a w → wpAny Tryz.prog .any ops QQ fuel (listed.setIfInBounds i true) a w) : wpOp Tryz.prog ops QQ i (wpAny Tryz.prog .any ops QQ fuel (listed.setIfInBounds i true)) a w := by
 simp only [Prod.mk.injEq] at h
 exact any_eff ho A h.1 (eff_auto (X := ⟨X, true⟩) (out := .val x E) hX h.2 hE) hk
theorem fc9 {p : Nat → Prop} {a : Nat} {l : List Nat} (h : p a ∧ ∀ x ∈ l, p x) : ∀ x ∈ a :: l, p x := List.forall_mem_cons.2 h
theorem fn9 {p : Nat → Prop} : ∀ x ∈ ([] : List Nat), p x := List.forall_mem_nil _
end
section
variable {P : Program} {X : Tx} {n : Nat} {ks : List Nat} {G0 : Gr} {w0 : World} {T : List (Nat × SV)} {l : List Oper} {xs : List SV} {Q : Exit → Act → World → Prop} {ef rs0 : List Nat} {tb : List (List Nat × List Nat × Hp)}
theorem any_goP (m : Nat) (hml : m ≤ l.length) (hclo : ∀ S : Nat → Bool, (∀ (j : Nat) (o : Oper) (p : Nat), l[j]? = some o → S j = true → waits o p = true → S p = true) → ∀ (i : Nat) (o : Oper), m ≤ i → l[i]? = some o → (∀ p, waits o p = true → S p = true) → ∀ j, j < m → S j = true) (hfit : fitB l.toArray n [] = true) (hT : ∀ t x, look T t = some x → ∀ (j : Nat) (o : Oper), l[j]? = some o → o.dst = some t → j < m → ∀ (i : Nat) (q : Oper), l[i]? = some q → i < m → i ≠ j → waits o i = true ∨ waits q j = true) (hTa : ∀ t x, look T t = some x → ∀ r ∈ rs0, avS r x = true) (hl : xs.length = l.length)
  (hob : ∀ (k : Nat) (c rs : List Nat) (H : Hp), tb[k]? = some (c, rs, H) → ∀ (i : Nat) (o : Oper), i < m → l[i]? = some o → mayI l.toArray ef c i o = true → StepOb P n ks G0 w0 T l xs ef tb c rs H i o)
  (hend : ∀ (k : Nat) (c rs : List Nat) (H : Hp), tb[k]? = some (c, rs, H) → (∀ p ∈ ef, p < m → p ∈ c) → ∀ (fuel : Nat) (listed : Array Bool) (G : Gr) (a : Act) (w : World), listed.size = l.length → (∀ i, listed.getD i false = decide (i < m)) → l.length - m ≤ fuel → Sy n (putS (l.take m) (xs.take m) T) H ks G0 w0 G a w → wpAny P .any l.toArray Q fuel listed a w) :
  ∀ (fuel : Nat) (listed : Array Bool) (a : Act) (w : World) (k : Nat) (c rs : List Nat) (H : Hp) (G : Gr), listed.size = l.length → ((List.range l.length).filter fun i => !listed.getD i true).length ≤ fuel → tb[k]? = some (c, rs, H) → AInv n ks G0 w0 T l xs ef rs0 c rs H listed G a w → (∀ i, m ≤ i → listed.getD i false = false) → wpAny P .any l.toArray Q fuel listed a w := by
 have all0 : ∀ (listed : Array Bool), listed.size = l.length → Region.ready .any l.toArray listed = [] → ∀ i, i < l.length → listed.getD i false = true := by
  intro listed hls hr i
  induction i using Nat.strongRecOn with
  | _ i ih =>
   intro hi
   cases hq : listed.getD i false with
   | true => rfl
   | false =>
    exfalso
    have : i ∈ Region.ready .any l.toArray listed := by
     rw [mem_ready]
     have hli : i < listed.size := by omega
     have hoi : l.toArray[i]? = some l[i] := by simp [hi]
     refine ⟨by simpa [hli] using hq, l[i], hoi, fun e he hb => ?_⟩
     have hlt := (fit_spec hfit hoi).2 e he hb
     exact ih e.on hlt (by omega)
    rw [hr] at this; cases this
 have fin : ∀ (fuel : Nat) (listed : Array Bool) (a : Act) (w : World) (k : Nat) (c rs : List Nat) (H : Hp) (G : Gr), listed.size = l.length → ((List.range l.length).filter fun i => !listed.getD i true).length ≤ fuel → tb[k]? = some (c, rs, H) → AInv n ks G0 w0 T l xs ef rs0 c rs H listed G a w → (∀ i, m ≤ i → listed.getD i false = false) → (∀ i, i < m → listed.getD i false = true) → wpAny P .any l.toArray Q fuel listed a w := by
  intro fuel listed a w k c rs H G hls hf hk I hsu hpr
  have hdec : ∀ i, listed.getD i false = decide (i < m) := fun i => by
   by_cases hi : i < m
   ·rw [hpr i hi, decide_eq_true hi]
   ·rw [hsu i (by omega), decide_eq_false hi]
  refine hend k c rs H hk (fun p hp hpl => (I.eff p hp).1 (hpr p hpl)) fuel listed G a w hls hdec ?_ (I.ms.sy I.size I.defers fun t x hx => ?_)
  ·refine Nat.le_trans ?_ hf
   have hsub : ((List.range l.length).filter fun i => !listed.getD i true) = (List.range l.length).filter fun i => decide (m ≤ i) := by
    apply List.filter_congr
    intro i hi
    have hil : i < listed.size := by rw [hls]; simpa using hi
    have h2 := hdec i
    have h3 : listed.getD i true = listed.getD i false := by simp [Array.getD, hil]
    rw [h3, h2]
    by_cases q : i < m
    ·rw [decide_eq_true q, decide_eq_false (by omega)]; rfl
    ·rw [decide_eq_false q, decide_eq_true (by omega)]; rfl
   rw [hsub]
   have hcount : ∀ N, (List.filter (fun i => decide (m ≤ i)) (List.range N)).length = N - m := by
    intro N
    induction N with
    | zero => simp
    | succ N ih =>
     rw [List.range_succ, List.filter_append, List.length_append, ih]
     by_cases q : m ≤ N
     ·rw [List.filter_cons_of_pos (by simpa using q)]; simp; omega
     ·rw [List.filter_cons_of_neg (by simpa using q)]; simp; omega
   rw [hcount]
   exact Nat.le_refl _
  ·have hlt : (xs.take m).length = (l.take m).length := by rw [List.length_take, List.length_take, hl]
   rcases put_look hlt hx with ⟨i, p, q1, q2, q3⟩ | ⟨hx, hno⟩
   ·have him : i < m := by have := (List.getElem?_eq_some_iff.1 q1).1; rw [List.length_take] at this; omega
    rw [List.getElem?_take_of_lt him] at q1 q2
    exact (I.done i p x q1 (hpr i him) q2).2 t q3
   ·refine I.base t x hx fun j o h1 h2 => ?_
    by_cases hj : j < m
    ·exact absurd h2 (hno j o (by rw [List.getElem?_take_of_lt hj]; exact h1))
    ·exact hsu j (by omega)
 intro fuel
 induction fuel with
 | zero =>
  intro listed a w k c rs H G hls hf hk I hsu
  refine fin 0 listed a w k c rs H G hls hf hk I hsu fun i hi => ?_
  have hnil : ((List.range l.length).filter fun i => !listed.getD i true) = [] := List.eq_nil_of_length_eq_zero (by omega)
  rw [List.filter_eq_nil_iff] at hnil
  have := hnil i (by simp; omega)
  simp only [Bool.not_eq_true, Bool.not_eq_false'] at this
  have hil : i < listed.size := by omega
  simp [Array.getD, hil] at this ⊢
  exact this
 | succ fuel ih =>
  intro listed a w k c rs H G hls hf hkt I hsu
  by_cases hpr : ∀ i, i < m → listed.getD i false = true
  ·exact fin (fuel + 1) listed a w k c rs H G hls hf hkt I hsu hpr
  refine ⟨fun hr => absurd (fun i hi => all0 listed hls hr i (by omega)) hpr, fun i hi => ?_⟩
  obtain ⟨hun, o, hoi, hall⟩ := mem_ready.1 hi
  have hil : i < l.length := by have := (Array.getElem?_eq_some_iff.1 hoi).1; simpa using this
  have hoi' : l[i]? = some o := by simpa using hoi
  obtain ⟨hfd, hfe⟩ := fit_spec hfit hoi
  have hun' : listed.getD i false = false := by
   have hlt : i < listed.size := by omega
   simpa [hlt] using hun
  have hw : ∀ p, waits o p = true → listed.getD p false = true := fun p hp => by
   unfold waits at hp
   rw [List.any_eq_true] at hp
   obtain ⟨e, he', hb⟩ := hp
   have he : e ∈ o.after := by simpa using he'
   simp only [Bool.and_eq_true, beq_iff_eq] at hb
   rw [← hb.2]
   exact hall e he hb.1
  have him : i < m := by
   by_cases q : i < m
   ·exact q
   ·exact absurd (hclo (fun j => listed.getD j false) (fun j o p h1 h2 h3 => I.closed j o p h1 h2 h3) i o (by omega) hoi' hw) hpr
  -- what is known where it stands
  have A : Sy n (twL o l xs 0 T) H ks G0 w0 G a w := I.ms.sy I.size I.defers fun t x hx => by
   rcases tw_look2 hl hx with ⟨j, p, q1, q2, q3, q4⟩ | ⟨hx, hnw⟩
   ·exact (I.done j p x q1 (hw j (by simpa using q3)) q2).2 t q4
   ·refine I.base t x hx fun j p h1 h2 => ?_
    by_cases hji : j = i
    ·subst hji; exact hun'
    ·cases hlj : listed.getD j false with
     | false => rfl
     | true =>
      have hjm : j < m := by
       by_cases q : j < m
       ·exact q
       ·rw [hsu j (by omega)] at hlj; cases hlj
      rcases hT t x hx j p h1 h2 hjm i o hoi' him (Ne.symm hji) with hwt | hwt
      ·have := I.closed j p i h1 hlj hwt
       rw [hun'] at this; cases this
      ·have := hnw j p h1 h2
       rw [Nat.zero_add] at this
       rw [hwt] at this; cases this
  have hmay : mayI l.toArray ef c i o = true := by
   unfold mayI
   simp only [Bool.and_eq_true, Bool.not_eq_true', List.all_eq_true, Bool.or_eq_true]
   refine ⟨⟨?_, fun p hp => ?_⟩, fun p hp => ?_⟩
   ·cases hc : c.contains i with
    | false => rfl
    | true =>
     have h1 : i ∈ c := by simpa using hc
     have := (I.eff i (I.sub i h1)).2 h1
     rw [hun'] at this; cases this
   ·cases hq : wt l.toArray o p with
    | false => exact .inl rfl
    | true =>
     refine .inr ?_
     have hlp : listed.getD p false = true := by
      unfold wt at hq
      cases hd : waits o p with
      | true => exact hw p hd
      | false =>
       rw [hd] at hq
       exact via_listed (ops := l.toArray) (fun j o' p' h1 h2 h3 => I.closed j o' p' (by simpa using h1) h2 h3) 2 o.after.toList (fun e he hb => hall e (by simpa using he) hb) hq
     have := (I.eff p hp).1 hlp
     simpa using this
   ·split
    ·next q hq =>
     cases hd : waits q i with
     | false => rfl
     | true =>
      have h1 := (I.eff p (I.sub p hp)).2 hp
      have := I.closed p q i (by simpa using hq) h1 hd
      rw [hun'] at this; cases this
    ·rfl
  obtain ⟨x, c', rs', H', k', hx, hk', hc', hrs', he⟩ := hob k c rs H hkt i o him hoi' hmay
  rw [Bool.and_eq_true, List.all_eq_true, List.all_eq_true] at hc'
  rw [List.all_eq_true] at hrs'
  have hr1 : ∀ r ∈ rs', r ∈ rs ∧ avS r x = true := fun r hr => by
   have := hrs' r hr
   rw [Bool.and_eq_true] at this
   exact ⟨by simpa using this.1, this.2⟩
  -- the next state
  have next : ∀ (v : Value) (w' : World) (G' : Gr), (∀ i, i ∉ rs → G'[i]? = G[i]?) → den G' x = some v → Ms H' ks G0 w0 G' w' → wpAny P .any l.toArray Q fuel (listed.setIfInBounds i true) (a.put o.dst v) w' := by
   intro v w' G' hG hv hms
   have hlt : i < listed.size := by omega
   have hget : ∀ j, (listed.setIfInBounds i true).getD j false = true ↔ (j = i ∨ listed.getD j false = true) := by
    intro j
    by_cases hji : j = i
    ·subst hji; simp [hlt]
    ·rw [set_ne false (Ne.symm hji)]; simp [hji]
   refine ih _ _ _ k' c' rs' H' G' (by simpa using hls) ?_ hk' ⟨?_, ?_, fun t y hy hno => ?_, fun j p y q1 q2 q3 => ?_, hms, fun p hp => ?_, fun p hp => ?_, fun r hr => I.rsub r (hr1 r hr).1, fun j p r q1 q2 q3 => ?_⟩ (fun j hj => by rw [set_ne false (show i ≠ j by omega)]; exact hsu j hj)
   ·have : ((List.range l.length).filter fun k => !(listed.setIfInBounds i true).getD k true).length < ((List.range l.length).filter fun k => !listed.getD k true).length := by
     have hsub : ((List.range l.length).filter fun k => !(listed.setIfInBounds i true).getD k true) = ((List.range l.length).filter fun k => !listed.getD k true).filter (fun k => k != i) := by
      rw [List.filter_filter]
      apply List.filter_congr
      intro k _
      by_cases hk : k = i
      ·subst hk; simp [hlt]
      ·rw [set_ne true (Ne.symm hk)]; simp [hk]
     rw [hsub]
     refine List.length_filter_lt_length_iff_exists.2 ⟨i, ?_, by simp⟩
     simp only [List.mem_filter, List.mem_range]
     exact ⟨hil, by rw [hun]; rfl⟩
    omega
   ·cases hd : o.dst <;> simp [Act.put, I.size]
   ·cases hd : o.dst <;> simp [Act.put, I.defers]
   ·have hno' : ∀ (j : Nat) (q : Oper), l[j]? = some q → q.dst = some t → listed.getD j false = false := fun j q h1 h2 => by
     have h3 := hno j q h1 h2
     cases hlj : listed.getD j false with
     | false => rfl
     | true => rw [(hget j).2 (.inr hlj)] at h3; cases h3
    have h1 : den G' y = some (a.tmps.getD t undef) := by rw [den_off hG y fun r hr => hTa t y hy r (I.rsub r hr)]; exact I.base t y hy hno'
    cases hd : o.dst with
    | none => exact h1
    | some d =>
     have hne : d ≠ t := fun e => by
      have h3 := hno i o hoi' (by rw [hd, e])
      rw [(hget i).2 (.inl rfl)] at h3; cases h3
     simp only [Act.put, Array.getD_eq_getD_getElem?]
     rw [Array.getElem?_setIfInBounds_ne hne, ← Array.getD_eq_getD_getElem?]
     exact h1
   ·by_cases hji : j = i
    ·subst hji
     rw [hoi'] at q1; cases q1
     rw [hx] at q3; cases q3
     refine ⟨fun r hr => (hr1 r hr).2, fun d q4 => ?_⟩
     have hdn : d < a.tmps.size := by rw [I.size]; exact (hfd d q4).1
     rw [q4]
     simp [Act.put, hdn, hv]
    ·have h2 : listed.getD j false = true := by
      rcases (hget j).1 q2 with h | h
      ·exact absurd h hji
      ·exact h
     obtain ⟨g1, g2⟩ := I.done j p y q1 h2 q3
     refine ⟨fun r hr => g1 r (hr1 r hr).1, fun d q4 => ?_⟩
     have h1 : den G' y = some (a.tmps.getD d undef) := by rw [den_off hG y g1]; exact g2 d q4
     cases hd : o.dst with
     | none => exact h1
     | some d' =>
      have hne : d' ≠ d := fun e => by
       subst e
       exact hji ((hfd d' hd).2.1 j (by simpa using (List.getElem?_eq_some_iff.1 q1).1) (by simp [dstOf, q1, q4]))
      simp only [Act.put, Array.getD_eq_getD_getElem?]
      rw [Array.getElem?_setIfInBounds_ne hne, ← Array.getD_eq_getD_getElem?]
      exact h1
   ·rw [hget p, I.eff p hp]
    have := hc'.1 p hp
    have hb : (p = i ∨ p ∈ c) ↔ (Nat.beq p i || c.contains p) = true := by
     rw [Bool.or_eq_true]
     refine or_congr ⟨fun h => by subst h; exact Nat.beq_refl p, Nat.eq_of_beq_eq_true⟩ (by simp)
    rw [hb]
    rw [beq_iff_eq] at this
    rw [← this]; simp
   ·have := hc'.2 p hp; simpa using this
   ·rw [hget r]
    by_cases hji : j = i
    ·subst hji; rw [hoi'] at q1; cases q1; exact .inr (hw r q3)
    ·rcases (hget j).1 q2 with h | h
     ·exact absurd h hji
     ·exact .inr (I.closed j p r q1 h q3)
  unfold wpOp
  rcases he G a w A with ⟨hwn, h⟩ | ⟨hwn, G', h1, h2, h3⟩
  ·simp only [hoi, hwn, if_true]
   refine .inl (Oper.wp_mono (fun a2 w2 h => ?_) (h Q))
   obtain ⟨v, rfl, G', h1, h2, h3⟩ := h
   exact next v w2 G' h1 h2 h3
  ·simp only [hoi, hwn, Bool.false_eq_true, if_false]
   exact next undef w G' h1 h2 h3
def ObPA (P : Program) (n : Nat) (ks : List Nat) (G0 : Gr) (w0 : World) (T : List (Nat × SV)) (L : List Oper) (m : Nat) (xs : List SV) (ef : List Nat) (tb : List (List Nat × List Nat × Hp)) : List (List Bool) → List (List Nat × List Nat × Hp) → Prop
 | bs :: B, (c, rs, H) :: ss => ObS P n ks G0 w0 T L xs ef tb c rs H bs (L.take m) 0 ∧ ObPA P n ks G0 w0 T L m xs ef tb B ss
 | _, _ => True
theorem obP_at {m : Nat} : ∀ {ss : List (List Nat × List Nat × Hp)}, ObPA P n ks G0 w0 T l m xs ef tb (ss.map fun s => mayR l.toArray ef s.1 (l.take m) 0) ss → ∀ (k : Nat) (c rs : List Nat) (H : Hp), ss[k]? = some (c, rs, H) → ObS P n ks G0 w0 T l xs ef tb c rs H (mayR l.toArray ef c (l.take m) 0) (l.take m) 0
 | [], _, k, c, rs, H, h => by cases h
 | (c1, r1, H1) :: ss, hO, k, c, rs, H, h => by
  simp only [List.map_cons, ObPA] at hO
  cases k with
  | zero => cases h; exact hO.1
  | succ k => exact obP_at hO.2 k c rs H (by simpa using h)
def cloB (l : List Oper) : Nat → List Nat → List Nat
 | 0, s => s
 | f + 1, s => cloB l f (s ++ (s.flatMap fun j => match l[j]? with | some o => (List.range l.length).filter (fun p => waits o p) | none => []))
theorem cloB_in {l : List Oper} {S : Nat → Bool} (hS : ∀ (j : Nat) (o : Oper) (p : Nat), l[j]? = some o → S j = true → waits o p = true → S p = true) : ∀ f s, (∀ j ∈ s, S j = true) → ∀ j ∈ cloB l f s, S j = true
 | 0, s, h => h
 | f + 1, s, h => cloB_in hS f _ fun j hj => by
  rcases List.mem_append.1 hj with hj | hj
  ·exact h j hj
  ·obtain ⟨q, hq, hj⟩ := List.mem_flatMap.1 hj
   split at hj
   ·next o ho => exact hS q o j ho (h q hq) (List.mem_filter.1 hj).2
   ·cases hj
def prefB (l : List Oper) (m f : Nat) : List Oper → Nat → Bool
 | [], _ => true
 | o :: r, i => (Nat.blt i m || ((List.range m).all fun j => (cloB l f ((List.range l.length).filter fun p => waits o p)).contains j)) && prefB l m f r (i + 1)
theorem prefB_spec {l : List Oper} {m f : Nat} : ∀ {r : List Oper} {k : Nat}, prefB l m f r k = true → ∀ (i : Nat) (o : Oper), r[i]? = some o → m ≤ k + i → ∀ j, j < m → j ∈ cloB l f ((List.range l.length).filter fun p => waits o p)
 | [], _, _, _, _, h, _, _, _ => by cases h
 | p :: r, k, h, i, o, hi, hm, j, hj => by
  simp only [prefB, Bool.and_eq_true, Bool.or_eq_true] at h
  cases i with
  | zero =>
   cases hi
   rcases h.1 with h1 | h1
   ·rw [Nat.blt_eq] at h1; omega
   ·have := List.all_eq_true.1 h1 j (by simpa using hj); simpa using this
  | succ i => exact prefB_spec h.2 i o (by simpa using hi) (by omega) j hj
theorem ANYP {id : Nat} {H HE : Hp} {G : Gr} {a : Act} {w : World} {K : List Fr} (m f : Nat) (hmo : P.follows .mixedOrders = true) (xs : List SV) (ef rs0 : List Nat) (nw : Nat) (tb : List (List Nat × List Nat × Hp)) (B : List (List Bool)) (A : Sy n T H ks G0 w0 G a w)
  (h0 : tb[0]? = some ([], rs0, H ++ List.replicate nw none)) (hE : endS ef tb = some HE) (hrs : (rs0.all fun r => Nat.ble H.length r) = true) (hef : (ef.all fun p => Nat.blt p m) = true) (hB : (tb.map fun s => mayR l.toArray ef s.1 (l.take m) 0) = B) (hl : xs.length = l.length) (hfit : fitB l.toArray n [] = true) (hml : Nat.ble m l.length = true) (hpre : prefB l m f l 0 = true)
  (hkp : kpT (l.take m) T = true) (hO : ObPA P n ks G0 w0 T l m xs ef tb B tb) (hk : ∀ (fuel : Nat) (listed : Array Bool) {G a w}, listed = Array.ofFn (n := l.length) (fun i => decide (i.val < m)) → l.length - m ≤ fuel → Sy n (putS (l.take m) (xs.take m) T) HE ks G0 w0 G a w → wpAny P .any l.toArray (wpK P Q K) fuel listed a w) : Goal P Q K (.code (.region id l.toArray true)) a w := by
 refine wp_region_any hmo ?_
 have hB1 : Ms H ks G0 w0 G w.drew := A.ms.grow (Grow.refl w).drew
 rw [List.all_eq_true] at hrs hef
 have hml' := Nat.le_of_ble_eq_true hml
 refine any_goP (P := P) (xs := xs) (T := T) (ef := ef) (rs0 := rs0) (tb := tb) m hml' (fun S hS i o hi ho hw j hj => cloB_in hS f _ (fun p hp => hw p (List.mem_filter.1 hp).2) j (prefB_spec hpre i o ho (by omega) j hj)) hfit (fun t x hx j o h3 h4 hj i q hq hi hne => kp_spec hkp hx (by rw [List.getElem?_take_of_lt hj]; exact h3) h4 (by rw [List.getElem?_take_of_lt hi]; exact hq) hne) (fun t x hx r hr => ?_) hl (fun k c rs H hk i o hi ho hm => ?_) (fun k c rs H' hk' hall fuel listed G a w hls hdec hfu A' => ?_) _ _ _ _ 0 [] rs0 _ (G ++ List.replicate nw none) (by simp) (by
  refine Nat.le_trans (List.length_filter_le _ _) (by simp)) h0 ⟨A.size, A.defers, fun t x hx _ => den_mono _ x (A.get t x hx), fun j o x _ hj => ?_, Sy.pad (a := a) hB1 nw, fun p hp => ?_, fun p hp => absurd hp (by simp), fun r hr => hr, fun j o p _ hj => ?_⟩ (fun i hi => by simp [Array.getD_eq_getD_getElem?, Array.getElem?_replicate]; split <;> rfl)
 ·have := hrs r hr
  rw [A.mem.len] at this
  exact inS_av (G := G) (Nat.le_of_ble_eq_true this) x (A.get t x hx)
 ·have := obs_at (obP_at (by rw [hB]; exact hO) k c rs H hk) i o (by rw [List.getElem?_take_of_lt hi]; exact ho) (by rw [Nat.zero_add]; exact hm)
  rwa [Nat.zero_add] at this
 ·have h2 : (ef.all c.contains) = true := by
   rw [List.all_eq_true]
   intro p hp
   have := hall p hp (by have := hef p hp; simpa [Nat.blt_eq] using this)
   simpa using this
  cases endS_spec hE k c rs H' hk' h2
  refine hk fuel listed ?_ hfu A'
  apply Array.ext
  ·simp [hls]
  ·intro i h1 h2
   have := hdec i
   simp [Array.getD, h1] at this ⊢
   exact this
 ·exfalso; simp [Array.getD_eq_getD_getElem?, Array.getElem?_replicate] at hj; split at hj <;> simp at hj
 ·constructor
  ·intro hj; exfalso; simp [Array.getD_eq_getD_getElem?, Array.getElem?_replicate] at hj; split at hj <;> simp at hj
  ·intro hj; cases hj
 ·exfalso; simp [Array.getD_eq_getD_getElem?, Array.getElem?_replicate] at hj; split at hj <;> simp at hj
end
section
variable {P : Program} {Y : Tb} {n : Nat} {ks : List Nat} {G0 : Gr} {w0 : World} {T : List (Nat × SV)} {H : Hp} {G : Gr} {a : Act} {w : World} {Q : Exit → Act → World → Prop} {K : List Fr} {pos : Pos} {ops : Array Oper} {o : Oper} {rest : List Oper}
theorem apaE {x y : Operand} {t i e s mm mc b : Nat} {ti : TI} {f0 f : Nat → List SV} {ao : Option Addr} (hY : Y.ok P = true) (hop : o.op = .call { callee := .builtin .append, args := #[x, y], argTypes := #[t, t] }) (hgd : guardS ops T o.guard = some .run) (hx : evS T x = some (.sl i 0 0)) (hi : lg H i = some (some (.row e s 0 0 f0))) (hy : evS T y = some (.sla ao mm mc)) (hti : Y.get t = some ti) (hel : ti.elm = some (e, s, b)) (hby : Nat.ble b 10000 = true) (h0' : LstAt ao s mm f w0 ks) (hb2 : mm ≤ 1000000) (htot : ∀ k, ∃ vs, denL [] (f k) = some vs ∧ vs.length = s) (hone : ∀ k, k < mm → ∃ E, onesS (f k) = some E ∧ okE E) :
  EffOK P n ops ks G0 w0 T H o (.sl H.length mm 0) (stH H i none ++ [some (.row e s mm 0 f)]) := by
 intro G a w A
 have hl := LstAt.ok w0 ks w ks h0' A.mix (fun b hb => .inl hb)
 obtain ⟨d, op, ty, pos, af, gd⟩ := o
 have hw := gd_run (gd := none) A hgd
 simp only at hop
 subst hop
 have hby := Nat.le_of_ble_eq_true hby
 rw [lg_is] at hi
 obtain ⟨r1, r2, xs, r3, r4⟩ := A.mem.ent i _ hi
 obtain ⟨ie, z, f1', f2', f3', f4', f5', f6', f7'⟩ := elem_facts (ti_elm (Tb.at hY hti) hel)
 have hvx := A.ev hx
 have hvy := A.ev hy
 obtain ⟨q, hq⟩ : ∃ q, G[i]? = some q := by
  have : i < G.length := by rw [← A.mem.len]; exact (List.getElem?_eq_some_iff.1 hi).1
  exact ⟨G[i], by simp [this]⟩
 rw [hq] at r2 r4
 simp only [Option.getD_some] at r2 r4
 unfold den at hvx hvy
 rw [hq] at hvx
 simp only [Option.some.injEq] at hvx hvy
 cases r3
 obtain ⟨ys, hys⟩ := flat_ex (f := f) htot mm
 have hyl := flat_len (f := f) htot hys
 have hob : Value.ownBlock (.slice (q.map fun L => ⟨L.b, L.pre.length, none⟩) 0 (0 + rm q)) = q.map (·.b) := by cases q <;> rfl
 by_cases h0 : mm = 0
 ·subst h0
  cases hys
  have hsrc : Src P ie.size t (.slice ao 0 mc) 0 [] w := by
   cases ao with
   | none => exact Src.ofNil w f1' mc
   | some x0 => exact Src.ofSlice w f1' x0 0 mc [] (by simp) (fun j u hj => by simp at hj) (fun u hu => by cases hu)
  have hr := run_append_nothing (P := P) w t t ty e ie f1' f2' (q.map fun L => ⟨L.b, L.pre.length, none⟩) 0 (0 + rm q) (Nat.zero_le _) _ hsrc
  refine does_val (v := .slice (q.map fun L => ⟨L.b, L.pre.length, none⟩) 0 (0 + rm q)) (w' := w) hw ?_ ?_
  ·unfold execOp
   simp only [resolve, invoke, builtin, Sem.run_bind, Sem.run_pure, Result.andThen_ok, List.map_toArray, List.map_cons, List.map_nil, ← hvx, ← hvy, hr]
  ·have A2 := A.rowMove (w' := w) (p' := q) (m' := 0) (c' := 0) (xs' := []) (f' := f) hi ⟨rfl, rfl, rfl, Nat.le_refl _, fun _ _ _ => rfl⟩ r4 r2 (.inl (by rw [hq]; rfl)) rfl htot
   refine ⟨_, ?_, A2.ms⟩
   unfold den
   rw [List.getElem?_append_right (by rw [A.mem.len]; exact Nat.le_refl _), A.mem.len]
   simp
 ·rcases hl.2 with hh | ⟨bb, oo, rfl, hlt, _, hcell⟩
  ·exact absurd hh h0
  have hmul : (0 + mm) * b ≤ 2000000 * 10000 := Nat.mul_le_mul (by omega) hby
  obtain ⟨v', w', hr, k1, k2, _, k4⟩ := run_append_own_at (P := P) w 0 t ty e ie z s b f1' f2' f3' f4' f5' f6' f7' _ 0 [] r4 ⟨bb, oo, none⟩ mm mc ys hyl
   (fun j u hj => by
    obtain ⟨k, r, us, d1, d2, d3, d4⟩ := flat_inv (f := f) htot hys j u hj
    obtain ⟨us', b2', b3'⟩ := hcell k (by omega)
    rw [b2'] at d2
    cases d2
    have := b3' r u d3
    rw [Addr.add_mid, d4, ← Nat.add_assoc]
    exact this)
   (fun u hu => by
    obtain ⟨j, hj⟩ := List.mem_iff_getElem?.1 hu
    obtain ⟨k, r, us, d1, d2, d3, d4⟩ := flat_inv (f := f) htot hys j u hj
    obtain ⟨E, o1, o2⟩ := hone k d1
    exact List.all_eq_true.1 (onesS_spec o1 o2 d2) u (List.mem_of_getElem? d3))
   (by simp only [maxLen]; omega) (by omega) (Nat.zero_le _)
  obtain ⟨p', o1, o2, o3⟩ := own_split k1
  rw [hob] at k2 k4
  rw [o3] at k4
  rw [o1] at k1
  simp only [Nat.zero_add, List.nil_append] at k1
  refine does_val (v := v') (w' := w') hw ?_ ?_
  ·unfold execOp
   have hvy' : Value.slice (some ⟨bb, oo, none⟩) mm mc = a.eval y := hvy
   simp only [resolve, invoke, builtin, Sem.run_bind, Sem.run_pure, Result.andThen_ok, List.map_toArray, List.map_cons, List.map_nil, ← hvx, ← hvy', hr]
  ·have A2 := A.rowMove (p' := p') (m' := mm) (c' := 0) (f' := f) hi (by rw [hq]; exact k2) (by simpa using k1) o2 (by rw [hq]; exact k4) hys htot
   refine ⟨_, ?_, A2.ms⟩
   unfold den
   rw [List.getElem?_append_right (by rw [A.mem.len]; exact Nat.le_refl _), A.mem.len]
   simp [o1]
theorem LAYR {R : Prop} (i j : Nat) {e s m c : Nat} {f : Nat → List SV} {cs : List SV} (H' : Option Addr → Nat → Hp) (A : Sy n T H ks G0 w0 G a w) (hi : lg H i = some (some (.row e s m c f))) (hj : lg H j = some (some (.blk (.sl i m c :: cs)))) (hij : Nat.beq i j = false) (hH : ∀ ao cp, stH (stH H i none) j (some (.blk (.sla ao m cp :: cs))) = H' ao cp)
  (k : ∀ ao cp, Sy n T (H' ao cp) ks G0 w0 G a w → LstAt ao s m f w (keys (H' ao cp) G) → (∀ q : Addr, ao = some q → ks.contains q.block = true ∨ w0.heap.size ≤ q.block) → R) : R := by
 obtain ⟨ao, cp, h1, h2, h3⟩ := A.layCell i j hi hj hij hH
 exact k ao cp h1 h2 h3
theorem anyfuel {fuel k : Nat} {listed l0 : Array Bool} (e : listed = l0) (h : k ≤ fuel) (hh : ∀ f, wpAny P .any ops Q (f + k) l0 a w) : wpAny P .any ops Q fuel listed a w := by
 subst e
 obtain ⟨f, rfl⟩ : ∃ f, fuel = f + k := ⟨fuel - k, by omega⟩
 exact hh f
theorem LAYP {R : Prop} (i j : Nat) (l r : List SV) {e s m c : Nat} {f : Nat → List SV} (H' : Option Addr → Nat → Hp) (A : Sy n T H ks G0 w0 G a w) (hi : lg H i = some (some (.row e s m c f))) (hj : lg H j = some (some (.blk (l ++ .sl i m c :: r)))) (hij : Nat.beq i j = false) (hH : ∀ ao cp, stH (stH H i none) j (some (.blk (l ++ .sla ao m cp :: r))) = H' ao cp)
  (k : ∀ ao cp, Sy n T (H' ao cp) ks G0 w0 G a w → LstAt ao s m f w (keys (H' ao cp) G) → (∀ q : Addr, ao = some q → ks.contains q.block = true ∨ w0.heap.size ≤ q.block) → R) : R := by
 obtain ⟨ao, cp, hd, A1, hl, hfr⟩ := A.layAt i hi rfl
 have hne : i ≠ j := fun e => by subst e; rw [Nat.beq_refl] at hij; cases hij
 have hj1 : lg (stH H i none) j = some (some (.blk (l ++ .sl i m c :: r))) := by
  rw [lg_is] at hj ⊢
  rw [stH_is, List.getElem?_set_ne hne]; exact hj
 have A2 := A1.cellEq j (cs' := l ++ .sla ao m cp :: r) hj1 (denL_at (by rw [hd]; rfl) l r) (hH ao cp)
 refine k ao cp A2 (LstAt.ok w _ w _ hl (Mix.refl _ _) (fun b hb => .inl ?_)) hfr
 obtain ⟨q, en, L, g1, g2, g3, g4⟩ := mem_keys.1 hb
 rw [← hH ao cp, stH_is] at g1
 by_cases hk : q = j
 ·subst hk
  rw [lg_is] at hj1
  exact mem_keys.2 ⟨q, _, L, hj1, rfl, g3, g4⟩
 ·rw [List.getElem?_set_ne (Ne.symm hk)] at g1
  exact mem_keys.2 ⟨q, en, L, g1, g2, g3, g4⟩
theorem NILP (i e s : Nat) (f : Nat → List SV) (l r : List SV) {H' : Hp} (A : Sy n T H ks G0 w0 G a w) (hi : lg H i = some (some (.blk (l ++ .sla none 0 0 :: r)))) (htot : ∀ k, ∃ vs, denL [] (f k) = some vs ∧ vs.length = s) (hH : stH (H ++ [some (.row e s 0 0 f)]) i (some (.blk (l ++ .sl H.length 0 0 :: r))) = H') (k : ∀ {G}, Sy n T H' ks G0 w0 G a w → Goal P Q K pos a w) : Goal P Q K pos a w := by
 have B := A.nilPlace e s f htot
 rw [lg_is] at hi
 refine k (B.cellEq i (cs := l ++ .sla none 0 0 :: r) (by rw [lg_is, List.getElem?_append_left (List.getElem?_eq_some_iff.1 hi).1]; exact hi) (denL_at ?_ l r) hH)
 have : den (G ++ [none]) (.sl H.length 0 0) = some (.slice none 0 0) := by
  unfold den
  rw [List.getElem?_append_right (by rw [A.mem.len]; exact Nat.le_refl _), A.mem.len]
  simp [rm]
 rw [this]
 rfl
end
section
variable {P : Program} {Y : Tb} {n : Nat} {ks : List Nat} {G0 : Gr} {w0 : World} {T : List (Nat × SV)} {H : Hp} {G : Gr} {a : Act} {w : World} {Q : Exit → Act → World → Prop} {K : List Fr} {pos : Pos} {ops : Array Oper} {o : Oper} {rest : List Oper} {pre : World → Prop}
theorem keysN (h : ∀ (i : Nat) (e : Ent), H[i]? = some (some e) → e.mut = false) (b : Nat) : (keys H G).contains b = false := by
 cases hz : (keys H G).contains b with
 | false => rfl
 | true =>
  obtain ⟨i, e', L, q1, q2, _⟩ := mem_keys.1 hz
  rw [h i e' q1] at q2; cases q2
end
abbrev thS (x : SV) (r : Rg) (at_ : Int) (p : SV) : List SV := [x, .int .i64 (r 0), .int .i64 (r 1), .int .i64 (r 2), .int .i64 (r 3), .int .i64 (r 4), .int .i64 (r 5), .int .i64 (r 6), .int .i64 (r 7), .int .i64 at_, p]
section
variable {P : Program} {Y : Tb} {n : Nat} {ks : List Nat} {G0 : Gr} {w0 : World} {T : List (Nat × SV)} {H : Hp} {G : Gr} {a : Act} {w : World} {ops : Array Oper} {o : Oper} {rest : List Oper} {Q : Exit → Act → World → Prop} {K : List Fr} {pos : Pos}
theorem sttE {x y : Operand} {ty i : Nat} {j v at_ : Int} {r : Rg} {s1 s2 : SV} {ti : TI} (hX : Y.ok P = true) (hop : o.op = .store ty x y) (hg : guardS ops T o.guard = some .run) (hx : evS T x = some (.ix (.ptr i 1) 1 8 j 0)) (hy : evS T y = some (.int .i64 v)) (hH : lg H i = some (some (.blk (thS s1 r at_ s2)))) (hti : Y.get ty = some ti) (hrow : ti.row = none) (hone : ti.one = true) (hj : 0 ≤ j ∧ j < 8) :
  EffOK P n ops ks G0 w0 T H o (.tup []) (stH H i (some (.blk (thS s1 (updR r j.toNat v) at_ s2)))) := fun G a w A => by
 have hw := gd_run (gd := none) A hg
 obtain ⟨d, op, ty', pos, af, gd⟩ := o
 simp only at hop
 subst hop
 have hvx := A.ev hx
 have hvy := A.ev hy
 have key : ∀ k : Nat, j = (k : Int) → (∀ q : List SV, sp (1 + k) (thS s1 r at_ s2) [.int .i64 v] = some q → q = thS s1 (updR r j.toNat v) at_ s2 → Does P ops { dst := d, op := .store ty x y, type := ty', pos := pos, after := af, guard := gd } a w fun v' w' => ∃ F, den (G ++ F) (.tup []) = some v' ∧ Ms (stH H i (some (.blk (thS s1 (updR r j.toNat v) at_ s2)))) ks G0 w0 (G ++ F) w') := by
  intro k hk q hr e
  rw [hk, ix_ptr (q := 1 + k) k (by omega)] at hvx
  have hs : storeS ⟨Y, true⟩ H ty (.ptr i (1 + k)) (.int .i64 v) = some (i, q, []) := by
   have ht : Tx.get ⟨Y, true⟩ ty = some ti := hti
   simp only [storeS, hH, ht, hrow, hone, hr]
   rfl
  refine storeS_do (X := ⟨Y, true⟩) hX A hs okE_nil hvx hvy rfl rfl hw fun cs L vs' w' a1 a2 a3 a4 a5 => ⟨[], rfl, ?_⟩
  subst e
  simpa using (A.turn a1 a2 a3 a4 a5).ms
 rcases lt8 hj with rfl | rfl | rfl | rfl | rfl | rfl | rfl | rfl
 ·exact key 0 rfl _ rfl rfl
 ·exact key 1 rfl _ rfl rfl
 ·exact key 2 rfl _ rfl rfl
 ·exact key 3 rfl _ rfl rfl
 ·exact key 4 rfl _ rfl rfl
 ·exact key 5 rfl _ rfl rfl
 ·exact key 6 rfl _ rfl rfl
 ·exact key 7 rfl _ rfl rfl
theorem ldtE {x : Operand} {ty i : Nat} {j at_ : Int} {r : Rg} {s1 s2 : SV} {ti : TI} (hX : Y.ok P = true) (hop : o.op = .load ty x) (hg : guardS ops T o.guard = some .run) (hx : evS T x = some (.ix (.ptr i 1) 1 8 j 0)) (hH : lg H i = some (some (.blk (thS s1 r at_ s2)))) (hti : Y.get ty = some ti) (hrow : ti.row = none) (hone : ti.one = true) (hj : 0 ≤ j ∧ j < 8) :
  EffOK P n ops ks G0 w0 T H o (.int .i64 (r j.toNat)) H := fun G a w A => by
 have hw := gd_run (gd := none) A hg
 obtain ⟨d, op, ty', pos, af, gd⟩ := o
 simp only at hop
 subst hop
 have hvx := A.ev hx
 have key : ∀ k : Nat, j = (k : Int) → (lg (thS s1 r at_ s2) (1 + k) = some (.int .i64 (r j.toNat))) → Does P ops { dst := d, op := .load ty x, type := ty', pos := pos, after := af, guard := gd } a w fun v' w' => ∃ F, den (G ++ F) (.int .i64 (r j.toNat)) = some v' ∧ Ms H ks G0 w0 (G ++ F) w' := by
  intro k hk hr
  rw [hk, ix_ptr (q := 1 + k) k (by omega)] at hvx
  have hs : loadS ⟨Y, true⟩ H ty (.ptr i (1 + k)) = some (.int .i64 (r j.toNat), []) := by
   have ht : Tx.get ⟨Y, true⟩ ty = some ti := hti
   simp only [loadS, baseS, hH, selL, cellS, ht, hrow, hone, hr, cond_true]
  obtain ⟨z, hz, h3⟩ := loadS_do (X := ⟨Y, true⟩) (P := P) (ops := ops) (d := d) (ty := ty') (pos := pos) (af := af) (gd := gd) (x := x) hX A hs hvx
  exact h3 (fun p hp => by cases hp) rfl hw _ ⟨[], by simpa using hz, by simpa using A.ms⟩
 rcases lt8 hj with rfl | rfl | rfl | rfl | rfl | rfl | rfl | rfl
 ·exact key 0 rfl rfl
 ·exact key 1 rfl rfl
 ·exact key 2 rfl rfl
 ·exact key 3 rfl rfl
 ·exact key 4 rfl rfl
 ·exact key 5 rfl rfl
 ·exact key 6 rfl rfl
 ·exact key 7 rfl rfl
theorem Sy.takeK (A : Sy n T H ks G0 w0 G a w) {L : Loc} {en : Ent} (hen : EntOK G w (some L) en) (hmu : en.mut = true) (hn : ∀ (i : Nat) (e : Ent) (M : Loc), H[i]? = some (some e) → G[i]? = some (some M) → ¬ e.empty → M.b ≠ L.b) (ho : ks.contains L.b = true ∨ w0.heap.size ≤ L.b) :
  Sy n T (H ++ [some en]) ks G0 w0 (G ++ [some L]) a w := by
 have hlen := A.mem.len
 have hold : ∀ (i : Nat) (x : Ent), (H ++ [some en])[i]? = some (some x) → (H[i]? = some (some x) ∧ i < H.length) ∨ (i = H.length ∧ x = en) := by
  intro i x h
  by_cases hi : i < H.length
  ·rw [List.getElem?_append_left hi] at h; exact .inl ⟨h, hi⟩
  ·rw [List.getElem?_append_right (by omega)] at h
   have : i - H.length = 0 := by
    cases hq : i - H.length with
    | zero => rfl
    | succ k => rw [hq] at h; simp at h
   rw [this] at h
   simp at h
   exact .inr ⟨by omega, h.symm⟩
 have hG : ∀ i, i < H.length → (G ++ [some L])[i]? = G[i]? := fun i hi => List.getElem?_append_left (by omega)
 have hGn : (G ++ [some L])[H.length]? = some (some L) := by rw [List.getElem?_append_right (by omega), hlen]; simp
 refine ⟨A.size, A.defers, fun q x hx => den_mono _ x (A.get q x hx), ⟨by simp [hlen], ?_, ?_⟩, ?_, ?_, A.mix⟩
 ·intro i x h
  rcases hold i x h with ⟨h1, h2⟩ | ⟨rfl, rfl⟩
  ·rw [hG i h2]; exact (A.mem.ent i x h1).more _
  ·rw [hGn]; exact hen.more _
 ·intro i j x y M N hij h1 h2 h3 h4 h5 h6
  rcases hold i x h1 with ⟨k1, k2⟩ | ⟨rfl, rfl⟩
  ·rw [hG i k2] at h4
   rcases hold j y h2 with ⟨k3, k4⟩ | ⟨rfl, rfl⟩
   ·rw [hG j k4] at h5; exact A.mem.sep i j x y M N hij k1 k3 h3 h4 h5 h6
   ·rw [hGn] at h5; cases h5; exact hn i x M k1 h4 (mut_full h3)
  ·rw [hGn] at h4; cases h4
   rcases hold j y h2 with ⟨k3, k4⟩ | ⟨rfl, rfl⟩
   ·rw [hG j k4] at h5; exact fun z => hn j y N k3 h5 h6 z.symm
   ·exact absurd rfl hij
 ·obtain ⟨F, hF⟩ := A.pre; exact ⟨F ++ [some L], by rw [hF, List.append_assoc]⟩
 ·intro i x M h1 h2 h3
  rcases hold i x h1 with ⟨k1, k2⟩ | ⟨rfl, rfl⟩
  ·rw [hG i k2] at h3; exact A.own i x M k1 h2 h3
  ·rw [hGn] at h3; cases h3; exact ho
end
abbrev nmF (ps : List Int) : Nat → List SV := fun j => [.int .i64 (ps.getD j 0)]
theorem nmF_tot (ps : List Int) : ∀ k, ∃ vs, denL [] (nmF ps k) = some vs ∧ vs.length = 1 := fun k => ⟨_, rfl, rfl⟩
def pbV (pb : Option (Nat × Nat)) (n : Nat) : Value := match pb with
 | none => .slice none 0 0
 | some q => .slice (some ⟨q.1, 0, none⟩) n q.2
def pbB (pb : Option (Nat × Nat)) : List Nat := match pb with
 | none => []
 | some q => [q.1]
def PathOK (pb : Option (Nat × Nat)) (ps : List Int) (w : World) : Prop := match pb with
 | none => ps = []
 | some q => Given 3 1 ps.length (nmF ps) q.1 q.2 w
structure OutT (L : Loc) (cs : List SV) (pb : Option (Nat × Nat)) (ps : List Int) (w : World) : Prop where
 blk : ∃ vs, denL [] cs = some vs ∧ Blk w L.b (L.pre ++ (vs ++ [pbV pb ps.length]) ++ L.post).toArray L.t
 path : PathOK pb ps w
 ne : ∀ q, pb = some q → q.1 ≠ L.b
theorem denL_snoc {G : Gr} {x : SV} {v : Value} (hx : den G x = some v) : ∀ {l : List SV} {vs : List Value}, denL G l = some vs → denL G (l ++ [x]) = some (vs ++ [v])
 | [], vs, h => by cases h; exact denL_mk hx rfl
 | y :: l, vs, h => by
  obtain ⟨u, ws, h1, h2, rfl⟩ := denL_cons h
  exact denL_mk h1 (denL_snoc hx h2)
section
variable {P : Program} {Y : Tb} {n : Nat} {ks : List Nat} {G0 : Gr} {w0 : World} {T : List (Nat × SV)} {H : Hp} {G : Gr} {a : Act} {w : World} {ops : Array Oper} {o : Oper} {rest : List Oper} {Q : Exit → Act → World → Prop} {K : List Fr} {pos : Pos}
theorem Sy.takeT (A : Sy n T H ks G0 w0 G a w) (t : Nat) {L : Loc} {cs : List SV} {pb : Option (Nat × Nat)} {ps : List Int} (ho : OutT L cs pb ps w) (hoff : Off H G (L.b :: pbB pb)) (hown : ∀ b, (L.b :: pbB pb).contains b = true → ks.contains b = true ∨ w0.heap.size ≤ b) (ht : look T t = some (adr L.b L.pre.length)) :
  ∃ p, Sy n ((t, .ptr (H.length + 1) 0) :: T) (H ++ [some (.row 3 1 ps.length 0 (nmF ps))] ++ [some (.blk (cs ++ [.sl H.length ps.length 0]))]) ks G0 w0 (G ++ [p] ++ [some L]) a w ∧ ∀ M : Loc, p = some M → (pbB pb).contains M.b = true := by
 have hlen := A.mem.len
 obtain ⟨vs, hvs, hb⟩ := ho.blk
 have fin : ∀ (p : Option Loc) (A1 : Sy n T (H ++ [some (.row 3 1 ps.length 0 (nmF ps))]) ks G0 w0 (G ++ [p]) a w) (hp : ∀ M : Loc, p = some M → M.b ≠ L.b) (hd : den (G ++ [p]) (.sl H.length ps.length 0) = some (pbV pb ps.length)), Sy n ((t, .ptr (H.length + 1) 0) :: T) (H ++ [some (.row 3 1 ps.length 0 (nmF ps))] ++ [some (.blk (cs ++ [.sl H.length ps.length 0]))]) ks G0 w0 (G ++ [p] ++ [some L]) a w := by
  intro p A1 hp hd
  have A2 := A1.takeK (L := L) (en := .blk (cs ++ [.sl H.length ps.length 0])) ⟨L, _, rfl, denL_snoc hd (by simpa using denL_mono (G ++ [p]) cs hvs), hb⟩ rfl (fun i e M h1 h2 h3 => by
   by_cases hi : i < H.length
   ·rw [List.getElem?_append_left hi] at h1
    rw [List.getElem?_append_left (by omega)] at h2
    have := hoff i e M h1 h2 h3
    intro z; rw [z] at this; simp at this
   ·have hi2 : i = H.length := by
     have := (List.getElem?_eq_some_iff.1 h1).1
     simp at this; omega
    subst hi2
    rw [List.getElem?_append_right (by omega), hlen] at h2
    simp at h2
    exact hp M h2) (hown L.b (by simp))
  refine A2.slotEq t ht ?_
  unfold den
  rw [List.getElem?_append_right (by simp; omega)]
  simp [hlen]
 cases hpb : pb with
 | none =>
  subst hpb
  have hps : ps = [] := ho.path
  subst hps
  refine ⟨none, fin none (A.nilPlace 3 1 _ (nmF_tot _)) (fun M h => by cases h) ?_, fun M h => by cases h⟩
  unfold den
  rw [List.getElem?_append_right (by omega), hlen]
  simp [rm, pbV]
 | some q =>
  subst hpb
  obtain ⟨p1, xs, p2, p3⟩ : Given 3 1 ps.length (nmF ps) q.1 q.2 w := ho.path
  have A1 := A.takeK (L := ⟨q.1, [], List.replicate q.2 undef, 3⟩) (en := .row 3 1 ps.length 0 (nmF ps)) ⟨p1, fun L hL => by cases hL; rfl, xs, p2, by simpa [rm] using p3⟩ rfl (fun i e M h1 h2 h3 => by
   have := hoff i e M h1 h2 h3
   intro z; rw [z] at this; simp [pbB] at this) (hown q.1 (by simp [pbB]))
  refine ⟨_, fin _ A1 (fun M h => by cases h; exact ho.ne q rfl) ?_, fun M h => by cases h; simp [pbB]⟩
  unfold den
  rw [List.getElem?_append_right (by omega), hlen]
  simp [rm, pbV]
theorem Sy.giveT (A : Sy n T H ks G0 w0 G a w) (i q : Nat) {cs : List SV} {ps : List Int} {L : Loc} {vs : List Value} (hGi : G[i]? = some (some L)) (hi : lg H i = some (some (.blk (cs ++ [.sl q ps.length 0])))) (hq : lg H q = some (some (.row 3 1 ps.length 0 (nmF ps)))) (hiq : Nat.beq i q = false) (hcs : denL [] cs = some vs) :
  ∃ pb, OutT L cs pb ps w ∧ ∀ b, (pbB pb).contains b = true → ks.contains b = true ∨ w0.heap.size ≤ b := by
 have hne : i ≠ q := fun e => by subst e; rw [Nat.beq_refl] at hiq; cases hiq
 rw [lg_is] at hi hq
 obtain ⟨L', us, p1, p2, p3⟩ := A.mem.ent i _ hi
 rw [hGi] at p1
 cases p1
 obtain ⟨h1, h2, xs, h3, h4⟩ := A.mem.ent q _ hq
 have hu : ∀ v, den G (.sl q ps.length 0) = some v → us = vs ++ [v] := fun v hv => by
  have := denL_snoc hv (by simpa using denL_mono G cs hcs)
  rw [this] at p2; exact (Option.some.inj p2).symm
 have nil : (G[q]?).getD none = none → ∃ pb, OutT L cs pb ps w ∧ ∀ b, (pbB pb).contains b = true → ks.contains b = true ∨ w0.heap.size ≤ b := fun hz => by
  rw [hz] at h4
  have hps : ps = [] := by
   rcases h4.2 with ⟨_, h⟩ | ⟨g, cap, cur, h, _⟩
   ·exact List.eq_nil_of_length_eq_zero (by omega)
   ·cases h
  subst hps
  refine ⟨none, ⟨⟨vs, hcs, ?_⟩, rfl, fun q h => by cases h⟩, fun b h => by simp [pbB] at h⟩
  have hlt : q < G.length := by rw [← A.mem.len]; exact (List.getElem?_eq_some_iff.1 hq).1
  have hGq : G[q]? = some none := by
   rw [List.getElem?_eq_getElem hlt] at hz ⊢
   simpa using hz
  rw [hu (.slice none 0 0) (by unfold den; rw [hGq]; simp [rm])] at p3
  exact p3
 cases hz : G[q]? with
 | none => exact nil (by rw [hz]; rfl)
 | some p =>
  cases p with
  | none => exact nil (by rw [hz]; rfl)
  | some M =>
   rw [hz] at h2 h4
   have hpre : M.pre = [] := h2 M rfl
   have h4' : w.ownsRow 0 3 1 (.slice (some ⟨M.b, 0, none⟩) ps.length (0 + rm (some M))) ps.length xs := by
    have : (Option.map (fun L : Loc => (⟨L.b, L.pre.length, none⟩ : Addr)) (some M)) = some ⟨M.b, 0, none⟩ := by simp [hpre]
    rw [← this]; exact h4
   refine ⟨some (M.b, 0 + rm (some M)), ⟨⟨vs, hcs, ?_⟩, ⟨h1, xs, h3, h4'⟩, fun q' h => ?_⟩, fun b h => ?_⟩
   ·rw [hu (.slice (some ⟨M.b, 0, none⟩) ps.length (0 + rm (some M))) (by unfold den; rw [hz]; simp [hpre])] at p3
    exact p3
   ·cases h; exact fun z => A.mem.sep i q _ _ L M hne hi hq rfl hGi hz (fun h => h) z.symm
   ·have : b = M.b := by simpa [pbB] using h
    subst this
    exact A.own q _ M hq rfl hz
theorem Sy.moveT (A : Sy n T H ks G0 w0 G a w) (i q : Nat) {cs : List SV} {e s m : Nat} {f : Nat → List SV} {H' : Hp} (hi : lg H i = some (some (.blk (cs ++ [.sl q m 0])))) (hq : lg H q = some (some (.row e s m 0 f))) (hiq : Nat.beq i q = false) (hH : stH (stH H q none ++ [some (.row e s m 0 f)]) i (some (.blk (cs ++ [.sl H.length m 0]))) = H') :
  ∃ p, Sy n T H' ks G0 w0 (G ++ [p]) a w := by
 have hne : i ≠ q := fun e => by subst e; rw [Nat.beq_refl] at hiq; cases hiq
 rw [lg_is] at hi hq
 have hilt := (List.getElem?_eq_some_iff.1 hi).1
 have hqlt := (List.getElem?_eq_some_iff.1 hq).1
 have hlen := A.mem.len
 have hsl : (stH H q none).length = H.length := by rw [stH_is]; simp
 have B := A.hide q
 obtain ⟨h1, h2, xs, h3, h4⟩ := A.mem.ent q _ hq
 have hi1 : lg (stH H q none ++ [some (Ent.row e s m 0 f)]) i = some (some (.blk (cs ++ [.sl q m 0]))) := by
  rw [lg_is, List.getElem?_append_left (by omega), stH_is, List.getElem?_set_ne (Ne.symm hne)]; exact hi
 have fin : ∀ p, (G[q]?).getD none = p → Sy n T (stH H q none ++ [some (.row e s m 0 f)]) ks G0 w0 (G ++ [p]) a w → Sy n T H' ks G0 w0 (G ++ [p]) a w := fun p hp A2 => by
  refine A2.cellEq i (cs := cs ++ [.sl q m 0]) (cs' := cs ++ [.sl H.length m 0]) hi1 (denL_at ?_ cs []) hH
  have hGq : G[q]? = some p := by
   rw [List.getElem?_eq_getElem (by omega)] at hp ⊢
   simpa using hp
  unfold den
  rw [List.getElem?_append_right (by omega), List.getElem?_append_left (by omega), hGq, hlen]
  simp
 cases hz : (G[q]?).getD none with
 | none =>
  rw [hz] at h4
  have hm : m = 0 := by
   rcases h4.2 with ⟨_, h⟩ | ⟨g, cap, cur, h, _⟩
   ·omega
   ·cases h
  subst hm
  exact ⟨none, fin none hz (B.nilPlace e s f h1)⟩
 | some M =>
  have hGq : G[q]? = some (some M) := by
   rw [List.getElem?_eq_getElem (by omega)] at hz ⊢
   simpa using hz
  refine ⟨some M, fin (some M) hz (B.takeK (L := M) (en := .row e s m 0 f) (by have := A.mem.ent q _ hq; rw [hz] at this; exact this) rfl (fun j x N g1 g2 g3 => ?_) (A.own q _ M hq rfl hGq))⟩
  rw [stH_is] at g1
  by_cases hj : j = q
  ·subst hj; rw [List.getElem?_set_self hqlt] at g1; cases g1
  ·rw [List.getElem?_set_ne (Ne.symm hj)] at g1
   exact fun z => A.mem.sep q j _ x M N (Ne.symm hj) hq g1 rfl hGq g2 g3 z.symm
theorem ADOPTQ {b q0 s : Nat} {f : Nat → List SV} (t : Nat) {H' : Hp} (h0 : LstAt (some ⟨b, q0, none⟩) s 1 f w0 ks) (A : Sy n T H ks G0 w0 G a w) (ht : look T t = some (adr b q0)) (hH : H ++ [some (.lst s 1 f)] = H') (k : ∀ {G}, Sy n ((t, .el H.length s 0 0) :: T) H' ks G0 w0 G a w → Goal P Q K pos a w) : Goal P Q K pos a w := by
 subst hH
 have A1 := A.adoptB (bo := some (b, q0)) h0 (by decide) t ht (fun z hz => by cases hz)
 have hlen := A.mem.len
 have A2 := A1.slotEq t (x := adr b q0) (y := .el H.length s 0 0) (by show look ((t, adr b q0) :: T) t = _; unfold look; rw [Nat.beq_refl]; rfl) (by
  unfold den
  rw [List.getElem?_append_right (by omega), hlen]
  simp [locB])
 refine k ⟨A2.size, A2.defers, fun q x hx => A2.get q x ?_, A2.mem, A2.pre, A2.own, A2.mix⟩
 unfold look at hx ⊢
 cases hb : Nat.beq t q with
 | true => rw [hb] at hx; exact hx
 | false => rw [hb] at hx; show look _ _ = _; unfold look; rw [hb]; exact hx
abbrev thC (x : SV) (r : Rg) (at_ : Int) : List SV := [x, .int .i64 (r 0), .int .i64 (r 1), .int .i64 (r 2), .int .i64 (r 3), .int .i64 (r 4), .int .i64 (r 5), .int .i64 (r 6), .int .i64 (r 7), .int .i64 at_]
theorem TAKET (t : Nat) {L : Loc} {cs : List SV} {pb : Option (Nat × Nat)} {ps : List Int} {H' : Hp} (A : Sy n T [] (L.b :: pbB pb) G0 w0 G a w) (ho : OutT L cs pb ps w) (ht : look T t = some (adr L.b L.pre.length)) (hH : [some (.row 3 1 ps.length 0 (nmF ps)), some (.blk (cs ++ [.sl 0 ps.length 0]))] = H')
  (k : ∀ {G}, Sy n ((t, .ptr 1 0) :: T) H' (L.b :: pbB pb) G0 w0 G a w → G[1]? = some (some L) → (∀ b, (keys H' G).contains b = true → (L.b :: pbB pb).contains b = true ∨ w.heap.size ≤ b) → Goal P Q K pos a w) : Goal P Q K pos a w := by
 subst hH
 have hG : G = [] := List.eq_nil_of_length_eq_zero (by rw [← A.mem.len]; rfl)
 subst hG
 obtain ⟨p, A1, hp⟩ := A.takeT t ho (fun i e M h => by simp at h) (fun b hb => .inl hb) ht
 refine k A1 rfl (fun b hb => .inl ?_)
 obtain ⟨i, en, M, g1, g2, g3, g4⟩ := mem_keys.1 hb
 match i, g1, g3 with
 | 1, g1, g3 => cases g3; subst g4; simp
 | 0, g1, g3 =>
  have h := hp M (by simpa using g3)
  subst g4
  rw [List.contains_cons, h, Bool.or_true]
 | i + 2, g1, g3 => simp at g1
theorem MOVET (i q : Nat) {cs : List SV} {e s m : Nat} {f : Nat → List SV} {H' : Hp} (A : Sy n T H ks G0 w0 G a w) (hi : lg H i = some (some (.blk (cs ++ [.sl q m 0])))) (hq : lg H q = some (some (.row e s m 0 f))) (hiq : Nat.beq i q = false) (hH : stH (stH H q none ++ [some (.row e s m 0 f)]) i (some (.blk (cs ++ [.sl H.length m 0]))) = H') (k : ∀ {G}, Sy n T H' ks G0 w0 G a w → Goal P Q K pos a w) : Goal P Q K pos a w := by
 obtain ⟨p, A1⟩ := A.moveT i q hi hq hiq hH
 exact k A1
end
end Go.Proofs.YtjkppaijicjpoaaGreatDoor
namespace Go.Proofs.YtjkppaijicjpoaaGreatDoor.Mc
open Go.RowKit
set_option linter.unusedVariables false
set_option linter.unusedSimpArgs false
set_option maxRecDepth 100000
set_option maxHeartbeats 2000000
set_option simprocs false
def datT (r : Rg) (i : In) : Int := if ((i.op == 5) && (decide (i.ra < 0))) = true then i.imm else rgO r i.ra 0
theorem tget_ (l : List In) (ao : Option Addr) (cp : Nat) (at_ : Int) (r : Rg) (ps : List Int) (g : Int) (hg : -1 ≤ g ∧ g < 8) : Fn Tryz.prog 57 [.ptr 0 0, .int .i64 g] [some (.blk (thS (.sla ao l.length cp) r at_ (.sl 1 ps.length 0))), some (.row 3 1 ps.length 0 (nmF ps))] (Rt (.int .i64 (rgO r g 0)) [some (.blk (thS (.sla ao l.length cp) r at_ (.sl 1 ps.length 0))), some (.row 3 1 ps.length 0 (nmF ps))]) :=
 enterM (n := 13) (by kernel_rfl) Tryz.func57 rfl rfl rfl fun G w a h0 A => N9 12 A rfl rfl fun A => forkD 6 A rfl
  (fun h1 A => N9 7 A rfl rfl fun A => R9 A rfl h0 rfl (by unfold rgO; rw [if_pos (by omega)] <;> rfl) rfl)
  (fun h1 A => N9 10 A rfl (ok_d (by omega) <| okE_nil) fun A => q_eff A rfl (ldtE (r := r) hX rfl rfl rfl rfl rfl rfl rfl (by omega)) fun A => N9 4 A rfl rfl fun A => R9 A rfl h0 rfl (by unfold rgO; rw [if_neg (by omega)] <;> rfl) rfl)
theorem tDat_ (l : List In) (ao : Option Addr) (cp : Nat) (at_ : Int) (r : Rg) (ps : List Int) (i : In) (ha : -1 ≤ i.ra ∧ i.ra < 8) : Fn Tryz.prog 36 [.ptr 0 0, .agg (inQ9 i)] [some (.blk (thS (.sla ao l.length cp) r at_ (.sl 1 ps.length 0))), some (.row 3 1 ps.length 0 (nmF ps))] (Rt (.int .i64 (datT r i)) [some (.blk (thS (.sla ao l.length cp) r at_ (.sl 1 ps.length 0))), some (.row 3 1 ps.length 0 (nmF ps))]) :=
 enterM (n := 19) (by kernel_rfl) Tryz.func36 rfl rfl rfl fun G w a h0 A => N9 19 A rfl rfl fun A => fork 12 A rfl
  (fun h1 A => N9 9 A rfl rfl fun A => R9 A rfl h0 rfl (by unfold datT; rw [h1] <;> rfl) rfl)
  (fun h1 A => N9 8 A rfl rfl fun A => C9 [0, 1] (tget_ l ao cp at_ r ps i.ra (by omega)) A rfl fun A => N9 4 A rfl rfl fun A => R9 A rfl h0 rfl (by unfold datT; rw [h1] <;> rfl) rfl)
theorem tWhr_ (l : List In) (ao : Option Addr) (cp : Nat) (at_ : Int) (r : Rg) (ps : List Int) (i : In) (hs : i.sz = 1 ∨ i.sz = 2 ∨ i.sz = 4 ∨ i.sz = 8) (hx : -1 ≤ i.ix ∧ i.ix < 8) : Fn Tryz.prog 34 [.ptr 0 0, .agg (inQ9 i)] [some (.blk (thS (.sla ao l.length cp) r at_ (.sl 1 ps.length 0))), some (.row 3 1 ps.length 0 (nmF ps))] (Rt (.agg [.int .i64 i.loc, .int .i64 (bmask0 (bplace0 i.off (rgO r i.ix 0) i.sz) i.sz)]) [some (.blk (thS (.sla ao l.length cp) r at_ (.sl 1 ps.length 0))), some (.row 3 1 ps.length 0 (nmF ps))]) :=
 enterM (n := 11) (by kernel_rfl) Tryz.func34 rfl rfl rfl fun G w a h0 A => N9 7 A rfl rfl fun A => DRAWN hX hmo [(5, .agg [.int .i64 i.loc, .int .i64 (bmask0 (bplace0 i.off (rgO r i.ix 0) i.sz) i.sz)])] [(4, .int .i64 (rgO r i.ix 0), [some (.blk (thS (.sla ao l.length cp) r at_ (.sl 1 ps.length 0))), some (.row 3 1 ps.length 0 (nmF ps)), some (.blk (inQ9 i)), some (.blk [.z9, .z9])])] A rfl rfl rfl rfl (by kernel_rfl) ⟨callE [0, 1] (tget_ l ao cp at_ r ps i.ix hx) rfl rfl rfl rfl rfl rfl rfl, ⟨trivial, trivial⟩⟩ ⟨.inl ⟨_, _, rfl, rfl, rSpan_ i (rgO r i.ix 0) hs⟩, trivial⟩ fun A => N9 2 A rfl rfl fun A => R9 A rfl h0 rfl rfl rfl
end Go.Proofs.YtjkppaijicjpoaaGreatDoor.Mc
