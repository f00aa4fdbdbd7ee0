/- TsoBuffers, part 3: the engine, contracts, theory. -/
import Derived.Test.YtbbdanhpphlbpaaGreatDoorTsoBuffersP2
import Derived.Laws.Pointers
import Derived.Lib.LaidTab
namespace Go.Proofs.YtbbdanhpphlbpaaGreatDoor
open Go.RowKit
set_option linter.unusedVariables false
set_option linter.unusedSimpArgs false
set_option linter.unusedSectionVars false
theorem le0 {H : Hp} {G : Gr} {r : Nat} (h : H.length = G.length) (hb : Nat.ble H.length r = true) : G.length ≤ r := by rw [← h]; exact Nat.le_of_ble_eq_true hb
mutual
def avS (r : Nat) : SV → Bool
 | .ptr i _ => !Nat.beq i r
 | .el i _ _ _ => !Nat.beq i r
 | .sl i _ _ => !Nat.beq i r
 | .agg l => avL r l
 | .tup l => avL r l
 | .fn _ l => avL r l
 | .opt _ x => avS r x
 | .ix p _ _ _ _ => avS r p
 | .sp p _ _ => avS r p
 | .st i _ _ _ _ => !Nat.beq i r
 | _ => true
def avL (r : Nat) : List SV → Bool
 | [] => true
 | x :: l => avS r x && avL r l
end
theorem av_out {D : List Nat} {i : Nat} (h : ∀ r ∈ D, (!Nat.beq i r) = true) : i ∉ D := fun hi => by
 have := h i hi
 rw [show Nat.beq i i = true from Nat.beq_refl i] at this
 cases this
mutual
theorem den_off {G G' : Gr} {D : List Nat} (e : ∀ i, i ∉ D → G'[i]? = G[i]?) : ∀ (x : SV), (∀ r ∈ D, avS r x = true) → den G' x = den G x
 | .ptr i _, h => by unfold den; rw [e i (av_out h)]
 | .el i _ _ _, h => by unfold den; rw [e i (av_out h)]
 | .sl i _ _, h => by unfold den; rw [e i (av_out h)]
 | .agg l, h => by unfold den; rw [denL_off e l h]
 | .tup l, h => by unfold den; rw [denL_off e l h]
 | .fn _ l, h => by unfold den; rw [denL_off e l h]
 | .opt _ x, h => by unfold den; rw [den_off e x h]
 | .ix p _ _ _ _, h => by unfold den; rw [den_off e p h]
 | .sp p _ _, h => by unfold den; rw [den_off e p h]
 | .st i _ _ _ _, h => by unfold den; rw [e i (av_out h)]
 | .int _ _, _ => rfl
 | .bool _, _ => rfl
 | .tt, _ => rfl
 | .ff, _ => rfl
 | .str _, _ => rfl
 | .sla _ _ _, _ => rfl
 | .v _, _ => rfl
theorem denL_off {G G' : Gr} {D : List Nat} (e : ∀ i, i ∉ D → G'[i]? = G[i]?) : ∀ (l : List SV), (∀ r ∈ D, avL r l = true) → denL G' l = denL G l
 | [], _ => rfl
 | x :: l, h => by
  unfold denL
  rw [den_off e x fun r hr => by have := h r hr; simp only [avL, Bool.and_eq_true] at this; exact this.1, denL_off e l fun r hr => by have := h r hr; simp only [avL, Bool.and_eq_true] at this; exact this.2]
end
def avE (r : Nat) : Option Ent → Bool
 | some (.blk cs) => avL r cs
 | _ => true
def avH (r : Nat) : Hp → Bool
 | [] => true
 | e :: H => avE r e && avH r H
theorem avH_at {r : Nat} : ∀ {H : Hp}, avH r H = true → ∀ (i : Nat) (e : Option Ent), H[i]? = some e → avE r e = true
 | [], _, i, e, h => by cases h
 | f :: H, hb, i, e, h => by
  simp only [avH, Bool.and_eq_true] at hb
  cases i with
  | zero => cases h; exact hb.1
  | succ i => exact avH_at hb.2 i e (by simpa using h)
theorem EntOK.off {G G' : Gr} {r : Nat} {w : World} {p : Option Loc} {e : Ent} (h : EntOK G w p e) (hG : ∀ i, i ∉ [r] → G'[i]? = G[i]?) (ha : avE r (some e) = true) : EntOK G' w p e := by
 cases e with
 | blk cs => obtain ⟨M, vs, h1, h2, h3⟩ := h; exact ⟨M, vs, h1, by rw [denL_off hG cs (fun q hq => by simp at hq; subst hq; exact ha)]; exact h2, h3⟩
 | lst s n f => exact h
 | fac b o => exact h
 | row e s n c f => exact h
section
variable {P : Program} {X : Tx} {n : Nat} {ks : List Nat} {G0 : Gr} {w0 : World} {T : List (Nat × SV)} {H : Hp} {G : Gr} {a : Act} {w w' : World} {ops : Array Oper} {o : Oper}
theorem set_off {r : Nat} {y : Option Loc} : ∀ i, i ∉ [r] → (G.set r y)[i]? = G[i]? := fun i hi => by
 simp at hi
 rw [List.getElem?_set_ne (fun h => hi h.symm)]
theorem Sy.place (A : Sy n T H ks G0 w0 G a w) {r g : Nat} {t : TypeId} {en : Ent} (hr : H[r]? = some none) (hr0 : G0.length ≤ r) (hav : avH r H = true) (hg : g = w.heap.size) (hgr : Grow w w') (hen : EntOK G w' (some ⟨g, [], [], t⟩) en) (hmu : en.mut = true) (hae : avE r (some en) = true) :
  Ms (stH H r (some en)) ks G0 w0 (G.set r (some ⟨g, [], [], t⟩)) w' := by
 have hlen := A.mem.len
 have hrl : r < H.length := (List.getElem?_eq_some_iff.1 hr).1
 have B := A.ms.grow hgr
 have hold : ∀ (i : Nat) (e : Ent), (stH H r (some en))[i]? = some (some e) → (i ≠ r ∧ H[i]? = some (some e)) ∨ (i = r ∧ e = en) := by
  intro i e h
  rw [stH_is] at h
  by_cases hi : i = r
  ·subst hi; rw [List.getElem?_set_self hrl] at h; cases h; exact .inr ⟨rfl, rfl⟩
  ·rw [List.getElem?_set_ne (Ne.symm hi)] at h; exact .inl ⟨hi, h⟩
 have hself : (G.set r (some (⟨g, [], [], t⟩ : Loc)))[r]? = some (some ⟨g, [], [], t⟩) := List.getElem?_set_self (by omega)
 have hne : ∀ {i : Nat}, i ≠ r → (G.set r (some (⟨g, [], [], t⟩ : Loc)))[i]? = G[i]? := fun hi => by rw [List.getElem?_set_ne (Ne.symm hi)]
 refine ⟨⟨by rw [stH_is]; simpa using hlen, fun i e h => ?_, fun i j e f L M hij h1 h2 h3 h4 h5 h6 => ?_⟩, ?_, fun i e L h1 h2 h3 => ?_, B.mix⟩
 ·rcases hold i e h with ⟨h1, h2⟩ | ⟨rfl, rfl⟩
  ·rw [hne h1]; exact (B.mem.ent i e h2).off set_off (avH_at hav i _ h2)
  ·rw [hself]; exact hen.off set_off hae
 ·rcases hold i e h1 with ⟨a1, a2⟩ | ⟨rfl, rfl⟩
  ·rw [hne a1] at h4
   rcases hold j f h2 with ⟨b1, b2⟩ | ⟨rfl, rfl⟩
   ·rw [hne b1] at h5; exact B.mem.sep i j e f L M hij a2 b2 h3 h4 h5 h6
   ·rw [hself] at h5; cases h5
    have := A.mem.ent i e a2
    rw [h4] at this
    have := EntOK.lt this (mut_full h3)
    show L.b ≠ g; omega
  ·rw [hself] at h4; cases h4
   rcases hold j f h2 with ⟨b1, b2⟩ | ⟨rfl, rfl⟩
   ·rw [hne b1] at h5
    have := A.mem.ent j f b2
    rw [h5] at this
    have := EntOK.lt this h6
    show g ≠ M.b; omega
   ·exact absurd rfl hij
 ·obtain ⟨F, hF⟩ := A.pre
  refine ⟨F.set (r - G0.length) (some ⟨g, [], [], t⟩), ?_⟩
  rw [hF, List.set_append_right _ _ hr0]
 ·rcases hold i e h1 with ⟨a1, a2⟩ | ⟨rfl, rfl⟩
  ·rw [hne a1] at h3; exact B.own i e L a2 h2 h3
  ·rw [hself] at h3; cases h3
   have := A.mix.size
   exact .inr (by show w0.heap.size ≤ g; omega)
def EffAt (P : Program) (n : Nat) (ops : Array Oper) (ks : List Nat) (G0 : Gr) (w0 : World) (Tw : List (Nat × SV)) (H : Hp) (o : Oper) (x : SV) (H' : Hp) (rs : List Nat) : Prop :=
 ∀ G a w, Sy n Tw H ks G0 w0 G a w → Does P ops o a w fun v w' => ∃ G', (∀ i, i ∉ rs → G'[i]? = G[i]?) ∧ den G' x = some v ∧ Ms H' ks G0 w0 G' w'
theorem eff_at {Tw : List (Nat × SV)} {x : SV} {H' : Hp} {rs : List Nat} (h : EffOK P n ops ks G0 w0 Tw H o x H') (hl : H'.length = H.length) : EffAt P n ops ks G0 w0 Tw H o x H' rs := by
 intro G a w A
 refine does_mono (h G a w A) fun v w' ⟨F, h1, h2⟩ => ⟨G, fun _ _ => rfl, ?_⟩
 have e1 := h2.mem.len
 have e2 := A.mem.len
 have : F = [] := List.eq_nil_of_length_eq_zero (by rw [List.length_append] at e1; omega)
 subst this
 rw [List.append_nil] at h1 h2
 exact ⟨h1, h2⟩
theorem new_at (r : Nat) {Tw : List (Nat × SV)} {x x0 : SV} {H' : Hp} {rs : List Nat} {t : TypeId} {en : Ent} (hX : X.ok P = true) (h : stepS X n ops Tw H o = some (.new t en x0)) (hr : lg H r = some none) (hr0 : G0.length ≤ r) (hav : (avH r H && avE r (some en)) = true) (hren : renO (stH (rngF 0 H.length) r H.length) x = some x0) (hH : stH H r (some en) = H') (hrs : rs.contains r = true) : EffAt P n ops ks G0 w0 Tw H o x H' rs := by
 intro G a w A
 rw [Bool.and_eq_true] at hav
 rw [lg_is] at hr
 have hrl : r < H.length := (List.getElem?_eq_some_iff.1 hr).1
 unfold stepS at h
 split at h
 ·next hd =>
  split at h
  ·next hg =>
   refine xop_new (P := P) (ops := ops) hX A h (gd_run (gd := none) A hg) fun g w' v a1 a2 a3 a4 a5 => ⟨G.set r (some ⟨g, [], [], t⟩), fun i hi => set_off i (fun hq => ?_), ?_, ?_⟩
   ·simp at hq; subst hq; exact hi (by simpa using hrs)
   ·have hm : ∀ j ∈ (rngF 0 H.length).set r H.length, j < (G ++ [some (⟨g, [], [], t⟩ : Loc)]).length := fun j hj => by
     have hle : j ∈ rngF 0 H.length ∨ j = H.length := by
      rcases List.mem_or_eq_of_mem_set hj with h | h
      ·exact .inl h
      ·exact .inr h
     have := A.mem.len
     rcases hle with h | h
     ·obtain ⟨k, hk, he⟩ := List.getElem_of_mem h
      rw [rngF_len] at hk
      have := rngF_at H.length 0 k hk
      rw [List.getElem?_eq_getElem (by rw [rngF_len]; exact hk), he] at this
      cases this
      simp; omega
     ·simp; omega
    rw [stH_is] at hren
    rw [← a5, ← den_ren hm x hren]
    congr 1
    have hlen := A.mem.len
    apply List.ext_getElem?
    intro i
    by_cases hi : i < H.length
    ·by_cases hir : i = r
     ·subst hir
      have h1 : ((rngF 0 H.length).set i H.length)[i]? = some H.length := List.getElem?_set_self (by rw [rngF_len]; exact hi)
      rw [pickG_at hm h1, List.getElem?_set_self (by omega), List.getElem?_append_right (by omega), hlen]; simp
     ·have h1 : ((rngF 0 H.length).set r H.length)[i]? = some i := by rw [List.getElem?_set_ne (Ne.symm hir), rngF_at _ _ _ hi, Nat.zero_add]
      rw [pickG_at hm h1, List.getElem?_set_ne (Ne.symm hir), List.getElem?_append_left (by omega)]
    ·rw [List.getElem?_eq_none (by simp; omega), List.getElem?_eq_none (by simp [pickG, rngF_len]; omega)]
   ·rw [← hH]; exact A.place hr hr0 hav.1 a1 a2 a3 a4 hav.2
  ·cases h
  ·split at h <;> cases h
  ·cases h
 ·cases h
end
section
variable {P : Program} {n : Nat} {ks : List Nat} {G0 : Gr} {w0 : World} {H : Hp} {G : Gr} {w w' : World} {ops : Array Oper} {o : Oper}
theorem EntOK.offL {G G' : Gr} {D : List Nat} {w : World} {p : Option Loc} {e : Ent} (h : EntOK G w p e) (hG : ∀ i, i ∉ D → G'[i]? = G[i]?) (ha : ∀ r ∈ D, avE r (some e) = true) : EntOK G' w p e := by
 cases e with
 | blk cs => obtain ⟨M, vs, h1, h2, h3⟩ := h; exact ⟨M, vs, h1, by rw [denL_off hG cs ha]; exact h2, h3⟩
 | lst s n f => exact h
 | fac b o => exact h
 | row e s n c f => exact h
theorem Ms.put {r : Nat} {en : Ent} {p : Option Loc} (M : Ms (H ++ [some en]) ks G0 w0 (G ++ [p]) w') (hr : H[r]? = some none) (hr0 : G0.length ≤ r) (hav : ∀ q ∈ [r, H.length], avH q H = true ∧ avE q (some en) = true) : Ms (stH H r (some en)) ks G0 w0 (G.set r p) w' := by
 have hlen : H.length = G.length := by have := M.mem.len; simpa using this
 have hrl : r < H.length := (List.getElem?_eq_some_iff.1 hr).1
 have hold : ∀ (i : Nat) (e : Ent), (stH H r (some en))[i]? = some (some e) → ∃ j, (H ++ [some en])[j]? = some (some e) ∧ (G.set r p)[i]? = (G ++ [p])[j]? ∧ ((i ≠ r ∧ j = i ∧ H[i]? = some (some e)) ∨ (i = r ∧ j = H.length ∧ e = en)) := by
  intro i e h
  rw [stH_is] at h
  by_cases hi : i = r
  ·subst hi; rw [List.getElem?_set_self hrl] at h; cases h
   refine ⟨H.length, by simp, ?_, .inr ⟨rfl, rfl, rfl⟩⟩
   rw [List.getElem?_set_self (by omega), hlen]; simp
  ·rw [List.getElem?_set_ne (Ne.symm hi)] at h
   have hl := (List.getElem?_eq_some_iff.1 h).1
   refine ⟨i, by rw [List.getElem?_append_left hl]; exact h, ?_, .inl ⟨hi, rfl, h⟩⟩
   rw [List.getElem?_set_ne (Ne.symm hi), List.getElem?_append_left (by omega)]
 have hoff : ∀ i, i ∉ [r, H.length] → (G.set r p)[i]? = (G ++ [p])[i]? := fun i hi => by
  simp at hi
  rw [List.getElem?_set_ne (fun h => hi.1 h.symm)]
  by_cases hg : i < G.length
  ·rw [List.getElem?_append_left hg]
  ·rw [List.getElem?_eq_none (by omega), List.getElem?_eq_none (by simp; omega)]
 refine ⟨⟨by rw [stH_is]; simpa using hlen, fun i e h => ?_, fun i j e f L N hij h1 h2 h3 h4 h5 h6 => ?_⟩, ?_, fun i e L h1 h2 h3 => ?_, M.mix⟩
 ·obtain ⟨j, g1, g2, g3⟩ := hold i e h
  rw [g2]
  refine (M.mem.ent j e g1).offL hoff fun q hq => ?_
  rcases g3 with ⟨_, _, g⟩ | ⟨_, _, rfl⟩
  ·exact avH_at (hav q hq).1 i _ g
  ·exact (hav q hq).2
 ·obtain ⟨i', g1, g2, g3⟩ := hold i e h1
  obtain ⟨j', k1, k2, k3⟩ := hold j f h2
  rw [g2] at h4
  rw [k2] at h5
  refine M.mem.sep i' j' e f L N ?_ g1 k1 h3 h4 h5 h6
  have hi : ∀ {i : Nat} {e : Ent}, H[i]? = some (some e) → i < H.length := fun h => (List.getElem?_eq_some_iff.1 h).1
  rcases g3 with ⟨a1, a2, a3⟩ | ⟨a1, a2, a3⟩ <;> rcases k3 with ⟨b1, b2, b3⟩ | ⟨b1, b2, b3⟩
  ·omega
  ·have := hi a3; omega
  ·have := hi b3; omega
  ·omega
 ·obtain ⟨F, hF⟩ := M.pre
  refine ⟨(G.set r p).drop G0.length, ?_⟩
  have e : (G.set r p).take G0.length = G0 := by
   have h1 : (G ++ [p]).take G0.length = G0 := by rw [hF]; simp
   rw [List.take_append_of_le_length (by omega)] at h1
   rw [List.take_set_of_le (by omega)]; exact h1
  have := (List.take_append_drop G0.length (G.set r p)).symm
  rw [e] at this; exact this
 ·obtain ⟨i', g1, g2, g3⟩ := hold i e h1
  rw [g2] at h3
  exact M.own i' e L g1 h2 h3
theorem put_at (r : Nat) {Tw : List (Nat × SV)} {x x0 : SV} {H1 H' : Hp} {rs : List Nat} {en : Ent} (h : EffOK P n ops ks G0 w0 Tw H o x0 (H1 ++ [some en])) (hl : H1.length = H.length) (hr : lg H1 r = some none) (hr0 : G0.length ≤ r) (hav : (avH r H1 && avE r (some en) && avH H1.length H1 && avE H1.length (some en)) = true) (hren : renO (stH (rngF 0 H1.length) r H1.length) x = some x0) (hH : stH H1 r (some en) = H') (hrs : rs.contains r = true) : EffAt P n ops ks G0 w0 Tw H o x H' rs := by
 intro G a w A
 rw [lg_is] at hr
 have hrl : r < H1.length := (List.getElem?_eq_some_iff.1 hr).1
 simp only [Bool.and_eq_true] at hav
 refine does_mono (h G a w A) fun v w' ⟨F, h1, h2⟩ => ?_
 have e1 := h2.mem.len
 have e2 := A.mem.len
 have hF1 : F.length = 1 := by simp at e1; omega
 obtain ⟨p, rfl⟩ := List.length_eq_one_iff.1 hF1
 refine ⟨G.set r p, fun i hi => set_off i (fun hq => ?_), ?_, ?_⟩
 ·simp at hq; subst hq; exact hi (by simpa using hrs)
 ·have hm : ∀ j ∈ (rngF 0 H1.length).set r H1.length, j < (G ++ [p]).length := fun j hj => by
   rcases List.mem_or_eq_of_mem_set hj with h | h
   ·obtain ⟨k, hk, he⟩ := List.getElem_of_mem h
    rw [rngF_len] at hk
    have := rngF_at H1.length 0 k hk
    rw [List.getElem?_eq_getElem (by rw [rngF_len]; exact hk), he] at this
    cases this
    simp; omega
   ·simp; omega
  rw [stH_is] at hren
  rw [← h1, ← den_ren hm x hren]
  congr 1
  apply List.ext_getElem?
  intro i
  by_cases hi : i < H1.length
  ·by_cases hir : i = r
   ·subst hir
    have h1 : ((rngF 0 H1.length).set i H1.length)[i]? = some H1.length := List.getElem?_set_self (by rw [rngF_len]; exact hi)
    rw [pickG_at hm h1, List.getElem?_set_self (by omega), List.getElem?_append_right (by omega), hl, e2]; simp
   ·have h1 : ((rngF 0 H1.length).set r H1.length)[i]? = some i := by rw [List.getElem?_set_ne (Ne.symm hir), rngF_at _ _ _ hi, Nat.zero_add]
    rw [pickG_at hm h1, List.getElem?_set_ne (Ne.symm hir), List.getElem?_append_left (by omega)]
  ·rw [List.getElem?_eq_none (by simp; omega), List.getElem?_eq_none (by simp [pickG, rngF_len]; omega)]
 ·rw [← hH]
  refine h2.put hr hr0 fun q hq => ?_
  simp at hq
  rcases hq with rfl | rfl
  ·exact ⟨hav.1.1.1, hav.1.1.2⟩
  ·exact ⟨hav.1.2, hav.2⟩
end
def mayI (ops : Array Oper) (ef c : List Nat) (i : Nat) (o : Oper) : Bool :=
 !c.contains i && ef.all (fun p => !wt ops o p || c.contains p) && c.all (fun p => match ops[p]? with | some q => !waits q i | none => true)
section
variable {P : Program} {X : Tx} {n : Nat} {ks : List Nat} {G0 : Gr} {w0 : World} {T : List (Nat × SV)} {l : List Oper} {xs : List SV} {Q : Exit → Act → World → Prop} {ef rs0 : List Nat} {tb : List (List Nat × List Nat × Hp)}
structure AInv (n : Nat) (ks : List Nat) (G0 : Gr) (w0 : World) (T : List (Nat × SV)) (l : List Oper) (xs : List SV) (ef rs0 : List Nat) (c rs : List Nat) (H : Hp) (listed : Array Bool) (G : Gr) (a : Act) (w : World) : Prop where
 size : a.tmps.size = n
 defers : a.defers = []
 base : ∀ t x, look T t = some x → (∀ (j : Nat) (o : Oper), l[j]? = some o → o.dst = some t → listed.getD j false = false) → den G x = some (a.tmps.getD t undef)
 done : ∀ (j : Nat) (o : Oper) (x : SV), l[j]? = some o → listed.getD j false = true → xs[j]? = some x → (∀ r ∈ rs, avS r x = true) ∧ ∀ d, o.dst = some d → den G x = some (a.tmps.getD d undef)
 ms : Ms H ks G0 w0 G w
 eff : ∀ p ∈ ef, (listed.getD p false = true ↔ p ∈ c)
 sub : ∀ p ∈ c, p ∈ ef
 rsub : ∀ r ∈ rs, r ∈ rs0
 closed : ∀ (j : Nat) (o : Oper) (p : Nat), l[j]? = some o → listed.getD j false = true → waits o p = true → listed.getD p false = true
theorem tw_look2 {o : Oper} {T : List (Nat × SV)} {t : Nat} {x : SV} : ∀ {l : List Oper} {xs : List SV} {k : Nat}, xs.length = l.length → look (twL o l xs k T) t = some x → (∃ i p, l[i]? = some p ∧ xs[i]? = some x ∧ waits o (k + i) = true ∧ p.dst = some t) ∨ (look T t = some x ∧ ∀ (i : Nat) (p : Oper), l[i]? = some p → p.dst = some t → waits o (k + i) = false)
 | [], _, _, _, h => .inr ⟨h, fun i p hi => by cases hi⟩
 | _ :: _, [], _, hl, h => by cases hl
 | p :: l, y :: xs, k, hl, h => by
  have rest : (p.dst = some t → waits o k = false) → look (twL o l xs (k + 1) T) t = some x → (∃ i q, (p :: l)[i]? = some q ∧ (y :: xs)[i]? = some x ∧ waits o (k + i) = true ∧ q.dst = some t) ∨ (look T t = some x ∧ ∀ (i : Nat) (q : Oper), (p :: l)[i]? = some q → q.dst = some t → waits o (k + i) = false) := fun h0 h => by
   rcases tw_look2 (by simpa using hl) h with ⟨i, q, h1, h2, h3, h4⟩ | ⟨h, hn⟩
   ·exact .inl ⟨i + 1, q, by simpa using h1, by simpa using h2, by rw [show k + (i + 1) = k + 1 + i by omega]; exact h3, h4⟩
   ·refine .inr ⟨h, fun i q hi hd => ?_⟩
    cases i with
    | zero => cases hi; simpa using h0 hd
    | succ i => rw [show k + (i + 1) = k + 1 + i by omega]; exact hn i q (by simpa using hi) hd
  unfold twL at h
  cases hb : waits o k with
  | false => rw [hb] at h; exact rest (fun _ => hb) h
  | true =>
   rw [hb] at h
   simp only [cond_true] at h
   cases hd : p.dst with
   | none => rw [hd] at h; exact rest (fun e => by rw [hd] at e; cases e) h
   | some d =>
    rw [hd] at h
    simp only [extS, look] at h
    cases hk : Nat.beq d t with
    | false => rw [hk] at h; exact rest (fun e => by rw [hd] at e; cases e; rw [Nat.beq_refl] at hk; cases hk) h
    | true =>
     rw [hk] at h
     cases h
     have := Nat.eq_of_beq_eq_true hk
     subst this
     exact .inl ⟨0, p, rfl, rfl, by simpa using hb, hd⟩
def StepOb (P : Program) (n : Nat) (ks : List Nat) (G0 : Gr) (w0 : World) (T : List (Nat × SV)) (l : List Oper) (xs : List SV) (ef : List Nat) (tb : List (List Nat × List Nat × Hp)) (c rs : List Nat) (H : Hp) (i : Nat) (o : Oper) : Prop :=
 ∃ (x : SV) (c' rs' : List Nat) (H' : Hp) (k' : Nat), xs[i]? = some x ∧ tb[k']? = some (c', rs', H') ∧ ((ef.all fun p => c'.contains p == (Nat.beq p i || c.contains p)) && c'.all ef.contains) = true ∧ (rs'.all fun r => rs.contains r && avS r x) = true ∧ EffAt P n l.toArray ks G0 w0 (twL o l xs 0 T) H o x H' rs
theorem any_go (hfit : fitB l.toArray n [] = true) (hT : ∀ t x, look T t = some x → ∀ (j : Nat) (o : Oper), l[j]? = some o → o.dst = some t → ∀ (i : Nat) (q : Oper), l[i]? = some q → i ≠ j → waits o i = true ∨ waits q j = true) (hTa : ∀ t x, look T t = some x → ∀ r ∈ rs0, avS r x = true) (hl : xs.length = l.length)
  (hob : ∀ (k : Nat) (c rs : List Nat) (H : Hp), tb[k]? = some (c, rs, H) → ∀ (i : Nat) (o : Oper), l[i]? = some o → mayI l.toArray ef c i o = true → StepOb P n ks G0 w0 T l xs ef tb c rs H i o)
  (hend : ∀ (k : Nat) (c rs : List Nat) (H : Hp), tb[k]? = some (c, rs, H) → (∀ p ∈ ef, p < l.length → p ∈ c) → ∀ G a w, Sy n (putS l xs T) H ks G0 w0 G a w → Q .normal a w) :
  ∀ (fuel : Nat) (listed : Array Bool) (a : Act) (w : World) (k : Nat) (c rs : List Nat) (H : Hp) (G : Gr), listed.size = l.length → ((List.range l.length).filter fun i => !listed.getD i true).length ≤ fuel → tb[k]? = some (c, rs, H) → AInv n ks G0 w0 T l xs ef rs0 c rs H listed G a w → wpAny P .any l.toArray Q fuel listed a w := by
 have last : ∀ (listed : Array Bool) (a : Act) (w : World) (k : Nat) (c rs : List Nat) (H : Hp) (G : Gr), listed.size = l.length → Region.ready .any l.toArray listed = [] → tb[k]? = some (c, rs, H) → AInv n ks G0 w0 T l xs ef rs0 c rs H listed G a w → Q .normal a w := by
  intro listed a w k c rs H G hls hr hk I
  have all : ∀ i, i < l.length → listed.getD i false = true := by
   intro i
   induction i using Nat.strongRecOn with
   | _ i ih =>
    intro hi
    cases hq : listed.getD i false with
    | true => rfl
    | false =>
     exfalso
     have : i ∈ Region.ready .any l.toArray listed := by
      rw [mem_ready]
      have hli : i < listed.size := by omega
      have hoi : l.toArray[i]? = some l[i] := by simp [hi]
      refine ⟨by simpa [hli] using hq, l[i], hoi, fun e he hb => ?_⟩
      have hlt := (fit_spec hfit hoi).2 e he hb
      exact ih e.on hlt (by omega)
     rw [hr] at this; cases this
  refine hend k c rs H hk (fun p hp hpl => (I.eff p hp).1 (all p hpl)) G a w (I.ms.sy I.size I.defers fun t x hx => ?_)
  rcases put_look hl hx with ⟨i, p, q1, q2, q3⟩ | ⟨hx, hno⟩
  ·exact (I.done i p x q1 (all i (List.getElem?_eq_some_iff.1 q1).1) q2).2 t q3
  ·exact I.base t x hx fun j o h1 h2 => absurd h2 (hno j o h1)
 intro fuel
 induction fuel with
 | zero =>
  intro listed a w k c rs H G hls hf hk I
  have hr : Region.ready .any l.toArray listed = [] := by
   unfold Region.ready
   rw [List.filter_eq_nil_iff]
   intro i hi
   have hnil : ((List.range l.length).filter fun i => !listed.getD i true) = [] := List.eq_nil_of_length_eq_zero (by omega)
   rw [List.filter_eq_nil_iff] at hnil
   have := hnil i (by simpa using hi)
   simp only [Bool.not_eq_true, Bool.not_eq_false'] at this
   simp [this]
  exact ⟨hr, last listed a w k c rs H G hls hr hk I⟩
 | succ fuel ih =>
  intro listed a w k c rs H G hls hf hkt I
  refine ⟨fun hr => last listed a w k c rs H G hls hr hkt I, fun i hi => ?_⟩
  obtain ⟨hun, o, hoi, hall⟩ := mem_ready.1 hi
  have hil : i < l.length := by have := (Array.getElem?_eq_some_iff.1 hoi).1; simpa using this
  have hoi' : l[i]? = some o := by simpa using hoi
  obtain ⟨hfd, hfe⟩ := fit_spec hfit hoi
  have hun' : listed.getD i false = false := by
   have hlt : i < listed.size := by omega
   simpa [hlt] using hun
  have hw : ∀ p, waits o p = true → listed.getD p false = true := fun p hp => by
   unfold waits at hp
   rw [List.any_eq_true] at hp
   obtain ⟨e, he', hb⟩ := hp
   have he : e ∈ o.after := by simpa using he'
   simp only [Bool.and_eq_true, beq_iff_eq] at hb
   rw [← hb.2]
   exact hall e he hb.1
  -- what is known where it stands
  have A : Sy n (twL o l xs 0 T) H ks G0 w0 G a w := I.ms.sy I.size I.defers fun t x hx => by
   rcases tw_look2 hl hx with ⟨j, p, q1, q2, q3, q4⟩ | ⟨hx, hnw⟩
   ·exact (I.done j p x q1 (hw j (by simpa using q3)) q2).2 t q4
   ·refine I.base t x hx fun j p h1 h2 => ?_
    by_cases hji : j = i
    ·subst hji; exact hun'
    ·cases hlj : listed.getD j false with
     | false => rfl
     | true =>
      rcases hT t x hx j p h1 h2 i o hoi' (Ne.symm hji) with hwt | hwt
      ·have := I.closed j p i h1 hlj hwt
       rw [hun'] at this; cases this
      ·have := hnw j p h1 h2
       rw [Nat.zero_add] at this
       rw [hwt] at this; cases this
  have hmay : mayI l.toArray ef c i o = true := by
   unfold mayI
   simp only [Bool.and_eq_true, Bool.not_eq_true', List.all_eq_true, Bool.or_eq_true]
   refine ⟨⟨?_, fun p hp => ?_⟩, fun p hp => ?_⟩
   ·cases hc : c.contains i with
    | false => rfl
    | true =>
     have h1 : i ∈ c := by simpa using hc
     have := (I.eff i (I.sub i h1)).2 h1
     rw [hun'] at this; cases this
   ·cases hq : wt l.toArray o p with
    | false => exact .inl rfl
    | true =>
     refine .inr ?_
     have hlp : listed.getD p false = true := by
      unfold wt at hq
      cases hd : waits o p with
      | true => exact hw p hd
      | false =>
       rw [hd] at hq
       exact via_listed (ops := l.toArray) (fun j o' p' h1 h2 h3 => I.closed j o' p' (by simpa using h1) h2 h3) 2 o.after.toList (fun e he hb => hall e (by simpa using he) hb) hq
     have := (I.eff p hp).1 hlp
     simpa using this
   ·split
    ·next q hq =>
     cases hd : waits q i with
     | false => rfl
     | true =>
      have h1 := (I.eff p (I.sub p hp)).2 hp
      have := I.closed p q i (by simpa using hq) h1 hd
      rw [hun'] at this; cases this
    ·rfl
  obtain ⟨x, c', rs', H', k', hx, hk', hc', hrs', he⟩ := hob k c rs H hkt i o hoi' hmay
  rw [Bool.and_eq_true, List.all_eq_true, List.all_eq_true] at hc'
  rw [List.all_eq_true] at hrs'
  have hr1 : ∀ r ∈ rs', r ∈ rs ∧ avS r x = true := fun r hr => by
   have := hrs' r hr
   rw [Bool.and_eq_true] at this
   exact ⟨by simpa using this.1, this.2⟩
  -- the next state
  have next : ∀ (v : Value) (w' : World) (G' : Gr), (∀ i, i ∉ rs → G'[i]? = G[i]?) → den G' x = some v → Ms H' ks G0 w0 G' w' → wpAny P .any l.toArray Q fuel (listed.setIfInBounds i true) (a.put o.dst v) w' := by
   intro v w' G' hG hv hms
   have hlt : i < listed.size := by omega
   have hget : ∀ j, (listed.setIfInBounds i true).getD j false = true ↔ (j = i ∨ listed.getD j false = true) := by
    intro j
    by_cases hji : j = i
    ·subst hji; simp [hlt]
    ·rw [set_ne false (Ne.symm hji)]; simp [hji]
   refine ih _ _ _ k' c' rs' H' G' (by simpa using hls) ?_ hk' ⟨?_, ?_, fun t y hy hno => ?_, fun j p y q1 q2 q3 => ?_, hms, fun p hp => ?_, fun p hp => ?_, fun r hr => I.rsub r (hr1 r hr).1, fun j p r q1 q2 q3 => ?_⟩
   ·have : ((List.range l.length).filter fun k => !(listed.setIfInBounds i true).getD k true).length < ((List.range l.length).filter fun k => !listed.getD k true).length := by
     have hsub : ((List.range l.length).filter fun k => !(listed.setIfInBounds i true).getD k true) = ((List.range l.length).filter fun k => !listed.getD k true).filter (fun k => k != i) := by
      rw [List.filter_filter]
      apply List.filter_congr
      intro k _
      by_cases hk : k = i
      ·subst hk; simp [hlt]
      ·rw [set_ne true (Ne.symm hk)]; simp [hk]
     rw [hsub]
     refine List.length_filter_lt_length_iff_exists.2 ⟨i, ?_, by simp⟩
     simp only [List.mem_filter, List.mem_range]
     exact ⟨hil, by rw [hun]; rfl⟩
    omega
   ·cases hd : o.dst <;> simp [Act.put, I.size]
   ·cases hd : o.dst <;> simp [Act.put, I.defers]
   ·have hno' : ∀ (j : Nat) (q : Oper), l[j]? = some q → q.dst = some t → listed.getD j false = false := fun j q h1 h2 => by
     have h3 := hno j q h1 h2
     cases hlj : listed.getD j false with
     | false => rfl
     | true => rw [(hget j).2 (.inr hlj)] at h3; cases h3
    have h1 : den G' y = some (a.tmps.getD t undef) := by rw [den_off hG y fun r hr => hTa t y hy r (I.rsub r hr)]; exact I.base t y hy hno'
    cases hd : o.dst with
    | none => exact h1
    | some d =>
     have hne : d ≠ t := fun e => by
      have h3 := hno i o hoi' (by rw [hd, e])
      rw [(hget i).2 (.inl rfl)] at h3; cases h3
     simp only [Act.put, Array.getD_eq_getD_getElem?]
     rw [Array.getElem?_setIfInBounds_ne hne, ← Array.getD_eq_getD_getElem?]
     exact h1
   ·by_cases hji : j = i
    ·subst hji
     rw [hoi'] at q1; cases q1
     rw [hx] at q3; cases q3
     refine ⟨fun r hr => (hr1 r hr).2, fun d q4 => ?_⟩
     have hdn : d < a.tmps.size := by rw [I.size]; exact (hfd d q4).1
     rw [q4]
     simp [Act.put, hdn, hv]
    ·have h2 : listed.getD j false = true := by
      rcases (hget j).1 q2 with h | h
      ·exact absurd h hji
      ·exact h
     obtain ⟨g1, g2⟩ := I.done j p y q1 h2 q3
     refine ⟨fun r hr => g1 r (hr1 r hr).1, fun d q4 => ?_⟩
     have h1 : den G' y = some (a.tmps.getD d undef) := by rw [den_off hG y g1]; exact g2 d q4
     cases hd : o.dst with
     | none => exact h1
     | some d' =>
      have hne : d' ≠ d := fun e => by
       subst e
       exact hji ((hfd d' hd).2.1 j (by simpa using (List.getElem?_eq_some_iff.1 q1).1) (by simp [dstOf, q1, q4]))
      simp only [Act.put, Array.getD_eq_getD_getElem?]
      rw [Array.getElem?_setIfInBounds_ne hne, ← Array.getD_eq_getD_getElem?]
      exact h1
   ·rw [hget p, I.eff p hp]
    have := hc'.1 p hp
    have hb : (p = i ∨ p ∈ c) ↔ (Nat.beq p i || c.contains p) = true := by
     rw [Bool.or_eq_true]
     refine or_congr ⟨fun h => by subst h; exact Nat.beq_refl p, Nat.eq_of_beq_eq_true⟩ (by simp)
    rw [hb]
    rw [beq_iff_eq] at this
    rw [← this]; simp
   ·have := hc'.2 p hp; simpa using this
   ·rw [hget r]
    by_cases hji : j = i
    ·subst hji; rw [hoi'] at q1; cases q1; exact .inr (hw r q3)
    ·rcases (hget j).1 q2 with h | h
     ·exact absurd h hji
     ·exact .inr (I.closed j p r q1 h q3)
  unfold wpOp
  rcases he G a w A with ⟨hwn, h⟩ | ⟨hwn, G', h1, h2, h3⟩
  ·simp only [hoi, hwn, if_true]
   refine .inl (Oper.wp_mono (fun a2 w2 h => ?_) (h Q))
   obtain ⟨v, rfl, G', h1, h2, h3⟩ := h
   exact next v w2 G' h1 h2 h3
  ·simp only [hoi, hwn, Bool.false_eq_true, if_false]
   exact next undef w G' h1 h2 h3
def mayR (ops : Array Oper) (ef c : List Nat) : List Oper → Nat → List Bool
 | [], _ => []
 | o :: l, i => mayI ops ef c i o :: mayR ops ef c l (i + 1)
def ObS (P : Program) (n : Nat) (ks : List Nat) (G0 : Gr) (w0 : World) (T : List (Nat × SV)) (L : List Oper) (xs : List SV) (ef : List Nat) (tb : List (List Nat × List Nat × Hp)) (c rs : List Nat) (H : Hp) : List Bool → List Oper → Nat → Prop
 | true :: bs, o :: l, i => StepOb P n ks G0 w0 T L xs ef tb c rs H i o ∧ ObS P n ks G0 w0 T L xs ef tb c rs H bs l (i + 1)
 | false :: bs, o :: l, i => ObS P n ks G0 w0 T L xs ef tb c rs H bs l (i + 1)
 | _, _, _ => True
def ObA (P : Program) (n : Nat) (ks : List Nat) (G0 : Gr) (w0 : World) (T : List (Nat × SV)) (L : List Oper) (xs : List SV) (ef : List Nat) (tb : List (List Nat × List Nat × Hp)) : List (List Bool) → List (List Nat × List Nat × Hp) → Prop
 | bs :: B, (c, rs, H) :: ss => ObS P n ks G0 w0 T L xs ef tb c rs H bs L 0 ∧ ObA P n ks G0 w0 T L xs ef tb B ss
 | _, _ => True
theorem obs_at {c rs : List Nat} {H : Hp} {L : List Oper} : ∀ {m : List Oper} {j : Nat}, ObS P n ks G0 w0 T L xs ef tb c rs H (mayR L.toArray ef c m j) m j → ∀ (i : Nat) (o : Oper), m[i]? = some o → mayI L.toArray ef c (j + i) o = true → StepOb P n ks G0 w0 T L xs ef tb c rs H (j + i) o
 | [], j, _, i, o, h, _ => by cases h
 | p :: m, j, hO, i, o, h, hm => by
  unfold mayR at hO
  cases i with
  | zero =>
   cases h
   rw [Nat.add_zero] at hm ⊢
   rw [hm] at hO
   exact hO.1
  | succ i =>
   have hO' : ObS P n ks G0 w0 T L xs ef tb c rs H (mayR L.toArray ef c m (j + 1)) m (j + 1) := by
    cases hb : mayI L.toArray ef c j p with
    | true => rw [hb] at hO; exact hO.2
    | false => rw [hb] at hO; exact hO
   have := obs_at hO' i o (by simpa using h) (by rw [show j + 1 + i = j + (i + 1) by omega]; exact hm)
   rwa [show j + 1 + i = j + (i + 1) by omega] at this
theorem oba_at : ∀ {ss : List (List Nat × List Nat × Hp)}, ObA P n ks G0 w0 T l xs ef tb (ss.map fun s => mayR l.toArray ef s.1 l 0) ss → ∀ (k : Nat) (c rs : List Nat) (H : Hp), ss[k]? = some (c, rs, H) → ObS P n ks G0 w0 T l xs ef tb c rs H (mayR l.toArray ef c l 0) l 0
 | [], _, k, c, rs, H, h => by cases h
 | (c1, r1, H1) :: ss, hO, k, c, rs, H, h => by
  simp only [List.map_cons, ObA] at hO
  cases k with
  | zero => cases h; exact hO.1
  | succ k => exact oba_at hO.2 k c rs H (by simpa using h)
theorem Sy.pad {H : Hp} {G : Gr} {a : Act} {w : World} (A : Ms H ks G0 w0 G w) (m : Nat) : Ms (H ++ List.replicate m none) ks G0 w0 (G ++ List.replicate m none) w := by
 have hlen := A.mem.len
 have hold : ∀ (i : Nat) (e : Ent), (H ++ List.replicate m none)[i]? = some (some e) → H[i]? = some (some e) := by
  intro i e h
  by_cases hi : i < H.length
  ·rwa [List.getElem?_append_left hi] at h
  ·rw [List.getElem?_append_right (by omega), List.getElem?_replicate] at h
   split at h <;> cases h
 have hg : ∀ (i : Nat) (e : Ent), H[i]? = some (some e) → (G ++ List.replicate m none)[i]? = G[i]? := fun i e h => by
  have := (List.getElem?_eq_some_iff.1 h).1
  rw [List.getElem?_append_left (by omega)]
 refine ⟨⟨by simp [hlen], fun i e h => ?_, fun i j e f L M hij h1 h2 h3 h4 h5 h6 => ?_⟩, ?_, fun i e L h1 h2 h3 => ?_, A.mix⟩
 ·rw [hg i e (hold i e h)]; exact (A.mem.ent i e (hold i e h)).more _
 ·rw [hg i e (hold i e h1)] at h4
  rw [hg j f (hold j f h2)] at h5
  exact A.mem.sep i j e f L M hij (hold i e h1) (hold j f h2) h3 h4 h5 h6
 ·obtain ⟨F, rfl⟩ := A.pre; exact ⟨F ++ List.replicate m none, by simp⟩
 ·rw [hg i e (hold i e h1)] at h3; exact A.own i e L (hold i e h1) h2 h3
mutual
theorem av_go {G : Gr} {r : Nat} (key : ∀ i, (∃ p, G[i]? = some p) → (!Nat.beq i r) = true) : ∀ (x : SV) {v : Value}, den G x = some v → avS r x = true
  | .ptr i _, v, hx => by unfold den at hx; split at hx; · next L hL => exact key i ⟨_, hL⟩
                          · cases hx
  | .el i _ _ _, v, hx => by unfold den at hx; split at hx; · next L hL => exact key i ⟨_, hL⟩
                             · cases hx
  | .sl i _ _, v, hx => by unfold den at hx; split at hx; · next L hL => exact key i ⟨_, hL⟩
                           · cases hx
  | .st i _ _ _ _, v, hx => by unfold den at hx; split at hx; · next L hL => exact key i ⟨_, hL⟩
                               · cases hx
  | .agg l, v, hx => by unfold den at hx; obtain ⟨vs, h1, _⟩ := Option.map_eq_some_iff.1 hx; exact avL_go key l h1
  | .tup l, v, hx => by unfold den at hx; obtain ⟨vs, h1, _⟩ := Option.map_eq_some_iff.1 hx; exact avL_go key l h1
  | .fn _ l, v, hx => by unfold den at hx; obtain ⟨vs, h1, _⟩ := Option.map_eq_some_iff.1 hx; exact avL_go key l h1
  | .opt _ x, v, hx => by unfold den at hx; obtain ⟨vs, h1, _⟩ := Option.map_eq_some_iff.1 hx; exact av_go key x h1
  | .ix p _ _ _ _, v, hx => by
    unfold den at hx
    cases hq : den G p with
    | none => rw [hq] at hx; cases hx
    | some u => exact av_go key p hq
  | .sp p _ _, v, hx => by
    unfold den at hx
    cases hq : den G p with
    | none => rw [hq] at hx; cases hx
    | some u => exact av_go key p hq
  | .int _ _, _, _ => rfl
  | .bool _, _, _ => rfl
  | .tt, _, _ => rfl
  | .ff, _, _ => rfl
  | .str _, _, _ => rfl
  | .sla _ _ _, _, _ => rfl
  | .v _, _, _ => rfl
theorem avL_go {G : Gr} {r : Nat} (key : ∀ i, (∃ p, G[i]? = some p) → (!Nat.beq i r) = true) : ∀ (l : List SV) {vs : List Value}, denL G l = some vs → avL r l = true
 | [], _, _ => rfl
 | x :: l, vs, hx => by
  obtain ⟨v, ws, h1, h2, _⟩ := denL_cons hx
  unfold avL
  rw [av_go key x h1, avL_go key l h2]; rfl
end
theorem inS_av {G : Gr} {r : Nat} (h : G.length ≤ r) (x : SV) {v : Value} (hx : den G x = some v) : avS r x = true :=
 av_go (fun i ⟨p, hp⟩ => by
  have := (List.getElem?_eq_some_iff.1 hp).1
  cases hb : Nat.beq i r with
  | false => rfl
  | true => have := Nat.eq_of_beq_eq_true hb; omega) x hx
def endS (ef : List Nat) : List (List Nat × List Nat × Hp) → Option Hp
 | [] => none
 | [(_, _, H)] => some H
 | (c, _, _) :: s => bif ef.all c.contains then none else endS ef s
theorem endS_spec {HE : Hp} : ∀ {tb : List (List Nat × List Nat × Hp)}, endS ef tb = some HE → ∀ (k : Nat) (c rs : List Nat) (H : Hp), tb[k]? = some (c, rs, H) → ef.all c.contains = true → H = HE
 | [], h, k, c, rs, H, hk, _ => by cases hk
 | [(c1, r1, H1)], h, k, c, rs, H, hk, _ => by
  cases h
  cases k with
  | zero => cases hk; rfl
  | succ k => simp at hk
 | (c1, r1, H1) :: s1 :: ss, h, k, c, rs, H, hk, hc => by
  unfold endS at h
  cases hb : ef.all c1.contains with
  | true => rw [hb] at h; cases h
  | false =>
   rw [hb] at h
   cases k with
   | zero => cases hk; rw [hc] at hb; cases hb
   | succ k => exact endS_spec (tb := s1 :: ss) h k c rs H (by simpa using hk) hc
theorem ANY {id : Nat} {H HE : Hp} {G : Gr} {a : Act} {w : World} {K : List Fr} (hmo : P.follows .mixedOrders = true) (xs : List SV) (ef rs0 : List Nat) (m : Nat) (tb : List (List Nat × List Nat × Hp)) (B : List (List Bool)) (A : Sy n T H ks G0 w0 G a w)
  (h0 : tb[0]? = some ([], rs0, H ++ List.replicate m none)) (hE : endS ef tb = some HE) (hrs : (rs0.all fun r => Nat.ble H.length r) = true) (hef : (ef.all fun p => Nat.blt p l.length) = true) (hB : (tb.map fun s => mayR l.toArray ef s.1 l 0) = B) (hl : xs.length = l.length) (hfit : fitB l.toArray n [] = true)
  (hO : ObA P n ks G0 w0 (keepT l T) l xs ef tb B tb) (hk : ∀ {G a w}, Sy n (putS l xs (keepT l T)) HE ks G0 w0 G a w → Goal P Q K .norm a w) : Goal P Q K (.code (.region id l.toArray true)) a w := by
 refine wp_region_any hmo ?_
 have hB1 : Ms H ks G0 w0 G w.drew := A.ms.grow (Grow.refl w).drew
 rw [List.all_eq_true] at hrs hef
 refine any_go (P := P) (xs := xs) (T := keepT l T) (ef := ef) (rs0 := rs0) (tb := tb) hfit (fun t x hx j o h3 h4 i q hq hne => .inl <| lt_spec (by have := keepB_spec (keep_look hx).2 j o h3 h4; rwa [Nat.zero_add] at this) i (List.getElem?_eq_some_iff.1 hq).1 hne) (fun t x hx r hr => ?_) hl (fun k c rs H hk i o hi hm => ?_) (fun k c rs H' hk' hall G a w A' => ?_) _ _ _ _ 0 [] rs0 _ (G ++ List.replicate m none) (by simp) (by
  refine Nat.le_trans (List.length_filter_le _ _) (by simp)) h0 ⟨A.size, A.defers, fun t x hx _ => den_mono _ x (A.get t x (keep_look hx).1), fun j o x _ hj => ?_, Sy.pad (a := a) hB1 m, fun p hp => ?_, fun p hp => absurd hp (by simp), fun r hr => hr, fun j o p _ hj => ?_⟩
 ·have := hrs r hr
  rw [A.mem.len] at this
  exact inS_av (G := G) (Nat.le_of_ble_eq_true this) x (A.get t x (keep_look hx).1)
 ·have := obs_at (oba_at (by rw [hB]; exact hO) k c rs H hk) i o hi (by rw [Nat.zero_add]; exact hm)
  rwa [Nat.zero_add] at this
 ·have h2 : (ef.all c.contains) = true := by
   rw [List.all_eq_true]
   intro p hp
   have := hall p hp (by have := hef p hp; simpa [Nat.blt_eq] using this)
   simpa using this
  cases endS_spec hE k c rs H' hk' h2
  exact hk A'
 ·exfalso; simp [Array.getD_eq_getD_getElem?, Array.getElem?_replicate] at hj; split at hj <;> simp at hj
 ·constructor
  ·intro hj; exfalso; simp [Array.getD_eq_getD_getElem?, Array.getElem?_replicate] at hj; split at hj <;> simp at hj
  ·intro hj; cases hj
 ·exfalso; simp [Array.getD_eq_getD_getElem?, Array.getElem?_replicate] at hj; split at hj <;> simp at hj
/-! ### Cells written out, as a list that is read -/
theorem blk_parts {α : Type} (d : α) (cf : α → List SV) (s : Nat) (hs : ∀ x, (cf x).length = s) (hin : ∀ x, inL 0 (cf x) = true) : ∀ (L : List α) (k : Nat), k < L.length → tk s (dp (k * s) (L.flatMap cf)) = some (cf (L.getD k d)) ∧ inL 0 (cf (L.getD k d)) = true
 | [], k, h => by simp at h
 | x :: L, 0, _ => by
  refine ⟨?_, hin _⟩
  have tkl : ∀ (a b : List SV), tk a.length (a ++ b) = some a := by
   intro a b
   induction a with
   | nil => rfl
   | cons y a ih => simp [tk, ih]
  rw [Nat.zero_mul, ← hs x]
  exact tkl _ _
 | x :: L, k + 1, h => by
  have := blk_parts d cf s hs hin L k (by simpa using h)
  rw [dp_is] at this ⊢
  have e : (k + 1) * s = (cf x).length + k * s := by rw [hs, Nat.add_mul]; omega
  rw [List.flatMap_cons, e, ← List.drop_drop, List.drop_left]
  exact this
theorem Sy.asT {H : Hp} {G : Gr} {a : Act} {w : World} (A : Sy n T H ks G0 w0 G a w) {α : Type} (d : α) (cf : α → List SV) (s : Nat) (hs : ∀ x, (cf x).length = s) (hin : ∀ x, inL 0 (cf x) = true) (htot : ∀ x, ∃ vs, denL [] (cf x) = some vs) (L : List α) (i : Nat) (hi : lg H i = some (some (.blk (L.flatMap cf)))) : Sy n T (stH H i (some (.lst s L.length fun zz => cf (L.getD zz d)))) ks G0 w0 G a w :=
 A.asList i (f := fun zz => cf (L.getD zz d)) (by rw [lg_is] at hi; exact hi) (.inr ⟨_, rfl, blk_parts d cf s hs hin L⟩) (fun _ _ => rfl) (fun k => htot _)
end
section
variable {n : Nat} {ks : List Nat} {G0 : Gr} {w0 : World} {T T' : List (Nat × SV)} {H H' : Hp} {G : Gr} {a : Act} {w : World} {Q : Exit → Act → World → Prop} {K K' : List Fr} {pos pos' : Pos} {E : Ob}
theorem oV9 {l : List Oper} {xs : List SV} {ef : List Nat} {tb : List (List Nat × List Nat × Hp)} {c rs : List Nat} {i : Nat} {o : Oper} {x : SV} {c' rs' : List Nat} (k' : Nat) (h : (xs[i]?, tb[k']?, ((ef.all fun p => c'.contains p == (Nat.beq p i || c.contains p)) && c'.all ef.contains), (rs'.all fun r => rs.contains r && avS r x), stepS ⟨X, true⟩ n l.toArray (twL o l xs 0 T) H o) = (some x, some (c', rs', H), true, true, some (.val x E))) (hE : okE E) : StepOb Tryz.prog n ks G0 w0 T l xs ef tb c rs H i o := by
 simp only [Prod.mk.injEq] at h
 exact ⟨x, c', rs', H, k', h.1, h.2.1, h.2.2.1, h.2.2.2.1, eff_at (eff_auto (X := ⟨X, true⟩) (out := .val x E) hX h.2.2.2.2 hE) rfl⟩
theorem oE9 {l : List Oper} {xs : List SV} {ef : List Nat} {tb : List (List Nat × List Nat × Hp)} {c rs : List Nat} {i : Nat} {o : Oper} {x : SV} {c' rs' : List Nat} (k' : Nat) (h : (xs[i]?, tb[k']?, ((ef.all fun p => c'.contains p == (Nat.beq p i || c.contains p)) && c'.all ef.contains), (rs'.all fun r => rs.contains r && avS r x), H'.length) = (some x, some (c', rs', H'), true, true, H.length)) (e : EffOK Tryz.prog n l.toArray ks G0 w0 (twL o l xs 0 T) H o x H') : StepOb Tryz.prog n ks G0 w0 T l xs ef tb c rs H i o := by
 simp only [Prod.mk.injEq] at h
 exact ⟨x, c', rs', H', k', h.1, h.2.1, h.2.2.1, h.2.2.2.1, eff_at e h.2.2.2.2⟩
end
def Given (e s m : Nat) (f : Nat → List SV) (b cp : Nat) (w : World) : Prop := (∀ k, ∃ vs, denL [] (f k) = some vs ∧ vs.length = s) ∧ ∃ xs, flatV f m = some xs ∧ w.ownsRow 0 e s (.slice (some ⟨b, 0, none⟩) m cp) m xs
section
variable {P : Program} {n : Nat} {ks : List Nat} {G0 : Gr} {w0 : World} {T : List (Nat × SV)} {H : Hp} {G : Gr} {a : Act} {w w' : World}
theorem Sy.giveRow (A : Sy n T H ks G0 w0 G a w) (i t : Nat) {e s m c : Nat} {f : Nat → List SV} {H' : Hp} (hm : 0 < m) (hi : lg H i = some (some (.row e s m c f))) (ht : look T t = some (.sl i m c)) (hH : stH H i none = H') :
  ∃ b cp, Sy n ((t, .sla (some ⟨b, 0, none⟩) m cp) :: T) H' ks G0 w0 G a w ∧ Given e s m f b cp w ∧ (ks.contains b = true ∨ w0.heap.size ≤ b) ∧ (keys H' G).contains b = false := by
 subst hH
 rw [lg_is] at hi
 obtain ⟨h1, h2, xs, h3, h4⟩ := A.mem.ent i _ hi
 have h5 : ∃ L, G[i]? = some (some L) := by
  cases hq : G[i]? with
  | none =>
   rw [hq] at h4
   rcases h4.2 with ⟨_, h⟩ | ⟨g, cap, cur, h, _⟩
   ·omega
   ·cases h
  | some p =>
   cases p with
   | none =>
    rw [hq] at h4
    rcases h4.2 with ⟨_, h⟩ | ⟨g, cap, cur, h, _⟩
    ·omega
    ·cases h
   | some L => exact ⟨L, rfl⟩
 obtain ⟨L, hGi⟩ := h5
 rw [hGi] at h2 h4
 have hpre : L.pre = [] := h2 L rfl
 have h4' : w.ownsRow 0 e s (.slice (some ⟨L.b, 0, none⟩) m (c + rm (some L))) m xs := by
  have : (Option.map (fun L : Loc => (⟨L.b, L.pre.length, none⟩ : Addr)) (some L)) = some ⟨L.b, 0, none⟩ := by simp [hpre]
  rw [← this]; exact h4
 have hold : ∀ (j : Nat) (e : Ent), (stH H i none)[j]? = some (some e) → j ≠ i ∧ H[j]? = some (some e) := by
  intro j e h
  rw [stH_is] at h
  by_cases hj : j = i
  ·subst hj; rw [List.getElem?_set_self (List.getElem?_eq_some_iff.1 hi).1] at h; cases h
  ·rw [List.getElem?_set_ne (Ne.symm hj)] at h; exact ⟨hj, h⟩
 refine ⟨L.b, c + rm (some L), ⟨A.size, A.defers, fun q x hx => ?_, ⟨by rw [stH_is]; simpa using A.mem.len, fun j e he => A.mem.ent j e (hold j e he).2, fun j k e f L' M hjk g1 g2 g3 g4 g5 g6 => A.mem.sep j k e f L' M hjk (hold j e g1).2 (hold k f g2).2 g3 g4 g5 g6⟩, A.pre, fun j e L' g1 g2 g3 => A.own j e L' (hold j e g1).2 g2 g3, A.mix⟩, ⟨h1, xs, h3, h4'⟩, A.own i _ L hi rfl hGi, ?_⟩
 ·unfold look at hx
  cases hb : Nat.beq t q with
  | true =>
   rw [hb] at hx; cases hx
   have := Nat.eq_of_beq_eq_true hb
   subst this
   have := A.get t _ ht
   unfold den at this
   rw [hGi] at this
   rw [← this]
   simp [den, hpre]
  | false => rw [hb] at hx; exact A.get q x hx
 ·cases hq : (keys (stH H i none) G).contains L.b with
  | false => rfl
  | true =>
   obtain ⟨j, e, L', g1, g2, g3, g4⟩ := mem_keys.1 hq
   obtain ⟨k1, k2⟩ := hold j e g1
   exact absurd g4.symm (A.mem.sep i j _ e L L' (Ne.symm k1) hi k2 rfl hGi g3 (mut_full g2))
theorem Sy.takeRow (A : Sy n T H ks G0 w0 G a w) (t : Nat) {e s m b cp : Nat} {f : Nat → List SV} (hg : Given e s m f b cp w) (hn : ∀ (i : Nat) (e : Ent) (L : Loc), H[i]? = some (some e) → G[i]? = some (some L) → ¬ e.empty → L.b ≠ b) (ho : w0.heap.size ≤ b) (ht : look T t = some (.sla (some ⟨b, 0, none⟩) m cp)) :
  Sy n ((t, .sl H.length m 0) :: T) (H ++ [some (.row e s m 0 f)]) ks G0 w0 (G ++ [some ⟨b, [], List.replicate cp undef, e⟩]) a w := by
 have hlen := A.mem.len
 obtain ⟨p1, xs, p2, p3⟩ := hg
 have hen : EntOK G w (some ⟨b, [], List.replicate cp undef, e⟩) (.row e s m 0 f) := ⟨p1, fun L hL => by cases hL; rfl, xs, p2, by simpa [rm] using p3⟩
 have hold : ∀ (i : Nat) (x : Ent), (H ++ [some (Ent.row e s m 0 f)])[i]? = some (some x) → (H[i]? = some (some x) ∧ i < H.length) ∨ (i = H.length ∧ x = .row e s m 0 f) := by
  intro i x h
  by_cases hi : i < H.length
  ·rw [List.getElem?_append_left hi] at h; exact .inl ⟨h, hi⟩
  ·rw [List.getElem?_append_right (by omega)] at h
   have : i - H.length = 0 := by
    cases hq : i - H.length with
    | zero => rfl
    | succ k => rw [hq] at h; simp at h
   rw [this] at h
   simp at h
   exact .inr ⟨by omega, h.symm⟩
 have hG : ∀ i, i < H.length → (G ++ [some (⟨b, [], List.replicate cp undef, e⟩ : Loc)])[i]? = G[i]? := fun i hi => List.getElem?_append_left (by omega)
 have hGn : (G ++ [some (⟨b, [], List.replicate cp undef, e⟩ : Loc)])[H.length]? = some (some ⟨b, [], List.replicate cp undef, e⟩) := by rw [List.getElem?_append_right (by omega), hlen]; simp
 refine ⟨A.size, A.defers, fun q x hx => ?_, ⟨by simp [hlen], ?_, ?_⟩, ?_, ?_, A.mix⟩
 ·unfold look at hx
  cases hb : Nat.beq t q with
  | true =>
   rw [hb] at hx; cases hx
   have := Nat.eq_of_beq_eq_true hb
   subst this
   have := A.get t _ ht
   unfold den at this ⊢
   rw [hGn, ← this]
   simp [rm]
  | false => rw [hb] at hx; exact den_mono _ x (A.get q x hx)
 ·intro i x h
  rcases hold i x h with ⟨h1, h2⟩ | ⟨rfl, rfl⟩
  ·rw [hG i h2]; exact (A.mem.ent i x h1).more _
  ·rw [hGn]; exact hen.more _
 ·intro i j x y L M hij h1 h2 h3 h4 h5 h6
  rcases hold i x h1 with ⟨k1, k2⟩ | ⟨rfl, rfl⟩
  ·rw [hG i k2] at h4
   rcases hold j y h2 with ⟨k3, k4⟩ | ⟨rfl, rfl⟩
   ·rw [hG j k4] at h5; exact A.mem.sep i j x y L M hij k1 k3 h3 h4 h5 h6
   ·rw [hGn] at h5; cases h5; exact hn i x L k1 h4 (mut_full h3)
  ·rw [hGn] at h4; cases h4
   rcases hold j y h2 with ⟨k3, k4⟩ | ⟨rfl, rfl⟩
   ·rw [hG j k4] at h5; exact fun z => hn j y M k3 h5 h6 z.symm
   ·exact absurd rfl hij
 ·obtain ⟨F, hF⟩ := A.pre; exact ⟨F ++ [some ⟨b, [], List.replicate cp undef, e⟩], by rw [hF, List.append_assoc]⟩
 ·intro i x L h1 h2 h3
  rcases hold i x h1 with ⟨k1, k2⟩ | ⟨rfl, rfl⟩
  ·rw [hG i k2] at h3; exact A.own i x L k1 h2 h3
  ·rw [hGn] at h3; cases h3; exact .inr ho
theorem Sy.adoptL (A : Sy n T H ks G0 w0 G a w) {α : Type} (d : α) (cf : α → List SV) (s : Nat) (hs : ∀ x, (cf x).length = s) (hin : ∀ x, inL 0 (cf x) = true) (htot : ∀ x, ∃ vs, denL [] (cf x) = some vs) (R : List α) {b cp : Nat} {vs : List Value} (h0 : Lies b 0 vs w0 ks) (hv : denL [] (R.flatMap cf) = some vs) (t : Nat) (hx : look T t = some (.sla (some ⟨b, 0, none⟩) R.length cp)) :
  Sy n ((t, .sl H.length R.length cp) :: T) (H ++ [some (.lst s R.length fun zz => cf (R.getD zz d))]) ks G0 w0 (G ++ [some ⟨b, [], [], 0⟩]) a w := by
 have hl := h0.go A.mix (ks' := ks) fun b hb => .inl hb
 have hlen := A.mem.len
 have hG : (G ++ [some (⟨b, [], [], 0⟩ : Loc)])[H.length]? = some (some ⟨b, [], [], 0⟩) := by rw [List.getElem?_append_right (by omega), hlen]; simp
 have hold : ∀ (i : Nat) (e : Ent), (H ++ [some (Ent.lst s R.length fun zz => cf (R.getD zz d))])[i]? = some (some e) → (H[i]? = some (some e) ∧ i < H.length) ∨ (i = H.length ∧ e = .lst s R.length fun zz => cf (R.getD zz d)) := by
  intro i e h
  by_cases hi : i < H.length
  ·rw [List.getElem?_append_left hi] at h; exact .inl ⟨h, hi⟩
  ·rw [List.getElem?_append_right (by omega)] at h
   have : i - H.length = 0 := by
    cases hq : i - H.length with
    | zero => rfl
    | succ k => rw [hq] at h; simp at h
   rw [this] at h
   simp at h
   exact .inr ⟨by omega, h.symm⟩
 have hGl : ∀ i, i < H.length → (G ++ [some (⟨b, [], [], 0⟩ : Loc)])[i]? = G[i]? := fun i hi => List.getElem?_append_left (by omega)
 refine ⟨A.size, A.defers, fun q z hz => ?_, ⟨by simp [hlen], ?_, ?_⟩, ?_, ?_, A.mix⟩
 ·unfold look at hz
  cases hb : Nat.beq t q with
  | true =>
   rw [hb] at hz; cases hz
   have := Nat.eq_of_beq_eq_true hb
   subst this
   have h1 := A.get t _ hx
   unfold den at h1 ⊢
   rw [hG, ← h1]
   simp [rm]
  | false => rw [hb] at hz; exact den_mono _ z (A.get q z hz)
 ·intro i e h
  rcases hold i e h with ⟨h1, h2⟩ | ⟨rfl, rfl⟩
  ·rw [hGl i h2]; exact (A.mem.ent i e h1).more _
  ·rw [hG]
   refine ⟨fun k => htot _, .inr ⟨_, rfl, hl.1, fun k hk => ?_⟩⟩
   obtain ⟨r1, r2⟩ := blk_parts d cf s hs hin R k hk
   obtain ⟨r3, r4⟩ := tk_is r1
   rw [dp_is] at r3 r4
   have hd : denL [] (cf (R.getD k d)) = some ((vs.drop (k * s)).take s) := by rw [r3]; exact denL_take s (denL_drop _ hv)
   refine ⟨_, hd, fun q v hq => ?_⟩
   have hq' : vs[k * s + q]? = some v := by
    rw [List.getElem?_take] at hq
    split at hq
    ·rw [List.getElem?_drop] at hq; exact hq
    ·cases hq
   have := hl.2.2 (k * s + q) v hq'
   simpa using this
 ·intro i j e f L M hij h1 h2 h3 h4 h5 h6
  rcases hold i e h1 with ⟨k1, k2⟩ | ⟨rfl, rfl⟩
  ·rw [hGl i k2] at h4
   rcases hold j f h2 with ⟨k3, k4⟩ | ⟨rfl, rfl⟩
   ·rw [hGl j k4] at h5; exact A.mem.sep i j e f L M hij k1 k3 h3 h4 h5 h6
   ·rw [hG] at h5
    cases h5
    intro hLM
    rcases A.own i e L k1 h3 h4 with h7 | h7
    ·rw [hLM] at h7; simp only at h7; rw [h0.2.1] at h7; cases h7
    ·rw [hLM] at h7; simp only at h7; have := h0.1; omega
  ·cases h3
 ·obtain ⟨F, hF⟩ := A.pre; exact ⟨F ++ [some ⟨b, [], [], 0⟩], by rw [hF, List.append_assoc]⟩
 ·intro i e L h1 h2 h3
  rcases hold i e h1 with ⟨k1, k2⟩ | ⟨rfl, rfl⟩
  ·rw [hGl i k2] at h3; exact A.own i e L k1 h2 h3
  ·cases h2
end
section
variable {P : Program} {n : Nat} {ks : List Nat} {G0 : Gr} {w0 : World} {T : List (Nat × SV)} {H : Hp} {G : Gr} {a : Act} {w w' : World} {Q : Exit → Act → World → Prop} {K : List Fr} {ops : Array Oper} {o : Oper} {rest : List Oper}
theorem CALLROW {β : Type} {e s m t f : Nat} {F : β → Nat → List SV} {R : β → Nat → World → World → Prop} (hf : FnR P f [] [] (fun x w w' => ∃ (L : β) (b cp : Nat), x = .sla (some ⟨b, 0, none⟩) m cp ∧ R L b w w' ∧ w.heap.size ≤ b ∧ Given e s m (F L) b cp w')) (A : Sy n T H ks G0 w0 G a w) (hd : o.dst = some t) (h1 : callS n ops T o = some (f, []))
  (k : ∀ L b cp a' w' G', R L b w w' → w.heap.size ≤ b → (∀ k, (keys (H ++ [some (.row e s m 0 (F L))]) G').contains k = true → k < w.heap.size ∨ k = b) → Sy n ((t, .sl H.length m 0) :: extS T o.dst (.sla (some ⟨b, 0, none⟩) m cp)) (H ++ [some (.row e s m 0 (F L))]) ks G0 w0 G' a' w' → Goal P Q K (.ops ops rest) a' w') : Goal P Q K (.ops ops (o :: rest)) a w := by
 refine CALLR [] hf A h1 rfl rfl rfl rfl fun x a' w' hJ hk A' => ?_
 obtain ⟨L, b, cp, rfl, hR, hlo, hg⟩ := hJ
 have hl : look (extS T o.dst (.sla (some ⟨b, 0, none⟩) m cp)) t = some (.sla (some ⟨b, 0, none⟩) m cp) := by rw [hd]; simp [extS, look, Nat.beq_refl]
 have A2 := A'.takeRow t hg (fun i e L q1 q2 q3 => by
  have := A.mem.ent i e q1
  rw [q2] at this
  have := EntOK.lt this q3
  omega) (Nat.le_trans A.mix.size hlo) hl
 refine k L b cp a' w' _ hR hlo (fun k hk' => ?_) A2
 obtain ⟨i, e', M, q1, q2, q3, q4⟩ := mem_keys.1 hk'
 have hlen := A.mem.len
 by_cases hi : i < H.length
 ·rw [List.getElem?_append_left hi] at q1
  rw [List.getElem?_append_left (by omega)] at q3
  exact .inl (hk k (mem_keys.2 ⟨i, e', M, q1, q2, q3, q4⟩))
 ·right
  have hi2 : i = G.length := by
   have := (List.getElem?_eq_some_iff.1 q3).1
   simp at this
   omega
  subst hi2
  rw [List.getElem?_append_right (Nat.le_refl _)] at q3
  simp at q3
  rw [← q4, ← q3]
end
def bl : Option Addr → List Nat
 | some a => [a.block]
 | none => []
abbrev Ro (e : Nat) (w : World) (ao : Option Addr) (n cp : Nat) (xs : List Value) : Prop := w.ownsRow 0 e 1 (.slice ao n cp) n xs
theorem bl_own {ao : Option Addr} {n cp k : Nat} : (bl ao).contains k = true ↔ (Value.slice ao n cp).ownBlock = some k := by
 cases ao with
 | none => simp [bl, Value.ownBlock]
 | some a => simp [bl, Value.ownBlock]; exact ⟨fun h => h.symm, fun h => h.symm⟩
theorem Ro.lt {e : Nat} {w : World} {ao : Option Addr} {n cp : Nat} {xs : List Value} (h : Ro e w ao n cp xs) {k : Nat} (hk : (bl ao).contains k = true) : k < w.heap.size := (own_lt h k (bl_own.1 hk)).2
theorem Ro.cell {e : Nat} {w : World} {b n cp : Nat} {xs : List Value} (h : Ro e w (some ⟨b, 0, none⟩) n cp xs) : ∀ j u, xs[j]? = some u → w.cell? ((⟨b, 0, none⟩ : Addr).add j) = some u := h.cells (g := b) rfl
theorem Ro.range {e : Nat} {w : World} {b n cp : Nat} {xs : List Value} (h : Ro e w (some ⟨b, 0, none⟩) n cp xs) : w.rangeAt b 0 xs := fun j u hu => by
 have := h.cell j u hu
 rw [Addr.add_mid, Nat.zero_add] at this; simpa using this
section
variable {P : Program} {X : Tx} {n : Nat} {ks : List Nat} {G0 : Gr} {w0 : World} {T : List (Nat × SV)} {H : Hp} {G : Gr} {a : Act} {w w' : World} {ops : Array Oper} {o : Oper} {rest : List Oper} {Q : Exit → Act → World → Prop} {K : List Fr}
def Off (H : Hp) (G : Gr) (ks : List Nat) : Prop := ∀ (i : Nat) (e : Ent) (L : Loc), H[i]? = some (some e) → G[i]? = some (some L) → ¬ e.empty → ks.contains L.b = false
theorem Sy.mixed (A : Sy n T H ks G0 w0 G a w) {ks' : List Nat} (m : Mix ks' w w') (hoff : Off H G ks') (hk : ∀ b, ks'.contains b = true → ks.contains b = true ∨ w0.heap.size ≤ b) : Sy n T H ks G0 w0 G a w' := by
 refine ⟨A.size, A.defers, A.get, ⟨A.mem.len, fun i e h => (A.mem.ent i e h).mix m (fun hne L hL => hoff i e L h ?_ hne), A.mem.sep⟩, A.pre, A.own, A.mix.mix m fun k hl hc => ?_⟩
 ·cases hq : G[i]? with
  | none => rw [hq] at hL; cases hL
  | some p => rw [hq] at hL; simp at hL; rw [hL]
 ·cases hz : ks'.contains k with
  | false => rfl
  | true =>
   rcases hk k hz with h | h
   ·rw [h] at hc; cases hc
   ·omega
theorem NILQ {x y : Operand} {t rt : Nat} {ao : Option Addr} {nn cp : Nat} (A : Sy n T H ks G0 w0 G a w) (hg : guardS ops T o.guard = some .run) (hd : fitsD n o.dst = true) (hop : o.op = .binOp .eql t x y rt) (hx : evS T x = some (.sla ao nn cp)) (hy : evS T y = some (.sla none 0 0)) {e : Nat} (ht : P.underlying t = some (.slice e)) {r : SV} (hr : den [] r = some (.bool ao.isNone))
  (k : ∀ {a}, Sy n (extS T o.dst r) H ks G0 w0 G a w → Goal P Q K (.ops ops rest) a w) : Goal P Q K (.ops ops (o :: rest)) a w := by
 have hw := gd_run (gd := none) A hg
 obtain ⟨d, op, ty, pos, af, gd⟩ := o
 simp only at hop
 subst hop
 have hvx := A.ev hx
 have hvy := A.ev hy
 unfold den at hvx hvy
 simp only [Option.some.injEq] at hvx hvy
 exact q_does (Q := wpK P Q K) (d_bin (u := .slice ao nn cp) (v := .slice none 0 0) hw hvx.symm hvy.symm ⟨by simp [eqGuard], Lib.run_eql_slice_nil w t e ao nn cp 0 0 ht⟩ (k (Sy.put A hd (by simpa using den_mono G r hr))))
end
def FnW (P : Program) (f : Nat) (args : List SV) (H : Hp) (ks : List Nat) (pre : World → Prop) (J : SV → World → World → Prop) : Prop :=
 Ent_ P f = some (false, false) ∧ (∀ (i : Nat) (e : Ent), H[i]? = some (some e) → e.mut = false) ∧ ∀ G w vs, Mem H G w → Off H G ks → pre w → denL G args = some vs → Calls P f vs.toArray w fun e w' => ∃ x v, den [] x = some v ∧ e = .returned v ∧ Mix ks w w' ∧ J x w w'
section
variable {P : Program} {n : Nat} {ks : List Nat} {G0 : Gr} {w0 : World} {T : List (Nat × SV)} {H : Hp} {G : Gr} {a : Act} {w : World} {Q : Exit → Act → World → Prop} {K : List Fr} {pos : Pos} {ops : Array Oper} {o : Oper} {rest : List Oper} {pre : World → Prop}
theorem enterW {f : Nat} {fn : Func} {c : Code} {args : List SV} {J : SV → World → World → Prop} (hent : Ent_ P f = some (false, false)) (hf : P.funcs[f]? = some fn) (hb : fn.body = some c) (hn : fn.ntmps = n) (hl : Nat.ble args.length n = true) (hro : ∀ (i : Nat) (e : Ent), H[i]? = some (some e) → e.mut = false)
  (h : ∀ G w a, H.length = G.length → Off H G ks → pre w → Sy n (argS args 0) H ks G w G a w → Goal P (bodyPost P fn fun e w' => ∃ x v, den [] x = some v ∧ e = .returned v ∧ Mix ks w w' ∧ J x w w') [] (.code c) a w) : FnW P f args H ks pre J := by
 refine ⟨hent, hro, fun G w vs hM ho hp hv => ?_⟩
 refine calls_of_wp hf hb (h G w _ hM.len ho hp ⟨?_, rfl, fun t x hx => ?_, hM, ⟨[], by simp⟩, fun i e L h1 h2 h3 => (by rw [hro i e h1] at h2; cases h2), Mix.refl _ _⟩)
 ·have := denL_len hv
  have := Nat.le_of_ble_eq_true hl
  simp [hn]; omega
 ·obtain ⟨_, h2⟩ := argS_look hx
  simp only [Nat.sub_zero] at h2
  obtain ⟨v, h3, h4⟩ := denL_get hv h2
  have hlt : t < vs.length := (List.getElem?_eq_some_iff.1 h3).1
  rw [h4]
  simp [Array.getD_eq_getD_getElem?, Array.getElem?_append, hlt] at h3 ⊢
  exact h3.symm
theorem RETW {Y : Tb} {fn : Func} {J : SV → World → World → Prop} (hX : Y.ok P = true) {y : SV} {r : List SV} {rv : List ResultVar} {v' : Value} (A : Sy n T H ks G0 w0 G a w) (hr : fn.results.toList = rv) (hv : resS ⟨Y, false⟩ T H rv = some r) (hy : oneS r = y) (hc : den [] y = some v') (hJ : J y w0 w) : bodyPost P fn (fun e w' => ∃ x v, den [] x = some v ∧ e = .returned v ∧ Mix ks w0 w' ∧ J x w0 w') .ret a w := by
 obtain ⟨v, h1, h2⟩ := res_run (X := ⟨Y, false⟩) (fn := fn) hX A hr hv hy
 have h3 : den G y = some v' := by simpa using den_mono G y hc
 rw [h3] at h1
 cases h1
 exact ⟨A.defers, v', h2, y, v', hc, rfl, A.mix, hJ⟩
theorem CALLW {f : Nat} {args az : List SV} {H' l : Hp} {ks' : List Nat} {J : SV → World → World → Prop} (m : List Nat) (hf : FnW P f args H' ks' pre J) (A : Sy n T H ks G0 w0 G a w) (hp : pre w) (hoff : Off H G ks') (hk : ∀ b, ks'.contains b = true → ks.contains b = true ∨ w0.heap.size ≤ b) (h1 : callS n ops T o = some (f, az)) (h2 : renL m args = some az) (h3 : renH m H' = some l) (h4 : pickH H m = some l) (h5 : ndB m = true)
  (k : ∀ {x a' w'}, Mix ks' w w' → J x w w' → Sy n (extS T o.dst x) H ks G0 w0 G a' w' → Goal P Q K (.ops ops rest) a' w') : Goal P Q K (.ops ops (o :: rest)) a w := by
 obtain ⟨hd, us, hu, hdo⟩ := callS_do (P := P) (ops := ops) A h1 hf.1
 obtain ⟨p1, p2, p3⟩ := pickH_at h4
 obtain ⟨r1, r2⟩ := renH_at h3
 have hm : ∀ j ∈ m, j < G.length := fun j hj => by rw [← A.mem.len]; exact p2 j hj
 have hM := A.mem.sub h4 h3 h5
 have hv' : denL (pickG m G) args = some us := by rw [denL_ren hm args h2]; exact hu
 have ho' : Off H' (pickG m G) ks' := fun i e L q1 q2 q3 => by
  obtain ⟨f, s1, s2⟩ := r2 i _ q1
  obtain ⟨f', rfl⟩ := renE_some s2
  have hi : i < m.length := by rw [← p1]; exact (List.getElem?_eq_some_iff.1 s1).1
  have hj : m[i]? = some m[i] := by simp [hi]
  rw [pickG_at hm hj] at q2
  rw [p3 i _ hj] at s1
  exact hoff _ f' L s1 q2 fun h => q3 ((renE_mut s2).2.1 h)
 refine q_does (Q := wpK P Q K) (hdo (hf.2.2 _ w us hM ho' hp hv') fun e w' he => ?_)
 obtain ⟨x, v, e1, rfl, hg, hJ⟩ := he
 exact ⟨v, rfl, k hg hJ (Sy.put (A.mixed hg hoff hk) hd (by simpa using den_mono G x e1))⟩
theorem Off.nil : Off H G [] := fun _ _ _ _ _ _ => rfl
end
section
variable {P : Program} {n : Nat} {ks : List Nat} {G0 : Gr} {w0 : World} {T : List (Nat × SV)} {H : Hp} {G : Gr} {a : Act} {w : World} {Q : Exit → Act → World → Prop} {K : List Fr}
end
theorem ix_ptr {i o s m k : Nat} (j : Nat) {q : Nat} (hq : o + j * s + k = q) : ∀ G, den G (.ix (.ptr i o) s m (j : Int) k) = den G (.ptr i q) := fun G => by
 subst hq
 unfold den
 cases hG : G[i]? with
 | none => unfold den; rw [hG]
 | some p => cases p with
  | none => unfold den; rw [hG]
  | some L => unfold den; rw [hG]; simp [Nat.add_assoc]
section
variable {P : Program} {Y : Tb} {n : Nat} {ks : List Nat} {G0 : Gr} {w0 : World} {T : List (Nat × SV)} {H : Hp} {G : Gr} {a : Act} {w w' : World} {Q : Exit → Act → World → Prop} {K : List Fr} {ops : Array Oper} {o : Oper} {rest : List Oper}
end
theorem lt8 {j : Int} (h : 0 ≤ j ∧ j < 8) : j = 0 ∨ j = 1 ∨ j = 2 ∨ j = 3 ∨ j = 4 ∨ j = 5 ∨ j = 6 ∨ j = 7 := by omega
section
variable {P : Program} {Y : Tb} {n : Nat} {ks : List Nat} {G0 : Gr} {w0 : World} {T : List (Nat × SV)} {H : Hp} {ops : Array Oper} {o : Oper} {rest : List Oper} {Q : Exit → Act → World → Prop} {K : List Fr}
end
abbrev Rg := Nat → Int
def updR (r : Rg) (k : Nat) (x : Int) : Rg := fun j => if j = k then x else r j
section
variable {P : Program} {Y : Tb} {n : Nat} {ks : List Nat} {G0 : Gr} {w0 : World} {T : List (Nat × SV)} {H : Hp} {ops : Array Oper} {o : Oper} {rest : List Oper} {Q : Exit → Act → World → Prop} {K : List Fr}
end
abbrev rnS (x : SV) (at_ : Int) (r : Rg) : List SV := [x, .int .i64 at_, .int .i64 (r 0), .int .i64 (r 1), .int .i64 (r 2), .int .i64 (r 3), .int .i64 (r 4), .int .i64 (r 5), .int .i64 (r 6), .int .i64 (r 7)]
section
variable {P : Program} {Y : Tb} {n : Nat} {ks : List Nat} {G0 : Gr} {w0 : World} {T : List (Nat × SV)} {H : Hp} {ops : Array Oper} {o : Oper} {rest : List Oper} {Q : Exit → Act → World → Prop} {K : List Fr}
theorem stnE {x y : Operand} {ty i : Nat} {j v at_ : Int} {r : Rg} {s1 : SV} {ti : TI} (hX : Y.ok P = true) (hop : o.op = .store ty x y) (hg : guardS ops T o.guard = some .run) (hx : evS T x = some (.ix (.ptr i 2) 1 8 j 0)) (hy : evS T y = some (.int .i64 v)) (hH : lg H i = some (some (.blk (rnS s1 at_ r)))) (hti : Y.get ty = some ti) (hrow : ti.row = none) (hone : ti.one = true) (hj : 0 ≤ j ∧ j < 8) :
  EffOK P n ops ks G0 w0 T H o (.tup []) (stH H i (some (.blk (rnS s1 at_ (updR r j.toNat v))))) := fun G a w A => by
 have hw := gd_run (gd := none) A hg
 obtain ⟨d, op, ty', pos, af, gd⟩ := o
 simp only at hop
 subst hop
 have hvx := A.ev hx
 have hvy := A.ev hy
 have key : ∀ k : Nat, j = (k : Int) → (∀ q : List SV, sp (2 + k) (rnS s1 at_ r) [.int .i64 v] = some q → q = rnS s1 at_ (updR r j.toNat v) → Does P ops { dst := d, op := .store ty x y, type := ty', pos := pos, after := af, guard := gd } a w fun v' w' => ∃ F, den (G ++ F) (.tup []) = some v' ∧ Ms (stH H i (some (.blk (rnS s1 at_ (updR r j.toNat v))))) ks G0 w0 (G ++ F) w') := by
  intro k hk q hr e
  rw [hk, ix_ptr (q := 2 + k) k (by omega)] at hvx
  have hs : storeS ⟨Y, true⟩ H ty (.ptr i (2 + k)) (.int .i64 v) = some (i, q, []) := by
   have ht : Tx.get ⟨Y, true⟩ ty = some ti := hti
   simp only [storeS, hH, ht, hrow, hone, hr]
   rfl
  refine storeS_do (X := ⟨Y, true⟩) hX A hs okE_nil hvx hvy rfl rfl hw fun cs L vs' w' a1 a2 a3 a4 a5 => ⟨[], rfl, ?_⟩
  subst e
  simpa using (A.turn a1 a2 a3 a4 a5).ms
 rcases lt8 hj with rfl | rfl | rfl | rfl | rfl | rfl | rfl | rfl
 ·exact key 0 rfl _ rfl rfl
 ·exact key 1 rfl _ rfl rfl
 ·exact key 2 rfl _ rfl rfl
 ·exact key 3 rfl _ rfl rfl
 ·exact key 4 rfl _ rfl rfl
 ·exact key 5 rfl _ rfl rfl
 ·exact key 6 rfl _ rfl rfl
 ·exact key 7 rfl _ rfl rfl
theorem ldnE {x : Operand} {ty i : Nat} {j at_ : Int} {r : Rg} {s1 : SV} {ti : TI} (hX : Y.ok P = true) (hop : o.op = .load ty x) (hg : guardS ops T o.guard = some .run) (hx : evS T x = some (.ix (.ptr i 2) 1 8 j 0)) (hH : lg H i = some (some (.blk (rnS s1 at_ r)))) (hti : Y.get ty = some ti) (hrow : ti.row = none) (hone : ti.one = true) (hj : 0 ≤ j ∧ j < 8) :
  EffOK P n ops ks G0 w0 T H o (.int .i64 (r j.toNat)) H := fun G a w A => by
 have hw := gd_run (gd := none) A hg
 obtain ⟨d, op, ty', pos, af, gd⟩ := o
 simp only at hop
 subst hop
 have hvx := A.ev hx
 have key : ∀ k : Nat, j = (k : Int) → (lg (rnS s1 at_ r) (2 + k) = some (.int .i64 (r j.toNat))) → Does P ops { dst := d, op := .load ty x, type := ty', pos := pos, after := af, guard := gd } a w fun v' w' => ∃ F, den (G ++ F) (.int .i64 (r j.toNat)) = some v' ∧ Ms H ks G0 w0 (G ++ F) w' := by
  intro k hk hr
  rw [hk, ix_ptr (q := 2 + k) k (by omega)] at hvx
  have hs : loadS ⟨Y, true⟩ H ty (.ptr i (2 + k)) = some (.int .i64 (r j.toNat), []) := by
   have ht : Tx.get ⟨Y, true⟩ ty = some ti := hti
   simp only [loadS, baseS, hH, selL, cellS, ht, hrow, hone, hr, cond_true]
  obtain ⟨z, hz, h3⟩ := loadS_do (X := ⟨Y, true⟩) (P := P) (ops := ops) (d := d) (ty := ty') (pos := pos) (af := af) (gd := gd) (x := x) hX A hs hvx
  exact h3 (fun p hp => by cases hp) rfl hw _ ⟨[], by simpa using hz, by simpa using A.ms⟩
 rcases lt8 hj with rfl | rfl | rfl | rfl | rfl | rfl | rfl | rfl
 ·exact key 0 rfl rfl
 ·exact key 1 rfl rfl
 ·exact key 2 rfl rfl
 ·exact key 3 rfl rfl
 ·exact key 4 rfl rfl
 ·exact key 5 rfl rfl
 ·exact key 6 rfl rfl
 ·exact key 7 rfl rfl
def adJ (ao : Option Addr) (s : Nat) (j : Int) : Option Addr := ao.map fun a => ⟨a.block, a.off + j.toNat * s, none⟩
theorem ixcE {x y : Operand} {t e nn cp s : Nat} {j : Int} {ao : Option Addr} {f : Nat → List SV} (hop : o.op = .indexAddr t x y) (hg : guardS ops T o.guard = some .run) (hx : evS T x = some (.sla ao nn cp)) (hy : evS T y = some (.int .i64 j)) (h0 : LstAt ao s nn f w0 ks) (ht : sliceB P t e s = true) (hj : 0 ≤ j ∧ j < ((nn : Nat) : Int)) :
  EffOK P n ops ks G0 w0 T H o (.v (.pointer (adJ ao s j))) H := fun G a w A => by
 rcases h0.2 with q | ⟨b, q, rfl, _⟩
 ·omega
 have hw := gd_run (gd := none) A hg
 obtain ⟨d, op, ty, pos, af, gd⟩ := o
 simp only at hop
 subst hop
 have hvx := A.ev hx
 have hvy := A.ev hy
 unfold den at hvx hvy
 simp only [Option.some.injEq] at hvx hvy
 exact d_indexAt (n := nn) (s := s) (b := b) (o := q + j.toNat * s) (j := j.toNat) hw hvx.symm (by rw [← hvy]; congr 1; omega) ht ⟨q, cp, rfl, rfl⟩ (by omega) ⟨[], rfl, by simpa using A.ms⟩
theorem ldcE {x : Operand} {ty s nn : Nat} {j : Int} {ao : Option Addr} {f : Nat → List SV} (r : List SV) (hX : Y.ok P = true) (hop : o.op = .load ty x) (hg : guardS ops T o.guard = some .run) (hx : evS T x = some (.v (.pointer (adJ ao s j)))) (h0 : LstAt ao s nn f w0 ks) (hj : 0 ≤ j ∧ j < ((nn : Nat) : Int)) (hr : f j.toNat = r) (hc : cellS ⟨Y, true⟩ ty r 0 = some (.agg r)) :
  EffOK P n ops ks G0 w0 T H o (.agg r) H := fun G a w A => by
 have h1 := LstAt.ok w0 ks w ks h0 A.mix (fun b hb => .inl hb)
 rcases h1.2 with q | ⟨b, q, rfl, _, _, h4⟩
 ·omega
 have hw := gd_run (gd := none) A hg
 obtain ⟨d, op, ty, pos, af, gd⟩ := o
 simp only at hop
 subst hop
 have hvx := A.ev hx
 unfold den at hvx
 simp only [Option.some.injEq] at hvx
 obtain ⟨vs, v1, v2⟩ := h4 j.toNat (by omega)
 rw [hr] at v1
 have v3 : denL G r = some vs := by simpa using denL_mono G r v1
 exact cellS_load (X := ⟨Y, true⟩) hX hc v3 (by show (denL G r).map _ = _; rw [v3]; rfl) v2 hw hvx.symm ⟨[], by simp only [List.append_nil]; show (denL G r).map _ = _; rw [v3]; rfl, by simpa using A.ms⟩
end
theorem fnI_el {I : Amb} {P : Program} {f : Nat} {args : List SV} {x : SV} {e s m c : Nat} {F F' : Nat → List SV} {j : Int} (k : Nat) (hjk : j.toNat = k) (hj : k < m)
  (h : FnI I P f (.ptr 0 0 :: args) [some (.blk (F k))] (Rt x [some (.blk (F' k))])) (hin : inL 0 args = true) (hxin : inS 0 x = true) (hne : ∀ q, q ≠ k → F' q = F q) (hcl : ∃ vs, denL [] (F' k) = some vs ∧ vs.length = s) :
  FnI I P f (.el 0 s j 0 :: args) [some (.row e s m c F)] (Rt x [some (.row e s m c F')]) := by
 refine ⟨h.1, fun G w vs hM hI hv => ?_⟩
 have hGl : G.length = 1 := hM.len.symm
 obtain ⟨p, rfl⟩ : ∃ p, G = [p] := by
  cases G with
  | nil => cases hGl
  | cons p G => cases G with
   | nil => exact ⟨p, rfl⟩
   | cons _ _ => simp at hGl
 obtain ⟨htot, hpre, xs, hxs, hown⟩ := hM.ent 0 _ rfl
 obtain ⟨us, hus, husl⟩ := htot k
 have hxl := flat_len htot hxs
 have hmk : (k + 1) * s ≤ m * s := Nat.mul_le_mul_right s (by omega)
 have hks : (k + 1) * s = k * s + s := by rw [Nat.add_mul, Nat.one_mul]
 rcases hown.2 with ⟨_, h0⟩ | ⟨g, cap, cur, hsl, hb, hg, hnc, hcm, hcs, hxc⟩
 ·omega
 obtain ⟨L, rfl⟩ : ∃ L, p = some L := by
  cases p with
  | none => simp at hsl
  | some L => exact ⟨L, rfl⟩
 have hp0 := hpre L rfl
 simp only [List.getElem?_cons_zero, Option.getD_some, Option.map_some, Value.slice.injEq, Option.some.injEq, Addr.mk.injEq, true_and] at hsl
 have hbg : L.b = g := hsl.1.1
 have hcc : m * s ≤ cap * s := Nat.mul_le_mul_right s hnc
 have hcl' : cur.toList.length = cap * s := by simpa using hcs
 have hmid : (cur.toList.drop (k * s)).take s = us := by
  obtain ⟨us2, e1, e2⟩ := flat_at htot hxs k hj
  rw [hus] at e1; cases e1
  apply List.ext_getElem?
  intro q
  by_cases hq : q < s
  ·rw [List.getElem?_take_of_lt hq, List.getElem?_drop]
   have hqu : q < us.length := by omega
   have := e2 q us[q] (List.getElem?_eq_getElem hqu)
   rw [← hxc, List.getElem?_take_of_lt (by omega)] at this
   rw [this, List.getElem?_eq_getElem hqu]
  ·rw [List.getElem?_eq_none (by rw [List.length_take]; omega), List.getElem?_eq_none (by omega)]
 have hsplit : cur.toList.take (k * s) ++ us ++ cur.toList.drop ((k + 1) * s) = cur.toList := by
  rw [← hmid, hks, ← List.drop_drop, List.append_assoc, List.take_append_drop, List.take_append_drop]
 have hpl : (cur.toList.take (k * s)).length = k * s := by rw [List.length_take]; omega
 let L' : Loc := ⟨g, cur.toList.take (k * s), cur.toList.drop ((k + 1) * s), e⟩
 have hden : ∀ {l : List SV} {vs : List Value} {G : Gr}, denL [] l = some vs → denL G l = some vs := fun {l vs G} h => by simpa using denL_mono G l h
 have hM' : Mem [some (.blk (F k))] [some L'] w := by
  refine ⟨rfl, fun i e' he => ?_, fun i q e1 e2 L1 L2 hne' h1 h2 => ?_⟩
  ·cases i with
   | succ i => cases he
   | zero =>
    cases he
    refine ⟨L', us, rfl, hden hus, ?_⟩
    show Blk w g (cur.toList.take (k * s) ++ us ++ cur.toList.drop ((k + 1) * s)).toArray e
    rw [hsplit]
    exact hg
  ·cases i with
   | succ i => cases h1
   | zero => cases q with
    | zero => exact absurd rfl hne'
    | succ q => cases h2
 have hkeys : keys [some (.row e s m c F)] [some L] = keys [some (.blk (F k))] [some L'] := by
  show [L.b] = [g]
  rw [hbg]
 have hargs : denL [some L'] (.ptr 0 0 :: args) = some vs := by
  obtain ⟨v, ws, e1, e2, rfl⟩ := denL_cons hv
  refine denL_mk ?_ ?_
  ·rw [← e1]
   show some (Value.pointer (some ⟨g, (cur.toList.take (k * s)).length + 0, none⟩)) = some (Value.pointer (some ⟨L.b, L.pre.length + j.toNat * s + 0, none⟩))
   rw [hpl, hbg, hp0, hjk]
   simp
  ·have a1 := denL_take' (G := [some L]) (k := 0) args hin
   have a2 := denL_take' (G := [some L']) (k := 0) args hin
   rw [List.take_zero] at a1 a2
   rw [← a2, a1, e2]
 refine Calls.mono (h.2 [some L'] w vs hM' (hkeys ▸ hI) hargs) ?_
 rintro en w' ⟨y, H', Fr, v, ⟨rfl, rfl⟩, d1, rfl, hM2, hmix, _, _, _⟩
 have hF : Fr = [] := by
  have := hM2.len
  cases Fr with
  | nil => rfl
  | cons _ _ => simp at this
 subst hF
 obtain ⟨L2, vs', q1, q2, q3⟩ := hM2.ent 0 _ rfl
 cases q1
 obtain ⟨vs2, r1, r2⟩ := hcl
 have r3 := hden (G := [some L'] ++ []) r1
 rw [r3] at q2
 cases q2
 have htot' : ∀ k, ∃ vs, denL [] (F' k) = some vs ∧ vs.length = s := fun q => by
  by_cases hq : q = k
  ·subst hq; exact ⟨vs', r1, r2⟩
  ·rw [hne q hq]; exact htot q
 have hxs' := flat_set htot hne r1 r2 hxs hj
 rw [← hkeys] at hmix
 refine ⟨y, _, [], v, ⟨rfl, rfl⟩, ?_, rfl, ⟨rfl, fun i e' he => ?_, fun i q e1 e2 L1 L2 hne' h1 h2 => ?_⟩, hmix, Nat.le_refl _, fun i e' he hm => ?_, fun i e' he hm L1 hL1 => ?_⟩
 ·have a1 := den_take (G := [some L] ++ []) (k := 0) y hxin
  have a2 := den_take (G := [some L'] ++ []) (k := 0) y hxin
  rw [List.take_zero] at a1 a2
  rw [← a1, a2]; exact d1
 ·cases i with
  | succ i => cases he
  | zero =>
   cases he
   refine ⟨htot', fun M hM => by cases hM; exact hp0, _, hxs', ?_, .inr ⟨g, cap, (cur.toList.take (k * s) ++ vs' ++ cur.toList.drop ((k + 1) * s)).toArray, ?_, hb, q3, hnc, hcm, ?_, ?_⟩⟩
   ·simp only [List.length_append, List.length_take, List.length_drop]; omega
   ·simp only [List.append_nil, List.getElem?_cons_zero, Option.getD_some, Option.map_some, Value.slice.injEq, Option.some.injEq, Addr.mk.injEq, true_and]
    exact hsl
   ·simp only [List.size_toArray, List.length_append, List.length_take, List.length_drop]; omega
   ·have e1 : (cur.toList.take (k * s) ++ vs').length = (k + 1) * s := by rw [List.length_append, hpl, r2, hks]
    show (cur.toList.take (k * s) ++ vs' ++ cur.toList.drop ((k + 1) * s)).take (m * s) = _
    rw [List.take_append, List.take_of_length_le (l := cur.toList.take (k * s) ++ vs') (by omega), e1, ← hxc, List.take_take, Nat.min_eq_left (by omega), List.drop_take]
 ·cases i with
  | succ i => cases h1
  | zero => cases q with
   | zero => exact absurd rfl hne'
   | succ q => cases h2
 ·cases i with
  | succ i => cases he
  | zero => cases he; cases hm
 ·cases i with
  | succ i => cases he
  | zero =>
   cases he
   cases hL1
   exact .inl (by show [L.b].contains L.b = true; simp)
section
variable {P : Program} {n : Nat} {ks : List Nat} {G0 : Gr} {w0 : World} {H : Hp} {G : Gr} {w w' : World} {ops : Array Oper} {o : Oper}
end
theorem denL_last {G : Gr} {x y : SV} (h : den G x = den G y) : ∀ {l : List SV}, denL G (l ++ [x]) = denL G (l ++ [y])
 | [] => by
  show denL G [x] = denL G [y]
  unfold denL
  rw [h]
 | z :: l => by
  show denL G (z :: (l ++ [x])) = denL G (z :: (l ++ [y]))
  unfold denL
  rw [denL_last h]
section
variable {P : Program} {n : Nat} {ks : List Nat} {G0 : Gr} {w0 : World} {T : List (Nat × SV)} {H : Hp} {G : Gr} {a : Act} {w w' : World} {Q : Exit → Act → World → Prop} {K : List Fr} {ops : Array Oper} {o : Oper} {rest : List Oper}
theorem Sy.takeRowG (A : Sy n T H ks G0 w0 G a w) (t : Nat) {e s m b cp : Nat} {f : Nat → List SV} {x y : SV} (hg : Given e s m f b cp w) (hn : ∀ (i : Nat) (e : Ent) (L : Loc), H[i]? = some (some e) → G[i]? = some (some L) → ¬ e.empty → L.b ≠ b) (ho : w0.heap.size ≤ b) (ht : look T t = some x) (hy : den (G ++ [some ⟨b, [], List.replicate cp undef, e⟩]) y = den (G ++ [some ⟨b, [], List.replicate cp undef, e⟩]) x) :
  Sy n ((t, y) :: T) (H ++ [some (.row e s m 0 f)]) ks G0 w0 (G ++ [some ⟨b, [], List.replicate cp undef, e⟩]) a w := by
 have hlen := A.mem.len
 obtain ⟨p1, xs, p2, p3⟩ := hg
 have hen : EntOK G w (some ⟨b, [], List.replicate cp undef, e⟩) (.row e s m 0 f) := ⟨p1, fun L hL => by cases hL; rfl, xs, p2, by simpa [rm] using p3⟩
 have hold : ∀ (i : Nat) (x : Ent), (H ++ [some (Ent.row e s m 0 f)])[i]? = some (some x) → (H[i]? = some (some x) ∧ i < H.length) ∨ (i = H.length ∧ x = .row e s m 0 f) := by
  intro i x h
  by_cases hi : i < H.length
  ·rw [List.getElem?_append_left hi] at h; exact .inl ⟨h, hi⟩
  ·rw [List.getElem?_append_right (by omega)] at h
   have : i - H.length = 0 := by
    cases hq : i - H.length with
    | zero => rfl
    | succ k => rw [hq] at h; simp at h
   rw [this] at h
   simp at h
   exact .inr ⟨by omega, h.symm⟩
 have hG : ∀ i, i < H.length → (G ++ [some (⟨b, [], List.replicate cp undef, e⟩ : Loc)])[i]? = G[i]? := fun i hi => List.getElem?_append_left (by omega)
 have hGn : (G ++ [some (⟨b, [], List.replicate cp undef, e⟩ : Loc)])[H.length]? = some (some ⟨b, [], List.replicate cp undef, e⟩) := by rw [List.getElem?_append_right (by omega), hlen]; simp
 refine ⟨A.size, A.defers, fun q x hx => ?_, ⟨by simp [hlen], ?_, ?_⟩, ?_, ?_, A.mix⟩
 ·unfold look at hx
  cases hb : Nat.beq t q with
  | true =>
   rw [hb] at hx; cases hx
   have := Nat.eq_of_beq_eq_true hb
   subst this
   rw [hy]; exact den_mono _ _ (A.get t _ ht)
  | false => rw [hb] at hx; exact den_mono _ x (A.get q x hx)
 ·intro i x h
  rcases hold i x h with ⟨h1, h2⟩ | ⟨rfl, rfl⟩
  ·rw [hG i h2]; exact (A.mem.ent i x h1).more _
  ·rw [hGn]; exact hen.more _
 ·intro i j x y L M hij h1 h2 h3 h4 h5 h6
  rcases hold i x h1 with ⟨k1, k2⟩ | ⟨rfl, rfl⟩
  ·rw [hG i k2] at h4
   rcases hold j y h2 with ⟨k3, k4⟩ | ⟨rfl, rfl⟩
   ·rw [hG j k4] at h5; exact A.mem.sep i j x y L M hij k1 k3 h3 h4 h5 h6
   ·rw [hGn] at h5; cases h5; exact hn i x L k1 h4 (mut_full h3)
  ·rw [hGn] at h4; cases h4
   rcases hold j y h2 with ⟨k3, k4⟩ | ⟨rfl, rfl⟩
   ·rw [hG j k4] at h5; exact fun z => hn j y M k3 h5 h6 z.symm
   ·exact absurd rfl hij
 ·obtain ⟨F, hF⟩ := A.pre; exact ⟨F ++ [some ⟨b, [], List.replicate cp undef, e⟩], by rw [hF, List.append_assoc]⟩
 ·intro i x L h1 h2 h3
  rcases hold i x h1 with ⟨k1, k2⟩ | ⟨rfl, rfl⟩
  ·rw [hG i k2] at h3; exact A.own i x L k1 h2 h3
  ·rw [hGn] at h3; cases h3; exact .inr ho
end
section
variable {P : Program} {Y : Tb} {n : Nat} {ks : List Nat} {G0 : Gr} {w0 : World} {T : List (Nat × SV)} {H : Hp} {ops : Array Oper} {o : Oper}
theorem eff_say {x y : SV} {H' : Hp} (e : ∀ G, den G x = den G y) (h : EffOK P n ops ks G0 w0 T H o x H') : EffOK P n ops ks G0 w0 T H o y H' := fun G a w A =>
 does_mono (h G a w A) fun v w' ⟨F, h1, h2⟩ => ⟨F, by rw [← e]; exact h1, h2⟩
theorem aplE {i e s m c nn cc mm mb mc : Nat} {f g : Nat → List SV} (hY : Y.ok P = true) (m' : Nat) (f' : Nat → List SV) (h : aplS Y n ops T H o = some ((i, e, s, m, c), f, (mm, mb, mc), g, (nn, cc))) (h1 : nn = m) (h2 : cc = c) (hc0 : c = 0) (hmb : mm ≤ mb) (hb : m ≤ 1000000) (hb2 : mm ≤ 1000000) (hm' : m' = m + mm)
  (hf : ∀ k, k < m → f' k = f k) (hn : ∀ k, k < mm → f' (m + k) = g k) (htot : ∀ k, ∃ vs, denL [] (f' k) = some vs ∧ vs.length = s) (hone : ∀ k, k < mm → ∃ E, onesS (g k) = some E ∧ okE E) :
  EffOK P n ops ks G0 w0 T H o (.sl H.length m' 0) (stH H i none ++ [some (.row e s m' 0 f')]) := by
 subst hm'
 intro G a w A
 obtain ⟨d, op, ty, pos, af, gd⟩ := o
 unfold aplS at h
 split at h
 ·next hd =>
  split at h
  ·next hgd =>
   have hw := gd_run (gd := none) A hgd
   split at h
   ·next ca hca =>
    simp only at hca
    subst hca
    obtain ⟨callee, args, ats⟩ := ca
    simp only at h
    split at h
    ·next x y t t' ha ht =>
     split at h
     ·next i' nn' cc' j mm' mc' hx hy htt =>
      split at h
      ·next e' s' m' c1 f1 s2 mb' g' ti hi hj hti =>
       split at h
       ·next e2 s3 b hel =>
        split at h
        ·next hck =>
         cases h
         subst h1; subst h2
         simp only [Bool.and_eq_true] at hck
         obtain ⟨⟨⟨c1, c2⟩, c3⟩, c4⟩ := hck
         have e1 := Nat.eq_of_beq_eq_true c1
         have e2' := Nat.eq_of_beq_eq_true c2
         have e3 := Nat.eq_of_beq_eq_true c3
         have e4 := Nat.eq_of_beq_eq_true htt
         have hby := Nat.le_of_ble_eq_true c4
         subst e1; subst e2'; subst e3; subst e4
         rw [lg_is] at hi
         have hargs : args = #[x, y] := by have := congrArg List.toArray ha; simpa using this
         have hats : ats = #[t, t] := by have := congrArg List.toArray ht; simpa using this
         subst hargs; subst hats
         obtain ⟨r1, r2, xs, r3, r4⟩ := A.mem.ent i _ hi
         obtain ⟨g1, g2⟩ := parts_at A.mem hj
         obtain ⟨ie, z, f1', f2', f3', f4', f5', f6', f7'⟩ := elem_facts (ti_elm (Tb.at hY hti) hel)
         have hvx := A.ev hx
         have hvy := A.ev hy
         obtain ⟨q, hq⟩ : ∃ q, G[i]? = some q := by
          have : i < G.length := by rw [← A.mem.len]; exact (List.getElem?_eq_some_iff.1 hi).1
          exact ⟨G[i], by simp [this]⟩
         rw [hq] at r2 r4
         simp only [Option.getD_some] at r2 r4
         unfold den at hvx hvy
         rw [hq] at hvx
         simp only [Option.some.injEq] at hvx
         have htg : ∀ k, k < mm → ∃ vs, denL [] (g k) = some vs ∧ vs.length = s := fun k hk => by rw [← hn k hk]; exact htot _
         obtain ⟨ys, hys⟩ := flat_ex (f := fun k => f' (nn + k)) (fun k => htot _) mm
         have hyl := flat_len (f := fun k => f' (nn + k)) (fun k => htot _) hys
         have hflat : flatV f' (nn + mm) = some (xs ++ ys) := flat_more mm nn (by rw [flat_congr hf]; exact r3) hys
         have hob : Value.ownBlock (.slice (q.map fun L => ⟨L.b, L.pre.length, none⟩) nn (cc + rm q)) = q.map (·.b) := by cases q <;> rfl
         by_cases h0 : mm = 0
         ·subst h0
          cases hys
          have hsrc : Src P ie.size t (a.eval y) 0 [] w := by
           split at hvy
           ·next p hp =>
            rw [← Option.some.inj hvy]
            cases p with
            | none => exact Src.ofNil w f1' mc
            | some L => exact Src.ofSlice w f1' _ 0 _ [] (by simp) (fun j u hj => by simp at hj) (fun u hu => by cases hu)
           ·cases hvy
          have hnc : nn ≤ cc + rm q := by
           rcases r4.2 with ⟨q1, q2⟩ | ⟨g, cap, cur, q1, _, _, q4, _⟩
           ·omega
           ·cases q <;> simp at q1; omega
          have hr := run_append_nothing (P := P) w t t ty e ie f1' f2' (q.map fun L => ⟨L.b, L.pre.length, none⟩) nn (cc + rm q) hnc _ hsrc
          refine does_val (v := .slice (q.map fun L => ⟨L.b, L.pre.length, none⟩) nn (cc + rm q)) (w' := w) hw ?_ ?_
          ·unfold execOp
           simp only [resolve, invoke, builtin, Sem.run_bind, Sem.run_pure, Result.andThen_ok, List.map_toArray, List.map_cons, List.map_nil, ← hvx, hr]
          ·have A2 := A.rowMove (w' := w) (p' := q) (m' := nn + 0) (c' := cc) (xs' := xs ++ []) hi ⟨rfl, rfl, rfl, Nat.le_refl _, fun _ _ _ => rfl⟩ (by simpa using r4) r2 (.inl (by rw [hq]; rfl)) hflat htot
           subst hc0
           refine ⟨_, ?_, A2.ms⟩
           unfold den
           rw [List.getElem?_append_right (by rw [A.mem.len]; exact Nat.le_refl _), A.mem.len]
           simp
         ·obtain ⟨L, vs0, b1, _⟩ := g2 0 (by omega)
          rw [get_loc b1] at hvy
          simp only [Option.map_some, Option.some.injEq] at hvy
          have hmul : (nn + mm) * b ≤ 2000000 * 10000 := Nat.mul_le_mul (by omega) hby
          obtain ⟨v', w', hr, k1, k2, _, k4⟩ := run_append_own_at (P := P) w 0 t ty e ie z s b f1' f2' f3' f4' f5' f6' f7' _ nn xs r4 ⟨L.b, L.pre.length, none⟩ mm (mc + rm (some L)) ys hyl
           (fun j u hj => by
            obtain ⟨k, r, us, d1, d2, d3, d4⟩ := flat_inv (f := fun k => f' (nn + k)) (fun k => htot _) hys j u hj
            obtain ⟨L', us', b1', b2', b3'⟩ := g2 k (by omega)
            rw [b1] at b1'; cases b1'
            rw [hn k d1, b2'] at d2
            cases d2
            have := b3' r u d3
            rw [Addr.add_mid, d4, ← Nat.add_assoc]
            exact this)
           (fun u hu => by
            obtain ⟨j, hj⟩ := List.mem_iff_getElem?.1 hu
            obtain ⟨k, r, us, d1, d2, d3, d4⟩ := flat_inv (f := fun k => f' (nn + k)) (fun k => htot _) hys j u hj
            rw [hn k d1] at d2
            obtain ⟨E, o1, o2⟩ := hone k d1
            exact List.all_eq_true.1 (onesS_spec o1 o2 d2) u (List.mem_of_getElem? d3))
           (by simp only [maxLen]; omega) (by omega) (Nat.zero_le _)
          obtain ⟨p', o1, o2, o3⟩ := own_split k1
          rw [hob] at k2 k4
          rw [o3] at k4
          rw [o1] at k1
          refine does_val (v := v') (w' := w') hw ?_ ?_
          ·unfold execOp
           simp only [resolve, invoke, builtin, Sem.run_bind, Sem.run_pure, Result.andThen_ok, List.map_toArray, List.map_cons, List.map_nil, ← hvx, ← hvy, hr]
          ·have A2 := A.rowMove (p' := p') hi (by rw [hq]; exact k2) k1 o2 (by rw [hq]; exact k4) hflat htot
           refine ⟨_, ?_, A2.ms⟩
           unfold den
           rw [List.getElem?_append_right (by rw [A.mem.len]; exact Nat.le_refl _), A.mem.len]
           simp [o1]
        ·cases h
       ·cases h
      ·cases h
     ·cases h
    ·cases h
   ·cases h
  ·cases h
 ·cases h
end
end Go.Proofs.YtbbdanhpphlbpaaGreatDoor
namespace Go.Proofs.YtbbdanhpphlbpaaGreatDoor
open Go.RowKit
set_option linter.unusedVariables false
set_option linter.unusedSimpArgs false
section
variable {n : Nat} {T : List (Nat × SV)} {H : Hp} {ks : List Nat} {G0 : Gr} {w0 : World} {G : Gr} {a : Act} {w : World}
end
section
variable {n : Nat} {T : List (Nat × SV)} {H : Hp} {ks : List Nat} {G0 : Gr} {w0 : World} {G : Gr} {a : Act} {w : World}
theorem denL_at {G : Gr} {x y : SV} (h : den G x = den G y) : ∀ (l r : List SV), denL G (l ++ x :: r) = denL G (l ++ y :: r)
 | [], r => by
  show denL G (x :: r) = denL G (y :: r)
  unfold denL; rw [h]
 | z :: l, r => by
  show denL G (z :: (l ++ x :: r)) = denL G (z :: (l ++ y :: r))
  unfold denL; rw [denL_at h l r]
end
end Go.Proofs.YtbbdanhpphlbpaaGreatDoor
namespace Go.Proofs.YtbbdanhpphlbpaaGreatDoor.Mc
open Go.RowKit
set_option linter.unusedVariables false
set_option linter.unusedSimpArgs false
set_option maxRecDepth 100000
set_option maxHeartbeats 2000000
set_option simprocs false
abbrev rQ9 (x : SV) (a : Int) (r : Nat → Int) : List SV := [x, .int .i64 a, .int .i64 (r 0), .int .i64 (r 1), .int .i64 (r 2), .int .i64 (r 3), .int .i64 (r 4), .int .i64 (r 5), .int .i64 (r 6), .int .i64 (r 7)]
theorem okM {a b : Bool} {o1 : Int} {c : Bool} (h : (!(((a && (decide (o1 ≥ 0))) && b) && c)) = false) : 0 ≤ o1 := by
 simp at h; exact h.1.1.2
theorem blow_ (s1 : Int) (hs : s1 = 1 ∨ s1 = 2 ∨ s1 = 4 ∨ s1 = 8) : Fn Tryz.prog 172 [.int .i64 s1] [] (Rt (.int .i64 (IntKind.wrap .i64 ((IntKind.wrap .i64 (1 * 2 ^ min ((IntKind.wrap .i64 (8 * s1))).toNat (IntKind.bits .i64))) - 1))) []) :=
 enterM (n := 7) (by kernel_rfl) Tryz.func172 rfl rfl rfl fun G w a h0 A => M hX 15 A rfl (ok_d (by first | omega | (rcases hs with rfl | rfl | rfl | rfl <;> decide)) <| okE_nil) fun A => R9 A rfl h0 rfl rfl rfl
def bplace0 (o1 x1 s1 : Int) : Int := if (!((((s1 == 1) || (s1 == 2)) || (s1 == 4)) || (s1 == 8))) = true then (-1) else IntKind.wrap .i64 ((((BitVec.ofInt (IntKind.bits .i64) (IntKind.wrap .i64 ((((BitVec.ofInt (IntKind.bits .i64) (IntKind.wrap .i64 (o1 + x1))) &&& (BitVec.ofInt (IntKind.bits .i64) 7)).toNat : Nat) : Int))) &&& ~~~ (BitVec.ofInt (IntKind.bits .i64) (IntKind.wrap .i64 (s1 - 1)))).toNat : Nat) : Int)
theorem bplace_ (o1 x1 s1 : Int)  : Fn Tryz.prog 173 [.int .i64 o1, .int .i64 x1, .int .i64 s1] [] (Rt (.int .i64 (bplace0 o1 x1 s1)) []) :=
 enterM (n := 19) (by kernel_rfl) Tryz.func173 rfl rfl rfl fun G w a h0 A => M hX 9 A rfl rfl fun A => C9 [] (isSize_ s1) A rfl fun A => M hX 3 A rfl rfl fun A => fork 10 A rfl
  (fun h1 A => M hX 7 A rfl rfl fun A => R9 A rfl h0 rfl (by simp only [oneS, nb, nbL, nbH, bplace0, if_pos h1]) rfl)
  (fun h1 A => M hX 22 A rfl rfl fun A => R9 A rfl h0 rfl (by simp only [oneS, nb, nbL, nbH, bplace0, if_neg (ne_true_of_eq_false h1)]) rfl)
def bmask0 (o1 s1 : Int) : Int := if (!(((((((s1 == 1) || (s1 == 2)) || (s1 == 4)) || (s1 == 8)) && (decide (o1 ≥ 0))) && (decide (o1 ≤ (IntKind.wrap .i64 (8 - s1))))) && ((Int.tmod o1 s1) == 0))) = true then 0 else IntKind.wrap .i64 ((IntKind.wrap .i64 ((IntKind.wrap .i64 (1 * 2 ^ min (s1).toNat (IntKind.bits .i64))) - 1)) * 2 ^ min (o1).toNat (IntKind.bits .i64))
theorem bmask_ (o1 s1 : Int) (hs : s1 = 1 ∨ s1 = 2 ∨ s1 = 4 ∨ s1 = 8) : Fn Tryz.prog 174 [.int .i64 o1, .int .i64 s1] [] (Rt (.int .i64 (bmask0 o1 s1)) []) :=
 enterM (n := 14) (by kernel_rfl) Tryz.func174 rfl rfl rfl fun G w a h0 A => M hX 10 A rfl rfl fun A => C9 [] (bfits_ o1 s1) A rfl fun A => M hX 3 A rfl rfl fun A => fork 8 A rfl
  (fun h1 A => M hX 7 A rfl rfl fun A => R9 A rfl h0 rfl (by simp only [oneS, nb, nbL, nbH, bmask0, if_pos h1]) rfl)
  (fun h1 A => M hX 14 A rfl (ok_d (by have := okM h1; omega) <| ok_d (by have := okM h1; omega) <| okE_nil) fun A => R9 A rfl h0 rfl (by simp only [oneS, nb, nbL, nbH, bmask0, if_neg (ne_true_of_eq_false h1)]) rfl)
def bget0 (v1 s1 : Int) : Int := if (!(((((((s1 == 1) || (s1 == 2)) || (s1 == 4)) || (s1 == 8)) && (decide ((0 : Int) ≥ 0))) && (decide (0 ≤ (IntKind.wrap .i64 (8 - s1))))) && ((Int.tmod 0 s1) == 0))) = true then 0 else IntKind.wrap .i64 ((((BitVec.ofInt (IntKind.bits .i64) (Int.fdiv v1 (2 ^ min ((IntKind.wrap .i64 (8 * 0))).toNat (IntKind.bits .i64)))) &&& (BitVec.ofInt (IntKind.bits .i64) (IntKind.wrap .i64 ((IntKind.wrap .i64 (1 * 2 ^ min ((IntKind.wrap .i64 (8 * s1))).toNat (IntKind.bits .i64))) - 1)))).toNat : Nat) : Int)
theorem bget_ (v1 s1 : Int) (hs : s1 = 1 ∨ s1 = 2 ∨ s1 = 4 ∨ s1 = 8) : Fn Tryz.prog 130 [.int .i64 v1, .z9, .int .i64 s1] [] (Rt (.int .i64 (bget0 v1 s1)) []) :=
 enterM (n := 18) (by kernel_rfl) Tryz.func130 rfl rfl rfl fun G w a h0 A => M hX 10 A rfl rfl fun A => C9 [] (bfits_ 0 s1) A rfl fun A => M hX 3 A rfl rfl fun A => fork 10 A rfl
  (fun h1 A => M hX 7 A rfl rfl fun A => R9 A rfl h0 rfl (by simp only [oneS, nb, nbL, nbH, bget0, if_pos h1]) rfl)
  (fun h1 A => M hX 4 A rfl rfl fun A => DRAW hX hmo [(5, .int .i64 (IntKind.wrap .i64 ((IntKind.wrap .i64 (1 * 2 ^ min ((IntKind.wrap .i64 (8 * s1))).toNat (IntKind.bits .i64))) - 1)))] [] A rfl (ok_d (by first | decide | omega) <| okE_nil) rfl rfl (by kernel_rfl) (effAll_nil _ _) ⟨.inl ⟨_, _, rfl, rfl, blow_ s1 hs⟩, trivial⟩ fun A => M hX 2 A rfl rfl fun A => R9 A rfl h0 rfl (by simp only [oneS, nb, nbL, nbH, bget0, if_neg (ne_true_of_eq_false h1)]) rfl)
def balu0 (fn a1 b1 : Int) : Int := if fn = 1 then IntKind.wrap .i64 (a1 + b1) else if fn = 2 then IntKind.wrap .i64 (a1 - b1) else if fn = 3 then IntKind.wrap .i64 ((((BitVec.ofInt (IntKind.bits .i64) a1) ^^^ (BitVec.ofInt (IntKind.bits .i64) b1)).toNat : Nat) : Int) else if fn = 4 then IntKind.wrap .i64 ((((BitVec.ofInt (IntKind.bits .i64) a1) &&& (BitVec.ofInt (IntKind.bits .i64) b1)).toNat : Nat) : Int) else if fn = 5 then IntKind.wrap .i64 ((((BitVec.ofInt (IntKind.bits .i64) a1) ||| (BitVec.ofInt (IntKind.bits .i64) b1)).toNat : Nat) : Int) else 0
theorem balu_ (fn a1 b1 : Int)  : Fn Tryz.prog 169 [.int .i64 fn, .int .i64 a1, .int .i64 b1] [] (Rt (.int .i64 (balu0 fn a1 b1)) []) :=
 enterM (n := 33) (by kernel_rfl) Tryz.func169 rfl rfl rfl fun G w a h0 A => M hX 18 A rfl rfl fun A => forkE 8 A rfl
  (fun h1 A => M hX 10 A rfl rfl fun A => R9 A rfl h0 rfl (by simp only [oneS, nb, nbL, nbH, balu0, if_pos h1]) rfl)
  (fun h1 A => M hX 7 A rfl rfl fun A => forkE 13 A rfl
   (fun h2 A => M hX 10 A rfl rfl fun A => R9 A rfl h0 rfl (by simp only [oneS, nb, nbL, nbH, balu0, if_neg (h1), if_pos h2]) rfl)
   (fun h2 A => M hX 7 A rfl rfl fun A => forkE 18 A rfl
    (fun h3 A => M hX 10 A rfl rfl fun A => R9 A rfl h0 rfl (by simp only [oneS, nb, nbL, nbH, balu0, if_neg (h1), if_neg (h2), if_pos h3]) rfl)
    (fun h3 A => M hX 7 A rfl rfl fun A => forkE 23 A rfl
     (fun h4 A => M hX 10 A rfl rfl fun A => R9 A rfl h0 rfl (by simp only [oneS, nb, nbL, nbH, balu0, if_neg (h1), if_neg (h2), if_neg (h3), if_pos h4]) rfl)
     (fun h4 A => M hX 7 A rfl rfl fun A => forkE 28 A rfl
      (fun h5 A => M hX 10 A rfl rfl fun A => R9 A rfl h0 rfl (by simp only [oneS, nb, nbL, nbH, balu0, if_neg (h1), if_neg (h2), if_neg (h3), if_neg (h4), if_pos h5]) rfl)
      (fun h5 A => M hX 10 A rfl rfl fun A => R9 A rfl h0 rfl (by simp only [oneS, nb, nbL, nbH, balu0, if_neg (h1), if_neg (h2), if_neg (h3), if_neg (h4), if_neg (h5)]) rfl)))))
abbrev CdAt (ao : Option Addr) (l : List In) : Amb := LstAt ao 17 l.length (fun zz => insS (l.getD zz In.z))
def rgO (r : Rg) (g o1 : Int) : Int := if g = -1 then o1 else r g.toNat
theorem regOr_ (l : List In) (ao : Option Addr) (cp : Nat) (at_ : Int) (r : Rg) (g o1 : Int) (hg : -1 ≤ g ∧ g < 8) : Fn Tryz.prog 170 [.ptr 0 0, .int .i64 g, .int .i64 o1] [some (.blk (rQ9 (.sla ao l.length cp) at_ r))] (Rt (.int .i64 (rgO r g o1)) [some (.blk (rQ9 (.sla ao l.length cp) at_ r))]) :=
 enterM (n := 16) (by kernel_rfl) Tryz.func170 rfl rfl rfl fun G w a h0 A => N9 12 A rfl rfl fun A => forkE 8 A rfl
  (fun h1 A => N9 8 A rfl rfl fun A => R9 A rfl h0 rfl (by unfold rgO; rw [if_pos h1] <;> rfl) rfl)
  (fun h1 A => N9 10 A rfl (ok_d (by omega) <| okE_nil) fun A => q_eff A rfl (ldnE (r := r) hX rfl rfl rfl rfl rfl rfl rfl (by omega)) fun A => N9 4 A rfl rfl fun A => R9 A rfl h0 rfl (by unfold rgO; rw [if_neg h1] <;> rfl) rfl)
theorem ready_ (l : List In) (ao : Option Addr) (cp : Nat) (at_ : Int) (r : Rg) (hat : 0 ≤ at_ ∧ at_ ≤ ((l.length : Nat) : Int)) : FnI (CdAt ao l) Tryz.prog 104 [.ptr 0 0] [some (.blk (rQ9 (.sla ao l.length cp) at_ r))] (Rt (.tup [.agg (inQ9 (l.getD (at_).toNat In.z)), .bool (!(at_ == ((l.length : Nat) : Int)))]) [some (.blk (rQ9 (.sla ao l.length cp) at_ r))]) :=
 enterI (n := 25) (by kernel_rfl) Tryz.func104 rfl rfl rfl fun G w a h0 hI A => N9 8 A rfl rfl fun A => DRAWN hX hmo [] [] A rfl rfl rfl rfl (by kernel_rfl) (effAll_nil _ _) trivial fun A => N9 1 A rfl rfl fun A => forkE 13 A rfl
  (fun h1 A => N9 9 A rfl rfl fun A => R9 A rfl h0 rfl (by rw [h1, Int.toNat_natCast, List.getD_eq_getElem?_getD, List.getElem?_eq_none (Nat.le_refl _), beq_self_eq_true]; rfl) rfl)
  (fun h1 A => N9 4 A rfl rfl fun A => ANY hmo [.ptr 0 0, .ptr 0 0, .ptr 0 0, .sla ao l.length cp, .ptr 0 0, .ptr 0 0, .ptr 0 1, .int .i64 at_, .v (.pointer (adJ ao 17 at_)), .agg (inQ9 (l.getD (at_).toNat In.z)), .tup [], .tt] [10] [] 0 [([], [], [some (.blk (rQ9 (.sla ao l.length cp) at_ r)), some (.blk [.z9, .z9, .z9, .z9, .z9, .z9, .z9, .z9, .z9, .z9, .ff, .ff, .ff, .z9, .z9, .z9, .ff])]), ([10], [], [some (.blk (rQ9 (.sla ao l.length cp) at_ r)), some (.blk (inQ9 (l.getD (at_).toNat In.z)))])] [[true, true, true, true, true, true, true, true, true, true, true, false], [false, false, false, false, false, false, false, false, false, false, false, true]] A rfl rfl rfl rfl (by kernel_rfl) rfl (by kernel_rfl) ⟨⟨oV9 0 rfl rfl, ⟨oV9 0 rfl rfl, ⟨oV9 0 rfl rfl, ⟨oV9 0 rfl rfl, ⟨oV9 0 rfl rfl, ⟨oV9 0 rfl rfl, ⟨oV9 0 rfl rfl, ⟨oV9 0 rfl rfl, ⟨oE9 0 rfl (ixcE (e := 63) rfl rfl rfl rfl hI (by kernel_rfl) (by omega)), ⟨oE9 0 rfl (ldcE (insS (l.getD (at_).toNat In.z)) hX rfl rfl rfl hI (by omega) rfl rfl), ⟨oE9 1 rfl (eff_auto (X := ⟨_, true⟩) (out := .upd 1 (inQ9 (l.getD (at_).toNat In.z)) _) hX rfl rfl), trivial⟩⟩⟩⟩⟩⟩⟩⟩⟩⟩⟩, ⟨⟨oV9 1 rfl rfl, trivial⟩, trivial⟩⟩ fun A => N9 2 A rfl rfl fun A => R9 A rfl h0 rfl (by rw [beq_eq_false_iff_ne.2 h1]; rfl) rfl)
end Go.Proofs.YtbbdanhpphlbpaaGreatDoor.Mc
namespace Go.Proofs.YtbbdanhpphlbpaaGreatDoor.Mc
open Go.RowKit
set_option linter.unusedVariables false
set_option linter.unusedSimpArgs false
set_option maxRecDepth 100000
def sndI (i : In) : Bool := sound0 i.op i.dst i.ra i.rb i.imm i.loc i.off i.ix i.sz i.fn i.acq i.weak i.rel i.pred i.succ i.to_ i.zero
def accI (i : In) : Bool := isAccess0 i.op i.dst i.ra i.rb i.imm i.loc i.off i.ix i.sz i.fn i.acq i.weak i.rel i.pred i.succ i.to_ i.zero
theorem right_sound {i : In} {a n : Int} (h : R17 i a n = 0) : sndI i = true ∧ (i.op = 9 → a < i.to_ ∧ i.to_ ≤ n) := by
 unfold R17 Right0 at h
 split at h
 ·omega
 ·next h1 =>
  split at h
  ·omega
  ·next h2 =>
   refine ⟨?_, fun h9 => ?_⟩
   ·cases hs : sndI i with
    | true => rfl
    | false => unfold sndI at hs; rw [hs] at h1; simp at h1
   ·rw [h9] at h2
    simp at h2
    omega
structure Snd (i : In) : Prop where
 op : 1 ≤ i.op ∧ i.op ≤ 9
 d : (i.op = 1 ∨ i.op = 2 ∨ i.op = 3 ∨ i.op = 4 ∨ i.op = 6) → 0 ≤ i.dst ∧ i.dst < 8
 a : (i.op = 2 ∨ i.op = 3 ∨ i.op = 6 ∨ i.op = 9) → 0 ≤ i.ra ∧ i.ra < 8
 a5 : i.op = 5 → -1 ≤ i.ra ∧ i.ra < 8
 b : i.op = 3 → -1 ≤ i.rb ∧ i.rb < 8
 x : (i.op = 4 ∨ i.op = 5 ∨ i.op = 6) → -1 ≤ i.ix ∧ i.ix < 8
theorem rn_of {r : Int} (h : isRegOrNone0 r = true) : -1 ≤ r ∧ r < 8 := by
 unfold isRegOrNone0 at h
 split at h
 ·omega
 ·simp at h; omega
theorem acc_of {i : In} (h : accI i = true) : -1 ≤ i.ix ∧ i.ix < 8 := by
 unfold accI isAccess0 at h
 split at h
 ·split at h
  ·split at h
   ·next h1 => exact rn_of h1
   ·cases h
  ·cases h
 ·cases h
theorem snd_of {i : In} (h : sndI i = true) : Snd i := by
 unfold sndI sound0 at h
 by_cases h1 : i.op = 1
 ·rw [if_pos h1] at h; simp at h
  exact ⟨by omega, fun _ => by omega, fun h => by omega, fun h => by omega, fun h => by omega, fun h => by omega⟩
 rw [if_neg h1] at h
 by_cases h2 : i.op = 2
 ·rw [if_pos h2] at h
  split at h
  ·next q => simp at h q; exact ⟨by omega, fun _ => by omega, fun _ => by omega, fun h => by omega, fun h => by omega, fun h => by omega⟩
  ·cases h
 rw [if_neg h2] at h
 by_cases h3 : i.op = 3
 ·rw [if_pos h3] at h
  split at h
  ·next q =>
   split at h
   ·next q2 => simp at h q q2; have := rn_of h.1.1; exact ⟨by omega, fun _ => by omega, fun _ => by omega, fun h => by omega, fun _ => by omega, fun h => by omega⟩
   ·cases h
  ·cases h
 rw [if_neg h3] at h
 by_cases h4 : i.op = 4
 ·rw [if_pos h4] at h
  split at h
  ·next q => rw [Bool.and_eq_true] at h; simp at q; have := acc_of h.1; exact ⟨by omega, fun _ => by omega, fun h => by omega, fun h => by omega, fun h => by omega, fun _ => by omega⟩
  ·cases h
 rw [if_neg h4] at h
 by_cases h5 : i.op = 5
 ·rw [if_pos h5] at h
  split at h
  ·next q => have := rn_of q; have := acc_of h; exact ⟨by omega, fun h => by omega, fun h => by omega, fun _ => by omega, fun h => by omega, fun _ => by omega⟩
  ·cases h
 rw [if_neg h5] at h
 by_cases h6 : i.op = 6
 ·rw [if_pos h6] at h
  split at h
  ·next q =>
   split at h
   ·next q2 => rw [Bool.and_eq_true] at h; simp at q q2; have := acc_of h.1; exact ⟨by omega, fun _ => by omega, fun _ => by omega, fun h => by omega, fun h => by omega, fun _ => by omega⟩
   ·cases h
  ·cases h
 rw [if_neg h6] at h
 by_cases h7 : i.op = 7
 ·exact ⟨by omega, fun h => by omega, fun h => by omega, fun h => by omega, fun h => by omega, fun h => by omega⟩
 rw [if_neg h7] at h
 by_cases h8 : i.op = 8
 ·exact ⟨by omega, fun h => by omega, fun h => by omega, fun h => by omega, fun h => by omega, fun h => by omega⟩
 rw [if_neg h8] at h
 by_cases h9 : i.op = 9
 ·rw [if_pos h9] at h; simp at h
  exact ⟨by omega, fun h => by omega, fun _ => by omega, fun h => by omega, fun h => by omega, fun h => by omega⟩
 rw [if_neg h9] at h
 cases h
theorem sz_of {i : In} (h : accI i = true) : i.sz = 1 ∨ i.sz = 2 ∨ i.sz = 4 ∨ i.sz = 8 := by
 unfold accI isAccess0 at h
 split at h
 ·split at h
  ·split at h
   ·unfold bMask0 at h
    split at h
    ·cases h
    ·next h1 =>
     rw [Bool.not_eq_true, Bool.not_eq_false', Bool.and_eq_true, Bool.and_eq_true, Bool.and_eq_true, Bool.or_eq_true, Bool.or_eq_true, Bool.or_eq_true] at h1
     simp only [beq_iff_eq] at h1
     rcases h1.1.1.1 with ((h | h) | h) | h
     ·exact .inl h
     ·exact .inr (.inl h)
     ·exact .inr (.inr (.inl h))
     ·exact .inr (.inr (.inr h))
   ·cases h
  ·cases h
 ·cases h
theorem szs_of {i : In} (h : sndI i = true) (ho : i.op = 4 ∨ i.op = 5 ∨ i.op = 6) : i.sz = 1 ∨ i.sz = 2 ∨ i.sz = 4 ∨ i.sz = 8 := by
 unfold sndI sound0 at h
 rw [if_neg (by omega), if_neg (by omega), if_neg (by omega)] at h
 rcases ho with ho | ho | ho
 ·rw [if_pos ho] at h
  split at h
  ·rw [Bool.and_eq_true] at h; exact sz_of h.1
  ·cases h
 ·rw [if_neg (by omega), if_pos ho] at h
  split at h
  ·exact sz_of h
  ·cases h
 ·rw [if_neg (by omega), if_neg (by omega), if_pos ho] at h
  split at h
  ·split at h
   ·rw [Bool.and_eq_true] at h; exact sz_of h.1
   ·cases h
  ·cases h
structure RCd (l : List In) : Prop where
 n : l.length ≤ 8
 r : ∀ k, k < l.length → R17 (l.getD k In.z) (k : Int) ((l.length : Nat) : Int) = 0
theorem RCd.snd {l : List In} (h : RCd l) {k : Nat} (hk : k < l.length) : Snd (l.getD k In.z) := snd_of (right_sound (h.r k hk)).1
theorem RCd.brs {l : List In} (h : RCd l) {k : Nat} (hk : k < l.length) (h9 : (l.getD k In.z).op = 9) : (k : Int) < (l.getD k In.z).to_ ∧ (l.getD k In.z).to_ ≤ ((l.length : Nat) : Int) := (right_sound (h.r k hk)).2 h9
theorem RCd.szs {l : List In} (h : RCd l) {k : Nat} (hk : k < l.length) (ho : (l.getD k In.z).op = 4 ∨ (l.getD k In.z).op = 5 ∨ (l.getD k In.z).op = 6) : (l.getD k In.z).sz = 1 ∨ (l.getD k In.z).sz = 2 ∨ (l.getD k In.z).sz = 4 ∨ (l.getD k In.z).sz = 8 := szs_of (right_sound (h.r k hk)).1 ho
theorem rcd_of {cs : List Cde} (h : ckE cs = 0) : (1 ≤ cs.length ∧ cs.length ≤ 3) ∧ ∀ c ∈ cs, RCd c.l := by
 unfold ckE at h
 split at h
 ·omega
 ·next h0 =>
  simp at h0
  refine ⟨by omega, ?_⟩
  cases h1 : bad1 cs with
  | some k => rw [h1] at h; simp at h
  | none =>
   rw [h1] at h
   have hb1 := bad1_le h1
   cases h2 : bad2 cs with
   | some k =>
    rw [h2] at h
    exfalso
    unfold bad2 at h2
    have h3 := List.find?_some h2
    cases h4 : badC (cs.getD k Cde.z) with
    | none => rw [h4] at h3; cases h3
    | some q =>
     simp only [h4, Option.getD_some] at h
     unfold badC at h4
     have h5 := List.find?_some h4
     rw [h] at h5
     cases h5
   | none =>
    intro c hc
    refine ⟨hb1 c hc, fun k hk => ?_⟩
    obtain ⟨j, hj⟩ := List.getElem?_of_mem hc
    have hl := (List.getElem?_eq_some_iff.1 hj).1
    unfold bad2 at h2
    rw [List.find?_eq_none] at h2
    have h3 := h2 j (List.mem_range.2 hl)
    rw [List.getD_eq_getElem?_getD, hj] at h3
    simp only [Option.getD_some] at h3
    cases h4 : badC c with
    | some q => rw [h4] at h3; exact absurd rfl h3
    | none =>
     unfold badC at h4
     rw [List.find?_eq_none] at h4
     have h5 := h4 k (List.mem_range.2 hk)
     simpa using h5
def cpA (at_ : Int) (r : Rg) (i : In) : Int := if i.op = 9 then (if (r i.ra.toNat == 0) = i.zero then i.to_ else at_ + 1) else at_ + 1
def cpR (r : Rg) (i : In) : Rg := if i.op = 1 then updR r i.dst.toNat i.imm else if i.op = 2 then updR r i.dst.toNat (r i.ra.toNat) else if i.op = 3 then updR r i.dst.toNat (balu0 i.fn (r i.ra.toNat) (rgO r i.rb i.imm)) else r
def stpI (i : In) : Bool := (i.op == 4) || (i.op == 5) || (i.op == 6) || (i.op == 7) || (i.op == 8)
structure Th where (at_ : Nat) (r : Rg)
def setF (l : List In) : Nat → Th → Th
 | 0, s => s
 | f + 1, s => if s.at_ < l.length ∧ stpI (l.getD s.at_ In.z) = false then setF l f ⟨(cpA (s.at_ : Int) s.r (l.getD s.at_ In.z)).toNat, cpR s.r (l.getD s.at_ In.z)⟩ else s
def setl (l : List In) (s : Th) : Th := setF l l.length s
def nxT (l : List In) (z : Th) : Th := ⟨(cpA ((z.at_ : Nat) : Int) z.r (l.getD ((z.at_ : Nat) : Int).toNat In.z)).toNat, cpR z.r (l.getD ((z.at_ : Nat) : Int).toNat In.z)⟩
theorem cpA_rng {l : List In} {z : Th} (hc : RCd l) (h1 : z.at_ < l.length) : (z.at_ : Int) < cpA ((z.at_ : Nat) : Int) z.r (l.getD z.at_ In.z) ∧ cpA ((z.at_ : Nat) : Int) z.r (l.getD z.at_ In.z) ≤ ((l.length : Nat) : Int) := by
 unfold cpA
 split
 ·next h9 =>
  have := hc.brs h1 h9
  split <;> omega
 ·omega
structure SI (l : List In) (s z : Th) : Prop where
 le : z.at_ ≤ l.length
 eq : ∃ f, l.length - z.at_ ≤ f ∧ setF l f z = setl l s
theorem SI.i0 {l : List In} {s : Th} (h : s.at_ ≤ l.length) : SI l s s := ⟨h, l.length, Nat.sub_le _ _, rfl⟩
theorem SI.nx {l : List In} {s z : Th} (h : SI l s z) (hc : RCd l) (h1 : ((z.at_ : Nat) : Int) ≠ ((l.length : Nat) : Int)) (h2 : (!(stpI (l.getD ((z.at_ : Nat) : Int).toNat In.z))) = true) : SI l s (nxT l z) ∧ l.length - (nxT l z).at_ < l.length - z.at_ := by
 have hlt : z.at_ < l.length := by have := h.le; omega
 have hr := cpA_rng (z := z) hc hlt
 have e : (nxT l z).at_ = (cpA ((z.at_ : Nat) : Int) z.r (l.getD z.at_ In.z)).toNat := rfl
 have hb : z.at_ < (nxT l z).at_ ∧ (nxT l z).at_ ≤ l.length := by rw [e]; omega
 have hst : stpI (l.getD z.at_ In.z) = false := by
  have : stpI (l.getD ((z.at_ : Nat) : Int).toNat In.z) = false := by simpa using h2
  exact this
 obtain ⟨f, hf, he⟩ := h.eq
 refine ⟨⟨hb.2, ?_⟩, by omega⟩
 cases f with
 | zero => omega
 | succ f =>
  refine ⟨f, by omega, ?_⟩
  rw [← he]
  show _ = setF l (f + 1) z
  rw [setF, if_pos ⟨hlt, hst⟩]
  rfl
theorem setF_stop {l : List In} {z : Th} (h : ¬ (z.at_ < l.length ∧ stpI (l.getD z.at_ In.z) = false)) : ∀ f, setF l f z = z
 | 0 => rfl
 | f + 1 => by rw [setF, if_neg h]
theorem SI.fin {l : List In} {s z : Th} (h : SI l s z) (hn : ¬ (z.at_ < l.length ∧ stpI (l.getD z.at_ In.z) = false)) : setl l s = z := by
 obtain ⟨f, _, he⟩ := h.eq
 rw [← he, setF_stop hn]
theorem SI.f1 {l : List In} {s z : Th} (h : SI l s z) (h1 : ((z.at_ : Nat) : Int) = ((l.length : Nat) : Int)) : setl l s = z := h.fin (by omega)
theorem SI.f2 {l : List In} {s z : Th} (h : SI l s z) (h2 : (!(stpI (l.getD ((z.at_ : Nat) : Int).toNat In.z))) = false) : setl l s = z := h.fin (fun q => by
 have e : stpI (l.getD ((z.at_ : Nat) : Int).toNat In.z) = false := q.2
 rw [e] at h2; cases h2)
theorem setF_le {l : List In} (hc : RCd l) : ∀ f s, s.at_ ≤ l.length → (setF l f s).at_ ≤ l.length
 | 0, s, h => h
 | f + 1, s, h => by
  rw [setF]
  split
  ·next q =>
   have hr := cpA_rng (z := s) hc q.1
   exact setF_le hc f _ (by show (cpA _ _ _).toNat ≤ _; omega)
  ·exact h
theorem setl_le {l : List In} (hc : RCd l) {s : Th} (h : s.at_ ≤ l.length) : (setl l s).at_ ≤ l.length := setF_le hc _ s h
def paR (r : Rg) (i : In) (old : Int) : Rg := if ((i.op == 4) || (i.op == 6)) = true then updR r i.dst.toNat (bget0 old i.sz) else r
def paT (l : List In) (s : Th) (old : Int) : Th := if s.at_ = l.length then s else setl l ⟨s.at_ + 1, paR s.r (l.getD s.at_ In.z) old⟩
theorem paT_le {l : List In} (hc : RCd l) {s : Th} (h : s.at_ ≤ l.length) (old : Int) : (paT l s old).at_ ≤ l.length := by
 unfold paT
 split
 ·exact h
 ·exact setl_le hc (by show s.at_ + 1 ≤ _; omega)
def mopI (i : In) : Bool := (i.op == 4) || (i.op == 5) || (i.op == 6)
def spL (i : In) : Int := if mopI i = true then i.loc else 0
def spM (r : Rg) (i : In) : Int := if mopI i = true then bmask0 (bplace0 i.off (rgO r i.ix 0) i.sz) i.sz else 0
def spD (r : Rg) (i : In) : Int := if mopI i = true then (if i.op = 5 then bget0 (rgO r i.ra i.imm) i.sz else if i.op = 6 then r i.ra.toNat else 0) else 0
end Go.Proofs.YtbbdanhpphlbpaaGreatDoor.Mc
namespace Go.Proofs.YtbbdanhpphlbpaaGreatDoor.Mc
open Go.RowKit
set_option linter.unusedVariables false
set_option linter.unusedSimpArgs false
set_option maxRecDepth 100000
set_option maxHeartbeats 2000000
set_option simprocs false
theorem mop_ (i : In)  : Fn Tryz.prog 168 [.agg (inQ9 i)] [] (Rt (.bool (mopI i)) []) :=
 enterM (n := 9) (by kernel_rfl) Tryz.func168 rfl rfl rfl fun G w a h0 A => N9 9 A rfl rfl fun A => C9 [] (Reads_ i.op i.dst i.ra i.rb i.imm i.loc i.off i.ix i.sz i.fn i.acq i.weak i.rel i.pred i.succ i.to_ i.zero) A rfl fun A => N9 1 A rfl rfl fun A => fork 5 A rfl
  (fun h1 A => N9 7 A rfl rfl fun A => R9 A rfl h0 rfl (by rw [show mopI i = true from (by revert h1; simp only [mopI, stpI] <;> (cases (i.op == 4) <;> cases (i.op == 5) <;> cases (i.op == 6) <;> cases (i.op == 7) <;> cases (i.op == 8) <;> first | rfl | simp))]; rfl) rfl)
  (fun h1 A => N9 1 A rfl rfl fun A => C9 [] (Writes_ i.op i.dst i.ra i.rb i.imm i.loc i.off i.ix i.sz i.fn i.acq i.weak i.rel i.pred i.succ i.to_ i.zero) A rfl fun A => N9 5 A rfl rfl fun A => R9 A rfl h0 rfl (congrArg SV.bool (by revert h1; simp only [mopI, stpI] <;> (cases (i.op == 4) <;> cases (i.op == 5) <;> cases (i.op == 6) <;> cases (i.op == 7) <;> cases (i.op == 8) <;> first | rfl | simp))) rfl)
theorem stops_ (i : In)  : Fn Tryz.prog 127 [.agg (inQ9 i)] [] (Rt (.bool (stpI i)) []) :=
 enterM (n := 15) (by kernel_rfl) Tryz.func127 rfl rfl rfl fun G w a h0 A => N9 9 A rfl rfl fun A => C9 [] (mop_ i) A rfl fun A => N9 14 A rfl rfl fun A => R9 A rfl h0 rfl (congrArg SV.bool (by simp only [mopI, stpI] <;> (cases (i.op == 4) <;> cases (i.op == 5) <;> cases (i.op == 6) <;> cases (i.op == 7) <;> cases (i.op == 8) <;> first | rfl | simp))) rfl
theorem compute_ (l : List In) (ao : Option Addr) (cp : Nat) (at_ : Int) (r : Rg) (i : In) (hat : 0 ≤ at_ ∧ at_ ≤ 1000) (hd : i.op = 1 ∨ i.op = 2 ∨ i.op = 3 → 0 ≤ i.dst ∧ i.dst < 8) (ha : i.op = 2 ∨ i.op = 3 ∨ i.op = 9 → 0 ≤ i.ra ∧ i.ra < 8) (hb : i.op = 3 → -1 ≤ i.rb ∧ i.rb < 8) : Fn Tryz.prog 128 [.ptr 0 0, .agg (inQ9 i)] [some (.blk (rQ9 (.sla ao l.length cp) at_ r))] (Rt (.tup []) [some (.blk (rQ9 (.sla ao l.length cp) (cpA at_ r i) (cpR r i)))]) :=
 enterM (n := 80) (by kernel_rfl) Tryz.func128 rfl rfl rfl fun G w a h0 A => N9 18 A rfl (ok_d (by omega) <| okE_nil) fun A => N9 12 A rfl rfl fun A => forkE 13 A rfl
  (fun h1 A => N9 1 A rfl rfl fun A => DRAWN hX hmo [] [(8, .tup [], [some (.blk (rQ9 (.sla ao l.length cp) (at_ + 1) (updR r (i.dst).toNat i.imm))), some (.blk (inQ9 i))])] A rfl (ok_d (by omega) <| okE_nil) rfl rfl (by kernel_rfl) ⟨stnE (i := 0) (r := r) hX rfl rfl rfl rfl rfl rfl rfl rfl (by first | exact hd (by omega) | exact ha (by omega) | exact hb (by omega)), trivial⟩ trivial fun A => N9 1 A rfl rfl fun A => ENDN (R9 A rfl h0 rfl rfl (by have e1 : cpA at_ r i = _ := (by unfold cpA; rw [if_neg (by omega)] <;> rfl); have e2 : cpR r i = _ := (by unfold cpR; rw [if_pos h1] <;> rfl); rw [e1, e2] <;> rfl)))
  (fun h1 A => N9 7 A rfl rfl fun A => forkE 23 A rfl
   (fun h2 A => N9 1 A rfl rfl fun A => ANY hmo [.ptr 0 0, .ptr 1 1, .int .i64 i.dst, .ptr 0 0, .ptr 1 2, .int .i64 i.ra, .ptr 0 0, .ptr 0 2, .ix (.ptr 0 2) 1 8 i.ra 0, .int .i64 (r (i.ra).toNat), .ptr 0 0, .ptr 0 2, .ix (.ptr 0 2) 1 8 i.dst 0, .tup []] [13] [] 0 [([], [], [some (.blk (rQ9 (.sla ao l.length cp) (at_ + 1) r)), some (.blk (inQ9 i))]), ([13], [], [some (.blk (rQ9 (.sla ao l.length cp) (at_ + 1) (updR r (i.dst).toNat (r (i.ra).toNat)))), some (.blk (inQ9 i))])] [[true, true, true, true, true, true, true, true, true, true, true, true, true, true], [false, false, false, false, false, false, false, false, false, false, true, true, false, false]] A rfl rfl rfl rfl (by kernel_rfl) rfl (by kernel_rfl) ⟨⟨oV9 0 rfl rfl, ⟨oV9 0 rfl rfl, ⟨oV9 0 rfl rfl, ⟨oV9 0 rfl rfl, ⟨oV9 0 rfl rfl, ⟨oV9 0 rfl rfl, ⟨oV9 0 rfl rfl, ⟨oV9 0 rfl rfl, ⟨oV9 0 rfl (ok_d (by omega) <| okE_nil), ⟨oE9 0 rfl (ldnE (r := r) hX rfl rfl rfl rfl rfl rfl rfl (by first | exact hd (by omega) | exact ha (by omega) | exact hb (by omega))), ⟨oV9 0 rfl rfl, ⟨oV9 0 rfl rfl, ⟨oV9 0 rfl (ok_d (by omega) <| okE_nil), ⟨oE9 1 rfl (stnE (i := 0) (r := r) hX rfl rfl rfl rfl rfl rfl rfl rfl (by first | exact hd (by omega) | exact ha (by omega) | exact hb (by omega))), trivial⟩⟩⟩⟩⟩⟩⟩⟩⟩⟩⟩⟩⟩⟩, ⟨⟨oV9 1 rfl rfl, ⟨oV9 1 rfl rfl, trivial⟩⟩, trivial⟩⟩ fun A => N9 1 A rfl rfl fun A => ENDN (R9 A rfl h0 rfl rfl (by have e1 : cpA at_ r i = _ := (by unfold cpA; rw [if_neg (by omega)] <;> rfl); have e2 : cpR r i = _ := (by unfold cpR; rw [if_neg (by omega), if_pos h2] <;> rfl); rw [e1, e2] <;> rfl)))
   (fun h2 A => N9 7 A rfl rfl fun A => forkE 38 A rfl
    (fun h3 A => N9 1 A rfl rfl fun A => ANY hmo [.ptr 0 0, .ptr 1 1, .int .i64 i.dst, .ptr 1 9, .int .i64 i.fn, .ptr 0 0, .ptr 1 2, .int .i64 i.ra, .ptr 0 0, .ptr 0 2, .ix (.ptr 0 2) 1 8 i.ra 0, .int .i64 (r (i.ra).toNat), .ptr 0 0, .ptr 1 3, .int .i64 i.rb, .ptr 1 4, .int .i64 i.imm, .int .i64 (rgO r i.rb i.imm), .int .i64 (balu0 i.fn (r (i.ra).toNat) (rgO r i.rb i.imm)), .ptr 0 0, .ptr 0 2, .ix (.ptr 0 2) 1 8 i.dst 0, .tup []] [17, 22] [] 0 [([], [], [some (.blk (rQ9 (.sla ao l.length cp) (at_ + 1) r)), some (.blk (inQ9 i))]), ([17], [], [some (.blk (rQ9 (.sla ao l.length cp) (at_ + 1) r)), some (.blk (inQ9 i))]), ([17, 22], [], [some (.blk (rQ9 (.sla ao l.length cp) (at_ + 1) (updR r (i.dst).toNat (balu0 i.fn (r (i.ra).toNat) (rgO r i.rb i.imm))))), some (.blk (inQ9 i))])] [[true, true, true, true, true, true, true, true, true, true, true, true, true, true, true, true, true, true, false, true, true, false, false], [true, true, true, true, true, true, true, true, true, true, true, true, false, true, false, true, false, false, true, true, true, true, true], [false, false, false, false, false, false, false, false, false, false, false, false, false, false, false, false, false, false, false, true, true, false, false]] A rfl rfl rfl rfl (by kernel_rfl) rfl (by kernel_rfl) ⟨⟨oV9 0 rfl rfl, ⟨oV9 0 rfl rfl, ⟨oV9 0 rfl rfl, ⟨oV9 0 rfl rfl, ⟨oV9 0 rfl rfl, ⟨oV9 0 rfl rfl, ⟨oV9 0 rfl rfl, ⟨oV9 0 rfl rfl, ⟨oV9 0 rfl rfl, ⟨oV9 0 rfl rfl, ⟨oV9 0 rfl (ok_d (by omega) <| okE_nil), ⟨oE9 0 rfl (ldnE (r := r) hX rfl rfl rfl rfl rfl rfl rfl (by first | exact hd (by omega) | exact ha (by omega) | exact hb (by omega))), ⟨oV9 0 rfl rfl, ⟨oV9 0 rfl rfl, ⟨oV9 0 rfl rfl, ⟨oV9 0 rfl rfl, ⟨oV9 0 rfl rfl, ⟨oE9 1 rfl (callE [0] (regOr_ l ao cp (at_ + 1) r i.rb i.imm (by first | exact hd (by omega) | exact ha (by omega) | exact hb (by omega))) rfl rfl rfl rfl rfl rfl rfl), ⟨oV9 0 rfl rfl, ⟨oV9 0 rfl rfl, trivial⟩⟩⟩⟩⟩⟩⟩⟩⟩⟩⟩⟩⟩⟩⟩⟩⟩⟩⟩⟩, ⟨⟨oV9 1 rfl rfl, ⟨oV9 1 rfl rfl, ⟨oV9 1 rfl rfl, ⟨oV9 1 rfl rfl, ⟨oV9 1 rfl rfl, ⟨oV9 1 rfl rfl, ⟨oV9 1 rfl rfl, ⟨oV9 1 rfl rfl, ⟨oV9 1 rfl rfl, ⟨oV9 1 rfl rfl, ⟨oV9 1 rfl (ok_d (by omega) <| okE_nil), ⟨oE9 1 rfl (ldnE (r := r) hX rfl rfl rfl rfl rfl rfl rfl (by first | exact hd (by omega) | exact ha (by omega) | exact hb (by omega))), ⟨oV9 1 rfl rfl, ⟨oV9 1 rfl rfl, ⟨oE9 1 rfl (eff_pure rfl rfl (balu_ i.fn (r (i.ra).toNat) (rgO r i.rb i.imm))), ⟨oV9 1 rfl rfl, ⟨oV9 1 rfl rfl, ⟨oV9 1 rfl (ok_d (by omega) <| okE_nil), ⟨oE9 2 rfl (stnE (i := 0) (r := r) hX rfl rfl rfl rfl rfl rfl rfl rfl (by first | exact hd (by omega) | exact ha (by omega) | exact hb (by omega))), trivial⟩⟩⟩⟩⟩⟩⟩⟩⟩⟩⟩⟩⟩⟩⟩⟩⟩⟩⟩, ⟨⟨oV9 2 rfl rfl, ⟨oV9 2 rfl rfl, trivial⟩⟩, trivial⟩⟩⟩ fun A => N9 1 A rfl rfl fun A => ENDN (R9 A rfl h0 rfl rfl (by have e1 : cpA at_ r i = _ := (by unfold cpA; rw [if_neg (by omega)] <;> rfl); have e2 : cpR r i = _ := (by unfold cpR; rw [if_neg (by omega), if_neg (by omega), if_pos h3] <;> rfl); rw [e1, e2] <;> rfl)))
    (fun h3 A => N9 7 A rfl rfl fun A => forkE 62 A rfl
     (fun h4 A => N9 2 A rfl rfl fun A => ANY hmo [.ptr 0 0, .ptr 1 2, .int .i64 i.ra, .ptr 0 0, .ptr 0 2, .ix (.ptr 0 2) 1 8 i.ra 0, .int .i64 (r (i.ra).toNat), .bool ((r (i.ra).toNat) == 0), .ptr 1 16, .bool i.zero, .bool (((r (i.ra).toNat) == 0) == i.zero)] [] [] 0 [([], [], [some (.blk (rQ9 (.sla ao l.length cp) (at_ + 1) r)), some (.blk (inQ9 i))])] [[true, true, true, true, true, true, true, true, true, true, true]] A rfl rfl rfl rfl (by kernel_rfl) rfl (by kernel_rfl) ⟨⟨oV9 0 rfl rfl, ⟨oV9 0 rfl rfl, ⟨oV9 0 rfl rfl, ⟨oV9 0 rfl rfl, ⟨oV9 0 rfl rfl, ⟨oV9 0 rfl (ok_d (by omega) <| okE_nil), ⟨oE9 0 rfl (ldnE (r := r) hX rfl rfl rfl rfl rfl rfl rfl (by first | exact hd (by omega) | exact ha (by omega) | exact hb (by omega))), ⟨oV9 0 rfl rfl, ⟨oV9 0 rfl rfl, ⟨oV9 0 rfl rfl, ⟨oV9 0 rfl rfl, trivial⟩⟩⟩⟩⟩⟩⟩⟩⟩⟩⟩, trivial⟩ fun A => N9 1 A rfl rfl fun A => forkE 74 A rfl
      (fun h5 A => N9 10 A rfl rfl fun A => ENDN (R9 A rfl h0 rfl rfl (by have e1 : cpA at_ r i = _ := (by unfold cpA; rw [if_pos h4, if_pos h5] <;> rfl); have e2 : cpR r i = _ := (by unfold cpR; rw [if_neg (by omega), if_neg (by omega), if_neg (by omega)] <;> rfl); rw [e1, e2] <;> rfl)))
      (fun h5 A => N9 3 A rfl rfl fun A => ENDN (R9 A rfl h0 rfl rfl (by have e1 : cpA at_ r i = _ := (by unfold cpA; rw [if_pos h4, if_neg h5] <;> rfl); have e2 : cpR r i = _ := (by unfold cpR; rw [if_neg (by omega), if_neg (by omega), if_neg (by omega)] <;> rfl); rw [e1, e2] <;> rfl))))
     (fun h4 A => N9 3 A rfl rfl fun A => ENDN (R9 A rfl h0 rfl rfl (by have e1 : cpA at_ r i = _ := (by unfold cpA; rw [if_neg (by omega)] <;> rfl); have e2 : cpR r i = _ := (by unfold cpR; rw [if_neg (by omega), if_neg (by omega), if_neg (by omega)] <;> rfl); rw [e1, e2] <;> rfl))))))
end Go.Proofs.YtbbdanhpphlbpaaGreatDoor.Mc
namespace Go.Proofs.YtbbdanhpphlbpaaGreatDoor
open Go.RowKit
set_option linter.unusedVariables false
set_option linter.unusedSimpArgs false
set_option linter.unusedSectionVars false
def kp1 (o : Oper) (j : Nat) : List Oper → Nat → Bool
 | [], _ => true
 | q :: r, i => (Nat.beq i j || waits o i || waits q j) && kp1 o j r (i + 1)
def kp2 (l : List Oper) (t : Nat) : List Oper → Nat → Bool
 | [], _ => true
 | o :: r, j => (match o.dst with | some d => !Nat.beq d t || kp1 o j l 0 | none => true) && kp2 l t r (j + 1)
def kpT (l : List Oper) : List (Nat × SV) → Bool
 | [] => true
 | p :: T => kp2 l p.1 l 0 && kpT l T
theorem kp1_spec {o : Oper} {j : Nat} : ∀ {r : List Oper} {k : Nat}, kp1 o j r k = true → ∀ (i : Nat) (q : Oper), r[i]? = some q → k + i ≠ j → waits o (k + i) = true ∨ waits q j = true
 | [], _, _, _, _, h, _ => by cases h
 | p :: r, k, h, i, q, hi, hne => by
  simp only [kp1, Bool.and_eq_true, Bool.or_eq_true] at h
  cases i with
  | zero =>
   cases hi
   rcases h.1 with (h1 | h1) | h1
   ·exact absurd (Nat.eq_of_beq_eq_true h1) (by simpa using hne)
   ·exact .inl (by simpa using h1)
   ·exact .inr h1
  | succ i => rw [show k + (i + 1) = k + 1 + i by omega] at hne ⊢; exact kp1_spec h.2 i q (by simpa using hi) hne
theorem kp2_spec {l : List Oper} {t : Nat} : ∀ {r : List Oper} {k : Nat}, kp2 l t r k = true → ∀ (j : Nat) (o : Oper), r[j]? = some o → o.dst = some t → kp1 o (k + j) l 0 = true
 | [], _, _, _, _, h, _ => by cases h
 | p :: r, k, h, j, o, hj, hd => by
  simp only [kp2, Bool.and_eq_true] at h
  cases j with
  | zero => cases hj; have := h.1; rw [hd] at this; simpa using this
  | succ j => rw [show k + (j + 1) = k + 1 + j by omega]; exact kp2_spec h.2 j o (by simpa using hj) hd
theorem kpT_look {l : List Oper} : ∀ {T : List (Nat × SV)} {t : Nat} {x : SV}, kpT l T = true → look T t = some x → kp2 l t l 0 = true
 | [], _, _, _, h => by cases h
 | (k, y) :: T, t, x, hT, h => by
  simp only [kpT, Bool.and_eq_true] at hT
  unfold look at h
  cases hk : Nat.beq k t with
  | true => have := Nat.eq_of_beq_eq_true hk; subst this; exact hT.1
  | false => rw [hk] at h; exact kpT_look hT.2 h
theorem kp_spec {l : List Oper} {T : List (Nat × SV)} {t : Nat} {x : SV} {j i : Nat} {o q : Oper} (hkp : kpT l T = true) (hx : look T t = some x) (h3 : l[j]? = some o) (h4 : o.dst = some t) (hq : l[i]? = some q) (hne : i ≠ j) : waits o i = true ∨ waits q j = true := by
 have := kp1_spec (kp2_spec (kpT_look hkp hx) j o h3 h4) i q hq (by simpa using hne)
 simpa using this
section
variable {P : Program} {X : Tx} {n : Nat} {ks : List Nat} {G0 : Gr} {w0 : World} {T : List (Nat × SV)} {l : List Oper} {xs : List SV} {Q : Exit → Act → World → Prop} {ef rs0 : List Nat} {tb : List (List Nat × List Nat × Hp)}
theorem ANY2 {id : Nat} {H HE : Hp} {G : Gr} {a : Act} {w : World} {K : List Fr} (hmo : P.follows .mixedOrders = true) (xs : List SV) (ef rs0 : List Nat) (m : Nat) (tb : List (List Nat × List Nat × Hp)) (B : List (List Bool)) (A : Sy n T H ks G0 w0 G a w)
  (h0 : tb[0]? = some ([], rs0, H ++ List.replicate m none)) (hE : endS ef tb = some HE) (hrs : (rs0.all fun r => Nat.ble H.length r) = true) (hef : (ef.all fun p => Nat.blt p l.length) = true) (hB : (tb.map fun s => mayR l.toArray ef s.1 l 0) = B) (hl : xs.length = l.length) (hfit : fitB l.toArray n [] = true)
  (hkp : kpT l T = true) (hO : ObA P n ks G0 w0 T l xs ef tb B tb) (hk : ∀ {G a w}, Sy n (putS l xs T) HE ks G0 w0 G a w → Goal P Q K .norm a w) : Goal P Q K (.code (.region id l.toArray true)) a w := by
 refine wp_region_any hmo ?_
 have hB1 : Ms H ks G0 w0 G w.drew := A.ms.grow (Grow.refl w).drew
 rw [List.all_eq_true] at hrs hef
 refine any_go (P := P) (xs := xs) (T := T) (ef := ef) (rs0 := rs0) (tb := tb) hfit (fun t x hx j o h3 h4 i q hq hne => kp_spec hkp hx h3 h4 hq hne) (fun t x hx r hr => ?_) hl (fun k c rs H hk i o hi hm => ?_) (fun k c rs H' hk' hall G a w A' => ?_) _ _ _ _ 0 [] rs0 _ (G ++ List.replicate m none) (by simp) (by
  refine Nat.le_trans (List.length_filter_le _ _) (by simp)) h0 ⟨A.size, A.defers, fun t x hx _ => den_mono _ x (A.get t x hx), fun j o x _ hj => ?_, Sy.pad (a := a) hB1 m, fun p hp => ?_, fun p hp => absurd hp (by simp), fun r hr => hr, fun j o p _ hj => ?_⟩
 ·have := hrs r hr
  rw [A.mem.len] at this
  exact inS_av (G := G) (Nat.le_of_ble_eq_true this) x (A.get t x hx)
 ·have := obs_at (oba_at (by rw [hB]; exact hO) k c rs H hk) i o hi (by rw [Nat.zero_add]; exact hm)
  rwa [Nat.zero_add] at this
 ·have h2 : (ef.all c.contains) = true := by
   rw [List.all_eq_true]
   intro p hp
   have := hall p hp (by have := hef p hp; simpa [Nat.blt_eq] using this)
   simpa using this
  cases endS_spec hE k c rs H' hk' h2
  exact hk A'
 ·exfalso; simp [Array.getD_eq_getD_getElem?, Array.getElem?_replicate] at hj; split at hj <;> simp at hj
 ·constructor
  ·intro hj; exfalso; simp [Array.getD_eq_getD_getElem?, Array.getElem?_replicate] at hj; split at hj <;> simp at hj
  ·intro hj; cases hj
 ·exfalso; simp [Array.getD_eq_getD_getElem?, Array.getElem?_replicate] at hj; split at hj <;> simp at hj
end
end Go.Proofs.YtbbdanhpphlbpaaGreatDoor
namespace Go.Proofs.YtbbdanhpphlbpaaGreatDoor.Mc
open Go.RowKit
set_option linter.unusedVariables false
set_option linter.unusedSimpArgs false
set_option maxRecDepth 100000
set_option maxHeartbeats 2000000
set_option simprocs false
theorem computeT_ (l : List In) (ao : Option Addr) (cp : Nat) (z : Th) (hc : RCd l) (hle : z.at_ ≤ l.length) (h1 : ((z.at_ : Nat) : Int) ≠ ((l.length : Nat) : Int)) (h2 : (!(stpI (l.getD ((z.at_ : Nat) : Int).toNat In.z))) = true) : Fn Tryz.prog 128 [.ptr 0 0, .agg (insS (l.getD ((z.at_ : Nat) : Int).toNat In.z))] [some (.blk (rQ9 (.sla ao l.length cp) ((z.at_ : Nat) : Int) z.r))] (Rt (.tup []) [some (.blk (rQ9 (.sla ao l.length cp) (((nxT l z).at_ : Nat) : Int) ((nxT l z).r)))]) := by
 have hlt : z.at_ < l.length := by omega
 have hr := cpA_rng (z := z) hc hlt
 have hs := hc.snd hlt
 have hn := hc.n
 have e : cpA ((z.at_ : Nat) : Int) z.r (l.getD ((z.at_ : Nat) : Int).toNat In.z) = (((nxT l z).at_ : Nat) : Int) := by
  show cpA ((z.at_ : Nat) : Int) z.r (l.getD z.at_ In.z) = (((cpA ((z.at_ : Nat) : Int) z.r (l.getD z.at_ In.z)).toNat : Nat) : Int)
  omega
 have h := compute_ l ao cp ((z.at_ : Nat) : Int) z.r (l.getD ((z.at_ : Nat) : Int).toNat In.z) (by omega) (fun q => hs.d (by show _ ∨ _; have q' : (l.getD z.at_ In.z).op = 1 ∨ (l.getD z.at_ In.z).op = 2 ∨ (l.getD z.at_ In.z).op = 3 := q; omega)) (fun q => hs.a (by show _ ∨ _; have q' : (l.getD z.at_ In.z).op = 2 ∨ (l.getD z.at_ In.z).op = 3 ∨ (l.getD z.at_ In.z).op = 9 := q; omega)) (fun q => hs.b q)
 rw [e] at h
 exact h
abbrev gQ9 (l : List In) (s : Th) : In := l.getD (((s.at_ : Nat) : Int)).toNat In.z
theorem settleN_ (l : List In) (ao : Option Addr) (cp : Nat) (s : Th) (hc : RCd l) (hat : s.at_ ≤ l.length) : FnI (CdAt ao l) Tryz.prog 88 [.ptr 0 0] [some (.blk (rQ9 (.sla ao l.length cp) ((s.at_ : Nat) : Int) s.r))] (Rt (.tup []) [some (.blk (rQ9 (.sla ao l.length cp) (((setl l s).at_ : Nat) : Int) ((setl l s).r)))]) :=
 enterI (n := 24) (by kernel_rfl) Tryz.func88 rfl rfl rfl fun G w a h0 hI A => N9 3 A rfl rfl fun A => I9 [0] LstAt.ok hI (ready_ l ao cp ((s.at_ : Nat) : Int) s.r (by omega)) A rfl fun A => N9 9 A rfl rfl fun A => LOOP1 (fun (z : Th) => [(0, .ptr 0 0), (2, .ptr 1 0), (3, .bool (!(((z.at_ : Nat) : Int) == ((l.length : Nat) : Int))))]) (fun (z : Th) => [some (.blk (rQ9 (.sla ao l.length cp) ((z.at_ : Nat) : Int) z.r)), some (.blk (inQ9 (l.getD (((z.at_ : Nat) : Int)).toNat In.z)))]) (fun (z : Th) => SI l s z) (fun (z : Th) => l.length - z.at_) s (SI.i0 hat) ((A.cut [0, 2, 3] rfl).trunc 2 rfl rfl rfl (by simp only [List.length_cons, List.length_nil] at h0; omega)) fun z hJ {G a w} A => N9 5 A rfl rfl fun A => forkN 10 A rfl
   (fun h1 A => N9 1 A rfl rfl fun A => C9 [] (stops_ (l.getD (((z.at_ : Nat) : Int)).toNat In.z)) A rfl fun A => N9 4 A rfl rfl fun A => fork 14 A rfl
    (fun h2 A => N9 8 A rfl rfl fun A => C9 [0] (computeT_ l ao cp z hc hJ.le h1 h2) A rfl fun A => N9 16 A rfl rfl fun A => I9 [0] LstAt.ok hI (ready_ l ao cp (((nxT l z).at_ : Nat) : Int) ((nxT l z).r) (by have hq := (hJ.nx hc h1 h2).1.le; omega)) A rfl fun A => N9 6 A rfl rfl fun A => ⟨nxT l z, _, (hJ.nx hc h1 h2).2, (hJ.nx hc h1 h2).1, ((A.cut [0, 2, 3] rfl).mv 1 [2] rfl rfl rfl rfl (by simp only [List.length_cons, List.length_nil] at h0; omega))⟩)
    (fun h2 A => N9 2 A rfl rfl fun A => ENDN (R9 A rfl h0 rfl rfl (by rw [hJ.f2 h2] <;> rfl))))
   (fun h1 A => N9 8 A rfl rfl fun A => ENDN (R9 A rfl h0 rfl rfl (by rw [hJ.f1 h1] <;> rfl)))
theorem settle_ (l : List In) (ao : Option Addr) (cp : Nat) (at_ : Int) (r : Rg) (hc : RCd l) (hat : 0 ≤ at_ ∧ at_ ≤ ((l.length : Nat) : Int)) : FnI (CdAt ao l) Tryz.prog 88 [.ptr 0 0] [some (.blk (rQ9 (.sla ao l.length cp) at_ r))] (Rt (.tup []) [some (.blk (rQ9 (.sla ao l.length cp) (((setl l ⟨at_.toNat, r⟩).at_ : Nat) : Int) ((setl l ⟨at_.toNat, r⟩).r)))]) := by
 obtain ⟨k, rfl⟩ := Int.eq_ofNat_of_zero_le hat.1
 exact settleN_ l ao cp ⟨k, r⟩ hc (by show k ≤ _; omega)
theorem nnT {a b : Int} (h : (!(!(a == b))) = true) : a = b := by simpa using h
theorem nnF {a b : Int} (h : (!(!(a == b))) = false) : a ≠ b := by simpa using h
theorem mopY {i : In} (h : (!(mopI i)) = false) : mopI i = true := by simpa using h
theorem opM {i : In} (h : (!(mopI i)) = false) : i.op = 4 ∨ i.op = 5 ∨ i.op = 6 := by
 have h := mopY h
 unfold mopI at h
 simp at h
 omega
theorem spZ {l : List In} {s : Th} (h : ((s.at_ : Nat) : Int) = ((l.length : Nat) : Int)) : (SV.tup [.agg [.int .i64 (spL (l.getD ((s.at_ : Nat) : Int).toNat In.z)), .int .i64 (spM s.r (l.getD ((s.at_ : Nat) : Int).toNat In.z))], .int .i64 (spD s.r (l.getD ((s.at_ : Nat) : Int).toNat In.z)), .bool (mopI (l.getD ((s.at_ : Nat) : Int).toNat In.z))]) = .tup [.agg [.z9, .z9], .z9, .bool false] := by
 have e : l.getD ((s.at_ : Nat) : Int).toNat In.z = In.z := by rw [List.getD_eq_getElem?_getD, List.getElem?_eq_none (by omega)]; rfl
 rw [e]; rfl
theorem spN {i : In} {r : Rg} (h : (!(mopI i)) = true) : (SV.tup [.agg [.int .i64 (spL i), .int .i64 (spM r i)], .int .i64 (spD r i), .bool (mopI i)]) = .tup [.agg [.z9, .z9], .z9, .bool false] := by
 have e : mopI i = false := by simpa using h
 unfold spL spM spD
 rw [e]; rfl
theorem okSp {l : List In} {s : Th} (hc : RCd l) (hat : s.at_ ≤ l.length) (h1 : ((s.at_ : Nat) : Int) ≠ ((l.length : Nat) : Int)) (h2 : (!(mopI (l.getD ((s.at_ : Nat) : Int).toNat In.z))) = false) : ((l.getD ((s.at_ : Nat) : Int).toNat In.z).sz = 1 ∨ (l.getD ((s.at_ : Nat) : Int).toNat In.z).sz = 2 ∨ (l.getD ((s.at_ : Nat) : Int).toNat In.z).sz = 4 ∨ (l.getD ((s.at_ : Nat) : Int).toNat In.z).sz = 8) ∧ (-1 ≤ (l.getD ((s.at_ : Nat) : Int).toNat In.z).ix ∧ (l.getD ((s.at_ : Nat) : Int).toNat In.z).ix < 8) ∧ ((l.getD ((s.at_ : Nat) : Int).toNat In.z).op = 5 → -1 ≤ (l.getD ((s.at_ : Nat) : Int).toNat In.z).ra ∧ (l.getD ((s.at_ : Nat) : Int).toNat In.z).ra < 8) ∧ ((l.getD ((s.at_ : Nat) : Int).toNat In.z).op = 6 → 0 ≤ (l.getD ((s.at_ : Nat) : Int).toNat In.z).ra ∧ (l.getD ((s.at_ : Nat) : Int).toNat In.z).ra < 8) := by
 have hlt : s.at_ < l.length := by omega
 have ho := opM h2
 have hs := hc.snd hlt
 exact ⟨hc.szs hlt ho, hs.x ho, fun q => hs.a5 q, fun q => hs.a (.inr (.inr (.inl q)))⟩
theorem okSp9 {l : List In} {s : Th} (hc : RCd l) (hat : s.at_ ≤ l.length) (h1 : ((s.at_ : Nat) : Int) ≠ ((l.length : Nat) : Int)) (h2 : (!(mopI (gQ9 l s))) = false) : ((gQ9 l s).sz = 1 ∨ (gQ9 l s).sz = 2 ∨ (gQ9 l s).sz = 4 ∨ (gQ9 l s).sz = 8) ∧ (-1 ≤ (gQ9 l s).ix ∧ (gQ9 l s).ix < 8) ∧ ((gQ9 l s).op = 5 → -1 ≤ (gQ9 l s).ra ∧ (gQ9 l s).ra < 8) ∧ ((gQ9 l s).op = 6 → 0 ≤ (gQ9 l s).ra ∧ (gQ9 l s).ra < 8) := okSp hc hat h1 h2
theorem spot_ (l : List In) (ao : Option Addr) (cp : Nat) (s : Th) (hc : RCd l) (hat : s.at_ ≤ l.length) : FnI (CdAt ao l) Tryz.prog 131 [.ptr 0 0] [some (.blk (rQ9 (.sla ao l.length cp) ((s.at_ : Nat) : Int) s.r))] (Rt (.tup [.agg [.int .i64 (spL (gQ9 l s)), .int .i64 (spM s.r (gQ9 l s))], .int .i64 (spD s.r (gQ9 l s)), .bool (mopI (gQ9 l s))]) [some (.blk (rQ9 (.sla ao l.length cp) ((s.at_ : Nat) : Int) s.r))]) :=
 enterI (n := 59) (by kernel_rfl) Tryz.func131 rfl rfl rfl fun G w a h0 hI A => N9 10 A rfl rfl fun A => I9 [0] LstAt.ok hI (ready_ l ao cp ((s.at_ : Nat) : Int) s.r (by omega)) A rfl fun A => N9 14 A rfl rfl fun A => fork 14 A rfl
  (fun h1 A => N9 16 A rfl rfl fun A => R9 A rfl h0 rfl (by rw [spZ (nnT h1)] <;> rfl) rfl)
  (fun h1 A => N9 1 A rfl rfl fun A => C9 [] (mop_ (gQ9 l s)) A rfl fun A => N9 4 A rfl rfl fun A => fork 18 A rfl
   (fun h2 A => N9 10 A rfl rfl fun A => R9 A rfl h0 rfl (by rw [spN h2] <;> rfl) rfl)
   (fun h2 A => N9 17 A rfl rfl fun A => forkE 22 A rfl
    (fun h3 A => N9 1 A rfl rfl fun A => DRAWN hX hmo [(8, .int .i64 (bget0 (rgO s.r ((gQ9 l s).ra) ((gQ9 l s).imm)) ((gQ9 l s).sz)))] [(5, .int .i64 (rgO s.r ((gQ9 l s).ra) ((gQ9 l s).imm)), [some (.blk (rQ9 (.sla ao l.length cp) ((s.at_ : Nat) : Int) s.r)), some (.blk [.z9, .z9]), some (.blk (inQ9 (gQ9 l s)))])] A rfl rfl rfl rfl (by kernel_rfl) ⟨callE [0] (regOr_ l ao cp ((s.at_ : Nat) : Int) s.r ((gQ9 l s).ra) ((gQ9 l s).imm) (by have q := okSp9 hc hat (nnF h1) h2; have o := opM h2; first | exact q.1 | exact q.2.1 | exact q.2.2.1 (by assumption) | exact q.2.2.2 (by omega) | omega)) rfl rfl rfl rfl rfl rfl rfl, trivial⟩ ⟨.inl ⟨_, _, rfl, rfl, bget_ (rgO s.r ((gQ9 l s).ra) ((gQ9 l s).imm)) ((gQ9 l s).sz) (by have q := okSp9 hc hat (nnF h1) h2; have o := opM h2; first | exact q.1 | exact q.2.1 | exact q.2.2.1 (by assumption) | exact q.2.2.2 (by omega) | omega)⟩, trivial⟩ fun A => N9 3 A rfl rfl fun A => DRAWN hX hmo [(8, .int .i64 (bplace0 ((gQ9 l s).off) (rgO s.r ((gQ9 l s).ix) 0) ((gQ9 l s).sz)))] [(5, .int .i64 (rgO s.r ((gQ9 l s).ix) 0), [some (.blk (rQ9 (.sla ao l.length cp) ((s.at_ : Nat) : Int) s.r)), some (.blk [.z9, .z9]), some (.blk (inQ9 (gQ9 l s)))])] A rfl rfl rfl rfl (by kernel_rfl) ⟨callE [0] (regOr_ l ao cp ((s.at_ : Nat) : Int) s.r ((gQ9 l s).ix) 0 (by have q := okSp9 hc hat (nnF h1) h2; have o := opM h2; first | exact q.1 | exact q.2.1 | exact q.2.2.1 (by assumption) | exact q.2.2.2 (by omega) | omega)) rfl rfl rfl rfl rfl rfl rfl, trivial⟩ ⟨.inl ⟨_, _, rfl, rfl, bplace_ ((gQ9 l s).off) (rgO s.r ((gQ9 l s).ix) 0) ((gQ9 l s).sz)⟩, trivial⟩ fun A => N9 2 A rfl rfl fun A => have A := A.cut [0, 2, 3, 4, 5, 6, 7, 8, 9, 10, 11, 12, 13, 14, 15, 16, 17, 18, 20, 21, 22, 23, 24, 25, 26, 27, 28, 29, 30, 31, 32, 42, 43, 44, 45, 46, 47, 48, 49, 50] rfl; ANY2 hmo [.ptr 2 5, .int .i64 ((gQ9 l s).loc), .int .i64 (bplace0 ((gQ9 l s).off) (rgO s.r ((gQ9 l s).ix) 0) ((gQ9 l s).sz)), .ptr 2 8, .int .i64 ((gQ9 l s).sz), .int .i64 (bmask0 (bplace0 ((gQ9 l s).off) (rgO s.r ((gQ9 l s).ix) 0) ((gQ9 l s).sz)) ((gQ9 l s).sz)), .agg [.int .i64 ((gQ9 l s).loc), .int .i64 (bmask0 (bplace0 ((gQ9 l s).off) (rgO s.r ((gQ9 l s).ix) 0) ((gQ9 l s).sz)) ((gQ9 l s).sz))], .int .i64 (bget0 (rgO s.r ((gQ9 l s).ra) ((gQ9 l s).imm)) ((gQ9 l s).sz)), .tup [], .int .i64 (bget0 (rgO s.r ((gQ9 l s).ra) ((gQ9 l s).imm)) ((gQ9 l s).sz)), .tt] [8] [] 0 [([], [], [some (.blk (rQ9 (.sla ao l.length cp) ((s.at_ : Nat) : Int) s.r)), some (.blk [.z9, .z9]), some (.blk (inQ9 (gQ9 l s)))]), ([8], [], [some (.blk (rQ9 (.sla ao l.length cp) ((s.at_ : Nat) : Int) s.r)), some (.blk [.int .i64 ((gQ9 l s).loc), .int .i64 (bmask0 (bplace0 ((gQ9 l s).off) (rgO s.r ((gQ9 l s).ix) 0) ((gQ9 l s).sz)) ((gQ9 l s).sz))]), some (.blk (inQ9 (gQ9 l s)))])] [[true, true, true, true, true, true, true, true, true, false, false], [false, false, false, false, false, false, false, true, false, true, true]] A rfl rfl rfl rfl (by kernel_rfl) rfl (by kernel_rfl) (by kernel_rfl) ⟨⟨oV9 0 rfl rfl, ⟨oV9 0 rfl rfl, ⟨oV9 0 rfl rfl, ⟨oV9 0 rfl rfl, ⟨oV9 0 rfl rfl, ⟨oE9 0 rfl (eff_pure rfl rfl (bmask_ (bplace0 ((gQ9 l s).off) (rgO s.r ((gQ9 l s).ix) 0) ((gQ9 l s).sz)) ((gQ9 l s).sz) (by have q := okSp9 hc hat (nnF h1) h2; have o := opM h2; first | exact q.1 | exact q.2.1 | exact q.2.2.1 (by assumption) | exact q.2.2.2 (by omega) | omega))), ⟨oV9 0 rfl rfl, ⟨oV9 0 rfl rfl, ⟨oE9 1 rfl (eff_auto (X := ⟨_, true⟩) (out := .upd 1 [.int .i64 ((gQ9 l s).loc), .int .i64 (bmask0 (bplace0 ((gQ9 l s).off) (rgO s.r ((gQ9 l s).ix) 0) ((gQ9 l s).sz)) ((gQ9 l s).sz))] _) hX rfl rfl), trivial⟩⟩⟩⟩⟩⟩⟩⟩⟩, ⟨⟨oV9 1 rfl rfl, ⟨oV9 1 rfl rfl, ⟨oV9 1 rfl rfl, trivial⟩⟩⟩, trivial⟩⟩ fun A => N9 2 A rfl rfl fun A => R9 A rfl h0 rfl (by have hm := mopY h2; unfold spL spM spD; rw [hm, if_pos rfl, if_pos rfl, if_pos rfl, if_pos h3] <;> rfl) rfl)
    (fun h3 A => N9 7 A rfl rfl fun A => forkE 33 A rfl
     (fun h4 A => N9 1 A rfl rfl fun A => ANY hmo [.ptr 0 0, .ptr 2 2, .int .i64 ((gQ9 l s).ra), .ptr 0 0, .ptr 0 2, .ix (.ptr 0 2) 1 8 ((gQ9 l s).ra) 0, .int .i64 (s.r ((gQ9 l s).ra).toNat), .int .i64 (s.r ((gQ9 l s).ra).toNat)] [] [] 0 [([], [], [some (.blk (rQ9 (.sla ao l.length cp) ((s.at_ : Nat) : Int) s.r)), some (.blk [.z9, .z9]), some (.blk (inQ9 (gQ9 l s)))])] [[true, true, true, true, true, true, true, true]] A rfl rfl rfl rfl (by kernel_rfl) rfl (by kernel_rfl) ⟨⟨oV9 0 rfl rfl, ⟨oV9 0 rfl rfl, ⟨oV9 0 rfl rfl, ⟨oV9 0 rfl rfl, ⟨oV9 0 rfl rfl, ⟨oV9 0 rfl (ok_d (by have q := okSp9 hc hat (nnF h1) h2; have o := opM h2; first | exact q.1 | exact q.2.1 | exact q.2.2.1 (by assumption) | exact q.2.2.2 (by omega) | omega) <| okE_nil), ⟨oE9 0 rfl (ldnE (r := s.r) hX rfl rfl rfl rfl rfl rfl rfl (by have q := okSp9 hc hat (nnF h1) h2; have o := opM h2; first | exact q.1 | exact q.2.1 | exact q.2.2.1 (by assumption) | exact q.2.2.2 (by omega) | omega)), ⟨oV9 0 rfl rfl, trivial⟩⟩⟩⟩⟩⟩⟩⟩, trivial⟩ fun A => N9 3 A rfl rfl fun A => DRAWN hX hmo [(8, .int .i64 (bplace0 ((gQ9 l s).off) (rgO s.r ((gQ9 l s).ix) 0) ((gQ9 l s).sz)))] [(5, .int .i64 (rgO s.r ((gQ9 l s).ix) 0), [some (.blk (rQ9 (.sla ao l.length cp) ((s.at_ : Nat) : Int) s.r)), some (.blk [.z9, .z9]), some (.blk (inQ9 (gQ9 l s)))])] A rfl rfl rfl rfl (by kernel_rfl) ⟨callE [0] (regOr_ l ao cp ((s.at_ : Nat) : Int) s.r ((gQ9 l s).ix) 0 (by have q := okSp9 hc hat (nnF h1) h2; have o := opM h2; first | exact q.1 | exact q.2.1 | exact q.2.2.1 (by assumption) | exact q.2.2.2 (by omega) | omega)) rfl rfl rfl rfl rfl rfl rfl, trivial⟩ ⟨.inl ⟨_, _, rfl, rfl, bplace_ ((gQ9 l s).off) (rgO s.r ((gQ9 l s).ix) 0) ((gQ9 l s).sz)⟩, trivial⟩ fun A => N9 2 A rfl rfl fun A => have A := A.cut [0, 2, 3, 4, 5, 6, 7, 8, 9, 10, 11, 12, 13, 14, 15, 16, 17, 18, 20, 21, 22, 23, 33, 34, 35, 36, 37, 38, 39, 40, 41, 42, 43, 44, 45, 46, 47, 48, 49, 50] rfl; ANY2 hmo [.ptr 2 5, .int .i64 ((gQ9 l s).loc), .int .i64 (bplace0 ((gQ9 l s).off) (rgO s.r ((gQ9 l s).ix) 0) ((gQ9 l s).sz)), .ptr 2 8, .int .i64 ((gQ9 l s).sz), .int .i64 (bmask0 (bplace0 ((gQ9 l s).off) (rgO s.r ((gQ9 l s).ix) 0) ((gQ9 l s).sz)) ((gQ9 l s).sz)), .agg [.int .i64 ((gQ9 l s).loc), .int .i64 (bmask0 (bplace0 ((gQ9 l s).off) (rgO s.r ((gQ9 l s).ix) 0) ((gQ9 l s).sz)) ((gQ9 l s).sz))], .int .i64 (s.r ((gQ9 l s).ra).toNat), .tup [], .int .i64 (s.r ((gQ9 l s).ra).toNat), .tt] [8] [] 0 [([], [], [some (.blk (rQ9 (.sla ao l.length cp) ((s.at_ : Nat) : Int) s.r)), some (.blk [.z9, .z9]), some (.blk (inQ9 (gQ9 l s)))]), ([8], [], [some (.blk (rQ9 (.sla ao l.length cp) ((s.at_ : Nat) : Int) s.r)), some (.blk [.int .i64 ((gQ9 l s).loc), .int .i64 (bmask0 (bplace0 ((gQ9 l s).off) (rgO s.r ((gQ9 l s).ix) 0) ((gQ9 l s).sz)) ((gQ9 l s).sz))]), some (.blk (inQ9 (gQ9 l s)))])] [[true, true, true, true, true, true, true, true, true, false, false], [false, false, false, false, false, false, false, true, false, true, true]] A rfl rfl rfl rfl (by kernel_rfl) rfl (by kernel_rfl) (by kernel_rfl) ⟨⟨oV9 0 rfl rfl, ⟨oV9 0 rfl rfl, ⟨oV9 0 rfl rfl, ⟨oV9 0 rfl rfl, ⟨oV9 0 rfl rfl, ⟨oE9 0 rfl (eff_pure rfl rfl (bmask_ (bplace0 ((gQ9 l s).off) (rgO s.r ((gQ9 l s).ix) 0) ((gQ9 l s).sz)) ((gQ9 l s).sz) (by have q := okSp9 hc hat (nnF h1) h2; have o := opM h2; first | exact q.1 | exact q.2.1 | exact q.2.2.1 (by assumption) | exact q.2.2.2 (by omega) | omega))), ⟨oV9 0 rfl rfl, ⟨oV9 0 rfl rfl, ⟨oE9 1 rfl (eff_auto (X := ⟨_, true⟩) (out := .upd 1 [.int .i64 ((gQ9 l s).loc), .int .i64 (bmask0 (bplace0 ((gQ9 l s).off) (rgO s.r ((gQ9 l s).ix) 0) ((gQ9 l s).sz)) ((gQ9 l s).sz))] _) hX rfl rfl), trivial⟩⟩⟩⟩⟩⟩⟩⟩⟩, ⟨⟨oV9 1 rfl rfl, ⟨oV9 1 rfl rfl, ⟨oV9 1 rfl rfl, trivial⟩⟩⟩, trivial⟩⟩ fun A => N9 2 A rfl rfl fun A => R9 A rfl h0 rfl (by have hm := mopY h2; unfold spL spM spD; rw [hm, if_pos rfl, if_pos rfl, if_pos rfl, if_neg h3, if_pos h4] <;> rfl) rfl)
     (fun h4 A => N9 5 A rfl rfl fun A => DRAWN hX hmo [(8, .int .i64 (bplace0 ((gQ9 l s).off) (rgO s.r ((gQ9 l s).ix) 0) ((gQ9 l s).sz)))] [(5, .int .i64 (rgO s.r ((gQ9 l s).ix) 0), [some (.blk (rQ9 (.sla ao l.length cp) ((s.at_ : Nat) : Int) s.r)), some (.blk [.z9, .z9]), some (.blk (inQ9 (gQ9 l s)))])] A rfl rfl rfl rfl (by kernel_rfl) ⟨callE [0] (regOr_ l ao cp ((s.at_ : Nat) : Int) s.r ((gQ9 l s).ix) 0 (by have q := okSp9 hc hat (nnF h1) h2; have o := opM h2; first | exact q.1 | exact q.2.1 | exact q.2.2.1 (by assumption) | exact q.2.2.2 (by omega) | omega)) rfl rfl rfl rfl rfl rfl rfl, trivial⟩ ⟨.inl ⟨_, _, rfl, rfl, bplace_ ((gQ9 l s).off) (rgO s.r ((gQ9 l s).ix) 0) ((gQ9 l s).sz)⟩, trivial⟩ fun A => N9 2 A rfl rfl fun A => have A := A.cut [0, 2, 3, 4, 5, 6, 7, 8, 9, 10, 11, 12, 13, 14, 15, 16, 17, 18, 20, 21, 22, 23, 33, 34, 42, 43, 44, 45, 46, 47, 48, 49, 50] rfl; ANY2 hmo [.ptr 2 5, .int .i64 ((gQ9 l s).loc), .int .i64 (bplace0 ((gQ9 l s).off) (rgO s.r ((gQ9 l s).ix) 0) ((gQ9 l s).sz)), .ptr 2 8, .int .i64 ((gQ9 l s).sz), .int .i64 (bmask0 (bplace0 ((gQ9 l s).off) (rgO s.r ((gQ9 l s).ix) 0) ((gQ9 l s).sz)) ((gQ9 l s).sz)), .agg [.int .i64 ((gQ9 l s).loc), .int .i64 (bmask0 (bplace0 ((gQ9 l s).off) (rgO s.r ((gQ9 l s).ix) 0) ((gQ9 l s).sz)) ((gQ9 l s).sz))], .z9, .tup [], .z9, .tt] [8] [] 0 [([], [], [some (.blk (rQ9 (.sla ao l.length cp) ((s.at_ : Nat) : Int) s.r)), some (.blk [.z9, .z9]), some (.blk (inQ9 (gQ9 l s)))]), ([8], [], [some (.blk (rQ9 (.sla ao l.length cp) ((s.at_ : Nat) : Int) s.r)), some (.blk [.int .i64 ((gQ9 l s).loc), .int .i64 (bmask0 (bplace0 ((gQ9 l s).off) (rgO s.r ((gQ9 l s).ix) 0) ((gQ9 l s).sz)) ((gQ9 l s).sz))]), some (.blk (inQ9 (gQ9 l s)))])] [[true, true, true, true, true, true, true, true, true, false, false], [false, false, false, false, false, false, false, true, false, true, true]] A rfl rfl rfl rfl (by kernel_rfl) rfl (by kernel_rfl) (by kernel_rfl) ⟨⟨oV9 0 rfl rfl, ⟨oV9 0 rfl rfl, ⟨oV9 0 rfl rfl, ⟨oV9 0 rfl rfl, ⟨oV9 0 rfl rfl, ⟨oE9 0 rfl (eff_pure rfl rfl (bmask_ (bplace0 ((gQ9 l s).off) (rgO s.r ((gQ9 l s).ix) 0) ((gQ9 l s).sz)) ((gQ9 l s).sz) (by have q := okSp9 hc hat (nnF h1) h2; have o := opM h2; first | exact q.1 | exact q.2.1 | exact q.2.2.1 (by assumption) | exact q.2.2.2 (by omega) | omega))), ⟨oV9 0 rfl rfl, ⟨oV9 0 rfl rfl, ⟨oE9 1 rfl (eff_auto (X := ⟨_, true⟩) (out := .upd 1 [.int .i64 ((gQ9 l s).loc), .int .i64 (bmask0 (bplace0 ((gQ9 l s).off) (rgO s.r ((gQ9 l s).ix) 0) ((gQ9 l s).sz)) ((gQ9 l s).sz))] _) hX rfl rfl), trivial⟩⟩⟩⟩⟩⟩⟩⟩⟩, ⟨⟨oV9 1 rfl rfl, ⟨oV9 1 rfl rfl, ⟨oV9 1 rfl rfl, trivial⟩⟩⟩, trivial⟩⟩ fun A => N9 2 A rfl rfl fun A => R9 A rfl h0 rfl (by have hm := mopY h2; unfold spL spM spD; rw [hm, if_pos rfl, if_pos rfl, if_pos rfl, if_neg h3, if_neg h4] <;> rfl) rfl))))
theorem okPa {l : List In} {s : Th} (hc : RCd l) (hat : s.at_ ≤ l.length) (h1 : ((s.at_ : Nat) : Int) ≠ ((l.length : Nat) : Int)) (h2 : (((l.getD ((s.at_ : Nat) : Int).toNat In.z).op == 4) || ((l.getD ((s.at_ : Nat) : Int).toNat In.z).op == 6)) = true) : ((l.getD ((s.at_ : Nat) : Int).toNat In.z).sz = 1 ∨ (l.getD ((s.at_ : Nat) : Int).toNat In.z).sz = 2 ∨ (l.getD ((s.at_ : Nat) : Int).toNat In.z).sz = 4 ∨ (l.getD ((s.at_ : Nat) : Int).toNat In.z).sz = 8) ∧ (0 ≤ (l.getD ((s.at_ : Nat) : Int).toNat In.z).dst ∧ (l.getD ((s.at_ : Nat) : Int).toNat In.z).dst < 8) := by
 have hlt : s.at_ < l.length := by omega
 have ho : (l.getD s.at_ In.z).op = 4 ∨ (l.getD s.at_ In.z).op = 6 := by
  have h3 : (((l.getD s.at_ In.z).op == 4) || ((l.getD s.at_ In.z).op == 6)) = true := h2
  simp at h3
  exact h3
 have hs := hc.snd hlt
 exact ⟨hc.szs hlt (by rcases ho with h | h; exact .inl h; exact .inr (.inr h)), hs.d (by rcases ho with h | h; exact .inr (.inr (.inr (.inl h))); exact .inr (.inr (.inr (.inr h))))⟩
theorem pass_ (l : List In) (ao : Option Addr) (cp : Nat) (s : Th) (old : Int) (hc : RCd l) (hat : s.at_ ≤ l.length) : FnI (CdAt ao l) Tryz.prog 91 [.ptr 0 0, .int .i64 old] [some (.blk (rQ9 (.sla ao l.length cp) ((s.at_ : Nat) : Int) s.r))] (Rt (.bool (!(((s.at_ : Nat) : Int) == ((l.length : Nat) : Int)))) [some (.blk (rQ9 (.sla ao l.length cp) (((paT l s old).at_ : Nat) : Int) ((paT l s old).r)))]) :=
 enterI (n := 35) (by kernel_rfl) Tryz.func91 rfl rfl rfl fun G w a h0 hI A => N9 8 A rfl rfl fun A => I9 [0] LstAt.ok hI (ready_ l ao cp ((s.at_ : Nat) : Int) s.r (by omega)) A rfl fun A => N9 15 A rfl rfl fun A => fork 13 A rfl
  (fun h1 A => N9 7 A rfl rfl fun A => R9 A rfl h0 rfl (by rw [beq_iff_eq.2 (nnT h1)]; rfl) (by unfold paT; rw [if_pos (show s.at_ = l.length from (by have e := (nnT h1); omega))] <;> rfl))
  (fun h1 A => N9 7 A rfl rfl fun A => C9 [] (Reads_ ((gQ9 l s).op) ((gQ9 l s).dst) ((gQ9 l s).ra) ((gQ9 l s).rb) ((gQ9 l s).imm) ((gQ9 l s).loc) ((gQ9 l s).off) ((gQ9 l s).ix) ((gQ9 l s).sz) ((gQ9 l s).fn) ((gQ9 l s).acq) ((gQ9 l s).weak) ((gQ9 l s).rel) ((gQ9 l s).pred) ((gQ9 l s).succ) ((gQ9 l s).to_) ((gQ9 l s).zero)) A rfl fun A => N9 2 A rfl rfl fun A => fork 15 A rfl
   (fun h2 A => N9 1 A rfl rfl fun A => DRAWN hX hmo [(6, .int .i64 (bget0 old ((gQ9 l s).sz)))] [(10, .tup [], [some (.blk (rQ9 (.sla ao l.length cp) ((s.at_ : Nat) : Int) (updR s.r ((gQ9 l s).dst).toNat (bget0 old ((gQ9 l s).sz))))), some (.blk (inQ9 (gQ9 l s)))])] A rfl (ok_d (by have hn := hc.n; (try have q := okPa hc hat (nnF h1) h2); first | exact q.1 | exact q.2 | omega) <| okE_nil) rfl rfl (by kernel_rfl) ⟨stnE (i := 0) (r := s.r) hX rfl rfl rfl rfl rfl rfl rfl rfl (by have hn := hc.n; (try have q := okPa hc hat (nnF h1) h2); first | exact q.1 | exact q.2 | omega), trivial⟩ ⟨.inl ⟨_, _, rfl, rfl, bget_ old ((gQ9 l s).sz) (by have hn := hc.n; (try have q := okPa hc hat (nnF h1) h2); first | exact q.1 | exact q.2 | omega)⟩, trivial⟩ fun A => N9 14 A rfl (ok_d (by have hn := hc.n; (try have q := okPa hc hat (nnF h1) h2); first | exact q.1 | exact q.2 | omega) <| okE_nil) fun A => N9 2 A rfl rfl fun A => I9 [0] LstAt.ok hI (settle_ l ao cp (((s.at_ : Nat) : Int) + 1) (updR s.r ((gQ9 l s).dst).toNat (bget0 old ((gQ9 l s).sz))) hc (by have e := (nnF h1); omega)) A rfl fun A => N9 8 A rfl rfl fun A => R9 A rfl h0 rfl (by rw [beq_eq_false_iff_ne.2 (nnF h1)]; rfl) (by rw [show paT l s old = setl l ⟨s.at_ + 1, paR s.r (gQ9 l s) old⟩ from if_neg (show s.at_ ≠ l.length from (by have e := (nnF h1); omega))]; unfold paR; rw [if_pos h2] <;> rfl))
   (fun h2 A => N9 16 A rfl (ok_d (by have hn := hc.n; (try have q := okPa hc hat (nnF h1) h2); first | exact q.1 | exact q.2 | omega) <| okE_nil) fun A => N9 2 A rfl rfl fun A => I9 [0] LstAt.ok hI (settle_ l ao cp (((s.at_ : Nat) : Int) + 1) s.r hc (by have e := (nnF h1); omega)) A rfl fun A => N9 8 A rfl rfl fun A => R9 A rfl h0 rfl (by rw [beq_eq_false_iff_ne.2 (nnF h1)]; rfl) (by rw [show paT l s old = setl l ⟨s.at_ + 1, paR s.r (gQ9 l s) old⟩ from if_neg (show s.at_ ≠ l.length from (by have e := (nnF h1); omega))]; unfold paR; rw [if_neg (ne_true_of_eq_false h2)] <;> rfl)))
end Go.Proofs.YtbbdanhpphlbpaaGreatDoor.Mc
namespace Go.Proofs.YtbbdanhpphlbpaaGreatDoor
open Go.RowKit
set_option linter.unusedVariables false
set_option linter.unusedSimpArgs false
set_option linter.unusedSectionVars false
section
variable {P : Program} {Y : Tb} {n : Nat} {ks : List Nat} {G0 : Gr} {w0 : World} {T : List (Nat × SV)} {H : Hp} {G : Gr} {a : Act} {w : World} {Q : Exit → Act → World → Prop} {K : List Fr} {pos : Pos} {ops : Array Oper} {o : Oper} {rest : List Oper}
theorem APP0 {x y : Operand} {t e s i m c cp : Nat} {ao : Option Addr} {f : Nat → List SV} (A : Sy n T H ks G0 w0 G a w) (hg : guardS ops T o.guard = some .run) (hd : fitsD n o.dst = true) (hop : o.op = .call { callee := .builtin .append, args := #[x, y], argTypes := #[t, t] }) (hx : evS T x = some (.sl i m c)) (hi : lg H i = some (some (.row e s m c f))) (hy : evS T y = some (.sla ao 0 cp)) (ht : sliceB P t e s = true)
  (hk : ∀ {G a w}, Sy n (extS T o.dst (.sl i m c)) H ks G0 w0 G a w → Goal P Q K (.ops ops rest) a w) : Goal P Q K (.ops ops (o :: rest)) a w := by
 have hw := gd_run (gd := none) A hg
 obtain ⟨d, op, ty, pos, af, gd⟩ := o
 simp only at hop
 subst hop
 obtain ⟨hu, hs⟩ := slice_facts ht
 obtain ⟨ie, hie, _⟩ := Option.map_eq_some_iff.1 hs
 rw [lg_is] at hi
 obtain ⟨p, hp⟩ : ∃ p, G[i]? = some p := by
  have : i < G.length := by rw [← A.mem.len]; exact (List.getElem?_eq_some_iff.1 hi).1
  exact ⟨G[i], by simp [this]⟩
 obtain ⟨_, hpre, xs, hxs, hown⟩ := A.mem.ent i _ hi
 rw [hp] at hown
 simp only [Option.getD_some] at hown
 have hvx := A.ev hx
 have hvy := A.ev hy
 have hden : den G (.sl i m c) = some (.slice (p.map fun L => ⟨L.b, L.pre.length, none⟩) m (c + rm p)) := by unfold den; rw [hp]
 rw [hden] at hvx
 unfold den at hvy
 simp only [Option.some.injEq] at hvx hvy
 have hsrc : Src P ie.size t (.slice ao 0 cp) 0 [] w := by
  cases ao with
  | none => exact Src.ofNil w hu cp
  | some x0 => exact Src.ofSlice w hu x0 0 cp [] (by simp) (fun j u hj => by simp at hj) (fun u hu => by cases hu)
 have hle : m ≤ c + rm p := by
  rcases hown.2 with ⟨q1, q2⟩ | ⟨g, cap, cur, q1, _, _, q4, _⟩
  ·omega
  ·cases p <;> simp at q1; omega
 have hr := run_append_nothing (P := P) w t t ty e ie hu hie (p.map fun L => ⟨L.b, L.pre.length, none⟩) m (c + rm p) hle _ hsrc
 refine q_does (Q := wpK P Q K) (does_val (v := .slice (p.map fun L => ⟨L.b, L.pre.length, none⟩) m (c + rm p)) (w' := w) hw ?_ ?_)
 ·unfold execOp
  simp only [resolve, invoke, builtin, Sem.run_bind, Sem.run_pure, Result.andThen_ok, List.map_toArray, List.map_cons, List.map_nil, ← hvx, ← hvy, hr]
 ·exact hk (Sy.put A hd hden)
theorem Sy.hide (A : Sy n T H ks G0 w0 G a w) (i : Nat) : Sy n T (stH H i none) ks G0 w0 G a w := by
 have hold : ∀ (j : Nat) (e : Ent), (stH H i none)[j]? = some (some e) → H[j]? = some (some e) := by
  intro j e h
  rw [stH_is] at h
  by_cases hj : j = i
  ·subst hj
   by_cases hl : j < H.length
   ·rw [List.getElem?_set_self hl] at h; cases h
   ·rw [List.getElem?_eq_none (by simp; omega)] at h; cases h
  ·rw [List.getElem?_set_ne (Ne.symm hj)] at h; exact h
 exact ⟨A.size, A.defers, A.get, ⟨by rw [stH_is]; simpa using A.mem.len, fun j e he => A.mem.ent j e (hold j e he), fun j k e f L' M hjk g1 g2 g3 g4 g5 g6 => A.mem.sep j k e f L' M hjk (hold j e g1) (hold k f g2) g3 g4 g5 g6⟩, A.pre, fun j e L' g1 g2 g3 => A.own j e L' (hold j e g1) g2 g3, A.mix⟩
theorem Sy.layAt (A : Sy n T H ks G0 w0 G a w) (i : Nat) {e s m c : Nat} {f : Nat → List SV} {H' : Hp} (hi : lg H i = some (some (.row e s m c f))) (hH : stH H i none = H') :
  ∃ ao cp, (den G (.sl i m c) = some (.slice ao m cp)) ∧ Sy n T H' ks G0 w0 G a w ∧ LstAt ao s m f w (keys H' G) ∧ (∀ q : Addr, ao = some q → ks.contains q.block = true ∨ w0.heap.size ≤ q.block) := by
 subst hH
 rw [lg_is] at hi
 obtain ⟨p, hp⟩ : ∃ p, G[i]? = some p := by
  have : i < G.length := by rw [← A.mem.len]; exact (List.getElem?_eq_some_iff.1 hi).1
  exact ⟨G[i], by simp [this]⟩
 have hent := A.mem.ent i _ hi
 have htot := hent.1
 refine ⟨p.map fun L => ⟨L.b, L.pre.length, none⟩, c + rm p, by unfold den; rw [hp], A.hide i, ⟨fun k => ?_, ?_⟩, fun q hq => ?_⟩
 ·obtain ⟨vs, h, _⟩ := htot k; exact ⟨vs, h⟩
 ·by_cases h0 : m = 0
  ·exact .inl h0
  ·right
   obtain ⟨L, _, q1, _⟩ := row_range hent (k := 0) (by omega)
   rw [hp] at q1
   simp only [Option.getD_some] at q1
   subst q1
   have hlt : L.b < w.heap.size := by rw [hp] at hent; exact EntOK.lt hent (fun h => h)
   refine ⟨L.b, L.pre.length, rfl, hlt, ?_, fun k hk => ?_⟩
   ·cases hq : (keys (stH H i none) G).contains L.b with
    | false => rfl
    | true =>
     obtain ⟨j, e', L', g1, g2, g3, g4⟩ := mem_keys.1 hq
     have hji : j ≠ i := by
      intro e; subst e
      rw [stH_is, List.getElem?_set_self (List.getElem?_eq_some_iff.1 hi).1] at g1; cases g1
     have g1' : H[j]? = some (some e') := by rw [stH_is, List.getElem?_set_ne (Ne.symm hji)] at g1; exact g1
     exact absurd g4.symm (A.mem.sep i j _ e' L L' (Ne.symm hji) hi g1' rfl hp g3 (mut_full g2))
   ·obtain ⟨L', vs, r1, r2, _, r4⟩ := row_range hent hk
    rw [hp] at r1
    simp only [Option.getD_some, Option.some.injEq] at r1
    subst r1
    exact ⟨vs, r2, r4⟩
 ·cases p with
  | none => cases hq
  | some L => cases hq; exact A.own i _ L hi rfl hp
theorem Sy.cellEq (A : Sy n T H ks G0 w0 G a w) (i : Nat) {cs cs' : List SV} {H' : Hp} (hi : lg H i = some (some (.blk cs))) (hd : denL G cs' = denL G cs) (hH : stH H i (some (.blk cs')) = H') : Sy n T H' ks G0 w0 G a w := by
 subst hH
 rw [lg_is] at hi
 have hilt := (List.getElem?_eq_some_iff.1 hi).1
 have hold : ∀ (j : Nat) (e : Ent), (stH H i (some (.blk cs')))[j]? = some (some e) → (j ≠ i ∧ H[j]? = some (some e)) ∨ (j = i ∧ e = .blk cs') := by
  intro j e h
  rw [stH_is] at h
  by_cases hj : j = i
  ·subst hj; rw [List.getElem?_set_self hilt] at h; cases h; exact .inr ⟨rfl, rfl⟩
  ·rw [List.getElem?_set_ne (Ne.symm hj)] at h; exact .inl ⟨hj, h⟩
 refine ⟨A.size, A.defers, A.get, ⟨by rw [stH_is]; simpa using A.mem.len, fun j e he => ?_, fun j k e f L M hjk g1 g2 g3 g4 g5 g6 => ?_⟩, A.pre, fun j e L g1 g2 g3 => ?_, A.mix⟩
 ·rcases hold j e he with ⟨_, h⟩ | ⟨rfl, rfl⟩
  ·exact A.mem.ent j e h
  ·obtain ⟨L, vs, h1, h2, h3⟩ := A.mem.ent j _ hi
   exact ⟨L, vs, h1, by rw [hd]; exact h2, h3⟩
 ·rcases hold j e g1 with ⟨_, h1⟩ | ⟨rfl, rfl⟩
  ·rcases hold k f g2 with ⟨_, h2⟩ | ⟨rfl, rfl⟩
   ·exact A.mem.sep j k e f L M hjk h1 h2 g3 g4 g5 g6
   ·exact A.mem.sep j k e _ L M hjk h1 hi g3 g4 g5 (fun h => h)
  ·rcases hold k f g2 with ⟨_, h2⟩ | ⟨rfl, rfl⟩
   ·exact A.mem.sep j k _ f L M hjk hi h2 rfl g4 g5 g6
   ·exact absurd rfl hjk
 ·rcases hold j e g1 with ⟨_, h1⟩ | ⟨rfl, rfl⟩
  ·exact A.own j e L h1 g2 g3
  ·exact A.own j _ L hi rfl g3
theorem Sy.slotEq (A : Sy n T H ks G0 w0 G a w) (t : Nat) {x y : SV} (hx : look T t = some x) (hd : den G y = den G x) : Sy n ((t, y) :: T) H ks G0 w0 G a w :=
 ⟨A.size, A.defers, fun q z hz => by
  unfold look at hz
  cases hb : Nat.beq t q with
  | true => rw [hb] at hz; cases hz; have := Nat.eq_of_beq_eq_true hb; subst this; rw [hd]; exact A.get t x hx
  | false => rw [hb] at hz; exact A.get q z hz, A.mem, A.pre, A.own, A.mix⟩
theorem Sy.takeEnt (A : Sy n T H ks G0 w0 G a w) {L : Loc} {en : Ent} (hen : EntOK G w (some L) en) (hmu : en.mut = true) (hn : ∀ (i : Nat) (e : Ent) (M : Loc), H[i]? = some (some e) → G[i]? = some (some M) → ¬ e.empty → M.b ≠ L.b) (ho : w0.heap.size ≤ L.b) :
  Sy n T (H ++ [some en]) ks G0 w0 (G ++ [some L]) a w := by
 have hlen := A.mem.len
 have hold : ∀ (i : Nat) (x : Ent), (H ++ [some en])[i]? = some (some x) → (H[i]? = some (some x) ∧ i < H.length) ∨ (i = H.length ∧ x = en) := by
  intro i x h
  by_cases hi : i < H.length
  ·rw [List.getElem?_append_left hi] at h; exact .inl ⟨h, hi⟩
  ·rw [List.getElem?_append_right (by omega)] at h
   have : i - H.length = 0 := by
    cases hq : i - H.length with
    | zero => rfl
    | succ k => rw [hq] at h; simp at h
   rw [this] at h
   simp at h
   exact .inr ⟨by omega, h.symm⟩
 have hG : ∀ i, i < H.length → (G ++ [some L])[i]? = G[i]? := fun i hi => List.getElem?_append_left (by omega)
 have hGn : (G ++ [some L])[H.length]? = some (some L) := by rw [List.getElem?_append_right (by omega), hlen]; simp
 refine ⟨A.size, A.defers, fun q x hx => den_mono _ x (A.get q x hx), ⟨by simp [hlen], ?_, ?_⟩, ?_, ?_, A.mix⟩
 ·intro i x h
  rcases hold i x h with ⟨h1, h2⟩ | ⟨rfl, rfl⟩
  ·rw [hG i h2]; exact (A.mem.ent i x h1).more _
  ·rw [hGn]; exact hen.more _
 ·intro i j x y M N hij h1 h2 h3 h4 h5 h6
  rcases hold i x h1 with ⟨k1, k2⟩ | ⟨rfl, rfl⟩
  ·rw [hG i k2] at h4
   rcases hold j y h2 with ⟨k3, k4⟩ | ⟨rfl, rfl⟩
   ·rw [hG j k4] at h5; exact A.mem.sep i j x y M N hij k1 k3 h3 h4 h5 h6
   ·rw [hGn] at h5; cases h5; exact hn i x M k1 h4 (mut_full h3)
  ·rw [hGn] at h4; cases h4
   rcases hold j y h2 with ⟨k3, k4⟩ | ⟨rfl, rfl⟩
   ·rw [hG j k4] at h5; exact fun z => hn j y N k3 h5 h6 z.symm
   ·exact absurd rfl hij
 ·obtain ⟨F, hF⟩ := A.pre; exact ⟨F ++ [some L], by rw [hF, List.append_assoc]⟩
 ·intro i x M h1 h2 h3
  rcases hold i x h1 with ⟨k1, k2⟩ | ⟨rfl, rfl⟩
  ·rw [hG i k2] at h3; exact A.own i x M k1 h2 h3
  ·rw [hGn] at h3; cases h3; exact .inr ho
theorem ldixE {x : Operand} {ty i q s m k : Nat} {cs r : List SV} (hX : Y.ok P = true) (hop : o.op = .load ty x) (hg : guardS ops T o.guard = some .run) (hx : evS T x = some (.ix (.ptr i q) s m (k : Int) 0)) (hH : lg H i = some (some (.blk cs))) (hc : cellS ⟨Y, true⟩ ty cs (q + k * s) = some (.agg r)) :
  EffOK P n ops ks G0 w0 T H o (.agg r) H := fun G a w A => by
 have hw := gd_run (gd := none) A hg
 obtain ⟨d, op, ty', pos, af, gd⟩ := o
 simp only at hop
 subst hop
 have hvx := A.ev hx
 rw [ix_ptr (q := q + k * s) k (by omega)] at hvx
 have hs : loadS ⟨Y, true⟩ H ty (.ptr i (q + k * s)) = some (.agg r, []) := by
  simp only [loadS, baseS, hH, selL, hc]
 obtain ⟨z, hz, h3⟩ := loadS_do (X := ⟨Y, true⟩) (P := P) (ops := ops) (d := d) (ty := ty') (pos := pos) (af := af) (gd := gd) (x := x) hX A hs hvx
 exact h3 (fun p hp => by cases hp) rfl hw _ ⟨[], by simpa using hz, by simpa using A.ms⟩
theorem pnilE {x y : Operand} {t rt i q : Nat} {en : Ent} (hop : o.op = .binOp .eql t x y rt) (hg : guardS ops T o.guard = some .run) (hx : evS T x = some (.ptr i q)) (hy : evS T y = some (.v (.pointer none))) (hi : lg H i = some (some en)) (ht : P.underlying t = some (.pointer (P.pointee t))) : EffOK P n ops ks G0 w0 T H o .ff H := fun G a w A => by
 have hw := gd_run (gd := none) A hg
 obtain ⟨d, op, ty, pos, af, gd⟩ := o
 simp only at hop
 subst hop
 have hvx := A.ev hx
 have hvy := A.ev hy
 unfold den at hvx hvy
 split at hvx
 ·next L hL =>
  simp only [Option.some.injEq] at hvx hvy
  exact d_bin hw hvx.symm hvy.symm ⟨by simp [eqGuard], run_eql_pointer_nil w t _ ht⟩ ⟨[], rfl, by simpa using A.ms⟩
 ·cases hvx
theorem nckE {x : Operand} {i s m e c q : Nat} {j : Int} {f : Nat → List SV} (hop : o.op = .nilCheck x) (hg : guardS ops T o.guard = some .run) (hx : evS T x = some (.el i s j q)) (hi : lg H i = some (some (.row e s m c f))) (hj : j.toNat < m) : EffOK P n ops ks G0 w0 T H o (.el i s j q) H := fun G a w A => by
 have hw := gd_run (gd := none) A hg
 obtain ⟨d, op, ty, pos, af, gd⟩ := o
 simp only at hop
 subst hop
 have hvx := A.ev hx
 rw [lg_is] at hi
 obtain ⟨L, vs, q1, _⟩ := row_range (A.mem.ent i _ hi) hj
 have hp : G[i]? = some (some L) := by
  cases hq : G[i]? with
  | none => rw [hq] at q1; cases q1
  | some p => rw [hq] at q1; simp only [Option.getD_some] at q1; rw [q1]
 have hden : den G (.el i s j q) = some (.pointer (some ⟨L.b, L.pre.length + j.toNat * s + q, none⟩)) := by unfold den; rw [hp]; rfl
 rw [hden] at hvx
 exact d_nilCheck hw (by rw [← Option.some.inj hvx]) ⟨[], by simpa using hden, by simpa using A.ms⟩
theorem Sy.nilPlace (A : Sy n T H ks G0 w0 G a w) (e s : Nat) (f : Nat → List SV) (htot : ∀ k, ∃ vs, denL [] (f k) = some vs ∧ vs.length = s) : Sy n T (H ++ [some (.row e s 0 0 f)]) ks G0 w0 (G ++ [none]) a w := by
 have hlen := A.mem.len
 have hold : ∀ (j : Nat) (x : Ent), (H ++ [some (.row e s 0 0 f)])[j]? = some (some x) → (H[j]? = some (some x) ∧ j < H.length) ∨ (j = H.length ∧ x = .row e s 0 0 f) := by
  intro j x h
  by_cases hj : j < H.length
  ·rw [List.getElem?_append_left hj] at h; exact .inl ⟨h, hj⟩
  ·rw [List.getElem?_append_right (by omega)] at h
   have : j - H.length = 0 := by
    cases hq : j - H.length with
    | zero => rfl
    | succ k => rw [hq] at h; simp at h
   rw [this] at h
   simp at h
   exact .inr ⟨by omega, h.symm⟩
 have hG : ∀ j, j < H.length → (G ++ [(none : Option Loc)])[j]? = G[j]? := fun j hj => List.getElem?_append_left (by omega)
 have hGn : (G ++ [(none : Option Loc)])[H.length]? = some none := by rw [List.getElem?_append_right (by omega), hlen]; simp
 have A1 : Sy n T (H ++ [some (.row e s 0 0 f)]) ks G0 w0 (G ++ [none]) a w := by
  refine ⟨A.size, A.defers, fun t x hx => den_mono _ x (A.get t x hx), ⟨by simp [hlen], ?_, ?_⟩, ?_, ?_, A.mix⟩
  ·intro j x h
   rcases hold j x h with ⟨h2, h3⟩ | ⟨rfl, rfl⟩
   ·rw [hG j h3]; exact (A.mem.ent j x h2).more _
   ·rw [hGn]; exact ⟨htot, fun L h => (by cases h), [], rfl, by simp, .inl ⟨rfl, rfl⟩⟩
  ·intro j k x y L M hjk h1 h2 h3 h4 h5 h6
   rcases hold j x h1 with ⟨a2, a3⟩ | ⟨rfl, rfl⟩
   ·rw [hG j a3] at h4
    rcases hold k y h2 with ⟨b2, b3⟩ | ⟨rfl, rfl⟩
    ·rw [hG k b3] at h5; exact A.mem.sep j k x y L M hjk a2 b2 h3 h4 h5 h6
    ·rw [hGn] at h5; cases h5
   ·rw [hGn] at h4; cases h4
  ·obtain ⟨F, hF⟩ := A.pre; exact ⟨F ++ [none], by rw [hF, List.append_assoc]⟩
  ·intro j x L h1 h2 h3
   rcases hold j x h1 with ⟨a2, a3⟩ | ⟨rfl, rfl⟩
   ·rw [hG j a3] at h3; exact A.own j x L a2 h2 h3
   ·rw [hGn] at h3; cases h3
 exact A1
theorem Sy.nilCel1 (A : Sy n T H ks G0 w0 G a w) (i e s : Nat) (f : Nat → List SV) {H' : Hp} (hi : lg H i = some (some (.blk [.sla none 0 0]))) (htot : ∀ k, ∃ vs, denL [] (f k) = some vs ∧ vs.length = s) (hH : stH (H ++ [some (.row e s 0 0 f)]) i (some (.blk [.sl H.length 0 0])) = H') : ∃ G', Sy n T H' ks G0 w0 G' a w := by
 have B := A.nilPlace e s f htot
 rw [lg_is] at hi
 refine ⟨_, B.cellEq i (cs := [.sla none 0 0]) (by rw [lg_is, List.getElem?_append_left (List.getElem?_eq_some_iff.1 hi).1]; exact hi) ?_ hH⟩
 have : den (G ++ [none]) (.sl H.length 0 0) = some (.slice none 0 0) := by
  unfold den
  rw [List.getElem?_append_right (by rw [A.mem.len]; exact Nat.le_refl _), A.mem.len]
  simp [rm]
 unfold denL
 rw [this]
 rfl
theorem Sy.layCell (A : Sy n T H ks G0 w0 G a w) (i j : Nat) {e s m c : Nat} {f : Nat → List SV} {cs : List SV} {H' : Option Addr → Nat → Hp} (hi : lg H i = some (some (.row e s m c f))) (hj : lg H j = some (some (.blk (.sl i m c :: cs)))) (hij : Nat.beq i j = false) (hH : ∀ ao cp, stH (stH H i none) j (some (.blk (.sla ao m cp :: cs))) = H' ao cp) :
  ∃ ao cp, Sy n T (H' ao cp) ks G0 w0 G a w ∧ LstAt ao s m f w (keys (H' ao cp) G) ∧ (∀ q : Addr, ao = some q → ks.contains q.block = true ∨ w0.heap.size ≤ q.block) := by
 obtain ⟨ao, cp, hd, A1, hl, hfr⟩ := A.layAt i hi rfl
 have hne : i ≠ j := fun e => by subst e; rw [Nat.beq_refl] at hij; cases hij
 have hj1 : lg (stH H i none) j = some (some (.blk (.sl i m c :: cs))) := by
  rw [lg_is] at hj ⊢
  rw [stH_is, List.getElem?_set_ne hne]; exact hj
 have A2 := A1.cellEq j (cs' := .sla ao m cp :: cs) hj1 (by
  unfold denL
  rw [hd]
  rfl) (hH ao cp)
 refine ⟨ao, cp, A2, LstAt.ok w _ w _ hl (Mix.refl _ _) (fun b hb => .inl ?_), hfr⟩
 obtain ⟨k, en, L, g1, g2, g3, g4⟩ := mem_keys.1 hb
 rw [← hH ao cp, stH_is] at g1
 by_cases hk : k = j
 ·subst hk
  rw [lg_is] at hj1
  exact mem_keys.2 ⟨k, _, L, hj1, rfl, g3, g4⟩
 ·rw [List.getElem?_set_ne (Ne.symm hk)] at g1
  exact mem_keys.2 ⟨k, en, L, g1, g2, g3, g4⟩
theorem NILC (i e s : Nat) (f : Nat → List SV) {H' : Hp} (A : Sy n T H ks G0 w0 G a w) (hi : lg H i = some (some (.blk [.sla none 0 0]))) (htot : ∀ k, ∃ vs, denL [] (f k) = some vs ∧ vs.length = s) (hH : stH (H ++ [some (.row e s 0 0 f)]) i (some (.blk [.sl H.length 0 0])) = H') (k : ∀ {G}, Sy n T H' ks G0 w0 G a w → Goal P Q K pos a w) : Goal P Q K pos a w := by
 obtain ⟨G', h⟩ := A.nilCel1 i e s f hi htot hH
 exact k h
theorem LAYC (i j : Nat) {e s m c : Nat} {f : Nat → List SV} {cs : List SV} (H' : Option Addr → Nat → Hp) (A : Sy n T H ks G0 w0 G a w) (hi : lg H i = some (some (.row e s m c f))) (hj : lg H j = some (some (.blk (.sl i m c :: cs)))) (hij : Nat.beq i j = false) (hH : ∀ ao cp, stH (stH H i none) j (some (.blk (.sla ao m cp :: cs))) = H' ao cp)
  (k : ∀ ao cp, Sy n T (H' ao cp) ks G0 w0 G a w → LstAt ao s m f w (keys (H' ao cp) G) → (∀ q : Addr, ao = some q → ks.contains q.block = true ∨ w0.heap.size ≤ q.block) → Goal P Q K pos a w) : Goal P Q K pos a w := by
 obtain ⟨ao, cp, h1, h2, h3⟩ := A.layCell i j hi hj hij hH
 exact k ao cp h1 h2 h3
structure OutC (e s m : Nat) (f : Nat → List SV) (L : Loc) (bt cp N : Nat) (w : World) : Prop where
 blk : Blk w L.b (L.pre ++ [Value.slice (some ⟨bt, 0, none⟩) m cp] ++ L.post).toArray L.t
 row : Given e s m f bt cp w
 ne : L.b ≠ bt
 lo : N ≤ L.b
 lt : N ≤ bt
theorem Sy.giveCore (A : Sy n T H [] G0 w0 G a w) (i q t : Nat) {e s m c : Nat} {f : Nat → List SV} (hm : 0 < m) (hi : lg H i = some (some (.blk [.sl q m c]))) (hq : lg H q = some (some (.row e s m c f))) (hiq : Nat.beq i q = false) (ht : look T t = some (.ptr i 0)) :
  ∃ L bt cp, Sy n ((t, adr L.b L.pre.length) :: T) H [] G0 w0 G a w ∧ OutC e s m f L bt cp w0.heap.size w ∧ (keys H G).contains L.b = true ∧ (keys H G).contains bt = true := by
 have hne : i ≠ q := fun e => by subst e; rw [Nat.beq_refl] at hiq; cases hiq
 rw [lg_is] at hi hq
 obtain ⟨L, vs, p1, p2, p3⟩ := A.mem.ent i _ hi
 have hGi : G[i]? = some (some L) := by
  cases hz : G[i]? with
  | none => rw [hz] at p1; cases p1
  | some p => rw [hz] at p1; simp only [Option.getD_some] at p1; rw [p1]
 obtain ⟨h1, h2, xs, h3, h4⟩ := A.mem.ent q _ hq
 obtain ⟨M, _, q1, _⟩ := row_range (A.mem.ent q _ hq) (k := 0) hm
 have hGq : G[q]? = some (some M) := by
  cases hz : G[q]? with
  | none => rw [hz] at q1; cases q1
  | some p => rw [hz] at q1; simp only [Option.getD_some] at q1; rw [q1]
 rw [hGq] at h2 h4
 have hpre : M.pre = [] := h2 M rfl
 have h4' : w.ownsRow 0 e s (.slice (some ⟨M.b, 0, none⟩) m (c + rm (some M))) m xs := by
  have : (Option.map (fun L : Loc => (⟨L.b, L.pre.length, none⟩ : Addr)) (some M)) = some ⟨M.b, 0, none⟩ := by simp [hpre]
  rw [← this]; exact h4
 have hvs : vs = [.slice (some ⟨M.b, 0, none⟩) m (c + rm (some M))] := by
  have : denL G [.sl q m c] = some [.slice (some ⟨M.b, 0, none⟩) m (c + rm (some M))] := by
   unfold denL den
   rw [hGq]
   simp [hpre, denL]
  rw [this] at p2; exact (Option.some.inj p2).symm
 subst hvs
 have own : ∀ {k : Nat} {en : Ent} {L : Loc}, H[k]? = some (some en) → en.mut = true → G[k]? = some (some L) → w0.heap.size ≤ L.b := fun h1 h2 h3 => (A.own _ _ _ h1 h2 h3).elim (fun h => by cases h) id
 refine ⟨L, M.b, c + rm (some M), A.slotEq t ht (by unfold den; rw [hGi]; rfl), ⟨p3, ⟨h1, xs, h3, h4'⟩, A.mem.sep i q _ _ L M hne hi hq rfl hGi hGq (fun h => h), own hi rfl hGi, own hq rfl hGq⟩, mem_keys.2 ⟨i, _, L, hi, rfl, hGi, rfl⟩, mem_keys.2 ⟨q, _, M, hq, rfl, hGq, rfl⟩⟩
theorem Sy.takeCore (A : Sy n T H ks G0 w0 G a w) (t : Nat) {e s m bt cp N : Nat} {f : Nat → List SV} {L : Loc} {H' : Hp} (ho : OutC e s m f L bt cp N w) (hN : w0.heap.size ≤ N) (hold : ∀ (i : Nat) (e : Ent) (M : Loc), H[i]? = some (some e) → G[i]? = some (some M) → ¬ e.empty → M.b < N) (ht : look T t = some (adr L.b L.pre.length)) (hH : H ++ [some (.row e s m 0 f)] ++ [some (.blk [.sl H.length m 0])] = H') :
  ∃ G', Sy n ((t, .ptr (H.length + 1) 0) :: T) H' ks G0 w0 G' a w ∧ ∀ b, (keys H' G').contains b = true → b < N ∨ b = L.b ∨ b = bt := by
 subst hH
 have hlen := A.mem.len
 obtain ⟨p1, xs, p2, p3⟩ := ho.row
 have A1 := A.takeEnt (L := ⟨bt, [], List.replicate cp undef, e⟩) (en := .row e s m 0 f) ⟨p1, fun L hL => by cases hL; rfl, xs, p2, by simpa [rm] using p3⟩ rfl (fun i e M h1 h2 h3 => by have := hold i e M h1 h2 h3; have := ho.lt; show M.b ≠ bt; omega) (Nat.le_trans hN ho.lt)
 have hG1 : (G ++ [some (⟨bt, [], List.replicate cp undef, e⟩ : Loc)])[H.length]? = some (some ⟨bt, [], List.replicate cp undef, e⟩) := by rw [List.getElem?_append_right (by omega), hlen]; simp
 have hd : denL (G ++ [some (⟨bt, [], List.replicate cp undef, e⟩ : Loc)]) [.sl H.length m 0] = some [.slice (some ⟨bt, 0, none⟩) m cp] := by
  unfold denL den
  rw [hG1]
  simp [rm, denL]
 have A2 := A1.takeEnt (L := L) (en := .blk [.sl H.length m 0]) ⟨L, _, rfl, hd, ho.blk⟩ rfl (fun i e' M h1 h2 h3 => by
  by_cases hi : i < H.length
  ·rw [List.getElem?_append_left hi] at h1
   rw [List.getElem?_append_left (by omega)] at h2
   have := hold i e' M h1 h2 h3; have := ho.lo; omega
  ·have hi2 : i = H.length := by
    have := (List.getElem?_eq_some_iff.1 h1).1
    simp at this; omega
   subst hi2
   rw [hG1] at h2
   cases h2
   exact fun z => ho.ne z.symm) (Nat.le_trans hN ho.lo)
 refine ⟨_, A2.slotEq t ht ?_, fun b hb => ?_⟩
 ·unfold den
  rw [List.getElem?_append_right (by simp; omega)]
  simp [hlen]
 ·obtain ⟨i, en, M, g1, g2, g3, g4⟩ := mem_keys.1 hb
  by_cases hi : i < H.length
  ·rw [List.append_assoc, List.getElem?_append_left hi] at g1
   rw [List.append_assoc, List.getElem?_append_left (by omega)] at g3
   exact .inl (by rw [← g4]; exact hold i en M g1 g3 (mut_full g2))
  ·by_cases hi2 : i = H.length
   ·subst hi2
    rw [List.getElem?_append_left (by simp; omega), hG1] at g3
    cases g3
    exact .inr (.inr g4.symm)
   ·have hi3 : i = H.length + 1 := by
     have := (List.getElem?_eq_some_iff.1 g1).1
     simp at this; omega
    subst hi3
    rw [List.getElem?_append_right (by simp; omega)] at g3
    simp [hlen] at g3
    subst g3
    exact .inr (.inl g4.symm)
end
end Go.Proofs.YtbbdanhpphlbpaaGreatDoor
namespace Go.Proofs.YtbbdanhpphlbpaaGreatDoor.Mc
open Go.RowKit
set_option linter.unusedVariables false
set_option linter.unusedSimpArgs false
set_option maxRecDepth 100000
set_option maxHeartbeats 2000000
set_option simprocs false
def Th.z : Th := ⟨0, fun _ => 0⟩
abbrev rnT (c : Cde) (s : Th) : List SV := rnS (.sla c.ao c.l.length c.cp) ((s.at_ : Nat) : Int) s.r
structure CoreOK (cs : List Cde) (ts : List Th) (nn : Nat) : Prop where
 n : ts.length = cs.length
 m : cs.length = nn
 r : ∀ k, k < cs.length → RCd (cs.getD k Cde.z).l
 a : ∀ k, k < cs.length → (ts.getD k Th.z).at_ ≤ (cs.getD k Cde.z).l.length
def setTh (cs : List Cde) (ts : List Th) (j old : Int) : List Th := ts.set j.toNat (paT (cs.getD j.toNat Cde.z).l (ts.getD j.toNat Th.z) old)
theorem setTh_len {cs : List Cde} {ts : List Th} {j old : Int} : (setTh cs ts j old).length = ts.length := by unfold setTh; simp
theorem gd_eq {α : Type} {l : List α} {k : Nat} {x d : α} (h : k < l.length) : (l.set k x).getD k d = x := by simp [List.getD, h]
theorem gd_ne {α : Type} {l : List α} {j k : Nat} {x d : α} (h : j ≠ k) : (l.set k x).getD j d = l.getD j d := by simp [List.getD, List.getElem?_set_ne (Ne.symm h)]
theorem CoreOK.set {cs : List Cde} {ts : List Th} {nn : Nat} (h : CoreOK cs ts nn) {j : Int} (hj : 0 ≤ j ∧ j < ((nn : Nat) : Int)) (old : Int) : CoreOK cs (setTh cs ts j old) nn := by
 have hn := h.n
 have hm := h.m
 refine ⟨by rw [setTh_len]; exact h.n, h.m, h.r, fun k hk => ?_⟩
 unfold setTh
 by_cases e : k = j.toNat
 ·subst e; rw [gd_eq (by omega)]; exact paT_le (h.r _ hk) (h.a _ hk) old
 ·rw [gd_ne e]; exact h.a k hk
abbrev _root_.Go.Proofs.YtbbdanhpphlbpaaGreatDoor.coR9 (cs : List Cde) (ts : List Th) (nn : Nat) : Ent := .row 125 10 nn 0 (fun zz => rnT (cs.getD zz Cde.z) (ts.getD zz Th.z))
theorem spotE_ (cs : List Cde) (ts : List Th) (nn : Nat) (hC : CoreOK cs ts nn) (j : Int) (hj : 0 ≤ j ∧ j < ((nn : Nat) : Int)) : FnI (CodesAt cs) Tryz.prog 131 [.el 0 10 j 0] [some (coR9 cs ts nn)] (Rt (.tup [.agg [.int .i64 (spL ((cs.getD ((j).toNat) Cde.z).l.getD ((((ts.getD ((j).toNat) Th.z).at_ : Nat) : Int)).toNat In.z)), .int .i64 (spM (ts.getD ((j).toNat) Th.z).r ((cs.getD ((j).toNat) Cde.z).l.getD ((((ts.getD ((j).toNat) Th.z).at_ : Nat) : Int)).toNat In.z))], .int .i64 (spD (ts.getD ((j).toNat) Th.z).r ((cs.getD ((j).toNat) Cde.z).l.getD ((((ts.getD ((j).toNat) Th.z).at_ : Nat) : Int)).toNat In.z)), .bool (mopI ((cs.getD ((j).toNat) Cde.z).l.getD ((((ts.getD ((j).toNat) Th.z).at_ : Nat) : Int)).toNat In.z))]) [some (coR9 cs ts nn)]) := by
 have hn := hC.n
 have hm := hC.m
 have hk : (j).toNat < ts.length := by omega
 exact FnI.mono (fnI_el (F := fun zz => rnT (cs.getD zz Cde.z) (ts.getD zz Th.z)) (F' := fun zz => rnT (cs.getD zz Cde.z) (ts.getD zz Th.z)) (j).toNat rfl (by omega) (spot_ (cs.getD ((j).toNat) Cde.z).l (cs.getD ((j).toNat) Cde.z).ao (cs.getD ((j).toNat) Cde.z).cp (ts.getD ((j).toNat) Th.z) (hC.r _ (by omega)) (hC.a _ (by omega))) rfl rfl (fun q hq => rfl) ⟨_, rfl, rfl⟩) (fun w ks h => h.at (by omega))
theorem passE_ (cs : List Cde) (ts : List Th) (nn : Nat) (hC : CoreOK cs ts nn) (j old : Int) (hj : 0 ≤ j ∧ j < ((nn : Nat) : Int)) : FnI (CodesAt cs) Tryz.prog 91 [.el 0 10 j 0, .int .i64 old] [some (coR9 cs ts nn)] (Rt (.bool (!((((ts.getD ((j).toNat) Th.z).at_ : Nat) : Int) == (((cs.getD ((j).toNat) Cde.z).l.length : Nat) : Int)))) [some (coR9 cs (setTh cs ts j old) nn)]) := by
 have hn := hC.n
 have hm := hC.m
 have hk : (j).toNat < ts.length := by omega
 exact FnI.mono (fnI_el (F := fun zz => rnT (cs.getD zz Cde.z) (ts.getD zz Th.z)) (F' := fun zz => rnT (cs.getD zz Cde.z) ((setTh cs ts j old).getD zz Th.z)) (j).toNat rfl (by omega) (by
   have e : rnT (cs.getD ((j).toNat) Cde.z) ((setTh cs ts j old).getD (j).toNat Th.z) = rnT (cs.getD ((j).toNat) Cde.z) (paT (cs.getD ((j).toNat) Cde.z).l (ts.getD ((j).toNat) Th.z) old) := by unfold setTh; rw [gd_eq hk]
   show FnI _ _ _ _ _ (Rt _ [some (.blk (rnT (cs.getD ((j).toNat) Cde.z) ((setTh cs ts j old).getD (j).toNat Th.z)))])
   rw [e]
   exact pass_ (cs.getD ((j).toNat) Cde.z).l (cs.getD ((j).toNat) Cde.z).ao (cs.getD ((j).toNat) Cde.z).cp (ts.getD ((j).toNat) Th.z) old (hC.r _ (by omega)) (hC.a _ (by omega))) rfl rfl (fun q hq => by show rnT _ _ = rnT _ _; unfold setTh; rw [gd_ne hq]) ⟨_, rfl, rfl⟩) (fun w ks h => h.at (by omega))
theorem readyE_ (cs : List Cde) (ts : List Th) (nn : Nat) (hC : CoreOK cs ts nn) (j : Int) (hj : 0 ≤ j ∧ j < ((nn : Nat) : Int)) : FnI (CodesAt cs) Tryz.prog 104 [.el 0 10 j 0] [some (coR9 cs ts nn)] (Rt (.tup [.agg (inQ9 ((cs.getD ((j).toNat) Cde.z).l.getD ((((ts.getD ((j).toNat) Th.z).at_ : Nat) : Int)).toNat In.z)), .bool (!((((ts.getD ((j).toNat) Th.z).at_ : Nat) : Int) == (((cs.getD ((j).toNat) Cde.z).l.length : Nat) : Int)))]) [some (coR9 cs ts nn)]) := by
 have hn := hC.n
 have hm := hC.m
 have hk : (j).toNat < ts.length := by omega
 exact FnI.mono (fnI_el (F := fun zz => rnT (cs.getD zz Cde.z) (ts.getD zz Th.z)) (F' := fun zz => rnT (cs.getD zz Cde.z) (ts.getD zz Th.z)) (j).toNat rfl (by omega) (ready_ (cs.getD ((j).toNat) Cde.z).l (cs.getD ((j).toNat) Cde.z).ao (cs.getD ((j).toNat) Cde.z).cp (((ts.getD ((j).toNat) Th.z).at_ : Nat) : Int) (ts.getD ((j).toNat) Th.z).r (by have := hC.a (j).toNat (by omega); omega)) rfl rfl (fun q hq => rfl) ⟨_, rfl, rfl⟩) (fun w ks h => h.at (by omega))
theorem ofI_ (cs : List Cde) (ts : List Th) (nn : Nat) (th : Int) (hth : 0 ≤ th ∧ th < ((nn : Nat) : Int)) : Fn Tryz.prog 79 [.ptr 0 0, .int .i64 th] [some (.blk [.sl 1 nn 0]), some (coR9 cs ts nn)] (Rt (.el 1 10 th 0) [some (.blk [.sl 1 nn 0]), some (coR9 cs ts nn)]) :=
 enterM (n := 24) (by kernel_rfl) Tryz.func79 rfl rfl rfl fun G w a h0 A => N9 21 A rfl rfl fun A => fork 15 A rfl
  (fun h1 A => absurd h1 (by simp; omega))
  (fun h1 A => N9 15 A rfl (ok_d (by omega) <| okE_nil) fun A => R9 A rfl h0 rfl rfl rfl)
theorem cAtI_ (cs : List Cde) (ts : List Th) (nn : Nat) (th : Int) (hth : 0 ≤ th ∧ th < ((nn : Nat) : Int)) : Fn Tryz.prog 45 [.ptr 0 0, .int .i64 th] [some (.blk [.sl 1 nn 0]), some (coR9 cs ts nn)] (Rt (.int .i64 (((ts.getD ((th).toNat) Th.z).at_ : Nat) : Int)) [some (.blk [.sl 1 nn 0]), some (coR9 cs ts nn)]) :=
 enterM (n := 11) (by kernel_rfl) Tryz.func45 rfl rfl rfl fun G w a h0 A => N9 9 A rfl rfl fun A => C9 [0, 1] (ofI_ cs ts nn th hth) A rfl fun A => q_eff A rfl (nckE rfl rfl rfl rfl (by omega)) fun A => N9 6 A rfl (ok_d (by omega) <| ok_d (by omega) <| okE_nil) fun A => R9 A rfl h0 rfl rfl rfl
theorem cSpotI_ (cs : List Cde) (ts : List Th) (nn : Nat) (th : Int) (hC : CoreOK cs ts nn) (hth : 0 ≤ th ∧ th < ((nn : Nat) : Int)) : FnI (CodesAt cs) Tryz.prog 92 [.ptr 0 0, .int .i64 th] [some (.blk [.sl 1 nn 0]), some (coR9 cs ts nn)] (Rt (.tup [.agg [.int .i64 (spL ((cs.getD ((th).toNat) Cde.z).l.getD ((((ts.getD ((th).toNat) Th.z).at_ : Nat) : Int)).toNat In.z)), .int .i64 (spM (ts.getD ((th).toNat) Th.z).r ((cs.getD ((th).toNat) Cde.z).l.getD ((((ts.getD ((th).toNat) Th.z).at_ : Nat) : Int)).toNat In.z))], .int .i64 (spD (ts.getD ((th).toNat) Th.z).r ((cs.getD ((th).toNat) Cde.z).l.getD ((((ts.getD ((th).toNat) Th.z).at_ : Nat) : Int)).toNat In.z)), .bool (mopI ((cs.getD ((th).toNat) Cde.z).l.getD ((((ts.getD ((th).toNat) Th.z).at_ : Nat) : Int)).toNat In.z))]) [some (.blk [.sl 1 nn 0]), some (coR9 cs ts nn)]) :=
 enterI (n := 14) (by kernel_rfl) Tryz.func92 rfl rfl rfl fun G w a h0 hI A => N9 11 A rfl rfl fun A => C9 [0, 1] (ofI_ cs ts nn th hth) A rfl fun A => I9 [1] CodesAt.ok hI (spotE_ cs ts nn hC th hth) A rfl fun A => N9 9 A rfl rfl fun A => R9 A rfl h0 rfl rfl rfl
theorem cPassI_ (cs : List Cde) (ts : List Th) (nn : Nat) (th old : Int) (hC : CoreOK cs ts nn) (hth : 0 ≤ th ∧ th < ((nn : Nat) : Int)) : FnI (CodesAt cs) Tryz.prog 58 [.ptr 0 0, .int .i64 th, .int .i64 old] [some (.blk [.sl 1 nn 0]), some (coR9 cs ts nn)] (Rt (.bool (!((((ts.getD ((th).toNat) Th.z).at_ : Nat) : Int) == (((cs.getD ((th).toNat) Cde.z).l.length : Nat) : Int)))) [some (.blk [.sl 1 nn 0]), some (coR9 cs (setTh cs ts th old) nn)]) :=
 enterI (n := 12) (by kernel_rfl) Tryz.func58 rfl rfl rfl fun G w a h0 hI A => N9 9 A rfl rfl fun A => C9 [0, 1] (ofI_ cs ts nn th hth) A rfl fun A => N9 1 A rfl rfl fun A => I9 [1] CodesAt.ok hI (passE_ cs ts nn hC th old hth) A rfl fun A => N9 4 A rfl rfl fun A => R9 A rfl h0 rfl rfl rfl
theorem cThreads_ (cs : List Cde) (ts : List Th) (nn : Nat)  : Fn Tryz.prog 68 [.ptr 0 0] [some (.blk [.sl 1 nn 0]), some (coR9 cs ts nn)] (Rt (.int .i64 ((nn : Nat) : Int)) [some (.blk [.sl 1 nn 0]), some (coR9 cs ts nn)]) :=
 enterM (n := 8) (by kernel_rfl) Tryz.func68 rfl rfl rfl fun G w a h0 A => N9 16 A rfl rfl fun A => R9 A rfl h0 rfl rfl rfl
theorem cReadyI_ (cs : List Cde) (ts : List Th) (nn : Nat) (th : Int) (hC : CoreOK cs ts nn) (hth : 0 ≤ th ∧ th < ((nn : Nat) : Int)) : FnI (CodesAt cs) Tryz.prog 69 [.ptr 0 0, .int .i64 th] [some (.blk [.sl 1 nn 0]), some (coR9 cs ts nn)] (Rt (.tup [.agg (inQ9 ((cs.getD ((th).toNat) Cde.z).l.getD ((((ts.getD ((th).toNat) Th.z).at_ : Nat) : Int)).toNat In.z)), .bool (!((((ts.getD ((th).toNat) Th.z).at_ : Nat) : Int) == (((cs.getD ((th).toNat) Cde.z).l.length : Nat) : Int)))]) [some (.blk [.sl 1 nn 0]), some (coR9 cs ts nn)]) :=
 enterI (n := 12) (by kernel_rfl) Tryz.func69 rfl rfl rfl fun G w a h0 hI A => N9 10 A rfl rfl fun A => C9 [0, 1] (ofI_ cs ts nn th hth) A rfl fun A => I9 [1] CodesAt.ok hI (readyE_ cs ts nn hC th hth) A rfl fun A => N9 7 A rfl rfl fun A => R9 A rfl h0 rfl rfl rfl
end Go.Proofs.YtbbdanhpphlbpaaGreatDoor.Mc
namespace Go.Proofs.YtbbdanhpphlbpaaGreatDoor.Mc
open Go.RowKit
set_option linter.unusedVariables false
set_option linter.unusedSimpArgs false
set_option maxRecDepth 100000
set_option maxHeartbeats 2000000
set_option simprocs false
theorem bfits_ (o1 s1 : Int)  : Fn Tryz.prog 171 [.int .i64 o1, .int .i64 s1] [] (Rt (.bool (((((((s1 == 1) || (s1 == 2)) || (s1 == 4)) || (s1 == 8)) && (decide (o1 ≥ 0))) && (decide (o1 ≤ (IntKind.wrap .i64 (8 - s1))))) && ((Int.tmod o1 s1) == 0))) []) :=
 enterM (n := 23) (by kernel_rfl) Tryz.func171 rfl rfl rfl fun G w a h0 A => M hX 8 A rfl rfl fun A => C9 [] (isSize_ s1) A rfl fun A => M hX 20 A rfl (ok_r <| ok_r <| ok_r <| ok_r <| ok_r <| ok_r <| ok_r <| ok_r <| ok_g (fun hg => (by first | omega | (simp at hg; omega))) <| ok_r <| ok_r <| okE_nil) fun A => R9 A rfl h0 rfl rfl rfl
theorem bchoose_ (a1 b1 m1 : Int)  : Fn Tryz.prog 178 [.int .i64 a1, .int .i64 b1, .int .i64 m1] [] (Rt (.int .i64 (IntKind.wrap .i64 ((((BitVec.ofInt (IntKind.bits .i64) (IntKind.wrap .i64 ((((BitVec.ofInt (IntKind.bits .i64) a1) &&& ~~~ (BitVec.ofInt (IntKind.bits .i64) m1)).toNat : Nat) : Int))) ||| (BitVec.ofInt (IntKind.bits .i64) (IntKind.wrap .i64 ((((BitVec.ofInt (IntKind.bits .i64) b1) &&& (BitVec.ofInt (IntKind.bits .i64) m1)).toNat : Nat) : Int)))).toNat : Nat) : Int))) []) :=
 enterM (n := 14) (by kernel_rfl) Tryz.func178 rfl rfl rfl fun G w a h0 A => M hX 18 A rfl rfl fun A => R9 A rfl h0 rfl rfl rfl
def bgeta0 (v1 o1 s1 : Int) : Int := if (!(((((((s1 == 1) || (s1 == 2)) || (s1 == 4)) || (s1 == 8)) && (decide (o1 ≥ 0))) && (decide (o1 ≤ (IntKind.wrap .i64 (8 - s1))))) && ((Int.tmod o1 s1) == 0))) = true then 0 else IntKind.wrap .i64 ((((BitVec.ofInt (IntKind.bits .i64) (Int.fdiv v1 (2 ^ min ((IntKind.wrap .i64 (8 * o1))).toNat (IntKind.bits .i64)))) &&& (BitVec.ofInt (IntKind.bits .i64) (IntKind.wrap .i64 ((IntKind.wrap .i64 (1 * 2 ^ min ((IntKind.wrap .i64 (8 * s1))).toNat (IntKind.bits .i64))) - 1)))).toNat : Nat) : Int)
theorem bgeta_ (v1 o1 s1 : Int) (hs : s1 = 1 ∨ s1 = 2 ∨ s1 = 4 ∨ s1 = 8) (ho : 0 ≤ o1 ∧ o1 ≤ 7) : Fn Tryz.prog 130 [.int .i64 v1, .int .i64 o1, .int .i64 s1] [] (Rt (.int .i64 (bgeta0 v1 o1 s1)) []) :=
 enterM (n := 18) (by kernel_rfl) Tryz.func130 rfl rfl rfl fun G w a h0 A => M hX 10 A rfl rfl fun A => C9 [] (bfits_ o1 s1) A rfl fun A => M hX 3 A rfl rfl fun A => fork 10 A rfl
  (fun h1 A => M hX 7 A rfl rfl fun A => R9 A rfl h0 rfl (by simp only [oneS, nb, nbL, nbH, bgeta0, if_pos h1]) rfl)
  (fun h1 A => M hX 4 A rfl rfl fun A => DRAW hX hmo [(5, .int .i64 (IntKind.wrap .i64 ((IntKind.wrap .i64 (1 * 2 ^ min ((IntKind.wrap .i64 (8 * s1))).toNat (IntKind.bits .i64))) - 1)))] [] A rfl (ok_d (by rw [wrap_in (by omega)]; omega) <| okE_nil) rfl rfl (by kernel_rfl) (effAll_nil _ _) ⟨.inl ⟨_, _, rfl, rfl, blow_ s1 hs⟩, trivial⟩ fun A => M hX 2 A rfl rfl fun A => R9 A rfl h0 rfl (by simp only [oneS, nb, nbL, nbH, bgeta0, if_neg (ne_true_of_eq_false h1)]) rfl)
def bputa0 (v1 o1 s1 x1 : Int) : Int := if (!(((((((s1 == 1) || (s1 == 2)) || (s1 == 4)) || (s1 == 8)) && (decide (o1 ≥ 0))) && (decide (o1 ≤ (IntKind.wrap .i64 (8 - s1))))) && ((Int.tmod o1 s1) == 0))) = true then v1 else IntKind.wrap .i64 ((((BitVec.ofInt (IntKind.bits .i64) (IntKind.wrap .i64 ((((BitVec.ofInt (IntKind.bits .i64) v1) &&& ~~~ (BitVec.ofInt (IntKind.bits .i64) (IntKind.wrap .i64 ((IntKind.wrap .i64 ((IntKind.wrap .i64 (1 * 2 ^ min ((IntKind.wrap .i64 (8 * s1))).toNat (IntKind.bits .i64))) - 1)) * 2 ^ min ((IntKind.wrap .i64 (8 * o1))).toNat (IntKind.bits .i64))))).toNat : Nat) : Int))) ||| (BitVec.ofInt (IntKind.bits .i64) (IntKind.wrap .i64 ((((BitVec.ofInt (IntKind.bits .i64) (IntKind.wrap .i64 (x1 * 2 ^ min ((IntKind.wrap .i64 (8 * o1))).toNat (IntKind.bits .i64)))) &&& (BitVec.ofInt (IntKind.bits .i64) (IntKind.wrap .i64 ((IntKind.wrap .i64 ((IntKind.wrap .i64 (1 * 2 ^ min ((IntKind.wrap .i64 (8 * s1))).toNat (IntKind.bits .i64))) - 1)) * 2 ^ min ((IntKind.wrap .i64 (8 * o1))).toNat (IntKind.bits .i64))))).toNat : Nat) : Int)))).toNat : Nat) : Int)
theorem bputa_ (v1 o1 s1 x1 : Int) (hs : s1 = 1 ∨ s1 = 2 ∨ s1 = 4 ∨ s1 = 8) (ho : 0 ≤ o1 ∧ o1 ≤ 7) : Fn Tryz.prog 138 [.int .i64 v1, .int .i64 o1, .int .i64 s1, .int .i64 x1] [] (Rt (.int .i64 (bputa0 v1 o1 s1 x1)) []) :=
 enterM (n := 25) (by kernel_rfl) Tryz.func138 rfl rfl rfl fun G w a h0 A => M hX 10 A rfl rfl fun A => C9 [] (bfits_ o1 s1) A rfl fun A => M hX 3 A rfl rfl fun A => fork 12 A rfl
  (fun h1 A => M hX 8 A rfl rfl fun A => R9 A rfl h0 rfl (by simp only [oneS, nb, nbL, nbH, bputa0, if_pos h1]) rfl)
  (fun h1 A => M hX 4 A rfl rfl fun A => DRAW hX hmo [(6, .int .i64 (IntKind.wrap .i64 ((IntKind.wrap .i64 (1 * 2 ^ min ((IntKind.wrap .i64 (8 * s1))).toNat (IntKind.bits .i64))) - 1))), (10, .int .i64 (IntKind.wrap .i64 ((((BitVec.ofInt (IntKind.bits .i64) (IntKind.wrap .i64 ((((BitVec.ofInt (IntKind.bits .i64) v1) &&& ~~~ (BitVec.ofInt (IntKind.bits .i64) (IntKind.wrap .i64 ((IntKind.wrap .i64 ((IntKind.wrap .i64 (1 * 2 ^ min ((IntKind.wrap .i64 (8 * s1))).toNat (IntKind.bits .i64))) - 1)) * 2 ^ min ((IntKind.wrap .i64 (8 * o1))).toNat (IntKind.bits .i64))))).toNat : Nat) : Int))) ||| (BitVec.ofInt (IntKind.bits .i64) (IntKind.wrap .i64 ((((BitVec.ofInt (IntKind.bits .i64) (IntKind.wrap .i64 (x1 * 2 ^ min ((IntKind.wrap .i64 (8 * o1))).toNat (IntKind.bits .i64)))) &&& (BitVec.ofInt (IntKind.bits .i64) (IntKind.wrap .i64 ((IntKind.wrap .i64 ((IntKind.wrap .i64 (1 * 2 ^ min ((IntKind.wrap .i64 (8 * s1))).toNat (IntKind.bits .i64))) - 1)) * 2 ^ min ((IntKind.wrap .i64 (8 * o1))).toNat (IntKind.bits .i64))))).toNat : Nat) : Int)))).toNat : Nat) : Int)))] [] A rfl (ok_d (by rw [wrap_in (by omega)]; omega) <| ok_d (by rw [wrap_in (by omega)]; omega) <| okE_nil) rfl rfl (by kernel_rfl) (effAll_nil _ _) ⟨.inl ⟨_, _, rfl, rfl, blow_ s1 hs⟩, ⟨.inl ⟨_, _, rfl, rfl, bchoose_ v1 (IntKind.wrap .i64 (x1 * 2 ^ min ((IntKind.wrap .i64 (8 * o1))).toNat (IntKind.bits .i64))) (IntKind.wrap .i64 ((IntKind.wrap .i64 ((IntKind.wrap .i64 (1 * 2 ^ min ((IntKind.wrap .i64 (8 * s1))).toNat (IntKind.bits .i64))) - 1)) * 2 ^ min ((IntKind.wrap .i64 (8 * o1))).toNat (IntKind.bits .i64)))⟩, trivial⟩⟩ fun A => M hX 2 A rfl rfl fun A => R9 A rfl h0 rfl (by simp only [oneS, nb, nbL, nbH, bputa0, if_neg (ne_true_of_eq_false h1)]) rfl)
end Go.Proofs.YtbbdanhpphlbpaaGreatDoor.Mc
namespace Go.Proofs.YtbbdanhpphlbpaaGreatDoor
open Go.RowKit
set_option linter.unusedVariables false
set_option linter.unusedSimpArgs false
set_option linter.unusedSectionVars false
section
variable {P : Program} {n : Nat} {ks : List Nat} {G0 : Gr} {w0 : World} {T : List (Nat × SV)} {H : Hp} {G : Gr} {a : Act} {w w' : World} {Q : Exit → Act → World → Prop} {K : List Fr} {ops : Array Oper} {o : Oper} {rest : List Oper} {fuel i : Nat} {listed : Array Bool}
theorem any_in {id : Nat} (f : Nat) (hmo : P.follows .mixedOrders = true) (hf : ops.size = f) (A : Sy n T H ks G0 w0 G a w) (h : ∀ {w}, Sy n T H ks G0 w0 G a w → wpAny P .any ops (wpK P Q K) f (Array.replicate f false) a w) : Goal P Q K (.code (.region id ops true)) a w := by
 subst hf
 refine wp_region_any hmo ?_
 have hB1 : Ms H ks G0 w0 G w.drew := A.ms.grow (Grow.refl w).drew
 exact h (hB1.sy A.size A.defers A.get)
theorem any_cut {p q : Prop} (h : p → q) (t : p) : q := h t
theorem any_at {rs : List Nat} (hr : Region.ready .any ops listed = rs) (hne : rs ≠ []) (h : ∀ i ∈ rs, wpOp P ops Q i (wpAny P .any ops Q fuel (listed.setIfInBounds i true)) a w) : wpAny P .any ops Q (fuel + 1) listed a w := by
 unfold wpAny
 rw [hr]
 exact ⟨fun e => absurd e hne, h⟩
theorem any_end (hr : Region.ready .any ops listed = []) (h : Goal P Q K .norm a w) : wpAny P .any ops (wpK P Q K) fuel listed a w := by
 cases fuel with
 | zero => exact ⟨hr, h⟩
 | succ f =>
  unfold wpAny
  rw [hr]
  exact ⟨fun _ => h, fun i hi => by cases hi⟩
theorem any_does (ho : ops[i]? = some o) (h : Does P ops o a w fun v w' => wpAny P .any ops Q fuel (listed.setIfInBounds i true) (a.put o.dst v) w') : wpOp P ops Q i (wpAny P .any ops Q fuel (listed.setIfInBounds i true)) a w := by
 unfold wpOp
 rcases h with ⟨hw, h⟩ | ⟨hw, h⟩
 ·simp only [ho, hw, if_true]
  refine .inl (Oper.wp_mono (fun a2 w2 h => ?_) (h Q))
  obtain ⟨v, rfl, h1⟩ := h
  exact h1
 ·simp only [ho, hw, Bool.false_eq_true, if_false]
  exact h
theorem any_eff {x : SV} {H' : Hp} (ho : ops[i]? = some o) (A : Sy n T H ks G0 w0 G a w) (hd : fitsD n o.dst = true) (h : EffOK P n ops ks G0 w0 T H o x H') (hk : ∀ {G a w}, Sy n (extS T o.dst x) H' ks G0 w0 G a w → wpAny P .any ops Q fuel (listed.setIfInBounds i true) a w) : wpOp P ops Q i (wpAny P .any ops Q fuel (listed.setIfInBounds i true)) a w := by
 refine any_does ho ?_
 rcases h G a w A with ⟨hw, h⟩ | ⟨hw, F, h1, h2⟩
 ·refine .inl ⟨hw, fun Q' => ?_⟩
  refine Oper.wp_mono (fun a' w' hh => ?_) (h Q')
  obtain ⟨v, rfl, F, h1, h2⟩ := hh
  exact ⟨v, rfl, hk (Sy.put (h2.sy A.size A.defers fun t y hy => den_mono F y (A.get t y hy)) hd h1)⟩
 ·exact .inr ⟨hw, hk (Sy.put (h2.sy A.size A.defers fun t y hy => den_mono F y (A.get t y hy)) hd h1)⟩
theorem does_R {f : Nat} {J : SV → World → World → Prop} {K : Value → World → Prop} (hf : FnR P f [] [] J) (A : Sy n T H ks G0 w0 G a w) (h1 : callS n ops T o = some (f, []))
  (hk : ∀ x v w', J x w w' → (∀ k, (keys H G).contains k = true → k < w.heap.size) → Sy n (extS T o.dst x) H ks G0 w0 G (a.put o.dst v) w' → K v w') : Does P ops o a w K := by
 obtain ⟨hd, us, hu, hdo⟩ := callS_do (P := P) (ops := ops) A h1 hf.1
 have hu' : us = [] := by cases hu; rfl
 subst hu'
 have hM : Mem [] [] w := ⟨rfl, fun i e h => by simp at h, fun i j e f L M _ h => by simp at h⟩
 refine hdo (hf.2 [] w [] hM rfl) fun e w' he => ?_
 obtain ⟨x, v, e1, rfl, hg, hJ⟩ := he
 refine ⟨v, rfl, hk x v _ hJ (fun k hz => ?_) (Sy.put ⟨A.size, A.defers, A.get, ⟨A.mem.len, fun i e hi => (A.mem.ent i e hi).mix hg.mix (fun _ _ _ => rfl), A.mem.sep⟩, A.pre, A.own, A.mix.grow hg⟩ hd (by simpa using den_mono G x e1))⟩
 obtain ⟨i, e, L, q1, q2, q3, q4⟩ := mem_keys.1 hz
 have := A.mem.ent i e q1
 rw [q3] at this
 rw [← q4]; exact EntOK.lt this (mut_full q2)
theorem any_agg {β : Type} {e s m t f : Nat} {l : List SV} {F : β → Nat → List SV} {R : β → Nat → World → World → Prop} (ho : ops[i]? = some o) (hf : FnR P f [] [] (fun x w w' => ∃ (L : β) (b cp : Nat), x = .agg (l ++ [.sla (some ⟨b, 0, none⟩) m cp]) ∧ R L b w w' ∧ w.heap.size ≤ b ∧ Given e s m (F L) b cp w')) (A : Sy n T H ks G0 w0 G a w) (hd : o.dst = some t) (h1 : callS n ops T o = some (f, []))
  (k : ∀ L b cp a' w' G', R L b w w' → w.heap.size ≤ b → (∀ k, (keys (H ++ [some (.row e s m 0 (F L))]) G').contains k = true → k < w.heap.size ∨ k = b) → Sy n ((t, .agg (l ++ [.sl H.length m 0])) :: extS T o.dst (.agg (l ++ [.sla (some ⟨b, 0, none⟩) m cp]))) (H ++ [some (.row e s m 0 (F L))]) ks G0 w0 G' a' w' → wpAny P .any ops Q fuel (listed.setIfInBounds i true) a' w') : wpOp P ops Q i (wpAny P .any ops Q fuel (listed.setIfInBounds i true)) a w := by
 refine any_does ho (does_R hf A h1 fun x v w' hJ hk A' => ?_)
 obtain ⟨L, b, cp, rfl, hR, hlo, hg⟩ := hJ
 have hl : look (extS T o.dst (.agg (l ++ [.sla (some ⟨b, 0, none⟩) m cp]))) t = some (.agg (l ++ [.sla (some ⟨b, 0, none⟩) m cp])) := by rw [hd]; simp [extS, look, Nat.beq_refl]
 have hlen := A'.mem.len
 have A2 := A'.takeRowG t (y := .agg (l ++ [.sl H.length m 0])) hg (fun i e L q1 q2 q3 => by
  have := A.mem.ent i e q1
  rw [q2] at this
  have := EntOK.lt this q3
  omega) (Nat.le_trans A.mix.size hlo) hl (by
   unfold den
   rw [denL_last (y := .sla (some ⟨b, 0, none⟩) m cp)]
   unfold den
   rw [List.getElem?_append_right (by omega), hlen]
   simp [rm])
 refine k L b cp _ w' _ hR hlo (fun q hq => ?_) A2
 obtain ⟨i, e', L', q1, q2, q3, q4⟩ := mem_keys.1 hq
 by_cases hi : i < H.length
 ·rw [List.getElem?_append_left hi] at q1
  rw [List.getElem?_append_left (by omega)] at q3
  exact .inl (hk q (mem_keys.2 ⟨i, e', L', q1, q2, q3, q4⟩))
 ·have hi2 : i = H.length := by
   have := (List.getElem?_eq_some_iff.1 q1).1
   simp at this; omega
  subst hi2
  rw [List.getElem?_append_right (by omega), hlen] at q3
  simp at q3
  subst q3
  exact .inr q4.symm
end
section
variable {n : Nat} {ks : List Nat} {G0 : Gr} {w0 : World} {T T' : List (Nat × SV)} {H H' : Hp} {G : Gr} {a : Act} {w : World} {Q : Exit → Act → World → Prop} {K K' : List Fr} {pos pos' : Pos} {E : Ob}
theorem aV9 {ops : Array Oper} {o : Oper} {i fuel : Nat} {listed : Array Bool} {QQ : Exit → Act → World → Prop} (x : SV) (ho : ops[i]? = some o) (A : Sy n T H ks G0 w0 G a w) (h : (fitsD n o.dst, stepS ⟨X, true⟩ n ops T H o) = (true, some (.val x E))) (hE : okE E) (hk : ∀ {G a w}, Sy n (extS T o.dst x) H ks G0 w0 G a w → wpAny Tryz.prog .any ops QQ fuel (listed.setIfInBounds i true) a w) : wpOp Tryz.prog ops QQ i (wpAny Tryz.prog .any ops QQ fuel (listed.setIfInBounds i true)) a w := by
 simp only [Prod.mk.injEq] at h
 exact any_eff ho A h.1 (eff_auto (X := ⟨X, true⟩) (out := .val x E) hX h.2 hE) hk
theorem fc9 {p : Nat → Prop} {a : Nat} {l : List Nat} (h : p a ∧ ∀ x ∈ l, p x) : ∀ x ∈ a :: l, p x := List.forall_mem_cons.2 h
theorem fn9 {p : Nat → Prop} : ∀ x ∈ ([] : List Nat), p x := List.forall_mem_nil _
end
section
variable {P : Program} {X : Tx} {n : Nat} {ks : List Nat} {G0 : Gr} {w0 : World} {T : List (Nat × SV)} {l : List Oper} {xs : List SV} {Q : Exit → Act → World → Prop} {ef rs0 : List Nat} {tb : List (List Nat × List Nat × Hp)}
end
section
variable {P : Program} {Y : Tb} {n : Nat} {ks : List Nat} {G0 : Gr} {w0 : World} {T : List (Nat × SV)} {H : Hp} {G : Gr} {a : Act} {w : World} {Q : Exit → Act → World → Prop} {K : List Fr} {pos : Pos} {ops : Array Oper} {o : Oper} {rest : List Oper}
theorem NILP (i e s : Nat) (f : Nat → List SV) (l r : List SV) {H' : Hp} (A : Sy n T H ks G0 w0 G a w) (hi : lg H i = some (some (.blk (l ++ .sla none 0 0 :: r)))) (htot : ∀ k, ∃ vs, denL [] (f k) = some vs ∧ vs.length = s) (hH : stH (H ++ [some (.row e s 0 0 f)]) i (some (.blk (l ++ .sl H.length 0 0 :: r))) = H') (k : ∀ {G}, Sy n T H' ks G0 w0 G a w → Goal P Q K pos a w) : Goal P Q K pos a w := by
 have B := A.nilPlace e s f htot
 rw [lg_is] at hi
 refine k (B.cellEq i (cs := l ++ .sla none 0 0 :: r) (by rw [lg_is, List.getElem?_append_left (List.getElem?_eq_some_iff.1 hi).1]; exact hi) (denL_at ?_ l r) hH)
 have : den (G ++ [none]) (.sl H.length 0 0) = some (.slice none 0 0) := by
  unfold den
  rw [List.getElem?_append_right (by rw [A.mem.len]; exact Nat.le_refl _), A.mem.len]
  simp [rm]
 rw [this]
 rfl
end
section
variable {P : Program} {Y : Tb} {n : Nat} {ks : List Nat} {G0 : Gr} {w0 : World} {T : List (Nat × SV)} {H : Hp} {G : Gr} {a : Act} {w : World} {Q : Exit → Act → World → Prop} {K : List Fr} {pos : Pos} {ops : Array Oper} {o : Oper} {rest : List Oper} {pre : World → Prop}
theorem keysN (h : ∀ (i : Nat) (e : Ent), H[i]? = some (some e) → e.mut = false) (b : Nat) : (keys H G).contains b = false := by
 cases hz : (keys H G).contains b with
 | false => rfl
 | true =>
  obtain ⟨i, e', L, q1, q2, _⟩ := mem_keys.1 hz
  rw [h i e' q1] at q2; cases q2
end
section
variable {P : Program} {Y : Tb} {n : Nat} {ks : List Nat} {G0 : Gr} {w0 : World} {T : List (Nat × SV)} {H : Hp} {G : Gr} {a : Act} {w : World} {ops : Array Oper} {o : Oper} {rest : List Oper} {Q : Exit → Act → World → Prop} {K : List Fr} {pos : Pos}
end
section
variable {P : Program} {Y : Tb} {n : Nat} {ks : List Nat} {G0 : Gr} {w0 : World} {T : List (Nat × SV)} {H : Hp} {G : Gr} {a : Act} {w : World} {ops : Array Oper} {o : Oper} {rest : List Oper} {Q : Exit → Act → World → Prop} {K : List Fr} {pos : Pos}
end
def adO (ao : Option Addr) (s : Nat) (j : Int) (q : Nat) : Option Addr := ao.map fun a => ⟨a.block, a.off + j.toNat * s + q, none⟩
section
variable {P : Program} {Y : Tb} {n : Nat} {ks : List Nat} {G0 : Gr} {w0 : World} {T : List (Nat × SV)} {H : Hp} {G : Gr} {a : Act} {w : World} {ops : Array Oper} {o : Oper} {Q : Exit → Act → World → Prop} {K : List Fr} {pos : Pos}
theorem ldoE {x : Operand} {ty s nn q : Nat} {j : Int} {ao : Option Addr} {f : Nat → List SV} {r : List SV} {v : SV} {z : Value} (hX : Y.ok P = true) (hop : o.op = .load ty x) (hg : guardS ops T o.guard = some .run) (hx : evS T x = some (.v (.pointer (adO ao s j q)))) (h0 : LstAt ao s nn f w0 ks) (hj : 0 ≤ j ∧ j < ((nn : Nat) : Int)) (hr : f j.toNat = r) (hc : cellS ⟨Y, true⟩ ty r q = some v) (hv : den [] v = some z) :
  EffOK P n ops ks G0 w0 T H o v H := fun G a w A => by
 have h1 := LstAt.ok w0 ks w ks h0 A.mix (fun b hb => .inl hb)
 rcases h1.2 with q | ⟨b, q', rfl, _, _, h4⟩
 ·omega
 have hw := gd_run (gd := none) A hg
 obtain ⟨d, op, ty, pos, af, gd⟩ := o
 simp only at hop
 subst hop
 have hvx := A.ev hx
 unfold den at hvx
 simp only [Option.some.injEq] at hvx
 obtain ⟨vs, v1, v2⟩ := h4 j.toNat (by omega)
 rw [hr] at v1
 have v3 : denL G r = some vs := by simpa using denL_mono G r v1
 have v4 : den G v = some z := by simpa using den_mono G v hv
 exact cellS_load (X := ⟨Y, true⟩) hX hc v3 v4 v2 hw hvx.symm ⟨[], by simpa using v4, by simpa using A.ms⟩
end
section
variable {P : Program} {n : Nat} {ks : List Nat} {G0 : Gr} {w0 : World} {T : List (Nat × SV)} {L : List Oper} {xs : List SV} {ef : List Nat} {tb : List (List Nat × List Nat × Hp)} {c rs : List Nat} {H : Hp} {bs : List Bool} {o : Oper} {l : List Oper} {i : Nat}
end
section
variable {P : Program} {n : Nat} {ks : List Nat} {G0 : Gr} {w0 : World} {T : List (Nat × SV)} {H : Hp} {G : Gr} {a : Act} {w : World} {l : List Oper} {Q : Exit → Act → World → Prop} {K : List Fr} {id : Nat}
end
end Go.Proofs.YtbbdanhpphlbpaaGreatDoor
namespace Go.Proofs.YtbbdanhpphlbpaaGreatDoor.Mc
open Go.RowKit
set_option linter.unusedVariables false
set_option linter.unusedSimpArgs false
set_option linter.unusedSectionVars false
set_option maxRecDepth 100000
def dbT : List Int := [0, 1, 56, 2, 57, 49, 28, 3, 61, 58, 42, 50, 38, 29, 17, 4, 62, 47, 59, 36, 45, 43, 51, 22, 53, 39, 33, 30, 24, 18, 12, 5, 63, 55, 48, 27, 60, 41, 37, 16, 46, 35, 44, 21, 52, 32, 23, 11, 54, 26, 40, 15, 34, 20, 31, 10, 25, 14, 19, 9, 13, 8, 7, 6]
abbrev dbA : Option Addr := some ⟨3, 0, none⟩
abbrev DbAt : Amb := LstAt dbA 1 64 (fun j => [.int .u8 (dbT.getD j 0)])
section
variable {P : Program} {Y : Tb} {n : Nat} {ks : List Nat} {G0 : Gr} {w0 : World} {T : List (Nat × SV)} {H : Hp} {G : Gr} {a : Act} {w : World} {ops : Array Oper} {o : Oper}
theorem ixgE {x y : Operand} {t nn e s b q : Nat} {j : Int} (hop : o.op = .indexAddr t x y) (hg : guardS ops T o.guard = some .run) (hx : evS T x = some (adr b q)) (hy : evS T y = some (.int .u64 j)) (ht : arrB P t nn e s = true) (hj : 0 ≤ j ∧ j < ((nn : Nat) : Int)) :
  EffOK P n ops ks G0 w0 T H o (.v (.pointer (adO (some ⟨b, q, none⟩) s j 0))) H := fun G a w A => by
 have hw := gd_run (gd := none) A hg
 obtain ⟨d, op, ty, pos, af, gd⟩ := o
 simp only at hop
 subst hop
 have hvx := A.ev hx
 have hvy := A.ev hy
 unfold den at hvx hvy
 simp only [Option.some.injEq] at hvx hvy
 refine does_val (v := .pointer (some ⟨b, q + j.toNat * s, none⟩)) hw ?_ ⟨[], rfl, by simpa using A.ms⟩
 have hq : (Instr.indexAt t (.pointer (some ⟨b, q, none⟩)) (.int .u64 j)).run P w = .ok (.pointer (some ⟨b, q + j.toNat * s, none⟩)) w := by
  unfold Instr.indexAt
  simp only [asIntOf, Sem.run_bind, Sem.run_pure, Result.andThen_ok, run_underlying (arr_facts ht).1, if_pos hj, run_size (arr_facts ht).2, Int.toNat_natCast, Addr.add_mid, Instr.sureAddr]
 unfold execOp
 simp only [hvx.symm, hvy.symm, Sem.run_bind, hq, Sem.run_pure, Result.andThen_ok]
end
theorem wrap_u64 (x : Int) : IntKind.wrap .u64 x = x % 18446744073709551616 := by
 simp only [IntKind.wrap, IntKind.signed, IntKind.bits]; simp
theorem tz_ix {x : Int} : 0 ≤ Int.fdiv (IntKind.wrap .u64 x) (2 ^ min ((58 : Int)).toNat (IntKind.bits .u64)) ∧ Int.fdiv (IntKind.wrap .u64 x) (2 ^ min ((58 : Int)).toNat (IntKind.bits .u64)) < ((64 : Nat) : Int) := by
 rw [wrap_u64]
 have e : (2 : Int) ^ min ((58 : Int)).toNat (IntKind.bits .u64) = 288230376151711744 := by rfl
 rw [e, Int.fdiv_eq_ediv_of_nonneg _ (by decide)]
 omega
end Go.Proofs.YtbbdanhpphlbpaaGreatDoor.Mc
namespace Go.Proofs.YtbbdanhpphlbpaaGreatDoor.Mc
open Go.RowKit
set_option linter.unusedVariables false
set_option linter.unusedSimpArgs false
set_option maxRecDepth 100000
set_option maxHeartbeats 2000000
set_option simprocs false
def tzX (v1 : Int) : Int := (Int.fdiv (IntKind.wrap .u64 ((IntKind.wrap .u64 ((((BitVec.ofInt (IntKind.bits .u64) v1) &&& (BitVec.ofInt (IntKind.bits .u64) (IntKind.wrap .u64 (0 - v1)))).toNat : Nat) : Int)) * 285870213051353865)) (2 ^ min (58 : Int).toNat (IntKind.bits .u64)))
theorem tzX_in (v1 : Int) : 0 ≤ tzX v1 ∧ tzX v1 < ((64 : Nat) : Int) := tz_ix
def tzN (v1 : Int) : Int := if v1 = 0 then 64 else IntKind.wrap .i64 (dbT.getD (tzX v1).toNat 0)
abbrev bitN (m k : Int) : Int := IntKind.wrap .i64 ((((BitVec.ofInt (IntKind.bits .i64) (Int.fdiv m (2 ^ min (k).toNat (IntKind.bits .i64)))) &&& (BitVec.ofInt (IntKind.bits .i64) 1)).toNat : Nat) : Int)
def cntN (m : Int) : Nat → Int
 | 0 => 0
 | k + 1 => cntN m k + bitN m (k : Int)
theorem bitN_le (m k : Int) : 0 ≤ bitN m k ∧ bitN m k ≤ 1 := by
 have h : ∀ x : BitVec (IntKind.bits .i64), (x &&& BitVec.ofInt (IntKind.bits .i64) 1).toNat ≤ 1 := fun x => by
  rw [BitVec.toNat_and]; exact Nat.and_le_right
 unfold bitN
 have := h (BitVec.ofInt (IntKind.bits .i64) (Int.fdiv m (2 ^ min (k).toNat (IntKind.bits .i64))))
 rw [wrap_in (by omega)]; omega
theorem cntN_le (m : Int) : ∀ k : Nat, 0 ≤ cntN m k ∧ cntN m k ≤ (k : Int)
 | 0 => by unfold cntN; omega
 | k + 1 => by have h1 := cntN_le m k; have h2 := bitN_le m (k : Int); unfold cntN; omega
def OS (o s : Int) : Prop := (o = 0 ∧ s = 1) ∨ (o = 1 ∧ s = 1) ∨ (o = 2 ∧ s = 1) ∨ (o = 3 ∧ s = 1) ∨ (o = 4 ∧ s = 1) ∨ (o = 5 ∧ s = 1) ∨ (o = 6 ∧ s = 1) ∨ (o = 7 ∧ s = 1) ∨ (o = 0 ∧ s = 2) ∨ (o = 2 ∧ s = 2) ∨ (o = 4 ∧ s = 2) ∨ (o = 6 ∧ s = 2) ∨ (o = 0 ∧ s = 4) ∨ (o = 4 ∧ s = 4) ∨ (o = 0 ∧ s = 8)
abbrev mskN (o s : Int) : Int := bmask0 (bplace0 o 0 s) s
theorem os_tz {o s : Int} (h : OS o s) : tzN (IntKind.wrap .u64 (mskN o s)) = o := by
 rcases h with ⟨rfl, rfl⟩ | ⟨rfl, rfl⟩ | ⟨rfl, rfl⟩ | ⟨rfl, rfl⟩ | ⟨rfl, rfl⟩ | ⟨rfl, rfl⟩ | ⟨rfl, rfl⟩ | ⟨rfl, rfl⟩ | ⟨rfl, rfl⟩ | ⟨rfl, rfl⟩ | ⟨rfl, rfl⟩ | ⟨rfl, rfl⟩ | ⟨rfl, rfl⟩ | ⟨rfl, rfl⟩ | ⟨rfl, rfl⟩ <;> decide +kernel
theorem os_cnt {o s : Int} (h : OS o s) : cntN (mskN o s) 8 = s := by
 rcases h with ⟨rfl, rfl⟩ | ⟨rfl, rfl⟩ | ⟨rfl, rfl⟩ | ⟨rfl, rfl⟩ | ⟨rfl, rfl⟩ | ⟨rfl, rfl⟩ | ⟨rfl, rfl⟩ | ⟨rfl, rfl⟩ | ⟨rfl, rfl⟩ | ⟨rfl, rfl⟩ | ⟨rfl, rfl⟩ | ⟨rfl, rfl⟩ | ⟨rfl, rfl⟩ | ⟨rfl, rfl⟩ | ⟨rfl, rfl⟩ <;> decide +kernel
theorem os_s {o s : Int} (h : OS o s) : s = 1 ∨ s = 2 ∨ s = 4 ∨ s = 8 := by unfold OS at h; omega
theorem os_o {o s : Int} (h : OS o s) : 0 ≤ o ∧ o ≤ 7 := by unfold OS at h; omega
theorem tz64_ (v1 : Int)  : FnI (DbAt) Tryz.prog 215 [.int .u64 v1] [] (Rt (.int .i64 (tzN v1)) []) :=
 enterI (n := 14) (by kernel_rfl) Tryz.func215 rfl rfl rfl fun G w a h0 hI A => M hX 12 A rfl rfl fun A => forkE 4 A rfl
  (fun h1 A => M hX 7 A rfl rfl fun A => R9 A rfl h0 rfl (by unfold tzN; rw [if_pos h1] <;> rfl) rfl)
  (fun h1 A => M hX 11 A rfl (ok_d (by omega) <| okE_nil) fun A => have A := sy_sayD A 10 (.int .u64 (tzX v1)) rfl (fun _ => rfl); q_eff A rfl (ixgE (nn := 64) (e := 5) rfl rfl rfl rfl (by kernel_rfl) (tzX_in v1)) fun A => q_eff A rfl (ldoE (q := 0) (v := .int .u8 (dbT.getD ((tzX v1)).toNat 0)) hX rfl rfl rfl hI (tzX_in v1) rfl rfl rfl) fun A => M hX 5 A rfl rfl fun A => R9 A rfl h0 rfl (by unfold tzN; rw [if_neg h1] <;> rfl) rfl)
theorem tz_ (v1 : Int)  : FnI (DbAt) Tryz.prog 179 [.int .u64 v1] [] (Rt (.int .i64 (tzN v1)) []) :=
 enterI (n := 8) (by kernel_rfl) Tryz.func179 rfl rfl rfl fun G w a h0 hI A => M hX 12 A rfl rfl fun A => I9 [] LstAt.ok hI (tz64_ v1) A rfl fun A => M hX 4 A rfl rfl fun A => R9 A rfl h0 rfl rfl rfl
theorem off_ (lc o s : Int) (hO : OS o s) : FnI (DbAt) Tryz.prog 139 [.agg [.int .i64 lc, .int .i64 (mskN o s)]] [] (Rt (.int .i64 o) []) :=
 enterI (n := 7) (by kernel_rfl) Tryz.func139 rfl rfl rfl fun G w a h0 hI A => N9 11 A rfl rfl fun A => I9 [] LstAt.ok hI (tz_ (IntKind.wrap .u64 (mskN o s))) A rfl fun A => N9 4 A rfl rfl fun A => R9 A rfl h0 rfl (congrArg (SV.int .i64) (os_tz hO)) rfl
theorem count_ (m : Int)  : Fn Tryz.prog 180 [.int .i64 m] [] (Rt (.int .i64 (cntN m 8)) []) :=
 enterM (n := 16) (by kernel_rfl) Tryz.func180 rfl rfl rfl fun G w a h0 A => N9 17 A rfl rfl fun A => LOOP1 (fun (k : Nat) => [(0, .int .i64 m), (2, .int .i64 0), (3, .int .i64 (cntN m k)), (5, .int .i64 (k : Int))]) (fun (k : Nat) => []) (fun (k : Nat) => k ≤ 8) (fun (k : Nat) => 8 - k) 0 (Nat.zero_le _) ((A.cut [0, 2, 3, 5] rfl).trunc 0 rfl rfl rfl (by simp only [List.length_cons, List.length_nil] at h0; omega)) fun k hK {G a w} A => N9 6 A rfl rfl fun A => forkD 6 A rfl
   (fun h1 A => N9 22 A rfl (ok_d (by have h1 := cntN_le m k; have h2 := bitN_le m (k : Int); unfold bitN at h2; omega) <| ok_d (by have h1 := cntN_le m k; have h2 := bitN_le m (k : Int); unfold bitN at h2; omega) <| okE_nil) fun A => N9 4 A rfl (ok_d (by have h1 := cntN_le m k; have h2 := bitN_le m (k : Int); unfold bitN at h2; omega) <| okE_nil) fun A => ⟨k + 1, _, (by omega), (by omega), ((A.cut [0, 2, 3, 5] rfl).trunc 0 rfl rfl rfl (by simp only [List.length_cons, List.length_nil] at h0; omega)).sayT (by rfl)⟩)
   (fun h1 A => N9 10 A rfl rfl fun A => R9 A rfl h0 rfl (by have : k = 8 := (by omega); subst this; rfl) rfl)
theorem siz_ (lc o s : Int) (hO : OS o s) : Fn Tryz.prog 140 [.agg [.int .i64 lc, .int .i64 (mskN o s)]] [] (Rt (.int .i64 s) []) :=
 enterM (n := 6) (by kernel_rfl) Tryz.func140 rfl rfl rfl fun G w a h0 A => N9 10 A rfl rfl fun A => C9 [] (count_ (mskN o s)) A rfl fun A => N9 4 A rfl rfl fun A => R9 A rfl h0 rfl (congrArg (SV.int .i64) (os_cnt hO)) rfl
end Go.Proofs.YtbbdanhpphlbpaaGreatDoor.Mc
namespace Go.Proofs.YtbbdanhpphlbpaaGreatDoor
open Go.RowKit
set_option linter.unusedVariables false
set_option linter.unusedSimpArgs false
set_option linter.unusedSectionVars false
section
variable {P : Program} {n : Nat} {ks : List Nat} {G0 : Gr} {w0 : World} {T : List (Nat × SV)} {H : Hp} {G : Gr} {a : Act} {w : World} {ops : Array Oper} {o : Oper}
theorem denL_split {G : Gr} : ∀ {l m : List SV} {vs : List Value}, denL G (l ++ m) = some vs → ∃ us ws, denL G l = some us ∧ denL G m = some ws ∧ vs = us ++ ws
 | [], m, vs, h => ⟨[], vs, rfl, h, rfl⟩
 | x :: l, m, vs, h => by
  obtain ⟨v, us, h1, h2, rfl⟩ := denL_cons h
  obtain ⟨u1, u2, h3, h4, rfl⟩ := denL_split h2
  exact ⟨v :: u1, u2, denL_mk h1 h3, h4, rfl⟩
theorem denL_closed {G G' : Gr} {l : List SV} (h : inL 0 l = true) : denL G l = denL G' l := by
 rw [← denL_take' (G := G) (k := 0) l h, ← denL_take' (G := G') (k := 0) l h, List.take_zero, List.take_zero]
theorem subE {I : Amb} {f i k : Nat} {args l b b' r : List SV} {x : SV} {H' : Hp} (hI : I.OK) (h0 : I w0 ks) (hf : FnI I P f (.ptr 0 0 :: args) [some (.blk b)] (Rt x [some (.blk b')])) (h1 : callS n ops T o = some (f, .ptr i k :: args)) (hi : lg H i = some (some (.blk (l ++ b ++ r)))) (hk : l.length = k) (hin : (inL 0 args && inL 0 b && inL 0 b' && inS 0 x) = true) (hH : stH H i (some (.blk (l ++ b' ++ r))) = H') : EffOK P n ops ks G0 w0 T H o x H' := fun G a w A => by
 subst hH; subst hk
 simp only [Bool.and_eq_true] at hin
 obtain ⟨⟨⟨c1, c2⟩, c3⟩, c4⟩ := hin
 obtain ⟨hd, us, hu, hdo⟩ := callS_do (P := P) (ops := ops) A h1 hf.1
 rw [lg_is] at hi
 obtain ⟨L, vs, p1, p2, p3⟩ := A.mem.ent i _ hi
 have hGi : G[i]? = some (some L) := by
  cases hz : G[i]? with
  | none => rw [hz] at p1; cases p1
  | some p => rw [hz] at p1; simp only [Option.getD_some] at p1; rw [p1]
 obtain ⟨v12, vr, e12, er, rfl⟩ := denL_split p2
 obtain ⟨vl, vb, el, eb, rfl⟩ := denL_split e12
 have hll := denL_len el
 have hM' : Mem [some (.blk b)] [some (⟨L.b, L.pre ++ vl, vr ++ L.post, L.t⟩ : Loc)] w := by
  refine ⟨rfl, fun j e hj => ?_, fun j q e f M N hjq h1 h2 => ?_⟩
  ·match j, hj with
   | 0, hj => cases hj; exact ⟨_, vb, rfl, by rw [denL_closed (G' := G) c2]; exact eb, by simpa [List.append_assoc] using p3⟩
   | j + 1, hj => simp at hj
  ·match j, q, h1, h2 with
   | 0, 0, _, _ => exact absurd rfl hjq
   | j + 1, _, h1, _ => simp at h1
   | 0, q + 1, _, h2 => simp at h2
 have hkeys : keys [some (Ent.blk b)] [some (⟨L.b, L.pre ++ vl, vr ++ L.post, L.t⟩ : Loc)] = [L.b] := rfl
 have hIw : I w (keys [some (Ent.blk b)] [some (⟨L.b, L.pre ++ vl, vr ++ L.post, L.t⟩ : Loc)]) := hI _ _ _ _ h0 A.mix fun c hc => by
  have : c = L.b := by simpa [hkeys] using hc
  subst this; exact A.own i _ L hi rfl hGi
 have hargs : denL [some (⟨L.b, L.pre ++ vl, vr ++ L.post, L.t⟩ : Loc)] (.ptr 0 0 :: args) = some us := by
  obtain ⟨v, vs2, q1, q2, rfl⟩ := denL_cons hu
  refine denL_mk ?_ (by rw [denL_closed (G' := G) c1]; exact q2)
  unfold den at q1 ⊢
  rw [hGi] at q1
  rw [← q1]
  simp [hll]
 refine hdo (hf.2 _ w us hM' hIw hargs) ?_
 rintro en w' ⟨y, H2, Fr, v, ⟨rfl, rfl⟩, d1, rfl, hM2, hmix, _, _, _⟩
 have hF : Fr = [] := by
  have := hM2.len
  cases Fr with
  | nil => rfl
  | cons _ _ => simp at this
 subst hF
 obtain ⟨L2, vb', q1, q2, q3⟩ := hM2.ent 0 _ rfl
 cases q1
 rw [hkeys] at hmix
 have hx : den G y = some v := by
  have e : denL G [y] = denL ([some (⟨L.b, L.pre ++ vl, vr ++ L.post, L.t⟩ : Loc)] ++ []) [y] := denL_closed (by unfold inL; rw [c4]; rfl)
  have e2 : denL ([some (⟨L.b, L.pre ++ vl, vr ++ L.post, L.t⟩ : Loc)] ++ []) [y] = some [v] := denL_mk d1 rfl
  rw [e2] at e
  obtain ⟨v', ws, g1, g2, g3⟩ := denL_cons e
  cases g2; cases g3; exact g1
 have hilt : i < H.length := (List.getElem?_eq_some_iff.1 hi).1
 have hold : ∀ (j : Nat) (e : Ent), (stH H i (some (.blk (l ++ b' ++ r))))[j]? = some (some e) → (j ≠ i ∧ H[j]? = some (some e)) ∨ (j = i ∧ e = .blk (l ++ b' ++ r)) := by
  intro j e h
  rw [stH_is] at h
  by_cases hj : j = i
  ·subst hj; rw [List.getElem?_set_self hilt] at h; cases h; exact .inr ⟨rfl, rfl⟩
  ·rw [List.getElem?_set_ne (Ne.symm hj)] at h; exact .inl ⟨hj, h⟩
 refine ⟨v, rfl, [], by rw [List.append_nil]; exact hx, ?_⟩
 rw [List.append_nil]
 refine ⟨⟨by rw [stH_is]; simpa using A.mem.len, ?_, ?_⟩, A.pre, ?_, A.mix.mix hmix fun c hc hk => ?_⟩
 ·intro j e h
  rcases hold j e h with ⟨k1, k2⟩ | ⟨rfl, rfl⟩
  ·refine (A.mem.ent j e k2).mix hmix fun hne M hM => ?_
   have hMG : G[j]? = some (some M) := by
    cases hq : G[j]? with
    | none => rw [hq] at hM; cases hM
    | some p => rw [hq] at hM; simp at hM; rw [hM]
   have := A.mem.sep i j _ e L M (Ne.symm k1) hi k2 rfl hGi hMG hne
   simp; exact fun e => this e.symm
  ·rw [hGi]
   refine ⟨L, vl ++ vb' ++ vr, rfl, denL_app (denL_app el ?_) er, by simpa [List.append_assoc] using q3⟩
   rw [denL_closed (G' := [some (⟨L.b, L.pre ++ vl, vr ++ L.post, L.t⟩ : Loc)] ++ []) c3]; exact q2
 ·intro j q e f M N hjk h1 h2 h3 h4 h5 h6
  have a1 : ∃ e', H[j]? = some (some e') ∧ e'.mut = e.mut := by
   rcases hold j e h1 with ⟨_, k2⟩ | ⟨rfl, rfl⟩
   ·exact ⟨e, k2, rfl⟩
   ·exact ⟨_, hi, rfl⟩
  have a2 : ∃ e', H[q]? = some (some e') ∧ ¬ e'.empty := by
   rcases hold q f h2 with ⟨_, k2⟩ | ⟨rfl, rfl⟩
   ·exact ⟨f, k2, h6⟩
   ·exact ⟨_, hi, fun h => h⟩
  obtain ⟨e', b1, b2⟩ := a1
  obtain ⟨f', b3, b4⟩ := a2
  exact A.mem.sep j q e' f' M N hjk b1 b3 (by rw [b2]; exact h3) h4 h5 b4
 ·intro j e M h1 h2 h3
  rcases hold j e h1 with ⟨_, k2⟩ | ⟨rfl, rfl⟩
  ·exact A.own j e M k2 h2 h3
  ·exact A.own j _ M hi rfl h3
 ·cases hq : [L.b].contains c with
  | false => rfl
  | true =>
   have : c = L.b := by simpa using hq
   subst this
   rcases A.own i _ L hi rfl hGi with h | h
   ·rw [h] at hk; cases hk
   ·omega
end
abbrev mmS (r : Rg) : List SV := [.int .i64 (r 0), .int .i64 (r 1), .int .i64 (r 2)]
theorem lt3 {j : Int} (h : 0 ≤ j ∧ j < 3) : j = 0 ∨ j = 1 ∨ j = 2 := by omega
section
variable {P : Program} {Y : Tb} {n : Nat} {ks : List Nat} {G0 : Gr} {w0 : World} {T : List (Nat × SV)} {H : Hp} {G : Gr} {a : Act} {w : World} {ops : Array Oper} {o : Oper}
theorem stmE {x y : Operand} {ty i : Nat} {j v : Int} {r : Rg} {ti : TI} (hX : Y.ok P = true) (hop : o.op = .store ty x y) (hg : guardS ops T o.guard = some .run) (hx : evS T x = some (.ix (.ptr i 0) 1 3 j 0)) (hy : evS T y = some (.int .i64 v)) (hH : lg H i = some (some (.blk (mmS r)))) (hti : Y.get ty = some ti) (hrow : ti.row = none) (hone : ti.one = true) (hj : 0 ≤ j ∧ j < 3) :
  EffOK P n ops ks G0 w0 T H o (.tup []) (stH H i (some (.blk (mmS (updR r j.toNat v))))) := fun G a w A => by
 have hw := gd_run (gd := none) A hg
 obtain ⟨d, op, ty', pos, af, gd⟩ := o
 simp only at hop
 subst hop
 have hvx := A.ev hx
 have hvy := A.ev hy
 have key : ∀ k : Nat, j = (k : Int) → (∀ q : List SV, sp (0 + k) (mmS r) [.int .i64 v] = some q → q = mmS (updR r j.toNat v) → Does P ops { dst := d, op := .store ty x y, type := ty', pos := pos, after := af, guard := gd } a w fun v' w' => ∃ F, den (G ++ F) (.tup []) = some v' ∧ Ms (stH H i (some (.blk (mmS (updR r j.toNat v))))) ks G0 w0 (G ++ F) w') := by
  intro k hk q hr e
  rw [hk, ix_ptr (q := 0 + k) k (by omega)] at hvx
  have hs : storeS ⟨Y, true⟩ H ty (.ptr i (0 + k)) (.int .i64 v) = some (i, q, []) := by
   have ht : Tx.get ⟨Y, true⟩ ty = some ti := hti
   simp only [storeS, hH, ht, hrow, hone, hr]
   rfl
  refine storeS_do (X := ⟨Y, true⟩) hX A hs okE_nil hvx hvy rfl rfl hw fun cs L vs' w' a1 a2 a3 a4 a5 => ⟨[], rfl, ?_⟩
  subst e
  simpa using (A.turn a1 a2 a3 a4 a5).ms
 rcases lt3 hj with rfl | rfl | rfl
 ·exact key 0 rfl _ rfl rfl
 ·exact key 1 rfl _ rfl rfl
 ·exact key 2 rfl _ rfl rfl
theorem ldmE {x : Operand} {ty i : Nat} {j : Int} {r : Rg} {ti : TI} (hX : Y.ok P = true) (hop : o.op = .load ty x) (hg : guardS ops T o.guard = some .run) (hx : evS T x = some (.ix (.ptr i 0) 1 3 j 0)) (hH : lg H i = some (some (.blk (mmS r)))) (hti : Y.get ty = some ti) (hrow : ti.row = none) (hone : ti.one = true) (hj : 0 ≤ j ∧ j < 3) :
  EffOK P n ops ks G0 w0 T H o (.int .i64 (r j.toNat)) H := fun G a w A => by
 have hw := gd_run (gd := none) A hg
 obtain ⟨d, op, ty', pos, af, gd⟩ := o
 simp only at hop
 subst hop
 have hvx := A.ev hx
 have key : ∀ k : Nat, j = (k : Int) → (lg (mmS r) (0 + k) = some (.int .i64 (r j.toNat))) → Does P ops { dst := d, op := .load ty x, type := ty', pos := pos, after := af, guard := gd } a w fun v' w' => ∃ F, den (G ++ F) (.int .i64 (r j.toNat)) = some v' ∧ Ms H ks G0 w0 (G ++ F) w' := by
  intro k hk hr
  rw [hk, ix_ptr (q := 0 + k) k (by omega)] at hvx
  have hs : loadS ⟨Y, true⟩ H ty (.ptr i (0 + k)) = some (.int .i64 (r j.toNat), []) := by
   have ht : Tx.get ⟨Y, true⟩ ty = some ti := hti
   simp only [loadS, baseS, hH, selL, cellS, ht, hrow, hone, hr, cond_true]
  obtain ⟨z, hz, h3⟩ := loadS_do (X := ⟨Y, true⟩) (P := P) (ops := ops) (d := d) (ty := ty') (pos := pos) (af := af) (gd := gd) (x := x) hX A hs hvx
  exact h3 (fun p hp => by cases hp) rfl hw _ ⟨[], by simpa using hz, by simpa using A.ms⟩
 rcases lt3 hj with rfl | rfl | rfl
 ·exact key 0 rfl rfl
 ·exact key 1 rfl rfl
 ·exact key 2 rfl rfl
end
end Go.Proofs.YtbbdanhpphlbpaaGreatDoor
namespace Go.Proofs.YtbbdanhpphlbpaaGreatDoor.Mc
open Go.RowKit
set_option linter.unusedVariables false
set_option linter.unusedSimpArgs false
set_option maxRecDepth 100000
set_option maxHeartbeats 2000000
set_option simprocs false
theorem mAt_ (m : Nat → Int) (lc : Int) (hl : 0 ≤ lc ∧ lc < 3) : Fn Tryz.prog 78 [.ptr 0 0, .int .i64 lc] [some (.blk [.int .i64 (m 0), .int .i64 (m 1), .int .i64 (m 2)])] (Rt (.int .i64 (m lc.toNat)) [some (.blk [.int .i64 (m 0), .int .i64 (m 1), .int .i64 (m 2)])]) :=
 enterM (n := 16) (by kernel_rfl) Tryz.func78 rfl rfl rfl fun G w a h0 A => N9 16 A rfl rfl fun A => fork 10 A rfl
  (fun h1 A => absurd h1 (by simp; omega))
  (fun h1 A => N9 9 A rfl (ok_d (by omega) <| okE_nil) fun A => q_eff A rfl (ldmE (r := m) hX rfl rfl rfl rfl rfl rfl rfl (by omega)) fun A => N9 4 A rfl rfl fun A => R9 A rfl h0 rfl rfl rfl)
theorem mRead_ (m : Nat → Int) (lc o s : Int) (hl : 0 ≤ lc ∧ lc < 3) (hO : OS o s) : FnI (DbAt) Tryz.prog 108 [.ptr 0 0, .agg [.int .i64 lc, .int .i64 (mskN o s)]] [some (.blk [.int .i64 (m 0), .int .i64 (m 1), .int .i64 (m 2)])] (Rt (.int .i64 (bgeta0 (m lc.toNat) o s)) [some (.blk [.int .i64 (m 0), .int .i64 (m 1), .int .i64 (m 2)])]) :=
 enterI (n := 14) (by kernel_rfl) Tryz.func108 rfl rfl rfl fun G w a h0 hI A => N9 7 A rfl rfl fun A => ANY hmo [.ptr 0 0, .ptr 1 0, .int .i64 lc, .int .i64 (m (lc).toNat), .agg [.int .i64 lc, .int .i64 (mskN o s)], .int .i64 o, .agg [.int .i64 lc, .int .i64 (mskN o s)], .int .i64 s, .int .i64 (bgeta0 (m (lc).toNat) o s), .int .i64 (bgeta0 (m (lc).toNat) o s)] [3] [] 0 [([], [], [some (.blk [.int .i64 (m 0), .int .i64 (m 1), .int .i64 (m 2)]), some (.blk [.int .i64 lc, .int .i64 (mskN o s)])]), ([3], [], [some (.blk [.int .i64 (m 0), .int .i64 (m 1), .int .i64 (m 2)]), some (.blk [.int .i64 lc, .int .i64 (mskN o s)])])] [[true, true, true, true, true, false, true, false, false, false], [false, true, false, false, true, true, true, true, true, true]] A rfl rfl rfl rfl (by kernel_rfl) rfl (by kernel_rfl) ⟨⟨oV9 0 rfl rfl, ⟨oV9 0 rfl rfl, ⟨oV9 0 rfl rfl, ⟨oE9 1 rfl (callE [0] (mAt_ m lc hl) rfl rfl rfl rfl rfl rfl rfl), ⟨oV9 0 rfl rfl, ⟨oV9 0 rfl rfl, trivial⟩⟩⟩⟩⟩⟩, ⟨⟨oV9 1 rfl rfl, ⟨oV9 1 rfl rfl, ⟨oE9 1 rfl (callIE [] LstAt.ok hI (off_ lc o s hO) rfl rfl rfl rfl rfl rfl rfl), ⟨oV9 1 rfl rfl, ⟨oE9 1 rfl (eff_pure rfl rfl (siz_ lc o s hO)), ⟨oE9 1 rfl (eff_pure rfl rfl (bgeta_ (m (lc).toNat) o s (os_s hO) (os_o hO))), ⟨oV9 1 rfl rfl, trivial⟩⟩⟩⟩⟩⟩⟩, trivial⟩⟩ fun A => N9 2 A rfl rfl fun A => R9 A rfl h0 rfl rfl rfl
theorem mWrite_ (m : Nat → Int) (lc o s v : Int) (hl : 0 ≤ lc ∧ lc < 3) (hO : OS o s) : FnI (DbAt) Tryz.prog 106 [.ptr 0 0, .agg [.int .i64 lc, .int .i64 (mskN o s)], .int .i64 v] [some (.blk [.int .i64 (m 0), .int .i64 (m 1), .int .i64 (m 2)])] (Rt (.tup []) [some (.blk [.int .i64 ((updR m lc.toNat (bputa0 (m lc.toNat) o s v)) 0), .int .i64 ((updR m lc.toNat (bputa0 (m lc.toNat) o s v)) 1), .int .i64 ((updR m lc.toNat (bputa0 (m lc.toNat) o s v)) 2)])]) :=
 enterI (n := 31) (by kernel_rfl) Tryz.func106 rfl rfl rfl fun G w a h0 hI A => N9 18 A rfl rfl fun A => fork 13 A rfl
  (fun h1 A => absurd h1 (by simp; omega))
  (fun h1 A => N9 3 A rfl rfl fun A => ANY hmo [.ptr 0 0, .ptr 1 0, .int .i64 lc, .ptr 0 0, .ptr 1 0, .int .i64 lc, .ptr 0 0, .ix (.ptr 0 0) 1 3 lc 0, .int .i64 (m (lc).toNat), .agg [.int .i64 lc, .int .i64 (mskN o s)], .int .i64 o, .agg [.int .i64 lc, .int .i64 (mskN o s)], .int .i64 s, .int .i64 v, .int .i64 (bputa0 (m (lc).toNat) o s v), .ptr 0 0, .ix (.ptr 0 0) 1 3 lc 0, .tup []] [17] [] 0 [([], [], [some (.blk [.int .i64 (m 0), .int .i64 (m 1), .int .i64 (m 2)]), some (.blk [.int .i64 lc, .int .i64 (mskN o s)])]), ([17], [], [some (.blk [.int .i64 ((updR m (lc).toNat (bputa0 (m (lc).toNat) o s v)) 0), .int .i64 ((updR m (lc).toNat (bputa0 (m (lc).toNat) o s v)) 1), .int .i64 ((updR m (lc).toNat (bputa0 (m (lc).toNat) o s v)) 2)]), some (.blk [.int .i64 lc, .int .i64 (mskN o s)])])] [[true, true, true, true, true, true, true, true, true, true, true, true, true, true, true, true, true, true], [false, false, false, false, false, false, false, false, false, false, false, false, false, false, false, true, false, false]] A rfl rfl rfl rfl (by kernel_rfl) rfl (by kernel_rfl) ⟨⟨oV9 0 rfl rfl, ⟨oV9 0 rfl rfl, ⟨oV9 0 rfl rfl, ⟨oV9 0 rfl rfl, ⟨oV9 0 rfl rfl, ⟨oV9 0 rfl rfl, ⟨oV9 0 rfl rfl, ⟨oV9 0 rfl (ok_d (by omega) <| okE_nil), ⟨oE9 0 rfl (ldmE (r := m) hX rfl rfl rfl rfl rfl rfl rfl (by omega)), ⟨oV9 0 rfl rfl, ⟨oE9 0 rfl (callIE [] LstAt.ok hI (off_ lc o s hO) rfl rfl rfl rfl rfl rfl rfl), ⟨oV9 0 rfl rfl, ⟨oE9 0 rfl (eff_pure rfl rfl (siz_ lc o s hO)), ⟨oV9 0 rfl rfl, ⟨oE9 0 rfl (eff_pure rfl rfl (bputa_ (m (lc).toNat) o s v (os_s hO) (os_o hO))), ⟨oV9 0 rfl rfl, ⟨oV9 0 rfl (ok_d (by omega) <| okE_nil), ⟨oE9 1 rfl (stmE (i := 0) (r := m) hX rfl rfl rfl rfl rfl rfl rfl rfl (by omega)), trivial⟩⟩⟩⟩⟩⟩⟩⟩⟩⟩⟩⟩⟩⟩⟩⟩⟩⟩, ⟨⟨oV9 1 rfl rfl, trivial⟩, trivial⟩⟩ fun A => ENDN (R9 A rfl h0 rfl rfl rfl))
end Go.Proofs.YtbbdanhpphlbpaaGreatDoor.Mc
namespace Go.Proofs.YtbbdanhpphlbpaaGreatDoor.Mc
open Go.RowKit
set_option linter.unusedVariables false
set_option linter.unusedSimpArgs false
set_option maxRecDepth 100000
set_option maxHeartbeats 2000000
set_option simprocs false
theorem cloneN_ (cp : Nat)  : Fn Tryz.prog 87 [.sla none (([] : List In).length) cp] [] (Rt (.sl 0 (([] : List In).length) 0) [some (.row 63 17 (([] : List In).length) 0 (fun zz => insS (([] : List In).getD zz In.z)))]) :=
 enterM (n := 8) (by kernel_rfl) Tryz.func87 rfl rfl rfl fun G w a h0 A => N9 9 A rfl rfl fun A => NILQ (r := .tt) A rfl rfl rfl rfl rfl (e := 63) (by kernel_rfl) rfl fun A => N9 9 A rfl rfl fun A => have A := A.nilRow 2 63 17 (fun zz => insS (([] : List In).getD zz In.z)) rfl (fun z => ⟨_, rfl, rfl⟩); RET hX [0] (x := .sl 0 0 0) A ⟨rfl, rfl⟩ rfl rfl rfl rfl rfl rfl rfl rfl h0
theorem cloneE_ (ad : Addr) (cp : Nat)  : Fn Tryz.prog 87 [.sla (some ad) (([] : List In).length) cp] [] (Rt (.sl 0 (([] : List In).length) 0) [some (.row 63 17 (([] : List In).length) 0 (fun zz => insS (([] : List In).getD zz In.z)))]) :=
 enterM (n := 8) (by kernel_rfl) Tryz.func87 rfl rfl rfl fun G w a h0 A => N9 9 A rfl rfl fun A => NILQ (r := .ff) A rfl rfl rfl rfl rfl (e := 63) (by kernel_rfl) rfl fun A => N9 9 A rfl rfl fun A => APP0 (e := 63) (s := 17) A rfl rfl rfl rfl rfl rfl (by kernel_rfl) fun A => N9 4 A rfl rfl fun A => have A := A.rowAs 0 0 (fun zz => insS (([] : List In).getD zz In.z)) rfl rfl (fun k hk => by omega) (fun z => ⟨_, rfl, rfl⟩); RET hX [0] (x := .sl 0 0 0) A ⟨rfl, rfl⟩ rfl rfl rfl rfl rfl rfl rfl rfl h0
theorem cloneS_ (l : List In) (ad : Addr) (cp : Nat) (hl : l.length ≠ 0) (hn : l.length ≤ 1000000) : FnI (CdAt (some ad) l) Tryz.prog 87 [.sla (some ad) l.length cp] [] (Rt (.sl 0 l.length 0) [some (.row 63 17 l.length 0 (fun zz => insS (l.getD zz In.z)))]) :=
 enterI (n := 8) (by kernel_rfl) Tryz.func87 rfl rfl rfl fun G w a h0 hI A => N9 9 A rfl rfl fun A => NILQ (r := .ff) A rfl rfl rfl rfl rfl (e := 63) (by kernel_rfl) rfl fun A => N9 9 A rfl rfl fun A => ADOPTD 6 hI hl A rfl rfl rfl rfl fun _ A => APPL hX l.length (fun zz => insS (l.getD zz In.z)) A rfl rfl rfl rfl (Nat.le_refl _) (by omega) hn (by omega) (fun k hk => by omega) (fun k hk => by show insS _ = insS _; rw [Nat.zero_add]) (fun z => ⟨_, rfl, rfl⟩) (fun k hk => ⟨_, rfl, okE_nil⟩) fun A => N9 4 A rfl rfl fun A => RET hX [2] (x := .sl 0 l.length 0) A ⟨rfl, rfl⟩ rfl rfl rfl rfl rfl rfl rfl rfl h0
theorem clone_ (l : List In) (ao : Option Addr) (cp : Nat) (hn : l.length ≤ 1000000) : FnI (CdAt ao l) Tryz.prog 87 [.sla ao l.length cp] [] (Rt (.sl 0 l.length 0) [some (.row 63 17 l.length 0 (fun zz => insS (l.getD zz In.z)))]) := by
 by_cases h0 : l.length = 0
 ·have e := List.eq_nil_of_length_eq_zero h0
  subst e
  cases ao with
  | none => exact (cloneN_ cp).toI
  | some ad => exact (cloneE_ ad cp).toI
 ·cases ao with
  | none => exact ⟨(cloneN_ cp).1, fun G w vs hM hI hv => by
    rcases hI.2 with h | ⟨b, o, h, _⟩
    ·exact absurd h h0
    ·cases h⟩
  | some ad => exact cloneS_ l ad cp h0 hn
end Go.Proofs.YtbbdanhpphlbpaaGreatDoor.Mc
namespace Go.Proofs.YtbbdanhpphlbpaaGreatDoor.Mc
open Go.RowKit
set_option linter.unusedVariables false
set_option linter.unusedSimpArgs false
set_option maxRecDepth 100000
set_option maxHeartbeats 2000000
set_option simprocs false
def bnA : Int → Int := fun _ => 0
def bnB : Int → Int := fun th => if th = 0 then 1 else 0
theorem bufA0_ (m : Nat → Int) (cs : List Cde) (ts : List Th) (nn : Nat)  : Fn Tryz.prog 39 [.ptr 0 0, .z9] [some (.blk [.ptr 1 0, .int .i64 (m 0), .int .i64 (m 1), .int .i64 (m 2), .sla none 0 0, .sla none 0 0, .sla none 0 0]), some (.blk [.sl 2 nn 0]), some (coR9 cs ts nn)] (Rt (.int .i64 0) [some (.blk [.ptr 1 0, .int .i64 (m 0), .int .i64 (m 1), .int .i64 (m 2), .sla none 0 0, .sla none 0 0, .sla none 0 0]), some (.blk [.sl 2 nn 0]), some (coR9 cs ts nn)]) :=
 enterM (n := 18) (by kernel_rfl) Tryz.func39 rfl rfl rfl fun G w a h0 A => N9 16 A rfl rfl fun A => fork 10 A rfl
  (fun h1 A => absurd h1 (by decide))
  (fun h1 A => N9 10 A rfl (ok_d (by decide) <| okE_nil) fun A => have A := sy_sayD A 15 (.ptr 0 4) rfl (ix_ptr 0 rfl); N9 6 A rfl rfl fun A => R9 A rfl h0 rfl rfl rfl)
theorem bufA1_ (m : Nat → Int) (cs : List Cde) (ts : List Th) (nn : Nat)  : Fn Tryz.prog 39 [.ptr 0 0, .int .i64 1] [some (.blk [.ptr 1 0, .int .i64 (m 0), .int .i64 (m 1), .int .i64 (m 2), .sla none 0 0, .sla none 0 0, .sla none 0 0]), some (.blk [.sl 2 nn 0]), some (coR9 cs ts nn)] (Rt (.int .i64 0) [some (.blk [.ptr 1 0, .int .i64 (m 0), .int .i64 (m 1), .int .i64 (m 2), .sla none 0 0, .sla none 0 0, .sla none 0 0]), some (.blk [.sl 2 nn 0]), some (coR9 cs ts nn)]) :=
 enterM (n := 18) (by kernel_rfl) Tryz.func39 rfl rfl rfl fun G w a h0 A => N9 16 A rfl rfl fun A => fork 10 A rfl
  (fun h1 A => absurd h1 (by decide))
  (fun h1 A => N9 10 A rfl (ok_d (by decide) <| okE_nil) fun A => have A := sy_sayD A 15 (.ptr 0 5) rfl (ix_ptr 1 rfl); N9 6 A rfl rfl fun A => R9 A rfl h0 rfl rfl rfl)
theorem bufA2_ (m : Nat → Int) (cs : List Cde) (ts : List Th) (nn : Nat)  : Fn Tryz.prog 39 [.ptr 0 0, .int .i64 2] [some (.blk [.ptr 1 0, .int .i64 (m 0), .int .i64 (m 1), .int .i64 (m 2), .sla none 0 0, .sla none 0 0, .sla none 0 0]), some (.blk [.sl 2 nn 0]), some (coR9 cs ts nn)] (Rt (.int .i64 0) [some (.blk [.ptr 1 0, .int .i64 (m 0), .int .i64 (m 1), .int .i64 (m 2), .sla none 0 0, .sla none 0 0, .sla none 0 0]), some (.blk [.sl 2 nn 0]), some (coR9 cs ts nn)]) :=
 enterM (n := 18) (by kernel_rfl) Tryz.func39 rfl rfl rfl fun G w a h0 A => N9 16 A rfl rfl fun A => fork 10 A rfl
  (fun h1 A => absurd h1 (by decide))
  (fun h1 A => N9 10 A rfl (ok_d (by decide) <| okE_nil) fun A => have A := sy_sayD A 15 (.ptr 0 6) rfl (ix_ptr 2 rfl); N9 6 A rfl rfl fun A => R9 A rfl h0 rfl rfl rfl)
theorem bufA_ (m : Nat → Int) (cs : List Cde) (ts : List Th) (nn : Nat) (th : Int) (hth : 0 ≤ th ∧ th < 3) : Fn Tryz.prog 39 [.ptr 0 0, .int .i64 th] [some (.blk [.ptr 1 0, .int .i64 (m 0), .int .i64 (m 1), .int .i64 (m 2), .sla none 0 0, .sla none 0 0, .sla none 0 0]), some (.blk [.sl 2 nn 0]), some (coR9 cs ts nn)] (Rt (.int .i64 (bnA th)) [some (.blk [.ptr 1 0, .int .i64 (m 0), .int .i64 (m 1), .int .i64 (m 2), .sla none 0 0, .sla none 0 0, .sla none 0 0]), some (.blk [.sl 2 nn 0]), some (coR9 cs ts nn)]) := by
 rcases lt3 hth with rfl | rfl | rfl
 ·exact bufA0_ m cs ts nn
 ·exact bufA1_ m cs ts nn
 ·exact bufA2_ m cs ts nn
theorem bufB0_ (m : Nat → Int) (cs : List Cde) (ts : List Th) (nn : Nat) (lc o s v : Int)  : Fn Tryz.prog 39 [.ptr 0 0, .z9] [some (.blk [.ptr 1 0, .int .i64 (m 0), .int .i64 (m 1), .int .i64 (m 2), .sl 3 1 0, .sla none 0 0, .sla none 0 0]), some (.blk [.sl 2 nn 0]), some (coR9 cs ts nn), some (.row 123 3 1 0 (fun _ => [.int .i64 lc, .int .i64 (mskN o s), .int .i64 v]))] (Rt (.int .i64 1) [some (.blk [.ptr 1 0, .int .i64 (m 0), .int .i64 (m 1), .int .i64 (m 2), .sl 3 1 0, .sla none 0 0, .sla none 0 0]), some (.blk [.sl 2 nn 0]), some (coR9 cs ts nn), some (.row 123 3 1 0 (fun _ => [.int .i64 lc, .int .i64 (mskN o s), .int .i64 v]))]) :=
 enterM (n := 18) (by kernel_rfl) Tryz.func39 rfl rfl rfl fun G w a h0 A => N9 16 A rfl rfl fun A => fork 10 A rfl
  (fun h1 A => absurd h1 (by decide))
  (fun h1 A => N9 10 A rfl (ok_d (by decide) <| okE_nil) fun A => have A := sy_sayD A 15 (.ptr 0 4) rfl (ix_ptr 0 rfl); N9 6 A rfl rfl fun A => R9 A rfl h0 rfl rfl rfl)
theorem bufB1_ (m : Nat → Int) (cs : List Cde) (ts : List Th) (nn : Nat) (lc o s v : Int)  : Fn Tryz.prog 39 [.ptr 0 0, .int .i64 1] [some (.blk [.ptr 1 0, .int .i64 (m 0), .int .i64 (m 1), .int .i64 (m 2), .sl 3 1 0, .sla none 0 0, .sla none 0 0]), some (.blk [.sl 2 nn 0]), some (coR9 cs ts nn), some (.row 123 3 1 0 (fun _ => [.int .i64 lc, .int .i64 (mskN o s), .int .i64 v]))] (Rt (.int .i64 0) [some (.blk [.ptr 1 0, .int .i64 (m 0), .int .i64 (m 1), .int .i64 (m 2), .sl 3 1 0, .sla none 0 0, .sla none 0 0]), some (.blk [.sl 2 nn 0]), some (coR9 cs ts nn), some (.row 123 3 1 0 (fun _ => [.int .i64 lc, .int .i64 (mskN o s), .int .i64 v]))]) :=
 enterM (n := 18) (by kernel_rfl) Tryz.func39 rfl rfl rfl fun G w a h0 A => N9 16 A rfl rfl fun A => fork 10 A rfl
  (fun h1 A => absurd h1 (by decide))
  (fun h1 A => N9 10 A rfl (ok_d (by decide) <| okE_nil) fun A => have A := sy_sayD A 15 (.ptr 0 5) rfl (ix_ptr 1 rfl); N9 6 A rfl rfl fun A => R9 A rfl h0 rfl rfl rfl)
theorem bufB2_ (m : Nat → Int) (cs : List Cde) (ts : List Th) (nn : Nat) (lc o s v : Int)  : Fn Tryz.prog 39 [.ptr 0 0, .int .i64 2] [some (.blk [.ptr 1 0, .int .i64 (m 0), .int .i64 (m 1), .int .i64 (m 2), .sl 3 1 0, .sla none 0 0, .sla none 0 0]), some (.blk [.sl 2 nn 0]), some (coR9 cs ts nn), some (.row 123 3 1 0 (fun _ => [.int .i64 lc, .int .i64 (mskN o s), .int .i64 v]))] (Rt (.int .i64 0) [some (.blk [.ptr 1 0, .int .i64 (m 0), .int .i64 (m 1), .int .i64 (m 2), .sl 3 1 0, .sla none 0 0, .sla none 0 0]), some (.blk [.sl 2 nn 0]), some (coR9 cs ts nn), some (.row 123 3 1 0 (fun _ => [.int .i64 lc, .int .i64 (mskN o s), .int .i64 v]))]) :=
 enterM (n := 18) (by kernel_rfl) Tryz.func39 rfl rfl rfl fun G w a h0 A => N9 16 A rfl rfl fun A => fork 10 A rfl
  (fun h1 A => absurd h1 (by decide))
  (fun h1 A => N9 10 A rfl (ok_d (by decide) <| okE_nil) fun A => have A := sy_sayD A 15 (.ptr 0 6) rfl (ix_ptr 2 rfl); N9 6 A rfl rfl fun A => R9 A rfl h0 rfl rfl rfl)
theorem bufB_ (m : Nat → Int) (cs : List Cde) (ts : List Th) (nn : Nat) (lc o s v th : Int) (hth : 0 ≤ th ∧ th < 3) : Fn Tryz.prog 39 [.ptr 0 0, .int .i64 th] [some (.blk [.ptr 1 0, .int .i64 (m 0), .int .i64 (m 1), .int .i64 (m 2), .sl 3 1 0, .sla none 0 0, .sla none 0 0]), some (.blk [.sl 2 nn 0]), some (coR9 cs ts nn), some (.row 123 3 1 0 (fun _ => [.int .i64 lc, .int .i64 (mskN o s), .int .i64 v]))] (Rt (.int .i64 (bnB th)) [some (.blk [.ptr 1 0, .int .i64 (m 0), .int .i64 (m 1), .int .i64 (m 2), .sl 3 1 0, .sla none 0 0, .sla none 0 0]), some (.blk [.sl 2 nn 0]), some (coR9 cs ts nn), some (.row 123 3 1 0 (fun _ => [.int .i64 lc, .int .i64 (mskN o s), .int .i64 v]))]) := by
 rcases lt3 hth with rfl | rfl | rfl
 ·exact bufB0_ m cs ts nn lc o s v
 ·exact bufB1_ m cs ts nn lc o s v
 ·exact bufB2_ m cs ts nn lc o s v
theorem bufC0_ (m : Nat → Int) (cs : List Cde) (ts : List Th) (nn : Nat) (lc o s v : Int)  : Fn Tryz.prog 39 [.ptr 0 0, .z9] [some (.blk [.ptr 1 0, .int .i64 (m 0), .int .i64 (m 1), .int .i64 (m 2), .st 3 3 1 0 0, .sla none 0 0, .sla none 0 0]), some (.blk [.sl 2 nn 0]), some (coR9 cs ts nn), some (.row 123 3 1 0 (fun _ => [.int .i64 lc, .int .i64 (mskN o s), .int .i64 v]))] (Rt (.int .i64 0) [some (.blk [.ptr 1 0, .int .i64 (m 0), .int .i64 (m 1), .int .i64 (m 2), .st 3 3 1 0 0, .sla none 0 0, .sla none 0 0]), some (.blk [.sl 2 nn 0]), some (coR9 cs ts nn), some (.row 123 3 1 0 (fun _ => [.int .i64 lc, .int .i64 (mskN o s), .int .i64 v]))]) :=
 enterM (n := 18) (by kernel_rfl) Tryz.func39 rfl rfl rfl fun G w a h0 A => N9 16 A rfl rfl fun A => fork 10 A rfl
  (fun h1 A => absurd h1 (by decide))
  (fun h1 A => N9 10 A rfl (ok_d (by decide) <| okE_nil) fun A => have A := sy_sayD A 15 (.ptr 0 4) rfl (ix_ptr 0 rfl); N9 6 A rfl rfl fun A => R9 A rfl h0 rfl rfl rfl)
theorem bufC1_ (m : Nat → Int) (cs : List Cde) (ts : List Th) (nn : Nat) (lc o s v : Int)  : Fn Tryz.prog 39 [.ptr 0 0, .int .i64 1] [some (.blk [.ptr 1 0, .int .i64 (m 0), .int .i64 (m 1), .int .i64 (m 2), .st 3 3 1 0 0, .sla none 0 0, .sla none 0 0]), some (.blk [.sl 2 nn 0]), some (coR9 cs ts nn), some (.row 123 3 1 0 (fun _ => [.int .i64 lc, .int .i64 (mskN o s), .int .i64 v]))] (Rt (.int .i64 0) [some (.blk [.ptr 1 0, .int .i64 (m 0), .int .i64 (m 1), .int .i64 (m 2), .st 3 3 1 0 0, .sla none 0 0, .sla none 0 0]), some (.blk [.sl 2 nn 0]), some (coR9 cs ts nn), some (.row 123 3 1 0 (fun _ => [.int .i64 lc, .int .i64 (mskN o s), .int .i64 v]))]) :=
 enterM (n := 18) (by kernel_rfl) Tryz.func39 rfl rfl rfl fun G w a h0 A => N9 16 A rfl rfl fun A => fork 10 A rfl
  (fun h1 A => absurd h1 (by decide))
  (fun h1 A => N9 10 A rfl (ok_d (by decide) <| okE_nil) fun A => have A := sy_sayD A 15 (.ptr 0 5) rfl (ix_ptr 1 rfl); N9 6 A rfl rfl fun A => R9 A rfl h0 rfl rfl rfl)
theorem bufC2_ (m : Nat → Int) (cs : List Cde) (ts : List Th) (nn : Nat) (lc o s v : Int)  : Fn Tryz.prog 39 [.ptr 0 0, .int .i64 2] [some (.blk [.ptr 1 0, .int .i64 (m 0), .int .i64 (m 1), .int .i64 (m 2), .st 3 3 1 0 0, .sla none 0 0, .sla none 0 0]), some (.blk [.sl 2 nn 0]), some (coR9 cs ts nn), some (.row 123 3 1 0 (fun _ => [.int .i64 lc, .int .i64 (mskN o s), .int .i64 v]))] (Rt (.int .i64 0) [some (.blk [.ptr 1 0, .int .i64 (m 0), .int .i64 (m 1), .int .i64 (m 2), .st 3 3 1 0 0, .sla none 0 0, .sla none 0 0]), some (.blk [.sl 2 nn 0]), some (coR9 cs ts nn), some (.row 123 3 1 0 (fun _ => [.int .i64 lc, .int .i64 (mskN o s), .int .i64 v]))]) :=
 enterM (n := 18) (by kernel_rfl) Tryz.func39 rfl rfl rfl fun G w a h0 A => N9 16 A rfl rfl fun A => fork 10 A rfl
  (fun h1 A => absurd h1 (by decide))
  (fun h1 A => N9 10 A rfl (ok_d (by decide) <| okE_nil) fun A => have A := sy_sayD A 15 (.ptr 0 6) rfl (ix_ptr 2 rfl); N9 6 A rfl rfl fun A => R9 A rfl h0 rfl rfl rfl)
theorem bufC_ (m : Nat → Int) (cs : List Cde) (ts : List Th) (nn : Nat) (lc o s v th : Int) (hth : 0 ≤ th ∧ th < 3) : Fn Tryz.prog 39 [.ptr 0 0, .int .i64 th] [some (.blk [.ptr 1 0, .int .i64 (m 0), .int .i64 (m 1), .int .i64 (m 2), .st 3 3 1 0 0, .sla none 0 0, .sla none 0 0]), some (.blk [.sl 2 nn 0]), some (coR9 cs ts nn), some (.row 123 3 1 0 (fun _ => [.int .i64 lc, .int .i64 (mskN o s), .int .i64 v]))] (Rt (.int .i64 (bnA th)) [some (.blk [.ptr 1 0, .int .i64 (m 0), .int .i64 (m 1), .int .i64 (m 2), .st 3 3 1 0 0, .sla none 0 0, .sla none 0 0]), some (.blk [.sl 2 nn 0]), some (coR9 cs ts nn), some (.row 123 3 1 0 (fun _ => [.int .i64 lc, .int .i64 (mskN o s), .int .i64 v]))]) := by
 rcases lt3 hth with rfl | rfl | rfl
 ·exact bufC0_ m cs ts nn lc o s v
 ·exact bufC1_ m cs ts nn lc o s v
 ·exact bufC2_ m cs ts nn lc o s v
def cgB (i : In) (b : Bool) (n : Int) : Bool := if ((i.op == 6) || (i.op == 7)) = true then n == 0 else b
theorem cgA_ (m : Nat → Int) (cs : List Cde) (ts : List Th) (nn : Nat) (th : Int) (hC : CoreOK cs ts nn) (hth : 0 ≤ th ∧ th < ((nn : Nat) : Int)) (hn3 : nn ≤ 3) : FnI (CodesAt cs) Tryz.prog 77 [.ptr 0 0, .int .i64 th] [some (.blk [.ptr 1 0, .int .i64 (m 0), .int .i64 (m 1), .int .i64 (m 2), .sla none 0 0, .sla none 0 0, .sla none 0 0]), some (.blk [.sl 2 nn 0]), some (coR9 cs ts nn)] (Rt (.bool (cgB ((cs.getD ((th).toNat) Cde.z).l.getD ((((ts.getD ((th).toNat) Th.z).at_ : Nat) : Int)).toNat In.z) (!((((ts.getD ((th).toNat) Th.z).at_ : Nat) : Int) == (((cs.getD ((th).toNat) Cde.z).l.length : Nat) : Int))) (bnA th))) [some (.blk [.ptr 1 0, .int .i64 (m 0), .int .i64 (m 1), .int .i64 (m 2), .sla none 0 0, .sla none 0 0, .sla none 0 0]), some (.blk [.sl 2 nn 0]), some (coR9 cs ts nn)]) :=
 enterI (n := 29) (by kernel_rfl) Tryz.func77 rfl rfl rfl fun G w a h0 hI A => N9 12 A rfl rfl fun A => I9 [1, 2] CodesAt.ok hI (cReadyI_ cs ts nn th hC (by omega)) A rfl fun A => N9 21 A rfl rfl fun A => fork 23 A rfl
  (fun h1 A => N9 5 A rfl rfl fun A => C9 [0, 1, 2] (bufA_ m cs ts nn th (by omega)) A rfl fun A => N9 5 A rfl rfl fun A => R9 A rfl h0 rfl (by unfold cgB; rw [if_pos h1] <;> rfl) rfl)
  (fun h1 A => N9 10 A rfl rfl fun A => R9 A rfl h0 rfl (by unfold cgB; rw [if_neg (ne_true_of_eq_false h1)] <;> rfl) rfl)
theorem cgB_ (m : Nat → Int) (cs : List Cde) (ts : List Th) (nn : Nat) (lc o s v th : Int) (hC : CoreOK cs ts nn) (hth : 0 ≤ th ∧ th < ((nn : Nat) : Int)) (hn3 : nn ≤ 3) : FnI (CodesAt cs) Tryz.prog 77 [.ptr 0 0, .int .i64 th] [some (.blk [.ptr 1 0, .int .i64 (m 0), .int .i64 (m 1), .int .i64 (m 2), .sl 3 1 0, .sla none 0 0, .sla none 0 0]), some (.blk [.sl 2 nn 0]), some (coR9 cs ts nn), some (.row 123 3 1 0 (fun _ => [.int .i64 lc, .int .i64 (mskN o s), .int .i64 v]))] (Rt (.bool (cgB ((cs.getD ((th).toNat) Cde.z).l.getD ((((ts.getD ((th).toNat) Th.z).at_ : Nat) : Int)).toNat In.z) (!((((ts.getD ((th).toNat) Th.z).at_ : Nat) : Int) == (((cs.getD ((th).toNat) Cde.z).l.length : Nat) : Int))) (bnB th))) [some (.blk [.ptr 1 0, .int .i64 (m 0), .int .i64 (m 1), .int .i64 (m 2), .sl 3 1 0, .sla none 0 0, .sla none 0 0]), some (.blk [.sl 2 nn 0]), some (coR9 cs ts nn), some (.row 123 3 1 0 (fun _ => [.int .i64 lc, .int .i64 (mskN o s), .int .i64 v]))]) :=
 enterI (n := 29) (by kernel_rfl) Tryz.func77 rfl rfl rfl fun G w a h0 hI A => N9 12 A rfl rfl fun A => I9 [1, 2] CodesAt.ok hI (cReadyI_ cs ts nn th hC (by omega)) A rfl fun A => N9 21 A rfl rfl fun A => fork 23 A rfl
  (fun h1 A => N9 5 A rfl rfl fun A => C9 [0, 1, 2, 3] (bufB_ m cs ts nn lc o s v th (by omega)) A rfl fun A => N9 5 A rfl rfl fun A => R9 A rfl h0 rfl (by unfold cgB; rw [if_pos h1] <;> rfl) rfl)
  (fun h1 A => N9 10 A rfl rfl fun A => R9 A rfl h0 rfl (by unfold cgB; rw [if_neg (ne_true_of_eq_false h1)] <;> rfl) rfl)
theorem cgC_ (m : Nat → Int) (cs : List Cde) (ts : List Th) (nn : Nat) (lc o s v th : Int) (hC : CoreOK cs ts nn) (hth : 0 ≤ th ∧ th < ((nn : Nat) : Int)) (hn3 : nn ≤ 3) : FnI (CodesAt cs) Tryz.prog 77 [.ptr 0 0, .int .i64 th] [some (.blk [.ptr 1 0, .int .i64 (m 0), .int .i64 (m 1), .int .i64 (m 2), .st 3 3 1 0 0, .sla none 0 0, .sla none 0 0]), some (.blk [.sl 2 nn 0]), some (coR9 cs ts nn), some (.row 123 3 1 0 (fun _ => [.int .i64 lc, .int .i64 (mskN o s), .int .i64 v]))] (Rt (.bool (cgB ((cs.getD ((th).toNat) Cde.z).l.getD ((((ts.getD ((th).toNat) Th.z).at_ : Nat) : Int)).toNat In.z) (!((((ts.getD ((th).toNat) Th.z).at_ : Nat) : Int) == (((cs.getD ((th).toNat) Cde.z).l.length : Nat) : Int))) (bnA th))) [some (.blk [.ptr 1 0, .int .i64 (m 0), .int .i64 (m 1), .int .i64 (m 2), .st 3 3 1 0 0, .sla none 0 0, .sla none 0 0]), some (.blk [.sl 2 nn 0]), some (coR9 cs ts nn), some (.row 123 3 1 0 (fun _ => [.int .i64 lc, .int .i64 (mskN o s), .int .i64 v]))]) :=
 enterI (n := 29) (by kernel_rfl) Tryz.func77 rfl rfl rfl fun G w a h0 hI A => N9 12 A rfl rfl fun A => I9 [1, 2] CodesAt.ok hI (cReadyI_ cs ts nn th hC (by omega)) A rfl fun A => N9 21 A rfl rfl fun A => fork 23 A rfl
  (fun h1 A => N9 5 A rfl rfl fun A => C9 [0, 1, 2, 3] (bufC_ m cs ts nn lc o s v th (by omega)) A rfl fun A => N9 5 A rfl rfl fun A => R9 A rfl h0 rfl (by unfold cgB; rw [if_pos h1] <;> rfl) rfl)
  (fun h1 A => N9 10 A rfl rfl fun A => R9 A rfl h0 rfl (by unfold cgB; rw [if_neg (ne_true_of_eq_false h1)] <;> rfl) rfl)
end Go.Proofs.YtbbdanhpphlbpaaGreatDoor.Mc
namespace Go.Proofs.YtbbdanhpphlbpaaGreatDoor.Mc
open Go.RowKit
set_option linter.unusedVariables false
set_option linter.unusedSimpArgs false
set_option maxRecDepth 100000
set_option maxHeartbeats 2000000
set_option simprocs false
abbrev Mv : Type := Int × Int × Int
abbrev mvC (v : Mv) : List SV := [.int .i64 v.1, .int .i64 v.2.1, .int .i64 v.2.2, .z9]
abbrev mvF (l : List Mv) : Nat → List SV := fun zz => mvC (l.getD zz (0, 0, 0))
def mvL (cs : List Cde) (ts : List Th) (bn : Int → Int) : Nat → List Mv
 | 0 => []
 | k + 1 => mvL cs ts bn k ++ (if (cgB ((cs.getD (((k : Int)).toNat) Cde.z).l.getD ((((ts.getD (((k : Int)).toNat) Th.z).at_ : Nat) : Int)).toNat In.z) (!((((ts.getD (((k : Int)).toNat) Th.z).at_ : Nat) : Int) == (((cs.getD (((k : Int)).toNat) Cde.z).l.length : Nat) : Int))) (bn (k : Int))) = true then [(2, (k : Int), (((ts.getD (((k : Int)).toNat) Th.z).at_ : Nat) : Int))] else []) ++ (if bn (k : Int) > 0 then [(3, (k : Int), 0)] else [])
theorem mvL_len (cs : List Cde) (ts : List Th) (bn : Int → Int) : ∀ k, (mvL cs ts bn k).length ≤ 2 * k
 | 0 => Nat.le_refl _
 | k + 1 => by
  have h := mvL_len cs ts bn k
  unfold mvL
  simp only [List.length_append]
  split <;> split <;> simp <;> omega
theorem gd_lt {l : List Mv} {x : Mv} {k : Nat} (h : k < l.length) : (l ++ [x]).getD k (0, 0, 0) = l.getD k (0, 0, 0) := by simp [List.getD, List.getElem?_append_left h]
theorem lnA (l : List Mv) (x : Mv) : (l ++ [x]).length = l.length + 1 := by simp
theorem slA (q : Nat) (l : List Mv) (x : Mv) : SV.sl q (l.length + 1) 0 = SV.sl q (l ++ [x]).length 0 := by rw [lnA]
theorem gd_nd {l : List Mv} {x : Mv} : (l ++ [x]).getD l.length (0, 0, 0) = x := by simp [List.getD]
theorem _root_.Go.Proofs.YtbbdanhpphlbpaaGreatDoor.Sy.mvA {n : Nat} {ks : List Nat} {G0 : Gr} {w0 : World} {T : List (Nat × SV)} {H : Hp} {G : Gr} {a : Act} {w : World} {E : Nat} (q t : Nat) {l l' : List Mv} (e : l' = l) (A : Sy n T H ks G0 w0 G a w) (hq : lg H q = some (some (.row E 4 l.length 0 (mvF l)))) (ht : look T t = some (.sl q l.length 0)) : Sy n ((t, .sl q l'.length 0) :: T) (stH H q (some (.row E 4 l'.length 0 (mvF l')))) ks G0 w0 G a w := by
 subst e
 have hs : stH H q (some (.row E 4 l'.length 0 (mvF l'))) = H := by
  rw [lg_is] at hq
  rw [stH_is]
  apply List.ext_getElem?
  intro j
  by_cases hj : j = q
  ·subst hj; rw [List.getElem?_set_self (List.getElem?_eq_some_iff.1 hq).1, hq]
  ·rw [List.getElem?_set_ne (Ne.symm hj)]
 rw [hs]
 exact A.say t _ ht rfl
theorem mvA_ (m : Nat → Int) (cs : List Cde) (ts : List Th) (nn : Nat) (hC : CoreOK cs ts nn) (hn3 : nn ≤ 3) : FnI (CodesAt cs) Tryz.prog 35 [.ptr 0 0] [some (.blk [.ptr 1 0, .int .i64 (m 0), .int .i64 (m 1), .int .i64 (m 2), .sla none 0 0, .sla none 0 0, .sla none 0 0]), some (.blk [.sl 2 nn 0]), some (coR9 cs ts nn)] (Rt (.sl 3 ((mvL cs ts bnA nn).length) 0) [some (.blk [.ptr 1 0, .int .i64 (m 0), .int .i64 (m 1), .int .i64 (m 2), .sla none 0 0, .sla none 0 0, .sla none 0 0]), some (.blk [.sl 2 nn 0]), some (coR9 cs ts nn), some (.row 44 4 ((mvL cs ts bnA nn).length) 0 (mvF (mvL cs ts bnA nn)))]) :=
 enterI (n := 38) (by kernel_rfl) Tryz.func35 rfl rfl rfl fun G w a h0 hI A => N9 12 A rfl rfl fun A => have A := A.nilRow 3 44 4 (mvF []) rfl (fun z => ⟨_, rfl, rfl⟩); N9 5 A rfl rfl fun A => C9 [1, 2] (cThreads_ cs ts nn) A rfl fun A => N9 4 A rfl rfl fun A => LOOP1 (fun (k : Nat) => [(0, .ptr 0 0), (2, .sla none 0 0), (3, .sl 3 ((mvL cs ts bnA k).length) 0), (9, .int .i64 ((nn : Nat) : Int)), (10, .int .i64 (k : Int))]) (fun (k : Nat) => [some (.blk [.ptr 1 0, .int .i64 (m 0), .int .i64 (m 1), .int .i64 (m 2), .sla none 0 0, .sla none 0 0, .sla none 0 0]), some (.blk [.sl 2 nn 0]), some (coR9 cs ts nn), some (.row 44 4 ((mvL cs ts bnA k).length) 0 (mvF (mvL cs ts bnA k)))]) (fun (k : Nat) => k ≤ nn) (fun (k : Nat) => nn - k) 0 (Nat.zero_le _) ((A.cut [0, 2, 3, 9, 10] rfl).trunc 4 rfl rfl rfl (by simp only [List.length_cons, List.length_nil] at h0; omega)) fun k hK {G a w} A => N9 6 A rfl rfl fun A => forkD 11 A rfl
   (fun h1 A => N9 16 A rfl rfl fun A => I9 [0, 1, 2] CodesAt.ok hI (cgA_ m cs ts nn (k : Int) hC (by omega) hn3) A rfl fun A => N9 2 A rfl rfl fun A => fork 15 A rfl
    (fun h2 A => N9 9 A rfl rfl fun A => C9 [1, 2] (cAtI_ cs ts nn (k : Int) (by omega)) A rfl fun A => N9 2 A rfl rfl fun A => APP1 hX ((mvL cs ts bnA k).length + 1) (mvF ((mvL cs ts bnA k) ++ [(2, (k : Int), (((ts.getD (((k : Int)).toNat) Th.z).at_ : Nat) : Int))])) A rfl rfl rfl rfl (by have := mvL_len cs ts bnA k; first | omega | (simp only [List.length_append, List.length_cons, List.length_nil]; omega)) rfl (fun q hq => by show mvC _ = mvC _; rw [gd_lt hq]) (by show mvC _ = _; rw [gd_nd]) (fun z => ⟨_, rfl, rfl⟩) fun A => have A := (A.rowAs 5 (((mvL cs ts bnA k) ++ [(2, (k : Int), (((ts.getD (((k : Int)).toNat) Th.z).at_ : Nat) : Int))]).length) (mvF ((mvL cs ts bnA k) ++ [(2, (k : Int), (((ts.getD (((k : Int)).toNat) Th.z).at_ : Nat) : Int))])) rfl (lnA _ _) (fun q hq => rfl) (fun z => ⟨_, rfl, rfl⟩)).say 26 (.sl 5 (((mvL cs ts bnA k) ++ [(2, (k : Int), (((ts.getD (((k : Int)).toNat) Th.z).at_ : Nat) : Int))]).length) 0) rfl (slA _ _ _); N9 7 A rfl rfl fun A => C9 [0, 1, 2] (bufA_ m cs ts nn (k : Int) (by omega)) A rfl fun A => N9 3 A rfl rfl fun A => forkD 30 A rfl
     (fun h3 A => N9 6 A rfl rfl fun A => APP1 hX (((mvL cs ts bnA k) ++ [(2, (k : Int), (((ts.getD (((k : Int)).toNat) Th.z).at_ : Nat) : Int))]).length + 1) (mvF (((mvL cs ts bnA k) ++ [(2, (k : Int), (((ts.getD (((k : Int)).toNat) Th.z).at_ : Nat) : Int))]) ++ [(3, (k : Int), 0)])) A rfl rfl rfl rfl (by have := mvL_len cs ts bnA k; first | omega | (simp only [List.length_append, List.length_cons, List.length_nil]; omega)) rfl (fun q hq => by show mvC _ = mvC _; rw [gd_lt hq]) (by show mvC _ = _; rw [gd_nd]) (fun z => ⟨_, rfl, rfl⟩) fun A => have A := (A.rowAs 7 ((((mvL cs ts bnA k) ++ [(2, (k : Int), (((ts.getD (((k : Int)).toNat) Th.z).at_ : Nat) : Int))]) ++ [(3, (k : Int), 0)]).length) (mvF (((mvL cs ts bnA k) ++ [(2, (k : Int), (((ts.getD (((k : Int)).toNat) Th.z).at_ : Nat) : Int))]) ++ [(3, (k : Int), 0)])) rfl (lnA _ _) (fun q hq => rfl) (fun z => ⟨_, rfl, rfl⟩)).say 35 (.sl 7 ((((mvL cs ts bnA k) ++ [(2, (k : Int), (((ts.getD (((k : Int)).toNat) Th.z).at_ : Nat) : Int))]) ++ [(3, (k : Int), 0)]).length) 0) rfl (slA _ _ _); N9 8 A rfl (ok_d (by omega) <| okE_nil) fun A => ⟨k + 1, _, (by omega), (by omega), (((Sy.mvA 7 3 (show (mvL cs ts bnA (k + 1)) = (((mvL cs ts bnA k) ++ [(2, (k : Int), (((ts.getD (((k : Int)).toNat) Th.z).at_ : Nat) : Int))]) ++ [(3, (k : Int), 0)]) by show _ ++ _ ++ _ = _; rw [if_pos h2, if_pos h3]) A rfl rfl).cut [0, 2, 3, 9, 10] rfl).mv 3 [7] rfl rfl rfl rfl (by simp only [List.length_cons, List.length_nil] at h0; omega)).sayT (by rfl)⟩)
     (fun h3 A => N9 8 A rfl (ok_d (by omega) <| okE_nil) fun A => ⟨k + 1, _, (by omega), (by omega), (((Sy.mvA 5 3 (show (mvL cs ts bnA (k + 1)) = ((mvL cs ts bnA k) ++ [(2, (k : Int), (((ts.getD (((k : Int)).toNat) Th.z).at_ : Nat) : Int))]) by show _ ++ _ ++ _ = _; rw [if_pos h2, if_neg h3]; simp only [List.append_nil]) A rfl rfl).cut [0, 2, 3, 9, 10] rfl).mv 3 [5] rfl rfl rfl rfl (by simp only [List.length_cons, List.length_nil] at h0; omega)).sayT (by rfl)⟩))
    (fun h2 A => N9 7 A rfl rfl fun A => C9 [0, 1, 2] (bufA_ m cs ts nn (k : Int) (by omega)) A rfl fun A => N9 3 A rfl rfl fun A => forkD 30 A rfl
     (fun h4 A => N9 6 A rfl rfl fun A => APP1 hX ((mvL cs ts bnA k).length + 1) (mvF ((mvL cs ts bnA k) ++ [(3, (k : Int), 0)])) A rfl rfl rfl rfl (by have := mvL_len cs ts bnA k; first | omega | (simp only [List.length_append, List.length_cons, List.length_nil]; omega)) rfl (fun q hq => by show mvC _ = mvC _; rw [gd_lt hq]) (by show mvC _ = _; rw [gd_nd]) (fun z => ⟨_, rfl, rfl⟩) fun A => have A := (A.rowAs 5 (((mvL cs ts bnA k) ++ [(3, (k : Int), 0)]).length) (mvF ((mvL cs ts bnA k) ++ [(3, (k : Int), 0)])) rfl (lnA _ _) (fun q hq => rfl) (fun z => ⟨_, rfl, rfl⟩)).say 35 (.sl 5 (((mvL cs ts bnA k) ++ [(3, (k : Int), 0)]).length) 0) rfl (slA _ _ _); N9 8 A rfl (ok_d (by omega) <| okE_nil) fun A => ⟨k + 1, _, (by omega), (by omega), (((Sy.mvA 5 3 (show (mvL cs ts bnA (k + 1)) = ((mvL cs ts bnA k) ++ [(3, (k : Int), 0)]) by show _ ++ _ ++ _ = _; rw [if_neg (ne_true_of_eq_false h2), if_pos h4]; simp only [List.append_nil]) A rfl rfl).cut [0, 2, 3, 9, 10] rfl).mv 3 [5] rfl rfl rfl rfl (by simp only [List.length_cons, List.length_nil] at h0; omega)).sayT (by rfl)⟩)
     (fun h4 A => N9 8 A rfl (ok_d (by omega) <| okE_nil) fun A => ⟨k + 1, _, (by omega), (by omega), (((Sy.mvA 3 3 (show (mvL cs ts bnA (k + 1)) = (mvL cs ts bnA k) by show _ ++ _ ++ _ = _; rw [if_neg (ne_true_of_eq_false h2), if_neg h4]; simp only [List.append_nil]) A rfl rfl).cut [0, 2, 3, 9, 10] rfl).trunc 4 rfl rfl rfl (by simp only [List.length_cons, List.length_nil] at h0; omega)).sayT (by rfl)⟩)))
   (fun h1 A => N9 4 A rfl rfl fun A => have hkn : k = nn := (by omega); have A := Sy.mvA 3 3 (l' := mvL cs ts bnA nn) (by rw [hkn]) A rfl rfl; N9 6 A rfl rfl fun A => RET hX [3] A ⟨rfl, rfl⟩ rfl rfl rfl rfl rfl rfl rfl rfl h0)
theorem mvB_ (m : Nat → Int) (cs : List Cde) (ts : List Th) (nn : Nat) (lc o s v : Int) (hC : CoreOK cs ts nn) (hn3 : nn ≤ 3) : FnI (CodesAt cs) Tryz.prog 35 [.ptr 0 0] [some (.blk [.ptr 1 0, .int .i64 (m 0), .int .i64 (m 1), .int .i64 (m 2), .sl 3 1 0, .sla none 0 0, .sla none 0 0]), some (.blk [.sl 2 nn 0]), some (coR9 cs ts nn), some (.row 123 3 1 0 (fun _ => [.int .i64 lc, .int .i64 (mskN o s), .int .i64 v]))] (Rt (.sl 4 ((mvL cs ts bnB nn).length) 0) [some (.blk [.ptr 1 0, .int .i64 (m 0), .int .i64 (m 1), .int .i64 (m 2), .sl 3 1 0, .sla none 0 0, .sla none 0 0]), some (.blk [.sl 2 nn 0]), some (coR9 cs ts nn), some (.row 123 3 1 0 (fun _ => [.int .i64 lc, .int .i64 (mskN o s), .int .i64 v])), some (.row 44 4 ((mvL cs ts bnB nn).length) 0 (mvF (mvL cs ts bnB nn)))]) :=
 enterI (n := 38) (by kernel_rfl) Tryz.func35 rfl rfl rfl fun G w a h0 hI A => N9 12 A rfl rfl fun A => have A := A.nilRow 3 44 4 (mvF []) rfl (fun z => ⟨_, rfl, rfl⟩); N9 5 A rfl rfl fun A => C9 [1, 2] (cThreads_ cs ts nn) A rfl fun A => N9 4 A rfl rfl fun A => LOOP1 (fun (k : Nat) => [(0, .ptr 0 0), (2, .sla none 0 0), (3, .sl 4 ((mvL cs ts bnB k).length) 0), (9, .int .i64 ((nn : Nat) : Int)), (10, .int .i64 (k : Int))]) (fun (k : Nat) => [some (.blk [.ptr 1 0, .int .i64 (m 0), .int .i64 (m 1), .int .i64 (m 2), .sl 3 1 0, .sla none 0 0, .sla none 0 0]), some (.blk [.sl 2 nn 0]), some (coR9 cs ts nn), some (.row 123 3 1 0 (fun _ => [.int .i64 lc, .int .i64 (mskN o s), .int .i64 v])), some (.row 44 4 ((mvL cs ts bnB k).length) 0 (mvF (mvL cs ts bnB k)))]) (fun (k : Nat) => k ≤ nn) (fun (k : Nat) => nn - k) 0 (Nat.zero_le _) ((A.cut [0, 2, 3, 9, 10] rfl).trunc 5 rfl rfl rfl (by simp only [List.length_cons, List.length_nil] at h0; omega)) fun k hK {G a w} A => N9 6 A rfl rfl fun A => forkD 11 A rfl
   (fun h1 A => N9 16 A rfl rfl fun A => I9 [0, 1, 2, 3] CodesAt.ok hI (cgB_ m cs ts nn lc o s v (k : Int) hC (by omega) hn3) A rfl fun A => N9 2 A rfl rfl fun A => fork 15 A rfl
    (fun h2 A => N9 9 A rfl rfl fun A => C9 [1, 2] (cAtI_ cs ts nn (k : Int) (by omega)) A rfl fun A => N9 2 A rfl rfl fun A => APP1 hX ((mvL cs ts bnB k).length + 1) (mvF ((mvL cs ts bnB k) ++ [(2, (k : Int), (((ts.getD (((k : Int)).toNat) Th.z).at_ : Nat) : Int))])) A rfl rfl rfl rfl (by have := mvL_len cs ts bnB k; first | omega | (simp only [List.length_append, List.length_cons, List.length_nil]; omega)) rfl (fun q hq => by show mvC _ = mvC _; rw [gd_lt hq]) (by show mvC _ = _; rw [gd_nd]) (fun z => ⟨_, rfl, rfl⟩) fun A => have A := (A.rowAs 6 (((mvL cs ts bnB k) ++ [(2, (k : Int), (((ts.getD (((k : Int)).toNat) Th.z).at_ : Nat) : Int))]).length) (mvF ((mvL cs ts bnB k) ++ [(2, (k : Int), (((ts.getD (((k : Int)).toNat) Th.z).at_ : Nat) : Int))])) rfl (lnA _ _) (fun q hq => rfl) (fun z => ⟨_, rfl, rfl⟩)).say 26 (.sl 6 (((mvL cs ts bnB k) ++ [(2, (k : Int), (((ts.getD (((k : Int)).toNat) Th.z).at_ : Nat) : Int))]).length) 0) rfl (slA _ _ _); N9 7 A rfl rfl fun A => C9 [0, 1, 2, 3] (bufB_ m cs ts nn lc o s v (k : Int) (by omega)) A rfl fun A => N9 3 A rfl rfl fun A => forkD 30 A rfl
     (fun h3 A => N9 6 A rfl rfl fun A => APP1 hX (((mvL cs ts bnB k) ++ [(2, (k : Int), (((ts.getD (((k : Int)).toNat) Th.z).at_ : Nat) : Int))]).length + 1) (mvF (((mvL cs ts bnB k) ++ [(2, (k : Int), (((ts.getD (((k : Int)).toNat) Th.z).at_ : Nat) : Int))]) ++ [(3, (k : Int), 0)])) A rfl rfl rfl rfl (by have := mvL_len cs ts bnB k; first | omega | (simp only [List.length_append, List.length_cons, List.length_nil]; omega)) rfl (fun q hq => by show mvC _ = mvC _; rw [gd_lt hq]) (by show mvC _ = _; rw [gd_nd]) (fun z => ⟨_, rfl, rfl⟩) fun A => have A := (A.rowAs 8 ((((mvL cs ts bnB k) ++ [(2, (k : Int), (((ts.getD (((k : Int)).toNat) Th.z).at_ : Nat) : Int))]) ++ [(3, (k : Int), 0)]).length) (mvF (((mvL cs ts bnB k) ++ [(2, (k : Int), (((ts.getD (((k : Int)).toNat) Th.z).at_ : Nat) : Int))]) ++ [(3, (k : Int), 0)])) rfl (lnA _ _) (fun q hq => rfl) (fun z => ⟨_, rfl, rfl⟩)).say 35 (.sl 8 ((((mvL cs ts bnB k) ++ [(2, (k : Int), (((ts.getD (((k : Int)).toNat) Th.z).at_ : Nat) : Int))]) ++ [(3, (k : Int), 0)]).length) 0) rfl (slA _ _ _); N9 8 A rfl (ok_d (by omega) <| okE_nil) fun A => ⟨k + 1, _, (by omega), (by omega), (((Sy.mvA 8 3 (show (mvL cs ts bnB (k + 1)) = (((mvL cs ts bnB k) ++ [(2, (k : Int), (((ts.getD (((k : Int)).toNat) Th.z).at_ : Nat) : Int))]) ++ [(3, (k : Int), 0)]) by show _ ++ _ ++ _ = _; rw [if_pos h2, if_pos h3]) A rfl rfl).cut [0, 2, 3, 9, 10] rfl).mv 4 [8] rfl rfl rfl rfl (by simp only [List.length_cons, List.length_nil] at h0; omega)).sayT (by rfl)⟩)
     (fun h3 A => N9 8 A rfl (ok_d (by omega) <| okE_nil) fun A => ⟨k + 1, _, (by omega), (by omega), (((Sy.mvA 6 3 (show (mvL cs ts bnB (k + 1)) = ((mvL cs ts bnB k) ++ [(2, (k : Int), (((ts.getD (((k : Int)).toNat) Th.z).at_ : Nat) : Int))]) by show _ ++ _ ++ _ = _; rw [if_pos h2, if_neg h3]; simp only [List.append_nil]) A rfl rfl).cut [0, 2, 3, 9, 10] rfl).mv 4 [6] rfl rfl rfl rfl (by simp only [List.length_cons, List.length_nil] at h0; omega)).sayT (by rfl)⟩))
    (fun h2 A => N9 7 A rfl rfl fun A => C9 [0, 1, 2, 3] (bufB_ m cs ts nn lc o s v (k : Int) (by omega)) A rfl fun A => N9 3 A rfl rfl fun A => forkD 30 A rfl
     (fun h4 A => N9 6 A rfl rfl fun A => APP1 hX ((mvL cs ts bnB k).length + 1) (mvF ((mvL cs ts bnB k) ++ [(3, (k : Int), 0)])) A rfl rfl rfl rfl (by have := mvL_len cs ts bnB k; first | omega | (simp only [List.length_append, List.length_cons, List.length_nil]; omega)) rfl (fun q hq => by show mvC _ = mvC _; rw [gd_lt hq]) (by show mvC _ = _; rw [gd_nd]) (fun z => ⟨_, rfl, rfl⟩) fun A => have A := (A.rowAs 6 (((mvL cs ts bnB k) ++ [(3, (k : Int), 0)]).length) (mvF ((mvL cs ts bnB k) ++ [(3, (k : Int), 0)])) rfl (lnA _ _) (fun q hq => rfl) (fun z => ⟨_, rfl, rfl⟩)).say 35 (.sl 6 (((mvL cs ts bnB k) ++ [(3, (k : Int), 0)]).length) 0) rfl (slA _ _ _); N9 8 A rfl (ok_d (by omega) <| okE_nil) fun A => ⟨k + 1, _, (by omega), (by omega), (((Sy.mvA 6 3 (show (mvL cs ts bnB (k + 1)) = ((mvL cs ts bnB k) ++ [(3, (k : Int), 0)]) by show _ ++ _ ++ _ = _; rw [if_neg (ne_true_of_eq_false h2), if_pos h4]; simp only [List.append_nil]) A rfl rfl).cut [0, 2, 3, 9, 10] rfl).mv 4 [6] rfl rfl rfl rfl (by simp only [List.length_cons, List.length_nil] at h0; omega)).sayT (by rfl)⟩)
     (fun h4 A => N9 8 A rfl (ok_d (by omega) <| okE_nil) fun A => ⟨k + 1, _, (by omega), (by omega), (((Sy.mvA 4 3 (show (mvL cs ts bnB (k + 1)) = (mvL cs ts bnB k) by show _ ++ _ ++ _ = _; rw [if_neg (ne_true_of_eq_false h2), if_neg h4]; simp only [List.append_nil]) A rfl rfl).cut [0, 2, 3, 9, 10] rfl).trunc 5 rfl rfl rfl (by simp only [List.length_cons, List.length_nil] at h0; omega)).sayT (by rfl)⟩)))
   (fun h1 A => N9 4 A rfl rfl fun A => have hkn : k = nn := (by omega); have A := Sy.mvA 4 3 (l' := mvL cs ts bnB nn) (by rw [hkn]) A rfl rfl; N9 6 A rfl rfl fun A => RET hX [4] A ⟨rfl, rfl⟩ rfl rfl rfl rfl rfl rfl rfl rfl h0)
theorem mvC_ (m : Nat → Int) (cs : List Cde) (ts : List Th) (nn : Nat) (lc o s v : Int) (hC : CoreOK cs ts nn) (hn3 : nn ≤ 3) : FnI (CodesAt cs) Tryz.prog 35 [.ptr 0 0] [some (.blk [.ptr 1 0, .int .i64 (m 0), .int .i64 (m 1), .int .i64 (m 2), .st 3 3 1 0 0, .sla none 0 0, .sla none 0 0]), some (.blk [.sl 2 nn 0]), some (coR9 cs ts nn), some (.row 123 3 1 0 (fun _ => [.int .i64 lc, .int .i64 (mskN o s), .int .i64 v]))] (Rt (.sl 4 ((mvL cs ts bnA nn).length) 0) [some (.blk [.ptr 1 0, .int .i64 (m 0), .int .i64 (m 1), .int .i64 (m 2), .st 3 3 1 0 0, .sla none 0 0, .sla none 0 0]), some (.blk [.sl 2 nn 0]), some (coR9 cs ts nn), some (.row 123 3 1 0 (fun _ => [.int .i64 lc, .int .i64 (mskN o s), .int .i64 v])), some (.row 44 4 ((mvL cs ts bnA nn).length) 0 (mvF (mvL cs ts bnA nn)))]) :=
 enterI (n := 38) (by kernel_rfl) Tryz.func35 rfl rfl rfl fun G w a h0 hI A => N9 12 A rfl rfl fun A => have A := A.nilRow 3 44 4 (mvF []) rfl (fun z => ⟨_, rfl, rfl⟩); N9 5 A rfl rfl fun A => C9 [1, 2] (cThreads_ cs ts nn) A rfl fun A => N9 4 A rfl rfl fun A => LOOP1 (fun (k : Nat) => [(0, .ptr 0 0), (2, .sla none 0 0), (3, .sl 4 ((mvL cs ts bnA k).length) 0), (9, .int .i64 ((nn : Nat) : Int)), (10, .int .i64 (k : Int))]) (fun (k : Nat) => [some (.blk [.ptr 1 0, .int .i64 (m 0), .int .i64 (m 1), .int .i64 (m 2), .st 3 3 1 0 0, .sla none 0 0, .sla none 0 0]), some (.blk [.sl 2 nn 0]), some (coR9 cs ts nn), some (.row 123 3 1 0 (fun _ => [.int .i64 lc, .int .i64 (mskN o s), .int .i64 v])), some (.row 44 4 ((mvL cs ts bnA k).length) 0 (mvF (mvL cs ts bnA k)))]) (fun (k : Nat) => k ≤ nn) (fun (k : Nat) => nn - k) 0 (Nat.zero_le _) ((A.cut [0, 2, 3, 9, 10] rfl).trunc 5 rfl rfl rfl (by simp only [List.length_cons, List.length_nil] at h0; omega)) fun k hK {G a w} A => N9 6 A rfl rfl fun A => forkD 11 A rfl
   (fun h1 A => N9 16 A rfl rfl fun A => I9 [0, 1, 2, 3] CodesAt.ok hI (cgC_ m cs ts nn lc o s v (k : Int) hC (by omega) hn3) A rfl fun A => N9 2 A rfl rfl fun A => fork 15 A rfl
    (fun h2 A => N9 9 A rfl rfl fun A => C9 [1, 2] (cAtI_ cs ts nn (k : Int) (by omega)) A rfl fun A => N9 2 A rfl rfl fun A => APP1 hX ((mvL cs ts bnA k).length + 1) (mvF ((mvL cs ts bnA k) ++ [(2, (k : Int), (((ts.getD (((k : Int)).toNat) Th.z).at_ : Nat) : Int))])) A rfl rfl rfl rfl (by have := mvL_len cs ts bnA k; first | omega | (simp only [List.length_append, List.length_cons, List.length_nil]; omega)) rfl (fun q hq => by show mvC _ = mvC _; rw [gd_lt hq]) (by show mvC _ = _; rw [gd_nd]) (fun z => ⟨_, rfl, rfl⟩) fun A => have A := (A.rowAs 6 (((mvL cs ts bnA k) ++ [(2, (k : Int), (((ts.getD (((k : Int)).toNat) Th.z).at_ : Nat) : Int))]).length) (mvF ((mvL cs ts bnA k) ++ [(2, (k : Int), (((ts.getD (((k : Int)).toNat) Th.z).at_ : Nat) : Int))])) rfl (lnA _ _) (fun q hq => rfl) (fun z => ⟨_, rfl, rfl⟩)).say 26 (.sl 6 (((mvL cs ts bnA k) ++ [(2, (k : Int), (((ts.getD (((k : Int)).toNat) Th.z).at_ : Nat) : Int))]).length) 0) rfl (slA _ _ _); N9 7 A rfl rfl fun A => C9 [0, 1, 2, 3] (bufC_ m cs ts nn lc o s v (k : Int) (by omega)) A rfl fun A => N9 3 A rfl rfl fun A => forkD 30 A rfl
     (fun h3 A => N9 6 A rfl rfl fun A => APP1 hX (((mvL cs ts bnA k) ++ [(2, (k : Int), (((ts.getD (((k : Int)).toNat) Th.z).at_ : Nat) : Int))]).length + 1) (mvF (((mvL cs ts bnA k) ++ [(2, (k : Int), (((ts.getD (((k : Int)).toNat) Th.z).at_ : Nat) : Int))]) ++ [(3, (k : Int), 0)])) A rfl rfl rfl rfl (by have := mvL_len cs ts bnA k; first | omega | (simp only [List.length_append, List.length_cons, List.length_nil]; omega)) rfl (fun q hq => by show mvC _ = mvC _; rw [gd_lt hq]) (by show mvC _ = _; rw [gd_nd]) (fun z => ⟨_, rfl, rfl⟩) fun A => have A := (A.rowAs 8 ((((mvL cs ts bnA k) ++ [(2, (k : Int), (((ts.getD (((k : Int)).toNat) Th.z).at_ : Nat) : Int))]) ++ [(3, (k : Int), 0)]).length) (mvF (((mvL cs ts bnA k) ++ [(2, (k : Int), (((ts.getD (((k : Int)).toNat) Th.z).at_ : Nat) : Int))]) ++ [(3, (k : Int), 0)])) rfl (lnA _ _) (fun q hq => rfl) (fun z => ⟨_, rfl, rfl⟩)).say 35 (.sl 8 ((((mvL cs ts bnA k) ++ [(2, (k : Int), (((ts.getD (((k : Int)).toNat) Th.z).at_ : Nat) : Int))]) ++ [(3, (k : Int), 0)]).length) 0) rfl (slA _ _ _); N9 8 A rfl (ok_d (by omega) <| okE_nil) fun A => ⟨k + 1, _, (by omega), (by omega), (((Sy.mvA 8 3 (show (mvL cs ts bnA (k + 1)) = (((mvL cs ts bnA k) ++ [(2, (k : Int), (((ts.getD (((k : Int)).toNat) Th.z).at_ : Nat) : Int))]) ++ [(3, (k : Int), 0)]) by show _ ++ _ ++ _ = _; rw [if_pos h2, if_pos h3]) A rfl rfl).cut [0, 2, 3, 9, 10] rfl).mv 4 [8] rfl rfl rfl rfl (by simp only [List.length_cons, List.length_nil] at h0; omega)).sayT (by rfl)⟩)
     (fun h3 A => N9 8 A rfl (ok_d (by omega) <| okE_nil) fun A => ⟨k + 1, _, (by omega), (by omega), (((Sy.mvA 6 3 (show (mvL cs ts bnA (k + 1)) = ((mvL cs ts bnA k) ++ [(2, (k : Int), (((ts.getD (((k : Int)).toNat) Th.z).at_ : Nat) : Int))]) by show _ ++ _ ++ _ = _; rw [if_pos h2, if_neg h3]; simp only [List.append_nil]) A rfl rfl).cut [0, 2, 3, 9, 10] rfl).mv 4 [6] rfl rfl rfl rfl (by simp only [List.length_cons, List.length_nil] at h0; omega)).sayT (by rfl)⟩))
    (fun h2 A => N9 7 A rfl rfl fun A => C9 [0, 1, 2, 3] (bufC_ m cs ts nn lc o s v (k : Int) (by omega)) A rfl fun A => N9 3 A rfl rfl fun A => forkD 30 A rfl
     (fun h4 A => N9 6 A rfl rfl fun A => APP1 hX ((mvL cs ts bnA k).length + 1) (mvF ((mvL cs ts bnA k) ++ [(3, (k : Int), 0)])) A rfl rfl rfl rfl (by have := mvL_len cs ts bnA k; first | omega | (simp only [List.length_append, List.length_cons, List.length_nil]; omega)) rfl (fun q hq => by show mvC _ = mvC _; rw [gd_lt hq]) (by show mvC _ = _; rw [gd_nd]) (fun z => ⟨_, rfl, rfl⟩) fun A => have A := (A.rowAs 6 (((mvL cs ts bnA k) ++ [(3, (k : Int), 0)]).length) (mvF ((mvL cs ts bnA k) ++ [(3, (k : Int), 0)])) rfl (lnA _ _) (fun q hq => rfl) (fun z => ⟨_, rfl, rfl⟩)).say 35 (.sl 6 (((mvL cs ts bnA k) ++ [(3, (k : Int), 0)]).length) 0) rfl (slA _ _ _); N9 8 A rfl (ok_d (by omega) <| okE_nil) fun A => ⟨k + 1, _, (by omega), (by omega), (((Sy.mvA 6 3 (show (mvL cs ts bnA (k + 1)) = ((mvL cs ts bnA k) ++ [(3, (k : Int), 0)]) by show _ ++ _ ++ _ = _; rw [if_neg (ne_true_of_eq_false h2), if_pos h4]; simp only [List.append_nil]) A rfl rfl).cut [0, 2, 3, 9, 10] rfl).mv 4 [6] rfl rfl rfl rfl (by simp only [List.length_cons, List.length_nil] at h0; omega)).sayT (by rfl)⟩)
     (fun h4 A => N9 8 A rfl (ok_d (by omega) <| okE_nil) fun A => ⟨k + 1, _, (by omega), (by omega), (((Sy.mvA 4 3 (show (mvL cs ts bnA (k + 1)) = (mvL cs ts bnA k) by show _ ++ _ ++ _ = _; rw [if_neg (ne_true_of_eq_false h2), if_neg h4]; simp only [List.append_nil]) A rfl rfl).cut [0, 2, 3, 9, 10] rfl).trunc 5 rfl rfl rfl (by simp only [List.length_cons, List.length_nil] at h0; omega)).sayT (by rfl)⟩)))
   (fun h1 A => N9 4 A rfl rfl fun A => have hkn : k = nn := (by omega); have A := Sy.mvA 4 3 (l' := mvL cs ts bnA nn) (by rw [hkn]) A rfl rfl; N9 6 A rfl rfl fun A => RET hX [4] A ⟨rfl, rfl⟩ rfl rfl rfl rfl rfl rfl rfl rfl h0)
end Go.Proofs.YtbbdanhpphlbpaaGreatDoor.Mc
namespace Go.Proofs.YtbbdanhpphlbpaaGreatDoor.Mc
open Go.RowKit
set_option linter.unusedVariables false
set_option linter.unusedSimpArgs false
set_option maxRecDepth 100000
set_option maxHeartbeats 2000000
set_option simprocs false
def smN (m : Nat → Int) (lc o s v : Int) (k : Nat) : Nat → Int := if k = 0 then m else updR m lc.toNat (bputa0 (m lc.toNat) o s v)
theorem seen_ (m : Nat → Int) (cs : List Cde) (ts : List Th) (nn : Nat) (lc o s v : Int) (hl : 0 ≤ lc ∧ lc < 3) (hO : OS o s) : FnI (DbAt) Tryz.prog 107 [.ptr 0 0, .z9] [some (.blk [.ptr 1 0, .int .i64 (m 0), .int .i64 (m 1), .int .i64 (m 2), .sl 3 1 0, .sla none 0 0, .sla none 0 0]), some (.blk [.sl 2 nn 0]), some (coR9 cs ts nn), some (.row 123 3 1 0 (fun _ => [.int .i64 lc, .int .i64 (mskN o s), .int .i64 v]))] (Rt (.agg [.int .i64 ((updR m lc.toNat (bputa0 (m lc.toNat) o s v)) 0), .int .i64 ((updR m lc.toNat (bputa0 (m lc.toNat) o s v)) 1), .int .i64 ((updR m lc.toNat (bputa0 (m lc.toNat) o s v)) 2)]) [some (.blk [.ptr 1 0, .int .i64 (m 0), .int .i64 (m 1), .int .i64 (m 2), .sl 3 1 0, .sla none 0 0, .sla none 0 0]), some (.blk [.sl 2 nn 0]), some (coR9 cs ts nn), some (.row 123 3 1 0 (fun _ => [.int .i64 lc, .int .i64 (mskN o s), .int .i64 v]))]) :=
 enterI (n := 30) (by kernel_rfl) Tryz.func107 rfl rfl rfl fun G w a h0 hI A => N9 23 A rfl (ok_d (by omega) <| okE_nil) fun A => have A := sy_sayD A 16 (.ptr 0 4) rfl (ix_ptr 0 rfl); N9 6 A rfl rfl fun A => LOOP1 (fun (k : Nat) => [(4, .ptr 4 0), (5, .ptr 5 0), (17, .sl 3 1 0), (18, .int .i64 ((1 : Nat) : Int)), (19, .int .i64 (k : Int))]) (fun (k : Nat) => [some (.blk [.ptr 1 0, .int .i64 (m 0), .int .i64 (m 1), .int .i64 (m 2), .sl 3 1 0, .sla none 0 0, .sla none 0 0]), some (.blk [.sl 2 nn 0]), some (coR9 cs ts nn), some (.row 123 3 1 0 (fun _ => [.int .i64 lc, .int .i64 (mskN o s), .int .i64 v])), some (.blk [.z9, .z9, .z9]), some (.blk [.int .i64 ((smN m lc o s v k) 0), .int .i64 ((smN m lc o s v k) 1), .int .i64 ((smN m lc o s v k) 2)])]) (fun (k : Nat) => k ≤ 1) (fun (k : Nat) => 1 - k) 0 (Nat.zero_le _) ((A.cut [4, 5, 17, 18, 19] rfl).trunc 6 rfl rfl rfl (by simp only [List.length_cons, List.length_nil] at h0; omega)) fun k hK {G a w} A => N9 6 A rfl rfl fun A => forkD 20 A rfl
   (fun h1 A => N9 13 A rfl (ok_d (by omega) <| ok_d (by omega) <| okE_nil) fun A => N9 5 A rfl rfl fun A => I9 [5] LstAt.ok hI (mWrite_ (smN m lc o s v k) lc o s v hl hO) A rfl fun A => N9 3 A rfl rfl fun A => have hk0 : k = 0 := (by omega); have A := A.sayH (H' := [some (.blk [.ptr 1 0, .int .i64 (m 0), .int .i64 (m 1), .int .i64 (m 2), .sl 3 1 0, .sla none 0 0, .sla none 0 0]), some (.blk [.sl 2 nn 0]), some (coR9 cs ts nn), some (.row 123 3 1 0 (fun _ => [.int .i64 lc, .int .i64 (mskN o s), .int .i64 v])), some (.blk [.z9, .z9, .z9]), some (.blk [.int .i64 ((smN m lc o s v (k + 1)) 0), .int .i64 ((smN m lc o s v (k + 1)) 1), .int .i64 ((smN m lc o s v (k + 1)) 2)]), some (.blk [.int .i64 lc, .int .i64 (mskN o s), .int .i64 v])]) (by subst hk0; rfl); N9 4 A rfl (ok_d (by omega) <| okE_nil) fun A => ⟨k + 1, _, (by omega), (by omega), ((A.cut [4, 5, 17, 18, 19] rfl).trunc 6 rfl rfl rfl (by simp only [List.length_cons, List.length_nil] at h0; omega)).sayT (by rfl)⟩)
   (fun h1 A => N9 10 A rfl rfl fun A => R9 A rfl h0 rfl (by have e : k = 1 := (by omega); subst e; rfl) rfl)
theorem drain_ (m : Nat → Int) (cs : List Cde) (ts : List Th) (nn : Nat) (lc o s v : Int) (hl : 0 ≤ lc ∧ lc < 3) (hO : OS o s) : FnI (DbAt) Tryz.prog 73 [.ptr 0 0, .z9] [some (.blk [.ptr 1 0, .int .i64 (m 0), .int .i64 (m 1), .int .i64 (m 2), .sl 3 1 0, .sla none 0 0, .sla none 0 0]), some (.blk [.sl 2 nn 0]), some (coR9 cs ts nn), some (.row 123 3 1 0 (fun _ => [.int .i64 lc, .int .i64 (mskN o s), .int .i64 v]))] (Rt (.tup []) [some (.blk [.ptr 1 0, .int .i64 ((updR m lc.toNat (bputa0 (m lc.toNat) o s v)) 0), .int .i64 ((updR m lc.toNat (bputa0 (m lc.toNat) o s v)) 1), .int .i64 ((updR m lc.toNat (bputa0 (m lc.toNat) o s v)) 2), .st 3 3 1 0 0, .sla none 0 0, .sla none 0 0]), some (.blk [.sl 2 nn 0]), some (coR9 cs ts nn), some (.row 123 3 1 0 (fun _ => [.int .i64 lc, .int .i64 (mskN o s), .int .i64 v]))]) :=
 enterI (n := 33) (by kernel_rfl) Tryz.func73 rfl rfl rfl fun G w a h0 hI A => N9 7 A rfl (ok_d (by omega) <| okE_nil) fun A => have A := sy_sayD A 9 (.ptr 0 4) rfl (ix_ptr 0 rfl); N9 8 A rfl (ok_d (by omega) <| ok_d (by omega) <| okE_nil) fun A => DRAWN hX hmo [] [(7, .tup [], [some (.blk [.ptr 1 0, .int .i64 ((updR m lc.toNat (bputa0 (m lc.toNat) o s v)) 0), .int .i64 ((updR m lc.toNat (bputa0 (m lc.toNat) o s v)) 1), .int .i64 ((updR m lc.toNat (bputa0 (m lc.toNat) o s v)) 2), .sl 3 1 0, .sla none 0 0, .sla none 0 0]), some (.blk [.sl 2 nn 0]), some (coR9 cs ts nn), some (.row 123 3 1 0 (fun _ => [.int .i64 lc, .int .i64 (mskN o s), .int .i64 v])), some (.blk [.int .i64 lc, .int .i64 (mskN o s), .int .i64 v])])] A rfl rfl rfl rfl (by kernel_rfl) ⟨subE (l := [.ptr 1 0]) (r := [.sl 3 1 0, .sla none 0 0, .sla none 0 0]) LstAt.ok hI (mWrite_ m lc o s v hl hO) rfl rfl rfl rfl rfl, trivial⟩ trivial fun A => N9 1 A rfl rfl fun A => ANY hmo [.ptr 0 0, .z9, .ptr 0 0, .z9, .ptr 0 0, .ptr 0 4, .ptr 0 4, .sl 3 1 0, .st 3 3 1 0 0, .ptr 0 0, .ptr 0 4, .ptr 0 4, .tup []] [12] [] 0 [([], [], [some (.blk [.ptr 1 0, .int .i64 ((updR m lc.toNat (bputa0 (m lc.toNat) o s v)) 0), .int .i64 ((updR m lc.toNat (bputa0 (m lc.toNat) o s v)) 1), .int .i64 ((updR m lc.toNat (bputa0 (m lc.toNat) o s v)) 2), .sl 3 1 0, .sla none 0 0, .sla none 0 0]), some (.blk [.sl 2 nn 0]), some (coR9 cs ts nn), some (.row 123 3 1 0 (fun _ => [.int .i64 lc, .int .i64 (mskN o s), .int .i64 v])), some (.blk [.int .i64 lc, .int .i64 (mskN o s), .int .i64 v])]), ([12], [], [some (.blk [.ptr 1 0, .int .i64 ((updR m lc.toNat (bputa0 (m lc.toNat) o s v)) 0), .int .i64 ((updR m lc.toNat (bputa0 (m lc.toNat) o s v)) 1), .int .i64 ((updR m lc.toNat (bputa0 (m lc.toNat) o s v)) 2), .st 3 3 1 0 0, .sla none 0 0, .sla none 0 0]), some (.blk [.sl 2 nn 0]), some (coR9 cs ts nn), some (.row 123 3 1 0 (fun _ => [.int .i64 lc, .int .i64 (mskN o s), .int .i64 v])), some (.blk [.int .i64 lc, .int .i64 (mskN o s), .int .i64 v])])] [[true, true, true, true, true, true, true, true, true, true, true, true, true], [false, false, false, false, false, false, false, false, false, true, true, false, false]] A rfl rfl rfl rfl (by kernel_rfl) rfl (by kernel_rfl) ⟨⟨oV9 0 rfl rfl, ⟨oV9 0 rfl rfl, ⟨oV9 0 rfl rfl, ⟨oV9 0 rfl rfl, ⟨oV9 0 rfl rfl, ⟨oV9 0 rfl rfl, ⟨oE9 0 rfl (eff_say (x := .ix (.ptr 0 4) 1 3 0 0) (ix_ptr 0 rfl) (eff_auto (X := ⟨_, true⟩) (out := .val _ _) hX rfl (ok_d (by omega) <| okE_nil))), ⟨oV9 0 rfl rfl, ⟨oE9 0 rfl (eff_say (x := .st 3 3 ((1 : Int).toNat) (1 - (1 : Int).toNat) 0) (fun _ => rfl) (eff_auto (X := ⟨_, true⟩) (out := .val _ _) hX rfl (ok_d (by omega) <| okE_nil))), ⟨oV9 0 rfl rfl, ⟨oV9 0 rfl rfl, ⟨oE9 0 rfl (eff_say (x := .ix (.ptr 0 4) 1 3 0 0) (ix_ptr 0 rfl) (eff_auto (X := ⟨_, true⟩) (out := .val _ _) hX rfl (ok_d (by omega) <| okE_nil))), ⟨oE9 1 rfl (eff_auto (X := ⟨_, true⟩) (out := .upd 0 [.ptr 1 0, .int .i64 ((updR m lc.toNat (bputa0 (m lc.toNat) o s v)) 0), .int .i64 ((updR m lc.toNat (bputa0 (m lc.toNat) o s v)) 1), .int .i64 ((updR m lc.toNat (bputa0 (m lc.toNat) o s v)) 2), .st 3 3 1 0 0, .sla none 0 0, .sla none 0 0] _) hX rfl rfl), trivial⟩⟩⟩⟩⟩⟩⟩⟩⟩⟩⟩⟩⟩, ⟨⟨oV9 1 rfl rfl, ⟨oV9 1 rfl rfl, trivial⟩⟩, trivial⟩⟩ fun A => ENDN (R9 A rfl h0 rfl rfl rfl)
end Go.Proofs.YtbbdanhpphlbpaaGreatDoor.Mc
namespace Go.Proofs.YtbbdanhpphlbpaaGreatDoor.Mc
open Go.RowKit
set_option linter.unusedVariables false
set_option linter.unusedSimpArgs false
set_option maxRecDepth 100000
set_option maxHeartbeats 2000000
set_option simprocs false
abbrev sk0 (ts : List Th) : Th := (ts.getD ((0 : Int).toNat) Th.z)
abbrev ik0 (cs : List Cde) (ts : List Th) : In := ((cs.getD ((0 : Int).toNat) Cde.z).l.getD ((((ts.getD ((0 : Int).toNat) Th.z).at_ : Nat) : Int)).toNat In.z)
def TI (cs : List Cde) : Amb := fun w ks => CodesAt cs w ks ∧ DbAt w ks
theorem TI.ok {cs : List Cde} : Amb.OK (TI cs) := fun w ks w' ks' h m hk => ⟨CodesAt.ok _ _ _ _ h.1 m hk, LstAt.ok _ _ _ _ h.2 m hk⟩
theorem spot0_ (cs : List Cde) (ts : List Th) (nn : Nat) (lc o s d : Int) (hC : CoreOK cs ts nn) (h0n : 0 < nn) (h1 : spL (ik0 cs ts) = lc) (h2 : spM (sk0 ts).r (ik0 cs ts) = mskN o s) (h3 : spD (sk0 ts).r (ik0 cs ts) = d) : FnI (CodesAt cs) Tryz.prog 92 [.ptr 0 0, .z9] [some (.blk [.sl 1 nn 0]), some (coR9 cs ts nn)] (Rt (.tup [.agg [.int .i64 lc, .int .i64 (mskN o s)], .int .i64 d, .bool (mopI (ik0 cs ts))]) [some (.blk [.sl 1 nn 0]), some (coR9 cs ts nn)]) := by
 have h := cSpotI_ cs ts nn 0 hC ⟨by decide, by omega⟩
 rw [h1, h2, h3] at h
 exact h
theorem touchS_ (m : Nat → Int) (cs : List Cde) (ts : List Th) (nn : Nat) (lc o s v : Int) (hC : CoreOK cs ts nn) (h0n : 0 < nn) (hl : 0 ≤ lc ∧ lc < 3) (hO : OS o s) (hop : (ik0 cs ts).op = 5) (hq1 : spL (ik0 cs ts) = lc) (hq2 : spM (sk0 ts).r (ik0 cs ts) = mskN o s) (hq3 : spD (sk0 ts).r (ik0 cs ts) = v) : FnI (TI cs) Tryz.prog 74 [.ptr 0 0, .z9] [some (.blk [.ptr 1 0, .int .i64 (m 0), .int .i64 (m 1), .int .i64 (m 2), .sla none 0 0, .sla none 0 0, .sla none 0 0]), some (.blk [.sl 2 nn 0]), some (coR9 cs ts nn)] (Rt (.int .i64 0) [some (.blk [.ptr 1 0, .int .i64 (m 0), .int .i64 (m 1), .int .i64 (m 2), .sl 3 1 0, .sla none 0 0, .sla none 0 0]), some (.blk [.sl 2 nn 0]), some (coR9 cs ts nn), some (.row 123 3 1 0 (fun _ => [.int .i64 lc, .int .i64 (mskN o s), .int .i64 v]))]) :=
 enterI (n := 66) (by kernel_rfl) Tryz.func74 rfl rfl rfl fun G w a h0 hI A => N9 12 A rfl rfl fun A => I9 [1, 2] CodesAt.ok hI.1 (cReadyI_ cs ts nn 0 hC ⟨by decide, by omega⟩) A rfl fun A => N9 15 A rfl rfl fun A => I9 [1, 2] CodesAt.ok hI.1 (spot0_ cs ts nn lc o s v hC h0n hq1 hq2 hq3) A rfl fun A => N9 24 A rfl rfl fun A => forkE 32 A rfl
  (fun h1 A => absurd (h1.symm.trans hop) (by decide))
  (fun h1 A => N9 7 A rfl rfl fun A => forkE 39 A rfl
   (fun h2 A => N9 1 A rfl rfl fun A => NILP 0 123 3 (fun _ => [.int .i64 lc, .int .i64 (mskN o s), .int .i64 v]) [.ptr 1 0, .int .i64 (m 0), .int .i64 (m 1), .int .i64 (m 2)] [.sla none 0 0, .sla none 0 0] (H' := [some (.blk [.ptr 1 0, .int .i64 (m 0), .int .i64 (m 1), .int .i64 (m 2), .sl 5 0 0, .sla none 0 0, .sla none 0 0]), some (.blk [.sl 2 nn 0]), some (coR9 cs ts nn), some (.blk (inQ9 ((cs.getD ((0 : Int).toNat) Cde.z).l.getD ((((ts.getD ((0 : Int).toNat) Th.z).at_ : Nat) : Int)).toNat In.z))), some (.blk [.int .i64 lc, .int .i64 (mskN o s)]), some (.row 123 3 0 0 (fun _ => [.int .i64 lc, .int .i64 (mskN o s), .int .i64 v]))]) A rfl (fun z => ⟨_, rfl, rfl⟩) rfl fun A => ANY hmo [.ptr 0 0, .z9, .ptr 0 0, .z9, .ptr 0 0, .ptr 0 4, .ptr 0 4, .sl 5 0 0, .agg [.int .i64 lc, .int .i64 (mskN o s)], .int .i64 v, .agg [.int .i64 lc, .int .i64 (mskN o s), .int .i64 v], .sl 6 1 1, .sl 7 1 0, .ptr 0 0, .ptr 0 4, .ptr 0 4, .tup []] [11, 12, 16] [6, 7] 2 [([], [6, 7], [some (.blk [.ptr 1 0, .int .i64 (m 0), .int .i64 (m 1), .int .i64 (m 2), .sl 5 0 0, .sla none 0 0, .sla none 0 0]), some (.blk [.sl 2 nn 0]), some (coR9 cs ts nn), some (.blk (inQ9 ((cs.getD ((0 : Int).toNat) Cde.z).l.getD ((((ts.getD ((0 : Int).toNat) Th.z).at_ : Nat) : Int)).toNat In.z))), some (.blk [.int .i64 lc, .int .i64 (mskN o s)]), some (.row 123 3 0 0 (fun _ => [.int .i64 lc, .int .i64 (mskN o s), .int .i64 v])), none, none]), ([11], [7], [some (.blk [.ptr 1 0, .int .i64 (m 0), .int .i64 (m 1), .int .i64 (m 2), .sl 5 0 0, .sla none 0 0, .sla none 0 0]), some (.blk [.sl 2 nn 0]), some (coR9 cs ts nn), some (.blk (inQ9 ((cs.getD ((0 : Int).toNat) Cde.z).l.getD ((((ts.getD ((0 : Int).toNat) Th.z).at_ : Nat) : Int)).toNat In.z))), some (.blk [.int .i64 lc, .int .i64 (mskN o s)]), some (.row 123 3 0 0 (fun _ => [.int .i64 lc, .int .i64 (mskN o s), .int .i64 v])), some (.blk [.int .i64 lc, .int .i64 (mskN o s), .int .i64 v]), none]), ([11, 12], [], [some (.blk [.ptr 1 0, .int .i64 (m 0), .int .i64 (m 1), .int .i64 (m 2), .sl 5 0 0, .sla none 0 0, .sla none 0 0]), some (.blk [.sl 2 nn 0]), some (coR9 cs ts nn), some (.blk (inQ9 ((cs.getD ((0 : Int).toNat) Cde.z).l.getD ((((ts.getD ((0 : Int).toNat) Th.z).at_ : Nat) : Int)).toNat In.z))), some (.blk [.int .i64 lc, .int .i64 (mskN o s)]), none, some (.blk [.int .i64 lc, .int .i64 (mskN o s), .int .i64 v]), some (.row 123 3 1 0 (fun _ => [.int .i64 lc, .int .i64 (mskN o s), .int .i64 v]))]), ([11, 12, 16], [], [some (.blk [.ptr 1 0, .int .i64 (m 0), .int .i64 (m 1), .int .i64 (m 2), .sl 7 1 0, .sla none 0 0, .sla none 0 0]), some (.blk [.sl 2 nn 0]), some (coR9 cs ts nn), some (.blk (inQ9 ((cs.getD ((0 : Int).toNat) Cde.z).l.getD ((((ts.getD ((0 : Int).toNat) Th.z).at_ : Nat) : Int)).toNat In.z))), some (.blk [.int .i64 lc, .int .i64 (mskN o s)]), none, some (.blk [.int .i64 lc, .int .i64 (mskN o s), .int .i64 v]), some (.row 123 3 1 0 (fun _ => [.int .i64 lc, .int .i64 (mskN o s), .int .i64 v]))])] [[true, true, true, true, true, true, true, true, true, true, true, true, false, true, true, false, false], [true, true, true, true, true, true, true, true, true, true, false, false, true, true, true, false, false], [true, true, true, true, true, true, true, false, true, true, false, false, false, true, true, true, true], [false, false, false, false, false, false, false, false, false, false, false, false, false, true, true, false, false]] A rfl rfl rfl rfl (by kernel_rfl) rfl (by kernel_rfl) ⟨⟨oV9 0 rfl rfl, ⟨oV9 0 rfl rfl, ⟨oV9 0 rfl rfl, ⟨oV9 0 rfl rfl, ⟨oV9 0 rfl rfl, ⟨oV9 0 rfl rfl, ⟨oE9 0 rfl (eff_say (x := .ix (.ptr 0 4) 1 3 0 0) (ix_ptr 0 rfl) (eff_auto (X := ⟨_, true⟩) (out := .val _ _) hX rfl (ok_d (by omega) <| okE_nil))), ⟨oV9 0 rfl rfl, ⟨oV9 0 rfl rfl, ⟨oV9 0 rfl rfl, ⟨oV9 0 rfl rfl, ⟨⟨_, _, _, _, 1, rfl, rfl, rfl, rfl, new_at 6 (X := ⟨_, true⟩) hX rfl rfl (le0 h0 rfl) rfl rfl rfl rfl⟩, ⟨oV9 0 rfl rfl, ⟨oV9 0 rfl rfl, trivial⟩⟩⟩⟩⟩⟩⟩⟩⟩⟩⟩⟩⟩⟩, ⟨⟨oV9 1 rfl rfl, ⟨oV9 1 rfl rfl, ⟨oV9 1 rfl rfl, ⟨oV9 1 rfl rfl, ⟨oV9 1 rfl rfl, ⟨oV9 1 rfl rfl, ⟨oE9 1 rfl (eff_say (x := .ix (.ptr 0 4) 1 3 0 0) (ix_ptr 0 rfl) (eff_auto (X := ⟨_, true⟩) (out := .val _ _) hX rfl (ok_d (by omega) <| okE_nil))), ⟨oV9 1 rfl rfl, ⟨oV9 1 rfl rfl, ⟨oV9 1 rfl rfl, ⟨⟨_, _, _, _, 2, rfl, rfl, rfl, rfl, put_at 7 (appE (i := 5) hX 1 (fun _ => [.int .i64 lc, .int .i64 (mskN o s), .int .i64 v]) rfl rfl rfl rfl (by decide) rfl (fun k hk => absurd hk (Nat.not_lt_zero _)) rfl (fun z => ⟨_, rfl, rfl⟩)) rfl rfl (le0 h0 rfl) rfl rfl rfl rfl⟩, ⟨oV9 1 rfl rfl, ⟨oV9 1 rfl rfl, trivial⟩⟩⟩⟩⟩⟩⟩⟩⟩⟩⟩⟩⟩, ⟨⟨oV9 2 rfl rfl, ⟨oV9 2 rfl rfl, ⟨oV9 2 rfl rfl, ⟨oV9 2 rfl rfl, ⟨oV9 2 rfl rfl, ⟨oV9 2 rfl rfl, ⟨oE9 2 rfl (eff_say (x := .ix (.ptr 0 4) 1 3 0 0) (ix_ptr 0 rfl) (eff_auto (X := ⟨_, true⟩) (out := .val _ _) hX rfl (ok_d (by omega) <| okE_nil))), ⟨oV9 2 rfl rfl, ⟨oV9 2 rfl rfl, ⟨oV9 2 rfl rfl, ⟨oV9 2 rfl rfl, ⟨oE9 2 rfl (eff_say (x := .ix (.ptr 0 4) 1 3 0 0) (ix_ptr 0 rfl) (eff_auto (X := ⟨_, true⟩) (out := .val _ _) hX rfl (ok_d (by omega) <| okE_nil))), ⟨oE9 3 rfl (eff_auto (X := ⟨_, true⟩) (out := .upd 0 [.ptr 1 0, .int .i64 (m 0), .int .i64 (m 1), .int .i64 (m 2), .sl 7 1 0, .sla none 0 0, .sla none 0 0] _) hX rfl rfl), trivial⟩⟩⟩⟩⟩⟩⟩⟩⟩⟩⟩⟩⟩, ⟨⟨oV9 3 rfl rfl, ⟨oV9 3 rfl rfl, trivial⟩⟩, trivial⟩⟩⟩⟩ fun A => N9 8 A rfl rfl fun A => RET hX [7] A ⟨rfl, rfl⟩ rfl rfl rfl rfl rfl rfl rfl rfl h0)
   (fun h2 A => absurd hop h2))
theorem touchL_ (m : Nat → Int) (cs : List Cde) (ts : List Th) (nn : Nat) (lc o s v d : Int) (hC : CoreOK cs ts nn) (h0n : 0 < nn) (hl : 0 ≤ lc ∧ lc < 3) (hO : OS o s) (hop : (ik0 cs ts).op = 4) (hq1 : spL (ik0 cs ts) = lc) (hq2 : spM (sk0 ts).r (ik0 cs ts) = mskN o s) (hq3 : spD (sk0 ts).r (ik0 cs ts) = d) : FnI (TI cs) Tryz.prog 74 [.ptr 0 0, .z9] [some (.blk [.ptr 1 0, .int .i64 (m 0), .int .i64 (m 1), .int .i64 (m 2), .sl 3 1 0, .sla none 0 0, .sla none 0 0]), some (.blk [.sl 2 nn 0]), some (coR9 cs ts nn), some (.row 123 3 1 0 (fun _ => [.int .i64 lc, .int .i64 (mskN o s), .int .i64 v]))] (Rt (.int .i64 (bgeta0 ((updR m lc.toNat (bputa0 (m lc.toNat) o s v)) lc.toNat) o s)) [some (.blk [.ptr 1 0, .int .i64 (m 0), .int .i64 (m 1), .int .i64 (m 2), .sl 3 1 0, .sla none 0 0, .sla none 0 0]), some (.blk [.sl 2 nn 0]), some (coR9 cs ts nn), some (.row 123 3 1 0 (fun _ => [.int .i64 lc, .int .i64 (mskN o s), .int .i64 v]))]) :=
 enterI (n := 66) (by kernel_rfl) Tryz.func74 rfl rfl rfl fun G w a h0 hI A => N9 12 A rfl rfl fun A => I9 [1, 2] CodesAt.ok hI.1 (cReadyI_ cs ts nn 0 hC ⟨by decide, by omega⟩) A rfl fun A => N9 15 A rfl rfl fun A => I9 [1, 2] CodesAt.ok hI.1 (spot0_ cs ts nn lc o s d hC h0n hq1 hq2 hq3) A rfl fun A => N9 24 A rfl rfl fun A => forkE 32 A rfl
  (fun h1 A => N9 5 A rfl rfl fun A => I9 [0, 1, 2, 3] LstAt.ok hI.2 (seen_ m cs ts nn lc o s v hl hO) A rfl fun A => N9 7 A rfl rfl fun A => I9 [6] LstAt.ok hI.2 (mRead_ (updR m lc.toNat (bputa0 (m lc.toNat) o s v)) lc o s hl hO) A rfl fun A => N9 4 A rfl rfl fun A => R9 A rfl h0 rfl rfl rfl)
  (fun h1 A => absurd hop h1)
end Go.Proofs.YtbbdanhpphlbpaaGreatDoor.Mc
