/- Regions that draw their order, where several make memory and do not wait for one another: each new block has its place from the start. -/
import Derived.Test.YtmieaninmidelaaFlowRunsP3
import Derived.WalkKit
namespace Go.Proofs.Ytmieaninmidelaa
open Go.RowKit
set_option linter.unusedVariables false
set_option linter.unusedSimpArgs false
set_option linter.unusedSectionVars false

theorem le0 {H : Hp} {G : Gr} {r : Nat} (h : H.length = G.length) (hb : Nat.ble H.length r = true) : G.length ≤ r := by rw [← h]; exact Nat.le_of_ble_eq_true hb
mutual
def avS (r : Nat) : SV → Bool
  | .ptr i _ => !Nat.beq i r
  | .el i _ _ _ => !Nat.beq i r
  | .sl i _ _ => !Nat.beq i r
  | .agg l => avL r l
  | .tup l => avL r l
  | .fn _ l => avL r l
  | .opt _ x => avS r x
  | .ix p _ _ _ _ => avS r p
  | .sp p _ _ => avS r p
  | .st i _ _ _ _ => !Nat.beq i r
  | _ => true
def avL (r : Nat) : List SV → Bool
  | [] => true
  | x :: l => avS r x && avL r l
end
theorem av_out {D : List Nat} {i : Nat} (h : ∀ r ∈ D, (!Nat.beq i r) = true) : i ∉ D := fun hi => by
  have := h i hi
  rw [show Nat.beq i i = true from Nat.beq_refl i] at this
  cases this
mutual
theorem den_off {G G' : Gr} {D : List Nat} (e : ∀ i, i ∉ D → G'[i]? = G[i]?) : ∀ (x : SV), (∀ r ∈ D, avS r x = true) → den G' x = den G x
  | .ptr i _, h => by unfold den; rw [e i (av_out h)]
  | .el i _ _ _, h => by unfold den; rw [e i (av_out h)]
  | .sl i _ _, h => by unfold den; rw [e i (av_out h)]
  | .agg l, h => by unfold den; rw [denL_off e l h]
  | .tup l, h => by unfold den; rw [denL_off e l h]
  | .fn _ l, h => by unfold den; rw [denL_off e l h]
  | .opt _ x, h => by unfold den; rw [den_off e x h]
  | .ix p _ _ _ _, h => by unfold den; rw [den_off e p h]
  | .sp p _ _, h => by unfold den; rw [den_off e p h]
  | .st i _ _ _ _, h => by unfold den; rw [e i (av_out h)]
  | .int _ _, _ => rfl
  | .bool _, _ => rfl
  | .tt, _ => rfl
  | .ff, _ => rfl
  | .str _, _ => rfl
  | .sla _ _ _, _ => rfl
  | .v _, _ => rfl
theorem denL_off {G G' : Gr} {D : List Nat} (e : ∀ i, i ∉ D → G'[i]? = G[i]?) : ∀ (l : List SV), (∀ r ∈ D, avL r l = true) → denL G' l = denL G l
  | [], _ => rfl
  | x :: l, h => by
    unfold denL
    rw [den_off e x fun r hr => by have := h r hr; simp only [avL, Bool.and_eq_true] at this; exact this.1, denL_off e l fun r hr => by have := h r hr; simp only [avL, Bool.and_eq_true] at this; exact this.2]
end
def avE (r : Nat) : Option Ent → Bool
  | some (.blk cs) => avL r cs
  | _ => true
def avH (r : Nat) : Hp → Bool
  | [] => true
  | e :: H => avE r e && avH r H
theorem avH_at {r : Nat} : ∀ {H : Hp}, avH r H = true → ∀ (i : Nat) (e : Option Ent), H[i]? = some e → avE r e = true
  | [], _, i, e, h => by cases h
  | f :: H, hb, i, e, h => by
    simp only [avH, Bool.and_eq_true] at hb
    cases i with
    | zero => cases h; exact hb.1
    | succ i => exact avH_at hb.2 i e (by simpa using h)
theorem EntOK.off {G G' : Gr} {r : Nat} {w : World} {p : Option Loc} {e : Ent} (h : EntOK G w p e) (hG : ∀ i, i ∉ [r] → G'[i]? = G[i]?) (ha : avE r (some e) = true) : EntOK G' w p e := by
  cases e with
  | blk cs => obtain ⟨M, vs, h1, h2, h3⟩ := h; exact ⟨M, vs, h1, by rw [denL_off hG cs (fun q hq => by simp at hq; subst hq; exact ha)]; exact h2, h3⟩
  | lst s n f => exact h
  | fac b o => exact h
  | row e s n c f => exact h
section
variable {P : Program} {X : Tx} {n : Nat} {ks : List Nat} {G0 : Gr} {w0 : World} {T : List (Nat × SV)} {H : Hp} {G : Gr} {a : Act} {w w' : World} {ops : Array Oper} {o : Oper}
theorem set_off {r : Nat} {y : Option Loc} : ∀ i, i ∉ [r] → (G.set r y)[i]? = G[i]? := fun i hi => by
  simp at hi
  rw [List.getElem?_set_ne (fun h => hi h.symm)]
/-- a new block at the place that was kept for it -/
theorem Sy.place (A : Sy n T H ks G0 w0 G a w) {r g : Nat} {t : TypeId} {en : Ent} (hr : H[r]? = some none) (hr0 : G0.length ≤ r) (hav : avH r H = true) (hg : g = w.heap.size) (hgr : Grow w w') (hen : EntOK G w' (some ⟨g, [], [], t⟩) en) (hmu : en.mut = true) (hae : avE r (some en) = true) :
    Ms (stH H r (some en)) ks G0 w0 (G.set r (some ⟨g, [], [], t⟩)) w' := by
  have hlen := A.mem.len
  have hrl : r < H.length := (List.getElem?_eq_some_iff.1 hr).1
  have B := A.ms.grow hgr
  have hold : ∀ (i : Nat) (e : Ent), (stH H r (some en))[i]? = some (some e) → (i ≠ r ∧ H[i]? = some (some e)) ∨ (i = r ∧ e = en) := by
    intro i e h
    rw [stH_is] at h
    by_cases hi : i = r
    · subst hi; rw [List.getElem?_set_self hrl] at h; cases h; exact .inr ⟨rfl, rfl⟩
    · rw [List.getElem?_set_ne (Ne.symm hi)] at h; exact .inl ⟨hi, h⟩
  have hself : (G.set r (some (⟨g, [], [], t⟩ : Loc)))[r]? = some (some ⟨g, [], [], t⟩) := List.getElem?_set_self (by omega)
  have hne : ∀ {i : Nat}, i ≠ r → (G.set r (some (⟨g, [], [], t⟩ : Loc)))[i]? = G[i]? := fun hi => by rw [List.getElem?_set_ne (Ne.symm hi)]
  refine ⟨⟨by rw [stH_is]; simpa using hlen, fun i e h => ?_, fun i j e f L M hij h1 h2 h3 h4 h5 h6 => ?_⟩, ?_, fun i e L h1 h2 h3 => ?_, B.mix⟩
  · rcases hold i e h with ⟨h1, h2⟩ | ⟨rfl, rfl⟩
    · rw [hne h1]; exact (B.mem.ent i e h2).off set_off (avH_at hav i _ h2)
    · rw [hself]; exact hen.off set_off hae
  · rcases hold i e h1 with ⟨a1, a2⟩ | ⟨rfl, rfl⟩
    · rw [hne a1] at h4
      rcases hold j f h2 with ⟨b1, b2⟩ | ⟨rfl, rfl⟩
      · rw [hne b1] at h5; exact B.mem.sep i j e f L M hij a2 b2 h3 h4 h5 h6
      · rw [hself] at h5; cases h5
        have := A.mem.ent i e a2
        rw [h4] at this
        have := EntOK.lt this (mut_full h3)
        show L.b ≠ g; omega
    · rw [hself] at h4; cases h4
      rcases hold j f h2 with ⟨b1, b2⟩ | ⟨rfl, rfl⟩
      · rw [hne b1] at h5
        have := A.mem.ent j f b2
        rw [h5] at this
        have := EntOK.lt this h6
        show g ≠ M.b; omega
      · exact absurd rfl hij
  · obtain ⟨F, hF⟩ := A.pre
    refine ⟨F.set (r - G0.length) (some ⟨g, [], [], t⟩), ?_⟩
    rw [hF, List.set_append_right _ _ hr0]
  · rcases hold i e h1 with ⟨a1, a2⟩ | ⟨rfl, rfl⟩
    · rw [hne a1] at h3; exact B.own i e L a2 h2 h3
    · rw [hself] at h3; cases h3
      have := A.mix.size
      exact .inr (by show w0.heap.size ≤ g; omega)
def EffAt (P : Program) (n : Nat) (ops : Array Oper) (ks : List Nat) (G0 : Gr) (w0 : World) (Tw : List (Nat × SV)) (H : Hp) (o : Oper) (x : SV) (H' : Hp) (rs : List Nat) : Prop :=
  ∀ G a w, Sy n Tw H ks G0 w0 G a w → Does P ops o a w fun v w' => ∃ G', (∀ i, i ∉ rs → G'[i]? = G[i]?) ∧ den G' x = some v ∧ Ms H' ks G0 w0 G' w'
theorem eff_at {Tw : List (Nat × SV)} {x : SV} {H' : Hp} {rs : List Nat} (h : EffOK P n ops ks G0 w0 Tw H o x H') (hl : H'.length = H.length) : EffAt P n ops ks G0 w0 Tw H o x H' rs := by
  intro G a w A
  refine does_mono (h G a w A) fun v w' ⟨F, h1, h2⟩ => ⟨G, fun _ _ => rfl, ?_⟩
  have e1 := h2.mem.len
  have e2 := A.mem.len
  have : F = [] := List.eq_nil_of_length_eq_zero (by rw [List.length_append] at e1; omega)
  subst this
  rw [List.append_nil] at h1 h2
  exact ⟨h1, h2⟩
theorem new_at (r : Nat) {Tw : List (Nat × SV)} {x x0 : SV} {H' : Hp} {rs : List Nat} {t : TypeId} {en : Ent} (hX : X.ok P = true) (h : stepS X n ops Tw H o = some (.new t en x0)) (hr : lg H r = some none) (hr0 : G0.length ≤ r) (hav : (avH r H && avE r (some en)) = true) (hren : renO (stH (rngF 0 H.length) r H.length) x = some x0) (hH : stH H r (some en) = H') (hrs : rs.contains r = true) : EffAt P n ops ks G0 w0 Tw H o x H' rs := by
  intro G a w A
  rw [Bool.and_eq_true] at hav
  rw [lg_is] at hr
  have hrl : r < H.length := (List.getElem?_eq_some_iff.1 hr).1
  unfold stepS at h
  split at h
  · next hd =>
    split at h
    · next hg =>
      refine xop_new (P := P) (ops := ops) hX A h (gd_run (gd := none) A hg) fun g w' v a1 a2 a3 a4 a5 => ⟨G.set r (some ⟨g, [], [], t⟩), fun i hi => set_off i (fun hq => ?_), ?_, ?_⟩
      · simp at hq; subst hq; exact hi (by simpa using hrs)
      · have hm : ∀ j ∈ (rngF 0 H.length).set r H.length, j < (G ++ [some (⟨g, [], [], t⟩ : Loc)]).length := fun j hj => by
          have hle : j ∈ rngF 0 H.length ∨ j = H.length := by
            rcases List.mem_or_eq_of_mem_set hj with h | h
            · exact .inl h
            · exact .inr h
          have := A.mem.len
          rcases hle with h | h
          · obtain ⟨k, hk, he⟩ := List.getElem_of_mem h
            rw [rngF_len] at hk
            have := rngF_at H.length 0 k hk
            rw [List.getElem?_eq_getElem (by rw [rngF_len]; exact hk), he] at this
            cases this
            simp; omega
          · simp; omega
        rw [stH_is] at hren
        rw [← a5, ← den_ren hm x hren]
        congr 1
        have hlen := A.mem.len
        apply List.ext_getElem?
        intro i
        by_cases hi : i < H.length
        · by_cases hir : i = r
          · subst hir
            have h1 : ((rngF 0 H.length).set i H.length)[i]? = some H.length := List.getElem?_set_self (by rw [rngF_len]; exact hi)
            rw [pickG_at hm h1, List.getElem?_set_self (by omega), List.getElem?_append_right (by omega), hlen]; simp
          · have h1 : ((rngF 0 H.length).set r H.length)[i]? = some i := by rw [List.getElem?_set_ne (Ne.symm hir), rngF_at _ _ _ hi, Nat.zero_add]
            rw [pickG_at hm h1, List.getElem?_set_ne (Ne.symm hir), List.getElem?_append_left (by omega)]
        · rw [List.getElem?_eq_none (by simp; omega), List.getElem?_eq_none (by simp [pickG, rngF_len]; omega)]
      · rw [← hH]; exact A.place hr hr0 hav.1 a1 a2 a3 a4 hav.2
    · cases h
    · split at h <;> cases h
    · cases h
  · cases h
end
section
variable {P : Program} {n : Nat} {ks : List Nat} {G0 : Gr} {w0 : World} {H : Hp} {G : Gr} {w w' : World} {ops : Array Oper} {o : Oper}
theorem EntOK.offL {G G' : Gr} {D : List Nat} {w : World} {p : Option Loc} {e : Ent} (h : EntOK G w p e) (hG : ∀ i, i ∉ D → G'[i]? = G[i]?) (ha : ∀ r ∈ D, avE r (some e) = true) : EntOK G' w p e := by
  cases e with
  | blk cs => obtain ⟨M, vs, h1, h2, h3⟩ := h; exact ⟨M, vs, h1, by rw [denL_off hG cs ha]; exact h2, h3⟩
  | lst s n f => exact h
  | fac b o => exact h
  | row e s n c f => exact h
/-- what stands last, put at the place that was kept for it -/
theorem Ms.put {r : Nat} {en : Ent} {p : Option Loc} (M : Ms (H ++ [some en]) ks G0 w0 (G ++ [p]) w') (hr : H[r]? = some none) (hr0 : G0.length ≤ r) (hav : ∀ q ∈ [r, H.length], avH q H = true ∧ avE q (some en) = true) : Ms (stH H r (some en)) ks G0 w0 (G.set r p) w' := by
  have hlen : H.length = G.length := by have := M.mem.len; simpa using this
  have hrl : r < H.length := (List.getElem?_eq_some_iff.1 hr).1
  have hold : ∀ (i : Nat) (e : Ent), (stH H r (some en))[i]? = some (some e) → ∃ j, (H ++ [some en])[j]? = some (some e) ∧ (G.set r p)[i]? = (G ++ [p])[j]? ∧ ((i ≠ r ∧ j = i ∧ H[i]? = some (some e)) ∨ (i = r ∧ j = H.length ∧ e = en)) := by
    intro i e h
    rw [stH_is] at h
    by_cases hi : i = r
    · subst hi; rw [List.getElem?_set_self hrl] at h; cases h
      refine ⟨H.length, by simp, ?_, .inr ⟨rfl, rfl, rfl⟩⟩
      rw [List.getElem?_set_self (by omega), hlen]; simp
    · rw [List.getElem?_set_ne (Ne.symm hi)] at h
      have hl := (List.getElem?_eq_some_iff.1 h).1
      refine ⟨i, by rw [List.getElem?_append_left hl]; exact h, ?_, .inl ⟨hi, rfl, h⟩⟩
      rw [List.getElem?_set_ne (Ne.symm hi), List.getElem?_append_left (by omega)]
  have hoff : ∀ i, i ∉ [r, H.length] → (G.set r p)[i]? = (G ++ [p])[i]? := fun i hi => by
    simp at hi
    rw [List.getElem?_set_ne (fun h => hi.1 h.symm)]
    by_cases hg : i < G.length
    · rw [List.getElem?_append_left hg]
    · rw [List.getElem?_eq_none (by omega), List.getElem?_eq_none (by simp; omega)]
  refine ⟨⟨by rw [stH_is]; simpa using hlen, fun i e h => ?_, fun i j e f L N hij h1 h2 h3 h4 h5 h6 => ?_⟩, ?_, fun i e L h1 h2 h3 => ?_, M.mix⟩
  · obtain ⟨j, g1, g2, g3⟩ := hold i e h
    rw [g2]
    refine (M.mem.ent j e g1).offL hoff fun q hq => ?_
    rcases g3 with ⟨_, _, g⟩ | ⟨_, _, rfl⟩
    · exact avH_at (hav q hq).1 i _ g
    · exact (hav q hq).2
  · obtain ⟨i', g1, g2, g3⟩ := hold i e h1
    obtain ⟨j', k1, k2, k3⟩ := hold j f h2
    rw [g2] at h4
    rw [k2] at h5
    refine M.mem.sep i' j' e f L N ?_ g1 k1 h3 h4 h5 h6
    have hi : ∀ {i : Nat} {e : Ent}, H[i]? = some (some e) → i < H.length := fun h => (List.getElem?_eq_some_iff.1 h).1
    rcases g3 with ⟨a1, a2, a3⟩ | ⟨a1, a2, a3⟩ <;> rcases k3 with ⟨b1, b2, b3⟩ | ⟨b1, b2, b3⟩
    · omega
    · have := hi a3; omega
    · have := hi b3; omega
    · omega
  · obtain ⟨F, hF⟩ := M.pre
    refine ⟨(G.set r p).drop G0.length, ?_⟩
    have e : (G.set r p).take G0.length = G0 := by
      have h1 : (G ++ [p]).take G0.length = G0 := by rw [hF]; simp
      rw [List.take_append_of_le_length (by omega)] at h1
      rw [List.take_set_of_le (by omega)]; exact h1
    have := (List.take_append_drop G0.length (G.set r p)).symm
    rw [e] at this; exact this
  · obtain ⟨i', g1, g2, g3⟩ := hold i e h1
    rw [g2] at h3
    exact M.own i' e L g1 h2 h3
/-- an operation that makes one more, by what it does -/
theorem put_at (r : Nat) {Tw : List (Nat × SV)} {x x0 : SV} {H1 H' : Hp} {rs : List Nat} {en : Ent} (h : EffOK P n ops ks G0 w0 Tw H o x0 (H1 ++ [some en])) (hl : H1.length = H.length) (hr : lg H1 r = some none) (hr0 : G0.length ≤ r) (hav : (avH r H1 && avE r (some en) && avH H1.length H1 && avE H1.length (some en)) = true) (hren : renO (stH (rngF 0 H1.length) r H1.length) x = some x0) (hH : stH H1 r (some en) = H') (hrs : rs.contains r = true) : EffAt P n ops ks G0 w0 Tw H o x H' rs := by
  intro G a w A
  rw [lg_is] at hr
  have hrl : r < H1.length := (List.getElem?_eq_some_iff.1 hr).1
  simp only [Bool.and_eq_true] at hav
  refine does_mono (h G a w A) fun v w' ⟨F, h1, h2⟩ => ?_
  have e1 := h2.mem.len
  have e2 := A.mem.len
  have hF1 : F.length = 1 := by simp at e1; omega
  obtain ⟨p, rfl⟩ := List.length_eq_one_iff.1 hF1
  refine ⟨G.set r p, fun i hi => set_off i (fun hq => ?_), ?_, ?_⟩
  · simp at hq; subst hq; exact hi (by simpa using hrs)
  · have hm : ∀ j ∈ (rngF 0 H1.length).set r H1.length, j < (G ++ [p]).length := fun j hj => by
      rcases List.mem_or_eq_of_mem_set hj with h | h
      · obtain ⟨k, hk, he⟩ := List.getElem_of_mem h
        rw [rngF_len] at hk
        have := rngF_at H1.length 0 k hk
        rw [List.getElem?_eq_getElem (by rw [rngF_len]; exact hk), he] at this
        cases this
        simp; omega
      · simp; omega
    rw [stH_is] at hren
    rw [← h1, ← den_ren hm x hren]
    congr 1
    apply List.ext_getElem?
    intro i
    by_cases hi : i < H1.length
    · by_cases hir : i = r
      · subst hir
        have h1 : ((rngF 0 H1.length).set i H1.length)[i]? = some H1.length := List.getElem?_set_self (by rw [rngF_len]; exact hi)
        rw [pickG_at hm h1, List.getElem?_set_self (by omega), List.getElem?_append_right (by omega), hl, e2]; simp
      · have h1 : ((rngF 0 H1.length).set r H1.length)[i]? = some i := by rw [List.getElem?_set_ne (Ne.symm hir), rngF_at _ _ _ hi, Nat.zero_add]
        rw [pickG_at hm h1, List.getElem?_set_ne (Ne.symm hir), List.getElem?_append_left (by omega)]
    · rw [List.getElem?_eq_none (by simp; omega), List.getElem?_eq_none (by simp [pickG, rngF_len]; omega)]
  · rw [← hH]
    refine h2.put hr hr0 fun q hq => ?_
    simp at hq
    rcases hq with rfl | rfl
    · exact ⟨hav.1.1.1, hav.1.1.2⟩
    · exact ⟨hav.1.2, hav.2⟩
end
/-- may operation i come where these stand behind it? -/
def mayI (ops : Array Oper) (ef c : List Nat) (i : Nat) (o : Oper) : Bool :=
  !c.contains i && ef.all (fun p => !wt ops o p || c.contains p) && c.all (fun p => match ops[p]? with | some q => !waits q i | none => true)
section
variable {P : Program} {X : Tx} {n : Nat} {ks : List Nat} {G0 : Gr} {w0 : World} {T : List (Nat × SV)} {l : List Oper} {xs : List SV} {Q : Exit → Act → World → Prop} {ef rs0 : List Nat} {tb : List (List Nat × List Nat × Hp)}
structure AInv (n : Nat) (ks : List Nat) (G0 : Gr) (w0 : World) (T : List (Nat × SV)) (l : List Oper) (xs : List SV) (ef rs0 : List Nat) (c rs : List Nat) (H : Hp) (listed : Array Bool) (G : Gr) (a : Act) (w : World) : Prop where
  size : a.tmps.size = n
  defers : a.defers = []
  base : ∀ t x, look T t = some x → (∀ (j : Nat) (o : Oper), l[j]? = some o → o.dst = some t → listed.getD j false = false) → den G x = some (a.tmps.getD t undef)
  done : ∀ (j : Nat) (o : Oper) (x : SV), l[j]? = some o → listed.getD j false = true → xs[j]? = some x → (∀ r ∈ rs, avS r x = true) ∧ ∀ d, o.dst = some d → den G x = some (a.tmps.getD d undef)
  ms : Ms H ks G0 w0 G w
  eff : ∀ p ∈ ef, (listed.getD p false = true ↔ p ∈ c)
  sub : ∀ p ∈ c, p ∈ ef
  rsub : ∀ r ∈ rs, r ∈ rs0
  closed : ∀ (j : Nat) (o : Oper) (p : Nat), l[j]? = some o → listed.getD j false = true → waits o p = true → listed.getD p false = true
def StepOb (P : Program) (n : Nat) (ks : List Nat) (G0 : Gr) (w0 : World) (T : List (Nat × SV)) (l : List Oper) (xs : List SV) (ef : List Nat) (tb : List (List Nat × List Nat × Hp)) (c rs : List Nat) (H : Hp) (i : Nat) (o : Oper) : Prop :=
  ∃ (x : SV) (c' rs' : List Nat) (H' : Hp) (k' : Nat), xs[i]? = some x ∧ tb[k']? = some (c', rs', H') ∧ ((ef.all fun p => c'.contains p == (Nat.beq p i || c.contains p)) && c'.all ef.contains) = true ∧ (rs'.all fun r => rs.contains r && avS r x) = true ∧ EffAt P n l.toArray ks G0 w0 (twL o l xs 0 T) H o x H' rs
theorem any_go (hfit : fitB l.toArray n [] = true) (hT : ∀ t x, look T t = some x → ∀ (j : Nat) (o : Oper), l[j]? = some o → o.dst = some t → ∀ i, i < l.length → i ≠ j → waits o i = true) (hTa : ∀ t x, look T t = some x → ∀ r ∈ rs0, avS r x = true) (hl : xs.length = l.length)
    (hob : ∀ (k : Nat) (c rs : List Nat) (H : Hp), tb[k]? = some (c, rs, H) → ∀ (i : Nat) (o : Oper), l[i]? = some o → mayI l.toArray ef c i o = true → StepOb P n ks G0 w0 T l xs ef tb c rs H i o)
    (hend : ∀ (k : Nat) (c rs : List Nat) (H : Hp), tb[k]? = some (c, rs, H) → (∀ p ∈ ef, p < l.length → p ∈ c) → ∀ G a w, Sy n (putS l xs T) H ks G0 w0 G a w → Q .normal a w) :
    ∀ (fuel : Nat) (listed : Array Bool) (a : Act) (w : World) (k : Nat) (c rs : List Nat) (H : Hp) (G : Gr), listed.size = l.length → ((List.range l.length).filter fun i => !listed.getD i true).length ≤ fuel → tb[k]? = some (c, rs, H) → AInv n ks G0 w0 T l xs ef rs0 c rs H listed G a w → wpAny P .any l.toArray Q fuel listed a w := by
  have last : ∀ (listed : Array Bool) (a : Act) (w : World) (k : Nat) (c rs : List Nat) (H : Hp) (G : Gr), listed.size = l.length → Region.ready .any l.toArray listed = [] → tb[k]? = some (c, rs, H) → AInv n ks G0 w0 T l xs ef rs0 c rs H listed G a w → Q .normal a w := by
    intro listed a w k c rs H G hls hr hk I
    have all : ∀ i, i < l.length → listed.getD i false = true := by
      intro i
      induction i using Nat.strongRecOn with
      | _ i ih =>
        intro hi
        cases hq : listed.getD i false with
        | true => rfl
        | false =>
          exfalso
          have : i ∈ Region.ready .any l.toArray listed := by
            rw [mem_ready]
            have hli : i < listed.size := by omega
            have hoi : l.toArray[i]? = some l[i] := by simp [hi]
            refine ⟨by simpa [hli] using hq, l[i], hoi, fun e he hb => ?_⟩
            have hlt := (fit_spec hfit hoi).2 e he hb
            exact ih e.on hlt (by omega)
          rw [hr] at this; cases this
    refine hend k c rs H hk (fun p hp hpl => (I.eff p hp).1 (all p hpl)) G a w (I.ms.sy I.size I.defers fun t x hx => ?_)
    rcases put_look hl hx with ⟨i, p, q1, q2, q3⟩ | ⟨hx, hno⟩
    · exact (I.done i p x q1 (all i (List.getElem?_eq_some_iff.1 q1).1) q2).2 t q3
    · exact I.base t x hx fun j o h1 h2 => absurd h2 (hno j o h1)
  intro fuel
  induction fuel with
  | zero =>
    intro listed a w k c rs H G hls hf hk I
    have hr : Region.ready .any l.toArray listed = [] := by
      unfold Region.ready
      rw [List.filter_eq_nil_iff]
      intro i hi
      have hnil : ((List.range l.length).filter fun i => !listed.getD i true) = [] := List.eq_nil_of_length_eq_zero (by omega)
      rw [List.filter_eq_nil_iff] at hnil
      have := hnil i (by simpa using hi)
      simp only [Bool.not_eq_true, Bool.not_eq_false'] at this
      simp [this]
    exact ⟨hr, last listed a w k c rs H G hls hr hk I⟩
  | succ fuel ih =>
    intro listed a w k c rs H G hls hf hkt I
    refine ⟨fun hr => last listed a w k c rs H G hls hr hkt I, fun i hi => ?_⟩
    obtain ⟨hun, o, hoi, hall⟩ := mem_ready.1 hi
    have hil : i < l.length := by have := (Array.getElem?_eq_some_iff.1 hoi).1; simpa using this
    have hoi' : l[i]? = some o := by simpa using hoi
    obtain ⟨hfd, hfe⟩ := fit_spec hfit hoi
    have hun' : listed.getD i false = false := by
      have hlt : i < listed.size := by omega
      simpa [hlt] using hun
    have hw : ∀ p, waits o p = true → listed.getD p false = true := fun p hp => by
      unfold waits at hp
      rw [List.any_eq_true] at hp
      obtain ⟨e, he', hb⟩ := hp
      have he : e ∈ o.after := by simpa using he'
      simp only [Bool.and_eq_true, beq_iff_eq] at hb
      rw [← hb.2]
      exact hall e he hb.1
    -- what is known where it stands
    have A : Sy n (twL o l xs 0 T) H ks G0 w0 G a w := I.ms.sy I.size I.defers fun t x hx => by
      rcases tw_look hx with ⟨j, p, q1, q2, q3, q4⟩ | hx
      · exact (I.done j p x q1 (hw j (by simpa using q3)) q2).2 t q4
      · refine I.base t x hx fun j p h1 h2 => ?_
        by_cases hji : j = i
        · subst hji; exact hun'
        · cases hlj : listed.getD j false with
          | false => rfl
          | true =>
            have := I.closed j p i h1 hlj (hT t x hx j p h1 h2 i hil (Ne.symm hji))
            rw [hun'] at this; cases this
    have hmay : mayI l.toArray ef c i o = true := by
      unfold mayI
      simp only [Bool.and_eq_true, Bool.not_eq_true', List.all_eq_true, Bool.or_eq_true]
      refine ⟨⟨?_, fun p hp => ?_⟩, fun p hp => ?_⟩
      · cases hc : c.contains i with
        | false => rfl
        | true =>
          have h1 : i ∈ c := by simpa using hc
          have := (I.eff i (I.sub i h1)).2 h1
          rw [hun'] at this; cases this
      · cases hq : wt l.toArray o p with
        | false => exact .inl rfl
        | true =>
          refine .inr ?_
          have hlp : listed.getD p false = true := by
            unfold wt at hq
            cases hd : waits o p with
            | true => exact hw p hd
            | false =>
              rw [hd] at hq
              exact via_listed (ops := l.toArray) (fun j o' p' h1 h2 h3 => I.closed j o' p' (by simpa using h1) h2 h3) 2 o.after.toList (fun e he hb => hall e (by simpa using he) hb) hq
          have := (I.eff p hp).1 hlp
          simpa using this
      · split
        · next q hq =>
          cases hd : waits q i with
          | false => rfl
          | true =>
            have h1 := (I.eff p (I.sub p hp)).2 hp
            have := I.closed p q i (by simpa using hq) h1 hd
            rw [hun'] at this; cases this
        · rfl
    obtain ⟨x, c', rs', H', k', hx, hk', hc', hrs', he⟩ := hob k c rs H hkt i o hoi' hmay
    rw [Bool.and_eq_true, List.all_eq_true, List.all_eq_true] at hc'
    rw [List.all_eq_true] at hrs'
    have hr1 : ∀ r ∈ rs', r ∈ rs ∧ avS r x = true := fun r hr => by
      have := hrs' r hr
      rw [Bool.and_eq_true] at this
      exact ⟨by simpa using this.1, this.2⟩
    -- the next state
    have next : ∀ (v : Value) (w' : World) (G' : Gr), (∀ i, i ∉ rs → G'[i]? = G[i]?) → den G' x = some v → Ms H' ks G0 w0 G' w' → wpAny P .any l.toArray Q fuel (listed.setIfInBounds i true) (a.put o.dst v) w' := by
      intro v w' G' hG hv hms
      have hlt : i < listed.size := by omega
      have hget : ∀ j, (listed.setIfInBounds i true).getD j false = true ↔ (j = i ∨ listed.getD j false = true) := by
        intro j
        by_cases hji : j = i
        · subst hji; simp [hlt]
        · rw [set_ne false (Ne.symm hji)]; simp [hji]
      refine ih _ _ _ k' c' rs' H' G' (by simpa using hls) ?_ hk' ⟨?_, ?_, fun t y hy hno => ?_, fun j p y q1 q2 q3 => ?_, hms, fun p hp => ?_, fun p hp => ?_, fun r hr => I.rsub r (hr1 r hr).1, fun j p r q1 q2 q3 => ?_⟩
      · have : ((List.range l.length).filter fun k => !(listed.setIfInBounds i true).getD k true).length < ((List.range l.length).filter fun k => !listed.getD k true).length := by
          have hsub : ((List.range l.length).filter fun k => !(listed.setIfInBounds i true).getD k true) = ((List.range l.length).filter fun k => !listed.getD k true).filter (fun k => k != i) := by
            rw [List.filter_filter]
            apply List.filter_congr
            intro k _
            by_cases hk : k = i
            · subst hk; simp [hlt]
            · rw [set_ne true (Ne.symm hk)]; simp [hk]
          rw [hsub]
          refine List.length_filter_lt_length_iff_exists.2 ⟨i, ?_, by simp⟩
          simp only [List.mem_filter, List.mem_range]
          exact ⟨hil, by rw [hun]; rfl⟩
        omega
      · cases hd : o.dst <;> simp [Act.put, I.size]
      · cases hd : o.dst <;> simp [Act.put, I.defers]
      · have hno' : ∀ (j : Nat) (q : Oper), l[j]? = some q → q.dst = some t → listed.getD j false = false := fun j q h1 h2 => by
          have h3 := hno j q h1 h2
          cases hlj : listed.getD j false with
          | false => rfl
          | true => rw [(hget j).2 (.inr hlj)] at h3; cases h3
        have h1 : den G' y = some (a.tmps.getD t undef) := by rw [den_off hG y fun r hr => hTa t y hy r (I.rsub r hr)]; exact I.base t y hy hno'
        cases hd : o.dst with
        | none => exact h1
        | some d =>
          have hne : d ≠ t := fun e => by
            have h3 := hno i o hoi' (by rw [hd, e])
            rw [(hget i).2 (.inl rfl)] at h3; cases h3
          simp only [Act.put, Array.getD_eq_getD_getElem?]
          rw [Array.getElem?_setIfInBounds_ne hne, ← Array.getD_eq_getD_getElem?]
          exact h1
      · by_cases hji : j = i
        · subst hji
          rw [hoi'] at q1; cases q1
          rw [hx] at q3; cases q3
          refine ⟨fun r hr => (hr1 r hr).2, fun d q4 => ?_⟩
          have hdn : d < a.tmps.size := by rw [I.size]; exact (hfd d q4).1
          rw [q4]
          simp [Act.put, hdn, hv]
        · have h2 : listed.getD j false = true := by
            rcases (hget j).1 q2 with h | h
            · exact absurd h hji
            · exact h
          obtain ⟨g1, g2⟩ := I.done j p y q1 h2 q3
          refine ⟨fun r hr => g1 r (hr1 r hr).1, fun d q4 => ?_⟩
          have h1 : den G' y = some (a.tmps.getD d undef) := by rw [den_off hG y g1]; exact g2 d q4
          cases hd : o.dst with
          | none => exact h1
          | some d' =>
            have hne : d' ≠ d := fun e => by
              subst e
              exact hji ((hfd d' hd).2.1 j (by simpa using (List.getElem?_eq_some_iff.1 q1).1) (by simp [dstOf, q1, q4]))
            simp only [Act.put, Array.getD_eq_getD_getElem?]
            rw [Array.getElem?_setIfInBounds_ne hne, ← Array.getD_eq_getD_getElem?]
            exact h1
      · rw [hget p, I.eff p hp]
        have := hc'.1 p hp
        have hb : (p = i ∨ p ∈ c) ↔ (Nat.beq p i || c.contains p) = true := by
          rw [Bool.or_eq_true]
          refine or_congr ⟨fun h => by subst h; exact Nat.beq_refl p, Nat.eq_of_beq_eq_true⟩ (by simp)
        rw [hb]
        rw [beq_iff_eq] at this
        rw [← this]; simp
      · have := hc'.2 p hp; simpa using this
      · rw [hget r]
        by_cases hji : j = i
        · subst hji; rw [hoi'] at q1; cases q1; exact .inr (hw r q3)
        · rcases (hget j).1 q2 with h | h
          · exact absurd h hji
          · exact .inr (I.closed j p r q1 h q3)
    unfold wpOp
    rcases he G a w A with ⟨hwn, h⟩ | ⟨hwn, G', h1, h2, h3⟩
    · simp only [hoi, hwn, if_true]
      refine .inl (Oper.wp_mono (fun a2 w2 h => ?_) (h Q))
      obtain ⟨v, rfl, G', h1, h2, h3⟩ := h
      exact next v w2 G' h1 h2 h3
    · simp only [hoi, hwn, Bool.false_eq_true, if_false]
      exact next undef w G' h1 h2 h3
def mayR (ops : Array Oper) (ef c : List Nat) : List Oper → Nat → List Bool
  | [], _ => []
  | o :: l, i => mayI ops ef c i o :: mayR ops ef c l (i + 1)
def ObS (P : Program) (n : Nat) (ks : List Nat) (G0 : Gr) (w0 : World) (T : List (Nat × SV)) (L : List Oper) (xs : List SV) (ef : List Nat) (tb : List (List Nat × List Nat × Hp)) (c rs : List Nat) (H : Hp) : List Bool → List Oper → Nat → Prop
  | true :: bs, o :: l, i => StepOb P n ks G0 w0 T L xs ef tb c rs H i o ∧ ObS P n ks G0 w0 T L xs ef tb c rs H bs l (i + 1)
  | false :: bs, o :: l, i => ObS P n ks G0 w0 T L xs ef tb c rs H bs l (i + 1)
  | _, _, _ => True
def ObA (P : Program) (n : Nat) (ks : List Nat) (G0 : Gr) (w0 : World) (T : List (Nat × SV)) (L : List Oper) (xs : List SV) (ef : List Nat) (tb : List (List Nat × List Nat × Hp)) : List (List Bool) → List (List Nat × List Nat × Hp) → Prop
  | bs :: B, (c, rs, H) :: ss => ObS P n ks G0 w0 T L xs ef tb c rs H bs L 0 ∧ ObA P n ks G0 w0 T L xs ef tb B ss
  | _, _ => True
theorem obs_at {c rs : List Nat} {H : Hp} {L : List Oper} : ∀ {m : List Oper} {j : Nat}, ObS P n ks G0 w0 T L xs ef tb c rs H (mayR L.toArray ef c m j) m j → ∀ (i : Nat) (o : Oper), m[i]? = some o → mayI L.toArray ef c (j + i) o = true → StepOb P n ks G0 w0 T L xs ef tb c rs H (j + i) o
  | [], j, _, i, o, h, _ => by cases h
  | p :: m, j, hO, i, o, h, hm => by
    unfold mayR at hO
    cases i with
    | zero =>
      cases h
      rw [Nat.add_zero] at hm ⊢
      rw [hm] at hO
      exact hO.1
    | succ i =>
      have hO' : ObS P n ks G0 w0 T L xs ef tb c rs H (mayR L.toArray ef c m (j + 1)) m (j + 1) := by
        cases hb : mayI L.toArray ef c j p with
        | true => rw [hb] at hO; exact hO.2
        | false => rw [hb] at hO; exact hO
      have := obs_at hO' i o (by simpa using h) (by rw [show j + 1 + i = j + (i + 1) by omega]; exact hm)
      rwa [show j + 1 + i = j + (i + 1) by omega] at this
theorem oba_at : ∀ {ss : List (List Nat × List Nat × Hp)}, ObA P n ks G0 w0 T l xs ef tb (ss.map fun s => mayR l.toArray ef s.1 l 0) ss → ∀ (k : Nat) (c rs : List Nat) (H : Hp), ss[k]? = some (c, rs, H) → ObS P n ks G0 w0 T l xs ef tb c rs H (mayR l.toArray ef c l 0) l 0
  | [], _, k, c, rs, H, h => by cases h
  | (c1, r1, H1) :: ss, hO, k, c, rs, H, h => by
    simp only [List.map_cons, ObA] at hO
    cases k with
    | zero => cases h; exact hO.1
    | succ k => exact oba_at hO.2 k c rs H (by simpa using h)
theorem Sy.pad {H : Hp} {G : Gr} {a : Act} {w : World} (A : Ms H ks G0 w0 G w) (m : Nat) : Ms (H ++ List.replicate m none) ks G0 w0 (G ++ List.replicate m none) w := by
  have hlen := A.mem.len
  have hold : ∀ (i : Nat) (e : Ent), (H ++ List.replicate m none)[i]? = some (some e) → H[i]? = some (some e) := by
    intro i e h
    by_cases hi : i < H.length
    · rwa [List.getElem?_append_left hi] at h
    · rw [List.getElem?_append_right (by omega), List.getElem?_replicate] at h
      split at h <;> cases h
  have hg : ∀ (i : Nat) (e : Ent), H[i]? = some (some e) → (G ++ List.replicate m none)[i]? = G[i]? := fun i e h => by
    have := (List.getElem?_eq_some_iff.1 h).1
    rw [List.getElem?_append_left (by omega)]
  refine ⟨⟨by simp [hlen], fun i e h => ?_, fun i j e f L M hij h1 h2 h3 h4 h5 h6 => ?_⟩, ?_, fun i e L h1 h2 h3 => ?_, A.mix⟩
  · rw [hg i e (hold i e h)]; exact (A.mem.ent i e (hold i e h)).more _
  · rw [hg i e (hold i e h1)] at h4
    rw [hg j f (hold j f h2)] at h5
    exact A.mem.sep i j e f L M hij (hold i e h1) (hold j f h2) h3 h4 h5 h6
  · obtain ⟨F, rfl⟩ := A.pre; exact ⟨F ++ List.replicate m none, by simp⟩
  · rw [hg i e (hold i e h1)] at h3; exact A.own i e L (hold i e h1) h2 h3
mutual
theorem av_go {G : Gr} {r : Nat} (key : ∀ i, (∃ p, G[i]? = some p) → (!Nat.beq i r) = true) : ∀ (x : SV) {v : Value}, den G x = some v → avS r x = true
  | .ptr i _, v, hx => by unfold den at hx; split at hx; · next L hL => exact key i ⟨_, hL⟩
                          · cases hx
  | .el i _ _ _, v, hx => by unfold den at hx; split at hx; · next L hL => exact key i ⟨_, hL⟩
                             · cases hx
  | .sl i _ _, v, hx => by unfold den at hx; split at hx; · next L hL => exact key i ⟨_, hL⟩
                           · cases hx
  | .st i _ _ _ _, v, hx => by unfold den at hx; split at hx; · next L hL => exact key i ⟨_, hL⟩
                               · cases hx
  | .agg l, v, hx => by unfold den at hx; obtain ⟨vs, h1, _⟩ := Option.map_eq_some_iff.1 hx; exact avL_go key l h1
  | .tup l, v, hx => by unfold den at hx; obtain ⟨vs, h1, _⟩ := Option.map_eq_some_iff.1 hx; exact avL_go key l h1
  | .fn _ l, v, hx => by unfold den at hx; obtain ⟨vs, h1, _⟩ := Option.map_eq_some_iff.1 hx; exact avL_go key l h1
  | .opt _ x, v, hx => by unfold den at hx; obtain ⟨vs, h1, _⟩ := Option.map_eq_some_iff.1 hx; exact av_go key x h1
  | .ix p _ _ _ _, v, hx => by
    unfold den at hx
    cases hq : den G p with
    | none => rw [hq] at hx; cases hx
    | some u => exact av_go key p hq
  | .sp p _ _, v, hx => by
    unfold den at hx
    cases hq : den G p with
    | none => rw [hq] at hx; cases hx
    | some u => exact av_go key p hq
  | .int _ _, _, _ => rfl
  | .bool _, _, _ => rfl
  | .tt, _, _ => rfl
  | .ff, _, _ => rfl
  | .str _, _, _ => rfl
  | .sla _ _ _, _, _ => rfl
  | .v _, _, _ => rfl
theorem avL_go {G : Gr} {r : Nat} (key : ∀ i, (∃ p, G[i]? = some p) → (!Nat.beq i r) = true) : ∀ (l : List SV) {vs : List Value}, denL G l = some vs → avL r l = true
  | [], _, _ => rfl
  | x :: l, vs, hx => by
    obtain ⟨v, ws, h1, h2, _⟩ := denL_cons hx
    unfold avL
    rw [av_go key x h1, avL_go key l h2]; rfl
end
theorem inS_av {G : Gr} {r : Nat} (h : G.length ≤ r) (x : SV) {v : Value} (hx : den G x = some v) : avS r x = true :=
  av_go (fun i ⟨p, hp⟩ => by
    have := (List.getElem?_eq_some_iff.1 hp).1
    cases hb : Nat.beq i r with
    | false => rfl
    | true => have := Nat.eq_of_beq_eq_true hb; omega) x hx
def endS (ef : List Nat) : List (List Nat × List Nat × Hp) → Option Hp
  | [] => none
  | [(_, _, H)] => some H
  | (c, _, _) :: s => bif ef.all c.contains then none else endS ef s
theorem endS_spec {HE : Hp} : ∀ {tb : List (List Nat × List Nat × Hp)}, endS ef tb = some HE → ∀ (k : Nat) (c rs : List Nat) (H : Hp), tb[k]? = some (c, rs, H) → ef.all c.contains = true → H = HE
  | [], h, k, c, rs, H, hk, _ => by cases hk
  | [(c1, r1, H1)], h, k, c, rs, H, hk, _ => by
    cases h
    cases k with
    | zero => cases hk; rfl
    | succ k => simp at hk
  | (c1, r1, H1) :: s1 :: ss, h, k, c, rs, H, hk, hc => by
    unfold endS at h
    cases hb : ef.all c1.contains with
    | true => rw [hb] at h; cases h
    | false =>
      rw [hb] at h
      cases k with
      | zero => cases hk; rw [hc] at hb; cases hb
      | succ k => exact endS_spec (tb := s1 :: ss) h k c rs H (by simpa using hk) hc
/-- a region that draws its order, with places kept for what is made -/
theorem ANY {id : Nat} {H HE : Hp} {G : Gr} {a : Act} {w : World} {K : List Fr} (hmo : P.follows .mixedOrders = true) (xs : List SV) (ef rs0 : List Nat) (m : Nat) (tb : List (List Nat × List Nat × Hp)) (B : List (List Bool)) (A : Sy n T H ks G0 w0 G a w)
    (h0 : tb[0]? = some ([], rs0, H ++ List.replicate m none)) (hE : endS ef tb = some HE) (hrs : (rs0.all fun r => Nat.ble H.length r) = true) (hef : (ef.all fun p => Nat.blt p l.length) = true) (hB : (tb.map fun s => mayR l.toArray ef s.1 l 0) = B) (hl : xs.length = l.length) (hfit : fitB l.toArray n [] = true)
    (hO : ObA P n ks G0 w0 (keepT l T) l xs ef tb B tb) (hk : ∀ {G a w}, Sy n (putS l xs (keepT l T)) HE ks G0 w0 G a w → Goal P Q K .norm a w) : Goal P Q K (.code (.region id l.toArray true)) a w := by
  refine wp_region_any hmo ?_
  have hB1 : Ms H ks G0 w0 G w.drew := A.ms.grow (Grow.refl w).drew
  rw [List.all_eq_true] at hrs hef
  refine any_go (P := P) (xs := xs) (T := keepT l T) (ef := ef) (rs0 := rs0) (tb := tb) hfit (fun t x hx j o h3 h4 i hi hne => lt_spec (by have := keepB_spec (keep_look hx).2 j o h3 h4; rwa [Nat.zero_add] at this) i hi hne) (fun t x hx r hr => ?_) hl (fun k c rs H hk i o hi hm => ?_) (fun k c rs H' hk' hall G a w A' => ?_) _ _ _ _ 0 [] rs0 _ (G ++ List.replicate m none) (by simp) (by
    refine Nat.le_trans (List.length_filter_le _ _) (by simp)) h0 ⟨A.size, A.defers, fun t x hx _ => den_mono _ x (A.get t x (keep_look hx).1), fun j o x _ hj => ?_, Sy.pad (a := a) hB1 m, fun p hp => ?_, fun p hp => absurd hp (by simp), fun r hr => hr, fun j o p _ hj => ?_⟩
  · have := hrs r hr
    rw [A.mem.len] at this
    exact inS_av (G := G) (Nat.le_of_ble_eq_true this) x (A.get t x (keep_look hx).1)
  · have := obs_at (oba_at (by rw [hB]; exact hO) k c rs H hk) i o hi (by rw [Nat.zero_add]; exact hm)
    rwa [Nat.zero_add] at this
  · have h2 : (ef.all c.contains) = true := by
      rw [List.all_eq_true]
      intro p hp
      have := hall p hp (by have := hef p hp; simpa [Nat.blt_eq] using this)
      simpa using this
    cases endS_spec hE k c rs H' hk' h2
    exact hk A'
  · exfalso; simp [Array.getD_eq_getD_getElem?, Array.getElem?_replicate] at hj; split at hj <;> simp at hj
  · constructor
    · intro hj; exfalso; simp [Array.getD_eq_getD_getElem?, Array.getElem?_replicate] at hj; split at hj <;> simp at hj
    · intro hj; cases hj
  · exfalso; simp [Array.getD_eq_getD_getElem?, Array.getElem?_replicate] at hj; split at hj <;> simp at hj
/-! ### Cells written out, as a list that is read -/
theorem blk_parts {α : Type} (d : α) (cf : α → List SV) (s : Nat) (hs : ∀ x, (cf x).length = s) (hin : ∀ x, inL 0 (cf x) = true) : ∀ (L : List α) (k : Nat), k < L.length → tk s (dp (k * s) (L.flatMap cf)) = some (cf (L.getD k d)) ∧ inL 0 (cf (L.getD k d)) = true
  | [], k, h => by simp at h
  | x :: L, 0, _ => by
    refine ⟨?_, hin _⟩
    have tkl : ∀ (a b : List SV), tk a.length (a ++ b) = some a := by
      intro a b
      induction a with
      | nil => rfl
      | cons y a ih => simp [tk, ih]
    rw [Nat.zero_mul, ← hs x]
    exact tkl _ _
  | x :: L, k + 1, h => by
    have := blk_parts d cf s hs hin L k (by simpa using h)
    rw [dp_is] at this ⊢
    have e : (k + 1) * s = (cf x).length + k * s := by rw [hs, Nat.add_mul]; omega
    rw [List.flatMap_cons, e, ← List.drop_drop, List.drop_left]
    exact this
theorem Sy.asT {H : Hp} {G : Gr} {a : Act} {w : World} (A : Sy n T H ks G0 w0 G a w) {α : Type} (d : α) (cf : α → List SV) (s : Nat) (hs : ∀ x, (cf x).length = s) (hin : ∀ x, inL 0 (cf x) = true) (htot : ∀ x, ∃ vs, denL [] (cf x) = some vs) (L : List α) (i : Nat) (hi : lg H i = some (some (.blk (L.flatMap cf)))) : Sy n T (stH H i (some (.lst s L.length fun zz => cf (L.getD zz d)))) ks G0 w0 G a w :=
  A.asList i (f := fun zz => cf (L.getD zz d)) (by rw [lg_is] at hi; exact hi) (.inr ⟨_, rfl, blk_parts d cf s hs hin L⟩) (fun _ _ => rfl) (fun k => htot _)
theorem eff_asT {α : Type} {d : α} {cf : α → List SV} {s : Nat} (hc : (∀ x, (cf x).length = s) ∧ (∀ x, inL 0 (cf x) = true) ∧ (∀ x, ∃ vs, denL [] (cf x) = some vs)) (L : List α) (i : Nat) {H H' : Hp} {ops : Array Oper} {o : Oper} {x : SV} {Tw : List (Nat × SV)} (hi : lg H i = some (some (.blk (L.flatMap cf)))) (h : EffOK P n ops ks G0 w0 Tw (stH H i (some (.lst s L.length fun zz => cf (L.getD zz d)))) o x H') : EffOK P n ops ks G0 w0 Tw H o x H' := fun G a w A => h G a w (A.asT d cf s hc.1 hc.2.1 hc.2.2 L i hi)
end
end Go.Proofs.Ytmieaninmidelaa
/- A row that a call made and gives away; a row that was given. -/
namespace Go.Proofs.Ytmieaninmidelaa
open Go.RowKit
set_option linter.unusedVariables false
set_option linter.unusedSimpArgs false
set_option linter.unusedSectionVars false
/-- a row lies in this block, and nobody else has it -/
def Given (e s m : Nat) (f : Nat → List SV) (b cp : Nat) (w : World) : Prop := (∀ k, ∃ vs, denL [] (f k) = some vs ∧ vs.length = s) ∧ ∃ xs, flatV f m = some xs ∧ w.ownsRow 0 e s (.slice (some ⟨b, 0, none⟩) m cp) m xs
section
variable {P : Program} {n : Nat} {ks : List Nat} {G0 : Gr} {w0 : World} {T : List (Nat × SV)} {H : Hp} {G : Gr} {a : Act} {w w' : World}
theorem Sy.giveRow (A : Sy n T H ks G0 w0 G a w) (i t : Nat) {e s m c : Nat} {f : Nat → List SV} {H' : Hp} (hm : 0 < m) (hi : lg H i = some (some (.row e s m c f))) (ht : look T t = some (.sl i m c)) (hH : stH H i none = H') :
    ∃ b cp, Sy n ((t, .sla (some ⟨b, 0, none⟩) m cp) :: T) H' ks G0 w0 G a w ∧ Given e s m f b cp w ∧ (ks.contains b = true ∨ w0.heap.size ≤ b) ∧ (keys H' G).contains b = false := by
  subst hH
  rw [lg_is] at hi
  obtain ⟨h1, h2, xs, h3, h4⟩ := A.mem.ent i _ hi
  have h5 : ∃ L, G[i]? = some (some L) := by
    cases hq : G[i]? with
    | none =>
      rw [hq] at h4
      rcases h4.2 with ⟨_, h⟩ | ⟨g, cap, cur, h, _⟩
      · omega
      · cases h
    | some p =>
      cases p with
      | none =>
        rw [hq] at h4
        rcases h4.2 with ⟨_, h⟩ | ⟨g, cap, cur, h, _⟩
        · omega
        · cases h
      | some L => exact ⟨L, rfl⟩
  obtain ⟨L, hGi⟩ := h5
  rw [hGi] at h2 h4
  have hpre : L.pre = [] := h2 L rfl
  have h4' : w.ownsRow 0 e s (.slice (some ⟨L.b, 0, none⟩) m (c + rm (some L))) m xs := by
    have : (Option.map (fun L : Loc => (⟨L.b, L.pre.length, none⟩ : Addr)) (some L)) = some ⟨L.b, 0, none⟩ := by simp [hpre]
    rw [← this]; exact h4
  have hold : ∀ (j : Nat) (e : Ent), (stH H i none)[j]? = some (some e) → j ≠ i ∧ H[j]? = some (some e) := by
    intro j e h
    rw [stH_is] at h
    by_cases hj : j = i
    · subst hj; rw [List.getElem?_set_self (List.getElem?_eq_some_iff.1 hi).1] at h; cases h
    · rw [List.getElem?_set_ne (Ne.symm hj)] at h; exact ⟨hj, h⟩
  refine ⟨L.b, c + rm (some L), ⟨A.size, A.defers, fun q x hx => ?_, ⟨by rw [stH_is]; simpa using A.mem.len, fun j e he => A.mem.ent j e (hold j e he).2, fun j k e f L' M hjk g1 g2 g3 g4 g5 g6 => A.mem.sep j k e f L' M hjk (hold j e g1).2 (hold k f g2).2 g3 g4 g5 g6⟩, A.pre, fun j e L' g1 g2 g3 => A.own j e L' (hold j e g1).2 g2 g3, A.mix⟩, ⟨h1, xs, h3, h4'⟩, A.own i _ L hi rfl hGi, ?_⟩
  · unfold look at hx
    cases hb : Nat.beq t q with
    | true =>
      rw [hb] at hx; cases hx
      have := Nat.eq_of_beq_eq_true hb
      subst this
      have := A.get t _ ht
      unfold den at this
      rw [hGi] at this
      rw [← this]
      simp [den, hpre]
    | false => rw [hb] at hx; exact A.get q x hx
  · cases hq : (keys (stH H i none) G).contains L.b with
    | false => rfl
    | true =>
      obtain ⟨j, e, L', g1, g2, g3, g4⟩ := mem_keys.1 hq
      obtain ⟨k1, k2⟩ := hold j e g1
      exact absurd g4.symm (A.mem.sep i j _ e L L' (Ne.symm k1) hi k2 rfl hGi g3 (mut_full g2))
/-- a given row gets a place -/
theorem Sy.takeRow (A : Sy n T H ks G0 w0 G a w) (t : Nat) {e s m b cp : Nat} {f : Nat → List SV} (hg : Given e s m f b cp w) (hn : ∀ (i : Nat) (e : Ent) (L : Loc), H[i]? = some (some e) → G[i]? = some (some L) → ¬ e.empty → L.b ≠ b) (ho : w0.heap.size ≤ b) (ht : look T t = some (.sla (some ⟨b, 0, none⟩) m cp)) :
    Sy n ((t, .sl H.length m 0) :: T) (H ++ [some (.row e s m 0 f)]) ks G0 w0 (G ++ [some ⟨b, [], List.replicate cp undef, e⟩]) a w := by
  have hlen := A.mem.len
  obtain ⟨p1, xs, p2, p3⟩ := hg
  have hen : EntOK G w (some ⟨b, [], List.replicate cp undef, e⟩) (.row e s m 0 f) := ⟨p1, fun L hL => by cases hL; rfl, xs, p2, by simpa [rm] using p3⟩
  have hold : ∀ (i : Nat) (x : Ent), (H ++ [some (Ent.row e s m 0 f)])[i]? = some (some x) → (H[i]? = some (some x) ∧ i < H.length) ∨ (i = H.length ∧ x = .row e s m 0 f) := by
    intro i x h
    by_cases hi : i < H.length
    · rw [List.getElem?_append_left hi] at h; exact .inl ⟨h, hi⟩
    · rw [List.getElem?_append_right (by omega)] at h
      have : i - H.length = 0 := by
        cases hq : i - H.length with
        | zero => rfl
        | succ k => rw [hq] at h; simp at h
      rw [this] at h
      simp at h
      exact .inr ⟨by omega, h.symm⟩
  have hG : ∀ i, i < H.length → (G ++ [some (⟨b, [], List.replicate cp undef, e⟩ : Loc)])[i]? = G[i]? := fun i hi => List.getElem?_append_left (by omega)
  have hGn : (G ++ [some (⟨b, [], List.replicate cp undef, e⟩ : Loc)])[H.length]? = some (some ⟨b, [], List.replicate cp undef, e⟩) := by rw [List.getElem?_append_right (by omega), hlen]; simp
  refine ⟨A.size, A.defers, fun q x hx => ?_, ⟨by simp [hlen], ?_, ?_⟩, ?_, ?_, A.mix⟩
  · unfold look at hx
    cases hb : Nat.beq t q with
    | true =>
      rw [hb] at hx; cases hx
      have := Nat.eq_of_beq_eq_true hb
      subst this
      have := A.get t _ ht
      unfold den at this ⊢
      rw [hGn, ← this]
      simp [rm]
    | false => rw [hb] at hx; exact den_mono _ x (A.get q x hx)
  · intro i x h
    rcases hold i x h with ⟨h1, h2⟩ | ⟨rfl, rfl⟩
    · rw [hG i h2]; exact (A.mem.ent i x h1).more _
    · rw [hGn]; exact hen.more _
  · intro i j x y L M hij h1 h2 h3 h4 h5 h6
    rcases hold i x h1 with ⟨k1, k2⟩ | ⟨rfl, rfl⟩
    · rw [hG i k2] at h4
      rcases hold j y h2 with ⟨k3, k4⟩ | ⟨rfl, rfl⟩
      · rw [hG j k4] at h5; exact A.mem.sep i j x y L M hij k1 k3 h3 h4 h5 h6
      · rw [hGn] at h5; cases h5; exact hn i x L k1 h4 (mut_full h3)
    · rw [hGn] at h4; cases h4
      rcases hold j y h2 with ⟨k3, k4⟩ | ⟨rfl, rfl⟩
      · rw [hG j k4] at h5; exact fun z => hn j y M k3 h5 h6 z.symm
      · exact absurd rfl hij
  · obtain ⟨F, hF⟩ := A.pre; exact ⟨F ++ [some ⟨b, [], List.replicate cp undef, e⟩], by rw [hF, List.append_assoc]⟩
  · intro i x L h1 h2 h3
    rcases hold i x h1 with ⟨k1, k2⟩ | ⟨rfl, rfl⟩
    · rw [hG i k2] at h3; exact A.own i x L k1 h2 h3
    · rw [hGn] at h3; cases h3; exact .inr ho
/-- cells that lie at an address, as a list that is read -/
theorem Sy.adoptL (A : Sy n T H ks G0 w0 G a w) {α : Type} (d : α) (cf : α → List SV) (s : Nat) (hs : ∀ x, (cf x).length = s) (hin : ∀ x, inL 0 (cf x) = true) (htot : ∀ x, ∃ vs, denL [] (cf x) = some vs) (R : List α) {b cp : Nat} {vs : List Value} (h0 : Lies b 0 vs w0 ks) (hv : denL [] (R.flatMap cf) = some vs) (t : Nat) (hx : look T t = some (.sla (some ⟨b, 0, none⟩) R.length cp)) :
    Sy n ((t, .sl H.length R.length cp) :: T) (H ++ [some (.lst s R.length fun zz => cf (R.getD zz d))]) ks G0 w0 (G ++ [some ⟨b, [], [], 0⟩]) a w := by
  have hl := h0.go A.mix (ks' := ks) fun b hb => .inl hb
  have hlen := A.mem.len
  have hG : (G ++ [some (⟨b, [], [], 0⟩ : Loc)])[H.length]? = some (some ⟨b, [], [], 0⟩) := by rw [List.getElem?_append_right (by omega), hlen]; simp
  have hold : ∀ (i : Nat) (e : Ent), (H ++ [some (Ent.lst s R.length fun zz => cf (R.getD zz d))])[i]? = some (some e) → (H[i]? = some (some e) ∧ i < H.length) ∨ (i = H.length ∧ e = .lst s R.length fun zz => cf (R.getD zz d)) := by
    intro i e h
    by_cases hi : i < H.length
    · rw [List.getElem?_append_left hi] at h; exact .inl ⟨h, hi⟩
    · rw [List.getElem?_append_right (by omega)] at h
      have : i - H.length = 0 := by
        cases hq : i - H.length with
        | zero => rfl
        | succ k => rw [hq] at h; simp at h
      rw [this] at h
      simp at h
      exact .inr ⟨by omega, h.symm⟩
  have hGl : ∀ i, i < H.length → (G ++ [some (⟨b, [], [], 0⟩ : Loc)])[i]? = G[i]? := fun i hi => List.getElem?_append_left (by omega)
  refine ⟨A.size, A.defers, fun q z hz => ?_, ⟨by simp [hlen], ?_, ?_⟩, ?_, ?_, A.mix⟩
  · unfold look at hz
    cases hb : Nat.beq t q with
    | true =>
      rw [hb] at hz; cases hz
      have := Nat.eq_of_beq_eq_true hb
      subst this
      have h1 := A.get t _ hx
      unfold den at h1 ⊢
      rw [hG, ← h1]
      simp [rm]
    | false => rw [hb] at hz; exact den_mono _ z (A.get q z hz)
  · intro i e h
    rcases hold i e h with ⟨h1, h2⟩ | ⟨rfl, rfl⟩
    · rw [hGl i h2]; exact (A.mem.ent i e h1).more _
    · rw [hG]
      refine ⟨fun k => htot _, .inr ⟨_, rfl, hl.1, fun k hk => ?_⟩⟩
      obtain ⟨r1, r2⟩ := blk_parts d cf s hs hin R k hk
      obtain ⟨r3, r4⟩ := tk_is r1
      rw [dp_is] at r3 r4
      have hd : denL [] (cf (R.getD k d)) = some ((vs.drop (k * s)).take s) := by rw [r3]; exact denL_take s (denL_drop _ hv)
      refine ⟨_, hd, fun q v hq => ?_⟩
      have hq' : vs[k * s + q]? = some v := by
        rw [List.getElem?_take] at hq
        split at hq
        · rw [List.getElem?_drop] at hq; exact hq
        · cases hq
      have := hl.2.2 (k * s + q) v hq'
      simpa using this
  · intro i j e f L M hij h1 h2 h3 h4 h5 h6
    rcases hold i e h1 with ⟨k1, k2⟩ | ⟨rfl, rfl⟩
    · rw [hGl i k2] at h4
      rcases hold j f h2 with ⟨k3, k4⟩ | ⟨rfl, rfl⟩
      · rw [hGl j k4] at h5; exact A.mem.sep i j e f L M hij k1 k3 h3 h4 h5 h6
      · rw [hG] at h5
        cases h5
        intro hLM
        rcases A.own i e L k1 h3 h4 with h7 | h7
        · rw [hLM] at h7; simp only at h7; rw [h0.2.1] at h7; cases h7
        · rw [hLM] at h7; simp only at h7; have := h0.1; omega
    · cases h3
  · obtain ⟨F, hF⟩ := A.pre; exact ⟨F ++ [some ⟨b, [], [], 0⟩], by rw [hF, List.append_assoc]⟩
  · intro i e L h1 h2 h3
    rcases hold i e h1 with ⟨k1, k2⟩ | ⟨rfl, rfl⟩
    · rw [hGl i k2] at h3; exact A.own i e L k1 h2 h3
    · cases h2
end
section
variable {P : Program} {n : Nat} {ks : List Nat} {G0 : Gr} {w0 : World} {T : List (Nat × SV)} {H : Hp} {G : Gr} {a : Act} {w w' : World} {Q : Exit → Act → World → Prop} {K : List Fr} {ops : Array Oper} {o : Oper} {rest : List Oper}
/-- a call that gives a row -/
theorem CALLROW {β : Type} {e s m t f : Nat} {F : β → Nat → List SV} {R : β → Nat → World → World → Prop} (hf : FnR P f [] [] (fun x w w' => ∃ (L : β) (b cp : Nat), x = .sla (some ⟨b, 0, none⟩) m cp ∧ R L b w w' ∧ w.heap.size ≤ b ∧ Given e s m (F L) b cp w')) (A : Sy n T H ks G0 w0 G a w) (hd : o.dst = some t) (h1 : callS n ops T o = some (f, []))
    (k : ∀ L b cp a' w' G', R L b w w' → w.heap.size ≤ b → (∀ k, (keys (H ++ [some (.row e s m 0 (F L))]) G').contains k = true → k < w.heap.size ∨ k = b) → Sy n ((t, .sl H.length m 0) :: extS T o.dst (.sla (some ⟨b, 0, none⟩) m cp)) (H ++ [some (.row e s m 0 (F L))]) ks G0 w0 G' a' w' → Goal P Q K (.ops ops rest) a' w') : Goal P Q K (.ops ops (o :: rest)) a w := by
  refine CALLR [] hf A h1 rfl rfl rfl rfl fun x a' w' hJ hk A' => ?_
  obtain ⟨L, b, cp, rfl, hR, hlo, hg⟩ := hJ
  have hl : look (extS T o.dst (.sla (some ⟨b, 0, none⟩) m cp)) t = some (.sla (some ⟨b, 0, none⟩) m cp) := by rw [hd]; simp [extS, look, Nat.beq_refl]
  have A2 := A'.takeRow t hg (fun i e L q1 q2 q3 => by
    have := A.mem.ent i e q1
    rw [q2] at this
    have := EntOK.lt this q3
    omega) (Nat.le_trans A.mix.size hlo) hl
  refine k L b cp a' w' _ hR hlo (fun k hk' => ?_) A2
  obtain ⟨i, e', M, q1, q2, q3, q4⟩ := mem_keys.1 hk'
  have hlen := A.mem.len
  by_cases hi : i < H.length
  · rw [List.getElem?_append_left hi] at q1
    rw [List.getElem?_append_left (by omega)] at q3
    exact .inl (hk k (mem_keys.2 ⟨i, e', M, q1, q2, q3, q4⟩))
  · right
    have hi2 : i = G.length := by
      have := (List.getElem?_eq_some_iff.1 q3).1
      simp at this
      omega
    subst hi2
    rw [List.getElem?_append_right (Nat.le_refl _)] at q3
    simp at q3
    rw [← q4, ← q3]
end
end Go.Proofs.Ytmieaninmidelaa
/- Appends of lists, by what they do; a result said otherwise. -/
namespace Go.Proofs.Ytmieaninmidelaa
open Go.RowKit
set_option linter.unusedVariables false
set_option linter.unusedSimpArgs false
set_option linter.unusedSectionVars false
section
variable {P : Program} {Y : Tb} {n : Nat} {ks : List Nat} {G0 : Gr} {w0 : World} {T : List (Nat × SV)} {H : Hp} {ops : Array Oper} {o : Oper}
theorem eff_say {x y : SV} {H' : Hp} (e : ∀ G, den G x = den G y) (h : EffOK P n ops ks G0 w0 T H o x H') : EffOK P n ops ks G0 w0 T H o y H' := fun G a w A =>
  does_mono (h G a w A) fun v w' ⟨F, h1, h2⟩ => ⟨F, by rw [← e]; exact h1, h2⟩
theorem aplE {i e s m c nn cc mm mb mc : Nat} {f g : Nat → List SV} (hY : Y.ok P = true) (m' : Nat) (f' : Nat → List SV) (h : aplS Y n ops T H o = some ((i, e, s, m, c), f, (mm, mb, mc), g, (nn, cc))) (h1 : nn = m) (h2 : cc = c) (hc0 : c = 0) (hmb : mm ≤ mb) (hb : m ≤ 1000000) (hb2 : mm ≤ 1000000) (hm' : m' = m + mm)
    (hf : ∀ k, k < m → f' k = f k) (hn : ∀ k, k < mm → f' (m + k) = g k) (htot : ∀ k, ∃ vs, denL [] (f' k) = some vs ∧ vs.length = s) (hone : ∀ k, k < mm → ∃ E, onesS (g k) = some E ∧ okE E) :
    EffOK P n ops ks G0 w0 T H o (.sl H.length m' 0) (stH H i none ++ [some (.row e s m' 0 f')]) := by
  subst hm'
  intro G a w A
  obtain ⟨d, op, ty, pos, af, gd⟩ := o
  unfold aplS at h
  split at h
  · next hd =>
    split at h
    · next hgd =>
      have hw := gd_run (gd := none) A hgd
      split at h
      · next ca hca =>
        simp only at hca
        subst hca
        obtain ⟨callee, args, ats⟩ := ca
        simp only at h
        split at h
        · next x y t t' ha ht =>
          split at h
          · next i' nn' cc' j mm' mc' hx hy htt =>
            split at h
            · next e' s' m' c1 f1 s2 mb' g' ti hi hj hti =>
              split at h
              · next e2 s3 b hel =>
                split at h
                · next hck =>
                  cases h
                  subst h1; subst h2
                  simp only [Bool.and_eq_true] at hck
                  obtain ⟨⟨⟨c1, c2⟩, c3⟩, c4⟩ := hck
                  have e1 := Nat.eq_of_beq_eq_true c1
                  have e2' := Nat.eq_of_beq_eq_true c2
                  have e3 := Nat.eq_of_beq_eq_true c3
                  have e4 := Nat.eq_of_beq_eq_true htt
                  have hby := Nat.le_of_ble_eq_true c4
                  subst e1; subst e2'; subst e3; subst e4
                  rw [lg_is] at hi
                  have hargs : args = #[x, y] := by have := congrArg List.toArray ha; simpa using this
                  have hats : ats = #[t, t] := by have := congrArg List.toArray ht; simpa using this
                  subst hargs; subst hats
                  obtain ⟨r1, r2, xs, r3, r4⟩ := A.mem.ent i _ hi
                  obtain ⟨g1, g2⟩ := parts_at A.mem hj
                  obtain ⟨ie, z, f1', f2', f3', f4', f5', f6', f7'⟩ := elem_facts (ti_elm (Tb.at hY hti) hel)
                  have hvx := A.ev hx
                  have hvy := A.ev hy
                  obtain ⟨q, hq⟩ : ∃ q, G[i]? = some q := by
                    have : i < G.length := by rw [← A.mem.len]; exact (List.getElem?_eq_some_iff.1 hi).1
                    exact ⟨G[i], by simp [this]⟩
                  rw [hq] at r2 r4
                  simp only [Option.getD_some] at r2 r4
                  unfold den at hvx hvy
                  rw [hq] at hvx
                  simp only [Option.some.injEq] at hvx
                  have htg : ∀ k, k < mm → ∃ vs, denL [] (g k) = some vs ∧ vs.length = s := fun k hk => by rw [← hn k hk]; exact htot _
                  obtain ⟨ys, hys⟩ := flat_ex (f := fun k => f' (nn + k)) (fun k => htot _) mm
                  have hyl := flat_len (f := fun k => f' (nn + k)) (fun k => htot _) hys
                  have hflat : flatV f' (nn + mm) = some (xs ++ ys) := flat_more mm nn (by rw [flat_congr hf]; exact r3) hys
                  have hob : Value.ownBlock (.slice (q.map fun L => ⟨L.b, L.pre.length, none⟩) nn (cc + rm q)) = q.map (·.b) := by cases q <;> rfl
                  by_cases h0 : mm = 0
                  · subst h0
                    cases hys
                    have hsrc : Src P ie.size t (a.eval y) 0 [] w := by
                      split at hvy
                      · next p hp =>
                        rw [← Option.some.inj hvy]
                        cases p with
                        | none => exact Src.ofNil w f1' mc
                        | some L => exact Src.ofSlice w f1' _ 0 _ [] (by simp) (fun j u hj => by simp at hj) (fun u hu => by cases hu)
                      · cases hvy
                    have hnc : nn ≤ cc + rm q := by
                      rcases r4.2 with ⟨q1, q2⟩ | ⟨g, cap, cur, q1, _, _, q4, _⟩
                      · omega
                      · cases q <;> simp at q1; omega
                    have hr := run_append_nothing (P := P) w t t ty e ie f1' f2' (q.map fun L => ⟨L.b, L.pre.length, none⟩) nn (cc + rm q) hnc _ hsrc
                    refine does_val (v := .slice (q.map fun L => ⟨L.b, L.pre.length, none⟩) nn (cc + rm q)) (w' := w) hw ?_ ?_
                    · unfold execOp
                      simp only [resolve, invoke, builtin, Sem.run_bind, Sem.run_pure, Result.andThen_ok, List.map_toArray, List.map_cons, List.map_nil, ← hvx, hr]
                    · have A2 := A.rowMove (w' := w) (p' := q) (m' := nn + 0) (c' := cc) (xs' := xs ++ []) hi ⟨rfl, rfl, rfl, Nat.le_refl _, fun _ _ _ => rfl⟩ (by simpa using r4) r2 (.inl (by rw [hq]; rfl)) hflat htot
                      subst hc0
                      refine ⟨_, ?_, A2.ms⟩
                      unfold den
                      rw [List.getElem?_append_right (by rw [A.mem.len]; exact Nat.le_refl _), A.mem.len]
                      simp
                  · obtain ⟨L, vs0, b1, _⟩ := g2 0 (by omega)
                    rw [get_loc b1] at hvy
                    simp only [Option.map_some, Option.some.injEq] at hvy
                    have hmul : (nn + mm) * b ≤ 2000000 * 10000 := Nat.mul_le_mul (by omega) hby
                    obtain ⟨v', w', hr, k1, k2, _, k4⟩ := run_append_own_at (P := P) w 0 t ty e ie z s b f1' f2' f3' f4' f5' f6' f7' _ nn xs r4 ⟨L.b, L.pre.length, none⟩ mm (mc + rm (some L)) ys hyl
                      (fun j u hj => by
                        obtain ⟨k, r, us, d1, d2, d3, d4⟩ := flat_inv (f := fun k => f' (nn + k)) (fun k => htot _) hys j u hj
                        obtain ⟨L', us', b1', b2', b3'⟩ := g2 k (by omega)
                        rw [b1] at b1'; cases b1'
                        rw [hn k d1, b2'] at d2
                        cases d2
                        have := b3' r u d3
                        rw [Addr.add_mid, d4, ← Nat.add_assoc]
                        exact this)
                      (fun u hu => by
                        obtain ⟨j, hj⟩ := List.mem_iff_getElem?.1 hu
                        obtain ⟨k, r, us, d1, d2, d3, d4⟩ := flat_inv (f := fun k => f' (nn + k)) (fun k => htot _) hys j u hj
                        rw [hn k d1] at d2
                        obtain ⟨E, o1, o2⟩ := hone k d1
                        exact List.all_eq_true.1 (onesS_spec o1 o2 d2) u (List.mem_of_getElem? d3))
                      (by simp only [maxLen]; omega) (by omega) (Nat.zero_le _)
                    obtain ⟨p', o1, o2, o3⟩ := own_split k1
                    rw [hob] at k2 k4
                    rw [o3] at k4
                    rw [o1] at k1
                    refine does_val (v := v') (w' := w') hw ?_ ?_
                    · unfold execOp
                      simp only [resolve, invoke, builtin, Sem.run_bind, Sem.run_pure, Result.andThen_ok, List.map_toArray, List.map_cons, List.map_nil, ← hvx, ← hvy, hr]
                    · have A2 := A.rowMove (p' := p') hi (by rw [hq]; exact k2) k1 o2 (by rw [hq]; exact k4) hflat htot
                      refine ⟨_, ?_, A2.ms⟩
                      unfold den
                      rw [List.getElem?_append_right (by rw [A.mem.len]; exact Nat.le_refl _), A.mem.len]
                      simp [o1]
                · cases h
              · cases h
            · cases h
          · cases h
        · cases h
      · cases h
    · cases h
  · cases h
end
end Go.Proofs.Ytmieaninmidelaa
/- Instructions. -/
namespace Go.Proofs.Ytmieaninmidelaa
open Go.RowKit
set_option linter.unusedVariables false
set_option linter.unusedSimpArgs false
set_option maxRecDepth 100000
set_option maxHeartbeats 2000000
set_option simprocs false
theorem hmo : Try.prog.follows .mixedOrders = true := by kernel_rfl
structure In where (op dst ra rb imm loc off ix sz fn : Int) (acq weak rel : Bool) (pred succ to_ : Int) (zero : Bool)
def In.z : In := ⟨0, 0, 0, 0, 0, 0, 0, 0, 0, 0, false, false, false, 0, 0, 0, false⟩
abbrev insS (i : In) : List SV := [.int .i64 i.op, .int .i64 i.dst, .int .i64 i.ra, .int .i64 i.rb, .int .i64 i.imm, .int .i64 i.loc, .int .i64 i.off, .int .i64 i.ix, .int .i64 i.sz, .int .i64 i.fn, .bool i.acq, .bool i.weak, .bool i.rel, .int .i64 i.pred, .int .i64 i.succ, .int .i64 i.to_, .bool i.zero]
theorem isReg_ (r : Int)  : Fn Try.prog 72 [.int .i64 r] [] (Rt (.bool ((decide (r ≥ 0)) && (decide (r < 8)))) []) :=
 enterM (n := 9) (by kernel_rfl) Try.func72 rfl rfl rfl fun G w a h0 A => N hX 17 A rfl rfl fun A => RETN hX A rfl rfl rfl h0 rfl rfl rfl rfl rfl rfl
theorem fisReg_ (r : Int)  : Fn Try.prog 39 [.int .i64 r] [] (Rt (.bool ((decide (r ≥ 0)) && (decide (r < 8)))) []) :=
 enterM (n := 9) (by kernel_rfl) Try.func39 rfl rfl rfl fun G w a h0 A => N hX 17 A rfl rfl fun A => RETN hX A rfl rfl rfl h0 rfl rfl rfl rfl rfl rfl
def isRegOrNone0 (r : Int) : Bool := if r = (-1) then true else (decide (r ≥ 0)) && (decide (r < 8))
theorem isRegOrNone_ (r : Int)  : Fn Try.prog 73 [.int .i64 r] [] (Rt (.bool (isRegOrNone0 r)) []) :=
 enterM (n := 9) (by kernel_rfl) Try.func73 rfl rfl rfl fun G w a h0 A => N hX 10 A rfl rfl fun A => forkE 5 A rfl
  (fun h1 A => N hX 7 A rfl rfl fun A => RETN hX A rfl rfl rfl h0 rfl rfl rfl rfl (by simp only [oneS, nb, nbL, nbH, isRegOrNone0, if_pos h1]) rfl)
  (fun h1 A => N hX 1 A rfl rfl fun A => CALL1 [] (isReg_ r) A rfl rfl rfl rfl rfl rfl rfl fun A => N hX 5 A rfl rfl fun A => RETN hX A rfl rfl rfl h0 rfl rfl rfl rfl (by simp only [oneS, nb, nbL, nbH, isRegOrNone0, if_neg (h1)]) rfl)
theorem isFenced_ (r : Int)  : Fn Try.prog 75 [.int .i64 r] [] (Rt (.bool (((r == 1) || (r == 2)) || (r == 3))) []) :=
 enterM (n := 13) (by kernel_rfl) Try.func75 rfl rfl rfl fun G w a h0 A => N hX 21 A rfl rfl fun A => RETN hX A rfl rfl rfl h0 rfl rfl rfl rfl rfl rfl
theorem isBranch_ (i : In)  : Fn Try.prog 51 [.agg [.int .i64 i.op, .int .i64 i.dst, .int .i64 i.ra, .int .i64 i.rb, .int .i64 i.imm, .int .i64 i.loc, .int .i64 i.off, .int .i64 i.ix, .int .i64 i.sz, .int .i64 i.fn, .bool i.acq, .bool i.weak, .bool i.rel, .int .i64 i.pred, .int .i64 i.succ, .int .i64 i.to_, .bool i.zero]] [] (Rt (.bool (i.op == 9)) []) :=
 enterM (n := 6) (by kernel_rfl) Try.func51 rfl rfl rfl fun G w a h0 A => N hX 15 A rfl rfl fun A => RETN hX A rfl rfl rfl h0 rfl rfl rfl rfl rfl rfl
theorem fisBranch_ (i : In)  : Fn Try.prog 46 [.agg [.int .i64 i.op, .int .i64 i.dst, .int .i64 i.ra, .int .i64 i.rb, .int .i64 i.imm, .int .i64 i.loc, .int .i64 i.off, .int .i64 i.ix, .int .i64 i.sz, .int .i64 i.fn, .bool i.acq, .bool i.weak, .bool i.rel, .int .i64 i.pred, .int .i64 i.succ, .int .i64 i.to_, .bool i.zero]] [] (Rt (.bool (i.op == 9)) []) :=
 enterM (n := 6) (by kernel_rfl) Try.func46 rfl rfl rfl fun G w a h0 A => N hX 15 A rfl rfl fun A => RETN hX A rfl rfl rfl h0 rfl rfl rfl rfl rfl rfl
theorem Reads_ (i : In)  : Fn Try.prog 26 [.agg [.int .i64 i.op, .int .i64 i.dst, .int .i64 i.ra, .int .i64 i.rb, .int .i64 i.imm, .int .i64 i.loc, .int .i64 i.off, .int .i64 i.ix, .int .i64 i.sz, .int .i64 i.fn, .bool i.acq, .bool i.weak, .bool i.rel, .int .i64 i.pred, .int .i64 i.succ, .int .i64 i.to_, .bool i.zero]] [] (Rt (.bool ((i.op == 4) || (i.op == 6))) []) :=
 enterM (n := 11) (by kernel_rfl) Try.func26 rfl rfl rfl fun G w a h0 A => N hX 20 A rfl rfl fun A => RETN hX A rfl rfl rfl h0 rfl rfl rfl rfl rfl rfl
theorem Writes_ (i : In)  : Fn Try.prog 27 [.agg [.int .i64 i.op, .int .i64 i.dst, .int .i64 i.ra, .int .i64 i.rb, .int .i64 i.imm, .int .i64 i.loc, .int .i64 i.off, .int .i64 i.ix, .int .i64 i.sz, .int .i64 i.fn, .bool i.acq, .bool i.weak, .bool i.rel, .int .i64 i.pred, .int .i64 i.succ, .int .i64 i.to_, .bool i.zero]] [] (Rt (.bool ((i.op == 5) || (i.op == 6))) []) :=
 enterM (n := 11) (by kernel_rfl) Try.func27 rfl rfl rfl fun G w a h0 A => N hX 20 A rfl rfl fun A => RETN hX A rfl rfl rfl h0 rfl rfl rfl rfl rfl rfl
def isOp0 (i : In) : Bool := if ((i.op == 4) || (i.op == 6)) = true then true else (i.op == 5) || (i.op == 6)
theorem isOp_ (i : In)  : Fn Try.prog 67 [.agg [.int .i64 i.op, .int .i64 i.dst, .int .i64 i.ra, .int .i64 i.rb, .int .i64 i.imm, .int .i64 i.loc, .int .i64 i.off, .int .i64 i.ix, .int .i64 i.sz, .int .i64 i.fn, .bool i.acq, .bool i.weak, .bool i.rel, .int .i64 i.pred, .int .i64 i.succ, .int .i64 i.to_, .bool i.zero]] [] (Rt (.bool (isOp0 i)) []) :=
 enterM (n := 9) (by kernel_rfl) Try.func67 rfl rfl rfl fun G w a h0 A => N hX 9 A rfl rfl fun A => CALL1 [] (Reads_ i ) A rfl rfl rfl rfl rfl rfl rfl fun A => N hX 1 A rfl rfl fun A => fork 5 A rfl
  (fun h1 A => N hX 7 A rfl rfl fun A => RETN hX A rfl rfl rfl h0 rfl rfl rfl rfl (by simp only [oneS, nb, nbL, nbH, isOp0, if_pos h1]) rfl)
  (fun h1 A => N hX 1 A rfl rfl fun A => CALL1 [] (Writes_ i ) A rfl rfl rfl rfl rfl rfl rfl fun A => N hX 5 A rfl rfl fun A => RETN hX A rfl rfl rfl h0 rfl rfl rfl rfl (by simp only [oneS, nb, nbL, nbH, isOp0, if_neg (ne_true_of_eq_false h1)]) rfl)
def immFor0 (i : In) (rr : Int) : Int := if rr ≠ (-1) then 0 else i.imm
theorem immFor_ (i : In) (rr : Int)  : Fn Try.prog 66 [.agg [.int .i64 i.op, .int .i64 i.dst, .int .i64 i.ra, .int .i64 i.rb, .int .i64 i.imm, .int .i64 i.loc, .int .i64 i.off, .int .i64 i.ix, .int .i64 i.sz, .int .i64 i.fn, .bool i.acq, .bool i.weak, .bool i.rel, .int .i64 i.pred, .int .i64 i.succ, .int .i64 i.to_, .bool i.zero], .int .i64 rr] [] (Rt (.int .i64 (immFor0 i rr)) []) :=
 enterM (n := 9) (by kernel_rfl) Try.func66 rfl rfl rfl fun G w a h0 A => N hX 13 A rfl rfl fun A => forkN 6 A rfl
  (fun h1 A => N hX 7 A rfl rfl fun A => RETN hX A rfl rfl rfl h0 rfl rfl rfl rfl (by simp only [oneS, nb, nbL, nbH, immFor0, if_pos h1]) rfl)
  (fun h1 A => N hX 11 A rfl rfl fun A => RETN hX A rfl rfl rfl h0 rfl rfl rfl rfl (by simp only [oneS, nb, nbL, nbH, immFor0, if_neg (not_not_intro h1)]) rfl)
theorem isSize_ (sz : Int)  : Fn Try.prog 76 [.int .i64 sz] [] (Rt (.bool ((((sz == 1) || (sz == 2)) || (sz == 4)) || (sz == 8))) []) :=
 enterM (n := 17) (by kernel_rfl) Try.func76 rfl rfl rfl fun G w a h0 A => N hX 25 A rfl rfl fun A => RETN hX A rfl rfl rfl h0 rfl rfl rfl rfl rfl rfl
theorem bfits_ (a1 : Int) (sz : Int)  : Fn Try.prog 77 [.int .i64 a1, .int .i64 sz] [] (Rt (.bool (((((((sz == 1) || (sz == 2)) || (sz == 4)) || (sz == 8)) && (decide (a1 ≥ 0))) && (decide (a1 ≤ (IntKind.wrap .i64 (8 - sz))))) && ((Int.tmod a1 sz) == 0))) []) :=
 enterM (n := 23) (by kernel_rfl) Try.func77 rfl rfl rfl fun G w a h0 A => M hX 8 A rfl rfl fun A => CALL1 [] (isSize_ sz) A rfl rfl rfl rfl rfl rfl rfl fun A => M hX 20 A rfl (ok_r <| ok_r <| ok_r <| ok_r <| ok_r <| ok_r <| ok_r <| ok_r <| ok_g (fun hg => (by (try simp at hg); first | omega | (simp; omega))) <| ok_r <| ok_r <| okE_nil) fun A => RETN hX A rfl rfl rfl h0 rfl rfl rfl rfl rfl rfl
def bMask0 (a1 : Int) (sz : Int) : Int := if (!(((((((sz == 1) || (sz == 2)) || (sz == 4)) || (sz == 8)) && (decide (a1 ≥ 0))) && (decide (a1 ≤ (IntKind.wrap .i64 (8 - sz))))) && ((Int.tmod a1 sz) == 0))) = true then 0 else IntKind.wrap .i64 ((IntKind.wrap .i64 ((IntKind.wrap .i64 (1 * 2 ^ min (sz).toNat (IntKind.bits .i64))) - 1)) * 2 ^ min (a1).toNat (IntKind.bits .i64))
theorem bMask_ (a1 : Int) (sz : Int)  : Fn Try.prog 69 [.int .i64 a1, .int .i64 sz] [] (Rt (.int .i64 (bMask0 a1 sz)) []) :=
 enterM (n := 14) (by kernel_rfl) Try.func69 rfl rfl rfl fun G w a h0 A => M hX 10 A rfl rfl fun A => CALL1 [] (bfits_ a1 sz) A rfl rfl rfl rfl rfl rfl rfl fun A => M hX 3 A rfl rfl fun A => fork 8 A rfl
  (fun h1 A => M hX 7 A rfl rfl fun A => RETN hX A rfl rfl rfl h0 rfl rfl rfl rfl (by simp only [oneS, nb, nbL, nbH, bMask0, if_pos h1]) rfl)
  (fun h1 A => M hX 14 A rfl (ok_d (by (try simp at h1); first | omega | (simp; omega)) <| ok_d (by (try simp at h1); first | omega | (simp; omega)) <| okE_nil) fun A => RETN hX A rfl rfl rfl h0 rfl rfl rfl rfl (by simp only [oneS, nb, nbL, nbH, bMask0, if_neg (ne_true_of_eq_false h1)]) rfl)
def isAccess0 (i : In) : Bool := if i.loc ≥ 0 then if i.loc < 3 then if (isRegOrNone0 i.ix) = true then !((bMask0 i.off i.sz) == 0) else false else false else false
theorem isAccess_ (i : In)  : Fn Try.prog 74 [.agg [.int .i64 i.op, .int .i64 i.dst, .int .i64 i.ra, .int .i64 i.rb, .int .i64 i.imm, .int .i64 i.loc, .int .i64 i.off, .int .i64 i.ix, .int .i64 i.sz, .int .i64 i.fn, .bool i.acq, .bool i.weak, .bool i.rel, .int .i64 i.pred, .int .i64 i.succ, .int .i64 i.to_, .bool i.zero]] [] (Rt (.bool (isAccess0 i)) []) :=
 enterM (n := 24) (by kernel_rfl) Try.func74 rfl rfl rfl fun G w a h0 A => N hX 12 A rfl rfl fun A => forkD 6 A rfl
  (fun h1 A => N hX 5 A rfl rfl fun A => forkD 11 A rfl
   (fun h2 A => N hX 2 A rfl rfl fun A => CALL1 [] (isRegOrNone_ i.ix) A rfl rfl rfl rfl rfl rfl rfl fun A => N hX 2 A rfl rfl fun A => fork 16 A rfl
    (fun h3 A => N hX 4 A rfl rfl fun A => CALL1 [] (bMask_ i.off i.sz) A rfl rfl rfl rfl rfl rfl rfl fun A => N hX 6 A rfl rfl fun A => RETN hX A rfl rfl rfl h0 rfl rfl rfl rfl (by simp only [oneS, nb, nbL, nbH, isAccess0, if_pos h1, if_pos h2, if_pos h3]) rfl)
    (fun h3 A => N hX 11 A rfl rfl fun A => RETN hX A rfl rfl rfl h0 rfl rfl rfl rfl (by simp only [oneS, nb, nbL, nbH, isAccess0, if_pos h1, if_pos h2, if_neg (ne_true_of_eq_false h3)]) rfl))
   (fun h2 A => N hX 16 A rfl rfl fun A => RETN hX A rfl rfl rfl h0 rfl rfl rfl rfl (by simp only [oneS, nb, nbL, nbH, isAccess0, if_pos h1, if_neg h2]) rfl))
  (fun h1 A => N hX 21 A rfl rfl fun A => RETN hX A rfl rfl rfl h0 rfl rfl rfl rfl (by simp only [oneS, nb, nbL, nbH, isAccess0, if_neg h1]) rfl)
def plain0 (i : In) : Int := if i.op = 1 then i.dst else if i.op = 2 then i.dst else if i.op = 3 then i.dst else if i.op = 4 then i.dst else if i.op = 5 then (-1) else if i.op = 6 then i.dst else (-1)
def plain1 (i : In) : Int := if i.op = 1 then (-1) else if i.op = 2 then i.ra else if i.op = 3 then i.ra else if i.op = 4 then (-1) else if i.op = 5 then i.ra else if i.op = 6 then i.ra else if i.op = 7 then (-1) else if i.op = 9 then i.ra else (-1)
def plain2 (i : In) : Int := if i.op = 1 then (-1) else if i.op = 2 then (-1) else if i.op = 3 then i.rb else (-1)
def plain3 (i : In) : Int := if i.op = 1 then i.imm else if i.op = 2 then 0 else if i.op = 3 then immFor0 i i.rb else if i.op = 4 then 0 else if i.op = 5 then immFor0 i i.ra else 0
def plain4 (i : In) : Int := if i.op = 1 then if (isOp0 i) = true then i.loc else 0 else if i.op = 2 then if (isOp0 i) = true then i.loc else 0 else if i.op = 3 then if (isOp0 i) = true then i.loc else 0 else if i.op = 4 then if (isOp0 i) = true then i.loc else 0 else if i.op = 5 then if (isOp0 i) = true then i.loc else 0 else if i.op = 6 then if (isOp0 i) = true then i.loc else 0 else if i.op = 7 then if (isOp0 i) = true then i.loc else 0 else if i.op = 9 then if (isOp0 i) = true then i.loc else 0 else if (isOp0 i) = true then i.loc else 0
def plain5 (i : In) : Int := if i.op = 1 then if (isOp0 i) = true then i.off else 0 else if i.op = 2 then if (isOp0 i) = true then i.off else 0 else if i.op = 3 then if (isOp0 i) = true then i.off else 0 else if i.op = 4 then if (isOp0 i) = true then i.off else 0 else if i.op = 5 then if (isOp0 i) = true then i.off else 0 else if i.op = 6 then if (isOp0 i) = true then i.off else 0 else if i.op = 7 then if (isOp0 i) = true then i.off else 0 else if i.op = 9 then if (isOp0 i) = true then i.off else 0 else if (isOp0 i) = true then i.off else 0
def plain6 (i : In) : Int := if i.op = 1 then if (isOp0 i) = true then i.ix else (-1) else if i.op = 2 then if (isOp0 i) = true then i.ix else (-1) else if i.op = 3 then if (isOp0 i) = true then i.ix else (-1) else if i.op = 4 then if (isOp0 i) = true then i.ix else (-1) else if i.op = 5 then if (isOp0 i) = true then i.ix else (-1) else if i.op = 6 then if (isOp0 i) = true then i.ix else (-1) else if i.op = 7 then if (isOp0 i) = true then i.ix else (-1) else if i.op = 9 then if (isOp0 i) = true then i.ix else (-1) else if (isOp0 i) = true then i.ix else (-1)
def plain7 (i : In) : Int := if i.op = 1 then if (isOp0 i) = true then i.sz else 0 else if i.op = 2 then if (isOp0 i) = true then i.sz else 0 else if i.op = 3 then if (isOp0 i) = true then i.sz else 0 else if i.op = 4 then if (isOp0 i) = true then i.sz else 0 else if i.op = 5 then if (isOp0 i) = true then i.sz else 0 else if i.op = 6 then if (isOp0 i) = true then i.sz else 0 else if i.op = 7 then if (isOp0 i) = true then i.sz else 0 else if i.op = 9 then if (isOp0 i) = true then i.sz else 0 else if (isOp0 i) = true then i.sz else 0
def plain8 (i : In) : Int := if i.op = 1 then 0 else if i.op = 2 then 0 else if i.op = 3 then i.fn else if i.op = 4 then 0 else if i.op = 5 then 0 else if i.op = 6 then i.fn else 0
def plain9 (i : In) : Bool := if i.op = 1 then false else if i.op = 2 then false else if i.op = 3 then false else if i.op = 4 then i.acq else if i.op = 5 then false else if i.op = 6 then i.acq else false
def plain10 (i : In) : Bool := if i.op = 1 then false else if i.op = 2 then false else if i.op = 3 then false else if i.op = 4 then i.weak else false
def plain11 (i : In) : Bool := if i.op = 1 then false else if i.op = 2 then false else if i.op = 3 then false else if i.op = 4 then false else if i.op = 5 then i.rel else if i.op = 6 then i.rel else false
def plain12 (i : In) : Int := if i.op = 1 then 0 else if i.op = 2 then 0 else if i.op = 3 then 0 else if i.op = 4 then 0 else if i.op = 5 then 0 else if i.op = 6 then 0 else if i.op = 7 then i.pred else 0
def plain13 (i : In) : Int := if i.op = 1 then 0 else if i.op = 2 then 0 else if i.op = 3 then 0 else if i.op = 4 then 0 else if i.op = 5 then 0 else if i.op = 6 then 0 else if i.op = 7 then i.succ else 0
def plain14 (i : In) : Int := if i.op = 1 then 0 else if i.op = 2 then 0 else if i.op = 3 then 0 else if i.op = 4 then 0 else if i.op = 5 then 0 else if i.op = 6 then 0 else if i.op = 7 then 0 else if i.op = 9 then i.to_ else 0
def plain15 (i : In) : Bool := if i.op = 1 then false else if i.op = 2 then false else if i.op = 3 then false else if i.op = 4 then false else if i.op = 5 then false else if i.op = 6 then false else if i.op = 7 then false else if i.op = 9 then i.zero else false
theorem plain_ (i : In)  : Fn Try.prog 57 [.agg [.int .i64 i.op, .int .i64 i.dst, .int .i64 i.ra, .int .i64 i.rb, .int .i64 i.imm, .int .i64 i.loc, .int .i64 i.off, .int .i64 i.ix, .int .i64 i.sz, .int .i64 i.fn, .bool i.acq, .bool i.weak, .bool i.rel, .int .i64 i.pred, .int .i64 i.succ, .int .i64 i.to_, .bool i.zero]] [] (Rt (.agg [.int .i64 i.op, .int .i64 (plain0 i), .int .i64 (plain1 i), .int .i64 (plain2 i), .int .i64 (plain3 i), .int .i64 (plain4 i), .int .i64 (plain5 i), .int .i64 (plain6 i), .int .i64 (plain7 i), .int .i64 (plain8 i), .bool (plain9 i), .bool (plain10 i), .bool (plain11 i), .int .i64 (plain12 i), .int .i64 (plain13 i), .int .i64 (plain14 i), .bool (plain15 i)]) []) :=
 enterM (n := 119) (by kernel_rfl) Try.func57 rfl rfl rfl fun G w a h0 A => N hX 29 A rfl rfl fun A => forkE 9 A rfl
  (fun h1 A => N hX 1 A rfl rfl fun A => DRAWN hX hmo [] [] A rfl rfl rfl rfl (by kernel_rfl) (effAll_nil _ _) trivial fun A => N hX 6 A rfl rfl fun A => CALL1 [] (isOp_ i ) A rfl rfl rfl rfl rfl rfl rfl fun A => N hX 2 A rfl rfl fun A => fork 105 A rfl
   (fun h2 A => N hX 1 A rfl rfl fun A => DRAWN hX hmo [] [] A rfl rfl rfl rfl (by kernel_rfl) (effAll_nil _ _) trivial fun A => N hX 8 A rfl rfl fun A => RETN hX A rfl rfl rfl h0 rfl rfl rfl rfl (by simp only [oneS, nb, nbL, nbH, plain0, plain1, plain2, plain3, plain4, plain5, plain6, plain7, plain8, plain9, plain10, plain11, plain12, plain13, plain14, plain15, if_pos h1, if_pos h2]) rfl)
   (fun h2 A => N hX 10 A rfl rfl fun A => RETN hX A rfl rfl rfl h0 rfl rfl rfl rfl (by simp only [oneS, nb, nbL, nbH, plain0, plain1, plain2, plain3, plain4, plain5, plain6, plain7, plain8, plain9, plain10, plain11, plain12, plain13, plain14, plain15, if_pos h1, if_neg (ne_true_of_eq_false h2)]) rfl))
  (fun h1 A => N hX 7 A rfl rfl fun A => forkE 17 A rfl
   (fun h3 A => N hX 1 A rfl rfl fun A => DRAWN hX hmo [] [] A rfl rfl rfl rfl (by kernel_rfl) (effAll_nil _ _) trivial fun A => N hX 6 A rfl rfl fun A => CALL1 [] (isOp_ i ) A rfl rfl rfl rfl rfl rfl rfl fun A => N hX 2 A rfl rfl fun A => fork 105 A rfl
    (fun h4 A => N hX 1 A rfl rfl fun A => DRAWN hX hmo [] [] A rfl rfl rfl rfl (by kernel_rfl) (effAll_nil _ _) trivial fun A => N hX 8 A rfl rfl fun A => RETN hX A rfl rfl rfl h0 rfl rfl rfl rfl (by simp only [oneS, nb, nbL, nbH, plain0, plain1, plain2, plain3, plain4, plain5, plain6, plain7, plain8, plain9, plain10, plain11, plain12, plain13, plain14, plain15, if_neg (h1), if_pos h3, if_pos h4]) rfl)
    (fun h4 A => N hX 10 A rfl rfl fun A => RETN hX A rfl rfl rfl h0 rfl rfl rfl rfl (by simp only [oneS, nb, nbL, nbH, plain0, plain1, plain2, plain3, plain4, plain5, plain6, plain7, plain8, plain9, plain10, plain11, plain12, plain13, plain14, plain15, if_neg (h1), if_pos h3, if_neg (ne_true_of_eq_false h4)]) rfl))
   (fun h3 A => N hX 7 A rfl rfl fun A => forkE 25 A rfl
    (fun h5 A => N hX 1 A rfl rfl fun A => DRAWN hX hmo [(11, .int .i64 (immFor0 i i.rb))] [] A rfl rfl rfl rfl (by kernel_rfl) (effAll_nil _ _) ⟨.inl ⟨_, _, rfl, rfl, immFor_ i i.rb⟩, trivial⟩ fun A => N hX 6 A rfl rfl fun A => CALL1 [] (isOp_ i ) A rfl rfl rfl rfl rfl rfl rfl fun A => N hX 2 A rfl rfl fun A => fork 105 A rfl
     (fun h6 A => N hX 1 A rfl rfl fun A => DRAWN hX hmo [] [] A rfl rfl rfl rfl (by kernel_rfl) (effAll_nil _ _) trivial fun A => N hX 8 A rfl rfl fun A => RETN hX A rfl rfl rfl h0 rfl rfl rfl rfl (by simp only [oneS, nb, nbL, nbH, plain0, plain1, plain2, plain3, plain4, plain5, plain6, plain7, plain8, plain9, plain10, plain11, plain12, plain13, plain14, plain15, if_neg (h1), if_neg (h3), if_pos h5, if_pos h6]) rfl)
     (fun h6 A => N hX 10 A rfl rfl fun A => RETN hX A rfl rfl rfl h0 rfl rfl rfl rfl (by simp only [oneS, nb, nbL, nbH, plain0, plain1, plain2, plain3, plain4, plain5, plain6, plain7, plain8, plain9, plain10, plain11, plain12, plain13, plain14, plain15, if_neg (h1), if_neg (h3), if_pos h5, if_neg (ne_true_of_eq_false h6)]) rfl))
    (fun h5 A => N hX 7 A rfl rfl fun A => forkE 44 A rfl
     (fun h7 A => N hX 1 A rfl rfl fun A => DRAWN hX hmo [] [] A rfl rfl rfl rfl (by kernel_rfl) (effAll_nil _ _) trivial fun A => N hX 6 A rfl rfl fun A => CALL1 [] (isOp_ i ) A rfl rfl rfl rfl rfl rfl rfl fun A => N hX 2 A rfl rfl fun A => fork 105 A rfl
      (fun h8 A => N hX 1 A rfl rfl fun A => DRAWN hX hmo [] [] A rfl rfl rfl rfl (by kernel_rfl) (effAll_nil _ _) trivial fun A => N hX 8 A rfl rfl fun A => RETN hX A rfl rfl rfl h0 rfl rfl rfl rfl (by simp only [oneS, nb, nbL, nbH, plain0, plain1, plain2, plain3, plain4, plain5, plain6, plain7, plain8, plain9, plain10, plain11, plain12, plain13, plain14, plain15, if_neg (h1), if_neg (h3), if_neg (h5), if_pos h7, if_pos h8]) rfl)
      (fun h8 A => N hX 10 A rfl rfl fun A => RETN hX A rfl rfl rfl h0 rfl rfl rfl rfl (by simp only [oneS, nb, nbL, nbH, plain0, plain1, plain2, plain3, plain4, plain5, plain6, plain7, plain8, plain9, plain10, plain11, plain12, plain13, plain14, plain15, if_neg (h1), if_neg (h3), if_neg (h5), if_pos h7, if_neg (ne_true_of_eq_false h8)]) rfl))
     (fun h7 A => N hX 7 A rfl rfl fun A => forkE 55 A rfl
      (fun h9 A => N hX 1 A rfl rfl fun A => DRAWN hX hmo [(5, .int .i64 (immFor0 i i.ra))] [] A rfl rfl rfl rfl (by kernel_rfl) (effAll_nil _ _) ⟨.inl ⟨_, _, rfl, rfl, immFor_ i i.ra⟩, trivial⟩ fun A => N hX 6 A rfl rfl fun A => CALL1 [] (isOp_ i ) A rfl rfl rfl rfl rfl rfl rfl fun A => N hX 2 A rfl rfl fun A => fork 105 A rfl
       (fun h10 A => N hX 1 A rfl rfl fun A => DRAWN hX hmo [] [] A rfl rfl rfl rfl (by kernel_rfl) (effAll_nil _ _) trivial fun A => N hX 8 A rfl rfl fun A => RETN hX A rfl rfl rfl h0 rfl rfl rfl rfl (by simp only [oneS, nb, nbL, nbH, plain0, plain1, plain2, plain3, plain4, plain5, plain6, plain7, plain8, plain9, plain10, plain11, plain12, plain13, plain14, plain15, if_neg (h1), if_neg (h3), if_neg (h5), if_neg (h7), if_pos h9, if_pos h10]) rfl)
       (fun h10 A => N hX 10 A rfl rfl fun A => RETN hX A rfl rfl rfl h0 rfl rfl rfl rfl (by simp only [oneS, nb, nbL, nbH, plain0, plain1, plain2, plain3, plain4, plain5, plain6, plain7, plain8, plain9, plain10, plain11, plain12, plain13, plain14, plain15, if_neg (h1), if_neg (h3), if_neg (h5), if_neg (h7), if_pos h9, if_neg (ne_true_of_eq_false h10)]) rfl))
      (fun h9 A => N hX 7 A rfl rfl fun A => forkE 68 A rfl
       (fun h11 A => N hX 1 A rfl rfl fun A => DRAWN hX hmo [] [] A rfl rfl rfl rfl (by kernel_rfl) (effAll_nil _ _) trivial fun A => N hX 6 A rfl rfl fun A => CALL1 [] (isOp_ i ) A rfl rfl rfl rfl rfl rfl rfl fun A => N hX 2 A rfl rfl fun A => fork 105 A rfl
        (fun h12 A => N hX 1 A rfl rfl fun A => DRAWN hX hmo [] [] A rfl rfl rfl rfl (by kernel_rfl) (effAll_nil _ _) trivial fun A => N hX 8 A rfl rfl fun A => RETN hX A rfl rfl rfl h0 rfl rfl rfl rfl (by simp only [oneS, nb, nbL, nbH, plain0, plain1, plain2, plain3, plain4, plain5, plain6, plain7, plain8, plain9, plain10, plain11, plain12, plain13, plain14, plain15, if_neg (h1), if_neg (h3), if_neg (h5), if_neg (h7), if_neg (h9), if_pos h11, if_pos h12]) rfl)
        (fun h12 A => N hX 10 A rfl rfl fun A => RETN hX A rfl rfl rfl h0 rfl rfl rfl rfl (by simp only [oneS, nb, nbL, nbH, plain0, plain1, plain2, plain3, plain4, plain5, plain6, plain7, plain8, plain9, plain10, plain11, plain12, plain13, plain14, plain15, if_neg (h1), if_neg (h3), if_neg (h5), if_neg (h7), if_neg (h9), if_pos h11, if_neg (ne_true_of_eq_false h12)]) rfl))
       (fun h11 A => N hX 7 A rfl rfl fun A => forkE 85 A rfl
        (fun h13 A => N hX 1 A rfl rfl fun A => DRAWN hX hmo [] [] A rfl rfl rfl rfl (by kernel_rfl) (effAll_nil _ _) trivial fun A => N hX 6 A rfl rfl fun A => CALL1 [] (isOp_ i ) A rfl rfl rfl rfl rfl rfl rfl fun A => N hX 2 A rfl rfl fun A => fork 105 A rfl
         (fun h14 A => N hX 1 A rfl rfl fun A => DRAWN hX hmo [] [] A rfl rfl rfl rfl (by kernel_rfl) (effAll_nil _ _) trivial fun A => N hX 8 A rfl rfl fun A => RETN hX A rfl rfl rfl h0 rfl rfl rfl rfl (by simp only [oneS, nb, nbL, nbH, plain0, plain1, plain2, plain3, plain4, plain5, plain6, plain7, plain8, plain9, plain10, plain11, plain12, plain13, plain14, plain15, if_neg (h1), if_neg (h3), if_neg (h5), if_neg (h7), if_neg (h9), if_neg (h11), if_pos h13, if_pos h14]) rfl)
         (fun h14 A => N hX 10 A rfl rfl fun A => RETN hX A rfl rfl rfl h0 rfl rfl rfl rfl (by simp only [oneS, nb, nbL, nbH, plain0, plain1, plain2, plain3, plain4, plain5, plain6, plain7, plain8, plain9, plain10, plain11, plain12, plain13, plain14, plain15, if_neg (h1), if_neg (h3), if_neg (h5), if_neg (h7), if_neg (h9), if_neg (h11), if_pos h13, if_neg (ne_true_of_eq_false h14)]) rfl))
        (fun h13 A => N hX 7 A rfl rfl fun A => forkE 93 A rfl
         (fun h15 A => N hX 1 A rfl rfl fun A => DRAWN hX hmo [] [] A rfl rfl rfl rfl (by kernel_rfl) (effAll_nil _ _) trivial fun A => N hX 6 A rfl rfl fun A => CALL1 [] (isOp_ i ) A rfl rfl rfl rfl rfl rfl rfl fun A => N hX 2 A rfl rfl fun A => fork 105 A rfl
          (fun h16 A => N hX 1 A rfl rfl fun A => DRAWN hX hmo [] [] A rfl rfl rfl rfl (by kernel_rfl) (effAll_nil _ _) trivial fun A => N hX 8 A rfl rfl fun A => RETN hX A rfl rfl rfl h0 rfl rfl rfl rfl (by simp only [oneS, nb, nbL, nbH, plain0, plain1, plain2, plain3, plain4, plain5, plain6, plain7, plain8, plain9, plain10, plain11, plain12, plain13, plain14, plain15, if_neg (h1), if_neg (h3), if_neg (h5), if_neg (h7), if_neg (h9), if_neg (h11), if_neg (h13), if_pos h15, if_pos h16]) rfl)
          (fun h16 A => N hX 10 A rfl rfl fun A => RETN hX A rfl rfl rfl h0 rfl rfl rfl rfl (by simp only [oneS, nb, nbL, nbH, plain0, plain1, plain2, plain3, plain4, plain5, plain6, plain7, plain8, plain9, plain10, plain11, plain12, plain13, plain14, plain15, if_neg (h1), if_neg (h3), if_neg (h5), if_neg (h7), if_neg (h9), if_neg (h11), if_neg (h13), if_pos h15, if_neg (ne_true_of_eq_false h16)]) rfl))
         (fun h15 A => N hX 8 A rfl rfl fun A => CALL1 [] (isOp_ i ) A rfl rfl rfl rfl rfl rfl rfl fun A => N hX 2 A rfl rfl fun A => fork 105 A rfl
          (fun h17 A => N hX 1 A rfl rfl fun A => DRAWN hX hmo [] [] A rfl rfl rfl rfl (by kernel_rfl) (effAll_nil _ _) trivial fun A => N hX 8 A rfl rfl fun A => RETN hX A rfl rfl rfl h0 rfl rfl rfl rfl (by simp only [oneS, nb, nbL, nbH, plain0, plain1, plain2, plain3, plain4, plain5, plain6, plain7, plain8, plain9, plain10, plain11, plain12, plain13, plain14, plain15, if_neg (h1), if_neg (h3), if_neg (h5), if_neg (h7), if_neg (h9), if_neg (h11), if_neg (h13), if_neg (h15), if_pos h17]) rfl)
          (fun h17 A => N hX 10 A rfl rfl fun A => RETN hX A rfl rfl rfl h0 rfl rfl rfl rfl (by simp only [oneS, nb, nbL, nbH, plain0, plain1, plain2, plain3, plain4, plain5, plain6, plain7, plain8, plain9, plain10, plain11, plain12, plain13, plain14, plain15, if_neg (h1), if_neg (h3), if_neg (h5), if_neg (h7), if_neg (h9), if_neg (h11), if_neg (h13), if_neg (h15), if_neg (ne_true_of_eq_false h17)]) rfl)))))))))
def sound0 (i : In) : Bool := if i.op = 1 then (decide (i.dst ≥ 0)) && (decide (i.dst < 8)) else if i.op = 2 then if ((decide (i.dst ≥ 0)) && (decide (i.dst < 8))) = true then (decide (i.ra ≥ 0)) && (decide (i.ra < 8)) else false else if i.op = 3 then if ((decide (i.dst ≥ 0)) && (decide (i.dst < 8))) = true then if ((decide (i.ra ≥ 0)) && (decide (i.ra < 8))) = true then ((isRegOrNone0 i.rb) && (decide (i.fn ≥ 1))) && (decide (i.fn ≤ 5)) else false else false else if i.op = 4 then if ((decide (i.dst ≥ 0)) && (decide (i.dst < 8))) = true then (isAccess0 i) && (!(i.acq && i.weak)) else false else if i.op = 5 then if (isRegOrNone0 i.ra) = true then isAccess0 i else false else if i.op = 6 then if ((decide (i.dst ≥ 0)) && (decide (i.dst < 8))) = true then if ((decide (i.ra ≥ 0)) && (decide (i.ra < 8))) = true then (isAccess0 i) && ((i.fn == 6) || (i.fn == 1)) else false else false else if i.op = 7 then if (((i.pred == 1) || (i.pred == 2)) || (i.pred == 3)) = true then ((i.succ == 1) || (i.succ == 2)) || (i.succ == 3) else false else if i.op = 8 then true else if i.op = 9 then (decide (i.ra ≥ 0)) && (decide (i.ra < 8)) else false
theorem sound_ (i : In)  : Fn Try.prog 63 [.agg [.int .i64 i.op, .int .i64 i.dst, .int .i64 i.ra, .int .i64 i.rb, .int .i64 i.imm, .int .i64 i.loc, .int .i64 i.off, .int .i64 i.ix, .int .i64 i.sz, .int .i64 i.fn, .bool i.acq, .bool i.weak, .bool i.rel, .int .i64 i.pred, .int .i64 i.succ, .int .i64 i.to_, .bool i.zero]] [] (Rt (.bool (sound0 i)) []) :=
 enterM (n := 113) (by kernel_rfl) Try.func63 rfl rfl rfl fun G w a h0 A => N hX 20 A rfl rfl fun A => forkE 5 A rfl
  (fun h1 A => N hX 5 A rfl rfl fun A => CALL1 [] (isReg_ i.dst) A rfl rfl rfl rfl rfl rfl rfl fun A => N hX 4 A rfl rfl fun A => RETN hX A rfl rfl rfl h0 rfl rfl rfl rfl (by simp only [oneS, nb, nbL, nbH, sound0, if_pos h1]) rfl)
  (fun h1 A => N hX 7 A rfl rfl fun A => forkE 10 A rfl
   (fun h2 A => N hX 5 A rfl rfl fun A => CALL1 [] (isReg_ i.dst) A rfl rfl rfl rfl rfl rfl rfl fun A => N hX 1 A rfl rfl fun A => fork 15 A rfl
    (fun h3 A => N hX 2 A rfl rfl fun A => CALL1 [] (isReg_ i.ra) A rfl rfl rfl rfl rfl rfl rfl fun A => N hX 5 A rfl rfl fun A => RETN hX A rfl rfl rfl h0 rfl rfl rfl rfl (by simp only [oneS, nb, nbL, nbH, sound0, if_neg (h1), if_pos h2, if_pos h3]) rfl)
    (fun h3 A => N hX 8 A rfl rfl fun A => RETN hX A rfl rfl rfl h0 rfl rfl rfl rfl (by simp only [oneS, nb, nbL, nbH, sound0, if_neg (h1), if_pos h2, if_neg (ne_true_of_eq_false h3)]) rfl))
   (fun h2 A => N hX 7 A rfl rfl fun A => forkE 20 A rfl
    (fun h4 A => N hX 5 A rfl rfl fun A => CALL1 [] (isReg_ i.dst) A rfl rfl rfl rfl rfl rfl rfl fun A => N hX 1 A rfl rfl fun A => fork 25 A rfl
     (fun h5 A => N hX 2 A rfl rfl fun A => CALL1 [] (isReg_ i.ra) A rfl rfl rfl rfl rfl rfl rfl fun A => N hX 2 A rfl rfl fun A => fork 30 A rfl
      (fun h6 A => N hX 2 A rfl rfl fun A => CALL1 [] (isRegOrNone_ i.rb) A rfl rfl rfl rfl rfl rfl rfl fun A => N hX 15 A rfl rfl fun A => RETN hX A rfl rfl rfl h0 rfl rfl rfl rfl (by simp only [oneS, nb, nbL, nbH, sound0, if_neg (h1), if_neg (h2), if_pos h4, if_pos h5, if_pos h6]) rfl)
      (fun h6 A => N hX 18 A rfl rfl fun A => RETN hX A rfl rfl rfl h0 rfl rfl rfl rfl (by simp only [oneS, nb, nbL, nbH, sound0, if_neg (h1), if_neg (h2), if_pos h4, if_pos h5, if_neg (ne_true_of_eq_false h6)]) rfl))
     (fun h5 A => N hX 23 A rfl rfl fun A => RETN hX A rfl rfl rfl h0 rfl rfl rfl rfl (by simp only [oneS, nb, nbL, nbH, sound0, if_neg (h1), if_neg (h2), if_pos h4, if_neg (ne_true_of_eq_false h5)]) rfl))
    (fun h4 A => N hX 7 A rfl rfl fun A => forkE 45 A rfl
     (fun h7 A => N hX 5 A rfl rfl fun A => CALL1 [] (isReg_ i.dst) A rfl rfl rfl rfl rfl rfl rfl fun A => N hX 1 A rfl rfl fun A => fork 50 A rfl
      (fun h8 A => N hX 1 A rfl rfl fun A => CALL1 [] (isAccess_ i ) A rfl rfl rfl rfl rfl rfl rfl fun A => N hX 14 A rfl rfl fun A => RETN hX A rfl rfl rfl h0 rfl rfl rfl rfl (by simp only [oneS, nb, nbL, nbH, sound0, if_neg (h1), if_neg (h2), if_neg (h4), if_pos h7, if_pos h8]) rfl)
      (fun h8 A => N hX 16 A rfl rfl fun A => RETN hX A rfl rfl rfl h0 rfl rfl rfl rfl (by simp only [oneS, nb, nbL, nbH, sound0, if_neg (h1), if_neg (h2), if_neg (h4), if_pos h7, if_neg (ne_true_of_eq_false h8)]) rfl))
     (fun h7 A => N hX 7 A rfl rfl fun A => forkE 63 A rfl
      (fun h9 A => N hX 5 A rfl rfl fun A => CALL1 [] (isRegOrNone_ i.ra) A rfl rfl rfl rfl rfl rfl rfl fun A => N hX 1 A rfl rfl fun A => fork 68 A rfl
       (fun h10 A => N hX 1 A rfl rfl fun A => CALL1 [] (isAccess_ i ) A rfl rfl rfl rfl rfl rfl rfl fun A => N hX 5 A rfl rfl fun A => RETN hX A rfl rfl rfl h0 rfl rfl rfl rfl (by simp only [oneS, nb, nbL, nbH, sound0, if_neg (h1), if_neg (h2), if_neg (h4), if_neg (h7), if_pos h9, if_pos h10]) rfl)
       (fun h10 A => N hX 7 A rfl rfl fun A => RETN hX A rfl rfl rfl h0 rfl rfl rfl rfl (by simp only [oneS, nb, nbL, nbH, sound0, if_neg (h1), if_neg (h2), if_neg (h4), if_neg (h7), if_pos h9, if_neg (ne_true_of_eq_false h10)]) rfl))
      (fun h9 A => N hX 7 A rfl rfl fun A => forkE 72 A rfl
       (fun h11 A => N hX 5 A rfl rfl fun A => CALL1 [] (isReg_ i.dst) A rfl rfl rfl rfl rfl rfl rfl fun A => N hX 1 A rfl rfl fun A => fork 77 A rfl
        (fun h12 A => N hX 2 A rfl rfl fun A => CALL1 [] (isReg_ i.ra) A rfl rfl rfl rfl rfl rfl rfl fun A => N hX 2 A rfl rfl fun A => fork 82 A rfl
         (fun h13 A => N hX 1 A rfl rfl fun A => CALL1 [] (isAccess_ i ) A rfl rfl rfl rfl rfl rfl rfl fun A => N hX 15 A rfl rfl fun A => RETN hX A rfl rfl rfl h0 rfl rfl rfl rfl (by simp only [oneS, nb, nbL, nbH, sound0, if_neg (h1), if_neg (h2), if_neg (h4), if_neg (h7), if_neg (h9), if_pos h11, if_pos h12, if_pos h13]) rfl)
         (fun h13 A => N hX 17 A rfl rfl fun A => RETN hX A rfl rfl rfl h0 rfl rfl rfl rfl (by simp only [oneS, nb, nbL, nbH, sound0, if_neg (h1), if_neg (h2), if_neg (h4), if_neg (h7), if_neg (h9), if_pos h11, if_pos h12, if_neg (ne_true_of_eq_false h13)]) rfl))
        (fun h12 A => N hX 22 A rfl rfl fun A => RETN hX A rfl rfl rfl h0 rfl rfl rfl rfl (by simp only [oneS, nb, nbL, nbH, sound0, if_neg (h1), if_neg (h2), if_neg (h4), if_neg (h7), if_neg (h9), if_pos h11, if_neg (ne_true_of_eq_false h12)]) rfl))
       (fun h11 A => N hX 7 A rfl rfl fun A => forkE 96 A rfl
        (fun h14 A => N hX 5 A rfl rfl fun A => CALL1 [] (isFenced_ i.pred) A rfl rfl rfl rfl rfl rfl rfl fun A => N hX 1 A rfl rfl fun A => fork 101 A rfl
         (fun h15 A => N hX 2 A rfl rfl fun A => CALL1 [] (isFenced_ i.succ) A rfl rfl rfl rfl rfl rfl rfl fun A => N hX 5 A rfl rfl fun A => RETN hX A rfl rfl rfl h0 rfl rfl rfl rfl (by simp only [oneS, nb, nbL, nbH, sound0, if_neg (h1), if_neg (h2), if_neg (h4), if_neg (h7), if_neg (h9), if_neg (h11), if_pos h14, if_pos h15]) rfl)
         (fun h15 A => N hX 8 A rfl rfl fun A => RETN hX A rfl rfl rfl h0 rfl rfl rfl rfl (by simp only [oneS, nb, nbL, nbH, sound0, if_neg (h1), if_neg (h2), if_neg (h4), if_neg (h7), if_neg (h9), if_neg (h11), if_pos h14, if_neg (ne_true_of_eq_false h15)]) rfl))
        (fun h14 A => N hX 7 A rfl rfl fun A => forkE 106 A rfl
         (fun h16 A => N hX 7 A rfl rfl fun A => RETN hX A rfl rfl rfl h0 rfl rfl rfl rfl (by simp only [oneS, nb, nbL, nbH, sound0, if_neg (h1), if_neg (h2), if_neg (h4), if_neg (h7), if_neg (h9), if_neg (h11), if_neg (h14), if_pos h16]) rfl)
         (fun h16 A => N hX 7 A rfl rfl fun A => forkE 108 A rfl
          (fun h17 A => N hX 5 A rfl rfl fun A => CALL1 [] (isReg_ i.ra) A rfl rfl rfl rfl rfl rfl rfl fun A => N hX 4 A rfl rfl fun A => RETN hX A rfl rfl rfl h0 rfl rfl rfl rfl (by simp only [oneS, nb, nbL, nbH, sound0, if_neg (h1), if_neg (h2), if_neg (h4), if_neg (h7), if_neg (h9), if_neg (h11), if_neg (h14), if_neg (h16), if_pos h17]) rfl)
          (fun h17 A => N hX 10 A rfl rfl fun A => RETN hX A rfl rfl rfl h0 rfl rfl rfl rfl (by simp only [oneS, nb, nbL, nbH, sound0, if_neg (h1), if_neg (h2), if_neg (h4), if_neg (h7), if_neg (h9), if_neg (h11), if_neg (h14), if_neg (h16), if_neg (h17)]) rfl)))))))))
def Right0 (i : In) (at_ : Int) (nn_ : Int) : Int := if ((!(((i.op == i.op) && ((i.dst == (plain0 i)) && ((i.ra == (plain1 i)) && ((i.rb == (plain2 i)) && ((i.imm == (plain3 i)) && ((i.loc == (plain4 i)) && ((i.off == (plain5 i)) && ((i.ix == (plain6 i)) && ((i.sz == (plain7 i)) && ((i.fn == (plain8 i)) && ((i.acq == (plain9 i)) && ((i.weak == (plain10 i)) && ((i.rel == (plain11 i)) && ((i.pred == (plain12 i)) && ((i.succ == (plain13 i)) && ((i.to_ == (plain14 i)) && (i.zero == (plain15 i)))))))))))))))))))) || (!(sound0 i))) = true then 34 else if ((i.op == 9) && ((decide (i.to_ ≤ at_)) || (decide (i.to_ > nn_)))) = true then 35 else 0
theorem Right_ (i : In) (at_ : Int) (nn_ : Int)  : Fn Try.prog 52 [.agg [.int .i64 i.op, .int .i64 i.dst, .int .i64 i.ra, .int .i64 i.rb, .int .i64 i.imm, .int .i64 i.loc, .int .i64 i.off, .int .i64 i.ix, .int .i64 i.sz, .int .i64 i.fn, .bool i.acq, .bool i.weak, .bool i.rel, .int .i64 i.pred, .int .i64 i.succ, .int .i64 i.to_, .bool i.zero], .int .i64 at_, .int .i64 nn_] [] (Rt (.int .i64 (Right0 i at_ nn_)) []) :=
 enterM (n := 30) (by kernel_rfl) Try.func52 rfl rfl rfl fun G w a h0 A => N hX 8 A rfl rfl fun A => DRAWN hX hmo [(2, .agg [.int .i64 i.op, .int .i64 (plain0 i), .int .i64 (plain1 i), .int .i64 (plain2 i), .int .i64 (plain3 i), .int .i64 (plain4 i), .int .i64 (plain5 i), .int .i64 (plain6 i), .int .i64 (plain7 i), .int .i64 (plain8 i), .bool (plain9 i), .bool (plain10 i), .bool (plain11 i), .int .i64 (plain12 i), .int .i64 (plain13 i), .int .i64 (plain14 i), .bool (plain15 i)]), (6, .opt (!(!(((i.op == i.op) && ((i.dst == (plain0 i)) && ((i.ra == (plain1 i)) && ((i.rb == (plain2 i)) && ((i.imm == (plain3 i)) && ((i.loc == (plain4 i)) && ((i.off == (plain5 i)) && ((i.ix == (plain6 i)) && ((i.sz == (plain7 i)) && ((i.fn == (plain8 i)) && ((i.acq == (plain9 i)) && ((i.weak == (plain10 i)) && ((i.rel == (plain11 i)) && ((i.pred == (plain12 i)) && ((i.succ == (plain13 i)) && ((i.to_ == (plain14 i)) && (i.zero == (plain15 i))))))))))))))))))))) (.bool (sound0 i)))] [] A rfl rfl rfl rfl (by kernel_rfl) (effAll_nil _ _) ⟨.inl ⟨_, _, rfl, rfl, plain_ i ⟩, ⟨.inr ⟨_, _, _, _, _, _, rfl, rfl, rfl, rfl, rfl, fun hg => sound_ i ⟩, trivial⟩⟩ fun A => N hX 1 A rfl rfl fun A => fork 15 A rfl
  (fun h1 A => N hX 7 A rfl rfl fun A => RETN hX A rfl rfl rfl h0 rfl rfl rfl rfl (by simp only [oneS, nb, nbL, nbH, Right0, if_pos h1]) rfl)
  (fun h1 A => N hX 7 A rfl rfl fun A => CALL1 [] (isBranch_ i ) A rfl rfl rfl rfl rfl rfl rfl fun A => N hX 14 A rfl rfl fun A => fork 29 A rfl
   (fun h2 A => N hX 7 A rfl rfl fun A => RETN hX A rfl rfl rfl h0 rfl rfl rfl rfl (by simp only [oneS, nb, nbL, nbH, Right0, if_neg (ne_true_of_eq_false h1), if_pos h2]) rfl)
   (fun h2 A => N hX 9 A rfl rfl fun A => RETN hX A rfl rfl rfl h0 rfl rfl rfl rfl (by simp only [oneS, nb, nbL, nbH, Right0, if_neg (ne_true_of_eq_false h1), if_neg (ne_true_of_eq_false h2)]) rfl))
theorem Gives_ (i : In)  : Fn Try.prog 40 [.agg [.int .i64 i.op, .int .i64 i.dst, .int .i64 i.ra, .int .i64 i.rb, .int .i64 i.imm, .int .i64 i.loc, .int .i64 i.off, .int .i64 i.ix, .int .i64 i.sz, .int .i64 i.fn, .bool i.acq, .bool i.weak, .bool i.rel, .int .i64 i.pred, .int .i64 i.succ, .int .i64 i.to_, .bool i.zero]] [] (Rt (.int .i64 (plain0 i)) []) :=
 enterM (n := 6) (by kernel_rfl) Try.func40 rfl rfl rfl fun G w a h0 A => N hX 9 A rfl rfl fun A => CALL1 [] (plain_ i ) A rfl rfl rfl rfl rfl rfl rfl fun A => N hX 5 A rfl rfl fun A => RETN hX A rfl rfl rfl h0 rfl rfl rfl rfl rfl rfl
theorem rWrites_ (i : In)  : Fn Try.prog 45 [.agg [.int .i64 i.op, .int .i64 i.dst, .int .i64 i.ra, .int .i64 i.rb, .int .i64 i.imm, .int .i64 i.loc, .int .i64 i.off, .int .i64 i.ix, .int .i64 i.sz, .int .i64 i.fn, .bool i.acq, .bool i.weak, .bool i.rel, .int .i64 i.pred, .int .i64 i.succ, .int .i64 i.to_, .bool i.zero]] [] (Rt (.bool ((i.op == 5) || (i.op == 6))) []) :=
 enterM (n := 11) (by kernel_rfl) Try.func45 rfl rfl rfl fun G w a h0 A => N hX 20 A rfl rfl fun A => RETN hX A rfl rfl rfl h0 rfl rfl rfl rfl rfl rfl
theorem rMemory_ (i : In)  : Fn Try.prog 43 [.agg [.int .i64 i.op, .int .i64 i.dst, .int .i64 i.ra, .int .i64 i.rb, .int .i64 i.imm, .int .i64 i.loc, .int .i64 i.off, .int .i64 i.ix, .int .i64 i.sz, .int .i64 i.fn, .bool i.acq, .bool i.weak, .bool i.rel, .int .i64 i.pred, .int .i64 i.succ, .int .i64 i.to_, .bool i.zero]] [] (Rt (.bool (((i.op == 4) || (i.op == 5)) || (i.op == 6))) []) :=
 enterM (n := 16) (by kernel_rfl) Try.func43 rfl rfl rfl fun G w a h0 A => N hX 25 A rfl rfl fun A => RETN hX A rfl rfl rfl h0 rfl rfl rfl rfl rfl rfl
def rGives0 (i : In) : Int := if i.op = 1 then i.dst else if i.op = 2 then i.dst else if i.op = 3 then i.dst else if i.op = 4 then i.dst else if i.op = 6 then i.dst else (-1)
theorem rGives_ (i : In)  : Fn Try.prog 41 [.agg [.int .i64 i.op, .int .i64 i.dst, .int .i64 i.ra, .int .i64 i.rb, .int .i64 i.imm, .int .i64 i.loc, .int .i64 i.off, .int .i64 i.ix, .int .i64 i.sz, .int .i64 i.fn, .bool i.acq, .bool i.weak, .bool i.rel, .int .i64 i.pred, .int .i64 i.succ, .int .i64 i.to_, .bool i.zero]] [] (Rt (.int .i64 (rGives0 i)) []) :=
 enterM (n := 13) (by kernel_rfl) Try.func41 rfl rfl rfl fun G w a h0 A => N hX 21 A rfl rfl fun A => forkE 5 A rfl
  (fun h1 A => N hX 12 A rfl rfl fun A => RETN hX A rfl rfl rfl h0 rfl rfl rfl rfl (by simp only [oneS, nb, nbL, nbH, rGives0, if_pos h1]) rfl)
  (fun h1 A => N hX 7 A rfl rfl fun A => forkE 5 A rfl
   (fun h2 A => N hX 12 A rfl rfl fun A => RETN hX A rfl rfl rfl h0 rfl rfl rfl rfl (by simp only [oneS, nb, nbL, nbH, rGives0, if_neg (h1), if_pos h2]) rfl)
   (fun h2 A => N hX 7 A rfl rfl fun A => forkE 5 A rfl
    (fun h3 A => N hX 12 A rfl rfl fun A => RETN hX A rfl rfl rfl h0 rfl rfl rfl rfl (by simp only [oneS, nb, nbL, nbH, rGives0, if_neg (h1), if_neg (h2), if_pos h3]) rfl)
    (fun h3 A => N hX 7 A rfl rfl fun A => forkE 5 A rfl
     (fun h4 A => N hX 12 A rfl rfl fun A => RETN hX A rfl rfl rfl h0 rfl rfl rfl rfl (by simp only [oneS, nb, nbL, nbH, rGives0, if_neg (h1), if_neg (h2), if_neg (h3), if_pos h4]) rfl)
     (fun h4 A => N hX 6 A rfl rfl fun A => forkE 5 A rfl
      (fun h5 A => N hX 9 A rfl rfl fun A => RETN hX A rfl rfl rfl h0 rfl rfl rfl rfl (by simp only [oneS, nb, nbL, nbH, rGives0, if_neg (h1), if_neg (h2), if_neg (h3), if_neg (h4), if_pos h5]) rfl)
      (fun h5 A => N hX 10 A rfl rfl fun A => RETN hX A rfl rfl rfl h0 rfl rfl rfl rfl (by simp only [oneS, nb, nbL, nbH, rGives0, if_neg (h1), if_neg (h2), if_neg (h3), if_neg (h4), if_neg (h5)]) rfl)))))
end Go.Proofs.Ytmieaninmidelaa
/- Rows by their addresses: what is appended to them, functions that turn one block; slices held against nil, min and max. -/
namespace Go.Proofs.Ytmieaninmidelaa
open Go.RowKit
set_option linter.unusedVariables false
set_option linter.unusedSimpArgs false
set_option linter.unusedSectionVars false

/-- an append: the old row stays as it was -/
theorem run_append_fine {P : Program} (w : World) (base : Nat) (t ty e : TypeId) (i : TypeInfo) (z : Value) (size bytes : Nat) (ht : P.underlying t = some (.slice e)) (hi : P.info? e = some i) (hz : i.zero = some z)
    (hsize : i.size = size) (hby : i.bytes = bytes) (hzs : z.cells.size = size) (hsz : 0 < size)
    (v : Value) (n : Nat) (xs : List Value) (hown : w.ownsRow base e size v n xs)
    (a : Addr) (m c : Nat) (news : List Value) (hl : news.length = m * size) (hnews : ∀ j u, news[j]? = some u → w.cell? (a.add j) = some u) (h1 : ∀ u ∈ news, u.oneCell' = true)
    (h63 : n + m ≤ maxLen) (hbytes : (n + m) * bytes ≤ 140737488355328) (hbase : base ≤ w.heap.size) :
    ∃ v' w', (Builtin.append_ #[t, t] ty #[v, .slice (some a) m c]).run P w = .ok v' w' ∧ w'.ownsRow base e size v' (n + m) (xs ++ news) ∧ w.grownBy w' v.ownBlock ∧
      w'.ownsRow base e size v n xs ∧ (v'.ownBlock = v.ownBlock ∨ v'.ownBlock = some w.heap.size) := by
  subst hsize
  subst hby
  have hsmall : n + m ≤ 9223372036854775807 := by simp only [maxLen] at h63; omega
  have hlen : (xs ++ news).length = (n + m) * i.size := by rw [List.length_append, hown.1, hl, Nat.add_mul]
  have grown : ∀ (old : Nat), old < n + m → ∀ (row : Option Nat),
      (w.drew.alloc (.cells (xs.toArray ++ news.toArray ++ Builtin.zeroCells z.cells (grownCap w (n + m) old e - (n + m))) e)).ownsRow base e i.size
        (.slice (some ⟨w.heap.size, 0, none⟩) (n + m) (grownCap w (n + m) old e)) (n + m) (xs ++ news) ∧
      w.grownBy (w.drew.alloc (.cells (xs.toArray ++ news.toArray ++ Builtin.zeroCells z.cells (grownCap w (n + m) old e - (n + m))) e)) row := by
    intro old ho row
    have hge := grownCap_ge w (n + m) old e
    have hcm : grownCap w (n + m) old e ≤ maxLen := grownCap_le_maxLen w (n + m) old e h63
    refine ⟨⟨hlen, .inr ⟨w.heap.size, _, _, rfl, hbase, heap_alloc_new w.drew _, hge, hcm, ?_, ?_⟩⟩, ⟨rfl, rfl, rfl, by simp, fun k hk _ => _root_.Go.heap_alloc_old w.drew _ hk⟩⟩
    · simp only [Array.size_append, List.size_toArray, size_zeroCells, hzs, hown.1, hl, ← Nat.add_mul]
      congr 1
      omega
    · simp only [Array.toList_append, List.append_assoc]
      rw [← List.append_assoc, ← hlen]
      exact List.take_left
  have hkeep : ∀ (w' : World), (∀ k, k < w.heap.size → w'.heap[k]? = w.heap[k]?) → w'.ownsRow base e i.size v n xs := fun w' hw => own_keep hown fun k hk => hw k (own_lt hown k hk).2
  rcases hown.2 with ⟨rfl, rfl⟩ | ⟨g, cap, cur, rfl, hbg, hg, hnc, hcm, hcs, htake⟩
  · have hx : xs = [] := List.eq_nil_of_length_eq_zero (by simpa using hown.1)
    subst hx
    by_cases hm : m = 0
    · subst hm
      have hn : news = [] := List.eq_nil_of_length_eq_zero (by simpa using hl)
      subst hn
      refine ⟨.slice none 0 0, w, ?_, World.ownsRow_nil w base e i.size, ⟨rfl, rfl, rfl, Nat.le_refl _, fun _ _ _ => rfl⟩, hown, Or.inl rfl⟩
      simp [Builtin.append_, run_underlying ht, sizeOf, typeInfo, hi, Builtin.lenOf, Builtin.firstCells, loadCells, loadCellsFrom]
    · have hr := run_append_nil (P := P) w t ty e i z ht hi hz a m c news hl hnews (by omega) (by omega) (by have hb := hbytes; simp only [Nat.zero_add] at hb; omega)
      have hgr := grown 0 (by omega) (Value.ownBlock (.slice none 0 0))
      simp only [Nat.zero_add, List.nil_append, Array.empty_append] at hgr ⊢
      exact ⟨_, _, hr, hgr.1, hgr.2, World.ownsRow_nil _ _ _ _, Or.inr rfl⟩
  · by_cases hroom : n + m ≤ cap
    · have hfit : n * i.size + news.length ≤ cur.size := by rw [hl, hcs, ← Nat.add_mul]; exact Nat.mul_le_mul_right _ hroom
      have hr := run_append_room (P := P) w t ty e i ht hi g n cap cur hg a m c news hl hnews h1 hroom hfit
      have hsz' : (cur.toList.take (n * i.size) ++ news ++ cur.toList.drop (n * i.size + news.length)).toArray.size = cap * i.size := by
        simp only [List.size_toArray, List.length_append, List.length_take, List.length_drop, Array.length_toList]
        omega
      refine ⟨_, _, hr, ⟨hlen, .inr ⟨g, cap, _, rfl, hbg, setRow_heap w g cur _ e _ hg, hroom, hcm, hsz', ?_⟩⟩, ⟨rfl, rfl, rfl, by simp, fun k _ hk => setRow_other w g k _ (fun e => hk (by simp [Value.ownBlock, e]))⟩, ⟨hown.1, .inr ⟨g, cap, _, rfl, hbg, setRow_heap w g cur _ e _ hg, hnc, hcm, hsz', ?_⟩⟩, Or.inl rfl⟩
      · rw [htake, ← hlen]
        exact List.take_left
      · rw [htake, ← hown.1, List.append_assoc]
        exact List.take_left
    · have holds : ∀ j u, xs[j]? = some u → w.cell? ((⟨g, 0, none⟩ : Addr).add j) = some u := hown.cells (g := g) rfl
      have hr := run_append_grow (P := P) w t ty e i z ht hi hz ⟨g, 0, none⟩ n cap xs hown.1 holds a m c news hl hnews (by omega) (by omega) (growslice_fits (by omega) hbytes)
      have hgr := grown cap (by omega) (Value.ownBlock (.slice (some ⟨g, 0, none⟩) n cap))
      exact ⟨_, _, hr, hgr.1, hgr.2, hkeep _ fun k hk => _root_.Go.heap_alloc_old w.drew _ hk, Or.inr rfl⟩

/-- the block of a slice that is known by its address -/
def bl : Option Addr → List Nat
  | some a => [a.block]
  | none => []
/-- a row at an address -/
abbrev Ro (e : Nat) (w : World) (ao : Option Addr) (n cp : Nat) (xs : List Value) : Prop := w.ownsRow 0 e 1 (.slice ao n cp) n xs
theorem bl_own {ao : Option Addr} {n cp k : Nat} : (bl ao).contains k = true ↔ (Value.slice ao n cp).ownBlock = some k := by
  cases ao with
  | none => simp [bl, Value.ownBlock]
  | some a => simp [bl, Value.ownBlock]; exact ⟨fun h => h.symm, fun h => h.symm⟩
theorem Ro.lt {e : Nat} {w : World} {ao : Option Addr} {n cp : Nat} {xs : List Value} (h : Ro e w ao n cp xs) {k : Nat} (hk : (bl ao).contains k = true) : k < w.heap.size := (own_lt h k (bl_own.1 hk)).2
theorem Ro.len {e : Nat} {w : World} {ao : Option Addr} {n cp : Nat} {xs : List Value} (h : Ro e w ao n cp xs) : xs.length = n := by simpa using h.1
theorem Ro.mix {e : Nat} {w w' : World} {ao : Option Addr} {n cp : Nat} {xs : List Value} {ks : List Nat} (h : Ro e w ao n cp xs) (m : Mix ks w w') (hk : ∀ k, (bl ao).contains k = true → ks.contains k = false) : Ro e w' ao n cp xs :=
  own_mix h m fun k hv => hk k (bl_own.2 hv)
theorem Ro.addr {e : Nat} {w : World} {ao : Option Addr} {n cp : Nat} {xs : List Value} (h : Ro e w ao n cp xs) : (ao = none ∧ n = 0 ∧ cp = 0) ∨ ∃ b, ao = some ⟨b, 0, none⟩ := by
  rcases h.2 with ⟨h1, h2⟩ | ⟨g, cap, cur, h1, _⟩
  · cases h1; exact .inl ⟨rfl, rfl, rfl⟩
  · cases h1; exact .inr ⟨g, rfl⟩
theorem Ro.cell {e : Nat} {w : World} {b n cp : Nat} {xs : List Value} (h : Ro e w (some ⟨b, 0, none⟩) n cp xs) : ∀ j u, xs[j]? = some u → w.cell? ((⟨b, 0, none⟩ : Addr).add j) = some u := h.cells (g := b) rfl
/-- the cells of such a row lie there -/
theorem Ro.range {e : Nat} {w : World} {b n cp : Nat} {xs : List Value} (h : Ro e w (some ⟨b, 0, none⟩) n cp xs) : w.rangeAt b 0 xs := fun j u hu => by
  have := h.cell j u hu
  rw [Addr.add_mid, Nat.zero_add] at this; simpa using this
/-- a shorter row, of the same block -/
theorem Ro.cut {e : Nat} {w : World} {ao : Option Addr} {n m cp : Nat} {xs ys : List Value} (h : Ro e w ao n cp (xs ++ ys)) (hm : xs.length = m) (h0 : m ≤ n) (hn : ao ≠ none) : Ro e w ao m cp xs := by
  obtain ⟨h1, h2⟩ := h
  refine ⟨by simpa using hm, ?_⟩
  rcases h2 with ⟨q1, q2⟩ | ⟨g, cap, cur, q1, q2, q3, q4, q5, q6, q7⟩
  · cases q1; exact absurd rfl hn
  · cases q1
    refine .inr ⟨g, _, cur, rfl, q2, q3, by omega, q5, q6, ?_⟩
    rw [Nat.mul_one] at q7 ⊢
    have := congrArg (List.take m) q7
    rw [List.take_take, Nat.min_eq_left h0] at this
    rw [this, ← hm]; simp

section
variable {P : Program} {X : Tx} {n : Nat} {ks : List Nat} {G0 : Gr} {w0 : World} {T : List (Nat × SV)} {H : Hp} {G : Gr} {a : Act} {w w' : World} {ops : Array Oper} {o : Oper} {rest : List Oper} {Q : Exit → Act → World → Prop} {K : List Fr}
/-- blocks that are known are none of these -/
def Off (H : Hp) (G : Gr) (ks : List Nat) : Prop := ∀ (i : Nat) (e : Ent) (L : Loc), H[i]? = some (some e) → G[i]? = some (some L) → ¬ e.empty → ks.contains L.b = false
theorem Sy.mixed (A : Sy n T H ks G0 w0 G a w) {ks' : List Nat} (m : Mix ks' w w') (hoff : Off H G ks') (hk : ∀ b, ks'.contains b = true → ks.contains b = true ∨ w0.heap.size ≤ b) : Sy n T H ks G0 w0 G a w' := by
  refine ⟨A.size, A.defers, A.get, ⟨A.mem.len, fun i e h => (A.mem.ent i e h).mix m (fun hne L hL => hoff i e L h ?_ hne), A.mem.sep⟩, A.pre, A.own, A.mix.mix m fun k hl hc => ?_⟩
  · cases hq : G[i]? with
    | none => rw [hq] at hL; cases hL
    | some p => rw [hq] at hL; simp at hL; rw [hL]
  · cases hz : ks'.contains k with
    | false => rfl
    | true =>
      rcases hk k hz with h | h
      · rw [h] at hc; cases hc
      · omega
theorem grown_mix {ao : Option Addr} {nn cp : Nat} (h : w.grownBy w' (Value.slice ao nn cp).ownBlock) : Mix (bl ao) w w' :=
  ⟨h.os, h.tape, h.output, h.size, fun k hk hc => h.block k hk fun e => by rw [bl_own.2 e.symm] at hc; cases hc⟩
/-- an append onto a row at an address -/
theorem APW {Y : Tb} {x y : Operand} {t e b nn cp m c : Nat} {ti : TI} {ao : Option Addr} {sy : SV} {ad : Addr} {xs news : List Value} (hX : Y.ok P = true) (A : Sy n T H ks G0 w0 G a w) (hg : guardS ops T o.guard = some .run) (hd : fitsD n o.dst = true) (hop : o.op = .call { callee := .builtin .append, args := #[x, y], argTypes := #[t, t] })
    (hx : evS T x = some (.sla ao nn cp)) (hy : evS T y = some sy) (hti : Y.get t = some ti) (hel : ti.elm = some (e, 1, b)) (hb : Nat.ble b 10000 = true) (hro : Ro e w ao nn cp xs) (hsy : den G sy = some (.slice (some ad) m c)) (hl : news.length = m)
    (hnews : ∀ j u, news[j]? = some u → w.cell? (ad.add j) = some u) (h1 : ∀ u ∈ news, u.oneCell' = true) (hnn : nn ≤ 1000000) (hm : m ≤ 1000000) (hoff : Off H G (bl ao)) (hk : ∀ b, (bl ao).contains b = true → ks.contains b = true ∨ w0.heap.size ≤ b)
    (k : ∀ {a w'} ao' cp', Ro e w' ao' (nn + m) cp' (xs ++ news) → Ro e w' ao nn cp xs → Mix (bl ao) w w' → (bl ao' = bl ao ∨ bl ao' = [w.heap.size]) → Sy n (extS T o.dst (.sla ao' (nn + m) cp')) H ks G0 w0 G a w' → Goal P Q K (.ops ops rest) a w') : Goal P Q K (.ops ops (o :: rest)) a w := by
  have hw := gd_run (gd := none) A hg
  obtain ⟨d, op, ty, pos, af, gd⟩ := o
  simp only at hop
  subst hop
  obtain ⟨ie, z, f1, f2, f3, f4, f5, f6, f7⟩ := elem_facts (ti_elm (i := ti) (Tb.at (X := Y) hX hti) hel)
  have hvx := A.ev hx
  have hvy := A.ev hy
  unfold den at hvx
  simp only [Option.some.injEq] at hvx
  rw [hsy] at hvy
  have hvy := Option.some.inj hvy
  have hby := Nat.le_of_ble_eq_true hb
  have hmul : (nn + m) * b ≤ 2000000 * 10000 := Nat.mul_le_mul (by omega) hby
  obtain ⟨v', w', hr, k1, k2, k3, k4⟩ := run_append_fine (P := P) w 0 t ty e ie z 1 b f1 f2 f3 f4 f5 f6 f7 _ nn xs hro ad m c news (by omega) hnews h1 (by simp only [maxLen]; omega) (by omega) (Nat.zero_le _)
  obtain ⟨p', o1, o2, o3⟩ := own_split k1
  refine q_does (Q := wpK P Q K) (does_val (v := v') (w' := w') hw ?_ ?_)
  · unfold execOp
    simp only [resolve, invoke, builtin, Sem.run_bind, Sem.run_pure, Result.andThen_ok, List.map_toArray, List.map_cons, List.map_nil, ← hvx, ← hvy, hr]
  · subst o1
    have hM := grown_mix k2
    refine k _ _ k1 k3 hM ?_ (Sy.put (A.mixed hM hoff hk) hd (by rfl))
    rcases k4 with k4 | k4
    · left
      cases p' with
      | none => cases ao with
        | none => rfl
        | some a' => simp [Value.ownBlock] at k4
      | some L => cases ao with
        | none => simp [Value.ownBlock] at k4
        | some a' => simp [Value.ownBlock] at k4; simp [bl, k4]
    · right
      cases p' with
      | none => simp [Value.ownBlock] at k4
      | some L => simp [Value.ownBlock] at k4; simp [bl, k4]
/-- a slice held against nil -/
theorem NILQ {x y : Operand} {t rt : Nat} {ao : Option Addr} {nn cp : Nat} (A : Sy n T H ks G0 w0 G a w) (hg : guardS ops T o.guard = some .run) (hd : fitsD n o.dst = true) (hop : o.op = .binOp .eql t x y rt) (hx : evS T x = some (.sla ao nn cp)) (hy : evS T y = some (.sla none 0 0)) {e : Nat} (ht : P.underlying t = some (.slice e)) {r : SV} (hr : den [] r = some (.bool ao.isNone))
    (k : ∀ {a}, Sy n (extS T o.dst r) H ks G0 w0 G a w → Goal P Q K (.ops ops rest) a w) : Goal P Q K (.ops ops (o :: rest)) a w := by
  have hw := gd_run (gd := none) A hg
  obtain ⟨d, op, ty, pos, af, gd⟩ := o
  simp only at hop
  subst hop
  have hvx := A.ev hx
  have hvy := A.ev hy
  unfold den at hvx hvy
  simp only [Option.some.injEq] at hvx hvy
  exact q_does (Q := wpK P Q K) (d_bin (u := .slice ao nn cp) (v := .slice none 0 0) hw hvx.symm hvy.symm ⟨by simp [eqGuard], Lib.run_eql_slice_nil w t e ao nn cp 0 0 ht⟩ (k (Sy.put A hd (by simpa using den_mono G r hr))))
/-- what is built is a row at an address -/
theorem BSR {t m : Nat} {Y : Tb} (cs : List SV) {vs : List Value} (hX : Y.ok P = true) (A : Sy n T H ks G0 w0 G a w) (h : xop ⟨Y, true⟩ T H none o.op = some (.new t (.blk cs) (.sl H.length m m))) (hc : denL [] cs = some vs) (hg : guardS ops T o.guard = some .run) (hd : fitsD n o.dst = true) (hm : m ≤ 1000000) (hvs : vs.length = m)
    (k : ∀ {a w'} b, b = w.heap.size → Grow w w' → Ro t w' (some ⟨b, 0, none⟩) m m vs → Sy n (extS T o.dst (.sla (some ⟨b, 0, none⟩) m m)) H ks G0 w0 G a w' → Goal P Q K (.ops ops rest) a w') : Goal P Q K (.ops ops (o :: rest)) a w := by
  refine q_does (Q := wpK P Q K) ?_
  refine xop_new hX A h (gd_run (gd := none) A hg) fun g w' v hg' hgr hen hmu hv => ?_
  have hlast : (G ++ [some (⟨g, [], [], t⟩ : Loc)])[H.length]? = some (some ⟨g, [], [], t⟩) := by rw [List.getElem?_append_right (by rw [A.mem.len]; exact Nat.le_refl _), A.mem.len]; simp
  have hv' : v = .slice (some ⟨g, 0, none⟩) m m := by
    unfold den at hv
    rw [hlast] at hv
    simp [rm] at hv
    exact hv.symm
  subst hv'
  obtain ⟨L, us, e1, e2, e3⟩ := hen
  cases e1
  have h4 : denL G cs = some vs := by simpa using denL_mono G cs hc
  rw [h4] at e2
  cases e2
  have e4 : Blk w' g vs.toArray t := by simpa only [List.nil_append, List.append_nil] using e3
  refine k g hg' hgr ⟨by simpa using hvs, .inr ⟨g, m, vs.toArray, rfl, Nat.zero_le _, e4, Nat.le_refl _, by simp only [maxLen]; omega, by simp [hvs], by rw [Nat.mul_one, ← hvs]; simp⟩⟩ (Sy.put (A.grew hgr) hd (by rfl))
/-- the smaller, the greater of two numbers -/
theorem MINI {x y : Operand} {ats : Array TypeId} {p q : Int} (A : Sy n T H ks G0 w0 G a w) (hg : guardS ops T o.guard = some .run) (hd : fitsD n o.dst = true) (hop : o.op = .call { callee := .builtin .min, args := #[x, y], argTypes := ats }) (hx : evS T x = some (.int .i64 p)) (hy : evS T y = some (.int .i64 q))
    (k : ∀ {a}, Sy n (extS T o.dst (.int .i64 (min p q))) H ks G0 w0 G a w → Goal P Q K (.ops ops rest) a w) : Goal P Q K (.ops ops (o :: rest)) a w := by
  have hw := gd_run (gd := none) A hg
  obtain ⟨d, op, ty, pos, af, gd⟩ := o
  simp only at hop
  subst hop
  have hvx := A.ev hx
  have hvy := A.ev hy
  unfold den at hvx hvy
  simp only [Option.some.injEq] at hvx hvy
  refine q_does (Q := wpK P Q K) (does_val (v := .int .i64 (min p q)) (w' := w) hw ?_ (k (Sy.put A hd (by rfl))))
  have e : (if q < p then q else p) = min p q := by split <;> omega
  unfold execOp
  simp [resolve, invoke, builtin, ← hvx, ← hvy, Builtin.min_, Builtin.min2, e]
theorem MAXI {x y : Operand} {ats : Array TypeId} {p q : Int} (A : Sy n T H ks G0 w0 G a w) (hg : guardS ops T o.guard = some .run) (hd : fitsD n o.dst = true) (hop : o.op = .call { callee := .builtin .max, args := #[x, y], argTypes := ats }) (hx : evS T x = some (.int .i64 p)) (hy : evS T y = some (.int .i64 q))
    (k : ∀ {a}, Sy n (extS T o.dst (.int .i64 (max p q))) H ks G0 w0 G a w → Goal P Q K (.ops ops rest) a w) : Goal P Q K (.ops ops (o :: rest)) a w := by
  have hw := gd_run (gd := none) A hg
  obtain ⟨d, op, ty, pos, af, gd⟩ := o
  simp only at hop
  subst hop
  have hvx := A.ev hx
  have hvy := A.ev hy
  unfold den at hvx hvy
  simp only [Option.some.injEq] at hvx hvy
  refine q_does (Q := wpK P Q K) (does_val (v := .int .i64 (max p q)) (w' := w) hw ?_ (k (Sy.put A hd (by rfl))))
  have e : (if p < q then q else p) = max p q := by split <;> omega
  unfold execOp
  simp [resolve, invoke, builtin, ← hvx, ← hvy, Builtin.max_, Builtin.max2, e]
end
/-- a function that reads what it is handed in H, and turns these blocks alone; what it yields is closed -/
def FnW (P : Program) (f : Nat) (args : List SV) (H : Hp) (ks : List Nat) (pre : World → Prop) (J : SV → World → World → Prop) : Prop :=
  Ent_ P f = some (false, false) ∧ (∀ (i : Nat) (e : Ent), H[i]? = some (some e) → e.mut = false) ∧ ∀ G w vs, Mem H G w → Off H G ks → pre w → denL G args = some vs → Calls P f vs.toArray w fun e w' => ∃ x v, den [] x = some v ∧ e = .returned v ∧ Mix ks w w' ∧ J x w w'
section
variable {P : Program} {n : Nat} {ks : List Nat} {G0 : Gr} {w0 : World} {T : List (Nat × SV)} {H : Hp} {G : Gr} {a : Act} {w : World} {Q : Exit → Act → World → Prop} {K : List Fr} {pos : Pos} {ops : Array Oper} {o : Oper} {rest : List Oper} {pre : World → Prop}
theorem enterW {f : Nat} {fn : Func} {c : Code} {args : List SV} {J : SV → World → World → Prop} (hent : Ent_ P f = some (false, false)) (hf : P.funcs[f]? = some fn) (hb : fn.body = some c) (hn : fn.ntmps = n) (hl : Nat.ble args.length n = true) (hro : ∀ (i : Nat) (e : Ent), H[i]? = some (some e) → e.mut = false)
    (h : ∀ G w a, H.length = G.length → Off H G ks → pre w → Sy n (argS args 0) H ks G w G a w → Goal P (bodyPost P fn fun e w' => ∃ x v, den [] x = some v ∧ e = .returned v ∧ Mix ks w w' ∧ J x w w') [] (.code c) a w) : FnW P f args H ks pre J := by
  refine ⟨hent, hro, fun G w vs hM ho hp hv => ?_⟩
  refine calls_of_wp hf hb (h G w _ hM.len ho hp ⟨?_, rfl, fun t x hx => ?_, hM, ⟨[], by simp⟩, fun i e L h1 h2 h3 => (by rw [hro i e h1] at h2; cases h2), Mix.refl _ _⟩)
  · have := denL_len hv
    have := Nat.le_of_ble_eq_true hl
    simp [hn]; omega
  · obtain ⟨_, h2⟩ := argS_look hx
    simp only [Nat.sub_zero] at h2
    obtain ⟨v, h3, h4⟩ := denL_get hv h2
    have hlt : t < vs.length := (List.getElem?_eq_some_iff.1 h3).1
    rw [h4]
    simp [Array.getD_eq_getD_getElem?, Array.getElem?_append, hlt] at h3 ⊢
    exact h3.symm
theorem RETW {Y : Tb} {fn : Func} {J : SV → World → World → Prop} (hX : Y.ok P = true) {y : SV} {r : List SV} {rv : List ResultVar} {v' : Value} (A : Sy n T H ks G0 w0 G a w) (hr : fn.results.toList = rv) (hv : resS ⟨Y, false⟩ T H rv = some r) (hy : oneS r = y) (hc : den [] y = some v') (hJ : J y w0 w) : bodyPost P fn (fun e w' => ∃ x v, den [] x = some v ∧ e = .returned v ∧ Mix ks w0 w' ∧ J x w0 w') .ret a w := by
  obtain ⟨v, h1, h2⟩ := res_run (X := ⟨Y, false⟩) (fn := fn) hX A hr hv hy
  have h3 : den G y = some v' := by simpa using den_mono G y hc
  rw [h3] at h1
  cases h1
  exact ⟨A.defers, v', h2, y, v', hc, rfl, A.mix, hJ⟩
theorem CALLW {f : Nat} {args az : List SV} {H' l : Hp} {ks' : List Nat} {J : SV → World → World → Prop} (m : List Nat) (hf : FnW P f args H' ks' pre J) (A : Sy n T H ks G0 w0 G a w) (hp : pre w) (hoff : Off H G ks') (hk : ∀ b, ks'.contains b = true → ks.contains b = true ∨ w0.heap.size ≤ b) (h1 : callS n ops T o = some (f, az)) (h2 : renL m args = some az) (h3 : renH m H' = some l) (h4 : pickH H m = some l) (h5 : ndB m = true)
    (k : ∀ {x a' w'}, Mix ks' w w' → J x w w' → Sy n (extS T o.dst x) H ks G0 w0 G a' w' → Goal P Q K (.ops ops rest) a' w') : Goal P Q K (.ops ops (o :: rest)) a w := by
  obtain ⟨hd, us, hu, hdo⟩ := callS_do (P := P) (ops := ops) A h1 hf.1
  obtain ⟨p1, p2, p3⟩ := pickH_at h4
  obtain ⟨r1, r2⟩ := renH_at h3
  have hm : ∀ j ∈ m, j < G.length := fun j hj => by rw [← A.mem.len]; exact p2 j hj
  have hM := A.mem.sub h4 h3 h5
  have hv' : denL (pickG m G) args = some us := by rw [denL_ren hm args h2]; exact hu
  have ho' : Off H' (pickG m G) ks' := fun i e L q1 q2 q3 => by
    obtain ⟨f, s1, s2⟩ := r2 i _ q1
    obtain ⟨f', rfl⟩ := renE_some s2
    have hi : i < m.length := by rw [← p1]; exact (List.getElem?_eq_some_iff.1 s1).1
    have hj : m[i]? = some m[i] := by simp [hi]
    rw [pickG_at hm hj] at q2
    rw [p3 i _ hj] at s1
    exact hoff _ f' L s1 q2 fun h => q3 ((renE_mut s2).2.1 h)
  refine q_does (Q := wpK P Q K) (hdo (hf.2.2 _ w us hM ho' hp hv') fun e w' he => ?_)
  obtain ⟨x, v, e1, rfl, hg, hJ⟩ := he
  exact ⟨v, rfl, k hg hJ (Sy.put (A.mixed hg hoff hk) hd (by simpa using den_mono G x e1))⟩
/-- mutable blocks, and lists that are read -/
theorem off_of {ks' : List Nat} (A : Sy n T H ks G0 w0 G a w) (h1 : ∀ b, ks'.contains b = true → (keys H G).contains b = false) (h2 : ∀ (i : Nat) (e : Ent) (L : Loc), H[i]? = some (some e) → e.mut = false → G[i]? = some (some L) → ¬ e.empty → ks'.contains L.b = false) : Off H G ks' := fun i e L q1 q2 q3 => by
  cases hm : e.mut with
  | false => exact h2 i e L q1 hm q2 q3
  | true =>
    cases hz : ks'.contains L.b with
    | false => rfl
    | true =>
      have := h1 _ hz
      rw [mem_keys.2 ⟨i, e, L, q1, hm, q2, rfl⟩] at this; cases this
theorem Off.nil : Off H G [] := fun _ _ _ _ _ _ => rfl
/-- blocks that are known now: they were, or are new -/
theorem Off.one {b : Nat} (A : Sy n T H ks G0 w0 G a w) (hb : w.heap.size ≤ b) : Off H G [b] := fun i e L q1 q2 q3 => by
  have := A.mem.ent i e q1
  rw [q2] at this
  have := EntOK.lt this q3
  simp; omega
end
section
variable {P : Program} {n : Nat} {ks : List Nat} {G0 : Gr} {w0 : World} {T : List (Nat × SV)} {H : Hp} {G : Gr} {a : Act} {w : World} {Q : Exit → Act → World → Prop} {K : List Fr}
/-- a loop that goes round once -/
theorem LOOPU {c : Code} (T1 : List (Nat × SV)) (H1 : Hp) (I : Prop) (A : Sy n T H ks G0 w0 G a w) (r0 : ∀ {G a w}, Sy n T H ks G0 w0 G a w → Goal P Q (.lp (fun a' w' => ∃ G', I ∧ Sy n T1 H1 ks G0 w0 G' a' w') :: K) (.code c) a w)
    (r1 : I → ∀ {G a w}, Sy n T1 H1 ks G0 w0 G a w → Goal P Q (.lp (fun _ _ => False) :: K) (.code c) a w) : Goal P Q K (.code (.loop c)) a w := by
  refine loop_by (fun m a w => (m = 1 ∧ ∃ G, Sy n T H ks G0 w0 G a w) ∨ (m = 0 ∧ I ∧ ∃ G, Sy n T1 H1 ks G0 w0 G a w)) 1 (.inl ⟨rfl, G, A⟩) ?_
  rintro m a w (⟨rfl, G, A⟩ | ⟨rfl, hI, G, A⟩)
  · refine Code.wp_mono (fun e a' w' h => ?_) (r0 A)
    cases e with
    | normal => obtain ⟨G', h1, h2⟩ := h; exact ⟨0, by omega, .inr ⟨rfl, h1, G', h2⟩⟩
    | _ => exact h
  · refine Code.wp_mono (fun e a' w' h => ?_) (r1 hI A)
    cases e with
    | normal => exact absurd h (fun h => h)
    | _ => exact h
end
theorem ix_ptr {i o s m k : Nat} (j : Nat) {q : Nat} (hq : o + j * s + k = q) : ∀ G, den G (.ix (.ptr i o) s m (j : Int) k) = den G (.ptr i q) := fun G => by
  subst hq
  unfold den
  cases hG : G[i]? with
  | none => unfold den; rw [hG]
  | some p => cases p with
    | none => unfold den; rw [hG]
    | some L => unfold den; rw [hG]; simp [Nat.add_assoc]
/-- lists that are read stay where they are -/
theorem off_pre {H : Hp} {G : Gr} {ks : List Nat} {F : Gr} {E : Hp} (hlen : H.length = G.length) (h : Off H G ks) (hF : ∀ (i : Nat) (e : Ent) (L : Loc), E[i]? = some (some e) → F[i]? = some (some L) → ¬ e.empty → ks.contains L.b = false) : Off (H ++ E) (G ++ F) ks := fun i e L q1 q2 q3 => by
  by_cases hi : i < H.length
  · rw [List.getElem?_append_left hi] at q1
    rw [List.getElem?_append_left (by omega)] at q2
    exact h i e L q1 q2 q3
  · rw [List.getElem?_append_right (by omega)] at q1
    rw [List.getElem?_append_right (by omega), ← hlen] at q2
    exact hF _ e L q1 q2 q3
section
variable {P : Program} {Y : Tb} {n : Nat} {ks : List Nat} {G0 : Gr} {w0 : World} {T : List (Nat × SV)} {H : Hp} {G : Gr} {a : Act} {w w' : World} {Q : Exit → Act → World → Prop} {K : List Fr} {ops : Array Oper} {o : Oper} {rest : List Oper}
/-- a list is appended, however long it is -/
theorem APPB {i e s m c nn cc mm mb mc : Nat} {f g : Nat → List SV} (hY : Y.ok P = true) (m' : Nat) (f' : Nat → List SV) (A : Sy n T H ks G0 w0 G a w) (h : aplS Y n ops T H o = some ((i, e, s, m, c), f, (mm, mb, mc), g, (nn, cc))) (h1 : nn = m) (h2 : cc = c) (hc0 : c = 0) (hmb : mm ≤ mb) (hbb : ∀ ie : TypeInfo, P.info? e = some ie → (m + mm) * ie.bytes ≤ 140737488355328) (hmx : m + mm ≤ 140737488355328) (hm' : m' = m + mm)
    (hf : ∀ k, k < m → f' k = f k) (hn : ∀ k, k < mm → f' (m + k) = g k) (htot : ∀ k, ∃ vs, denL [] (f' k) = some vs ∧ vs.length = s) (hone : ∀ k, k < mm → ∃ E, onesS (g k) = some E ∧ okE E)
    (hk : ∀ {G a w}, Sy n (extS T o.dst (.sl H.length m' 0)) (stH H i none ++ [some (.row e s m' 0 f')]) ks G0 w0 G a w → Goal P Q K (.ops ops rest) a w) : Goal P Q K (.ops ops (o :: rest)) a w := by
  subst hm'
  obtain ⟨d, op, ty, pos, af, gd⟩ := o
  unfold aplS at h
  split at h
  · next hd =>
    split at h
    · next hgd =>
      have hw := gd_run (gd := none) A hgd
      split at h
      · next ca hca =>
        simp only at hca
        subst hca
        obtain ⟨callee, args, ats⟩ := ca
        simp only at h
        split at h
        · next x y t t' ha ht =>
          split at h
          · next i' nn' cc' j mm' mc' hx hy htt =>
            split at h
            · next e' s' m' c1 f1 s2 mb' g' ti hi hj hti =>
              split at h
              · next e2 s3 b hel =>
                split at h
                · next hck =>
                  cases h
                  subst h1; subst h2
                  simp only [Bool.and_eq_true] at hck
                  obtain ⟨⟨⟨c1, c2⟩, c3⟩, c4⟩ := hck
                  have e1 := Nat.eq_of_beq_eq_true c1
                  have e2' := Nat.eq_of_beq_eq_true c2
                  have e3 := Nat.eq_of_beq_eq_true c3
                  have e4 := Nat.eq_of_beq_eq_true htt
                  have hby := Nat.le_of_ble_eq_true c4
                  subst e1; subst e2'; subst e3; subst e4
                  rw [lg_is] at hi
                  have hargs : args = #[x, y] := by have := congrArg List.toArray ha; simpa using this
                  have hats : ats = #[t, t] := by have := congrArg List.toArray ht; simpa using this
                  subst hargs; subst hats
                  obtain ⟨r1, r2, xs, r3, r4⟩ := A.mem.ent i _ hi
                  obtain ⟨g1, g2⟩ := parts_at A.mem hj
                  obtain ⟨ie, z, f1', f2', f3', f4', f5', f6', f7'⟩ := elem_facts (ti_elm (Tb.at hY hti) hel)
                  have hvx := A.ev hx
                  have hvy := A.ev hy
                  obtain ⟨q, hq⟩ : ∃ q, G[i]? = some q := by
                    have : i < G.length := by rw [← A.mem.len]; exact (List.getElem?_eq_some_iff.1 hi).1
                    exact ⟨G[i], by simp [this]⟩
                  rw [hq] at r2 r4
                  simp only [Option.getD_some] at r2 r4
                  unfold den at hvx hvy
                  rw [hq] at hvx
                  simp only [Option.some.injEq] at hvx
                  have htg : ∀ k, k < mm → ∃ vs, denL [] (g k) = some vs ∧ vs.length = s := fun k hk => by rw [← hn k hk]; exact htot _
                  obtain ⟨ys, hys⟩ := flat_ex (f := fun k => f' (nn + k)) (fun k => htot _) mm
                  have hyl := flat_len (f := fun k => f' (nn + k)) (fun k => htot _) hys
                  have hflat : flatV f' (nn + mm) = some (xs ++ ys) := flat_more mm nn (by rw [flat_congr hf]; exact r3) hys
                  have hob : Value.ownBlock (.slice (q.map fun L => ⟨L.b, L.pre.length, none⟩) nn (cc + rm q)) = q.map (·.b) := by cases q <;> rfl
                  by_cases h0 : mm = 0
                  · subst h0
                    cases hys
                    have hsrc : Src P ie.size t (a.eval y) 0 [] w := by
                      split at hvy
                      · next p hp =>
                        rw [← Option.some.inj hvy]
                        cases p with
                        | none => exact Src.ofNil w f1' mc
                        | some L => exact Src.ofSlice w f1' _ 0 _ [] (by simp) (fun j u hj => by simp at hj) (fun u hu => by cases hu)
                      · cases hvy
                    have hnc : nn ≤ cc + rm q := by
                      rcases r4.2 with ⟨q1, q2⟩ | ⟨g, cap, cur, q1, _, _, q4, _⟩
                      · omega
                      · cases q <;> simp at q1; omega
                    have hr := run_append_nothing (P := P) w t t ty e ie f1' f2' (q.map fun L => ⟨L.b, L.pre.length, none⟩) nn (cc + rm q) hnc _ hsrc
                    refine q_does (Q := wpK P Q K) (does_val (v := .slice (q.map fun L => ⟨L.b, L.pre.length, none⟩) nn (cc + rm q)) (w' := w) hw ?_ ?_)
                    · unfold execOp
                      simp only [resolve, invoke, builtin, Sem.run_bind, Sem.run_pure, Result.andThen_ok, List.map_toArray, List.map_cons, List.map_nil, ← hvx, hr]
                    · have A2 := A.rowMove (w' := w) (p' := q) (m' := nn + 0) (c' := cc) (xs' := xs ++ []) hi ⟨rfl, rfl, rfl, Nat.le_refl _, fun _ _ _ => rfl⟩ (by simpa using r4) r2 (.inl (by rw [hq]; rfl)) hflat htot
                      subst hc0
                      refine hk (Sy.put A2 hd ?_)
                      unfold den
                      rw [List.getElem?_append_right (by rw [A.mem.len]; exact Nat.le_refl _), A.mem.len]
                      simp
                  · obtain ⟨L, vs0, b1, _⟩ := g2 0 (by omega)
                    rw [get_loc b1] at hvy
                    simp only [Option.map_some, Option.some.injEq] at hvy
                    have hmul : (nn + mm) * b ≤ 140737488355328 := by have := hbb ie f2'; rwa [f5'] at this
                    obtain ⟨v', w', hr, k1, k2, _, k4⟩ := run_append_own_at (P := P) w 0 t ty e ie z s b f1' f2' f3' f4' f5' f6' f7' _ nn xs r4 ⟨L.b, L.pre.length, none⟩ mm (mc + rm (some L)) ys hyl
                      (fun j u hj => by
                        obtain ⟨k, r, us, d1, d2, d3, d4⟩ := flat_inv (f := fun k => f' (nn + k)) (fun k => htot _) hys j u hj
                        obtain ⟨L', us', b1', b2', b3'⟩ := g2 k (by omega)
                        rw [b1] at b1'; cases b1'
                        rw [hn k d1, b2'] at d2
                        cases d2
                        have := b3' r u d3
                        rw [Addr.add_mid, d4, ← Nat.add_assoc]
                        exact this)
                      (fun u hu => by
                        obtain ⟨j, hj⟩ := List.mem_iff_getElem?.1 hu
                        obtain ⟨k, r, us, d1, d2, d3, d4⟩ := flat_inv (f := fun k => f' (nn + k)) (fun k => htot _) hys j u hj
                        rw [hn k d1] at d2
                        obtain ⟨E, o1, o2⟩ := hone k d1
                        exact List.all_eq_true.1 (onesS_spec o1 o2 d2) u (List.mem_of_getElem? d3))
                      (by simp only [maxLen]; omega) (by omega) (Nat.zero_le _)
                    obtain ⟨p', o1, o2, o3⟩ := own_split k1
                    rw [hob] at k2 k4
                    rw [o3] at k4
                    rw [o1] at k1
                    refine q_does (Q := wpK P Q K) (does_val (v := v') (w' := w') hw ?_ ?_)
                    · unfold execOp
                      simp only [resolve, invoke, builtin, Sem.run_bind, Sem.run_pure, Result.andThen_ok, List.map_toArray, List.map_cons, List.map_nil, ← hvx, ← hvy, hr]
                    · have A2 := A.rowMove (p' := p') hi (by rw [hq]; exact k2) k1 o2 (by rw [hq]; exact k4) hflat htot
                      refine hk (Sy.put A2 hd ?_)
                      unfold den
                      rw [List.getElem?_append_right (by rw [A.mem.len]; exact Nat.le_refl _), A.mem.len]
                      simp [o1]
                · cases h
              · cases h
            · cases h
          · cases h
        · cases h
      · cases h
    · cases h
  · cases h
end
end Go.Proofs.Ytmieaninmidelaa
/- Check of one code. -/
namespace Go.Proofs.Ytmieaninmidelaa
open Go.RowKit
set_option linter.unusedVariables false
set_option linter.unusedSimpArgs false
set_option maxRecDepth 100000
set_option maxHeartbeats 2000000
set_option simprocs false
def cntP (p : In → Bool) (c : List In) : Nat := (c.filter p).length
theorem cntP_le (p : In → Bool) (c : List In) : cntP p c ≤ c.length := List.length_filter_le _ _
structure CnI (p : In → Bool) (c : List In) (m k : Nat) : Prop where
  le : k ≤ c.length
  ml : m ≤ k
  eq : m + cntP p (c.drop k) = cntP p c
section
variable {p : In → Bool} {c : List In} {m k : Nat}
theorem CnI.i0 : CnI p c 0 0 := ⟨Nat.zero_le _, Nat.le_refl _, by simp⟩
theorem CnI.at (h1 : (k : Int) < ((c.length : Nat) : Int)) : cntP p (c.drop k) = (if p (c.getD ((k : Int)).toNat In.z) = true then 1 else 0) + cntP p (c.drop (k + 1)) := by
  have hk : k < c.length := by omega
  have e : c.getD ((k : Int)).toNat In.z = c[k] := by simp [List.getD, hk]
  rw [List.drop_eq_getElem_cons hk, e]
  unfold cntP
  rw [List.filter_cons]
  split <;> simp <;> omega
theorem CnI.y (hI : CnI p c m k) (h1 : (k : Int) < ((c.length : Nat) : Int)) (h : p (c.getD ((k : Int)).toNat In.z) = true) : CnI p c (m + 1) (k + 1) := ⟨by omega, by have := hI.ml; omega, by rw [← hI.eq, CnI.at h1, if_pos h]; omega⟩
theorem CnI.n (hI : CnI p c m k) (h1 : (k : Int) < ((c.length : Nat) : Int)) (h : p (c.getD ((k : Int)).toNat In.z) = false) : CnI p c m (k + 1) := ⟨by omega, by have := hI.ml; omega, by rw [← hI.eq, CnI.at h1, if_neg (by rw [h]; simp)]; omega⟩
theorem CnI.fi (hI : CnI p c m k) (h1 : ¬ (k : Int) < ((c.length : Nat) : Int)) : (m : Int) = ((cntP p c : Nat) : Int) := by
  have := hI.eq
  rw [List.drop_eq_nil_of_le (by omega)] at this
  simp [cntP] at this ⊢
  omega
end
theorem count_ (cs : List In) (c : Nat) (f : Nat) (p : In → Bool) (hf : ∀ i : In, Fn Try.prog f [.agg (insS i)] [] (Rt (.bool (p i)) [])) (hn : cs.length ≤ 1000000) : Fn Try.prog 50 [.sl 0 cs.length c, .fn f []] [some (.lst 17 cs.length (fun zz => insS (cs.getD zz In.z)))] (Rt (.int .i64 ((cntP p cs : Nat) : Int)) [some (.lst 17 cs.length (fun zz => insS (cs.getD zz In.z)))]) :=
 enterM (n := 21) (by kernel_rfl) Try.func50 rfl rfl rfl fun G w a h0 A => N hX 19 A rfl rfl fun A => LOOP2 (fun (m : Nat) (k : Nat) => [(1, .fn f []), (4, .int .i64 0), (5, .int .i64 (m : Int)), (8, .sl 0 cs.length c), (9, .int .i64 ((cs.length : Nat) : Int)), (10, .int .i64 (k : Int))]) (fun (m : Nat) (k : Nat) => [some (.lst 17 cs.length (fun zz => insS (cs.getD zz In.z)))]) (fun (m : Nat) (k : Nat) => CnI p cs m k) (fun (m : Nat) (k : Nat) => cs.length - k) 0 0 CnI.i0 ((A.cut [1, 4, 5, 8, 9, 10] rfl).trunc 1 rfl rfl rfl (by simp only [List.length_cons, List.length_nil] at h0; omega)) fun m k hI {G a w} A => N hX 6 A rfl rfl fun A => forkD 11 A rfl
   (fun h1 A => N hX 14 A rfl (ok_d (by have := hI.le; have := hI.ml; omega) <| ok_d (by have := hI.le; have := hI.ml; omega) <| okE_nil) fun A => N hX 3 A rfl rfl fun A => CALL1 [] (hf (cs.getD (((k : Int)).toNat) In.z)) A rfl rfl rfl rfl rfl rfl rfl fun A => N hX 2 A rfl rfl fun A => fork 16 A rfl
    (fun h2 A => N hX 8 A rfl (ok_d (by have := hI.le; have := hI.ml; omega) <| okE_nil) fun A => N hX 4 A rfl (ok_d (by have := hI.le; have := hI.ml; omega) <| okE_nil) fun A => ⟨m + 1, k + 1, _, (by omega), (hI.y h1 h2), ((A.cut [1, 4, 5, 8, 9, 10] rfl).trunc 1 rfl rfl rfl (by simp only [List.length_cons, List.length_nil] at h0; omega))⟩)
    (fun h2 A => N hX 8 A rfl (ok_d (by have := hI.le; have := hI.ml; omega) <| okE_nil) fun A => ⟨m, k + 1, _, (by omega), (hI.n h1 h2), ((A.cut [1, 4, 5, 8, 9, 10] rfl).trunc 1 rfl rfl rfl (by simp only [List.length_cons, List.length_nil] at h0; omega))⟩))
   (fun h1 A => N hX 10 A rfl rfl fun A => RETN hX A rfl rfl rfl h0 rfl rfl rfl rfl (congrArg (SV.int IntKind.i64) (hI.fi h1)) rfl)
theorem Ops_ (cs : List In) (c : Nat) (hn : cs.length ≤ 1000000) : Fn Try.prog 64 [.sl 0 cs.length c] [some (.lst 17 cs.length (fun zz => insS (cs.getD zz In.z)))] (Rt (.int .i64 ((cntP isOp0 cs : Nat) : Int)) [some (.lst 17 cs.length (fun zz => insS (cs.getD zz In.z)))]) :=
 enterM (n := 5) (by kernel_rfl) Try.func64 rfl rfl rfl fun G w a h0 A => N hX 8 A rfl rfl fun A => CALL1 [0] (count_ cs c 67 isOp0 isOp_ (by omega)) A rfl rfl rfl rfl rfl rfl rfl fun A => N hX 4 A rfl rfl fun A => RETN hX A rfl rfl rfl h0 rfl rfl rfl rfl rfl rfl
theorem Branches_ (cs : List In) (c : Nat) (hn : cs.length ≤ 1000000) : Fn Try.prog 28 [.sl 0 cs.length c] [some (.lst 17 cs.length (fun zz => insS (cs.getD zz In.z)))] (Rt (.int .i64 ((cntP (fun i => i.op == 9) cs : Nat) : Int)) [some (.lst 17 cs.length (fun zz => insS (cs.getD zz In.z)))]) :=
 enterM (n := 5) (by kernel_rfl) Try.func28 rfl rfl rfl fun G w a h0 A => N hX 8 A rfl rfl fun A => CALL1 [0] (count_ cs c 51 (fun i => i.op == 9) isBranch_ (by omega)) A rfl rfl rfl rfl rfl rfl rfl fun A => N hX 4 A rfl rfl fun A => RETN hX A rfl rfl rfl h0 rfl rfl rfl rfl rfl rfl
def cntE (cs : List In) : Int := if (0 : Int) + ((cntP isOp0 cs : Nat) : Int) > 6 then 32 else if (0 : Int) + ((cntP (fun i => i.op == 9) cs : Nat) : Int) > 3 then 33 else 0
theorem checkCounts_ (cs : List In) (c : Nat) (hn : cs.length ≤ 1000000) : Fn Try.prog 53 [.sl 0 1 1] [some (.blk [.sl 1 cs.length c]), some (.lst 17 cs.length (fun zz => insS (cs.getD zz In.z)))] (Rt (.int .i64 (cntE cs)) [some (.blk [.sl 1 cs.length c]), some (.lst 17 cs.length (fun zz => insS (cs.getD zz In.z)))]) :=
 enterM (n := 26) (by kernel_rfl) Try.func53 rfl rfl rfl fun G w a h0 A => N hX 20 A rfl rfl fun A => LOOPU [(2, .int .i64 0), (3, .int .i64 (0 + ((cntP isOp0 cs : Nat) : Int))), (4, .int .i64 (0 + ((cntP (fun i => i.op == 9) cs : Nat) : Int))), (7, .sl 0 1 1), (8, .int .i64 ((1 : Nat) : Int)), (9, .int .i64 1)] [some (.blk [.sl 1 cs.length c]), some (.lst 17 cs.length (fun zz => insS (cs.getD zz In.z)))] (True) (A.cut [2, 3, 4, 7, 8, 9] rfl) (fun {G a w} A => N hX 6 A rfl rfl fun A => forkD 10 A rfl
   (fun h1 A => N hX 8 A rfl (ok_d (by have := cntP_le isOp0 cs; have := cntP_le (fun i => i.op == 9) cs; omega) <| okE_nil) fun A => have A := sy_sayD A 11 (.ptr 0 0) rfl (ix_ptr 0 rfl); N hX 8 A rfl rfl fun A => CALL1 [1] (Ops_ cs c (by omega)) A rfl rfl rfl rfl rfl rfl rfl fun A => N hX 4 A rfl (ok_d (by have := cntP_le isOp0 cs; have := cntP_le (fun i => i.op == 9) cs; omega) <| okE_nil) fun A => N hX 3 A rfl rfl fun A => CALL1 [1] (Branches_ cs c (by omega)) A rfl rfl rfl rfl rfl rfl rfl fun A => N hX 5 A rfl (ok_d (by have := cntP_le isOp0 cs; have := cntP_le (fun i => i.op == 9) cs; omega) <| okE_nil) fun A => N hX 4 A rfl (ok_d (by have := cntP_le isOp0 cs; have := cntP_le (fun i => i.op == 9) cs; omega) <| okE_nil) fun A => ⟨_, trivial, ((A.cut [2, 3, 4, 7, 8, 9] rfl).trunc 2 rfl rfl rfl (by simp only [List.length_cons, List.length_nil] at h0; omega)).sayT rfl⟩)
   (fun h1 A => absurd (by decide) h1)) (fun hU {G a w} A => N hX 6 A rfl rfl fun A => forkD 10 A rfl
   (fun h2 A => absurd h2 (by decide))
   (fun h2 A => N hX 10 A rfl rfl fun A => forkD 23 A rfl
    (fun h3 A => N hX 7 A rfl rfl fun A => RETN hX A rfl rfl rfl h0 rfl rfl rfl rfl (by unfold cntE; rw [if_pos h3]; rfl) rfl)
    (fun h3 A => N hX 10 A rfl rfl fun A => forkD 25 A rfl
     (fun h4 A => N hX 7 A rfl rfl fun A => RETN hX A rfl rfl rfl h0 rfl rfl rfl rfl (by unfold cntE; rw [if_neg h3, if_pos h4]; rfl) rfl)
     (fun h4 A => N hX 9 A rfl rfl fun A => RETN hX A rfl rfl rfl h0 rfl rfl rfl rfl (by unfold cntE; rw [if_neg h3, if_neg h4]; rfl) rfl))))
/-- the first instruction that is not right -/
def badK (cs : List In) : Option Nat := (List.range cs.length).find? fun k => !(Right0 (cs.getD k In.z) (k : Int) ((cs.length : Nat) : Int) == 0)
def chkA (cs : List In) : Int := if ((cs.length : Nat) : Int) > 8 then 0 else match badK cs with
  | some k => (k : Int)
  | none => 0
def chkE (cs : List In) : Int := if ((cs.length : Nat) : Int) > 8 then 31 else match badK cs with
  | some k => Right0 (cs.getD k In.z) (k : Int) ((cs.length : Nat) : Int)
  | none => cntE cs
structure RI (cs : List In) (k : Nat) : Prop where
  le : k ≤ cs.length
  ok : ∀ j, j < k → Right0 (cs.getD j In.z) (j : Int) ((cs.length : Nat) : Int) = 0
section
variable {cs : List In} {k : Nat}
theorem RI.i0 : RI cs 0 := ⟨Nat.zero_le _, fun j hj => by omega⟩
theorem RI.nx (hI : RI cs k) (h1 : (k : Int) < ((cs.length : Nat) : Int)) (h : Right0 (cs.getD ((k : Int)).toNat In.z) (k : Int) ((cs.length : Nat) : Int) = 0) : RI cs (k + 1) := ⟨by omega, fun j hj => by
  by_cases e : j = k
  · subst e; simpa using h
  · exact hI.ok j (by omega)⟩
theorem RI.bad (hI : RI cs k) (h1 : (k : Int) < ((cs.length : Nat) : Int)) (h : Right0 (cs.getD ((k : Int)).toNat In.z) (k : Int) ((cs.length : Nat) : Int) ≠ 0) : badK cs = some k := by
  unfold badK
  rw [List.find?_range_eq_some]
  refine ⟨by simpa using h, by simp; omega, fun j hj => by simpa using hI.ok j hj⟩
theorem RI.good (hI : RI cs k) (h1 : ¬ (k : Int) < ((cs.length : Nat) : Int)) : badK cs = none := by
  unfold badK
  rw [List.find?_eq_none]
  intro j hj
  simp only [List.mem_range] at hj
  simpa using hI.ok j (by omega)
end
theorem Check_ (cs : List In) (c : Nat)  : Fn Try.prog 29 [.sl 0 1 1] [some (.blk [.sl 1 cs.length c]), some (.lst 17 cs.length (fun zz => insS (cs.getD zz In.z)))] (Rt (.tup [.int .i64 0, .int .i64 (chkA cs), .int .i64 (chkE cs)]) [some (.blk [.sl 1 cs.length c]), some (.lst 17 cs.length (fun zz => insS (cs.getD zz In.z)))]) :=
 enterM (n := 60) (by kernel_rfl) Try.func29 rfl rfl rfl fun G w a h0 A => N hX 20 A rfl rfl fun A => fork 19 A rfl
  (fun h1 A => N hX 9 A rfl rfl fun A => RETN hX A rfl rfl rfl h0 rfl rfl rfl rfl (absurd h1 (by decide)) (absurd h1 (by decide)))
  (fun h1 A => N hX 12 A rfl rfl fun A => LOOPU [(0, .sl 0 1 1), (2, .int .i64 0), (3, .int .i64 0), (4, .int .i64 0), (20, .sl 0 1 1), (21, .int .i64 ((1 : Nat) : Int)), (22, .int .i64 1)] [some (.blk [.sl 1 cs.length c]), some (.lst 17 cs.length (fun zz => insS (cs.getD zz In.z)))] (¬ ((cs.length : Nat) : Int) > 8) (A.cut [0, 2, 3, 4, 20, 21, 22] rfl) (fun {G a w} A => N hX 6 A rfl rfl fun A => forkD 23 A rfl
    (fun h2 A => N hX 9 A rfl (ok_d (by omega) <| okE_nil) fun A => have A := sy_sayD A 25 (.ptr 0 0) rfl (ix_ptr 0 rfl); N hX 12 A rfl rfl fun A => forkD 29 A rfl
     (fun h3 A => N hX 10 A rfl rfl fun A => RETN hX A rfl rfl rfl h0 rfl rfl rfl rfl (by unfold chkA chkE; rw [if_pos h3, if_pos h3]; rfl) rfl)
     (fun h3 A => N hX 8 A rfl (ok_d (by omega) <| okE_nil) fun A => ⟨_, h3, ((A.cut [0, 2, 3, 4, 20, 21, 22] rfl).trunc 2 rfl rfl rfl (by simp only [List.length_cons, List.length_nil] at h0; omega)).sayT rfl⟩))
    (fun h2 A => absurd (by decide) h2)) (fun hL {G a w} A => N hX 6 A rfl rfl fun A => forkD 23 A rfl
    (fun h4 A => absurd h4 (by decide))
    (fun h4 A => N hX 12 A rfl rfl fun A => LOOPU [(0, .sl 0 1 1), (2, .int .i64 0), (3, .int .i64 0), (4, .int .i64 0), (32, .sl 0 1 1), (33, .int .i64 ((1 : Nat) : Int)), (34, .int .i64 1)] [some (.blk [.sl 1 cs.length c]), some (.lst 17 cs.length (fun zz => insS (cs.getD zz In.z)))] (badK cs = none) (A.cut [0, 2, 3, 4, 32, 33, 34] rfl) (fun {G a w} A => N hX 6 A rfl rfl fun A => forkD 35 A rfl
      (fun h5 A => N hX 9 A rfl (ok_d (by omega) <| okE_nil) fun A => have A := sy_sayD A 37 (.ptr 0 0) rfl (ix_ptr 0 rfl); N hX 13 A rfl rfl fun A => LOOP1 (fun (k : Nat) => [(0, .sl 0 1 1), (2, .int .i64 0), (3, .int .i64 0), (4, .int .i64 0), (7, .int .i64 0), (8, .sl 1 cs.length c), (32, .sl 0 1 1), (33, .int .i64 ((1 : Nat) : Int)), (34, .int .i64 0), (39, .sl 1 cs.length c), (40, .int .i64 ((cs.length : Nat) : Int)), (41, .int .i64 (k : Int))]) (fun (k : Nat) => [some (.blk [.sl 1 cs.length c]), some (.lst 17 cs.length (fun zz => insS (cs.getD zz In.z)))]) (fun (k : Nat) => RI cs k) (fun (k : Nat) => cs.length - k) 0 RI.i0 ((A.cut [0, 2, 3, 4, 7, 8, 32, 33, 34, 39, 40, 41] rfl).trunc 2 rfl rfl rfl (by simp only [List.length_cons, List.length_nil] at h0; omega)) fun k hI {G a w} A => N hX 6 A rfl rfl fun A => forkD 42 A rfl
        (fun h6 A => N hX 16 A rfl (ok_d (by have := hI.le; omega) <| ok_d (by have := hI.le; omega) <| okE_nil) fun A => N hX 5 A rfl rfl fun A => CALL1 [] (Right_ (cs.getD (((k : Int)).toNat) In.z) (k : Int) ((cs.length : Nat) : Int)) A rfl rfl rfl rfl rfl rfl rfl fun A => N hX 9 A rfl rfl fun A => forkN 52 A rfl
         (fun h7 A => N hX 12 A rfl rfl fun A => RETN hX A rfl rfl rfl h0 rfl rfl rfl rfl (by unfold chkA chkE; rw [if_neg hL, if_neg hL, hI.bad h6 h7]; simp [oneS, nb, nbL]) rfl)
         (fun h7 A => N hX 8 A rfl (ok_d (by have := hI.le; omega) <| okE_nil) fun A => ⟨k + 1, _, (by omega), (hI.nx h6 h7), ((A.cut [0, 2, 3, 4, 7, 8, 32, 33, 34, 39, 40, 41] rfl).trunc 2 rfl rfl rfl (by simp only [List.length_cons, List.length_nil] at h0; omega))⟩))
        (fun h6 A => N hX 8 A rfl (ok_d (by have := hI.le; omega) <| okE_nil) fun A => ⟨_, (hI.good h6), ((A.cut [0, 2, 3, 4, 32, 33, 34] rfl).trunc 2 rfl rfl rfl (by simp only [List.length_cons, List.length_nil] at h0; omega)).sayT rfl⟩))
      (fun h5 A => absurd (by decide) h5)) (fun hG {G a w} A => N hX 6 A rfl rfl fun A => forkD 35 A rfl
      (fun h8 A => absurd h8 (by decide))
      (fun h8 A => N hX 6 A rfl rfl fun A => CALL1 [0, 1] (checkCounts_ cs c (by omega)) A rfl rfl rfl rfl rfl rfl rfl fun A => N hX 6 A rfl rfl fun A => RETN hX A rfl rfl rfl h0 rfl rfl rfl rfl (by unfold chkA chkE; rw [if_neg hL, if_neg hL, hG]; rfl) rfl)))))
end Go.Proofs.Ytmieaninmidelaa
/- Sixty-four bits as numbers, in the words in which a walk yields them. -/
namespace Go.Proofs.Ytmieaninmidelaa
open Go.RowKit
set_option linter.unusedVariables false
abbrev BV := BitVec 64
def vB (b : BV) : Int := b.toInt
theorem wrap_vB (b : BV) : IntKind.wrap .i64 ((b.toNat : Nat) : Int) = vB b := by
  unfold vB
  rw [IntKind.wrap_i64, BitVec.toInt_eq_toNat_bmod, Int.bmod_def]
  have := b.isLt
  simp only [Nat.reducePow] at *
  omega
theorem ofInt_vB (b : BV) : BitVec.ofInt (IntKind.bits .i64) (vB b) = b := BitVec.ofInt_toInt
theorem vB_or (x y : BV) : IntKind.wrap .i64 ((((BitVec.ofInt (IntKind.bits .i64) (vB x)) ||| (BitVec.ofInt (IntKind.bits .i64) (vB y))).toNat : Nat) : Int) = vB (x ||| y) := by
  rw [ofInt_vB, ofInt_vB]; exact wrap_vB _
theorem vB_and (x y : BV) : IntKind.wrap .i64 ((((BitVec.ofInt (IntKind.bits .i64) (vB x)) &&& (BitVec.ofInt (IntKind.bits .i64) (vB y))).toNat : Nat) : Int) = vB (x &&& y) := by
  rw [ofInt_vB, ofInt_vB]; exact wrap_vB _
theorem vB_xor (x y : BV) : IntKind.wrap .i64 ((((BitVec.ofInt (IntKind.bits .i64) (vB x)) ^^^ (BitVec.ofInt (IntKind.bits .i64) (vB y))).toNat : Nat) : Int) = vB (x ^^^ y) := by
  rw [ofInt_vB, ofInt_vB]; exact wrap_vB _
theorem vB_andNot (x y : BV) : IntKind.wrap .i64 ((((BitVec.ofInt (IntKind.bits .i64) (vB x)) &&& ~~~ (BitVec.ofInt (IntKind.bits .i64) (vB y))).toNat : Nat) : Int) = vB (x &&& ~~~y) := by
  rw [ofInt_vB, ofInt_vB]; exact wrap_vB _
theorem vB_range (b : BV) : -9223372036854775808 ≤ vB b ∧ vB b ≤ 9223372036854775807 := by
  unfold vB
  have h1 := BitVec.le_toInt b
  have h2 := BitVec.toInt_lt (x := b)
  simp at h1 h2
  omega
theorem vB_ofInt {x : Int} (h : -9223372036854775808 ≤ x ∧ x ≤ 9223372036854775807) : vB (BitVec.ofInt 64 x) = x := by
  unfold vB
  rw [BitVec.toInt_ofInt, Int.bmod_def]
  simp only [Nat.reducePow]
  omega
theorem vB_inj {a b : BV} (h : vB a = vB b) : a = b := by rw [← BitVec.ofInt_toInt (x := a), ← BitVec.ofInt_toInt (x := b)]; exact congrArg _ h
/-- one bit -/
abbrev bit (k : Nat) : BV := 1#64 <<< k
theorem vB_bit {r : Int} (h : r < 64) : IntKind.wrap .i64 (1 * 2 ^ min r.toNat (IntKind.bits .i64)) = vB (bit r.toNat) := by
  have hr : min r.toNat (IntKind.bits .i64) = r.toNat := by show min r.toNat 64 = _; omega
  rw [hr, IntKind.wrap_i64]
  have e : ((1 : Int) * 2 ^ r.toNat) = (((1#64 : BV).toInt) * 2 ^ r.toNat) := by rw [show (1#64 : BV).toInt = 1 by decide]
  have h2 : BitVec.ofInt 64 ((1 : Int) * 2 ^ r.toNat) = bit r.toNat := by
    unfold bit
    rw [BitVec.ofInt_mul, BitVec.shiftLeft_eq_mul_twoPow]
    congr 1
    exact BitVec.eq_of_toNat_eq (by
      rw [show ((2 : Int) ^ r.toNat) = ((2 ^ r.toNat : Nat) : Int) by push_cast; rfl, BitVec.ofInt_natCast]
      simp)
  rw [← h2]
  unfold vB
  rw [BitVec.toInt_ofInt, Int.bmod_def]
  simp only [Nat.reducePow]
  omega
theorem vB_shr (m : BV) (k : Nat) (hk : k < 64) : Int.fdiv (vB m) (2 ^ min k (IntKind.bits .i64)) = vB (m.sshiftRight k) := by
  have hr : min k (IntKind.bits .i64) = k := by show min k 64 = _; omega
  rw [hr]
  unfold vB
  rw [BitVec.toInt_sshiftRight, Int.shiftRight_eq_div_pow, Int.fdiv_eq_ediv_of_nonneg _ (by exact Int.le_of_lt (Int.pow_pos (by decide)))]
  push_cast; rfl
/-- is a bit set? -/
theorem vB_test (m : BV) {r : Int} (h : r < 64) : IntKind.wrap .i64 ((((BitVec.ofInt (IntKind.bits .i64) (Int.fdiv (vB m) (2 ^ min r.toNat (IntKind.bits .i64)))) &&& (BitVec.ofInt (IntKind.bits .i64) 1)).toNat : Nat) : Int) = if m.getLsbD r.toNat = true then 1 else 0 := by
  have hk : r.toNat < 64 := by omega
  rw [vB_shr m _ hk, ofInt_vB]
  show IntKind.wrap .i64 (((m.sshiftRight r.toNat &&& 1#64).toNat : Nat) : Int) = _
  generalize r.toNat = k at hk ⊢
  have h : m.sshiftRight k &&& 1#64 = BitVec.ofNat 64 (m.getLsbD k).toNat := by
    ext i hi
    rw [BitVec.getElem_and, BitVec.getElem_sshiftRight]
    cases i with
    | zero =>
      have e : m.getLsbD k = m[k] := by simp [hk]
      rw [e]; simp [hk]; cases m[k] <;> simp
    | succ i =>
      cases m.getLsbD k
      · simp
      · simp
  rw [h]
  cases m.getLsbD k <;> decide
end Go.Proofs.Ytmieaninmidelaa
/- Paths read. -/
namespace Go.Proofs.Ytmieaninmidelaa
open Go.RowKit
set_option linter.unusedVariables false
set_option linter.unusedSimpArgs false
set_option maxRecDepth 100000
set_option maxHeartbeats 2000000
set_option simprocs false
def insA (cs : List In) (ps : List Int) (p : Int) : In := if ((((decide (p < 0)) || (decide (p ≥ ((ps.length : Nat) : Int)))) || (decide ((ps.getD ((p).toNat) 0) < 0))) || (decide ((ps.getD ((p).toNat) 0) ≥ ((cs.length : Nat) : Int)))) = true then In.z else cs.getD ((ps.getD p.toNat 0)).toNat In.z
theorem insAt_ (cs : List In) (c : Nat) (ps : List Int) (d : Nat) (p : Int)  : Fn Try.prog 35 [.sl 0 cs.length c, .sl 1 ps.length d, .int .i64 p] [some (.lst 17 cs.length (fun zz => insS (cs.getD zz In.z))), some (.lst 1 ps.length (fun j => [.int .i64 (ps.getD j 0)]))] (Rt (.agg [.int .i64 ((insA cs ps p).op), .int .i64 ((insA cs ps p).dst), .int .i64 ((insA cs ps p).ra), .int .i64 ((insA cs ps p).rb), .int .i64 ((insA cs ps p).imm), .int .i64 ((insA cs ps p).loc), .int .i64 ((insA cs ps p).off), .int .i64 ((insA cs ps p).ix), .int .i64 ((insA cs ps p).sz), .int .i64 ((insA cs ps p).fn), .bool ((insA cs ps p).acq), .bool ((insA cs ps p).weak), .bool ((insA cs ps p).rel), .int .i64 ((insA cs ps p).pred), .int .i64 ((insA cs ps p).succ), .int .i64 ((insA cs ps p).to_), .bool ((insA cs ps p).zero)]) [some (.lst 17 cs.length (fun zz => insS (cs.getD zz In.z))), some (.lst 1 ps.length (fun j => [.int .i64 (ps.getD j 0)]))]) :=
 enterM (n := 39) (by kernel_rfl) Try.func35 rfl rfl rfl fun G w a h0 A => N hX 34 A rfl (ok_r <| ok_r <| ok_r <| ok_r <| ok_r <| ok_r <| ok_g (fun hg => (by (try simp at hg); first | omega | (simp; omega))) <| ok_r <| ok_g (fun hg => (by (try simp at hg); first | omega | (simp; omega))) <| ok_r <| ok_r <| ok_r <| ok_r <| ok_g (fun hg => (by (try simp at hg); first | omega | (simp; omega))) <| ok_r <| ok_g (fun hg => (by (try simp at hg); first | omega | (simp; omega))) <| ok_r <| ok_r <| ok_r <| ok_r <| okE_nil) fun A => fork 30 A rfl
  (fun h1 A => N hX 8 A rfl rfl fun A => RETN hX A rfl rfl rfl h0 rfl rfl rfl rfl (by unfold insA; rw [if_pos h1]; rfl) rfl)
  (fun h1 A => N hX 16 A rfl (ok_d (by (try simp at h1); first | omega | (simp; omega)) <| ok_d (by (try simp at h1); first | omega | (simp; omega)) <| ok_d (by (try simp at h1); first | omega | (simp; omega)) <| ok_d (by (try simp at h1); first | omega | (simp; omega)) <| okE_nil) fun A => RETN hX A rfl rfl rfl h0 rfl rfl rfl rfl (by unfold insA; rw [if_neg (by rw [h1]; simp)]; rfl) rfl)
def cutN (ps : List Int) (at_ : Int) : Nat := (max 0 (min at_ ((ps.length : Nat) : Int))).toNat
theorem cutN_le (ps : List Int) (at_ : Int) : cutN ps at_ ≤ ps.length := by unfold cutN; omega
theorem cut_ (ps : List Int) (d : Nat) (at_ : Int)  : Fn Try.prog 33 [.sl 0 ps.length d, .int .i64 at_] [some (.lst 1 ps.length (fun j => [.int .i64 (ps.getD j 0)]))] (Rt (.int .i64 ((cutN ps at_ : Nat) : Int)) [some (.lst 1 ps.length (fun j => [.int .i64 (ps.getD j 0)]))]) :=
 enterM (n := 10) (by kernel_rfl) Try.func33 rfl rfl rfl fun G w a h0 A => N hX 10 A rfl rfl fun A => MINI A rfl rfl rfl rfl rfl fun A => MAXI A rfl rfl rfl rfl rfl fun A => N hX 4 A rfl rfl fun A => RETN hX A rfl rfl rfl h0 rfl rfl rfl rfl (congrArg (SV.int IntKind.i64) (by unfold cutN; omega)) rfl
def defN (cs : List In) (ps : List Int) (r : Int) : Nat → Int
  | 0 => -1
  | m + 1 => if plain0 (insA cs ps (m : Int)) = r then (m : Int) else defN cs ps r m
def defA (cs : List In) (ps : List Int) (at_ r : Int) : Int := if (!((decide (r ≥ 0)) && (decide (r < 8)))) = true then -1 else defN cs ps r (cutN ps at_)
structure DfI (cs : List In) (ps : List Int) (r : Int) (m0 m : Nat) : Prop where
  le : m ≤ m0
  eq : defN cs ps r m = defN cs ps r m0
section
variable {cs : List In} {ps : List Int} {r : Int} {m0 m : Nat}
theorem DfI.i0 : DfI cs ps r m0 m0 := ⟨Nat.le_refl _, rfl⟩
theorem DfI.at (h1 : (m : Int) - 1 ≥ 0) : defN cs ps r m = if plain0 (insA cs ps ((m : Int) - 1)) = r then (m : Int) - 1 else defN cs ps r (m - 1) := by
  cases m with
  | zero => omega
  | succ m => have e : (((m + 1 : Nat) : Int) - 1) = (m : Int) := by omega
              rw [e]; rfl
theorem DfI.nx (hI : DfI cs ps r m0 m) (h1 : (m : Int) - 1 ≥ 0) (h : plain0 (insA cs ps ((m : Int) - 1)) ≠ r) : DfI cs ps r m0 (m - 1) := ⟨by have := hI.le; omega, by rw [← hI.eq, DfI.at h1, if_neg h]⟩
theorem DfI.y (hI : DfI cs ps r m0 m) (h1 : (m : Int) - 1 ≥ 0) (h : plain0 (insA cs ps ((m : Int) - 1)) = r) : defN cs ps r m0 = (m : Int) - 1 := by rw [← hI.eq, DfI.at h1, if_pos h]
theorem DfI.n (hI : DfI cs ps r m0 m) (h1 : ¬ (m : Int) - 1 ≥ 0) : defN cs ps r m0 = -1 := by
  have : m = 0 := by omega
  subst this
  rw [← hI.eq]; rfl
end
theorem Def_ (cs : List In) (c : Nat) (ps : List Int) (d : Nat) (at_ : Int) (r : Int) (hn : ps.length ≤ 1000000) : Fn Try.prog 17 [.sl 0 cs.length c, .sl 1 ps.length d, .int .i64 at_, .int .i64 r] [some (.lst 17 cs.length (fun zz => insS (cs.getD zz In.z))), some (.lst 1 ps.length (fun j => [.int .i64 (ps.getD j 0)]))] (Rt (.int .i64 (defA cs ps at_ r)) [some (.lst 17 cs.length (fun zz => insS (cs.getD zz In.z))), some (.lst 1 ps.length (fun j => [.int .i64 (ps.getD j 0)]))]) :=
 enterM (n := 29) (by kernel_rfl) Try.func17 rfl rfl rfl fun G w a h0 A => N hX 9 A rfl rfl fun A => CALL1 [] (fisReg_ r) A rfl rfl rfl rfl rfl rfl rfl fun A => N hX 3 A rfl rfl fun A => fork 12 A rfl
  (fun h1 A => N hX 7 A rfl rfl fun A => RETN hX A rfl rfl rfl h0 rfl rfl rfl rfl (by unfold defA; rw [if_pos h1]; rfl) rfl)
  (fun h1 A => N hX 8 A rfl rfl fun A => CALL1 [1] (cut_ ps d at_) A rfl rfl rfl rfl rfl rfl rfl fun A => N hX 5 A rfl (ok_d (by have := cutN_le ps at_; omega) <| okE_nil) fun A => LOOP1 (fun (m : Nat) => [(0, .sl 0 cs.length c), (1, .sl 1 ps.length d), (3, .int .i64 r), (8, .int .i64 0), (9, .int .i64 ((m : Int) - 1))]) (fun (m : Nat) => [some (.lst 17 cs.length (fun zz => insS (cs.getD zz In.z))), some (.lst 1 ps.length (fun j => [.int .i64 (ps.getD j 0)]))]) (fun (m : Nat) => DfI cs ps r (cutN ps at_) m) (fun (m : Nat) => m) (cutN ps at_) DfI.i0 ((A.cut [0, 1, 3, 8, 9] rfl).trunc 2 rfl rfl rfl (by simp only [List.length_cons, List.length_nil] at h0; omega)) fun m hI {G a w} A => N hX 7 A rfl rfl fun A => forkD 18 A rfl
    (fun h2 A => N hX 10 A rfl rfl fun A => CALL1 [0, 1] (insAt_ cs c ps d ((m : Int) - 1)) A rfl rfl rfl rfl rfl rfl rfl fun A => CALL1 [] (Gives_ (insA cs ps ((m : Int) - 1)) ) A rfl rfl rfl rfl rfl rfl rfl fun A => N hX 4 A rfl rfl fun A => forkE 27 A rfl
     (fun h3 A => N hX 8 A rfl rfl fun A => RETN hX A rfl rfl rfl h0 rfl rfl rfl rfl (by unfold defA; rw [if_neg (by rw [h1]; simp), hI.y h2 h3]; rfl) rfl)
     (fun h3 A => N hX 9 A rfl (ok_d (by have := hI.le; have := cutN_le ps at_; omega) <| okE_nil) fun A => ⟨m - 1, _, (by omega), (hI.nx h2 h3), ((A.cut [0, 1, 3, 8, 9] rfl).trunc 2 rfl rfl rfl (by simp only [List.length_cons, List.length_nil] at h0; omega)).sayT (by rw [show ((m - 1 : Nat) : Int) = (m : Int) - 1 by omega])⟩))
    (fun h2 A => N hX 9 A rfl rfl fun A => RETN hX A rfl rfl rfl h0 rfl rfl rfl rfl (by unfold defA; rw [if_neg (by rw [h1]; simp), hI.n h2]; rfl) rfl))
def regQ (r : Int) : Bool := (decide (r ≥ 0)) && (decide (r < 8))
def askB (a : BV) (r : Int) : BV := if regQ r = true then a ||| bit r.toNat else a
theorem regQ_lt {r : Int} (h : ((decide (r ≥ 0)) && (decide (r < 8))) = true) : 0 ≤ r ∧ r < 8 := by simp at h; omega
theorem ask_ (x : BV) (y : BV) (r : Int)  : Fn Try.prog 47 [.ptr 0 0, .int .i64 r] [some (.blk [.int .i64 (vB x), .int .i64 (vB y)])] (Rt (.tup []) [some (.blk [.int .i64 (vB (askB x r)), .int .i64 (vB y)])]) :=
 enterM (n := 15) (by kernel_rfl) Try.func47 rfl rfl rfl fun G w a h0 A => N hX 3 A rfl rfl fun A => CALL1 [] (fisReg_ r) A rfl rfl rfl rfl rfl rfl rfl fun A => N hX 2 A rfl rfl fun A => fork 5 A rfl
  (fun h1 A => N hX 1 A rfl rfl fun A => DRAWN hX hmo [] [] A rfl (ok_d (by have := regQ_lt h1; omega) <| okE_nil) rfl rfl (by kernel_rfl) (effAll_nil _ _) trivial fun A => ENDN (RETN hX A rfl rfl rfl h0 rfl rfl rfl rfl rfl (by unfold askB; rw [if_pos (show regQ r = true from h1), vB_bit (by have := regQ_lt h1; omega), vB_or]; rfl)))
  (fun h1 A => N hX 2 A rfl rfl fun A => ENDN (RETN hX A rfl rfl rfl h0 rfl rfl rfl rfl rfl (by unfold askB; rw [if_neg (show ¬ regQ r = true by unfold regQ; rw [h1]; simp)]; rfl)))
def usesL (i : In) : List Int := [plain1 i, plain2 i, plain6 i].filter fun r => !(r == -1)
structure UsI (i : In) (l : List Int) (k : Nat) : Prop where
  le : k ≤ 3
  ll : l.length ≤ k
  eq : l ++ ([plain1 i, plain2 i, plain6 i].drop k).filter (fun r => !(r == -1)) = usesL i
section
variable {i : In} {l : List Int} {k : Nat}
theorem UsI.i0 : UsI i [] 0 := ⟨by omega, Nat.le_refl _, rfl⟩
theorem UsI.at (h1 : (k : Int) < 3) : [plain1 i, plain2 i, plain6 i].drop k = [plain1 i, plain2 i, plain6 i].getD ((k : Int)).toNat 0 :: [plain1 i, plain2 i, plain6 i].drop (k + 1) := by
  have : k = 0 ∨ k = 1 ∨ k = 2 := by omega
  rcases this with rfl | rfl | rfl <;> rfl
theorem UsI.y (hI : UsI i l k) (h1 : (k : Int) < 3) (h : [plain1 i, plain2 i, plain6 i].getD ((k : Int)).toNat 0 ≠ -1) : UsI i (l ++ [[plain1 i, plain2 i, plain6 i].getD ((k : Int)).toNat 0]) (k + 1) := ⟨by omega, by have := hI.ll; simp; omega, by
  rw [← hI.eq, UsI.at h1, List.filter_cons, if_pos (by simpa using h), List.append_assoc]; rfl⟩
theorem UsI.n (hI : UsI i l k) (h1 : (k : Int) < 3) (h : [plain1 i, plain2 i, plain6 i].getD ((k : Int)).toNat 0 = -1) : UsI i l (k + 1) := ⟨by omega, by have := hI.ll; omega, by
  rw [← hI.eq, UsI.at h1, List.filter_cons, if_neg (by rw [h]; simp)]⟩
theorem UsI.fi (hI : UsI i l k) (h1 : ¬ (k : Int) < 3) : l = usesL i := by
  have := hI.le
  have : k = 3 := by omega
  subst this
  have := hI.eq
  simpa using this
end
theorem Uses_ (i : In)  : Fn Try.prog 58 [.agg [.int .i64 i.op, .int .i64 i.dst, .int .i64 i.ra, .int .i64 i.rb, .int .i64 i.imm, .int .i64 i.loc, .int .i64 i.off, .int .i64 i.ix, .int .i64 i.sz, .int .i64 i.fn, .bool i.acq, .bool i.weak, .bool i.rel, .int .i64 i.pred, .int .i64 i.succ, .int .i64 i.to_, .bool i.zero]] [] (Rt (.sl 0 ((usesL i).length) 0) [some (.row 3 1 ((usesL i).length) 0 (fun j => [.int .i64 ((usesL i).getD j 0)]))]) :=
 enterM (n := 27) (by kernel_rfl) Try.func58 rfl rfl rfl fun G w a h0 A => N hX 9 A rfl rfl fun A => CALL1 [] (plain_ i ) A rfl rfl rfl rfl rfl rfl rfl fun A => N hX 23 A rfl rfl fun A => have A := A.nilRow 4 3 1 (fun j => [.int .i64 (([] : List Int).getD j 0)]) rfl (fun z => ⟨_, rfl, rfl⟩); LOOP2 (fun (l : List Int) (k : Nat) => [(2, .sla none 0 0), (4, .sl 2 l.length 0), (15, .agg [.int .i64 (plain1 i), .int .i64 (plain2 i), .int .i64 (plain6 i)]), (16, .int .i64 (k : Int))]) (fun (l : List Int) (k : Nat) => [some (.blk [.int .i64 i.op, .int .i64 i.dst, .int .i64 i.ra, .int .i64 i.rb, .int .i64 i.imm, .int .i64 i.loc, .int .i64 i.off, .int .i64 i.ix, .int .i64 i.sz, .int .i64 i.fn, .bool i.acq, .bool i.weak, .bool i.rel, .int .i64 i.pred, .int .i64 i.succ, .int .i64 i.to_, .bool i.zero]), some (.blk [.int .i64 i.op, .int .i64 (plain0 i), .int .i64 (plain1 i), .int .i64 (plain2 i), .int .i64 (plain3 i), .int .i64 (plain4 i), .int .i64 (plain5 i), .int .i64 (plain6 i), .int .i64 (plain7 i), .int .i64 (plain8 i), .bool (plain9 i), .bool (plain10 i), .bool (plain11 i), .int .i64 (plain12 i), .int .i64 (plain13 i), .int .i64 (plain14 i), .bool (plain15 i)]), some (.row 3 1 l.length 0 (fun j => [.int .i64 (l.getD j 0)]))]) (fun (l : List Int) (k : Nat) => UsI i l k) (fun (l : List Int) (k : Nat) => 3 - k) [] 0 UsI.i0 ((A.cut [2, 4, 15, 16] rfl).trunc 3 rfl rfl rfl (by simp only [List.length_cons, List.length_nil] at h0; omega)) fun l k hI {G a w} A => N hX 6 A rfl rfl fun A => forkD 17 A rfl
   (fun h1 A => N hX 12 A rfl (ok_d (by have := hI.le; have := hI.ll; omega) <| okE_nil) fun A => N hX 5 A rfl rfl fun A => forkN 20 A rfl
    (fun h2 A => N hX 5 A rfl rfl fun A => APP1 hX (l.length + 1) (fun j => [.int .i64 ((l ++ [[plain1 i, plain2 i, plain6 i].getD ((k : Int)).toNat 0]).getD j 0)]) A rfl rfl rfl rfl (by have := hI.le; have := hI.ll; omega) rfl (fun k hk => by show [SV.int .i64 _] = [SV.int .i64 _]; rw [getD_app_l hk]) (by show [SV.int .i64 _] = _; rw [getD_app_1]) (fun z => ⟨_, rfl, rfl⟩) fun A => have A := (A.rowAs 4 ((l ++ [[plain1 i, plain2 i, plain6 i].getD ((k : Int)).toNat 0]).length) (fun j => [.int .i64 ((l ++ [[plain1 i, plain2 i, plain6 i].getD ((k : Int)).toNat 0]).getD j 0)]) rfl (by rw [List.length_append]; rfl) (fun q hq => rfl) (fun z => ⟨_, rfl, rfl⟩)).say 24 (.sl 4 ((l ++ [[plain1 i, plain2 i, plain6 i].getD ((k : Int)).toNat 0]).length) 0) rfl (by rw [List.length_append] <;> rfl); N hX 8 A rfl (ok_d (by have := hI.le; have := hI.ll; omega) <| okE_nil) fun A => ⟨l ++ [[plain1 i, plain2 i, plain6 i].getD ((k : Int)).toNat 0], k + 1, _, (by omega), (hI.y h1 h2), ((A.cut [2, 4, 15, 16] rfl).mv 0 [0, 1, 4] rfl rfl rfl rfl (by simp only [List.length_cons, List.length_nil] at h0; omega))⟩)
    (fun h2 A => N hX 8 A rfl (ok_d (by have := hI.le; have := hI.ll; omega) <| okE_nil) fun A => ⟨l, k + 1, _, (by omega), (hI.n h1 h2), ((A.cut [2, 4, 15, 16] rfl).trunc 3 rfl rfl rfl (by simp only [List.length_cons, List.length_nil] at h0; omega))⟩))
   (fun h1 A => N hX 10 A rfl rfl fun A => RET hX [2] A ⟨congrArg (fun z : List Int => SV.sl 0 z.length 0) (hI.fi h1), congrArg (fun z : List Int => [some (Ent.row 3 1 z.length 0 fun j => [SV.int .i64 (z.getD j 0)])]) (hI.fi h1)⟩ rfl rfl rfl rfl rfl rfl rfl rfl h0)
end Go.Proofs.Ytmieaninmidelaa
/- What hangs on what. -/
namespace Go.Proofs.Ytmieaninmidelaa
open Go.RowKit
set_option linter.unusedVariables false
set_option linter.unusedSimpArgs false
set_option maxRecDepth 100000
set_option maxHeartbeats 2000000
set_option simprocs false
def passC (x : BV) (i : In) : Bool := (!((decide ((plain0 i) ≥ 0)) && (decide ((plain0 i) < 8)))) || ((IntKind.wrap .i64 ((((BitVec.ofInt (IntKind.bits .i64) (Int.fdiv (vB x) (2 ^ min ((plain0 i)).toNat (IntKind.bits .i64)))) &&& (BitVec.ofInt (IntKind.bits .i64) 1)).toNat : Nat) : Int)) == 0)
theorem usesL_le (i : In) : (usesL i).length ≤ 3 := List.length_filter_le _ _
theorem passC_eq (x : BV) (i : In) : passC x i = !(regQ (plain0 i) && x.getLsbD (plain0 i).toNat) := by
  unfold passC regQ
  by_cases h : 0 ≤ (plain0 i) ∧ (plain0 i) < 8
  · rw [vB_test x (by omega)]
    have e1 : decide ((plain0 i) ≥ 0) = true := by simp; omega
    have e2 : decide ((plain0 i) < 8) = true := by simp; omega
    rw [e1, e2]
    cases x.getLsbD (plain0 i).toNat <;> rfl
  · have e : ((decide ((plain0 i) ≥ 0)) && (decide ((plain0 i) < 8))) = false := by simp; omega
    rw [e]; rfl
theorem passC_lt {x : BV} {i : In} (h : passC x i = false) : 0 ≤ (plain0 i) ∧ (plain0 i) < 64 := by
  rw [passC_eq] at h
  simp [regQ] at h
  omega
def passB (x y : BV) (p : Int) (i : In) : BV × BV :=
  if passC x i = true then (x, y) else
  if ((i.op == 4) || (i.op == 6)) = true then ((x &&& ~~~ bit (plain0 i).toNat), y ||| bit p.toNat) else
  ((usesL i).foldl askB (x &&& ~~~ bit (plain0 i).toNat), y)
section
variable {x y : BV} {p : Int} {i : In}
theorem pass_n (h : passC x i = true) : passB x y p i = (x, y) := if_pos h
theorem pass_r (h : passC x i = false) (h2 : ((i.op == 4) || (i.op == 6)) = true) : passB x y p i = ((x &&& ~~~ bit (plain0 i).toNat), y ||| bit p.toNat) := by unfold passB; rw [if_neg (by rw [h]; simp), if_pos h2]
theorem pass_u (h : passC x i = false) (h2 : ((i.op == 4) || (i.op == 6)) = false) : passB x y p i = ((usesL i).foldl askB (x &&& ~~~ bit (plain0 i).toNat), y) := by unfold passB; rw [if_neg (by rw [h]; simp), if_neg (by rw [h2]; simp)]
end
structure AsI (x : BV) (u : List Int) (z : BV) (k : Nat) : Prop where
  le : k ≤ u.length
  eq : (u.drop k).foldl askB z = u.foldl askB x
section
variable {x z : BV} {u : List Int} {k : Nat}
theorem AsI.i0 : AsI x u x 0 := ⟨Nat.zero_le _, by simp⟩
theorem AsI.nx (hI : AsI x u z k) (h1 : (k : Int) < ((u.length : Nat) : Int)) : AsI x u (askB z (u.getD ((k : Int)).toNat 0)) (k + 1) := by
  have hk : k < u.length := by omega
  refine ⟨hk, ?_⟩
  have e : u.getD ((k : Int)).toNat 0 = u[k] := by simp [List.getD, hk]
  rw [← hI.eq, List.drop_eq_getElem_cons hk, List.foldl_cons, ← e]
theorem AsI.fi (hI : AsI x u z k) (h1 : ¬ (k : Int) < ((u.length : Nat) : Int)) : z = u.foldl askB x := by
  rw [← hI.eq, List.drop_eq_nil_of_le (by omega)]; rfl
end
theorem pass_ (x : BV) (y : BV) (p : Int) (i : In) (hp : 0 ≤ p ∧ p < 64) : Fn Try.prog 48 [.ptr 0 0, .int .i64 p, .agg [.int .i64 i.op, .int .i64 i.dst, .int .i64 i.ra, .int .i64 i.rb, .int .i64 i.imm, .int .i64 i.loc, .int .i64 i.off, .int .i64 i.ix, .int .i64 i.sz, .int .i64 i.fn, .bool i.acq, .bool i.weak, .bool i.rel, .int .i64 i.pred, .int .i64 i.succ, .int .i64 i.to_, .bool i.zero]] [some (.blk [.int .i64 (vB x), .int .i64 (vB y)])] (Rt (.tup []) [some (.blk [.int .i64 (vB ((passB x y p i).1)), .int .i64 (vB ((passB x y p i).2))])]) :=
 enterM (n := 55) (by kernel_rfl) Try.func48 rfl rfl rfl fun G w a h0 A => N hX 8 A rfl rfl fun A => CALL1 [] (Gives_ i ) A rfl rfl rfl rfl rfl rfl rfl fun A => N hX 7 A rfl rfl fun A => CALL1 [] (fisReg_ (plain0 i)) A rfl rfl rfl rfl rfl rfl rfl fun A => N hX 13 A rfl (ok_r <| ok_r <| ok_r <| ok_r <| ok_r <| ok_g (fun hg => (by (try simp at hg); first | omega | (simp; omega))) <| ok_r <| ok_r <| ok_r <| okE_nil) fun A => fork 23 A rfl
  (fun h1 A => N hX 2 A rfl rfl fun A => RETN hX A rfl rfl rfl h0 rfl rfl rfl rfl rfl (by rw [pass_n h1] <;> rfl))
  (fun h1 A => N hX 4 A rfl rfl fun A => DRAWN hX hmo [] [] A rfl (ok_d (by have := passC_lt h1; omega) <| okE_nil) rfl rfl (by kernel_rfl) (effAll_nil _ _) trivial fun A => N hX 3 A rfl rfl fun A => have A := A.sayH (H' := [some (.blk [.int .i64 (vB (x &&& ~~~ bit (plain0 i).toNat)), .int .i64 (vB y)]), some (.blk [.int .i64 i.op, .int .i64 i.dst, .int .i64 i.ra, .int .i64 i.rb, .int .i64 i.imm, .int .i64 i.loc, .int .i64 i.off, .int .i64 i.ix, .int .i64 i.sz, .int .i64 i.fn, .bool i.acq, .bool i.weak, .bool i.rel, .int .i64 i.pred, .int .i64 i.succ, .int .i64 i.to_, .bool i.zero])]) (by rw [vB_bit (passC_lt h1).2, vB_andNot]); N hX 2 A rfl rfl fun A => CALL1 [] (Reads_ i ) A rfl rfl rfl rfl rfl rfl rfl fun A => N hX 2 A rfl rfl fun A => fork 34 A rfl
   (fun h2 A => N hX 2 A rfl rfl fun A => DRAWN hX hmo [] [] A rfl (ok_d (by have := passC_lt h1; omega) <| okE_nil) rfl rfl (by kernel_rfl) (effAll_nil _ _) trivial fun A => N hX 2 A rfl rfl fun A => RETN hX A rfl rfl rfl h0 rfl rfl rfl rfl rfl (by rw [pass_r h1 h2, ← vB_or, ← vB_bit hp.2]; rfl))
   (fun h2 A => N hX 6 A rfl rfl fun A => CALL1 [] (Uses_ i) A rfl rfl rfl rfl rfl rfl rfl fun A => N hX 5 A rfl rfl fun A => LOOP2 (fun (z : BV) (k : Nat) => [(0, .ptr 0 0), (45, .sl 2 ((usesL i).length) 0), (46, .int .i64 (((usesL i).length : Nat) : Int)), (47, .int .i64 (k : Int))]) (fun (z : BV) (k : Nat) => [some (.blk [.int .i64 (vB z), .int .i64 (vB y)]), some (.blk [.int .i64 i.op, .int .i64 i.dst, .int .i64 i.ra, .int .i64 i.rb, .int .i64 i.imm, .int .i64 i.loc, .int .i64 i.off, .int .i64 i.ix, .int .i64 i.sz, .int .i64 i.fn, .bool i.acq, .bool i.weak, .bool i.rel, .int .i64 i.pred, .int .i64 i.succ, .int .i64 i.to_, .bool i.zero]), some (.row 3 1 ((usesL i).length) 0 (fun j => [.int .i64 ((usesL i).getD j 0)]))]) (fun (z : BV) (k : Nat) => AsI (x &&& ~~~ bit (plain0 i).toNat) (usesL i) z k) (fun (z : BV) (k : Nat) => (usesL i).length - k) (x &&& ~~~ bit (plain0 i).toNat) 0 AsI.i0 ((A.cut [0, 45, 46, 47] rfl).trunc 3 rfl rfl rfl (by simp only [List.length_cons, List.length_nil] at h0; omega)) fun z k hI {G a w} A => N hX 6 A rfl rfl fun A => forkD 48 A rfl
     (fun h3 A => N hX 12 A rfl (ok_d (by have := hI.le; have := usesL_le i; omega) <| ok_d (by have := hI.le; have := usesL_le i; omega) <| okE_nil) fun A => N hX 3 A rfl rfl fun A => CALL1 [0] (ask_ z y ((usesL i).getD (((k : Int)).toNat) 0)) A rfl rfl rfl rfl rfl rfl rfl fun A => N hX 7 A rfl (ok_d (by have := hI.le; have := usesL_le i; omega) <| okE_nil) fun A => ⟨askB z ((usesL i).getD ((k : Int)).toNat 0), k + 1, _, (by omega), (hI.nx h3), ((A.cut [0, 45, 46, 47] rfl).trunc 3 rfl rfl rfl (by simp only [List.length_cons, List.length_nil] at h0; omega))⟩)
     (fun h3 A => N hX 2 A rfl rfl fun A => ENDN (RETN hX A rfl rfl rfl h0 rfl rfl rfl rfl rfl (by rw [pass_u h1 h2, ← hI.fi h3]; rfl)))))
def walkN (cs : List In) (ps : List Int) (x y : BV) : Nat → BV
  | 0 => y
  | m + 1 => walkN cs ps (passB x y (m : Int) (insA cs ps (m : Int))).1 (passB x y (m : Int) (insA cs ps (m : Int))).2 m
def hangB (cs : List In) (ps : List Int) (at_ r : Int) : BV := walkN cs ps (askB 0 r) 0 (cutN ps at_)
structure HgI (cs : List In) (ps : List Int) (v : BV) (m0 : Nat) (x y : BV) (m : Nat) : Prop where
  le : m ≤ m0
  eq : walkN cs ps x y m = v
section
variable {cs : List In} {ps : List Int} {x y v : BV} {m0 m : Nat}
theorem HgI.nx (hI : HgI cs ps v m0 x y m) (h1 : (m : Int) - 1 ≥ 0) : HgI cs ps v m0 (passB x y ((m : Int) - 1) (insA cs ps ((m : Int) - 1))).1 (passB x y ((m : Int) - 1) (insA cs ps ((m : Int) - 1))).2 (m - 1) := by
  cases m with
  | zero => omega
  | succ m =>
    have e : (((m + 1 : Nat) : Int) - 1) = (m : Int) := by omega
    rw [e]
    exact ⟨by have := hI.le; omega, hI.eq⟩
theorem HgI.fi (hI : HgI cs ps v m0 x y m) (h1 : ¬ (m : Int) - 1 ≥ 0) : y = v := by
  have : m = 0 := by omega
  subst this
  exact hI.eq
end
theorem vB_0 : vB 0 = 0 := by decide
theorem hangs_ (cs : List In) (c : Nat) (ps : List Int) (d : Nat) (at_ : Int) (r : Int) (hn : ps.length ≤ 60) : Fn Try.prog 42 [.sl 0 cs.length c, .sl 1 ps.length d, .int .i64 at_, .int .i64 r] [some (.lst 17 cs.length (fun zz => insS (cs.getD zz In.z))), some (.lst 1 ps.length (fun j => [.int .i64 (ps.getD j 0)]))] (Rt (.int .i64 (vB (hangB cs ps at_ r))) [some (.lst 17 cs.length (fun zz => insS (cs.getD zz In.z))), some (.lst 1 ps.length (fun j => [.int .i64 (ps.getD j 0)]))]) :=
 enterM (n := 30) (by kernel_rfl) Try.func42 rfl rfl rfl fun G w a h0 A => N hX 13 A rfl rfl fun A => have A := A.sayH (H' := [some (.lst 17 cs.length (fun zz => insS (cs.getD zz In.z))), some (.lst 1 ps.length (fun j => [.int .i64 (ps.getD j 0)])), some (.blk [.int .i64 (vB 0), .int .i64 (vB 0)])]) (by rw [vB_0] <;> rfl); N hX 2 A rfl rfl fun A => CALL1 [2] (ask_ 0 0 r) A rfl rfl rfl rfl rfl rfl rfl fun A => N hX 7 A rfl rfl fun A => CALL1 [1] (cut_ ps d at_) A rfl rfl rfl rfl rfl rfl rfl fun A => N hX 5 A rfl (ok_d (by have := cutN_le ps at_; omega) <| okE_nil) fun A => LOOP3 (fun (x : BV) (y : BV) (m : Nat) => [(0, .sl 0 cs.length c), (1, .sl 1 ps.length d), (8, .int .i64 0), (9, .ptr 2 0), (10, .int .i64 ((m : Int) - 1))]) (fun (x : BV) (y : BV) (m : Nat) => [some (.lst 17 cs.length (fun zz => insS (cs.getD zz In.z))), some (.lst 1 ps.length (fun j => [.int .i64 (ps.getD j 0)])), some (.blk [.int .i64 (vB x), .int .i64 (vB y)])]) (fun (x : BV) (y : BV) (m : Nat) => HgI cs ps (hangB cs ps at_ r) (cutN ps at_) x y m) (fun (x : BV) (y : BV) (m : Nat) => m) (askB 0 r) 0 (cutN ps at_) ⟨Nat.le_refl _, rfl⟩ ((A.cut [0, 1, 8, 9, 10] rfl).trunc 3 rfl rfl rfl (by simp only [List.length_cons, List.length_nil] at h0; omega)) fun x y m hI {G a w} A => N hX 7 A rfl rfl fun A => forkD 19 A rfl
   (fun h1 A => N hX 10 A rfl rfl fun A => CALL1 [0, 1] (insAt_ cs c ps d ((m : Int) - 1)) A rfl rfl rfl rfl rfl rfl rfl fun A => CALL1 [2] (pass_ x y ((m : Int) - 1) (insA cs ps ((m : Int) - 1)) (by have := hI.le; have := cutN_le ps at_; omega)) A rfl rfl rfl rfl rfl rfl rfl fun A => N hX 8 A rfl (ok_d (by have := hI.le; have := cutN_le ps at_; omega) <| okE_nil) fun A => ⟨(passB x y ((m : Int) - 1) (insA cs ps ((m : Int) - 1))).1, (passB x y ((m : Int) - 1) (insA cs ps ((m : Int) - 1))).2, m - 1, _, (by omega), (hI.nx h1), ((A.cut [0, 1, 8, 9, 10] rfl).trunc 3 rfl rfl rfl (by simp only [List.length_cons, List.length_nil] at h0; omega)).sayT (by rw [show ((m - 1 : Nat) : Int) = (m : Int) - 1 by omega])⟩)
   (fun h1 A => N hX 11 A rfl rfl fun A => RETN hX A rfl rfl rfl h0 rfl rfl rfl rfl (by rw [← hI.fi h1]; rfl) rfl)
def addrB (cs : List In) (ps : List Int) (at_ : Int) : BV := if ((!(((insA cs ps at_).op == 4) || ((insA cs ps at_).op == 6))) && (!(((insA cs ps at_).op == 5) || ((insA cs ps at_).op == 6)))) = true then 0 else hangB cs ps at_ (insA cs ps at_).ix
def dataB (cs : List In) (ps : List Int) (at_ : Int) : BV := if (!(((insA cs ps at_).op == 5) || ((insA cs ps at_).op == 6))) = true then 0 else hangB cs ps at_ (insA cs ps at_).ra
theorem Addr_ (cs : List In) (c : Nat) (ps : List Int) (d : Nat) (at_ : Int) (hn : ps.length ≤ 60) : Fn Try.prog 19 [.sl 0 cs.length c, .sl 1 ps.length d, .int .i64 at_] [some (.lst 17 cs.length (fun zz => insS (cs.getD zz In.z))), some (.lst 1 ps.length (fun j => [.int .i64 (ps.getD j 0)]))] (Rt (.int .i64 (vB (addrB cs ps at_))) [some (.lst 17 cs.length (fun zz => insS (cs.getD zz In.z))), some (.lst 1 ps.length (fun j => [.int .i64 (ps.getD j 0)]))]) :=
 enterM (n := 26) (by kernel_rfl) Try.func19 rfl rfl rfl fun G w a h0 A => N hX 10 A rfl rfl fun A => CALL1 [0, 1] (insAt_ cs c ps d at_) A rfl rfl rfl rfl rfl rfl rfl fun A => N hX 8 A rfl rfl fun A => CALL1 [] (Reads_ (insA cs ps at_) ) A rfl rfl rfl rfl rfl rfl rfl fun A => N hX 2 A rfl rfl fun A => fork 15 A rfl
  (fun h1 A => N hX 1 A rfl rfl fun A => CALL1 [] (Writes_ (insA cs ps at_) ) A rfl rfl rfl rfl rfl rfl rfl fun A => N hX 4 A rfl rfl fun A => fork 19 A rfl
   (fun h2 A => N hX 7 A rfl rfl fun A => RETN hX A rfl rfl rfl h0 rfl rfl rfl rfl (by unfold addrB; rw [if_pos (by rw [h1, h2] <;> rfl), vB_0] <;> rfl) rfl)
   (fun h2 A => N hX 10 A rfl rfl fun A => CALL1 [0, 1] (hangs_ cs c ps d at_ ((insA cs ps at_).ix) (by omega)) A rfl rfl rfl rfl rfl rfl rfl fun A => N hX 4 A rfl rfl fun A => RETN hX A rfl rfl rfl h0 rfl rfl rfl rfl (by unfold addrB; rw [if_neg (by rw [h1, h2]; simp)] <;> rfl) rfl))
  (fun h1 A => N hX 16 A rfl rfl fun A => CALL1 [0, 1] (hangs_ cs c ps d at_ ((insA cs ps at_).ix) (by omega)) A rfl rfl rfl rfl rfl rfl rfl fun A => N hX 4 A rfl rfl fun A => RETN hX A rfl rfl rfl h0 rfl rfl rfl rfl (by unfold addrB; rw [if_neg (by rw [h1]; simp)] <;> rfl) rfl)
theorem Data_ (cs : List In) (c : Nat) (ps : List Int) (d : Nat) (at_ : Int) (hn : ps.length ≤ 60) : Fn Try.prog 21 [.sl 0 cs.length c, .sl 1 ps.length d, .int .i64 at_] [some (.lst 17 cs.length (fun zz => insS (cs.getD zz In.z))), some (.lst 1 ps.length (fun j => [.int .i64 (ps.getD j 0)]))] (Rt (.int .i64 (vB (dataB cs ps at_))) [some (.lst 17 cs.length (fun zz => insS (cs.getD zz In.z))), some (.lst 1 ps.length (fun j => [.int .i64 (ps.getD j 0)]))]) :=
 enterM (n := 21) (by kernel_rfl) Try.func21 rfl rfl rfl fun G w a h0 A => N hX 10 A rfl rfl fun A => CALL1 [0, 1] (insAt_ cs c ps d at_) A rfl rfl rfl rfl rfl rfl rfl fun A => N hX 8 A rfl rfl fun A => CALL1 [] (Writes_ (insA cs ps at_) ) A rfl rfl rfl rfl rfl rfl rfl fun A => N hX 3 A rfl rfl fun A => fork 14 A rfl
  (fun h1 A => N hX 7 A rfl rfl fun A => RETN hX A rfl rfl rfl h0 rfl rfl rfl rfl (by unfold dataB; rw [if_pos (by rw [h1] <;> rfl), vB_0] <;> rfl) rfl)
  (fun h1 A => N hX 10 A rfl rfl fun A => CALL1 [0, 1] (hangs_ cs c ps d at_ ((insA cs ps at_).ra) (by omega)) A rfl rfl rfl rfl rfl rfl rfl fun A => N hX 4 A rfl rfl fun A => RETN hX A rfl rfl rfl h0 rfl rfl rfl rfl (by unfold dataB; rw [if_neg (by rw [h1]; simp)] <;> rfl) rfl)
def ctrlN (cs : List In) (ps : List Int) (x y : BV) : Nat → BV
  | 0 => y
  | m + 1 => let i := insA cs ps (m : Int); let x2 := if i.op = 9 then askB x i.ra else x; ctrlN cs ps (passB x2 y (m : Int) i).1 (passB x2 y (m : Int) i).2 m
def ctrlB (cs : List In) (ps : List Int) (at_ : Int) : BV := ctrlN cs ps 0 0 (cutN ps at_)
structure CtI (cs : List In) (ps : List Int) (v : BV) (m0 : Nat) (x y : BV) (m : Nat) : Prop where
  le : m ≤ m0
  eq : ctrlN cs ps x y m = v
section
variable {cs : List In} {ps : List Int} {x y v : BV} {m0 m : Nat}
theorem CtI.yes (hI : CtI cs ps v m0 x y m) (h1 : (m : Int) - 1 ≥ 0) (h : (insA cs ps ((m : Int) - 1)).op = 9) : CtI cs ps v m0 (passB (askB x (insA cs ps ((m : Int) - 1)).ra) y ((m : Int) - 1) (insA cs ps ((m : Int) - 1))).1 (passB (askB x (insA cs ps ((m : Int) - 1)).ra) y ((m : Int) - 1) (insA cs ps ((m : Int) - 1))).2 (m - 1) := by
  cases m with
  | zero => omega
  | succ m =>
    have e : (((m + 1 : Nat) : Int) - 1) = (m : Int) := by omega
    rw [e] at h ⊢
    refine ⟨by have := hI.le; omega, ?_⟩
    have := hI.eq
    unfold ctrlN at this
    simp only [h, if_true] at this
    exact this
theorem CtI.no (hI : CtI cs ps v m0 x y m) (h1 : (m : Int) - 1 ≥ 0) (h : (insA cs ps ((m : Int) - 1)).op ≠ 9) : CtI cs ps v m0 (passB x y ((m : Int) - 1) (insA cs ps ((m : Int) - 1))).1 (passB x y ((m : Int) - 1) (insA cs ps ((m : Int) - 1))).2 (m - 1) := by
  cases m with
  | zero => omega
  | succ m =>
    have e : (((m + 1 : Nat) : Int) - 1) = (m : Int) := by omega
    rw [e] at h ⊢
    refine ⟨by have := hI.le; omega, ?_⟩
    have := hI.eq
    unfold ctrlN at this
    simp only [h, if_false] at this
    exact this
theorem CtI.fi (hI : CtI cs ps v m0 x y m) (h1 : ¬ (m : Int) - 1 ≥ 0) : y = v := by
  have : m = 0 := by omega
  subst this
  exact hI.eq
end
theorem Ctrl_ (cs : List In) (c : Nat) (ps : List Int) (d : Nat) (at_ : Int) (hn : ps.length ≤ 60) : Fn Try.prog 23 [.sl 0 cs.length c, .sl 1 ps.length d, .int .i64 at_] [some (.lst 17 cs.length (fun zz => insS (cs.getD zz In.z))), some (.lst 1 ps.length (fun j => [.int .i64 (ps.getD j 0)]))] (Rt (.int .i64 (vB (ctrlB cs ps at_))) [some (.lst 17 cs.length (fun zz => insS (cs.getD zz In.z))), some (.lst 1 ps.length (fun j => [.int .i64 (ps.getD j 0)]))]) :=
 enterM (n := 33) (by kernel_rfl) Try.func23 rfl rfl rfl fun G w a h0 A => N hX 14 A rfl rfl fun A => have A := A.sayH (H' := [some (.lst 17 cs.length (fun zz => insS (cs.getD zz In.z))), some (.lst 1 ps.length (fun j => [.int .i64 (ps.getD j 0)])), some (.blk [.int .i64 (vB 0), .int .i64 (vB 0)])]) (by rw [vB_0] <;> rfl); N hX 3 A rfl rfl fun A => CALL1 [1] (cut_ ps d at_) A rfl rfl rfl rfl rfl rfl rfl fun A => N hX 5 A rfl (ok_d (by have := cutN_le ps at_; omega) <| okE_nil) fun A => LOOP3 (fun (x : BV) (y : BV) (m : Nat) => [(0, .sl 0 cs.length c), (1, .sl 1 ps.length d), (6, .int .i64 0), (7, .ptr 2 0), (8, .int .i64 ((m : Int) - 1))]) (fun (x : BV) (y : BV) (m : Nat) => [some (.lst 17 cs.length (fun zz => insS (cs.getD zz In.z))), some (.lst 1 ps.length (fun j => [.int .i64 (ps.getD j 0)])), some (.blk [.int .i64 (vB x), .int .i64 (vB y)])]) (fun (x : BV) (y : BV) (m : Nat) => CtI cs ps (ctrlB cs ps at_) (cutN ps at_) x y m) (fun (x : BV) (y : BV) (m : Nat) => m) 0 0 (cutN ps at_) ⟨Nat.le_refl _, rfl⟩ ((A.cut [0, 1, 6, 7, 8] rfl).trunc 3 rfl rfl rfl (by simp only [List.length_cons, List.length_nil] at h0; omega)) fun x y m hI {G a w} A => N hX 7 A rfl rfl fun A => forkD 16 A rfl
   (fun h1 A => N hX 10 A rfl rfl fun A => CALL1 [0, 1] (insAt_ cs c ps d ((m : Int) - 1)) A rfl rfl rfl rfl rfl rfl rfl fun A => N hX 8 A rfl rfl fun A => CALL1 [] (fisBranch_ (insA cs ps ((m : Int) - 1)) ) A rfl rfl rfl rfl rfl rfl rfl fun A => N hX 2 A rfl rfl fun A => forkE 24 A rfl
    (fun h2 A => N hX 4 A rfl rfl fun A => CALL1 [2] (ask_ x y ((insA cs ps ((m : Int) - 1)).ra)) A rfl rfl rfl rfl rfl rfl rfl fun A => N hX 5 A rfl rfl fun A => CALL1 [2] (pass_ (askB x ((insA cs ps ((m : Int) - 1)).ra)) y ((m : Int) - 1) (insA cs ps ((m : Int) - 1)) (by have := hI.le; have := cutN_le ps at_; omega)) A rfl rfl rfl rfl rfl rfl rfl fun A => N hX 8 A rfl (ok_d (by have := hI.le; have := cutN_le ps at_; omega) <| okE_nil) fun A => ⟨((passB (askB x ((insA cs ps ((m : Int) - 1)).ra)) y ((m : Int) - 1) (insA cs ps ((m : Int) - 1))).1), ((passB (askB x ((insA cs ps ((m : Int) - 1)).ra)) y ((m : Int) - 1) (insA cs ps ((m : Int) - 1))).2), m - 1, _, (by omega), (hI.yes h1 h2), ((A.cut [0, 1, 6, 7, 8] rfl).trunc 3 rfl rfl rfl (by simp only [List.length_cons, List.length_nil] at h0; omega)).sayT (by rw [show ((m - 1 : Nat) : Int) = (m : Int) - 1 by omega])⟩)
    (fun h2 A => N hX 6 A rfl rfl fun A => CALL1 [2] (pass_ x y ((m : Int) - 1) (insA cs ps ((m : Int) - 1)) (by have := hI.le; have := cutN_le ps at_; omega)) A rfl rfl rfl rfl rfl rfl rfl fun A => N hX 8 A rfl (ok_d (by have := hI.le; have := cutN_le ps at_; omega) <| okE_nil) fun A => ⟨((passB x y ((m : Int) - 1) (insA cs ps ((m : Int) - 1))).1), ((passB x y ((m : Int) - 1) (insA cs ps ((m : Int) - 1))).2), m - 1, _, (by omega), (hI.no h1 h2), ((A.cut [0, 1, 6, 7, 8] rfl).trunc 3 rfl rfl rfl (by simp only [List.length_cons, List.length_nil] at h0; omega)).sayT (by rw [show ((m - 1 : Nat) : Int) = (m : Int) - 1 by omega])⟩))
   (fun h1 A => N hX 11 A rfl rfl fun A => RETN hX A rfl rfl rfl h0 rfl rfl rfl rfl (by rw [← hI.fi h1]; rfl) rfl)
end Go.Proofs.Ytmieaninmidelaa
/- Paths in memory: rows of rows at addresses. -/
namespace Go.Proofs.Ytmieaninmidelaa
open Go.RowKit
set_option linter.unusedVariables false
set_option linter.unusedSimpArgs false
set_option linter.unusedSectionVars false
abbrev iv (ps : List Int) : List Value := ps.map (Value.int .i64)
structure Pt where (ao : Option Addr) (cp : Nat) (ps : List Int)
def Pt.v (p : Pt) : Value := .slice p.ao p.ps.length p.cp
structure PtOK (lo b : Nat) (w : World) (p : Pt) : Prop where
  ro : Ro 3 w p.ao p.ps.length p.cp (iv p.ps)
  lo : ∀ k, (bl p.ao).contains k = true → lo ≤ k ∧ k ≠ b
abbrev Pt.off (p q : Pt) : Prop := ∀ k, (bl p.ao).contains k = true → (bl q.ao).contains k = false
structure Pths (lo : Nat) (w : World) (b cp : Nat) (L : List Pt) : Prop where
  ro : Ro 29 w (some ⟨b, 0, none⟩) L.length cp (L.map Pt.v)
  lb : lo ≤ b
  el : ∀ p ∈ L, PtOK lo b w p
  ap : L.Pairwise Pt.off
theorem bl_some {b k : Nat} : (bl (some ⟨b, 0, none⟩)).contains k = true ↔ k = b := by simp [bl]
section
variable {lo lo2 b b2 cp cp2 : Nat} {w w' : World} {L L2 : List Pt} {ks : List Nat}
theorem Pths.mix (h : Pths lo w b cp L) (m : Mix ks w w') (hk : ∀ k, ks.contains k = true → k < lo) : Pths lo w' b cp L := by
  have hf : ∀ k, lo ≤ k → ks.contains k = false := fun k hl => by
    cases hc : ks.contains k with
    | false => rfl
    | true => have := hk k hc; omega
  exact ⟨h.ro.mix m fun k hk' => by rw [bl_some] at hk'; subst hk'; exact hf _ h.lb, h.lb, fun p hp => ⟨(h.el p hp).ro.mix m fun k hk' => hf k ((h.el p hp).lo k hk').1, (h.el p hp).lo⟩, h.ap⟩
theorem Pths.le (h : Pths lo w b cp L) (hl : lo2 ≤ lo) : Pths lo2 w b cp L := ⟨h.ro, Nat.le_trans hl h.lb, fun p hp => ⟨(h.el p hp).ro, fun k hk => ⟨Nat.le_trans hl ((h.el p hp).lo k hk).1, ((h.el p hp).lo k hk).2⟩⟩, h.ap⟩
theorem Pths.lt (h : Pths lo w b cp L) : b < w.heap.size := h.ro.lt (bl_some.2 rfl)
theorem Pths.one {ao : Option Addr} {ps : List Int} (hR : Ro 3 w ao ps.length cp2 (iv ps)) (hlo : ∀ k, (bl ao).contains k = true → lo ≤ k ∧ k ≠ b) (hb : lo ≤ b) (hr : Ro 29 w (some ⟨b, 0, none⟩) 1 cp [.slice ao ps.length cp2]) : Pths lo w b cp [⟨ao, cp2, ps⟩] :=
  ⟨hr, hb, fun p hp => by
    simp at hp
    subst hp
    exact ⟨hR, hlo⟩, by simp⟩
/-- two rows of paths, laid one behind the other -/
theorem Pths.app {ao : Option Addr} {c' : Nat} (h : Pths lo w b cp L) (h2 : Pths lo2 w b2 cp2 L2) (hlb : b < lo2) (hle : ∀ p ∈ L, ∀ k, (bl p.ao).contains k = true → k < lo2) (hll : lo ≤ lo2) (m : Mix [b] w w') (hr : Ro 29 w' ao (L.length + L2.length) c' (L.map Pt.v ++ L2.map Pt.v)) (hb : bl ao = [b] ∨ bl ao = [w.heap.size]) :
    ∃ b', ao = some ⟨b', 0, none⟩ ∧ Pths lo w' b' c' (L ++ L2) := by
  rcases hr.addr with ⟨h1, _⟩ | ⟨b', rfl⟩
  · subst h1; simp [bl] at hb
  · refine ⟨b', rfl, ?_⟩
    have hb' : b' = b ∨ b' = w.heap.size := by simpa [bl] using hb
    have hne : ∀ p, (p ∈ L ∨ p ∈ L2) → ∀ k, (bl p.ao).contains k = true → lo ≤ k ∧ k ≠ b ∧ k < w.heap.size := fun p hp k hk => by
      rcases hp with hp | hp
      · exact ⟨((h.el p hp).lo k hk).1, ((h.el p hp).lo k hk).2, (h.el p hp).ro.lt hk⟩
      · have := ((h2.el p hp).lo k hk).1
        exact ⟨by omega, by omega, (h2.el p hp).ro.lt hk⟩
    have hok : ∀ p, (p ∈ L ∨ p ∈ L2) → PtOK lo b' w' p := fun p hp => by
      refine ⟨?_, fun k hk => ?_⟩
      · have hro : Ro 3 w p.ao p.ps.length p.cp (iv p.ps) := by rcases hp with hp | hp; exact (h.el p hp).ro; exact (h2.el p hp).ro
        exact hro.mix m fun k hk => by have := (hne p hp k hk).2.1; simp; omega
      · have := hne p hp k hk
        exact ⟨this.1, by omega⟩
    refine ⟨by rw [List.length_append, List.map_append]; exact hr, ?_, fun p hp => hok p (List.mem_append.1 hp), List.pairwise_append.2 ⟨h.ap, h2.ap, fun p hp q hq k hk => ?_⟩⟩
    · have := h.lb; have := h.lt; omega
    · cases hc : (bl q.ao).contains k with
      | false => rfl
      | true => have := hle p hp k hk; have := ((h2.el q hq).lo k hc).1; omega
end
/-- a longer row in the same block, or elsewhere: the shorter one is still there -/
theorem Ro.back {e n1 cp1 n cp : Nat} {w w' : World} {ao1 ao : Option Addr} {xs ys : List Value} (h1 : Ro e w ao1 n1 cp1 (xs ++ ys)) (h0 : Ro e w ao n cp xs) (m : Mix (bl ao1) w w') (h2 : Ro e w' ao1 n1 cp1 (xs ++ ys)) : Ro e w' ao n cp xs := by
  rcases h0.addr with ⟨rfl, rfl, rfl⟩ | ⟨b, rfl⟩
  · exact h0.mix m fun k hk => by simp [bl] at hk
  · rcases h1.addr with ⟨rfl, _, _⟩ | ⟨b1, rfl⟩
    · exact h0.mix m fun k hk => by simp [bl]
    · by_cases hb : b = b1
      · subst hb
        have hc : cp = cp1 := by
          rcases h0.2 with ⟨q, _⟩ | ⟨g, cap, cur, q1, _, q3, _, _, q6, _⟩
          · cases q
          · rcases h1.2 with ⟨q, _⟩ | ⟨g', cap', cur', p1, _, p3, _, _, p6, _⟩
            · cases q
            · cases q1; cases p1
              rw [q3] at p3
              cases p3
              omega
        subst hc
        have hl0 := h0.len
        have hl1 := h1.len
        refine h2.cut hl0 ?_ (by simp)
        rw [List.length_append] at hl1; omega
      · exact h0.mix m fun k hk => by rw [bl_some] at hk; subst hk; simp [bl]; exact fun e => hb e
section
variable {P : Program} {n : Nat} {ks ks1 : List Nat} {G0 G1 : Gr} {w0 w1 : World} {T : List (Nat × SV)} {H H0 : Hp} {G : Gr} {a : Act} {w w' : World} {ops : Array Oper} {o : Oper} {rest : List Oper} {Q : Exit → Act → World → Prop} {K : List Fr}
/-- blocks that are known now, against these -/
theorem offB {ks' : List Nat} (hlen : H0.length = G0.length) (ho : Off H0 G0 ks') (A : Sy n T H ks1 G1 w1 G a w) (hpre : ∃ F, G = G0 ++ F) (h1 : ∀ b, ks'.contains b = true → ks1.contains b = false ∧ b < w1.heap.size) (hH : keptB H0 H) : Off H G ks' := by
  refine off_of A (fun b hb => ?_) fun i e L q1 q2 q3 q4 => ?_
  · obtain ⟨h2, h3⟩ := h1 b hb
    cases hz : (keys H G).contains b with
    | false => rfl
    | true =>
      rcases A.keys_own b hz with h | h
      · rw [h] at h2; cases h2
      · omega
  · have h5 := hH i e q1 q2
    obtain ⟨F, rfl⟩ := hpre
    rw [List.getElem?_append_left (by rw [← hlen]; exact (List.getElem?_eq_some_iff.1 h5).1)] at q3
    exact ho i e L h5 q3 q4
/-- one cell, laid for it, is appended -/
theorem APW1 {Y : Tb} {x y : Operand} {t e b nn cp j : Nat} {ti : TI} {ao : Option Addr} {z : SV} {u : Value} {xs : List Value} (hX : Y.ok P = true) (A : Sy n T H ks G0 w0 G a w) (hg : guardS ops T o.guard = some .run) (hd : fitsD n o.dst = true) (hop : o.op = .call { callee := .builtin .append, args := #[x, y], argTypes := #[t, t] })
    (hx : evS T x = some (.sla ao nn cp)) (hy : evS T y = some (.sl j 1 1)) (hj : lg H j = some (some (.blk [z]))) (hz : denL [] [z] = some [u]) (h1 : u.oneCell' = true) (hti : Y.get t = some ti) (hel : ti.elm = some (e, 1, b)) (hb : Nat.ble b 10000 = true) (hro : Ro e w ao nn cp xs) (hnn : nn ≤ 1000000) (hoff : Off H G (bl ao)) (hk : ∀ b, (bl ao).contains b = true → ks.contains b = true ∨ w0.heap.size ≤ b)
    (k : ∀ {a w'} ao' cp', Ro e w' ao' (nn + 1) cp' (xs ++ [u]) → Ro e w' ao nn cp xs → Mix (bl ao) w w' → (bl ao' = bl ao ∨ bl ao' = [w.heap.size]) → Sy n (extS T o.dst (.sla ao' (nn + 1) cp')) H ks G0 w0 G a w' → Goal P Q K (.ops ops rest) a w') : Goal P Q K (.ops ops (o :: rest)) a w := by
  have hj' := hj
  rw [lg_is] at hj'
  obtain ⟨L, vs, b1, b2, b3⟩ := (A.mem.ent j _ hj').range
  have h4 : denL G [z] = some [u] := by simpa using denL_mono G [z] hz
  rw [h4] at b2
  cases b2
  have hsy : den G (.sl j 1 1) = some (.slice (some ⟨L.b, L.pre.length, none⟩) 1 (1 + rm (some L))) := by unfold den; rw [get_loc b1]; rfl
  exact APW hX A hg hd hop hx hy hti hel hb hro hsy rfl (fun q v hv => by rw [Addr.add_mid]; exact b3 q v hv) (fun v hv => by simp at hv; subst hv; exact h1) hnn (by omega) hoff hk k
theorem off_sub {ks' : List Nat} (h : Off H G ks') (hlen : H0.length = G0.length) (hpre : ∃ F, G = G0 ++ F) (hH : ∀ (i : Nat) (e : Ent), H0[i]? = some (some e) → H[i]? = some (some e)) : Off H0 G0 ks' := fun i e L q1 q2 q3 => by
  obtain ⟨F, rfl⟩ := hpre
  exact h i e L (hH i e q1) (by rw [List.getElem?_append_left (List.getElem?_eq_some_iff.1 q2).1]; exact q2) q3
end
/-! ### Paths through a code -/
/-- branches go forward, within the code -/
def Brs (cs : List In) : Prop := ∀ k, k < cs.length → (cs.getD k In.z).op = 9 → (k : Int) < (cs.getD k In.z).to_ ∧ (cs.getD k In.z).to_ ≤ ((cs.length : Nat) : Int)
def brQ (cs : List In) (k : Nat) : Prop := (cs.getD k In.z).op = 9 ∧ (k : Int) + 1 < (cs.getD k In.z).to_ ∧ (cs.getD k In.z).to_ ≤ ((cs.length : Nat) : Int)
instance (cs : List In) (k : Nat) : Decidable (brQ cs k) := inferInstanceAs (Decidable (_ ∧ _ ∧ _))
def pths (cs : List In) (k : Nat) : List (List Int) :=
  if h : k < cs.length then
    if h2 : brQ cs k then (pths cs (k + 1)).map (fun p => (k : Int) :: p) ++ (pths cs (cs.getD k In.z).to_.toNat).map (fun p => (k : Int) :: p)
    else (pths cs (k + 1)).map (fun p => (k : Int) :: p)
  else [[]]
termination_by cs.length - k
decreasing_by
  · omega
  · have := h2.2.1; have := h2.2.2; omega
  · omega
section
variable {cs : List In} {k : Nat}
theorem pths_end (h : ¬ k < cs.length) : pths cs k = [[]] := by rw [pths]; rw [dif_neg h]
theorem pths_go (h : k < cs.length) (h2 : ¬ brQ cs k) : pths cs k = (pths cs (k + 1)).map (fun p => (k : Int) :: p) := by rw [pths, dif_pos h, dif_neg h2]
theorem pths_br (h : k < cs.length) (h2 : brQ cs k) : pths cs k = (pths cs (k + 1)).map (fun p => (k : Int) :: p) ++ (pths cs (cs.getD k In.z).to_.toNat).map (fun p => (k : Int) :: p) := by rw [pths, dif_pos h, dif_pos h2]
end
theorem pths_pos (cs : List In) (k : Nat) : 0 < (pths cs k).length := by
  by_cases h : k < cs.length
  · have ih := pths_pos cs (k + 1)
    by_cases h2 : brQ cs k
    · rw [pths_br h h2]; simp; omega
    · rw [pths_go h h2]; simp; omega
  · rw [pths_end h]; simp
termination_by cs.length - k
end Go.Proofs.Ytmieaninmidelaa
/- Clone. -/
namespace Go.Proofs.Ytmieaninmidelaa
open Go.RowKit
set_option linter.unusedVariables false
set_option linter.unusedSimpArgs false
set_option maxRecDepth 100000
set_option maxHeartbeats 2000000
set_option simprocs false
theorem flat_ints (g : List Int) : flatV (fun j => [.int .i64 (g.getD j 0)]) g.length = some (iv g) := by
  have h : ∀ n, n ≤ g.length → flatV (fun j => [.int .i64 (g.getD j 0)]) n = some (iv (g.take n)) := by
    intro n hn
    induction n with
    | zero => simp [flatV]
    | succ n ih =>
      unfold flatV
      rw [ih (by omega)]
      have e : g.take (n + 1) = g.take n ++ [g.getD n 0] := by
        rw [List.take_add_one, List.getD_eq_getElem?_getD, List.getElem?_eq_getElem (by omega)]; rfl
      rw [e]
      simp [denL, den]
  have := h g.length (Nat.le_refl _)
  rwa [List.take_length] at this
theorem Given.ints {g : List Int} {b cp : Nat} {w : World} (h : Given 3 1 g.length (fun j => [.int .i64 (g.getD j 0)]) b cp w) : Ro 3 w (some ⟨b, 0, none⟩) g.length cp (iv g) := by
  obtain ⟨_, xs, h2, h3⟩ := h
  rw [flat_ints] at h2
  cases h2
  exact h3
theorem Ro.lies {g : List Int} {b n cp : Nat} {w : World} (h : Ro 3 w (some ⟨b, 0, none⟩) n cp (iv g)) : LiesAt (some ⟨b, 0, none⟩) g w [] := .inr ⟨b, rfl, h.lt (bl_some.2 rfl), rfl, h.range⟩
def ClJ (g : List Int) : SV → World → World → Prop := fun x w w' => ∃ ao cp, x = .sla ao g.length cp ∧ Ro 3 w' ao g.length cp (iv g) ∧ ∀ k, (bl ao).contains k = true → w.heap.size ≤ k
theorem clone_nil   : FnW Try.prog 54 [.sla none 0 0] [] [] (fun _ => True) (ClJ []) :=
 enterW (n := 8) (by kernel_rfl) Try.func54 rfl rfl rfl (fun i e h => by cases h) fun G w a h0 ho hp A => N hX 9 A rfl rfl fun A => NILQ (r := .tt) A rfl rfl rfl rfl rfl (e := 3) (by kernel_rfl) rfl fun A => N hX 9 A rfl rfl fun A => RETW hX A rfl rfl rfl rfl ⟨none, 0, rfl, World.ownsRow_nil _ _ _ _, fun k hk => by cases hk⟩
theorem clone_some (g : List Int) (b : Nat) (cp : Nat) (hg : 0 < g.length) (hn : g.length ≤ 1000000) : FnW Try.prog 54 [.sla (some ⟨b, 0, none⟩) g.length cp] [] [] (fun w => Ro 3 w (some ⟨b, 0, none⟩) g.length cp (iv g)) (ClJ g) :=
 enterW (n := 8) (by kernel_rfl) Try.func54 rfl rfl rfl (fun i e h => by cases h) fun G w a h0 ho hp A => N hX 9 A rfl rfl fun A => NILQ (r := .ff) A rfl rfl rfl rfl rfl (e := 3) (by kernel_rfl) rfl fun A => N hX 9 A rfl rfl fun A => ADOPT 6 (hp.lies) A rfl rfl rfl rfl fun A => APPL hX g.length (fun j => [.int .i64 (g.getD j 0)]) A rfl rfl rfl rfl (Nat.le_refl _) (by omega) hn (by rw [Nat.zero_add]) (fun k hk => by omega) (fun k hk => by show [SV.int .i64 _] = [SV.int .i64 _]; rw [Nat.zero_add]) (fun z => ⟨_, rfl, rfl⟩) (fun k hk => ⟨_, rfl, okE_nil⟩) fun A => N hX 4 A rfl rfl fun A => match A.giveRow 2 2 hg rfl rfl rfl with | ⟨b', cp', A, hG, hlo, _⟩ => RETW hX A rfl rfl rfl rfl ⟨_, cp', rfl, hG.ints, fun k hk => by rw [bl_some] at hk; subst hk; exact hlo.resolve_left (by simp)⟩
theorem clone_ (g : List Int) (ao : Option Addr) (cp : Nat) (hg : ao = none ∨ 0 < g.length) (hn : g.length ≤ 1000000) : FnW Try.prog 54 [.sla ao g.length cp] [] [] (fun w => Ro 3 w ao g.length cp (iv g)) (ClJ g) := by
  refine ⟨by kernel_rfl, (fun i e h => by cases h), fun G w vs hM ho hp hv => ?_⟩
  rcases hp.addr with ⟨rfl, h1, h2⟩ | ⟨b, rfl⟩
  · have : g = [] := List.eq_nil_of_length_eq_zero h1
    subst this; subst h2
    exact clone_nil.2.2 G w vs hM ho trivial hv
  · exact (clone_some g b cp (hg.resolve_left (fun h => by cases h)) hn).2.2 G w vs hM ho hp hv
end Go.Proofs.Ytmieaninmidelaa
/- All paths onward: paths in new memory, what has been gone stays. -/
namespace Go.Proofs.Ytmieaninmidelaa
open Go.RowKit
set_option linter.unusedVariables false
set_option linter.unusedSimpArgs false
set_option maxRecDepth 100000
set_option maxHeartbeats 2000000
set_option simprocs false
def PJ (ls : List (List Int)) (lo : Nat) (x : SV) (w' : World) : Prop := ∃ b cp L, x = .sla (some ⟨b, 0, none⟩) L.length cp ∧ Pths lo w' b cp L ∧ L.map Pt.ps = ls
theorem and9 {x y z : Int} (h : ((x == 9) && !(y == z)) = true) : x = 9 ∧ y ≠ z := by simpa using h
theorem nand9 {x y z : Int} (h : ((x == 9) && !(y == z)) = false) (h2 : x = 9) : y = z := by simpa [h2] using h
def OnJ (cs : List In) (at_ : Nat) (g : List Int) (ao : Option Addr) (cp : Nat) : SV → World → World → Prop := fun x w w' => PJ ((pths cs at_).map (g ++ ·)) w.heap.size x w' ∧ Ro 3 w' ao g.length cp (iv g)
theorem iv_app (g : List Int) (k : Int) : iv g ++ [.int .i64 k] = iv (g ++ [k]) := by simp
theorem map_cons_app (g : List Int) (k : Int) (l : List (List Int)) : (l.map (fun p => k :: p)).map (g ++ ·) = l.map ((g ++ [k]) ++ ·) := by simp [Function.comp_def]
theorem pths_len (cs : List In) (k : Nat) : (pths cs k).length ≤ 2 ^ (cs.length - k) := by
  by_cases h : k < cs.length
  · have ih := pths_len cs (k + 1)
    have hp : 2 ^ (cs.length - k) = 2 ^ (cs.length - (k + 1)) + 2 ^ (cs.length - (k + 1)) := by
      rw [show cs.length - k = (cs.length - (k + 1)) + 1 by omega, Nat.pow_succ]; omega
    by_cases h2 : brQ cs k
    · have h3 := h2.2.1; have h4 := h2.2.2
      have ih2 := pths_len cs (cs.getD k In.z).to_.toNat
      have : 2 ^ (cs.length - (cs.getD k In.z).to_.toNat) ≤ 2 ^ (cs.length - (k + 1)) := Nat.pow_le_pow_right (by omega) (by omega)
      rw [pths_br h h2, List.length_append, List.length_map, List.length_map]; omega
    · have : 0 < 2 ^ (cs.length - (k + 1)) := Nat.pow_pos (by omega)
      rw [pths_go h h2, List.length_map]; omega
  · rw [pths_end h]; exact Nat.pow_pos (by omega)
termination_by cs.length - k
decreasing_by
  · omega
  · have := h2.2.1; have := h2.2.2; omega
theorem pths_few {cs : List In} (hn : cs.length ≤ 8) (k : Nat) : (pths cs k).length ≤ 256 := Nat.le_trans (pths_len cs k) (Nat.le_trans (Nat.pow_le_pow_right (by omega) (show cs.length - k ≤ 8 by omega)) (by decide))
theorem len_of {L : List Pt} {ls : List (List Int)} (h : L.map Pt.ps = ls) : L.length = ls.length := by rw [← h, List.length_map]
theorem bl_no {b k : Nat} (h : k ≠ b) : (bl (some ⟨b, 0, none⟩)).contains k = false := by
  cases hc : (bl (some ⟨b, 0, none⟩)).contains k with
  | false => rfl
  | true => exact absurd (bl_some.1 hc) h
theorem keys1 {s n : Nat} {f : Nat → List SV} {G : Gr} (b : Nat) : (keys [some (.lst s n f)] G).contains b = false := by
  cases hz : (keys [some (.lst s n f)] G).contains b with
  | false => rfl
  | true =>
    obtain ⟨i, e, L, h1, h2, _⟩ := mem_keys.1 hz
    cases i with
    | zero => cases h1; cases h2
    | succ i => cases h1
abbrev lsC (cs : List In) : Option Ent := some (.lst 17 cs.length fun zz => insS (cs.getD zz In.z))
theorem Mix.lt0 {lo : Nat} {G : Gr} {cs : List In} : ∀ k, (keys [lsC cs] G).contains k = true → k < lo := fun k hk => by rw [keys1] at hk; cases hk
theorem onward_ (cs : List In) (c : Nat) (hn : cs.length ≤ 8) (hB : Brs cs) : ∀ (m at_ : Nat) (g : List Int) (ao : Option Addr) (cp : Nat), cs.length - at_ < m → (ao = none ∨ 0 < g.length) → at_ ≤ cs.length → g.length + (cs.length - at_) ≤ 1000 →
    FnW Try.prog 30 [.sl 0 cs.length c, .int .i64 ((at_ : Nat) : Int), .sla ao g.length cp] [lsC cs] (bl ao) (fun w => Ro 3 w ao g.length cp (iv g)) (OnJ cs at_ g ao cp) := by
  intro m
  induction m with
  | zero => intro at_ g ao cp h; omega
  | succ m ih =>
  intro at_ g ao cp hm hg hle hgl
  refine enterW (n := 46) (by kernel_rfl) Try.func30 rfl rfl rfl (fun i e h => by cases i with | zero => cases h; rfl | succ i => cases h) fun G w a h0 ho hp B0 => ?_
  have A := B0.base
  refine N hX 14 A rfl rfl fun {G1 a1 w1} A => forkE 12 A rfl (fun h1 A => ?_) (fun h1 A => ?_)
  · refine N hX 4 A rfl rfl fun {G2 a2 w2} A => ?_
    have hp1 := hp.mix A.mix (fun k _ => keys1 k)
    have hw2 := A.mix.size
    refine CALLW [] (clone_ g ao cp hg (by omega)) (B0.trans A) hp1 Off.nil (fun b hb => by cases hb) rfl rfl rfl rfl rfl fun {x a3 w3} m1 J1 B => ?_
    obtain ⟨ao1, cp1, rfl, hR1, hN1⟩ := J1
    refine BSR [.sla ao1 g.length cp1] hX B rfl rfl rfl rfl (by decide) rfl fun {a4 w4} b9 hb9 hgr hRo B => ?_
    have A := B.base
    refine N hX 4 A rfl rfl fun {G5 a5 w5} A => ?_
    have hk : at_ = cs.length := by omega
    have hwl : w.heap.size ≤ w2.heap.size := hw2
    refine RETW hX (B.trans A) rfl rfl rfl rfl ⟨⟨b9, 1, [⟨ao1, cp1, g⟩], rfl, Pths.one ((hR1.mix hgr.mix (fun _ _ => rfl)).mix A.mix (fun k _ => keys1 k)) (fun k hk => ⟨?_, ?_⟩) ?_ (hRo.mix A.mix (fun k _ => keys1 k)), ?_⟩, ?_⟩
    · exact Nat.le_trans hwl (hN1 k hk)
    · have := hR1.lt hk; omega
    · show w.heap.size ≤ b9; have := m1.size; omega
    · rw [pths_end (by omega)]; simp
    · exact (((hp1.mix m1 (fun _ _ => rfl)).mix hgr.mix (fun _ _ => rfl)).mix A.mix (fun k _ => keys1 k))
  · have hlt : at_ < cs.length := by omega
    refine N hX 8 A rfl rfl fun {G2 a2 w2} A => ?_
    have hw2 := A.mix.size
    have hO0 : Off _ _ (bl ao) := offB h0 ho A (B0.trans A).pre (fun b hb => ⟨keys1 b, hp.lt hb⟩) (kl_kept rfl)
    have hp1 := hp.mix A.mix (fun k _ => keys1 k)
    have hO9 : Off [lsC cs] G [w2.heap.size] := off_sub (Off.one (B0.trans A) (Nat.le_refl _)) h0 (B0.trans A).pre (fun i e h => by cases i with | zero => exact h | succ i => cases h)
    refine APW1 (e := 3) (b := 8) hX (B0.trans A) rfl rfl rfl rfl rfl rfl rfl rfl rfl rfl rfl hp1 (by omega) hO0 (fun b hb => .inl hb) fun {a3 w3} ao1 cp1 hR1' hR0 m1 hb1 B => ?_
    have hR1 : Ro 3 w3 ao1 (g ++ [((at_ : Nat) : Int)]).length cp1 (iv (g ++ [((at_ : Nat) : Int)])) := by rw [← iv_app]; simpa using hR1'
    have hk1 : ∀ b, (bl ao1).contains b = true → (bl ao).contains b = true ∨ w.heap.size ≤ b := fun b hb => by
      rcases hb1 with e | e
      · exact .inl (e ▸ hb)
      · rw [e] at hb; simp at hb; right; omega
    have hO1 : Off [lsC cs] G (bl ao1) := by
      rcases hb1 with e | e
      · rw [e]; exact ho
      · rw [e]; exact hO9
    have B1 := ((B.cut [0, 1, 6, 19] rfl).trunc 1 rfl rfl rfl (by simp at h0; omega)).say 19 (.sla ao1 (g ++ [((at_ : Nat) : Int)]).length cp1) rfl (by rw [List.length_append]; rfl)
    have A := B1.base
    refine N hX 9 A rfl (ok_d (by omega) <| okE_nil) fun {G4 a4 w4} A => ?_
    have hR1a := hR1.mix A.mix (fun k _ => keys1 k)
    have hR0a := hR0.mix A.mix (fun k _ => keys1 k)
    have hw3 := m1.size
    have hw4 := A.mix.size
    refine CALLW [0] (ih (at_ + 1) (g ++ [((at_ : Nat) : Int)]) ao1 cp1 (by omega) (Or.inr (by simp)) (by omega) (by simp; omega)) (B1.trans A) hR1a (offB h0 hO1 A (B1.trans A).pre (fun b hb => ⟨keys1 b, hR1.lt hb⟩) (kl_kept rfl)) hk1 rfl rfl rfl rfl rfl fun {x a5 w5} m2 J2 B2 => ?_
    obtain ⟨⟨b2, cp2, L2, rfl, hP2, hl2⟩, hR2⟩ := J2
    have hR0b : Ro 3 w5 ao g.length cp (iv g) := Ro.back (by rw [iv_app]; exact hR1a) hR0a m2 (by rw [iv_app]; exact hR2)
    have hw5 := m2.size
    have A := B2.base
    refine N hX 15 A rfl (ok_d (by omega) <| ok_d (by omega) <| okE_nil) fun A => N hX 2 A rfl rfl fun A => CALL1 [] (fisBranch_ (cs.getD ((((at_ : Nat) : Int)).toNat) In.z)) A rfl rfl rfl rfl rfl rfl rfl fun A => N hX 9 A rfl (ok_r <| ok_r <| ok_g (fun hg => (by omega)) <| ok_r <| ok_r <| ok_r <| okE_nil) fun A => fork 37 A rfl (fun h2 A => ?_) (fun h2 A => ?_)
    · refine N hX 7 A rfl rfl fun {G6 a6 w6} A => ?_
      have hw6 := A.mix.size
      have hb : brQ cs at_ := by
        have h2 := and9 h2
        rw [Int.toNat_natCast] at h2
        have := hB at_ hlt h2.1
        exact ⟨h2.1, by omega, this.2⟩
      have hb2 := hb.2.1
      have hb3 := hb.2.2
      have hR1b := hR2.mix A.mix (fun k _ => keys1 k)
      have hR0c := hR0b.mix A.mix (fun k _ => keys1 k)
      have hP2a := hP2.mix A.mix Mix.lt0
      have hO3 := offB h0 hO1 A (B2.trans A).pre (fun b hb => ⟨keys1 b, hR2.lt hb⟩) (kl_kept rfl)
      have hO6 : Off _ _ [b2] := offB (ks' := [b2]) h0 (Off.one B0 (by have := hP2.lb; omega)) A (B2.trans A).pre (fun b hb => ⟨keys1 b, by have := hP2.lt; simp at hb; subst hb; exact this⟩) (kl_kept rfl)
      have B3 := (B2.trans A).say 41 (.int .i64 (((cs.getD at_ In.z).to_.toNat : Nat) : Int)) rfl (by rw [Int.toNat_natCast, Int.toNat_of_nonneg (show 0 ≤ (cs.getD at_ In.z).to_ by omega)])
      refine CALLW [0] (ih (cs.getD at_ In.z).to_.toNat (g ++ [((at_ : Nat) : Int)]) ao1 cp1 (by omega) (Or.inr (by simp)) (by omega) (by rw [List.length_append]; simp only [List.length_cons, List.length_nil]; omega)) B3 hR1b hO3 hk1 rfl rfl rfl rfl rfl fun {x a7 w7} m4 J4 B4 => ?_
      obtain ⟨⟨b3, cp3, L3, rfl, hP3, hl3⟩, hR4⟩ := J4
      have hR0d : Ro 3 w7 ao g.length cp (iv g) := Ro.back (by rw [iv_app]; exact hR1b) hR0c m4 (by rw [iv_app]; exact hR4)
      have hP2b := hP2a.mix m4 (fun k hk => hR1a.lt hk)
      refine APW (e := 29) (b := 24) hX B4 rfl rfl rfl rfl rfl rfl rfl rfl hP2b.ro rfl (List.length_map _) hP3.ro.cell (fun u hu => by simp at hu; obtain ⟨p, _, rfl⟩ := hu; rfl) (by rw [len_of hl2, List.length_map]; have := pths_few hn (at_ + 1); omega) (by rw [len_of hl3, List.length_map]; have := pths_few hn (cs.getD at_ In.z).to_.toNat; omega) hO6 (fun b hb => by right; have := hP2.lb; rw [bl_some] at hb; omega) fun {a8 w8} ao6 cp6 hr6 _ m6 hb6 B5 => ?_
      obtain ⟨b6, rfl, hP6⟩ := hP2b.app hP3 (by have := hP2.lt; omega) (fun p hp k hk => by have := (hP2.el p hp).ro.lt hk; omega) (by omega) m6 hr6 (by simpa [bl] using hb6)
      have B5 := ((B5.cut [44] rfl).trunc 1 rfl rfl rfl (by simp at h0; omega)).say 44 (.sla (some ⟨b6, 0, none⟩) (L2 ++ L3).length cp6) rfl (by rw [List.length_append])
      have A := B5.base
      refine N hX 10 A rfl rfl fun {G9 a9 w9} A => ?_
      refine RETW hX (B5.trans A) rfl rfl rfl rfl ⟨⟨b6, cp6, L2 ++ L3, rfl, (hP6.mix A.mix Mix.lt0).le (by show w.heap.size ≤ _; omega), ?_⟩, ?_⟩
      · rw [List.map_append, hl2, hl3, pths_br hlt hb, List.map_append, map_cons_app, map_cons_app]
      · exact (hR0d.mix m6 fun k hk => bl_no (by have := hR0a.lt hk; have := hP2.lb; omega)).mix A.mix (fun k _ => keys1 k)
    · refine N hX 10 A rfl rfl fun {G6 a6 w6} A => ?_
      have hb : ¬ brQ cs at_ := by
        intro hb
        rw [Int.toNat_natCast] at h2
        have h2 := nand9 h2 hb.1
        have := hb.2.1
        omega
      refine RETW hX (B2.trans A) rfl rfl rfl rfl ⟨⟨b2, cp2, L2, rfl, (hP2.mix A.mix Mix.lt0).le (by show w.heap.size ≤ _; omega), ?_⟩, hR0b.mix A.mix (fun k _ => keys1 k)⟩
      rw [hl2, pths_go hlt hb, map_cons_app]
end Go.Proofs.Ytmieaninmidelaa
/- Right codes; Paths. -/
namespace Go.Proofs.Ytmieaninmidelaa
open Go.RowKit
set_option linter.unusedVariables false
set_option linter.unusedSimpArgs false
set_option maxRecDepth 100000
set_option maxHeartbeats 2000000
set_option simprocs false
structure RC (cs : List In) : Prop where
  n : cs.length ≤ 8
  r : ∀ k, k < cs.length → Right0 (cs.getD k In.z) (k : Int) ((cs.length : Nat) : Int) = 0
  b : cntP (fun i => i.op == 9) cs ≤ 3
theorem rc_of {cs : List In} (h : chkE cs = 0) : RC cs := by
  unfold chkE at h
  by_cases h8 : ((cs.length : Nat) : Int) > 8
  · rw [if_pos h8] at h; omega
  · rw [if_neg h8] at h
    cases hb : badK cs with
    | some k =>
      rw [hb] at h
      unfold badK at hb
      simp only at h
      have := List.find?_some hb
      simp only [h] at this
      cases this
    | none =>
      rw [hb] at h
      unfold badK at hb
      rw [List.find?_eq_none] at hb
      refine ⟨by omega, fun k hk => ?_, ?_⟩
      · have := hb k (List.mem_range.2 hk)
        simpa using this
      · unfold cntE at h
        simp only at h
        by_cases h1 : (0 : Int) + ((cntP isOp0 cs : Nat) : Int) > 6
        · rw [if_pos h1] at h; omega
        · rw [if_neg h1] at h
          by_cases h2 : (0 : Int) + ((cntP (fun i => i.op == 9) cs : Nat) : Int) > 3
          · rw [if_pos h2] at h; omega
          · omega
theorem right_sound {i : In} {a n : Int} (h : Right0 i a n = 0) : sound0 i = true ∧ (i.op = 9 → a < i.to_ ∧ i.to_ ≤ n) := by
  unfold Right0 at h
  split at h
  · omega
  · next h1 =>
    split at h
    · omega
    · next h2 =>
      refine ⟨?_, fun h9 => ?_⟩
      · cases hs : sound0 i with
        | true => rfl
        | false => rw [hs] at h1; simp at h1
      · rw [h9] at h2
        simp at h2
        omega
theorem RC.brs {cs : List In} (h : RC cs) : Brs cs := fun k hk h9 => (right_sound (h.r k hk)).2 h9
theorem RC.snd {cs : List In} (h : RC cs) {k : Nat} (hk : k < cs.length) : sound0 (cs.getD k In.z) = true := (right_sound (h.r k hk)).1
/-- what a sound instruction keeps -/
structure Snd (i : In) : Prop where
  op : 1 ≤ i.op ∧ i.op ≤ 9
  d : (i.op = 1 ∨ i.op = 2 ∨ i.op = 3 ∨ i.op = 4 ∨ i.op = 6) → 0 ≤ i.dst ∧ i.dst < 8
  a : (i.op = 2 ∨ i.op = 3 ∨ i.op = 6 ∨ i.op = 9) → 0 ≤ i.ra ∧ i.ra < 8
  a5 : i.op = 5 → -1 ≤ i.ra ∧ i.ra < 8
  b : i.op = 3 → -1 ≤ i.rb ∧ i.rb < 8
  x : (i.op = 4 ∨ i.op = 5 ∨ i.op = 6) → -1 ≤ i.ix ∧ i.ix < 8
theorem rn_of {r : Int} (h : isRegOrNone0 r = true) : -1 ≤ r ∧ r < 8 := by
  unfold isRegOrNone0 at h
  split at h
  · omega
  · simp at h; omega
theorem acc_of {i : In} (h : isAccess0 i = true) : -1 ≤ i.ix ∧ i.ix < 8 := by
  unfold isAccess0 at h
  split at h
  · split at h
    · split at h
      · next h1 => exact rn_of h1
      · cases h
    · cases h
  · cases h
theorem snd_of {i : In} (h : sound0 i = true) : Snd i := by
  unfold sound0 at h
  by_cases h1 : i.op = 1
  · rw [if_pos h1] at h; simp at h
    exact ⟨by omega, fun _ => by omega, fun h => by omega, fun h => by omega, fun h => by omega, fun h => by omega⟩
  rw [if_neg h1] at h
  by_cases h2 : i.op = 2
  · rw [if_pos h2] at h
    split at h
    · next q => simp at h q; exact ⟨by omega, fun _ => by omega, fun _ => by omega, fun h => by omega, fun h => by omega, fun h => by omega⟩
    · cases h
  rw [if_neg h2] at h
  by_cases h3 : i.op = 3
  · rw [if_pos h3] at h
    split at h
    · next q =>
      split at h
      · next q2 => simp at h q q2; have := rn_of h.1.1; exact ⟨by omega, fun _ => by omega, fun _ => by omega, fun h => by omega, fun _ => by omega, fun h => by omega⟩
      · cases h
    · cases h
  rw [if_neg h3] at h
  by_cases h4 : i.op = 4
  · rw [if_pos h4] at h
    split at h
    · next q => rw [Bool.and_eq_true] at h; simp at q; have := acc_of h.1; exact ⟨by omega, fun _ => by omega, fun h => by omega, fun h => by omega, fun h => by omega, fun _ => by omega⟩
    · cases h
  rw [if_neg h4] at h
  by_cases h5 : i.op = 5
  · rw [if_pos h5] at h
    split at h
    · next q => have := rn_of q; have := acc_of h; exact ⟨by omega, fun h => by omega, fun h => by omega, fun _ => by omega, fun h => by omega, fun _ => by omega⟩
    · cases h
  rw [if_neg h5] at h
  by_cases h6 : i.op = 6
  · rw [if_pos h6] at h
    split at h
    · next q =>
      split at h
      · next q2 => rw [Bool.and_eq_true] at h; simp at q q2; have := acc_of h.1; exact ⟨by omega, fun _ => by omega, fun _ => by omega, fun h => by omega, fun h => by omega, fun _ => by omega⟩
      · cases h
    · cases h
  rw [if_neg h6] at h
  by_cases h7 : i.op = 7
  · exact ⟨by omega, fun h => by omega, fun h => by omega, fun h => by omega, fun h => by omega, fun h => by omega⟩
  rw [if_neg h7] at h
  by_cases h8 : i.op = 8
  · exact ⟨by omega, fun h => by omega, fun h => by omega, fun h => by omega, fun h => by omega, fun h => by omega⟩
  rw [if_neg h8] at h
  by_cases h9 : i.op = 9
  · rw [if_pos h9] at h; simp at h
    exact ⟨by omega, fun h => by omega, fun _ => by omega, fun h => by omega, fun h => by omega, fun h => by omega⟩
  rw [if_neg h9] at h
  cases h
theorem RC.sn {cs : List In} (h : RC cs) {k : Nat} (hk : k < cs.length) : Snd (cs.getD k In.z) := snd_of (h.snd hk)
def PaJ (ls : List (List Int)) : SV → World → World → Prop := fun x w w' => PJ ls w.heap.size x w'
theorem Paths_ (cs : List In) (c : Nat) (hr : chkE cs = 0) : FnW Try.prog 11 [.sl 0 cs.length c] [lsC cs] [] (fun _ => True) (PaJ (pths cs 0)) := by
  have hc := rc_of hr
  refine enterW (n := 17) (by kernel_rfl) Try.func11 rfl rfl rfl (fun i e h => by cases i with | zero => cases h; rfl | succ i => cases h) fun G w a h0 ho hp A => ?_
  refine N hX 10 A rfl rfl fun A => CALL1 [1, 0] (Check_ cs c) A rfl rfl rfl rfl rfl rfl rfl fun A => N hX 15 A rfl rfl fun A => forkN 14 A rfl (fun h1 A => absurd hr h1) (fun h1 A => ?_)
  refine N hX 6 A rfl rfl fun {G2 a2 w2} A => ?_
  refine CALLW [0] (onward_ cs c hc.n hc.brs (cs.length + 1) 0 [] none 0 (by omega) (.inl rfl) (by omega) (by have := hc.n; simp; omega)) A (World.ownsRow_nil _ _ _ _) (fun i e L _ _ _ => rfl) (fun b hb => by cases hb) rfl rfl rfl rfl rfl fun {x a3 w3} m1 J1 A1 => ?_
  obtain ⟨⟨b, cp, L, rfl, hP, hl⟩, _⟩ := J1
  have hw := A.mix.size
  have B := (A1.cut [16] rfl).trunc 1 rfl rfl rfl (by simp at h0; omega)
  have A := B.base
  refine N hX 4 A rfl rfl fun {G4 a4 w4} A => ?_
  refine RETW hX (B.trans A) rfl rfl rfl rfl ⟨b, cp, L, rfl, (hP.mix A.mix Mix.lt0).le hw, ?_⟩
  rw [hl]; simp
end Go.Proofs.Ytmieaninmidelaa
/- The reference's paths. -/
namespace Go.Proofs.Ytmieaninmidelaa
open Go.RowKit
set_option linter.unusedVariables false
set_option linter.unusedSimpArgs false
set_option linter.unusedSectionVars false
set_option maxRecDepth 100000
set_option maxHeartbeats 2000000
set_option simprocs false
/-- a row of paths that grows: nil, or at an address -/
def OutP (lo : Nat) (w : World) (ao : Option Addr) (cp : Nat) (L : List Pt) : Prop := (ao = none ∧ cp = 0 ∧ L = []) ∨ ∃ b, ao = some ⟨b, 0, none⟩ ∧ Pths lo w b cp L
section
variable {lo cp c' : Nat} {w w' : World} {L : List Pt} {ks : List Nat} {ao ao' : Option Addr} {q : Pt}
theorem OutP.ro (h : OutP lo w ao cp L) : Ro 29 w ao L.length cp (L.map Pt.v) := by
  rcases h with ⟨rfl, rfl, rfl⟩ | ⟨b, rfl, h⟩
  · exact World.ownsRow_nil _ _ _ _
  · exact h.ro
theorem OutP.lob (h : OutP lo w ao cp L) : ∀ k, (bl ao).contains k = true → lo ≤ k := fun k hk => by
  rcases h with ⟨rfl, rfl, rfl⟩ | ⟨b, rfl, h⟩
  · cases hk
  · rw [bl_some] at hk; subst hk; exact h.lb
theorem OutP.mix (h : OutP lo w ao cp L) (m : Mix ks w w') (hk : ∀ k, lo ≤ k → k < w.heap.size → ks.contains k = false) : OutP lo w' ao cp L := by
  rcases h with ⟨rfl, rfl, rfl⟩ | ⟨b, rfl, h⟩
  · exact .inl ⟨rfl, rfl, rfl⟩
  · exact .inr ⟨b, rfl, h.ro.mix m fun k hk' => by rw [bl_some] at hk'; subst hk'; exact hk _ h.lb h.lt, h.lb, fun p hp => ⟨(h.el p hp).ro.mix m fun k hk' => hk k ((h.el p hp).lo k hk').1 ((h.el p hp).ro.lt hk'), (h.el p hp).lo⟩, h.ap⟩
/-- one path more -/
theorem OutP.snoc (h : OutP lo w ao cp L) (hq : Ro 3 w q.ao q.ps.length q.cp (iv q.ps)) (hlo : ∀ k, (bl q.ao).contains k = true → lo ≤ k ∧ (bl ao).contains k = false ∧ ∀ p ∈ L, (bl p.ao).contains k = false) (hll : lo ≤ w.heap.size) (m : Mix (bl ao) w w') (hr : Ro 29 w' ao' (L.length + 1) c' (L.map Pt.v ++ [q.v])) (hb : bl ao' = bl ao ∨ bl ao' = [w.heap.size]) : OutP lo w' ao' c' (L ++ [q]) := by
  rcases hr.addr with ⟨_, h1, _⟩ | ⟨b', rfl⟩
  · omega
  · refine .inr ⟨b', rfl, by rw [List.length_append, List.map_append]; exact hr, ?_, ?_, ?_⟩
    · rcases hb with hb | hb
      · exact h.lob b' (by rw [← hb]; exact bl_some.2 rfl)
      · have : b' = w.heap.size := by have := congrArg (fun l => l.contains b') hb; simp [bl] at this; omega
        omega
    · have hne : ∀ k, k < w.heap.size → (bl ao).contains k = false → k ≠ b' := fun k h1 h2 e => by
        subst e
        rcases hb with hb | hb
        · rw [← hb, bl_some.2 rfl] at h2; cases h2
        · have := congrArg (fun l => l.contains k) hb; simp [bl] at this; omega
      intro p hp
      rcases List.mem_append.1 hp with hp | hp
      · rcases h with ⟨rfl, rfl, rfl⟩ | ⟨b, rfl, h⟩
        · cases hp
        · exact ⟨(h.el p hp).ro.mix m fun k hk => bl_no ((h.el p hp).lo k hk).2, fun k hk => ⟨((h.el p hp).lo k hk).1, hne k ((h.el p hp).ro.lt hk) (bl_no ((h.el p hp).lo k hk).2)⟩⟩
      · simp at hp
        subst hp
        exact ⟨hq.mix m fun k hk => (hlo k hk).2.1, fun k hk => ⟨(hlo k hk).1, hne k (hq.lt hk) (hlo k hk).2.1⟩⟩
    · refine List.pairwise_append.2 ⟨?_, by simp, fun p hp r hr' k hk => ?_⟩
      · rcases h with ⟨rfl, rfl, rfl⟩ | ⟨b, rfl, h⟩
        · exact List.Pairwise.nil
        · exact h.ap
      · simp at hr'
        subst hr'
        cases hc : (bl r.ao).contains k with
        | false => rfl
        | true => have := (hlo k hc).2.2 p hp; rw [hk] at this; cases this
theorem OutP.lt (h : OutP lo w ao cp L) : (∀ k, (bl ao).contains k = true → k < w.heap.size) ∧ ∀ p ∈ L, ∀ k, (bl p.ao).contains k = true → k < w.heap.size := by
  refine ⟨fun k hk => h.ro.lt hk, fun p hp k hk => ?_⟩
  rcases h with ⟨rfl, rfl, rfl⟩ | ⟨b, rfl, h⟩
  · cases hp
  · exact (h.el p hp).ro.lt hk
end
section
variable {P : Program} {n : Nat} {ks : List Nat} {G0 : Gr} {w0 : World} {T : List (Nat × SV)} {H : Hp} {G : Gr} {a : Act} {w w' : World} {ops : Array Oper} {o : Oper} {rest : List Oper} {Q : Exit → Act → World → Prop} {K : List Fr}
/-- a path is appended, be it nil -/
theorem APP {Y : Tb} {x y : Operand} {t b nn cp : Nat} {ti : TI} {ao : Option Addr} {p : Pt} {xs : List Value} (hX : Y.ok P = true) (A : Sy n T H ks G0 w0 G a w) (hg : guardS ops T o.guard = some .run) (hd : fitsD n o.dst = true) (hop : o.op = .call { callee := .builtin .append, args := #[x, y], argTypes := #[t, t] })
    (hx : evS T x = some (.sla ao nn cp)) (hy : evS T y = some (.sla p.ao p.ps.length p.cp)) (hti : Y.get t = some ti) (hel : ti.elm = some (3, 1, b)) (hb : Nat.ble b 10000 = true) (hro : Ro 3 w ao nn cp xs) (hp : Ro 3 w p.ao p.ps.length p.cp (iv p.ps)) (hnn : nn ≤ 1000000) (hm : p.ps.length ≤ 1000000) (hoff : Off H G (bl ao)) (hk : ∀ b, (bl ao).contains b = true → ks.contains b = true ∨ w0.heap.size ≤ b)
    (k : ∀ {a w'} ao' cp', Ro 3 w' ao' (nn + p.ps.length) cp' (xs ++ iv p.ps) → Mix (bl ao) w w' → (bl ao' = bl ao ∨ bl ao' = [w.heap.size]) → Sy n (extS T o.dst (.sla ao' (nn + p.ps.length) cp')) H ks G0 w0 G a w' → Goal P Q K (.ops ops rest) a w') : Goal P Q K (.ops ops (o :: rest)) a w := by
  rcases hp.addr with ⟨h1, h2, h3⟩ | ⟨b', h1⟩
  · have hw := gd_run (gd := none) A hg
    obtain ⟨d, op, ty, pos, af, gd⟩ := o
    simp only at hop
    subst hop
    obtain ⟨ie, z, f1, f2, f3, f4, f5, f6, f7⟩ := elem_facts (ti_elm (i := ti) (Tb.at (X := Y) hX hti) hel)
    have hps : p.ps = [] := List.eq_nil_of_length_eq_zero h2
    have hvx := A.ev hx
    have hvy := A.ev hy
    unfold den at hvx hvy
    rw [h1, h2, h3] at hvy
    simp only [Option.some.injEq] at hvx hvy
    have hnc : nn ≤ cp := by
      rcases hro.2 with ⟨q1, q2⟩ | ⟨g, cap, cur, q1, _, _, q4, _⟩
      · cases q1; omega
      · cases q1; exact q4
    have hr := run_append_nothing (P := P) w t t ty 3 ie f1 f2 ao nn cp hnc _ (Src.ofNil w f1 0)
    refine q_does (Q := wpK P Q K) (does_val (v := .slice ao nn cp) (w' := w) hw ?_ ?_)
    · unfold execOp
      simp only [resolve, invoke, builtin, Sem.run_bind, Sem.run_pure, Result.andThen_ok, List.map_toArray, List.map_cons, List.map_nil, ← hvx, ← hvy, hr]
    · refine k ao cp ?_ (Mix.refl _ _) (.inl rfl) ?_
      · rw [hps]; simpa using hro
      · rw [h2]; exact Sy.put A hd rfl
  · rw [h1] at hp hy
    exact APW hX A hg hd hop hx hy hti hel hb hro rfl (by simp) hp.cell (fun u hu => by simp at hu; obtain ⟨q, _, rfl⟩ := hu; rfl) hnn hm hoff hk fun ao' cp' q1 q2 q3 q4 q5 => k ao' cp' q1 q3 q4 q5
end
end Go.Proofs.Ytmieaninmidelaa
