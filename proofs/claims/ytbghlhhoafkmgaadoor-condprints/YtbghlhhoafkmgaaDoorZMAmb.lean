/- Contracts under what holds of memory all along (tables that were laid before, trees that are only read): it stands as long as only what was handed in, or is new, is turned. -/
import Derived.Test.YtbghlhhoafkmgaaDoorCondJudgesP5
namespace Go.Proofs.YtbghlhhoafkmgaaDoor
open Go.RowKit
set_option linter.unusedVariables false
set_option linter.unusedSimpArgs false
set_option linter.unusedSectionVars false

/-- what holds of blocks that are not among these -/
abbrev Amb := World → List Nat → Prop
/-- it goes on to hold -/
def Amb.OK (I : Amb) : Prop := ∀ w ks w' ks', I w ks → Mix ks w w' → (∀ b, ks'.contains b = true → ks.contains b = true ∨ w.heap.size ≤ b) → I w' ks'
/-- a function's contract, where that holds -/
def FnI (I : Amb) (P : Program) (f : Nat) (args : List SV) (H : Hp) (R : SV → Hp → Prop) : Prop :=
  Ent_ P f = some (false, false) ∧ ∀ G w vs, Mem H G w → I w (keys H G) → denL G args = some vs → Calls P f vs.toArray w (Post R H G w)
/-- a contract here and now -/
def FnAt (P : Program) (f : Nat) (args : List SV) (H' : Hp) (R : SV → Hp → Prop) (Gp : Gr) (w : World) (ks : List Nat) (w0 : World) : Prop :=
  Ent_ P f = some (false, false) ∧ ∀ vs, Mem H' Gp w → (∀ b, (keys H' Gp).contains b = true → ks.contains b = true ∨ w0.heap.size ≤ b) → denL Gp args = some vs → Calls P f vs.toArray w (Post R H' Gp w)
theorem Fn.toI {I : Amb} {P : Program} {f : Nat} {args : List SV} {H : Hp} {R : SV → Hp → Prop} (h : Fn P f args H R) : FnI I P f args H R := ⟨h.1, fun G w vs hM _ hv => h.2 G w vs hM hv⟩
theorem FnI.mono {I J : Amb} {P : Program} {f : Nat} {args : List SV} {H : Hp} {R : SV → Hp → Prop} (h : FnI I P f args H R) (hj : ∀ w ks, J w ks → I w ks) : FnI J P f args H R := ⟨h.1, fun G w vs hM hJ hv => h.2 G w vs hM (hj _ _ hJ) hv⟩
section
variable {P : Program} {X : Tx} {n : Nat} {ks : List Nat} {G0 : Gr} {w0 : World} {T : List (Nat × SV)} {H : Hp} {G : Gr} {a : Act} {w : World} {ops : Array Oper} {o : Oper} {rest : List Oper} {Q : Exit → Act → World → Prop} {K : List Fr} {I : Amb}
theorem FnI.at {f : Nat} {args : List SV} {H' : Hp} {R : SV → Hp → Prop} (h : FnI I P f args H' R) (hI : I.OK) (h0 : I w0 ks) (hm : Mix ks w0 w) {Gp : Gr} : FnAt P f args H' R Gp w ks w0 :=
  ⟨h.1, fun vs hM hown hv => h.2 Gp w vs hM (hI _ _ _ _ h0 hm hown) hv⟩
theorem call_doI {f : Nat} {args az : List SV} {H' l : Hp} {R R2 : SV → Hp → Prop} (m : List Nat) (A : Sy n T H ks G0 w0 G a w) (hf : FnAt P f args H' R (pickG m G) w ks w0) (h1 : callS n ops T o = some (f, az)) (h2 : renL m args = some az) (h3 : renH m H' = some l) (h4 : pickH H m = some l) (h5 : ndB m = true)
    (hk : ∀ x H2, R x H2 → ∃ y l2, renO (m ++ rngF H.length (H2.length - m.length)) x = some y ∧ renH (m ++ rngF H.length (H2.length - m.length)) H2 = some l2 ∧ R2 y (putAll H m l2)) : Does P ops o a w fun v w' => ∃ y H3 F, R2 y H3 ∧ den (G ++ F) y = some v ∧ Sy n T H3 ks G0 w0 (G ++ F) a w' := by
  obtain ⟨hent, hf⟩ := hf
  obtain ⟨hd, vs, hv, hdo⟩ := callS_do (P := P) (ops := ops) A h1 hent
  obtain ⟨p1, p2, p3⟩ := pickH_at h4
  obtain ⟨r1, r2⟩ := renH_at h3
  have hlen := A.mem.len
  have hm : ∀ j ∈ m, j < G.length := fun j hj => by rw [← hlen]; exact p2 j hj
  have hM := A.mem.sub h4 h3 h5
  have hv' : denL (pickG m G) args = some vs := by rw [denL_ren hm args h2]; exact hv
  have hml : H'.length = m.length := by rw [← r1, p1]
  have hpl : (pickG m G).length = m.length := by simp [pickG]
  -- blocks that are handed on
  have hkey : ∀ b, (keys H' (pickG m G)).contains b = true → ∃ i e L, i ∈ m ∧ H[i]? = some (some e) ∧ e.mut = true ∧ G[i]? = some (some L) ∧ L.b = b := by
    intro b hb
    obtain ⟨i, e, L, k1, km, k2, k3⟩ := mem_keys.1 hb
    obtain ⟨f, q1, q2⟩ := r2 i _ k1
    obtain ⟨f', rfl⟩ := renE_some q2
    have hi : i < m.length := by rw [← p1]; exact (List.getElem?_eq_some_iff.1 q1).1
    have hj : m[i]? = some m[i] := by simp [hi]
    rw [pickG_at hm hj] at k2
    rw [p3 i _ hj] at q1
    exact ⟨m[i], f', L, List.getElem_mem hi, q1, by rw [(renE_mut q2).1]; exact km, k2, k3⟩
  have hown : ∀ b, (keys H' (pickG m G)).contains b = true → ks.contains b = true ∨ w0.heap.size ≤ b := by
    intro b hb
    obtain ⟨i, e, L, _, k1, k2, k3, k4⟩ := hkey b hb
    subst k4
    exact A.own i e L k1 k2 k3
  refine hdo (hf vs hM hown hv') ?_
  rintro e w' ⟨x, H2, F, v, hR, hx, rfl, hM2, hmix, hll, hkept, hfr⟩
  refine ⟨v, rfl, ?_⟩
  obtain ⟨y, l2, e1, e2, e3⟩ := hk x H2 hR
  obtain ⟨s1, s2⟩ := renH_at e2
  have hH2 : H2.length = m.length + F.length := by have := hM2.len; simp [hpl] at this; exact this
  have hml2 : m.length ≤ l2.length := by rw [s1, hH2]; omega
  have hcnt : H2.length - m.length = F.length := by omega
  rw [hcnt] at e1 e2 s2
  have hrl : (rngF H.length F.length).length = F.length := rngF_len _ _
  have hpk : pickG (m ++ rngF H.length F.length) (G ++ F) = pickG m G ++ F := by
    have a1 : pickG m (G ++ F) = pickG m G := by
      unfold pickG
      refine List.map_congr_left fun j hj => ?_
      rw [List.getElem?_append_left (hm j hj)]
    have a2 : pickG (rngF H.length F.length) (G ++ F) = F := by
      apply List.ext_getElem?
      intro i
      by_cases hi : i < F.length
      · unfold pickG
        rw [List.getElem?_map, rngF_at _ _ _ hi]
        simp only [Option.map_some]
        rw [List.getElem?_append_right (by omega), show H.length + i - G.length = i by omega]
        simp [hi]
      · rw [List.getElem?_eq_none (by simp [pickG, hrl]; omega), List.getElem?_eq_none (by omega)]
    rw [show pickG (m ++ rngF H.length F.length) (G ++ F) = pickG m (G ++ F) ++ pickG (rngF H.length F.length) (G ++ F) by simp [pickG], a1, a2]
  have hm2 : ∀ j ∈ m ++ rngF H.length F.length, j < (G ++ F).length := by
    intro j hj
    rcases List.mem_append.1 hj with hj | hj
    · have := hm j hj; simp; omega
    · obtain ⟨k, hk⟩ := List.mem_iff_getElem?.1 hj
      have hk' : k < F.length := by have := (List.getElem?_eq_some_iff.1 hk).1; rwa [hrl] at this
      rw [rngF_at _ _ _ hk'] at hk
      cases hk
      simp; omega
  -- an entry of the new list: handed on, left, or new
  have cases3 : ∀ (i : Nat) (e : Ent), (putAll H m l2)[i]? = some (some e) →
      (∃ (k : Nat) (e' : Ent), (m ++ rngF H.length F.length)[k]? = some i ∧ H2[k]? = some (some e') ∧ renE (m ++ rngF H.length F.length) (some e') = some (some e)) ∨ (i ∉ m ∧ H[i]? = some (some e) ∧ i < H.length) := by
    intro i e he
    have back : ∀ k : Nat, l2[k]? = some (some e) → ∃ e', H2[k]? = some (some e') ∧ renE (m ++ rngF H.length F.length) (some e') = some (some e) := by
      intro k hk
      have hklt : k < H2.length := by rw [← s1]; exact (List.getElem?_eq_some_iff.1 hk).1
      obtain ⟨f, t1, t2⟩ := s2 k H2[k] (by simp [hklt])
      rw [hk] at t1
      cases t1
      cases hq : H2[k] with
      | none => rw [hq] at t2; cases t2
      | some e' => rw [hq] at t2; exact ⟨e', by simp [hklt, hq], t2⟩
    rcases putAll_at (H := H) (l := l2) hml2 h5 p2 i with ⟨k, q1, q2⟩ | ⟨q1, q2, q3⟩ | ⟨q1, q2⟩
    · rw [q2] at he
      obtain ⟨e', b1, b2⟩ := back k he
      exact .inl ⟨k, e', by rw [List.getElem?_append_left (List.getElem?_eq_some_iff.1 q1).1]; exact q1, b1, b2⟩
    · rw [q3] at he; exact .inr ⟨q1, he, q2⟩
    · rw [q2] at he
      obtain ⟨e', b1, b2⟩ := back _ he
      have hlt : i - H.length < F.length := by have := (List.getElem?_eq_some_iff.1 b1).1; omega
      refine .inl ⟨_, e', ?_, b1, b2⟩
      rw [List.getElem?_append_right (by omega), show m.length + (i - H.length) - m.length = i - H.length by omega, rngF_at _ _ _ hlt]
      congr 1; omega
  have hGi : ∀ (i k : Nat), (m ++ rngF H.length F.length)[k]? = some i → (pickG m G ++ F)[k]? = (G ++ F)[i]? := fun i k hk => by rw [← hpk, pickG_at hm2 hk]
  have hleft : ∀ i : Nat, i < H.length → (G ++ F)[i]? = G[i]? := fun i hi => List.getElem?_append_left (by omega)
  -- blocks of what is left are not handed on
  have hoff : ∀ (i : Nat) (e : Ent) (L : Loc), (i ∉ m ∨ e.mut = false) → H[i]? = some (some e) → G[i]? = some (some L) → ¬ e.empty → (keys H' (pickG m G)).contains L.b = false := by
    intro i e L hi he hL hne
    cases hc : (keys H' (pickG m G)).contains L.b with
    | false => rfl
    | true =>
      obtain ⟨j, e', L', k0, k1, k2, k3, k4⟩ := hkey _ hc
      refine absurd k4 (A.mem.sep j i e' e L' L (fun h => ?_) k1 he k2 k3 hL hne)
      subst h
      rcases hi with hi | hi
      · exact hi k0
      · rw [k1] at he; cases he; rw [k2] at hi; cases hi
  have hLlt : ∀ (i : Nat) (e : Ent) (L : Loc), H[i]? = some (some e) → G[i]? = some (some L) → ¬ e.empty → L.b < w.heap.size := by
    intro i e L he hL hne
    have := A.mem.ent i e he
    rw [hL] at this
    exact EntOK.lt this hne
  -- a list that is read, of what was handed on, is the caller's own
  have hread : ∀ (i k : Nat) (e e' : Ent), (m ++ rngF H.length F.length)[k]? = some i → H2[k]? = some (some e') → renE (m ++ rngF H.length F.length) (some e') = some (some e) → e.mut = false → H[i]? = some (some e) ∧ i < H.length := by
    intro i k e e' t1 t2 t3 t4
    have h6 : e'.mut = false := by rw [← (renE_mut t3).1]; exact t4
    have h7 := hkept k e' t2 h6
    obtain ⟨f, q1, q2⟩ := r2 k _ h7
    obtain ⟨f', rfl⟩ := renE_some q2
    have hk' : k < m.length := by rw [← p1]; exact (List.getElem?_eq_some_iff.1 q1).1
    rw [List.getElem?_append_left hk'] at t1
    rw [p3 k i t1] at q1
    have : e = f' := by
      cases e' with
      | lst s n g => cases q2; cases t3; rfl
      | fac b o => cases q2; cases t3; rfl
      | blk => cases h6
      | row => cases h6
    subst this
    exact ⟨q1, (List.getElem?_eq_some_iff.1 q1).1⟩
  refine ⟨y, _, F, e3, ?_, ⟨A.size, A.defers, fun t z hz => den_mono F z (A.get t z hz), ⟨?_, ?_, ?_⟩, ?_, ?_, ?_⟩⟩
  · rw [← den_ren hm2 x e1, hpk]; exact hx
  · rw [putAll_len hml2, s1, hH2]; simp; omega
  · intro i e he
    rcases cases3 i e he with ⟨k, e', t1, t2, t3⟩ | ⟨t1, t2, t3⟩
    · have := hM2.ent k e' t2
      rw [← hpk] at this
      exact (ent_ren hm2 t1 t3).1 this
    · rw [hleft i t3]
      refine ((A.mem.ent i e t2).mix hmix fun hne L hL => ?_).more F
      refine hoff i e L (.inl t1) t2 ?_ hne
      cases hq : G[i]? with
      | none => rw [hq] at hL; cases hL
      | some p => rw [hq] at hL; simp at hL; rw [hL]
  · intro i j e f L M hij he hf' hmut hL hM' hne
    -- one that is not turned: az it was in the caller's list
    have still : ∀ (i' : Nat) (e' : Ent), (putAll H m l2)[i']? = some (some e') → (∃ (k : Nat) (e'' : Ent), (m ++ rngF H.length F.length)[k]? = some i' ∧ H2[k]? = some (some e'') ∧ renE (m ++ rngF H.length F.length) (some e'') = some (some e') ∧ e'.mut = true) ∨ ((i' ∉ m ∨ e'.mut = false) ∧ H[i']? = some (some e') ∧ i' < H.length) := by
      intro i' e' he'
      rcases cases3 i' e' he' with ⟨k, e'', t1, t2, t3⟩ | ⟨t1, t2, t3⟩
      · cases hm' : e'.mut with
        | true => exact .inl ⟨k, e'', t1, t2, t3, rfl⟩
        | false => obtain ⟨g1, g2⟩ := hread i' k e' e'' t1 t2 t3 hm'; exact .inr ⟨.inr rfl, g1, g2⟩
      · exact .inr ⟨.inl t1, t2, t3⟩
    rcases still i e he with ⟨k, e', t1, t2, t3, t4⟩ | ⟨t1, t2, t3⟩
    · rcases still j f hf' with ⟨k', f', u1, u2, u3, u4⟩ | ⟨u1, u2, u3⟩
      · rw [← hGi i k t1] at hL
        rw [← hGi j k' u1] at hM'
        refine hM2.sep k k' e' f' L M (fun h => hij ?_) t2 u2 (by rw [← (renE_mut t3).1]; exact t4) hL hM' (fun h => hne ((renE_mut u3).2.2 h))
        subst h
        rw [t1] at u1
        exact Option.some.inj u1
      · rw [← hGi i k t1] at hL
        rw [hleft j u3] at hM'
        have h6 := hfr k e' t2 (by rw [← (renE_mut t3).1]; exact t4) L hL
        intro hLM
        rcases h6 with h6 | h6
        · rw [hLM, hoff j f M u1 u2 hM' hne] at h6; cases h6
        · have := hLlt j f M u2 hM' hne; omega
    · rcases still j f hf' with ⟨k', f', u1, u2, u3, u4⟩ | ⟨u1, u2, u3⟩
      · rw [← hGi j k' u1] at hM'
        rw [hleft i t3] at hL
        have h6 := hfr k' f' u2 (by rw [← (renE_mut u3).1]; exact u4) M hM'
        intro hLM
        rcases h6 with h6 | h6
        · rw [← hLM, hoff i e L t1 t2 hL (mut_full hmut)] at h6; cases h6
        · have := hLlt i e L t2 hL (mut_full hmut); omega
      · rw [hleft i t3] at hL
        rw [hleft j u3] at hM'
        exact A.mem.sep i j e f L M hij t2 u2 hmut hL hM' hne
  · obtain ⟨F0, hF0⟩ := A.pre
    exact ⟨F0 ++ F, by rw [hF0, List.append_assoc]⟩
  · intro i e L he hmut hL
    rcases cases3 i e he with ⟨k, e', t1, t2, t3⟩ | ⟨t1, t2, t3⟩
    · rw [← hGi i k t1] at hL
      rcases hfr k e' t2 (by rw [← (renE_mut t3).1]; exact hmut) L hL with h6 | h6
      · exact hown _ h6
      · right; exact Nat.le_trans A.mix.size h6
    · rw [hleft i t3] at hL; exact A.own i e L t2 hmut hL
  · refine A.mix.mix hmix fun k hkl hkc => ?_
    cases hc : (keys H' (pickG m G)).contains k with
    | false => rfl
    | true =>
      rcases hown k hc with h6 | h6
      · rw [h6] at hkc; cases hkc
      · omega

theorem CALLI {f : Nat} {args az : List SV} {H' H2 l l2 : Hp} {x y : SV} (m : List Nat) (hI : I.OK) (h0 : I w0 ks) (hf : FnI I P f args H' (Rt x H2)) (A : Sy n T H ks G0 w0 G a w) (h1 : callS n ops T o = some (f, az)) (h2 : renL m args = some az) (h3 : renH m H' = some l) (h4 : pickH H m = some l) (h5 : ndB m = true)
    (h6 : renO (m ++ rngF H.length (H2.length - m.length)) x = some y) (h7 : renH (m ++ rngF H.length (H2.length - m.length)) H2 = some l2) (hk : ∀ {G a w}, Sy n (extS T o.dst y) (putAll H m l2) ks G0 w0 G a w → Goal P Q K (.ops ops rest) a w) : Goal P Q K (.ops ops (o :: rest)) a w := by
  have hd := (callS_do (P := P) (ops := ops) A h1 hf.1).1
  refine q_does (Q := wpK P Q K) ?_
  rcases call_doI (R2 := fun y H3 => ∀ {G a w}, Sy n (extS T o.dst y) H3 ks G0 w0 G a w → Goal P Q K (.ops ops rest) a w) m A (hf.at hI h0 A.mix) h1 h2 h3 h4 h5 (fun x' H' ⟨e1, e2⟩ => by subst e1; subst e2; exact ⟨y, l2, h6, h7, hk⟩) with ⟨hw, h⟩ | ⟨hw, y, H3, F, g1, g2, g3⟩
  · refine .inl ⟨hw, fun Q' => ?_⟩
    refine Oper.wp_mono (fun a' w' hh => ?_) (h Q')
    obtain ⟨v, rfl, y, H3, F, g1, g2, g3⟩ := hh
    exact ⟨v, rfl, g1 (Sy.put g3 hd g2)⟩
  · exact .inr ⟨hw, g1 (Sy.put g3 hd g2)⟩
theorem callIE {f : Nat} {args az : List SV} {H' H2 l l2 : Hp} {x y : SV} (m : List Nat) (hI : I.OK) (h0 : I w0 ks) (hf : FnI I P f args H' (Rt x H2)) (h1 : callS n ops T o = some (f, az)) (h2 : renL m args = some az) (h3 : renH m H' = some l) (h4 : pickH H m = some l) (h5 : ndB m = true)
    (h6 : renO (m ++ rngF H.length (H2.length - m.length)) x = some y) (h7 : renH (m ++ rngF H.length (H2.length - m.length)) H2 = some l2) : EffOK P n ops ks G0 w0 T H o y (putAll H m l2) := by
  intro G a w A
  rcases call_doI (R2 := fun z H3 => z = y ∧ H3 = putAll H m l2) m A (hf.at hI h0 A.mix) h1 h2 h3 h4 h5 (fun x' H' ⟨e1, e2⟩ => by subst e1; subst e2; exact ⟨y, l2, h6, h7, rfl, rfl⟩) with ⟨hw, h⟩ | ⟨hw, z, H3, F, ⟨rfl, rfl⟩, g2, g3⟩
  · refine .inl ⟨hw, fun Q' => ?_⟩
    refine Oper.wp_mono (fun a' w' hh => ?_) (h Q')
    obtain ⟨v, rfl, z, H3, F, ⟨rfl, rfl⟩, g2, g3⟩ := hh
    exact ⟨v, rfl, F, g2, g3.ms⟩
  · exact .inr ⟨hw, F, g2, g3.ms⟩
theorem enterI {f : Nat} {fn : Func} {c : Code} {args : List SV} {R : SV → Hp → Prop} (hent : Ent_ P f = some (false, false)) (hf : P.funcs[f]? = some fn) (hb : fn.body = some c) (hn : fn.ntmps = n) (hl : Nat.ble args.length n = true)
    (h : ∀ G w a, H.length = G.length → I w (keys H G) → Sy n (argS args 0) H (keys H G) G w G a w → Goal P (bodyPost P fn (Post R H G w)) [] (.code c) a w) : FnI I P f args H R := by
  refine ⟨hent, fun G w vs hM hI hv => ?_⟩
  refine calls_of_wp hf hb (h G w _ hM.len hI ⟨?_, rfl, fun t x hx => ?_, hM, ⟨[], by simp⟩, fun i e L h1 h2 h3 => .inl (mem_keys.2 ⟨i, e, L, h1, h2, h3, rfl⟩), Mix.refl _ _⟩)
  · have := denL_len hv
    have := Nat.le_of_ble_eq_true hl
    simp [hn]; omega
  · obtain ⟨_, h2⟩ := argS_look hx
    simp only [Nat.sub_zero] at h2
    obtain ⟨v, h3, h4⟩ := denL_get hv h2
    have hlt : t < vs.length := (List.getElem?_eq_some_iff.1 h3).1
    rw [h4]
    simp [Array.getD_eq_getD_getElem?, Array.getElem?_append, hlt] at h3 ⊢
    exact h3.symm
end
end Go.Proofs.YtbghlhhoafkmgaaDoor
