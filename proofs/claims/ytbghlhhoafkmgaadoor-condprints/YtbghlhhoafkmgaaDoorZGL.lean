/- The texts of both sides are one. -/
import Derived.Test.YtbghlhhoafkmgaaDoorZGJ
import Derived.Test.YtbghlhhoafkmgaaDoorZGK
namespace Go.Proofs.YtbghlhhoafkmgaaDoor
open Go.RowKit
set_option linter.unusedVariables false
set_option linter.unusedSimpArgs false
set_option linter.unusedSectionVars false

/-- is a slice nil that is? -/
theorem nilaE {P : Program} {n : Nat} {ks : List Nat} {G0 : Gr} {w0 : World} {T : List (Nat × SV)} {H : Hp} {ops : Array Oper} {o : Oper} {t t2 e : TypeId} {x y : Operand} (hg : guardS ops T o.guard = some .run) (hop : o.op = .binOp .eql t x y t2) (hx : evS T x = some (.sla none 0 0)) (hy : evS T y = some (.sla none 0 0)) (hu : P.underlying t = some (.slice e)) : EffOK P n ops ks G0 w0 T H o .tt H := fun G a w A => by
  have hw := gd_run (gd := none) A hg
  obtain ⟨d, op, ty, pos, af, gd⟩ := o
  simp only at hop
  subst hop
  have hvx := A.ev hx
  have hvy := A.ev hy
  simp only [den, Option.some.injEq] at hvx hvy
  refine d_bin (u := .slice none 0 0) (v := .slice none 0 0) (r := .bool true) hw hvx.symm hvy.symm ⟨by simp [eqGuard], ?_⟩ ⟨[], rfl, by rw [List.append_nil]; exact A.ms⟩
  rw [Go.Lib.run_eql_slice_nil w t e _ _ _ 0 0 hu]
  rfl
theorem ap45 (s : List UInt8) (k : Int) : apT [4, 5] s k = brk s (lvl k) 2 := by
  unfold apT brk lvl
  by_cases h5 : k = 5
  · subst h5; rfl
  · by_cases h4 : k = 4
    · subst h4; rfl
    · have : ixf k [4, 5] 0 = -1 := by simp [ixf, h4, h5]
      rw [this, if_neg h5, if_neg h4, if_neg (by decide)]
      split <;> rfl
theorem ap5 (s : List UInt8) (k : Int) : apT [5] s k = brk s (lvl k) 1 := by
  unfold apT brk lvl
  by_cases h5 : k = 5
  · subst h5; rfl
  · have : ixf k [5] 0 = -1 := by simp [ixf, h5]
    rw [this, if_neg h5, if_neg (by decide)]
    split
    · rfl
    · split <;> rfl
theorem ap0 (s : List UInt8) (k : Int) : brk s (lvl k) 0 = s := by
  unfold brk
  have h : ¬ lvl k < 0 := by
    unfold lvl
    by_cases h5 : k = 5
    · rw [if_pos h5]; decide
    · rw [if_neg h5]
      by_cases h4 : k = 4
      · rw [if_pos h4]; decide
      · rw [if_neg h4]
        by_cases h3 : k = 3
        · rw [if_pos h3]; decide
        · rw [if_neg h3]; decide
  rw [if_neg h]
theorem getD_el {ts : List Tr} {k : Nat} (h : k < ts.length) : ts.getD k (.lf Cn.z) = ts[k] := by rw [List.getD_eq_getElem?_getD, List.getElem?_eq_getElem h]; rfl
def gT (ar : Int) (t : Tr) : Pc := (tx ar t, t.c.kd)
theorem mkT_c (c : Cn) (ts : List Tr) : (mkT c ts).c = c := by unfold mkT; split <;> (try split) <;> rfl
theorem getD_map {ar : Int} {ts : List Tr} {k : Nat} (h : k < ts.length) : (ts.map (gT ar)).getD k pz = gT ar (ts.getD k (.lf Cn.z)) := by simp [List.getD, h]
section
variable {ar : Int} {R : List (List UInt8)} {c : Cn} {ts : List Tr}
theorem wr_tx (hR : ∀ g : Int, 0 ≤ g → g < 8 → R.getD (g).toNat [] = rname0 ar g) (hn : ¬ c.n < 0) (hl : c.n ≤ (ts.length : Int)) (hp : c.n = parts0 c.kd) {k : Nat} : wr0 R c.kd c.th c.rg c.lc c.vl (ts.map (gT ar)) (((ts.length : Nat) : Int) - parts0 c.kd).toNat k = tx ar (mkT c ts) := by
  rcases cn_kind hn with h | h | h | h | h
  · have hk := h.1
    unfold mkT
    rw [if_neg (by rw [← hp]; omega), if_neg (by rw [← hp]; omega), tx1 hk]
    unfold wr0
    rw [if_pos hk, hR c.rg (by omega) (by omega)]
  · have hk := h.1
    unfold mkT
    rw [if_neg (by rw [← hp]; omega), if_neg (by rw [← hp]; omega), tx2 hk]
    unfold wr0
    rw [if_neg (by omega), if_pos hk]
    have : c.lc = 0 ∨ c.lc = 1 ∨ c.lc = 2 := by omega
    rcases this with e | e | e <;> rw [e] <;> rfl
  · have hk := h.1
    have h1 : parts0 c.kd = 1 := by rw [← hp]; omega
    have hj : ((((((ts.length : Nat) : Int) - 1).toNat : Nat) : Int) + 0).toNat = (((ts.length : Nat) : Int) - 1).toNat := by omega
    unfold mkT
    rw [if_pos h1, tx3 hk]
    unfold wr0
    rw [if_neg (by omega), if_neg (by omega), if_pos hk, ap45, h1, hj, getD_map (by omega)]
    rfl
  · have hk := h.1
    have h1 : parts0 c.kd = 2 := by rw [← hp]; omega
    have hj : ((((((ts.length : Nat) : Int) - 2).toNat : Nat) : Int) + 0).toNat = (((ts.length : Nat) : Int) - 2).toNat := by omega
    have hi : ((((((ts.length : Nat) : Int) - 2).toNat : Nat) : Int) + 1).toNat = (((ts.length : Nat) : Int) - 1).toNat := by omega
    unfold mkT
    rw [if_neg (by omega), if_pos h1, tx4 hk]
    unfold wr0
    rw [if_neg (by omega), if_neg (by omega), if_neg (by omega), if_pos hk, ap45, ap5, h1, hj, hi, getD_map (by omega), getD_map (by omega)]
    simp [gT, List.append_assoc]
  · have hk := h.1
    have h1 : parts0 c.kd = 2 := by rw [← hp]; omega
    have hj : ((((((ts.length : Nat) : Int) - 2).toNat : Nat) : Int) + 0).toNat = (((ts.length : Nat) : Int) - 2).toNat := by omega
    have hi : ((((((ts.length : Nat) : Int) - 2).toNat : Nat) : Int) + 1).toNat = (((ts.length : Nat) : Int) - 1).toNat := by omega
    unfold mkT
    rw [if_neg (by omega), if_pos h1, tx5 hk]
    unfold wr0
    rw [if_neg (by omega), if_neg (by omega), if_neg (by omega), if_neg (by omega), ap5, h1, hj, hi, getD_map (by omega), getD_map (by omega), ap0]
    simp [gT, List.append_assoc]
def sz (ts : List Tr) : Nat := (ts.map Tr.nd).sum
theorem sz_app (a b : List Tr) : sz (a ++ b) = sz a + sz b := by simp [sz]
theorem sz_mk (hn : ¬ c.n < 0) (hl : c.n ≤ (ts.length : Int)) (hp : c.n = parts0 c.kd) : sz (stepB c ts) = sz ts + 1 := by
  have hd : ∀ k, k ≤ ts.length → sz ts = sz (ts.take k) + sz (ts.drop k) := fun k _ => by rw [← sz_app, List.take_append_drop]
  have one : ∀ t : Tr, sz [t] = t.nd := fun t => by simp [sz]
  unfold stepB mkT
  rw [sz_app, one, ← hp]
  rcases cn_kind hn with h | h | h | h | h
  · rw [if_neg (by omega), if_neg (by omega), h.2.1, show (((ts.length : Nat) : Int) - 0).toNat = ts.length by omega, List.take_length]; rfl
  · rw [if_neg (by omega), if_neg (by omega), h.2.1, show (((ts.length : Nat) : Int) - 0).toNat = ts.length by omega, List.take_length]; rfl
  · rw [if_pos h.2, h.2]
    have hi : (((ts.length : Nat) : Int) - 1).toNat < ts.length := by omega
    rw [hd _ (Nat.le_of_lt hi), List.drop_eq_getElem_cons hi, List.drop_eq_nil_of_le (by omega)]
    have e : ts.getD (((ts.length : Nat) : Int) - 1).toNat (.lf Cn.z) = ts[(((ts.length : Nat) : Int) - 1).toNat] := getD_el hi
    rw [e, one]
    show _ + (Tr.nd _ + 1) = _
    omega
  all_goals
    rw [if_neg (by omega), if_pos h.2, h.2]
    have hi : (((ts.length : Nat) : Int) - 2).toNat < ts.length := by omega
    have hj : (((ts.length : Nat) : Int) - 1).toNat < ts.length := by omega
    have hij : (((ts.length : Nat) : Int) - 2).toNat + 1 = (((ts.length : Nat) : Int) - 1).toNat := by omega
    rw [hd _ (Nat.le_of_lt hi), List.drop_eq_getElem_cons hi, List.drop_eq_getElem_cons (by omega), List.drop_eq_nil_of_le (by omega)]
    have e : ts.getD (((ts.length : Nat) : Int) - 2).toNat (.lf Cn.z) = ts[(((ts.length : Nat) : Int) - 2).toNat] := getD_el hi
    have e2 : ts.getD (((ts.length : Nat) : Int) - 1).toNat (.lf Cn.z) = ts[(((ts.length : Nat) : Int) - 2).toNat + 1] := by rw [← hij]; exact getD_el (by omega)
    rw [e, e2]
    have t2 : ∀ a b : Tr, sz [a, b] = a.nd + b.nd := fun a b => by simp [sz]
    rw [t2]
    show _ + (Tr.nd _ + Tr.nd _ + 1) = _
    omega
theorem ok_mk (hn : ¬ c.n < 0) (hl : c.n ≤ (ts.length : Int)) (hp : c.n = parts0 c.kd) (hv : okV c.vl) (h : ∀ t ∈ ts, t.ok) : ∀ t ∈ stepB c ts, t.ok := by
  have at_ : ∀ k, k < ts.length → (ts.getD k (.lf Cn.z)).ok := fun k hk => by
    rw [List.getD_eq_getElem?_getD, List.getElem?_eq_getElem hk]; exact h _ (List.getElem_mem hk)
  intro t ht
  rcases List.mem_append.1 ht with ht | ht
  · exact h t (List.mem_of_mem_take ht)
  · rw [List.mem_singleton.1 ht]
    unfold mkT
    rw [← hp]
    rcases cn_kind hn with q | q | q | q | q
    · rw [if_neg (by omega), if_neg (by omega)]; exact ⟨.inl ⟨q.1, q.2.2⟩, hv⟩
    · rw [if_neg (by omega), if_neg (by omega)]; exact ⟨.inr ⟨q.1, q.2.2⟩, hv⟩
    · rw [if_pos q.2]; exact ⟨q.1, at_ _ (by omega)⟩
    · rw [if_neg (by omega), if_pos q.2]; exact ⟨.inl q.1, at_ _ (by omega), at_ _ (by omega)⟩
    · rw [if_neg (by omega), if_pos q.2]; exact ⟨.inr q.1, at_ _ (by omega), at_ _ (by omega)⟩
end
/-- both stacks, side by side -/
structure STK (ar : Int) (R : List (List UInt8)) (L : List Cn) (i : Nat) : Prop where
  lb : ∃ lb, EI oz L lb i ∧ lb.length = (foldB (L.take i)).length
  eq : foldP R (L.take i) = (foldB (L.take i)).map (gT ar)
  ok : ∀ t ∈ foldB (L.take i), t.ok
  nd : sz (foldB (L.take i)) = i
theorem ss_all {ar : Int} {R : List (List UInt8)} {L : List Cn} (hR : ∀ g : Int, 0 ≤ g → g < 8 → R.getD (g).toNat [] = rname0 ar g) (hr : right L = true) (hv : ∀ q, okV (L.getD q Cn.z).vl) : ∀ i, i ≤ L.length → STK ar R L i
  | 0, _ => ⟨⟨[], EI.init (by rw [hr]; rfl), rfl⟩, rfl, fun t ht => by simp [foldB] at ht, rfl⟩
  | i + 1, hi => by
    have hs := ss_all hR hr hv i (by omega)
    obtain ⟨lb, h2, h3⟩ := hs.lb
    have h2' : EI oz (L.take L.length) lb i := by rw [List.take_length]; exact h2
    have k' := h2'.kn (Nat.le_refl _) (show (i : Int) < ((L.length : Nat) : Int) by omega)
    have hn := h2'.nx (by rw [List.take_length]; exact hr) (Nat.le_refl _) (show (i : Int) < ((L.length : Nat) : Int) by omega)
    rw [List.take_length] at hn
    have hi' : i < L.length := by omega
    have e : L[i] = L.getD ((i : Int)).toNat Cn.z := by simp [List.getD, hi']
    have eB : foldB (L.take (i + 1)) = stepB (L.getD ((i : Int)).toNat Cn.z) (foldB (L.take i)) := by
      rw [List.take_succ_eq_append_getElem hi', e]; unfold foldB; rw [List.foldl_append]; rfl
    have eP : foldP R (L.take (i + 1)) = stepP R (L.getD ((i : Int)).toNat Cn.z) (foldP R (L.take i)) := by
      rw [List.take_succ_eq_append_getElem hi', e]; unfold foldP; rw [List.foldl_append]; rfl
    have a1 := k'.1
    have a2 : (L.getD ((i : Int)).toNat Cn.z).n ≤ ((foldB (L.take i)).length : Int) := by rw [← h3]; exact k'.2.1
    have a3 := k'.2.2.1
    refine ⟨⟨_, hn, ?_⟩, ?_, ?_, ?_⟩
    · rw [← fold_st (p := oz) (l := lb) k'.1 k'.2.1 k'.2.2.1 rfl, eB]
      unfold stepB
      simp only [List.length_append, List.length_take, List.length_cons, List.length_nil, h3]
    · rw [eP, eB, hs.eq]
      unfold stepP stepB
      rw [List.map_append, List.map_take, List.length_map, wr_tx hR a1 a2 a3]
      simp [gT, mkT_c]
    · rw [eB]; exact ok_mk a1 a2 a3 (hv _) hs.ok
    · rw [eB, sz_mk a1 a2 a3, hs.nd]
theorem nd_le {ts : List Tr} {t : Tr} (h : t ∈ ts) : t.nd ≤ sz ts := by
  induction ts with
  | nil => cases h
  | cons x l ih =>
    have : sz (x :: l) = x.nd + sz l := by simp [sz]
    rcases List.mem_cons.1 h with rfl | h
    · omega
    · have := ih h; omega
section
variable {ar : Int} {R : List (List UInt8)} {L : List Cn} (hR : ∀ g : Int, 0 ≤ g → g < 8 → R.getD (g).toNat [] = rname0 ar g) (hr : right L = true) (hv : ∀ q, okV (L.getD q Cn.z).vl)
include hR hr hv
theorem foldP_len (i q : Nat) : ((foldP R (L.take i)).getD q pz).1.length ≤ 1000000 := by
  have key : ∀ i, i ≤ L.length → ((foldP R (L.take i)).getD q pz).1.length ≤ 1000000 := fun i hi => by
    have hs := ss_all hR hr hv i hi
    rw [hs.eq]
    by_cases hq : q < (foldB (L.take i)).length
    · rw [getD_map hq]
      have hm : (foldB (L.take i)).getD q (.lf Cn.z) ∈ foldB (L.take i) := by rw [List.getD_eq_getElem?_getD, List.getElem?_eq_getElem hq]; exact List.getElem_mem hq
      have h1 := tx_len ar _ (hs.ok _ hm)
      have h2 := nd_le hm
      have h3 := hs.nd
      have h4 : L.length ≤ 32 := by unfold right at hr; split at hr <;> first | cases hr | omega
      show (tx ar _).length ≤ _
      omega
    · rw [List.getD_eq_getElem?_getD, List.getElem?_eq_none (by simp; omega)]; decide
  by_cases hi : i ≤ L.length
  · exact key i hi
  · have := key L.length (Nat.le_refl _)
    rw [List.take_of_length_le (by omega)]
    rwa [List.take_length] at this
theorem tree_fin : ((foldB L).getD 0 (.lf Cn.z)).ok ∧ ((foldB L).getD 0 (.lf Cn.z)).nd ≤ 1000 ∧ tx ar ((foldB L).getD 0 (.lf Cn.z)) = ((foldP R L).getD 0 pz).1 := by
  have hs := ss_all hR hr hv L.length (Nat.le_refl _)
  obtain ⟨lb, h2, h3⟩ := hs.lb
  have h4 := h2.fin (by omega)
  have e1 := hs.eq; have e2 := hs.ok; have e3 := hs.nd
  rw [List.take_length] at h3 e1 e2 e3
  have hq : 0 < (foldB L).length := by omega
  have hm : (foldB L).getD 0 (.lf Cn.z) ∈ foldB L := by rw [List.getD_eq_getElem?_getD, List.getElem?_eq_getElem hq]; exact List.getElem_mem hq
  have h5 := nd_le hm
  have h6 : L.length ≤ 32 := by unfold right at hr; split at hr <;> first | cases hr | omega
  refine ⟨e2 _ hm, by omega, ?_⟩
  rw [e1, getD_map hq]; rfl
end
end Go.Proofs.YtbghlhhoafkmgaaDoor
