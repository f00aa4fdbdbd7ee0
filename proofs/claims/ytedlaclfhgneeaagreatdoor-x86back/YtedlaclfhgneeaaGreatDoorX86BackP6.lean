/- X86Back, part 6: the engine, contracts, theory. -/
import Derived.Test.YtedlaclfhgneeaaGreatDoorX86BackP5
import Derived.WalkSmall
import Derived.ProofKit
import Derived.OpenShut
import Derived.ChangeOld
namespace Go.Proofs.YtedlaclfhgneeaaGreatDoor
open Go.RowKit
set_option linter.unusedVariables false
set_option linter.unusedSimpArgs false
set_option maxRecDepth 100000
set_option maxHeartbeats 2000000
def toP (z : Ps) : Old.Ps := ⟨toO z.ins, z.lab, z.e, z.a, z.p⟩
def gO (g : Lg) (R : List Rw) : Old.Lg := ⟨g.r0, g.r1, g.r2, g.r3, g.r4, g.r5, g.r6, g.r7, g.l0, g.l1, g.l2, g.l3, g.im, g.f0, g.f1, g.f2, Old.nilV, R.map toR⟩
section
variable {ws : List Tk} {z : Ps} {g : Lg} {R L : List Rw} {m : List UInt8} {x : Int} {k : Nat}
theorem ref_o (hw : WsOK ws) : toP (z.wa (refA ws z.as x)) = Old.refP ws x (toP z) := by
  unfold refA refAt Old.refP
  have e1 : z.as.e = z.e := rfl
  have e2 : (toP z).e = z.e := rfl
  have e3 : (toP z).p = z.p := rfl
  have e4 : z.as.p = z.p := rfl
  rw [e1, e2, e3, e4, where_at hw]
  by_cases h : z.e = 0
  · rw [if_pos h, if_pos (beq_iff_eq.2 h)]
    by_cases hp : z.p < ws.length
    · rw [if_pos hp, decide_eq_true hp]; rfl
    · rw [if_neg hp, decide_eq_false hp]; rfl
  · rw [if_neg h, if_neg (fun e => h (eq_of_beq e))]; rfl
theorem go_p : goA z.as z.p = z.as := rfl
theorem mk_o (hw : WsOK ws) : toP (z.wa (mkA ws z.as m)) = Old.markP ws m (toP z) := by
  unfold mkA Old.markP
  have e4 : z.as.p = z.p := rfl
  have e3 : (toP z).p = z.p := rfl
  rw [e3, e4, reads_tk]
  cases hb : tkB ws z.p m with
  | true => rw [if_pos rfl, if_pos rfl, tkK_y hb]; rfl
  | false => rw [if_neg (by decide), if_neg (by decide), tkK_n hb, go_p]; exact ref_o hw
theorem kn_o (hw : WsOK ws) (ls : List (List UInt8)) : toP (z.wa (knA ws z.as ls)) = (Old.knownP ws ls (toP z)).1 ∧ knI ws z.as ls = (Old.knownP ws ls (toP z)).2 := by
  unfold knA knI Old.knownP
  have e4 : z.as.p = z.p := rfl
  have e3 : (toP z).p = z.p := rfl
  rw [e3, e4]
  by_cases hl : z.p < ws.length
  · rw [tk_get hl, idxS_L]
    simp only
    by_cases hk : (ws.getD z.p tok0).kind = 1
    · rw [if_pos hk, if_pos hk, if_pos (beq_iff_eq.2 hk)]
      by_cases hi : Old.idxL ls (ws.getD z.p tok0).text 0 < 0
      · rw [if_pos hi, if_pos hi, if_pos (decide_eq_true hi)]; exact ⟨ref_o hw, rfl⟩
      · rw [if_neg hi, if_neg hi, if_neg (by rw [decide_eq_false hi]; decide), nxK_y hl]; exact ⟨rfl, rfl⟩
    · rw [if_neg hk, if_neg hk, if_neg (fun e => hk (eq_of_beq e))]; exact ⟨ref_o hw, rfl⟩
  · rw [tk_non hl, tk_out (by omega)]
    exact ⟨ref_o hw, rfl⟩
theorem nb_o : Old.numP1 ws k = if nbB ws k = true then some (nbV ws k, nbK ws k) else none := by
  unfold Old.numP1 nbB nbV nbK
  by_cases hl : k < ws.length
  · have hm : mnB ws k = (((ws.getD k tok0).kind == 3) && ((ws.getD k tok0).text == [45])) := by unfold mnB; rw [decide_eq_true hl, Bool.true_and]
    have hn : nuB ws k = ((ws.getD k tok0).kind == 2) := by unfold nuB; rw [decide_eq_true hl, Bool.true_and]
    rw [tk_get hl]
    simp only
    by_cases h2 : ((ws.getD k tok0).kind == 2) = true
    · have h3 : mnB ws k = false := by rw [hm, eq_of_beq h2]; rfl
      rw [if_pos h2, h3, hn, h2]; rfl
    · rw [if_neg h2]
      have h2' : ((ws.getD k tok0).kind == 2) = false := by simpa using h2
      cases h3 : mnB ws k with
      | false =>
        rw [if_neg (by rw [show ((((ws.getD k tok0).kind == 3) && eqL (ws.getD k tok0).text [45])) = false from hm.symm.trans h3]; decide), hn, h2']; rfl
      | true =>
        rw [if_pos (show ((((ws.getD k tok0).kind == 3) && eqL (ws.getD k tok0).text [45])) = true from hm.symm.trans h3)]
        by_cases hl2 : k + 1 < ws.length
        · rw [tk_get hl2]
          simp only
          have hn2 : nuB ws (k + 1) = ((ws.getD (k + 1) tok0).kind == 2) := by unfold nuB; rw [decide_eq_true hl2, Bool.true_and]
          cases h4 : ((ws.getD (k + 1) tok0).kind == 2) with
          | true => rw [hn2, h4]; simp only [if_true]; rw [Int.zero_sub]
          | false => rw [hn2, h4]; rfl
        · rw [tk_non hl2]
          have hn2 : nuB ws (k + 1) = false := by unfold nuB; rw [decide_eq_false hl2]; rfl
          rw [hn2]; rfl
  · have hm : mnB ws k = false := by unfold mnB; rw [decide_eq_false hl]; rfl
    have hn : nuB ws k = false := by unfold nuB; rw [decide_eq_false hl]; rfl
    rw [tk_non hl, hm, hn]; rfl
theorem nbV_no (h : nbB ws k = false) : nbV ws k = 0 ∧ nbK ws k = k := by
  unfold nbB at h; unfold nbV nbK
  cases h3 : mnB ws k with
  | true =>
    simp only [h3, if_true] at h
    simp only [h, if_true, if_false, Bool.false_eq_true]
    exact ⟨by decide, trivial⟩
  | false =>
    simp only [h3, if_false, Bool.false_eq_true] at h
    simp [h]
theorem nbq_o : Old.nbO ws k = nbB ws k ∧ Old.nbV ws k = nbV ws k ∧ Old.nbQ ws k = nbK ws k := by
  unfold Old.nbO Old.nbV Old.nbQ
  rw [nb_o]
  cases h : nbB ws k with
  | true => exact ⟨rfl, rfl, rfl⟩
  | false => have := nbV_no h; exact ⟨rfl, this.1.symm, this.2.symm⟩
theorem num_o (hw : WsOK ws) : toP (z.wa (numA ws z.as)) = (Old.numP ws (toP z)).1 ∧ nbV ws z.p = (Old.numP ws (toP z)).2 := by
  unfold numA Old.numP
  have e4 : z.as.p = z.p := rfl
  have e3 : (toP z).p = z.p := rfl
  obtain ⟨n1, n2, n3⟩ := nbq_o (ws := ws) (k := z.p)
  rw [e3, e4, n1, n2, n3, reads_tk]
  cases h : nbB ws z.p with
  | true => rw [if_pos rfl, if_pos rfl]; exact ⟨rfl, rfl⟩
  | false =>
    have hv := nbV_no h
    rw [if_neg (by decide), if_neg (by decide), hv.1, hv.2]
    cases hb : tkB ws z.p [45] with
    | true =>
      rw [if_pos rfl, tkK_y hb]
      exact ⟨ref_o (z := ⟨z.ins, z.lab, z.e, z.a, z.p + 1⟩) hw, rfl⟩
    | false =>
      rw [if_neg (by decide), tkK_n hb, go_p]
      exact ⟨ref_o hw, rfl⟩
theorem imm_o2 (hw : WsOK ws) : toP (z.wa (immA g ws z.as)) = (Old.immP (gO g R) ws (toP z)).1 ∧ immV g ws z.as = (Old.immP (gO g R) ws (toP z)).2 := by
  unfold immA immV Old.immP
  have e1 : (gO g R).mrk = g.im := rfl
  rw [e1]
  by_cases h : g.im = []
  · rw [if_pos h, if_pos h, if_pos (Old.eqL_yes h)]; exact num_o hw
  · rw [if_neg h, if_neg h, if_neg (by rw [Old.eqL_no h]; decide), ← mk_o hw]
    exact num_o (z := z.wa (mkA ws z.as g.im)) hw
theorem ix_o (hw : WsOK ws) : toP (regI g ws z) = Old.idxP (gO g R) ws (toP z) := by
  obtain ⟨h1, h2⟩ := kn_o (z := z) hw (gO g R).regs
  unfold Old.idxP
  rw [← h1, ← h2]; rfl
theorem isn_o : Old.isNumP ws k = ((ws.getD k tok0).kind == 2) := by
  unfold Old.isNumP
  by_cases hl : k < ws.length
  · rw [tk_get hl]
  · rw [tk_non hl, tk_out (by omega)]; rfl
theorem m3_n (h : psB ws z = false) : m3 ws z = z := by unfold m3; unfold psB at h; rw [tkK_n h]
theorem off_o (hw : WsOK ws) : toP (if psB ws z = true then regI g ws (m3 ws z) else m3 ws z) = Old.offP (gO g R) ws (toP z) := by
  unfold Old.offP
  have e3 : (toP z).p = z.p := rfl
  rw [e3, reads_tk]
  cases h : psB ws z with
  | true =>
    have h' : tkB ws z.p [43] = true := h
    rw [if_pos rfl, if_pos h', ix_o (R := R) hw]
    unfold m3; rw [tkK_y h']; rfl
  | false =>
    have h' : tkB ws z.p [43] = false := h
    rw [if_neg (by decide), if_neg (by rw [h']; decide), m3_n h]
theorem numoff_o (hw : WsOK ws) : toP (if nuQ ws z = true then (if psB ws (offI ws z) = true then regI g ws (m3 ws (offI ws z)) else m3 ws (offI ws z)) else regI g ws z) = Old.numOff (gO g R) ws (toP z) := by
  unfold Old.numOff
  have e3 : (toP z).p = z.p := rfl
  rw [e3, isn_o]
  unfold nuQ
  cases h : ((ws.getD z.p tok0).kind == 2) with
  | true =>
    rw [if_pos rfl, if_pos rfl, off_o (R := R) hw]
    obtain ⟨n1, n2, n3⟩ := nbq_o (ws := ws) (k := z.p)
    rw [n2, n3]; rfl
  | false => rw [if_neg (by decide), if_neg (by decide)]; exact ix_o hw
theorem plus_o (hw : WsOK ws) : toP (if psB ws z = true then (if nuQ ws (m3 ws z) = true then (if psB ws (offI ws (m3 ws z)) = true then regI g ws (m3 ws (offI ws (m3 ws z))) else m3 ws (offI ws (m3 ws z))) else regI g ws (m3 ws z)) else m3 ws z) = Old.plusP (gO g R) ws (toP z) := by
  unfold Old.plusP
  have e3 : (toP z).p = z.p := rfl
  rw [e3, reads_tk]
  cases h : psB ws z with
  | true =>
    have h' : tkB ws z.p [43] = true := h
    rw [if_pos rfl, if_pos h', numoff_o (R := R) hw]
    have : toP (m3 ws z) = Old.atP (toP z) (z.p + 1) := by unfold m3; rw [tkK_y h']; rfl
    rw [this]
  | false =>
    have h' : tkB ws z.p [43] = false := h
    rw [if_neg (by decide), if_neg (by rw [h']; decide), m3_n h]
theorem mem0_o (hw : WsOK ws) : toP (m2 ws (m1 ws z)) = Old.mem0P ws (toP z) := by
  have h0 : toP (m1 ws z) = Old.markP ws [91] (toP z) := mk_o hw
  obtain ⟨h1, h2⟩ := kn_o (z := m1 ws z) hw Old.locsX
  unfold Old.mem0P
  rw [← h0, ← h1, ← h2]; rfl
theorem memo_o (hw : WsOK ws) : toP (memS g ws z) = Old.memP (gO g R) ws (toP z) := by
  unfold Old.memP
  rw [← mem0_o hw, ← plus_o hw]
  exact mk_o hw
theorem lab_o : toP ⟨z.ins, nmT ws z.p, z.e, z.a, nmK ws z.p⟩ = Old.labP ws (toP z) := by
  unfold Old.labP nmT nmK nmB
  have e3 : (toP z).p = z.p := rfl
  rw [e3]
  by_cases hl : z.p < ws.length
  · rw [tk_get hl, decide_eq_true hl, Bool.true_and]
    simp only
    cases h : ((ws.getD z.p tok0).kind == 1) <;> rfl
  · rw [tk_non hl, decide_eq_false hl]; rfl
theorem pt_o (hw : WsOK ws) (p : Int) (h10 : p ≠ 10) : toP (ptS g ws p z) = Old.partP (gO g R) ws p (toP z) := by
  have kr := kn_o (z := z) hw (gO g R).regs
  have kf := kn_o (z := z) hw (gO g R).fens
  have ki := imm_o2 (g := g) (R := R) (z := z) hw
  unfold ptS Old.partP Old.fenP
  simp only [beq_iff_eq]
  rw [← kr.1, ← kr.2, ← kf.1, ← kf.2, ← ki.1, ← ki.2]
  by_cases h1 : p = 1
  · rw [if_pos h1, if_pos h1]; rfl
  rw [if_neg h1, if_neg h1]
  by_cases h4 : p = 4
  · rw [if_pos h4, if_pos h4]; rfl
  rw [if_neg h4, if_neg h4]
  by_cases h2 : p = 2
  · rw [if_pos h2, if_pos h2]; rfl
  rw [if_neg h2, if_neg h2]
  by_cases h3 : p = 3
  · rw [if_pos h3, if_pos h3]; rfl
  rw [if_neg h3, if_neg h3]
  by_cases h5 : p = 5
  · rw [if_pos h5, if_pos h5]; rfl
  rw [if_neg h5, if_neg h5]
  by_cases h6 : p = 6
  · rw [if_pos h6, if_pos h6]; exact memo_o hw
  rw [if_neg h6, if_neg h6]
  by_cases h7 : p = 7
  · rw [if_pos h7, if_pos h7]; exact lab_o
  rw [if_neg h7, if_neg h7]
  by_cases h8 : p = 8
  · rw [if_pos h8, if_pos h8]; rfl
  rw [if_neg h8, if_neg h8]
  by_cases h9 : p = 9
  · rw [if_pos h9, if_pos h9]; rfl
  rw [if_neg h9, if_neg h9, if_neg h10]
theorem idxS_lt {ls : List (List UInt8)} {q : List UInt8} (h : ¬ idxS ls q < 0) : (idxS ls q).toNat < ls.length := by
  unfold idxS at h ⊢
  cases hf : (List.range ls.length).find? (fun j => q == ls.getD j []) with
  | none => rw [hf] at h; exact absurd (by decide) h
  | some j => exact List.mem_range.1 (List.mem_of_find?_eq_some hf)
theorem size_o (r : Rw) (q : List UInt8) : szP g r.nm q = Old.sizeP (gO g R) (toR r) q := by
  unfold szP Old.sizeP
  have e1 : (toR r).name = r.nm := rfl
  have e2 : Old.sizedN (gO g R) (toR r) = nms g r.nm := rfl
  rw [e1, e2, ← idxS_L]
  cases (Lib.cut r.nm [42]).2.2 with
  | false => rfl
  | true =>
    rw [if_pos rfl, if_pos rfl]
    by_cases h : idxS (nms g r.nm) q < 0
    · rw [if_pos h, if_pos (decide_eq_true h)]
    · rw [if_neg h, if_neg (by rw [decide_eq_false h]; decide)]
      have hl := idxS_lt h
      have e : idxS (nms g r.nm) q = (((idxS (nms g r.nm) q).toNat : Nat) : Int) := by omega
      rw [e, szI_k _ (show _ < 4 from hl)]
theorem fold_n (q : List UInt8) (S : Old.Ps) : ∀ (l : List Rw) (c : Int) (acc : List Rw), (l.map toR).foldl (Old.nStep (gO g R) q) (Old.setSize S c, acc.map toR) = (Old.setSize S (l.foldl (nSt g q) (c, acc)).1, (l.foldl (nSt g q) (c, acc)).2.map toR)
  | [], c, acc => rfl
  | r :: l, c, acc => by
    rw [List.map_cons, List.foldl_cons, List.foldl_cons]
    have : Old.nStep (gO g R) q (Old.setSize S c, acc.map toR) (toR r) = (Old.setSize S (nSt g q (c, acc) r).1, (nSt g q (c, acc) r).2.map toR) := by
      unfold Old.nStep nSt
      rw [← size_o]
      cases (szP g r.nm q).2 with
      | false => rfl
      | true => rw [if_pos rfl, if_pos rfl, List.map_append]; rfl
    rw [this]
    exact fold_n q S l _ _
theorem named_o (hw : WsOK ws) : toP (naS g ws R z) = (Old.namedP (gO g R) ws (toP z)).1 ∧ (naR g ws R z).map toR = (Old.namedP (gO g R) ws (toP z)).2 := by
  unfold naS naR Old.namedP
  have e3 : (toP z).p = z.p := rfl
  rw [e3]
  by_cases hl : z.p < ws.length
  · rw [tk_get hl]
    simp only
    by_cases hk : (ws.getD z.p tok0).kind = 1
    · rw [if_pos hk, if_pos hk, if_pos (beq_iff_eq.2 hk)]
      have hf := fold_n (g := g) (R := R) (ws.getD z.p tok0).text (toP z) R z.ins.sz []
      have e0 : ((Old.setSize (toP z) z.ins.sz, ([] : List Rw).map toR) : Old.Ps × List Old.Rw) = (toP z, []) := rfl
      rw [e0] at hf
      have e5 : (gO g R).rows = R.map toR := rfl
      rw [e5, hf]
      have e6 : R.foldl (nSt g (ws.getD z.p tok0).text) (z.ins.sz, []) = naZ g ws R z := by unfold naZ zK; rw [List.take_length]
      rw [e6]
      refine ⟨?_, rfl⟩
      unfold Old.noRow
      simp only [List.length_map]
      by_cases h0 : (naZ g ws R z).2.length = 0
      · rw [if_pos h0, if_pos (by rw [h0]; rfl)]
        have hr := ref_o (x := 21) (z := (⟨{ z.ins with sz := (naZ g ws R z).1 }, z.lab, z.e, z.a, z.p⟩ : Ps)) hw
        have e7 : Old.setSize (toP z) (naZ g ws R z).1 = toP ⟨{ z.ins with sz := (naZ g ws R z).1 }, z.lab, z.e, z.a, z.p⟩ := rfl
        rw [e7, ← hr]
        have hp : (refA ws z.as 21).p = z.p := refA_p
        rw [hp, nxK_y hl]
        have hp2 : (refA ws (⟨{ z.ins with sz := (naZ g ws R z).1 }, z.lab, z.e, z.a, z.p⟩ : Ps).as 21) = refA ws z.as 21 := rfl
        unfold Old.nextP Old.atP
        rw [hp2]
        unfold toP Ps.wa
        simp only [hp]
      · rw [if_neg h0, if_neg (by intro e; exact h0 (by have := eq_of_beq e; omega)), nxK_y hl]; rfl
    · rw [if_neg hk, if_neg hk, if_neg (fun e => hk (eq_of_beq e))]; exact ⟨ref_o hw, rfl⟩
  · rw [tk_non hl, tk_out (by omega)]; exact ⟨ref_o hw, rfl⟩
theorem word_o : Old.wordAt ws k = ws.getD k tok0 := by
  unfold Old.wordAt; rw [List.getD_eq_getElem?_getD]; rfl
theorem beg_o (r : Rw) (p : Int) (t : Tk) (h10 : p ≠ 10) : begQ g r p t = Old.beginsB (gO g R) p t := by
  unfold begQ Old.beginsB begI Old.beginsImmB Old.isMarkB
  have e1 : (gO g R).mrk = g.im := rfl
  rw [e1]
  simp only [beq_iff_eq]
  by_cases h5 : p = 5
  · rw [if_pos h5, if_pos h5]
    by_cases hi : g.im = []
    · rw [if_pos hi, if_pos (Old.eqL_yes hi)]; rfl
    · rw [if_neg hi, if_neg (by rw [Old.eqL_no hi]; decide)]; rfl
  · rw [if_neg h5, if_neg h5]
    by_cases h6 : p = 6
    · rw [if_pos h6, if_pos h6]; rfl
    · rw [if_neg h6, if_neg h6, if_neg h10]
theorem left_o (t : Tk) : ∀ (Q : List Rw), (∀ r ∈ Q, k < r.ps.length ∧ ∀ p ∈ r.ps, p ≠ 10) → (Q.map toR).filter (fun r => !Old.strikes (gO g R) k t r) = (lft g k t Q).map toR
  | [], _ => rfl
  | r :: Q, h => by
    obtain ⟨hk, h10⟩ := h r List.mem_cons_self
    have ih := left_o t Q (fun x hx => h x (List.mem_cons_of_mem _ hx))
    have e : Old.strikes (gO g R) k t (toR r) = stk g k t r := by
      unfold Old.strikes stk
      have e1 : (toR r).parts = r.ps := rfl
      have e2 : r.ps[k]? = some (r.ps.getD k 0) := by rw [List.getD_eq_getElem?_getD, List.getElem?_eq_getElem hk]; rfl
      rw [e1, e2]
      simp only
      rw [beg_o (R := R) r _ t (h10 _ (by rw [List.getD_eq_getElem?_getD, List.getElem?_eq_getElem hk]; exact List.getElem_mem hk))]
    unfold lft at ih ⊢
    rw [List.map_cons, List.filter_cons, List.filter_cons, e, ih]
    cases stk g k t r <;> rfl
theorem fst_no {f : Rw → Bool} {Q : List Rw} (h : ∀ r ∈ Q, f r = false) : fstX f Q = -1 := by
  unfold fstX
  have : (List.range Q.length).find? (fun j => f (Q.getD j Rw.z)) = none := by
    rw [List.find?_eq_none]
    intro j hj
    have hl := List.mem_range.1 hj
    rw [h _ (by rw [List.getD_eq_getElem?_getD, List.getElem?_eq_getElem hl]; exact List.getElem_mem hl)]
    decide
  rw [this]
theorem comma_o (hw : WsOK ws) : toP (n1 ws k z) = Old.commaP ws k (toP z) := by
  unfold n1 Old.commaP
  by_cases h : (k : Int) > 0
  · rw [if_pos h, if_pos (decide_eq_true h)]; exact mk_o hw
  · rw [if_neg h, if_neg (by rw [decide_eq_false h]; decide)]
theorem inst_o (hw : WsOK ws) {N0 : Nat} : ∀ (f F k : Nat) (Q : List Rw) (z : Ps), (∀ r ∈ Q, r.ps.length = N0 ∧ ∀ p ∈ r.ps, p ≠ 10) → N0 < f + k → f ≤ F → Old.instL (gO g R) ws F k (Q.map toR) (toP z) = (toP (inst g ws f k Q z).1, (inst g ws f k Q z).2.map toR)
  | f, F, k, [], z, h, hn, hF => by
    rw [List.map_nil, Old.inst_nil]
    have : inst g ws f k [] z = (z, []) := by cases f <;> rfl
    rw [this]; rfl
  | 0, F, k, r :: Q, z, h, hn, hF => by
    have hr := (h r List.mem_cons_self).1
    have e : inst g ws 0 k (r :: Q) z = (z, r :: Q) := rfl
    rw [e, List.map_cons]
    cases F with
    | zero => rfl
    | succ F =>
      unfold Old.instL
      simp only
      rw [if_neg]
      have : (toR r).parts.length = N0 := hr
      rw [this, decide_eq_false (by omega)]; decide
  | f + 1, F, k, r :: Q, z, h, hn, hF => by
    obtain ⟨F, rfl⟩ : ∃ F', F = F' + 1 := ⟨F - 1, by omega⟩
    have hr := (h r List.mem_cons_self).1
    have hp : (toR r).parts.length = N0 := hr
    rw [List.map_cons]
    unfold Old.instL inst
    simp only
    rw [hp]
    have hg : goB (r :: Q) k = decide ((k : Int) < (N0 : Int)) := by
      unfold goB
      have : (((r :: Q).getD (0 : Int).toNat Rw.z).ps.length) = N0 := hr
      rw [this, decide_eq_true (by simp only [List.length_cons]; omega), Bool.true_and]
    rw [hg]
    by_cases hk : (k : Int) < (N0 : Int)
    · rw [if_pos (decide_eq_true hk), if_pos (decide_eq_true hk)]
      have hall : ∀ x ∈ r :: Q, k < x.ps.length ∧ ∀ p ∈ x.ps, p ≠ 10 := fun x hx => ⟨by rw [(h x hx).1]; omega, (h x hx).2⟩
      have hL : Old.leftR (gO g R) ws k (toR r :: Q.map toR) (Old.commaP ws k (toP z)) = (nxR g ws k (r :: Q) z).map toR := by
        rw [← comma_o hw]
        unfold Old.leftR nxR
        rw [word_o]
        exact left_o _ (r :: Q) hall
      have hB : Old.begP (gO g R) ws k (toR r :: Q.map toR) (Old.commaP ws k (toP z)) = toP (beS g ws k (r :: Q) (n1 ws k z)) := by
        unfold Old.begP beS
        rw [hL, List.length_map, ← comma_o hw]
        have hm : mfV k (ws.getD (n1 ws k z).p tok0) (r :: Q) = 22 := by
          unfold mfV
          rw [fst_no (fun x hx => by
            unfold ask10
            obtain ⟨hx1, hx2⟩ := hall x hx
            exact beq_eq_false_iff_ne.2 (hx2 _ (by rw [List.getD_eq_getElem?_getD, List.getElem?_eq_getElem hx1]; exact List.getElem_mem hx1)))]
          rfl
        rw [hm]
        have hx : nxR g ws k (r :: Q) z = lft g k (ws.getD (n1 ws k z).p tok0) (r :: Q) := rfl
        rw [hx]
        by_cases h0 : (lft g k (ws.getD (n1 ws k z).p tok0) (r :: Q)).length = 0
        · rw [if_pos (by rw [h0]; rfl), if_pos h0, ref_o hw]
        · rw [if_neg (by intro e; exact h0 (by have := eq_of_beq e; omega)), if_neg h0]
      have hS : Old.part0 (gO g R) ws k ((nxR g ws k (r :: Q) z).map toR) (toP (beS g ws k (r :: Q) (n1 ws k z))) = toP (nxS g ws k (r :: Q) z) := by
        unfold nxS Old.part0
        cases hx : nxR g ws k (r :: Q) z with
        | nil => rfl
        | cons y l =>
          have hy : y ∈ r :: Q := by
            have : y ∈ nxR g ws k (r :: Q) z := by rw [hx]; exact List.mem_cons_self
            unfold nxR lft at this
            exact (List.mem_filter.1 this).1
          obtain ⟨hy1, hy2⟩ := hall y hy
          have e2 : (toR y).parts[k]? = some (y.ps.getD k 0) := by
            show y.ps[k]? = _
            rw [List.getD_eq_getElem?_getD, List.getElem?_eq_getElem hy1]; rfl
          rw [List.map_cons]
          simp only [e2]
          rw [if_pos (by simp only [List.length_cons]; omega)]
          exact (pt_o hw _ (hy2 _ (by rw [List.getD_eq_getElem?_getD, List.getElem?_eq_getElem hy1]; exact List.getElem_mem hy1))).symm
      rw [hL, hB, hS]
      exact inst_o hw f F (k + 1) _ _ (fun x hx => by
        unfold nxR lft at hx
        exact h x (List.mem_filter.1 hx).1) (by omega) (by omega)
    · rw [if_neg (by rw [decide_eq_false hk]; decide), if_neg (by rw [decide_eq_false hk]; decide)]; rfl
theorem na_sub : ∀ r ∈ naR g ws R z, r ∈ R := by
  intro r hr
  unfold naR at hr
  split at hr
  · unfold naZ zK at hr
    rw [List.take_length] at hr
    rcases nfl_sz _ _ _ hr with h | h
    · cases h
    · exact h.1
  · cases hr
theorem more_o (hw : WsOK ws) : toP (z.wa (endA ws z.as)) = Old.moreP ws (toP z) := by
  unfold endA Old.moreP
  have e4 : z.as.p = z.p := rfl
  have e3 : (toP z).p = z.p := rfl
  rw [e3, e4]
  by_cases h : z.p < ws.length
  · rw [if_pos h, if_pos (decide_eq_true (by omega))]; exact ref_o hw
  · rw [if_neg h, if_neg (by rw [decide_eq_false (by omega)]; decide)]; rfl
theorem par_o (hw : WsOK ws) (hp : PaOK g ws R) (h10 : ∀ r ∈ R, ∀ p ∈ r.ps, p ≠ 10) : (toO (parI g ws R), parT g ws R, parE g ws R, parA g ws R) = Old.parP (gO g R) ws := by
  have hI : Old.instP (gO g R) ws Old.zPs = (toP (inF g ws R Ps.z0).1, (inF g ws R Ps.z0).2.map toR) := by
    unfold Old.instP inF
    have hn := named_o (g := g) (R := R) (z := Ps.z0) hw
    have e : toP Ps.z0 = Old.zPs := rfl
    rw [e] at hn
    rw [← hn.1, ← hn.2]
    refine inst_o (N0 := inN g ws R Ps.z0) hw _ _ _ _ _ (fun r hr => ⟨?_, h10 r (na_sub r hr)⟩) (by omega) (by have := hp.k; omega)
    cases hx : naR g ws R Ps.z0 with
    | nil => rw [hx] at hr; cases hr
    | cons y l =>
      have hy : y ∈ naR g ws R Ps.z0 := by rw [hx]; exact List.mem_cons_self
      have : inN g ws R Ps.z0 = y.ps.length := by unfold inN; rw [hx]; rfl
      rw [this]; exact hp.s r hr y hy
  unfold Old.parP
  rw [hI]
  simp only
  rw [← more_o hw]
  have e1 : (toP ((inF g ws R Ps.z0).1.wa (endA ws (inF g ws R Ps.z0).1.as))).e = (paE g ws R).e := rfl
  have e2 : (toP ((inF g ws R Ps.z0).1.wa (endA ws (inF g ws R Ps.z0).1.as))).a = (paE g ws R).a := rfl
  have e3 : (toP ((inF g ws R Ps.z0).1.wa (endA ws (inF g ws R Ps.z0).1.as))).lab = (inF g ws R Ps.z0).1.lab := rfl
  have e4 : Old.withL ((inF g ws R Ps.z0).2.map toR) (toP (inF g ws R Ps.z0).1).ins = toO (inI g ws R Ps.z0) := by
    unfold inI Old.withL
    cases hx : (inF g ws R Ps.z0).2 with
    | nil => rfl
    | cons y l => rw [if_neg (by simp only [List.length_cons]; omega), List.map_cons]; exact (lay_o y _).symm
  rw [e1, e2, e3, e4, ← wrong_o, where_at hw]
  unfold parI parT parE parA
  by_cases h : (paE g ws R).e = 0
  · rw [if_neg (not_not_intro h), if_neg (not_not_intro h), if_neg (not_not_intro h), if_neg (not_not_intro h), if_pos (beq_iff_eq.2 h)]
    cases wrongI (inI g ws R Ps.z0) <;> rfl
  · rw [if_pos h, if_pos h, if_pos h, if_pos h, if_neg (fun e => h (eq_of_beq e))]; rfl
end
theorem gO_x : gO x86G x86C = Old.x86C := by kernel_rfl
theorem par_ref {ws : List Tk} (hw : WsOK ws) (hf : Old.WF ws) : (toO (parI x86G ws x86C), parT x86G ws x86C, parE x86G ws x86C, parA x86G ws x86C) = Old.parR ws := by
  rw [par_o hw (x86_pa (show x86C.map tm = x86T by kernel_rfl)) no10, gO_x]
  exact Old.pa_eq hf
end Go.Proofs.YtedlaclfhgneeaaGreatDoor
namespace Go.Proofs.YtedlaclfhgneeaaGreatDoor
set_option linter.unusedVariables false
def skipC : Nat → List UInt8 → Nat × Bool
  | 0, _ => (0, false)
  | _ + 1, [] => (0, false)
  | n + 1, b :: r =>
    if blkB b then ((skipC n r).1 + 1, (skipC n r).2)
    else if preB (b :: r) [40, 42] then
      if endR ((b :: r).drop 2) < 0 then (0, true)
      else ((skipC n ((b :: r).drop (endR ((b :: r).drop 2)).toNat.succ.succ.succ.succ)).1 + ((endR ((b :: r).drop 2)).toNat + 4), (skipC n ((b :: r).drop (endR ((b :: r).drop 2)).toNat.succ.succ.succ.succ)).2)
    else (0, false)
theorem skip_C : ∀ (n : Nat) (l : List UInt8), l.length ≤ n → skipL l = skipC n l := by
  intro n
  induction n with
  | zero => intro l hl; obtain rfl : l = [] := List.eq_nil_of_length_eq_zero (Nat.le_zero.1 hl); rw [skip_nil]; rfl
  | succ n ih =>
    intro l hl
    match l, hl with
    | [], _ => rw [skip_nil]; rfl
    | b :: r, hl =>
      rw [skipL, skipC, ih r (by simpa using hl), ih ((b :: r).drop (endR ((b :: r).drop 2)).toNat.succ.succ.succ.succ) (by rw [List.length_drop]; omega)]
def toksC : Nat → List UInt8 → Nat → List Tk → List Tk × Int × Nat
  | 0, _, _, _ => ([], 0, 0)
  | f + 1, l, a, ws =>
    if (skipC l.length (l.drop a)).2 then ([], 24, a + (skipC l.length (l.drop a)).1)
    else if a + (skipC l.length (l.drop a)).1 = l.length then (ws, 0, 0)
    else if (firstR (l.drop (a + (skipC l.length (l.drop a)).1))).2 = 0 then
      toksC f l (a + (skipC l.length (l.drop a)).1 + (firstR (l.drop (a + (skipC l.length (l.drop a)).1))).1.text.length) (ws ++ [{ (firstR (l.drop (a + (skipC l.length (l.drop a)).1))).1 with at_ := ((a + (skipC l.length (l.drop a)).1 : Nat) : Int) }])
    else ([], (firstR (l.drop (a + (skipC l.length (l.drop a)).1))).2, a + (skipC l.length (l.drop a)).1)
theorem toks_C : ∀ (f : Nat) (l : List UInt8) (a : Nat) (ws : List Tk), toksF f l a ws = toksC f l a ws := by
  intro f
  induction f with
  | zero => intros; rfl
  | succ f ih =>
    intro l a ws
    rw [toksF, toksC, skip_C l.length (l.drop a) (by rw [List.length_drop]; omega), ih]
theorem tokens_C {l : List UInt8} (h : l.length ≤ 8192) : tokensR l = toksC (l.length + 1) l 0 [] := by rw [tokens_short h, toks_C]
end Go.Proofs.YtedlaclfhgneeaaGreatDoor
namespace Go.Proofs.YtedlaclfhgneeaaGreatDoor
open Go.RowKit
set_option linter.unusedVariables false
set_option linter.unusedSimpArgs false
set_option maxRecDepth 100000
set_option maxHeartbeats 2000000
set_option simprocs false
theorem fnI_nil {I : Amb} {P : Program} {f s : Nat} {F : Nat → List SV} {x : SV} (h : FnI I P f [.sl 0 0 0] [some (.lst s 0 F)] (Rt x [some (.lst s 0 F)])) (hF : ∀ k, ∃ vs, denL [] (F k) = some vs) (hx : ∀ G, den G x = den [] x) : FnI I P f [.sla none 0 0] [] (Rt x []) := by
  refine ⟨h.1, fun G w vs hM hI hv => ?_⟩
  have hG : G = [] := List.length_eq_zero_iff.1 hM.len.symm
  subst hG
  have hM2 : Mem [some (.lst s 0 F)] [none] w := ⟨rfl, fun i e he => by
    match i, he with
    | 0, he => cases he; exact ⟨hF, .inl rfl⟩
    | i + 1, he => set_option simprocs true in simp at he, fun i j e g L M hij hi hj he hL => by
    match i, hi with
    | 0, hi => set_option simprocs true in simp at hL
    | i + 1, hi => set_option simprocs true in simp at hi⟩
  refine Calls.mono (h.2 [none] w vs hM2 hI hv) fun e w' ⟨x', H', F', v, ⟨q1, q2⟩, r1, r2, r3, r4, r5, r6, r7⟩ => ?_
  subst q1; subst q2
  exact ⟨_, _, [], v, ⟨rfl, rfl⟩, by rw [hx] at r1 ⊢; exact r1, r2, ⟨rfl, fun i e he => by set_option simprocs true in simp at he, fun i j e g L M hij hi => by set_option simprocs true in simp at hi⟩, r4, Nat.le_refl _, fun i e he => by set_option simprocs true in simp at he, fun i e he => by set_option simprocs true in simp at he⟩
def txt5 : List UInt8 := [77, 79, 86, 76, 32, 91, 120, 43, 52, 93, 44, 82, 66, 88]
def ws5 : List Tk := [⟨1, [77, 79, 86, 76], 0, 0⟩, ⟨3, [91], 0, 5⟩, ⟨1, [120], 0, 6⟩, ⟨3, [43], 0, 7⟩, ⟨2, [52], 4, 8⟩, ⟨3, [93], 0, 9⟩, ⟨3, [44], 0, 10⟩, ⟨1, [82, 66, 88], 0, 11⟩]
def ins5 : In := ⟨5, -1, 1, -1, 0, 0, 4, -1, 4, 0, false, false, false, 0, 0, 0, false⟩
theorem tok5 : tokensR txt5 = (ws5, 0, 0) := by rw [tokens_C (by decide)]; kernel_rfl
theorem ws5_ok : WsOK ws5 := by unfold WsOK; decide
theorem ws0_ok : WsOK [] := fun t h => by cases h
theorem par5I : parI x86G ws5 x86C = ins5 := by kernel_rfl
theorem par5T : parT x86G ws5 x86C = [] := by kernel_rfl
theorem par5E : parE x86G ws5 x86C = 0 := by kernel_rfl
theorem par0E : parE x86G [] x86C = 24 := by kernel_rfl
theorem par0A : parA x86G [] x86C = 0 := by kernel_rfl
theorem prt5 : prP x86G x86C ins5 [] = (txt5, 0) := by kernel_rfl
theorem reg3 : Old.regF (Old.nameF 3) = 3 := by decide +kernel
theorem ins5R : InR ins5 := ⟨by decide, by decide⟩
theorem able_  (os : List (Nat × Obj)) (hM : ∀ w ks, Gl os w ks → ∃ m, w.cell? ⟨0, 0, none⟩ = some (.int .i64 m)) (hT : ∀ w ks, Gl os w ks → Lib.TabIs Tryz.prog w "internal/strconv.uint64pow10" .u64 Lib.pow10Tab) (hE : ∀ w ks, Gl os w ks → ∃ ev, w.cell? ⟨1, 0, none⟩ = some ev ∧ (ev = .nilIface ∨ ∃ te pe, ev = .iface te pe)) : FnI (Gl os) Tryz.prog 9 [] [] (Rt (.tt) []) :=
 enterI (n := 66) (by kernel_rfl) Tryz.func9 rfl rfl rfl fun G w a h0 hI A => N hX 7 A rfl rfl fun A => CALLI [] Gl.ok hI (tokens_ok txt5 ws5 os hM hE tok5) A rfl rfl rfl rfl rfl rfl rfl fun A => N hX 12 A rfl rfl fun A => have A := A.freeze 0 rfl; CALLI [0] Gl.ok hI (xparse_ ws5 0 (by decide) ws5_ok os hM) A rfl rfl rfl rfl rfl rfl rfl fun A => N hX 16 A rfl rfl fun A => CALLI [] Gl.ok hI (xprint_ (parI x86G ws5 x86C) (parT x86G ws5 x86C) os hM hT hE (fun L hL => x86_prok (by rw [par5I]; exact ins5R) (by rw [par5T]; decide) hL)) A rfl rfl rfl rfl rfl rfl rfl fun A => N hX 9 A rfl rfl fun A => CALLI [] Gl.ok hI (fnI_nil (xparse_ [] 0 (by decide) ws0_ok os hM) (fun k => ⟨_, rfl⟩) (fun _ => rfl)) A rfl rfl rfl rfl rfl rfl rfl fun A => N hX 17 A rfl rfl fun A => forkE 40 A rfl
  (fun h1 A => N hX 4 A rfl rfl fun A => forkE 44 A rfl
   (fun h2 A => N hX 4 A rfl rfl fun A => forkE 48 A rfl
    (fun h3 A => N hX 5 A rfl rfl fun A => forkE 53 A rfl
     (fun h4 A => N hX 4 A rfl rfl fun A => forkE 57 A rfl
      (fun h5 A => N hX 4 A rfl rfl fun A => forkE 61 A rfl
       (fun h6 A => CALL1 [] (xname_ 3) A rfl rfl rfl rfl rfl rfl rfl fun A => CALL1 [] (xreg_ (Old.nameF 3)) A rfl rfl rfl rfl rfl rfl rfl fun A => N hX 6 A rfl rfl fun A => RETN hX A rfl rfl rfl h0 rfl rfl rfl rfl (by rw [reg3]; rfl) rfl)
       (fun h6 A => N hX 8 A rfl rfl fun A => RETN hX A rfl rfl rfl h0 rfl rfl rfl rfl (absurd par0A h6) rfl))
      (fun h5 A => N hX 12 A rfl rfl fun A => RETN hX A rfl rfl rfl h0 rfl rfl rfl rfl (absurd par0E h5) rfl))
     (fun h4 A => N hX 16 A rfl rfl fun A => RETN hX A rfl rfl rfl h0 rfl rfl rfl rfl (absurd (by rw [par5I]; rfl) h4) rfl))
    (fun h3 A => N hX 21 A rfl rfl fun A => RETN hX A rfl rfl rfl h0 rfl rfl rfl rfl (absurd (by rw [par5I, par5T, prt5]; rfl) h3) rfl))
   (fun h2 A => N hX 25 A rfl rfl fun A => RETN hX A rfl rfl rfl h0 rfl rfl rfl rfl (absurd (by rw [par5I, par5T, prt5]) h2) rfl))
  (fun h1 A => N hX 29 A rfl rfl fun A => RETN hX A rfl rfl rfl h0 rfl rfl rfl rfl (absurd par5E h1) rfl)
end Go.Proofs.YtedlaclfhgneeaaGreatDoor
namespace Go.Proofs.YtedlaclfhgneeaaGreatDoor
open Go.RowKit
set_option linter.unusedVariables false
set_option linter.unusedSimpArgs false
set_option maxRecDepth 100000
theorem ws_toks : ∀ (f : Nat) (l : List UInt8) (a : Nat) (ws : List Tk), a ≤ l.length → ws.length ≤ a → (∀ t ∈ ws, 0 ≤ t.at_ ∧ t.at_ ≤ (l.length : Int) ∧ t.text.length ≤ l.length) → (toksF f l a ws).1.length ≤ l.length ∧ ∀ t ∈ (toksF f l a ws).1, 0 ≤ t.at_ ∧ t.at_ ≤ (l.length : Int) ∧ t.text.length ≤ l.length
  | 0, l, a, ws, ha, hl, h => ⟨Nat.zero_le _, fun y hy => by cases hy⟩
  | f + 1, l, a, ws, ha, hl, h => by
    rw [toksF]
    split
    · exact ⟨Nat.zero_le _, fun y hy => by cases hy⟩
    · split
      · exact ⟨show ws.length ≤ l.length by omega, h⟩
      · next hne =>
        split
        · next hf =>
          have hs := skip_le (l.drop a)
          rw [List.length_drop] at hs
          have hn := first_len hf
          rw [List.length_drop] at hn
          refine ws_toks f l _ _ (by omega) (by simp only [List.length_append, List.length_cons, List.length_nil]; omega) fun y hy => ?_
          rcases List.mem_append.1 hy with hy | hy
          · exact h y hy
          · rw [List.mem_singleton] at hy
            subst hy
            exact ⟨by show 0 ≤ ((_ : Nat) : Int); omega, by show ((_ : Nat) : Int) ≤ _; omega, by show (firstR _).1.text.length ≤ _; omega⟩
        · exact ⟨Nat.zero_le _, fun y hy => by cases hy⟩
theorem ws_tokens {l : List UInt8} {ws : List Tk} (h : tokensR l = (ws, 0, 0)) : ws.length ≤ 8192 ∧ WsOK ws ∧ Old.WF ws := by
  have hf := Old.wf_tokens l
  rw [h] at hf
  by_cases hl : l.length > 8192
  · rw [tokens_long hl] at h
    have := congrArg (fun z => z.2.1) h
    exact absurd (show (2 : Int) = 0 from this) (by decide)
  · have hw := ws_toks (l.length + 1) l 0 [] (Nat.zero_le _) (Nat.zero_le _) (fun t ht => by cases ht)
    rw [← tokens_short (by omega), h] at hw
    refine ⟨by have := hw.1; simp only at this; omega, fun t ht => ?_, hf⟩
    have := hw.2 t ht
    exact ⟨this.1, by omega, by omega⟩
end Go.Proofs.YtedlaclfhgneeaaGreatDoor
namespace Go.Proofs.YtedlaclfhgneeaaGreatDoor
set_option linter.unusedVariables false
set_option linter.unusedSimpArgs false
set_option maxRecDepth 100000
def Lex (r : List UInt8) (a : Nat) (ts : List Tk) : Prop := ∀ (l : List UInt8) (f : Nat) (ws : List Tk), l.drop a = r → a ≤ l.length → l.length < f + a → toksF f l a ws = (ws ++ ts, 0, 0)
theorem lex_tokens {l : List UInt8} {ts : List Tk} (h : Lex l 0 ts) (hl : l.length ≤ 8192) : tokensR l = (ts, 0, 0) := by
  rw [tokens_short hl, h l (l.length + 1) [] rfl (Nat.zero_le _) (by omega)]; rfl
theorem lex_nil {a : Nat} : Lex [] a [] := by
  intro l f ws hd ha hf
  have hl : l.length ≤ a := by rw [List.drop_eq_nil_iff] at hd; exact hd
  obtain ⟨f, rfl⟩ : ∃ g, f = g + 1 := ⟨f - 1, by omega⟩
  rw [tf_end (by rw [hd, skip_nil]) (by rw [hd, skip_nil]; show a + 0 = _; omega), List.append_nil]
theorem at_drop {l r : List UInt8} {a : Nat} {b : UInt8} (h : l.drop a = b :: r) : l[a]? = some b ∧ l.drop (a + 1) = r ∧ a + 1 ≤ l.length := by
  have h1 : (l.drop a)[0]? = some b := by rw [h]; rfl
  rw [List.getElem?_drop] at h1
  have h2 : (l.drop a).drop 1 = r := by rw [h]; rfl
  rw [List.drop_drop] at h2
  have h3 := congrArg List.length h
  rw [List.length_drop, List.length_cons] at h3
  exact ⟨h1, h2, by omega⟩
theorem lex_blank {b : UInt8} {r : List UInt8} {a : Nat} {ts : List Tk} (hb : blkB b = true) (h : Lex r (a + 1) ts) : Lex (b :: r) a ts := by
  intro l f ws hd ha hf
  obtain ⟨h1, h2, h3⟩ := at_drop hd
  obtain ⟨f, rfl⟩ : ∃ g, f = g + 1 := ⟨f - 1, by omega⟩
  rw [← h l (f + 1) ws h2 h3 (by omega)]
  have e : a + ((skipL (l.drop (a + 1))).1 + 1) = a + 1 + (skipL (l.drop (a + 1))).1 := by omega
  rw [toksF, toksF, skip_blank h1 hb]
  simp only [e]
theorem lex_word {w r : List UInt8} {a : Nat} {ts : List Tk} {b : UInt8} {k n : Int} (hb : w[0]? = some b) (h1 : blkB b = false) (h2 : b ≠ 40) (hf : firstR (w ++ r) = (⟨k, w, n, 0⟩, 0)) (h : Lex r (a + w.length) ts) : Lex (w ++ r) a (⟨k, w, n, (a : Int)⟩ :: ts) := by
  intro l f ws hd ha hf2
  have hw : 0 < w.length := by
    cases w with
    | nil => cases hb
    | cons c w => exact Nat.succ_pos _
  have hb2 : (w ++ r)[0]? = some b := by rw [List.getElem?_append_left hw]; exact hb
  have hb3 : l[a]? = some b := by rw [← hd, List.getElem?_drop] at hb2; exact hb2
  have hlen := congrArg List.length hd
  rw [List.length_drop, List.length_append] at hlen
  have hs : skipL (l.drop a) = (0, false) := skip_word hb3 h1 (by
    rw [hd]
    cases w with
    | nil => cases hb
    | cons c w =>
      have : c = b := by simpa using hb
      subst this
      unfold preB
      rw [Bool.and_eq_false_iff]
      right
      rw [List.cons_append, List.length_cons, List.take_succ_cons]
      refine beq_eq_false_iff_ne.2 fun e => h2 ?_
      injection e)
  obtain ⟨f, rfl⟩ : ∃ g, f = g + 1 := ⟨f - 1, by omega⟩
  have hz : a + (skipL (l.drop a)).1 = a := by rw [hs]; rfl
  have hfr : firstR (l.drop (a + (skipL (l.drop a)).1)) = (⟨k, w, n, 0⟩, 0) := by rw [hz, hd]; exact hf
  rw [tf_go (by rw [hs]) (by rw [hz]; omega) (by rw [hfr]), hfr, hz]
  have hd2 : l.drop (a + w.length) = r := by rw [← List.drop_drop, hd, List.drop_left]
  rw [h l f _ hd2 (by omega) (by omega)]
  simp
theorem rn_pre {p : UInt8 → Bool} {w r : List UInt8} (hw : w.all p = true) (hr : ∀ b, r[0]? = some b → p b = false) : rn p (w ++ r) = w.length := by
  unfold rn
  rw [List.takeWhile_append_of_pos (fun x hx => List.all_eq_true.1 hw x hx)]
  have : r.takeWhile p = [] := by
    cases r with
    | nil => rfl
    | cons b r => rw [List.takeWhile_cons, hr b rfl]; rfl
  rw [this, List.append_nil]
theorem take_pre {w r : List UInt8} : (w ++ r).take w.length = w := List.take_left
theorem lex_mark {b : UInt8} {r : List UInt8} {a : Nat} {ts : List Tk} (hb : (blkB b == false && digB b == false && nbgB b == false && mrkB b && (b != 40) && (b != 47) && (b != 92)) = true) (h : Lex r (a + 1) ts) : Lex (b :: r) a (⟨3, [b], 0, (a : Int)⟩ :: ts) := by
  simp only [Bool.and_eq_true, beq_iff_eq, bne_iff_ne] at hb
  obtain ⟨⟨⟨⟨⟨⟨b1, b2⟩, b3⟩, b4⟩, b5⟩, b6⟩, b7⟩ := hb
  refine lex_word (w := [b]) rfl b1 b5 ?_ h
  have hm : mkN ([b] ++ r) = 1 := by
    unfold mkN preB
    have e1 : (([b] ++ r).take [(47 : UInt8), 92].length == [47, 92]) = false := by
      rw [List.singleton_append, List.length_cons, List.take_succ_cons]
      exact beq_eq_false_iff_ne.2 fun e => b6 (by injection e)
    have e2 : (([b] ++ r).take [(92 : UInt8), 47].length == [92, 47]) = false := by
      rw [List.singleton_append, List.length_cons, List.take_succ_cons]
      exact beq_eq_false_iff_ne.2 fun e => b7 (by injection e)
    rw [e1, e2, Bool.and_false, Bool.and_false]
    simp [b4]
  rw [first_mark (b := b) rfl b2 b3 (by rw [hm]; decide), hm]; rfl
theorem nb_not {b : UInt8} (h : nbgB b = true) : blkB b = false ∧ digB b = false ∧ b ≠ 40 := by
  unfold nbgB letB at h
  unfold blkB digB
  simp only [Bool.or_eq_true, decide_eq_true_eq, beq_iff_eq] at h
  refine ⟨decide_eq_false (by omega), decide_eq_false (by omega), fun e => ?_⟩
  subst e
  revert h
  decide
structure Nam (w : List UInt8) : Prop where
  b : ∃ c, w[0]? = some c ∧ nbgB c = true
  p : w.all namB = true
theorem lex_name {w r : List UInt8} {a : Nat} {ts : List Tk} (hw : Nam w) (hr : ∀ b, r[0]? = some b → namB b = false) (h : Lex r (a + w.length) ts) : Lex (w ++ r) a (⟨1, w, 0, (a : Int)⟩ :: ts) := by
  obtain ⟨c, hc, hn⟩ := hw.b
  obtain ⟨q1, q2, q3⟩ := nb_not hn
  refine lex_word hc q1 q3 ?_ h
  have hl : 0 < w.length := by
    cases w with
    | nil => cases hc
    | cons c w => exact Nat.succ_pos _
  rw [first_name (b := c) (by rw [List.getElem?_append_left hl]; exact hc) q2 hn, rn_pre hw.p hr, take_pre]
theorem lex_num {w r : List UInt8} {a : Nat} {ts : List Tk} {n : Int} {c : UInt8} (hc : w[0]? = some c) (hd : digB c = true) (hw : w.all numB = true) (hn : numR w = some n) (hr : ∀ b, r[0]? = some b → numB b = false) (h : Lex r (a + w.length) ts) : Lex (w ++ r) a (⟨2, w, n, (a : Int)⟩ :: ts) := by
  have q1 : blkB c = false := by unfold digB at hd; unfold blkB; simp only [decide_eq_true_eq] at hd; exact decide_eq_false (by omega)
  have q3 : c ≠ 40 := fun e => by subst e; revert hd; decide
  refine lex_word hc q1 q3 ?_ h
  have hl : 0 < w.length := by
    cases w with
    | nil => cases hc
    | cons c w => exact Nat.succ_pos _
  have ht : (w ++ r).take (rn numB (w ++ r)) = w := by rw [rn_pre hw hr, take_pre]
  rw [first_num (b := c) (n := n) (by rw [List.getElem?_append_left hl]; exact hc) hd (by rw [ht]; exact hn), ht]
theorem dec_all (u : Nat) : (Lib.decDigits u).all digB = true ∧ Lib.decDigits u ≠ [] := by
  rw [Lib.decDigits_eq]
  refine ⟨List.all_eq_true.2 fun x hx => ?_, ?_⟩
  · obtain ⟨t, _, rfl⟩ := List.mem_map.1 hx
    unfold Lib.dg digB
    have h10 := Nat.mod_lt (u / 10 ^ (Lib.nDigits u - 1 - t)) (by decide : 0 < 10)
    generalize u / 10 ^ (Lib.nDigits u - 1 - t) % 10 = d at h10 ⊢
    have : d = 0 ∨ d = 1 ∨ d = 2 ∨ d = 3 ∨ d = 4 ∨ d = 5 ∨ d = 6 ∨ d = 7 ∨ d = 8 ∨ d = 9 := by omega
    rcases this with e | e | e | e | e | e | e | e | e | e <;> subst e <;> decide
  · intro e
    have := congrArg List.length e
    simp at this
    have := Lib.nDigits_pos u
    omega
theorem nv_app (w : List UInt8) (b : UInt8) : nv 10 (w ++ [b]) = nv 10 w * 10 + dv b := by unfold nv; rw [List.foldl_append]; rfl
theorem dv_of (d : Nat) (h : d < 10) : dv (UInt8.ofNat (48 + d)) = d := by
  have : d = 0 ∨ d = 1 ∨ d = 2 ∨ d = 3 ∨ d = 4 ∨ d = 5 ∨ d = 6 ∨ d = 7 ∨ d = 8 ∨ d = 9 := by omega
  rcases this with e | e | e | e | e | e | e | e | e | e <;> subst e <;> decide
theorem nv_dec : ∀ (k u : Nat), u < 10 ^ k → nv 10 (Lib.decDigits u) = u
  | 0, u, h => by
    have : u = 0 := by simpa using h
    subst this
    rw [Lib.decDigits_one (by decide)]; decide
  | k + 1, u, h => by
    by_cases h1 : u < 10
    · rw [Lib.decDigits_one h1]
      show nv 10 ([] ++ [UInt8.ofNat (48 + u)]) = u
      rw [nv_app, dv_of u h1]; show 0 * 10 + u = u; omega
    · rw [Lib.decDigits, dif_neg h1, nv_app, nv_dec k (u / 10) (by rw [Nat.pow_succ] at h; omega), dv_of _ (Nat.mod_lt _ (by decide))]
      omega
theorem dec_allD (u : Nat) : allD 10 (Lib.decDigits u) = true := by
  unfold allD
  refine List.all_eq_true.2 fun x hx => ?_
  have := List.all_eq_true.1 (dec_all u).1 x hx
  unfold digB at this
  simp only [decide_eq_true_eq] at this
  rw [dv_dig this.1 this.2]
  exact decide_eq_true (by omega)
theorem nv_lt (u : Nat) : nv 10 (Lib.decDigits u) = u := nv_dec (Lib.nDigits u) u (Lib.lt_pow_nDigits u)
theorem num_dec {u : Nat} (h : u ≤ 9223372036854775808) : numR (Lib.decDigits u) = some (IntKind.wrap .i64 (u : Int)) := by
  obtain ⟨ha, hne⟩ := dec_all u
  have hv : valL 10 (Lib.decDigits u) = some u := by
    unfold valL
    rw [if_neg (by rintro (e | e); exact hne e; rw [dec_allD] at e; cases e), nv_lt]
  have hp : preB (Lib.decDigits u) [48, 120] = false := by
    cases hq : preB (Lib.decDigits u) [48, 120] with
    | false => rfl
    | true =>
      unfold preB at hq
      rw [Bool.and_eq_true] at hq
      have he := eq_of_beq hq.2
      have hm : (120 : UInt8) ∈ (Lib.decDigits u).take 2 := by
        have he' : (Lib.decDigits u).take 2 = [48, 120] := he
        rw [he']; decide
      have := List.all_eq_true.1 ha _ (List.mem_of_mem_take hm)
      revert this; decide
  have hl : (Lib.decDigits u).length ≤ 19 := by
    rw [Lib.decDigits_length]
    have h1 : Lib.nDigits u ≤ 20 := Lib.nDigits_le20 u (by omega)
    rcases Nat.lt_or_ge 19 (Lib.nDigits u) with h2 | h2
    · exfalso
      have h20 : Lib.nDigits u = 20 := by omega
      have hge : ∀ (k v : Nat), Lib.nDigits v = k + 1 → 0 < k → 10 ^ k ≤ v := by
        intro k
        induction k with
        | zero => intro v _ h; omega
        | succ k ih =>
          intro v hv _
          by_cases h10 : v < 10
          · rw [Lib.nDigits_small h10] at hv; omega
          · rw [Lib.nDigits_big h10] at hv
            by_cases hk : 0 < k
            · have := ih (v / 10) (by omega) hk
              rw [Nat.pow_succ]; omega
            · have : k = 0 := by omega
              subst this
              omega
      have := hge 19 u (by omega) (by decide)
      have e : (10 : Nat) ^ 19 = 10000000000000000000 := by decide
      omega
    · exact h2
  exact num_okd hp hl hv h
theorem dig_num {w : List UInt8} (h : w.all digB = true) : w.all numB = true := List.all_eq_true.2 fun x hx => by unfold numB; rw [List.all_eq_true.1 h x hx, Bool.or_true]
theorem lex_dec {r : List UInt8} {a u : Nat} {ts : List Tk} (hu : u ≤ 9223372036854775808) (hr : ∀ b, r[0]? = some b → numB b = false) (h : Lex r (a + (Lib.decDigits u).length) ts) : Lex (Lib.decDigits u ++ r) a (⟨2, Lib.decDigits u, IntKind.wrap .i64 (u : Int), (a : Int)⟩ :: ts) := by
  obtain ⟨ha, hne⟩ := dec_all u
  cases hw : Lib.decDigits u with
  | nil => exact absurd hw hne
  | cons c w =>
    rw [hw] at ha h
    have hc := List.all_eq_true.1 ha c List.mem_cons_self
    exact lex_num (c := c) rfl hc (dig_num ha) (by rw [← hw]; exact num_dec hu) hr h
abbrev Ky := Int × List UInt8 × Int
def key (t : Tk) : Ky := (t.kind, t.text, t.n)
def LexK (r : List UInt8) (ks : List Ky) : Prop := ∀ a, ∃ ts, Lex r a ts ∧ ts.map key = ks
def sep (r : List UInt8) : Prop := ∀ b, r[0]? = some b → namB b = false
theorem sep_nil : sep [] := fun b h => by cases h
theorem sep_cons {c : UInt8} {r : List UInt8} (h : namB c = false) : sep (c :: r) := fun b hb => by
  have : c = b := by simpa using hb
  subst this; exact h
theorem num_nam {b : UInt8} (h : namB b = false) : numB b = false := by
  unfold namB nbgB at h; unfold numB
  simp only [Bool.or_eq_false_iff] at h ⊢
  exact ⟨h.1.1, h.2.1⟩
theorem lk_nil : LexK [] [] := fun a => ⟨[], lex_nil, rfl⟩
theorem lk_blank {r : List UInt8} {ks : List Ky} (h : LexK r ks) : LexK (32 :: r) ks := fun a => by
  obtain ⟨ts, h1, h2⟩ := h (a + 1)
  exact ⟨ts, lex_blank (by decide) h1, h2⟩
theorem lk_mark {b : UInt8} {r : List UInt8} {ks : List Ky} (hb : (blkB b == false && digB b == false && nbgB b == false && mrkB b && (b != 40) && (b != 47) && (b != 92)) = true) (h : LexK r ks) : LexK (b :: r) ((3, [b], 0) :: ks) := fun a => by
  obtain ⟨ts, h1, h2⟩ := h (a + 1)
  exact ⟨_, lex_mark hb h1, by rw [List.map_cons, h2]; rfl⟩
theorem lk_name {w r : List UInt8} {ks : List Ky} (hw : Nam w) (hr : sep r) (h : LexK r ks) : LexK (w ++ r) ((1, w, 0) :: ks) := fun a => by
  obtain ⟨ts, h1, h2⟩ := h (a + w.length)
  exact ⟨_, lex_name hw hr h1, by rw [List.map_cons, h2]; rfl⟩
def numK (n : Int) : List Ky := if n < 0 then [(3, [45], 0), (2, Lib.decDigits n.natAbs, IntKind.wrap .i64 (n.natAbs : Int))] else [(2, Lib.decDigits n.toNat, IntKind.wrap .i64 (n.toNat : Int))]
theorem lk_dec {r : List UInt8} {u : Nat} {ks : List Ky} (hu : u ≤ 9223372036854775808) (hr : sep r) (h : LexK r ks) : LexK (Lib.decDigits u ++ r) ((2, Lib.decDigits u, IntKind.wrap .i64 (u : Int)) :: ks) := fun a => by
  obtain ⟨ts, h1, h2⟩ := h (a + (Lib.decDigits u).length)
  exact ⟨_, lex_dec hu (fun b hb => num_nam (hr b hb)) h1, by rw [List.map_cons, h2]; rfl⟩
theorem lk_num {r : List UInt8} {n : Int} {ks : List Ky} (hn : -9223372036854775808 ≤ n ∧ n ≤ 9223372036854775807) (hr : sep r) (h : LexK r ks) : LexK (Lib.itoa n ++ r) (numK n ++ ks) := by
  unfold Lib.itoa numK
  by_cases h0 : n < 0
  · rw [if_pos h0, if_pos h0]
    exact lk_mark (by decide) (lk_dec (by omega) hr h)
  · rw [if_neg h0, if_neg h0]
    exact lk_dec (by omega) hr h
theorem lexK_tokens {l : List UInt8} {ks : List Ky} (h : LexK l ks) (hl : l.length ≤ 8192) : ∃ ws, tokensR l = (ws, 0, 0) ∧ ws.map key = ks := by
  obtain ⟨ts, h1, h2⟩ := h 0
  exact ⟨ts, lex_tokens h1 hl, h2⟩
def At (ws : List Tk) (p : Nat) (ks : List Ky) : Prop := (ws.drop p).map key = ks
section
variable {ws : List Tk} {p : Nat} {k : Ky} {ks : List Ky} {a : Int} {rf : List UInt8 → Int} {q m : List UInt8} {n : Int}
theorem At.hd (h : At ws p (k :: ks)) : ∃ y, ws[p]? = some y ∧ y.kind = k.1 ∧ y.text = k.2.1 ∧ y.n = k.2.2 ∧ At ws (p + 1) ks := by
  unfold At at h ⊢
  cases hd : ws.drop p with
  | nil => rw [hd] at h; cases h
  | cons y l =>
    rw [hd, List.map_cons] at h
    injection h with h1 h2
    have h3 : (ws.drop p)[0]? = some y := by rw [hd]; rfl
    rw [List.getElem?_drop] at h3
    have h4 : (ws.drop p).drop 1 = l := by rw [hd]; rfl
    rw [List.drop_drop] at h4
    exact ⟨y, h3, by rw [← h1]; rfl, by rw [← h1]; rfl, by rw [← h1]; rfl, by rw [h4]; exact h2⟩
theorem At.tl (h : At ws p (k :: ks)) : At ws (p + 1) ks := by
  obtain ⟨_, _, _, _, _, h⟩ := h.hd; exact h
theorem At.no (h : At ws p []) : ws[p]? = none := by
  unfold At at h
  rw [List.map_eq_nil_iff, List.drop_eq_nil_iff] at h
  exact List.getElem?_eq_none h
theorem g_reg (h : At ws p ((1, q, n) :: ks)) (hq : 0 ≤ rf q) : regG rf ws ⟨0, a, p⟩ = (⟨0, a, p + 1⟩, rf q) := by
  obtain ⟨y, h1, h2, h3, _, _⟩ := h.hd
  unfold regG
  simp only [beq_self_eq_true, if_true, h1]
  rw [if_pos (by rw [h2, h3, decide_eq_false (show ¬ rf q < 0 by omega)]; rfl), h3]
theorem g_reads (h : At ws p ((3, m, n) :: ks)) : Old.reads ws m p = true := by
  obtain ⟨y, h1, h2, h3, _, _⟩ := h.hd
  unfold Old.reads
  simp only [h1]
  rw [h2, h3, eqL_same]; rfl
theorem g_reads_no (h : At ws p (k :: ks)) (hm : k.2.1 ≠ m ∨ k.1 = 2) : Old.reads ws m p = false := by
  obtain ⟨y, h1, h2, h3, _, _⟩ := h.hd
  unfold Old.reads
  simp only [h1]
  rw [h2, h3]
  rcases hm with hm | hm
  · rw [Old.eqL_no hm, Bool.and_false]
  · rw [hm]; rfl
theorem g_mark (h : At ws p ((3, m, n) :: ks)) : Old.markR ws m ⟨0, a, p⟩ = ⟨0, a, p + 1⟩ := by
  unfold Old.markR
  simp only [beq_self_eq_true, if_true]
  rw [if_pos (g_reads h)]
theorem g_lab (h : At ws p ((1, q, n) :: ks)) : Old.labR ws ⟨0, a, p⟩ = (⟨0, a, p + 1⟩, q) := by
  obtain ⟨y, h1, h2, h3, _, _⟩ := h.hd
  unfold Old.labR
  simp only [beq_self_eq_true, if_true, h1]
  rw [if_pos (by rw [h2]; rfl), h3]
theorem wrap_small {x : Int} (h : -9223372036854775808 ≤ x ∧ x ≤ 9223372036854775807) : IntKind.wrap .i64 x = x := wrap_in h
theorem g_num (hn : -9223372036854775808 ≤ n ∧ n ≤ 9223372036854775807) (h : At ws p (numK n ++ ks)) : Old.numS ws ⟨0, a, p⟩ = (⟨0, a, p + (numK n).length⟩, n) ∧ At ws (p + (numK n).length) ks := by
  unfold numK at h ⊢
  by_cases h0 : n < 0
  · rw [if_pos h0] at h ⊢
    have hr := g_reads (m := [45]) h
    have h2 := h.tl
    obtain ⟨y, y1, y2, y3, y4, y5⟩ := h2.hd
    refine ⟨?_, y5⟩
    unfold Old.numS
    simp only [beq_self_eq_true, if_true, hr]
    unfold Old.numE
    simp only [y1]
    rw [if_pos (by rw [y2]; rfl)]
    simp only [if_true]
    rw [y4]
    have : IntKind.wrap .i64 (-IntKind.wrap .i64 ((n.natAbs : Nat) : Int)) = n := by
      by_cases hb : n = -9223372036854775808
      · subst hb; decide
      · have e1 : IntKind.wrap .i64 ((n.natAbs : Nat) : Int) = ((n.natAbs : Nat) : Int) := wrap_small (by omega)
        rw [e1, wrap_small (by omega)]; omega
    rw [this]; rfl
  · rw [if_neg h0] at h ⊢
    have hr := g_reads_no (m := [45]) h (.inr rfl)
    obtain ⟨y, y1, y2, y3, y4, y5⟩ := h.hd
    refine ⟨?_, y5⟩
    unfold Old.numS
    simp only [beq_self_eq_true, if_true, hr, Bool.false_eq_true, if_false]
    unfold Old.numE
    simp only [y1]
    rw [if_pos (by rw [y2]; rfl)]
    simp only [Bool.false_eq_true, if_false]
    rw [y4, wrap_small (by omega)]
    have : ((n.toNat : Nat) : Int) = n := by omega
    rw [this]; rfl
end
theorem loc_cases {k : Int} (h : 0 ≤ k ∧ k ≤ 2) : Nam (Old.locN k.toNat) ∧ Old.locF (Old.locN k.toNat) = k := by
  have : k = 0 ∨ k = 1 ∨ k = 2 := by omega
  rcases this with e | e | e <;> subst e <;> exact ⟨⟨⟨_, rfl, by decide⟩, by decide⟩, by decide⟩
def ixK (nf : Int → List UInt8) (x : Int) : List Ky := if x ≥ 0 then [(3, [43], 0), (1, nf x, 0)] else []
def memK (nf : Int → List UInt8) (loc off ix : Int) : List Ky := (3, [91], 0) :: (1, Old.locN loc.toNat, 0) :: ((if off = 0 then [] else (3, [43], 0) :: numK off) ++ (ixK nf ix ++ [(3, [93], 0)]))
def memW (nf : Int → List UInt8) (loc off ix : Int) : List UInt8 := [91] ++ Old.locN loc.toNat ++ (if off = 0 then [] else [43] ++ Lib.itoa off) ++ (if ix ≥ 0 then [43] ++ nf ix else []) ++ [93]
theorem memT_w (i : Old.Ins) : Old.memT i = memW Old.nameF i.loc i.off i.index := by
  unfold Old.memT memW
  by_cases h1 : i.off = 0
  · rw [if_pos (beq_iff_eq.2 h1), if_pos h1]
    by_cases h2 : i.index ≥ 0
    · rw [if_pos (decide_eq_true h2), if_pos h2]; simp
    · rw [if_neg (by rw [decide_eq_false h2]; decide), if_neg h2]; simp
  · rw [if_neg (fun e => h1 (eq_of_beq e)), if_neg h1]
    by_cases h2 : i.index ≥ 0
    · rw [if_pos (decide_eq_true h2), if_pos h2]; simp
    · rw [if_neg (by rw [decide_eq_false h2]; decide), if_neg h2]; simp
section
variable {nf : Int → List UInt8} {loc off ix : Int} {r : List UInt8} {ks : List Ky}
theorem lk_ix (hn : ∀ x, 0 ≤ x → x < 8 → Nam (nf x)) (hx : ix = -1 ∨ (0 ≤ ix ∧ ix < 8)) (hr : sep r) (h : LexK r ks) : LexK ((if ix ≥ 0 then [43] ++ nf ix else []) ++ r) (ixK nf ix ++ ks) := by
  unfold ixK
  rcases hx with hx | hx
  · rw [if_neg (by omega), if_neg (by omega)]; exact h
  · rw [if_pos (by omega), if_pos (by omega)]
    exact lk_mark (by decide) (lk_name (hn ix hx.1 hx.2) hr h)
theorem sep_ix (hr : sep r) : sep ((if ix ≥ 0 then [43] ++ nf ix else []) ++ r) := by
  split
  · exact sep_cons (by decide)
  · exact hr
theorem lk_mem (hn : ∀ x, 0 ≤ x → x < 8 → Nam (nf x)) (hl : 0 ≤ loc ∧ loc ≤ 2) (ho : 0 ≤ off ∧ off < 8) (hx : ix = -1 ∨ (0 ≤ ix ∧ ix < 8)) (h : LexK r ks) : LexK (memW nf loc off ix ++ r) (memK nf loc off ix ++ ks) := by
  unfold memW memK
  have h1 : LexK (93 :: r) ((3, [93], 0) :: ks) := lk_mark (by decide) h
  have h2 := lk_ix (nf := nf) hn hx (r := 93 :: r) (sep_cons (by decide)) h1
  have h3 : LexK ((if off = 0 then [] else [43] ++ Lib.itoa off) ++ ((if ix ≥ 0 then [43] ++ nf ix else []) ++ (93 :: r))) ((if off = 0 then [] else (3, [43], 0) :: numK off) ++ (ixK nf ix ++ (3, [93], 0) :: ks)) ∧ sep ((if off = 0 then [] else [43] ++ Lib.itoa off) ++ ((if ix ≥ 0 then [43] ++ nf ix else []) ++ (93 :: r))) := by
    by_cases h0 : off = 0
    · rw [if_pos h0, if_pos h0]; exact ⟨h2, sep_ix (sep_cons (by decide))⟩
    · rw [if_neg h0, if_neg h0]
      exact ⟨lk_mark (by decide) (lk_num (by omega) (sep_ix (sep_cons (by decide))) h2), sep_cons (by decide)⟩
  have h4 := lk_mark (b := 91) (by decide) (lk_name (loc_cases hl).1 h3.2 h3.1)
  simpa using h4
end
section
variable {ws : List Tk} {p : Nat} {ks : List Ky} {a : Int} {rf : List UInt8 → Int} {nf : Int → List UInt8} {loc off ix : Int} {i : Old.Ins}
theorem g_plus (h : At ws p ((3, [43], 0) :: ks)) : Old.plusR ws ⟨0, a, p⟩ = true := by
  unfold Old.plusR; rw [g_reads h]; rfl
theorem g_plus_no (h : At ws p ((3, [93], 0) :: ks)) : Old.plusR ws ⟨0, a, p⟩ = false := by
  unfold Old.plusR; rw [g_reads_no h (.inl (by decide))]; rfl
theorem g_off (hrf : ∀ x, 0 ≤ x → x < 8 → rf (nf x) = x) (hx : ix = -1 ∨ (0 ≤ ix ∧ ix < 8)) (hi : i.index = -1) (h : At ws p (ixK nf ix ++ (3, [93], 0) :: ks)) : Old.closeR ws (offG rf ws ⟨0, a, p⟩ i) = (⟨0, a, p + (ixK nf ix).length + 1⟩, { i with index := ix }) ∧ At ws (p + (ixK nf ix).length + 1) ks := by
  unfold ixK at h ⊢
  rcases hx with hx | hx
  · rw [if_neg (by omega)] at h ⊢
    have h' : At ws p ((3, [93], 0) :: ks) := h
    refine ⟨?_, h'.tl⟩
    unfold offG
    rw [g_plus_no h', if_neg (by decide)]
    unfold Old.closeR
    simp only
    rw [g_mark h']
    have : ({ i with index := ix } : Old.Ins) = i := by rw [hx, ← hi]
    rw [this]; rfl
  · rw [if_pos (by omega)] at h ⊢
    have h' : At ws p ((3, [43], 0) :: (1, nf ix, 0) :: (3, [93], 0) :: ks) := h
    refine ⟨?_, h'.tl.tl.tl⟩
    unfold offG
    rw [g_plus h', if_pos rfl]
    unfold idxG
    have e := g_reg (rf := rf) (a := a) h'.tl (by rw [hrf ix hx.1 hx.2]; exact hx.1)
    simp only [e]
    unfold Old.closeR
    simp only
    rw [g_mark h'.tl.tl, hrf ix hx.1 hx.2]; rfl
theorem g_mem (hrf : ∀ x, 0 ≤ x → x < 8 → rf (nf x) = x) (hl : 0 ≤ loc ∧ loc ≤ 2) (ho : 0 ≤ off ∧ off < 8) (hx : ix = -1 ∨ (0 ≤ ix ∧ ix < 8)) (hi : i.index = -1) (hi2 : i.off = 0) (h : At ws p (memK nf loc off ix ++ ks)) : memG rf ws ⟨0, a, p⟩ i = (⟨0, a, p + (memK nf loc off ix).length⟩, { i with loc := loc, off := off, index := ix }) ∧ At ws (p + (memK nf loc off ix).length) ks := by
  unfold memK at h ⊢
  have h1 : At ws p ((3, [91], 0) :: (1, Old.locN loc.toNat, 0) :: ((if off = 0 then [] else (3, [43], 0) :: numK off) ++ (ixK nf ix ++ (3, [93], 0) :: ks))) := by simpa using h
  have h2 := h1.tl
  obtain ⟨y, y1, y2, y3, y4, y5⟩ := h2.hd
  unfold memG
  rw [g_mark h1]
  unfold memIG
  simp only [beq_self_eq_true, if_true, y1]
  rw [if_pos (by rw [y2, y3, (loc_cases hl).2, decide_eq_false (by omega)]; rfl), y3, (loc_cases hl).2]
  by_cases h0 : off = 0
  · rw [if_pos h0] at y5 ⊢
    have hk : At ws (p + 1 + 1) (ixK nf ix ++ (3, [93], 0) :: ks) := by simpa using y5
    have ho2 := g_off (rf := rf) (a := a) (i := { i with loc := loc }) hrf hx hi hk
    have e : memEG rf ws ⟨0, a, p + 1 + 1⟩ { i with loc := loc } = offG rf ws ⟨0, a, p + 1 + 1⟩ { i with loc := loc } := by
      unfold memEG offG
      rcases hx with hx | hx
      · have hk' : At ws (p + 1 + 1) ((3, [93], 0) :: ks) := by unfold ixK at hk; rw [if_neg (by omega)] at hk; exact hk
        rw [g_plus_no hk', if_neg (by decide), if_neg (by decide)]
      · have hk' : At ws (p + 1 + 1) ((3, [43], 0) :: (1, nf ix, 0) :: (3, [93], 0) :: ks) := by unfold ixK at hk; rw [if_pos (by omega)] at hk; exact hk
        rw [g_plus hk', if_pos rfl, if_pos rfl]
        obtain ⟨z, z1, z2, _⟩ := hk'.tl.hd
        simp only [z1]
        rw [if_neg (by rw [z2]; exact (by decide : ¬ ((1 : Int) == 2) = true))]
    rw [e, ho2.1]
    have e3 : p + 1 + 1 + (ixK nf ix).length + 1 = p + ((3, [91], 0) :: (1, Old.locN loc.toNat, 0) :: (([] : List Ky) ++ (ixK nf ix ++ [((3 : Int), ([93] : List UInt8), (0 : Int))]))).length := by
      simp only [List.length_cons, List.length_append, List.length_nil]; omega
    refine ⟨?_, by rw [← e3]; exact ho2.2⟩
    rw [e3]
    have e4 : ({ ({ i with loc := loc } : Old.Ins) with index := ix } : Old.Ins) = { i with loc := loc, off := off, index := ix } := by rw [h0, ← hi2]
    rw [e4]
  · rw [if_neg h0] at y5 ⊢
    have hk : At ws (p + 1 + 1) ((3, [43], 0) :: (numK off ++ (ixK nf ix ++ (3, [93], 0) :: ks))) := by simpa using y5
    have en : numK off = [(2, Lib.decDigits off.toNat, off)] := by
      unfold numK
      rw [if_neg (by omega), wrap_small (by omega)]
      have : ((off.toNat : Nat) : Int) = off := by omega
      rw [this]
    rw [en] at hk ⊢
    have hk' : At ws (p + 1 + 1) ((3, [43], 0) :: (2, Lib.decDigits off.toNat, off) :: (ixK nf ix ++ (3, [93], 0) :: ks)) := hk
    obtain ⟨z, z1, z2, _, z4, z5⟩ := hk'.tl.hd
    have ho2 := g_off (rf := rf) (a := a) (i := { i with loc := loc, off := off }) hrf hx hi z5
    have e : memEG rf ws ⟨0, a, p + 1 + 1⟩ { i with loc := loc } = offG rf ws ⟨0, a, p + 1 + 1 + 1 + 1⟩ { i with loc := loc, off := off } := by
      unfold memEG
      rw [g_plus hk', if_pos rfl]
      simp only [z1]
      rw [if_pos (by rw [z2]; rfl), z4]
    rw [e, ho2.1]
    have e3 : p + 1 + 1 + 1 + 1 + (ixK nf ix).length + 1 = p + ((3, [91], 0) :: (1, Old.locN loc.toNat, 0) :: (((3, [43], 0) :: [((2 : Int), Lib.decDigits off.toNat, off)]) ++ (ixK nf ix ++ [((3 : Int), ([93] : List UInt8), (0 : Int))]))).length := by
      simp only [List.length_cons, List.length_append, List.length_nil]; omega
    exact ⟨by rw [e3], by rw [← e3]; exact ho2.2⟩
end
theorem nam_first {l : List UInt8} (h : (firstR l).2 = 0) (hk : (firstR l).1.kind = 1) : Nam (firstR l).1.text := by
  cases hb : l[0]? with
  | none => unfold firstR at h; simp [hb] at h
  | some b =>
    cases h1 : digB b
    · cases h2 : nbgB b
      · by_cases h3 : mkN l > 0
        · rw [first_mark hb h1 h2 h3] at hk; cases hk
        · rw [first_byte hb h1 h2 h3] at h; cases h
      · rw [first_name hb h1 h2]
        have h0 := Old.head_tw (p := namB) hb (by unfold namB; rw [h2, Bool.true_or])
        refine ⟨⟨b, ?_, h2⟩, ?_⟩
        · show (l.take (rn namB l))[0]? = some b
          rw [Old.tw_take]; exact h0
        · show (l.take (rn namB l)).all namB = true
          rw [Old.tw_take, List.all_takeWhile]
    · cases hn : numR (l.take (rn numB l)) with
      | none => rw [first_bad hb h1 hn] at h; cases h
      | some n => rw [first_num hb h1 hn] at hk; cases hk
theorem wrap_rng (n : Int) : -9223372036854775808 ≤ IntKind.wrap .i64 n ∧ IntKind.wrap .i64 n ≤ 9223372036854775807 := by
  simp only [IntKind.wrap, IntKind.signed, IntKind.bits]; simp; omega
theorem num_rng {l : List UInt8} {n : Int} (h : numR l = some n) : -9223372036854775808 ≤ n ∧ n ≤ 9223372036854775807 := by
  have : ∀ o : Option Nat, fits o = some n → -9223372036854775808 ≤ n ∧ n ≤ 9223372036854775807 := by
    intro o ho
    unfold fits at ho
    split at ho
    · split at ho
      · cases ho
      · cases ho; exact wrap_rng _
    · cases ho
  unfold numR at h
  split at h
  · split at h
    · cases h
    · exact this _ h
  · split at h
    · cases h
    · exact this _ h
theorem rng_first {l : List UInt8} (h : (firstR l).2 = 0) : -9223372036854775808 ≤ (firstR l).1.n ∧ (firstR l).1.n ≤ 9223372036854775807 := by
  cases hb : l[0]? with
  | none => unfold firstR at h; simp [hb] at h
  | some b =>
    cases h1 : digB b
    · cases h2 : nbgB b
      · by_cases h3 : mkN l > 0
        · rw [first_mark hb h1 h2 h3]; exact ⟨(by decide : (-9223372036854775808 : Int) ≤ 0), (by decide : (0 : Int) ≤ 9223372036854775807)⟩
        · rw [first_byte hb h1 h2 h3] at h; cases h
      · rw [first_name hb h1 h2]; exact ⟨(by decide : (-9223372036854775808 : Int) ≤ 0), (by decide : (0 : Int) ≤ 9223372036854775807)⟩
    · cases hn : numR (l.take (rn numB l)) with
      | none => rw [first_bad hb h1 hn] at h; cases h
      | some n => rw [first_num hb h1 hn]; exact num_rng hn
structure TkW (t : Tk) : Prop where
  nm : t.kind = 1 → Nam t.text
  rg : -9223372036854775808 ≤ t.n ∧ t.n ≤ 9223372036854775807
theorem tkw_toks : ∀ (f : Nat) (l : List UInt8) (a : Nat) (ws : List Tk), (∀ t ∈ ws, TkW t) → ∀ t ∈ (toksF f l a ws).1, TkW t
  | 0, l, a, ws, h => fun y hy => by cases hy
  | f + 1, l, a, ws, h => by
    rw [toksF]
    split
    · exact fun y hy => by cases hy
    · split
      · exact h
      · split
        · next hf =>
          refine tkw_toks f l _ _ fun y hy => ?_
          rcases List.mem_append.1 hy with hy | hy
          · exact h y hy
          · rw [List.mem_singleton] at hy
            subst hy
            exact ⟨fun hk => nam_first hf hk, rng_first hf⟩
        · exact fun y hy => by cases hy
theorem tkw_tokens {l : List UInt8} {ws : List Tk} {k : Nat} {e : Int} (h : tokensR l = (ws, e, k)) : ∀ t ∈ ws, TkW t := by
  have : ∀ t ∈ (tokensR l).1, TkW t := by
    unfold tokensR
    split
    · exact fun y hy => by cases hy
    · exact tkw_toks _ _ _ _ fun y hy => by cases hy
  rw [h] at this; exact this
theorem isNm_nam {l : List UInt8} (h : Old.isNm l = true) : Nam l := by
  unfold Old.isNm at h
  simp only [Bool.and_eq_true] at h
  have h3 := h.2
  cases hy : (tokensR l).1[0]? with
  | none => rw [hy] at h3; cases h3
  | some y =>
    rw [hy] at h3
    simp only [Bool.and_eq_true, beq_iff_eq] at h3
    have := tkw_tokens (l := l) (ws := (tokensR l).1) (e := (tokensR l).2.1) (k := (tokensR l).2.2) rfl y (List.mem_of_getElem? hy)
    have e := eqL_eq h3.2
    rw [← e]; exact this.nm h3.1
theorem nam_isNm {l : List UInt8} (h : Nam l) (hl : l.length ≤ 8192) : Old.isNm l = true := by
  have h1 : Lex (l ++ []) 0 [⟨1, l, 0, ((0 : Nat) : Int)⟩] := lex_name h (fun b hb => by cases hb) lex_nil
  rw [List.append_nil] at h1
  have := lex_tokens h1 hl
  unfold Old.isNm
  rw [this]
  show ((((0 : Int) == 0) && ((((1 : Nat) : Int)) == 1)) && (((1 : Int) == 1) && eqL l l)) = true
  rw [eqL_same]; rfl
end Go.Proofs.YtedlaclfhgneeaaGreatDoor
namespace Go.Proofs.YtedlaclfhgneeaaGreatDoor
set_option linter.unusedVariables false
set_option linter.unusedSimpArgs false
set_option maxRecDepth 100000
set_option maxHeartbeats 1000000
theorem xreg_cases {k : Int} (h0 : 0 ≤ k) (h8 : k < 8) : Nam (Old.nameF k) ∧ Old.regF (Old.nameF k) = k := by
  have : k = 0 ∨ k = 1 ∨ k = 2 ∨ k = 3 ∨ k = 4 ∨ k = 5 ∨ k = 6 ∨ k = 7 := by omega
  rcases this with e | e | e | e | e | e | e | e <;> subst e <;> exact ⟨⟨⟨_, rfl, by decide⟩, by decide⟩, by decide⟩
theorem xrf (x : Int) (h0 : 0 ≤ x) (h8 : x < 8) : Old.regF (Old.nameF x) = x := (xreg_cases h0 h8).2
theorem xnf (x : Int) (h0 : 0 ≤ x) (h8 : x < 8) : Nam (Old.nameF x) := (xreg_cases h0 h8).1
section
variable {ws : List Tk} {p : Nat} {ks : List Ky} {q lb : List UInt8} {d n m : Int} {i j : Old.Ins}
theorem x_reg (hd : 0 ≤ d ∧ d < 8) (h : At ws p ((1, Old.nameF d, 0) :: ks)) : Old.regR ws ⟨0, 0, p⟩ = (⟨0, 0, p + 1⟩, d) := by
  have := g_reg (rf := Old.regF) (a := 0) h (by rw [xrf d hd.1 hd.2]; exact hd.1)
  rw [xrf d hd.1 hd.2] at this; exact this
theorem x_mem {loc off ix : Int} (hl : 0 ≤ loc ∧ loc ≤ 2) (ho : 0 ≤ off ∧ off < 8) (hx : ix = -1 ∨ (0 ≤ ix ∧ ix < 8)) (hi : i.index = -1) (hi2 : i.off = 0) (h : At ws p (memK Old.nameF loc off ix ++ ks)) : Old.memR ws ⟨0, 0, p⟩ i = (⟨0, 0, p + (memK Old.nameF loc off ix).length⟩, { i with loc := loc, off := off, index := ix }) ∧ At ws (p + (memK Old.nameF loc off ix).length) ks :=
  g_mem (rf := Old.regF) (a := 0) xrf hl ho hx hi hi2 h
theorem x_imm (hn : -9223372036854775808 ≤ n ∧ n ≤ 9223372036854775807) (h : At ws p ((3, [36], 0) :: (numK n ++ ks))) : Old.isImmR ws ⟨0, 0, p⟩ = true ∧ Old.immR ws ⟨0, 0, p⟩ = (⟨0, 0, p + 1 + (numK n).length⟩, n) ∧ At ws (p + 1 + (numK n).length) ks := by
  have g := g_num (a := 0) hn h.tl
  refine ⟨?_, ?_, g.2⟩
  · unfold Old.isImmR; rw [g_reads h]; rfl
  · unfold Old.immR; rw [g_mark h]; exact g.1
theorem x_noimm (h : At ws p ((1, q, 0) :: ks)) (hq : q ≠ [36]) : Old.isImmR ws ⟨0, 0, p⟩ = false := by
  unfold Old.isImmR; rw [g_reads_no h (.inl hq)]; rfl
theorem nam_ne {w : List UInt8} {c : UInt8} (h : Nam w) (hc : nbgB c = false) : w ≠ [c] := fun e => by
  obtain ⟨b, h1, h2⟩ := h.b
  rw [e] at h1
  have : c = b := by simpa using h1
  subst this
  rw [hc] at h2; cases h2
def orKx (r n : Int) : List Ky := if r < 0 then (3, [36], 0) :: numK n else [(1, Old.nameF r, 0)]
theorem lk_or {r : List UInt8} {k : Int} (hk : k = -1 ∨ (0 ≤ k ∧ k < 8)) (hn : -9223372036854775808 ≤ n ∧ n ≤ 9223372036854775807) (hr : sep r) (h : LexK r ks) : LexK (Old.regOrT k n ++ r) (orKx k n ++ ks) := by
  unfold Old.regOrT orKx Old.numT
  rcases hk with hk | hk
  · rw [if_pos (decide_eq_true (by omega)), if_pos (by omega), List.append_assoc]
    exact lk_mark (by decide) (lk_num hn hr h)
  · rw [if_neg (by rw [decide_eq_false (by omega)]; decide), if_neg (by omega)]
    exact lk_name (xnf k hk.1 hk.2) hr h
theorem fin_back {ins : Old.Ins} {P : Nat} (h0 : At ws 0 ((1, q, 0) :: ks)) (hx : Old.x86R ws ⟨0, 0, 0 + 1⟩ Old.blank q = ((true, lb), ⟨0, 0, P⟩, ins)) (hP : At ws P []) (hr : Old.rightR (Old.asB ins) 0 1 = 0) : Old.parR ws = (ins, lb, 0, 0) := by
  obtain ⟨y, y1, y2, y3, _, _⟩ := h0.hd
  rw [Old.par_name y1 (by rw [y2]; rfl), y3]
  show Old.finR ws (Old.x86R ws ⟨0, 0, 0 + 1⟩ Old.blank q) = _
  rw [hx]
  unfold Old.finR
  have hm : Old.moreR ws ⟨0, 0, P⟩ = ⟨0, 0, P⟩ := by unfold Old.moreR; simp only [hP.no]
  have hl : Old.lastR ws ⟨0, 0, P⟩ ins = ⟨0, 0, P⟩ := by unfold Old.lastR; rw [beq_iff_eq.2 hr]; rfl
  simp only [if_true, hm, hl]
  rfl
theorem x_mov1 (hd : 0 ≤ d ∧ d < 8) (hn : -9223372036854775808 ≤ n ∧ n ≤ 9223372036854775807) (h : At ws 0 ((1, [77, 79, 86], 0) :: (1, Old.nameF d, 0) :: (3, [44], 0) :: (3, [36], 0) :: (numK n ++ []))) : ∃ P, Old.x86R ws ⟨0, 0, 0 + 1⟩ Old.blank [77, 79, 86] = ((true, []), ⟨0, 0, P⟩, ⟨1, d, -1, -1, n, 0, 0, -1, 0, 0, false, false, false, 0, 0, 0, false⟩) ∧ At ws P [] := by
  have e1 := x_reg hd h.tl
  have e2 := g_mark (a := 0) h.tl.tl
  obtain ⟨e3, e4, e5⟩ := x_imm hn h.tl.tl.tl
  refine ⟨_, ?_, e5⟩
  unfold Old.x86R
  simp only [show eqL ([77, 79, 86] : List UInt8) [77, 79, 86] = true from rfl, if_true, e1, e2, e3, e4]
  rfl
theorem x_mov2 (hd : 0 ≤ d ∧ d < 8) (hn : 0 ≤ n ∧ n < 8) (h : At ws 0 ((1, [77, 79, 86], 0) :: (1, Old.nameF d, 0) :: (3, [44], 0) :: (1, Old.nameF n, 0) :: [])) : ∃ P, Old.x86R ws ⟨0, 0, 0 + 1⟩ Old.blank [77, 79, 86] = ((true, []), ⟨0, 0, P⟩, ⟨2, d, n, -1, 0, 0, 0, -1, 0, 0, false, false, false, 0, 0, 0, false⟩) ∧ At ws P [] := by
  have e1 := x_reg hd h.tl
  have e2 := g_mark (a := 0) h.tl.tl
  have e3 := x_noimm h.tl.tl.tl (nam_ne (xnf n hn.1 hn.2) (by decide))
  have e4 := x_reg hn h.tl.tl.tl
  refine ⟨_, ?_, h.tl.tl.tl.tl⟩
  unfold Old.x86R
  simp only [show eqL ([77, 79, 86] : List UInt8) [77, 79, 86] = true from rfl, if_true, e1, e2, e3, e4, Bool.false_eq_true, if_false]
  rfl
theorem alu_cases {f : Int} (h : 1 ≤ f ∧ f ≤ 5) : Nam (Old.fnT f) ∧ eqL (Old.fnT f) [77, 79, 86] = false ∧ Old.aluF (Old.fnT f) = f := by
  have : f = 1 ∨ f = 2 ∨ f = 3 ∨ f = 4 ∨ f = 5 := by omega
  rcases this with e | e | e | e | e <;> subst e <;> exact ⟨⟨⟨_, rfl, by decide⟩, by decide⟩, by decide, by decide⟩
theorem x_alu {f k : Int} (hf : 1 ≤ f ∧ f ≤ 5) (hd : 0 ≤ d ∧ d < 8) (hk : k = -1 ∨ (0 ≤ k ∧ k < 8)) (hn : -9223372036854775808 ≤ n ∧ n ≤ 9223372036854775807) (hz : 0 ≤ k → n = 0) (h : At ws 0 ((1, Old.fnT f, 0) :: (1, Old.nameF d, 0) :: (3, [44], 0) :: (orKx k n ++ []))) : ∃ P, Old.x86R ws ⟨0, 0, 0 + 1⟩ Old.blank (Old.fnT f) = ((true, []), ⟨0, 0, P⟩, ⟨3, d, d, k, n, 0, 0, -1, 0, f, false, false, false, 0, 0, 0, false⟩) ∧ At ws P [] := by
  obtain ⟨_, c1, c2⟩ := alu_cases hf
  have e1 := x_reg hd h.tl
  have e2 := g_mark (a := 0) h.tl.tl
  have c3 : decide (f > 0) = true := decide_eq_true (by omega)
  have h3 := h.tl.tl.tl
  unfold orKx at h3
  rcases hk with hk | hk
  · rw [if_pos (by omega)] at h3
    obtain ⟨e3, e4, e5⟩ := x_imm hn h3
    refine ⟨_, ?_, e5⟩
    unfold Old.x86R
    simp only [c1, c3, if_true, e1, e2, e3, e4, Bool.false_eq_true, if_false, c2, hk]
    rfl
  · rw [if_neg (by omega)] at h3
    have h4 : At ws (0 + 1 + 1 + 1) ((1, Old.nameF k, 0) :: []) := h3
    have e3 := x_noimm h4 (nam_ne (xnf k hk.1 hk.2) (by decide))
    have e4 := x_reg hk h4
    refine ⟨_, ?_, h4.tl⟩
    unfold Old.x86R
    simp only [c1, c3, if_true, e1, e2, e3, e4, Bool.false_eq_true, if_false, c2, hz hk.1]
    rfl
theorem sz_cases {z : Int} (h : z = 1 ∨ z = 2 ∨ z = 4 ∨ z = 8) : (Nam ([77, 79, 86] ++ Old.tlX z) ∧ eqL ([77, 79, 86] ++ Old.tlX z) [77, 79, 86] = false ∧ Old.aluF ([77, 79, 86] ++ Old.tlX z) = 0 ∧ Old.szF ([77, 79, 86] ++ Old.tlX z) [77, 79, 86] = z) := by
  rcases h with e | e | e | e <;> subst e <;> exact ⟨⟨⟨_, rfl, by decide⟩, by decide⟩, by decide, by decide, by decide⟩
theorem sw_cases {z : Int} (h : z = 1 ∨ z = 2 ∨ z = 4 ∨ z = 8) : (Nam ([88, 67, 72, 71] ++ Old.tlX z) ∧ eqL ([88, 67, 72, 71] ++ Old.tlX z) [77, 79, 86] = false ∧ Old.aluF ([88, 67, 72, 71] ++ Old.tlX z) = 0 ∧ Old.szF ([88, 67, 72, 71] ++ Old.tlX z) [77, 79, 86] = 0 ∧ Old.szF ([88, 67, 72, 71] ++ Old.tlX z) [88, 67, 72, 71] = z ∧ Old.szF ([88, 67, 72, 71] ++ Old.tlX z) [88, 65, 68, 68] = 0) := by
  rcases h with e | e | e | e <;> subst e <;> exact ⟨⟨⟨_, rfl, by decide⟩, by decide⟩, by decide, by decide, by decide, by decide, by decide⟩
theorem ad_cases {z : Int} (h : z = 1 ∨ z = 2 ∨ z = 4 ∨ z = 8) : (Nam ([88, 65, 68, 68] ++ Old.tlX z) ∧ eqL ([88, 65, 68, 68] ++ Old.tlX z) [77, 79, 86] = false ∧ Old.aluF ([88, 65, 68, 68] ++ Old.tlX z) = 0 ∧ Old.szF ([88, 65, 68, 68] ++ Old.tlX z) [77, 79, 86] = 0 ∧ Old.szF ([88, 65, 68, 68] ++ Old.tlX z) [88, 67, 72, 71] = 0 ∧ Old.szF ([88, 65, 68, 68] ++ Old.tlX z) [88, 65, 68, 68] = z) := by
  rcases h with e | e | e | e <;> subst e <;> exact ⟨⟨⟨_, rfl, by decide⟩, by decide⟩, by decide, by decide, by decide, by decide, by decide⟩
theorem x_load {z loc off ix : Int} (hz : z = 1 ∨ z = 2 ∨ z = 4 ∨ z = 8) (hd : 0 ≤ d ∧ d < 8) (hl : 0 ≤ loc ∧ loc ≤ 2) (ho : 0 ≤ off ∧ off < 8) (hx : ix = -1 ∨ (0 ≤ ix ∧ ix < 8)) (h : At ws 0 ((1, [77, 79, 86] ++ Old.tlX z, 0) :: (1, Old.nameF d, 0) :: (3, [44], 0) :: (memK Old.nameF loc off ix ++ []))) : ∃ P, Old.x86R ws ⟨0, 0, 0 + 1⟩ Old.blank ([77, 79, 86] ++ Old.tlX z) = ((true, []), ⟨0, 0, P⟩, ⟨4, d, -1, -1, 0, loc, off, ix, z, 0, false, false, false, 0, 0, 0, false⟩) ∧ At ws P [] := by
  obtain ⟨_, c1, c2, c3⟩ := sz_cases hz
  have e1 := x_reg hd h.tl
  have e2 := g_mark (a := 0) h.tl.tl
  have e0 : ((0 : Int) == 0 && Old.reads ws [91] (0 + 1)) = false := by rw [g_reads_no h.tl (.inl (nam_ne (xnf d hd.1 hd.2) (by decide)))]; rfl
  have k2 : decide ((0 : Int) > 0) = false := by decide
  have k3 : decide (z > 0) = true := decide_eq_true (by omega)
  have e5 := x_mem (i := ⟨4, d, -1, -1, 0, 0, 0, -1, z, 0, false, false, false, 0, 0, 0, false⟩) hl ho hx rfl rfl h.tl.tl.tl
  have e5' : Old.memR ws ⟨0, 0, 0 + 1 + 1 + 1⟩ (Old.Ins.mk 4 d Old.blank.a Old.blank.b Old.blank.imm Old.blank.loc Old.blank.off Old.blank.index z Old.blank.fn Old.blank.acq Old.blank.weak Old.blank.rel Old.blank.pred Old.blank.succ Old.blank.to Old.blank.zero) = _ := e5.1
  refine ⟨_, ?_, e5.2⟩
  unfold Old.x86R
  simp only [c1, c2, c3, k2, k3, e0, if_true, e1, e2, e5', Bool.false_eq_true, if_false]
theorem x_store {z loc off ix k : Int} (hz : z = 1 ∨ z = 2 ∨ z = 4 ∨ z = 8) (hk : k = -1 ∨ (0 ≤ k ∧ k < 8)) (hn : -9223372036854775808 ≤ n ∧ n ≤ 9223372036854775807) (hkn : 0 ≤ k → n = 0) (hl : 0 ≤ loc ∧ loc ≤ 2) (ho : 0 ≤ off ∧ off < 8) (hx : ix = -1 ∨ (0 ≤ ix ∧ ix < 8)) (h : At ws 0 ((1, [77, 79, 86] ++ Old.tlX z, 0) :: (memK Old.nameF loc off ix ++ ((3, [44], 0) :: (orKx k n ++ []))))) : ∃ P, Old.x86R ws ⟨0, 0, 0 + 1⟩ Old.blank ([77, 79, 86] ++ Old.tlX z) = ((true, []), ⟨0, 0, P⟩, ⟨5, -1, k, -1, n, loc, off, ix, z, 0, false, false, false, 0, 0, 0, false⟩) ∧ At ws P [] := by
  obtain ⟨_, c1, c2, c3⟩ := sz_cases hz
  have e0 : ((0 : Int) == 0 && Old.reads ws [91] (0 + 1)) = true := by
    have h' : At ws (0 + 1) ((3, [91], 0) :: _) := h.tl
    rw [g_reads h']; rfl
  have k2 : decide ((0 : Int) > 0) = false := by decide
  have k3 : decide (z > 0) = true := decide_eq_true (by omega)
  have e5 := x_mem (i := ⟨5, -1, -1, -1, 0, 0, 0, -1, z, 0, false, false, false, 0, 0, 0, false⟩) hl ho hx rfl rfl h.tl
  have e5' : Old.memR ws ⟨0, 0, 0 + 1⟩ (Old.Ins.mk 5 Old.blank.dst Old.blank.a Old.blank.b Old.blank.imm Old.blank.loc Old.blank.off Old.blank.index z Old.blank.fn Old.blank.acq Old.blank.weak Old.blank.rel Old.blank.pred Old.blank.succ Old.blank.to Old.blank.zero) = _ := e5.1
  have e2 := g_mark (a := 0) e5.2
  have h3 := e5.2.tl
  unfold orKx at h3
  rcases hk with hk | hk
  · rw [if_pos (by omega)] at h3
    obtain ⟨e3, e4, e6⟩ := x_imm hn h3
    refine ⟨_, ?_, e6⟩
    unfold Old.x86R
    simp only [c1, c2, c3, k2, k3, e0, if_true, e5', e2, e3, e4, Bool.false_eq_true, if_false, hk]
  · rw [if_neg (by omega)] at h3
    have h4 : At ws (0 + 1 + (memK Old.nameF loc off ix).length + 1) ((1, Old.nameF k, 0) :: []) := h3
    have e3 := x_noimm h4 (nam_ne (xnf k hk.1 hk.2) (by decide))
    have e4 := x_reg hk h4
    refine ⟨_, ?_, h4.tl⟩
    unfold Old.x86R
    simp only [c1, c2, c3, k2, k3, e0, if_true, e5', e2, e3, e4, Bool.false_eq_true, if_false, hkn hk.1]
theorem x_swap {z loc off ix : Int} (hz : z = 1 ∨ z = 2 ∨ z = 4 ∨ z = 8) (hd : 0 ≤ d ∧ d < 8) (hl : 0 ≤ loc ∧ loc ≤ 2) (ho : 0 ≤ off ∧ off < 8) (hx : ix = -1 ∨ (0 ≤ ix ∧ ix < 8)) (h : At ws 0 ((1, [88, 67, 72, 71] ++ Old.tlX z, 0) :: (1, Old.nameF d, 0) :: (3, [44], 0) :: (memK Old.nameF loc off ix ++ []))) : ∃ P, Old.x86R ws ⟨0, 0, 0 + 1⟩ Old.blank ([88, 67, 72, 71] ++ Old.tlX z) = ((true, []), ⟨0, 0, P⟩, ⟨6, d, d, -1, 0, loc, off, ix, z, 6, true, false, true, 0, 0, 0, false⟩) ∧ At ws P [] := by
  obtain ⟨_, c1, c2, c3, c4, c5⟩ := sw_cases hz
  have e1 := x_reg hd h.tl
  have e2 := g_mark (a := 0) h.tl.tl
  have k2 : decide ((0 : Int) > 0) = false := by decide
  have k3 : decide (z > 0) = true := decide_eq_true (by omega)
  have kz : IntKind.wrap .i64 (z + 0) = z := by rw [wrap_in (by omega)]; omega
  have e5 := x_mem (i := ⟨6, d, -1, -1, 0, 0, 0, -1, z, 6, true, false, true, 0, 0, 0, false⟩) hl ho hx rfl rfl h.tl.tl.tl
  have e5' : Old.memR ws ⟨0, 0, 0 + 1 + 1 + 1⟩ (Old.Ins.mk 6 d Old.blank.a Old.blank.b Old.blank.imm Old.blank.loc Old.blank.off Old.blank.index z 6 true Old.blank.weak true Old.blank.pred Old.blank.succ Old.blank.to Old.blank.zero) = _ := e5.1
  refine ⟨_, ?_, e5.2⟩
  unfold Old.x86R
  simp only [c1, c2, c3, c4, c5, k2, k3, kz, if_true, e1, e2, e5', Bool.false_eq_true, if_false]
theorem x_add {z loc off ix : Int} (hz : z = 1 ∨ z = 2 ∨ z = 4 ∨ z = 8) (hd : 0 ≤ d ∧ d < 8) (hl : 0 ≤ loc ∧ loc ≤ 2) (ho : 0 ≤ off ∧ off < 8) (hx : ix = -1 ∨ (0 ≤ ix ∧ ix < 8)) (h : At ws 0 ((1, [88, 65, 68, 68] ++ Old.tlX z, 0) :: (memK Old.nameF loc off ix ++ ((3, [44], 0) :: (1, Old.nameF d, 0) :: [])))) : ∃ P, Old.x86R ws ⟨0, 0, 0 + 1⟩ Old.blank ([88, 65, 68, 68] ++ Old.tlX z) = ((true, []), ⟨0, 0, P⟩, ⟨6, d, d, -1, 0, loc, off, ix, z, 1, true, false, true, 0, 0, 0, false⟩) ∧ At ws P [] := by
  obtain ⟨_, c1, c2, c3, c4, c5⟩ := ad_cases hz
  have k2 : decide ((0 : Int) > 0) = false := by decide
  have k3 : decide (z > 0) = true := decide_eq_true (by omega)
  have kz : IntKind.wrap .i64 (0 + z) = z := by rw [wrap_in (by omega)]; omega
  have e5 := x_mem (i := ⟨6, -1, -1, -1, 0, 0, 0, -1, z, 1, true, false, true, 0, 0, 0, false⟩) hl ho hx rfl rfl h.tl
  have e5' : Old.memR ws ⟨0, 0, 0 + 1⟩ (Old.Ins.mk 6 Old.blank.dst Old.blank.a Old.blank.b Old.blank.imm Old.blank.loc Old.blank.off Old.blank.index z 1 true Old.blank.weak true Old.blank.pred Old.blank.succ Old.blank.to Old.blank.zero) = _ := e5.1
  have e2 := g_mark (a := 0) e5.2
  have e1 := x_reg hd e5.2.tl
  refine ⟨_, ?_, e5.2.tl.tl⟩
  unfold Old.x86R
  simp only [c1, c2, c3, c4, c5, k2, k3, kz, if_true, e5', e1, e2, Bool.false_eq_true, if_false]
theorem x_fence (h : At ws 0 ((1, [77, 70, 69, 78, 67, 69], 0) :: [])) : ∃ P, Old.x86R ws ⟨0, 0, 0 + 1⟩ Old.blank [77, 70, 69, 78, 67, 69] = ((true, []), ⟨0, 0, P⟩, ⟨7, -1, -1, -1, 0, 0, 0, -1, 0, 0, false, false, false, 3, 3, 0, false⟩) ∧ At ws P [] := by
  refine ⟨_, ?_, h.tl⟩
  unfold Old.x86R
  simp only [show eqL ([77, 70, 69, 78, 67, 69] : List UInt8) [77, 79, 86] = false by decide, show decide (Old.aluF [77, 70, 69, 78, 67, 69] > 0) = false by decide, show decide (Old.szF [77, 70, 69, 78, 67, 69] [77, 79, 86] > 0) = false by decide, show decide (Old.szF [77, 70, 69, 78, 67, 69] [88, 67, 72, 71] > 0) = false by decide, show decide (Old.szF [77, 70, 69, 78, 67, 69] [88, 65, 68, 68] > 0) = false by decide, show eqL ([77, 70, 69, 78, 67, 69] : List UInt8) [77, 70, 69, 78, 67, 69] = true from rfl, if_true, Bool.false_eq_true, if_false]
  rfl
theorem br_cases (z : Bool) : Nam (Old.branT z) ∧ eqL (Old.branT z) [77, 79, 86] = false ∧ decide (Old.aluF (Old.branT z) > 0) = false ∧ decide (Old.szF (Old.branT z) [77, 79, 86] > 0) = false ∧ decide (Old.szF (Old.branT z) [88, 67, 72, 71] > 0) = false ∧ decide (Old.szF (Old.branT z) [88, 65, 68, 68] > 0) = false ∧ eqL (Old.branT z) [77, 70, 69, 78, 67, 69] = false := by
  cases z <;> exact ⟨⟨⟨_, rfl, by decide⟩, by decide⟩, by decide, by decide, by decide, by decide, by decide, by decide⟩
theorem x_bran {z : Bool} (hd : 0 ≤ d ∧ d < 8) (h : At ws 0 ((1, Old.branT z, 0) :: (1, Old.nameF d, 0) :: (3, [44], 0) :: (1, lb, 0) :: [])) : ∃ P, Old.x86R ws ⟨0, 0, 0 + 1⟩ Old.blank (Old.branT z) = ((true, lb), ⟨0, 0, P⟩, ⟨9, -1, d, -1, 0, 0, 0, -1, 0, 0, false, false, false, 0, 0, 0, z⟩) ∧ At ws P [] := by
  obtain ⟨_, c1, c2, c3, c4, c5, c6⟩ := br_cases z
  have e1 := x_reg hd h.tl
  have e2 := g_mark (a := 0) h.tl.tl
  have e3 := g_lab (a := 0) h.tl.tl.tl
  have eb : ∀ zz, Old.branR ws ⟨0, 0, 0 + 1⟩ Old.blank zz = (lb, ⟨0, 0, 0 + 1 + 1 + 1 + 1⟩, ⟨9, -1, d, -1, 0, 0, 0, -1, 0, 0, false, false, false, 0, 0, 0, zz⟩) := by
    intro zz
    unfold Old.branR
    simp only [e1, e2, e3]
    rfl
  refine ⟨_, ?_, h.tl.tl.tl.tl⟩
  unfold Old.x86R
  simp only [c1, c2, c3, c4, c5, c6, eb, if_true, Bool.false_eq_true, if_false]
  cases z <;> rfl
end
theorem right_of {i : Old.Ins} (h : Old.rightR i 0 1 = 0) : i = Old.plainF i ∧ Old.soundB i = true := by
  unfold Old.rightR at h
  cases hs : (Old.insEq i (Old.plainF i) && Old.soundB i) with
  | false => rw [hs] at h; exact absurd (show (34 : Int) = 0 from h) (by decide)
  | true => rw [Bool.and_eq_true] at hs; exact ⟨of_decide_eq_true hs.1, hs.2⟩
theorem pr_oks {i : Old.Ins} {lb s : List UInt8} (h : Old.prR i lb = (s, 0)) : s = Old.txtT i lb ∧ Old.txtT i lb ≠ [] ∧ Old.rightR (Old.asB i) 0 1 = 0 ∧ (i.op = 9 → Old.isNm lb = true) := by
  unfold Old.prR at h
  by_cases h9 : i.op = 9
  · rw [if_pos (beq_iff_eq.2 h9)] at h
    have ea : Old.asB i = (Old.Ins.mk i.op i.dst i.a i.b i.imm i.loc i.off i.index i.size i.fn i.acq i.weak i.rel i.pred i.succ 1 i.zero) := by unfold Old.asB; rw [if_pos (beq_iff_eq.2 h9)]
    rw [ea]
    split at h
    · next hr =>
      split at h
      · cases h
      · next ht =>
        split at h
        · next hn => cases h; exact ⟨rfl, fun e => ht (by rw [e]; rfl), eq_of_beq hr, fun _ => hn⟩
        · cases h
    · cases h
  · rw [if_neg (fun e => h9 (eq_of_beq e))] at h
    have ea : Old.asB i = i := by unfold Old.asB; rw [if_neg (fun e => h9 (eq_of_beq e))]
    rw [ea]
    split at h
    · next hr =>
      split at h
      · cases h
      · next ht => cases h; exact ⟨rfl, fun e => ht (by rw [e]; rfl), eq_of_beq hr, fun e => absurd e h9⟩
    · cases h
theorem ok_pr {i : Old.Ins} {lb : List UInt8} (ht : Old.txtT i lb ≠ []) (hr : Old.rightR (Old.asB i) 0 1 = 0) (hn : i.op = 9 → Old.isNm lb = true) : Old.prR i lb = (Old.txtT i lb, 0) := by
  unfold Old.prR
  have ht' : ¬ eqL (Old.txtT i lb) [] = true := fun e => ht (eqL_eq e)
  by_cases h9 : i.op = 9
  · have ea : Old.asB i = (Old.Ins.mk i.op i.dst i.a i.b i.imm i.loc i.off i.index i.size i.fn i.acq i.weak i.rel i.pred i.succ 1 i.zero) := by unfold Old.asB; rw [if_pos (beq_iff_eq.2 h9)]
    rw [ea] at hr
    rw [if_pos (beq_iff_eq.2 h9), if_pos (beq_iff_eq.2 hr), if_neg ht', if_pos (hn h9)]
  · have ea : Old.asB i = i := by unfold Old.asB; rw [if_neg (fun e => h9 (eq_of_beq e))]
    rw [ea] at hr
    rw [if_neg (fun e => h9 (eq_of_beq e)), if_pos (beq_iff_eq.2 hr), if_neg ht']
theorem acc_off {i : Old.Ins} (h : Old.accB i = true) : 0 ≤ i.off ∧ i.off < 8 := by
  unfold Old.accB at h
  simp only [Bool.and_eq_true, Bool.not_eq_true'] at h
  have hm := h.2
  cases hf : Old.fitsB i.off i.size with
  | false => unfold Old.maskR at hm; rw [hf] at hm; exact absurd (show ((0 : Int) == 0) = false from hm) (by decide)
  | true =>
    obtain ⟨o, k, e1, e2, e3, e4, _⟩ := Old.fits_yes hf
    omega
theorem back_k {i : Old.Ins} {lb : List UInt8} (hr : Old.rightR (Old.asB i) 0 1 = 0) (ht : Old.txtT i lb ≠ []) (hn : i.op = 9 → Nam lb) (hm : -9223372036854775808 ≤ i.imm ∧ i.imm ≤ 9223372036854775807) :
    ∃ q ks, LexK (Old.txtT i lb) ((1, q, 0) :: ks) ∧ ∀ ws, At ws 0 ((1, q, 0) :: ks) → ∃ P, Old.x86R ws ⟨0, 0, 0 + 1⟩ Old.blank q = ((true, if i.op = 9 then lb else []), ⟨0, 0, P⟩, { i with to := 0 }) ∧ At ws P [] := by
  obtain ⟨hp, hs⟩ := right_of hr
  obtain ⟨op, dst, ra, rb, imm, loc, off, ix, sz, fn, acq, weak, rel, pred, succ, to, zero⟩ := i
  simp only at hm ⊢
  by_cases h1 : op = 1
  · subst h1
    have hA : Old.asB ⟨1, dst, ra, rb, imm, loc, off, ix, sz, fn, acq, weak, rel, pred, succ, to, zero⟩ = ⟨1, dst, ra, rb, imm, loc, off, ix, sz, fn, acq, weak, rel, pred, succ, to, zero⟩ := rfl
    rw [hA] at hp hs
    simp [Old.plainF, Old.opB, Old.rdB, Old.wrB] at hp
    obtain ⟨e2, e3, e5, e6, e7, e8, e9, e10, e11, e12, e13, e14, e15, e16⟩ := hp
    subst e2 e3 e5 e6 e7 e8 e9 e10 e11 e12 e13 e14 e15 e16
    have hd := Old.reg_rng hs
    refine ⟨_, _, ?_, fun ws h => x_mov1 hd hm h⟩
    have := lk_name (w := [77, 79, 86]) ⟨⟨_, rfl, by decide⟩, by decide⟩ (sep_cons (c := 32) (by decide)) (lk_blank (lk_name (xnf dst hd.1 hd.2) (sep_cons (c := 44) (by decide)) (lk_mark (b := 44) (by decide) (lk_mark (b := 36) (by decide) (lk_num hm sep_nil lk_nil)))))
    simpa [Old.txtT, Old.numT] using this
  by_cases h2 : op = 2
  · subst h2
    have hA : Old.asB ⟨2, dst, ra, rb, imm, loc, off, ix, sz, fn, acq, weak, rel, pred, succ, to, zero⟩ = ⟨2, dst, ra, rb, imm, loc, off, ix, sz, fn, acq, weak, rel, pred, succ, to, zero⟩ := rfl
    rw [hA] at hp hs
    simp [Old.plainF, Old.opB, Old.rdB, Old.wrB] at hp
    obtain ⟨e3, e4, e5, e6, e7, e8, e9, e10, e11, e12, e13, e14, e15, e16⟩ := hp
    subst e3 e4 e5 e6 e7 e8 e9 e10 e11 e12 e13 e14 e15 e16
    have hs' : (Old.regB dst && Old.regB ra) = true := hs
    rw [Bool.and_eq_true] at hs'
    have hd := Old.reg_rng hs'.1
    have ha := Old.reg_rng hs'.2
    refine ⟨_, _, ?_, fun ws h => x_mov2 hd ha h⟩
    have := lk_name (w := [77, 79, 86]) ⟨⟨_, rfl, by decide⟩, by decide⟩ (sep_cons (c := 32) (by decide)) (lk_blank (lk_name (xnf dst hd.1 hd.2) (sep_cons (c := 44) (by decide)) (lk_mark (b := 44) (by decide) (lk_name (xnf ra ha.1 ha.2) sep_nil lk_nil))))
    simpa [Old.txtT] using this
  by_cases h3 : op = 3
  · subst h3
    have hA : Old.asB ⟨3, dst, ra, rb, imm, loc, off, ix, sz, fn, acq, weak, rel, pred, succ, to, zero⟩ = ⟨3, dst, ra, rb, imm, loc, off, ix, sz, fn, acq, weak, rel, pred, succ, to, zero⟩ := rfl
    rw [hA] at hp hs
    simp [Old.plainF, Old.opB, Old.rdB, Old.wrB, Old.immF] at hp
    obtain ⟨e4, e5, e6, e7, e8, e10, e11, e12, e13, e14, e15, e16⟩ := hp
    subst e5 e6 e7 e8 e10 e11 e12 e13 e14 e15 e16
    have hs' : (Old.regB dst && Old.regB ra && Old.ronB rb && decide (fn ≥ 1) && decide (fn ≤ 5)) = true := hs
    simp only [Bool.and_eq_true, decide_eq_true_eq] at hs'
    obtain ⟨⟨⟨⟨s1, s2⟩, s3⟩, s4⟩, s5⟩ := hs'
    have hd := Old.reg_rng s1
    have hb := Old.ron_rng s3
    have hda : dst = ra := by
      by_cases e : dst = ra
      · exact e
      · exact absurd (by simp [Old.txtT, e]) ht
    subst hda
    refine ⟨_, _, ?_, fun ws h => x_alu (f := fn) (k := rb) ⟨s4, s5⟩ hd hb hm (fun hk => by rcases hb with hb | hb; omega; exact e4 (by omega)) h⟩
    have := lk_name (alu_cases ⟨s4, s5⟩).1 (sep_cons (c := 32) (by decide)) (lk_blank (lk_name (xnf dst hd.1 hd.2) (sep_cons (c := 44) (by decide)) (lk_mark (b := 44) (by decide) (lk_or hb hm sep_nil lk_nil))))
    simpa [Old.txtT] using this
  by_cases h9 : op = 9
  · subst h9
    have hA : Old.asB ⟨9, dst, ra, rb, imm, loc, off, ix, sz, fn, acq, weak, rel, pred, succ, to, zero⟩ = ⟨9, dst, ra, rb, imm, loc, off, ix, sz, fn, acq, weak, rel, pred, succ, 1, zero⟩ := rfl
    rw [hA] at hp hs
    simp [Old.plainF, Old.opB, Old.rdB, Old.wrB] at hp
    obtain ⟨e2, e3, e4, e5, e6, e7, e8, e9, e10, e11, e12, e13, e14⟩ := hp
    subst e2 e3 e4 e5 e6 e7 e8 e9 e10 e11 e12 e13 e14
    have ha := Old.reg_rng (show Old.regB ra = true from hs)
    refine ⟨_, _, ?_, fun ws h => by rw [if_pos rfl]; exact x_bran (z := zero) ha h⟩
    have := lk_name (br_cases zero).1 (sep_cons (c := 32) (by decide)) (lk_blank (lk_name (xnf ra ha.1 ha.2) (sep_cons (c := 44) (by decide)) (lk_mark (b := 44) (by decide) (lk_name (hn rfl) sep_nil lk_nil))))
    simpa [Old.txtT] using this
  by_cases h7 : op = 7
  · subst h7
    have hA : Old.asB ⟨7, dst, ra, rb, imm, loc, off, ix, sz, fn, acq, weak, rel, pred, succ, to, zero⟩ = ⟨7, dst, ra, rb, imm, loc, off, ix, sz, fn, acq, weak, rel, pred, succ, to, zero⟩ := rfl
    rw [hA] at hp hs
    simp [Old.plainF, Old.opB, Old.rdB, Old.wrB] at hp
    obtain ⟨e1, e2, e3, e4, e5, e6, e7, e8, e9, e10, e11, e12, e13, e14⟩ := hp
    subst e1 e2 e3 e4 e5 e6 e7 e8 e9 e10 e11 e12 e13 e14
    have hps : pred = 3 ∧ succ = 3 := by
      by_cases e : pred = 3
      · by_cases e' : succ = 3
        · exact ⟨e, e'⟩
        · exact absurd (by simp [Old.txtT, Old.fenT, e']) ht
      · exact absurd (by simp [Old.txtT, Old.fenT, e]) ht
    obtain ⟨rfl, rfl⟩ := hps
    refine ⟨_, _, ?_, fun ws h => x_fence h⟩
    have := lk_name (w := [77, 70, 69, 78, 67, 69]) ⟨⟨_, rfl, by decide⟩, by decide⟩ sep_nil lk_nil
    simpa [Old.txtT, Old.fenT] using this
  by_cases h8 : op = 8
  · subst h8
    exact absurd (by simp [Old.txtT, Old.fenT]) ht
  by_cases h4 : op = 4
  · subst h4
    have hA : Old.asB ⟨4, dst, ra, rb, imm, loc, off, ix, sz, fn, acq, weak, rel, pred, succ, to, zero⟩ = ⟨4, dst, ra, rb, imm, loc, off, ix, sz, fn, acq, weak, rel, pred, succ, to, zero⟩ := rfl
    rw [hA] at hp hs
    simp [Old.plainF, Old.opB, Old.rdB, Old.wrB] at hp
    obtain ⟨e2, e3, e4, e5, e6, e7, e8, e9, e10⟩ := hp
    subst e2 e3 e4 e5 e6 e7 e8 e9 e10
    have hs' : (Old.regB dst && Old.accB ⟨4, dst, -1, -1, 0, loc, off, ix, sz, 0, acq, weak, false, 0, 0, 0, false⟩ && !(acq && weak)) = true := hs
    simp only [Bool.and_eq_true] at hs'
    have hd := Old.reg_rng hs'.1.1
    obtain ⟨q1, q2, q3⟩ := Old.acc_all hs'.1.2
    have q4 := acc_off hs'.1.2
    have hq : acq = false ∧ weak = false := by
      cases acq <;> cases weak <;> first | exact ⟨rfl, rfl⟩ | exact absurd (by simp [Old.txtT, Old.accT]) ht
    obtain ⟨rfl, rfl⟩ := hq
    refine ⟨_, _, ?_, fun ws h => x_load q3 hd q1 q4 q2 h⟩
    have := lk_name (sz_cases q3).1 (sep_cons (c := 32) (by decide)) (lk_blank (lk_name (xnf dst hd.1 hd.2) (sep_cons (c := 44) (by decide)) (lk_mark (b := 44) (by decide) (lk_mem xnf q1 q4 q2 lk_nil))))
    simpa [Old.txtT, Old.accT, memT_w] using this
  by_cases h5 : op = 5
  · subst h5
    have hA : Old.asB ⟨5, dst, ra, rb, imm, loc, off, ix, sz, fn, acq, weak, rel, pred, succ, to, zero⟩ = ⟨5, dst, ra, rb, imm, loc, off, ix, sz, fn, acq, weak, rel, pred, succ, to, zero⟩ := rfl
    rw [hA] at hp hs
    simp [Old.plainF, Old.opB, Old.rdB, Old.wrB, Old.immF] at hp
    obtain ⟨e1, e3, e4, e5, e6, e7, e8, e9, e10, e11⟩ := hp
    subst e1 e3 e5 e6 e7 e8 e9 e10 e11
    have hs' : (Old.ronB ra && Old.accB ⟨5, -1, ra, -1, imm, loc, off, ix, sz, 0, false, false, rel, 0, 0, 0, false⟩) = true := hs
    simp only [Bool.and_eq_true] at hs'
    have ha := Old.ron_rng hs'.1
    obtain ⟨q1, q2, q3⟩ := Old.acc_all hs'.2
    have q4 := acc_off hs'.2
    have hq : rel = false := by
      cases rel <;> first | rfl | exact absurd (by simp [Old.txtT, Old.accT]) ht
    subst hq
    refine ⟨_, _, ?_, fun ws h => x_store (k := ra) q3 ha hm (fun hk => by rcases ha with ha | ha; omega; exact e4 (by omega)) q1 q4 q2 h⟩
    have := lk_name (sz_cases q3).1 (sep_cons (c := 32) (by decide)) (lk_blank (lk_mem xnf q1 q4 q2 (lk_mark (b := 44) (by decide) (lk_or ha hm sep_nil lk_nil))))
    simpa [Old.txtT, Old.accT, memT_w] using this
  by_cases h6 : op = 6
  · subst h6
    have hA : Old.asB ⟨6, dst, ra, rb, imm, loc, off, ix, sz, fn, acq, weak, rel, pred, succ, to, zero⟩ = ⟨6, dst, ra, rb, imm, loc, off, ix, sz, fn, acq, weak, rel, pred, succ, to, zero⟩ := rfl
    rw [hA] at hp hs
    simp [Old.plainF, Old.opB, Old.rdB, Old.wrB] at hp
    obtain ⟨e3, e4, e6, e7, e8, e9, e10⟩ := hp
    subst e3 e4 e6 e7 e8 e9 e10
    have hs' : (Old.regB dst && Old.regB ra && Old.accB ⟨6, dst, ra, -1, 0, loc, off, ix, sz, fn, acq, false, rel, 0, 0, 0, false⟩ && (fn == 6 || fn == 1)) = true := hs
    simp only [Bool.and_eq_true, Bool.or_eq_true, beq_iff_eq] at hs'
    obtain ⟨⟨⟨s1, s2⟩, s3⟩, s4⟩ := hs'
    have hd := Old.reg_rng s1
    obtain ⟨q1, q2, q3⟩ := Old.acc_all s3
    have q4 := acc_off s3
    have hq : dst = ra ∧ acq = true ∧ rel = true := by
      by_cases e : dst = ra
      · cases acq <;> cases rel <;> first | exact ⟨e, rfl, rfl⟩ | exact absurd (by simp [Old.txtT, Old.accT, Old.rmwT]) ht
      · exact absurd (by simp [Old.txtT, Old.accT, Old.rmwT, e]) ht
    obtain ⟨rfl, rfl, rfl⟩ := hq
    rcases s4 with s4 | s4
    · subst s4
      refine ⟨_, _, ?_, fun ws h => x_swap q3 hd q1 q4 q2 h⟩
      have := lk_name (sw_cases q3).1 (sep_cons (c := 32) (by decide)) (lk_blank (lk_name (xnf dst hd.1 hd.2) (sep_cons (c := 44) (by decide)) (lk_mark (b := 44) (by decide) (lk_mem xnf q1 q4 q2 lk_nil))))
      simpa [Old.txtT, Old.accT, Old.rmwT, memT_w] using this
    · subst s4
      refine ⟨_, _, ?_, fun ws h => x_add q3 hd q1 q4 q2 h⟩
      have := lk_name (ad_cases q3).1 (sep_cons (c := 32) (by decide)) (lk_blank (lk_mem xnf q1 q4 q2 (lk_mark (b := 44) (by decide) (lk_name (xnf dst hd.1 hd.2) sep_nil lk_nil))))
      simpa [Old.txtT, Old.accT, Old.rmwT, memT_w] using this
  exfalso
  have : Old.soundB (Old.asB ⟨op, dst, ra, rb, imm, loc, off, ix, sz, fn, acq, weak, rel, pred, succ, to, zero⟩) = false := by
    unfold Old.asB Old.soundB
    simp [h1, h2, h3, h4, h5, h6, h7, h8, h9]
  rw [this] at hs; cases hs
theorem back_a {i : Old.Ins} {lb s : List UInt8} (h : Old.prR i lb = (s, 0)) (hl : s.length ≤ 8192) (hm : -9223372036854775808 ≤ i.imm ∧ i.imm ≤ 9223372036854775807) : ∃ ws, tokensR s = (ws, 0, 0) ∧ Old.parR ws = ({ i with to := 0 }, if i.op = 9 then lb else [], 0, 0) := by
  obtain ⟨rfl, ht, hr, hn⟩ := pr_oks h
  obtain ⟨q, ks, h1, h2⟩ := back_k hr ht (fun e => isNm_nam (hn e)) hm
  obtain ⟨ws, w1, w2⟩ := lexK_tokens h1 hl
  have hA : At ws 0 ((1, q, 0) :: ks) := w2
  obtain ⟨P, x1, x2⟩ := h2 ws hA
  refine ⟨ws, w1, fin_back hA x1 x2 ?_⟩
  by_cases h9 : i.op = 9
  · have : Old.asB { i with to := 0 } = Old.asB i := by unfold Old.asB; simp [h9]
    rw [this]; exact hr
  · have e1 : Old.asB { i with to := 0 } = { i with to := 0 } := by unfold Old.asB; simp [h9]
    have e2 : Old.asB i = i := by unfold Old.asB; simp [h9]
    rw [e2] at hr
    have hto : i.to = 0 := by
      have := congrArg Old.Ins.to (right_of hr).1
      rw [this]; unfold Old.plainF; simp [h9]
    rw [e1]
    have : ({ i with to := 0 } : Old.Ins) = i := by rw [← hto]
    rw [this]; exact hr
section
variable {ws : List Tk} {s : Old.Rs} {i : Old.Ins} {q lb : List UInt8}
theorem mem_shape : ∃ l o x, (Old.memR ws s i).2 = { i with loc := l, off := o, index := x } := by
  have hI : ∀ (s : Old.Rs) (i : Old.Ins), ∃ x, (Old.idxR ws s i).2 = { i with index := x } := fun s i => ⟨_, rfl⟩
  have hO : ∀ (s : Old.Rs) (i : Old.Ins), ∃ x, (Old.offE ws s i).2 = { i with index := x } := fun s i => by
    unfold Old.offE; split
    · exact hI _ _
    · exact ⟨i.index, rfl⟩
  have hE : ∀ (s : Old.Rs) (i : Old.Ins), ∃ o x, (Old.memE ws s i).2 = { i with off := o, index := x } := fun s i => by
    unfold Old.memE; split
    · split
      · split
        · obtain ⟨x, e⟩ := hO ⟨s.e, s.a, s.p + 1 + 1⟩ { i with off := _ }; exact ⟨_, x, e⟩
        · obtain ⟨x, e⟩ := hI ⟨s.e, s.a, s.p + 1⟩ i; exact ⟨i.off, x, e⟩
      · obtain ⟨x, e⟩ := hI ⟨s.e, s.a, s.p + 1⟩ i; exact ⟨i.off, x, e⟩
    · exact ⟨i.off, i.index, rfl⟩
  unfold Old.memR Old.memI
  split
  · split
    · split
      · obtain ⟨o, x, e⟩ := hE ⟨(Old.markR ws [91] s).e, (Old.markR ws [91] s).a, (Old.markR ws [91] s).p + 1⟩ { i with loc := _ }
        exact ⟨_, o, x, e⟩
      · exact ⟨i.loc, i.off, i.index, rfl⟩
    · exact ⟨i.loc, i.off, i.index, rfl⟩
  · exact ⟨i.loc, i.off, i.index, rfl⟩
theorem num_rng2 (hW : ∀ t ∈ ws, TkW t) : -9223372036854775808 ≤ (Old.numS ws s).2 ∧ (Old.numS ws s).2 ≤ 9223372036854775807 := by
  have z : (-9223372036854775808 : Int) ≤ 0 ∧ (0 : Int) ≤ 9223372036854775807 := ⟨by decide, by decide⟩
  unfold Old.numS
  split
  · unfold Old.numE
    split
    · next y hy =>
      split
      · show -9223372036854775808 ≤ (if _ then _ else _) ∧ (if _ then _ else _) ≤ (9223372036854775807 : Int)
        split
        · exact wrap_rng _
        · exact (hW y (List.mem_of_getElem? hy)).rg
      · exact z
    · exact z
  · exact z
theorem lab_tok (h : (Old.labR ws s).1.e = 0) : ∃ t ∈ ws, t.kind = 1 ∧ t.text = (Old.labR ws s).2 := by
  unfold Old.labR at h ⊢
  split at h
  · next he =>
    rw [if_pos he]
    split at h
    · next y hy =>
      split at h
      · next hk => simp only [hy, hk, if_true]; exact ⟨y, List.mem_of_getElem? hy, eq_of_beq hk, rfl⟩
      · exact absurd h (odd_ne (eq_of_beq he))
    · exact absurd h (odd_ne (eq_of_beq he))
  · next he => exact absurd (beq_iff_eq.2 h) he
structure Shp (ws : List Tk) (x : Old.Ins) (l : List UInt8) : Prop where
  to : x.to = 0
  tx : Old.txtT x l ≠ []
  lb : x.op = 9 → ∃ t ∈ ws, t.kind = 1 ∧ t.text = l
  no : x.op ≠ 9 → l = []
  im : -9223372036854775808 ≤ x.imm ∧ x.imm ≤ 9223372036854775807
theorem bran_shp {z : Bool} (h : (Old.branR ws s Old.blank z).2.1.e = 0) : Shp ws (Old.branR ws s Old.blank z).2.2 (Old.branR ws s Old.blank z).1 := by
  refine ⟨rfl, ?_, fun _ => lab_tok h, fun e => absurd rfl e, ⟨show (-9223372036854775808 : Int) ≤ 0 by decide, show (0 : Int) ≤ 9223372036854775807 by decide⟩⟩
  simp [Old.branR, Old.txtT]
theorem x86_shape (hW : ∀ t ∈ ws, TkW t) (h1 : (Old.x86R ws s Old.blank q).1.1 = true) (h2 : (Old.x86R ws s Old.blank q).2.1.e = 0) : Shp ws (Old.x86R ws s Old.blank q).2.2 (Old.x86R ws s Old.blank q).1.2 := by
  have z : (-9223372036854775808 : Int) ≤ 0 ∧ (0 : Int) ≤ 9223372036854775807 := ⟨by decide, by decide⟩
  unfold Old.x86R at h1 h2 ⊢
  split at h1
  · rw [if_pos (by assumption)] at h2 ⊢
    split at h1
    · rw [if_pos (by assumption)]
      exact ⟨rfl, by simp [Old.txtT], fun e => absurd (show (1 : Int) = 9 from e) (by decide), fun _ => rfl, num_rng2 hW⟩
    · rw [if_neg (by assumption)]
      exact ⟨rfl, by simp [Old.txtT], fun e => absurd (show (2 : Int) = 9 from e) (by decide), fun _ => rfl, z⟩
  · rw [if_neg (by assumption)] at h2 ⊢
    split at h1
    · rw [if_pos (by assumption)] at h2 ⊢
      split at h1
      · rw [if_pos (by assumption)]
        exact ⟨rfl, by simp [Old.txtT], fun e => absurd (show (3 : Int) = 9 from e) (by decide), fun _ => rfl, num_rng2 hW⟩
      · rw [if_neg (by assumption)]
        exact ⟨rfl, by simp [Old.txtT], fun e => absurd (show (3 : Int) = 9 from e) (by decide), fun _ => rfl, z⟩
    · rw [if_neg (by assumption)] at h2 ⊢
      split at h1
      · rw [if_pos (by assumption)] at h2 ⊢
        split at h1
        · rw [if_pos (by assumption)] at h2 ⊢
          split at h1
          · rw [if_pos (by assumption)]
            obtain ⟨l, o, x, e⟩ := mem_shape (ws := ws) (s := s) (i := (Old.Ins.mk 5 Old.blank.dst Old.blank.a Old.blank.b Old.blank.imm Old.blank.loc Old.blank.off Old.blank.index (Old.szF q [77, 79, 86]) Old.blank.fn Old.blank.acq Old.blank.weak Old.blank.rel Old.blank.pred Old.blank.succ Old.blank.to Old.blank.zero))
            simp only [e]
            exact ⟨rfl, by simp [Old.txtT, Old.accT, Old.blank], fun e => absurd (show (5 : Int) = 9 from e) (by decide), fun _ => rfl, num_rng2 hW⟩
          · rw [if_neg (by assumption)]
            obtain ⟨l, o, x, e⟩ := mem_shape (ws := ws) (s := s) (i := (Old.Ins.mk 5 Old.blank.dst Old.blank.a Old.blank.b Old.blank.imm Old.blank.loc Old.blank.off Old.blank.index (Old.szF q [77, 79, 86]) Old.blank.fn Old.blank.acq Old.blank.weak Old.blank.rel Old.blank.pred Old.blank.succ Old.blank.to Old.blank.zero))
            simp only [e]
            exact ⟨rfl, by simp [Old.txtT, Old.accT, Old.blank], fun e => absurd (show (5 : Int) = 9 from e) (by decide), fun _ => rfl, z⟩
        · rw [if_neg (by assumption)]
          obtain ⟨l, o, x, e⟩ := mem_shape (ws := ws) (s := Old.markR ws [44] (Old.regR ws s).1) (i := (Old.Ins.mk 4 (Old.regR ws s).2 Old.blank.a Old.blank.b Old.blank.imm Old.blank.loc Old.blank.off Old.blank.index (Old.szF q [77, 79, 86]) Old.blank.fn Old.blank.acq Old.blank.weak Old.blank.rel Old.blank.pred Old.blank.succ Old.blank.to Old.blank.zero))
          simp only [e]
          exact ⟨rfl, by simp [Old.txtT, Old.accT, Old.blank], fun e => absurd (show (4 : Int) = 9 from e) (by decide), fun _ => rfl, z⟩
      · rw [if_neg (by assumption)] at h2 ⊢
        split at h1
        · rw [if_pos (by assumption)] at h2 ⊢
          split at h1
          · rw [if_pos (by assumption)]
            obtain ⟨l, o, x, e⟩ := mem_shape (ws := ws) (s := s) (i := (Old.Ins.mk 6 Old.blank.dst Old.blank.a Old.blank.b Old.blank.imm Old.blank.loc Old.blank.off Old.blank.index (IntKind.wrap .i64 (Old.szF q [88, 67, 72, 71] + Old.szF q [88, 65, 68, 68])) 1 true Old.blank.weak true Old.blank.pred Old.blank.succ Old.blank.to Old.blank.zero))
            simp only [e]
            exact ⟨rfl, by simp [Old.txtT, Old.accT, Old.rmwT], fun e => absurd (show (6 : Int) = 9 from e) (by decide), fun _ => rfl, z⟩
          · rw [if_neg (by assumption)]
            obtain ⟨l, o, x, e⟩ := mem_shape (ws := ws) (s := Old.markR ws [44] (Old.regR ws s).1) (i := (Old.Ins.mk 6 (Old.regR ws s).2 Old.blank.a Old.blank.b Old.blank.imm Old.blank.loc Old.blank.off Old.blank.index (IntKind.wrap .i64 (Old.szF q [88, 67, 72, 71] + Old.szF q [88, 65, 68, 68])) 6 true Old.blank.weak true Old.blank.pred Old.blank.succ Old.blank.to Old.blank.zero))
            simp only [e]
            exact ⟨rfl, by simp [Old.txtT, Old.accT, Old.rmwT], fun e => absurd (show (6 : Int) = 9 from e) (by decide), fun _ => rfl, z⟩
        · rw [if_neg (by assumption)] at h2 ⊢
          split at h1
          · rw [if_pos (by assumption)]
            obtain ⟨l, o, x, e⟩ := mem_shape (ws := ws) (s := s) (i := (Old.Ins.mk 6 Old.blank.dst Old.blank.a Old.blank.b Old.blank.imm Old.blank.loc Old.blank.off Old.blank.index (IntKind.wrap .i64 (Old.szF q [88, 67, 72, 71] + Old.szF q [88, 65, 68, 68])) 1 true Old.blank.weak true Old.blank.pred Old.blank.succ Old.blank.to Old.blank.zero))
            simp only [e]
            exact ⟨rfl, by simp [Old.txtT, Old.accT, Old.rmwT], fun e => absurd (show (6 : Int) = 9 from e) (by decide), fun _ => rfl, z⟩
          · rw [if_neg (by assumption)] at h2 ⊢
            split at h1
            · rw [if_pos (by assumption)]
              exact ⟨rfl, by simp [Old.txtT, Old.fenT], fun e => absurd (show (7 : Int) = 9 from e) (by decide), fun _ => rfl, z⟩
            · rw [if_neg (by assumption)] at h2 ⊢
              split at h1
              · rw [if_pos (by assumption)] at h2 ⊢; exact bran_shp h2
              · rw [if_neg (by assumption)] at h2 ⊢
                split at h1
                · rw [if_pos (by assumption)] at h2 ⊢; exact bran_shp h2
                · cases h1
end
theorem par_shape {ws : List Tk} {x : Old.Ins} {l : List UInt8} {k : Int} (hW : ∀ t ∈ ws, TkW t) (h : Old.parR ws = (x, l, 0, k)) : Shp ws x l ∧ Old.rightR (Old.asB x) 0 1 = 0 ∧ k = 0 := by
  cases hb : ((!(decide (0 < ws.length))) || (!((ws.getD 0 tok0).kind == 1))) with
  | true =>
    rw [pr_bad hb] at h
    have := congrArg (fun z => z.2.2.1) h
    exact absurd this (odd_ne rfl)
  | false =>
    rw [pr_go hb] at h
    generalize hX : Old.x86R ws ⟨0, 0, nxK ws 0⟩ Old.blank (ws.getD 0 tok0).text = X at h
    cases h1 : X.1.1 with
    | false =>
      unfold Old.finR at h
      rw [h1] at h
      have := congrArg (fun z => z.2.2.1) h
      exact absurd (show (21 : Int) = 0 from this) (by decide)
    | true =>
      rw [fin_y h1] at h
      by_cases hl : (Old.lastR ws (Old.moreR ws X.2.1) X.2.2).e = 0
      · rw [out_y hl] at h
        injection h with hx h
        injection h with hlb h
        injection h with _ hk
        by_cases hm : (Old.moreR ws X.2.1).e = 0
        · by_cases hr : Old.rightR (Old.asB X.2.2) 0 1 = 0
          · have he : X.2.1.e = 0 := by
              unfold Old.moreR at hm
              split at hm
              · by_cases h0 : X.2.1.e = 0
                · exact h0
                · rw [fail_n h0] at hm; exact hm
              · exact hm
            rw [← hx, ← hlb]
            refine ⟨?_, hr, hk.symm⟩
            rw [← hX] at h1 he ⊢
            exact x86_shape hW h1 he
          · unfold Old.lastR at hl
            rw [beq_iff_eq.2 hm, beq_eq_false_iff_ne.2 hr] at hl
            simp only [Bool.not_false, Bool.and_true, if_true] at hl
            rw [fail_y hm] at hl
            exact absurd (show (34 : Int) = 0 from hl) (by decide)
        · rw [last_n hm] at hl; exact absurd hl hm
      · rw [out_n hl] at h
        have := congrArg (fun z => z.2.2.1) h
        exact absurd this hl
theorem sound_acc {j : Old.Ins} (h : Old.soundB j = true) (ho : j.op = 4 ∨ j.op = 5 ∨ j.op = 6) : Old.accB j = true := by
  unfold Old.soundB at h
  generalize Old.accB j = ab at h ⊢
  rcases ho with e | e | e
  · simp [e] at h; exact h.1.2
  · simp [e] at h; exact h.2
  · simp [e] at h; exact h.1.2
theorem txt_len {i : Old.Ins} {lb : List UInt8} (hm : -9223372036854775808 ≤ i.imm ∧ i.imm ≤ 9223372036854775807) (ho : -9223372036854775808 ≤ i.off ∧ i.off ≤ 9223372036854775807) : (Old.txtT i lb).length ≤ 150 + lb.length := by
  have a1 := nameF_le i.dst
  have a2 := nameF_le i.a
  have a3 := numT_le i.imm hm
  have a4 := regOrT_le i.b i.imm hm
  have a5 := regOrT_le i.a i.imm hm
  have a6 : (Old.memT i).length ≤ 40 := memT_le (frO i) ho
  have a7 := tlX_le i.size
  have a8 := fnT_le i.fn
  have a9 := branT_le i.zero
  have L : ∀ (c : Bool) (x y : List UInt8) (n : Nat), x.length ≤ n → y.length ≤ n → (if c = true then x else y).length ≤ n := fun c x y n hx hy => by cases c; exact hy; exact hx
  unfold Old.txtT Old.accT Old.rmwT Old.fenT
  (repeat' apply L) <;> (try simp only [List.length_append, List.length_cons, List.length_nil]) <;> omega
theorem ws_len {l : List UInt8} {ws : List Tk} (h : tokensR l = (ws, 0, 0)) : ∀ t ∈ ws, t.text.length ≤ l.length := by
  by_cases hl : l.length > 8192
  · rw [tokens_long hl] at h
    have := congrArg (fun z => z.2.1) h
    exact absurd (show (2 : Int) = 0 from this) (by decide)
  · have hw := ws_toks (l.length + 1) l 0 [] (Nat.zero_le _) (Nat.zero_le _) (fun t ht => by cases ht)
    rw [← tokens_short (by omega), h] at hw
    exact fun t ht => (hw.2 t ht).2.2
theorem back_b {text : List UInt8} {ws : List Tk} {x : Old.Ins} {l : List UInt8} {k : Int} (ht : tokensR text = (ws, 0, 0)) (hl : text.length ≤ 8000) (h : Old.parR ws = (x, l, 0, k)) : ∃ t ws', Old.prR x l = (t, 0) ∧ t.length ≤ 8192 ∧ tokensR t = (ws', 0, 0) ∧ Old.parR ws' = (x, l, 0, 0) ∧ (-9223372036854775808 ≤ x.imm ∧ x.imm ≤ 9223372036854775807) ∧ (-9223372036854775808 ≤ x.off ∧ x.off ≤ 9223372036854775807) ∧ l.length ≤ 8000 := by
  have hW := tkw_tokens ht
  obtain ⟨hs, hr, _⟩ := par_shape hW h
  have hll : l.length ≤ 8000 := by
    by_cases h9 : x.op = 9
    · obtain ⟨t, t1, _, t3⟩ := hs.lb h9
      have := ws_len ht t t1
      rw [t3] at this; omega
    · rw [hs.no h9]; exact Nat.zero_le _
  have hn : x.op = 9 → Old.isNm l = true := fun h9 => by
    obtain ⟨t, t1, t2, t3⟩ := hs.lb h9
    have := (hW t t1).nm t2
    rw [t3] at this
    exact nam_isNm this (by omega)
  have hp := ok_pr hs.tx hr hn
  have hoff : -9223372036854775808 ≤ x.off ∧ x.off ≤ 9223372036854775807 := by
    have hq := right_of hr
    have ho : (Old.asB x).off = x.off := by unfold Old.asB; split <;> rfl
    by_cases hop : Old.opB (Old.asB x) = true
    · have : Old.accB (Old.asB x) = true := by
        have hs2 := hq.2
        have hop2 : x.op = 4 ∨ x.op = 5 ∨ x.op = 6 := by
          have e : (Old.asB x).op = x.op := by unfold Old.asB; split <;> rfl
          unfold Old.opB Old.rdB Old.wrB at hop
          rw [e] at hop
          simp only [Bool.or_eq_true, beq_iff_eq] at hop
          omega
        have e : (Old.asB x).op = x.op := by unfold Old.asB; split <;> rfl
        exact sound_acc hs2 (by rw [e]; exact hop2)
      have := acc_off this
      rw [ho] at this; omega
    · have := congrArg Old.Ins.off hq.1
      have e0 : (Old.plainF (Old.asB x)).off = 0 := by unfold Old.plainF; exact if_neg hop
      rw [e0, ho] at this
      rw [this]; exact ⟨by decide, by decide⟩
  have hlen := txt_len (lb := l) hs.im hoff
  obtain ⟨ws', w1, w2⟩ := back_a hp (by omega) hs.im
  refine ⟨_, ws', hp, by omega, w1, ?_, hs.im, hoff, hll⟩
  rw [w2]
  have e1 : ({ x with to := 0 } : Old.Ins) = x := by rw [← hs.to]
  rw [e1]
  by_cases h9 : x.op = 9
  · rw [if_pos h9]
  · rw [if_neg h9, hs.no h9]
end Go.Proofs.YtedlaclfhgneeaaGreatDoor
namespace Go.Proofs.YtedlaclfhgneeaaGreatDoor
set_option linter.unusedVariables false
set_option linter.unusedSimpArgs false
set_option maxRecDepth 100000
theorem toO_inj {x y : In} (h : toO x = toO y) : x = y := by
  have := congrArg frO h
  exact this
theorem bool_no {x y : Bool} (h : x = true → y = false) : (x && y) = false := by cases x; rfl; exact h rfl
section
variable {i : In} {lb text : List UInt8} {ws : List Tk}
theorem pr_eqs (h0 : (prP x86G x86C i lb).2 = 0) : Old.prR (toO i) lb = ((prP x86G x86C i lb).1, 0) := by
  rw [pr_ref] at h0 ⊢
  exact Prod.ext rfl h0
theorem pa_eqs (ht : tokensR text = (ws, 0, 0)) : (toO (parI x86G ws x86C), parT x86G ws x86C, parE x86G ws x86C, parA x86G ws x86C) = Old.parR ws := by
  obtain ⟨_, hw, hf⟩ := ws_tokens ht
  exact par_ref hw hf
theorem bkA (hi : InR i) (h0 : (prP x86G x86C i lb).2 = 0) (hl : (prP x86G x86C i lb).1.length ≤ 8000) (ht : tokensR (prP x86G x86C i lb).1 = (ws, 0, 0)) : parE x86G ws x86C = 0 ∧ parI x86G ws x86C = ({ i with to_ := 0 } : In) ∧ (i.op = 9 → parT x86G ws x86C = lb) := by
  obtain ⟨ws', w1, w2⟩ := back_a (pr_eqs h0) (by omega) hi.im
  rw [w1] at ht
  have e : ws' = ws := congrArg Prod.fst ht
  subst e
  rw [← pa_eqs w1] at w2
  injection w2 with q1 q2
  injection q2 with q2 q3
  injection q3 with q3 q4
  refine ⟨q3, toO_inj q1, fun h9 => ?_⟩
  rw [q2]; exact if_pos h9
theorem bkN {e : Int} {k : Nat} (hi : InR i) (h0 : (prP x86G x86C i lb).2 = 0) (hl : (prP x86G x86C i lb).1.length ≤ 8000) (ht : tokensR (prP x86G x86C i lb).1 = ([], e, k)) (he : e ≠ 0) : False := by
  obtain ⟨ws', w1, w2⟩ := back_a (pr_eqs h0) (by omega) hi.im
  rw [w1] at ht
  exact he (congrArg (fun z => z.2.1) ht).symm
theorem bkB (ht : tokensR text = (ws, 0, 0)) (hl : text.length ≤ 8000) (h0 : parE x86G ws x86C = 0) : InR (parI x86G ws x86C) ∧ (parT x86G ws x86C).length ≤ 8000 ∧ (prP x86G x86C (parI x86G ws x86C) (parT x86G ws x86C)).2 = 0 ∧ ∃ ws', tokensR (prP x86G x86C (parI x86G ws x86C) (parT x86G ws x86C)).1 = (ws', 0, 0) ∧ parE x86G ws' x86C = 0 ∧ parI x86G ws' x86C = parI x86G ws x86C ∧ parT x86G ws' x86C = parT x86G ws x86C := by
  have hp := pa_eqs ht
  rw [h0] at hp
  obtain ⟨t, ws', b1, b2, b3, b4, b5, b6, b7⟩ := back_b ht hl hp.symm
  have hr := pr_ref (parI x86G ws x86C) (parT x86G ws x86C)
  rw [b1] at hr
  have hp' := pa_eqs b3
  rw [b4] at hp'
  injection hp' with q1 q2
  injection q2 with q2 q3
  injection q3 with q3 q4
  refine ⟨⟨b5, b6⟩, b7, by rw [hr], ws', by rw [hr]; exact b3, q3, toO_inj q1, q2⟩
end
end Go.Proofs.YtedlaclfhgneeaaGreatDoor
namespace Go.Proofs.YtedlaclfhgneeaaGreatDoor
open Go.RowKit
set_option linter.unusedVariables false
set_option linter.unusedSimpArgs false
set_option maxRecDepth 100000
set_option maxHeartbeats 2000000
set_option simprocs false
theorem f_no {x : Int} (h : ((!((0 : Int) == 0)) || (!(x == 0))) = false) : x = 0 := by
  rw [Bool.or_eq_false_iff] at h
  simpa using h.2
theorem back0_ (i : In) (lb : List UInt8) (tx : List UInt8) (os : List (Nat × Obj)) (hM : ∀ w ks, Gl os w ks → ∃ m, w.cell? ⟨0, 0, none⟩ = some (.int .i64 m)) (hT : ∀ w ks, Gl os w ks → Lib.TabIs Tryz.prog w "internal/strconv.uint64pow10" .u64 Lib.pow10Tab) (hE : ∀ w ks, Gl os w ks → ∃ ev, w.cell? ⟨1, 0, none⟩ = some ev ∧ (ev = .nilIface ∨ ∃ te pe, ev = .iface te pe)) (hi : InR i) : FnI (Gl os) Tryz.prog 5 [.agg (inQ9 i), .str lb, .str tx] [] (Rt (.tt) []) :=
 enterI (n := 140) (by kernel_rfl) Tryz.func5 rfl rfl rfl fun G w a h0 hI A => N hX 9 A rfl rfl fun A => CALLI [] Gl.ok hI (able_ os hM hT hE) A rfl rfl rfl rfl rfl rfl rfl fun A => N hX 19 A rfl rfl fun A => fork 41 A rfl
  (fun h1 A => N hX 7 A rfl rfl fun A => RETN hX A rfl rfl rfl h0 rfl rfl rfl rfl rfl rfl)
  (fun h1 A => N hX 7 A rfl rfl fun A => CALLI [] Gl.ok hI (xprint_ i lb os hM hT hE (fun L hL => x86_prok hi (by have hz := or_n h1; omega) hL)) A rfl rfl rfl rfl rfl rfl rfl fun A => N hX 14 A rfl rfl fun A => forkE 49 A rfl
   (fun h2 A => N hX 4 A rfl rfl fun A => tokSp (l := (prP x86G x86C i lb).1)
    (fun ws1 ht1 => CALLI [] Gl.ok hI (tokens_ok ((prP x86G x86C i lb).1) ws1 os hM hE ht1) A rfl rfl rfl rfl rfl rfl rfl fun A => N hX 12 A rfl rfl fun A => have A := A.freeze 1 rfl; CALLI [1] Gl.ok hI (xparse_ ws1 0 (by have := (ws_tokens ht1).1; omega) (ws_tokens ht1).2.1 os hM) A rfl rfl rfl rfl rfl rfl rfl fun A => N hX 44 A rfl rfl fun A => fork 85 A rfl
     (fun h3 A => N hX 7 A rfl rfl fun A => RETN hX A rfl rfl rfl h0 rfl rfl rfl rfl (absurd h3 (ne_true_of_eq_false (bool_no fun hl => by have hl2 := of_decide_eq_true hl; have e := bkA hi h2 (by omega) ht1; rw [e.1, e.2.1]; by_cases h9 : i.op = 9; (rw [e.2.2 h9]; set_option simprocs true in simp); (set_option simprocs true in simp [h9])))) rfl)
     (fun h3 A => N hX 6 A rfl rfl fun A => tokSp (l := tx)
      (fun ws2 ht2 => CALLI [] Gl.ok hI (tokens_ok tx ws2 os hM hE ht2) A rfl rfl rfl rfl rfl rfl rfl fun A => N hX 12 A rfl rfl fun A => have A := A.freeze 3 rfl; CALLI [3] Gl.ok hI (xparse_ ws2 0 (by have := (ws_tokens ht2).1; omega) (ws_tokens ht2).2.1 os hM) A rfl rfl rfl rfl rfl rfl rfl fun A => N hX 21 A rfl rfl fun A => N hX 2 A rfl rfl fun A => fork 104 A rfl
       (fun h4 A => N hX 7 A rfl rfl fun A => RETN hX A rfl rfl rfl h0 rfl rfl rfl rfl rfl rfl)
       (fun h4 A => N hX 7 A rfl rfl fun A => have hB := bkB ht2 (by have hz := or_n h1; omega) (f_no h4); CALLI [] Gl.ok hI (xprint_ (parI x86G ws2 x86C) (parT x86G ws2 x86C) os hM hT hE (fun L hL => x86_prok hB.1 (by have := hB.2.1; omega) hL)) A rfl rfl rfl rfl rfl rfl rfl fun A => N hX 10 A rfl rfl fun A => tokSp (l := (prP x86G x86C (parI x86G ws2 x86C) (parT x86G ws2 x86C)).1)
        (fun ws3 ht3 => CALLI [] Gl.ok hI (tokens_ok ((prP x86G x86C (parI x86G ws2 x86C) (parT x86G ws2 x86C)).1) ws3 os hM hE ht3) A rfl rfl rfl rfl rfl rfl rfl fun A => N hX 12 A rfl rfl fun A => have A := A.freeze 5 rfl; CALLI [5] Gl.ok hI (xparse_ ws3 0 (by have := (ws_tokens ht3).1; omega) (ws_tokens ht3).2.1 os hM) A rfl rfl rfl rfl rfl rfl rfl fun A => N hX 34 A rfl rfl fun A => RETN hX A rfl rfl rfl h0 rfl rfl rfl rfl (by obtain ⟨_, _, z0, wz, z1, z2, z3, z4⟩ := hB; rw [z1] at ht3; have ez : wz = ws3 := congrArg Prod.fst ht3; rw [ez] at z2 z3 z4; have hb : ((((((prP x86G x86C (parI x86G ws2 x86C) (parT x86G ws2 x86C)).2) == 0) && ((parE x86G ws3 x86C) == 0)) && ((((parI x86G ws3 x86C).op) == ((parI x86G ws2 x86C).op)) && ((((parI x86G ws3 x86C).dst) == ((parI x86G ws2 x86C).dst)) && ((((parI x86G ws3 x86C).ra) == ((parI x86G ws2 x86C).ra)) && ((((parI x86G ws3 x86C).rb) == ((parI x86G ws2 x86C).rb)) && ((((parI x86G ws3 x86C).imm) == ((parI x86G ws2 x86C).imm)) && ((((parI x86G ws3 x86C).loc) == ((parI x86G ws2 x86C).loc)) && ((((parI x86G ws3 x86C).off) == ((parI x86G ws2 x86C).off)) && ((((parI x86G ws3 x86C).ix) == ((parI x86G ws2 x86C).ix)) && ((((parI x86G ws3 x86C).sz) == ((parI x86G ws2 x86C).sz)) && ((((parI x86G ws3 x86C).fn) == ((parI x86G ws2 x86C).fn)) && ((((parI x86G ws3 x86C).acq) == ((parI x86G ws2 x86C).acq)) && ((((parI x86G ws3 x86C).weak) == ((parI x86G ws2 x86C).weak)) && ((((parI x86G ws3 x86C).rel) == ((parI x86G ws2 x86C).rel)) && ((((parI x86G ws3 x86C).pred) == ((parI x86G ws2 x86C).pred)) && ((((parI x86G ws3 x86C).succ) == ((parI x86G ws2 x86C).succ)) && ((((parI x86G ws3 x86C).to_) == ((parI x86G ws2 x86C).to_)) && (((parI x86G ws3 x86C).zero) == ((parI x86G ws2 x86C).zero))))))))))))))))))) && ((parT x86G ws3 x86C) == (parT x86G ws2 x86C))) = true := (by rw [z0, z2, z3, z4]; set_option simprocs true in simp); rw [hb]; rfl) rfl)
        (fun e3 k3 he3 ht3 => CALLI [] Gl.ok hI (tokens_no ((prP x86G x86C (parI x86G ws2 x86C) (parT x86G ws2 x86C)).1) e3 k3 os hM hE ht3 he3) A rfl rfl rfl rfl rfl rfl rfl fun A => N hX 12 A rfl rfl fun A => CALLI [] Gl.ok hI (fnI_nil (xparse_ [] 0 (by decide) ws0_ok os hM) (fun k => ⟨_, rfl⟩) (fun _ => rfl)) A rfl rfl rfl rfl rfl rfl rfl fun A => N hX 34 A rfl rfl fun A => RETN hX A rfl rfl rfl h0 rfl rfl rfl rfl (by obtain ⟨_, _, _, wz, z1, _⟩ := hB; rw [z1] at ht3; exact absurd (congrArg (fun z => z.2.1) ht3).symm he3) rfl)))
      (fun e2 k2 he2 ht2 => CALLI [] Gl.ok hI (tokens_no tx e2 k2 os hM hE ht2 he2) A rfl rfl rfl rfl rfl rfl rfl fun A => N hX 12 A rfl rfl fun A => CALLI [] Gl.ok hI (fnI_nil (xparse_ [] 0 (by decide) ws0_ok os hM) (fun k => ⟨_, rfl⟩) (fun _ => rfl)) A rfl rfl rfl rfl rfl rfl rfl fun A => N hX 21 A rfl rfl fun A => have A := sy_sayD A 104 (.tt) rfl (fun _ => congrArg (fun b => some (Value.bool b)) (show ((!(e2 == 0)) || (!((parE x86G [] x86C) == 0))) = true by rw [beq_eq_false_iff_ne.2 he2]; rfl)); N hX 9 A rfl rfl fun A => RETN hX A rfl rfl rfl h0 rfl rfl rfl rfl rfl rfl)))
    (fun e1 k1 he1 ht1 => CALLI [] Gl.ok hI (tokens_no ((prP x86G x86C i lb).1) e1 k1 os hM hE ht1 he1) A rfl rfl rfl rfl rfl rfl rfl fun A => N hX 12 A rfl rfl fun A => CALLI [] Gl.ok hI (fnI_nil (xparse_ [] 0 (by decide) ws0_ok os hM) (fun k => ⟨_, rfl⟩) (fun _ => rfl)) A rfl rfl rfl rfl rfl rfl rfl fun A => N hX 44 A rfl rfl fun A => fork 85 A rfl
     (fun h5 A => N hX 7 A rfl rfl fun A => RETN hX A rfl rfl rfl h0 rfl rfl rfl rfl (absurd h5 (ne_true_of_eq_false (bool_no fun hl => absurd (bkN hi h2 (by have hl2 := of_decide_eq_true hl; omega) ht1 he1) id))) rfl)
     (fun h5 A => N hX 6 A rfl rfl fun A => tokSp (l := tx)
      (fun ws4 ht4 => CALLI [] Gl.ok hI (tokens_ok tx ws4 os hM hE ht4) A rfl rfl rfl rfl rfl rfl rfl fun A => N hX 12 A rfl rfl fun A => have A := A.freeze 2 rfl; CALLI [2] Gl.ok hI (xparse_ ws4 0 (by have := (ws_tokens ht4).1; omega) (ws_tokens ht4).2.1 os hM) A rfl rfl rfl rfl rfl rfl rfl fun A => N hX 21 A rfl rfl fun A => N hX 2 A rfl rfl fun A => fork 104 A rfl
       (fun h6 A => N hX 7 A rfl rfl fun A => RETN hX A rfl rfl rfl h0 rfl rfl rfl rfl rfl rfl)
       (fun h6 A => N hX 7 A rfl rfl fun A => have hB := bkB ht4 (by have hz := or_n h1; omega) (f_no h6); CALLI [] Gl.ok hI (xprint_ (parI x86G ws4 x86C) (parT x86G ws4 x86C) os hM hT hE (fun L hL => x86_prok hB.1 (by have := hB.2.1; omega) hL)) A rfl rfl rfl rfl rfl rfl rfl fun A => N hX 10 A rfl rfl fun A => tokSp (l := (prP x86G x86C (parI x86G ws4 x86C) (parT x86G ws4 x86C)).1)
        (fun ws5 ht5 => CALLI [] Gl.ok hI (tokens_ok ((prP x86G x86C (parI x86G ws4 x86C) (parT x86G ws4 x86C)).1) ws5 os hM hE ht5) A rfl rfl rfl rfl rfl rfl rfl fun A => N hX 12 A rfl rfl fun A => have A := A.freeze 4 rfl; CALLI [4] Gl.ok hI (xparse_ ws5 0 (by have := (ws_tokens ht5).1; omega) (ws_tokens ht5).2.1 os hM) A rfl rfl rfl rfl rfl rfl rfl fun A => N hX 34 A rfl rfl fun A => RETN hX A rfl rfl rfl h0 rfl rfl rfl rfl (by obtain ⟨_, _, z0, wz, z1, z2, z3, z4⟩ := hB; rw [z1] at ht5; have ez : wz = ws5 := congrArg Prod.fst ht5; rw [ez] at z2 z3 z4; have hb : ((((((prP x86G x86C (parI x86G ws4 x86C) (parT x86G ws4 x86C)).2) == 0) && ((parE x86G ws5 x86C) == 0)) && ((((parI x86G ws5 x86C).op) == ((parI x86G ws4 x86C).op)) && ((((parI x86G ws5 x86C).dst) == ((parI x86G ws4 x86C).dst)) && ((((parI x86G ws5 x86C).ra) == ((parI x86G ws4 x86C).ra)) && ((((parI x86G ws5 x86C).rb) == ((parI x86G ws4 x86C).rb)) && ((((parI x86G ws5 x86C).imm) == ((parI x86G ws4 x86C).imm)) && ((((parI x86G ws5 x86C).loc) == ((parI x86G ws4 x86C).loc)) && ((((parI x86G ws5 x86C).off) == ((parI x86G ws4 x86C).off)) && ((((parI x86G ws5 x86C).ix) == ((parI x86G ws4 x86C).ix)) && ((((parI x86G ws5 x86C).sz) == ((parI x86G ws4 x86C).sz)) && ((((parI x86G ws5 x86C).fn) == ((parI x86G ws4 x86C).fn)) && ((((parI x86G ws5 x86C).acq) == ((parI x86G ws4 x86C).acq)) && ((((parI x86G ws5 x86C).weak) == ((parI x86G ws4 x86C).weak)) && ((((parI x86G ws5 x86C).rel) == ((parI x86G ws4 x86C).rel)) && ((((parI x86G ws5 x86C).pred) == ((parI x86G ws4 x86C).pred)) && ((((parI x86G ws5 x86C).succ) == ((parI x86G ws4 x86C).succ)) && ((((parI x86G ws5 x86C).to_) == ((parI x86G ws4 x86C).to_)) && (((parI x86G ws5 x86C).zero) == ((parI x86G ws4 x86C).zero))))))))))))))))))) && ((parT x86G ws5 x86C) == (parT x86G ws4 x86C))) = true := (by rw [z0, z2, z3, z4]; set_option simprocs true in simp); rw [hb]; rfl) rfl)
        (fun e5 k5 he5 ht5 => CALLI [] Gl.ok hI (tokens_no ((prP x86G x86C (parI x86G ws4 x86C) (parT x86G ws4 x86C)).1) e5 k5 os hM hE ht5 he5) A rfl rfl rfl rfl rfl rfl rfl fun A => N hX 12 A rfl rfl fun A => CALLI [] Gl.ok hI (fnI_nil (xparse_ [] 0 (by decide) ws0_ok os hM) (fun k => ⟨_, rfl⟩) (fun _ => rfl)) A rfl rfl rfl rfl rfl rfl rfl fun A => N hX 34 A rfl rfl fun A => RETN hX A rfl rfl rfl h0 rfl rfl rfl rfl (by obtain ⟨_, _, _, wz, z1, _⟩ := hB; rw [z1] at ht5; exact absurd (congrArg (fun z => z.2.1) ht5).symm he5) rfl)))
      (fun e4 k4 he4 ht4 => CALLI [] Gl.ok hI (tokens_no tx e4 k4 os hM hE ht4 he4) A rfl rfl rfl rfl rfl rfl rfl fun A => N hX 12 A rfl rfl fun A => CALLI [] Gl.ok hI (fnI_nil (xparse_ [] 0 (by decide) ws0_ok os hM) (fun k => ⟨_, rfl⟩) (fun _ => rfl)) A rfl rfl rfl rfl rfl rfl rfl fun A => N hX 21 A rfl rfl fun A => have A := sy_sayD A 104 (.tt) rfl (fun _ => congrArg (fun b => some (Value.bool b)) (show ((!(e4 == 0)) || (!((parE x86G [] x86C) == 0))) = true by rw [beq_eq_false_iff_ne.2 he4]; rfl)); N hX 9 A rfl rfl fun A => RETN hX A rfl rfl rfl h0 rfl rfl rfl rfl rfl rfl))))
   (fun h2 A => N hX 6 A rfl rfl fun A => tokSp (l := tx)
    (fun ws6 ht6 => CALLI [] Gl.ok hI (tokens_ok tx ws6 os hM hE ht6) A rfl rfl rfl rfl rfl rfl rfl fun A => N hX 12 A rfl rfl fun A => have A := A.freeze 1 rfl; CALLI [1] Gl.ok hI (xparse_ ws6 0 (by have := (ws_tokens ht6).1; omega) (ws_tokens ht6).2.1 os hM) A rfl rfl rfl rfl rfl rfl rfl fun A => N hX 21 A rfl rfl fun A => N hX 2 A rfl rfl fun A => fork 104 A rfl
     (fun h7 A => N hX 7 A rfl rfl fun A => RETN hX A rfl rfl rfl h0 rfl rfl rfl rfl rfl rfl)
     (fun h7 A => N hX 7 A rfl rfl fun A => have hB := bkB ht6 (by have hz := or_n h1; omega) (f_no h7); CALLI [] Gl.ok hI (xprint_ (parI x86G ws6 x86C) (parT x86G ws6 x86C) os hM hT hE (fun L hL => x86_prok hB.1 (by have := hB.2.1; omega) hL)) A rfl rfl rfl rfl rfl rfl rfl fun A => N hX 10 A rfl rfl fun A => tokSp (l := (prP x86G x86C (parI x86G ws6 x86C) (parT x86G ws6 x86C)).1)
      (fun ws7 ht7 => CALLI [] Gl.ok hI (tokens_ok ((prP x86G x86C (parI x86G ws6 x86C) (parT x86G ws6 x86C)).1) ws7 os hM hE ht7) A rfl rfl rfl rfl rfl rfl rfl fun A => N hX 12 A rfl rfl fun A => have A := A.freeze 3 rfl; CALLI [3] Gl.ok hI (xparse_ ws7 0 (by have := (ws_tokens ht7).1; omega) (ws_tokens ht7).2.1 os hM) A rfl rfl rfl rfl rfl rfl rfl fun A => N hX 34 A rfl rfl fun A => RETN hX A rfl rfl rfl h0 rfl rfl rfl rfl (by obtain ⟨_, _, z0, wz, z1, z2, z3, z4⟩ := hB; rw [z1] at ht7; have ez : wz = ws7 := congrArg Prod.fst ht7; rw [ez] at z2 z3 z4; have hb : ((((((prP x86G x86C (parI x86G ws6 x86C) (parT x86G ws6 x86C)).2) == 0) && ((parE x86G ws7 x86C) == 0)) && ((((parI x86G ws7 x86C).op) == ((parI x86G ws6 x86C).op)) && ((((parI x86G ws7 x86C).dst) == ((parI x86G ws6 x86C).dst)) && ((((parI x86G ws7 x86C).ra) == ((parI x86G ws6 x86C).ra)) && ((((parI x86G ws7 x86C).rb) == ((parI x86G ws6 x86C).rb)) && ((((parI x86G ws7 x86C).imm) == ((parI x86G ws6 x86C).imm)) && ((((parI x86G ws7 x86C).loc) == ((parI x86G ws6 x86C).loc)) && ((((parI x86G ws7 x86C).off) == ((parI x86G ws6 x86C).off)) && ((((parI x86G ws7 x86C).ix) == ((parI x86G ws6 x86C).ix)) && ((((parI x86G ws7 x86C).sz) == ((parI x86G ws6 x86C).sz)) && ((((parI x86G ws7 x86C).fn) == ((parI x86G ws6 x86C).fn)) && ((((parI x86G ws7 x86C).acq) == ((parI x86G ws6 x86C).acq)) && ((((parI x86G ws7 x86C).weak) == ((parI x86G ws6 x86C).weak)) && ((((parI x86G ws7 x86C).rel) == ((parI x86G ws6 x86C).rel)) && ((((parI x86G ws7 x86C).pred) == ((parI x86G ws6 x86C).pred)) && ((((parI x86G ws7 x86C).succ) == ((parI x86G ws6 x86C).succ)) && ((((parI x86G ws7 x86C).to_) == ((parI x86G ws6 x86C).to_)) && (((parI x86G ws7 x86C).zero) == ((parI x86G ws6 x86C).zero))))))))))))))))))) && ((parT x86G ws7 x86C) == (parT x86G ws6 x86C))) = true := (by rw [z0, z2, z3, z4]; set_option simprocs true in simp); rw [hb]; rfl) rfl)
      (fun e7 k7 he7 ht7 => CALLI [] Gl.ok hI (tokens_no ((prP x86G x86C (parI x86G ws6 x86C) (parT x86G ws6 x86C)).1) e7 k7 os hM hE ht7 he7) A rfl rfl rfl rfl rfl rfl rfl fun A => N hX 12 A rfl rfl fun A => CALLI [] Gl.ok hI (fnI_nil (xparse_ [] 0 (by decide) ws0_ok os hM) (fun k => ⟨_, rfl⟩) (fun _ => rfl)) A rfl rfl rfl rfl rfl rfl rfl fun A => N hX 34 A rfl rfl fun A => RETN hX A rfl rfl rfl h0 rfl rfl rfl rfl (by obtain ⟨_, _, _, wz, z1, _⟩ := hB; rw [z1] at ht7; exact absurd (congrArg (fun z => z.2.1) ht7).symm he7) rfl)))
    (fun e6 k6 he6 ht6 => CALLI [] Gl.ok hI (tokens_no tx e6 k6 os hM hE ht6 he6) A rfl rfl rfl rfl rfl rfl rfl fun A => N hX 12 A rfl rfl fun A => CALLI [] Gl.ok hI (fnI_nil (xparse_ [] 0 (by decide) ws0_ok os hM) (fun k => ⟨_, rfl⟩) (fun _ => rfl)) A rfl rfl rfl rfl rfl rfl rfl fun A => N hX 21 A rfl rfl fun A => have A := sy_sayD A 104 (.tt) rfl (fun _ => congrArg (fun b => some (Value.bool b)) (show ((!(e6 == 0)) || (!((parE x86G [] x86C) == 0))) = true by rw [beq_eq_false_iff_ne.2 he6]; rfl)); N hX 9 A rfl rfl fun A => RETN hX A rfl rfl rfl h0 rfl rfl rfl rfl rfl rfl)))
theorem back_ (i : In) (lb tx : List UInt8) (os : List (Nat × Obj)) (hM : ∀ w ks, Gl os w ks → ∃ m, w.cell? ⟨0, 0, none⟩ = some (.int .i64 m)) (hT : ∀ w ks, Gl os w ks → Lib.TabIs Tryz.prog w "internal/strconv.uint64pow10" .u64 Lib.pow10Tab) (hE : ∀ w ks, Gl os w ks → ∃ ev, w.cell? ⟨1, 0, none⟩ = some ev ∧ (ev = .nilIface ∨ ∃ te pe, ev = .iface te pe)) (hi : InR i) (h1 : lb.length ≤ 140737488355328) (h2 : tx.length ≤ 140737488355328) : FnI (Gl os) Tryz.prog 5 [.agg (inQ9 i), .str lb, .str tx] [] (Rt .tt []) := back0_ i lb tx os hM hT hE hi
end Go.Proofs.YtedlaclfhgneeaaGreatDoor
namespace Go.Proofs.YtedlaclfhgneeaaGreatDoor
open Go.ChangeShapes Go.WideShapes Go.ChangeAt Go.RowKit
set_option linter.unusedVariables false
set_option linter.unusedSimpArgs false
set_option maxRecDepth 100000
def insC (i : In) : Array Value := #[.int .i64 i.op, .int .i64 i.dst, .int .i64 i.ra, .int .i64 i.rb, .int .i64 i.imm, .int .i64 i.loc, .int .i64 i.off, .int .i64 i.ix, .int .i64 i.sz, .int .i64 i.fn, .bool i.acq, .bool i.weak, .bool i.rel, .int .i64 i.pred, .int .i64 i.succ, .int .i64 i.to_, .bool i.zero]
def insT (k : Nat) : Nat := if k == 10 || k == 11 || k == 12 || k == 16 then 4 else 3
def insFs (P : Program) : Option (Array Field) := match P.underlying 30 with | some (.struct fs) => some fs | _ => none
def insFB (P : Program) : Bool := match insFs P with | some fs => (List.range 17).all (fun k => match fs[k]? with | some f => f.offset == k && f.type == insT k | none => false) | none => false
theorem insFB_true : insFB Tryz.prog = true := by kernel_rfl
theorem ins_fields : ∃ fs : Array Field, Tryz.prog.underlying 30 = some (.struct fs) ∧ ∀ k, k < 17 → ∃ f, fs[k]? = some f ∧ f.offset = k ∧ f.type = insT k := by
  have h := insFB_true
  unfold insFB at h
  cases hq : insFs Tryz.prog with
  | none => simp [hq] at h
  | some fs =>
    rw [hq] at h
    refine ⟨fs, ?_, fun k hk => ?_⟩
    · unfold insFs at hq
      split at hq
      · rename_i fs' he; rw [he]; cases hq; rfl
      · cases hq
    · have h1 := List.all_eq_true.1 h k (List.mem_range.2 hk)
      cases hf : fs[k]? with
      | none => simp [hf] at h1
      | some f => rw [hf] at h1; simp only [Bool.and_eq_true, beq_iff_eq] at h1; exact ⟨f, rfl, h1.1, h1.2⟩
theorem ins_cells : Tryz.prog.cellsOf 30 = 17 := by kernel_rfl
theorem int_cells : Tryz.prog.cellsOf 3 = 1 := by kernel_rfl
theorem bool_cells : Tryz.prog.cellsOf 4 = 1 := by kernel_rfl
theorem take_one {l : List Value} {k : Nat} {v : Value} (h : (l.drop k).take 1 = [v]) : l[k]? = some v := by
  have := congrArg (fun l => l[0]?) h
  simpa using this
theorem open_ins {H : Type} {enc : TypeId × Value → H} {W : World} {base : Nat} {spare : Nat → Bool} {held : Bool} {base' : Nat} {v : Value} {d : DataW H} {ps : List MemPlace}
    (hv : Value.okWide Tryz.prog W .any base 30 v) (h : DataW.Trod enc Tryz.prog W base' spare held 30 v d ps) : ∃ i : In, v = .agg (insC i) := by
  obtain ⟨fs, hu, hfs⟩ := ins_fields
  obtain ⟨cs, rfl, hsz⟩ := okWide_struct hu hv
  rw [ins_cells] at hsz
  obtain ⟨fuel, hf⟩ := h
  obtain ⟨xs, n, _, _, _, hlen, hx⟩ := DataW.trod_struct hu hf
  have int : ∀ k, k < 17 → insT k = 3 → ∃ m : Int, cs.toList[k]? = some (.int .i64 m) := fun k hk ht => by
    obtain ⟨f, hf1, ho, hty⟩ := hfs k hk
    have h1 := hx k f hf1
    have hl := (Array.getElem?_eq_some_iff.1 hf1).1
    rw [ho, hty, ht, int_cells, List.getElem?_eq_getElem (by omega)] at h1
    obtain ⟨m, h2, _, _⟩ := DataW.trod_int Tryz.underlying3 h1
    exact ⟨m, take_one h2⟩
  have bool : ∀ k, k < 17 → insT k = 4 → ∃ b : Bool, cs.toList[k]? = some (.bool b) := fun k hk ht => by
    obtain ⟨f, hf1, ho, hty⟩ := hfs k hk
    have h1 := hx k f hf1
    have hl := (Array.getElem?_eq_some_iff.1 hf1).1
    rw [ho, hty, ht, bool_cells, List.getElem?_eq_getElem (by omega)] at h1
    obtain ⟨m, h2, _⟩ := DataW.trod_bool Tryz.underlying4 h1
    exact ⟨m, take_one h2⟩
  obtain ⟨c0, h0⟩ := int 0 (by decide) rfl
  obtain ⟨c1, h1⟩ := int 1 (by decide) rfl
  obtain ⟨c2, h2⟩ := int 2 (by decide) rfl
  obtain ⟨c3, h3⟩ := int 3 (by decide) rfl
  obtain ⟨c4, h4⟩ := int 4 (by decide) rfl
  obtain ⟨c5, h5⟩ := int 5 (by decide) rfl
  obtain ⟨c6, h6⟩ := int 6 (by decide) rfl
  obtain ⟨c7, h7⟩ := int 7 (by decide) rfl
  obtain ⟨c8, h8⟩ := int 8 (by decide) rfl
  obtain ⟨c9, h9⟩ := int 9 (by decide) rfl
  obtain ⟨c10, h10⟩ := bool 10 (by decide) rfl
  obtain ⟨c11, h11⟩ := bool 11 (by decide) rfl
  obtain ⟨c12, h12⟩ := bool 12 (by decide) rfl
  obtain ⟨c13, h13⟩ := int 13 (by decide) rfl
  obtain ⟨c14, h14⟩ := int 14 (by decide) rfl
  obtain ⟨c15, h15⟩ := int 15 (by decide) rfl
  obtain ⟨c16, h16⟩ := bool 16 (by decide) rfl
  refine ⟨⟨c0, c1, c2, c3, c4, c5, c6, c7, c8, c9, c10, c11, c12, c13, c14, c15, c16⟩, congrArg Value.agg ?_⟩
  apply Array.ext'
  apply List.ext_getElem?
  intro k
  by_cases hk : k < 17
  · have : k = 0 ∨ k = 1 ∨ k = 2 ∨ k = 3 ∨ k = 4 ∨ k = 5 ∨ k = 6 ∨ k = 7 ∨ k = 8 ∨ k = 9 ∨ k = 10 ∨ k = 11 ∨ k = 12 ∨ k = 13 ∨ k = 14 ∨ k = 15 ∨ k = 16 := by omega
    rcases this with rfl | rfl | rfl | rfl | rfl | rfl | rfl | rfl | rfl | rfl | rfl | rfl | rfl | rfl | rfl | rfl | rfl
    · exact h0
    · exact h1
    · exact h2
    · exact h3
    · exact h4
    · exact h5
    · exact h6
    · exact h7
    · exact h8
    · exact h9
    · exact h10
    · exact h11
    · exact h12
    · exact h13
    · exact h14
    · exact h15
    · exact h16
  · rw [List.getElem?_eq_none (by simp; omega), List.getElem?_eq_none (by simp [insC]; omega)]
theorem wf_rng {n : Int} (h : (Lit.int .i64 n).wf = true) : -9223372036854775808 ≤ n ∧ n ≤ 9223372036854775807 := by
  have h' : (decide ((IntKind.i64).min ≤ n) && decide (n ≤ (IntKind.i64).max)) = true := h
  rw [Bool.and_eq_true, decide_eq_true_eq, decide_eq_true_eq, show (IntKind.i64).min = -9223372036854775808 from rfl, show (IntKind.i64).max = 9223372036854775807 from rfl] at h'
  exact h'
theorem ins_rng {H : Type} {enc : TypeId × Value → H} {W : World} {spare : Nat → Bool} {held : Bool} {base' : Nat} {i : In} {d : DataW H} {ps : List MemPlace}
    (h : DataW.Trod enc Tryz.prog W base' spare held 30 (.agg (insC i)) d ps) : (-9223372036854775808 ≤ i.imm ∧ i.imm ≤ 9223372036854775807) ∧ (-9223372036854775808 ≤ i.off ∧ i.off ≤ 9223372036854775807) := by
  obtain ⟨fs, hu, hfs⟩ := ins_fields
  obtain ⟨fuel, hf⟩ := h
  obtain ⟨xs, n, _, _, _, hlen, hx⟩ := DataW.trod_struct hu hf
  have int : ∀ k, k < 17 → insT k = 3 → ∀ m : Int, (insC i).toList[k]? = some (.int .i64 m) → -9223372036854775808 ≤ m ∧ m ≤ 9223372036854775807 := fun k hk ht m hm => by
    obtain ⟨f, hf1, ho, hty⟩ := hfs k hk
    have h1 := hx k f hf1
    have hl := (Array.getElem?_eq_some_iff.1 hf1).1
    rw [ho, hty, ht, int_cells, List.getElem?_eq_getElem (by omega)] at h1
    obtain ⟨m', h2, _, hw⟩ := DataW.trod_int Tryz.underlying3 h1
    have e := take_one h2
    have e2 : (insC i).toList[k]? = some (.int .i64 m') := e
    rw [hm] at e2
    cases e2
    exact wf_rng hw
  exact ⟨int 4 (by decide) rfl i.imm rfl, int 6 (by decide) rfl i.off rfl⟩
theorem tab_fac {W : World} (h : Lib.TabIs Tryz.prog W "internal/strconv.uint64pow10" .u64 Lib.pow10Tab) : ∃ o, W.heap[5]? = some o ∧ ∀ w : World, w.heap[5]? = some o → Lib.TabIs Tryz.prog w "internal/strconv.uint64pow10" .u64 Lib.pow10Tab := by
  have hg : Tryz.prog.globalNamed "internal/strconv.uint64pow10" = some 5 := by kernel_rfl
  cases ho : W.heap[5]? with
  | none => unfold Lib.TabIs World.var? at h; rw [hg] at h; simp [ho] at h
  | some o =>
    refine ⟨o, rfl, fun w hw => ?_⟩
    unfold Lib.TabIs World.var? at h ⊢
    rw [hg] at h ⊢
    simp only [Option.bind_some, ho, hw] at h ⊢
    exact h
theorem cell_fac {W : World} {b k : Nat} {v : Value} (h : W.cell? ⟨b, k, none⟩ = some v) : ∃ o, W.heap[b]? = some o ∧ ∀ w : World, w.heap[b]? = some o → w.cell? ⟨b, k, none⟩ = some v := by
  cases ho : W.heap[b]? with
  | none => unfold World.cell? at h; simp [ho] at h
  | some o =>
    refine ⟨o, rfl, fun w hw => ?_⟩
    unfold World.cell? at h ⊢
    simp only [ho, hw] at h ⊢
    exact h
theorem call_of {f : Nat} {args : List SV} {vs : List Value} {W : World} (hT : Lib.TabIs Tryz.prog W "internal/strconv.uint64pow10" .u64 Lib.pow10Tab) (m0 : Int) (hm : W.cell? ⟨0, 0, none⟩ = some (.int .i64 m0)) (ev : Value) (he : W.cell? ⟨1, 0, none⟩ = some ev) (hev : ev = .nilIface ∨ ∃ te pe, ev = .iface te pe) (hv : denL [] args = some vs)
    (h : ∀ os : List (Nat × Obj), (∀ w ks, Gl os w ks → ∃ m, w.cell? ⟨0, 0, none⟩ = some (.int .i64 m)) → (∀ w ks, Gl os w ks → Lib.TabIs Tryz.prog w "internal/strconv.uint64pow10" .u64 Lib.pow10Tab) → (∀ w ks, Gl os w ks → ∃ ev, w.cell? ⟨1, 0, none⟩ = some ev ∧ (ev = .nilIface ∨ ∃ te pe, ev = .iface te pe)) → FnI (Gl os) Tryz.prog f args [] (Rt .tt [])) : Calls Tryz.prog f vs.toArray W fun e W' => e = .returned (.bool true) ∧ Grow W W' := by
  obtain ⟨o5, k5, c5⟩ := tab_fac hT
  obtain ⟨o0, k0, c0⟩ := cell_fac hm
  obtain ⟨o1, k1, c1⟩ := cell_fac he
  have hG : Gl [(0, o0), (1, o1), (5, o5)] W [] := fun p hp => by
    simp only [List.mem_cons, List.not_mem_nil, or_false] at hp
    rcases hp with rfl | rfl | rfl
    · exact ⟨k0, rfl⟩
    · exact ⟨k1, rfl⟩
    · exact ⟨k5, rfl⟩
  have hf := h [(0, o0), (1, o1), (5, o5)] (fun w ks hg => ⟨m0, c0 w (hg (0, o0) (by simp)).1⟩) (fun w ks hg => c5 w (hg (5, o5) (by simp)).1) (fun w ks hg => ⟨ev, c1 w (hg (1, o1) (by simp)).1, hev⟩)
  have hM : Mem [] [] W := ⟨rfl, fun i e h => by simp at h, fun i j e f L M _ h => by simp at h⟩
  refine Calls.mono (hf.2 [] W vs hM hG hv) fun e W' hp => ?_
  obtain ⟨v, F, h1, h2, _, h4⟩ := post_ro hp (fun i e he => by simp at he)
  cases h1
  exact ⟨h2, h4⟩
end Go.Proofs.YtedlaclfhgneeaaGreatDoor
