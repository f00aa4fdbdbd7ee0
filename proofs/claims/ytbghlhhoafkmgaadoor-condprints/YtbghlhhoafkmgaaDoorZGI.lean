/- Conditions as trees in memory; their texts. -/
import Derived.Test.YtbghlhhoafkmgaaDoorZGH
import Derived.Test.YtbghlhhoafkmgaaDoorCondJudgesP5
import Derived.Test.YtbghlhhoafkmgaaDoorZMFre
namespace Go.Proofs.YtbghlhhoafkmgaaDoor
open Go.RowKit
set_option linter.unusedVariables false
set_option linter.unusedSimpArgs false
set_option linter.unusedSectionVars false

inductive Tr where
  | lf (c : Cn)
  | un (c : Cn) (t : Tr)
  | bi (c : Cn) (l r : Tr)
def Tr.c : Tr → Cn
  | .lf c => c
  | .un c _ => c
  | .bi c _ _ => c
def Tr.nd : Tr → Nat
  | .lf _ => 1
  | .un _ t => t.nd + 1
  | .bi _ l r => l.nd + r.nd + 1
def lvl (k : Int) : Int := if k = 5 then 0 else if k = 4 then 1 else if k = 3 then 2 else 3
def brk (s : List UInt8) (l k : Int) : List UInt8 := if l < k then ([40] ++ s) ++ [41] else s
def locT (g : Int) : List UInt8 := ([120, 121, 122].take (g + 1).toNat).drop (g).toNat
def tx (ar : Int) : Tr → List UInt8
  | .lf c => if c.kd = 1 then (((Lib.itoa c.th ++ [58]) ++ rname0 ar c.rg) ++ [61]) ++ Lib.itoa c.vl else (locT c.lc ++ [61]) ++ Lib.itoa c.vl
  | .un c t => [126] ++ brk (tx ar t) (lvl t.c.kd) 2
  | .bi c l r => if c.kd = 4 then (brk (tx ar l) (lvl l.c.kd) 1 ++ [32, 47, 92, 32]) ++ brk (tx ar r) (lvl r.c.kd) 2 else (brk (tx ar l) (lvl l.c.kd) 0 ++ [32, 92, 47, 32]) ++ brk (tx ar r) (lvl r.c.kd) 1
def okV (v : Int) : Prop := -9223372036854775808 ≤ v ∧ v ≤ 9223372036854775807
def Tr.ok : Tr → Prop
  | .lf c => ((c.kd = 1 ∧ 0 ≤ c.th ∧ c.th < 3 ∧ 0 ≤ c.rg ∧ c.rg < 8) ∨ (c.kd = 2 ∧ 0 ≤ c.lc ∧ c.lc < 3)) ∧ okV c.vl
  | .un c t => c.kd = 3 ∧ t.ok
  | .bi c l r => (c.kd = 4 ∨ c.kd = 5) ∧ l.ok ∧ r.ok
theorem rname_len (ar g : Int) : (rname0 ar g).length ≤ 9 := by
  unfold rname0
  split
  · simp
  · next h =>
    simp only [Bool.or_eq_true, decide_eq_true_eq, not_or, Int.not_lt] at h
    have hg : g = 0 ∨ g = 1 ∨ g = 2 ∨ g = 3 ∨ g = 4 ∨ g = 5 ∨ g = 6 ∨ g = 7 := by omega
    split
    · rcases hg with rfl | rfl | rfl | rfl | rfl | rfl | rfl | rfl <;> decide
    · split
      · rcases hg with rfl | rfl | rfl | rfl | rfl | rfl | rfl | rfl <;> decide
      · split
        · rcases hg with rfl | rfl | rfl | rfl | rfl | rfl | rfl | rfl <;> decide
        · decide
theorem loc_len (g : Int) : (locT g).length ≤ 3 := by unfold locT; simp; omega
theorem brk_len (s : List UInt8) (l k : Int) : (brk s l k).length ≤ s.length + 2 := by
  unfold brk; split <;> simp
theorem tx_len (ar : Int) : ∀ t : Tr, t.ok → (tx ar t).length ≤ 64 * t.nd
  | .lf c, h => by
    have h1 := Lib.itoa_length_le c.vl h.2.1 h.2.2
    have h2 := rname_len ar c.rg
    have h3 := loc_len c.lc
    unfold tx Tr.nd
    split
    · next hk =>
      have h4 : (Lib.itoa c.th).length ≤ 21 := Lib.itoa_length_le c.th (by rcases h.1 with h | h <;> omega) (by rcases h.1 with h | h <;> omega)
      simp only [List.length_append, List.length_cons, List.length_nil]; omega
    · simp only [List.length_append, List.length_cons, List.length_nil]; omega
  | .un c t, h => by
    have h1 := tx_len ar t h.2
    have h2 := brk_len (tx ar t) (lvl t.c.kd) 2
    unfold tx Tr.nd
    simp only [List.length_append, List.length_cons, List.length_nil]; omega
  | .bi c l r, h => by
    have h1 := tx_len ar l h.2.1
    have h2 := tx_len ar r h.2.2
    have h3 := brk_len (tx ar l) (lvl l.c.kd) 1
    have h4 := brk_len (tx ar r) (lvl r.c.kd) 2
    have h5 := brk_len (tx ar l) (lvl l.c.kd) 0
    have h6 := brk_len (tx ar r) (lvl r.c.kd) 1
    unfold tx Tr.nd
    split <;> (simp only [List.length_append, List.length_cons, List.length_nil]; omega)
/-! ### In memory -/
abbrev PA := Option (Nat × Nat)
def pv (p : PA) : Value := .pointer (p.map fun x => ⟨x.1, x.2, none⟩)
def vsT (c : Cn) (p q : PA) : List Value := [.int .i64 c.kd, .int .i64 c.th, .int .i64 c.rg, .int .i64 c.lc, .int .i64 c.vl, pv p, pv q]
def csT (c : Cn) (p q : PA) : List SV := [.int .i64 c.kd, .int .i64 c.th, .int .i64 c.rg, .int .i64 c.lc, .int .i64 c.vl, .v (pv p), .v (pv q)]
theorem csT_den (c : Cn) (p q : PA) : denL [] (csT c p q) = some (vsT c p q) := rfl
def TrAt (lo : Nat) : Tr → Nat → Nat → Amb
  | .lf c, b, o => fun w ks => lo ≤ b ∧ Lies b o (vsT c none none) w ks
  | .un c t, b, o => fun w ks => lo ≤ b ∧ ∃ b1 o1, Lies b o (vsT c (some (b1, o1)) none) w ks ∧ TrAt lo t b1 o1 w ks
  | .bi c l r, b, o => fun w ks => lo ≤ b ∧ ∃ b1 o1 b2 o2, Lies b o (vsT c (some (b1, o1)) (some (b2, o2))) w ks ∧ TrAt lo l b1 o1 w ks ∧ TrAt lo r b2 o2 w ks
theorem TrAt.ok {lo : Nat} : ∀ (t : Tr) (b o : Nat), Amb.OK (TrAt lo t b o)
  | .lf c, b, o => fun w ks w' ks' h m hk => ⟨h.1, h.2.go m hk⟩
  | .un c t, b, o => fun w ks w' ks' h m hk => by
    obtain ⟨h0, b1, o1, h1, h2⟩ := h
    exact ⟨h0, b1, o1, h1.go m hk, TrAt.ok t b1 o1 w ks w' ks' h2 m hk⟩
  | .bi c l r, b, o => fun w ks w' ks' h m hk => by
    obtain ⟨h0, b1, o1, b2, o2, h1, h2, h3⟩ := h
    exact ⟨h0, b1, o1, b2, o2, h1.go m hk, TrAt.ok l b1 o1 w ks w' ks' h2 m hk, TrAt.ok r b2 o2 w ks w' ks' h3 m hk⟩
theorem TrAt.root {lo : Nat} {t : Tr} {b o : Nat} {w : World} {ks : List Nat} (h : TrAt lo t b o w ks) : ∃ p q, Lies b o (vsT t.c p q) w ks := by
  cases t with
  | lf c => exact ⟨none, none, h.2⟩
  | un c t => obtain ⟨_, b1, o1, h1, _⟩ := h; exact ⟨_, _, h1⟩
  | bi c l r => obtain ⟨_, b1, o1, b2, o2, h1, _⟩ := h; exact ⟨_, _, h1⟩
theorem off1 {lo b : Nat} {ks' : List Nat} (hk : ∀ b, ks'.contains b = true → b < lo) (h : lo ≤ b) : ks'.contains b = false := by
  cases hc : ks'.contains b with
  | false => rfl
  | true => have := hk b hc; omega
theorem TrAt.off {lo : Nat} {w : World} {ks ks' : List Nat} (hk : ∀ b, ks'.contains b = true → b < lo) : ∀ (t : Tr) (b o : Nat), TrAt lo t b o w ks → TrAt lo t b o w ks'
  | .lf c, b, o, h => ⟨h.1, h.2.1, off1 hk h.1, h.2.2.2⟩
  | .un c t, b, o, h => by
    obtain ⟨h0, b1, o1, h1, h2⟩ := h
    exact ⟨h0, b1, o1, ⟨h1.1, off1 hk h0, h1.2.2⟩, TrAt.off hk t b1 o1 h2⟩
  | .bi c l r, b, o, h => by
    obtain ⟨h0, b1, o1, b2, o2, h1, h2, h3⟩ := h
    exact ⟨h0, b1, o1, b2, o2, ⟨h1.1, off1 hk h0, h1.2.2⟩, TrAt.off hk l b1 o1 h2, TrAt.off hk r b2 o2 h3⟩
/-! ### The stack of trees -/
abbrev PT := Nat × Nat × Tr
def tz : PT := (0, 0, .lf Cn.z)
def adT (p : PT) : SV := adr p.1 p.2.1
def mkT (c : Cn) (ts : List Tr) : Tr :=
  if parts0 c.kd = 1 then .un c (ts.getD (((ts.length : Nat) : Int) - 1).toNat (.lf Cn.z)) else
  if parts0 c.kd = 2 then .bi c (ts.getD (((ts.length : Nat) : Int) - 2).toNat (.lf Cn.z)) (ts.getD (((ts.length : Nat) : Int) - 1).toNat (.lf Cn.z)) else .lf c
def stepB (c : Cn) (ts : List Tr) : List Tr := ts.take (((ts.length : Nat) : Int) - parts0 c.kd).toNat ++ [mkT c ts]
def foldB (cs : List Cn) : List Tr := cs.foldl (fun l c => stepB c l) []
def trs (l : List PT) : List Tr := l.map (·.2.2)
structure BI (cs : List Cn) (l : List PT) (i : Nat) : Prop where
  lb : ∃ lb, EI oz cs lb i ∧ lb.length = l.length
  eq : trs l = foldB (cs.take i)
def AllT (lo : Nat) (l : List PT) (w : World) (ks : List Nat) : Prop := ∀ p ∈ l, TrAt lo p.2.2 p.1 p.2.1 w ks
theorem AllT.go {lo : Nat} {l : List PT} {w w' : World} {ks ks' : List Nat} (h : AllT lo l w ks) (m : Mix ks w w') (hk : ∀ b, ks'.contains b = true → ks.contains b = true ∨ w.heap.size ≤ b) : AllT lo l w' ks' := fun p hp => TrAt.ok _ _ _ _ _ _ _ (h p hp) m hk
theorem AllT.now {lo n : Nat} {T : List (Nat × SV)} {H : Hp} {ks : List Nat} {G0 : Gr} {w0 : World} {G : Gr} {a : Act} {w : World} {l : List PT} (h : AllT lo l w0 ks) (A : Sy n T H ks G0 w0 G a w) : AllT lo l w (keys H G) := h.go A.mix A.keys_own
section
variable {L : List Cn} {i : Nat} {l : List PT}
abbrev nodeAt (L : List Cn) (i : Nat) : Cn := L.getD ((i : Int)).toNat Cn.z
theorem BI.i0 (hr : right L = true) : BI L [] 0 := ⟨⟨[], EI.init (by rw [hr]; rfl), rfl⟩, by simp [foldB, trs]⟩
theorem BI.kn (hI : BI L l i) (h1 : (i : Int) < ((L.length : Nat) : Int)) : ¬ (nodeAt L i).n < 0 ∧ (nodeAt L i).n ≤ (l.length : Int) ∧ (nodeAt L i).n = parts0 (nodeAt L i).kd ∧ (((nodeAt L i).kd = 1 ∧ (nodeAt L i).n = 0 ∧ 0 ≤ (nodeAt L i).th ∧ (nodeAt L i).th < 3 ∧ 0 ≤ (nodeAt L i).rg ∧ (nodeAt L i).rg < 8) ∨ ((nodeAt L i).kd = 2 ∧ (nodeAt L i).n = 0 ∧ 0 ≤ (nodeAt L i).lc ∧ (nodeAt L i).lc < 3) ∨ ((nodeAt L i).kd = 3 ∧ (nodeAt L i).n = 1) ∨ ((nodeAt L i).kd = 4 ∧ (nodeAt L i).n = 2) ∨ ((nodeAt L i).kd = 5 ∧ (nodeAt L i).n = 2)) ∧ l.length ≤ i := by
  obtain ⟨lb, h2, h3⟩ := hI.lb
  rw [show L = L.take L.length by simp] at h2
  have := h2.kn (Nat.le_refl _) h1
  rw [h3] at this
  exact this
theorem BI.le (hI : BI L l i) : i ≤ L.length := by obtain ⟨lb, h2, _⟩ := hI.lb; exact h2.le
theorem BI.nx (hI : BI L l i) (hr : right L = true) (h1 : (i : Int) < ((L.length : Nat) : Int)) (b o : Nat) : BI L (l.take (((l.length : Nat) : Int) - (nodeAt L i).n).toNat ++ [(b, o, mkT (nodeAt L i) (trs l))]) (i + 1) := by
  obtain ⟨lb, h2, h3⟩ := hI.lb
  have k := hI.kn h1
  have h2' : EI oz (L.take L.length) lb i := by rw [List.take_length]; exact h2
  have k' := h2'.kn (Nat.le_refl _) h1
  have hn := h2'.nx (by rw [List.take_length]; exact hr) (Nat.le_refl _) h1
  rw [List.take_length] at hn
  refine ⟨⟨_, hn, ?_⟩, ?_⟩
  · rw [← fold_st (p := oz) (l := lb) k'.1 k'.2.1 k'.2.2.1 rfl]
    simp only [List.length_append, List.length_take, List.length_cons, List.length_nil, h3]
    have h5 := k.2.2.1
    have h6 := k.2.1
    have h7 := k.1
    simp only [nodeAt] at h5 h6 h7 ⊢
    omega
  · have hi : i < L.length := by omega
    rw [List.take_succ_eq_append_getElem hi, foldB, List.foldl_append, ← foldB, ← hI.eq]
    have e : L[i] = nodeAt L i := by simp [List.getD, hi]
    rw [e]
    have hl : (trs l).length = l.length := by simp [trs]
    show trs _ = stepB (nodeAt L i) (trs l)
    unfold stepB
    rw [hl, ← k.2.2.1]
    simp [trs, List.map_append, List.map_take]
theorem BI.fi (hI : BI L l i) (hr : right L = true) (h1 : ¬ (i : Int) < ((L.length : Nat) : Int)) : l.length = 1 ∧ trs l = foldB L := by
  obtain ⟨lb, h2, h3⟩ := hI.lb
  have := h2.fin h1
  have he := hI.eq
  rw [List.take_of_length_le (by omega)] at he
  exact ⟨by omega, he⟩
end
theorem getD_trs {l : List PT} {k : Nat} (h : k < l.length) : (trs l).getD k (.lf Cn.z) = (l.getD k tz).2.2 := by
  simp [trs, List.getD, h]
theorem AllT.at {lo : Nat} {l : List PT} {w : World} {ks : List Nat} (h : AllT lo l w ks) {k : Nat} (hk : k < l.length) : TrAt lo (l.getD k tz).2.2 (l.getD k tz).1 (l.getD k tz).2.1 w ks := by
  have : l.getD k tz ∈ l := by rw [List.getD_eq_getElem?_getD, List.getElem?_eq_getElem hk]; exact List.getElem_mem hk
  exact h _ this
theorem AllT.app {lo : Nat} {l : List PT} {w : World} {ks : List Nat} (h : AllT lo l w ks) {k b p : Nat} {t : Tr} (ht : TrAt lo t b p w ks) : AllT lo (l.take k ++ [(b, p, t)]) w ks := fun x hx => by
  rcases List.mem_append.1 hx with hx | hx
  · exact h x (List.mem_of_mem_take hx)
  · rw [List.mem_singleton.1 hx]; exact ht
section
variable {L : List Cn} {i lo : Nat} {l : List PT} {w : World} {ks : List Nat} {b p k : Nat}
theorem add0 (hB : BI L l i) (h1 : (i : Int) < ((L.length : Nat) : Int)) (h : AllT lo l w ks) (h2 : (nodeAt L i).n ≠ 1) (h3 : (nodeAt L i).n ≠ 2) (hlo : lo ≤ b) (hl : Lies b p (vsT (nodeAt L i) none none) w ks) : AllT lo (l.take k ++ [(b, p, mkT (nodeAt L i) (trs l))]) w ks := by
  have hk := hB.kn h1
  refine h.app ?_
  unfold mkT
  rw [← hk.2.2.1, if_neg h2, if_neg h3]
  exact ⟨hlo, hl⟩
theorem add1 (hB : BI L l i) (h1 : (i : Int) < ((L.length : Nat) : Int)) (h : AllT lo l w ks) (h2 : (nodeAt L i).n = 1) (hlo : lo ≤ b) (hl : Lies b p (vsT (nodeAt L i) (some ((l.getD (((l.length : Nat) : Int) - 1).toNat tz).1, (l.getD (((l.length : Nat) : Int) - 1).toNat tz).2.1)) none) w ks) : AllT lo (l.take k ++ [(b, p, mkT (nodeAt L i) (trs l))]) w ks := by
  have hk := hB.kn h1
  have hk1 := hk.2.1
  have hk3 := hk.2.2.1
  refine h.app ?_
  have hn : (((l.length : Nat) : Int) - 1).toNat < l.length := by omega
  unfold mkT
  rw [← hk3, if_pos h2, show (trs l).length = l.length by simp [trs], getD_trs hn]
  exact ⟨hlo, _, _, hl, h.at hn⟩
theorem add2 (hB : BI L l i) (h1 : (i : Int) < ((L.length : Nat) : Int)) (h : AllT lo l w ks) (h2 : (nodeAt L i).n = 2) (hlo : lo ≤ b) (hl : Lies b p (vsT (nodeAt L i) (some ((l.getD (((l.length : Nat) : Int) - 2).toNat tz).1, (l.getD (((l.length : Nat) : Int) - 2).toNat tz).2.1)) (some ((l.getD (((l.length : Nat) : Int) - 1).toNat tz).1, (l.getD (((l.length : Nat) : Int) - 1).toNat tz).2.1))) w ks) : AllT lo (l.take k ++ [(b, p, mkT (nodeAt L i) (trs l))]) w ks := by
  have hk := hB.kn h1
  have hk1 := hk.2.1
  have hk3 := hk.2.2.1
  refine h.app ?_
  have hn : (((l.length : Nat) : Int) - 1).toNat < l.length := by omega
  have hm : (((l.length : Nat) : Int) - 2).toNat < l.length := by omega
  unfold mkT
  rw [← hk3, if_neg (by rw [h2]; decide), if_pos h2, show (trs l).length = l.length by simp [trs], getD_trs hn, getD_trs hm]
  exact ⟨hlo, _, _, _, _, hl, h.at hm, h.at hn⟩
theorem bi_len (F b o : Nat) (t : Tr) (h : F ≤ l.length) : (l.take F ++ [(b, o, t)]).length = F + 1 := by
  rw [List.length_append, List.length_take, List.length_cons, List.length_nil]; omega
theorem bi_app {F : Nat} {x : PT} (h : F ≤ l.length) : (l.take F ++ [x]).getD F tz = x := by
  have := getD_app_1 (l := l.take F) (x := x) (d := tz)
  rw [List.length_take, Nat.min_eq_left h] at this; exact this
theorem bi_end (hB : BI L l i) (hr : right L = true) (h1 : ¬ (i : Int) < ((L.length : Nat) : Int)) (h : AllT lo l w ks) : TrAt lo ((foldB L).getD 0 (.lf Cn.z)) (l.getD 0 tz).1 (l.getD 0 tz).2.1 w [] := by
  obtain ⟨h2, h3⟩ := hB.fi hr h1
  rw [← h3, getD_trs (by omega)]
  exact TrAt.off (fun b hb => by simp at hb) _ _ _ (h.at (by omega))
end
end Go.Proofs.YtbghlhhoafkmgaaDoor
