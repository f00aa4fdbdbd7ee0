/- CondBack, part 4: the engine, contracts, theory. -/
import Derived.Test.YtedlaclfhgneeabGreatDoorCondBackP3
import Derived.Sort.AssemblyPlain
import Derived.Lib.ItoaLen
import Derived.Shelf.Spec.SlicesGrow
import Derived.LoopN
namespace Go.Proofs.YtedlaclfhgneeabGreatDoor
set_option linter.unusedVariables false
set_option linter.unusedSimpArgs false
set_option maxRecDepth 100000
inductive Tre where
  | lf (c : Cn)
  | un (c : Cn) (t : Tre)
  | bi (c : Cn) (l r : Tre)
def Tre.c : Tre → Cn
  | .lf c => c
  | .un c _ => c
  | .bi c _ _ => c
def Tre.rows : Tre → List Cn
  | .lf c => [c]
  | .un c t => t.rows ++ [c]
  | .bi c l r => l.rows ++ r.rows ++ [c]
def okV (v : Int) : Prop := -9223372036854775808 ≤ v ∧ v ≤ 9223372036854775807
def Tre.ok : Tre → Prop
  | .lf c => ((c.k = 1 ∧ 0 ≤ c.t ∧ c.t < 3 ∧ 0 ≤ c.r ∧ c.r < 8 ∧ c.l = 0) ∨ (c.k = 2 ∧ 0 ≤ c.l ∧ c.l < 3 ∧ c.t = 0 ∧ c.r = 0)) ∧ okV c.v
  | .un c t => c = ⟨3, 0, 0, 0, 0⟩ ∧ t.ok
  | .bi c l r => (c = ⟨4, 0, 0, 0, 0⟩ ∨ c = ⟨5, 0, 0, 0, 0⟩) ∧ l.ok ∧ r.ok
def lvl (k : Int) : Int := if k = 5 then 0 else if k = 4 then 1 else 2
def bkT (s : List UInt8) (l k : Int) : List UInt8 := if l < k then ([40] ++ s) ++ [41] else s
def brK (s : List Ky) (l k : Int) : List Ky := if l < k then (3, [40], 0) :: (s ++ [(3, [41], 0)]) else s
def txT (nf : Int → List UInt8) : Tre → List UInt8
  | .lf c => if c.k = 1 then (((Lib.itoa c.t ++ [58]) ++ nf c.r) ++ [61]) ++ Lib.itoa c.v else (Old.locN c.l.toNat ++ [61]) ++ Lib.itoa c.v
  | .un c t => [126] ++ bkT (txT nf t) (lvl t.c.k) 2
  | .bi c l r => if c.k = 4 then (bkT (txT nf l) (lvl l.c.k) 1 ++ [32, 47, 92, 32]) ++ bkT (txT nf r) (lvl r.c.k) 2 else (txT nf l ++ [32, 92, 47, 32]) ++ bkT (txT nf r) (lvl r.c.k) 1
def kxT (nf : Int → List UInt8) : Tre → List Ky
  | .lf c => if c.k = 1 then numK c.t ++ ((3, [58], 0) :: (1, nf c.r, 0) :: (3, [61], 0) :: numK c.v) else (1, Old.locN c.l.toNat, 0) :: (3, [61], 0) :: numK c.v
  | .un c t => (3, [126], 0) :: brK (kxT nf t) (lvl t.c.k) 2
  | .bi c l r => if c.k = 4 then brK (kxT nf l) (lvl l.c.k) 1 ++ ((3, [47, 92], 0) :: brK (kxT nf r) (lvl r.c.k) 2) else kxT nf l ++ ((3, [92, 47], 0) :: brK (kxT nf r) (lvl r.c.k) 1)
/-! ### The words -/
theorem lex_wordP {w r : List UInt8} {a : Nat} {ts : List Tk} {b : UInt8} {k n : Int} (hb : w[0]? = some b) (h1 : blkB b = false) (h2 : preB (w ++ r) [40, 42] = false) (hf : firstR (w ++ r) = (⟨k, w, n, 0⟩, 0)) (h : Lex r (a + w.length) ts) : Lex (w ++ r) a (⟨k, w, n, (a : Int)⟩ :: ts) := by
  intro l f ws hd ha hf2
  have hw : 0 < w.length := by
    cases w with
    | nil => cases hb
    | cons c w => exact Nat.succ_pos _
  have hb2 : (w ++ r)[0]? = some b := by rw [List.getElem?_append_left hw]; exact hb
  have hb3 : l[a]? = some b := by rw [← hd, List.getElem?_drop] at hb2; exact hb2
  have hlen := congrArg List.length hd
  rw [List.length_drop, List.length_append] at hlen
  have hs : skipL (l.drop a) = (0, false) := skip_word hb3 h1 (by rw [hd]; exact h2)
  obtain ⟨f, rfl⟩ : ∃ g, f = g + 1 := ⟨f - 1, by omega⟩
  have hz : a + (skipL (l.drop a)).1 = a := by rw [hs]; rfl
  have hfr : firstR (l.drop (a + (skipL (l.drop a)).1)) = (⟨k, w, n, 0⟩, 0) := by rw [hz, hd]; exact hf
  rw [tf_go (by rw [hs]) (by rw [hz]; omega) (by rw [hfr]), hfr, hz]
  have hd2 : l.drop (a + w.length) = r := by rw [← List.drop_drop, hd, List.drop_left]
  rw [h l f _ hd2 (by omega) (by omega)]
  simp
theorem pre_hd {b c : UInt8} {r q : List UInt8} (h : b ≠ c) : preB (b :: r) (c :: q) = false := by
  unfold preB
  rw [Bool.and_eq_false_iff]; right
  rw [List.length_cons, List.take_succ_cons]
  exact beq_eq_false_iff_ne.2 fun e => h (by injection e)
theorem lk_open {r : List UInt8} {ks : List Ky} (hr : ∀ b, r[0]? = some b → b ≠ 42) (h : LexK r ks) : LexK (40 :: r) ((3, [40], 0) :: ks) := fun a => by
  obtain ⟨ts, h1, h2⟩ := h (a + 1)
  have hp : preB (([40] : List UInt8) ++ r) [40, 42] = false := by
    cases r with
    | nil => rfl
    | cons c r =>
      unfold preB
      rw [Bool.and_eq_false_iff]; right
      refine beq_eq_false_iff_ne.2 fun e => hr c rfl ?_
      have e' : (40 : UInt8) :: [c] = [40, 42] := e
      injection e' with _ e2
      injection e2
  have hm : mkN (([40] : List UInt8) ++ r) = 1 := by
    unfold mkN
    have e1 : preB (([40] : List UInt8) ++ r) [47, 92] = false := pre_hd (by decide)
    have e2 : preB (([40] : List UInt8) ++ r) [92, 47] = false := pre_hd (by decide)
    rw [e1, e2]; rfl
  refine ⟨⟨3, [40], 0, (a : Int)⟩ :: ts, lex_wordP (w := [40]) rfl (by decide) hp ?_ h1, by rw [List.map_cons, h2]; rfl⟩
  rw [first_mark (b := 40) rfl (by decide) (by decide) (by rw [hm]; decide), hm]; rfl
theorem lk_two {x y : UInt8} {r : List UInt8} {ks : List Ky} (hx : (x = 47 ∧ y = 92) ∨ (x = 92 ∧ y = 47)) (h : LexK r ks) : LexK (x :: y :: r) ((3, [x, y], 0) :: ks) := fun a => by
  obtain ⟨ts, h1, h2⟩ := h (a + 2)
  refine ⟨⟨3, [x, y], 0, (a : Int)⟩ :: ts, ?_, by rw [List.map_cons, h2]; rfl⟩
  have hm : mkN ([x, y] ++ r) = 2 := by
    rcases hx with ⟨rfl, rfl⟩ | ⟨rfl, rfl⟩
    · exact mkN_two (pre_yes (by simp) (by simp))
    · exact mkN_two' (pre_yes (by simp) (by simp))
  have hq : blkB x = false ∧ digB x = false ∧ nbgB x = false ∧ x ≠ 40 := by rcases hx with ⟨rfl, rfl⟩ | ⟨rfl, rfl⟩ <;> decide
  refine lex_wordP (w := [x, y]) (b := x) rfl hq.1 (pre_hd hq.2.2.2) ?_ h1
  rw [first_mark (b := x) rfl hq.2.1 hq.2.2.1 (by rw [hm]; decide), hm]; rfl
def NoSt (l : List UInt8) : Prop := ∃ b r, l = b :: r ∧ b ≠ 42
theorem NoSt.app {l r : List UInt8} (h : NoSt l) : NoSt (l ++ r) := by obtain ⟨b, q, rfl, hb⟩ := h; exact ⟨b, q ++ r, rfl, hb⟩
theorem NoSt.at {l : List UInt8} (h : NoSt l) : ∀ b, l[0]? = some b → b ≠ 42 := fun c hc => by
  obtain ⟨b, q, rfl, hb⟩ := h
  have : b = c := by simpa using hc
  subst this; exact hb
theorem nost_nam {w : List UInt8} (h : Nam w) : NoSt w := by
  obtain ⟨c, hc, hn⟩ := h.b
  cases w with
  | nil => cases hc
  | cons b w =>
    have : b = c := by simpa using hc
    subst this
    exact ⟨b, w, rfl, fun e => by subst e; revert hn; decide⟩
theorem nost_dec (u : Nat) : NoSt (Lib.decDigits u) := by
  obtain ⟨ha, hne⟩ := dec_all u
  cases hw : Lib.decDigits u with
  | nil => exact absurd hw hne
  | cons c w =>
    rw [hw] at ha
    have hc := List.all_eq_true.1 ha c List.mem_cons_self
    exact ⟨c, w, rfl, fun e => by subst e; revert hc; decide⟩
theorem nost_itoa (n : Int) : NoSt (Lib.itoa n) := by
  unfold Lib.itoa
  split
  · exact ⟨45, _, rfl, by decide⟩
  · exact nost_dec _
def LkT (s : List UInt8) (K : List Ky) : Prop := ∀ r ks, sep r → LexK r ks → LexK (s ++ r) (K ++ ks)
theorem lk_brk {s : List UInt8} {K : List Ky} {l k : Int} (h : LkT s K) (hs : NoSt s) : LkT (bkT s l k) (brK K l k) ∧ NoSt (bkT s l k) := by
  unfold bkT brK
  by_cases hl : l < k
  · rw [if_pos hl, if_pos hl]
    refine ⟨fun r ks hr h1 => ?_, ⟨40, _, rfl, by decide⟩⟩
    have h2 : LexK (41 :: r) ((3, [41], 0) :: ks) := lk_mark (by decide) h1
    have h3 := h _ _ (sep_cons (by decide)) h2
    have h4 := lk_open (hs.app.at) h3
    simpa using h4
  · rw [if_neg hl, if_neg hl]; exact ⟨h, hs⟩
section
variable {nf : Int → List UInt8}
theorem lk_tree (hn : ∀ x, 0 ≤ x → x < 8 → Nam (nf x)) : ∀ t : Tre, t.ok → LkT (txT nf t) (kxT nf t) ∧ NoSt (txT nf t)
  | .lf c, h => by
    obtain ⟨h1, hv⟩ := h
    rcases h1 with h1 | h1
    · unfold txT kxT
      rw [if_pos h1.1, if_pos h1.1]
      refine ⟨fun r ks hr h2 => ?_, (((nost_itoa _).app.app).app).app⟩
      have a1 := lk_num hv hr h2
      have a2 := lk_mark (b := 61) (by decide) a1
      have a3 := lk_name (hn c.r (by omega) (by omega)) (sep_cons (by decide)) a2
      have a4 := lk_mark (b := 58) (by decide) a3
      have a5 := lk_num (n := c.t) (by omega) (sep_cons (by decide)) a4
      simpa using a5
    · unfold txT kxT
      rw [if_neg (by omega), if_neg (by omega)]
      obtain ⟨q1, q2⟩ := loc_cases (k := c.l) (by omega)
      refine ⟨fun r ks hr h2 => ?_, (nost_nam q1).app.app⟩
      have a1 := lk_num hv hr h2
      have a2 := lk_mark (b := 61) (by decide) a1
      have a3 := lk_name q1 (sep_cons (by decide)) a2
      simpa using a3
  | .un c t, h => by
    obtain ⟨a, b⟩ := lk_tree hn t h.2
    obtain ⟨a1, b1⟩ := lk_brk (l := lvl t.c.k) (k := 2) a b
    unfold txT kxT
    refine ⟨fun r ks hr h2 => ?_, ⟨126, _, rfl, by decide⟩⟩
    exact lk_mark (b := 126) (by decide) (a1 r ks hr h2)
  | .bi c l r, h => by
    obtain ⟨a, b⟩ := lk_tree hn l h.2.1
    obtain ⟨a', b'⟩ := lk_tree hn r h.2.2
    unfold txT kxT
    by_cases h4 : c.k = 4
    · rw [if_pos h4, if_pos h4]
      obtain ⟨a1, b1⟩ := lk_brk (l := lvl l.c.k) (k := 1) a b
      obtain ⟨a2, b2⟩ := lk_brk (l := lvl r.c.k) (k := 2) a' b'
      refine ⟨fun q ks hr h2 => ?_, b1.app.app⟩
      have c1 := lk_blank (a2 q ks hr h2)
      have c2 := lk_blank (lk_two (x := 47) (y := 92) (.inl ⟨rfl, rfl⟩) c1)
      have c3 := a1 _ _ (sep_cons (by decide)) c2
      simpa using c3
    · rw [if_neg h4, if_neg h4]
      obtain ⟨a2, b2⟩ := lk_brk (l := lvl r.c.k) (k := 1) a' b'
      refine ⟨fun q ks hr h2 => ?_, b.app.app⟩
      have c1 := lk_blank (a2 q ks hr h2)
      have c2 := lk_blank (lk_two (x := 92) (y := 47) (.inr ⟨rfl, rfl⟩) c1)
      have c3 := a _ _ (sep_cons (by decide)) c2
      simpa using c3
end
/-! ### How they are read -/
theorem At.app {ws : List Tk} {p : Nat} : ∀ {K rest : List Ky}, At ws p (K ++ rest) → At ws (p + K.length) rest
  | [], rest, h => h
  | k :: K, rest, h => by
    have := At.app (K := K) (rest := rest) h.tl
    rw [List.length_cons, show p + (K.length + 1) = p + 1 + K.length by omega]; exact this
theorem At.lt {ws : List Tk} {p : Nat} {k : Ky} {ks : List Ky} (h : At ws p (k :: ks)) : p < ws.length := by
  obtain ⟨y, h1, _⟩ := h.hd
  exact (List.getElem?_eq_some_iff.1 h1).1
theorem At.get {ws : List Tk} {p : Nat} {k : Ky} {ks : List Ky} (h : At ws p (k :: ks)) : (ws.getD p tok0).kind = k.1 ∧ (ws.getD p tok0).text = k.2.1 ∧ (ws.getD p tok0).n = k.2.2 := by
  obtain ⟨y, h1, h2, h3, h4, _⟩ := h.hd
  rw [List.getD_eq_getElem?_getD, h1]; exact ⟨h2, h3, h4⟩
def NoM (m : List UInt8) (ks : List Ky) : Prop := ∀ k r, ks = k :: r → k.2.1 ≠ m ∨ k.1 = 2
theorem tk_y {ws : List Tk} {p : Nat} {m : List UInt8} {n : Int} {ks : List Ky} (h : At ws p ((3, m, n) :: ks)) : tkB ws p m = true := by
  obtain ⟨h1, h2, _⟩ := h.get
  unfold tkB
  rw [h1, h2, decide_eq_true h.lt]; simp
theorem tk_n {ws : List Tk} {p : Nat} {m : List UInt8} {ks : List Ky} (h : At ws p ks) (hm : NoM m ks) : tkB ws p m = false := by
  cases ks with
  | nil =>
    have h1 := h.no
    have : ¬ p < ws.length := fun hp => by rw [List.getElem?_eq_getElem hp] at h1; cases h1
    unfold tkB; rw [decide_eq_false this]; rfl
  | cons k r =>
    obtain ⟨h1, h2, _⟩ := h.get
    unfold tkB
    rw [h1, h2]
    rcases hm k r rfl with e | e
    · rw [beq_eq_false_iff_ne.2 e]; simp
    · rw [e]; simp
section
variable {rf : List UInt8 → Int} {nf : Int → List UInt8}
abbrev MA : List UInt8 := [47, 92]
abbrev MO : List UInt8 := [92, 47]
def RdN (rf : List UInt8 → Int) (K : List Ky) (rows : List Cn) : Prop := ∀ F, K.length ≤ F → ∀ ws p a ns rest, At ws p (K ++ rest) → noF rf ws F ⟨0, a, p⟩ ns = (⟨0, a, p + K.length⟩, ns ++ rows)
def RdA (rf : List UInt8 → Int) (K : List Ky) (rows : List Cn) : Prop := ∀ F, K.length ≤ F → ∀ ws p a ns rest, At ws p (K ++ rest) → ∃ g, ws.length - (p + K.length) < g ∧ anF ws (noF rf ws F) ⟨0, a, p⟩ ns = loR ws MA 4 (noF rf ws F) g ⟨0, a, p + K.length⟩ (ns ++ rows)
def RdO (rf : List UInt8 → Int) (K : List Ky) (rows : List Cn) : Prop := ∀ F, K.length ≤ F → ∀ ws p a ns rest, At ws p (K ++ rest) → NoM MA rest → ∃ g, ws.length - (p + K.length) < g ∧ orF ws (noF rf ws F) ⟨0, a, p⟩ ns = loR ws MO 5 (anF ws (noF rf ws F)) g ⟨0, a, p + K.length⟩ (ns ++ rows)
theorem lo_stop {ws : List Tk} {m : List UInt8} {k : Int} {f : Old.Rs → List Cn → Old.Rs × List Cn} {g p : Nat} {a : Int} {ns : List Cn} {rest : List Ky} (h : At ws p rest) (hm : NoM m rest) (hg : 0 < g) : loR ws m k f g ⟨0, a, p⟩ ns = (⟨0, a, p⟩, ns) := by
  obtain ⟨g, rfl⟩ : ∃ q, g = q + 1 := ⟨g - 1, by omega⟩
  have := tk_n h hm
  rw [loR, if_pos rfl, if_neg (by show ¬ tkB ws p m = true; rw [this]; decide), tkK_n this]
theorem RdN.toA {K : List Ky} {rows : List Cn} (h : RdN rf K rows) : RdA rf K rows := fun F hF ws p a ns rest hA =>
  ⟨ws.length + 1, by omega, by unfold anF joR; rw [h F hF ws p a ns rest hA]⟩
theorem RdA.fin {K : List Ky} {rows : List Cn} (h : RdA rf K rows) {F : Nat} (hF : K.length ≤ F) {ws : List Tk} {p : Nat} {a : Int} {ns : List Cn} {rest : List Ky} (hA : At ws p (K ++ rest)) (hm : NoM MA rest) : anF ws (noF rf ws F) ⟨0, a, p⟩ ns = (⟨0, a, p + K.length⟩, ns ++ rows) := by
  obtain ⟨g, h1, h2⟩ := h F hF ws p a ns rest hA
  rw [h2, lo_stop hA.app hm (by omega)]
theorem RdA.toO {K : List Ky} {rows : List Cn} (h : RdA rf K rows) : RdO rf K rows := fun F hF ws p a ns rest hA hm =>
  ⟨ws.length + 1, by omega, by unfold orF joR; rw [h.fin hF hA hm]⟩
theorem RdO.fin {K : List Ky} {rows : List Cn} (h : RdO rf K rows) {F : Nat} (hF : K.length ≤ F) {ws : List Tk} {p : Nat} {a : Int} {ns : List Cn} {rest : List Ky} (hA : At ws p (K ++ rest)) (hm : NoM MA rest) (hm2 : NoM MO rest) : orF ws (noF rf ws F) ⟨0, a, p⟩ ns = (⟨0, a, p + K.length⟩, ns ++ rows) := by
  obtain ⟨g, h1, h2⟩ := h F hF ws p a ns rest hA hm
  rw [h2, lo_stop hA.app hm2 (by omega)]
theorem nom_cons {m : List UInt8} {k : Ky} {r : List Ky} (h : k.2.1 ≠ m ∨ k.1 = 2) : NoM m (k :: r) := fun k' r' e => by injection e with e1 e2; subst e1; exact h
theorem nom_nil {m : List UInt8} : NoM m [] := fun k' r' e => by cases e
theorem RdO.brk {K : List Ky} {rows : List Cn} (h : RdO rf K rows) : RdN rf ((3, [40], 0) :: (K ++ [(3, [41], 0)])) rows := by
  intro F hF ws p a ns rest hA
  simp only [List.length_cons, List.length_append, List.length_nil] at hF
  obtain ⟨F, rfl⟩ : ∃ G, F = G + 1 := ⟨F - 1, by omega⟩
  have h1 : At ws p ((3, [40], 0) :: (K ++ ((3, [41], 0) :: rest))) := by simpa using hA
  have h2 := h1.tl
  have t1 : tkB ws p [126] = false := tk_n h1 (nom_cons (.inl (by decide)))
  have t2 : tkB ws p [40] = true := tk_y h1
  have e := h.fin (F := F) (by omega) (a := a) (ns := ns) h2 (nom_cons (.inl (by decide))) (nom_cons (.inl (by decide)))
  have t3 : tkB ws (tkK ws p [126]) [40] = true := by rw [tkK_n t1]; exact t2
  show noR rf ws (noF rf ws F) (orF ws (noF rf ws F)) ⟨0, a, p⟩ ns = _
  rw [no_2 rfl t1 t3]
  have e2 : tkK ws (tkK ws p [126]) [40] = p + 1 := by rw [tkK_n t1, tkK_y t2]
  show (Old.markR ws [41] (orF ws (noF rf ws F) ⟨0, a, tkK ws (tkK ws p [126]) [40]⟩ ns).1, (orF ws (noF rf ws F) ⟨0, a, tkK ws (tkK ws p [126]) [40]⟩ ns).2) = _
  rw [e2, e]
  show (Old.markR ws [41] ⟨0, a, p + 1 + K.length⟩, ns ++ rows) = _
  rw [g_mark h2.app]
  simp only [List.length_cons, List.length_append, List.length_nil]
  rw [show p + 1 + K.length + 1 = p + (K.length + (0 + 1) + 1) by omega]
theorem RdN.not {K : List Ky} {rows : List Cn} (h : RdN rf K rows) : RdN rf ((3, [126], 0) :: K) (rows ++ [⟨3, 0, 0, 0, 0⟩]) := by
  intro F hF ws p a ns rest hA
  simp only [List.length_cons] at hF
  obtain ⟨F, rfl⟩ : ∃ G, F = G + 1 := ⟨F - 1, by omega⟩
  have h1 : At ws p ((3, [126], 0) :: (K ++ rest)) := hA
  have t1 : tkB ws p [126] = true := tk_y h1
  have e := h F (by omega) ws (p + 1) a ns rest h1.tl
  show noR rf ws (noF rf ws F) (orF ws (noF rf ws F)) ⟨0, a, p⟩ ns = _
  rw [no_1 rfl t1]
  show ((noF rf ws F ⟨0, a, tkK ws p [126]⟩ ns).1, putN (noF rf ws F ⟨0, a, tkK ws p [126]⟩ ns).1 (noF rf ws F ⟨0, a, tkK ws p [126]⟩ ns).2 ⟨3, 0, 0, 0, 0⟩) = _
  rw [tkK_y t1, e]
  show ((⟨0, a, p + 1 + K.length⟩ : Old.Rs), putN ⟨0, a, p + 1 + K.length⟩ (ns ++ rows) ⟨3, 0, 0, 0, 0⟩) = _
  rw [putN_y rfl, List.append_assoc, List.length_cons, show p + 1 + K.length = p + (K.length + 1) by omega]
theorem lo_go {ws : List Tk} {m : List UInt8} {k : Int} {f : Old.Rs → List Cn → Old.Rs × List Cn} {g p q : Nat} {a : Int} {ns rb : List Cn} {n : Int} {ks : List Ky} (h : At ws p ((3, m, n) :: ks)) (hg : ws.length - p < g) (hf : f ⟨0, a, p + 1⟩ ns = (⟨0, a, q⟩, ns ++ rb)) (hq : p + 1 ≤ q) : ∃ g', ws.length - q < g' ∧ loR ws m k f g ⟨0, a, p⟩ ns = loR ws m k f g' ⟨0, a, q⟩ (ns ++ (rb ++ [⟨k, 0, 0, 0, 0⟩])) := by
  obtain ⟨g, rfl⟩ : ∃ z, g = z + 1 := ⟨g - 1, by omega⟩
  have hl := h.lt
  have t1 := tk_y h
  refine ⟨g, by omega, ?_⟩
  rw [loR, if_pos rfl, if_pos (by exact t1)]
  show loR ws m k f g (f ⟨0, a, tkK ws p m⟩ ns).1 (putN (f ⟨0, a, tkK ws p m⟩ ns).1 (f ⟨0, a, tkK ws p m⟩ ns).2 ⟨k, 0, 0, 0, 0⟩) = _
  rw [tkK_y t1, hf]
  show loR ws m k f g ⟨0, a, q⟩ (putN ⟨0, a, q⟩ (ns ++ rb) ⟨k, 0, 0, 0, 0⟩) = _
  rw [putN_y rfl, List.append_assoc]
theorem RdA.and {K K2 : List Ky} {rows r2 : List Cn} (h : RdA rf K rows) (h2 : RdN rf K2 r2) : RdA rf (K ++ ((3, MA, 0) :: K2)) (rows ++ r2 ++ [⟨4, 0, 0, 0, 0⟩]) := by
  intro F hF ws p a ns rest hA
  simp only [List.length_cons, List.length_append] at hF
  have hA' : At ws p (K ++ ((3, MA, 0) :: (K2 ++ rest))) := by simpa using hA
  obtain ⟨g, g1, g2⟩ := h F (by omega) ws p a ns _ hA'
  have hB := hA'.app
  have e := h2 F (by omega) ws (p + K.length + 1) a (ns ++ rows) rest hB.tl
  obtain ⟨g', k1, k2⟩ := lo_go (k := 4) (f := noF rf ws F) hB g1 e (by omega)
  refine ⟨g', ?_, ?_⟩
  · simp only [List.length_cons, List.length_append]; omega
  · rw [g2, k2]
    simp only [List.length_cons, List.length_append, List.append_assoc]
    rw [show p + K.length + 1 + K2.length = p + (K.length + (K2.length + 1)) by omega]
theorem RdO.or {K K2 : List Ky} {rows r2 : List Cn} (h : RdO rf K rows) (h2 : RdA rf K2 r2) : RdO rf (K ++ ((3, MO, 0) :: K2)) (rows ++ r2 ++ [⟨5, 0, 0, 0, 0⟩]) := by
  intro F hF ws p a ns rest hA hm
  simp only [List.length_cons, List.length_append] at hF
  have hA' : At ws p (K ++ ((3, MO, 0) :: (K2 ++ rest))) := by simpa using hA
  obtain ⟨g, g1, g2⟩ := h F (by omega) ws p a ns _ hA' (nom_cons (.inl (by decide)))
  have hB := hA'.app
  have e := h2.fin (F := F) (by omega) (a := a) (ns := ns ++ rows) hB.tl hm
  obtain ⟨g', k1, k2⟩ := lo_go (k := 5) (f := anF ws (noF rf ws F)) hB g1 e (by omega)
  refine ⟨g', ?_, ?_⟩
  · simp only [List.length_cons, List.length_append]; omega
  · rw [g2, k2]
    simp only [List.length_cons, List.length_append, List.append_assoc]
    rw [show p + K.length + 1 + K2.length = p + (K.length + (K2.length + 1)) by omega]
theorem noF_at {ws : List Tk} {F p : Nat} {a : Int} {ns : List Cn} {ks : List Ky} (h : At ws p ks) (h1 : NoM [126] ks) (h2 : NoM [40] ks) : noF rf ws (F + 1) ⟨0, a, p⟩ ns = atZ rf ws ⟨0, a, p⟩ ns := by
  have t1 : tkB ws p [126] = false := tk_n h h1
  have t2 : tkB ws p [40] = false := tk_n h h2
  have e : tkK ws (tkK ws p [126]) [40] = p := by rw [tkK_n t1, tkK_n t2]
  show noR rf ws (noF rf ws F) (orF ws (noF rf ws F)) ⟨0, a, p⟩ ns = _
  unfold noR
  rw [if_pos rfl, if_neg (by show ¬ tkB ws p [126] = true; rw [t1]; decide), if_neg (by show ¬ tkB ws (tkK ws p [126]) [40] = true; rw [tkK_n t1, t2]; decide)]
  show atZ rf ws ⟨0, a, tkK ws (tkK ws p [126]) [40]⟩ ns = _
  rw [e]
theorem nxK_at {ws : List Tk} {p : Nat} {k : Ky} {ks : List Ky} (h : At ws p (k :: ks)) : nxK ws p = p + 1 := by unfold nxK; rw [if_pos h.lt]
theorem numK_pos {n : Int} (h : 0 ≤ n) : numK n = [(2, Lib.decDigits n.toNat, IntKind.wrap .i64 (n.toNat : Int))] := by unfold numK; rw [if_neg (by omega)]
theorem rd_reg (hrf : ∀ x, 0 ≤ x → x < 8 → rf (nf x) = x) {c : Cn} (hk : c.k = 1) (ht : 0 ≤ c.t ∧ c.t < 3) (hr : 0 ≤ c.r ∧ c.r < 8) (hl : c.l = 0) (hv : okV c.v) : RdN rf (numK c.t ++ ((3, [58], 0) :: (1, nf c.r, 0) :: (3, [61], 0) :: numK c.v)) [c] := by
  intro F hF ws p a ns rest hA
  have hw : IntKind.wrap .i64 ((c.t.toNat : Nat) : Int) = c.t := by rw [wrap_small (by omega)]; omega
  rw [numK_pos ht.1, hw] at hA hF ⊢
  have h1 : At ws p ((2, Lib.decDigits c.t.toNat, c.t) :: (3, [58], 0) :: (1, nf c.r, 0) :: (3, [61], 0) :: (numK c.v ++ rest)) := by simpa using hA
  obtain ⟨F, rfl⟩ : ∃ G, F = G + 1 := ⟨F - 1, by simp only [List.length_append, List.length_cons] at hF; omega⟩
  rw [noF_at h1 (nom_cons (.inr rfl)) (nom_cons (.inr rfl))]
  obtain ⟨q1, q2, q3⟩ := h1.get
  have n1 : nxK ws p = p + 1 := nxK_at h1
  have r1 : atR rf ws ⟨0, a, p⟩ = (⟨0, a, p + 1 + 1 + 1⟩, c.r) := by
    unfold atR
    show regG rf ws (Old.markR ws [58] ⟨0, a, nxK ws p⟩) = _
    rw [n1, g_mark h1.tl, g_reg h1.tl.tl (by rw [hrf c.r hr.1 hr.2]; omega), hrf c.r hr.1 hr.2]
  obtain ⟨e1, e2⟩ := g_num (a := a) hv h1.tl.tl.tl.tl
  have r2 : atV rf ws ⟨0, a, p⟩ = (⟨0, a, p + 1 + 1 + 1 + 1 + (numK c.v).length⟩, c.v) := by
    unfold atV
    rw [r1]
    show Old.numS ws (Old.markR ws [61] ⟨0, a, p + 1 + 1 + 1⟩) = _
    rw [g_mark h1.tl.tl.tl]; exact e1
  unfold atZ
  rw [if_pos (by show (decide (p < ws.length) && ((ws.getD p tok0).kind == 2)) = true; rw [q1, decide_eq_true h1.lt]; rfl), if_neg (by show ¬ (decide ((ws.getD p tok0).n < 0) || decide ((ws.getD p tok0).n > 2)) = true; rw [q3]; simp only [Bool.or_eq_true, decide_eq_true_eq]; show ¬ (c.t < 0 ∨ c.t > 2); omega), r1, r2]
  show ((⟨0, a, _⟩ : Old.Rs), putN ⟨0, a, _⟩ ns ⟨1, (ws.getD p tok0).n, c.r, 0, c.v⟩) = _
  rw [putN_y rfl, q3]
  have ec : (⟨1, c.t, c.r, 0, c.v⟩ : Cn) = c := by rw [← hk, ← hl]
  show ((⟨0, a, _⟩ : Old.Rs), ns ++ [(⟨1, c.t, c.r, 0, c.v⟩ : Cn)]) = _
  rw [ec]
  simp only [List.length_append, List.length_cons, List.length_nil]
  rw [show p + 1 + 1 + 1 + 1 + (numK c.v).length = p + (0 + 1 + ((numK c.v).length + 1 + 1 + 1)) by omega]
theorem rd_loc {c : Cn} (hk : c.k = 2) (hl : 0 ≤ c.l ∧ c.l < 3) (ht : c.t = 0) (hr : c.r = 0) (hv : okV c.v) : RdN rf ((1, Old.locN c.l.toNat, 0) :: (3, [61], 0) :: numK c.v) [c] := by
  intro F hF ws p a ns rest hA
  have h1 : At ws p ((1, Old.locN c.l.toNat, 0) :: (3, [61], 0) :: (numK c.v ++ rest)) := hA
  obtain ⟨l1, l2⟩ := loc_cases (k := c.l) (by omega)
  obtain ⟨F, rfl⟩ : ∃ G, F = G + 1 := ⟨F - 1, by simp only [List.length_cons] at hF; omega⟩
  have ne : ∀ b : UInt8, nbgB b = false → Old.locN c.l.toNat ≠ [b] := fun b hb e => by
    obtain ⟨d, hd, hn⟩ := l1.b
    rw [e] at hd
    have : b = d := by simpa using hd
    subst this
    rw [hn] at hb; cases hb
  rw [noF_at h1 (nom_cons (.inl (ne 126 (by decide)))) (nom_cons (.inl (ne 40 (by decide))))]
  obtain ⟨q1, q2, q3⟩ := h1.get
  have n1 : nxK ws p = p + 1 := nxK_at h1
  obtain ⟨e1, e2⟩ := g_num (a := a) hv h1.tl.tl
  have r2 : atL ws ⟨0, a, p⟩ = (⟨0, a, p + 1 + 1 + (numK c.v).length⟩, c.v) := by
    unfold atL
    show Old.numS ws (Old.markR ws [61] ⟨0, a, nxK ws p⟩) = _
    rw [n1, g_mark h1.tl]; exact e1
  unfold atZ
  rw [if_neg (by show ¬ (decide (p < ws.length) && ((ws.getD p tok0).kind == 2)) = true; rw [q1]; simp), if_pos (by show ((decide (p < ws.length) && ((ws.getD p tok0).kind == 1)) && decide (Old.locF (ws.getD p tok0).text ≥ 0)) = true; rw [q1, q2, decide_eq_true h1.lt, l2, decide_eq_true hl.1]; rfl), r2]
  show ((⟨0, a, _⟩ : Old.Rs), putN ⟨0, a, _⟩ ns ⟨2, 0, 0, Old.locF (ws.getD p tok0).text, c.v⟩) = _
  rw [putN_y rfl, q2, l2]
  have ec : (⟨2, 0, 0, c.l, c.v⟩ : Cn) = c := by rw [← hk, ← ht]; congr 1; rw [hr, ht]
  rw [ec]
  simp only [List.length_cons]
  rw [show p + 1 + 1 + (numK c.v).length = p + ((numK c.v).length + 1 + 1) by omega]
structure LvT (rf : List UInt8 → Int) (k : Int) (K : List Ky) (rows : List Cn) : Prop where
  o : RdO rf K rows
  a : k ≠ 5 → RdA rf K rows
  n : k ≠ 5 → k ≠ 4 → RdN rf K rows
theorem LvT.b2 {k : Int} {K : List Ky} {rows : List Cn} (h : LvT rf k K rows) : RdN rf (brK K (lvl k) 2) rows := by
  unfold brK lvl
  by_cases h5 : k = 5
  · rw [if_pos h5, if_pos (by decide)]; exact h.o.brk
  · by_cases h4 : k = 4
    · rw [if_neg h5, if_pos h4, if_pos (by decide)]; exact h.o.brk
    · rw [if_neg h5, if_neg h4, if_neg (by decide)]; exact h.n h5 h4
theorem LvT.b1 {k : Int} {K : List Ky} {rows : List Cn} (h : LvT rf k K rows) : RdA rf (brK K (lvl k) 1) rows := by
  unfold brK lvl
  by_cases h5 : k = 5
  · rw [if_pos h5, if_pos (by decide)]; exact h.o.brk.toA
  · by_cases h4 : k = 4
    · rw [if_neg h5, if_pos h4, if_neg (by decide)]; exact h.a h5
    · rw [if_neg h5, if_neg h4, if_neg (by decide)]; exact h.a h5
theorem rd_tree (hrf : ∀ x, 0 ≤ x → x < 8 → rf (nf x) = x) : ∀ t : Tre, t.ok → LvT rf t.c.k (kxT nf t) t.rows
  | .lf c, h => by
    have : RdN rf (kxT nf (.lf c)) [c] := by
      unfold kxT
      rcases h.1 with h1 | h1
      · rw [if_pos h1.1]; exact rd_reg hrf h1.1 ⟨h1.2.1, h1.2.2.1⟩ ⟨h1.2.2.2.1, h1.2.2.2.2.1⟩ h1.2.2.2.2.2 h.2
      · rw [if_neg (by omega)]; exact rd_loc h1.1 ⟨h1.2.1, h1.2.2.1⟩ h1.2.2.2.1 h1.2.2.2.2 h.2
    exact ⟨this.toA.toO, fun _ => this.toA, fun _ _ => this⟩
  | .un c t, h => by
    obtain ⟨h1, h2⟩ := h
    subst h1
    have : RdN rf (kxT nf (.un ⟨3, 0, 0, 0, 0⟩ t)) (Tre.un ⟨3, 0, 0, 0, 0⟩ t).rows := (rd_tree hrf t h2).b2.not
    exact ⟨this.toA.toO, fun _ => this.toA, fun _ _ => this⟩
  | .bi c l r, h => by
    obtain ⟨h1, h2, h3⟩ := h
    have hl := rd_tree hrf l h2
    have hr := rd_tree hrf r h3
    rcases h1 with h1 | h1
    · subst h1
      have : RdA rf (kxT nf (.bi ⟨4, 0, 0, 0, 0⟩ l r)) (Tre.bi ⟨4, 0, 0, 0, 0⟩ l r).rows := hl.b1.and hr.b2
      exact ⟨this.toO, fun _ => this, fun _ h4 => absurd rfl h4⟩
    · subst h1
      have : RdO rf (kxT nf (.bi ⟨5, 0, 0, 0, 0⟩ l r)) (Tre.bi ⟨5, 0, 0, 0, 0⟩ l r).rows := hl.o.or hr.b1
      exact ⟨this, fun h5 => absurd rfl h5, fun h5 => absurd rfl h5⟩
theorem rd_back (hrf : ∀ x, 0 ≤ x → x < 8 → rf (nf x) = x) {t : Tre} (ht : t.ok) {ws : List Tk} (hw : ws.map key = kxT nf t) : rpS rf ws = ⟨0, 0, ws.length⟩ ∧ rpN rf ws = t.rows := by
  have hl : ws.length = (kxT nf t).length := by rw [← hw, List.length_map]
  have hA : At ws 0 (kxT nf t ++ []) := by unfold At; rw [List.drop_zero, List.append_nil]; exact hw
  have e := (rd_tree hrf t ht).o.fin (F := ws.length + 1) (by omega) (a := 0) (ns := []) hA nom_nil nom_nil
  have e2 : rpZ rf ws = (⟨0, 0, ws.length⟩, t.rows) := by unfold rpZ; rw [e, hl, Nat.zero_add, List.nil_append]
  refine ⟨?_, ?_⟩
  · unfold rpS; rw [e2, if_neg (by show ¬ ws.length < ws.length; omega)]
  · unfold rpN; rw [e2]
end
section
variable {ws : List Tk} {s : Old.Rs} {m : List UInt8} {u : Bool} {rf : List UInt8 → Int} {k : Int} {f : Old.Rs → List Cn → Old.Rs × List Cn} {b : Nat}
theorem failNe {e a : Int} (he : e ≠ 0) : (Old.failR s e a).e ≠ 0 := by
  unfold Old.failR
  split
  · exact he
  · next h => exact fun q => h (beq_iff_eq.2 q)
theorem oddNe : (Old.oddR ws u s).e ≠ 0 := by
  unfold Old.oddR
  split
  · exact failNe (by decide)
  · split <;> exact failNe (by decide)
theorem mark_0 (h : (Old.markR ws m s).e = 0) : s.e = 0 := by
  unfold Old.markR at h
  split at h
  · next q => exact eq_of_beq q
  · exact h
theorem num_0 (h : (Old.numS ws s).1.e = 0) : s.e = 0 := by
  unfold Old.numS at h
  split at h
  · next q => exact eq_of_beq q
  · exact h
theorem reg_0 (h : (regG rf ws s).1.e = 0) : s.e = 0 ∧ 0 ≤ (regG rf ws s).2 ∧ ∃ q, (regG rf ws s).2 = rf q := by
  unfold regG at h ⊢
  by_cases hs : (s.e == 0) = true
  · rw [if_pos hs] at h ⊢
    cases hy : ws[s.p]? with
    | none => simp only [hy] at h; exact absurd h oddNe
    | some y =>
      simp only [hy] at h ⊢
      by_cases hc : (y.kind == 1 && !decide (rf y.text < 0)) = true
      · rw [if_pos hc] at h ⊢
        refine ⟨eq_of_beq hs, ?_, y.text, rfl⟩
        rw [Bool.and_eq_true] at hc
        have := hc.2
        simp only [Bool.not_eq_true', decide_eq_false_iff_not] at this
        show 0 ≤ rf y.text
        omega
      · rw [if_neg hc] at h; exact absurd h oddNe
  · rw [if_neg hs] at h; exact absurd (beq_iff_eq.2 h) hs
def GoodT (ws : List Tk) (b : Nat) (f : Old.Rs → List Cn → Old.Rs × List Cn) : Prop := ∀ s ns, b ≤ s.p → s.p ≤ ws.length → (f s ns).1.e = 0 → s.e = 0 ∧ ∃ t : Tre, t.ok ∧ (f s ns).2 = ns ++ t.rows
theorem lo_e {g : Nat} {ns : List Cn} (h : (loR ws m k f g s ns).1.e = 0) : s.e = 0 := by
  cases g with
  | zero => exact h
  | succ g =>
    by_cases hs : s.e = 0
    · exact hs
    · rw [loR, if_neg hs] at h; exact h
theorem lo_t (hk : k = 4 ∨ k = 5) (hf : GoodT ws b f) (hg : Gdf ws f) : ∀ (g : Nat) (s : Old.Rs) (ns0 : List Cn) (t : Tre), b ≤ s.p → s.p ≤ ws.length → t.ok → (loR ws m k f g s (ns0 ++ t.rows)).1.e = 0 → ∃ t' : Tre, t'.ok ∧ (loR ws m k f g s (ns0 ++ t.rows)).2 = ns0 ++ t'.rows
  | 0, s, ns0, t, _, _, ht, _ => ⟨t, ht, rfl⟩
  | g + 1, s, ns0, t, hb, hp, ht, h => by
    have hs := lo_e h
    rw [loR, if_pos hs] at h ⊢
    by_cases hm : tkB ws s.p m = true
    · rw [if_pos hm] at h ⊢
      have hl := tk_lt hm
      have hq : (⟨s.e, s.a, tkK ws s.p m⟩ : Old.Rs).p ≤ ws.length := tkK_le hp
      have hbq : b ≤ (⟨s.e, s.a, tkK ws s.p m⟩ : Old.Rs).p := by show b ≤ tkK ws s.p m; rw [tkK_y hm]; omega
      have he := lo_e h
      obtain ⟨_, t2, k1, k2⟩ := hf _ _ hbq hq he
      obtain ⟨p1, p2, _⟩ := hg _ (ns0 ++ t.rows) hq
      have hput : putN (f ⟨s.e, s.a, tkK ws s.p m⟩ (ns0 ++ t.rows)).1 (f ⟨s.e, s.a, tkK ws s.p m⟩ (ns0 ++ t.rows)).2 ⟨k, 0, 0, 0, 0⟩ = ns0 ++ (Tre.bi ⟨k, 0, 0, 0, 0⟩ t t2).rows := by
        rw [putN_y he, k2, Tre.rows]; simp
      rw [hput] at h ⊢
      exact lo_t hk hf hg g _ ns0 _ (Nat.le_trans hbq p1) p2 ⟨by rcases hk with rfl | rfl; exact .inl rfl; exact .inr rfl, ht, k1⟩ h
    · rw [if_neg hm]; exact ⟨t, ht, rfl⟩
theorem jo_t (hk : k = 4 ∨ k = 5) (hf : GoodT ws b f) (hg : Gdf ws f) : GoodT ws b (joR ws m k f) := fun s ns hb hp h => by
  unfold joR at h ⊢
  have he := lo_e h
  obtain ⟨h0, t, k1, k2⟩ := hf s ns hb hp he
  obtain ⟨p1, p2, _⟩ := hg s ns hp
  rw [k2] at h ⊢
  exact ⟨h0, lo_t hk hf hg _ _ ns t (Nat.le_trans hb p1) p2 k1 h⟩
theorem or_t (hf : GoodT ws b f) (hg : Gdf ws f) : GoodT ws b (orF ws f) := jo_t (.inr rfl) (jo_t (.inl rfl) hf hg) (jo_gd hg)
theorem at_t (hW : ∀ t ∈ ws, TkW t) (h8 : ∀ q, rf q < 8) : GoodT ws b (atZ rf ws) := fun s ns hb hp h => by
  unfold atZ at h ⊢
  by_cases h1 : (decide (s.p < ws.length) && ((ws.getD s.p tok0).kind == 2)) = true
  · rw [if_pos h1] at h ⊢
    by_cases h2 : (decide ((ws.getD s.p tok0).n < 0) || decide ((ws.getD s.p tok0).n > 2)) = true
    · rw [if_pos h2] at h; exact absurd h (failNe (by decide))
    · rw [if_neg h2] at h ⊢
      simp only [Bool.or_eq_true, decide_eq_true_eq, not_or] at h2
      have e1 := num_0 h
      have e2 := mark_0 e1
      obtain ⟨e3, e4, q, e5⟩ := reg_0 e2
      have e6 := mark_0 e3
      have r8 := h8 q
      rw [← e5] at r8
      refine ⟨e6, .lf ⟨1, (ws.getD s.p tok0).n, (atR rf ws s).2, 0, (atV rf ws s).2⟩, ⟨.inl ⟨rfl, by show 0 ≤ (ws.getD s.p tok0).n; omega, by show (ws.getD s.p tok0).n < 3; omega, e4, r8, rfl⟩, num_rng2 hW⟩, ?_⟩
      exact putN_y h
  · rw [if_neg h1] at h ⊢
    by_cases h2 : ((decide (s.p < ws.length) && ((ws.getD s.p tok0).kind == 1)) && decide (Old.locF (ws.getD s.p tok0).text ≥ 0)) = true
    · rw [if_pos h2] at h ⊢
      have e1 := num_0 h
      have e2 := mark_0 e1
      rw [Bool.and_eq_true] at h2
      have hl := of_decide_eq_true h2.2
      have hl3 : Old.locF (ws.getD s.p tok0).text < 3 := by
        unfold Old.locF
        generalize (ws.getD s.p tok0).text = q
        show Old.idxL [_, _, _] q 0 < 3
        unfold Old.idxL; split; decide
        unfold Old.idxL; split; decide
        unfold Old.idxL; split; decide
        unfold Old.idxL; decide
      refine ⟨e2, .lf ⟨2, 0, 0, Old.locF (ws.getD s.p tok0).text, (atL ws s).2⟩, ⟨.inr ⟨rfl, hl, hl3, rfl, rfl⟩, num_rng2 hW⟩, ?_⟩
      exact putN_y h
    · rw [if_neg h2] at h
      split at h
      · exact absurd h (failNe (by decide))
      · split at h <;> exact absurd h (failNe (by decide))
theorem no_t (hW : ∀ t ∈ ws, TkW t) (h8 : ∀ q, rf q < 8) : ∀ (F b : Nat), ws.length - b < F → GoodT ws b (noF rf ws F)
  | 0, b, hF => by omega
  | F + 1, b, hF => fun s ns hb hp h => by
    show s.e = 0 ∧ _
    have h' : (noR rf ws (noF rf ws F) (orF ws (noF rf ws F)) s ns).1.e = 0 := h
    by_cases hs : s.e = 0
    · refine ⟨hs, ?_⟩
      show ∃ t : Tre, t.ok ∧ (noR rf ws (noF rf ws F) (orF ws (noF rf ws F)) s ns).2 = _
      by_cases h1 : tkB ws s.p [126] = true
      · rw [no_1 hs h1] at h' ⊢
        have hl := tk_lt h1
        obtain ⟨_, t, k1, k2⟩ := no_t hW h8 F (b + 1) (by omega) ⟨s.e, s.a, tkK ws s.p [126]⟩ ns (by show b + 1 ≤ tkK ws s.p [126]; rw [tkK_y h1]; omega) (tkK_le hp) h'
        refine ⟨.un ⟨3, 0, 0, 0, 0⟩ t, ⟨rfl, k1⟩, ?_⟩
        show putN _ _ _ = _
        rw [putN_y h', k2, Tre.rows, List.append_assoc]
      · have h1' : tkB ws s.p [126] = false := by cases hq : tkB ws s.p [126]; rfl; exact absurd hq h1
        by_cases h2 : tkB ws (tkK ws s.p [126]) [40] = true
        · rw [no_2 hs h1' h2] at h' ⊢
          have e0 := mark_0 h'
          have hl := tk_lt h2
          rw [tkK_n h1'] at hl
          exact (or_t (no_t hW h8 F (b + 1) (by omega)) (noF_gd rf ws F) ⟨s.e, s.a, tkK ws (tkK ws s.p [126]) [40]⟩ ns (by show b + 1 ≤ tkK ws (tkK ws s.p [126]) [40]; rw [tkK_y h2, tkK_n h1']; omega) (tkK_le (tkK_le hp)) e0).2
        · have h2' : tkB ws (tkK ws s.p [126]) [40] = false := by cases hq : tkB ws (tkK ws s.p [126]) [40]; rfl; exact absurd hq h2
          have e : noR rf ws (noF rf ws F) (orF ws (noF rf ws F)) s ns = atZ rf ws ⟨s.e, s.a, tkK ws (tkK ws s.p [126]) [40]⟩ ns := by
            unfold noR; rw [if_pos hs, if_neg h1, if_neg h2]
          rw [e] at h' ⊢
          exact (at_t (b := b) hW h8 ⟨s.e, s.a, tkK ws (tkK ws s.p [126]) [40]⟩ ns (by show b ≤ tkK ws (tkK ws s.p [126]) [40]; rw [tkK_n h2', tkK_n h1']; exact hb) (tkK_le (tkK_le hp)) h').2
    · rw [no_0 hs] at h'; exact absurd h' hs
theorem rp_tree (hW : ∀ t ∈ ws, TkW t) (h8 : ∀ q, rf q < 8) (h : (rpS rf ws).e = 0) : ∃ t : Tre, t.ok ∧ rpN rf ws = t.rows := by
  have hz : (rpZ rf ws).1.e = 0 := by
    unfold rpS at h
    split at h
    · exact absurd h (failNe (by decide))
    · exact h
  obtain ⟨_, t, k1, k2⟩ := or_t (no_t hW h8 (ws.length + 1) 0 (by omega)) (noF_gd rf ws (ws.length + 1)) ⟨0, 0, 0⟩ [] (Nat.le_refl _) (Nat.zero_le _) hz
  exact ⟨t, k1, k2⟩
end
end Go.Proofs.YtedlaclfhgneeabGreatDoor
namespace Go.Proofs.YtedlaclfhgneeabGreatDoor.Cd
open Go.RowKit
set_option linter.unusedVariables false
set_option linter.unusedSimpArgs false
set_option maxRecDepth 100000
set_option maxHeartbeats 2000000
set_option simprocs false
theorem hmo : Tryz.prog.follows .mixedOrders = true := by kernel_rfl
def one0 (kd : Int) (th : Int) (rg : Int) (lc : Int) (vl : Int) : Int := if kd = 1 then if ((((decide (th ≥ 0)) && (decide (th < 3))) && (decide (rg ≥ 0))) && (decide (rg < 8))) = true then if (!((((0 : Int) == 0) && (((0 : Int) == 0) && (((0 : Int) == 0) && ((lc == 0) && ((0 : Int) == 0))))))) = true then (-1) else 0 else (-1) else if kd = 2 then if ((decide (lc ≥ 0)) && (decide (lc < 3))) = true then if (!((((0 : Int) == 0) && ((th == 0) && ((rg == 0) && (((0 : Int) == 0) && ((0 : Int) == 0))))))) = true then (-1) else 0 else (-1) else if kd = 3 then if (!((((0 : Int) == 0) && ((th == 0) && ((rg == 0) && ((lc == 0) && (vl == 0))))))) = true then (-1) else 1 else if kd = 4 then if (!((((0 : Int) == 0) && ((th == 0) && ((rg == 0) && ((lc == 0) && (vl == 0))))))) = true then (-1) else 2 else if kd = 5 then if (!((((0 : Int) == 0) && ((th == 0) && ((rg == 0) && ((lc == 0) && (vl == 0))))))) = true then (-1) else 2 else (-1)
theorem below_ (k : Int) (m : Int)  : Fn Tryz.prog 126 [.int .i64 k, .int .i64 m] [] (Rt (.bool ((decide (0 ≤ k)) && (decide (k < m)))) []) :=
 enterM (n := 12) (by kernel_rfl) Tryz.func126 rfl rfl rfl fun G w a h0 A => N hX 18 A rfl rfl fun A => RETN hX A rfl rfl rfl h0 rfl rfl rfl rfl rfl rfl
def node0 (kd : Int) (th : Int) (rg : Int) (lc : Int) (vl : Int) : Bool := if kd = 1 then if ((decide (0 ≤ th)) && (decide (th < 3))) = true then ((decide (0 ≤ rg)) && (decide (rg < 8))) && (lc == 0) else false else if kd = 2 then (((decide (0 ≤ lc)) && (decide (lc < 3))) && (th == 0)) && (rg == 0) else if kd = 3 then ((kd == kd) && ((th == 0) && ((rg == 0) && ((lc == 0) && (vl == 0))))) else if kd = 4 then ((kd == kd) && ((th == 0) && ((rg == 0) && ((lc == 0) && (vl == 0))))) else if kd = 5 then ((kd == kd) && ((th == 0) && ((rg == 0) && ((lc == 0) && (vl == 0))))) else false
theorem node_ (kd : Int) (th : Int) (rg : Int) (lc : Int) (vl : Int)  : Fn Tryz.prog 55 [.agg [.int .i64 kd, .int .i64 th, .int .i64 rg, .int .i64 lc, .int .i64 vl]] [] (Rt (.bool (node0 kd th rg lc vl)) []) :=
 enterM (n := 44) (by kernel_rfl) Tryz.func55 rfl rfl rfl fun G w a h0 A => N hX 20 A rfl rfl fun A => forkE 5 A rfl
  (fun h1 A => N hX 5 A rfl rfl fun A => CALL1 [] (below_ th 3) A rfl rfl rfl rfl rfl rfl rfl fun A => N hX 1 A rfl rfl fun A => fork 10 A rfl
   (fun h2 A => N hX 2 A rfl rfl fun A => CALL1 [] (below_ rg 8) A rfl rfl rfl rfl rfl rfl rfl fun A => N hX 10 A rfl rfl fun A => RETN hX A rfl rfl rfl h0 rfl rfl rfl rfl (by simp only [oneS, nb, nbL, nbH, node0, if_pos h1, if_pos h2]) rfl)
   (fun h2 A => N hX 13 A rfl rfl fun A => RETN hX A rfl rfl rfl h0 rfl rfl rfl rfl (by simp only [oneS, nb, nbL, nbH, node0, if_pos h1, if_neg (ne_true_of_eq_false h2)]) rfl))
  (fun h1 A => N hX 7 A rfl rfl fun A => forkE 20 A rfl
   (fun h3 A => N hX 5 A rfl rfl fun A => CALL1 [] (below_ lc 3) A rfl rfl rfl rfl rfl rfl rfl fun A => N hX 14 A rfl rfl fun A => RETN hX A rfl rfl rfl h0 rfl rfl rfl rfl (by simp only [oneS, nb, nbL, nbH, node0, if_neg (h1), if_pos h3]) rfl)
   (fun h3 A => N hX 8 A rfl rfl fun A => forkE 35 A rfl
    (fun h4 A => N hX 15 A rfl rfl fun A => RETN hX A rfl rfl rfl h0 rfl rfl rfl rfl (by simp only [oneS, nb, nbL, nbH, node0, if_neg (h1), if_neg (h3), if_pos h4]) rfl)
    (fun h4 A => N hX 7 A rfl rfl fun A => forkE 35 A rfl
     (fun h5 A => N hX 15 A rfl rfl fun A => RETN hX A rfl rfl rfl h0 rfl rfl rfl rfl (by simp only [oneS, nb, nbL, nbH, node0, if_neg (h1), if_neg (h3), if_neg (h4), if_pos h5]) rfl)
     (fun h5 A => N hX 6 A rfl rfl fun A => forkE 35 A rfl
      (fun h6 A => N hX 12 A rfl rfl fun A => RETN hX A rfl rfl rfl h0 rfl rfl rfl rfl (by simp only [oneS, nb, nbL, nbH, node0, if_neg (h1), if_neg (h3), if_neg (h4), if_neg (h5), if_pos h6]) rfl)
      (fun h6 A => N hX 10 A rfl rfl fun A => RETN hX A rfl rfl rfl h0 rfl rfl rfl rfl (by simp only [oneS, nb, nbL, nbH, node0, if_neg (h1), if_neg (h3), if_neg (h4), if_neg (h5), if_neg (h6)]) rfl)))))
def parts0 (kd : Int) : Int := if kd = 3 then 1 else if kd = 4 then 2 else if kd = 5 then 2 else 0
theorem parts_ (kd : Int)  : Fn Tryz.prog 56 [.int .i64 kd] [] (Rt (.int .i64 (parts0 kd)) []) :=
 enterM (n := 9) (by kernel_rfl) Tryz.func56 rfl rfl rfl fun G w a h0 A => N hX 18 A rfl rfl fun A => forkE 4 A rfl
  (fun h1 A => N hX 7 A rfl rfl fun A => RETN hX A rfl rfl rfl h0 rfl rfl rfl rfl (by simp only [oneS, nb, nbL, nbH, parts0, if_pos h1]) rfl)
  (fun h1 A => N hX 8 A rfl rfl fun A => forkE 6 A rfl
   (fun h2 A => N hX 10 A rfl rfl fun A => RETN hX A rfl rfl rfl h0 rfl rfl rfl rfl (by simp only [oneS, nb, nbL, nbH, parts0, if_neg (h1), if_pos h2]) rfl)
   (fun h2 A => N hX 6 A rfl rfl fun A => forkE 6 A rfl
    (fun h3 A => N hX 7 A rfl rfl fun A => RETN hX A rfl rfl rfl h0 rfl rfl rfl rfl (by simp only [oneS, nb, nbL, nbH, parts0, if_neg (h1), if_neg (h2), if_pos h3]) rfl)
    (fun h3 A => N hX 10 A rfl rfl fun A => RETN hX A rfl rfl rfl h0 rfl rfl rfl rfl (by simp only [oneS, nb, nbL, nbH, parts0, if_neg (h1), if_neg (h2), if_neg (h3)]) rfl)))
theorem nan_ (k : Int)  : Fn Tryz.prog 269 [.int .i64 k] [] (Rt (.bool (!(k == k))) []) :=
 enterM (n := 6) (by kernel_rfl) Tryz.func269 rfl rfl rfl fun G w a h0 A => N hX 14 A rfl rfl fun A => RETN hX A rfl rfl rfl h0 rfl rfl rfl rfl rfl rfl
def cmpi0 (k : Int) (m : Int) : Int := if k ≠ k then if m ≠ m then 0 else (-1) else if m ≠ m then 1 else if k < m then (-1) else if k > m then 1 else 0
theorem cmpi_ (k : Int) (m : Int)  : Fn Tryz.prog 252 [.int .i64 k, .int .i64 m] [] (Rt (.int .i64 (cmpi0 k m)) []) :=
 enterM (n := 20) (by kernel_rfl) Tryz.func252 rfl rfl rfl fun G w a h0 A => N hX 8 A rfl rfl fun A => CALL1 [] (nan_ k) A rfl rfl rfl rfl rfl rfl rfl fun A => N hX 6 A rfl rfl fun A => CALL1 [] (nan_ m) A rfl rfl rfl rfl rfl rfl rfl fun A => N hX 9 A rfl rfl fun A => forkN 11 A rfl
  (fun h1 A => N hX 7 A rfl rfl fun A => forkN 12 A rfl
   (fun h2 A => N hX 7 A rfl rfl fun A => RETN hX A rfl rfl rfl h0 rfl rfl rfl rfl (by simp only [oneS, nb, nbL, nbH, cmpi0, if_pos h1, if_pos h2]) rfl)
   (fun h2 A => N hX 9 A rfl rfl fun A => RETN hX A rfl rfl rfl h0 rfl rfl rfl rfl (by simp only [oneS, nb, nbL, nbH, cmpi0, if_pos h1, if_neg (not_not_intro h2)]) rfl))
  (fun h1 A => N hX 9 A rfl rfl fun A => forkN 13 A rfl
   (fun h3 A => N hX 7 A rfl rfl fun A => RETN hX A rfl rfl rfl h0 rfl rfl rfl rfl (by simp only [oneS, nb, nbL, nbH, cmpi0, if_neg (not_not_intro h1), if_pos h3]) rfl)
   (fun h3 A => N hX 11 A rfl rfl fun A => forkD 16 A rfl
    (fun h4 A => N hX 7 A rfl rfl fun A => RETN hX A rfl rfl rfl h0 rfl rfl rfl rfl (by simp only [oneS, nb, nbL, nbH, cmpi0, if_neg (not_not_intro h1), if_neg (not_not_intro h3), if_pos h4]) rfl)
    (fun h4 A => N hX 11 A rfl rfl fun A => forkD 19 A rfl
     (fun h5 A => N hX 7 A rfl rfl fun A => RETN hX A rfl rfl rfl h0 rfl rfl rfl rfl (by simp only [oneS, nb, nbL, nbH, cmpi0, if_neg (not_not_intro h1), if_neg (not_not_intro h3), if_neg h4, if_pos h5]) rfl)
     (fun h5 A => N hX 9 A rfl rfl fun A => RETN hX A rfl rfl rfl h0 rfl rfl rfl rfl (by simp only [oneS, nb, nbL, nbH, cmpi0, if_neg (not_not_intro h1), if_neg (not_not_intro h3), if_neg h4, if_neg h5]) rfl))))
end Go.Proofs.YtedlaclfhgneeabGreatDoor.Cd
namespace Go.Proofs.YtedlaclfhgneeabGreatDoor.Cd
open Go.RowKit
set_option linter.unusedVariables false
set_option linter.unusedSimpArgs false
set_option maxRecDepth 100000
set_option maxHeartbeats 2000000
set_option simprocs false
abbrev O := Nat → Int
def oz : O := fun _ => 0
instance : Inhabited O := ⟨oz⟩
abbrev oc (p : O) : List SV := [.int .i64 (p 0), .int .i64 (p 1), .int .i64 (p 2), .int .i64 (p 3), .int .i64 (p 4), .int .i64 (p 5), .int .i64 (p 6), .int .i64 (p 7), .int .i64 (p 8), .int .i64 (p 9), .int .i64 (p 10), .int .i64 (p 11), .int .i64 (p 12), .int .i64 (p 13), .int .i64 (p 14), .int .i64 (p 15), .int .i64 (p 16), .int .i64 (p 17), .int .i64 (p 18), .int .i64 (p 19), .int .i64 (p 20), .int .i64 (p 21), .int .i64 (p 22), .int .i64 (p 23), .int .i64 (p 24), .int .i64 (p 25), .int .i64 (p 26)]
def lx (p q : O) : Nat → Nat → Bool
 | 0, _ => false
 | f + 1, i => if p i = q i then lx p q f (i + 1) else decide (p i < q i)
def lessO (p q : O) : Bool := lx p q 27 0
def lxc (p q : O) : Nat → Nat → Int
 | 0, _ => 0
 | f + 1, i => if p i = q i then lxc p q f (i + 1) else if p i < q i then -1 else 1
def cmpO (p q : O) : Int := lxc p q 27 0
theorem lxc_lx (p q : O) : ∀ (f i : Nat), decide (lxc p q f i < 0) = lx p q f i
 | 0, _ => rfl
 | f + 1, i => by
   unfold lxc lx
   split
   · exact lxc_lx p q f (i + 1)
   · split
     · next h => rw [decide_eq_true h]; rfl
     · next h => rw [decide_eq_false h]; rfl
theorem cmp_less (p q : O) : decide (cmpO p q < 0) = lessO p q := lxc_lx p q 27 0
theorem lxc_add (p q : O) (n : Nat) : ∀ (m i : Nat), lxc p q (m + n) i = if lxc p q m i = 0 then lxc p q n (i + m) else lxc p q m i
 | 0, i => by simp [lxc]
 | m + 1, i => by
   rw [show m + 1 + n = (m + n) + 1 by omega, lxc, lxc]
   split
   · rw [lxc_add p q n m (i + 1), show i + 1 + m = i + (m + 1) by omega]
   · split
     · rfl
     · rfl
theorem cmpi_is (k m : Int) : cmpi0 k m = if k = m then 0 else if k < m then -1 else 1 := by
  have e1 : ¬ (k ≠ k) := fun h => h rfl
  have e2 : ¬ (m ≠ m) := fun h => h rfl
  unfold cmpi0
  rw [if_neg e1, if_neg e2]
  by_cases h : k = m
  · subst h; rw [if_neg (by omega), if_neg (by omega), if_pos rfl]
  · by_cases h2 : k < m
    · rw [if_pos h2, if_neg h, if_pos h2]
    · rw [if_neg h2, if_pos (by omega), if_neg h, if_neg h2]
theorem s24 (p : O) {t r : Nat} (ht : (t : Int) < 3) (hr : (r : Int) < 8) : [[p 0, p 1, p 2, p 3, p 4, p 5, p 6, p 7].getD ((r : Int)).toNat 0, [p 8, p 9, p 10, p 11, p 12, p 13, p 14, p 15].getD ((r : Int)).toNat 0, [p 16, p 17, p 18, p 19, p 20, p 21, p 22, p 23].getD ((r : Int)).toNat 0].getD ((t : Int)).toNat 0 = p (8 * t + r) := by
  have h : t = 0 ∨ t = 1 ∨ t = 2 := by omega
  have h' : r = 0 ∨ r = 1 ∨ r = 2 ∨ r = 3 ∨ r = 4 ∨ r = 5 ∨ r = 6 ∨ r = 7 := by omega
  rcases h with rfl | rfl | rfl <;> rcases h' with rfl | rfl | rfl | rfl | rfl | rfl | rfl | rfl <;> rfl
theorem s3 (p : O) {k : Nat} (hk : (k : Int) < 3) : [p 24, p 25, p 26].getD ((k : Int)).toNat 0 = p (24 + k) := by
  have h : k = 0 ∨ k = 1 ∨ k = 2 := by omega
  rcases h with rfl | rfl | rfl <;> rfl
structure CI (p q : O) (b m k : Nat) : Prop where
  le : k ≤ m
  eq : lxc p q m b = lxc p q (m - k) (b + k)
theorem CI.init {p q : O} {b m : Nat} : CI p q b m 0 := ⟨by omega, rfl⟩
theorem CI.at {p q : O} {b m k : Nat} (h : CI p q b m k) (hk : k < m) : lxc p q m b = if p (b + k) = q (b + k) then lxc p q (m - (k + 1)) (b + (k + 1)) else if p (b + k) < q (b + k) then -1 else 1 := by
  rw [h.eq, show m - k = (m - (k + 1)) + 1 by omega, lxc]; rfl
theorem CI.step {p q : O} {b m k : Nat} {x y : Int} (h : CI p q b m k) (hk : k < m) (e1 : x = p (b + k)) (e2 : y = q (b + k)) (e : cmpi0 x y = 0) : CI p q b m (k + 1) := by
  refine ⟨hk, ?_⟩
  rw [cmpi_is, e1, e2] at e
  rw [h.at hk]
  split at e
  · next hh => rw [if_pos hh]
  · split at e <;> cases e
theorem CI.stop {p q : O} {b m k : Nat} {x y : Int} (h : CI p q b m k) (hk : k < m) (e1 : x = p (b + k)) (e2 : y = q (b + k)) (e : cmpi0 x y ≠ 0) : cmpi0 x y = lxc p q m b := by
  rw [cmpi_is, e1, e2] at e ⊢
  rw [h.at hk]
  split at e
  · exact absurd rfl e
  · next hh => rw [if_neg hh, if_neg hh]
theorem CI.done {p q : O} {b m k : Nat} (h : CI p q b m k) (hk : ¬ k < m) : lxc p q m b = 0 := by
  rw [h.eq, show m - k = 0 by omega, lxc]
structure KI (p q : O) (t : Nat) : Prop where
  le : t ≤ 3
  eq : cmpO p q = lxc p q (27 - 8 * t) (8 * t)
theorem KI.step {p q : O} {t : Nat} (h : KI p q t) (ht : (t : Int) < 3) (e : lxc p q 8 (8 * t) = 0) : KI p q (t + 1) := by
  refine ⟨by omega, ?_⟩
  rw [h.eq, show 27 - 8 * t = 8 + (27 - 8 * (t + 1)) by omega, lxc_add, if_pos e]; rfl
theorem KI.stop {p q : O} {t : Nat} (h : KI p q t) (ht : (t : Int) < 3) (e : lxc p q 8 (8 * t) ≠ 0) : lxc p q 8 (8 * t) = cmpO p q := by
  rw [h.eq, show 27 - 8 * t = 8 + (27 - 8 * (t + 1)) by omega, lxc_add, if_neg e]
theorem KI.done {p q : O} {t : Nat} (h : KI p q t) (ht : ¬ (t : Int) < 3) : lxc p q 3 24 = cmpO p q := by
  have : t = 3 := by have := h.le; omega
  subst this
  rw [h.eq]
theorem cmp8_ (p : O) (q : O) (t : Nat) (ht : (t : Int) < 3) : Fn Tryz.prog 209 [.sp (.ix (.ptr 0 0) 8 3 (t : Int) 0) 8 8, .sp (.ix (.ptr 1 0) 8 3 (t : Int) 0) 8 8] [some (.blk (oc p)), some (.blk (oc q))] (Rt (.int .i64 (lxc p q 8 (8 * t))) [some (.blk (oc p)), some (.blk (oc q))]) :=
 enterM (n := 36) (by kernel_rfl) Tryz.func209 rfl rfl rfl fun G w a h0 A => N hX 14 A rfl rfl fun A => LOOP1 (fun (r : Nat) => [(0, .sp (.ix (.ptr 0 0) 8 3 (t : Int) 0) 8 8), (1, .sp (.ix (.ptr 1 0) 8 3 (t : Int) 0) 8 8), (4, .int .i64 0), (9, .sp (.ix (.ptr 0 0) 8 3 (t : Int) 0) 8 8), (10, .int .i64 ((8 : Nat) : Int)), (11, .int .i64 (r : Int))]) (fun (r : Nat) => [some (.blk (oc p)), some (.blk (oc q))]) (fun (r : Nat) => CI p q (8 * t) 8 r) (fun (r : Nat) => 8 - r) 0 CI.init ((A.cut [0, 1, 4, 9, 10, 11] rfl).trunc 2 rfl rfl rfl (by simp only [List.length_cons, List.length_nil] at h0; omega)) fun r hI {G a w} A => N hX 6 A rfl rfl fun A => forkD 12 A rfl
   (fun h1 A => N hX 16 A rfl (ok_d (by omega) <| ok_d (by omega) <| ok_d (by omega) <| okE_nil) fun A => N hX 7 A rfl rfl fun A => forkD 19 A rfl
    (fun h2 A => N hX 7 A rfl rfl fun A => RETN hX A rfl rfl rfl h0 rfl rfl rfl rfl (absurd h2 (by omega)) rfl)
    (fun h2 A => N hX 13 A rfl (ok_d (by omega) <| ok_d (by omega) <| ok_d (by omega) <| okE_nil) fun A => N hX 3 A rfl rfl fun A => CALL1 [] (cmpi_ ([[(p 0), (p 1), (p 2), (p 3), (p 4), (p 5), (p 6), (p 7)].getD ((r : Int)).toNat 0, [(p 8), (p 9), (p 10), (p 11), (p 12), (p 13), (p 14), (p 15)].getD ((r : Int)).toNat 0, [(p 16), (p 17), (p 18), (p 19), (p 20), (p 21), (p 22), (p 23)].getD ((r : Int)).toNat 0].getD ((t : Int)).toNat 0) ([[(q 0), (q 1), (q 2), (q 3), (q 4), (q 5), (q 6), (q 7)].getD ((r : Int)).toNat 0, [(q 8), (q 9), (q 10), (q 11), (q 12), (q 13), (q 14), (q 15)].getD ((r : Int)).toNat 0, [(q 16), (q 17), (q 18), (q 19), (q 20), (q 21), (q 22), (q 23)].getD ((r : Int)).toNat 0].getD ((t : Int)).toNat 0)) A rfl rfl rfl rfl rfl rfl rfl fun A => N hX 9 A rfl rfl fun A => forkN 28 A rfl
     (fun h3 A => N hX 8 A rfl rfl fun A => RETN hX A rfl rfl rfl h0 rfl rfl rfl rfl (by rw [hI.stop (by omega) (s24 p ht (by omega)) (s24 q ht (by omega)) h3]; rfl) rfl)
     (fun h3 A => N hX 8 A rfl (ok_d (by omega) <| okE_nil) fun A => ⟨r + 1, _, (by omega), (hI.step (by omega) (s24 p ht (by omega)) (s24 q ht (by omega)) h3), ((A.cut [0, 1, 4, 9, 10, 11] rfl).trunc 2 rfl rfl rfl (by simp only [List.length_cons, List.length_nil] at h0; omega))⟩)))
   (fun h1 A => N hX 13 A rfl rfl fun A => forkD 35 A rfl
    (fun h4 A => N hX 7 A rfl rfl fun A => RETN hX A rfl rfl rfl h0 rfl rfl rfl rfl (absurd h4 (by omega)) rfl)
    (fun h4 A => N hX 9 A rfl rfl fun A => RETN hX A rfl rfl rfl h0 rfl rfl rfl rfl (by rw [hI.done (by omega)]; rfl) rfl))
theorem cmp3_ (p : O) (q : O)  : Fn Tryz.prog 209 [.sp (.ptr 0 24) 3 3, .sp (.ptr 1 24) 3 3] [some (.blk (oc p)), some (.blk (oc q))] (Rt (.int .i64 (lxc p q 3 24)) [some (.blk (oc p)), some (.blk (oc q))]) :=
 enterM (n := 36) (by kernel_rfl) Tryz.func209 rfl rfl rfl fun G w a h0 A => N hX 14 A rfl rfl fun A => LOOP1 (fun (k : Nat) => [(0, .sp (.ptr 0 24) 3 3), (1, .sp (.ptr 1 24) 3 3), (4, .int .i64 0), (9, .sp (.ptr 0 24) 3 3), (10, .int .i64 ((3 : Nat) : Int)), (11, .int .i64 (k : Int))]) (fun (k : Nat) => [some (.blk (oc p)), some (.blk (oc q))]) (fun (k : Nat) => CI p q 24 3 k) (fun (k : Nat) => 3 - k) 0 CI.init ((A.cut [0, 1, 4, 9, 10, 11] rfl).trunc 2 rfl rfl rfl (by simp only [List.length_cons, List.length_nil] at h0; omega)) fun k hI {G a w} A => N hX 6 A rfl rfl fun A => forkD 12 A rfl
   (fun h1 A => N hX 16 A rfl (ok_d (by omega) <| ok_d (by omega) <| okE_nil) fun A => N hX 7 A rfl rfl fun A => forkD 19 A rfl
    (fun h2 A => N hX 7 A rfl rfl fun A => RETN hX A rfl rfl rfl h0 rfl rfl rfl rfl (absurd h2 (by omega)) rfl)
    (fun h2 A => N hX 13 A rfl (ok_d (by omega) <| ok_d (by omega) <| okE_nil) fun A => N hX 3 A rfl rfl fun A => CALL1 [] (cmpi_ ([(p 24), (p 25), (p 26)].getD ((k : Int)).toNat 0) ([(q 24), (q 25), (q 26)].getD ((k : Int)).toNat 0)) A rfl rfl rfl rfl rfl rfl rfl fun A => N hX 9 A rfl rfl fun A => forkN 28 A rfl
     (fun h3 A => N hX 8 A rfl rfl fun A => RETN hX A rfl rfl rfl h0 rfl rfl rfl rfl (by rw [hI.stop (by omega) (s3 p (by omega)) (s3 q (by omega)) h3]; rfl) rfl)
     (fun h3 A => N hX 8 A rfl (ok_d (by omega) <| okE_nil) fun A => ⟨k + 1, _, (by omega), (hI.step (by omega) (s3 p (by omega)) (s3 q (by omega)) h3), ((A.cut [0, 1, 4, 9, 10, 11] rfl).trunc 2 rfl rfl rfl (by simp only [List.length_cons, List.length_nil] at h0; omega))⟩)))
   (fun h1 A => N hX 13 A rfl rfl fun A => forkD 35 A rfl
    (fun h4 A => N hX 7 A rfl rfl fun A => RETN hX A rfl rfl rfl h0 rfl rfl rfl rfl (absurd h4 (by omega)) rfl)
    (fun h4 A => N hX 9 A rfl rfl fun A => RETN hX A rfl rfl rfl h0 rfl rfl rfl rfl (by rw [hI.done (by omega)]; rfl) rfl))
theorem compare_ (p : O) (q : O)  : Fn Tryz.prog 163 [.agg (oc p), .agg (oc q)] [] (Rt (.int .i64 (cmpO p q)) []) :=
 enterM (n := 28) (by kernel_rfl) Tryz.func163 rfl rfl rfl fun G w a h0 A => N hX 14 A rfl rfl fun A => LOOP1 (fun (t : Nat) => [(2, .ptr 0 0), (3, .ptr 1 0), (4, .int .i64 0), (7, .int .i64 (t : Int))]) (fun (t : Nat) => [some (.blk (oc p)), some (.blk (oc q))]) (fun (t : Nat) => KI p q t) (fun (t : Nat) => 3 - t) 0 ⟨by omega, rfl⟩ ((A.cut [2, 3, 4, 7] rfl).trunc 2 rfl rfl rfl (by simp only [List.length_cons, List.length_nil] at h0; omega)) fun t hI {G a w} A => N hX 6 A rfl rfl fun A => forkD 8 A rfl
   (fun h1 A => N hX 12 A rfl rfl fun A => DRAWN hX hmo [] [(8, .int .i64 (lxc p q 8 (8 * t)), [some (.blk (oc p)), some (.blk (oc q))])] A rfl (ok_d (by omega) <| ok_d (by omega) <| ok_d (by omega) <| ok_d (by omega) <| okE_nil) rfl rfl (by kernel_rfl) ⟨callE [0, 1] (cmp8_ p q t h1) rfl rfl rfl rfl rfl rfl rfl, trivial⟩ trivial fun A => N hX 7 A rfl rfl fun A => forkN 20 A rfl
    (fun h2 A => N hX 8 A rfl rfl fun A => RETN hX A rfl rfl rfl h0 rfl rfl rfl rfl (by rw [hI.stop h1 h2]; rfl) rfl)
    (fun h2 A => N hX 8 A rfl (ok_d (by omega) <| okE_nil) fun A => ⟨t + 1, _, (by omega), (hI.step h1 h2), ((A.cut [2, 3, 4, 7] rfl).trunc 2 rfl rfl rfl (by simp only [List.length_cons, List.length_nil] at h0; omega))⟩))
   (fun h1 A => N hX 4 A rfl rfl fun A => DRAWN hX hmo [] [(4, .int .i64 (lxc p q 3 24), [some (.blk (oc p)), some (.blk (oc q))])] A rfl rfl rfl rfl (by kernel_rfl) ⟨callE [0, 1] (cmp3_ p q) rfl rfl rfl rfl rfl rfl rfl, trivial⟩ trivial fun A => N hX 2 A rfl rfl fun A => RETN hX A rfl rfl rfl h0 rfl rfl rfl rfl (by rw [hI.done h1]; rfl) rfl)
end Go.Proofs.YtedlaclfhgneeabGreatDoor.Cd
namespace Go.Proofs.YtedlaclfhgneeabGreatDoor.Cd
open Go.RowKit
set_option linter.unusedVariables false
set_option linter.unusedSimpArgs false
set_option maxRecDepth 100000
set_option maxHeartbeats 2000000
set_option simprocs false
open Go.Sort
theorem jlt {p : Prop} [Decidable p] {b : Bool} (h : (decide p && b) = true) : p := by rw [Bool.and_eq_true, decide_eq_true_eq] at h; exact h.1
theorem jrt {b c : Bool} (h : (b && c) = true) : c = true := by rw [Bool.and_eq_true] at h; exact h.2
theorem aset_ne {d : Array O} {k z : Nat} {v : O} (h : z ≠ k) : (d.setIfInBounds k v)[z]! = d[z]! := by
  simp only [Array.getElem!_eq_getD, Array.getD_eq_getD_getElem?]
  rw [Array.getElem?_setIfInBounds_ne (Ne.symm h)]
theorem aset_at {d : Array O} {k : Nat} {v : O} (h : k < d.size) : (d.setIfInBounds k v)[k]! = v := by
  simp only [Array.getElem!_eq_getD, Array.getD_eq_getD_getElem?]
  rw [Array.getElem?_setIfInBounds_self_of_lt h]; rfl
theorem asz {d : Array O} {k : Nat} {v : O} : (d.setIfInBounds k v).size = d.size := by simp
theorem swp_sz (d : Array O) (i j : Nat) : (swp d i j).size = d.size := by simp [swp]
theorem swp_is {d : Array O} {x y : Int} {i j : Nat} (hi : x.toNat = i) (hj : y.toNat = j) : (d.setIfInBounds x.toNat (d[y.toNat]!)).setIfInBounds y.toNat (d[x.toNat]!) = swp d i j := by subst hi; subst hj; rfl
structure SO (d : Array O) (a b : Nat) (dk : Array O) (i : Nat) : Prop where
  sz : dk.size = d.size
  le : a + 1 ≤ i
  eq : insOuter lessO a b i dk = insertionSort lessO d a b
structure SJ (d : Array O) (a i : Nat) (dk dj : Array O) (j : Nat) : Prop where
  sz : dj.size = d.size
  le : j ≤ i
  eq : insInner lessO a j dj = insInner lessO a i dk
theorem SJ.step {d dk dj : Array O} {a i j : Nat} (h : SJ d a i dk dj j) (hc : (decide ((j : Int) > (a : Int)) && decide (cmpO (dj[((j : Int)).toNat]!) (dj[((j : Int) - 1).toNat]!) < 0)) = true) :
    SJ d a i dk ((dj.setIfInBounds ((j : Int)).toNat (dj[((j : Int) - 1).toNat]!)).setIfInBounds ((j : Int) - 1).toNat (dj[((j : Int)).toNat]!)) (j - 1) := by
  have h1 := jlt hc
  have h2 := jrt hc
  rw [cmp_less] at h2
  obtain ⟨k, rfl⟩ : ∃ k, j = k + 1 := ⟨j - 1, by omega⟩
  have e1 : (((k + 1 : Nat) : Int) - 1).toNat = k := by omega
  have e2 : (((k + 1 : Nat) : Int)).toNat = k + 1 := by omega
  rw [swp_is e2 e1]
  rw [e1, e2] at h2
  refine ⟨by rw [swp_sz, h.sz], by have := h.le; omega, ?_⟩
  rw [← h.eq, insInner, h2]
  rw [if_pos (by simp; omega)]; rfl
theorem SJ.stop {d dk dj : Array O} {a i j : Nat} (h : SJ d a i dk dj j) (hc : (decide ((j : Int) > (a : Int)) && decide (cmpO (dj[((j : Int)).toNat]!) (dj[((j : Int) - 1).toNat]!) < 0)) = false) : insInner lessO a i dk = dj := by
  rw [cmp_less] at hc
  rw [← h.eq]
  cases j with
  | zero => rfl
  | succ k =>
    have e1 : (((k + 1 : Nat) : Int) - 1).toNat = k := by omega
    have e2 : (((k + 1 : Nat) : Int)).toNat = k + 1 := by omega
    rw [e1, e2] at hc
    rw [insInner, if_neg]
    intro h2
    rw [Bool.and_eq_true] at h2
    rw [h2.2, Bool.and_true, decide_eq_false_iff_not] at hc
    have := of_decide_eq_true h2.1
    omega
theorem SO.step {d dk dj : Array O} {a b i j : Nat} (h : SO d a b dk i) (hi : (i : Int) < (b : Int)) (hJ : SJ d a i dk dj j) (e : insInner lessO a i dk = dj) : SO d a b dj (i + 1) := by
  refine ⟨hJ.sz, by have := h.le; omega, ?_⟩
  rw [← h.eq]
  conv => rhs; unfold insOuter
  rw [if_pos (by omega), e]
theorem SO.done {d dk : Array O} {a b i : Nat} (h : SO d a b dk i) (hi : ¬ (i : Int) < (b : Int)) : insertionSort lessO d a b = dk := by
  rw [← h.eq]
  unfold insOuter
  rw [if_neg (by omega)]
theorem isort_ (d : Array O) (nn aa b : Nat) (hn : d.size = nn) (hs : nn ≤ 1000000) (ha : aa ≤ nn) (hb : b ≤ nn) : Fn Tryz.prog 242 [.sl 0 nn 0, .int .i64 (aa : Int), .int .i64 (b : Int), .fn 163 []] [some (.row 93 27 nn 0 (fun zz => oc (d[zz]!)))] (Rt (.tup []) [some (.row 93 27 nn 0 (fun zz => oc ((Go.Sort.insertionSort lessO d aa b)[zz]!)))]) :=
 enterM (n := 53) (by kernel_rfl) Tryz.func242 rfl rfl rfl fun G w a h0 A => N hX 8 A rfl (ok_d (by (try have := hI.le); (try have := hJ.le); omega) <| okE_nil) fun A => LOOP2 (fun (i : Nat) (dk : Array O) => [(0, .sl 0 nn 0), (1, .int .i64 (aa : Int)), (2, .int .i64 (b : Int)), (3, .fn 163 []), (8, .int .i64 (i : Int))]) (fun (i : Nat) (dk : Array O) => [some (.row 93 27 nn 0 (fun zz => oc (dk[zz]!)))]) (fun (i : Nat) (dk : Array O) => SO d aa b dk i) (fun (i : Nat) (dk : Array O) => b - i) (aa + 1) d ⟨rfl, Nat.le_refl _, rfl⟩ ((A.cut [0, 1, 2, 3, 8] rfl).trunc 1 rfl rfl rfl (by simp only [List.length_cons, List.length_nil] at h0; omega)) fun i dk hI {G a w} A => N hX 8 A rfl rfl fun A => forkD 14 A rfl
   (fun h1 A => N hX 12 A rfl rfl fun A => LOOP2 (fun (j : Nat) (dj : Array O) => [(0, .sl 0 nn 0), (1, .int .i64 (aa : Int)), (2, .int .i64 (b : Int)), (3, .fn 163 []), (8, .int .i64 (i : Int)), (9, .int .i64 (j : Int))]) (fun (j : Nat) (dj : Array O) => [some (.row 93 27 nn 0 (fun zz => oc (dj[zz]!)))]) (fun (j : Nat) (dj : Array O) => SJ d aa i dk dj j) (fun (j : Nat) (dj : Array O) => j) i dk ⟨hI.sz, Nat.le_refl _, rfl⟩ ((A.cut [0, 1, 2, 3, 8, 9] rfl).trunc 1 rfl rfl rfl (by simp only [List.length_cons, List.length_nil] at h0; omega)) fun j dj hJ {G a w} A => N hX 2 A rfl rfl fun A => DRAWN hX hmo [(14, .opt (decide ((j : Int) > (aa : Int))) (.int .i64 (cmpO (dj[((j : Int)).toNat]!) (dj[((j : Int) - 1).toNat]!))))] [] A rfl (ok_r <| ok_r <| ok_g (fun hg => (by (try have := hI.le); (try have := hJ.le); have := of_decide_eq_true hg; omega)) <| ok_r <| ok_g (fun hg => (by (try have := hI.le); (try have := hJ.le); have := of_decide_eq_true hg; omega)) <| ok_r <| ok_g (fun hg => (by (try have := hI.le); (try have := hJ.le); have := of_decide_eq_true hg; omega)) <| ok_r <| ok_r <| ok_g (fun hg => (by (try have := hI.le); (try have := hJ.le); have := of_decide_eq_true hg; omega)) <| ok_r <| ok_g (fun hg => (by (try have := hI.le); (try have := hJ.le); have := of_decide_eq_true hg; omega)) <| ok_r <| ok_r <| okE_nil) rfl rfl (by kernel_rfl) (effAll_nil _ _) ⟨.inr ⟨_, _, _, _, _, _, rfl, rfl, rfl, rfl, rfl, fun hg => compare_ (dj[((j : Int)).toNat]!) (dj[((j : Int) - 1).toNat]!)⟩, trivial⟩ fun A => N hX 1 A rfl rfl fun A => fork 34 A rfl
     (fun h2 A => N hX 5 A rfl rfl fun A => DRAWN hX hmo [] [(15, .tup [], [some (.row 93 27 nn 0 (fun zz => oc ((dj.setIfInBounds ((j : Int)).toNat (dj[((j : Int) - 1).toNat]!))[zz]!)))]), (17, .tup [], [some (.row 93 27 nn 0 (fun zz => oc (((dj.setIfInBounds ((j : Int)).toNat (dj[((j : Int) - 1).toNat]!)).setIfInBounds ((j : Int) - 1).toNat (dj[((j : Int)).toNat]!))[zz]!)))])] A rfl (ok_d (by (try have := hI.le); (try have := hJ.le); have := jlt h2; omega) <| ok_d (by (try have := hI.le); (try have := hJ.le); have := jlt h2; omega) <| ok_d (by (try have := hI.le); (try have := hJ.le); have := jlt h2; omega) <| ok_d (by (try have := hI.le); (try have := hJ.le); have := jlt h2; omega) <| ok_d (by (try have := hI.le); (try have := hJ.le); have := jlt h2; omega) <| ok_d (by (try have := hI.le); (try have := hJ.le); have := jlt h2; omega) <| ok_d (by (try have := hI.le); (try have := hJ.le); have := jlt h2; omega) <| ok_d (by (try have := hI.le); (try have := hJ.le); have := jlt h2; omega) <| ok_d (by (try have := hI.le); (try have := hJ.le); have := jlt h2; omega) <| ok_d (by (try have := hI.le); (try have := hJ.le); have := jlt h2; omega) <| okE_nil) rfl rfl (by kernel_rfl) ⟨strE (i := 0) (e := 93) (s := 27) (m := nn) (c := 0) hX (((j : Int)).toNat) (fun zz => oc ((dj.setIfInBounds ((j : Int)).toNat (dj[((j : Int) - 1).toNat]!))[zz]!)) rfl rfl rfl (by (try have := hI.le); (try have := hJ.le); have := jlt h2; omega) (fun z hz => by show oc _ = oc _; rw [aset_ne hz]) (by show _ = some (oc _); rw [aset_at (by (try simp only [asz]); rw [hJ.sz, hn]; (try have := hI.le); (try have := hJ.le); have := jlt h2; omega)]; rfl), ⟨strE (i := 0) (e := 93) (s := 27) (m := nn) (c := 0) hX (((j : Int) - 1).toNat) (fun zz => oc (((dj.setIfInBounds ((j : Int)).toNat (dj[((j : Int) - 1).toNat]!)).setIfInBounds ((j : Int) - 1).toNat (dj[((j : Int)).toNat]!))[zz]!)) rfl rfl rfl (by (try have := hI.le); (try have := hJ.le); have := jlt h2; omega) (fun z hz => by show oc _ = oc _; rw [aset_ne hz]) (by show _ = some (oc _); rw [aset_at (by (try simp only [asz]); rw [hJ.sz, hn]; (try have := hI.le); (try have := hJ.le); have := jlt h2; omega)]; rfl), trivial⟩⟩ trivial fun A => N hX 7 A rfl (ok_d (by (try have := hI.le); (try have := hJ.le); have := jlt h2; omega) <| okE_nil) fun A => ⟨j - 1, (dj.setIfInBounds ((j : Int)).toNat (dj[((j : Int) - 1).toNat]!)).setIfInBounds ((j : Int) - 1).toNat (dj[((j : Int)).toNat]!), _, (by have := jlt h2; omega), (hJ.step h2), ((A.cut [0, 1, 2, 3, 8, 9] rfl).trunc 1 rfl rfl rfl (by simp only [List.length_cons, List.length_nil] at h0; omega)).sayT (by rw [show ((j - 1 : Nat) : Int) = (j : Int) - 1 by have := jlt h2; omega])⟩)
     (fun h2 A => N hX 9 A rfl (ok_d (by (try have := hI.le); (try have := hJ.le); omega) <| okE_nil) fun A => ⟨i + 1, dj, _, (by omega), (hI.step h1 hJ (hJ.stop h2)), ((A.cut [0, 1, 2, 3, 8] rfl).trunc 1 rfl rfl rfl (by simp only [List.length_cons, List.length_nil] at h0; omega))⟩))
   (fun h1 A => N hX 2 A rfl rfl fun A => ENDN (RETN hX A rfl rfl rfl h0 rfl rfl rfl rfl rfl (by rw [hI.done h1]; rfl)))
theorem isort_i {xaa xb : Int} (d : Array O) (nn aa b : Nat) (eaa : xaa = (aa : Int)) (eb : xb = (b : Int)) (hn : d.size = nn) (hs : nn ≤ 1000000) (ha : aa ≤ nn) (hb : b ≤ nn) : Fn Tryz.prog 242 [.sl 0 nn 0, .int .i64 xaa, .int .i64 xb, .fn 163 []] [some (.row 93 27 nn 0 (fun zz => oc (d[zz]!)))] (Rt (.tup []) [some (.row 93 27 nn 0 (fun zz => oc ((Go.Sort.insertionSort lessO d aa b)[zz]!)))]) := by
  subst eaa; subst eb; exact isort_ d nn aa b hn hs ha hb
end Go.Proofs.YtedlaclfhgneeabGreatDoor.Cd
namespace Go.Proofs.YtedlaclfhgneeabGreatDoor.Cd
open Go.RowKit
set_option linter.unusedVariables false
set_option linter.unusedSimpArgs false
set_option maxRecDepth 100000
set_option maxHeartbeats 2000000
set_option simprocs false
open Go.Sort
theorem fdivN (k m : Nat) : Int.fdiv (k : Int) ((m : Nat) : Int) = ((k / m : Nat) : Int) := by
  cases k with
  | zero => simp
  | succ k => rfl
theorem bl_div {n : Nat} (h : 256 ≤ n) : bitsLen n = 8 + bitsLen (n / 256) := by
  have h1 : n / 256 ≠ 0 := by omega
  have e : ∀ m, 2 ≤ m → Nat.log2 m = Nat.log2 (m / 2) + 1 := fun m hm => by rw [Nat.log2_def, if_pos hm]
  have e8 : n / 2 / 2 / 2 / 2 / 2 / 2 / 2 / 2 = n / 256 := by omega
  unfold bitsLen
  rw [if_neg (by omega), if_neg h1, e n (by omega), e (n / 2) (by omega), e (n / 2 / 2) (by omega), e (n / 2 / 2 / 2) (by omega), e (n / 2 / 2 / 2 / 2) (by omega), e (n / 2 / 2 / 2 / 2 / 2) (by omega), e (n / 2 / 2 / 2 / 2 / 2 / 2) (by omega), e (n / 2 / 2 / 2 / 2 / 2 / 2 / 2) (by omega), e8]
  omega
abbrev l8 : List UInt8 := [0, 1, 2, 2, 3, 3, 3, 3, 4, 4, 4, 4, 4, 4, 4, 4, 5, 5, 5, 5, 5, 5, 5, 5, 5, 5, 5, 5, 5, 5, 5, 5, 6, 6, 6, 6, 6, 6, 6, 6, 6, 6, 6, 6, 6, 6, 6, 6, 6, 6, 6, 6, 6, 6, 6, 6, 6, 6, 6, 6, 6, 6, 6, 6, 7, 7, 7, 7, 7, 7, 7, 7, 7, 7, 7, 7, 7, 7, 7, 7, 7, 7, 7, 7, 7, 7, 7, 7, 7, 7, 7, 7, 7, 7, 7, 7, 7, 7, 7, 7, 7, 7, 7, 7, 7, 7, 7, 7, 7, 7, 7, 7, 7, 7, 7, 7, 7, 7, 7, 7, 7, 7, 7, 7, 7, 7, 7, 7, 8, 8, 8, 8, 8, 8, 8, 8, 8, 8, 8, 8, 8, 8, 8, 8, 8, 8, 8, 8, 8, 8, 8, 8, 8, 8, 8, 8, 8, 8, 8, 8, 8, 8, 8, 8, 8, 8, 8, 8, 8, 8, 8, 8, 8, 8, 8, 8, 8, 8, 8, 8, 8, 8, 8, 8, 8, 8, 8, 8, 8, 8, 8, 8, 8, 8, 8, 8, 8, 8, 8, 8, 8, 8, 8, 8, 8, 8, 8, 8, 8, 8, 8, 8, 8, 8, 8, 8, 8, 8, 8, 8, 8, 8, 8, 8, 8, 8, 8, 8, 8, 8, 8, 8, 8, 8, 8, 8, 8, 8, 8, 8, 8, 8, 8, 8, 8, 8, 8, 8, 8, 8, 8, 8, 8, 8, 8, 8]
theorem l8_is : ∀ n : Fin 256, (l8.getD n.val 0).toNat = bitsLen n.val := by decide +kernel
theorem wu8 {n : Nat} (h : n < 256) : IntKind.wrap .u8 (n : Int) = (n : Int) := by simp only [IntKind.wrap, IntKind.signed, IntKind.bits]; simp; omega
theorem wu64 {n : Nat} (h : n < 18446744073709551616) : IntKind.wrap .u64 (n : Int) = (n : Int) := by simp only [IntKind.wrap, IntKind.signed, IntKind.bits]; simp; omega
theorem tab_is {n : Nat} (h : n < 256) : IntKind.wrap .i64 ((((l8.getD ((IntKind.wrap .u8 (n : Int))).toNat 0).toNat : Nat)) : Int) = ((bitsLen n : Nat) : Int) := by
  rw [wu8 h, Int.toNat_natCast]
  have := l8_is ⟨n, h⟩
  simp only at this
  rw [this, wrap_in]
  have : bitsLen n ≤ 8 := by
    unfold bitsLen
    split
    · omega
    · next h0 => have := (Nat.log2_lt (n := n) (k := 8) h0).2 (by omega); omega
  omega
theorem bl_le {n : Nat} (h : n < 1048576) : bitsLen n ≤ 20 := by
  unfold bitsLen
  split
  · omega
  · next h0 => have := (Nat.log2_lt (n := n) (k := 20) h0).2 (by omega); omega
theorem f16 (k : Nat) : Int.fdiv (k : Int) (2 ^ min (16 : Int).toNat (IntKind.bits .u64)) = ((k / 65536 : Nat) : Int) := fdivN k 65536
theorem f8 (k : Nat) : Int.fdiv (k : Int) (2 ^ min (8 : Int).toNat (IntKind.bits .u64)) = ((k / 256 : Nat) : Int) := fdivN k 256
theorem l8_len : (l8.length : Int) = 256 := by decide +kernel
theorem len64_ (k : Nat) (hk : k ≤ 1000000) : Fn Tryz.prog 251 [.int .u64 (k : Int)] [] (Rt (.int .i64 ((Go.Sort.bitsLen k : Nat) : Int)) []) :=
 enterM (n := 25) (by kernel_rfl) Tryz.func251 rfl rfl rfl fun G w a h0 A => N hX 12 A rfl rfl fun A => forkD 4 A rfl
  (fun h1 A => N hX 8 A rfl (ok_d (by omega) <| okE_nil) fun A => N hX 11 A rfl rfl fun A => forkD 8 A rfl
   (fun h2 A => N hX 8 A rfl (ok_d (by omega) <| okE_nil) fun A => N hX 8 A rfl (ok_d (by omega) <| okE_nil) fun A => N hX 5 A rfl rfl fun A => forkD 14 A rfl
    (fun h3 A => N hX 8 A rfl (ok_d (by omega) <| okE_nil) fun A => N hX 7 A rfl (ok_d (by omega) <| okE_nil) fun A => N hX 11 A rfl (ok_d (by omega) <| ok_d (by omega) <| okE_nil) fun A => RETN hX A rfl rfl rfl h0 rfl rfl rfl rfl (absurd h1 (by omega)) rfl)
    (fun h3 A => N hX 15 A rfl (ok_d (by omega) <| ok_d (by omega) <| okE_nil) fun A => RETN hX A rfl rfl rfl h0 rfl rfl rfl rfl (absurd h1 (by omega)) rfl))
   (fun h2 A => N hX 10 A rfl rfl fun A => forkD 14 A rfl
    (fun h4 A => N hX 8 A rfl (ok_d (by omega) <| okE_nil) fun A => N hX 7 A rfl (ok_d (by omega) <| okE_nil) fun A => N hX 11 A rfl (ok_d (by omega) <| ok_d (by omega) <| okE_nil) fun A => RETN hX A rfl rfl rfl h0 rfl rfl rfl rfl (absurd h1 (by omega)) rfl)
    (fun h4 A => N hX 15 A rfl (ok_d (by omega) <| ok_d (by omega) <| okE_nil) fun A => RETN hX A rfl rfl rfl h0 rfl rfl rfl rfl (absurd h1 (by omega)) rfl)))
  (fun h1 A => N hX 10 A rfl rfl fun A => forkD 8 A rfl
   (fun h5 A => N hX 8 A rfl (ok_d (by omega) <| okE_nil) fun A => N hX 8 A rfl (ok_d (by omega) <| okE_nil) fun A => N hX 5 A rfl rfl fun A => forkD 14 A rfl
    (fun h6 A => N hX 8 A rfl (ok_d (by rw [f16] at h6; omega) <| okE_nil) fun A => N hX 7 A rfl (ok_d (by rw [f16] at h6; omega) <| okE_nil) fun A => N hX 11 A rfl (ok_d (by rw [f16] at h6; omega) <| ok_d (by rw [f16] at h6; omega) <| okE_nil) fun A => RETN hX A rfl rfl rfl h0 rfl rfl rfl rfl (absurd h6 (by rw [f16]; omega)) rfl)
    (fun h6 A => N hX 15 A rfl (ok_d (by (try rw [f16]); (try rw [f8]); rw [wu8 (by omega)]; show _ ∧ _ < (l8.length : Int); rw [l8_len]; omega) <| ok_d (by (try rw [f16]); (try rw [f8]); erw [tab_is (by omega)]; have := bl_le (n := k) (by omega); have h8 : ∀ m, m < 256 → bitsLen m ≤ 20 := fun m hm => bl_le (by omega); (try have := h8 (k / 65536) (by omega)); (try have := h8 (k / 256) (by omega)); omega) <| okE_nil) fun A => RETN hX A rfl rfl rfl h0 rfl rfl rfl rfl (by rw [f16]; erw [tab_is (by omega)]; rw [bl_div (n := k) (by omega), bl_div (n := k / 256) (by omega), Nat.div_div_eq_div_mul, show 256 * 256 = 65536 from rfl]; show SV.int _ _ = SV.int _ _; congr 1 <;> omega) rfl))
   (fun h5 A => N hX 10 A rfl rfl fun A => forkD 14 A rfl
    (fun h7 A => N hX 8 A rfl (ok_d (by omega) <| okE_nil) fun A => N hX 7 A rfl (ok_d (by omega) <| okE_nil) fun A => N hX 11 A rfl (ok_d (by (try rw [f16]); (try rw [f8]); rw [wu8 (by omega)]; show _ ∧ _ < (l8.length : Int); rw [l8_len]; omega) <| ok_d (by (try rw [f16]); (try rw [f8]); erw [tab_is (by omega)]; have := bl_le (n := k) (by omega); have h8 : ∀ m, m < 256 → bitsLen m ≤ 20 := fun m hm => bl_le (by omega); (try have := h8 (k / 65536) (by omega)); (try have := h8 (k / 256) (by omega)); omega) <| okE_nil) fun A => RETN hX A rfl rfl rfl h0 rfl rfl rfl rfl (by rw [f8]; erw [tab_is (by omega)]; rw [bl_div (n := k) (by omega)] <;> (show SV.int _ _ = SV.int _ _; congr 1 <;> omega)) rfl)
    (fun h7 A => N hX 15 A rfl (ok_d (by (try rw [f16]); (try rw [f8]); rw [wu8 (by omega)]; show _ ∧ _ < (l8.length : Int); rw [l8_len]; omega) <| ok_d (by (try rw [f16]); (try rw [f8]); erw [tab_is (by omega)]; have := bl_le (n := k) (by omega); have h8 : ∀ m, m < 256 → bitsLen m ≤ 20 := fun m hm => bl_le (by omega); (try have := h8 (k / 65536) (by omega)); (try have := h8 (k / 256) (by omega)); omega) <| okE_nil) fun A => RETN hX A rfl rfl rfl h0 rfl rfl rfl rfl (by erw [tab_is (by omega)] <;> (show SV.int _ _ = SV.int _ _; congr 1 <;> omega)) rfl)))
theorem len_ (k : Nat) (hk : k ≤ 1000000) : Fn Tryz.prog 208 [.int .u64 (k : Int)] [] (Rt (.int .i64 ((Go.Sort.bitsLen k : Nat) : Int)) []) :=
 enterM (n := 8) (by kernel_rfl) Tryz.func208 rfl rfl rfl fun G w a h0 A => N hX 12 A rfl rfl fun A => CALL1 [] (len64_ k (by omega)) A rfl rfl rfl rfl rfl rfl rfl fun A => N hX 4 A rfl rfl fun A => RETN hX A rfl rfl rfl h0 rfl rfl rfl rfl rfl rfl
theorem len_w (k : Nat) (hk : k ≤ 1000000) {x : Int} (hx : x = (k : Int)) : Fn Tryz.prog 208 [.int .u64 x] [] (Rt (.int .i64 ((Go.Sort.bitsLen k : Nat) : Int)) []) := by subst hx; exact len_ k hk
end Go.Proofs.YtedlaclfhgneeabGreatDoor.Cd
namespace Go.Proofs.YtedlaclfhgneeabGreatDoor.Cd
open Go.RowKit
set_option linter.unusedVariables false
set_option linter.unusedSimpArgs false
set_option maxRecDepth 100000
set_option maxHeartbeats 2000000
set_option simprocs false
open Go.Sort
def eqO (p q : O) : Bool := ((p 0 == q 0) && ((p 1 == q 1) && ((p 2 == q 2) && ((p 3 == q 3) && ((p 4 == q 4) && ((p 5 == q 5) && ((p 6 == q 6) && ((p 7 == q 7) && ((p 8 == q 8) && ((p 9 == q 9) && ((p 10 == q 10) && ((p 11 == q 11) && ((p 12 == q 12) && ((p 13 == q 13) && ((p 14 == q 14) && ((p 15 == q 15) && ((p 16 == q 16) && ((p 17 == q 17) && ((p 18 == q 18) && ((p 19 == q 19) && ((p 20 == q 20) && ((p 21 == q 21) && ((p 22 == q 22) && ((p 23 == q 23) && ((p 24 == q 24) && ((p 25 == q 25) && (p 26 == q 26)))))))))))))))))))))))))))
theorem arr_l (os : List O) (k : Nat) : os.toArray[k]! = os.getD k oz := by
  rw [Array.getElem!_eq_getD, Array.getD_eq_getD_getElem?, List.getElem?_toArray]; rfl
def cA (d : Array O) : Nat → List O
  | 0 => []
  | i + 1 => if (decide (0 < i) && eqO (d[i]!) (d[i - 1]!)) = true then cA d i else cA d i ++ [d[i]!]
theorem cA_dup {d : Array O} {i : Nat} (h0 : 0 < i) (h : eqO (d[i]!) (d[i - 1]!) = true) : cA d (i + 1) = cA d i := by
  rw [cA, if_pos (by rw [h, decide_eq_true h0]; rfl)]
theorem cA_new {d : Array O} {i : Nat} (h : eqO (d[i]!) (d[i - 1]!) = false) : cA d (i + 1) = cA d i ++ [d[i]!] := by
  rw [cA, if_neg (by rw [h, Bool.and_false]; simp)]
theorem cA_one (d : Array O) : cA d 1 = [d[0]!] := by rw [cA, if_neg (by simp)]; rfl
structure C1 (d : Array O) (nn k : Nat) : Prop where
  lo : 1 ≤ k
  hi : k ≤ nn
  ln : (cA d k).length = k
  at_ : ∀ p, p < k → (cA d k).getD p oz = d[p]!
structure C2 (d : Array O) (nn k0 : Nat) (e : Array O) (k m : Nat) : Prop where
  sz : e.size = d.size
  lo : k0 ≤ k
  hi : k + 1 ≤ k0 + m
  m1 : 1 ≤ m
  mn : k0 + m ≤ nn
  ln : (cA d (k0 + m)).length = k
  at_ : ∀ p, p < k → e[p]! = (cA d (k0 + m)).getD p oz
  up : ∀ p, k0 + m ≤ p + 1 → e[p]! = d[p]!
section
variable {d e : Array O} {nn k k0 m : Nat}
theorem C1.init (h : ¬ ((nn : Nat) : Int) < 2) : C1 d nn 1 := ⟨Nat.le_refl _, by omega, by rw [cA_one]; rfl, fun p hp => by
  have : p = 0 := by omega
  subst this; rw [cA_one]; rfl⟩
theorem C1.step (h : C1 d nn k) (h1 : (k : Int) < ((nn : Nat) : Int)) (h2 : eqO (d[((k : Int)).toNat]!) (d[((k : Int) - 1).toNat]!) = false) : C1 d nn (k + 1) := by
  have hl := h.lo
  rw [Int.toNat_natCast, show ((k : Int) - 1).toNat = k - 1 by omega] at h2
  refine ⟨by omega, by omega, by rw [cA_new h2, List.length_append, h.ln]; rfl, fun p hp => ?_⟩
  rw [cA_new h2]
  by_cases hpk : p < k
  · rw [getD_app_l (by rw [h.ln]; exact hpk), h.at_ p hpk]
  · have : p = k := by omega
    subst this
    have := getD_app_1 (l := cA d p) (x := d[p]!) (d := oz)
    rw [h.ln] at this; exact this
theorem C1.enter (h : C1 d nn k) (h1 : (k : Int) < ((nn : Nat) : Int)) (h2 : eqO (d[((k : Int)).toNat]!) (d[((k : Int) - 1).toNat]!) = true) : C2 d nn k d k 1 := by
  have hl := h.lo
  rw [Int.toNat_natCast, show ((k : Int) - 1).toNat = k - 1 by omega] at h2
  have e := cA_dup (d := d) (i := k) (by omega) h2
  exact ⟨rfl, Nat.le_refl _, by omega, Nat.le_refl _, by omega, by rw [e, h.ln], fun p hp => by rw [e, h.at_ p hp], fun _ _ => rfl⟩
theorem C1.done (h : C1 d nn k) (h1 : ¬ (k : Int) < ((nn : Nat) : Int)) : (cA d nn).length = nn ∧ ∀ p, p < nn → (cA d nn).getD p oz = d[p]! := by
  have : k = nn := by have := h.hi; omega
  subst this
  exact ⟨h.ln, h.at_⟩
theorem C2.same (h : C2 d nn k0 e k m) (h0 : 1 ≤ k0) (h1 : (m : Int) < ((nn - ((k0 : Int)).toNat : Nat) : Int)) (h2 : (!(eqO (e[(((((k0 : Int)).toNat : Nat) : Int) + (m : Int)).toNat]!) (e[(((((k0 : Int)).toNat : Nat) : Int) + ((m : Int) - 1)).toNat]!))) = false) : C2 d nn k0 e k (m + 1) := by
  have hm := h.m1; have hh := h.hi
  have e1 : (((((k0 : Int)).toNat : Nat) : Int) + (m : Int)).toNat = k0 + m := by omega
  have e2 : (((((k0 : Int)).toNat : Nat) : Int) + ((m : Int) - 1)).toNat = k0 + m - 1 := by omega
  rw [e1, e2, h.up (k0 + m) (by omega), h.up (k0 + m - 1) (by omega)] at h2
  have h3 : eqO (d[k0 + m]!) (d[k0 + m - 1]!) = true := by revert h2; cases eqO (d[k0 + m]!) (d[k0 + m - 1]!) <;> simp
  have ee := cA_dup (d := d) (i := k0 + m) (by omega) h3
  exact ⟨h.sz, h.lo, by omega, by omega, by omega, by rw [← Nat.add_assoc, ee, h.ln], fun p hp => by rw [← Nat.add_assoc, ee, h.at_ p hp], fun p hp => h.up p (by omega)⟩
theorem C2.new (h : C2 d nn k0 e k m) (hn : d.size = nn) (h0 : 1 ≤ k0) (h1 : (m : Int) < ((nn - ((k0 : Int)).toNat : Nat) : Int)) (h2 : (!(eqO (e[(((((k0 : Int)).toNat : Nat) : Int) + (m : Int)).toNat]!) (e[(((((k0 : Int)).toNat : Nat) : Int) + ((m : Int) - 1)).toNat]!))) = true) : C2 d nn k0 (e.setIfInBounds ((k : Int)).toNat (e[(((((k0 : Int)).toNat : Nat) : Int) + (m : Int)).toNat]!)) (k + 1) (m + 1) := by
  have hm := h.m1; have hh := h.hi; have hl := h.lo
  have e1 : (((((k0 : Int)).toNat : Nat) : Int) + (m : Int)).toNat = k0 + m := by omega
  have e2 : (((((k0 : Int)).toNat : Nat) : Int) + ((m : Int) - 1)).toNat = k0 + m - 1 := by omega
  rw [e1, e2, h.up (k0 + m - 1) (by omega), h.up (k0 + m) (by omega)] at h2
  rw [e1, Int.toNat_natCast, h.up (k0 + m) (by omega)]
  have h3 : eqO (d[k0 + m]!) (d[k0 + m - 1]!) = false := by revert h2; cases eqO (d[k0 + m]!) (d[k0 + m - 1]!) <;> simp
  have ee := cA_new (d := d) (i := k0 + m) h3
  have hk : k < e.size := by rw [h.sz, hn]; omega
  refine ⟨by rw [asz, h.sz], by omega, by omega, by omega, by omega, by rw [← Nat.add_assoc, ee, List.length_append, h.ln]; rfl, fun p hp => ?_, fun p hp => ?_⟩
  · rw [← Nat.add_assoc, ee]
    by_cases hpk : p = k
    · subst hpk
      rw [aset_at hk]
      have := getD_app_1 (l := cA d (k0 + m)) (x := d[k0 + m]!) (d := oz)
      rw [h.ln] at this; exact this.symm
    · rw [aset_ne hpk, h.at_ p (by omega), getD_app_l (by rw [h.ln]; omega)]
  · rw [aset_ne (by omega), h.up p (by omega)]
theorem C2.done (h : C2 d nn k0 e k m) (h1 : ¬ (m : Int) < ((nn - ((k0 : Int)).toNat : Nat) : Int)) : (cA d nn).length = k ∧ ∀ p, p < k → (cA d nn).getD p oz = e[p]! := by
  have hmn := h.mn
  have : k0 + m = nn := by omega
  subst this
  exact ⟨h.ln, fun p hp => (h.at_ p hp).symm⟩
theorem cA_small (h : ((nn : Nat) : Int) < 2) : (cA d nn).length = nn ∧ ∀ p, p < nn → (cA d nn).getD p oz = d[p]! := by
  have : nn = 0 ∨ nn = 1 := by omega
  rcases this with rfl | rfl
  · exact ⟨rfl, fun p hp => by omega⟩
  · rw [cA_one]; exact ⟨rfl, fun p hp => by have : p = 0 := by omega
                                            subst this; rfl⟩
end
theorem pdq2_ (d : Array O) (lim : Int) (hn : d.size = 2) : Fn Tryz.prog 207 [.sl 0 2 0, .int .i64 0, .int .i64 2, .int .i64 lim, .fn 163 []] [some (.row 93 27 2 0 (fun zz => oc (d[zz]!)))] (Rt (.tup []) [some (.row 93 27 2 0 (fun zz => oc ((Go.Sort.insertionSort lessO d 0 2)[zz]!)))]) :=
 enterM (n := 148) (by kernel_rfl) Tryz.func207 rfl rfl rfl fun G w a h0 A => N hX 11 A rfl rfl fun A => LOOP1 (fun (u : Nat) => [(0, .sl 0 2 0), (1, .int .i64 0), (2, .int .i64 2), (3, .int .i64 lim), (4, .fn 163 []), (10, .tt), (11, .tt)]) (fun (u : Nat) => [some (.row 93 27 2 0 (fun zz => oc (d[zz]!)))]) (fun (u : Nat) => u = 0) (fun (u : Nat) => 0) 0 rfl ((A.cut [0, 1, 2, 3, 4, 10, 11] rfl).trunc 1 rfl rfl rfl (by simp only [List.length_cons, List.length_nil] at h0; omega)) fun u hI {G a w} A => N hX 11 A rfl (ok_d (by omega) <| okE_nil) fun A => N hX 5 A rfl rfl fun A => forkD 25 A rfl
   (fun h1 A => N hX 7 A rfl rfl fun A => CALL1 [0] (isort_i d 2 0 2 (by omega) (by omega) hn (by omega) (by omega) (by omega)) A rfl rfl rfl rfl rfl rfl rfl fun A => N hX 3 A rfl rfl fun A => RETN hX A rfl rfl rfl h0 rfl rfl rfl rfl rfl rfl)
   (fun h1 A => absurd (by decide) h1)
theorem sortf2_ (d : Array O) (hn : d.size = 2) : Fn Tryz.prog 162 [.sl 0 2 0, .fn 163 []] [some (.row 93 27 2 0 (fun zz => oc (d[zz]!)))] (Rt (.tup []) [some (.row 93 27 2 0 (fun zz => oc ((Go.Sort.insertionSort lessO d 0 2)[zz]!)))]) :=
 enterM (n := 14) (by kernel_rfl) Tryz.func162 rfl rfl rfl fun G w a h0 A => N hX 12 A rfl rfl fun A => CALL1 [] (len_w 2 (by decide) (wu64 (by decide))) A rfl rfl rfl rfl rfl rfl rfl fun A => N hX 1 A rfl rfl fun A => CALL1 [0] (pdq2_ d ((Go.Sort.bitsLen 2 : Nat) : Int) hn) A rfl rfl rfl rfl rfl rfl rfl fun A => N hX 1 A rfl rfl fun A => ENDN (RETN hX A rfl rfl rfl h0 rfl rfl rfl rfl rfl rfl)
theorem clone_ (os : List O) (c : Nat) (hs : os.length ≤ 1000000) : Fn Tryz.prog 161 [.sl 0 os.length c] [some (.lst 27 os.length (fun zz => oc (os.getD zz oz)))] (Rt (.sl 1 os.length 0) [some (.lst 27 os.length (fun zz => oc (os.getD zz oz))), some (.row 93 27 os.length 0 (fun zz => oc (os.toArray[zz]!)))]) :=
 enterM (n := 8) (by kernel_rfl) Tryz.func161 rfl rfl rfl fun G w a h0 A => N hX 9 A rfl rfl fun A => NILL hX A rfl rfl (fun h1 {G a w} A => N hX 9 A rfl rfl fun A => have A := A.nilRow 2 93 27 (fun zz => oc (os.toArray[zz]!)) rfl (fun z => ⟨_, rfl, rfl⟩); have A := A.rowAs 1 os.length (fun zz => oc (os.toArray[zz]!)) rfl h1 (fun _ _ => rfl) (fun z => ⟨_, rfl, rfl⟩); have A := A.say 2 (.sl 1 os.length 0) rfl (by rw [h1]; rfl); RET hX [1] A ⟨rfl, rfl⟩ rfl rfl rfl rfl rfl rfl rfl rfl h0) (fun {G a w} A => N hX 9 A rfl rfl fun A => APPL hX os.length (fun zz => oc (os.toArray[zz]!)) A rfl rfl rfl rfl (Nat.le_refl _) (by omega) hs (by omega) (fun k hk => by omega) (fun k hk => by show oc _ = oc _; rw [Nat.zero_add, arr_l]) (fun z => ⟨_, rfl, rfl⟩) (fun k hk => ⟨_, rfl, okE_nil⟩) fun A => N hX 4 A rfl rfl fun A => RET hX [2] A ⟨rfl, rfl⟩ rfl rfl rfl rfl rfl rfl rfl rfl h0)
theorem compact_ (d : Array O) (nn : Nat) (hn : d.size = nn) (hs : nn ≤ 1000000) : Fn Tryz.prog 164 [.sl 0 nn 0] [some (.row 93 27 nn 0 (fun zz => oc (d[zz]!)))] (Rt (.sl 0 ((cA d nn).length) 0) [some (.row 93 27 ((cA d nn).length) 0 (fun zz => oc ((cA d nn).getD zz oz)))]) :=
 enterM (n := 61) (by kernel_rfl) Tryz.func164 rfl rfl rfl fun G w a h0 A => N hX 13 A rfl rfl fun A => forkD 8 A rfl
  (fun h1 A => N hX 8 A rfl rfl fun A => have hf := cA_small (d := d) h1; have A := A.rowAs 0 (cA d nn).length (fun zz => oc ((cA d nn).getD zz oz)) rfl (by rw [hf.1]; (try rfl); (try simp)) (fun q hq => by show oc _ = oc _; rw [hf.2 q (by simpa using hq)]) (fun z => ⟨_, rfl, rfl⟩); have A := A.say 2 (.sl 0 (cA d nn).length 0) rfl (by rw [hf.1]; (try rfl); (try simp)); RETN hX A rfl rfl rfl h0 rfl rfl rfl rfl rfl rfl)
  (fun h1 A => N hX 10 A rfl rfl fun A => LOOP1 (fun (k : Nat) => [(0, .sl 0 nn 0), (2, .sla none 0 0), (3, .int .i64 (k : Int))]) (fun (k : Nat) => [some (.row 93 27 nn 0 (fun zz => oc (d[zz]!)))]) (fun (k : Nat) => C1 d nn k) (fun (k : Nat) => nn - k) 1 (C1.init h1) ((A.cut [0, 2, 3] rfl).trunc 1 rfl rfl rfl (by simp only [List.length_cons, List.length_nil] at h0; omega)) fun k hI {G a w} A => N hX 9 A rfl rfl fun A => forkD 13 A rfl
    (fun h2 A => N hX 6 A rfl rfl fun A => DRAWN hX hmo [] [] A rfl (ok_d (by have := hI.lo; have := hI.hi; omega) <| ok_d (by have := hI.lo; have := hI.hi; omega) <| ok_d (by have := hI.lo; have := hI.hi; omega) <| ok_d (by have := hI.lo; have := hI.hi; omega) <| ok_d (by have := hI.lo; have := hI.hi; omega) <| okE_nil) rfl rfl (by kernel_rfl) (effAll_nil _ _) trivial fun A => N hX 1 A rfl rfl fun A => fork 25 A rfl
     (fun h3 A => N hX 11 A rfl (ok_d (by have := hI.lo; have := hI.hi; omega) <| okE_nil) fun A => N hX 5 A rfl rfl fun A => LOOP3 (fun (q : Nat) (m : Nat) (e : Array O) => [(0, .sl 0 nn 0), (2, .sla none 0 0), (3, .int .i64 (q : Int)), (4, .st 0 27 (((k : Int)).toNat) (nn - ((k : Int)).toNat) 0), (5, .int .i64 (m : Int))]) (fun (q : Nat) (m : Nat) (e : Array O) => [some (.row 93 27 nn 0 (fun zz => oc (e[zz]!)))]) (fun (q : Nat) (m : Nat) (e : Array O) => C2 d nn k e q m) (fun (q : Nat) (m : Nat) (e : Array O) => nn - m) k 1 d (hI.enter h2 h3) ((A.cut [0, 2, 3, 4, 5] rfl).trunc 1 rfl rfl rfl (by simp only [List.length_cons, List.length_nil] at h0; omega)) fun q m e hJ {G a w} A => N hX 9 A rfl rfl fun A => forkD 32 A rfl
       (fun h4 A => N hX 6 A rfl rfl fun A => DRAWN hX hmo [] [] A rfl (ok_d (by have := hI.lo; have := hI.hi; have := hJ.lo; have := hJ.hi; have := hJ.m1; have := hJ.mn; omega) <| ok_d (by have := hI.lo; have := hI.hi; have := hJ.lo; have := hJ.hi; have := hJ.m1; have := hJ.mn; omega) <| ok_d (by have := hI.lo; have := hI.hi; have := hJ.lo; have := hJ.hi; have := hJ.m1; have := hJ.mn; omega) <| ok_d (by have := hI.lo; have := hI.hi; have := hJ.lo; have := hJ.hi; have := hJ.m1; have := hJ.mn; omega) <| ok_d (by have := hI.lo; have := hI.hi; have := hJ.lo; have := hJ.hi; have := hJ.m1; have := hJ.mn; omega) <| okE_nil) rfl rfl (by kernel_rfl) (effAll_nil _ _) trivial fun A => N hX 1 A rfl rfl fun A => fork 44 A rfl
        (fun h5 A => N hX 10 A rfl (ok_d (by have := hI.lo; have := hI.hi; have := hJ.lo; have := hJ.hi; have := hJ.m1; have := hJ.mn; omega) <| ok_d (by have := hI.lo; have := hI.hi; have := hJ.lo; have := hJ.hi; have := hJ.m1; have := hJ.mn; omega) <| ok_d (by have := hI.lo; have := hI.hi; have := hJ.lo; have := hJ.hi; have := hJ.m1; have := hJ.mn; omega) <| okE_nil) fun A => STR (i := 0) (e := 93) (s := 27) (m := nn) (c := 0) hX (((q : Int)).toNat) (fun zz => oc ((e.setIfInBounds ((q : Int)).toNat (e[(((((k : Int)).toNat : Nat) : Int) + (m : Int)).toNat]!))[zz]!)) A rfl rfl rfl (by have := hI.lo; have := hI.hi; have := hJ.lo; have := hJ.hi; have := hJ.m1; have := hJ.mn; omega) (fun z hz => by show oc _ = oc _; rw [aset_ne hz]) (by show _ = some (oc _); rw [aset_at (by (try simp only [asz]); rw [hJ.sz, hn]; have := hI.lo; have := hI.hi; have := hJ.lo; have := hJ.hi; have := hJ.m1; have := hJ.mn; omega)]; rfl) fun A => N hX 9 A rfl (ok_d (by have := hI.lo; have := hI.hi; have := hJ.lo; have := hJ.hi; have := hJ.m1; have := hJ.mn; omega) <| okE_nil) fun A => N hX 5 A rfl (ok_d (by have := hI.lo; have := hI.hi; have := hJ.lo; have := hJ.hi; have := hJ.m1; have := hJ.mn; omega) <| okE_nil) fun A => ⟨q + 1, m + 1, e.setIfInBounds ((q : Int)).toNat (e[(((((k : Int)).toNat : Nat) : Int) + (m : Int)).toNat]!), _, (by omega), (hJ.new hn hI.lo h4 h5), ((A.cut [0, 2, 3, 4, 5] rfl).trunc 1 rfl rfl rfl (by simp only [List.length_cons, List.length_nil] at h0; omega))⟩)
        (fun h5 A => N hX 9 A rfl (ok_d (by have := hI.lo; have := hI.hi; have := hJ.lo; have := hJ.hi; have := hJ.m1; have := hJ.mn; omega) <| okE_nil) fun A => ⟨q, m + 1, e, _, (by omega), (hJ.same hI.lo h4 h5), ((A.cut [0, 2, 3, 4, 5] rfl).trunc 1 rfl rfl rfl (by simp only [List.length_cons, List.length_nil] at h0; omega))⟩))
       (fun h4 A => N hX 8 A rfl (ok_d (by have := hI.lo; have := hI.hi; have := hJ.lo; have := hJ.hi; have := hJ.m1; have := hJ.mn; omega) <| okE_nil) fun A => CLR hX A rfl (by have := hI.lo; have := hI.hi; have := hJ.lo; have := hJ.hi; have := hJ.m1; have := hJ.mn; omega) fun A => N hX 11 A rfl (ok_d (by show 0 ≤ (q : Int) ∧ (q : Int) ≤ ((((q : Int)).toNat : Nat) : Int); exact (by have := hI.lo; have := hI.hi; have := hJ.lo; have := hJ.hi; have := hJ.m1; have := hJ.mn; omega)) <| okE_nil) fun A => have hf := hJ.done h4; have A := A.rowAs 0 (cA d nn).length (fun zz => oc ((cA d nn).getD zz oz)) rfl (by rw [hf.1]; (try rfl); (try simp)) (fun q hq => by show oc _ = oc _; rw [hf.2 q (by simpa using hq)]) (fun z => ⟨_, rfl, rfl⟩); have A := A.say 2 (.sl 0 (cA d nn).length 0) rfl (by rw [hf.1]; (try rfl); (try simp)); RETN hX A rfl rfl rfl h0 rfl rfl rfl rfl rfl rfl))
     (fun h3 A => N hX 9 A rfl (ok_d (by have := hI.lo; have := hI.hi; omega) <| okE_nil) fun A => ⟨k + 1, _, (by omega), (hI.step h2 h3), ((A.cut [0, 2, 3] rfl).trunc 1 rfl rfl rfl (by simp only [List.length_cons, List.length_nil] at h0; omega))⟩))
    (fun h2 A => N hX 10 A rfl rfl fun A => have hf := hI.done h2; have A := A.rowAs 0 (cA d nn).length (fun zz => oc ((cA d nn).getD zz oz)) rfl (by rw [hf.1]; (try rfl); (try simp)) (fun q hq => by show oc _ = oc _; rw [hf.2 q (by simpa using hq)]) (fun z => ⟨_, rfl, rfl⟩); have A := A.say 2 (.sl 0 (cA d nn).length 0) rfl (by rw [hf.1]; (try rfl); (try simp)); RETN hX A rfl rfl rfl h0 rfl rfl rfl rfl rfl rfl))
def oA : O := fun k => if k = 24 then 1 else 0
abbrev o2 : List O := [oz, oA]
theorem ins2 : Go.Sort.insertionSort lessO o2.toArray 0 2 = o2.toArray := by
  have h : insInner lessO 0 1 o2.toArray = o2.toArray := by
    have e : lessO (o2.toArray[0 + 1]!) (o2.toArray[0]!) = false := by decide
    rw [insInner, e]; rfl
  unfold Go.Sort.insertionSort
  rw [insOuter, if_pos (by decide), h, insOuter, if_neg (by decide)]
theorem cA2 : cA o2.toArray 2 = o2 := by
  have e : eqO (o2.toArray[1]!) (o2.toArray[1 - 1]!) = false := by decide
  rw [cA_new e, cA_one]; rfl
theorem fn_asH {P : Program} {f : Nat} {az : List SV} {H H2 H3 : Hp} {x : SV} (h : Fn P f az H (Rt x H2)) (e : H2 = H3) : Fn P f az H (Rt x H3) := e ▸ h
theorem fn_as {P : Program} {f : Nat} {az : List SV} {H H2 H3 : Hp} {x y : SV} (h : Fn P f az H (Rt x H2)) (d : x = y) (e : H2 = H3) : Fn P f az H (Rt y H3) := d ▸ e ▸ h
theorem clone2_ (c : Nat) : Fn Tryz.prog 161 [.sl 0 2 c] [some (.lst 27 2 (fun zz => oc (o2.getD zz oz)))] (Rt (.sl 1 2 0) [some (.lst 27 2 (fun zz => oc (o2.getD zz oz))), some (.row 93 27 2 0 (fun zz => oc (o2.toArray[zz]!)))]) := clone_ o2 c (by decide)
theorem sortf2A_  : Fn Tryz.prog 162 [.sl 0 2 0, .fn 163 []] [some (.row 93 27 2 0 (fun zz => oc (o2.toArray[zz]!)))] (Rt (.tup []) [some (.row 93 27 2 0 (fun zz => oc (o2.toArray[zz]!)))]) := fn_asH (sortf2_ o2.toArray rfl) (by rw [ins2])
theorem compact2_  : Fn Tryz.prog 164 [.sl 0 2 0] [some (.row 93 27 2 0 (fun zz => oc (o2.toArray[zz]!)))] (Rt (.sl 0 2 0) [some (.row 93 27 2 0 (fun zz => oc (o2.getD zz oz)))]) := fn_as (compact_ o2.toArray 2 rfl (by decide)) (by rw [cA2]; rfl) (by rw [cA2]; rfl)
theorem sort2_ (c : Nat)  : Fn Tryz.prog 104 [.sl 0 2 c] [some (.lst 27 2 (fun zz => oc (o2.getD zz oz)))] (Rt (.sl 1 2 0) [some (.lst 27 2 (fun zz => oc (o2.getD zz oz))), some (.row 93 27 2 0 (fun zz => oc (o2.getD zz oz)))]) :=
 enterM (n := 10) (by kernel_rfl) Tryz.func104 rfl rfl rfl fun G w a h0 A => N hX 8 A rfl rfl fun A => CALL1 [0] (clone2_ c) A rfl rfl rfl rfl rfl rfl rfl fun A => N hX 6 A rfl rfl fun A => CALL1 [1] sortf2A_ A rfl rfl rfl rfl rfl rfl rfl fun A => N hX 5 A rfl rfl fun A => CALL1 [1] compact2_ A rfl rfl rfl rfl rfl rfl rfl fun A => N hX 4 A rfl rfl fun A => RET hX [1] A ⟨rfl, rfl⟩ rfl rfl rfl rfl rfl rfl rfl rfl h0
end Go.Proofs.YtedlaclfhgneeabGreatDoor.Cd
namespace Go.Proofs.YtedlaclfhgneeabGreatDoor.Cd
open Go.RowKit
set_option linter.unusedVariables false
set_option linter.unusedSimpArgs false
set_option maxRecDepth 100000
set_option maxHeartbeats 2000000
set_option simprocs false
def _root_.Go.Proofs.YtedlaclfhgneeabGreatDoor.Cn.n (c : Cn) : Int := one0 c.k c.t c.r c.l c.v
def rightGo : List Cn → Int → Bool
 | [], h => h == 1
 | c :: r, h => if c.n < 0 ∨ c.n > h then false else rightGo r (h - c.n + 1)
def right (cs : List Cn) : Bool := if cs.length < 1 ∨ cs.length > 32 then false else rightGo cs 0
def RI (cs : List Cn) (i : Nat) (hv : Int) : Prop := i ≤ cs.length ∧ cs.length ≤ 32 ∧ 0 ≤ hv ∧ hv ≤ i ∧ right cs = rightGo (cs.drop i) hv
theorem RI.at {cs : List Cn} {i : Nat} {hv : Int} (h : RI cs i hv) (h2 : (i : Int) < (cs.length : Int)) : right cs = if (cs.getD ((i : Int)).toNat Cn.z).n < 0 ∨ (cs.getD ((i : Int)).toNat Cn.z).n > hv then false else rightGo (cs.drop (i + 1)) (hv - (cs.getD ((i : Int)).toNat Cn.z).n + 1) := by
  have hi : i < cs.length := by omega
  have e : cs.drop i = cs[i] :: cs.drop (i + 1) := List.drop_eq_getElem_cons hi
  have hg : cs.getD ((i : Int)).toNat Cn.z = cs[i] := by simp [List.getD, hi]
  rw [h.2.2.2.2, e, hg, rightGo]
theorem RI.done {cs : List Cn} {i : Nat} {hv : Int} (h : RI cs i hv) (h2 : ¬ (i : Int) < (cs.length : Int)) : right cs = (hv == 1) := by
  have : cs.drop i = [] := List.drop_eq_nil_of_le (by have := h.1; omega)
  rw [h.2.2.2.2, this, rightGo]
end Go.Proofs.YtedlaclfhgneeabGreatDoor.Cd
namespace Go.Proofs.YtedlaclfhgneeabGreatDoor.Cd
open Go.RowKit
set_option linter.unusedVariables false
set_option linter.unusedSimpArgs false
set_option maxRecDepth 100000
set_option maxHeartbeats 2000000
set_option simprocs false
end Go.Proofs.YtedlaclfhgneeabGreatDoor.Cd
namespace Go.Proofs.YtedlaclfhgneeabGreatDoor.Cd
open Go.RowKit
set_option linter.unusedVariables false
set_option linter.unusedSimpArgs false
set_option maxRecDepth 100000
set_option maxHeartbeats 2000000
set_option simprocs false
end Go.Proofs.YtedlaclfhgneeabGreatDoor.Cd
namespace Go.Proofs.YtedlaclfhgneeabGreatDoor.Cd
open Go.RowKit
set_option linter.unusedVariables false
set_option linter.unusedSimpArgs false
set_option maxRecDepth 100000
set_option maxHeartbeats 2000000
set_option simprocs false
end Go.Proofs.YtedlaclfhgneeabGreatDoor.Cd
namespace Go.Proofs.YtedlaclfhgneeabGreatDoor.Cd
open Go.RowKit
set_option linter.unusedVariables false
set_option linter.unusedSimpArgs false
set_option maxRecDepth 100000
set_option maxHeartbeats 2000000
set_option simprocs false
def stepL (p : O) (c : Cn) (l : List Bool) : List Bool := if c.k = 1 then l ++ [([[(p 0), (p 1), (p 2), (p 3), (p 4), (p 5), (p 6), (p 7)].getD (c.r).toNat 0, [(p 8), (p 9), (p 10), (p 11), (p 12), (p 13), (p 14), (p 15)].getD (c.r).toNat 0, [(p 16), (p 17), (p 18), (p 19), (p 20), (p 21), (p 22), (p 23)].getD (c.r).toNat 0].getD (c.t).toNat 0) == (c.v)] else if c.k = 2 then l ++ [([(p 24), (p 25), (p 26)].getD (c.l).toNat 0) == (c.v)] else if c.k = 3 then l.set (l.length - 1) (!((l).getD ((((l.length : Nat) : Int) - 1).toNat) false)) else if c.k = 4 then (l.set (l.length - 2) (((l).getD ((((l.length : Nat) : Int) - 2).toNat) false) && ((l).getD ((((l.length : Nat) : Int) - 1).toNat) false))).take (l.length - 1) else if c.k = 5 then (l.set (l.length - 2) (((l).getD ((((l.length : Nat) : Int) - 2).toNat) false) || ((l).getD ((((l.length : Nat) : Int) - 1).toNat) false))).take (l.length - 1) else l
theorem st1 {p : O} {c : Cn} {l : List Bool} (h : c.k = 1) : stepL p c l = l ++ [([[(p 0), (p 1), (p 2), (p 3), (p 4), (p 5), (p 6), (p 7)].getD (c.r).toNat 0, [(p 8), (p 9), (p 10), (p 11), (p 12), (p 13), (p 14), (p 15)].getD (c.r).toNat 0, [(p 16), (p 17), (p 18), (p 19), (p 20), (p 21), (p 22), (p 23)].getD (c.r).toNat 0].getD (c.t).toNat 0) == (c.v)] := by unfold stepL; rw [if_pos h]
theorem st2 {p : O} {c : Cn} {l : List Bool} (h : c.k = 2) : stepL p c l = l ++ [([(p 24), (p 25), (p 26)].getD (c.l).toNat 0) == (c.v)] := by unfold stepL; rw [if_neg (by omega), if_pos h]
theorem st3 {p : O} {c : Cn} {l : List Bool} (h : c.k = 3) : stepL p c l = l.set (l.length - 1) (!((l).getD ((((l.length : Nat) : Int) - 1).toNat) false)) := by unfold stepL; rw [if_neg (by omega), if_neg (by omega), if_pos h]
theorem st4 {p : O} {c : Cn} {l : List Bool} (h : c.k = 4) : stepL p c l = (l.set (l.length - 2) (((l).getD ((((l.length : Nat) : Int) - 2).toNat) false) && ((l).getD ((((l.length : Nat) : Int) - 1).toNat) false))).take (l.length - 1) := by unfold stepL; rw [if_neg (by omega), if_neg (by omega), if_neg (by omega), if_pos h]
theorem st5 {p : O} {c : Cn} {l : List Bool} (h : c.k = 5) : stepL p c l = (l.set (l.length - 2) (((l).getD ((((l.length : Nat) : Int) - 2).toNat) false) || ((l).getD ((((l.length : Nat) : Int) - 1).toNat) false))).take (l.length - 1) := by unfold stepL; rw [if_neg (by omega), if_neg (by omega), if_neg (by omega), if_neg (by omega), if_pos h]
def evalB (p : O) (cs : List Cn) : Bool := if right cs = true then (cs.foldl (fun l c => stepL p c l) []).getD 0 false else false
theorem cn_kind {c : Cn} (h : ¬ c.n < 0) : (c.k = 1 ∧ c.n = 0 ∧ 0 ≤ c.t ∧ c.t < 3 ∧ 0 ≤ c.r ∧ c.r < 8) ∨ (c.k = 2 ∧ c.n = 0 ∧ 0 ≤ c.l ∧ c.l < 3) ∨ (c.k = 3 ∧ c.n = 1) ∨ (c.k = 4 ∧ c.n = 2) ∨ (c.k = 5 ∧ c.n = 2) := by
  unfold Go.Proofs.YtedlaclfhgneeabGreatDoor.Cn.n at *
  unfold one0 at *
  by_cases h1 : c.k = 1
  · rw [if_pos h1] at h ⊢
    left
    split at h
    · next hh =>
      simp only [Bool.and_eq_true, decide_eq_true_eq, ge_iff_le] at hh
      rw [if_pos (by simp only [Bool.and_eq_true, decide_eq_true_eq, ge_iff_le]; exact hh)]
      split at h
      · omega
      · next hz => rw [if_neg hz]; omega
    · omega
  rw [if_neg h1] at h ⊢
  by_cases h2 : c.k = 2
  · rw [if_pos h2] at h ⊢
    right; left
    split at h
    · next hh =>
      rw [if_pos hh]
      simp only [Bool.and_eq_true, decide_eq_true_eq, ge_iff_le] at hh
      split at h
      · omega
      · next hz => rw [if_neg hz]; omega
    · omega
  rw [if_neg h2] at h ⊢
  by_cases h3 : c.k = 3
  · rw [if_pos h3] at h ⊢
    split at h
    · omega
    · next hz => rw [if_neg hz]; omega
  rw [if_neg h3] at h ⊢
  by_cases h4 : c.k = 4
  · rw [if_pos h4] at h ⊢
    split at h
    · omega
    · next hz => rw [if_neg hz]; omega
  rw [if_neg h4] at h ⊢
  by_cases h5 : c.k = 5
  · rw [if_pos h5] at h ⊢
    split at h
    · omega
    · next hz => rw [if_neg hz]; omega
  rw [if_neg h5] at h
  omega
structure EI (p : O) (cs : List Cn) (l : List Bool) (i : Nat) : Prop where
  le : i ≤ cs.length
  ll : l.length ≤ i
  rt : rightGo (cs.drop i) (l.length : Int) = true
  eq : l = (cs.take i).foldl (fun l c => stepL p c l) []
section
variable {p : O} {cs : List Cn} {l : List Bool} {i : Nat}
theorem right_of (h1 : (!(right cs)) = false) : right cs = true := by cases h : right cs <;> simp [h] at h1 ⊢
theorem EI.init (h1 : (!(right cs)) = false) : EI p cs [] 0 := by
  have h := right_of h1
  unfold right at h
  split at h
  · cases h
  · exact ⟨by omega, by simp, by simpa using h, rfl⟩
theorem EI.at (hI : EI p cs l i) (h2 : (i : Int) < ((cs.length : Nat) : Int)) : ¬ ((cs.getD ((i : Int)).toNat Cn.z).n < 0 ∨ (cs.getD ((i : Int)).toNat Cn.z).n > (l.length : Int)) ∧ rightGo (cs.drop (i + 1)) ((l.length : Int) - (cs.getD ((i : Int)).toNat Cn.z).n + 1) = true := by
  have hi : i < cs.length := by omega
  have e : cs.drop i = cs[i] :: cs.drop (i + 1) := List.drop_eq_getElem_cons hi
  have hg : (cs.getD ((i : Int)).toNat Cn.z) = cs[i] := by simp [List.getD, hi]
  have h := hI.rt
  rw [e, rightGo] at h
  rw [hg]
  split at h
  · cases h
  · next hh => exact ⟨hh, h⟩
theorem EI.n4 (hI : EI p cs l i) (h1 : (!(right cs)) = false) (h2 : (i : Int) < ((cs.length : Nat) : Int)) (h : (cs.getD ((i : Int)).toNat Cn.z).k = 4) : 2 ≤ l.length ∧ (cs.getD ((i : Int)).toNat Cn.z).n = 2 := by have h3 := (hI.at h2).1; have := cn_kind (fun h => (hI.at h2).1 (.inl h)); omega
theorem EI.n5 (hI : EI p cs l i) (h1 : (!(right cs)) = false) (h2 : (i : Int) < ((cs.length : Nat) : Int)) (h : (cs.getD ((i : Int)).toNat Cn.z).k = 5) : 2 ≤ l.length ∧ (cs.getD ((i : Int)).toNat Cn.z).n = 2 := by have h3 := (hI.at h2).1; have := cn_kind (fun h => (hI.at h2).1 (.inl h)); omega
theorem EI.len1 (hI : EI p cs l i) (h1 : (!(right cs)) = false) (h2 : (i : Int) < ((cs.length : Nat) : Int)) (h : (cs.getD ((i : Int)).toNat Cn.z).k = 1) : (stepL p (cs.getD ((i : Int)).toNat Cn.z) l).length = l.length + 1 := by rw [st1 h, List.length_append]; rfl
theorem EI.len2 (hI : EI p cs l i) (h1 : (!(right cs)) = false) (h2 : (i : Int) < ((cs.length : Nat) : Int)) (h : (cs.getD ((i : Int)).toNat Cn.z).k = 2) : (stepL p (cs.getD ((i : Int)).toNat Cn.z) l).length = l.length + 1 := by rw [st2 h, List.length_append]; rfl
theorem EI.len3 (hI : EI p cs l i) (h1 : (!(right cs)) = false) (h2 : (i : Int) < ((cs.length : Nat) : Int)) (h : (cs.getD ((i : Int)).toNat Cn.z).k = 3) : (stepL p (cs.getD ((i : Int)).toNat Cn.z) l).length = l.length := by rw [st3 h, List.length_set]
theorem EI.len4 (hI : EI p cs l i) (h1 : (!(right cs)) = false) (h2 : (i : Int) < ((cs.length : Nat) : Int)) (h : (cs.getD ((i : Int)).toNat Cn.z).k = 4) : (stepL p (cs.getD ((i : Int)).toNat Cn.z) l).length = l.length - 1 := by rw [st4 h, List.length_take, List.length_set]; omega
theorem EI.len5 (hI : EI p cs l i) (h1 : (!(right cs)) = false) (h2 : (i : Int) < ((cs.length : Nat) : Int)) (h : (cs.getD ((i : Int)).toNat Cn.z).k = 5) : (stepL p (cs.getD ((i : Int)).toNat Cn.z) l).length = l.length - 1 := by rw [st5 h, List.length_take, List.length_set]; omega
theorem EI.next (hI : EI p cs l i) (h1 : (!(right cs)) = false) (h2 : (i : Int) < ((cs.length : Nat) : Int)) : EI p cs (stepL p (cs.getD ((i : Int)).toNat Cn.z) l) (i + 1) := by
  have hi : i < cs.length := by omega
  have hg : (cs.getD ((i : Int)).toNat Cn.z) = cs[i] := by simp [List.getD, hi]
  have ⟨k1, k2⟩ := hI.at h2
  have hl : ((stepL p (cs.getD ((i : Int)).toNat Cn.z) l).length : Int) = (l.length : Int) - (cs.getD ((i : Int)).toNat Cn.z).n + 1 := by
    rcases cn_kind (fun h => k1 (.inl h)) with h | h | h | h | h
    · rw [hI.len1 h1 h2 h.1]; omega
    · rw [hI.len2 h1 h2 h.1]; omega
    · rw [hI.len3 h1 h2 h.1]; omega
    · rw [hI.len4 h1 h2 h.1]; have := hI.n4 h1 h2 h.1; omega
    · rw [hI.len5 h1 h2 h.1]; have := hI.n5 h1 h2 h.1; omega
  refine ⟨hi, by have := hI.ll; omega, by rw [hl]; exact k2, ?_⟩
  rw [List.take_succ_eq_append_getElem hi, List.foldl_append, ← hI.eq, hg]; rfl
theorem EI.fin (hI : EI p cs l i) (h2 : ¬ (i : Int) < ((cs.length : Nat) : Int)) : l.length = 1 := by
  have h := hI.rt
  rw [List.drop_eq_nil_of_le (by omega), rightGo, beq_iff_eq] at h
  omega
theorem EI.done (hI : EI p cs l i) (h1 : (!(right cs)) = false) (h2 : ¬ (i : Int) < ((cs.length : Nat) : Int)) : evalB p cs = l.getD 0 false := by
  unfold evalB
  rw [if_pos (right_of h1)]
  have h := hI.eq
  rw [List.take_of_length_le (by omega)] at h
  rw [← h]
end
end Go.Proofs.YtedlaclfhgneeabGreatDoor.Cd
namespace Go.Proofs.YtedlaclfhgneeabGreatDoor.Cd
open Go.RowKit
set_option linter.unusedVariables false
set_option linter.unusedSimpArgs false
set_option maxRecDepth 100000
set_option maxHeartbeats 2000000
set_option simprocs false
abbrev cc (c : Cn) : List SV := [.int .i64 c.k, .int .i64 c.t, .int .i64 c.r, .int .i64 c.l, .int .i64 c.v]
set_option simprocs true in
theorem nd_any (c : Cn) : (node0 c.k c.t c.r c.l c.v = true ∧ c.n = parts0 c.k) ∨ (node0 c.k c.t c.r c.l c.v = false ∧ c.n = -1) := by
  unfold Cn.n one0 node0 parts0
  by_cases h1 : c.k = 1
  · by_cases a1 : 0 ≤ c.t <;> by_cases a2 : c.t < 3 <;> by_cases a3 : 0 ≤ c.r <;> by_cases a4 : c.r < 8 <;> by_cases a5 : c.l = 0 <;> simp [h1, a1, a2, a3, a4, a5]
  by_cases h2 : c.k = 2
  · by_cases a1 : 0 ≤ c.l <;> by_cases a2 : c.l < 3 <;> by_cases a3 : c.t = 0 <;> by_cases a4 : c.r = 0 <;> simp [h2, a1, a2, a3, a4]
  by_cases h3 : c.k = 3
  · by_cases a1 : c.t = 0 <;> by_cases a2 : c.r = 0 <;> by_cases a3 : c.l = 0 <;> by_cases a4 : c.v = 0 <;> simp [h3, a1, a2, a3, a4]
  by_cases h4 : c.k = 4
  · by_cases a1 : c.t = 0 <;> by_cases a2 : c.r = 0 <;> by_cases a3 : c.l = 0 <;> by_cases a4 : c.v = 0 <;> simp [h4, a1, a2, a3, a4]
  by_cases h5 : c.k = 5
  · by_cases a1 : c.t = 0 <;> by_cases a2 : c.r = 0 <;> by_cases a3 : c.l = 0 <;> by_cases a4 : c.v = 0 <;> simp [h5, a1, a2, a3, a4]
  simp [h1, h2, h3, h4, h5]
theorem parts_rng (k : Int) : 0 ≤ parts0 k ∧ parts0 k ≤ 2 := by unfold parts0; split <;> (try split) <;> (try split) <;> omega
theorem nd_t {c : Cn} (h : node0 c.k c.t c.r c.l c.v = true) : c.n = parts0 c.k ∧ 0 ≤ parts0 c.k ∧ parts0 c.k ≤ 2 := by
  rcases nd_any c with h1 | h1
  · exact ⟨h1.2, parts_rng _⟩
  · rw [h] at h1; cases h1.1
theorem nd_f {c : Cn} (h : node0 c.k c.t c.r c.l c.v = false) : c.n < 0 := by
  rcases nd_any c with h1 | h1
  · rw [h] at h1; cases h1.1
  · omega
section
variable {L : List Cn} {n i : Nat} {hv : Int}
theorem RI.get (h : RI (L.take n) i hv) (hn : n ≤ L.length) (h1 : (i : Int) < ((n : Nat) : Int)) : (L.take n).getD ((i : Int)).toNat Cn.z = (L.getD ((i : Int)).toNat Cn.z) := getD_take (by omega)
theorem RI.b0 (h : ¬ ((n : Nat) : Int) > 32) (hn : n ≤ L.length) : RI (L.take n) 0 0 := by
  have hl : (L.take n).length = n := by simp; omega
  refine ⟨by omega, by omega, by omega, by omega, ?_⟩
  unfold right
  split
  · next hh =>
    have : n = 0 := by omega
    subst this
    rw [List.take_zero, List.drop_nil, rightGo]; rfl
  · rfl
theorem RI.bad (h : RI (L.take n) i hv) (hn : n ≤ L.length) (h1 : (i : Int) < ((n : Nat) : Int)) (h2 : (!(node0 (L.getD ((i : Int)).toNat Cn.z).k (L.getD ((i : Int)).toNat Cn.z).t (L.getD ((i : Int)).toNat Cn.z).r (L.getD ((i : Int)).toNat Cn.z).l (L.getD ((i : Int)).toNat Cn.z).v)) = true) : right (L.take n) = false := by
  have hl : (L.take n).length = n := by simp; omega
  have e := h.get hn h1
  have := nd_f (c := (L.getD ((i : Int)).toNat Cn.z)) (by revert h2; cases node0 (L.getD ((i : Int)).toNat Cn.z).k (L.getD ((i : Int)).toNat Cn.z).t (L.getD ((i : Int)).toNat Cn.z).r (L.getD ((i : Int)).toNat Cn.z).l (L.getD ((i : Int)).toNat Cn.z).v <;> simp)
  have ha := h.at (by rw [hl]; exact h1)
  rw [e, if_pos (.inl this)] at ha
  exact ha
theorem RI.bad2 (h : RI (L.take n) i hv) (hn : n ≤ L.length) (h1 : (i : Int) < ((n : Nat) : Int)) (h2 : (!(node0 (L.getD ((i : Int)).toNat Cn.z).k (L.getD ((i : Int)).toNat Cn.z).t (L.getD ((i : Int)).toNat Cn.z).r (L.getD ((i : Int)).toNat Cn.z).l (L.getD ((i : Int)).toNat Cn.z).v)) = false) (h3 : hv < parts0 (L.getD ((i : Int)).toNat Cn.z).k) : right (L.take n) = false := by
  have hl : (L.take n).length = n := by simp; omega
  have e := h.get hn h1
  have hq := nd_t (c := (L.getD ((i : Int)).toNat Cn.z)) (by revert h2; cases node0 (L.getD ((i : Int)).toNat Cn.z).k (L.getD ((i : Int)).toNat Cn.z).t (L.getD ((i : Int)).toNat Cn.z).r (L.getD ((i : Int)).toNat Cn.z).l (L.getD ((i : Int)).toNat Cn.z).v <;> simp)
  have ha := h.at (by rw [hl]; exact h1)
  rw [e, if_pos (.inr (by omega))] at ha
  exact ha
theorem RI.go (h : RI (L.take n) i hv) (hn : n ≤ L.length) (h1 : (i : Int) < ((n : Nat) : Int)) (h2 : (!(node0 (L.getD ((i : Int)).toNat Cn.z).k (L.getD ((i : Int)).toNat Cn.z).t (L.getD ((i : Int)).toNat Cn.z).r (L.getD ((i : Int)).toNat Cn.z).l (L.getD ((i : Int)).toNat Cn.z).v)) = false) (h3 : ¬ hv < parts0 (L.getD ((i : Int)).toNat Cn.z).k) : RI (L.take n) (i + 1) (hv + (1 - parts0 (L.getD ((i : Int)).toNat Cn.z).k)) := by
  have hl : (L.take n).length = n := by simp; omega
  have e := h.get hn h1
  have hq := nd_t (c := (L.getD ((i : Int)).toNat Cn.z)) (by revert h2; cases node0 (L.getD ((i : Int)).toNat Cn.z).k (L.getD ((i : Int)).toNat Cn.z).t (L.getD ((i : Int)).toNat Cn.z).r (L.getD ((i : Int)).toNat Cn.z).l (L.getD ((i : Int)).toNat Cn.z).v <;> simp)
  have ha := h.at (by rw [hl]; exact h1)
  rw [e, if_neg (by omega)] at ha
  have k := h.2.2
  exact ⟨by omega, h.2.1, by omega, by omega, by rw [ha, hq.1]; congr 1; omega⟩
end
theorem pright_ (L : List Cn) (n : Nat) (c : Nat) (hn : n ≤ L.length) : Fn Tryz.prog 23 [.sl 0 n c] [some (.lst 5 L.length (fun zz => cc (L.getD zz Cn.z)))] (Rt (.bool (right (L.take n))) [some (.lst 5 L.length (fun zz => cc (L.getD zz Cn.z)))]) :=
 enterM (n := 34) (by kernel_rfl) Tryz.func23 rfl rfl rfl fun G w a h0 A => N hX 13 A rfl rfl fun A => forkD 8 A rfl
  (fun h1 A => N hX 7 A rfl rfl fun A => RETN hX A rfl rfl rfl h0 rfl rfl rfl rfl (by rw [show right (L.take n) = false by unfold right; rw [if_pos (by simp; omega)]]; rfl) rfl)
  (fun h1 A => N hX 17 A rfl rfl fun A => LOOP2 (fun (i : Nat) (hv : Int) => [(2, .ff), (3, .int .i64 hv), (9, .sl 0 n c), (10, .int .i64 ((n : Nat) : Int)), (11, .int .i64 (i : Int))]) (fun (i : Nat) (hv : Int) => [some (.lst 5 L.length (fun zz => cc (L.getD zz Cn.z)))]) (fun (i : Nat) (hv : Int) => RI (L.take n) i hv) (fun (i : Nat) (hv : Int) => n - i) 0 0 (RI.b0 h1 hn) ((A.cut [2, 3, 9, 10, 11] rfl).trunc 1 rfl rfl rfl (by simp only [List.length_cons, List.length_nil] at h0; omega)) fun i hv hI {G a w} A => N hX 6 A rfl rfl fun A => forkD 12 A rfl
    (fun h2 A => N hX 15 A rfl (ok_d (by have hq := hI.2.2; have hl : (L.take n).length = n := (by simp; omega); have h32 := hI.2.1; omega) <| ok_d (by have hq := hI.2.2; have hl : (L.take n).length = n := (by simp; omega); have h32 := hI.2.1; omega) <| okE_nil) fun A => N hX 2 A rfl rfl fun A => CALL1 [] (node_ ((L.getD (((i : Int)).toNat) Cn.z).k) ((L.getD (((i : Int)).toNat) Cn.z).t) ((L.getD (((i : Int)).toNat) Cn.z).r) ((L.getD (((i : Int)).toNat) Cn.z).l) ((L.getD (((i : Int)).toNat) Cn.z).v)) A rfl rfl rfl rfl rfl rfl rfl fun A => N hX 2 A rfl rfl fun A => fork 18 A rfl
     (fun h3 A => N hX 15 A rfl rfl fun A => RETN hX A rfl rfl rfl h0 rfl rfl rfl rfl (by rw [hI.bad hn h2 h3]; rfl) rfl)
     (fun h3 A => N hX 3 A rfl rfl fun A => CALL1 [] (parts_ ((L.getD (((i : Int)).toNat) Cn.z).k)) A rfl rfl rfl rfl rfl rfl rfl fun A => N hX 4 A rfl rfl fun A => forkD 24 A rfl
      (fun h4 A => N hX 7 A rfl rfl fun A => RETN hX A rfl rfl rfl h0 rfl rfl rfl rfl (by rw [hI.bad2 hn h2 h3 h4]; rfl) rfl)
      (fun h4 A => N hX 7 A rfl rfl fun A => CALL1 [] (parts_ ((L.getD (((i : Int)).toNat) Cn.z).k)) A rfl rfl rfl rfl rfl rfl rfl fun A => N hX 6 A rfl (ok_d (by have hq := hI.2.2; have hl : (L.take n).length = n := (by simp; omega); have h32 := hI.2.1; have hp := nd_t (c := (L.getD ((i : Int)).toNat Cn.z)) (by revert h3; cases node0 (L.getD ((i : Int)).toNat Cn.z).k (L.getD ((i : Int)).toNat Cn.z).t (L.getD ((i : Int)).toNat Cn.z).r (L.getD ((i : Int)).toNat Cn.z).l (L.getD ((i : Int)).toNat Cn.z).v <;> simp); omega) <| ok_d (by have hq := hI.2.2; have hl : (L.take n).length = n := (by simp; omega); have h32 := hI.2.1; have hp := nd_t (c := (L.getD ((i : Int)).toNat Cn.z)) (by revert h3; cases node0 (L.getD ((i : Int)).toNat Cn.z).k (L.getD ((i : Int)).toNat Cn.z).t (L.getD ((i : Int)).toNat Cn.z).r (L.getD ((i : Int)).toNat Cn.z).l (L.getD ((i : Int)).toNat Cn.z).v <;> simp); omega) <| okE_nil) fun A => N hX 4 A rfl (ok_d (by have hq := hI.2.2; have hl : (L.take n).length = n := (by simp; omega); have h32 := hI.2.1; have hp := nd_t (c := (L.getD ((i : Int)).toNat Cn.z)) (by revert h3; cases node0 (L.getD ((i : Int)).toNat Cn.z).k (L.getD ((i : Int)).toNat Cn.z).t (L.getD ((i : Int)).toNat Cn.z).r (L.getD ((i : Int)).toNat Cn.z).l (L.getD ((i : Int)).toNat Cn.z).v <;> simp); omega) <| okE_nil) fun A => ⟨i + 1, hv + (1 - parts0 (L.getD ((i : Int)).toNat Cn.z).k), _, (by omega), (hI.go hn h2 h3 h4), ((A.cut [2, 3, 9, 10, 11] rfl).trunc 1 rfl rfl rfl (by simp only [List.length_cons, List.length_nil] at h0; omega))⟩)))
    (fun h2 A => N hX 11 A rfl rfl fun A => RETN hX A rfl rfl rfl h0 rfl rfl rfl rfl (by rw [hI.done (by rw [List.length_take, Nat.min_eq_left hn]; exact h2)]; rfl) rfl))
end Go.Proofs.YtedlaclfhgneeabGreatDoor.Cd
namespace Go.Proofs.YtedlaclfhgneeabGreatDoor.Cd
open Go.RowKit
set_option linter.unusedVariables false
set_option linter.unusedSimpArgs false
set_option maxRecDepth 100000
set_option maxHeartbeats 2000000
set_option simprocs false
def hv0 (p : O) (kd : Int) (th : Int) (rg : Int) (lc : Int) (vl : Int) (l : List Bool) (j : Nat) (k : Nat) : Bool := if kd = 1 then ([[(p 0), (p 1), (p 2), (p 3), (p 4), (p 5), (p 6), (p 7)].getD (rg).toNat 0, [(p 8), (p 9), (p 10), (p 11), (p 12), (p 13), (p 14), (p 15)].getD (rg).toNat 0, [(p 16), (p 17), (p 18), (p 19), (p 20), (p 21), (p 22), (p 23)].getD (rg).toNat 0].getD (th).toNat 0) == vl else if kd = 2 then ([(p 24), (p 25), (p 26)].getD (lc).toNat 0) == vl else if kd = 3 then !(l.getD ((((j : Nat) : Int) + 0).toNat) false) else if kd = 4 then (l.getD ((((j : Nat) : Int) + 0).toNat) false) && (l.getD ((((j : Nat) : Int) + 1).toNat) false) else (l.getD ((((j : Nat) : Int) + 0).toNat) false) || (l.getD ((((j : Nat) : Int) + 1).toNat) false)
theorem hv_ (p : O) (kd : Int) (th : Int) (rg : Int) (lc : Int) (vl : Int) (l : List Bool) (j : Nat) (k : Nat) (hk : j + k ≤ l.length) (q1 : kd = 1 → 0 ≤ th ∧ th < 3 ∧ 0 ≤ rg ∧ rg < 8) (q2 : kd = 2 → 0 ≤ lc ∧ lc < 3) (q3 : kd = 3 → 1 ≤ k) (q4 : kd ≠ 1 → kd ≠ 2 → kd ≠ 3 → 2 ≤ k) : Fn Tryz.prog 166 [.agg [.int .i64 kd, .int .i64 th, .int .i64 rg, .int .i64 lc, .int .i64 vl], .st 1 1 j k 0, .ptr 0 0] [some (.blk (oc p)), some (.row 4 1 l.length 0 (fun zz => [.bool (l.getD zz false)]))] (Rt (.bool (hv0 p kd th rg lc vl l j k)) [some (.blk (oc p)), some (.row 4 1 l.length 0 (fun zz => [.bool (l.getD zz false)]))]) :=
 enterM (n := 55) (by kernel_rfl) Tryz.func166 rfl rfl rfl fun G w a h0 A => N hX 20 A rfl rfl fun A => forkE 8 A rfl
  (fun h1 A => N hX 2 A rfl rfl fun A => DRAWN hX hmo [] [] A rfl (ok_d (by omega) <| ok_d (by omega) <| ok_d (by omega) <| ok_d (by omega) <| okE_nil) rfl rfl (by kernel_rfl) (effAll_nil _ _) trivial fun A => N hX 2 A rfl rfl fun A => RETN hX A rfl rfl rfl h0 rfl rfl rfl rfl (by simp only [oneS, nb, nbL, nbH, hv0, if_pos h1]) rfl)
  (fun h1 A => N hX 7 A rfl rfl fun A => forkE 21 A rfl
   (fun h2 A => N hX 2 A rfl rfl fun A => DRAWN hX hmo [] [] A rfl (ok_d (by omega) <| ok_d (by omega) <| okE_nil) rfl rfl (by kernel_rfl) (effAll_nil _ _) trivial fun A => N hX 2 A rfl rfl fun A => RETN hX A rfl rfl rfl h0 rfl rfl rfl rfl (by simp only [oneS, nb, nbL, nbH, hv0, if_neg (h1), if_pos h2]) rfl)
   (fun h2 A => N hX 7 A rfl rfl fun A => forkE 31 A rfl
    (fun h3 A => N hX 11 A rfl (ok_d (by omega) <| ok_d (by omega) <| okE_nil) fun A => RETN hX A rfl rfl rfl h0 rfl rfl rfl rfl (by simp only [oneS, nb, nbL, nbH, hv0, if_neg (h1), if_neg (h2), if_pos h3]) rfl)
    (fun h3 A => N hX 7 A rfl rfl fun A => forkE 37 A rfl
     (fun h4 A => N hX 15 A rfl (ok_d (by omega) <| ok_d (by omega) <| ok_r <| ok_g (fun hg => (by omega)) <| ok_r <| ok_g (fun hg => (by omega)) <| ok_r <| okE_nil) fun A => RETN hX A rfl rfl rfl h0 rfl rfl rfl rfl (by simp only [oneS, nb, nbL, nbH, hv0, if_neg (h1), if_neg (h2), if_neg (h3), if_pos h4]) rfl)
     (fun h4 A => N hX 18 A rfl (ok_d (by omega) <| ok_d (by omega) <| ok_r <| ok_g (fun hg => (by omega)) <| ok_r <| ok_g (fun hg => (by omega)) <| ok_r <| okE_nil) fun A => RETN hX A rfl rfl rfl h0 rfl rfl rfl rfl (by simp only [oneS, nb, nbL, nbH, hv0, if_neg (h1), if_neg (h2), if_neg (h3), if_neg (h4)]) rfl))))
end Go.Proofs.YtedlaclfhgneeabGreatDoor.Cd
namespace Go.Proofs.YtedlaclfhgneeabGreatDoor.Cd
open Go.RowKit
set_option linter.unusedVariables false
set_option linter.unusedSimpArgs false
set_option maxRecDepth 100000
set_option maxHeartbeats 2000000
set_option simprocs false
theorem set_take {α : Type} : ∀ (l : List α) (k : Nat) (v : α), k < l.length → (l.set k v).take (k + 1) = l.take k ++ [v]
  | [], k, v, h => by simp at h
  | a :: l, 0, v, h => by simp
  | a :: l, k + 1, v, h => by
    rw [List.set_cons_succ, List.take_succ_cons, set_take l k v (by simpa using h)]; rfl
theorem fold_st {p : O} {c : Cn} {l : List Bool} {F : Nat} (hn : ¬ c.n < 0) (hl : c.n ≤ (l.length : Int)) (hp : c.n = parts0 c.k) (hF : F = (((l.length : Nat) : Int) - parts0 c.k).toNat) : l.take F ++ [hv0 p c.k c.t c.r c.l c.v l F (l.length - F)] = stepL p c l := by
  have hk := cn_kind hn
  unfold hv0
  rcases hk with h | h | h | h | h
  · rw [st1 h.1, if_pos h.1, List.take_of_length_le (by omega)]
  · rw [st2 h.1, if_neg (by omega), if_pos h.1, List.take_of_length_le (by omega)]
  · rw [st3 h.1, if_neg (by omega), if_neg (by omega), if_pos h.1]
    have e := set_take l (l.length - 1) (!(l.getD (l.length - 1) false)) (by omega)
    rw [List.take_of_length_le (by simp; omega)] at e
    rw [show F = l.length - 1 by omega, show (((l.length - 1 : Nat) : Int) + 0).toNat = l.length - 1 by omega, show (((l.length : Nat) : Int) - 1).toNat = l.length - 1 by omega, e]
  · rw [st4 h.1, if_neg (by omega), if_neg (by omega), if_neg (by omega), if_pos h.1]
    have e := set_take l (l.length - 2) (l.getD (l.length - 2) false && l.getD (l.length - 1) false) (by omega)
    rw [show F = l.length - 2 by omega, show (((l.length - 2 : Nat) : Int) + 0).toNat = l.length - 2 by omega, show (((l.length - 2 : Nat) : Int) + 1).toNat = l.length - 1 by omega, show (((l.length : Nat) : Int) - 2).toNat = l.length - 2 by omega, show (((l.length : Nat) : Int) - 1).toNat = l.length - 1 by omega, ← e, show l.length - 2 + 1 = l.length - 1 by omega]
  · rw [st5 h.1, if_neg (by omega), if_neg (by omega), if_neg (by omega), if_neg (by omega)]
    have e := set_take l (l.length - 2) (l.getD (l.length - 2) false || l.getD (l.length - 1) false) (by omega)
    rw [show F = l.length - 2 by omega, show (((l.length - 2 : Nat) : Int) + 0).toNat = l.length - 2 by omega, show (((l.length - 2 : Nat) : Int) + 1).toNat = l.length - 1 by omega, show (((l.length : Nat) : Int) - 2).toNat = l.length - 2 by omega, show (((l.length : Nat) : Int) - 1).toNat = l.length - 1 by omega, ← e, show l.length - 2 + 1 = l.length - 1 by omega]
section
variable {p : O} {L : List Cn} {n i : Nat} {l : List Bool}
theorem EI.i0 (hr : right (L.take n) = true) : EI p (L.take n) [] 0 := EI.init (by rw [hr]; rfl)
theorem EI.kn (hI : EI p (L.take n) l i) (hn : n ≤ L.length) (h1 : (i : Int) < ((n : Nat) : Int)) : ¬ (L.getD ((i : Int)).toNat Cn.z).n < 0 ∧ (L.getD ((i : Int)).toNat Cn.z).n ≤ (l.length : Int) ∧ (L.getD ((i : Int)).toNat Cn.z).n = parts0 (L.getD ((i : Int)).toNat Cn.z).k ∧ (((L.getD ((i : Int)).toNat Cn.z).k = 1 ∧ (L.getD ((i : Int)).toNat Cn.z).n = 0 ∧ 0 ≤ (L.getD ((i : Int)).toNat Cn.z).t ∧ (L.getD ((i : Int)).toNat Cn.z).t < 3 ∧ 0 ≤ (L.getD ((i : Int)).toNat Cn.z).r ∧ (L.getD ((i : Int)).toNat Cn.z).r < 8) ∨ ((L.getD ((i : Int)).toNat Cn.z).k = 2 ∧ (L.getD ((i : Int)).toNat Cn.z).n = 0 ∧ 0 ≤ (L.getD ((i : Int)).toNat Cn.z).l ∧ (L.getD ((i : Int)).toNat Cn.z).l < 3) ∨ ((L.getD ((i : Int)).toNat Cn.z).k = 3 ∧ (L.getD ((i : Int)).toNat Cn.z).n = 1) ∨ ((L.getD ((i : Int)).toNat Cn.z).k = 4 ∧ (L.getD ((i : Int)).toNat Cn.z).n = 2) ∨ ((L.getD ((i : Int)).toNat Cn.z).k = 5 ∧ (L.getD ((i : Int)).toNat Cn.z).n = 2)) ∧ l.length ≤ i := by
  have hl : (L.take n).length = n := by simp; omega
  have h := (hI.at (by rw [hl]; exact h1)).1
  rw [getD_take (by omega)] at h
  have hn0 : ¬ (L.getD ((i : Int)).toNat Cn.z).n < 0 := fun h' => h (.inl h')
  refine ⟨hn0, by omega, ?_, cn_kind hn0, hI.ll⟩
  rcases nd_any (L.getD ((i : Int)).toNat Cn.z) with h2 | h2
  · exact h2.2
  · omega
theorem EI.nx (hI : EI p (L.take n) l i) (hr : right (L.take n) = true) (hn : n ≤ L.length) (h1 : (i : Int) < ((n : Nat) : Int)) : EI p (L.take n) (stepL p (L.getD ((i : Int)).toNat Cn.z) l) (i + 1) := by
  have hl : (L.take n).length = n := by simp; omega
  have := hI.next (by rw [hr]; rfl) (by rw [hl]; exact h1)
  rw [getD_take (by omega)] at this
  exact this
theorem EI.fi (hI : EI p (L.take n) l i) (hr : right (L.take n) = true) (hn : n ≤ L.length) (h1 : ¬ (i : Int) < ((n : Nat) : Int)) : l.length = 1 ∧ evalB p (L.take n) = l.getD 0 false := by
  have hl : (L.take n).length = n := by simp; omega
  exact ⟨hI.fin (by rw [hl]; exact h1), hI.done (by rw [hr]; rfl) (by rw [hl]; exact h1)⟩
end
theorem lapp1 {l : List Bool} {k : Nat} {b : Bool} (h : k ≤ l.length) : (l.take k ++ [b]).getD k false = b := by
  have := getD_app_1 (l := l.take k) (x := b) (d := false)
  rw [List.length_take, Nat.min_eq_left h] at this; exact this
theorem foldb_ (p : O) (L : List Cn) (n : Nat) (c : Nat) (hn : n ≤ L.length) (hN : n ≤ 1000000) (hr : right (L.take n) = true) : Fn Tryz.prog 165 [.sl 0 n c, .fn 166 [.ptr 1 0]] [some (.lst 5 L.length (fun zz => cc (L.getD zz Cn.z))), some (.blk (oc p))] (Rt (.bool (evalB p (L.take n))) [some (.lst 5 L.length (fun zz => cc (L.getD zz Cn.z))), some (.blk (oc p))]) :=
 enterM (n := 36) (by kernel_rfl) Tryz.func165 rfl rfl rfl fun G w a h0 A => N hX 19 A rfl rfl fun A => have A := A.nilRow 5 4 1 (fun zz => [.bool (([] : List Bool).getD zz false)]) rfl (fun z => ⟨_, rfl, rfl⟩); LOOP2 (fun (l : List Bool) (i : Nat) => [(1, .fn 166 [.ptr 1 0]), (4, .ff), (5, .sl 2 l.length 0), (9, .sl 0 n c), (10, .int .i64 ((n : Nat) : Int)), (11, .int .i64 (i : Int))]) (fun (l : List Bool) (i : Nat) => [some (.lst 5 L.length (fun zz => cc (L.getD zz Cn.z))), some (.blk (oc p)), some (.row 4 1 l.length 0 (fun zz => [.bool (l.getD zz false)]))]) (fun (l : List Bool) (i : Nat) => EI p (L.take n) l i) (fun (l : List Bool) (i : Nat) => n - i) [] 0 (EI.i0 hr) ((A.cut [1, 4, 5, 9, 10, 11] rfl).trunc 3 rfl rfl rfl (by simp only [List.length_cons, List.length_nil] at h0; omega)) fun l i hI {G a w} A => N hX 6 A rfl rfl fun A => forkD 12 A rfl
   (fun h1 A => N hX 14 A rfl (ok_d (by have hq := hI.kn hn h1; omega) <| ok_d (by have hq := hI.kn hn h1; omega) <| okE_nil) fun A => N hX 5 A rfl rfl fun A => CALL1 [] (parts_ ((L.getD (((i : Int)).toNat) Cn.z).k)) A rfl rfl rfl rfl rfl rfl rfl fun A => N hX 4 A rfl (ok_d (by have hq := hI.kn hn h1; omega) <| okE_nil) fun A => DRAWN hX hmo [] [(8, .bool (hv0 p ((L.getD (((i : Int)).toNat) Cn.z).k) ((L.getD (((i : Int)).toNat) Cn.z).t) ((L.getD (((i : Int)).toNat) Cn.z).r) ((L.getD (((i : Int)).toNat) Cn.z).l) ((L.getD (((i : Int)).toNat) Cn.z).v) l ((((l.length : Nat) : Int) - (parts0 ((L.getD (((i : Int)).toNat) Cn.z).k))).toNat) (l.length - (((l.length : Nat) : Int) - (parts0 ((L.getD (((i : Int)).toNat) Cn.z).k))).toNat)), [some (.lst 5 L.length (fun zz => cc (L.getD zz Cn.z))), some (.blk (oc p)), some (.row 4 1 l.length 0 (fun zz => [.bool (l.getD zz false)])), some (.blk [.int .i64 ((L.getD (((i : Int)).toNat) Cn.z).k), .int .i64 ((L.getD (((i : Int)).toNat) Cn.z).t), .int .i64 ((L.getD (((i : Int)).toNat) Cn.z).r), .int .i64 ((L.getD (((i : Int)).toNat) Cn.z).l), .int .i64 ((L.getD (((i : Int)).toNat) Cn.z).v)])]), (10, .sl 5 (((((l.length : Nat) : Int) - (parts0 ((L.getD (((i : Int)).toNat) Cn.z).k))).toNat) + 1) 0, [some (.lst 5 L.length (fun zz => cc (L.getD zz Cn.z))), some (.blk (oc p)), none, some (.blk [.int .i64 ((L.getD (((i : Int)).toNat) Cn.z).k), .int .i64 ((L.getD (((i : Int)).toNat) Cn.z).t), .int .i64 ((L.getD (((i : Int)).toNat) Cn.z).r), .int .i64 ((L.getD (((i : Int)).toNat) Cn.z).l), .int .i64 ((L.getD (((i : Int)).toNat) Cn.z).v)]), some (.blk [.bool (hv0 p ((L.getD (((i : Int)).toNat) Cn.z).k) ((L.getD (((i : Int)).toNat) Cn.z).t) ((L.getD (((i : Int)).toNat) Cn.z).r) ((L.getD (((i : Int)).toNat) Cn.z).l) ((L.getD (((i : Int)).toNat) Cn.z).v) l ((((l.length : Nat) : Int) - (parts0 ((L.getD (((i : Int)).toNat) Cn.z).k))).toNat) (l.length - (((l.length : Nat) : Int) - (parts0 ((L.getD (((i : Int)).toNat) Cn.z).k))).toNat))]), some (.row 4 1 (((((l.length : Nat) : Int) - (parts0 ((L.getD (((i : Int)).toNat) Cn.z).k))).toNat) + 1) 0 (fun zz => [.bool ((l.take ((((l.length : Nat) : Int) - (parts0 ((L.getD (((i : Int)).toNat) Cn.z).k))).toNat) ++ [hv0 p ((L.getD (((i : Int)).toNat) Cn.z).k) ((L.getD (((i : Int)).toNat) Cn.z).t) ((L.getD (((i : Int)).toNat) Cn.z).r) ((L.getD (((i : Int)).toNat) Cn.z).l) ((L.getD (((i : Int)).toNat) Cn.z).v) l ((((l.length : Nat) : Int) - (parts0 ((L.getD (((i : Int)).toNat) Cn.z).k))).toNat) (l.length - (((l.length : Nat) : Int) - (parts0 ((L.getD (((i : Int)).toNat) Cn.z).k))).toNat)]).getD zz false)]))])] A rfl (ok_d (by show 0 ≤ ((l.length : Nat) : Int) - (parts0 ((L.getD (((i : Int)).toNat) Cn.z).k)) ∧ ((l.length : Nat) : Int) - (parts0 ((L.getD (((i : Int)).toNat) Cn.z).k)) ≤ ((l.length : Nat) : Int); exact (by have hq := hI.kn hn h1; omega)) <| ok_d (by show 0 ≤ ((l.length : Nat) : Int) - (parts0 ((L.getD (((i : Int)).toNat) Cn.z).k)) ∧ ((l.length : Nat) : Int) - (parts0 ((L.getD (((i : Int)).toNat) Cn.z).k)) ≤ ((l.length : Nat) : Int); exact (by have hq := hI.kn hn h1; omega)) <| ok_d (by show 0 ≤ ((l.length : Nat) : Int) - (parts0 ((L.getD (((i : Int)).toNat) Cn.z).k)) ∧ ((l.length : Nat) : Int) - (parts0 ((L.getD (((i : Int)).toNat) Cn.z).k)) ≤ ((l.length : Nat) : Int); exact (by have hq := hI.kn hn h1; omega)) <| ok_d (by have hq := hI.kn hn h1; omega) <| okE_nil) rfl rfl (by kernel_rfl) ⟨callE [1, 2] (hv_ p ((L.getD (((i : Int)).toNat) Cn.z).k) ((L.getD (((i : Int)).toNat) Cn.z).t) ((L.getD (((i : Int)).toNat) Cn.z).r) ((L.getD (((i : Int)).toNat) Cn.z).l) ((L.getD (((i : Int)).toNat) Cn.z).v) l ((((l.length : Nat) : Int) - (parts0 ((L.getD (((i : Int)).toNat) Cn.z).k))).toNat) (l.length - (((l.length : Nat) : Int) - (parts0 ((L.getD (((i : Int)).toNat) Cn.z).k))).toNat) (by have hq := hI.kn hn h1; omega) (by have hq := hI.kn hn h1; omega) (by have hq := hI.kn hn h1; omega) (by have hq := hI.kn hn h1; omega) (by have hq := hI.kn hn h1; omega)) rfl rfl rfl rfl rfl rfl rfl, ⟨trivial, ⟨eff_shrink (e := 4) (s := 1) 2 ((((l.length : Nat) : Int) - (parts0 ((L.getD (((i : Int)).toNat) Cn.z).k))).toNat) rfl (by have hq := hI.kn hn h1; omega) (appE (i := 2) (e := 4) (s := 1) hX (((((l.length : Nat) : Int) - (parts0 ((L.getD (((i : Int)).toNat) Cn.z).k))).toNat) + 1) (fun zz => [.bool ((l.take ((((l.length : Nat) : Int) - (parts0 ((L.getD (((i : Int)).toNat) Cn.z).k))).toNat) ++ [hv0 p ((L.getD (((i : Int)).toNat) Cn.z).k) ((L.getD (((i : Int)).toNat) Cn.z).t) ((L.getD (((i : Int)).toNat) Cn.z).r) ((L.getD (((i : Int)).toNat) Cn.z).l) ((L.getD (((i : Int)).toNat) Cn.z).v) l ((((l.length : Nat) : Int) - (parts0 ((L.getD (((i : Int)).toNat) Cn.z).k))).toNat) (l.length - (((l.length : Nat) : Int) - (parts0 ((L.getD (((i : Int)).toNat) Cn.z).k))).toNat)]).getD zz false)]) rfl rfl rfl rfl (by have hq := hI.kn hn h1; omega) rfl (fun q hq => by show [SV.bool _] = [SV.bool _]; rw [getD_app_l (by rw [List.length_take]; have hq := hI.kn hn h1; omega), getD_take hq]) (by show [SV.bool _] = _; rw [lapp1 (by have hq := hI.kn hn h1; omega)]) (fun z => ⟨_, rfl, rfl⟩)), trivial⟩⟩⟩ trivial fun A => N hX 6 A rfl (ok_d (by have hq := hI.kn hn h1; omega) <| okE_nil) fun A => ⟨stepL p (L.getD ((i : Int)).toNat Cn.z) l, i + 1, _, (by omega), (hI.nx hr hn h1), ((((A.rowAs 5 (stepL p (L.getD ((i : Int)).toNat Cn.z) l).length (fun zz => [.bool ((stepL p (L.getD ((i : Int)).toNat Cn.z) l).getD zz false)]) rfl (by rw [← (fold_st (F := (((l.length : Nat) : Int) - parts0 (L.getD ((i : Int)).toNat Cn.z).k).toNat) (hI.kn hn h1).1 (hI.kn hn h1).2.1 (hI.kn hn h1).2.2.1 rfl), List.length_append, List.length_take, List.length_cons, List.length_nil]; have hq := hI.kn hn h1; omega) (fun q hq => by show [SV.bool _] = [SV.bool _]; rw [← (fold_st (F := (((l.length : Nat) : Int) - parts0 (L.getD ((i : Int)).toNat Cn.z).k).toNat) (hI.kn hn h1).1 (hI.kn hn h1).2.1 (hI.kn hn h1).2.2.1 rfl)]) (fun z => ⟨_, rfl, rfl⟩)).say 5 (.sl 5 (stepL p (L.getD ((i : Int)).toNat Cn.z) l).length 0) rfl (by rw [show (stepL p (L.getD ((i : Int)).toNat Cn.z) l).length = (((l.length : Nat) : Int) - parts0 (L.getD ((i : Int)).toNat Cn.z).k).toNat + 1 from (by rw [← (fold_st (F := (((l.length : Nat) : Int) - parts0 (L.getD ((i : Int)).toNat Cn.z).k).toNat) (hI.kn hn h1).1 (hI.kn hn h1).2.1 (hI.kn hn h1).2.2.1 rfl), List.length_append, List.length_take, List.length_cons, List.length_nil]; have hq := hI.kn hn h1; omega)])).cut [1, 4, 5, 9, 10, 11] rfl).mv 2 [5] rfl rfl rfl rfl (by simp only [List.length_cons, List.length_nil] at h0; omega))⟩)
   (fun h1 A => N hX 12 A rfl (ok_d (by have hq := (hI.fi hr hn h1).1; omega) <| ok_d (by have hq := (hI.fi hr hn h1).1; omega) <| okE_nil) fun A => RETN hX A rfl rfl rfl h0 rfl rfl rfl rfl (by rw [(hI.fi hr hn h1).2]; rfl) rfl)
end Go.Proofs.YtedlaclfhgneeabGreatDoor.Cd
namespace Go.Proofs.YtedlaclfhgneeabGreatDoor.Cd
open Go.RowKit
set_option linter.unusedVariables false
set_option linter.unusedSimpArgs false
set_option maxRecDepth 100000
set_option maxHeartbeats 2000000
set_option simprocs false
theorem holds_ (p : O) (L : List Cn) (n : Nat) (c : Nat) (hn : n ≤ L.length) (hN : n ≤ 1000000) (hr : right (L.take n) = true) : Fn Tryz.prog 107 [.agg (oc p), .sl 0 n c] [some (.lst 5 L.length (fun zz => cc (L.getD zz Cn.z)))] (Rt (.bool (evalB p (L.take n))) [some (.lst 5 L.length (fun zz => cc (L.getD zz Cn.z)))]) :=
 enterM (n := 8) (by kernel_rfl) Tryz.func107 rfl rfl rfl fun G w a h0 A => N hX 10 A rfl rfl fun A => CALL1 [0, 1] (foldb_ p L n c hn hN hr) A rfl rfl rfl rfl rfl rfl rfl fun A => N hX 4 A rfl rfl fun A => RETN hX A rfl rfl rfl h0 rfl rfl rfl rfl rfl rfl
theorem jone_ (p : O) (qu : Int) (L : List Cn) (n : Nat) (c : Nat) (hn : n ≤ L.length) (hN : n ≤ 1000000) (hr : right (L.take n) = true) : Fn Tryz.prog 106 [.agg (oc p), .ptr 0 0, .ptr 1 0] [some (.blk [.sl 2 n c]), some (.blk [.int .i64 qu]), some (.lst 5 L.length (fun zz => cc (L.getD zz Cn.z)))] (Rt (.bool ((evalB p (L.take n)) == (!(qu == 3)))) [some (.blk [.sl 2 n c]), some (.blk [.int .i64 qu]), some (.lst 5 L.length (fun zz => cc (L.getD zz Cn.z)))]) :=
 enterM (n := 11) (by kernel_rfl) Tryz.func106 rfl rfl rfl fun G w a h0 A => N hX 7 A rfl rfl fun A => DRAWN hX hmo [] [(2, .bool (evalB p (L.take n)), [some (.blk [.sl 2 n c]), some (.blk [.int .i64 qu]), some (.lst 5 L.length (fun zz => cc (L.getD zz Cn.z))), some (.blk (oc p))])] A rfl rfl rfl rfl (by kernel_rfl) ⟨callE [2] (holds_ p L n c hn hN hr) rfl rfl rfl rfl rfl rfl rfl, trivial⟩ trivial fun A => N hX 2 A rfl rfl fun A => RETN hX A rfl rfl rfl h0 rfl rfl rfl rfl rfl rfl
def px (b : O → Bool) : List O → Int → Int
  | [], _ => -1
  | x :: r, i => if b x = true then i else px b r (i + 1)
structure XI (b : O → Bool) (S : List O) (i : Nat) : Prop where
  le : i ≤ S.length
  eq : px b S 0 = px b (S.drop i) (i : Int)
section
variable {b : O → Bool} {S : List O} {i : Nat}
theorem XI.at (h : XI b S i) (h1 : (i : Int) < ((S.length : Nat) : Int)) : px b S 0 = if b (S.getD ((i : Int)).toNat oz) = true then (i : Int) else px b (S.drop (i + 1)) ((i : Int) + 1) := by
  have hi : i < S.length := by omega
  rw [h.eq, List.drop_eq_getElem_cons hi, px, show S.getD ((i : Int)).toNat oz = S[i] by simp [List.getD, hi]]
theorem XI.yes (h : XI b S i) (h1 : (i : Int) < ((S.length : Nat) : Int)) (h2 : b (S.getD ((i : Int)).toNat oz) = true) : px b S 0 = (i : Int) := by rw [h.at h1, if_pos h2]
theorem XI.no (h : XI b S i) (h1 : (i : Int) < ((S.length : Nat) : Int)) (h2 : b (S.getD ((i : Int)).toNat oz) = false) : XI b S (i + 1) := ⟨by omega, by rw [h.at h1, if_neg (by rw [h2]; simp)]; rfl⟩
theorem XI.out (h : XI b S i) (h1 : ¬ (i : Int) < ((S.length : Nat) : Int)) : px b S 0 = -1 := by rw [h.eq, List.drop_eq_nil_of_le (by omega), px]
end
theorem bfal {x y : Bool} (h : x ≠ y) : (x == y) = false := by cases x <;> cases y <;> simp at h ⊢
theorem btru {x y : Bool} (h : x = y) : (x == y) = true := by rw [h]; simp
theorem index_ (qu : Int) (L : List Cn) (n : Nat) (c : Nat) (S : List O) (hn : n ≤ L.length) (hN : n ≤ 1000000) (hr : right (L.take n) = true) (hS : S.length ≤ 1000000) : Fn Tryz.prog 105 [.sl 3 S.length 0, .fn 106 [.ptr 0 0, .ptr 1 0]] [some (.blk [.sl 2 n c]), some (.blk [.int .i64 qu]), some (.lst 5 L.length (fun zz => cc (L.getD zz Cn.z))), some (.row 93 27 S.length 0 (fun zz => oc (S.getD zz oz)))] (Rt (.int .i64 (px (fun x => (evalB x (L.take n)) == (!(qu == 3))) S 0)) [some (.blk [.sl 2 n c]), some (.blk [.int .i64 qu]), some (.lst 5 L.length (fun zz => cc (L.getD zz Cn.z))), some (.row 93 27 S.length 0 (fun zz => oc (S.getD zz oz)))]) :=
 enterM (n := 19) (by kernel_rfl) Tryz.func105 rfl rfl rfl fun G w a h0 A => N hX 14 A rfl rfl fun A => LOOP1 (fun (i : Nat) => [(0, .sl 3 S.length 0), (1, .fn 106 [.ptr 0 0, .ptr 1 0]), (4, .int .i64 0), (7, .int .i64 ((S.length : Nat) : Int)), (8, .int .i64 (i : Int))]) (fun (i : Nat) => [some (.blk [.sl 2 n c]), some (.blk [.int .i64 qu]), some (.lst 5 L.length (fun zz => cc (L.getD zz Cn.z))), some (.row 93 27 S.length 0 (fun zz => oc (S.getD zz oz)))]) (fun (i : Nat) => XI (fun x => (evalB x (L.take n)) == (!(qu == 3))) S i) (fun (i : Nat) => S.length - i) 0 ⟨Nat.zero_le _, by simp⟩ ((A.cut [0, 1, 4, 7, 8] rfl).trunc 4 rfl rfl rfl (by simp only [List.length_cons, List.length_nil] at h0; omega)) fun i hI {G a w} A => N hX 6 A rfl rfl fun A => forkD 9 A rfl
   (fun h1 A => N hX 18 A rfl (ok_d (by (try have := hI.le); omega) <| ok_d (by (try have := hI.le); omega) <| okE_nil) fun A => CALL1 [0, 1, 2] (jone_ (S.getD (((i : Int)).toNat) oz) qu L n c hn hN hr) A rfl rfl rfl rfl rfl rfl rfl fun A => N hX 2 A rfl rfl fun A => forkE 16 A rfl
    (fun h2 A => N hX 8 A rfl rfl fun A => RETN hX A rfl rfl rfl h0 rfl rfl rfl rfl (by rw [hI.yes h1 (btru h2)]; rfl) rfl)
    (fun h2 A => N hX 8 A rfl (ok_d (by (try have := hI.le); omega) <| okE_nil) fun A => ⟨i + 1, _, (by omega), (hI.no h1 (bfal h2)), ((A.cut [0, 1, 4, 7, 8] rfl).trunc 4 rfl rfl rfl (by simp only [List.length_cons, List.length_nil] at h0; omega))⟩))
   (fun h1 A => N hX 9 A rfl rfl fun A => RETN hX A rfl rfl rfl h0 rfl rfl rfl rfl (by rw [hI.out h1]; rfl) rfl)
end Go.Proofs.YtedlaclfhgneeabGreatDoor.Cd
namespace Go.Proofs.YtedlaclfhgneeabGreatDoor.Cd
open Go.RowKit
set_option linter.unusedVariables false
set_option linter.unusedSimpArgs false
set_option maxRecDepth 100000
set_option maxHeartbeats 2000000
set_option simprocs false
theorem fn_asX {P : Program} {f : Nat} {az : List SV} {H H2 : Hp} {x y : SV} (h : Fn P f az H (Rt x H2)) (e : ∀ G, den G x = den G y) : Fn P f az H (Rt y H2) :=
  ⟨h.1, fun G w vs hM hv => Calls.mono (h.2 G w vs hM hv) fun e' w' ⟨x', H', F, v, ⟨q1, q2⟩, r⟩ => by subst q1; subst q2; exact ⟨y, _, F, v, ⟨rfl, rfl⟩, by rw [← e]; exact r.1, r.2⟩⟩
def aC : Cn := ⟨2, 0, 0, 0, 1⟩
def nC : Cn := ⟨3, 0, 0, 0, 0⟩
theorem tyC : (∀ x, (cc x).length = 5) ∧ (∀ x, inL 0 (cc x) = true) ∧ (∀ x, ∃ vs, denL [] (cc x) = some vs) := ⟨fun _ => rfl, fun _ => rfl, fun _ => ⟨_, rfl⟩⟩
theorem tyO : (∀ x, (oc x).length = 27) ∧ (∀ x, inL 0 (oc x) = true) ∧ (∀ x, ∃ vs, denL [] (oc x) = some vs) := ⟨fun _ => rfl, fun _ => rfl, fun _ => ⟨_, rfl⟩⟩
theorem rightA_ (c : Nat) : Fn Tryz.prog 23 [.sl 0 1 c] [some (.lst 5 1 (fun zz => cc ([aC].getD zz Cn.z)))] (Rt .tt [some (.lst 5 1 (fun zz => cc ([aC].getD zz Cn.z)))]) := fn_asX (pright_ [aC] 1 c (by decide)) fun _ => rfl
theorem indexA_ : Fn Tryz.prog 105 [.sl 3 2 0, .fn 106 [.ptr 0 0, .ptr 1 0]] [some (.blk [.sl 2 1 1]), some (.blk [.int .i64 1]), some (.lst 5 1 (fun zz => cc ([aC].getD zz Cn.z))), some (.row 93 27 2 0 (fun zz => oc (o2.getD zz oz)))] (Rt (.int .i64 1) [some (.blk [.sl 2 1 1]), some (.blk [.int .i64 1]), some (.lst 5 1 (fun zz => cc ([aC].getD zz Cn.z))), some (.row 93 27 2 0 (fun zz => oc (o2.getD zz oz)))]) := fn_asX (index_ 1 [aC] 1 1 o2 (by decide) (by decide) rfl (by decide)) fun _ => rfl
theorem judgeA_   : Fn Tryz.prog 44 [.int .i64 1, .sl 0 1 1, .sl 1 2 2] [some (.lst 5 1 (fun zz => cc ([aC].getD zz Cn.z))), some (.lst 27 2 (fun zz => oc (o2.getD zz oz)))] (Rt (.tup [.agg [.tt, .tt, .int .i64 0, .int .i64 0, .int .i64 0, .int .i64 0, .int .i64 0, .int .i64 0, .int .i64 0, .int .i64 0, .int .i64 0, .int .i64 0, .int .i64 0, .int .i64 0, .int .i64 0, .int .i64 0, .int .i64 0, .int .i64 0, .int .i64 0, .int .i64 0, .int .i64 0, .int .i64 0, .int .i64 0, .int .i64 0, .int .i64 0, .int .i64 0, .int .i64 1, .int .i64 0, .int .i64 0, .int .i64 2], .int .i64 0]) [some (.lst 5 1 (fun zz => cc ([aC].getD zz Cn.z))), some (.lst 27 2 (fun zz => oc (o2.getD zz oz)))]) :=
 enterM (n := 50) (by kernel_rfl) Tryz.func44 rfl rfl rfl fun G w a h0 A => N hX 23 A rfl rfl fun A => fork 20 A rfl
  (fun h1 A => N hX 9 A rfl rfl fun A => RETN hX A rfl rfl rfl h0 rfl rfl rfl rfl (absurd h1 (by decide)) rfl)
  (fun h1 A => N hX 7 A rfl rfl fun A => CALL1 [0] (rightA_ 1) A rfl rfl rfl rfl rfl rfl rfl fun A => N hX 9 A rfl rfl fun A => CALL1 [1] (sort2_ 2) A rfl rfl rfl rfl rfl rfl rfl fun A => N hX 7 A rfl rfl fun A => CALL1 [3, 2, 0, 5] indexA_ A rfl rfl rfl rfl rfl rfl rfl fun A => N hX 32 A rfl rfl fun A => forkD 43 A rfl
   (fun h2 A => N hX 11 A rfl (ok_d (by decide) <| ok_d (by decide) <| okE_nil) fun A => N hX 7 A rfl rfl fun A => RETN hX A rfl rfl rfl h0 rfl rfl rfl rfl rfl rfl)
   (fun h2 A => absurd (by decide) h2))
end Go.Proofs.YtedlaclfhgneeabGreatDoor.Cd
namespace Go.Proofs.YtedlaclfhgneeabGreatDoor.Cd
open Go.RowKit
set_option linter.unusedVariables false
set_option linter.unusedSimpArgs false
set_option maxRecDepth 100000
set_option maxHeartbeats 2000000
set_option simprocs false
def ixf (v : Int) : List Int → Int → Int
  | [], _ => -1
  | x :: r, i => if v = x then i else ixf v r (i + 1)
structure VI (v : Int) (ks : List Int) (i : Nat) : Prop where
  le : i ≤ ks.length
  eq : ixf v ks 0 = ixf v (ks.drop i) (i : Int)
theorem VI.at {v : Int} {ks : List Int} {i : Nat} (h : VI v ks i) (h1 : i < ks.length) : ixf v ks 0 = if v = ks.getD ((i : Int)).toNat 0 then (i : Int) else ixf v (ks.drop (i + 1)) ((i : Int) + 1) := by
  rw [h.eq, List.drop_eq_getElem_cons h1, ixf, show ks.getD ((i : Int)).toNat 0 = ks[i] by simp [List.getD, h1]]
theorem VI.yes {v : Int} {ks : List Int} {i : Nat} (h : VI v ks i) (h1 : i < ks.length) (h2 : v = ks.getD ((i : Int)).toNat 0) : ixf v ks 0 = (i : Int) := by rw [h.at h1, if_pos h2]
theorem VI.no {v : Int} {ks : List Int} {i : Nat} (h : VI v ks i) (h1 : i < ks.length) (h2 : v ≠ ks.getD ((i : Int)).toNat 0) : VI v ks (i + 1) := ⟨h1, by rw [h.at h1, if_neg h2]; rfl⟩
theorem VI.out {v : Int} {ks : List Int} {i : Nat} (h : VI v ks i) (h1 : ¬ i < ks.length) : ixf v ks 0 = -1 := by rw [h.eq, List.drop_eq_nil_of_le (by omega), ixf]
def apT (ks : List Int) (t : List UInt8) (k : Int) : List UInt8 := if ixf k ks 0 ≥ 0 then ([40] ++ t) ++ [41] else t
theorem ix45_ (v : Int)  : Fn Tryz.prog 214 [.sl 0 2 2, .int .i64 v] [some (.blk [.int .i64 4, .int .i64 5])] (Rt (.int .i64 (ixf v [4, 5] 0)) [some (.blk [.int .i64 4, .int .i64 5])]) :=
 enterM (n := 19) (by kernel_rfl) Tryz.func214 rfl rfl rfl fun G w a h0 A => N hX 14 A rfl rfl fun A => LOOP1 (fun (i : Nat) => [(0, .sl 0 2 2), (1, .int .i64 v), (4, .int .i64 0), (7, .int .i64 ((2 : Nat) : Int)), (8, .int .i64 (i : Int))]) (fun (i : Nat) => [some (.blk [.int .i64 4, .int .i64 5])]) (fun (i : Nat) => VI v [4, 5] i) (fun (i : Nat) => 2 - i) 0 ⟨Nat.zero_le _, rfl⟩ ((A.cut [0, 1, 4, 7, 8] rfl).trunc 1 rfl rfl rfl (by simp only [List.length_cons, List.length_nil] at h0; omega)) fun i hI {G a w} A => N hX 6 A rfl rfl fun A => forkD 9 A rfl
   (fun h1 A => N hX 21 A rfl (ok_d (by omega) <| ok_d (by omega) <| okE_nil) fun A => forkE 16 A rfl
    (fun h2 A => N hX 8 A rfl rfl fun A => RETN hX A rfl rfl rfl h0 rfl rfl rfl rfl (by rw [hI.yes (by show i < 2; omega) h2]; rfl) rfl)
    (fun h2 A => N hX 8 A rfl (ok_d (by omega) <| okE_nil) fun A => ⟨i + 1, _, (by omega), (hI.no (by show i < 2; omega) h2), ((A.cut [0, 1, 4, 7, 8] rfl).trunc 1 rfl rfl rfl (by simp only [List.length_cons, List.length_nil] at h0; omega))⟩))
   (fun h1 A => N hX 9 A rfl rfl fun A => RETN hX A rfl rfl rfl h0 rfl rfl rfl rfl (by rw [hI.out (by show ¬ i < 2; omega)]; rfl) rfl)
theorem con45_ (v : Int)  : Fn Tryz.prog 178 [.sl 0 2 2, .int .i64 v] [some (.blk [.int .i64 4, .int .i64 5])] (Rt (.bool (decide (ixf v [4, 5] 0 ≥ 0))) [some (.blk [.int .i64 4, .int .i64 5])]) :=
 enterM (n := 9) (by kernel_rfl) Tryz.func178 rfl rfl rfl fun G w a h0 A => N hX 9 A rfl rfl fun A => CALL1 [0] (ix45_ v) A rfl rfl rfl rfl rfl rfl rfl fun A => N hX 5 A rfl rfl fun A => RETN hX A rfl rfl rfl h0 rfl rfl rfl rfl rfl rfl
theorem ap45_ (t : List UInt8) (k : Int) (ht : t.length ≤ 2000000) : Fn Tryz.prog 125 [.agg [.str t, .int .i64 k], .sl 0 2 2] [some (.blk [.int .i64 4, .int .i64 5])] (Rt (.str (apT [4, 5] t k)) [some (.blk [.int .i64 4, .int .i64 5])]) :=
 enterM (n := 15) (by kernel_rfl) Tryz.func125 rfl rfl rfl fun G w a h0 A => N hX 12 A rfl rfl fun A => CALL1 [0] (con45_ k) A rfl rfl rfl rfl rfl rfl rfl fun A => N hX 2 A rfl rfl fun A => forkD 8 A rfl
  (fun h1 A => N hX 11 A rfl (ok_d (by simp only [List.length_append, List.length_cons, List.length_nil]; omega) <| ok_d (by simp only [List.length_append, List.length_cons, List.length_nil]; omega) <| okE_nil) fun A => RETN hX A rfl rfl rfl h0 rfl rfl rfl rfl (by unfold apT; rw [if_pos h1]; rfl) rfl)
  (fun h1 A => N hX 11 A rfl rfl fun A => RETN hX A rfl rfl rfl h0 rfl rfl rfl rfl (by unfold apT; rw [if_neg h1]; rfl) rfl)
theorem ix5_ (v : Int)  : Fn Tryz.prog 214 [.sl 0 1 1, .int .i64 v] [some (.blk [.int .i64 5])] (Rt (.int .i64 (ixf v [5] 0)) [some (.blk [.int .i64 5])]) :=
 enterM (n := 19) (by kernel_rfl) Tryz.func214 rfl rfl rfl fun G w a h0 A => N hX 14 A rfl rfl fun A => LOOP1 (fun (i : Nat) => [(0, .sl 0 1 1), (1, .int .i64 v), (4, .int .i64 0), (7, .int .i64 ((1 : Nat) : Int)), (8, .int .i64 (i : Int))]) (fun (i : Nat) => [some (.blk [.int .i64 5])]) (fun (i : Nat) => VI v [5] i) (fun (i : Nat) => 1 - i) 0 ⟨Nat.zero_le _, rfl⟩ ((A.cut [0, 1, 4, 7, 8] rfl).trunc 1 rfl rfl rfl (by simp only [List.length_cons, List.length_nil] at h0; omega)) fun i hI {G a w} A => N hX 6 A rfl rfl fun A => forkD 9 A rfl
   (fun h1 A => N hX 21 A rfl (ok_d (by omega) <| ok_d (by omega) <| okE_nil) fun A => forkE 16 A rfl
    (fun h2 A => N hX 8 A rfl rfl fun A => RETN hX A rfl rfl rfl h0 rfl rfl rfl rfl (by rw [hI.yes (by show i < 1; omega) h2]; rfl) rfl)
    (fun h2 A => N hX 8 A rfl (ok_d (by omega) <| okE_nil) fun A => ⟨i + 1, _, (by omega), (hI.no (by show i < 1; omega) h2), ((A.cut [0, 1, 4, 7, 8] rfl).trunc 1 rfl rfl rfl (by simp only [List.length_cons, List.length_nil] at h0; omega))⟩))
   (fun h1 A => N hX 9 A rfl rfl fun A => RETN hX A rfl rfl rfl h0 rfl rfl rfl rfl (by rw [hI.out (by show ¬ i < 1; omega)]; rfl) rfl)
theorem con5_ (v : Int)  : Fn Tryz.prog 178 [.sl 0 1 1, .int .i64 v] [some (.blk [.int .i64 5])] (Rt (.bool (decide (ixf v [5] 0 ≥ 0))) [some (.blk [.int .i64 5])]) :=
 enterM (n := 9) (by kernel_rfl) Tryz.func178 rfl rfl rfl fun G w a h0 A => N hX 9 A rfl rfl fun A => CALL1 [0] (ix5_ v) A rfl rfl rfl rfl rfl rfl rfl fun A => N hX 5 A rfl rfl fun A => RETN hX A rfl rfl rfl h0 rfl rfl rfl rfl rfl rfl
theorem ap5_ (t : List UInt8) (k : Int) (ht : t.length ≤ 2000000) : Fn Tryz.prog 125 [.agg [.str t, .int .i64 k], .sl 0 1 1] [some (.blk [.int .i64 5])] (Rt (.str (apT [5] t k)) [some (.blk [.int .i64 5])]) :=
 enterM (n := 15) (by kernel_rfl) Tryz.func125 rfl rfl rfl fun G w a h0 A => N hX 12 A rfl rfl fun A => CALL1 [0] (con5_ k) A rfl rfl rfl rfl rfl rfl rfl fun A => N hX 2 A rfl rfl fun A => forkD 8 A rfl
  (fun h1 A => N hX 11 A rfl (ok_d (by simp only [List.length_append, List.length_cons, List.length_nil]; omega) <| ok_d (by simp only [List.length_append, List.length_cons, List.length_nil]; omega) <| okE_nil) fun A => RETN hX A rfl rfl rfl h0 rfl rfl rfl rfl (by unfold apT; rw [if_pos h1]; rfl) rfl)
  (fun h1 A => N hX 11 A rfl rfl fun A => RETN hX A rfl rfl rfl h0 rfl rfl rfl rfl (by unfold apT; rw [if_neg h1]; rfl) rfl)
theorem locs_   : Fn Tryz.prog 124 [] [] (Rt (.sl 0 3 3) [some (.blk [.str [120], .str [121], .str [122]])]) :=
 enterM (n := 2) (by kernel_rfl) Tryz.func124 rfl rfl rfl fun G w a h0 A => N hX 12 A rfl rfl fun A => RET hX [0] A ⟨rfl, rfl⟩ rfl rfl rfl rfl rfl rfl rfl rfl h0
theorem fn_itoa (b : Nat) (o : Obj) (hT : ∀ w : World, w.heap[b]? = some o → Lib.TabIs Tryz.prog w "internal/strconv.uint64pow10" .u64 Lib.pow10Tab) (v : Int) (h0 : -9223372036854775808 ≤ v) (h1 : v ≤ 9223372036854775807) : Fn Tryz.prog 123 [.int .i64 v] [some (.fac b o)] (Rt (.str (Lib.itoa v)) [some (.fac b o)]) := by
  refine ⟨by kernel_rfl, fun G w vs hM hv => ?_⟩
  cases hv
  obtain ⟨L, e1, e2, e3⟩ := hM.ent 0 _ rfl
  refine (itoa_any v h0 h1 w (hT w e3)).mono ?_
  rintro e w' ⟨rfl, hg⟩
  have hl : G.length = 1 := hM.len.symm
  refine ⟨_, _, [], _, ⟨rfl, rfl⟩, rfl, rfl, ?_, (Mix.refl _ w).grow hg, ?_, fun i e he _ => he, fun i e he hm => ?_⟩
  · rw [List.append_nil]
    refine ⟨hM.len, fun i e he => (hM.ent i e he).mix hg.mix (fun _ _ _ => rfl), hM.sep⟩
  · rw [hl]; exact Nat.le_refl _
  · cases i with
    | zero => cases he; cases hm
    | succ i => cases he
end Go.Proofs.YtedlaclfhgneeabGreatDoor.Cd
namespace Go.Proofs.YtedlaclfhgneeabGreatDoor.Cd
open Go.RowKit
set_option linter.unusedVariables false
set_option linter.unusedSimpArgs false
set_option maxRecDepth 100000
set_option maxHeartbeats 2000000
set_option simprocs false
abbrev Pc := List UInt8 × Int
def pz : Pc := ([], 0)
theorem ap_len (ks : List Int) (t : List UInt8) (k : Int) : (apT ks t k).length ≤ t.length + 2 := by
  unfold apT; split
  · simp only [List.length_append, List.length_cons, List.length_nil]; omega
  · omega
theorem wr_f {R : List (List UInt8)} {l : List Pc} {j : Nat} {rg vl : Int} (ql : ∀ q, (l.getD q pz).1.length ≤ 1000000) (qR : ∀ q, (R.getD q []).length ≤ 100) (qv : -9223372036854775808 ≤ vl ∧ vl ≤ 9223372036854775807) : (l.getD ((((j : Nat) : Int) + 0).toNat) pz).1.length ≤ 1000000 ∧ (l.getD ((((j : Nat) : Int) + 1).toNat) pz).1.length ≤ 1000000 ∧ (R.getD (rg).toNat []).length ≤ 100 ∧ (Lib.itoa vl).length ≤ 21 ∧ (apT [4, 5] (l.getD ((((j : Nat) : Int) + 0).toNat) pz).1 (l.getD ((((j : Nat) : Int) + 0).toNat) pz).2).length ≤ 1000002 ∧ (apT [5] (l.getD ((((j : Nat) : Int) + 0).toNat) pz).1 (l.getD ((((j : Nat) : Int) + 0).toNat) pz).2).length ≤ 1000002 ∧ (apT [4, 5] (l.getD ((((j : Nat) : Int) + 1).toNat) pz).1 (l.getD ((((j : Nat) : Int) + 1).toNat) pz).2).length ≤ 1000002 ∧ (apT [5] (l.getD ((((j : Nat) : Int) + 1).toNat) pz).1 (l.getD ((((j : Nat) : Int) + 1).toNat) pz).2).length ≤ 1000002 := by
  have h0 := ql ((((j : Nat) : Int) + 0).toNat); have h1 := ql ((((j : Nat) : Int) + 1).toNat)
  exact ⟨h0, h1, qR _, Lib.itoa_length_le vl qv.1 qv.2, Nat.le_trans (ap_len _ _ _) (by omega), Nat.le_trans (ap_len _ _ _) (by omega), Nat.le_trans (ap_len _ _ _) (by omega), Nat.le_trans (ap_len _ _ _) (by omega)⟩
theorem wr_l (lc : Int) (h : 0 ≤ lc ∧ lc < 3) : ([[120], [121], [122]].getD (lc).toNat ([] : List UInt8)).length ≤ 1 := by
  have : (lc).toNat = 0 ∨ (lc).toNat = 1 ∨ (lc).toNat = 2 := by omega
  rcases this with e | e | e <;> rw [e] <;> decide
def wr0 (R : List (List UInt8)) (kd : Int) (th : Int) (rg : Int) (lc : Int) (vl : Int) (l : List Pc) (j : Nat) (k : Nat) : List UInt8 := if kd = 1 then ((((Lib.itoa th) ++ [58]) ++ (R.getD ((rg).toNat) [])) ++ [61]) ++ (Lib.itoa vl) else if kd = 2 then (([[120], [121], [122]].getD (lc).toNat []) ++ [61]) ++ (Lib.itoa vl) else if kd = 3 then [126] ++ (apT [4, 5] ((l.getD ((((j : Nat) : Int) + 0).toNat) pz).1) ((l.getD ((((j : Nat) : Int) + 0).toNat) pz).2)) else if kd = 4 then ((((apT [5] ((l.getD ((((j : Nat) : Int) + 0).toNat) pz).1) ((l.getD ((((j : Nat) : Int) + 0).toNat) pz).2)) ++ [32]) ++ [47, 92]) ++ [32]) ++ (apT [4, 5] ((l.getD ((((j : Nat) : Int) + 1).toNat) pz).1) ((l.getD ((((j : Nat) : Int) + 1).toNat) pz).2)) else (((((l.getD ((((j : Nat) : Int) + 0).toNat) pz).1) ++ [32]) ++ [92, 47]) ++ [32]) ++ (apT [5] ((l.getD ((((j : Nat) : Int) + 1).toNat) pz).1) ((l.getD ((((j : Nat) : Int) + 1).toNat) pz).2))
theorem wr_ (R : List (List UInt8)) (kd : Int) (th : Int) (rg : Int) (lc : Int) (vl : Int) (l : List Pc) (j : Nat) (k : Nat) (b : Nat) (o : Obj) (hT : ∀ w : World, w.heap[b]? = some o → Lib.TabIs Tryz.prog w "internal/strconv.uint64pow10" .u64 Lib.pow10Tab) (hk : j + k ≤ l.length) (q1 : kd = 1 → 0 ≤ th ∧ th < 3 ∧ 0 ≤ rg ∧ rg < 8) (q2 : kd = 2 → 0 ≤ lc ∧ lc < 3) (q3 : kd = 3 → 1 ≤ k) (q4 : kd ≠ 1 → kd ≠ 2 → kd ≠ 3 → 2 ≤ k) (qv : -9223372036854775808 ≤ vl ∧ vl ≤ 9223372036854775807) (ql : ∀ q, (l.getD q pz).1.length ≤ 1000000) (qR : ∀ q, (R.getD q []).length ≤ 100) (hR : 8 ≤ R.length) : Fn Tryz.prog 54 [.sl 0 R.length 8, .agg [.int .i64 kd, .int .i64 th, .int .i64 rg, .int .i64 lc, .int .i64 vl], .st 1 2 j k 0] [some (.row 9 1 R.length 8 (fun zz => [.str (R.getD zz [])])), some (.row 114 2 l.length 0 (fun zz => [.str (l.getD zz pz).1, .int .i64 (l.getD zz pz).2])), some (.fac b o)] (Rt (.str (wr0 R kd th rg lc vl l j k)) [some (.row 9 1 R.length 8 (fun zz => [.str (R.getD zz [])])), some (.row 114 2 l.length 0 (fun zz => [.str (l.getD zz pz).1, .int .i64 (l.getD zz pz).2])), some (.fac b o)]) :=
 enterM (n := 75) (by kernel_rfl) Tryz.func54 rfl rfl rfl fun G w a h0 A => N hX 20 A rfl rfl fun A => forkE 9 A rfl
  (fun h1 A => N hX 2 A rfl rfl fun A => DRAWN hX hmo [] [(2, .str (Lib.itoa th), [some (.row 9 1 R.length 8 (fun zz => [.str (R.getD zz [])])), some (.row 114 2 l.length 0 (fun zz => [.str (l.getD zz pz).1, .int .i64 (l.getD zz pz).2])), some (.fac b o), some (.blk [.int .i64 kd, .int .i64 th, .int .i64 rg, .int .i64 lc, .int .i64 vl])]), (13, .str (Lib.itoa vl), [some (.row 9 1 R.length 8 (fun zz => [.str (R.getD zz [])])), some (.row 114 2 l.length 0 (fun zz => [.str (l.getD zz pz).1, .int .i64 (l.getD zz pz).2])), some (.fac b o), some (.blk [.int .i64 kd, .int .i64 th, .int .i64 rg, .int .i64 lc, .int .i64 vl])])] A rfl (ok_d (by have hz := wr_f (j := j) (rg := rg) ql qR qv; have := Lib.itoa_length_le th (by omega) (by omega); (try simp only [List.length_append, List.length_cons, List.length_nil]); omega) <| ok_d (by have hz := wr_f (j := j) (rg := rg) ql qR qv; have := Lib.itoa_length_le th (by omega) (by omega); (try simp only [List.length_append, List.length_cons, List.length_nil]); omega) <| ok_d (by have hz := wr_f (j := j) (rg := rg) ql qR qv; have := Lib.itoa_length_le th (by omega) (by omega); (try simp only [List.length_append, List.length_cons, List.length_nil]); omega) <| ok_d (by have hz := wr_f (j := j) (rg := rg) ql qR qv; have := Lib.itoa_length_le th (by omega) (by omega); (try simp only [List.length_append, List.length_cons, List.length_nil]); omega) <| ok_d (by have hz := wr_f (j := j) (rg := rg) ql qR qv; have := Lib.itoa_length_le th (by omega) (by omega); (try simp only [List.length_append, List.length_cons, List.length_nil]); omega) <| ok_d (by have hz := wr_f (j := j) (rg := rg) ql qR qv; have := Lib.itoa_length_le th (by omega) (by omega); (try simp only [List.length_append, List.length_cons, List.length_nil]); omega) <| ok_d (by have hz := wr_f (j := j) (rg := rg) ql qR qv; have := Lib.itoa_length_le th (by omega) (by omega); (try simp only [List.length_append, List.length_cons, List.length_nil]); omega) <| ok_d (by have hz := wr_f (j := j) (rg := rg) ql qR qv; have := Lib.itoa_length_le th (by omega) (by omega); (try simp only [List.length_append, List.length_cons, List.length_nil]); omega) <| ok_d (by have hz := wr_f (j := j) (rg := rg) ql qR qv; have := Lib.itoa_length_le th (by omega) (by omega); (try simp only [List.length_append, List.length_cons, List.length_nil]); omega) <| ok_d (by have hz := wr_f (j := j) (rg := rg) ql qR qv; have := Lib.itoa_length_le th (by omega) (by omega); (try simp only [List.length_append, List.length_cons, List.length_nil]); omega) <| ok_d (by have hz := wr_f (j := j) (rg := rg) ql qR qv; have := Lib.itoa_length_le th (by omega) (by omega); (try simp only [List.length_append, List.length_cons, List.length_nil]); omega) <| ok_d (by have hz := wr_f (j := j) (rg := rg) ql qR qv; have := Lib.itoa_length_le th (by omega) (by omega); (try simp only [List.length_append, List.length_cons, List.length_nil]); omega) <| ok_d (by have hz := wr_f (j := j) (rg := rg) ql qR qv; have := Lib.itoa_length_le th (by omega) (by omega); (try simp only [List.length_append, List.length_cons, List.length_nil]); omega) <| okE_nil) rfl rfl (by kernel_rfl) ⟨callE [2] (fn_itoa b o hT th (by omega) (by omega)) rfl rfl rfl rfl rfl rfl rfl, ⟨callE [2] (fn_itoa b o hT vl (by omega) (by omega)) rfl rfl rfl rfl rfl rfl rfl, trivial⟩⟩ trivial fun A => N hX 2 A rfl rfl fun A => RETN hX A rfl rfl rfl h0 rfl rfl rfl rfl (by simp only [oneS, nb, nbL, nbH, wr0, if_pos h1]) rfl)
  (fun h1 A => N hX 7 A rfl rfl fun A => forkE 26 A rfl
   (fun h2 A => N hX 2 A rfl rfl fun A => DRAWN hX hmo [] [(0, .sl 4 3 3, [some (.row 9 1 R.length 8 (fun zz => [.str (R.getD zz [])])), some (.row 114 2 l.length 0 (fun zz => [.str (l.getD zz pz).1, .int .i64 (l.getD zz pz).2])), some (.fac b o), some (.blk [.int .i64 kd, .int .i64 th, .int .i64 rg, .int .i64 lc, .int .i64 vl]), some (.blk [.str [120], .str [121], .str [122]])]), (8, .str (Lib.itoa vl), [some (.row 9 1 R.length 8 (fun zz => [.str (R.getD zz [])])), some (.row 114 2 l.length 0 (fun zz => [.str (l.getD zz pz).1, .int .i64 (l.getD zz pz).2])), some (.fac b o), some (.blk [.int .i64 kd, .int .i64 th, .int .i64 rg, .int .i64 lc, .int .i64 vl]), some (.blk [.str [120], .str [121], .str [122]])])] A rfl (ok_d (by omega) <| ok_d (by omega) <| ok_d (by omega) <| ok_d (by omega) <| ok_d (by have hz := wr_f (j := j) (rg := rg) ql qR qv; have hx := wr_l lc (by omega); (try simp only [List.length_append, List.length_cons, List.length_nil]); omega) <| ok_d (by have hz := wr_f (j := j) (rg := rg) ql qR qv; have hx := wr_l lc (by omega); (try simp only [List.length_append, List.length_cons, List.length_nil]); omega) <| ok_d (by have hz := wr_f (j := j) (rg := rg) ql qR qv; have hx := wr_l lc (by omega); (try simp only [List.length_append, List.length_cons, List.length_nil]); omega) <| okE_nil) rfl rfl (by kernel_rfl) ⟨callE [] locs_ rfl rfl rfl rfl rfl rfl rfl, ⟨callE [2] (fn_itoa b o hT vl (by omega) (by omega)) rfl rfl rfl rfl rfl rfl rfl, trivial⟩⟩ trivial fun A => N hX 2 A rfl rfl fun A => RETN hX A rfl rfl rfl h0 rfl rfl rfl rfl (by simp only [oneS, nb, nbL, nbH, wr0, if_neg (h1), if_pos h2]) rfl)
   (fun h2 A => N hX 7 A rfl rfl fun A => forkE 38 A rfl
    (fun h3 A => N hX 7 A rfl (ok_d (by have hz := wr_f (j := j) (rg := rg) ql qR qv; (try simp only [List.length_append, List.length_cons, List.length_nil]); omega) <| ok_d (by have hz := wr_f (j := j) (rg := rg) ql qR qv; (try simp only [List.length_append, List.length_cons, List.length_nil]); omega) <| okE_nil) fun A => CALL1 [4] (ap45_ ((l.getD ((((j : Nat) : Int) + 0).toNat) pz).1) ((l.getD ((((j : Nat) : Int) + 0).toNat) pz).2) (by have hz := wr_f (j := j) (rg := rg) ql qR qv; (try simp only [List.length_append, List.length_cons, List.length_nil]); omega)) A rfl rfl rfl rfl rfl rfl rfl fun A => N hX 5 A rfl (ok_d (by have hz := wr_f (j := j) (rg := rg) ql qR qv; (try simp only [List.length_append, List.length_cons, List.length_nil]); omega) <| okE_nil) fun A => RETN hX A rfl rfl rfl h0 rfl rfl rfl rfl (by simp only [oneS, nb, nbL, nbH, wr0, if_neg (h1), if_neg (h2), if_pos h3]) rfl)
    (fun h3 A => N hX 7 A rfl rfl fun A => forkE 46 A rfl
     (fun h4 A => N hX 2 A rfl rfl fun A => ANY hmo [.st 1 2 j k 0, .el 1 2 (((j : Nat) : Int) + 0) 0, .agg [.str ((l.getD ((((j : Nat) : Int) + 0).toNat) pz).1), .int .i64 ((l.getD ((((j : Nat) : Int) + 0).toNat) pz).2)], .sl 4 1 1, .str (apT [5] ((l.getD ((((j : Nat) : Int) + 0).toNat) pz).1) ((l.getD ((((j : Nat) : Int) + 0).toNat) pz).2)), .str ((apT [5] ((l.getD ((((j : Nat) : Int) + 0).toNat) pz).1) ((l.getD ((((j : Nat) : Int) + 0).toNat) pz).2)) ++ [32]), .str (((apT [5] ((l.getD ((((j : Nat) : Int) + 0).toNat) pz).1) ((l.getD ((((j : Nat) : Int) + 0).toNat) pz).2)) ++ [32]) ++ [47, 92]), .str ((((apT [5] ((l.getD ((((j : Nat) : Int) + 0).toNat) pz).1) ((l.getD ((((j : Nat) : Int) + 0).toNat) pz).2)) ++ [32]) ++ [47, 92]) ++ [32]), .st 1 2 j k 0, .el 1 2 (((j : Nat) : Int) + 1) 0, .agg [.str ((l.getD ((((j : Nat) : Int) + 1).toNat) pz).1), .int .i64 ((l.getD ((((j : Nat) : Int) + 1).toNat) pz).2)], .sl 5 2 2, .str (apT [4, 5] ((l.getD ((((j : Nat) : Int) + 1).toNat) pz).1) ((l.getD ((((j : Nat) : Int) + 1).toNat) pz).2)), .str (((((apT [5] ((l.getD ((((j : Nat) : Int) + 0).toNat) pz).1) ((l.getD ((((j : Nat) : Int) + 0).toNat) pz).2)) ++ [32]) ++ [47, 92]) ++ [32]) ++ (apT [4, 5] ((l.getD ((((j : Nat) : Int) + 1).toNat) pz).1) ((l.getD ((((j : Nat) : Int) + 1).toNat) pz).2))), .str (((((apT [5] ((l.getD ((((j : Nat) : Int) + 0).toNat) pz).1) ((l.getD ((((j : Nat) : Int) + 0).toNat) pz).2)) ++ [32]) ++ [47, 92]) ++ [32]) ++ (apT [4, 5] ((l.getD ((((j : Nat) : Int) + 1).toNat) pz).1) ((l.getD ((((j : Nat) : Int) + 1).toNat) pz).2)))] [3, 4, 11, 12] [4, 5] 2 [([], [4, 5], [some (.row 9 1 R.length 8 (fun zz => [.str (R.getD zz [])])), some (.row 114 2 l.length 0 (fun zz => [.str (l.getD zz pz).1, .int .i64 (l.getD zz pz).2])), some (.fac b o), some (.blk [.int .i64 kd, .int .i64 th, .int .i64 rg, .int .i64 lc, .int .i64 vl]), none, none]), ([3], [5], [some (.row 9 1 R.length 8 (fun zz => [.str (R.getD zz [])])), some (.row 114 2 l.length 0 (fun zz => [.str (l.getD zz pz).1, .int .i64 (l.getD zz pz).2])), some (.fac b o), some (.blk [.int .i64 kd, .int .i64 th, .int .i64 rg, .int .i64 lc, .int .i64 vl]), some (.blk [.int .i64 5]), none]), ([11], [4], [some (.row 9 1 R.length 8 (fun zz => [.str (R.getD zz [])])), some (.row 114 2 l.length 0 (fun zz => [.str (l.getD zz pz).1, .int .i64 (l.getD zz pz).2])), some (.fac b o), some (.blk [.int .i64 kd, .int .i64 th, .int .i64 rg, .int .i64 lc, .int .i64 vl]), none, some (.blk [.int .i64 4, .int .i64 5])]), ([3, 4], [5], [some (.row 9 1 R.length 8 (fun zz => [.str (R.getD zz [])])), some (.row 114 2 l.length 0 (fun zz => [.str (l.getD zz pz).1, .int .i64 (l.getD zz pz).2])), some (.fac b o), some (.blk [.int .i64 kd, .int .i64 th, .int .i64 rg, .int .i64 lc, .int .i64 vl]), some (.blk [.int .i64 5]), none]), ([3, 11], [], [some (.row 9 1 R.length 8 (fun zz => [.str (R.getD zz [])])), some (.row 114 2 l.length 0 (fun zz => [.str (l.getD zz pz).1, .int .i64 (l.getD zz pz).2])), some (.fac b o), some (.blk [.int .i64 kd, .int .i64 th, .int .i64 rg, .int .i64 lc, .int .i64 vl]), some (.blk [.int .i64 5]), some (.blk [.int .i64 4, .int .i64 5])]), ([3, 4, 11], [], [some (.row 9 1 R.length 8 (fun zz => [.str (R.getD zz [])])), some (.row 114 2 l.length 0 (fun zz => [.str (l.getD zz pz).1, .int .i64 (l.getD zz pz).2])), some (.fac b o), some (.blk [.int .i64 kd, .int .i64 th, .int .i64 rg, .int .i64 lc, .int .i64 vl]), some (.blk [.int .i64 5]), some (.blk [.int .i64 4, .int .i64 5])]), ([3, 4, 11, 12], [], [some (.row 9 1 R.length 8 (fun zz => [.str (R.getD zz [])])), some (.row 114 2 l.length 0 (fun zz => [.str (l.getD zz pz).1, .int .i64 (l.getD zz pz).2])), some (.fac b o), some (.blk [.int .i64 kd, .int .i64 th, .int .i64 rg, .int .i64 lc, .int .i64 vl]), some (.blk [.int .i64 5]), some (.blk [.int .i64 4, .int .i64 5])])] [[true, true, true, true, false, false, false, false, true, true, true, true, false, false, false], [true, true, true, false, true, false, false, false, true, true, true, true, false, false, false], [true, true, true, true, false, false, false, false, true, true, true, false, false, false, false], [true, true, false, false, false, true, true, true, true, true, true, true, false, false, false], [true, true, true, false, true, false, false, false, true, true, true, false, false, false, false], [true, true, false, false, false, true, true, true, true, true, true, false, true, false, false], [true, true, false, false, false, true, true, true, true, true, false, false, false, true, true]] A rfl rfl rfl rfl (by kernel_rfl) rfl (by kernel_rfl) ⟨⟨⟨_, _, _, _, 0, rfl, rfl, rfl, rfl, eff_at (eff_auto (X := ⟨_, true⟩) (out := .val _ _) hX rfl rfl) rfl⟩, ⟨⟨_, _, _, _, 0, rfl, rfl, rfl, rfl, eff_at (eff_auto (X := ⟨_, true⟩) (out := .val _ _) hX rfl (ok_d (by have hz := wr_f (j := j) (rg := rg) ql qR qv; (try simp only [List.length_append, List.length_cons, List.length_nil]); omega) <| okE_nil)) rfl⟩, ⟨⟨_, _, _, _, 0, rfl, rfl, rfl, rfl, eff_at (eff_auto (X := ⟨_, true⟩) (out := .val _ _) hX rfl (ok_d (by have hz := wr_f (j := j) (rg := rg) ql qR qv; (try simp only [List.length_append, List.length_cons, List.length_nil]); omega) <| okE_nil)) rfl⟩, ⟨⟨_, _, _, _, 1, rfl, rfl, rfl, rfl, new_at 4 (X := ⟨_, true⟩) hX rfl rfl (le0 h0 rfl) rfl rfl rfl rfl⟩, ⟨⟨_, _, _, _, 0, rfl, rfl, rfl, rfl, eff_at (eff_auto (X := ⟨_, true⟩) (out := .val _ _) hX rfl rfl) rfl⟩, ⟨⟨_, _, _, _, 0, rfl, rfl, rfl, rfl, eff_at (eff_auto (X := ⟨_, true⟩) (out := .val _ _) hX rfl (ok_d (by have hz := wr_f (j := j) (rg := rg) ql qR qv; (try simp only [List.length_append, List.length_cons, List.length_nil]); omega) <| okE_nil)) rfl⟩, ⟨⟨_, _, _, _, 0, rfl, rfl, rfl, rfl, eff_at (eff_auto (X := ⟨_, true⟩) (out := .val _ _) hX rfl (ok_d (by have hz := wr_f (j := j) (rg := rg) ql qR qv; (try simp only [List.length_append, List.length_cons, List.length_nil]); omega) <| okE_nil)) rfl⟩, ⟨⟨_, _, _, _, 2, rfl, rfl, rfl, rfl, new_at 5 (X := ⟨_, true⟩) hX rfl rfl (le0 h0 rfl) rfl rfl rfl rfl⟩, trivial⟩⟩⟩⟩⟩⟩⟩⟩, ⟨⟨⟨_, _, _, _, 1, rfl, rfl, rfl, rfl, eff_at (eff_auto (X := ⟨_, true⟩) (out := .val _ _) hX rfl rfl) rfl⟩, ⟨⟨_, _, _, _, 1, rfl, rfl, rfl, rfl, eff_at (eff_auto (X := ⟨_, true⟩) (out := .val _ _) hX rfl (ok_d (by have hz := wr_f (j := j) (rg := rg) ql qR qv; (try simp only [List.length_append, List.length_cons, List.length_nil]); omega) <| okE_nil)) rfl⟩, ⟨⟨_, _, _, _, 1, rfl, rfl, rfl, rfl, eff_at (eff_auto (X := ⟨_, true⟩) (out := .val _ _) hX rfl (ok_d (by have hz := wr_f (j := j) (rg := rg) ql qR qv; (try simp only [List.length_append, List.length_cons, List.length_nil]); omega) <| okE_nil)) rfl⟩, ⟨⟨_, _, _, _, 3, rfl, rfl, rfl, rfl, eff_at (callE [4] (ap5_ ((l.getD ((((j : Nat) : Int) + 0).toNat) pz).1) ((l.getD ((((j : Nat) : Int) + 0).toNat) pz).2) (by have hz := wr_f (j := j) (rg := rg) ql qR qv; (try simp only [List.length_append, List.length_cons, List.length_nil]); omega)) rfl rfl rfl rfl rfl rfl rfl) rfl⟩, ⟨⟨_, _, _, _, 1, rfl, rfl, rfl, rfl, eff_at (eff_auto (X := ⟨_, true⟩) (out := .val _ _) hX rfl rfl) rfl⟩, ⟨⟨_, _, _, _, 1, rfl, rfl, rfl, rfl, eff_at (eff_auto (X := ⟨_, true⟩) (out := .val _ _) hX rfl (ok_d (by have hz := wr_f (j := j) (rg := rg) ql qR qv; (try simp only [List.length_append, List.length_cons, List.length_nil]); omega) <| okE_nil)) rfl⟩, ⟨⟨_, _, _, _, 1, rfl, rfl, rfl, rfl, eff_at (eff_auto (X := ⟨_, true⟩) (out := .val _ _) hX rfl (ok_d (by have hz := wr_f (j := j) (rg := rg) ql qR qv; (try simp only [List.length_append, List.length_cons, List.length_nil]); omega) <| okE_nil)) rfl⟩, ⟨⟨_, _, _, _, 4, rfl, rfl, rfl, rfl, new_at 5 (X := ⟨_, true⟩) hX rfl rfl (le0 h0 rfl) rfl rfl rfl rfl⟩, trivial⟩⟩⟩⟩⟩⟩⟩⟩, ⟨⟨⟨_, _, _, _, 2, rfl, rfl, rfl, rfl, eff_at (eff_auto (X := ⟨_, true⟩) (out := .val _ _) hX rfl rfl) rfl⟩, ⟨⟨_, _, _, _, 2, rfl, rfl, rfl, rfl, eff_at (eff_auto (X := ⟨_, true⟩) (out := .val _ _) hX rfl (ok_d (by have hz := wr_f (j := j) (rg := rg) ql qR qv; (try simp only [List.length_append, List.length_cons, List.length_nil]); omega) <| okE_nil)) rfl⟩, ⟨⟨_, _, _, _, 2, rfl, rfl, rfl, rfl, eff_at (eff_auto (X := ⟨_, true⟩) (out := .val _ _) hX rfl (ok_d (by have hz := wr_f (j := j) (rg := rg) ql qR qv; (try simp only [List.length_append, List.length_cons, List.length_nil]); omega) <| okE_nil)) rfl⟩, ⟨⟨_, _, _, _, 4, rfl, rfl, rfl, rfl, new_at 4 (X := ⟨_, true⟩) hX rfl rfl (le0 h0 rfl) rfl rfl rfl rfl⟩, ⟨⟨_, _, _, _, 2, rfl, rfl, rfl, rfl, eff_at (eff_auto (X := ⟨_, true⟩) (out := .val _ _) hX rfl rfl) rfl⟩, ⟨⟨_, _, _, _, 2, rfl, rfl, rfl, rfl, eff_at (eff_auto (X := ⟨_, true⟩) (out := .val _ _) hX rfl (ok_d (by have hz := wr_f (j := j) (rg := rg) ql qR qv; (try simp only [List.length_append, List.length_cons, List.length_nil]); omega) <| okE_nil)) rfl⟩, ⟨⟨_, _, _, _, 2, rfl, rfl, rfl, rfl, eff_at (eff_auto (X := ⟨_, true⟩) (out := .val _ _) hX rfl (ok_d (by have hz := wr_f (j := j) (rg := rg) ql qR qv; (try simp only [List.length_append, List.length_cons, List.length_nil]); omega) <| okE_nil)) rfl⟩, trivial⟩⟩⟩⟩⟩⟩⟩, ⟨⟨⟨_, _, _, _, 3, rfl, rfl, rfl, rfl, eff_at (eff_auto (X := ⟨_, true⟩) (out := .val _ _) hX rfl rfl) rfl⟩, ⟨⟨_, _, _, _, 3, rfl, rfl, rfl, rfl, eff_at (eff_auto (X := ⟨_, true⟩) (out := .val _ _) hX rfl (ok_d (by have hz := wr_f (j := j) (rg := rg) ql qR qv; (try simp only [List.length_append, List.length_cons, List.length_nil]); omega) <| okE_nil)) rfl⟩, ⟨⟨_, _, _, _, 3, rfl, rfl, rfl, rfl, eff_at (eff_auto (X := ⟨_, true⟩) (out := .val _ _) hX rfl (ok_d (by have hz := wr_f (j := j) (rg := rg) ql qR qv; (try simp only [List.length_append, List.length_cons, List.length_nil]); omega) <| okE_nil)) rfl⟩, ⟨⟨_, _, _, _, 3, rfl, rfl, rfl, rfl, eff_at (eff_auto (X := ⟨_, true⟩) (out := .val _ _) hX rfl (ok_d (by have hz := wr_f (j := j) (rg := rg) ql qR qv; (try simp only [List.length_append, List.length_cons, List.length_nil]); omega) <| okE_nil)) rfl⟩, ⟨⟨_, _, _, _, 3, rfl, rfl, rfl, rfl, eff_at (eff_auto (X := ⟨_, true⟩) (out := .val _ _) hX rfl (ok_d (by have hz := wr_f (j := j) (rg := rg) ql qR qv; (try simp only [List.length_append, List.length_cons, List.length_nil]); omega) <| okE_nil)) rfl⟩, ⟨⟨_, _, _, _, 3, rfl, rfl, rfl, rfl, eff_at (eff_auto (X := ⟨_, true⟩) (out := .val _ _) hX rfl rfl) rfl⟩, ⟨⟨_, _, _, _, 3, rfl, rfl, rfl, rfl, eff_at (eff_auto (X := ⟨_, true⟩) (out := .val _ _) hX rfl (ok_d (by have hz := wr_f (j := j) (rg := rg) ql qR qv; (try simp only [List.length_append, List.length_cons, List.length_nil]); omega) <| okE_nil)) rfl⟩, ⟨⟨_, _, _, _, 3, rfl, rfl, rfl, rfl, eff_at (eff_auto (X := ⟨_, true⟩) (out := .val _ _) hX rfl (ok_d (by have hz := wr_f (j := j) (rg := rg) ql qR qv; (try simp only [List.length_append, List.length_cons, List.length_nil]); omega) <| okE_nil)) rfl⟩, ⟨⟨_, _, _, _, 5, rfl, rfl, rfl, rfl, new_at 5 (X := ⟨_, true⟩) hX rfl rfl (le0 h0 rfl) rfl rfl rfl rfl⟩, trivial⟩⟩⟩⟩⟩⟩⟩⟩⟩, ⟨⟨⟨_, _, _, _, 4, rfl, rfl, rfl, rfl, eff_at (eff_auto (X := ⟨_, true⟩) (out := .val _ _) hX rfl rfl) rfl⟩, ⟨⟨_, _, _, _, 4, rfl, rfl, rfl, rfl, eff_at (eff_auto (X := ⟨_, true⟩) (out := .val _ _) hX rfl (ok_d (by have hz := wr_f (j := j) (rg := rg) ql qR qv; (try simp only [List.length_append, List.length_cons, List.length_nil]); omega) <| okE_nil)) rfl⟩, ⟨⟨_, _, _, _, 4, rfl, rfl, rfl, rfl, eff_at (eff_auto (X := ⟨_, true⟩) (out := .val _ _) hX rfl (ok_d (by have hz := wr_f (j := j) (rg := rg) ql qR qv; (try simp only [List.length_append, List.length_cons, List.length_nil]); omega) <| okE_nil)) rfl⟩, ⟨⟨_, _, _, _, 5, rfl, rfl, rfl, rfl, eff_at (callE [4] (ap5_ ((l.getD ((((j : Nat) : Int) + 0).toNat) pz).1) ((l.getD ((((j : Nat) : Int) + 0).toNat) pz).2) (by have hz := wr_f (j := j) (rg := rg) ql qR qv; (try simp only [List.length_append, List.length_cons, List.length_nil]); omega)) rfl rfl rfl rfl rfl rfl rfl) rfl⟩, ⟨⟨_, _, _, _, 4, rfl, rfl, rfl, rfl, eff_at (eff_auto (X := ⟨_, true⟩) (out := .val _ _) hX rfl rfl) rfl⟩, ⟨⟨_, _, _, _, 4, rfl, rfl, rfl, rfl, eff_at (eff_auto (X := ⟨_, true⟩) (out := .val _ _) hX rfl (ok_d (by have hz := wr_f (j := j) (rg := rg) ql qR qv; (try simp only [List.length_append, List.length_cons, List.length_nil]); omega) <| okE_nil)) rfl⟩, ⟨⟨_, _, _, _, 4, rfl, rfl, rfl, rfl, eff_at (eff_auto (X := ⟨_, true⟩) (out := .val _ _) hX rfl (ok_d (by have hz := wr_f (j := j) (rg := rg) ql qR qv; (try simp only [List.length_append, List.length_cons, List.length_nil]); omega) <| okE_nil)) rfl⟩, trivial⟩⟩⟩⟩⟩⟩⟩, ⟨⟨⟨_, _, _, _, 5, rfl, rfl, rfl, rfl, eff_at (eff_auto (X := ⟨_, true⟩) (out := .val _ _) hX rfl rfl) rfl⟩, ⟨⟨_, _, _, _, 5, rfl, rfl, rfl, rfl, eff_at (eff_auto (X := ⟨_, true⟩) (out := .val _ _) hX rfl (ok_d (by have hz := wr_f (j := j) (rg := rg) ql qR qv; (try simp only [List.length_append, List.length_cons, List.length_nil]); omega) <| okE_nil)) rfl⟩, ⟨⟨_, _, _, _, 5, rfl, rfl, rfl, rfl, eff_at (eff_auto (X := ⟨_, true⟩) (out := .val _ _) hX rfl (ok_d (by have hz := wr_f (j := j) (rg := rg) ql qR qv; (try simp only [List.length_append, List.length_cons, List.length_nil]); omega) <| okE_nil)) rfl⟩, ⟨⟨_, _, _, _, 5, rfl, rfl, rfl, rfl, eff_at (eff_auto (X := ⟨_, true⟩) (out := .val _ _) hX rfl (ok_d (by have hz := wr_f (j := j) (rg := rg) ql qR qv; (try simp only [List.length_append, List.length_cons, List.length_nil]); omega) <| okE_nil)) rfl⟩, ⟨⟨_, _, _, _, 5, rfl, rfl, rfl, rfl, eff_at (eff_auto (X := ⟨_, true⟩) (out := .val _ _) hX rfl (ok_d (by have hz := wr_f (j := j) (rg := rg) ql qR qv; (try simp only [List.length_append, List.length_cons, List.length_nil]); omega) <| okE_nil)) rfl⟩, ⟨⟨_, _, _, _, 5, rfl, rfl, rfl, rfl, eff_at (eff_auto (X := ⟨_, true⟩) (out := .val _ _) hX rfl rfl) rfl⟩, ⟨⟨_, _, _, _, 5, rfl, rfl, rfl, rfl, eff_at (eff_auto (X := ⟨_, true⟩) (out := .val _ _) hX rfl (ok_d (by have hz := wr_f (j := j) (rg := rg) ql qR qv; (try simp only [List.length_append, List.length_cons, List.length_nil]); omega) <| okE_nil)) rfl⟩, ⟨⟨_, _, _, _, 5, rfl, rfl, rfl, rfl, eff_at (eff_auto (X := ⟨_, true⟩) (out := .val _ _) hX rfl (ok_d (by have hz := wr_f (j := j) (rg := rg) ql qR qv; (try simp only [List.length_append, List.length_cons, List.length_nil]); omega) <| okE_nil)) rfl⟩, ⟨⟨_, _, _, _, 6, rfl, rfl, rfl, rfl, eff_at (callE [5] (ap45_ ((l.getD ((((j : Nat) : Int) + 1).toNat) pz).1) ((l.getD ((((j : Nat) : Int) + 1).toNat) pz).2) (by have hz := wr_f (j := j) (rg := rg) ql qR qv; (try simp only [List.length_append, List.length_cons, List.length_nil]); omega)) rfl rfl rfl rfl rfl rfl rfl) rfl⟩, trivial⟩⟩⟩⟩⟩⟩⟩⟩⟩, ⟨⟨⟨_, _, _, _, 6, rfl, rfl, rfl, rfl, eff_at (eff_auto (X := ⟨_, true⟩) (out := .val _ _) hX rfl rfl) rfl⟩, ⟨⟨_, _, _, _, 6, rfl, rfl, rfl, rfl, eff_at (eff_auto (X := ⟨_, true⟩) (out := .val _ _) hX rfl (ok_d (by have hz := wr_f (j := j) (rg := rg) ql qR qv; (try simp only [List.length_append, List.length_cons, List.length_nil]); omega) <| okE_nil)) rfl⟩, ⟨⟨_, _, _, _, 6, rfl, rfl, rfl, rfl, eff_at (eff_auto (X := ⟨_, true⟩) (out := .val _ _) hX rfl (ok_d (by have hz := wr_f (j := j) (rg := rg) ql qR qv; (try simp only [List.length_append, List.length_cons, List.length_nil]); omega) <| okE_nil)) rfl⟩, ⟨⟨_, _, _, _, 6, rfl, rfl, rfl, rfl, eff_at (eff_auto (X := ⟨_, true⟩) (out := .val _ _) hX rfl (ok_d (by have hz := wr_f (j := j) (rg := rg) ql qR qv; (try simp only [List.length_append, List.length_cons, List.length_nil]); omega) <| okE_nil)) rfl⟩, ⟨⟨_, _, _, _, 6, rfl, rfl, rfl, rfl, eff_at (eff_auto (X := ⟨_, true⟩) (out := .val _ _) hX rfl (ok_d (by have hz := wr_f (j := j) (rg := rg) ql qR qv; (try simp only [List.length_append, List.length_cons, List.length_nil]); omega) <| okE_nil)) rfl⟩, ⟨⟨_, _, _, _, 6, rfl, rfl, rfl, rfl, eff_at (eff_auto (X := ⟨_, true⟩) (out := .val _ _) hX rfl rfl) rfl⟩, ⟨⟨_, _, _, _, 6, rfl, rfl, rfl, rfl, eff_at (eff_auto (X := ⟨_, true⟩) (out := .val _ _) hX rfl (ok_d (by have hz := wr_f (j := j) (rg := rg) ql qR qv; (try simp only [List.length_append, List.length_cons, List.length_nil]); omega) <| okE_nil)) rfl⟩, ⟨⟨_, _, _, _, 6, rfl, rfl, rfl, rfl, eff_at (eff_auto (X := ⟨_, true⟩) (out := .val _ _) hX rfl (ok_d (by have hz := wr_f (j := j) (rg := rg) ql qR qv; (try simp only [List.length_append, List.length_cons, List.length_nil]); omega) <| okE_nil)) rfl⟩, ⟨⟨_, _, _, _, 6, rfl, rfl, rfl, rfl, eff_at (eff_auto (X := ⟨_, true⟩) (out := .val _ _) hX rfl rfl) rfl⟩, trivial⟩⟩⟩⟩⟩⟩⟩⟩⟩, trivial⟩⟩⟩⟩⟩⟩⟩ fun A => N hX 2 A rfl rfl fun A => RETN hX A rfl rfl rfl h0 rfl rfl rfl rfl (by simp only [oneS, nb, nbL, nbH, wr0, if_neg (h1), if_neg (h2), if_neg (h3), if_pos h4]) rfl)
     (fun h4 A => N hX 5 A rfl rfl fun A => DRAWN hX hmo [] [(11, .str (apT [5] ((l.getD ((((j : Nat) : Int) + 1).toNat) pz).1) ((l.getD ((((j : Nat) : Int) + 1).toNat) pz).2)), [some (.row 9 1 R.length 8 (fun zz => [.str (R.getD zz [])])), some (.row 114 2 l.length 0 (fun zz => [.str (l.getD zz pz).1, .int .i64 (l.getD zz pz).2])), some (.fac b o), some (.blk [.int .i64 kd, .int .i64 th, .int .i64 rg, .int .i64 lc, .int .i64 vl]), some (.blk [.int .i64 5])])] A rfl (ok_d (by have hz := wr_f (j := j) (rg := rg) ql qR qv; (try simp only [List.length_append, List.length_cons, List.length_nil]); omega) <| ok_d (by have hz := wr_f (j := j) (rg := rg) ql qR qv; (try simp only [List.length_append, List.length_cons, List.length_nil]); omega) <| ok_d (by have hz := wr_f (j := j) (rg := rg) ql qR qv; (try simp only [List.length_append, List.length_cons, List.length_nil]); omega) <| ok_d (by have hz := wr_f (j := j) (rg := rg) ql qR qv; (try simp only [List.length_append, List.length_cons, List.length_nil]); omega) <| ok_d (by have hz := wr_f (j := j) (rg := rg) ql qR qv; (try simp only [List.length_append, List.length_cons, List.length_nil]); omega) <| ok_d (by have hz := wr_f (j := j) (rg := rg) ql qR qv; (try simp only [List.length_append, List.length_cons, List.length_nil]); omega) <| ok_d (by have hz := wr_f (j := j) (rg := rg) ql qR qv; (try simp only [List.length_append, List.length_cons, List.length_nil]); omega) <| ok_d (by have hz := wr_f (j := j) (rg := rg) ql qR qv; (try simp only [List.length_append, List.length_cons, List.length_nil]); omega) <| ok_d (by have hz := wr_f (j := j) (rg := rg) ql qR qv; (try simp only [List.length_append, List.length_cons, List.length_nil]); omega) <| ok_d (by have hz := wr_f (j := j) (rg := rg) ql qR qv; (try simp only [List.length_append, List.length_cons, List.length_nil]); omega) <| ok_d (by have hz := wr_f (j := j) (rg := rg) ql qR qv; (try simp only [List.length_append, List.length_cons, List.length_nil]); omega) <| ok_d (by have hz := wr_f (j := j) (rg := rg) ql qR qv; (try simp only [List.length_append, List.length_cons, List.length_nil]); omega) <| ok_d (by have hz := wr_f (j := j) (rg := rg) ql qR qv; (try simp only [List.length_append, List.length_cons, List.length_nil]); omega) <| ok_d (by have hz := wr_f (j := j) (rg := rg) ql qR qv; (try simp only [List.length_append, List.length_cons, List.length_nil]); omega) <| ok_d (by have hz := wr_f (j := j) (rg := rg) ql qR qv; (try simp only [List.length_append, List.length_cons, List.length_nil]); omega) <| ok_d (by have hz := wr_f (j := j) (rg := rg) ql qR qv; (try simp only [List.length_append, List.length_cons, List.length_nil]); omega) <| ok_d (by have hz := wr_f (j := j) (rg := rg) ql qR qv; (try simp only [List.length_append, List.length_cons, List.length_nil]); omega) <| ok_d (by have hz := wr_f (j := j) (rg := rg) ql qR qv; (try simp only [List.length_append, List.length_cons, List.length_nil]); omega) <| ok_d (by have hz := wr_f (j := j) (rg := rg) ql qR qv; (try simp only [List.length_append, List.length_cons, List.length_nil]); omega) <| ok_d (by have hz := wr_f (j := j) (rg := rg) ql qR qv; (try simp only [List.length_append, List.length_cons, List.length_nil]); omega) <| ok_d (by have hz := wr_f (j := j) (rg := rg) ql qR qv; (try simp only [List.length_append, List.length_cons, List.length_nil]); omega) <| ok_d (by have hz := wr_f (j := j) (rg := rg) ql qR qv; (try simp only [List.length_append, List.length_cons, List.length_nil]); omega) <| ok_d (by have hz := wr_f (j := j) (rg := rg) ql qR qv; (try simp only [List.length_append, List.length_cons, List.length_nil]); omega) <| ok_d (by have hz := wr_f (j := j) (rg := rg) ql qR qv; (try simp only [List.length_append, List.length_cons, List.length_nil]); omega) <| okE_nil) rfl rfl (by kernel_rfl) ⟨trivial, ⟨callE [4] (ap5_ ((l.getD ((((j : Nat) : Int) + 1).toNat) pz).1) ((l.getD ((((j : Nat) : Int) + 1).toNat) pz).2) (by have hz := wr_f (j := j) (rg := rg) ql qR qv; (try simp only [List.length_append, List.length_cons, List.length_nil]); omega)) rfl rfl rfl rfl rfl rfl rfl, trivial⟩⟩ trivial fun A => N hX 2 A rfl rfl fun A => RETN hX A rfl rfl rfl h0 rfl rfl rfl rfl (by simp only [oneS, nb, nbL, nbH, wr0, if_neg (h1), if_neg (h2), if_neg (h3), if_neg (h4)]) rfl))))
theorem pone_ (R : List (List UInt8)) (kd : Int) (th : Int) (rg : Int) (lc : Int) (vl : Int) (l : List Pc) (j : Nat) (k : Nat) (b : Nat) (o : Obj) (hT : ∀ w : World, w.heap[b]? = some o → Lib.TabIs Tryz.prog w "internal/strconv.uint64pow10" .u64 Lib.pow10Tab) (hk : j + k ≤ l.length) (q1 : kd = 1 → 0 ≤ th ∧ th < 3 ∧ 0 ≤ rg ∧ rg < 8) (q2 : kd = 2 → 0 ≤ lc ∧ lc < 3) (q3 : kd = 3 → 1 ≤ k) (q4 : kd ≠ 1 → kd ≠ 2 → kd ≠ 3 → 2 ≤ k) (qv : -9223372036854775808 ≤ vl ∧ vl ≤ 9223372036854775807) (ql : ∀ q, (l.getD q pz).1.length ≤ 1000000) (qR : ∀ q, (R.getD q []).length ≤ 100) (hR : 8 ≤ R.length) : Fn Tryz.prog 53 [.agg [.int .i64 kd, .int .i64 th, .int .i64 rg, .int .i64 lc, .int .i64 vl], .st 2 2 j k 0, .ptr 0 0] [some (.blk [.sl 1 R.length 8]), some (.row 9 1 R.length 8 (fun zz => [.str (R.getD zz [])])), some (.row 114 2 l.length 0 (fun zz => [.str (l.getD zz pz).1, .int .i64 (l.getD zz pz).2])), some (.fac b o)] (Rt (.agg [.str (wr0 R kd th rg lc vl l j k), .int .i64 kd]) [some (.blk [.sl 1 R.length 8]), some (.row 9 1 R.length 8 (fun zz => [.str (R.getD zz [])])), some (.row 114 2 l.length 0 (fun zz => [.str (l.getD zz pz).1, .int .i64 (l.getD zz pz).2])), some (.fac b o)]) :=
 enterM (n := 13) (by kernel_rfl) Tryz.func53 rfl rfl rfl fun G w a h0 A => N hX 7 A rfl rfl fun A => DRAWN hX hmo [] [(3, .str (wr0 R kd th rg lc vl l j k), [some (.blk [.sl 1 R.length 8]), some (.row 9 1 R.length 8 (fun zz => [.str (R.getD zz [])])), some (.row 114 2 l.length 0 (fun zz => [.str (l.getD zz pz).1, .int .i64 (l.getD zz pz).2])), some (.fac b o), some (.blk [.int .i64 kd, .int .i64 th, .int .i64 rg, .int .i64 lc, .int .i64 vl]), some (.blk [.str [], .int .i64 0])])] A rfl rfl rfl rfl (by kernel_rfl) ⟨callE [1, 2, 3] (wr_ R kd th rg lc vl l j k b o hT hk q1 q2 q3 q4 qv ql qR hR) rfl rfl rfl rfl rfl rfl rfl, ⟨trivial, trivial⟩⟩ trivial fun A => N hX 2 A rfl rfl fun A => RETN hX A rfl rfl rfl h0 rfl rfl rfl rfl rfl rfl
end Go.Proofs.YtedlaclfhgneeabGreatDoor.Cd
namespace Go.Proofs.YtedlaclfhgneeabGreatDoor
open Go.RowKit
set_option linter.unusedVariables false
set_option linter.unusedSimpArgs false
set_option maxRecDepth 100000
set_option maxHeartbeats 2000000
set_option simprocs false
section
variable {ws : List Tk} {k : Nat} {s : As} {m : List UInt8} {x : Int} {ls rs : List (List UInt8)}
theorem nxK_ge : k ≤ nxK ws k := by unfold nxK; split <;> omega
theorem tkK_ge : k ≤ tkK ws k m := by unfold tkK; split <;> omega
theorem nbK_ge : k ≤ nbK ws k := by unfold nbK; (repeat' split) <;> omega
theorem mkA_ge : s.p ≤ (mkA ws s m).p := by
  unfold mkA; split
  · exact tkK_ge
  · rw [refA_p]; exact tkK_ge
theorem numA_ge : s.p ≤ (numA ws s).p := by
  unfold numA; split
  · exact nbK_ge
  · rw [refA_p]; exact Nat.le_trans nbK_ge tkK_ge
theorem knA_ge : s.p ≤ (knA ws s ls).p := by
  unfold knA; split
  · split
    · rw [refA_p]; exact Nat.le_refl _
    · exact nxK_ge
  · rw [refA_p]; exact Nat.le_refl _
theorem hoA_ge : s.p ≤ (hoA ws s rs).p := by
  have h1 : s.p ≤ (hoS ws s).p := by
    unfold hoS; split
    · rw [refA_p]; exact Nat.le_refl _
    · exact Nat.le_refl _
  unfold hoA; split
  · exact Nat.le_trans h1 (Nat.le_trans nxK_ge (Nat.le_trans (mkA_ge (s := ⟨nxK ws (hoS ws s).p, (hoS ws s).e, (hoS ws s).a⟩)) knA_ge))
  · exact knA_ge
theorem leA_ge : s.p ≤ (leA ws s rs).p := Nat.le_trans hoA_ge (Nat.le_trans mkA_ge numA_ge)
end
theorem brk_congr {wf wg : Nat → Int} : ∀ {n : Nat}, (∀ j, j < n → wf j = wg j) → brk wf n = brk wg n
  | 0, _ => rfl
  | n + 1, h => by
    show brk wf n + (if wf n ≤ 5 then 0 else 1) = brk wg n + (if wg n ≤ 5 then 0 else 1)
    rw [brk_congr (fun j hj => h j (by omega)), h n (by omega)]
theorem brk_upd (wf : Nat → Int) (m : Nat) (x : Int) : brk (updW wf m x) (m + 1) = brk wf m + (if x ≤ 5 then 0 else 1) := by
  show brk (updW wf m x) m + (if updW wf m x m ≤ 5 then 0 else 1) = _
  rw [brk_congr (wg := wf) (fun j hj => updW_l hj), updW_1]
theorem brk_setk {k : Int} (hk : k ≤ 5) (wf : Nat → Int) : ∀ (n : Nat) (ns : List Cn), brk wf (setF k wf n ns).1 = brk wf n
  | 0, ns => rfl
  | n + 1, ns => by
    unfold setF
    by_cases h : wf n ≤ k
    · rw [if_pos h, brk_setk hk wf n]
      show brk wf n = brk wf n + _
      rw [if_pos (by omega)]; rfl
    · rw [if_neg h]
theorem begF_ok {ws : List Tk} : ∀ (f : Nat) (z : Bg), z.p ≤ ws.length → z.op = (brk z.wf z.m : Int) → (begF ws f z).p ≤ ws.length ∧ z.p ≤ (begF ws f z).p ∧ (begF ws f z).m + z.p ≤ z.m + (begF ws f z).p ∧ (begF ws f z).op = (brk (begF ws f z).wf (begF ws f z).m : Int)
  | 0, z, h, ho => ⟨h, Nat.le_refl _, Nat.le_refl _, ho⟩
  | f + 1, z, h, ho => by
    unfold begF
    by_cases h1 : tkB ws z.p [126] = true
    · rw [if_pos h1]
      have e := tk_go h1
      have hl := tkb_lt h1
      have := begF_ok (ws := ws) f ⟨tkK ws z.p [126], z.m + 1, updW z.wf z.m 3, z.op⟩ (by show tkK ws z.p [126] ≤ _; omega) (by show z.op = ((brk (updW z.wf z.m 3) (z.m + 1) : Nat) : Int); rw [brk_upd, if_pos (by decide)]; exact ho)
      obtain ⟨a, b, c, d⟩ := this
      exact ⟨a, by have : tkK ws z.p [126] ≤ _ := b; omega, by have b' : tkK ws z.p [126] ≤ _ := b; have c' : _ + tkK ws z.p [126] ≤ z.m + 1 + _ := c; omega, d⟩
    · rw [if_neg h1]
      have h1' : tkB ws z.p [126] = false := by simpa using h1
      have e1 := tk_st h1'
      by_cases h2 : tkB ws (tkK ws z.p [126]) [40] = true
      · rw [if_pos h2]
        have e := tk_go h2
        have hl := tkb_lt h2
        have := begF_ok (ws := ws) f ⟨tkK ws (tkK ws z.p [126]) [40], z.m + 1, updW z.wf z.m 6, z.op + 1⟩ (by show tkK ws (tkK ws z.p [126]) [40] ≤ _; omega) (by show z.op + 1 = ((brk (updW z.wf z.m 6) (z.m + 1) : Nat) : Int); rw [brk_upd, if_neg (by decide)]; omega)
        obtain ⟨a, b, c, d⟩ := this
        exact ⟨a, by have : tkK ws (tkK ws z.p [126]) [40] ≤ _ := b; omega, by have b' : tkK ws (tkK ws z.p [126]) [40] ≤ _ := b; have c' : _ + tkK ws (tkK ws z.p [126]) [40] ≤ z.m + 1 + _ := c; omega, d⟩
      · rw [if_neg h2]
        have h2' : tkB ws (tkK ws z.p [126]) [40] = false := by simpa using h2
        have e2 := tk_st h2'
        refine ⟨?_, ?_, ?_, ho⟩
        · show tkK ws (tkK ws z.p [126]) [40] ≤ _; omega
        · show z.p ≤ tkK ws (tkK ws z.p [126]) [40]; omega
        · show z.m + z.p ≤ z.m + tkK ws (tkK ws z.p [126]) [40]; omega
theorem endF_ok {ws : List Tk} {wf : Nat → Int} : ∀ (f : Nat) (z : Eg), z.p ≤ ws.length → z.op = (brk wf z.m : Int) → (endF ws wf f z).p ≤ ws.length ∧ z.p ≤ (endF ws wf f z).p ∧ (endF ws wf f z).ns.length + (endF ws wf f z).m ≤ z.ns.length + z.m ∧ (endF ws wf f z).op = (brk wf (endF ws wf f z).m : Int)
  | 0, z, h, ho => ⟨h, Nat.le_refl _, Nat.le_refl _, ho⟩
  | f + 1, z, h, ho => by
    unfold endF
    by_cases h0 : z.op > 0
    · rw [if_pos h0]
      by_cases h1 : tkB ws z.p [41] = true
      · rw [if_pos h1]
        have e := tk_go h1
        have hl := tkb_lt h1
        have hp := brk_pop (wf := wf) (n := z.m) (ns := z.ns) (by omega)
        have hs := set_add 5 wf z.m z.ns
        have en : ((((setF 5 wf z.m z.ns).1 : Nat) : Int) - 1).toNat = (setF 5 wf z.m z.ns).1 - 1 := by omega
        have := endF_ok (ws := ws) (wf := wf) f ⟨tkK ws z.p [41], (setF 5 wf z.m z.ns).2, ((((setF 5 wf z.m z.ns).1 : Nat) : Int) - 1).toNat, z.op - 1⟩ (by show tkK ws z.p [41] ≤ _; omega) (by show z.op - 1 = ((brk wf ((((setF 5 wf z.m z.ns).1 : Nat) : Int) - 1).toNat : Nat) : Int); rw [en]; omega)
        obtain ⟨a, b, c, d⟩ := this
        refine ⟨a, ?_, ?_, d⟩
        · have b' : tkK ws z.p [41] ≤ _ := b; omega
        · have c' : _ ≤ (setF 5 wf z.m z.ns).2.length + ((((setF 5 wf z.m z.ns).1 : Nat) : Int) - 1).toNat := c; omega
      · rw [if_neg h1]
        have h1' : tkB ws z.p [41] = false := by simpa using h1
        have e1 := tk_st h1'
        refine ⟨?_, ?_, Nat.le_refl _, ho⟩
        · show tkK ws z.p [41] ≤ _; omega
        · show z.p ≤ tkK ws z.p [41]; omega
    · rw [if_neg h0]; exact ⟨h, Nat.le_refl _, Nat.le_refl _, ho⟩
theorem joF_ok {ws : List Tk} {p : Nat} {ns : List Cn} {m : Nat} {wf : Nat → Int} (h : p ≤ ws.length) : (joF ws p ns m wf).2.1 ≤ ws.length ∧ p ≤ (joF ws p ns m wf).2.1 ∧ ((joF ws p ns m wf).1 = true → p < (joF ws p ns m wf).2.1 ∧ (joF ws p ns m wf).2.2.1.length + (joF ws p ns m wf).2.2.2.1 ≤ ns.length + m + 1) ∧ ((joF ws p ns m wf).1 = false → (joF ws p ns m wf).2.2.1.length + (joF ws p ns m wf).2.2.2.1 ≤ ns.length + m) ∧ brk (joF ws p ns m wf).2.2.2.2 (joF ws p ns m wf).2.2.2.1 = brk wf m := by
  unfold joF
  by_cases h1 : tkB ws p [47, 92] = true
  · rw [if_pos h1]
    have e := tk_go h1
    have hl := tkb_lt h1
    have hs := set_add 4 wf m ns
    refine ⟨by show tkK ws p [47, 92] ≤ _; omega, by show p ≤ tkK ws p [47, 92]; omega, fun _ => ⟨by show p < tkK ws p [47, 92]; omega, by show (setF 4 wf m ns).2.length + ((setF 4 wf m ns).1 + 1) ≤ _; omega⟩, (fun e => (by cases e)), ?_⟩
    show brk (updW wf (setF 4 wf m ns).1 4) ((setF 4 wf m ns).1 + 1) = _
    rw [brk_upd, if_pos (by decide), brk_setk (by decide)]; rfl
  · rw [if_neg h1]
    have h1' : tkB ws p [47, 92] = false := by simpa using h1
    have e1 := tk_st h1'
    by_cases h2 : tkB ws (tkK ws p [47, 92]) [92, 47] = true
    · rw [if_pos h2]
      have e := tk_go h2
      have hl := tkb_lt h2
      have hs := set_add 5 wf m ns
      refine ⟨by show tkK ws (tkK ws p [47, 92]) [92, 47] ≤ _; omega, by show p ≤ tkK ws (tkK ws p [47, 92]) [92, 47]; omega, fun _ => ⟨by show p < tkK ws (tkK ws p [47, 92]) [92, 47]; omega, by show (setF 5 wf m ns).2.length + ((setF 5 wf m ns).1 + 1) ≤ _; omega⟩, (fun e => (by cases e)), ?_⟩
      show brk (updW wf (setF 5 wf m ns).1 5) ((setF 5 wf m ns).1 + 1) = _
      rw [brk_upd, if_pos (by decide), brk_setk (by decide)]; rfl
    · rw [if_neg h2]
      have h2' : tkB ws (tkK ws p [47, 92]) [92, 47] = false := by simpa using h2
      have e2 := tk_st h2'
      exact ⟨by show tkK ws (tkK ws p [47, 92]) [92, 47] ≤ _; omega, by show p ≤ tkK ws (tkK ws p [47, 92]) [92, 47]; omega, (fun e => (by cases e)), fun _ => Nat.le_refl _, rfl⟩
structure Cs where (s : As) (ns : List Cn) (m : Nat) (wf : Nat → Int) (op : Int)
def coB (ws : List Tk) (z : Cs) : Bg := (begF ws (ws.length - z.s.p + 1) (⟨z.s.p, z.m, z.wf, z.op⟩ : Bg))
def coS1 (ws : List Tk) (z : Cs) : As := ⟨(coB ws z).p, z.s.e, z.s.a⟩
def coL (ws : List Tk) (rs : List (List UInt8)) (z : Cs) : As := leA ws (coS1 ws z) rs
def coN (ws : List Tk) (rs : List (List UInt8)) (z : Cs) : List Cn := z.ns ++ [leC ws (coS1 ws z) rs]
def coE (ws : List Tk) (rs : List (List UInt8)) (z : Cs) : Eg := endF ws (coB ws z).wf (ws.length - (coL ws rs z).p + 1) ⟨(coL ws rs z).p, coN ws rs z, (coB ws z).m, (coB ws z).op⟩
def coJ (ws : List Tk) (rs : List (List UInt8)) (z : Cs) : Bool × Nat × List Cn × Nat × (Nat → Int) := joF ws (coE ws rs z).p (coE ws rs z).ns (coE ws rs z).m (coB ws z).wf
def coR (ws : List Tk) (rs : List (List UInt8)) (z : Cs) : Bool × Cs := ((coJ ws rs z).1, ⟨⟨(coJ ws rs z).2.1, (coL ws rs z).e, (coL ws rs z).a⟩, (coJ ws rs z).2.2.1, (coJ ws rs z).2.2.2.1, (coJ ws rs z).2.2.2.2, (coE ws rs z).op⟩)
def coF (ws : List Tk) (rs : List (List UInt8)) : Nat → Cs → Cs
  | 0, z => z
  | f + 1, z => if (coR ws rs z).1 = true then coF ws rs f (coR ws rs z).2 else (coR ws rs z).2
theorem coR_ok {ws : List Tk} {rs : List (List UInt8)} {z : Cs} (hk : z.s.p ≤ ws.length) (ho : z.op = (brk z.wf z.m : Int)) (hs : z.ns.length + z.m ≤ 2 * z.s.p) : (coR ws rs z).2.s.p ≤ ws.length ∧ z.s.p ≤ (coR ws rs z).2.s.p ∧ ((coR ws rs z).1 = true → z.s.p < (coR ws rs z).2.s.p ∧ (coR ws rs z).2.ns.length + (coR ws rs z).2.m ≤ 2 * (coR ws rs z).2.s.p) ∧ (coR ws rs z).2.ns.length + (coR ws rs z).2.m ≤ 2 * (coR ws rs z).2.s.p + 1 ∧ (coR ws rs z).2.op = (brk (coR ws rs z).2.wf (coR ws rs z).2.m : Int) := by
  obtain ⟨b1, b2, b3, b4⟩ := begF_ok (ws := ws) (ws.length - z.s.p + 1) (⟨z.s.p, z.m, z.wf, z.op⟩ : Bg) hk ho
  have b2 : z.s.p ≤ (coB ws z).p := b2
  have b3 : (coB ws z).m + z.s.p ≤ z.m + (coB ws z).p := b3
  have l1 : (coL ws rs z).p ≤ ws.length := leA_le (s := coS1 ws z) b1
  have l2 : (coB ws z).p ≤ (coL ws rs z).p := leA_ge (s := coS1 ws z)
  have ln : (coN ws rs z).length = z.ns.length + 1 := by unfold coN; rw [List.length_append]; rfl
  obtain ⟨e1, e2, e3, e4⟩ := endF_ok (ws := ws) (wf := (coB ws z).wf) (ws.length - (coL ws rs z).p + 1) (⟨(coL ws rs z).p, coN ws rs z, (coB ws z).m, (coB ws z).op⟩ : Eg) l1 b4
  have e1 : (coE ws rs z).p ≤ ws.length := e1
  have e2 : (coL ws rs z).p ≤ (coE ws rs z).p := e2
  have e3 : (coE ws rs z).ns.length + (coE ws rs z).m ≤ (coN ws rs z).length + (coB ws z).m := e3
  obtain ⟨j1, j2, j3, j4, j5⟩ := joF_ok (ws := ws) (p := (coE ws rs z).p) (ns := (coE ws rs z).ns) (m := (coE ws rs z).m) (wf := (coB ws z).wf) e1
  have j2 : (coE ws rs z).p ≤ (coJ ws rs z).2.1 := j2
  refine ⟨j1, by show z.s.p ≤ (coJ ws rs z).2.1; omega, fun h => ?_, ?_, ?_⟩
  · obtain ⟨k1, k2⟩ := j3 h
    have k1 : (coE ws rs z).p < (coJ ws rs z).2.1 := k1
    have k2 : (coJ ws rs z).2.2.1.length + (coJ ws rs z).2.2.2.1 ≤ (coE ws rs z).ns.length + (coE ws rs z).m + 1 := k2
    exact ⟨by show z.s.p < (coJ ws rs z).2.1; omega, by show (coJ ws rs z).2.2.1.length + (coJ ws rs z).2.2.2.1 ≤ 2 * (coJ ws rs z).2.1; omega⟩
  · show (coJ ws rs z).2.2.1.length + (coJ ws rs z).2.2.2.1 ≤ 2 * (coJ ws rs z).2.1 + 1
    cases hj : (coJ ws rs z).1 with
    | true =>
      obtain ⟨k1, k2⟩ := j3 hj
      have k1 : (coE ws rs z).p < (coJ ws rs z).2.1 := k1
      have k2 : (coJ ws rs z).2.2.1.length + (coJ ws rs z).2.2.2.1 ≤ (coE ws rs z).ns.length + (coE ws rs z).m + 1 := k2
      omega
    | false =>
      have k2 : (coJ ws rs z).2.2.1.length + (coJ ws rs z).2.2.2.1 ≤ (coE ws rs z).ns.length + (coE ws rs z).m := j4 hj
      omega
  · show (coE ws rs z).op = ((brk (coJ ws rs z).2.2.2.2 (coJ ws rs z).2.2.2.1 : Nat) : Int)
    have j5 : brk (coJ ws rs z).2.2.2.2 (coJ ws rs z).2.2.2.1 = brk (coB ws z).wf (coE ws rs z).m := j5
    rw [j5]; exact e4
theorem coF_fuel {ws : List Tk} {rs : List (List UInt8)} : ∀ (f g : Nat) (z : Cs), z.s.p ≤ ws.length → z.op = (brk z.wf z.m : Int) → z.ns.length + z.m ≤ 2 * z.s.p → ws.length - z.s.p < f → ws.length - z.s.p < g → coF ws rs f z = coF ws rs g z
  | 0, g, z, _, _, _, h, _ => by omega
  | f + 1, 0, z, _, _, _, _, h => by omega
  | f + 1, g + 1, z, hk, ho, hs, h1, h2 => by
    obtain ⟨r1, r2, r3, r4, r5⟩ := coR_ok (rs := rs) hk ho hs
    unfold coF
    cases hc : (coR ws rs z).1 with
    | false => rw [if_neg (by decide), if_neg (by decide)]
    | true =>
      rw [if_pos rfl, if_pos rfl]
      obtain ⟨k1, k2⟩ := r3 hc
      exact coF_fuel f g _ r1 r5 k2 (by omega) (by omega)
structure CoI (ws : List Tk) (rs : List (List UInt8)) (z0 z : Cs) (mr : Bool) : Prop where
  t : mr = true → coF ws rs (ws.length - z.s.p + 1) z = coF ws rs (ws.length - z0.s.p + 1) z0
  f : mr = false → z = coF ws rs (ws.length - z0.s.p + 1) z0
  le : z.s.p ≤ ws.length
  op : z.op = (brk z.wf z.m : Int)
  sm : mr = true → z.ns.length + z.m ≤ 2 * z.s.p
  s2 : z.ns.length + z.m ≤ 2 * z.s.p + 1
section
variable {ws : List Tk} {rs : List (List UInt8)} {z0 z : Cs} {mr : Bool}
theorem CoI.i0 (h1 : z0.s.p ≤ ws.length) (h2 : z0.op = (brk z0.wf z0.m : Int)) (h3 : z0.ns.length + z0.m ≤ 2 * z0.s.p) : CoI ws rs z0 z0 true := ⟨fun _ => rfl, (fun e => (by cases e)), h1, h2, fun _ => h3, by omega⟩
theorem CoI.go (h : CoI ws rs z0 z mr) (hm : mr = true) : CoI ws rs z0 (coR ws rs z).2 (coR ws rs z).1 := by
  obtain ⟨r1, r2, r3, r4, r5⟩ := coR_ok (rs := rs) h.le h.op (h.sm hm)
  have ht := h.t hm
  refine ⟨fun e => ?_, fun e => ?_, r1, r5, fun e => (r3 e).2, r4⟩
  · rw [← ht]
    have : coF ws rs (ws.length - z.s.p + 1) z = coF ws rs (ws.length - z.s.p) (coR ws rs z).2 := by
      conv => lhs; unfold coF
      rw [if_pos e]
    rw [this]
    exact coF_fuel _ _ _ r1 r5 (r3 e).2 (by omega) (by have := (r3 e).1; omega)
  · rw [← ht]
    unfold coF
    rw [if_neg (by rw [e]; decide)]
theorem CoI.ms (h : CoI ws rs z0 z mr) (hm : mr = true) : (bif (coR ws rs z).1 then ws.length - (coR ws rs z).2.s.p + 1 else 0) < (bif mr then ws.length - z.s.p + 1 else 0) := by
  obtain ⟨r1, r2, r3, r4, r5⟩ := coR_ok (rs := rs) h.le h.op (h.sm hm)
  subst hm
  cases hc : (coR ws rs z).1 with
  | false => show 0 < ws.length - z.s.p + 1; omega
  | true => have := (r3 hc).1; show ws.length - (coR ws rs z).2.s.p + 1 < ws.length - z.s.p + 1; omega
theorem CoI.fin (h : CoI ws rs z0 z mr) (hm : mr = false) : coF ws rs (ws.length - z0.s.p + 1) z0 = z := (h.f hm).symm
end
theorem condition_ (ws : List Tk) (cw : Nat) (rs : List (List UInt8)) (cr : Nat) (s : As) (ns : List Cn) (m : Nat) (wf : Nat → Int) (op : Int) (hk : s.p ≤ ws.length) (hn : ws.length ≤ 10000) (hw : WsOK ws) (hns : ns.length + m ≤ 100000) (hm : m ≤ 100000) (hrs : rs.length ≤ 1000) (hop : op = (brk wf m : Int)) (hsm : ns.length + m ≤ 2 * s.p) : Fn Tryz.prog 48 [.ptr 0 0] [some (.blk [.ptr 1 0, .sl 4 rs.length cr, .sl 5 ns.length 0, .sl 6 m 0, .int .i64 op]), some (.blk [.ptr 2 0, .int .i64 s.e, .int .i64 s.a]), some (.blk [.sl 3 ws.length cw, .int .i64 ((s.p : Nat) : Int)]), some (.lst 4 ws.length (fun zz => tkc (ws.getD zz tok0))), some (.lst 1 rs.length (fun zz => [.str (rs.getD zz [])])), some (.row 88 5 ns.length 0 (fun zz => cc (ns.getD zz Cn.z))), some (.row 3 1 m 0 (fun zz => [.int .i64 (wf zz)]))] (Rt (.tup []) [some (.blk [.ptr 1 0, .sl 4 rs.length cr, .sl 7 (((setF 5 (coF ws rs (ws.length - s.p + 1) (⟨s, ns, m, wf, op⟩ : Cs)).wf (coF ws rs (ws.length - s.p + 1) (⟨s, ns, m, wf, op⟩ : Cs)).m (coF ws rs (ws.length - s.p + 1) (⟨s, ns, m, wf, op⟩ : Cs)).ns).2).length) 0, .sl 8 ((setF 5 (coF ws rs (ws.length - s.p + 1) (⟨s, ns, m, wf, op⟩ : Cs)).wf (coF ws rs (ws.length - s.p + 1) (⟨s, ns, m, wf, op⟩ : Cs)).m (coF ws rs (ws.length - s.p + 1) (⟨s, ns, m, wf, op⟩ : Cs)).ns).1) 0, .int .i64 ((coF ws rs (ws.length - s.p + 1) (⟨s, ns, m, wf, op⟩ : Cs)).op)]), some (.blk [.ptr 2 0, .int .i64 ((bif decide ((coF ws rs (ws.length - s.p + 1) (⟨s, ns, m, wf, op⟩ : Cs)).op > 0) then refA ws (coF ws rs (ws.length - s.p + 1) (⟨s, ns, m, wf, op⟩ : Cs)).s 22 else (coF ws rs (ws.length - s.p + 1) (⟨s, ns, m, wf, op⟩ : Cs)).s).e), .int .i64 ((bif decide ((coF ws rs (ws.length - s.p + 1) (⟨s, ns, m, wf, op⟩ : Cs)).op > 0) then refA ws (coF ws rs (ws.length - s.p + 1) (⟨s, ns, m, wf, op⟩ : Cs)).s 22 else (coF ws rs (ws.length - s.p + 1) (⟨s, ns, m, wf, op⟩ : Cs)).s).a)]), some (.blk [.sl 3 ws.length cw, .int .i64 (((bif decide ((coF ws rs (ws.length - s.p + 1) (⟨s, ns, m, wf, op⟩ : Cs)).op > 0) then refA ws (coF ws rs (ws.length - s.p + 1) (⟨s, ns, m, wf, op⟩ : Cs)).s 22 else (coF ws rs (ws.length - s.p + 1) (⟨s, ns, m, wf, op⟩ : Cs)).s).p : Nat) : Int)]), some (.lst 4 ws.length (fun zz => tkc (ws.getD zz tok0))), some (.lst 1 rs.length (fun zz => [.str (rs.getD zz [])])), none, none, some (.row 88 5 (((setF 5 (coF ws rs (ws.length - s.p + 1) (⟨s, ns, m, wf, op⟩ : Cs)).wf (coF ws rs (ws.length - s.p + 1) (⟨s, ns, m, wf, op⟩ : Cs)).m (coF ws rs (ws.length - s.p + 1) (⟨s, ns, m, wf, op⟩ : Cs)).ns).2).length) 0 (fun zz => cc (((setF 5 (coF ws rs (ws.length - s.p + 1) (⟨s, ns, m, wf, op⟩ : Cs)).wf (coF ws rs (ws.length - s.p + 1) (⟨s, ns, m, wf, op⟩ : Cs)).m (coF ws rs (ws.length - s.p + 1) (⟨s, ns, m, wf, op⟩ : Cs)).ns).2).getD zz Cn.z))), some (.row 3 1 ((setF 5 (coF ws rs (ws.length - s.p + 1) (⟨s, ns, m, wf, op⟩ : Cs)).wf (coF ws rs (ws.length - s.p + 1) (⟨s, ns, m, wf, op⟩ : Cs)).m (coF ws rs (ws.length - s.p + 1) (⟨s, ns, m, wf, op⟩ : Cs)).ns).1) 0 (fun zz => [.int .i64 (((coF ws rs (ws.length - s.p + 1) (⟨s, ns, m, wf, op⟩ : Cs)).wf) zz)]))]) :=
 enterM (n := 24) (by kernel_rfl) Tryz.func48 rfl rfl rfl fun G w a h0 A => N hX 4 A rfl rfl fun A => have A := sy_sayD A 2 (.bool true) rfl (fun _ => rfl); N hX 3 A rfl rfl fun A => have A := (A.cut [0, 2] rfl).mx (T' := [(0, .ptr 0 0), (2, .bool true)]) (H' := [some (.blk [.ptr 1 0, .sl 4 rs.length cr, .sl 7 ns.length 0, .sl 8 m 0, .int .i64 op]), some (.blk [.ptr 2 0, .int .i64 s.e, .int .i64 s.a]), some (.blk [.sl 3 ws.length cw, .int .i64 ((s.p : Nat) : Int)]), some (.lst 4 ws.length (fun zz => tkc (ws.getD zz tok0))), some (.lst 1 rs.length (fun zz => [.str (rs.getD zz [])])), none, none, some (.row 88 5 ns.length 0 (fun zz => cc (ns.getD zz Cn.z))), some (.row 3 1 m 0 (fun zz => [.int .i64 (wf zz)]))]) 7 [5, 6] [true, true, true, true, true, false, false, true, true] rfl rfl rfl rfl rfl (by simp only [List.length_cons, List.length_nil] at h0; omega); LOOP2 (fun (z : Cs) (mr : Bool) => [(0, .ptr 0 0), (2, .bool mr)]) (fun (z : Cs) (mr : Bool) => [some (.blk [.ptr 1 0, .sl 4 rs.length cr, .sl 7 z.ns.length 0, .sl 8 z.m 0, .int .i64 z.op]), some (.blk [.ptr 2 0, .int .i64 z.s.e, .int .i64 z.s.a]), some (.blk [.sl 3 ws.length cw, .int .i64 ((z.s.p : Nat) : Int)]), some (.lst 4 ws.length (fun zz => tkc (ws.getD zz tok0))), some (.lst 1 rs.length (fun zz => [.str (rs.getD zz [])])), none, none, some (.row 88 5 z.ns.length 0 (fun zz => cc (z.ns.getD zz Cn.z))), some (.row 3 1 z.m 0 (fun zz => [.int .i64 (z.wf zz)]))]) (fun (z : Cs) (mr : Bool) => CoI ws rs (⟨s, ns, m, wf, op⟩ : Cs) z mr) (fun (z : Cs) (mr : Bool) => (bif mr then ws.length - z.s.p + 1 else 0)) (⟨s, ns, m, wf, op⟩ : Cs) true (CoI.i0 hk hop hsm) ((A.cut [0, 2] rfl).trunc 9 rfl rfl rfl (by simp only [List.length_cons, List.length_nil] at h0; omega)) fun z mr hI {G a w} A => N hX 6 A rfl rfl fun A => fork 3 A rfl
   (fun h1 A => N hX 8 A rfl rfl fun A => CALL1 [0, 1, 2, 3, 4, 7, 8] (begun_ ws cw rs cr z.s z.ns z.m z.wf z.op hI.le (by obtain ⟨b1, b2, b3, b4⟩ := begF_ok (ws := ws) (ws.length - z.s.p + 1) (⟨z.s.p, z.m, z.wf, z.op⟩ : Bg) hI.le hI.op; have q0 := hI.sm h1; have b3 : (begF ws (ws.length - z.s.p + 1) (⟨z.s.p, z.m, z.wf, z.op⟩ : Bg)).m + z.s.p ≤ z.m + (begF ws (ws.length - z.s.p + 1) (⟨z.s.p, z.m, z.wf, z.op⟩ : Bg)).p := b3; have b2 : z.s.p ≤ (begF ws (ws.length - z.s.p + 1) (⟨z.s.p, z.m, z.wf, z.op⟩ : Bg)).p := b2; have qb := brk_le z.wf z.m; have qo := hI.op; have qc := brk_le (begF ws (ws.length - z.s.p + 1) (⟨z.s.p, z.m, z.wf, z.op⟩ : Bg)).wf (begF ws (ws.length - z.s.p + 1) (⟨z.s.p, z.m, z.wf, z.op⟩ : Bg)).m; omega) hw (by obtain ⟨b1, b2, b3, b4⟩ := begF_ok (ws := ws) (ws.length - z.s.p + 1) (⟨z.s.p, z.m, z.wf, z.op⟩ : Bg) hI.le hI.op; have q0 := hI.sm h1; have b3 : (begF ws (ws.length - z.s.p + 1) (⟨z.s.p, z.m, z.wf, z.op⟩ : Bg)).m + z.s.p ≤ z.m + (begF ws (ws.length - z.s.p + 1) (⟨z.s.p, z.m, z.wf, z.op⟩ : Bg)).p := b3; have b2 : z.s.p ≤ (begF ws (ws.length - z.s.p + 1) (⟨z.s.p, z.m, z.wf, z.op⟩ : Bg)).p := b2; have qb := brk_le z.wf z.m; have qo := hI.op; have qc := brk_le (begF ws (ws.length - z.s.p + 1) (⟨z.s.p, z.m, z.wf, z.op⟩ : Bg)).wf (begF ws (ws.length - z.s.p + 1) (⟨z.s.p, z.m, z.wf, z.op⟩ : Bg)).m; have l1 : (leA ws (⟨(begF ws (ws.length - z.s.p + 1) (⟨z.s.p, z.m, z.wf, z.op⟩ : Bg)).p, z.s.e, z.s.a⟩ : As) rs).p ≤ ws.length := leA_le (s := (⟨(begF ws (ws.length - z.s.p + 1) (⟨z.s.p, z.m, z.wf, z.op⟩ : Bg)).p, z.s.e, z.s.a⟩ : As)) b1; have l2 : (begF ws (ws.length - z.s.p + 1) (⟨z.s.p, z.m, z.wf, z.op⟩ : Bg)).p ≤ (leA ws (⟨(begF ws (ws.length - z.s.p + 1) (⟨z.s.p, z.m, z.wf, z.op⟩ : Bg)).p, z.s.e, z.s.a⟩ : As) rs).p := leA_ge (s := (⟨(begF ws (ws.length - z.s.p + 1) (⟨z.s.p, z.m, z.wf, z.op⟩ : Bg)).p, z.s.e, z.s.a⟩ : As)); have ln : (z.ns ++ [leC ws (⟨(begF ws (ws.length - z.s.p + 1) (⟨z.s.p, z.m, z.wf, z.op⟩ : Bg)).p, z.s.e, z.s.a⟩ : As) rs]).length = z.ns.length + 1 := (by rw [List.length_append]; rfl); obtain ⟨e1, e2, e3, e4⟩ := endF_ok (ws := ws) (wf := (begF ws (ws.length - z.s.p + 1) (⟨z.s.p, z.m, z.wf, z.op⟩ : Bg)).wf) (ws.length - (leA ws (⟨(begF ws (ws.length - z.s.p + 1) (⟨z.s.p, z.m, z.wf, z.op⟩ : Bg)).p, z.s.e, z.s.a⟩ : As) rs).p + 1) (⟨(leA ws (⟨(begF ws (ws.length - z.s.p + 1) (⟨z.s.p, z.m, z.wf, z.op⟩ : Bg)).p, z.s.e, z.s.a⟩ : As) rs).p, (z.ns ++ [leC ws (⟨(begF ws (ws.length - z.s.p + 1) (⟨z.s.p, z.m, z.wf, z.op⟩ : Bg)).p, z.s.e, z.s.a⟩ : As) rs]), (begF ws (ws.length - z.s.p + 1) (⟨z.s.p, z.m, z.wf, z.op⟩ : Bg)).m, (begF ws (ws.length - z.s.p + 1) (⟨z.s.p, z.m, z.wf, z.op⟩ : Bg)).op⟩ : Eg) l1 b4; have e3 : (endF ws ((begF ws (ws.length - z.s.p + 1) (⟨z.s.p, z.m, z.wf, z.op⟩ : Bg)).wf) (ws.length - (leA ws (⟨(begF ws (ws.length - z.s.p + 1) (⟨z.s.p, z.m, z.wf, z.op⟩ : Bg)).p, z.s.e, z.s.a⟩ : As) rs).p + 1) (⟨(leA ws (⟨(begF ws (ws.length - z.s.p + 1) (⟨z.s.p, z.m, z.wf, z.op⟩ : Bg)).p, z.s.e, z.s.a⟩ : As) rs).p, (z.ns ++ [leC ws (⟨(begF ws (ws.length - z.s.p + 1) (⟨z.s.p, z.m, z.wf, z.op⟩ : Bg)).p, z.s.e, z.s.a⟩ : As) rs]), (begF ws (ws.length - z.s.p + 1) (⟨z.s.p, z.m, z.wf, z.op⟩ : Bg)).m, (begF ws (ws.length - z.s.p + 1) (⟨z.s.p, z.m, z.wf, z.op⟩ : Bg)).op⟩ : Eg)).ns.length + (endF ws ((begF ws (ws.length - z.s.p + 1) (⟨z.s.p, z.m, z.wf, z.op⟩ : Bg)).wf) (ws.length - (leA ws (⟨(begF ws (ws.length - z.s.p + 1) (⟨z.s.p, z.m, z.wf, z.op⟩ : Bg)).p, z.s.e, z.s.a⟩ : As) rs).p + 1) (⟨(leA ws (⟨(begF ws (ws.length - z.s.p + 1) (⟨z.s.p, z.m, z.wf, z.op⟩ : Bg)).p, z.s.e, z.s.a⟩ : As) rs).p, (z.ns ++ [leC ws (⟨(begF ws (ws.length - z.s.p + 1) (⟨z.s.p, z.m, z.wf, z.op⟩ : Bg)).p, z.s.e, z.s.a⟩ : As) rs]), (begF ws (ws.length - z.s.p + 1) (⟨z.s.p, z.m, z.wf, z.op⟩ : Bg)).m, (begF ws (ws.length - z.s.p + 1) (⟨z.s.p, z.m, z.wf, z.op⟩ : Bg)).op⟩ : Eg)).m ≤ (z.ns ++ [leC ws (⟨(begF ws (ws.length - z.s.p + 1) (⟨z.s.p, z.m, z.wf, z.op⟩ : Bg)).p, z.s.e, z.s.a⟩ : As) rs]).length + (begF ws (ws.length - z.s.p + 1) (⟨z.s.p, z.m, z.wf, z.op⟩ : Bg)).m := e3; omega) (by obtain ⟨b1, b2, b3, b4⟩ := begF_ok (ws := ws) (ws.length - z.s.p + 1) (⟨z.s.p, z.m, z.wf, z.op⟩ : Bg) hI.le hI.op; have q0 := hI.sm h1; have b3 : (begF ws (ws.length - z.s.p + 1) (⟨z.s.p, z.m, z.wf, z.op⟩ : Bg)).m + z.s.p ≤ z.m + (begF ws (ws.length - z.s.p + 1) (⟨z.s.p, z.m, z.wf, z.op⟩ : Bg)).p := b3; have b2 : z.s.p ≤ (begF ws (ws.length - z.s.p + 1) (⟨z.s.p, z.m, z.wf, z.op⟩ : Bg)).p := b2; have qb := brk_le z.wf z.m; have qo := hI.op; have qc := brk_le (begF ws (ws.length - z.s.p + 1) (⟨z.s.p, z.m, z.wf, z.op⟩ : Bg)).wf (begF ws (ws.length - z.s.p + 1) (⟨z.s.p, z.m, z.wf, z.op⟩ : Bg)).m; have l1 : (leA ws (⟨(begF ws (ws.length - z.s.p + 1) (⟨z.s.p, z.m, z.wf, z.op⟩ : Bg)).p, z.s.e, z.s.a⟩ : As) rs).p ≤ ws.length := leA_le (s := (⟨(begF ws (ws.length - z.s.p + 1) (⟨z.s.p, z.m, z.wf, z.op⟩ : Bg)).p, z.s.e, z.s.a⟩ : As)) b1; have l2 : (begF ws (ws.length - z.s.p + 1) (⟨z.s.p, z.m, z.wf, z.op⟩ : Bg)).p ≤ (leA ws (⟨(begF ws (ws.length - z.s.p + 1) (⟨z.s.p, z.m, z.wf, z.op⟩ : Bg)).p, z.s.e, z.s.a⟩ : As) rs).p := leA_ge (s := (⟨(begF ws (ws.length - z.s.p + 1) (⟨z.s.p, z.m, z.wf, z.op⟩ : Bg)).p, z.s.e, z.s.a⟩ : As)); have ln : (z.ns ++ [leC ws (⟨(begF ws (ws.length - z.s.p + 1) (⟨z.s.p, z.m, z.wf, z.op⟩ : Bg)).p, z.s.e, z.s.a⟩ : As) rs]).length = z.ns.length + 1 := (by rw [List.length_append]; rfl); obtain ⟨e1, e2, e3, e4⟩ := endF_ok (ws := ws) (wf := (begF ws (ws.length - z.s.p + 1) (⟨z.s.p, z.m, z.wf, z.op⟩ : Bg)).wf) (ws.length - (leA ws (⟨(begF ws (ws.length - z.s.p + 1) (⟨z.s.p, z.m, z.wf, z.op⟩ : Bg)).p, z.s.e, z.s.a⟩ : As) rs).p + 1) (⟨(leA ws (⟨(begF ws (ws.length - z.s.p + 1) (⟨z.s.p, z.m, z.wf, z.op⟩ : Bg)).p, z.s.e, z.s.a⟩ : As) rs).p, (z.ns ++ [leC ws (⟨(begF ws (ws.length - z.s.p + 1) (⟨z.s.p, z.m, z.wf, z.op⟩ : Bg)).p, z.s.e, z.s.a⟩ : As) rs]), (begF ws (ws.length - z.s.p + 1) (⟨z.s.p, z.m, z.wf, z.op⟩ : Bg)).m, (begF ws (ws.length - z.s.p + 1) (⟨z.s.p, z.m, z.wf, z.op⟩ : Bg)).op⟩ : Eg) l1 b4; have e3 : (endF ws ((begF ws (ws.length - z.s.p + 1) (⟨z.s.p, z.m, z.wf, z.op⟩ : Bg)).wf) (ws.length - (leA ws (⟨(begF ws (ws.length - z.s.p + 1) (⟨z.s.p, z.m, z.wf, z.op⟩ : Bg)).p, z.s.e, z.s.a⟩ : As) rs).p + 1) (⟨(leA ws (⟨(begF ws (ws.length - z.s.p + 1) (⟨z.s.p, z.m, z.wf, z.op⟩ : Bg)).p, z.s.e, z.s.a⟩ : As) rs).p, (z.ns ++ [leC ws (⟨(begF ws (ws.length - z.s.p + 1) (⟨z.s.p, z.m, z.wf, z.op⟩ : Bg)).p, z.s.e, z.s.a⟩ : As) rs]), (begF ws (ws.length - z.s.p + 1) (⟨z.s.p, z.m, z.wf, z.op⟩ : Bg)).m, (begF ws (ws.length - z.s.p + 1) (⟨z.s.p, z.m, z.wf, z.op⟩ : Bg)).op⟩ : Eg)).ns.length + (endF ws ((begF ws (ws.length - z.s.p + 1) (⟨z.s.p, z.m, z.wf, z.op⟩ : Bg)).wf) (ws.length - (leA ws (⟨(begF ws (ws.length - z.s.p + 1) (⟨z.s.p, z.m, z.wf, z.op⟩ : Bg)).p, z.s.e, z.s.a⟩ : As) rs).p + 1) (⟨(leA ws (⟨(begF ws (ws.length - z.s.p + 1) (⟨z.s.p, z.m, z.wf, z.op⟩ : Bg)).p, z.s.e, z.s.a⟩ : As) rs).p, (z.ns ++ [leC ws (⟨(begF ws (ws.length - z.s.p + 1) (⟨z.s.p, z.m, z.wf, z.op⟩ : Bg)).p, z.s.e, z.s.a⟩ : As) rs]), (begF ws (ws.length - z.s.p + 1) (⟨z.s.p, z.m, z.wf, z.op⟩ : Bg)).m, (begF ws (ws.length - z.s.p + 1) (⟨z.s.p, z.m, z.wf, z.op⟩ : Bg)).op⟩ : Eg)).m ≤ (z.ns ++ [leC ws (⟨(begF ws (ws.length - z.s.p + 1) (⟨z.s.p, z.m, z.wf, z.op⟩ : Bg)).p, z.s.e, z.s.a⟩ : As) rs]).length + (begF ws (ws.length - z.s.p + 1) (⟨z.s.p, z.m, z.wf, z.op⟩ : Bg)).m := e3; omega) (by obtain ⟨b1, b2, b3, b4⟩ := begF_ok (ws := ws) (ws.length - z.s.p + 1) (⟨z.s.p, z.m, z.wf, z.op⟩ : Bg) hI.le hI.op; have q0 := hI.sm h1; have b3 : (begF ws (ws.length - z.s.p + 1) (⟨z.s.p, z.m, z.wf, z.op⟩ : Bg)).m + z.s.p ≤ z.m + (begF ws (ws.length - z.s.p + 1) (⟨z.s.p, z.m, z.wf, z.op⟩ : Bg)).p := b3; have b2 : z.s.p ≤ (begF ws (ws.length - z.s.p + 1) (⟨z.s.p, z.m, z.wf, z.op⟩ : Bg)).p := b2; have qb := brk_le z.wf z.m; have qo := hI.op; have qc := brk_le (begF ws (ws.length - z.s.p + 1) (⟨z.s.p, z.m, z.wf, z.op⟩ : Bg)).wf (begF ws (ws.length - z.s.p + 1) (⟨z.s.p, z.m, z.wf, z.op⟩ : Bg)).m; omega)) A rfl rfl rfl rfl rfl rfl rfl fun A => N hX 5 A rfl rfl fun A => CALL1 [0, 1, 2, 3, 4, 9, 10] (leaf_ ws cw rs cr (⟨(begF ws (ws.length - z.s.p + 1) (⟨z.s.p, z.m, z.wf, z.op⟩ : Bg)).p, z.s.e, z.s.a⟩ : As) z.ns ((begF ws (ws.length - z.s.p + 1) (⟨z.s.p, z.m, z.wf, z.op⟩ : Bg)).m) ((begF ws (ws.length - z.s.p + 1) (⟨z.s.p, z.m, z.wf, z.op⟩ : Bg)).wf) ((begF ws (ws.length - z.s.p + 1) (⟨z.s.p, z.m, z.wf, z.op⟩ : Bg)).op) (by obtain ⟨b1, b2, b3, b4⟩ := begF_ok (ws := ws) (ws.length - z.s.p + 1) (⟨z.s.p, z.m, z.wf, z.op⟩ : Bg) hI.le hI.op; have q0 := hI.sm h1; have b3 : (begF ws (ws.length - z.s.p + 1) (⟨z.s.p, z.m, z.wf, z.op⟩ : Bg)).m + z.s.p ≤ z.m + (begF ws (ws.length - z.s.p + 1) (⟨z.s.p, z.m, z.wf, z.op⟩ : Bg)).p := b3; have b2 : z.s.p ≤ (begF ws (ws.length - z.s.p + 1) (⟨z.s.p, z.m, z.wf, z.op⟩ : Bg)).p := b2; have qb := brk_le z.wf z.m; have qo := hI.op; have qc := brk_le (begF ws (ws.length - z.s.p + 1) (⟨z.s.p, z.m, z.wf, z.op⟩ : Bg)).wf (begF ws (ws.length - z.s.p + 1) (⟨z.s.p, z.m, z.wf, z.op⟩ : Bg)).m; exact b1) (by obtain ⟨b1, b2, b3, b4⟩ := begF_ok (ws := ws) (ws.length - z.s.p + 1) (⟨z.s.p, z.m, z.wf, z.op⟩ : Bg) hI.le hI.op; have q0 := hI.sm h1; have b3 : (begF ws (ws.length - z.s.p + 1) (⟨z.s.p, z.m, z.wf, z.op⟩ : Bg)).m + z.s.p ≤ z.m + (begF ws (ws.length - z.s.p + 1) (⟨z.s.p, z.m, z.wf, z.op⟩ : Bg)).p := b3; have b2 : z.s.p ≤ (begF ws (ws.length - z.s.p + 1) (⟨z.s.p, z.m, z.wf, z.op⟩ : Bg)).p := b2; have qb := brk_le z.wf z.m; have qo := hI.op; have qc := brk_le (begF ws (ws.length - z.s.p + 1) (⟨z.s.p, z.m, z.wf, z.op⟩ : Bg)).wf (begF ws (ws.length - z.s.p + 1) (⟨z.s.p, z.m, z.wf, z.op⟩ : Bg)).m; omega) hw (by obtain ⟨b1, b2, b3, b4⟩ := begF_ok (ws := ws) (ws.length - z.s.p + 1) (⟨z.s.p, z.m, z.wf, z.op⟩ : Bg) hI.le hI.op; have q0 := hI.sm h1; have b3 : (begF ws (ws.length - z.s.p + 1) (⟨z.s.p, z.m, z.wf, z.op⟩ : Bg)).m + z.s.p ≤ z.m + (begF ws (ws.length - z.s.p + 1) (⟨z.s.p, z.m, z.wf, z.op⟩ : Bg)).p := b3; have b2 : z.s.p ≤ (begF ws (ws.length - z.s.p + 1) (⟨z.s.p, z.m, z.wf, z.op⟩ : Bg)).p := b2; have qb := brk_le z.wf z.m; have qo := hI.op; have qc := brk_le (begF ws (ws.length - z.s.p + 1) (⟨z.s.p, z.m, z.wf, z.op⟩ : Bg)).wf (begF ws (ws.length - z.s.p + 1) (⟨z.s.p, z.m, z.wf, z.op⟩ : Bg)).m; have l1 : (leA ws (⟨(begF ws (ws.length - z.s.p + 1) (⟨z.s.p, z.m, z.wf, z.op⟩ : Bg)).p, z.s.e, z.s.a⟩ : As) rs).p ≤ ws.length := leA_le (s := (⟨(begF ws (ws.length - z.s.p + 1) (⟨z.s.p, z.m, z.wf, z.op⟩ : Bg)).p, z.s.e, z.s.a⟩ : As)) b1; have l2 : (begF ws (ws.length - z.s.p + 1) (⟨z.s.p, z.m, z.wf, z.op⟩ : Bg)).p ≤ (leA ws (⟨(begF ws (ws.length - z.s.p + 1) (⟨z.s.p, z.m, z.wf, z.op⟩ : Bg)).p, z.s.e, z.s.a⟩ : As) rs).p := leA_ge (s := (⟨(begF ws (ws.length - z.s.p + 1) (⟨z.s.p, z.m, z.wf, z.op⟩ : Bg)).p, z.s.e, z.s.a⟩ : As)); have ln : (z.ns ++ [leC ws (⟨(begF ws (ws.length - z.s.p + 1) (⟨z.s.p, z.m, z.wf, z.op⟩ : Bg)).p, z.s.e, z.s.a⟩ : As) rs]).length = z.ns.length + 1 := (by rw [List.length_append]; rfl); obtain ⟨e1, e2, e3, e4⟩ := endF_ok (ws := ws) (wf := (begF ws (ws.length - z.s.p + 1) (⟨z.s.p, z.m, z.wf, z.op⟩ : Bg)).wf) (ws.length - (leA ws (⟨(begF ws (ws.length - z.s.p + 1) (⟨z.s.p, z.m, z.wf, z.op⟩ : Bg)).p, z.s.e, z.s.a⟩ : As) rs).p + 1) (⟨(leA ws (⟨(begF ws (ws.length - z.s.p + 1) (⟨z.s.p, z.m, z.wf, z.op⟩ : Bg)).p, z.s.e, z.s.a⟩ : As) rs).p, (z.ns ++ [leC ws (⟨(begF ws (ws.length - z.s.p + 1) (⟨z.s.p, z.m, z.wf, z.op⟩ : Bg)).p, z.s.e, z.s.a⟩ : As) rs]), (begF ws (ws.length - z.s.p + 1) (⟨z.s.p, z.m, z.wf, z.op⟩ : Bg)).m, (begF ws (ws.length - z.s.p + 1) (⟨z.s.p, z.m, z.wf, z.op⟩ : Bg)).op⟩ : Eg) l1 b4; have e3 : (endF ws ((begF ws (ws.length - z.s.p + 1) (⟨z.s.p, z.m, z.wf, z.op⟩ : Bg)).wf) (ws.length - (leA ws (⟨(begF ws (ws.length - z.s.p + 1) (⟨z.s.p, z.m, z.wf, z.op⟩ : Bg)).p, z.s.e, z.s.a⟩ : As) rs).p + 1) (⟨(leA ws (⟨(begF ws (ws.length - z.s.p + 1) (⟨z.s.p, z.m, z.wf, z.op⟩ : Bg)).p, z.s.e, z.s.a⟩ : As) rs).p, (z.ns ++ [leC ws (⟨(begF ws (ws.length - z.s.p + 1) (⟨z.s.p, z.m, z.wf, z.op⟩ : Bg)).p, z.s.e, z.s.a⟩ : As) rs]), (begF ws (ws.length - z.s.p + 1) (⟨z.s.p, z.m, z.wf, z.op⟩ : Bg)).m, (begF ws (ws.length - z.s.p + 1) (⟨z.s.p, z.m, z.wf, z.op⟩ : Bg)).op⟩ : Eg)).ns.length + (endF ws ((begF ws (ws.length - z.s.p + 1) (⟨z.s.p, z.m, z.wf, z.op⟩ : Bg)).wf) (ws.length - (leA ws (⟨(begF ws (ws.length - z.s.p + 1) (⟨z.s.p, z.m, z.wf, z.op⟩ : Bg)).p, z.s.e, z.s.a⟩ : As) rs).p + 1) (⟨(leA ws (⟨(begF ws (ws.length - z.s.p + 1) (⟨z.s.p, z.m, z.wf, z.op⟩ : Bg)).p, z.s.e, z.s.a⟩ : As) rs).p, (z.ns ++ [leC ws (⟨(begF ws (ws.length - z.s.p + 1) (⟨z.s.p, z.m, z.wf, z.op⟩ : Bg)).p, z.s.e, z.s.a⟩ : As) rs]), (begF ws (ws.length - z.s.p + 1) (⟨z.s.p, z.m, z.wf, z.op⟩ : Bg)).m, (begF ws (ws.length - z.s.p + 1) (⟨z.s.p, z.m, z.wf, z.op⟩ : Bg)).op⟩ : Eg)).m ≤ (z.ns ++ [leC ws (⟨(begF ws (ws.length - z.s.p + 1) (⟨z.s.p, z.m, z.wf, z.op⟩ : Bg)).p, z.s.e, z.s.a⟩ : As) rs]).length + (begF ws (ws.length - z.s.p + 1) (⟨z.s.p, z.m, z.wf, z.op⟩ : Bg)).m := e3; omega) (by obtain ⟨b1, b2, b3, b4⟩ := begF_ok (ws := ws) (ws.length - z.s.p + 1) (⟨z.s.p, z.m, z.wf, z.op⟩ : Bg) hI.le hI.op; have q0 := hI.sm h1; have b3 : (begF ws (ws.length - z.s.p + 1) (⟨z.s.p, z.m, z.wf, z.op⟩ : Bg)).m + z.s.p ≤ z.m + (begF ws (ws.length - z.s.p + 1) (⟨z.s.p, z.m, z.wf, z.op⟩ : Bg)).p := b3; have b2 : z.s.p ≤ (begF ws (ws.length - z.s.p + 1) (⟨z.s.p, z.m, z.wf, z.op⟩ : Bg)).p := b2; have qb := brk_le z.wf z.m; have qo := hI.op; have qc := brk_le (begF ws (ws.length - z.s.p + 1) (⟨z.s.p, z.m, z.wf, z.op⟩ : Bg)).wf (begF ws (ws.length - z.s.p + 1) (⟨z.s.p, z.m, z.wf, z.op⟩ : Bg)).m; have l1 : (leA ws (⟨(begF ws (ws.length - z.s.p + 1) (⟨z.s.p, z.m, z.wf, z.op⟩ : Bg)).p, z.s.e, z.s.a⟩ : As) rs).p ≤ ws.length := leA_le (s := (⟨(begF ws (ws.length - z.s.p + 1) (⟨z.s.p, z.m, z.wf, z.op⟩ : Bg)).p, z.s.e, z.s.a⟩ : As)) b1; have l2 : (begF ws (ws.length - z.s.p + 1) (⟨z.s.p, z.m, z.wf, z.op⟩ : Bg)).p ≤ (leA ws (⟨(begF ws (ws.length - z.s.p + 1) (⟨z.s.p, z.m, z.wf, z.op⟩ : Bg)).p, z.s.e, z.s.a⟩ : As) rs).p := leA_ge (s := (⟨(begF ws (ws.length - z.s.p + 1) (⟨z.s.p, z.m, z.wf, z.op⟩ : Bg)).p, z.s.e, z.s.a⟩ : As)); have ln : (z.ns ++ [leC ws (⟨(begF ws (ws.length - z.s.p + 1) (⟨z.s.p, z.m, z.wf, z.op⟩ : Bg)).p, z.s.e, z.s.a⟩ : As) rs]).length = z.ns.length + 1 := (by rw [List.length_append]; rfl); obtain ⟨e1, e2, e3, e4⟩ := endF_ok (ws := ws) (wf := (begF ws (ws.length - z.s.p + 1) (⟨z.s.p, z.m, z.wf, z.op⟩ : Bg)).wf) (ws.length - (leA ws (⟨(begF ws (ws.length - z.s.p + 1) (⟨z.s.p, z.m, z.wf, z.op⟩ : Bg)).p, z.s.e, z.s.a⟩ : As) rs).p + 1) (⟨(leA ws (⟨(begF ws (ws.length - z.s.p + 1) (⟨z.s.p, z.m, z.wf, z.op⟩ : Bg)).p, z.s.e, z.s.a⟩ : As) rs).p, (z.ns ++ [leC ws (⟨(begF ws (ws.length - z.s.p + 1) (⟨z.s.p, z.m, z.wf, z.op⟩ : Bg)).p, z.s.e, z.s.a⟩ : As) rs]), (begF ws (ws.length - z.s.p + 1) (⟨z.s.p, z.m, z.wf, z.op⟩ : Bg)).m, (begF ws (ws.length - z.s.p + 1) (⟨z.s.p, z.m, z.wf, z.op⟩ : Bg)).op⟩ : Eg) l1 b4; have e3 : (endF ws ((begF ws (ws.length - z.s.p + 1) (⟨z.s.p, z.m, z.wf, z.op⟩ : Bg)).wf) (ws.length - (leA ws (⟨(begF ws (ws.length - z.s.p + 1) (⟨z.s.p, z.m, z.wf, z.op⟩ : Bg)).p, z.s.e, z.s.a⟩ : As) rs).p + 1) (⟨(leA ws (⟨(begF ws (ws.length - z.s.p + 1) (⟨z.s.p, z.m, z.wf, z.op⟩ : Bg)).p, z.s.e, z.s.a⟩ : As) rs).p, (z.ns ++ [leC ws (⟨(begF ws (ws.length - z.s.p + 1) (⟨z.s.p, z.m, z.wf, z.op⟩ : Bg)).p, z.s.e, z.s.a⟩ : As) rs]), (begF ws (ws.length - z.s.p + 1) (⟨z.s.p, z.m, z.wf, z.op⟩ : Bg)).m, (begF ws (ws.length - z.s.p + 1) (⟨z.s.p, z.m, z.wf, z.op⟩ : Bg)).op⟩ : Eg)).ns.length + (endF ws ((begF ws (ws.length - z.s.p + 1) (⟨z.s.p, z.m, z.wf, z.op⟩ : Bg)).wf) (ws.length - (leA ws (⟨(begF ws (ws.length - z.s.p + 1) (⟨z.s.p, z.m, z.wf, z.op⟩ : Bg)).p, z.s.e, z.s.a⟩ : As) rs).p + 1) (⟨(leA ws (⟨(begF ws (ws.length - z.s.p + 1) (⟨z.s.p, z.m, z.wf, z.op⟩ : Bg)).p, z.s.e, z.s.a⟩ : As) rs).p, (z.ns ++ [leC ws (⟨(begF ws (ws.length - z.s.p + 1) (⟨z.s.p, z.m, z.wf, z.op⟩ : Bg)).p, z.s.e, z.s.a⟩ : As) rs]), (begF ws (ws.length - z.s.p + 1) (⟨z.s.p, z.m, z.wf, z.op⟩ : Bg)).m, (begF ws (ws.length - z.s.p + 1) (⟨z.s.p, z.m, z.wf, z.op⟩ : Bg)).op⟩ : Eg)).m ≤ (z.ns ++ [leC ws (⟨(begF ws (ws.length - z.s.p + 1) (⟨z.s.p, z.m, z.wf, z.op⟩ : Bg)).p, z.s.e, z.s.a⟩ : As) rs]).length + (begF ws (ws.length - z.s.p + 1) (⟨z.s.p, z.m, z.wf, z.op⟩ : Bg)).m := e3; omega) hrs) A rfl rfl rfl rfl rfl rfl rfl fun A => N hX 4 A rfl rfl fun A => CALL1 [0, 1, 2, 3, 4, 11, 12] (ended_ ws cw rs cr (leA ws (⟨(begF ws (ws.length - z.s.p + 1) (⟨z.s.p, z.m, z.wf, z.op⟩ : Bg)).p, z.s.e, z.s.a⟩ : As) rs) (z.ns ++ [leC ws (⟨(begF ws (ws.length - z.s.p + 1) (⟨z.s.p, z.m, z.wf, z.op⟩ : Bg)).p, z.s.e, z.s.a⟩ : As) rs]) ((begF ws (ws.length - z.s.p + 1) (⟨z.s.p, z.m, z.wf, z.op⟩ : Bg)).m) ((begF ws (ws.length - z.s.p + 1) (⟨z.s.p, z.m, z.wf, z.op⟩ : Bg)).wf) ((begF ws (ws.length - z.s.p + 1) (⟨z.s.p, z.m, z.wf, z.op⟩ : Bg)).op) (by obtain ⟨b1, b2, b3, b4⟩ := begF_ok (ws := ws) (ws.length - z.s.p + 1) (⟨z.s.p, z.m, z.wf, z.op⟩ : Bg) hI.le hI.op; have q0 := hI.sm h1; have b3 : (begF ws (ws.length - z.s.p + 1) (⟨z.s.p, z.m, z.wf, z.op⟩ : Bg)).m + z.s.p ≤ z.m + (begF ws (ws.length - z.s.p + 1) (⟨z.s.p, z.m, z.wf, z.op⟩ : Bg)).p := b3; have b2 : z.s.p ≤ (begF ws (ws.length - z.s.p + 1) (⟨z.s.p, z.m, z.wf, z.op⟩ : Bg)).p := b2; have qb := brk_le z.wf z.m; have qo := hI.op; have qc := brk_le (begF ws (ws.length - z.s.p + 1) (⟨z.s.p, z.m, z.wf, z.op⟩ : Bg)).wf (begF ws (ws.length - z.s.p + 1) (⟨z.s.p, z.m, z.wf, z.op⟩ : Bg)).m; have l1 : (leA ws (⟨(begF ws (ws.length - z.s.p + 1) (⟨z.s.p, z.m, z.wf, z.op⟩ : Bg)).p, z.s.e, z.s.a⟩ : As) rs).p ≤ ws.length := leA_le (s := (⟨(begF ws (ws.length - z.s.p + 1) (⟨z.s.p, z.m, z.wf, z.op⟩ : Bg)).p, z.s.e, z.s.a⟩ : As)) b1; have l2 : (begF ws (ws.length - z.s.p + 1) (⟨z.s.p, z.m, z.wf, z.op⟩ : Bg)).p ≤ (leA ws (⟨(begF ws (ws.length - z.s.p + 1) (⟨z.s.p, z.m, z.wf, z.op⟩ : Bg)).p, z.s.e, z.s.a⟩ : As) rs).p := leA_ge (s := (⟨(begF ws (ws.length - z.s.p + 1) (⟨z.s.p, z.m, z.wf, z.op⟩ : Bg)).p, z.s.e, z.s.a⟩ : As)); exact l1) (by obtain ⟨b1, b2, b3, b4⟩ := begF_ok (ws := ws) (ws.length - z.s.p + 1) (⟨z.s.p, z.m, z.wf, z.op⟩ : Bg) hI.le hI.op; have q0 := hI.sm h1; have b3 : (begF ws (ws.length - z.s.p + 1) (⟨z.s.p, z.m, z.wf, z.op⟩ : Bg)).m + z.s.p ≤ z.m + (begF ws (ws.length - z.s.p + 1) (⟨z.s.p, z.m, z.wf, z.op⟩ : Bg)).p := b3; have b2 : z.s.p ≤ (begF ws (ws.length - z.s.p + 1) (⟨z.s.p, z.m, z.wf, z.op⟩ : Bg)).p := b2; have qb := brk_le z.wf z.m; have qo := hI.op; have qc := brk_le (begF ws (ws.length - z.s.p + 1) (⟨z.s.p, z.m, z.wf, z.op⟩ : Bg)).wf (begF ws (ws.length - z.s.p + 1) (⟨z.s.p, z.m, z.wf, z.op⟩ : Bg)).m; omega) hw (by obtain ⟨b1, b2, b3, b4⟩ := begF_ok (ws := ws) (ws.length - z.s.p + 1) (⟨z.s.p, z.m, z.wf, z.op⟩ : Bg) hI.le hI.op; have q0 := hI.sm h1; have b3 : (begF ws (ws.length - z.s.p + 1) (⟨z.s.p, z.m, z.wf, z.op⟩ : Bg)).m + z.s.p ≤ z.m + (begF ws (ws.length - z.s.p + 1) (⟨z.s.p, z.m, z.wf, z.op⟩ : Bg)).p := b3; have b2 : z.s.p ≤ (begF ws (ws.length - z.s.p + 1) (⟨z.s.p, z.m, z.wf, z.op⟩ : Bg)).p := b2; have qb := brk_le z.wf z.m; have qo := hI.op; have qc := brk_le (begF ws (ws.length - z.s.p + 1) (⟨z.s.p, z.m, z.wf, z.op⟩ : Bg)).wf (begF ws (ws.length - z.s.p + 1) (⟨z.s.p, z.m, z.wf, z.op⟩ : Bg)).m; have l1 : (leA ws (⟨(begF ws (ws.length - z.s.p + 1) (⟨z.s.p, z.m, z.wf, z.op⟩ : Bg)).p, z.s.e, z.s.a⟩ : As) rs).p ≤ ws.length := leA_le (s := (⟨(begF ws (ws.length - z.s.p + 1) (⟨z.s.p, z.m, z.wf, z.op⟩ : Bg)).p, z.s.e, z.s.a⟩ : As)) b1; have l2 : (begF ws (ws.length - z.s.p + 1) (⟨z.s.p, z.m, z.wf, z.op⟩ : Bg)).p ≤ (leA ws (⟨(begF ws (ws.length - z.s.p + 1) (⟨z.s.p, z.m, z.wf, z.op⟩ : Bg)).p, z.s.e, z.s.a⟩ : As) rs).p := leA_ge (s := (⟨(begF ws (ws.length - z.s.p + 1) (⟨z.s.p, z.m, z.wf, z.op⟩ : Bg)).p, z.s.e, z.s.a⟩ : As)); have ln : (z.ns ++ [leC ws (⟨(begF ws (ws.length - z.s.p + 1) (⟨z.s.p, z.m, z.wf, z.op⟩ : Bg)).p, z.s.e, z.s.a⟩ : As) rs]).length = z.ns.length + 1 := (by rw [List.length_append]; rfl); obtain ⟨e1, e2, e3, e4⟩ := endF_ok (ws := ws) (wf := (begF ws (ws.length - z.s.p + 1) (⟨z.s.p, z.m, z.wf, z.op⟩ : Bg)).wf) (ws.length - (leA ws (⟨(begF ws (ws.length - z.s.p + 1) (⟨z.s.p, z.m, z.wf, z.op⟩ : Bg)).p, z.s.e, z.s.a⟩ : As) rs).p + 1) (⟨(leA ws (⟨(begF ws (ws.length - z.s.p + 1) (⟨z.s.p, z.m, z.wf, z.op⟩ : Bg)).p, z.s.e, z.s.a⟩ : As) rs).p, (z.ns ++ [leC ws (⟨(begF ws (ws.length - z.s.p + 1) (⟨z.s.p, z.m, z.wf, z.op⟩ : Bg)).p, z.s.e, z.s.a⟩ : As) rs]), (begF ws (ws.length - z.s.p + 1) (⟨z.s.p, z.m, z.wf, z.op⟩ : Bg)).m, (begF ws (ws.length - z.s.p + 1) (⟨z.s.p, z.m, z.wf, z.op⟩ : Bg)).op⟩ : Eg) l1 b4; have e3 : (endF ws ((begF ws (ws.length - z.s.p + 1) (⟨z.s.p, z.m, z.wf, z.op⟩ : Bg)).wf) (ws.length - (leA ws (⟨(begF ws (ws.length - z.s.p + 1) (⟨z.s.p, z.m, z.wf, z.op⟩ : Bg)).p, z.s.e, z.s.a⟩ : As) rs).p + 1) (⟨(leA ws (⟨(begF ws (ws.length - z.s.p + 1) (⟨z.s.p, z.m, z.wf, z.op⟩ : Bg)).p, z.s.e, z.s.a⟩ : As) rs).p, (z.ns ++ [leC ws (⟨(begF ws (ws.length - z.s.p + 1) (⟨z.s.p, z.m, z.wf, z.op⟩ : Bg)).p, z.s.e, z.s.a⟩ : As) rs]), (begF ws (ws.length - z.s.p + 1) (⟨z.s.p, z.m, z.wf, z.op⟩ : Bg)).m, (begF ws (ws.length - z.s.p + 1) (⟨z.s.p, z.m, z.wf, z.op⟩ : Bg)).op⟩ : Eg)).ns.length + (endF ws ((begF ws (ws.length - z.s.p + 1) (⟨z.s.p, z.m, z.wf, z.op⟩ : Bg)).wf) (ws.length - (leA ws (⟨(begF ws (ws.length - z.s.p + 1) (⟨z.s.p, z.m, z.wf, z.op⟩ : Bg)).p, z.s.e, z.s.a⟩ : As) rs).p + 1) (⟨(leA ws (⟨(begF ws (ws.length - z.s.p + 1) (⟨z.s.p, z.m, z.wf, z.op⟩ : Bg)).p, z.s.e, z.s.a⟩ : As) rs).p, (z.ns ++ [leC ws (⟨(begF ws (ws.length - z.s.p + 1) (⟨z.s.p, z.m, z.wf, z.op⟩ : Bg)).p, z.s.e, z.s.a⟩ : As) rs]), (begF ws (ws.length - z.s.p + 1) (⟨z.s.p, z.m, z.wf, z.op⟩ : Bg)).m, (begF ws (ws.length - z.s.p + 1) (⟨z.s.p, z.m, z.wf, z.op⟩ : Bg)).op⟩ : Eg)).m ≤ (z.ns ++ [leC ws (⟨(begF ws (ws.length - z.s.p + 1) (⟨z.s.p, z.m, z.wf, z.op⟩ : Bg)).p, z.s.e, z.s.a⟩ : As) rs]).length + (begF ws (ws.length - z.s.p + 1) (⟨z.s.p, z.m, z.wf, z.op⟩ : Bg)).m := e3; omega) (by obtain ⟨b1, b2, b3, b4⟩ := begF_ok (ws := ws) (ws.length - z.s.p + 1) (⟨z.s.p, z.m, z.wf, z.op⟩ : Bg) hI.le hI.op; have q0 := hI.sm h1; have b3 : (begF ws (ws.length - z.s.p + 1) (⟨z.s.p, z.m, z.wf, z.op⟩ : Bg)).m + z.s.p ≤ z.m + (begF ws (ws.length - z.s.p + 1) (⟨z.s.p, z.m, z.wf, z.op⟩ : Bg)).p := b3; have b2 : z.s.p ≤ (begF ws (ws.length - z.s.p + 1) (⟨z.s.p, z.m, z.wf, z.op⟩ : Bg)).p := b2; have qb := brk_le z.wf z.m; have qo := hI.op; have qc := brk_le (begF ws (ws.length - z.s.p + 1) (⟨z.s.p, z.m, z.wf, z.op⟩ : Bg)).wf (begF ws (ws.length - z.s.p + 1) (⟨z.s.p, z.m, z.wf, z.op⟩ : Bg)).m; have l1 : (leA ws (⟨(begF ws (ws.length - z.s.p + 1) (⟨z.s.p, z.m, z.wf, z.op⟩ : Bg)).p, z.s.e, z.s.a⟩ : As) rs).p ≤ ws.length := leA_le (s := (⟨(begF ws (ws.length - z.s.p + 1) (⟨z.s.p, z.m, z.wf, z.op⟩ : Bg)).p, z.s.e, z.s.a⟩ : As)) b1; have l2 : (begF ws (ws.length - z.s.p + 1) (⟨z.s.p, z.m, z.wf, z.op⟩ : Bg)).p ≤ (leA ws (⟨(begF ws (ws.length - z.s.p + 1) (⟨z.s.p, z.m, z.wf, z.op⟩ : Bg)).p, z.s.e, z.s.a⟩ : As) rs).p := leA_ge (s := (⟨(begF ws (ws.length - z.s.p + 1) (⟨z.s.p, z.m, z.wf, z.op⟩ : Bg)).p, z.s.e, z.s.a⟩ : As)); have ln : (z.ns ++ [leC ws (⟨(begF ws (ws.length - z.s.p + 1) (⟨z.s.p, z.m, z.wf, z.op⟩ : Bg)).p, z.s.e, z.s.a⟩ : As) rs]).length = z.ns.length + 1 := (by rw [List.length_append]; rfl); obtain ⟨e1, e2, e3, e4⟩ := endF_ok (ws := ws) (wf := (begF ws (ws.length - z.s.p + 1) (⟨z.s.p, z.m, z.wf, z.op⟩ : Bg)).wf) (ws.length - (leA ws (⟨(begF ws (ws.length - z.s.p + 1) (⟨z.s.p, z.m, z.wf, z.op⟩ : Bg)).p, z.s.e, z.s.a⟩ : As) rs).p + 1) (⟨(leA ws (⟨(begF ws (ws.length - z.s.p + 1) (⟨z.s.p, z.m, z.wf, z.op⟩ : Bg)).p, z.s.e, z.s.a⟩ : As) rs).p, (z.ns ++ [leC ws (⟨(begF ws (ws.length - z.s.p + 1) (⟨z.s.p, z.m, z.wf, z.op⟩ : Bg)).p, z.s.e, z.s.a⟩ : As) rs]), (begF ws (ws.length - z.s.p + 1) (⟨z.s.p, z.m, z.wf, z.op⟩ : Bg)).m, (begF ws (ws.length - z.s.p + 1) (⟨z.s.p, z.m, z.wf, z.op⟩ : Bg)).op⟩ : Eg) l1 b4; have e3 : (endF ws ((begF ws (ws.length - z.s.p + 1) (⟨z.s.p, z.m, z.wf, z.op⟩ : Bg)).wf) (ws.length - (leA ws (⟨(begF ws (ws.length - z.s.p + 1) (⟨z.s.p, z.m, z.wf, z.op⟩ : Bg)).p, z.s.e, z.s.a⟩ : As) rs).p + 1) (⟨(leA ws (⟨(begF ws (ws.length - z.s.p + 1) (⟨z.s.p, z.m, z.wf, z.op⟩ : Bg)).p, z.s.e, z.s.a⟩ : As) rs).p, (z.ns ++ [leC ws (⟨(begF ws (ws.length - z.s.p + 1) (⟨z.s.p, z.m, z.wf, z.op⟩ : Bg)).p, z.s.e, z.s.a⟩ : As) rs]), (begF ws (ws.length - z.s.p + 1) (⟨z.s.p, z.m, z.wf, z.op⟩ : Bg)).m, (begF ws (ws.length - z.s.p + 1) (⟨z.s.p, z.m, z.wf, z.op⟩ : Bg)).op⟩ : Eg)).ns.length + (endF ws ((begF ws (ws.length - z.s.p + 1) (⟨z.s.p, z.m, z.wf, z.op⟩ : Bg)).wf) (ws.length - (leA ws (⟨(begF ws (ws.length - z.s.p + 1) (⟨z.s.p, z.m, z.wf, z.op⟩ : Bg)).p, z.s.e, z.s.a⟩ : As) rs).p + 1) (⟨(leA ws (⟨(begF ws (ws.length - z.s.p + 1) (⟨z.s.p, z.m, z.wf, z.op⟩ : Bg)).p, z.s.e, z.s.a⟩ : As) rs).p, (z.ns ++ [leC ws (⟨(begF ws (ws.length - z.s.p + 1) (⟨z.s.p, z.m, z.wf, z.op⟩ : Bg)).p, z.s.e, z.s.a⟩ : As) rs]), (begF ws (ws.length - z.s.p + 1) (⟨z.s.p, z.m, z.wf, z.op⟩ : Bg)).m, (begF ws (ws.length - z.s.p + 1) (⟨z.s.p, z.m, z.wf, z.op⟩ : Bg)).op⟩ : Eg)).m ≤ (z.ns ++ [leC ws (⟨(begF ws (ws.length - z.s.p + 1) (⟨z.s.p, z.m, z.wf, z.op⟩ : Bg)).p, z.s.e, z.s.a⟩ : As) rs]).length + (begF ws (ws.length - z.s.p + 1) (⟨z.s.p, z.m, z.wf, z.op⟩ : Bg)).m := e3; omega) (by obtain ⟨b1, b2, b3, b4⟩ := begF_ok (ws := ws) (ws.length - z.s.p + 1) (⟨z.s.p, z.m, z.wf, z.op⟩ : Bg) hI.le hI.op; have q0 := hI.sm h1; have b3 : (begF ws (ws.length - z.s.p + 1) (⟨z.s.p, z.m, z.wf, z.op⟩ : Bg)).m + z.s.p ≤ z.m + (begF ws (ws.length - z.s.p + 1) (⟨z.s.p, z.m, z.wf, z.op⟩ : Bg)).p := b3; have b2 : z.s.p ≤ (begF ws (ws.length - z.s.p + 1) (⟨z.s.p, z.m, z.wf, z.op⟩ : Bg)).p := b2; have qb := brk_le z.wf z.m; have qo := hI.op; have qc := brk_le (begF ws (ws.length - z.s.p + 1) (⟨z.s.p, z.m, z.wf, z.op⟩ : Bg)).wf (begF ws (ws.length - z.s.p + 1) (⟨z.s.p, z.m, z.wf, z.op⟩ : Bg)).m; exact b4)) A rfl rfl rfl rfl rfl rfl rfl fun A => N hX 5 A rfl rfl fun A => CALL1 [0, 1, 2, 3, 4, 13, 14] (joined_ ws cw rs cr (⟨(endF ws ((begF ws (ws.length - z.s.p + 1) (⟨z.s.p, z.m, z.wf, z.op⟩ : Bg)).wf) (ws.length - (leA ws (⟨(begF ws (ws.length - z.s.p + 1) (⟨z.s.p, z.m, z.wf, z.op⟩ : Bg)).p, z.s.e, z.s.a⟩ : As) rs).p + 1) (⟨(leA ws (⟨(begF ws (ws.length - z.s.p + 1) (⟨z.s.p, z.m, z.wf, z.op⟩ : Bg)).p, z.s.e, z.s.a⟩ : As) rs).p, (z.ns ++ [leC ws (⟨(begF ws (ws.length - z.s.p + 1) (⟨z.s.p, z.m, z.wf, z.op⟩ : Bg)).p, z.s.e, z.s.a⟩ : As) rs]), (begF ws (ws.length - z.s.p + 1) (⟨z.s.p, z.m, z.wf, z.op⟩ : Bg)).m, (begF ws (ws.length - z.s.p + 1) (⟨z.s.p, z.m, z.wf, z.op⟩ : Bg)).op⟩ : Eg)).p, (leA ws (⟨(begF ws (ws.length - z.s.p + 1) (⟨z.s.p, z.m, z.wf, z.op⟩ : Bg)).p, z.s.e, z.s.a⟩ : As) rs).e, (leA ws (⟨(begF ws (ws.length - z.s.p + 1) (⟨z.s.p, z.m, z.wf, z.op⟩ : Bg)).p, z.s.e, z.s.a⟩ : As) rs).a⟩ : As) ((endF ws ((begF ws (ws.length - z.s.p + 1) (⟨z.s.p, z.m, z.wf, z.op⟩ : Bg)).wf) (ws.length - (leA ws (⟨(begF ws (ws.length - z.s.p + 1) (⟨z.s.p, z.m, z.wf, z.op⟩ : Bg)).p, z.s.e, z.s.a⟩ : As) rs).p + 1) (⟨(leA ws (⟨(begF ws (ws.length - z.s.p + 1) (⟨z.s.p, z.m, z.wf, z.op⟩ : Bg)).p, z.s.e, z.s.a⟩ : As) rs).p, (z.ns ++ [leC ws (⟨(begF ws (ws.length - z.s.p + 1) (⟨z.s.p, z.m, z.wf, z.op⟩ : Bg)).p, z.s.e, z.s.a⟩ : As) rs]), (begF ws (ws.length - z.s.p + 1) (⟨z.s.p, z.m, z.wf, z.op⟩ : Bg)).m, (begF ws (ws.length - z.s.p + 1) (⟨z.s.p, z.m, z.wf, z.op⟩ : Bg)).op⟩ : Eg)).ns) ((endF ws ((begF ws (ws.length - z.s.p + 1) (⟨z.s.p, z.m, z.wf, z.op⟩ : Bg)).wf) (ws.length - (leA ws (⟨(begF ws (ws.length - z.s.p + 1) (⟨z.s.p, z.m, z.wf, z.op⟩ : Bg)).p, z.s.e, z.s.a⟩ : As) rs).p + 1) (⟨(leA ws (⟨(begF ws (ws.length - z.s.p + 1) (⟨z.s.p, z.m, z.wf, z.op⟩ : Bg)).p, z.s.e, z.s.a⟩ : As) rs).p, (z.ns ++ [leC ws (⟨(begF ws (ws.length - z.s.p + 1) (⟨z.s.p, z.m, z.wf, z.op⟩ : Bg)).p, z.s.e, z.s.a⟩ : As) rs]), (begF ws (ws.length - z.s.p + 1) (⟨z.s.p, z.m, z.wf, z.op⟩ : Bg)).m, (begF ws (ws.length - z.s.p + 1) (⟨z.s.p, z.m, z.wf, z.op⟩ : Bg)).op⟩ : Eg)).m) ((begF ws (ws.length - z.s.p + 1) (⟨z.s.p, z.m, z.wf, z.op⟩ : Bg)).wf) ((endF ws ((begF ws (ws.length - z.s.p + 1) (⟨z.s.p, z.m, z.wf, z.op⟩ : Bg)).wf) (ws.length - (leA ws (⟨(begF ws (ws.length - z.s.p + 1) (⟨z.s.p, z.m, z.wf, z.op⟩ : Bg)).p, z.s.e, z.s.a⟩ : As) rs).p + 1) (⟨(leA ws (⟨(begF ws (ws.length - z.s.p + 1) (⟨z.s.p, z.m, z.wf, z.op⟩ : Bg)).p, z.s.e, z.s.a⟩ : As) rs).p, (z.ns ++ [leC ws (⟨(begF ws (ws.length - z.s.p + 1) (⟨z.s.p, z.m, z.wf, z.op⟩ : Bg)).p, z.s.e, z.s.a⟩ : As) rs]), (begF ws (ws.length - z.s.p + 1) (⟨z.s.p, z.m, z.wf, z.op⟩ : Bg)).m, (begF ws (ws.length - z.s.p + 1) (⟨z.s.p, z.m, z.wf, z.op⟩ : Bg)).op⟩ : Eg)).op) (by obtain ⟨b1, b2, b3, b4⟩ := begF_ok (ws := ws) (ws.length - z.s.p + 1) (⟨z.s.p, z.m, z.wf, z.op⟩ : Bg) hI.le hI.op; have q0 := hI.sm h1; have b3 : (begF ws (ws.length - z.s.p + 1) (⟨z.s.p, z.m, z.wf, z.op⟩ : Bg)).m + z.s.p ≤ z.m + (begF ws (ws.length - z.s.p + 1) (⟨z.s.p, z.m, z.wf, z.op⟩ : Bg)).p := b3; have b2 : z.s.p ≤ (begF ws (ws.length - z.s.p + 1) (⟨z.s.p, z.m, z.wf, z.op⟩ : Bg)).p := b2; have qb := brk_le z.wf z.m; have qo := hI.op; have qc := brk_le (begF ws (ws.length - z.s.p + 1) (⟨z.s.p, z.m, z.wf, z.op⟩ : Bg)).wf (begF ws (ws.length - z.s.p + 1) (⟨z.s.p, z.m, z.wf, z.op⟩ : Bg)).m; have l1 : (leA ws (⟨(begF ws (ws.length - z.s.p + 1) (⟨z.s.p, z.m, z.wf, z.op⟩ : Bg)).p, z.s.e, z.s.a⟩ : As) rs).p ≤ ws.length := leA_le (s := (⟨(begF ws (ws.length - z.s.p + 1) (⟨z.s.p, z.m, z.wf, z.op⟩ : Bg)).p, z.s.e, z.s.a⟩ : As)) b1; have l2 : (begF ws (ws.length - z.s.p + 1) (⟨z.s.p, z.m, z.wf, z.op⟩ : Bg)).p ≤ (leA ws (⟨(begF ws (ws.length - z.s.p + 1) (⟨z.s.p, z.m, z.wf, z.op⟩ : Bg)).p, z.s.e, z.s.a⟩ : As) rs).p := leA_ge (s := (⟨(begF ws (ws.length - z.s.p + 1) (⟨z.s.p, z.m, z.wf, z.op⟩ : Bg)).p, z.s.e, z.s.a⟩ : As)); have ln : (z.ns ++ [leC ws (⟨(begF ws (ws.length - z.s.p + 1) (⟨z.s.p, z.m, z.wf, z.op⟩ : Bg)).p, z.s.e, z.s.a⟩ : As) rs]).length = z.ns.length + 1 := (by rw [List.length_append]; rfl); obtain ⟨e1, e2, e3, e4⟩ := endF_ok (ws := ws) (wf := (begF ws (ws.length - z.s.p + 1) (⟨z.s.p, z.m, z.wf, z.op⟩ : Bg)).wf) (ws.length - (leA ws (⟨(begF ws (ws.length - z.s.p + 1) (⟨z.s.p, z.m, z.wf, z.op⟩ : Bg)).p, z.s.e, z.s.a⟩ : As) rs).p + 1) (⟨(leA ws (⟨(begF ws (ws.length - z.s.p + 1) (⟨z.s.p, z.m, z.wf, z.op⟩ : Bg)).p, z.s.e, z.s.a⟩ : As) rs).p, (z.ns ++ [leC ws (⟨(begF ws (ws.length - z.s.p + 1) (⟨z.s.p, z.m, z.wf, z.op⟩ : Bg)).p, z.s.e, z.s.a⟩ : As) rs]), (begF ws (ws.length - z.s.p + 1) (⟨z.s.p, z.m, z.wf, z.op⟩ : Bg)).m, (begF ws (ws.length - z.s.p + 1) (⟨z.s.p, z.m, z.wf, z.op⟩ : Bg)).op⟩ : Eg) l1 b4; have e3 : (endF ws ((begF ws (ws.length - z.s.p + 1) (⟨z.s.p, z.m, z.wf, z.op⟩ : Bg)).wf) (ws.length - (leA ws (⟨(begF ws (ws.length - z.s.p + 1) (⟨z.s.p, z.m, z.wf, z.op⟩ : Bg)).p, z.s.e, z.s.a⟩ : As) rs).p + 1) (⟨(leA ws (⟨(begF ws (ws.length - z.s.p + 1) (⟨z.s.p, z.m, z.wf, z.op⟩ : Bg)).p, z.s.e, z.s.a⟩ : As) rs).p, (z.ns ++ [leC ws (⟨(begF ws (ws.length - z.s.p + 1) (⟨z.s.p, z.m, z.wf, z.op⟩ : Bg)).p, z.s.e, z.s.a⟩ : As) rs]), (begF ws (ws.length - z.s.p + 1) (⟨z.s.p, z.m, z.wf, z.op⟩ : Bg)).m, (begF ws (ws.length - z.s.p + 1) (⟨z.s.p, z.m, z.wf, z.op⟩ : Bg)).op⟩ : Eg)).ns.length + (endF ws ((begF ws (ws.length - z.s.p + 1) (⟨z.s.p, z.m, z.wf, z.op⟩ : Bg)).wf) (ws.length - (leA ws (⟨(begF ws (ws.length - z.s.p + 1) (⟨z.s.p, z.m, z.wf, z.op⟩ : Bg)).p, z.s.e, z.s.a⟩ : As) rs).p + 1) (⟨(leA ws (⟨(begF ws (ws.length - z.s.p + 1) (⟨z.s.p, z.m, z.wf, z.op⟩ : Bg)).p, z.s.e, z.s.a⟩ : As) rs).p, (z.ns ++ [leC ws (⟨(begF ws (ws.length - z.s.p + 1) (⟨z.s.p, z.m, z.wf, z.op⟩ : Bg)).p, z.s.e, z.s.a⟩ : As) rs]), (begF ws (ws.length - z.s.p + 1) (⟨z.s.p, z.m, z.wf, z.op⟩ : Bg)).m, (begF ws (ws.length - z.s.p + 1) (⟨z.s.p, z.m, z.wf, z.op⟩ : Bg)).op⟩ : Eg)).m ≤ (z.ns ++ [leC ws (⟨(begF ws (ws.length - z.s.p + 1) (⟨z.s.p, z.m, z.wf, z.op⟩ : Bg)).p, z.s.e, z.s.a⟩ : As) rs]).length + (begF ws (ws.length - z.s.p + 1) (⟨z.s.p, z.m, z.wf, z.op⟩ : Bg)).m := e3; exact e1) (by obtain ⟨b1, b2, b3, b4⟩ := begF_ok (ws := ws) (ws.length - z.s.p + 1) (⟨z.s.p, z.m, z.wf, z.op⟩ : Bg) hI.le hI.op; have q0 := hI.sm h1; have b3 : (begF ws (ws.length - z.s.p + 1) (⟨z.s.p, z.m, z.wf, z.op⟩ : Bg)).m + z.s.p ≤ z.m + (begF ws (ws.length - z.s.p + 1) (⟨z.s.p, z.m, z.wf, z.op⟩ : Bg)).p := b3; have b2 : z.s.p ≤ (begF ws (ws.length - z.s.p + 1) (⟨z.s.p, z.m, z.wf, z.op⟩ : Bg)).p := b2; have qb := brk_le z.wf z.m; have qo := hI.op; have qc := brk_le (begF ws (ws.length - z.s.p + 1) (⟨z.s.p, z.m, z.wf, z.op⟩ : Bg)).wf (begF ws (ws.length - z.s.p + 1) (⟨z.s.p, z.m, z.wf, z.op⟩ : Bg)).m; omega) hw (by obtain ⟨b1, b2, b3, b4⟩ := begF_ok (ws := ws) (ws.length - z.s.p + 1) (⟨z.s.p, z.m, z.wf, z.op⟩ : Bg) hI.le hI.op; have q0 := hI.sm h1; have b3 : (begF ws (ws.length - z.s.p + 1) (⟨z.s.p, z.m, z.wf, z.op⟩ : Bg)).m + z.s.p ≤ z.m + (begF ws (ws.length - z.s.p + 1) (⟨z.s.p, z.m, z.wf, z.op⟩ : Bg)).p := b3; have b2 : z.s.p ≤ (begF ws (ws.length - z.s.p + 1) (⟨z.s.p, z.m, z.wf, z.op⟩ : Bg)).p := b2; have qb := brk_le z.wf z.m; have qo := hI.op; have qc := brk_le (begF ws (ws.length - z.s.p + 1) (⟨z.s.p, z.m, z.wf, z.op⟩ : Bg)).wf (begF ws (ws.length - z.s.p + 1) (⟨z.s.p, z.m, z.wf, z.op⟩ : Bg)).m; have l1 : (leA ws (⟨(begF ws (ws.length - z.s.p + 1) (⟨z.s.p, z.m, z.wf, z.op⟩ : Bg)).p, z.s.e, z.s.a⟩ : As) rs).p ≤ ws.length := leA_le (s := (⟨(begF ws (ws.length - z.s.p + 1) (⟨z.s.p, z.m, z.wf, z.op⟩ : Bg)).p, z.s.e, z.s.a⟩ : As)) b1; have l2 : (begF ws (ws.length - z.s.p + 1) (⟨z.s.p, z.m, z.wf, z.op⟩ : Bg)).p ≤ (leA ws (⟨(begF ws (ws.length - z.s.p + 1) (⟨z.s.p, z.m, z.wf, z.op⟩ : Bg)).p, z.s.e, z.s.a⟩ : As) rs).p := leA_ge (s := (⟨(begF ws (ws.length - z.s.p + 1) (⟨z.s.p, z.m, z.wf, z.op⟩ : Bg)).p, z.s.e, z.s.a⟩ : As)); have ln : (z.ns ++ [leC ws (⟨(begF ws (ws.length - z.s.p + 1) (⟨z.s.p, z.m, z.wf, z.op⟩ : Bg)).p, z.s.e, z.s.a⟩ : As) rs]).length = z.ns.length + 1 := (by rw [List.length_append]; rfl); obtain ⟨e1, e2, e3, e4⟩ := endF_ok (ws := ws) (wf := (begF ws (ws.length - z.s.p + 1) (⟨z.s.p, z.m, z.wf, z.op⟩ : Bg)).wf) (ws.length - (leA ws (⟨(begF ws (ws.length - z.s.p + 1) (⟨z.s.p, z.m, z.wf, z.op⟩ : Bg)).p, z.s.e, z.s.a⟩ : As) rs).p + 1) (⟨(leA ws (⟨(begF ws (ws.length - z.s.p + 1) (⟨z.s.p, z.m, z.wf, z.op⟩ : Bg)).p, z.s.e, z.s.a⟩ : As) rs).p, (z.ns ++ [leC ws (⟨(begF ws (ws.length - z.s.p + 1) (⟨z.s.p, z.m, z.wf, z.op⟩ : Bg)).p, z.s.e, z.s.a⟩ : As) rs]), (begF ws (ws.length - z.s.p + 1) (⟨z.s.p, z.m, z.wf, z.op⟩ : Bg)).m, (begF ws (ws.length - z.s.p + 1) (⟨z.s.p, z.m, z.wf, z.op⟩ : Bg)).op⟩ : Eg) l1 b4; have e3 : (endF ws ((begF ws (ws.length - z.s.p + 1) (⟨z.s.p, z.m, z.wf, z.op⟩ : Bg)).wf) (ws.length - (leA ws (⟨(begF ws (ws.length - z.s.p + 1) (⟨z.s.p, z.m, z.wf, z.op⟩ : Bg)).p, z.s.e, z.s.a⟩ : As) rs).p + 1) (⟨(leA ws (⟨(begF ws (ws.length - z.s.p + 1) (⟨z.s.p, z.m, z.wf, z.op⟩ : Bg)).p, z.s.e, z.s.a⟩ : As) rs).p, (z.ns ++ [leC ws (⟨(begF ws (ws.length - z.s.p + 1) (⟨z.s.p, z.m, z.wf, z.op⟩ : Bg)).p, z.s.e, z.s.a⟩ : As) rs]), (begF ws (ws.length - z.s.p + 1) (⟨z.s.p, z.m, z.wf, z.op⟩ : Bg)).m, (begF ws (ws.length - z.s.p + 1) (⟨z.s.p, z.m, z.wf, z.op⟩ : Bg)).op⟩ : Eg)).ns.length + (endF ws ((begF ws (ws.length - z.s.p + 1) (⟨z.s.p, z.m, z.wf, z.op⟩ : Bg)).wf) (ws.length - (leA ws (⟨(begF ws (ws.length - z.s.p + 1) (⟨z.s.p, z.m, z.wf, z.op⟩ : Bg)).p, z.s.e, z.s.a⟩ : As) rs).p + 1) (⟨(leA ws (⟨(begF ws (ws.length - z.s.p + 1) (⟨z.s.p, z.m, z.wf, z.op⟩ : Bg)).p, z.s.e, z.s.a⟩ : As) rs).p, (z.ns ++ [leC ws (⟨(begF ws (ws.length - z.s.p + 1) (⟨z.s.p, z.m, z.wf, z.op⟩ : Bg)).p, z.s.e, z.s.a⟩ : As) rs]), (begF ws (ws.length - z.s.p + 1) (⟨z.s.p, z.m, z.wf, z.op⟩ : Bg)).m, (begF ws (ws.length - z.s.p + 1) (⟨z.s.p, z.m, z.wf, z.op⟩ : Bg)).op⟩ : Eg)).m ≤ (z.ns ++ [leC ws (⟨(begF ws (ws.length - z.s.p + 1) (⟨z.s.p, z.m, z.wf, z.op⟩ : Bg)).p, z.s.e, z.s.a⟩ : As) rs]).length + (begF ws (ws.length - z.s.p + 1) (⟨z.s.p, z.m, z.wf, z.op⟩ : Bg)).m := e3; omega) (by obtain ⟨b1, b2, b3, b4⟩ := begF_ok (ws := ws) (ws.length - z.s.p + 1) (⟨z.s.p, z.m, z.wf, z.op⟩ : Bg) hI.le hI.op; have q0 := hI.sm h1; have b3 : (begF ws (ws.length - z.s.p + 1) (⟨z.s.p, z.m, z.wf, z.op⟩ : Bg)).m + z.s.p ≤ z.m + (begF ws (ws.length - z.s.p + 1) (⟨z.s.p, z.m, z.wf, z.op⟩ : Bg)).p := b3; have b2 : z.s.p ≤ (begF ws (ws.length - z.s.p + 1) (⟨z.s.p, z.m, z.wf, z.op⟩ : Bg)).p := b2; have qb := brk_le z.wf z.m; have qo := hI.op; have qc := brk_le (begF ws (ws.length - z.s.p + 1) (⟨z.s.p, z.m, z.wf, z.op⟩ : Bg)).wf (begF ws (ws.length - z.s.p + 1) (⟨z.s.p, z.m, z.wf, z.op⟩ : Bg)).m; have l1 : (leA ws (⟨(begF ws (ws.length - z.s.p + 1) (⟨z.s.p, z.m, z.wf, z.op⟩ : Bg)).p, z.s.e, z.s.a⟩ : As) rs).p ≤ ws.length := leA_le (s := (⟨(begF ws (ws.length - z.s.p + 1) (⟨z.s.p, z.m, z.wf, z.op⟩ : Bg)).p, z.s.e, z.s.a⟩ : As)) b1; have l2 : (begF ws (ws.length - z.s.p + 1) (⟨z.s.p, z.m, z.wf, z.op⟩ : Bg)).p ≤ (leA ws (⟨(begF ws (ws.length - z.s.p + 1) (⟨z.s.p, z.m, z.wf, z.op⟩ : Bg)).p, z.s.e, z.s.a⟩ : As) rs).p := leA_ge (s := (⟨(begF ws (ws.length - z.s.p + 1) (⟨z.s.p, z.m, z.wf, z.op⟩ : Bg)).p, z.s.e, z.s.a⟩ : As)); have ln : (z.ns ++ [leC ws (⟨(begF ws (ws.length - z.s.p + 1) (⟨z.s.p, z.m, z.wf, z.op⟩ : Bg)).p, z.s.e, z.s.a⟩ : As) rs]).length = z.ns.length + 1 := (by rw [List.length_append]; rfl); obtain ⟨e1, e2, e3, e4⟩ := endF_ok (ws := ws) (wf := (begF ws (ws.length - z.s.p + 1) (⟨z.s.p, z.m, z.wf, z.op⟩ : Bg)).wf) (ws.length - (leA ws (⟨(begF ws (ws.length - z.s.p + 1) (⟨z.s.p, z.m, z.wf, z.op⟩ : Bg)).p, z.s.e, z.s.a⟩ : As) rs).p + 1) (⟨(leA ws (⟨(begF ws (ws.length - z.s.p + 1) (⟨z.s.p, z.m, z.wf, z.op⟩ : Bg)).p, z.s.e, z.s.a⟩ : As) rs).p, (z.ns ++ [leC ws (⟨(begF ws (ws.length - z.s.p + 1) (⟨z.s.p, z.m, z.wf, z.op⟩ : Bg)).p, z.s.e, z.s.a⟩ : As) rs]), (begF ws (ws.length - z.s.p + 1) (⟨z.s.p, z.m, z.wf, z.op⟩ : Bg)).m, (begF ws (ws.length - z.s.p + 1) (⟨z.s.p, z.m, z.wf, z.op⟩ : Bg)).op⟩ : Eg) l1 b4; have e3 : (endF ws ((begF ws (ws.length - z.s.p + 1) (⟨z.s.p, z.m, z.wf, z.op⟩ : Bg)).wf) (ws.length - (leA ws (⟨(begF ws (ws.length - z.s.p + 1) (⟨z.s.p, z.m, z.wf, z.op⟩ : Bg)).p, z.s.e, z.s.a⟩ : As) rs).p + 1) (⟨(leA ws (⟨(begF ws (ws.length - z.s.p + 1) (⟨z.s.p, z.m, z.wf, z.op⟩ : Bg)).p, z.s.e, z.s.a⟩ : As) rs).p, (z.ns ++ [leC ws (⟨(begF ws (ws.length - z.s.p + 1) (⟨z.s.p, z.m, z.wf, z.op⟩ : Bg)).p, z.s.e, z.s.a⟩ : As) rs]), (begF ws (ws.length - z.s.p + 1) (⟨z.s.p, z.m, z.wf, z.op⟩ : Bg)).m, (begF ws (ws.length - z.s.p + 1) (⟨z.s.p, z.m, z.wf, z.op⟩ : Bg)).op⟩ : Eg)).ns.length + (endF ws ((begF ws (ws.length - z.s.p + 1) (⟨z.s.p, z.m, z.wf, z.op⟩ : Bg)).wf) (ws.length - (leA ws (⟨(begF ws (ws.length - z.s.p + 1) (⟨z.s.p, z.m, z.wf, z.op⟩ : Bg)).p, z.s.e, z.s.a⟩ : As) rs).p + 1) (⟨(leA ws (⟨(begF ws (ws.length - z.s.p + 1) (⟨z.s.p, z.m, z.wf, z.op⟩ : Bg)).p, z.s.e, z.s.a⟩ : As) rs).p, (z.ns ++ [leC ws (⟨(begF ws (ws.length - z.s.p + 1) (⟨z.s.p, z.m, z.wf, z.op⟩ : Bg)).p, z.s.e, z.s.a⟩ : As) rs]), (begF ws (ws.length - z.s.p + 1) (⟨z.s.p, z.m, z.wf, z.op⟩ : Bg)).m, (begF ws (ws.length - z.s.p + 1) (⟨z.s.p, z.m, z.wf, z.op⟩ : Bg)).op⟩ : Eg)).m ≤ (z.ns ++ [leC ws (⟨(begF ws (ws.length - z.s.p + 1) (⟨z.s.p, z.m, z.wf, z.op⟩ : Bg)).p, z.s.e, z.s.a⟩ : As) rs]).length + (begF ws (ws.length - z.s.p + 1) (⟨z.s.p, z.m, z.wf, z.op⟩ : Bg)).m := e3; omega)) A rfl rfl rfl rfl rfl rfl rfl fun A => N hX 1 A rfl rfl fun A => N hX 1 A rfl rfl fun A => ⟨(coR ws rs z).2, (coR ws rs z).1, _, (hI.ms h1), (hI.go h1), ((A.cut [0, 2] rfl).mv 7 [15, 16] rfl rfl rfl rfl (by simp only [List.length_cons, List.length_nil] at h0; omega))⟩)
   (fun h1 A => N hX 13 A rfl rfl fun A => forkD 16 A rfl
    (fun h2 A => N hX 6 A rfl rfl fun A => CALL1 [1, 2, 3] (refuse_ ws cw z.s 22 hI.le (by have q0 := hI.s2; have q1 := hI.le; have q2 := brk_le z.wf z.m; have q3 := hI.op; omega) hw) A rfl rfl rfl rfl rfl rfl rfl fun A => N hX 4 A rfl rfl fun A => CALL1 [0, 1, 2, 3, 4, 7, 8] (settle_ ws cw rs cr (refA ws z.s 22) z.ns z.m z.wf z.op 5 (by rw [refA_p]; exact hI.le) (by have q0 := hI.s2; have q1 := hI.le; have q2 := brk_le z.wf z.m; have q3 := hI.op; omega) hw (by have q0 := hI.s2; have q1 := hI.le; have q2 := brk_le z.wf z.m; have q3 := hI.op; omega) (by have q0 := hI.s2; have q1 := hI.le; have q2 := brk_le z.wf z.m; have q3 := hI.op; omega)) A rfl rfl rfl rfl rfl rfl rfl fun A => N hX 1 A rfl rfl fun A => ENDN ((by rw [hI.fin h1, decide_eq_true h2]; exact RET hX [9, 10] A ⟨rfl, rfl⟩ rfl rfl rfl rfl rfl rfl rfl rfl h0)))
    (fun h2 A => N hX 5 A rfl rfl fun A => CALL1 [0, 1, 2, 3, 4, 7, 8] (settle_ ws cw rs cr z.s z.ns z.m z.wf z.op 5 hI.le (by have q0 := hI.s2; have q1 := hI.le; have q2 := brk_le z.wf z.m; have q3 := hI.op; omega) hw (by have q0 := hI.s2; have q1 := hI.le; have q2 := brk_le z.wf z.m; have q3 := hI.op; omega) (by have q0 := hI.s2; have q1 := hI.le; have q2 := brk_le z.wf z.m; have q3 := hI.op; omega)) A rfl rfl rfl rfl rfl rfl rfl fun A => N hX 1 A rfl rfl fun A => ENDN ((by rw [hI.fin h1, decide_eq_false h2]; exact RET hX [9, 10] A ⟨rfl, rfl⟩ rfl rfl rfl rfl rfl rfl rfl rfl h0))))
def regsA : List (List UInt8) := [[88, 48], [88, 49], [88, 50], [88, 51], [88, 52], [88, 53], [88, 54], [88, 55]]
def nameA (r : Int) : List UInt8 := if r < 0 then [] else (regsA[r.toNat]?).getD []
def regA (q : List UInt8) : Int := Old.idxL regsA q 0
def tailsA : List (List UInt8) := [[66], [72], [87], []]
def szA (q h : List UInt8) : Int := if preB q h then Old.szI (Old.idxL tailsA (q.drop h.length) 0) else 0
def endsA : List (List UInt8) := [[], [65], [76], [65, 76]]
def ordA (q h : List UInt8) : Int × Bool × Bool := if szA q (h ++ []) > 0 then (szA q (h ++ []), false, false) else if szA q (h ++ [65]) > 0 then (szA q (h ++ [65]), true, false) else if szA q (h ++ [76]) > 0 then (szA q (h ++ [76]), false, true) else if szA q (h ++ [65, 76]) > 0 then (szA q (h ++ [65, 76]), true, true) else (0, false, false)
theorem nameA_o {g : Int} (h : ((decide (g < 0)) || (decide (g > 7))) = true) : nameA g = [] := by
  unfold nameA
  simp only [Bool.or_eq_true, decide_eq_true_eq] at h
  rcases h with h | h
  · rw [if_pos h]
  · rw [if_neg (by omega), List.getElem?_eq_none (by show regsA.length ≤ _; have : regsA.length = 8 := rfl; omega)]; rfl
structure OrI (q h : List UInt8) (k : Nat) : Prop where
  le : k ≤ 4
  no : ∀ j, j < k → ¬ szA q (h ++ endsA.getD j []) > 0
theorem OrI.i0 {q h : List UInt8} : OrI q h 0 := ⟨by omega, fun j hj => by omega⟩
theorem OrI.nx {q h : List UInt8} {k : Nat} (hI : OrI q h k) (hk : k < 4) (h1 : ¬ szA q (h ++ endsA.getD k []) > 0) : OrI q h (k + 1) := ⟨by omega, fun j hj => by
  by_cases e : j = k
  · subst e; exact h1
  · exact hI.no j (by omega)⟩
theorem OrI.fi {q h : List UInt8} {k : Nat} (hI : OrI q h k) (hk : 4 ≤ k) : ordA q h = (0, false, false) := by
  have a0 : ¬ szA q (h ++ []) > 0 := hI.no 0 (by omega)
  have a1 : ¬ szA q (h ++ [65]) > 0 := hI.no 1 (by omega)
  have a2 : ¬ szA q (h ++ [76]) > 0 := hI.no 2 (by omega)
  have a3 : ¬ szA q (h ++ [65, 76]) > 0 := hI.no 3 (by omega)
  unfold ordA; rw [if_neg a0, if_neg a1, if_neg a2, if_neg a3]


end Go.Proofs.YtedlaclfhgneeabGreatDoor
namespace Go.Proofs.YtedlaclfhgneeabGreatDoor
open Go.Shelf Go.RowKit
set_option linter.unusedVariables false

end Go.Proofs.YtedlaclfhgneeabGreatDoor
namespace Go.Proofs.YtedlaclfhgneeabGreatDoor
open Go.RowKit
set_option linter.unusedVariables false
set_option linter.unusedSimpArgs false
set_option maxRecDepth 100000
set_option maxHeartbeats 2000000
set_option simprocs false
section
variable {P : Program} {n : Nat} {ks : List Nat} {G0 : Gr} {w0 : World} {T : List (Nat × SV)} {H : Hp} {G : Gr} {a : Act} {w w' : World} {Q : Exit → Act → World → Prop} {K : List Fr} {ops : Array Oper} {o : Oper} {rest : List Oper} {c : Code}
end
def c5 : List (List UInt8 × Int) := [([65, 68, 68], 1), ([83, 85, 66], 2), ([69, 79, 82], 3), ([65, 78, 68], 4), ([79, 82, 82], 5)]
abbrev cr1 (x : List UInt8 × Int) (b1 : Nat) : Rw := ⟨x.1, [], insF 3 x.2, some ⟨b1, 0, none⟩, [1, 2, 3], 3⟩
abbrev cr2 (x : List UInt8 × Int) (b2 : Nat) : Rw := ⟨x.1, [], insF 3 x.2, some ⟨b2, 0, none⟩, [1, 2, 5], 3⟩
def acomp : List (List UInt8 × List UInt8 × In × List Int) := c5.flatMap fun x => [(x.1, [], insF 3 x.2, [1, 2, 3]), (x.1, [], insF 3 x.2, [1, 2, 5])]
structure AC (lo : Nat) (z : List Rw × Nat) (w : World) (ks : List Nat) : Prop where
  le : z.2 ≤ 5
  tm : z.1.map tm = acomp.take (2 * z.2)
  rw : RowsIn lo z.1 w ks
theorem AC.len {lo : Nat} {z : List Rw × Nat} {w : World} {ks : List Nat} (h : AC lo z w ks) : z.1.length = 2 * z.2 := by
  have h1 := congrArg List.length h.tm
  rw [List.length_map, List.length_take] at h1
  have h2 : acomp.length = 10 := by decide
  have := h.le
  omega
theorem AC.nx {lo b1 b2 : Nat} {z : List Rw × Nat} {w w1 : World} {ks ks1 : List Nat} {l : List (Nat × List SV)} (h : AC lo z w ks) (hk : (z.2 : Int) < 5) (hr : RowsIn lo z.1 w1 ks1) (hA : Acc lo [(b2, [.int .i64 1, .int .i64 2, .int .i64 5]), (b1, [.int .i64 1, .int .i64 2, .int .i64 3])] w1 ks1) : AC lo (z.1 ++ [cr1 (c5.getD ((z.2 : Int)).toNat nz) b1, cr2 (c5.getD ((z.2 : Int)).toNat nz) b2], z.2 + 1) w1 ks1 := by
  refine ⟨by have := h.le; show z.2 + 1 ≤ 5; omega, ?_, fun r hr' => ?_⟩
  · show List.map _ (z.1 ++ _) = _
    rw [List.map_append, h.tm, Int.toNat_natCast]
    have : z.2 = 0 ∨ z.2 = 1 ∨ z.2 = 2 ∨ z.2 = 3 ∨ z.2 = 4 := by omega
    rcases this with e | e | e | e | e <;> rw [e] <;> rfl
  · rcases List.mem_append.1 hr' with h1 | h1
    · exact hr r h1
    · simp only [List.mem_cons, List.mem_nil_iff, or_false] at h1
      rcases h1 with rfl | rfl
      · exact lies_of (cs := []) [1, 2, 3] hA (List.mem_cons_of_mem _ (List.mem_cons_self))
      · exact lies_of (cs := []) [1, 2, 5] hA (List.mem_cons_self)
abbrev sz : List UInt8 × Bool × Bool := ([], false, false)
def a2 : List (List UInt8 × Int) := [([83, 87, 80], 6), ([76, 68, 65, 68, 68], 1)]
def s4 : List (List UInt8 × Bool × Bool) := [([], false, false), ([65], true, false), ([76], false, true), ([65, 76], true, true)]
def insA (x : List UInt8 × Int) (y : List UInt8 × Bool × Bool) : In := ⟨6, 0, 0, 0, 0, 0, 0, 0, 0, x.2, y.2.1, false, y.2.2, 0, 0, 0, false⟩
abbrev aa1 (x : List UInt8 × Int) (y : List UInt8 × Bool × Bool) (b1 : Nat) : Rw := ⟨(x.1 ++ y.1) ++ [42], [], insA x y, some ⟨b1, 0, none⟩, [2, 1, 6], 3⟩
def aatom : List (List UInt8 × List UInt8 × In × List Int) := a2.flatMap fun x => s4.map fun y => ((x.1 ++ y.1) ++ [42], [], insA x y, [2, 1, 6])
structure AA (lo n : Nat) (L : List Rw) (w : World) (ks : List Nat) : Prop where
  tm : L.map tm = aatom.take n
  rw : RowsIn lo L w ks
theorem AA.len {lo n : Nat} {L : List Rw} {w : World} {ks : List Nat} (h : AA lo n L w ks) : L.length ≤ 8 ∧ (n ≤ 8 → L.length = n) := by
  have h1 := congrArg List.length h.tm
  rw [List.length_map, List.length_take] at h1
  have h2 : aatom.length = 8 := by decide
  omega
theorem AA.nx {lo b1 k j : Nat} {L : List Rw} {w w1 : World} {ks ks1 : List Nat} (h : AA lo (4 * k + j) L w ks) (hk : k < 2) (hj : j < 4) (hr : RowsIn lo L w1 ks1) (hA : Acc lo [(b1, [.int .i64 2, .int .i64 1, .int .i64 6])] w1 ks1) : AA lo (4 * k + (j + 1)) (L ++ [aa1 (a2.getD ((k : Int)).toNat nz) (s4.getD ((j : Int)).toNat sz) b1]) w1 ks1 := by
  refine ⟨?_, fun r hr' => ?_⟩
  · rw [List.map_append, h.tm, Int.toNat_natCast, Int.toNat_natCast]
    have q1 : k = 0 ∨ k = 1 := by omega
    have q2 : j = 0 ∨ j = 1 ∨ j = 2 ∨ j = 3 := by omega
    rcases q1 with e | e <;> rcases q2 with e2 | e2 | e2 | e2 <;> rw [e, e2] <;> rfl
  · rcases List.mem_append.1 hr' with h1 | h1
    · exact hr r h1
    · simp only [List.mem_cons, List.mem_nil_iff, or_false] at h1
      subst h1
      exact lies_of (cs := []) [2, 1, 6] hA List.mem_cons_self
abbrev fz : List UInt8 × Int × Int := ([], 0, 0)
def f3 : List (List UInt8 × Int × Int) := [([83, 89], 3, 3), ([76, 68], 1, 3), ([83, 84], 2, 2)]
def insN (x : List UInt8 × Int × Int) : In := ⟨7, 0, 0, 0, 0, 0, 0, 0, 0, 0, false, false, false, x.2.1, x.2.2, 0, false⟩
abbrev fr1 (x : List UInt8 × Int × Int) (b1 : Nat) : Rw := ⟨[68, 77, 66], x.1, insN x, some ⟨b1, 0, none⟩, [10], 1⟩
def afen : List (List UInt8 × List UInt8 × In × List Int) := f3.map fun x => ([68, 77, 66], x.1, insN x, [10])
structure AF (lo : Nat) (z : List Rw × Nat) (w : World) (ks : List Nat) : Prop where
  le : z.2 ≤ 3
  tm : z.1.map tm = afen.take z.2
  rw : RowsIn lo z.1 w ks
theorem AF.len {lo : Nat} {z : List Rw × Nat} {w : World} {ks : List Nat} (h : AF lo z w ks) : z.1.length = z.2 := by
  have h1 := congrArg List.length h.tm
  rw [List.length_map, List.length_take] at h1
  have h2 : afen.length = 3 := by decide
  have := h.le
  omega
theorem AF.nx {lo b1 : Nat} {z : List Rw × Nat} {w w1 : World} {ks ks1 : List Nat} {l : List (Nat × List SV)} (h : AF lo z w ks) (hk : (z.2 : Int) < 3) (hr : RowsIn lo z.1 w1 ks1) (hA : Acc lo [(b1, [.int .i64 10])] w1 ks1) : AF lo (z.1 ++ [fr1 (f3.getD ((z.2 : Int)).toNat fz) b1], z.2 + 1) w1 ks1 := by
  refine ⟨by have := h.le; show z.2 + 1 ≤ 3; omega, ?_, fun r hr' => ?_⟩
  · show List.map _ (z.1 ++ _) = _
    rw [List.map_append, h.tm, Int.toNat_natCast]
    have : z.2 = 0 ∨ z.2 = 1 ∨ z.2 = 2 := by omega
    rcases this with e | e | e <;> rw [e] <;> rfl
  · rcases List.mem_append.1 hr' with h1 | h1
    · exact hr r h1
    · simp only [List.mem_cons, List.mem_nil_iff, or_false] at h1
      subst h1
      exact lies_of (cs := []) [10] hA List.mem_cons_self

section
variable {n : Nat} {ks : List Nat} {G0 : Gr} {w0 : World} {T : List (Nat × SV)} {H : Hp} {G : Gr} {a : Act} {w : World} {Q : Exit → Act → World → Prop} {K : List Fr} {ops : Array Oper} {o : Oper} {rest : List Oper}
end
section
variable {n : Nat} {ks : List Nat} {G0 : Gr} {w0 : World} {T : List (Nat × SV)} {H : Hp} {G : Gr} {a : Act} {w : World} {Q : Exit → Act → World → Prop} {K : List Fr} {ops : Array Oper} {o : Oper} {rest : List Oper}
end
end Go.Proofs.YtedlaclfhgneeabGreatDoor
namespace Go.Proofs.YtedlaclfhgneeabGreatDoor
open Go.RowKit
set_option linter.unusedVariables false
set_option linter.unusedSimpArgs false
set_option maxRecDepth 100000
set_option maxHeartbeats 2000000
section
variable {g : Lg} {L : List Rw} {i : In} {lb : List UInt8}
end
end Go.Proofs.YtedlaclfhgneeabGreatDoor
namespace Go.Proofs.YtedlaclfhgneeabGreatDoor
open Go.RowKit
set_option linter.unusedVariables false
set_option linter.unusedSimpArgs false
set_option linter.unusedSectionVars false
section
variable {P : Program} {n : Nat} {ks : List Nat} {G0 : Gr} {w0 : World} {T : List (Nat × SV)} {H : Hp} {G : Gr} {a : Act} {w w' : World} {Q : Exit → Act → World → Prop} {K : List Fr} {ops : Array Oper} {o : Oper} {rest : List Oper} {fuel i : Nat} {listed : Array Bool}
end
end Go.Proofs.YtedlaclfhgneeabGreatDoor
namespace Go.Proofs.YtedlaclfhgneeabGreatDoor
open Go.RowKit
set_option linter.unusedVariables false
set_option linter.unusedSimpArgs false
set_option maxRecDepth 100000
set_option maxHeartbeats 2000000
set_option simprocs false

end Go.Proofs.YtedlaclfhgneeabGreatDoor
namespace Go.Proofs.YtedlaclfhgneeabGreatDoor
open Go.RowKit
set_option linter.unusedVariables false
set_option linter.unusedSimpArgs false
end Go.Proofs.YtedlaclfhgneeabGreatDoor
namespace Go.Proofs.YtedlaclfhgneeabGreatDoor.Old
set_option linter.unusedSimpArgs false
open Go.RowKit
end Go.Proofs.YtedlaclfhgneeabGreatDoor.Old
namespace Go.Proofs.YtedlaclfhgneeabGreatDoor
set_option linter.unusedSimpArgs false
end Go.Proofs.YtedlaclfhgneeabGreatDoor
namespace Go.Proofs.YtedlaclfhgneeabGreatDoor
open Go.RowKit
set_option linter.unusedVariables false
set_option linter.unusedSimpArgs false
set_option maxRecDepth 100000
set_option maxHeartbeats 2000000
set_option simprocs false
theorem regnm_a (r : Int) : regnm0 [88, 48] [88, 49] [88, 50] [88, 51] [88, 52] [88, 53] [88, 54] [88, 55] r = nameA r := by
  unfold regnm0
  split
  · next h => rw [nameA_o (by revert h; simp only [Bool.or_eq_true, decide_eq_true_eq]; omega)]
  · next h =>
    have : r = 0 ∨ r = 1 ∨ r = 2 ∨ r = 3 ∨ r = 4 ∨ r = 5 ∨ r = 6 ∨ r = 7 := by
      revert h; simp only [Bool.or_eq_true, decide_eq_true_eq]; omega
    rcases this with e | e | e | e | e | e | e | e <;> subst e <;> rfl
theorem aname_ (r : Int)  : Fn Tryz.prog 14 [.int .i64 r] [] (Rt (.str (nameA r)) []) :=
 enterM (n := 6) (by kernel_rfl) Tryz.func14 rfl rfl rfl fun G w a h0 A => N hX 7 A rfl rfl fun A => CALL1 [] aregs_ A rfl rfl rfl rfl rfl rfl rfl fun A => N hX 1 A rfl rfl fun A => CALL1 [] (regnm_ [88, 48] [88, 49] [88, 50] [88, 51] [88, 52] [88, 53] [88, 54] [88, 55] r) A rfl rfl rfl rfl rfl rfl rfl fun A => N hX 4 A rfl rfl fun A => RETN hX A rfl rfl rfl h0 rfl rfl rfl rfl (by rw [← regnm_a] <;> rfl) rfl
def regsV : List (List UInt8) := [[97, 48], [97, 49], [97, 50], [97, 51], [97, 52], [97, 53], [97, 54], [97, 55]]
def nameV (r : Int) : List UInt8 := if r < 0 then [] else (regsV[r.toNat]?).getD []
def regV (q : List UInt8) : Int := Old.idxL regsV q 0
def alusV : List (List UInt8) := [[97, 100, 100], [115, 117, 98], [120, 111, 114], [97, 110, 100], [111, 114]]
def alusW : List (List UInt8) := [[97, 100, 100, 105], [115, 117, 98, 105], [120, 111, 114, 105], [97, 110, 100, 105], [111, 114, 105]]
def aluV (q : List UInt8) : Int × Bool := if idxS alusV q < 0 then (if idxS alusW q < 0 then (0, false) else (idxS alusW q + 1, true)) else (idxS alusV q + 1, false)
theorem nameV_o {g : Int} (h : ((decide (g < 0)) || (decide (g > 7))) = true) : nameV g = [] := by
  unfold nameV
  simp only [Bool.or_eq_true, decide_eq_true_eq] at h
  rcases h with h | h
  · rw [if_pos h]
  · rw [if_neg (by omega), List.getElem?_eq_none (by show regsV.length ≤ _; have : regsV.length = 8 := rfl; omega)]; rfl
theorem alW (k : Nat) (h : k < 5) : alusV.getD k [] ++ [105] = alusW.getD k [] := by
  have : k = 0 ∨ k = 1 ∨ k = 2 ∨ k = 3 ∨ k = 4 := by omega
  rcases this with e | e | e | e | e <;> subst e <;> rfl
structure AlI (q : List UInt8) (k : Nat) : Prop where
  a : IxI alusV q k
  b : IxI alusW q k
theorem AlI.i0 {q : List UInt8} : AlI q 0 := ⟨IxI.i0, IxI.i0⟩
theorem AlI.nx {q : List UInt8} {k : Nat} (hI : AlI q k) (hk : k < 5) (h1 : alusV.getD k [] ≠ q) (h2 : alusV.getD k [] ++ [105] ≠ q) : AlI q (k + 1) := ⟨hI.a.nx hk (beq_eq_false_iff_ne.2 fun e => h1 e.symm), hI.b.nx hk (beq_eq_false_iff_ne.2 fun e => h2 (by rw [alW k hk]; exact e.symm))⟩
theorem AlI.fi {q : List UInt8} {k : Nat} (hI : AlI q k) (hk : 5 ≤ k) : aluV q = (0, false) := by
  unfold aluV; rw [hI.a.fi hk, hI.b.fi hk]; rfl
theorem regnm_v (r : Int) : regnm0 [97, 48] [97, 49] [97, 50] [97, 51] [97, 52] [97, 53] [97, 54] [97, 55] r = nameV r := by
  unfold regnm0
  split
  · next h => rw [nameV_o (by revert h; simp only [Bool.or_eq_true, decide_eq_true_eq]; omega)]
  · next h =>
    have : r = 0 ∨ r = 1 ∨ r = 2 ∨ r = 3 ∨ r = 4 ∨ r = 5 ∨ r = 6 ∨ r = 7 := by
      revert h; simp only [Bool.or_eq_true, decide_eq_true_eq]; omega
    rcases this with e | e | e | e | e | e | e | e <;> subst e <;> rfl
theorem vname_ (r : Int)  : Fn Tryz.prog 110 [.int .i64 r] [] (Rt (.str (nameV r)) []) :=
 enterM (n := 6) (by kernel_rfl) Tryz.func110 rfl rfl rfl fun G w a h0 A => N hX 7 A rfl rfl fun A => CALL1 [] rregs_ A rfl rfl rfl rfl rfl rfl rfl fun A => N hX 1 A rfl rfl fun A => CALL1 [] (regnm_ [97, 48] [97, 49] [97, 50] [97, 51] [97, 52] [97, 53] [97, 54] [97, 55] r) A rfl rfl rfl rfl rfl rfl rfl fun A => N hX 4 A rfl rfl fun A => RETN hX A rfl rfl rfl h0 rfl rfl rfl rfl (by rw [← regnm_v] <;> rfl) rfl
def rgA (nf : Int → List UInt8) (k j : Nat) : List UInt8 := if j < k then nf j else []
theorem rgA_ne {nf : Int → List UInt8} {k j : Nat} (h : j ≠ k) : rgA nf (k + 1) j = rgA nf k j := by
  unfold rgA
  by_cases hj : j < k
  · rw [if_pos hj, if_pos (by omega)]
  · rw [if_neg hj, if_neg (by omega)]
theorem rgA_at {nf : Int → List UInt8} {k : Nat} : rgA nf (k + 1) k = nf k := by unfold rgA; rw [if_pos (by omega)]
def rgL (nf : Int → List UInt8) : List (List UInt8) := [nf 0, nf 1, nf 2, nf 3, nf 4, nf 5, nf 6, nf 7]
theorem rgA_8 {nf : Int → List UInt8} (j : Nat) (h : j < 8) : (rgL nf).getD j [] = rgA nf 8 j := by
  have : j = 0 ∨ j = 1 ∨ j = 2 ∨ j = 3 ∨ j = 4 ∨ j = 5 ∨ j = 6 ∨ j = 7 := by omega
  rcases this with e | e | e | e | e | e | e | e <;> subst e <;> rfl
theorem regnX_   : Fn Tryz.prog 108 [.fn 109 []] [] (Rt (.sl 0 8 8) [some (.row 9 1 8 8 (fun zz => [.str ((rgL Old.nameF).getD zz [])]))]) :=
 enterM (n := 19) (by kernel_rfl) Tryz.func108 rfl rfl rfl fun G w a h0 A => N hX 7 A rfl rfl fun A => q_eff A rfl (mkE' (m := 8) (fun j => [.str (rgA Old.nameF 0 j)]) (fun j => by show [SV.str (rgA Old.nameF 0 j)] = _; unfold rgA; rw [if_neg (by omega)]) rfl rfl rfl rfl (by kernel_rfl) strInfo (by omega) rfl) fun A => N hX 12 A rfl rfl fun A => LOOP1 (fun (k : Nat) => [(0, .fn 109 []), (2, .sla none 0 0), (3, .sl 0 8 8), (7, .int .i64 ((8 : Nat) : Int)), (8, .int .i64 (k : Int))]) (fun (k : Nat) => [some (.row 9 1 8 8 (fun j => [.str (rgA Old.nameF k j)]))]) (fun (k : Nat) => k ≤ 8 ∧ True) (fun (k : Nat) => 8 - k) 0 ⟨by omega, trivial⟩ ((A.cut [0, 2, 3, 7, 8] rfl).trunc 1 rfl rfl rfl (by simp only [List.length_cons, List.length_nil] at h0; omega)) fun k hI {G a w} A => N hX 6 A rfl rfl fun A => forkD 9 A rfl
   (fun h1 A => N hX 16 A rfl rfl fun A => CALL1 [] (xname_ (k : Int)) A rfl rfl rfl rfl rfl rfl rfl fun A => N hX 1 A rfl (ok_d (by have := hI.1; omega) <| okE_nil) fun A => STR (i := 0) (e := 9) (s := 1) (m := 8) (c := 8) hX k (fun j => [.str (rgA Old.nameF (k + 1) j)]) A rfl rfl (Int.toNat_natCast k) (by omega) (fun z hz => by show [SV.str _] = [SV.str _]; rw [rgA_ne hz]) (by show _ = some [SV.str _]; rw [rgA_at]; rfl) fun A => N hX 7 A rfl (ok_d (by have := hI.1; omega) <| okE_nil) fun A => ⟨k + 1, _, (by omega), ⟨by omega, trivial⟩, ((A.cut [0, 2, 3, 7, 8] rfl).trunc 1 rfl rfl rfl (by simp only [List.length_cons, List.length_nil] at h0; omega))⟩)
   (fun h1 A => N hX 10 A rfl rfl fun A => have A := A.rowAs 0 8 (fun zz => [.str ((rgL Old.nameF).getD zz [])]) rfl rfl (fun j hj => by show [SV.str _] = [SV.str (rgA Old.nameF k j)]; rw [show k = 8 by have := hI.1; omega, rgA_8 j hj]) (fun z => ⟨_, rfl, rfl⟩); RET hX [0] A ⟨rfl, rfl⟩ rfl rfl rfl rfl rfl rfl rfl rfl h0)
theorem regnV_   : Fn Tryz.prog 108 [.fn 110 []] [] (Rt (.sl 0 8 8) [some (.row 9 1 8 8 (fun zz => [.str ((rgL nameV).getD zz [])]))]) :=
 enterM (n := 19) (by kernel_rfl) Tryz.func108 rfl rfl rfl fun G w a h0 A => N hX 7 A rfl rfl fun A => q_eff A rfl (mkE' (m := 8) (fun j => [.str (rgA nameV 0 j)]) (fun j => by show [SV.str (rgA nameV 0 j)] = _; unfold rgA; rw [if_neg (by omega)]) rfl rfl rfl rfl (by kernel_rfl) strInfo (by omega) rfl) fun A => N hX 12 A rfl rfl fun A => LOOP1 (fun (k : Nat) => [(0, .fn 110 []), (2, .sla none 0 0), (3, .sl 0 8 8), (7, .int .i64 ((8 : Nat) : Int)), (8, .int .i64 (k : Int))]) (fun (k : Nat) => [some (.row 9 1 8 8 (fun j => [.str (rgA nameV k j)]))]) (fun (k : Nat) => k ≤ 8 ∧ True) (fun (k : Nat) => 8 - k) 0 ⟨by omega, trivial⟩ ((A.cut [0, 2, 3, 7, 8] rfl).trunc 1 rfl rfl rfl (by simp only [List.length_cons, List.length_nil] at h0; omega)) fun k hI {G a w} A => N hX 6 A rfl rfl fun A => forkD 9 A rfl
   (fun h1 A => N hX 16 A rfl rfl fun A => CALL1 [] (vname_ (k : Int)) A rfl rfl rfl rfl rfl rfl rfl fun A => N hX 1 A rfl (ok_d (by have := hI.1; omega) <| okE_nil) fun A => STR (i := 0) (e := 9) (s := 1) (m := 8) (c := 8) hX k (fun j => [.str (rgA nameV (k + 1) j)]) A rfl rfl (Int.toNat_natCast k) (by omega) (fun z hz => by show [SV.str _] = [SV.str _]; rw [rgA_ne hz]) (by show _ = some [SV.str _]; rw [rgA_at]; rfl) fun A => N hX 7 A rfl (ok_d (by have := hI.1; omega) <| okE_nil) fun A => ⟨k + 1, _, (by omega), ⟨by omega, trivial⟩, ((A.cut [0, 2, 3, 7, 8] rfl).trunc 1 rfl rfl rfl (by simp only [List.length_cons, List.length_nil] at h0; omega))⟩)
   (fun h1 A => N hX 10 A rfl rfl fun A => have A := A.rowAs 0 8 (fun zz => [.str ((rgL nameV).getD zz [])]) rfl rfl (fun j hj => by show [SV.str _] = [SV.str (rgA nameV k j)]; rw [show k = 8 by have := hI.1; omega, rgA_8 j hj]) (fun z => ⟨_, rfl, rfl⟩); RET hX [0] A ⟨rfl, rfl⟩ rfl rfl rfl rfl rfl rfl rfl rfl h0)
theorem regnA_   : Fn Tryz.prog 108 [.fn 14 []] [] (Rt (.sl 0 8 8) [some (.row 9 1 8 8 (fun zz => [.str ((rgL nameA).getD zz [])]))]) :=
 enterM (n := 19) (by kernel_rfl) Tryz.func108 rfl rfl rfl fun G w a h0 A => N hX 7 A rfl rfl fun A => q_eff A rfl (mkE' (m := 8) (fun j => [.str (rgA nameA 0 j)]) (fun j => by show [SV.str (rgA nameA 0 j)] = _; unfold rgA; rw [if_neg (by omega)]) rfl rfl rfl rfl (by kernel_rfl) strInfo (by omega) rfl) fun A => N hX 12 A rfl rfl fun A => LOOP1 (fun (k : Nat) => [(0, .fn 14 []), (2, .sla none 0 0), (3, .sl 0 8 8), (7, .int .i64 ((8 : Nat) : Int)), (8, .int .i64 (k : Int))]) (fun (k : Nat) => [some (.row 9 1 8 8 (fun j => [.str (rgA nameA k j)]))]) (fun (k : Nat) => k ≤ 8 ∧ True) (fun (k : Nat) => 8 - k) 0 ⟨by omega, trivial⟩ ((A.cut [0, 2, 3, 7, 8] rfl).trunc 1 rfl rfl rfl (by simp only [List.length_cons, List.length_nil] at h0; omega)) fun k hI {G a w} A => N hX 6 A rfl rfl fun A => forkD 9 A rfl
   (fun h1 A => N hX 16 A rfl rfl fun A => CALL1 [] (aname_ (k : Int)) A rfl rfl rfl rfl rfl rfl rfl fun A => N hX 1 A rfl (ok_d (by have := hI.1; omega) <| okE_nil) fun A => STR (i := 0) (e := 9) (s := 1) (m := 8) (c := 8) hX k (fun j => [.str (rgA nameA (k + 1) j)]) A rfl rfl (Int.toNat_natCast k) (by omega) (fun z hz => by show [SV.str _] = [SV.str _]; rw [rgA_ne hz]) (by show _ = some [SV.str _]; rw [rgA_at]; rfl) fun A => N hX 7 A rfl (ok_d (by have := hI.1; omega) <| okE_nil) fun A => ⟨k + 1, _, (by omega), ⟨by omega, trivial⟩, ((A.cut [0, 2, 3, 7, 8] rfl).trunc 1 rfl rfl rfl (by simp only [List.length_cons, List.length_nil] at h0; omega))⟩)
   (fun h1 A => N hX 10 A rfl rfl fun A => have A := A.rowAs 0 8 (fun zz => [.str ((rgL nameA).getD zz [])]) rfl rfl (fun j hj => by show [SV.str _] = [SV.str (rgA nameA k j)]; rw [show k = 8 by have := hI.1; omega, rgA_8 j hj]) (fun z => ⟨_, rfl, rfl⟩); RET hX [0] A ⟨rfl, rfl⟩ rfl rfl rfl rfl rfl rfl rfl rfl h0)
theorem regs1_   : Fn Tryz.prog 45 [.int .i64 1] [] (Rt (.sl 0 8 8) [some (.row 9 1 8 8 (fun zz => [.str ((rgL Old.nameF).getD zz [])]))]) :=
 enterM (n := 13) (by kernel_rfl) Tryz.func45 rfl rfl rfl fun G w a h0 A => N hX 18 A rfl rfl fun A => forkE 4 A rfl
  (fun h1 A => N hX 3 A rfl rfl fun A => CALL1 [] regnX_ A rfl rfl rfl rfl rfl rfl rfl fun A => N hX 4 A rfl rfl fun A => RET hX [0] A ⟨rfl, rfl⟩ rfl rfl rfl rfl rfl rfl rfl rfl h0)
  (fun h1 A => absurd rfl h1)
theorem regs2_   : Fn Tryz.prog 45 [.int .i64 2] [] (Rt (.sl 0 8 8) [some (.row 9 1 8 8 (fun zz => [.str ((rgL nameV).getD zz [])]))]) :=
 enterM (n := 13) (by kernel_rfl) Tryz.func45 rfl rfl rfl fun G w a h0 A => N hX 18 A rfl rfl fun A => forkE 4 A rfl
  (fun h1 A => absurd h1 (by decide))
  (fun h1 A => N hX 7 A rfl rfl fun A => forkE 7 A rfl
   (fun h2 A => N hX 3 A rfl rfl fun A => CALL1 [] regnV_ A rfl rfl rfl rfl rfl rfl rfl fun A => N hX 4 A rfl rfl fun A => RET hX [0] A ⟨rfl, rfl⟩ rfl rfl rfl rfl rfl rfl rfl rfl h0)
   (fun h2 A => absurd rfl h2))
theorem regs3_   : Fn Tryz.prog 45 [.int .i64 3] [] (Rt (.sl 0 8 8) [some (.row 9 1 8 8 (fun zz => [.str ((rgL nameA).getD zz [])]))]) :=
 enterM (n := 13) (by kernel_rfl) Tryz.func45 rfl rfl rfl fun G w a h0 A => N hX 18 A rfl rfl fun A => forkE 4 A rfl
  (fun h1 A => absurd h1 (by decide))
  (fun h1 A => N hX 7 A rfl rfl fun A => forkE 7 A rfl
   (fun h2 A => absurd h2 (by decide))
   (fun h2 A => N hX 7 A rfl rfl fun A => forkE 10 A rfl
    (fun h3 A => N hX 3 A rfl rfl fun A => CALL1 [] regnA_ A rfl rfl rfl rfl rfl rfl rfl fun A => N hX 4 A rfl rfl fun A => RET hX [0] A ⟨rfl, rfl⟩ rfl rfl rfl rfl rfl rfl rfl rfl h0)
    (fun h3 A => absurd rfl h3)))
def cpZ (ws : List Tk) (rs : List (List UInt8)) : Cs := coF ws rs (ws.length - 0 + 1) ⟨⟨0, 0, 0⟩, [], 0, fun _ => 0, 0⟩
def cpS (ws : List Tk) (rs : List (List UInt8)) : As := endA ws (bif decide ((cpZ ws rs).op > 0) then refA ws (cpZ ws rs).s 22 else (cpZ ws rs).s)
def cpN (ws : List Tk) (rs : List (List UInt8)) : List Cn := (setF 5 (cpZ ws rs).wf (cpZ ws rs).m (cpZ ws rs).ns).2
theorem coF_ok {ws : List Tk} {rs : List (List UInt8)} : ∀ (f : Nat) (z : Cs), z.s.p ≤ ws.length → z.op = (brk z.wf z.m : Int) → z.ns.length + z.m ≤ 2 * z.s.p → (coF ws rs f z).s.p ≤ ws.length ∧ (coF ws rs f z).ns.length + (coF ws rs f z).m ≤ 2 * (coF ws rs f z).s.p + 1
  | 0, z, hk, ho, hs => ⟨hk, by show z.ns.length + z.m ≤ _; exact Nat.le_succ_of_le hs⟩
  | f + 1, z, hk, ho, hs => by
    obtain ⟨r1, r2, r3, r4, r5⟩ := coR_ok (rs := rs) hk ho hs
    unfold coF
    cases hc : (coR ws rs z).1 with
    | false => rw [if_neg (by decide)]; exact ⟨r1, r4⟩
    | true => rw [if_pos rfl]; exact coF_ok f _ r1 r5 (r3 hc).2
theorem cpZ_ok (ws : List Tk) (rs : List (List UInt8)) : (cpZ ws rs).s.p ≤ ws.length ∧ (cpZ ws rs).ns.length + (cpZ ws rs).m ≤ 2 * (cpZ ws rs).s.p + 1 := coF_ok _ _ (Nat.zero_le _) rfl (Nat.le_refl _)
theorem cp_le (ws : List Tk) (rs : List (List UInt8)) : (bif decide ((cpZ ws rs).op > 0) then refA ws (cpZ ws rs).s 22 else (cpZ ws rs).s).p ≤ ws.length := by
  cases decide ((cpZ ws rs).op > 0)
  · exact (cpZ_ok ws rs).1
  · show (refA ws (cpZ ws rs).s 22).p ≤ _; rw [refA_p]; exact (cpZ_ok ws rs).1
def cpE (ws : List Tk) (rs : List (List UInt8)) : Int := if (cpS ws rs).e ≠ 0 then (cpS ws rs).e else 2
def cpA (ws : List Tk) (rs : List (List UInt8)) : Int := if (cpS ws rs).e ≠ 0 then (cpS ws rs).a else atW ws 0
theorem cparse1_no (ws : List Tk) (cw : Nat) (hn : ws.length ≤ 10000) (hw : WsOK ws) (hq : ¬ ((cpS ws (rgL Old.nameF)).e = 0 ∧ (cpN ws (rgL Old.nameF)).length ≤ 32)) : Fn Tryz.prog 19 [.int .i64 1, .sl 0 ws.length cw] [some (.lst 4 ws.length (fun zz => tkc (ws.getD zz tok0)))] (Rt (.tup [.sla none 0 0, .int .i64 (cpE ws (rgL Old.nameF)), .int .i64 (cpA ws (rgL Old.nameF))]) [some (.lst 4 ws.length (fun zz => tkc (ws.getD zz tok0)))]) :=
 enterM (n := 59) (by kernel_rfl) Tryz.func19 rfl rfl rfl fun G w a h0 A => N hX 10 A rfl rfl fun A => CALL1 [] regs1_ A rfl rfl rfl rfl rfl rfl rfl fun A => N hX 7 A rfl rfl fun A => NILR hX A rfl rfl (by omega) fun A => N hX 8 A rfl rfl fun A => CALL1 [0] (askNew_ ws cw (by omega)) A rfl rfl rfl rfl rfl rfl rfl fun A => N hX 7 A rfl rfl fun A => have A := A.freeze 1 rfl; have A := A.freeze 4 rfl; have A := A.nilCell 5 88 5 (fun zz => cc (([] : List Cn).getD zz Cn.z)) [.ptr 2 0, .sl 1 8 8, .sl 6 0 0, .sla none 0 0, .int .i64 0] rfl (fun G' hG vs h => (denL_at (den_nil hG) [.ptr 2 0, .sl 1 8 8] [.sla none 0 0, .int .i64 0]).trans h) (fun z => ⟨_, rfl, rfl⟩); have A := A.nilCell 5 3 1 (fun zz => [.int .i64 ((fun _ => 0) zz)]) [.ptr 2 0, .sl 1 8 8, .sl 6 0 0, .sl 7 0 0, .int .i64 0] rfl (fun G' hG vs h => (denL_at (den_nil hG) [.ptr 2 0, .sl 1 8 8, .sl 6 0 0] [.int .i64 0]).trans h) (fun z => ⟨_, rfl, rfl⟩); N hX 8 A rfl rfl fun A => CALL1 [3, 4] (at_W ws 0 0 (by first | exact Nat.zero_le _ | exact cp_le ws (rgL Old.nameF) | exact endA_le (cp_le ws (rgL Old.nameF))) (by omega) hw) A rfl rfl rfl rfl rfl rfl rfl fun A => N hX 6 A rfl rfl fun A => CALL1 [5, 2, 3, 4, 1, 6, 7] (condition_ ws 0 (rgL Old.nameF) 8 (⟨0, 0, 0⟩ : As) ([] : List Cn) 0 (fun _ => 0) 0 (Nat.zero_le _) (by omega) hw (by decide) (by decide) (by show 8 ≤ 1000; decide) rfl (Nat.le_refl _)) A rfl rfl rfl rfl rfl rfl rfl fun A => N hX 8 A rfl rfl fun A => CALL1 [2, 3, 4] (end_ ws 0 (bif decide ((coF ws (rgL Old.nameF) (ws.length - (⟨0, 0, 0⟩ : As).p + 1) (⟨(⟨0, 0, 0⟩ : As), ([] : List Cn), 0, fun _ => 0, 0⟩ : Cs)).op > 0) then refA ws (coF ws (rgL Old.nameF) (ws.length - (⟨0, 0, 0⟩ : As).p + 1) (⟨(⟨0, 0, 0⟩ : As), ([] : List Cn), 0, fun _ => 0, 0⟩ : Cs)).s 22 else (coF ws (rgL Old.nameF) (ws.length - (⟨0, 0, 0⟩ : As).p + 1) (⟨(⟨0, 0, 0⟩ : As), ([] : List Cn), 0, fun _ => 0, 0⟩ : Cs)).s) (by first | exact Nat.zero_le _ | exact cp_le ws (rgL Old.nameF) | exact endA_le (cp_le ws (rgL Old.nameF))) (by omega) hw) A rfl rfl rfl rfl rfl rfl rfl fun A => N hX 9 A rfl rfl fun A => CALL1 [2, 3, 4] (fault_ ws 0 (endA ws (bif decide ((coF ws (rgL Old.nameF) (ws.length - (⟨0, 0, 0⟩ : As).p + 1) (⟨(⟨0, 0, 0⟩ : As), ([] : List Cn), 0, fun _ => 0, 0⟩ : Cs)).op > 0) then refA ws (coF ws (rgL Old.nameF) (ws.length - (⟨0, 0, 0⟩ : As).p + 1) (⟨(⟨0, 0, 0⟩ : As), ([] : List Cn), 0, fun _ => 0, 0⟩ : Cs)).s 22 else (coF ws (rgL Old.nameF) (ws.length - (⟨0, 0, 0⟩ : As).p + 1) (⟨(⟨0, 0, 0⟩ : As), ([] : List Cn), 0, fun _ => 0, 0⟩ : Cs)).s)) (by first | exact Nat.zero_le _ | exact cp_le ws (rgL Old.nameF) | exact endA_le (cp_le ws (rgL Old.nameF))) (by omega) hw) A rfl rfl rfl rfl rfl rfl rfl fun A => N hX 13 A rfl rfl fun A => forkN 45 A rfl
  (fun h1 A => N hX 11 A rfl rfl fun A => (by unfold cpE cpA; rw [if_pos (show (cpS ws (rgL Old.nameF)).e ≠ 0 from h1), if_pos (show (cpS ws (rgL Old.nameF)).e ≠ 0 from h1)]; exact RETN hX A rfl rfl rfl h0 rfl rfl rfl rfl rfl rfl))
  (fun h1 A => N hX 14 A rfl rfl fun A => forkD 53 A rfl
   (fun h2 A => N hX 10 A rfl rfl fun A => (by unfold cpE cpA; rw [if_neg (show ¬ (cpS ws (rgL Old.nameF)).e ≠ 0 from not_not_intro h1), if_neg (show ¬ (cpS ws (rgL Old.nameF)).e ≠ 0 from not_not_intro h1)]; exact RETN hX A rfl rfl rfl h0 rfl rfl rfl rfl rfl rfl))
   (fun h2 A => N hX 15 A rfl rfl fun A => (by exact absurd ⟨(show (cpS ws (rgL Old.nameF)).e = 0 from h1), (by have : ¬ (((cpN ws (rgL Old.nameF)).length : Nat) : Int) > 32 := h2; omega)⟩ hq)))
theorem cparse1_ok (ws : List Tk) (cw : Nat) (hn : ws.length ≤ 10000) (hw : WsOK ws) (hq : (cpS ws (rgL Old.nameF)).e = 0 ∧ (cpN ws (rgL Old.nameF)).length ≤ 32) : Fn Tryz.prog 19 [.int .i64 1, .sl 0 ws.length cw] [some (.lst 4 ws.length (fun zz => tkc (ws.getD zz tok0)))] (Rt (.tup [.sl 1 ((cpN ws (rgL Old.nameF)).length) 0, .int .i64 0, .int .i64 0]) [some (.lst 4 ws.length (fun zz => tkc (ws.getD zz tok0))), some (.row 88 5 ((cpN ws (rgL Old.nameF)).length) 0 (fun zz => cc ((cpN ws (rgL Old.nameF)).getD zz Cn.z)))]) :=
 enterM (n := 59) (by kernel_rfl) Tryz.func19 rfl rfl rfl fun G w a h0 A => N hX 10 A rfl rfl fun A => CALL1 [] regs1_ A rfl rfl rfl rfl rfl rfl rfl fun A => N hX 7 A rfl rfl fun A => NILR hX A rfl rfl (by omega) fun A => N hX 8 A rfl rfl fun A => CALL1 [0] (askNew_ ws cw (by omega)) A rfl rfl rfl rfl rfl rfl rfl fun A => N hX 7 A rfl rfl fun A => have A := A.freeze 1 rfl; have A := A.freeze 4 rfl; have A := A.nilCell 5 88 5 (fun zz => cc (([] : List Cn).getD zz Cn.z)) [.ptr 2 0, .sl 1 8 8, .sl 6 0 0, .sla none 0 0, .int .i64 0] rfl (fun G' hG vs h => (denL_at (den_nil hG) [.ptr 2 0, .sl 1 8 8] [.sla none 0 0, .int .i64 0]).trans h) (fun z => ⟨_, rfl, rfl⟩); have A := A.nilCell 5 3 1 (fun zz => [.int .i64 ((fun _ => 0) zz)]) [.ptr 2 0, .sl 1 8 8, .sl 6 0 0, .sl 7 0 0, .int .i64 0] rfl (fun G' hG vs h => (denL_at (den_nil hG) [.ptr 2 0, .sl 1 8 8, .sl 6 0 0] [.int .i64 0]).trans h) (fun z => ⟨_, rfl, rfl⟩); N hX 8 A rfl rfl fun A => CALL1 [3, 4] (at_W ws 0 0 (by first | exact Nat.zero_le _ | exact cp_le ws (rgL Old.nameF) | exact endA_le (cp_le ws (rgL Old.nameF))) (by omega) hw) A rfl rfl rfl rfl rfl rfl rfl fun A => N hX 6 A rfl rfl fun A => CALL1 [5, 2, 3, 4, 1, 6, 7] (condition_ ws 0 (rgL Old.nameF) 8 (⟨0, 0, 0⟩ : As) ([] : List Cn) 0 (fun _ => 0) 0 (Nat.zero_le _) (by omega) hw (by decide) (by decide) (by show 8 ≤ 1000; decide) rfl (Nat.le_refl _)) A rfl rfl rfl rfl rfl rfl rfl fun A => N hX 8 A rfl rfl fun A => CALL1 [2, 3, 4] (end_ ws 0 (bif decide ((coF ws (rgL Old.nameF) (ws.length - (⟨0, 0, 0⟩ : As).p + 1) (⟨(⟨0, 0, 0⟩ : As), ([] : List Cn), 0, fun _ => 0, 0⟩ : Cs)).op > 0) then refA ws (coF ws (rgL Old.nameF) (ws.length - (⟨0, 0, 0⟩ : As).p + 1) (⟨(⟨0, 0, 0⟩ : As), ([] : List Cn), 0, fun _ => 0, 0⟩ : Cs)).s 22 else (coF ws (rgL Old.nameF) (ws.length - (⟨0, 0, 0⟩ : As).p + 1) (⟨(⟨0, 0, 0⟩ : As), ([] : List Cn), 0, fun _ => 0, 0⟩ : Cs)).s) (by first | exact Nat.zero_le _ | exact cp_le ws (rgL Old.nameF) | exact endA_le (cp_le ws (rgL Old.nameF))) (by omega) hw) A rfl rfl rfl rfl rfl rfl rfl fun A => N hX 9 A rfl rfl fun A => CALL1 [2, 3, 4] (fault_ ws 0 (endA ws (bif decide ((coF ws (rgL Old.nameF) (ws.length - (⟨0, 0, 0⟩ : As).p + 1) (⟨(⟨0, 0, 0⟩ : As), ([] : List Cn), 0, fun _ => 0, 0⟩ : Cs)).op > 0) then refA ws (coF ws (rgL Old.nameF) (ws.length - (⟨0, 0, 0⟩ : As).p + 1) (⟨(⟨0, 0, 0⟩ : As), ([] : List Cn), 0, fun _ => 0, 0⟩ : Cs)).s 22 else (coF ws (rgL Old.nameF) (ws.length - (⟨0, 0, 0⟩ : As).p + 1) (⟨(⟨0, 0, 0⟩ : As), ([] : List Cn), 0, fun _ => 0, 0⟩ : Cs)).s)) (by first | exact Nat.zero_le _ | exact cp_le ws (rgL Old.nameF) | exact endA_le (cp_le ws (rgL Old.nameF))) (by omega) hw) A rfl rfl rfl rfl rfl rfl rfl fun A => N hX 13 A rfl rfl fun A => forkN 45 A rfl
  (fun h1 A => N hX 11 A rfl rfl fun A => (by exact absurd (show (cpS ws (rgL Old.nameF)).e = 0 from hq.1) h1))
  (fun h1 A => N hX 14 A rfl rfl fun A => forkD 53 A rfl
   (fun h2 A => N hX 10 A rfl rfl fun A => (by exact absurd (show (((cpN ws (rgL Old.nameF)).length : Nat) : Int) > 32 from h2) (by have := hq.2; omega)))
   (fun h2 A => N hX 15 A rfl rfl fun A => (by exact RET hX [8] A ⟨rfl, rfl⟩ rfl rfl rfl rfl rfl rfl rfl rfl h0)))
theorem cparse2_no (ws : List Tk) (cw : Nat) (hn : ws.length ≤ 10000) (hw : WsOK ws) (hq : ¬ ((cpS ws (rgL nameV)).e = 0 ∧ (cpN ws (rgL nameV)).length ≤ 32)) : Fn Tryz.prog 19 [.int .i64 2, .sl 0 ws.length cw] [some (.lst 4 ws.length (fun zz => tkc (ws.getD zz tok0)))] (Rt (.tup [.sla none 0 0, .int .i64 (cpE ws (rgL nameV)), .int .i64 (cpA ws (rgL nameV))]) [some (.lst 4 ws.length (fun zz => tkc (ws.getD zz tok0)))]) :=
 enterM (n := 59) (by kernel_rfl) Tryz.func19 rfl rfl rfl fun G w a h0 A => N hX 10 A rfl rfl fun A => CALL1 [] regs2_ A rfl rfl rfl rfl rfl rfl rfl fun A => N hX 7 A rfl rfl fun A => NILR hX A rfl rfl (by omega) fun A => N hX 8 A rfl rfl fun A => CALL1 [0] (askNew_ ws cw (by omega)) A rfl rfl rfl rfl rfl rfl rfl fun A => N hX 7 A rfl rfl fun A => have A := A.freeze 1 rfl; have A := A.freeze 4 rfl; have A := A.nilCell 5 88 5 (fun zz => cc (([] : List Cn).getD zz Cn.z)) [.ptr 2 0, .sl 1 8 8, .sl 6 0 0, .sla none 0 0, .int .i64 0] rfl (fun G' hG vs h => (denL_at (den_nil hG) [.ptr 2 0, .sl 1 8 8] [.sla none 0 0, .int .i64 0]).trans h) (fun z => ⟨_, rfl, rfl⟩); have A := A.nilCell 5 3 1 (fun zz => [.int .i64 ((fun _ => 0) zz)]) [.ptr 2 0, .sl 1 8 8, .sl 6 0 0, .sl 7 0 0, .int .i64 0] rfl (fun G' hG vs h => (denL_at (den_nil hG) [.ptr 2 0, .sl 1 8 8, .sl 6 0 0] [.int .i64 0]).trans h) (fun z => ⟨_, rfl, rfl⟩); N hX 8 A rfl rfl fun A => CALL1 [3, 4] (at_W ws 0 0 (by first | exact Nat.zero_le _ | exact cp_le ws (rgL nameV) | exact endA_le (cp_le ws (rgL nameV))) (by omega) hw) A rfl rfl rfl rfl rfl rfl rfl fun A => N hX 6 A rfl rfl fun A => CALL1 [5, 2, 3, 4, 1, 6, 7] (condition_ ws 0 (rgL nameV) 8 (⟨0, 0, 0⟩ : As) ([] : List Cn) 0 (fun _ => 0) 0 (Nat.zero_le _) (by omega) hw (by decide) (by decide) (by show 8 ≤ 1000; decide) rfl (Nat.le_refl _)) A rfl rfl rfl rfl rfl rfl rfl fun A => N hX 8 A rfl rfl fun A => CALL1 [2, 3, 4] (end_ ws 0 (bif decide ((coF ws (rgL nameV) (ws.length - (⟨0, 0, 0⟩ : As).p + 1) (⟨(⟨0, 0, 0⟩ : As), ([] : List Cn), 0, fun _ => 0, 0⟩ : Cs)).op > 0) then refA ws (coF ws (rgL nameV) (ws.length - (⟨0, 0, 0⟩ : As).p + 1) (⟨(⟨0, 0, 0⟩ : As), ([] : List Cn), 0, fun _ => 0, 0⟩ : Cs)).s 22 else (coF ws (rgL nameV) (ws.length - (⟨0, 0, 0⟩ : As).p + 1) (⟨(⟨0, 0, 0⟩ : As), ([] : List Cn), 0, fun _ => 0, 0⟩ : Cs)).s) (by first | exact Nat.zero_le _ | exact cp_le ws (rgL nameV) | exact endA_le (cp_le ws (rgL nameV))) (by omega) hw) A rfl rfl rfl rfl rfl rfl rfl fun A => N hX 9 A rfl rfl fun A => CALL1 [2, 3, 4] (fault_ ws 0 (endA ws (bif decide ((coF ws (rgL nameV) (ws.length - (⟨0, 0, 0⟩ : As).p + 1) (⟨(⟨0, 0, 0⟩ : As), ([] : List Cn), 0, fun _ => 0, 0⟩ : Cs)).op > 0) then refA ws (coF ws (rgL nameV) (ws.length - (⟨0, 0, 0⟩ : As).p + 1) (⟨(⟨0, 0, 0⟩ : As), ([] : List Cn), 0, fun _ => 0, 0⟩ : Cs)).s 22 else (coF ws (rgL nameV) (ws.length - (⟨0, 0, 0⟩ : As).p + 1) (⟨(⟨0, 0, 0⟩ : As), ([] : List Cn), 0, fun _ => 0, 0⟩ : Cs)).s)) (by first | exact Nat.zero_le _ | exact cp_le ws (rgL nameV) | exact endA_le (cp_le ws (rgL nameV))) (by omega) hw) A rfl rfl rfl rfl rfl rfl rfl fun A => N hX 13 A rfl rfl fun A => forkN 45 A rfl
  (fun h1 A => N hX 11 A rfl rfl fun A => (by unfold cpE cpA; rw [if_pos (show (cpS ws (rgL nameV)).e ≠ 0 from h1), if_pos (show (cpS ws (rgL nameV)).e ≠ 0 from h1)]; exact RETN hX A rfl rfl rfl h0 rfl rfl rfl rfl rfl rfl))
  (fun h1 A => N hX 14 A rfl rfl fun A => forkD 53 A rfl
   (fun h2 A => N hX 10 A rfl rfl fun A => (by unfold cpE cpA; rw [if_neg (show ¬ (cpS ws (rgL nameV)).e ≠ 0 from not_not_intro h1), if_neg (show ¬ (cpS ws (rgL nameV)).e ≠ 0 from not_not_intro h1)]; exact RETN hX A rfl rfl rfl h0 rfl rfl rfl rfl rfl rfl))
   (fun h2 A => N hX 15 A rfl rfl fun A => (by exact absurd ⟨(show (cpS ws (rgL nameV)).e = 0 from h1), (by have : ¬ (((cpN ws (rgL nameV)).length : Nat) : Int) > 32 := h2; omega)⟩ hq)))
theorem cparse2_ok (ws : List Tk) (cw : Nat) (hn : ws.length ≤ 10000) (hw : WsOK ws) (hq : (cpS ws (rgL nameV)).e = 0 ∧ (cpN ws (rgL nameV)).length ≤ 32) : Fn Tryz.prog 19 [.int .i64 2, .sl 0 ws.length cw] [some (.lst 4 ws.length (fun zz => tkc (ws.getD zz tok0)))] (Rt (.tup [.sl 1 ((cpN ws (rgL nameV)).length) 0, .int .i64 0, .int .i64 0]) [some (.lst 4 ws.length (fun zz => tkc (ws.getD zz tok0))), some (.row 88 5 ((cpN ws (rgL nameV)).length) 0 (fun zz => cc ((cpN ws (rgL nameV)).getD zz Cn.z)))]) :=
 enterM (n := 59) (by kernel_rfl) Tryz.func19 rfl rfl rfl fun G w a h0 A => N hX 10 A rfl rfl fun A => CALL1 [] regs2_ A rfl rfl rfl rfl rfl rfl rfl fun A => N hX 7 A rfl rfl fun A => NILR hX A rfl rfl (by omega) fun A => N hX 8 A rfl rfl fun A => CALL1 [0] (askNew_ ws cw (by omega)) A rfl rfl rfl rfl rfl rfl rfl fun A => N hX 7 A rfl rfl fun A => have A := A.freeze 1 rfl; have A := A.freeze 4 rfl; have A := A.nilCell 5 88 5 (fun zz => cc (([] : List Cn).getD zz Cn.z)) [.ptr 2 0, .sl 1 8 8, .sl 6 0 0, .sla none 0 0, .int .i64 0] rfl (fun G' hG vs h => (denL_at (den_nil hG) [.ptr 2 0, .sl 1 8 8] [.sla none 0 0, .int .i64 0]).trans h) (fun z => ⟨_, rfl, rfl⟩); have A := A.nilCell 5 3 1 (fun zz => [.int .i64 ((fun _ => 0) zz)]) [.ptr 2 0, .sl 1 8 8, .sl 6 0 0, .sl 7 0 0, .int .i64 0] rfl (fun G' hG vs h => (denL_at (den_nil hG) [.ptr 2 0, .sl 1 8 8, .sl 6 0 0] [.int .i64 0]).trans h) (fun z => ⟨_, rfl, rfl⟩); N hX 8 A rfl rfl fun A => CALL1 [3, 4] (at_W ws 0 0 (by first | exact Nat.zero_le _ | exact cp_le ws (rgL nameV) | exact endA_le (cp_le ws (rgL nameV))) (by omega) hw) A rfl rfl rfl rfl rfl rfl rfl fun A => N hX 6 A rfl rfl fun A => CALL1 [5, 2, 3, 4, 1, 6, 7] (condition_ ws 0 (rgL nameV) 8 (⟨0, 0, 0⟩ : As) ([] : List Cn) 0 (fun _ => 0) 0 (Nat.zero_le _) (by omega) hw (by decide) (by decide) (by show 8 ≤ 1000; decide) rfl (Nat.le_refl _)) A rfl rfl rfl rfl rfl rfl rfl fun A => N hX 8 A rfl rfl fun A => CALL1 [2, 3, 4] (end_ ws 0 (bif decide ((coF ws (rgL nameV) (ws.length - (⟨0, 0, 0⟩ : As).p + 1) (⟨(⟨0, 0, 0⟩ : As), ([] : List Cn), 0, fun _ => 0, 0⟩ : Cs)).op > 0) then refA ws (coF ws (rgL nameV) (ws.length - (⟨0, 0, 0⟩ : As).p + 1) (⟨(⟨0, 0, 0⟩ : As), ([] : List Cn), 0, fun _ => 0, 0⟩ : Cs)).s 22 else (coF ws (rgL nameV) (ws.length - (⟨0, 0, 0⟩ : As).p + 1) (⟨(⟨0, 0, 0⟩ : As), ([] : List Cn), 0, fun _ => 0, 0⟩ : Cs)).s) (by first | exact Nat.zero_le _ | exact cp_le ws (rgL nameV) | exact endA_le (cp_le ws (rgL nameV))) (by omega) hw) A rfl rfl rfl rfl rfl rfl rfl fun A => N hX 9 A rfl rfl fun A => CALL1 [2, 3, 4] (fault_ ws 0 (endA ws (bif decide ((coF ws (rgL nameV) (ws.length - (⟨0, 0, 0⟩ : As).p + 1) (⟨(⟨0, 0, 0⟩ : As), ([] : List Cn), 0, fun _ => 0, 0⟩ : Cs)).op > 0) then refA ws (coF ws (rgL nameV) (ws.length - (⟨0, 0, 0⟩ : As).p + 1) (⟨(⟨0, 0, 0⟩ : As), ([] : List Cn), 0, fun _ => 0, 0⟩ : Cs)).s 22 else (coF ws (rgL nameV) (ws.length - (⟨0, 0, 0⟩ : As).p + 1) (⟨(⟨0, 0, 0⟩ : As), ([] : List Cn), 0, fun _ => 0, 0⟩ : Cs)).s)) (by first | exact Nat.zero_le _ | exact cp_le ws (rgL nameV) | exact endA_le (cp_le ws (rgL nameV))) (by omega) hw) A rfl rfl rfl rfl rfl rfl rfl fun A => N hX 13 A rfl rfl fun A => forkN 45 A rfl
  (fun h1 A => N hX 11 A rfl rfl fun A => (by exact absurd (show (cpS ws (rgL nameV)).e = 0 from hq.1) h1))
  (fun h1 A => N hX 14 A rfl rfl fun A => forkD 53 A rfl
   (fun h2 A => N hX 10 A rfl rfl fun A => (by exact absurd (show (((cpN ws (rgL nameV)).length : Nat) : Int) > 32 from h2) (by have := hq.2; omega)))
   (fun h2 A => N hX 15 A rfl rfl fun A => (by exact RET hX [8] A ⟨rfl, rfl⟩ rfl rfl rfl rfl rfl rfl rfl rfl h0)))
theorem cparse3_no (ws : List Tk) (cw : Nat) (hn : ws.length ≤ 10000) (hw : WsOK ws) (hq : ¬ ((cpS ws (rgL nameA)).e = 0 ∧ (cpN ws (rgL nameA)).length ≤ 32)) : Fn Tryz.prog 19 [.int .i64 3, .sl 0 ws.length cw] [some (.lst 4 ws.length (fun zz => tkc (ws.getD zz tok0)))] (Rt (.tup [.sla none 0 0, .int .i64 (cpE ws (rgL nameA)), .int .i64 (cpA ws (rgL nameA))]) [some (.lst 4 ws.length (fun zz => tkc (ws.getD zz tok0)))]) :=
 enterM (n := 59) (by kernel_rfl) Tryz.func19 rfl rfl rfl fun G w a h0 A => N hX 10 A rfl rfl fun A => CALL1 [] regs3_ A rfl rfl rfl rfl rfl rfl rfl fun A => N hX 7 A rfl rfl fun A => NILR hX A rfl rfl (by omega) fun A => N hX 8 A rfl rfl fun A => CALL1 [0] (askNew_ ws cw (by omega)) A rfl rfl rfl rfl rfl rfl rfl fun A => N hX 7 A rfl rfl fun A => have A := A.freeze 1 rfl; have A := A.freeze 4 rfl; have A := A.nilCell 5 88 5 (fun zz => cc (([] : List Cn).getD zz Cn.z)) [.ptr 2 0, .sl 1 8 8, .sl 6 0 0, .sla none 0 0, .int .i64 0] rfl (fun G' hG vs h => (denL_at (den_nil hG) [.ptr 2 0, .sl 1 8 8] [.sla none 0 0, .int .i64 0]).trans h) (fun z => ⟨_, rfl, rfl⟩); have A := A.nilCell 5 3 1 (fun zz => [.int .i64 ((fun _ => 0) zz)]) [.ptr 2 0, .sl 1 8 8, .sl 6 0 0, .sl 7 0 0, .int .i64 0] rfl (fun G' hG vs h => (denL_at (den_nil hG) [.ptr 2 0, .sl 1 8 8, .sl 6 0 0] [.int .i64 0]).trans h) (fun z => ⟨_, rfl, rfl⟩); N hX 8 A rfl rfl fun A => CALL1 [3, 4] (at_W ws 0 0 (by first | exact Nat.zero_le _ | exact cp_le ws (rgL nameA) | exact endA_le (cp_le ws (rgL nameA))) (by omega) hw) A rfl rfl rfl rfl rfl rfl rfl fun A => N hX 6 A rfl rfl fun A => CALL1 [5, 2, 3, 4, 1, 6, 7] (condition_ ws 0 (rgL nameA) 8 (⟨0, 0, 0⟩ : As) ([] : List Cn) 0 (fun _ => 0) 0 (Nat.zero_le _) (by omega) hw (by decide) (by decide) (by show 8 ≤ 1000; decide) rfl (Nat.le_refl _)) A rfl rfl rfl rfl rfl rfl rfl fun A => N hX 8 A rfl rfl fun A => CALL1 [2, 3, 4] (end_ ws 0 (bif decide ((coF ws (rgL nameA) (ws.length - (⟨0, 0, 0⟩ : As).p + 1) (⟨(⟨0, 0, 0⟩ : As), ([] : List Cn), 0, fun _ => 0, 0⟩ : Cs)).op > 0) then refA ws (coF ws (rgL nameA) (ws.length - (⟨0, 0, 0⟩ : As).p + 1) (⟨(⟨0, 0, 0⟩ : As), ([] : List Cn), 0, fun _ => 0, 0⟩ : Cs)).s 22 else (coF ws (rgL nameA) (ws.length - (⟨0, 0, 0⟩ : As).p + 1) (⟨(⟨0, 0, 0⟩ : As), ([] : List Cn), 0, fun _ => 0, 0⟩ : Cs)).s) (by first | exact Nat.zero_le _ | exact cp_le ws (rgL nameA) | exact endA_le (cp_le ws (rgL nameA))) (by omega) hw) A rfl rfl rfl rfl rfl rfl rfl fun A => N hX 9 A rfl rfl fun A => CALL1 [2, 3, 4] (fault_ ws 0 (endA ws (bif decide ((coF ws (rgL nameA) (ws.length - (⟨0, 0, 0⟩ : As).p + 1) (⟨(⟨0, 0, 0⟩ : As), ([] : List Cn), 0, fun _ => 0, 0⟩ : Cs)).op > 0) then refA ws (coF ws (rgL nameA) (ws.length - (⟨0, 0, 0⟩ : As).p + 1) (⟨(⟨0, 0, 0⟩ : As), ([] : List Cn), 0, fun _ => 0, 0⟩ : Cs)).s 22 else (coF ws (rgL nameA) (ws.length - (⟨0, 0, 0⟩ : As).p + 1) (⟨(⟨0, 0, 0⟩ : As), ([] : List Cn), 0, fun _ => 0, 0⟩ : Cs)).s)) (by first | exact Nat.zero_le _ | exact cp_le ws (rgL nameA) | exact endA_le (cp_le ws (rgL nameA))) (by omega) hw) A rfl rfl rfl rfl rfl rfl rfl fun A => N hX 13 A rfl rfl fun A => forkN 45 A rfl
  (fun h1 A => N hX 11 A rfl rfl fun A => (by unfold cpE cpA; rw [if_pos (show (cpS ws (rgL nameA)).e ≠ 0 from h1), if_pos (show (cpS ws (rgL nameA)).e ≠ 0 from h1)]; exact RETN hX A rfl rfl rfl h0 rfl rfl rfl rfl rfl rfl))
  (fun h1 A => N hX 14 A rfl rfl fun A => forkD 53 A rfl
   (fun h2 A => N hX 10 A rfl rfl fun A => (by unfold cpE cpA; rw [if_neg (show ¬ (cpS ws (rgL nameA)).e ≠ 0 from not_not_intro h1), if_neg (show ¬ (cpS ws (rgL nameA)).e ≠ 0 from not_not_intro h1)]; exact RETN hX A rfl rfl rfl h0 rfl rfl rfl rfl rfl rfl))
   (fun h2 A => N hX 15 A rfl rfl fun A => (by exact absurd ⟨(show (cpS ws (rgL nameA)).e = 0 from h1), (by have : ¬ (((cpN ws (rgL nameA)).length : Nat) : Int) > 32 := h2; omega)⟩ hq)))
theorem cparse3_ok (ws : List Tk) (cw : Nat) (hn : ws.length ≤ 10000) (hw : WsOK ws) (hq : (cpS ws (rgL nameA)).e = 0 ∧ (cpN ws (rgL nameA)).length ≤ 32) : Fn Tryz.prog 19 [.int .i64 3, .sl 0 ws.length cw] [some (.lst 4 ws.length (fun zz => tkc (ws.getD zz tok0)))] (Rt (.tup [.sl 1 ((cpN ws (rgL nameA)).length) 0, .int .i64 0, .int .i64 0]) [some (.lst 4 ws.length (fun zz => tkc (ws.getD zz tok0))), some (.row 88 5 ((cpN ws (rgL nameA)).length) 0 (fun zz => cc ((cpN ws (rgL nameA)).getD zz Cn.z)))]) :=
 enterM (n := 59) (by kernel_rfl) Tryz.func19 rfl rfl rfl fun G w a h0 A => N hX 10 A rfl rfl fun A => CALL1 [] regs3_ A rfl rfl rfl rfl rfl rfl rfl fun A => N hX 7 A rfl rfl fun A => NILR hX A rfl rfl (by omega) fun A => N hX 8 A rfl rfl fun A => CALL1 [0] (askNew_ ws cw (by omega)) A rfl rfl rfl rfl rfl rfl rfl fun A => N hX 7 A rfl rfl fun A => have A := A.freeze 1 rfl; have A := A.freeze 4 rfl; have A := A.nilCell 5 88 5 (fun zz => cc (([] : List Cn).getD zz Cn.z)) [.ptr 2 0, .sl 1 8 8, .sl 6 0 0, .sla none 0 0, .int .i64 0] rfl (fun G' hG vs h => (denL_at (den_nil hG) [.ptr 2 0, .sl 1 8 8] [.sla none 0 0, .int .i64 0]).trans h) (fun z => ⟨_, rfl, rfl⟩); have A := A.nilCell 5 3 1 (fun zz => [.int .i64 ((fun _ => 0) zz)]) [.ptr 2 0, .sl 1 8 8, .sl 6 0 0, .sl 7 0 0, .int .i64 0] rfl (fun G' hG vs h => (denL_at (den_nil hG) [.ptr 2 0, .sl 1 8 8, .sl 6 0 0] [.int .i64 0]).trans h) (fun z => ⟨_, rfl, rfl⟩); N hX 8 A rfl rfl fun A => CALL1 [3, 4] (at_W ws 0 0 (by first | exact Nat.zero_le _ | exact cp_le ws (rgL nameA) | exact endA_le (cp_le ws (rgL nameA))) (by omega) hw) A rfl rfl rfl rfl rfl rfl rfl fun A => N hX 6 A rfl rfl fun A => CALL1 [5, 2, 3, 4, 1, 6, 7] (condition_ ws 0 (rgL nameA) 8 (⟨0, 0, 0⟩ : As) ([] : List Cn) 0 (fun _ => 0) 0 (Nat.zero_le _) (by omega) hw (by decide) (by decide) (by show 8 ≤ 1000; decide) rfl (Nat.le_refl _)) A rfl rfl rfl rfl rfl rfl rfl fun A => N hX 8 A rfl rfl fun A => CALL1 [2, 3, 4] (end_ ws 0 (bif decide ((coF ws (rgL nameA) (ws.length - (⟨0, 0, 0⟩ : As).p + 1) (⟨(⟨0, 0, 0⟩ : As), ([] : List Cn), 0, fun _ => 0, 0⟩ : Cs)).op > 0) then refA ws (coF ws (rgL nameA) (ws.length - (⟨0, 0, 0⟩ : As).p + 1) (⟨(⟨0, 0, 0⟩ : As), ([] : List Cn), 0, fun _ => 0, 0⟩ : Cs)).s 22 else (coF ws (rgL nameA) (ws.length - (⟨0, 0, 0⟩ : As).p + 1) (⟨(⟨0, 0, 0⟩ : As), ([] : List Cn), 0, fun _ => 0, 0⟩ : Cs)).s) (by first | exact Nat.zero_le _ | exact cp_le ws (rgL nameA) | exact endA_le (cp_le ws (rgL nameA))) (by omega) hw) A rfl rfl rfl rfl rfl rfl rfl fun A => N hX 9 A rfl rfl fun A => CALL1 [2, 3, 4] (fault_ ws 0 (endA ws (bif decide ((coF ws (rgL nameA) (ws.length - (⟨0, 0, 0⟩ : As).p + 1) (⟨(⟨0, 0, 0⟩ : As), ([] : List Cn), 0, fun _ => 0, 0⟩ : Cs)).op > 0) then refA ws (coF ws (rgL nameA) (ws.length - (⟨0, 0, 0⟩ : As).p + 1) (⟨(⟨0, 0, 0⟩ : As), ([] : List Cn), 0, fun _ => 0, 0⟩ : Cs)).s 22 else (coF ws (rgL nameA) (ws.length - (⟨0, 0, 0⟩ : As).p + 1) (⟨(⟨0, 0, 0⟩ : As), ([] : List Cn), 0, fun _ => 0, 0⟩ : Cs)).s)) (by first | exact Nat.zero_le _ | exact cp_le ws (rgL nameA) | exact endA_le (cp_le ws (rgL nameA))) (by omega) hw) A rfl rfl rfl rfl rfl rfl rfl fun A => N hX 13 A rfl rfl fun A => forkN 45 A rfl
  (fun h1 A => N hX 11 A rfl rfl fun A => (by exact absurd (show (cpS ws (rgL nameA)).e = 0 from hq.1) h1))
  (fun h1 A => N hX 14 A rfl rfl fun A => forkD 53 A rfl
   (fun h2 A => N hX 10 A rfl rfl fun A => (by exact absurd (show (((cpN ws (rgL nameA)).length : Nat) : Int) > 32 from h2) (by have := hq.2; omega)))
   (fun h2 A => N hX 15 A rfl rfl fun A => (by exact RET hX [8] A ⟨rfl, rfl⟩ rfl rfl rfl rfl rfl rfl rfl rfl h0)))
end Go.Proofs.YtedlaclfhgneeabGreatDoor
