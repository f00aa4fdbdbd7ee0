/- What Local needs besides: codes of one, a row's cells as a whole, four results. -/
import Derived.Test.YtlhompedcphnnaaUPure
namespace Go.Proofs.Ytlhompedcphnnaa
open Go.RowKit

theorem Blk.below {B' g : Nat} {w w' : World} {cs : Array Value} {t : TypeId} (h : Blk w g cs t) (hb : Below B' w w') (hg : g < B') : Blk w' g cs t := by
  unfold Blk; rw [hb.block g hg]; exact h
theorem walk_regs {w : World} {g : Nat} {t : TypeId} {p : Int} {r : Nat → Int} {rd ev pa : Value} (h : Blk w g (walkC p r rd ev pa) t) : w.rangeAt g 1 (regsC r).toList := fun j v hv => by
  have hj : j < 8 := by
    have := (List.getElem?_eq_some_iff.1 hv).1
    simpa [regsC] using this
  have hc := h.cell (walk_get (p := p) (r := r) (rd := rd) (ev := ev) (pa := pa) hj)
  rw [hc]
  have : (regsC r).toList[j]? = some (.int .i64 (r j)) := by
    match j, hj with
    | 0, _ | 1, _ | 2, _ | 3, _ | 4, _ | 5, _ | 6, _ | 7, _ => rfl
  rw [this] at hv; exact hv
theorem cs_one {B' g : Nat} {w : World} {v : Value} {t : TypeId} {code : List Ins} (hb : Blk w g #[v] t) (hs : Sl insE 17 B' w v code) (hB : B' ≤ w.heap.size) : Cs w.heap.size w (.slice (some ⟨g, 0, none⟩) 1 1) [code] := by
  refine ⟨[v], ⟨some ⟨g, 0, none⟩, 1, rfl, Nat.le_refl _, fun j x hx => ?_⟩, rfl, fun j u c hu hc => ?_⟩
  · have hj : j = 0 := by have := get_lt hx; simpa using this
    subst hj
    simp at hx; subst hx
    exact ⟨g, 0, rfl, hb.lt, fun k u hu => by
      have hk : k = 0 := by have := get_lt hu; simpa [cellE] using this
      subst hk
      simp [cellE] at hu; subst hu
      exact hb.cell rfl⟩
  · have hj : j = 0 := by have := get_lt hu; simpa using this
    subst hj
    simp at hu hc; subst hu; subst hc
    exact hs.mono hB
theorem check_one {code : List Ins} (h : (checkR [code]).2.2 = 0) : code.length ≤ 8 ∧ ∀ (k : Nat) i, code[k]? = some i → rightR i (k : Int) (code.length : Int) = 0 := by
  have key : ∀ (l : List Ins) (k : Nat), bad1 code.length l k = none → ∀ (j : Nat) i, l[j]? = some i → rightR i ((k + j : Nat) : Int) (code.length : Int) = 0 := by
    intro l
    induction l with
    | nil => intro k _ j i hj; simp at hj
    | cons x l ih =>
      intro k hk j i hj
      unfold bad1 at hk
      split at hk
      · rename_i hx
        cases j with
        | zero => simp at hj; subst hj; simpa using hx
        | succ j =>
          have := ih (k + 1) hk j i (by simpa using hj)
          rw [show k + (j + 1) = k + 1 + j by omega]; exact this
      · cases hk
  unfold checkR at h
  simp only [List.length_cons, List.length_nil] at h
  rw [if_neg (by simp)] at h
  cases hl : longR [code] 0 with
  | some t => simp [hl] at h
  | none =>
    have hlen : code.length ≤ 8 := by
      unfold longR at hl
      split at hl
      · cases hl
      · rename_i h1; simp at h1; omega
    refine ⟨hlen, ?_⟩
    cases hb : bad1 code.length code 0 with
    | none => intro k i hi; have := key code 0 hb k i hi; simpa using this
    | some q =>
      obtain ⟨k, e⟩ := q
      have hb2 : bad2 [code] 0 = some (0, k, e) := by rw [bad2, hb]
      rw [hl, hb2] at h
      simp only at h
      exfalso
      subst h
      have key2 : ∀ (l : List Ins) (k k' : Nat) (e : Int), bad1 code.length l k = some (k', e) → e ≠ 0 := by
        intro l
        induction l with
        | nil => intro k k' e h; simp [bad1] at h
        | cons x l ih =>
          intro k k' e h
          unfold bad1 at h
          split at h
          · exact ih _ _ _ h
          · rename_i hx; cases h; simpa using hx
      exact key2 code 0 k 0 hb rfl
section
variable {P : Program} {a : Act} {w : World} {n : Nat} {T : List (Nat × Value)}
theorem retC3 {fn : Func} {R : Ending → World → Prop} {p q1 q2 q3 : Tmp} {t t' : TypeId} {g : Nat} {cs : Array Value} {x y z : Value} (hr : fn.results = #[.cell p t, .tmp q1, .tmp q2, .tmp q3]) (hA : St n T a) (hv : ev T (.tmp p) = some (.pointer (some ⟨g, 0, none⟩))) (hx : ev T (.tmp q1) = some x) (hy : ev T (.tmp q2) = some y) (hz : ev T (.tmp q3) = some z) (hb : Blk w g cs t') (h1 : rowB P t cs.size = true)
    (h : R (.returned (.tuple #[.agg cs, x, y, z])) w) : bodyPost P fn R .ret a w := by
  obtain ⟨⟨dd, h2, _, h3⟩, h4⟩ := row_facts h1
  have e1 := hA.ev hv
  have e2 := hA.ev hx
  have e3 := hA.ev hy
  have e4 := hA.ev hz
  simp only [Act.eval] at e1 e2 e3 e4
  refine ⟨hA.defers, _, ?_, h⟩
  have f1 : a.tmps[p]?.getD undef = .pointer (some ⟨g, 0, none⟩) := by simpa using e1
  have f2 : a.tmps[q1]?.getD undef = x := by simpa using e2
  have f3 : a.tmps[q2]?.getD undef = y := by simpa using e3
  have f4 : a.tmps[q3]?.getD undef = z := by simpa using e4
  simp [results, hr, f1, f2, f3, f4, asAddr, run_loadVar_row w g t' t cs (0, 0) dd hb h2 (by cases dd <;> simp_all) h4]
end
/-- a block that holds what it will hold -/
def cmr (M : Nat → Option (Array Value)) (g : Nat) (t : TypeId) (fin : Array Value) (h : M g = some fin) : Cl (SM M) :=
  ⟨fun _ w => Blk w g fin t, fun _ w w' hS hb => by
    obtain ⟨cs', h1, h2, h3⟩ := hS.turns g fin fin t h hb
    have : cs' = fin := by
      apply Array.ext_getElem?
      intro j
      rcases h3 j with e | e <;> exact e
    subst this; exact h1⟩
theorem SM.storeRow {M : Nat → Option (Array Value)} {w w' : World} {g : Nat} {fin cs : Array Value} {t : TypeId} (hM : M g = some fin) (hu : Upd g w w') (hb : Blk w g cs t) (hb' : Blk w' g fin t) (hs : fin.size = cs.size) : SM M w w' :=
  ⟨hu.os, hu.tape, hu.output, Nat.le_of_eq hu.size.symm, fun i _ hm => hu.block i (fun e => by subst e; rw [hM] at hm; cases hm), fun i fin' cs' t' hm hbi => by
    by_cases hi : i = g
    · subst hi
      rw [hM] at hm; cases hm
      unfold Blk at hb hbi
      rw [hb] at hbi
      injection hbi with hbi; injection hbi with h1 h2
      subst h1; subst h2
      exact ⟨_, hb', hs, fun j => .inr rfl⟩
    · exact ⟨cs', hbi.upd hu hi, rfl, fun _ => .inl rfl⟩⟩
section
variable {P : Program} {ops : Array Oper} {a : Act} {w w0 : World} {K : Value → World → Prop} {d : Option Tmp} {ty : TypeId} {pos : String} {af : Array Edge} {gd : Option (Nat × Bool)} {M : Nat → Option (Array Value)}
theorem d_storeRowM {t t' : TypeId} {x y : Operand} {g : Nat} {fin cs : Array Value} (hw : Region.wanted { dst := d, op := .store t x y, type := ty, pos := pos, after := af, guard := gd } (yielded ops a.tmps) = true) (hx : a.eval x = .pointer (some ⟨g, 0, none⟩)) (hy : a.eval y = .agg fin)
    (h1 : rowB P t fin.size = true) (hS : SM M w0 w) (hM : M g = some fin) (hb : Blk w0 g cs t') (hs : cs.size = fin.size) (ho : fin.toList.all (·.oneCell') = true) (hK : ∀ w', SM M w w' ∧ Blk w' g fin t' → K undef w') :
    Does P ops { dst := d, op := .store t x y, type := ty, pos := pos, after := af, guard := gd } a w K := by
  obtain ⟨cs', hb', hs', _⟩ := hS.turns g fin cs t' hM hb
  exact d_storeRow hw hx hy h1 hb' (by omega) ho fun w' hu hb2 => hK w' ⟨SM.storeRow hM hu hb' hb2 (by omega), hb2⟩
end
end Go.Proofs.Ytlhompedcphnnaa
