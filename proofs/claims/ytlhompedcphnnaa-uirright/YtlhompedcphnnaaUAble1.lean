/- What able needs besides: a slice of two instructions, an array of zeros, no codes. -/
import Derived.Test.YtlhompedcphnnaaUAble0
namespace Go.Proofs.Ytlhompedcphnnaa
open Go.RowKit

def two (i j : Ins) : Array Value := ((insC i).toList ++ (insC j).toList).toArray
theorem two_range {w : World} {g : Nat} {t : TypeId} {i j : Ins} (h : Blk w g (two i j) t) : w.rangeAt g 0 (insC i).toList ∧ w.rangeAt g 17 (insC j).toList := by
  constructor
  · intro k v hv
    have hk := get_lt hv
    refine h.cell ?_
    simp only [two, List.getElem?_toArray, Nat.zero_add]
    rw [List.getElem?_append_left hk]; exact hv
  · intro k v hv
    refine h.cell ?_
    have hl : (insC i).toList.length = 17 := rfl
    simp only [two, List.getElem?_toArray]
    rw [List.getElem?_append_right (by rw [hl]; omega), hl, show 17 + k - 17 = k by omega]; exact hv
theorem sl_two {w : World} {g : Nat} {t : TypeId} {i j : Ins} (h : Blk w g (two i j) t) : Sl insE 17 w.heap.size w (.slice (some ⟨g, 0, none⟩) 2 2) [i, j] := by
  refine ⟨some ⟨g, 0, none⟩, 2, rfl, Nat.le_refl _, fun k x hx => ⟨g, 0, rfl, h.lt, ?_⟩⟩
  have hk := get_lt hx
  match k, hk with
  | 0, _ => simp at hx; subst hx; exact (two_range h).1
  | 1, _ => simp at hx; subst hx; exact (two_range h).2
theorem cs_nil (B' : Nat) (w : World) : Cs B' w (.slice none 0 0) [] := ⟨[], Sl.nil, rfl, fun j u c hu => by simp at hu⟩
section
variable {P : Program} {ops : Array Oper} {a : Act} {w : World} {K : Value → World → Prop} {d : Option Tmp} {ty : TypeId} {pos : String} {af : Array Edge} {gd : Option (Nat × Bool)}
def sFill (P : Program) (e s m : Nat) (vs : List (Nat × Value)) : Option (Array Value) := match P.info? e with
  | some i => match i.zero with
    | some z => Instr.fill (fun j => some (j * s, s)) ((Array.range (m * s)).map (z.cells[· % z.cells.size]!)) vs
    | none => none
  | none => none
theorem d_sliceK {t e s by_ m : Nat} {parts : Array (Nat × Operand)} {vs : List (Nat × Value)} {cs : Array Value} (hw : Region.wanted { dst := d, op := .buildSlice t m parts, type := ty, pos := pos, after := af, guard := gd } (yielded ops a.tmps) = true) (hx : (parts.map fun x => (x.1, a.eval x.2)).toList = vs) (ht : elemB P t e s by_ = true) (hm : 0 < m) (hsm : m * s ≤ 10000)
    (hf : sFill P e s m vs = some cs) (h : ∀ g w', g = w.heap.size → Grow w w' → Blk w' g cs e → K (.slice (some ⟨g, 0, none⟩) m m) w') : Does P ops { dst := d, op := .buildSlice t m parts, type := ty, pos := pos, after := af, guard := gd } a w K := by
  obtain ⟨i, z, hu, hi, hz, hsz, _, hzs, h0⟩ := elem_facts ht
  refine does_val (w' := w.alloc (.cells cs e)) hw ?_ (h _ _ rfl ((Grow.refl _).alloc _) (heap_alloc_last w _))
  have hf' : Instr.fill (fun j => some (j * i.size, i.size)) ((Array.range (m * i.size)).map (z.cells[· % z.cells.size]!)) (parts.map fun x => (x.1, a.eval x.2)).toList = some cs := by
    rw [hx, hsz]; unfold sFill at hf; rw [hi] at hf; simp only [hz] at hf; exact hf
  have hpos : 0 < m * s := Nat.mul_pos hm h0
  have := run_buildSlice (P := P) w t e m (parts.map fun x => (x.1, a.eval x.2)) cs i z hu hi hz (by rw [hsz]; omega) (by rw [hsz]; omega) hf'
  unfold execOp
  simp only [Sem.run_bind, this, Result.andThen_ok, Sem.run_pure]
/-- an array literal without parts -/
theorem d_buildZ {t n e s m : Nat} {z : Value} (hw : Region.wanted { dst := d, op := .build t #[], type := ty, pos := pos, after := af, guard := gd } (yielded ops a.tmps) = true) (ht : arrB P t n e s = true) (hi : (P.info? t).map (fun i => (i.zero, i.size)) = some (some z, m)) (h : K (.agg z.cells) w) :
    Does P ops { dst := d, op := .build t #[], type := ty, pos := pos, after := af, guard := gd } a w K :=
  does_val hw (by
    have hz := (zero_of_info hi).1 w
    unfold execOp
    simp only [Sem.run_bind, Instr.build, hz, Result.andThen_ok, run_underlying (arr_facts ht).1, run_size (arr_facts ht).2, List.map_toArray, List.map_nil, Instr.fill, Sem.run_pure]) h
end
theorem ix_own {v : Value} {n j s b o : Nat} (h : IxAt v n j s b o) : IxAt v n j s b o := h
end Go.Proofs.Ytlhompedcphnnaa
