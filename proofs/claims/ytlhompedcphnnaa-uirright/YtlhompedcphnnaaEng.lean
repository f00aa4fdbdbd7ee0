/- An engine for walks: what is known of a frame is a short list of slots; each operation is a step; a region that draws its order is told by claims. -/
import Derived.WalkKit
import Derived.Deep.WholeRow
import Derived.Deep.MidRow
import Derived.Great.BuildSlice
import Derived.ChangeKeysEq
import Derived.Deep.Draws
namespace Go.Proofs.Ytlhompedcphnnaa
open Go.RowKit

abbrev Grow (w w' : World) : Prop := Below w.heap.size w w'
theorem Grow.refl (w : World) : Grow w w := Below.refl _ _
theorem Grow.trans {a b c : World} (h : Grow a b) (k : Grow b c) : Grow a c := Below.trans h (Below.mono k h.size)
theorem Grow.alloc {a b : World} (h : Grow a b) (o : Obj) : Grow a (b.alloc o) := Below.alloc h h.size o
theorem Grow.drew {a b : World} (h : Grow a b) : Grow a b.drew := Below.drew h
theorem Grow.drewN {a b : World} (h : Grow a b) (q : Nat) : Grow a (b.drewN q) := ⟨h.os, h.tape, h.output, h.size, h.block⟩

/-! ### The frame -/
structure St (n : Nat) (T : List (Nat × Value)) (a : Act) : Prop where
  size : a.tmps.size = n
  defers : a.defers = []
  get : ∀ t v, T.lookup t = some v → a.tmps.getD t undef = v
def ev (T : List (Nat × Value)) : Operand → Option Value
  | .tmp t => T.lookup t
  | .const v => some v
  | .global g => some (.pointer (some ⟨g, 0, none⟩))
  | .func f => some (.func (.func f) #[] #[])
theorem St.ev {n : Nat} {T : List (Nat × Value)} {a : Act} (h : St n T a) {x : Operand} {v : Value} (hx : ev T x = some v) : a.eval x = v := by
  cases x with
  | tmp t => exact h.get t v hx
  | const u => exact Option.some.inj hx
  | global g => exact Option.some.inj hx
  | func f => exact Option.some.inj hx
theorem St.put {n : Nat} {T : List (Nat × Value)} {a : Act} (h : St n T a) {d : Nat} (hd : d < n) (v : Value) : St n ((d, v) :: T) (a.put (some d) v) := by
  refine ⟨by simp [Act.put, h.size], by simp [Act.put, h.defers], fun t u hu => ?_⟩
  rw [List.lookup_cons] at hu
  have hs : d < a.tmps.size := by rw [h.size]; exact hd
  by_cases ht : t = d
  · subst ht
    simp at hu
    simp [Act.put, hs, hu]
  · have : (t == d) = false := by simpa using ht
    simp only [this] at hu
    have hg := h.get t u hu
    simp only [Act.put, Array.getD_eq_getD_getElem?]
    rw [Array.getElem?_setIfInBounds_ne (Ne.symm ht), ← Array.getD_eq_getD_getElem?]
    exact hg
/-- of what is known a part is kept -/
theorem St.cut {n : Nat} {T : List (Nat × Value)} {a : Act} (h : St n T a) (T' : List (Nat × Value)) (hT : ∀ x ∈ T', a.tmps.getD x.1 undef = x.2) : St n T' a :=
  ⟨h.size, h.defers, fun t v hv => by
    have : (t, v) ∈ T' := by
      clear hT
      induction T' with
      | nil => simp at hv
      | cons x l ih =>
        rw [List.lookup_cons] at hv
        by_cases hx : t = x.1
        · subst hx; simp at hv; subst hv; simp
        · have : (t == x.1) = false := by simpa using hx
          simp only [this] at hv
          exact List.mem_cons_of_mem _ (ih hv)
    exact hT (t, v) this⟩
def ext (T : List (Nat × Value)) : Option Nat → Value → List (Nat × Value)
  | some d, v => (d, v) :: T
  | none, _ => T
def fitsD (n : Nat) : Option Nat → Bool
  | some d => decide (d < n)
  | none => true
theorem St.ext {n : Nat} {T : List (Nat × Value)} {a : Act} (h : St n T a) {o : Option Nat} (hd : fitsD n o = true) (v : Value) : St n (ext T o v) (a.put o v) := by
  cases o with
  | none => exact h
  | some d => exact h.put (by simpa [fitsD] using hd) v

/-! ### One operation -/
def dstOf (ops : Array Oper) (j : Nat) : Option Tmp := (ops[j]?).bind (·.dst)
def Does (P : Program) (ops : Array Oper) (o : Oper) (a : Act) (w : World) (K : Value → World → Prop) : Prop :=
  (Region.wanted o (yielded ops a.tmps) = true ∧ ∀ Q, o.wp P a w (fun a' w' => ∃ v, a' = a.put o.dst v ∧ K v w') Q) ∨ (Region.wanted o (yielded ops a.tmps) = false ∧ K undef w)
section
variable {P : Program} {ops : Array Oper} {o : Oper} {a : Act} {w w' : World} {K : Value → World → Prop} {Q : Exit → Act → World → Prop} {rest : List Oper} {n : Nat} {T : List (Nat × Value)}
theorem wn {f : Nat → Option Bool} (h : o.guard = none) : Region.wanted o f = true := by unfold Region.wanted; rw [h]
theorem wy {j t : Nat} {b : Bool} (h : o.guard = some (j, b)) (hj : dstOf ops j = some t) (hv : a.tmps.getD t undef = .bool b) : Region.wanted o (yielded ops a.tmps) = true := by
  unfold Region.wanted yielded
  rw [h]
  have hj' : (ops[j]?).bind (·.dst) = some t := hj
  simp only [hj', Option.bind_some]
  cases hq : a.tmps[t]? with
  | none => simp [Array.getD_eq_getD_getElem?, hq, undef] at hv
  | some v => simp [Array.getD_eq_getD_getElem?, hq] at hv; subst hv; simp
theorem wno {j t : Nat} {b : Bool} (h : o.guard = some (j, b)) (hj : dstOf ops j = some t) (hv : a.tmps.getD t undef = .bool !b ∨ a.tmps.getD t undef = undef) : Region.wanted o (yielded ops a.tmps) = false := by
  unfold Region.wanted yielded
  rw [h]
  have hj' : (ops[j]?).bind (·.dst) = some t := hj
  simp only [hj', Option.bind_some]
  cases hq : a.tmps[t]? with
  | none => simp
  | some v =>
    simp [Array.getD_eq_getD_getElem?, hq] at hv
    rcases hv with hv | hv
    · subst hv; cases b <;> simp
    · subst hv; simp [undef]
theorem does_val {v : Value} (hw : Region.wanted o (yielded ops a.tmps) = true) (hr : (execOp a.eval o).run P w = .ok (.value v) w') (h : K v w') : Does P ops o a w K :=
  .inl ⟨hw, fun Q => by unfold Oper.wp; rw [hr, Oper.upon_value]; exact ⟨v, rfl, h⟩⟩
theorem does_unit (hw : Region.wanted o (yielded ops a.tmps) = true) (hr : (execOp a.eval o).run P w = .ok .skip w') (h : K undef w') : Does P ops o a w K :=
  .inl ⟨hw, fun Q => by unfold Oper.wp; rw [hr, Oper.upon_skip]; exact ⟨undef, rfl, h⟩⟩
theorem does_not (hw : Region.wanted o (yielded ops a.tmps) = false) (h : K undef w) : Does P ops o a w K := .inr ⟨hw, h⟩
theorem does_enter {f : FuncId} {args : Array Value} {R : Ending → World → Prop} (hw : Region.wanted o (yielded ops a.tmps) = true) (hr : (execOp a.eval o).run P w = .ok (.enter f args) w) (hc : Calls P f args w R)
    (h : ∀ e w', R e w' → ∃ v, e = .returned v ∧ K v w') : Does P ops o a w K :=
  .inl ⟨hw, fun Q => by
    unfold Oper.wp; rw [hr, Oper.upon_enter]
    refine Calls.mono hc fun e w' he => ?_
    obtain ⟨v, rfl, hk⟩ := h e w' he
    exact ⟨v, rfl, hk⟩⟩
/-- the next operation of a region in its order -/
theorem q_step (hA : St n T a) (hd : fitsD n o.dst = true) (h : Does P ops o a w fun v w' => ∀ a', St n (ext T o.dst v) a' → wpList P ops Q rest a' w') : wpList P ops Q (o :: rest) a w := by
  refine wpList_step fun K hK => ?_
  rcases h with ⟨hw, h⟩ | ⟨hw, h⟩
  · rw [if_pos hw]
    refine Oper.wp_mono (fun a' w' h => ?_) (h Q)
    obtain ⟨v, rfl, hk⟩ := h
    exact hK _ _ (hk _ (hA.ext hd v))
  · rw [if_neg (by rw [hw]; simp)]
    exact hK _ _ (h _ (hA.ext hd undef))
theorem q_end (h : Q .normal a w) : wpList P ops Q [] a w := h
end

/-! ### Memory -/
def Blk (w : World) (g : Nat) (cs : Array Value) (t : TypeId) : Prop := w.heap[g]? = some (.cells cs t (0, 0))
theorem Blk.lt {w : World} {g : Nat} {cs : Array Value} {t : TypeId} (h : Blk w g cs t) : g < w.heap.size := (Array.getElem?_eq_some_iff.1 h).1
theorem Blk.grow {w w' : World} {g : Nat} {cs : Array Value} {t : TypeId} (h : Blk w g cs t) (hg : Grow w w') : Blk w' g cs t := by
  unfold Blk; rw [hg.block g h.lt]; exact h
theorem Blk.cell {w : World} {g k : Nat} {cs : Array Value} {t : TypeId} {v : Value} (h : Blk w g cs t) (hv : cs[k]? = some v) : w.cell? ⟨g, k, none⟩ = some v := by
  rw [cell_of_row w g k cs t _ h]; exact hv
theorem Blk.frozen {w : World} {g : Nat} {cs : Array Value} {t : TypeId} (h : Blk w g cs t) (k : Nat) : w.frozen? ⟨g, k, none⟩ = false := by
  unfold Blk at h; simp [World.frozen?, h]
/-- one block alone has turned -/
structure Upd (g : Nat) (w w' : World) : Prop where
  os : w'.os = w.os
  tape : w'.tape = w.tape
  output : w'.output = w.output
  size : w'.heap.size = w.heap.size
  block : ∀ k, k ≠ g → w'.heap[k]? = w.heap[k]?
theorem Blk.upd {w w' : World} {g g' : Nat} {cs : Array Value} {t : TypeId} (h : Blk w g cs t) (hu : Upd g' w w') (hne : g ≠ g') : Blk w' g cs t := by
  unfold Blk; rw [hu.block g hne]; exact h
theorem Upd.below {B g : Nat} {a w w' : World} (hu : Upd g w w') (h : Below B a w) (hg : B ≤ g) : Below B a w' :=
  h.trans ⟨hu.os, hu.tape, hu.output, Nat.le_of_eq hu.size.symm, fun k hk => hu.block k (by omega)⟩
theorem below_grow {B : Nat} {a w w' : World} (h : Below B a w) (hg : Grow w w') (hB : B ≤ w.heap.size) : Below B a w' := h.trans (hg.mono hB)
theorem below_size {B : Nat} {a w : World} (h : Below B a w) (hB : B ≤ a.heap.size) : B ≤ w.heap.size := Nat.le_trans hB h.size
theorem upd_setCell (w : World) (g k : Nat) (v : Value) : Upd g w (w.setCell ⟨g, k, none⟩ v) :=
  ⟨rfl, rfl, rfl, by simp [World.setCell], fun j hj => Below.heap_setCell _ _ _ _ hj⟩
theorem upd_setRow (w : World) (g : Nat) (cs : Array Value) : Upd g w (w.setRow g cs) :=
  ⟨rfl, rfl, rfl, by simp, fun j hj => setRow_other _ _ _ _ hj⟩
theorem Blk.set {w : World} {g k : Nat} {cs : Array Value} {t : TypeId} (h : Blk w g cs t) (v : Value) : Blk (w.setCell ⟨g, k, none⟩ v) g (cs.setIfInBounds k v) t := by
  rw [setCell_eq_setRow w g k _ _ _ _ h]
  exact setRow_heap w g _ _ _ _ h

/-! ### What operations do -/
section
variable {P : Program} {ops : Array Oper} {a : Act} {w w' : World} {K : Value → World → Prop} {d : Option Tmp} {ty : TypeId} {pos : String} {af : Array Edge} {gd : Option (Nat × Bool)} {v u : Value}
theorem d_move {x : Operand} (hw : Region.wanted { dst := d, op := .move x, type := ty, pos := pos, after := af, guard := gd } (yielded ops a.tmps) = true) (hx : a.eval x = v) (h : K v w) :
    Does P ops { dst := d, op := .move x, type := ty, pos := pos, after := af, guard := gd } a w K := does_val hw (by subst hx; rfl) h
theorem d_assign {x : Operand} (hw : Region.wanted { dst := d, op := .assign x, type := ty, pos := pos, after := af, guard := gd } (yielded ops a.tmps) = true) (hx : a.eval x = v) (h : K v w) :
    Does P ops { dst := d, op := .assign x, type := ty, pos := pos, after := af, guard := gd } a w K := does_val hw (by subst hx; rfl) h
theorem d_pick {c x y : Operand} {b : Bool} (hw : Region.wanted { dst := d, op := .pick c x y, type := ty, pos := pos, after := af, guard := gd } (yielded ops a.tmps) = true) (hc : a.eval c = .bool b) (hx : (if b then a.eval x else a.eval y) = v) (h : K v w) :
    Does P ops { dst := d, op := .pick c x y, type := ty, pos := pos, after := af, guard := gd } a w K :=
  does_val hw (by subst hx; unfold execOp; simp [hc, asBool]) h
theorem d_box {t : TypeId} {x : Operand} (hw : Region.wanted { dst := d, op := .box t x, type := ty, pos := pos, after := af, guard := gd } (yielded ops a.tmps) = true) (hx : a.eval x = v)
    (h : ∀ g w', g = w.heap.size → Grow w w' → Blk w' g v.cells t → K (.pointer (some ⟨g, 0, none⟩)) w') :
    Does P ops { dst := d, op := .box t x, type := ty, pos := pos, after := af, guard := gd } a w K :=
  does_val (w' := w.alloc (.cells v.cells t)) hw (by subst hx; rfl) (h _ _ rfl ((Grow.refl _).alloc _) (heap_alloc_last w _))
theorem d_alloc {t : TypeId} {z : Value} {m : Nat} (hw : Region.wanted { dst := d, op := .alloc t, type := ty, pos := pos, after := af, guard := gd } (yielded ops a.tmps) = true)
    (hi : (P.info? t).map (fun i => (i.zero, i.size)) = some (some z, m)) (h : ∀ g w', g = w.heap.size → Grow w w' → Blk w' g z.cells t → K (.pointer (some ⟨g, 0, none⟩)) w') :
    Does P ops { dst := d, op := .alloc t, type := ty, pos := pos, after := af, guard := gd } a w K :=
  does_val (w' := w.alloc (.cells z.cells t)) hw (by
    have hz := (zero_of_info hi).1 w
    unfold execOp
    simp only [Instr.alloc, newVar, newRow, Sem.run_bind, hz, Result.andThen_ok]
    rfl) (h _ _ rfl ((Grow.refl _).alloc _) (heap_alloc_last w _))
theorem run_fieldAt {s : TypeId} {fs : Array Field} {f : Nat} {fd : Field} (w : World) (g k off : Nat) (hu : P.underlying s = some (.struct fs)) (hf : fs[f]? = some fd) (hs : (P.info? fd.type).map (·.size != 0) = some true) (ho : fd.offset = off) :
    (Instr.fieldAt s (.pointer (some ⟨g, k, none⟩)) f).run P w = .ok (.pointer (some ⟨g, k + off, none⟩)) w := by
  cases hq : P.info? fd.type with
  | none => simp [hq] at hs
  | some i =>
    have hz : i.size ≠ 0 := by simpa [hq] using hs
    simp [Instr.fieldAt, run_underlying hu, hf, Instr.sureAddr, fieldPlace, sizeOf, typeInfo, hq, hz, Addr.add_mid, ho]
/-- where a field lies, off one closed fact -/
def fieldOff (P : Program) (s f : Nat) : Option Nat :=
  match P.underlying s with
  | some (.struct fs) => match fs[f]? with
    | some fd => if (P.info? fd.type).map (·.size != 0) = some true then some fd.offset else none
    | none => none
  | _ => none
theorem run_fieldAt' {s f off : Nat} (w : World) (g k : Nat) (h : fieldOff P s f = some off) : (Instr.fieldAt s (.pointer (some ⟨g, k, none⟩)) f).run P w = .ok (.pointer (some ⟨g, k + off, none⟩)) w := by
  unfold fieldOff at h
  split at h
  · rename_i fs hu
    split at h
    · rename_i fd hf
      split at h
      · rename_i hs
        exact run_fieldAt w g k off hu hf hs (by simpa using h)
      · cases h
    · cases h
  · cases h
theorem d_fieldAddr {s : TypeId} {x : Operand} {f g k off : Nat} (hw : Region.wanted { dst := d, op := .fieldAddr s x f, type := ty, pos := pos, after := af, guard := gd } (yielded ops a.tmps) = true) (hx : a.eval x = .pointer (some ⟨g, k, none⟩))
    (hf : fieldOff P s f = some off) (h : K (.pointer (some ⟨g, k + off, none⟩)) w) :
    Does P ops { dst := d, op := .fieldAddr s x f, type := ty, pos := pos, after := af, guard := gd } a w K :=
  does_val hw (by unfold execOp; simp only [hx, Sem.run_bind, run_fieldAt' w g k hf, Result.andThen_ok, Sem.run_pure]) h
/-- a type of one cell that is no struct, no array -/
def oneB (P : Program) (t : TypeId) : Bool :=
  (match P.underlying t with | some (.struct _) => false | some (.array _ _) => false | some _ => true | none => false) && ((P.info? t).map (·.size) == some 1)
theorem agg_no {t : TypeId} (h : oneB P t = true) (w : World) : (isAgg t).run P w = .ok false w := by
  unfold oneB at h
  rw [Bool.and_eq_true] at h
  cases hq : P.underlying t with
  | none => simp [hq] at h
  | some d =>
    unfold isAgg
    rw [Sem.run_bind, run_underlying hq w]
    cases d <;> simp_all
theorem run_load1 {t : TypeId} {g k : Nat} (h1 : oneB P t = true) (hc : w.cell? ⟨g, k, none⟩ = some v) : (Instr.loadAt t (.pointer (some ⟨g, k, none⟩))).run P w = .ok v w := by
  simp [Instr.loadAt, Instr.sureAddr, loadVar, agg_no h1, hc, go_sem]
theorem d_load {t : TypeId} {x : Operand} {g k : Nat} (hw : Region.wanted { dst := d, op := .load t x, type := ty, pos := pos, after := af, guard := gd } (yielded ops a.tmps) = true) (hx : a.eval x = .pointer (some ⟨g, k, none⟩)) (h1 : oneB P t = true)
    (hc : w.cell? ⟨g, k, none⟩ = some v) (h : K v w) : Does P ops { dst := d, op := .load t x, type := ty, pos := pos, after := af, guard := gd } a w K :=
  does_val hw (by unfold execOp; simp only [hx, Sem.run_bind, run_load1 h1 hc, Result.andThen_ok, Sem.run_pure]) h
/-- a struct or an array of m cells -/
def rowB (P : Program) (t : TypeId) (m : Nat) : Bool :=
  (match P.underlying t with | some (.struct _) => true | some (.array _ _) => true | _ => false) && ((P.info? t).map (·.size) == some m)
theorem row_facts {t : TypeId} {m : Nat} (h : rowB P t m = true) : (∃ dd : TypeDesc, P.underlying t = some dd ∧ dd.isRow = true ∧ (match dd with | .struct _ | .array _ _ => true | _ => false) = true) ∧ (P.info? t).map (·.size) = some m := by
  unfold rowB at h
  rw [Bool.and_eq_true] at h
  refine ⟨?_, by simpa using h.2⟩
  cases hq : P.underlying t with
  | none => simp [hq] at h
  | some dd => refine ⟨dd, rfl, ?_, ?_⟩ <;> (cases dd <;> simp_all [TypeDesc.isRow])
theorem run_loadRow {t t' : TypeId} {g : Nat} {cs : Array Value} (h1 : rowB P t cs.size = true) (hb : Blk w g cs t') : (Instr.loadAt t (.pointer (some ⟨g, 0, none⟩))).run P w = .ok (.agg cs) w := by
  obtain ⟨⟨dd, h2, _, h3⟩, h4⟩ := row_facts h1
  simp only [Instr.loadAt, Instr.sureAddr, Sem.run_bind, Sem.run_pure, Result.andThen_ok, run_loadVar_row w g t' t cs (0, 0) dd hb h2 (by cases dd <;> simp_all) h4]
theorem d_loadRow {t t' : TypeId} {x : Operand} {g : Nat} {cs : Array Value} (hw : Region.wanted { dst := d, op := .load t x, type := ty, pos := pos, after := af, guard := gd } (yielded ops a.tmps) = true) (hx : a.eval x = .pointer (some ⟨g, 0, none⟩)) (h1 : rowB P t cs.size = true)
    (hb : Blk w g cs t') (h : K (.agg cs) w) : Does P ops { dst := d, op := .load t x, type := ty, pos := pos, after := af, guard := gd } a w K :=
  does_val hw (by unfold execOp; simp only [hx, Sem.run_bind, run_loadRow h1 hb, Result.andThen_ok, Sem.run_pure]) h
theorem run_store1 {t t' : TypeId} {g k : Nat} {cs : Array Value} (h1 : oneB P t = true) (hv1 : v.oneCell' = true) (hb : Blk w g cs t') (hk : k < cs.size) : (Instr.storeAt t (.pointer (some ⟨g, k, none⟩)) v).run P w = .ok () (w.setCell ⟨g, k, none⟩ v) := by
  have hc : w.cell? ⟨g, k, none⟩ = some cs[k] := hb.cell (by simp [hk])
  have hf := hb.frozen k
  unfold oneB at h1
  rw [Bool.and_eq_true] at h1
  have hs : (P.info? t).map (·.size) = some 1 := by simpa using h1.2
  cases hq : P.info? t with
  | none => simp [hq] at hs
  | some i =>
    have hi : i.size = 1 := by simpa [hq] using hs
    have hz : (sizeOf t).run P w = .ok 1 w := by simp [sizeOf, typeInfo, hq, hi]
    have hcs : v.cells = #[v] := by cases v <;> simp_all [Value.oneCell', Value.cells]
    have hst : (store ((⟨g, k, none⟩ : Addr).add 0) v).run P w = .ok () (w.setCell ⟨g, k, none⟩ v) := by
      rw [Addr.add_mid, Nat.add_zero, run_store P w _ v _ hv1, hc]
      simp [hf]
    simp only [Instr.storeAt, Instr.sureAddr, storeVar, Sem.run_bind, Sem.run_pure, Result.andThen_ok, hz, hcs, List.size_toArray, List.length_cons, List.length_nil, Nat.zero_add, ne_eq, not_true_eq_false, if_false, storeCells, hst]
theorem d_store {t t' : TypeId} {x y : Operand} {g k : Nat} {cs : Array Value} (hw : Region.wanted { dst := d, op := .store t x y, type := ty, pos := pos, after := af, guard := gd } (yielded ops a.tmps) = true) (hx : a.eval x = .pointer (some ⟨g, k, none⟩)) (hy : a.eval y = v)
    (h1 : oneB P t = true) (hv1 : v.oneCell' = true) (hb : Blk w g cs t') (hk : k < cs.size) (h : ∀ w', Upd g w w' → Blk w' g (cs.setIfInBounds k v) t' → K undef w') : Does P ops { dst := d, op := .store t x y, type := ty, pos := pos, after := af, guard := gd } a w K :=
  does_unit (w' := w.setCell ⟨g, k, none⟩ v) hw (by unfold execOp; simp only [hx, hy, Sem.run_bind, run_store1 h1 hv1 hb hk, Result.andThen_ok, Sem.run_pure]) (h _ (upd_setCell w g k v) (hb.set v))
theorem d_storeRow {t t' : TypeId} {x y : Operand} {g : Nat} {cs old : Array Value} (hw : Region.wanted { dst := d, op := .store t x y, type := ty, pos := pos, after := af, guard := gd } (yielded ops a.tmps) = true) (hx : a.eval x = .pointer (some ⟨g, 0, none⟩)) (hy : a.eval y = .agg cs)
    (h1 : rowB P t cs.size = true) (hb : Blk w g old t') (hs : old.size = cs.size) (ho : cs.toList.all (·.oneCell') = true) (h : ∀ w', Upd g w w' → Blk w' g cs t' → K undef w') : Does P ops { dst := d, op := .store t x y, type := ty, pos := pos, after := af, guard := gd } a w K :=
  does_unit (w' := w.setRow g cs) hw (by
    unfold execOp
    simp only [hx, hy, Sem.run_bind, Instr.storeAt, Instr.sureAddr, Sem.run_pure, Result.andThen_ok, run_storeVar_row w g t' t old cs hb (row_facts h1).2 hs (by simpa using ho)]) (h _ (upd_setRow w g cs) (setRow_heap w g _ _ _ _ hb))
theorem d_not {t : TypeId} {x : Operand} {b : Bool} (hw : Region.wanted { dst := d, op := .unOp .not t x, type := ty, pos := pos, after := af, guard := gd } (yielded ops a.tmps) = true) (hx : a.eval x = .bool b) (h : K (.bool !b) w) :
    Does P ops { dst := d, op := .unOp .not t x, type := ty, pos := pos, after := af, guard := gd } a w K :=
  does_val hw (by unfold execOp; simp only [hx, Op.unary, Sem.run_bind, Sem.run_pure, Result.andThen_ok]) h
theorem d_bin {op : BinOp} {t t2 : TypeId} {x y : Operand} {r : Value} (hw : Region.wanted { dst := d, op := .binOp op t x y t2, type := ty, pos := pos, after := af, guard := gd } (yielded ops a.tmps) = true) (hx : a.eval x = u) (hy : a.eval y = v)
    (hr : (eqGuard op t x y u v).run P w = .ok () w ∧ (binOp op t u v).run P w = .ok r w) (h : K r w) : Does P ops { dst := d, op := .binOp op t x y t2, type := ty, pos := pos, after := af, guard := gd } a w K :=
  does_val hw (by unfold execOp; simp only [hx, hy, Sem.run_bind, hr.1, hr.2, Sem.run_pure, Result.andThen_ok]) h
theorem enters {f : FuncId} (h : ((P.funcs[f]?).map fun fn => (fn.name == "runtime.NumGoroutine", fn.body.isNone)) = some (false, false)) (args : Array Value) (w : World) : (callFunc f args).run P w = .ok (.enter f args) w := by
  cases hf : P.funcs[f]? with
  | none => simp [hf] at h
  | some fn =>
    rw [hf] at h
    simp only [Option.map_some, Option.some.injEq, Prod.mk.injEq] at h
    unfold callFunc
    simp only [Sem.run_bind, run_program, Result.andThen_ok, hf, h.1, h.2, Bool.false_eq_true, if_false, Sem.run_pure]
theorem d_call {f : FuncId} {args : Array Operand} {ats : Array TypeId} {vs : Array Value} {R : Ending → World → Prop} (hw : Region.wanted { dst := d, op := .call { callee := .value (.func f), args := args, argTypes := ats }, type := ty, pos := pos, after := af, guard := gd } (yielded ops a.tmps) = true)
    (hent : ((P.funcs[f]?).map fun fn => (fn.name == "runtime.NumGoroutine", fn.body.isNone)) = some (false, false)) (hx : args.map a.eval = vs) (hc : Calls P f vs w R) (h : ∀ e w', R e w' → ∃ v, e = .returned v ∧ K v w') :
    Does P ops { dst := d, op := .call { callee := .value (.func f), args := args, argTypes := ats }, type := ty, pos := pos, after := af, guard := gd } a w K :=
  does_enter hw (by
    subst hx
    unfold execOp
    simp only [resolve, Act.eval, Sem.run_bind, Deferred.ofValue, Sem.run_pure, Result.andThen_ok, invoke, Array.append_empty, Array.empty_append, enters hent]) hc h
theorem d_extract {x : Operand} {k : Nat} {vs : Array Value} (hw : Region.wanted { dst := d, op := .extract x k, type := ty, pos := pos, after := af, guard := gd } (yielded ops a.tmps) = true) (hx : a.eval x = .tuple vs) (hk : vs[k]? = some v) (h : K v w) :
    Does P ops { dst := d, op := .extract x k, type := ty, pos := pos, after := af, guard := gd } a w K :=
  does_val hw (by unfold execOp; simp only [hx, Instr.extract, hk, Sem.run_bind, Sem.run_pure, Result.andThen_ok]) h
end

/-! ### Comparisons -/
section
variable {P : Program} {t : TypeId} {k : IntKind} (x y : Operand) (a b : Int) (r : Bool) (w : World)
theorem b_eq (h : (a == b) = r) : (eqGuard .eql t x y (.int k a) (.int k b)).run P w = .ok () w ∧ (binOp .eql t (.int k a) (.int k b)).run P w = .ok (.bool r) w := by
  subst h; exact ⟨by simp [eqGuard], by simp [binOp, Op.intCmp]⟩
theorem b_ne (h : (!(a == b)) = r) : (eqGuard .neq t x y (.int k a) (.int k b)).run P w = .ok () w ∧ (binOp .neq t (.int k a) (.int k b)).run P w = .ok (.bool r) w := by
  subst h; exact ⟨by simp [eqGuard], by simp [binOp, Op.intCmp, bne]⟩
theorem b_lt (h : decide (a < b) = r) : (eqGuard .lss t x y (.int k a) (.int k b)).run P w = .ok () w ∧ (binOp .lss t (.int k a) (.int k b)).run P w = .ok (.bool r) w := by
  subst h; exact ⟨by simp [eqGuard], by simp [binOp, Op.intCmp]⟩
theorem b_le (h : decide (a ≤ b) = r) : (eqGuard .leq t x y (.int k a) (.int k b)).run P w = .ok () w ∧ (binOp .leq t (.int k a) (.int k b)).run P w = .ok (.bool r) w := by
  subst h; exact ⟨by simp [eqGuard], by simp [binOp, Op.intCmp]⟩
theorem b_gt (h : decide (a > b) = r) : (eqGuard .gtr t x y (.int k a) (.int k b)).run P w = .ok () w ∧ (binOp .gtr t (.int k a) (.int k b)).run P w = .ok (.bool r) w := by
  subst h; exact ⟨by simp [eqGuard], by simp [binOp, Op.intCmp]⟩
theorem b_ge (h : decide (a ≥ b) = r) : (eqGuard .geq t x y (.int k a) (.int k b)).run P w = .ok () w ∧ (binOp .geq t (.int k a) (.int k b)).run P w = .ok (.bool r) w := by
  subst h; exact ⟨by simp [eqGuard], by simp [binOp, Op.intCmp]⟩
end

/-! ### Code -/
section
variable {P : Program} {K : Act → World → Prop} {Q : Exit → Act → World → Prop} {a : Act} {w : World} {id j : Nat} {n : Nat} {T : List (Nat × Value)}
theorem t_norm (h : K a w) : Exit.then K Q .normal a w := h
theorem t_exit (h : Q (.exit j) a w) : Exit.then K Q (.exit j) a w := h
theorem t_ret (h : Q .ret a w) : Exit.then K Q .ret a w := h
theorem i_norm (h : Q .normal a w) : Exit.inBlock id Q .normal a w := h
theorem i_ret (h : Q .ret a w) : Exit.inBlock id Q .ret a w := h
theorem i_here (h : Q .normal a w) : Exit.inBlock id Q (.exit id) a w := by simp only [Exit.inBlock, if_true]; exact h
theorem i_past (hne : j ≠ id) (h : Q (.exit j) a w) : Exit.inBlock id Q (.exit j) a w := by simp only [Exit.inBlock, if_neg hne]; exact h
theorem c_true {c : Operand} {x y : Code} (hA : St n T a) (hc : ev T c = some (.bool true)) (h : x.wp P Q a w) : (Code.cond c x y).wp P Q a w := wp_cond_true (hA.ev hc) h
theorem c_false {c : Operand} {x y : Code} (hA : St n T a) (hc : ev T c = some (.bool false)) (h : y.wp P Q a w) : (Code.cond c x y).wp P Q a w := wp_cond_false (hA.ev hc) h
def argT : List Value → Nat → List (Nat × Value)
  | [], _ => []
  | v :: vs, k => (k, v) :: argT vs (k + 1)
theorem argT_look (t : Nat) (v : Value) : ∀ (vs : List Value) (k : Nat), (argT vs k).lookup t = some v → k ≤ t ∧ vs[t - k]? = some v
  | [], _, h => by simp [argT] at h
  | u :: vs, k, h => by
    unfold argT at h
    rw [List.lookup_cons] at h
    by_cases ht : t = k
    · subst ht; simp at h; subst h; simp
    · have : (t == k) = false := by simpa using ht
      simp only [this] at h
      obtain ⟨h1, h2⟩ := argT_look t v vs (k + 1) h
      refine ⟨by omega, ?_⟩
      rw [show t - k = (t - (k + 1)) + 1 by omega]; simpa using h2
theorem enter {f : FuncId} {fn : Func} {c : Code} {args : List Value} {R : Ending → World → Prop} (hf : P.funcs[f]? = some fn) (hb : fn.body = some c) (hn : fn.ntmps = n) (hl : args.length ≤ n)
    (h : ∀ a, St n (argT args 0) a → c.wp P (bodyPost P fn R) a w) : Calls P f args.toArray w R := by
  refine calls_of_wp hf hb (h _ ⟨by simp [hn]; omega, rfl, fun t v hv => ?_⟩)
  obtain ⟨_, h2⟩ := argT_look t v args 0 hv
  have hlt : t < args.length := (List.getElem?_eq_some_iff.1 h2).1
  simp only [Nat.sub_zero] at h2
  simp [Array.getD_eq_getD_getElem?, Array.getElem?_append, hlt] at h2 ⊢
  exact h2
theorem ret1 {fn : Func} {R : Ending → World → Prop} {t : Tmp} {v : Value} (hr : fn.results = #[.tmp t]) (hA : St n T a) (hv : ev T (.tmp t) = some v) (h : R (.returned v) w) : bodyPost P fn R .ret a w :=
  ⟨hA.defers, v, by have := hA.ev hv; simp only [Act.eval] at this; simp [results, hr, ← this], h⟩
theorem end1 {fn : Func} {R : Ending → World → Prop} {t : Tmp} {v : Value} (hr : fn.results = #[.tmp t]) (hA : St n T a) (hv : ev T (.tmp t) = some v) (h : R (.returned v) w) : bodyPost P fn R .normal a w :=
  ⟨hA.defers, v, by have := hA.ev hv; simp only [Act.eval] at this; simp [results, hr, ← this], h⟩
theorem retRow {fn : Func} {R : Ending → World → Prop} {p : Tmp} {t t' : TypeId} {g : Nat} {cs : Array Value} (hr : fn.results = #[.cell p t]) (hA : St n T a) (hv : ev T (.tmp p) = some (.pointer (some ⟨g, 0, none⟩))) (hb : Blk w g cs t') (h1 : rowB P t cs.size = true) (h : R (.returned (.agg cs)) w) : bodyPost P fn R .ret a w := by
  obtain ⟨⟨dd, h2, _, h3⟩, h4⟩ := row_facts h1
  exact ⟨hA.defers, _, results_cell_row hr a.tmps w g t' cs (0, 0) dd (hA.ev hv) hb h2 (by cases dd <;> simp_all) h4, h⟩
end
end Go.Proofs.Ytlhompedcphnnaa
