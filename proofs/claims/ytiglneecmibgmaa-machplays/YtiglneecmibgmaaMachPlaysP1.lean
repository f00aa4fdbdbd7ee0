/- An engine for walks: what is known of a frame is a short list of slots; each operation is a step; a region that draws its order is told by claims. -/
import Derived.WalkKit
import Derived.Deep.WholeRow
import Derived.Deep.MidRow
import Derived.Great.BuildSlice
import Derived.ChangeKeysEq
import Derived.Deep.Draws
import Derived.Laws.StructEq
import Derived.Maps.AppendAt
import Derived.Deep.Upon
namespace Go.Proofs.Ytiglneecmibgmaa
open Go.RowKit

abbrev Grow (w w' : World) : Prop := Below w.heap.size w w'
theorem Grow.refl (w : World) : Grow w w := Below.refl _ _
theorem Grow.trans {a b c : World} (h : Grow a b) (k : Grow b c) : Grow a c := Below.trans h (Below.mono k h.size)
theorem Grow.alloc {a b : World} (h : Grow a b) (o : Obj) : Grow a (b.alloc o) := Below.alloc h h.size o
theorem Grow.drew {a b : World} (h : Grow a b) : Grow a b.drew := Below.drew h
theorem Grow.drewN {a b : World} (h : Grow a b) (q : Nat) : Grow a (b.drewN q) := ⟨h.os, h.tape, h.output, h.size, h.block⟩

/-! ### The frame -/
structure St (n : Nat) (T : List (Nat × Value)) (a : Act) : Prop where
  size : a.tmps.size = n
  defers : a.defers = []
  get : ∀ t v, T.lookup t = some v → a.tmps.getD t undef = v
def ev (T : List (Nat × Value)) : Operand → Option Value
  | .tmp t => T.lookup t
  | .const v => some v
  | .global g => some (.pointer (some ⟨g, 0, none⟩))
  | .func f => some (.func (.func f) #[] #[])
theorem St.ev {n : Nat} {T : List (Nat × Value)} {a : Act} (h : St n T a) {x : Operand} {v : Value} (hx : ev T x = some v) : a.eval x = v := by
  cases x with
  | tmp t => exact h.get t v hx
  | const u => exact Option.some.inj hx
  | global g => exact Option.some.inj hx
  | func f => exact Option.some.inj hx
theorem St.put {n : Nat} {T : List (Nat × Value)} {a : Act} (h : St n T a) {d : Nat} (hd : d < n) (v : Value) : St n ((d, v) :: T) (a.put (some d) v) := by
  refine ⟨by simp [Act.put, h.size], by simp [Act.put, h.defers], fun t u hu => ?_⟩
  rw [List.lookup_cons] at hu
  have hs : d < a.tmps.size := by rw [h.size]; exact hd
  by_cases ht : t = d
  · subst ht
    simp at hu
    simp [Act.put, hs, hu]
  · have : (t == d) = false := by simpa using ht
    simp only [this] at hu
    have hg := h.get t u hu
    simp only [Act.put, Array.getD_eq_getD_getElem?]
    rw [Array.getElem?_setIfInBounds_ne (Ne.symm ht), ← Array.getD_eq_getD_getElem?]
    exact hg
/-- of what is known a part is kept -/
theorem St.cut {n : Nat} {T : List (Nat × Value)} {a : Act} (h : St n T a) (T' : List (Nat × Value)) (hT : ∀ x ∈ T', a.tmps.getD x.1 undef = x.2) : St n T' a :=
  ⟨h.size, h.defers, fun t v hv => by
    have : (t, v) ∈ T' := by
      clear hT
      induction T' with
      | nil => simp at hv
      | cons x l ih =>
        rw [List.lookup_cons] at hv
        by_cases hx : t = x.1
        · subst hx; simp at hv; subst hv; simp
        · have : (t == x.1) = false := by simpa using hx
          simp only [this] at hv
          exact List.mem_cons_of_mem _ (ih hv)
    exact hT (t, v) this⟩
theorem St.shadow {n : Nat} {T : List (Nat × Value)} {a : Act} (h : St n T a) {t : Nat} {b c : Bool} (ht : T.lookup t = some (.bool b)) (hb : b = c) : St n ((t, .bool c) :: T) a :=
  ⟨h.size, h.defers, fun u v hv => by
    rw [List.lookup_cons] at hv
    by_cases hu : u = t
    · subst hu; simp at hv; rw [← hv, ← hb]; exact h.get _ _ ht
    · have : (u == t) = false := by simpa using hu
      simp only [this] at hv
      exact h.get _ _ hv⟩
theorem St.sub {n : Nat} {T T' : List (Nat × Value)} {a : Act} (h : St n T a) (hT : (T'.map fun x => T.lookup x.1) = T'.map fun x => some x.2) : St n T' a :=
  h.cut T' fun x hx => h.get _ _ (List.map_inj_left.1 hT x hx)
def ext (T : List (Nat × Value)) : Option Nat → Value → List (Nat × Value)
  | some d, v => (d, v) :: T
  | none, _ => T
def fitsD (n : Nat) : Option Nat → Bool
  | some d => decide (d < n)
  | none => true
theorem St.ext {n : Nat} {T : List (Nat × Value)} {a : Act} (h : St n T a) {o : Option Nat} (hd : fitsD n o = true) (v : Value) : St n (ext T o v) (a.put o v) := by
  cases o with
  | none => exact h
  | some d => exact h.put (by simpa [fitsD] using hd) v

/-! ### One operation -/
def dstOf (ops : Array Oper) (j : Nat) : Option Tmp := (ops[j]?).bind (·.dst)
def Does (P : Program) (ops : Array Oper) (o : Oper) (a : Act) (w : World) (K : Value → World → Prop) : Prop :=
  (Region.wanted o (yielded ops a.tmps) = true ∧ ∀ Q, o.wp P a w (fun a' w' => ∃ v, a' = a.put o.dst v ∧ K v w') Q) ∨ (Region.wanted o (yielded ops a.tmps) = false ∧ K undef w)
section
variable {P : Program} {ops : Array Oper} {o : Oper} {a : Act} {w w' : World} {K : Value → World → Prop} {Q : Exit → Act → World → Prop} {rest : List Oper} {n : Nat} {T : List (Nat × Value)}
theorem wn {f : Nat → Option Bool} (h : o.guard = none) : Region.wanted o f = true := by unfold Region.wanted; rw [h]
theorem wy {j t : Nat} {b : Bool} (h : o.guard = some (j, b)) (hj : dstOf ops j = some t) (hv : a.tmps.getD t undef = .bool b) : Region.wanted o (yielded ops a.tmps) = true := by
  unfold Region.wanted yielded
  rw [h]
  have hj' : (ops[j]?).bind (·.dst) = some t := hj
  simp only [hj', Option.bind_some]
  cases hq : a.tmps[t]? with
  | none => simp [Array.getD_eq_getD_getElem?, hq, undef] at hv
  | some v => simp [Array.getD_eq_getD_getElem?, hq] at hv; subst hv; simp
theorem wno {j t : Nat} {b : Bool} (h : o.guard = some (j, b)) (hj : dstOf ops j = some t) (hv : a.tmps.getD t undef = .bool !b ∨ a.tmps.getD t undef = undef) : Region.wanted o (yielded ops a.tmps) = false := by
  unfold Region.wanted yielded
  rw [h]
  have hj' : (ops[j]?).bind (·.dst) = some t := hj
  simp only [hj', Option.bind_some]
  cases hq : a.tmps[t]? with
  | none => simp
  | some v =>
    simp [Array.getD_eq_getD_getElem?, hq] at hv
    rcases hv with hv | hv
    · subst hv; cases b <;> simp
    · subst hv; simp [undef]
theorem does_val {v : Value} (hw : Region.wanted o (yielded ops a.tmps) = true) (hr : (execOp a.eval o).run P w = .ok (.value v) w') (h : K v w') : Does P ops o a w K :=
  .inl ⟨hw, fun Q => by unfold Oper.wp; rw [hr, Oper.upon_value]; exact ⟨v, rfl, h⟩⟩
theorem does_unit (hw : Region.wanted o (yielded ops a.tmps) = true) (hr : (execOp a.eval o).run P w = .ok .skip w') (h : K undef w') : Does P ops o a w K :=
  .inl ⟨hw, fun Q => by unfold Oper.wp; rw [hr, Oper.upon_skip]; exact ⟨undef, rfl, h⟩⟩
theorem does_not (hw : Region.wanted o (yielded ops a.tmps) = false) (h : K undef w) : Does P ops o a w K := .inr ⟨hw, h⟩
theorem does_enter {f : FuncId} {args : Array Value} {R : Ending → World → Prop} (hw : Region.wanted o (yielded ops a.tmps) = true) (hr : (execOp a.eval o).run P w = .ok (.enter f args) w) (hc : Calls P f args w R)
    (h : ∀ e w', R e w' → ∃ v, e = .returned v ∧ K v w') : Does P ops o a w K :=
  .inl ⟨hw, fun Q => by
    unfold Oper.wp; rw [hr, Oper.upon_enter]
    refine Calls.mono hc fun e w' he => ?_
    obtain ⟨v, rfl, hk⟩ := h e w' he
    exact ⟨v, rfl, hk⟩⟩
/-- the next operation of a region in its order -/
theorem q_step (hA : St n T a) (hd : fitsD n o.dst = true) (h : Does P ops o a w fun v w' => ∀ a', St n (ext T o.dst v) a' → wpList P ops Q rest a' w') : wpList P ops Q (o :: rest) a w := by
  refine wpList_step fun K hK => ?_
  rcases h with ⟨hw, h⟩ | ⟨hw, h⟩
  · rw [if_pos hw]
    refine Oper.wp_mono (fun a' w' h => ?_) (h Q)
    obtain ⟨v, rfl, hk⟩ := h
    exact hK _ _ (hk _ (hA.ext hd v))
  · rw [if_neg (by rw [hw]; simp)]
    exact hK _ _ (h _ (hA.ext hd undef))
theorem q_end (h : Q .normal a w) : wpList P ops Q [] a w := h
end

/-! ### Memory -/
def Blk (w : World) (g : Nat) (cs : Array Value) (t : TypeId) : Prop := w.heap[g]? = some (.cells cs t (0, 0))
theorem Blk.lt {w : World} {g : Nat} {cs : Array Value} {t : TypeId} (h : Blk w g cs t) : g < w.heap.size := (Array.getElem?_eq_some_iff.1 h).1
theorem Blk.grow {w w' : World} {g : Nat} {cs : Array Value} {t : TypeId} (h : Blk w g cs t) (hg : Grow w w') : Blk w' g cs t := by
  unfold Blk; rw [hg.block g h.lt]; exact h
theorem Blk.cell {w : World} {g k : Nat} {cs : Array Value} {t : TypeId} {v : Value} (h : Blk w g cs t) (hv : cs[k]? = some v) : w.cell? ⟨g, k, none⟩ = some v := by
  rw [cell_of_row w g k cs t _ h]; exact hv
theorem Blk.frozen {w : World} {g : Nat} {cs : Array Value} {t : TypeId} (h : Blk w g cs t) (k : Nat) : w.frozen? ⟨g, k, none⟩ = false := by
  unfold Blk at h; simp [World.frozen?, h]
/-- one block alone has turned -/
structure Upd (g : Nat) (w w' : World) : Prop where
  os : w'.os = w.os
  tape : w'.tape = w.tape
  output : w'.output = w.output
  size : w'.heap.size = w.heap.size
  block : ∀ k, k ≠ g → w'.heap[k]? = w.heap[k]?
theorem Blk.upd {w w' : World} {g g' : Nat} {cs : Array Value} {t : TypeId} (h : Blk w g cs t) (hu : Upd g' w w') (hne : g ≠ g') : Blk w' g cs t := by
  unfold Blk; rw [hu.block g hne]; exact h
theorem Upd.below {B g : Nat} {a w w' : World} (hu : Upd g w w') (h : Below B a w) (hg : B ≤ g) : Below B a w' :=
  h.trans ⟨hu.os, hu.tape, hu.output, Nat.le_of_eq hu.size.symm, fun k hk => hu.block k (by omega)⟩
theorem below_grow {B : Nat} {a w w' : World} (h : Below B a w) (hg : Grow w w') (hB : B ≤ w.heap.size) : Below B a w' := h.trans (hg.mono hB)
theorem below_size {B : Nat} {a w : World} (h : Below B a w) (hB : B ≤ a.heap.size) : B ≤ w.heap.size := Nat.le_trans hB h.size
theorem upd_setCell (w : World) (g k : Nat) (v : Value) : Upd g w (w.setCell ⟨g, k, none⟩ v) :=
  ⟨rfl, rfl, rfl, by simp [World.setCell], fun j hj => Below.heap_setCell _ _ _ _ hj⟩
theorem upd_setRow (w : World) (g : Nat) (cs : Array Value) : Upd g w (w.setRow g cs) :=
  ⟨rfl, rfl, rfl, by simp, fun j hj => setRow_other _ _ _ _ hj⟩
theorem Blk.set {w : World} {g k : Nat} {cs : Array Value} {t : TypeId} (h : Blk w g cs t) (v : Value) : Blk (w.setCell ⟨g, k, none⟩ v) g (cs.setIfInBounds k v) t := by
  rw [setCell_eq_setRow w g k _ _ _ _ h]
  exact setRow_heap w g _ _ _ _ h

/-! ### What operations do -/
section
variable {P : Program} {ops : Array Oper} {a : Act} {w w' : World} {K : Value → World → Prop} {d : Option Tmp} {ty : TypeId} {pos : String} {af : Array Edge} {gd : Option (Nat × Bool)} {v u : Value}
theorem d_move {x : Operand} (hw : Region.wanted { dst := d, op := .move x, type := ty, pos := pos, after := af, guard := gd } (yielded ops a.tmps) = true) (hx : a.eval x = v) (h : K v w) :
    Does P ops { dst := d, op := .move x, type := ty, pos := pos, after := af, guard := gd } a w K := does_val hw (by subst hx; rfl) h
theorem d_assign {x : Operand} (hw : Region.wanted { dst := d, op := .assign x, type := ty, pos := pos, after := af, guard := gd } (yielded ops a.tmps) = true) (hx : a.eval x = v) (h : K v w) :
    Does P ops { dst := d, op := .assign x, type := ty, pos := pos, after := af, guard := gd } a w K := does_val hw (by subst hx; rfl) h
theorem d_pick {c x y : Operand} {b : Bool} (hw : Region.wanted { dst := d, op := .pick c x y, type := ty, pos := pos, after := af, guard := gd } (yielded ops a.tmps) = true) (hc : a.eval c = .bool b) (hx : (if b then a.eval x else a.eval y) = v) (h : K v w) :
    Does P ops { dst := d, op := .pick c x y, type := ty, pos := pos, after := af, guard := gd } a w K :=
  does_val hw (by subst hx; unfold execOp; simp [hc, asBool]) h
theorem d_box {t : TypeId} {x : Operand} (hw : Region.wanted { dst := d, op := .box t x, type := ty, pos := pos, after := af, guard := gd } (yielded ops a.tmps) = true) (hx : a.eval x = v)
    (h : ∀ g w', g = w.heap.size → Grow w w' → Blk w' g v.cells t → K (.pointer (some ⟨g, 0, none⟩)) w') :
    Does P ops { dst := d, op := .box t x, type := ty, pos := pos, after := af, guard := gd } a w K :=
  does_val (w' := w.alloc (.cells v.cells t)) hw (by subst hx; rfl) (h _ _ rfl ((Grow.refl _).alloc _) (heap_alloc_last w _))
theorem d_alloc {t : TypeId} {z : Value} {m : Nat} (hw : Region.wanted { dst := d, op := .alloc t, type := ty, pos := pos, after := af, guard := gd } (yielded ops a.tmps) = true)
    (hi : (P.info? t).map (fun i => (i.zero, i.size)) = some (some z, m)) (h : ∀ g w', g = w.heap.size → Grow w w' → Blk w' g z.cells t → K (.pointer (some ⟨g, 0, none⟩)) w') :
    Does P ops { dst := d, op := .alloc t, type := ty, pos := pos, after := af, guard := gd } a w K :=
  does_val (w' := w.alloc (.cells z.cells t)) hw (by
    have hz := (zero_of_info hi).1 w
    unfold execOp
    simp only [Instr.alloc, newVar, newRow, Sem.run_bind, hz, Result.andThen_ok]
    rfl) (h _ _ rfl ((Grow.refl _).alloc _) (heap_alloc_last w _))
theorem run_fieldAt {s : TypeId} {fs : Array Field} {f : Nat} {fd : Field} (w : World) (g k off : Nat) (hu : P.underlying s = some (.struct fs)) (hf : fs[f]? = some fd) (hs : (P.info? fd.type).map (·.size != 0) = some true) (ho : fd.offset = off) :
    (Instr.fieldAt s (.pointer (some ⟨g, k, none⟩)) f).run P w = .ok (.pointer (some ⟨g, k + off, none⟩)) w := by
  cases hq : P.info? fd.type with
  | none => simp [hq] at hs
  | some i =>
    have hz : i.size ≠ 0 := by simpa [hq] using hs
    simp [Instr.fieldAt, run_underlying hu, hf, Instr.sureAddr, fieldPlace, sizeOf, typeInfo, hq, hz, Addr.add_mid, ho]
/-- where a field lies, off one closed fact -/
def fieldOff (P : Program) (s f : Nat) : Option Nat :=
  match P.underlying s with
  | some (.struct fs) => match fs[f]? with
    | some fd => if (P.info? fd.type).map (·.size != 0) = some true then some fd.offset else none
    | none => none
  | _ => none
theorem run_fieldAt' {s f off : Nat} (w : World) (g k : Nat) (h : fieldOff P s f = some off) : (Instr.fieldAt s (.pointer (some ⟨g, k, none⟩)) f).run P w = .ok (.pointer (some ⟨g, k + off, none⟩)) w := by
  unfold fieldOff at h
  split at h
  · rename_i fs hu
    split at h
    · rename_i fd hf
      split at h
      · rename_i hs
        exact run_fieldAt w g k off hu hf hs (by simpa using h)
      · cases h
    · cases h
  · cases h
theorem d_fieldAddr {s : TypeId} {x : Operand} {f g k off : Nat} (hw : Region.wanted { dst := d, op := .fieldAddr s x f, type := ty, pos := pos, after := af, guard := gd } (yielded ops a.tmps) = true) (hx : a.eval x = .pointer (some ⟨g, k, none⟩))
    (hf : fieldOff P s f = some off) (h : K (.pointer (some ⟨g, k + off, none⟩)) w) :
    Does P ops { dst := d, op := .fieldAddr s x f, type := ty, pos := pos, after := af, guard := gd } a w K :=
  does_val hw (by unfold execOp; simp only [hx, Sem.run_bind, run_fieldAt' w g k hf, Result.andThen_ok, Sem.run_pure]) h
/-- a type of one cell that is no struct, no array -/
def oneB (P : Program) (t : TypeId) : Bool :=
  (match P.underlying t with | some (.struct _) => false | some (.array _ _) => false | some _ => true | none => false) && ((P.info? t).map (·.size) == some 1)
theorem agg_no {t : TypeId} (h : oneB P t = true) (w : World) : (isAgg t).run P w = .ok false w := by
  unfold oneB at h
  rw [Bool.and_eq_true] at h
  cases hq : P.underlying t with
  | none => simp [hq] at h
  | some d =>
    unfold isAgg
    rw [Sem.run_bind, run_underlying hq w]
    cases d <;> simp_all
theorem run_load1 {t : TypeId} {g k : Nat} (h1 : oneB P t = true) (hc : w.cell? ⟨g, k, none⟩ = some v) : (Instr.loadAt t (.pointer (some ⟨g, k, none⟩))).run P w = .ok v w := by
  simp [Instr.loadAt, Instr.sureAddr, loadVar, agg_no h1, hc, go_sem]
theorem d_load {t : TypeId} {x : Operand} {g k : Nat} (hw : Region.wanted { dst := d, op := .load t x, type := ty, pos := pos, after := af, guard := gd } (yielded ops a.tmps) = true) (hx : a.eval x = .pointer (some ⟨g, k, none⟩)) (h1 : oneB P t = true)
    (hc : w.cell? ⟨g, k, none⟩ = some v) (h : K v w) : Does P ops { dst := d, op := .load t x, type := ty, pos := pos, after := af, guard := gd } a w K :=
  does_val hw (by unfold execOp; simp only [hx, Sem.run_bind, run_load1 h1 hc, Result.andThen_ok, Sem.run_pure]) h
/-- a struct or an array of m cells -/
def rowB (P : Program) (t : TypeId) (m : Nat) : Bool :=
  (match P.underlying t with | some (.struct _) => true | some (.array _ _) => true | _ => false) && ((P.info? t).map (·.size) == some m)
theorem row_facts {t : TypeId} {m : Nat} (h : rowB P t m = true) : (∃ dd : TypeDesc, P.underlying t = some dd ∧ dd.isRow = true ∧ (match dd with | .struct _ | .array _ _ => true | _ => false) = true) ∧ (P.info? t).map (·.size) = some m := by
  unfold rowB at h
  rw [Bool.and_eq_true] at h
  refine ⟨?_, by simpa using h.2⟩
  cases hq : P.underlying t with
  | none => simp [hq] at h
  | some dd => refine ⟨dd, rfl, ?_, ?_⟩ <;> (cases dd <;> simp_all [TypeDesc.isRow])
theorem run_loadRow {t t' : TypeId} {g : Nat} {cs : Array Value} (h1 : rowB P t cs.size = true) (hb : Blk w g cs t') : (Instr.loadAt t (.pointer (some ⟨g, 0, none⟩))).run P w = .ok (.agg cs) w := by
  obtain ⟨⟨dd, h2, _, h3⟩, h4⟩ := row_facts h1
  simp only [Instr.loadAt, Instr.sureAddr, Sem.run_bind, Sem.run_pure, Result.andThen_ok, run_loadVar_row w g t' t cs (0, 0) dd hb h2 (by cases dd <;> simp_all) h4]
theorem d_loadRow {t t' : TypeId} {x : Operand} {g : Nat} {cs : Array Value} (hw : Region.wanted { dst := d, op := .load t x, type := ty, pos := pos, after := af, guard := gd } (yielded ops a.tmps) = true) (hx : a.eval x = .pointer (some ⟨g, 0, none⟩)) (h1 : rowB P t cs.size = true)
    (hb : Blk w g cs t') (h : K (.agg cs) w) : Does P ops { dst := d, op := .load t x, type := ty, pos := pos, after := af, guard := gd } a w K :=
  does_val hw (by unfold execOp; simp only [hx, Sem.run_bind, run_loadRow h1 hb, Result.andThen_ok, Sem.run_pure]) h
theorem run_store1 {t t' : TypeId} {g k : Nat} {cs : Array Value} (h1 : oneB P t = true) (hv1 : v.oneCell' = true) (hb : Blk w g cs t') (hk : k < cs.size) : (Instr.storeAt t (.pointer (some ⟨g, k, none⟩)) v).run P w = .ok () (w.setCell ⟨g, k, none⟩ v) := by
  have hc : w.cell? ⟨g, k, none⟩ = some cs[k] := hb.cell (by simp [hk])
  have hf := hb.frozen k
  unfold oneB at h1
  rw [Bool.and_eq_true] at h1
  have hs : (P.info? t).map (·.size) = some 1 := by simpa using h1.2
  cases hq : P.info? t with
  | none => simp [hq] at hs
  | some i =>
    have hi : i.size = 1 := by simpa [hq] using hs
    have hz : (sizeOf t).run P w = .ok 1 w := by simp [sizeOf, typeInfo, hq, hi]
    have hcs : v.cells = #[v] := by cases v <;> simp_all [Value.oneCell', Value.cells]
    have hst : (store ((⟨g, k, none⟩ : Addr).add 0) v).run P w = .ok () (w.setCell ⟨g, k, none⟩ v) := by
      rw [Addr.add_mid, Nat.add_zero, run_store P w _ v _ hv1, hc]
      simp [hf]
    simp only [Instr.storeAt, Instr.sureAddr, storeVar, Sem.run_bind, Sem.run_pure, Result.andThen_ok, hz, hcs, List.size_toArray, List.length_cons, List.length_nil, Nat.zero_add, ne_eq, not_true_eq_false, if_false, storeCells, hst]
theorem d_store {t t' : TypeId} {x y : Operand} {g k : Nat} {cs : Array Value} (hw : Region.wanted { dst := d, op := .store t x y, type := ty, pos := pos, after := af, guard := gd } (yielded ops a.tmps) = true) (hx : a.eval x = .pointer (some ⟨g, k, none⟩)) (hy : a.eval y = v)
    (h1 : oneB P t = true) (hv1 : v.oneCell' = true) (hb : Blk w g cs t') (hk : k < cs.size) (h : ∀ w', Upd g w w' → Blk w' g (cs.setIfInBounds k v) t' → K undef w') : Does P ops { dst := d, op := .store t x y, type := ty, pos := pos, after := af, guard := gd } a w K :=
  does_unit (w' := w.setCell ⟨g, k, none⟩ v) hw (by unfold execOp; simp only [hx, hy, Sem.run_bind, run_store1 h1 hv1 hb hk, Result.andThen_ok, Sem.run_pure]) (h _ (upd_setCell w g k v) (hb.set v))
theorem d_storeRow {t t' : TypeId} {x y : Operand} {g : Nat} {cs old : Array Value} (hw : Region.wanted { dst := d, op := .store t x y, type := ty, pos := pos, after := af, guard := gd } (yielded ops a.tmps) = true) (hx : a.eval x = .pointer (some ⟨g, 0, none⟩)) (hy : a.eval y = .agg cs)
    (h1 : rowB P t cs.size = true) (hb : Blk w g old t') (hs : old.size = cs.size) (ho : cs.toList.all (·.oneCell') = true) (h : ∀ w', Upd g w w' → Blk w' g cs t' → K undef w') : Does P ops { dst := d, op := .store t x y, type := ty, pos := pos, after := af, guard := gd } a w K :=
  does_unit (w' := w.setRow g cs) hw (by
    unfold execOp
    simp only [hx, hy, Sem.run_bind, Instr.storeAt, Instr.sureAddr, Sem.run_pure, Result.andThen_ok, run_storeVar_row w g t' t old cs hb (row_facts h1).2 hs (by simpa using ho)]) (h _ (upd_setRow w g cs) (setRow_heap w g _ _ _ _ hb))
theorem d_not {t : TypeId} {x : Operand} {b : Bool} (hw : Region.wanted { dst := d, op := .unOp .not t x, type := ty, pos := pos, after := af, guard := gd } (yielded ops a.tmps) = true) (hx : a.eval x = .bool b) (h : K (.bool !b) w) :
    Does P ops { dst := d, op := .unOp .not t x, type := ty, pos := pos, after := af, guard := gd } a w K :=
  does_val hw (by unfold execOp; simp only [hx, Op.unary, Sem.run_bind, Sem.run_pure, Result.andThen_ok]) h
theorem d_bin {op : BinOp} {t t2 : TypeId} {x y : Operand} {r : Value} (hw : Region.wanted { dst := d, op := .binOp op t x y t2, type := ty, pos := pos, after := af, guard := gd } (yielded ops a.tmps) = true) (hx : a.eval x = u) (hy : a.eval y = v)
    (hr : (eqGuard op t x y u v).run P w = .ok () w ∧ (binOp op t u v).run P w = .ok r w) (h : K r w) : Does P ops { dst := d, op := .binOp op t x y t2, type := ty, pos := pos, after := af, guard := gd } a w K :=
  does_val hw (by unfold execOp; simp only [hx, hy, Sem.run_bind, hr.1, hr.2, Sem.run_pure, Result.andThen_ok]) h
theorem enters {f : FuncId} (h : ((P.funcs[f]?).map fun fn => (fn.name == "runtime.NumGoroutine", fn.body.isNone)) = some (false, false)) (args : Array Value) (w : World) : (callFunc f args).run P w = .ok (.enter f args) w := by
  cases hf : P.funcs[f]? with
  | none => simp [hf] at h
  | some fn =>
    rw [hf] at h
    simp only [Option.map_some, Option.some.injEq, Prod.mk.injEq] at h
    unfold callFunc
    simp only [Sem.run_bind, run_program, Result.andThen_ok, hf, h.1, h.2, Bool.false_eq_true, if_false, Sem.run_pure]
theorem d_call {f : FuncId} {args : Array Operand} {ats : Array TypeId} {vs : Array Value} {R : Ending → World → Prop} (hw : Region.wanted { dst := d, op := .call { callee := .value (.func f), args := args, argTypes := ats }, type := ty, pos := pos, after := af, guard := gd } (yielded ops a.tmps) = true)
    (hent : ((P.funcs[f]?).map fun fn => (fn.name == "runtime.NumGoroutine", fn.body.isNone)) = some (false, false)) (hx : args.map a.eval = vs) (hc : Calls P f vs w R) (h : ∀ e w', R e w' → ∃ v, e = .returned v ∧ K v w') :
    Does P ops { dst := d, op := .call { callee := .value (.func f), args := args, argTypes := ats }, type := ty, pos := pos, after := af, guard := gd } a w K :=
  does_enter hw (by
    subst hx
    unfold execOp
    simp only [resolve, Act.eval, Sem.run_bind, Deferred.ofValue, Sem.run_pure, Result.andThen_ok, invoke, Array.append_empty, Array.empty_append, enters hent]) hc h
theorem d_extract {x : Operand} {k : Nat} {vs : Array Value} (hw : Region.wanted { dst := d, op := .extract x k, type := ty, pos := pos, after := af, guard := gd } (yielded ops a.tmps) = true) (hx : a.eval x = .tuple vs) (hk : vs[k]? = some v) (h : K v w) :
    Does P ops { dst := d, op := .extract x k, type := ty, pos := pos, after := af, guard := gd } a w K :=
  does_val hw (by unfold execOp; simp only [hx, Instr.extract, hk, Sem.run_bind, Sem.run_pure, Result.andThen_ok]) h
end

/-! ### Comparisons -/
section
variable {P : Program} {t : TypeId} {k : IntKind} (x y : Operand) (a b : Int) (r : Bool) (w : World)
theorem b_eq (h : (a == b) = r) : (eqGuard .eql t x y (.int k a) (.int k b)).run P w = .ok () w ∧ (binOp .eql t (.int k a) (.int k b)).run P w = .ok (.bool r) w := by
  subst h; exact ⟨by simp [eqGuard], by simp [binOp, Op.intCmp]⟩
theorem b_ne (h : (!(a == b)) = r) : (eqGuard .neq t x y (.int k a) (.int k b)).run P w = .ok () w ∧ (binOp .neq t (.int k a) (.int k b)).run P w = .ok (.bool r) w := by
  subst h; exact ⟨by simp [eqGuard], by simp [binOp, Op.intCmp, bne]⟩
theorem b_lt (h : decide (a < b) = r) : (eqGuard .lss t x y (.int k a) (.int k b)).run P w = .ok () w ∧ (binOp .lss t (.int k a) (.int k b)).run P w = .ok (.bool r) w := by
  subst h; exact ⟨by simp [eqGuard], by simp [binOp, Op.intCmp]⟩
theorem b_le (h : decide (a ≤ b) = r) : (eqGuard .leq t x y (.int k a) (.int k b)).run P w = .ok () w ∧ (binOp .leq t (.int k a) (.int k b)).run P w = .ok (.bool r) w := by
  subst h; exact ⟨by simp [eqGuard], by simp [binOp, Op.intCmp]⟩
theorem b_gt (h : decide (a > b) = r) : (eqGuard .gtr t x y (.int k a) (.int k b)).run P w = .ok () w ∧ (binOp .gtr t (.int k a) (.int k b)).run P w = .ok (.bool r) w := by
  subst h; exact ⟨by simp [eqGuard], by simp [binOp, Op.intCmp]⟩
theorem b_ge (h : decide (a ≥ b) = r) : (eqGuard .geq t x y (.int k a) (.int k b)).run P w = .ok () w ∧ (binOp .geq t (.int k a) (.int k b)).run P w = .ok (.bool r) w := by
  subst h; exact ⟨by simp [eqGuard], by simp [binOp, Op.intCmp]⟩
end

/-! ### Code -/
section
variable {P : Program} {K : Act → World → Prop} {Q : Exit → Act → World → Prop} {a : Act} {w : World} {id j : Nat} {n : Nat} {T : List (Nat × Value)}
theorem t_norm (h : K a w) : Exit.then K Q .normal a w := h
theorem t_exit (h : Q (.exit j) a w) : Exit.then K Q (.exit j) a w := h
theorem t_ret (h : Q .ret a w) : Exit.then K Q .ret a w := h
theorem i_norm (h : Q .normal a w) : Exit.inBlock id Q .normal a w := h
theorem i_ret (h : Q .ret a w) : Exit.inBlock id Q .ret a w := h
theorem i_here (h : Q .normal a w) : Exit.inBlock id Q (.exit id) a w := by simp only [Exit.inBlock, if_true]; exact h
theorem i_past (hne : j ≠ id) (h : Q (.exit j) a w) : Exit.inBlock id Q (.exit j) a w := by simp only [Exit.inBlock, if_neg hne]; exact h
theorem c_true {c : Operand} {x y : Code} (hA : St n T a) (hc : ev T c = some (.bool true)) (h : x.wp P Q a w) : (Code.cond c x y).wp P Q a w := wp_cond_true (hA.ev hc) h
theorem c_false {c : Operand} {x y : Code} (hA : St n T a) (hc : ev T c = some (.bool false)) (h : y.wp P Q a w) : (Code.cond c x y).wp P Q a w := wp_cond_false (hA.ev hc) h
def argT : List Value → Nat → List (Nat × Value)
  | [], _ => []
  | v :: vs, k => (k, v) :: argT vs (k + 1)
theorem argT_look (t : Nat) (v : Value) : ∀ (vs : List Value) (k : Nat), (argT vs k).lookup t = some v → k ≤ t ∧ vs[t - k]? = some v
  | [], _, h => by simp [argT] at h
  | u :: vs, k, h => by
    unfold argT at h
    rw [List.lookup_cons] at h
    by_cases ht : t = k
    · subst ht; simp at h; subst h; simp
    · have : (t == k) = false := by simpa using ht
      simp only [this] at h
      obtain ⟨h1, h2⟩ := argT_look t v vs (k + 1) h
      refine ⟨by omega, ?_⟩
      rw [show t - k = (t - (k + 1)) + 1 by omega]; simpa using h2
theorem enter {f : FuncId} {fn : Func} {c : Code} {args : List Value} {R : Ending → World → Prop} (hf : P.funcs[f]? = some fn) (hb : fn.body = some c) (hn : fn.ntmps = n) (hl : args.length ≤ n)
    (h : ∀ a, St n (argT args 0) a → c.wp P (bodyPost P fn R) a w) : Calls P f args.toArray w R := by
  refine calls_of_wp hf hb (h _ ⟨by simp [hn]; omega, rfl, fun t v hv => ?_⟩)
  obtain ⟨_, h2⟩ := argT_look t v args 0 hv
  have hlt : t < args.length := (List.getElem?_eq_some_iff.1 h2).1
  simp only [Nat.sub_zero] at h2
  simp [Array.getD_eq_getD_getElem?, Array.getElem?_append, hlt] at h2 ⊢
  exact h2
theorem ret1 {fn : Func} {R : Ending → World → Prop} {t : Tmp} {v : Value} (hr : fn.results = #[.tmp t]) (hA : St n T a) (hv : ev T (.tmp t) = some v) (h : R (.returned v) w) : bodyPost P fn R .ret a w :=
  ⟨hA.defers, v, by have := hA.ev hv; simp only [Act.eval] at this; simp [results, hr, ← this], h⟩
theorem end1 {fn : Func} {R : Ending → World → Prop} {t : Tmp} {v : Value} (hr : fn.results = #[.tmp t]) (hA : St n T a) (hv : ev T (.tmp t) = some v) (h : R (.returned v) w) : bodyPost P fn R .normal a w :=
  ⟨hA.defers, v, by have := hA.ev hv; simp only [Act.eval] at this; simp [results, hr, ← this], h⟩
theorem retRow {fn : Func} {R : Ending → World → Prop} {p : Tmp} {t t' : TypeId} {g : Nat} {cs : Array Value} (hr : fn.results = #[.cell p t]) (hA : St n T a) (hv : ev T (.tmp p) = some (.pointer (some ⟨g, 0, none⟩))) (hb : Blk w g cs t') (h1 : rowB P t cs.size = true) (h : R (.returned (.agg cs)) w) : bodyPost P fn R .ret a w := by
  obtain ⟨⟨dd, h2, _, h3⟩, h4⟩ := row_facts h1
  exact ⟨hA.defers, _, results_cell_row hr a.tmps w g t' cs (0, 0) dd (hA.ev hv) hb h2 (by cases dd <;> simp_all) h4, h⟩
end
end Go.Proofs.Ytiglneecmibgmaa
/- The law on regions that draw their order, for the engine: each operation keeps what is claimed of those done, whatever the order. -/
namespace Go.Proofs.Ytiglneecmibgmaa
open Go.RowKit

/-- what is claimed of an operation's value, and of memory, behind it: no step of the region turns it -/
structure Cl (S : World → World → Prop) where
  P : Value → World → Prop
  st : ∀ v w w', S w w' → P v w → P v w'
def cv {S : World → World → Prop} (v : Value) : Cl S := ⟨fun x _ => x = v, fun _ _ _ _ h => h⟩
def cfree {S : World → World → Prop} : Cl S := ⟨fun _ _ => True, fun _ _ _ _ h => h⟩
def valOf (ops : Array Oper) (a : Act) (j : Nat) : Value := match dstOf ops j with | some d => a.tmps.getD d undef | none => undef
def waits (o : Oper) (j : Nat) : Bool := o.after.toList.any fun e => Region.binds .any e && e.on == j
def puts : List Oper → (Nat → Value) → Nat → List (Nat × Value)
  | [], _, _ => []
  | o :: os, f, k => ext (puts os f (k + 1)) o.dst (f k)
/-- each slot is filled once; what an operation must wait for stands ahead of it; what is known is not filled -/
def fitB (ops : Array Oper) (n : Nat) (T : List (Nat × Value)) : Bool :=
  ((List.range ops.size).all fun i => match ops[i]? with
    | some o => (match o.dst with
      | some d => decide (d < n) && ((List.range ops.size).all fun j => i == j || dstOf ops j != some d) && T.all fun x => x.1 != d
      | none => true) && o.after.all fun e => !Region.binds .any e || decide (e.on < i)
    | none => false)
theorem fit_spec {ops : Array Oper} {n i : Nat} {T : List (Nat × Value)} {o : Oper} (h : fitB ops n T = true) (hi : ops[i]? = some o) :
    (∀ d, o.dst = some d → d < n ∧ (∀ j, j < ops.size → dstOf ops j = some d → j = i) ∧ ∀ x ∈ T, x.1 ≠ d) ∧ ∀ e ∈ o.after, Region.binds .any e = true → e.on < i := by
  have hlt : i < ops.size := (Array.getElem?_eq_some_iff.1 hi).1
  unfold fitB at h
  rw [List.all_eq_true] at h
  have h1 := h i (by simpa using hlt)
  simp only [hi] at h1
  rw [Bool.and_eq_true] at h1
  obtain ⟨h2, h3⟩ := h1
  refine ⟨fun d hd => ?_, fun e he hb => ?_⟩
  · simp only [hd, Bool.and_eq_true, decide_eq_true_eq, List.all_eq_true] at h2
    refine ⟨h2.1.1, fun j hj hjd => ?_, fun x hx => by simpa using h2.2 x hx⟩
    have := h2.1.2 j (by simpa using hj)
    simp only [hjd, Bool.or_eq_true, beq_iff_eq, bne_self_eq_false, Bool.false_eq_true, or_false] at this
    exact this.symm
  · have := (Array.all_eq_true_iff_forall_mem.1 h3) e he
    simpa [hb] using this
theorem lookup_mem {T : List (Nat × Value)} {t : Nat} {v : Value} (h : T.lookup t = some v) : (t, v) ∈ T := by
  induction T with
  | nil => simp at h
  | cons x l ih =>
    rw [List.lookup_cons] at h
    by_cases hx : t = x.1
    · subst hx; simp at h; subst h; simp
    · have : (t == x.1) = false := by simpa using hx
      simp only [this] at h
      exact List.mem_cons_of_mem _ (ih h)
def seenV (o : Oper) (v : Value) : Value := match o.dst with | some _ => v | none => undef
/-- what is owed for operation i -/
def Obl (P : Program) (ops : Array Oper) (S : World → World → Prop) (n : Nat) (T : List (Nat × Value)) (tab : Nat → Cl S) (w : World) (i : Nat) (o : Oper) : Prop :=
  ∀ a' w', S w w' → St n T a' → (∀ j, waits o j = true → (tab j).P (valOf ops a' j) w') → Does P ops o a' w' fun v w'' => S w' w'' ∧ (tab i).P (seenV o v) w''
theorem puts_look {t : Nat} {v : Value} (f : Nat → Value) (T : List (Nat × Value)) : ∀ (l : List Oper) (k : Nat), (puts l f k ++ T).lookup t = some v →
    (∃ i o, l[i]? = some o ∧ o.dst = some t ∧ v = f (k + i)) ∨ T.lookup t = some v
  | [], _, h => .inr (by simpa [puts] using h)
  | o :: os, k, h => by
    unfold puts at h
    cases hd : o.dst with
    | none =>
      rw [hd] at h
      rcases puts_look f T os (k + 1) h with ⟨i, o', h1, h2, h3⟩ | h'
      · exact .inl ⟨i + 1, o', by simpa using h1, h2, by rw [h3]; congr 1; omega⟩
      · exact .inr h'
    | some d =>
      rw [hd] at h
      simp only [ext, List.cons_append] at h
      rw [List.lookup_cons] at h
      by_cases ht : t = d
      · subst ht
        simp at h
        exact .inl ⟨0, o, by simp, hd, by simp [h]⟩
      · have : (t == d) = false := by simpa using ht
        simp only [this] at h
        rcases puts_look f T os (k + 1) h with ⟨i, o', h1, h2, h3⟩ | h'
        · exact .inl ⟨i + 1, o', by simpa using h1, h2, by rw [h3]; congr 1; omega⟩
        · exact .inr h'
theorem set_ne {l : Array Bool} {i k : Nat} (b : Bool) (h : i ≠ k) : (l.setIfInBounds i true).getD k b = l.getD k b := by
  simp [Array.getD_eq_getD_getElem?, Array.getElem?_setIfInBounds_ne h]
section
variable {P : Program} {l : List Oper} {Q : Exit → Act → World → Prop} {S : World → World → Prop} {n : Nat} {T : List (Nat × Value)} {w : World}
theorem drawn_any (tab : Nat → Cl S) (htrans : ∀ a b c, S a b → S b c → S a c) (hfit : fitB l.toArray n T = true)
    (hop : ∀ i o, l[i]? = some o → Obl P l.toArray S n T tab w i o)
    (hend : ∀ f a' w', S w w' → (∀ i, i < l.length → (tab i).P (f i) w') → St n (puts l f 0 ++ T) a' → Q .normal a' w') :
    ∀ (fuel : Nat) (listed : Array Bool) (a' : Act) (w' : World), listed.size = l.length → ((List.range l.length).filter fun i => !listed.getD i true).length ≤ fuel → S w w' → St n T a' →
      (∀ i, i < l.length → listed.getD i false = true → (tab i).P (valOf l.toArray a' i) w') → wpAny P .any l.toArray Q fuel listed a' w' := by
  have last : ∀ (listed : Array Bool) (a' : Act) (w' : World), listed.size = l.length → Region.ready .any l.toArray listed = [] → S w w' → St n T a' →
      (∀ i, i < l.length → listed.getD i false = true → (tab i).P (valOf l.toArray a' i) w') → Q .normal a' w' := by
    intro listed a' w' hls hr hS hT hin
    have all : ∀ i, i < l.length → listed.getD i false = true := by
      intro i
      induction i using Nat.strongRecOn with
      | _ i ih =>
        intro hi
        cases hl : listed.getD i false with
        | true => rfl
        | false =>
          exfalso
          have : i ∈ Region.ready .any l.toArray listed := by
            rw [mem_ready]
            have hli : i < listed.size := by omega
            have hoi : l.toArray[i]? = some l[i] := by simp [hi]
            refine ⟨by simpa [hli] using hl, l[i], hoi, fun e he hb => ?_⟩
            have hlt := (fit_spec hfit hoi).2 e he hb
            exact ih e.on hlt (by omega)
          rw [hr] at this; cases this
    refine hend (valOf l.toArray a') a' w' hS (fun i hi => hin i hi (all i hi)) ⟨hT.size, hT.defers, fun t v hv => ?_⟩
    rcases puts_look (valOf l.toArray a') T l 0 hv with ⟨i, o, h1, h2, h3⟩ | h
    · have hd : dstOf l.toArray i = some t := by simp [dstOf, h1, h2]
      rw [h3, Nat.zero_add]; unfold valOf; rw [hd]
    · exact hT.get t v h
  intro fuel
  induction fuel with
  | zero =>
    intro listed a' w' hls hf hS hT hin
    have hr : Region.ready .any l.toArray listed = [] := by
      unfold Region.ready
      rw [List.filter_eq_nil_iff]
      intro i hi
      have hnil : ((List.range l.length).filter fun i => !listed.getD i true) = [] := List.eq_nil_of_length_eq_zero (by omega)
      rw [List.filter_eq_nil_iff] at hnil
      have := hnil i (by simpa using hi)
      simp only [Bool.not_eq_true, Bool.not_eq_false'] at this
      simp [this]
    exact ⟨hr, last listed a' w' hls hr hS hT hin⟩
  | succ fuel ih =>
    intro listed a' w' hls hf hS hT hin
    refine ⟨fun hr => last listed a' w' hls hr hS hT hin, fun i hi => ?_⟩
    obtain ⟨hun, o, hoi, hall⟩ := mem_ready.1 hi
    have hil : i < l.length := by have := (Array.getElem?_eq_some_iff.1 hoi).1; simpa using this
    have hoi' : l[i]? = some o := by simpa using hoi
    obtain ⟨hfd, hfe⟩ := fit_spec hfit hoi
    have hk : ∀ j, waits o j = true → (tab j).P (valOf l.toArray a' j) w' := fun j hj => by
      unfold waits at hj
      rw [List.any_eq_true] at hj
      obtain ⟨e, he', hb⟩ := hj
      have he : e ∈ o.after := by simpa using he'
      simp only [Bool.and_eq_true, beq_iff_eq] at hb
      have := hfe e he hb.1
      rw [← hb.2]
      exact hin e.on (by omega) (hall e he hb.1)
    have go : ∀ (v : Value) (w2 : World), S w' w2 → (tab i).P (seenV o v) w2 → wpAny P .any l.toArray Q fuel (listed.setIfInBounds i true) (a'.put o.dst v) w2 := by
      intro v w2 hS2 hv
      have hT2 : St n T (a'.put o.dst v) := by
        cases hd : o.dst with
        | none => exact hT
        | some d =>
          obtain ⟨hdn, _, hTd⟩ := hfd d hd
          have hp := hT.put hdn v
          refine ⟨hp.size, hp.defers, fun t u hu => hp.get t u ?_⟩
          have hne : t ≠ d := hTd (t, u) (lookup_mem hu)
          rw [List.lookup_cons]
          have : (t == d) = false := by simpa using hne
          simp only [this]; exact hu
      refine ih _ _ _ (by simpa using hls) ?_ (htrans _ _ _ hS hS2) hT2 (fun j hj hlj => ?_)
      · have hlt : i < listed.size := by omega
        have : ((List.range l.length).filter fun k => !(listed.setIfInBounds i true).getD k true).length < ((List.range l.length).filter fun k => !listed.getD k true).length := by
          have hsub : ((List.range l.length).filter fun k => !(listed.setIfInBounds i true).getD k true) = ((List.range l.length).filter fun k => !listed.getD k true).filter (fun k => k != i) := by
            rw [List.filter_filter]
            apply List.filter_congr
            intro k _
            by_cases hk : k = i
            · subst hk; simp [hlt]
            · rw [set_ne true (Ne.symm hk)]; simp [hk]
          rw [hsub]
          refine List.length_filter_lt_length_iff_exists.2 ⟨i, ?_, by simp⟩
          simp only [List.mem_filter, List.mem_range]
          exact ⟨hil, by rw [hun]; rfl⟩
        omega
      · by_cases hji : j = i
        · subst hji
          have : valOf l.toArray (a'.put o.dst v) j = seenV o v := by
            cases hd : o.dst with
            | none =>
              have hdi : dstOf l.toArray j = none := by simp [dstOf, hoi', hd]
              unfold valOf seenV; rw [hdi, hd]
            | some d =>
              have hdi : dstOf l.toArray j = some d := by simp [dstOf, hoi', hd]
              have hdl : d < a'.tmps.size := by rw [hT.size]; exact (hfd d hd).1
              unfold valOf seenV; rw [hdi, hd]; simp [Act.put, hdl]
          rw [this]; exact hv
        · have h1 := hin j hj (by rwa [set_ne false (Ne.symm hji)] at hlj)
          have h2 : valOf l.toArray (a'.put o.dst v) j = valOf l.toArray a' j := by
            unfold valOf
            cases hdj : dstOf l.toArray j with
            | none => rfl
            | some d' =>
              cases hd : o.dst with
              | none => rfl
              | some d =>
                have hne : d ≠ d' := fun e => by subst e; exact hji ((hfd d hd).2.1 j (by simpa using hj) hdj)
                simp [Act.put, Array.getD_eq_getD_getElem?, Array.getElem?_setIfInBounds_ne hne]
          rw [h2]; exact (tab j).st _ _ _ hS2 h1
    unfold wpOp
    rcases hop i o hoi' a' w' hS hT hk with ⟨hw, h⟩ | ⟨hw, h⟩
    · simp only [hoi, hw, if_true]
      refine .inl (Oper.wp_mono (fun a2 w2 h => ?_) (h Q))
      obtain ⟨v, rfl, hS2, hv⟩ := h
      exact go v w2 hS2 hv
    · simp only [hoi, hw, Bool.false_eq_true, if_false]
      exact go undef w' h.1 h.2
def Eachs (P : Program) (ops : Array Oper) (S : World → World → Prop) (n : Nat) (T : List (Nat × Value)) (tab : Nat → Cl S) (w : World) (k : Nat) (l : List Oper) : Prop := ∀ i o, l[i]? = some o → Obl P ops S n T tab w (k + i) o
theorem each_nil {ops : Array Oper} {tab : Nat → Cl S} {k : Nat} : Eachs P ops S n T tab w k [] := fun i o h => by simp at h
theorem each_cons {ops : Array Oper} {tab : Nat → Cl S} {k : Nat} {o : Oper} {os : List Oper} (h : Obl P ops S n T tab w k o) (ht : Eachs P ops S n T tab w (k + 1) os) : Eachs P ops S n T tab w k (o :: os) := fun i p hp => by
  cases i with
  | zero => simp at hp; subst hp; exact h
  | succ i => have := ht i p (by simpa using hp); rwa [show k + 1 + i = k + (i + 1) by omega] at this
/-- THE LAW. -/
theorem drawn {id : Nat} {a : Act} (tab : Nat → Cl S) (hm : P.follows .mixedOrders = true) (hrefl : ∀ w, S w w) (htrans : ∀ a b c, S a b → S b c → S a c) (hdrew : ∀ w : World, S w w.drew) (hA : St n T a) (hfit : fitB l.toArray n T = true)
    (hop : Eachs P l.toArray S n T tab w.drew 0 l)
    (hend : ∀ f a' w', S w w' → (∀ i, i < l.length → (tab i).P (f i) w') → St n (puts l f 0 ++ T) a' → Q .normal a' w') : (Code.region id l.toArray true).wp P Q a w := by
  refine wp_region_any hm ?_
  refine drawn_any (w := w.drew) tab htrans hfit (fun i o h => by have := hop i o h; rwa [Nat.zero_add] at this) (fun f a' w' hS => hend f a' w' (htrans _ _ _ (hdrew w) hS)) _ _ _ _ (by simp) ?_ (hrefl _) hA (fun i _ hi => ?_)
  · refine Nat.le_trans (List.length_filter_le _ _) (by simp)
  · exfalso
    simp [Array.getD_eq_getD_getElem?, Array.getElem?_replicate] at hi; split at hi <;> simp at hi
end

/-! ### Worlds that grow, some blocks of the call's own going forward to what they will hold -/
structure SM (M : Nat → Option (Array Value)) (w w' : World) : Prop where
  os : w'.os = w.os
  tape : w'.tape = w.tape
  output : w'.output = w.output
  size : w.heap.size ≤ w'.heap.size
  block : ∀ k, k < w.heap.size → M k = none → w'.heap[k]? = w.heap[k]?
  turns : ∀ k fin cs t, M k = some fin → Blk w k cs t → ∃ cs', Blk w' k cs' t ∧ cs'.size = cs.size ∧ ∀ j : Nat, cs'[j]? = cs[j]? ∨ cs'[j]? = fin[j]?
theorem SM.refl {M : Nat → Option (Array Value)} (w : World) : SM M w w := ⟨rfl, rfl, rfl, Nat.le_refl _, fun _ _ _ => rfl, fun _ _ cs _ _ h => ⟨cs, h, rfl, fun _ => .inl rfl⟩⟩
theorem SM.trans {M : Nat → Option (Array Value)} (a b c : World) (h : SM M a b) (k : SM M b c) : SM M a c :=
  ⟨k.os.trans h.os, k.tape.trans h.tape, k.output.trans h.output, Nat.le_trans h.size k.size, fun i hi hm => (k.block i (Nat.lt_of_lt_of_le hi h.size) hm).trans (h.block i hi hm), fun i fin cs t hm hb => by
    obtain ⟨cs1, h1, h2, h3⟩ := h.turns i fin cs t hm hb
    obtain ⟨cs2, k1, k2, k3⟩ := k.turns i fin cs1 t hm h1
    refine ⟨cs2, k1, k2.trans h2, fun j => ?_⟩
    rcases k3 j with e | e
    · rcases h3 j with e' | e'
      · exact .inl (e.trans e')
      · exact .inr (e.trans e')
    · exact .inr e⟩
theorem SM.grow {M : Nat → Option (Array Value)} {w w' : World} (h : Grow w w') : SM M w w' :=
  ⟨h.os, h.tape, h.output, h.size, fun k hk _ => h.block k hk, fun _ _ cs _ _ hb => ⟨cs, hb.grow h, rfl, fun _ => .inl rfl⟩⟩
theorem SM.drew {M : Nat → Option (Array Value)} (w : World) : SM M w w.drew := SM.grow (Grow.refl w).drew
theorem SM.grown {w w' : World} (h : SM (fun _ => none) w w') : Grow w w' := ⟨h.os, h.tape, h.output, h.size, fun k hk => h.block k hk rfl⟩
theorem SM.below {M : Nat → Option (Array Value)} {B : Nat} {a w w' : World} (h : SM M w w') (hb : Below B a w) (hB : B ≤ w.heap.size) (hM : ∀ k, k < B → M k = none) : Below B a w' :=
  hb.trans ⟨h.os, h.tape, h.output, h.size, fun k hk => h.block k (by omega) (hM k hk)⟩
theorem Blk.sm {M : Nat → Option (Array Value)} {w w' : World} {g : Nat} {cs : Array Value} {t : TypeId} (hb : Blk w g cs t) (h : SM M w w') (hM : M g = none) : Blk w' g cs t := by
  unfold Blk; rw [h.block g hb.lt hM]; exact hb
theorem SM.store {M : Nat → Option (Array Value)} {w w' : World} {g k : Nat} {fin cs : Array Value} {t : TypeId} {v : Value} (hM : M g = some fin) (hu : Upd g w w') (hb : Blk w g cs t) (hb' : Blk w' g (cs.setIfInBounds k v) t) (hf : fin[k]? = some v) (hk : k < cs.size) : SM M w w' :=
  ⟨hu.os, hu.tape, hu.output, Nat.le_of_eq hu.size.symm, fun i _ hm => hu.block i (fun e => by subst e; rw [hM] at hm; cases hm), fun i fin' cs' t' hm hbi => by
    by_cases hi : i = g
    · subst hi
      rw [hM] at hm; cases hm
      unfold Blk at hb hbi
      rw [hb] at hbi
      injection hbi with hbi; injection hbi with h1 h2
      subst h1; subst h2
      refine ⟨_, hb', by simp, fun j => ?_⟩
      by_cases hj : k = j
      · subst hj; right; simp [hk, hf]
      · left; rw [Array.getElem?_setIfInBounds_ne hj]
    · exact ⟨cs', hbi.upd hu hi, rfl, fun _ => .inl rfl⟩⟩
/-- a cell that holds what it will hold -/
def cm (M : Nat → Option (Array Value)) (g k : Nat) (v : Value) (h : ∃ fin, M g = some fin ∧ fin[k]? = some v) : Cl (SM M) :=
  ⟨fun _ w => ∃ cs t, Blk w g cs t ∧ cs[k]? = some v, fun _ w w' hS ⟨cs, t, hb, hc⟩ => by
    obtain ⟨fin, hM, hf⟩ := h
    obtain ⟨cs', h1, _, h3⟩ := hS.turns g fin cs t hM hb
    refine ⟨cs', t, h1, ?_⟩
    rcases h3 k with e | e
    · rw [e]; exact hc
    · rw [e]; exact hf⟩
def setAll (cs : Array Value) : List (Nat × Value) → Array Value
  | [] => cs
  | x :: xs => setAll (cs.setIfInBounds x.1 x.2) xs
theorem setAll_size : ∀ (xs : List (Nat × Value)) (cs : Array Value), (setAll cs xs).size = cs.size
  | [], _ => rfl
  | x :: xs, cs => by rw [setAll, setAll_size xs]; simp
theorem setAll_out (j : Nat) : ∀ (xs : List (Nat × Value)) (cs : Array Value), (∀ x ∈ xs, x.1 ≠ j) → (setAll cs xs)[j]? = cs[j]?
  | [], _, _ => rfl
  | x :: xs, cs, h => by rw [setAll, setAll_out j xs _ (fun y hy => h y (by simp [hy])), Array.getElem?_setIfInBounds_ne (h x (by simp))]
/-- the block holds what it was to hold, once all stores are done -/
theorem SM.fin {M : Nat → Option (Array Value)} {w w' : World} {g : Nat} {cs : Array Value} {t : TypeId} (h : SM M w w') (xs : List (Nat × Value)) (hM : M g = some (setAll cs xs)) (hb : Blk w g cs t)
    (hx : ∀ x ∈ xs, ∃ cs' t', Blk w' g cs' t' ∧ cs'[x.1]? = (setAll cs xs)[x.1]?) : Blk w' g (setAll cs xs) t := by
  obtain ⟨cs', h1, h2, h3⟩ := h.turns g _ cs t hM hb
  have : cs' = setAll cs xs := by
    apply Array.ext_getElem?
    intro j
    by_cases hj : ∃ x ∈ xs, x.1 = j
    · obtain ⟨x, hxm, rfl⟩ := hj
      obtain ⟨cs'', t'', k1, k2⟩ := hx x hxm
      unfold Blk at h1 k1
      rw [h1] at k1
      injection k1 with k1; injection k1 with e1 e2
      subst e1; exact k2
    · rcases h3 j with e | e
      · rw [e, setAll_out j xs cs (fun x hx e => hj ⟨x, hx, e⟩)]
      · exact e
  subst this; exact h1
theorem SM.finL {M : Nat → Option (Array Value)} {w w' : World} {g : Nat} {cs fin : Array Value} {t : TypeId} (h : SM M w w') (xs : List (Nat × Value)) (hM : M g = some fin) (hfin : setAll cs xs = fin) (hb : Blk w g cs t)
    (hx : ∀ x ∈ xs, ∃ cs' t', Blk w' g cs' t' ∧ cs'[x.1]? = fin[x.1]?) : Blk w' g fin t := by
  subst hfin; exact h.fin xs hM hb hx
def tabL {S : World → World → Prop} (L : List (Cl S)) (i : Nat) : Cl S := (L[i]?).getD cfree
theorem fm_nil {R : Nat × Value → Prop} : ∀ x ∈ ([] : List (Nat × Value)), R x := fun _ h => by cases h
theorem fm_cons {R : Nat × Value → Prop} {y : Nat × Value} {l : List (Nat × Value)} (h : R y) (ht : ∀ x ∈ l, R x) : ∀ x ∈ y :: l, R x := List.forall_mem_cons.2 ⟨h, ht⟩
section
variable {P : Program} {ops : Array Oper} {a : Act} {w w0 : World} {K : Value → World → Prop} {d : Option Tmp} {ty : TypeId} {pos : String} {af : Array Edge} {gd : Option (Nat × Bool)} {v : Value} {M : Nat → Option (Array Value)}
theorem d_storeM {t t' : TypeId} {x y : Operand} {g k : Nat} {fin cs : Array Value} (hw : Region.wanted { dst := d, op := .store t x y, type := ty, pos := pos, after := af, guard := gd } (yielded ops a.tmps) = true) (hx : a.eval x = .pointer (some ⟨g, k, none⟩)) (hy : a.eval y = v)
    (h1 : oneB P t = true) (ho : v.oneCell' = true) (hS : SM M w0 w) (hM : M g = some fin) (hb : Blk w0 g cs t') (hk : k < cs.size) (hf : fin[k]? = some v) (hK : ∀ w', SM M w w' ∧ (∃ cs t, Blk w' g cs t ∧ cs[k]? = some v) → K undef w') :
    Does P ops { dst := d, op := .store t x y, type := ty, pos := pos, after := af, guard := gd } a w K := by
  obtain ⟨cs', hb', hs', _⟩ := hS.turns g fin cs t' hM hb
  have hk' : k < cs'.size := by omega
  exact d_store hw hx hy h1 ho hb' hk' fun w' hu hb2 => hK w' ⟨SM.store hM hu hb' hb2 hf hk', _, _, hb2, by simp [hk']⟩
/-- the places of a struct's fields, off closed facts -/
def placesOf (P : Program) (t : TypeId) : Option (List (Nat × Nat)) :=
  match P.underlying t with
  | some (.struct fs) => fs.toList.mapM fun f => (P.info? f.type).map fun i => (f.offset, i.size)
  | _ => none
theorem run_places {P : Program} (w : World) : ∀ (fs : List Field) (ps : List (Nat × Nat)), fs.mapM (fun f => (P.info? f.type).map fun i => (f.offset, i.size)) = some ps → (fs.mapM (fun f => do pure (f.offset, ← sizeOf f.type) : Field → Sem (Nat × Nat))).run P w = .ok ps w
  | [], ps, h => by simp at h; subst h; simp
  | f :: fs, ps, h => by
    rw [List.mapM_cons] at h
    cases hi : P.info? f.type with
    | none => simp [hi] at h
    | some i =>
      cases hr : fs.mapM (fun f => (P.info? f.type).map fun i => (f.offset, i.size)) with
      | none => simp [hi, hr] at h
      | some qs =>
        simp [hi, hr] at h
        subst h
        have ih := run_places w fs qs hr
        have hz : (sizeOf f.type).run P w = .ok i.size w := by simp [sizeOf, typeInfo, hi]
        rw [List.mapM_cons]
        simp only [Sem.run_bind, hz, Result.andThen_ok, Sem.run_pure, ih]
theorem d_build {t : TypeId} {parts : Array (Nat × Operand)} {vs : List (Nat × Value)} {z : Value} {m : Nat} {ps : List (Nat × Nat)} {cs : Array Value} (hw : Region.wanted { dst := d, op := .build t parts, type := ty, pos := pos, after := af, guard := gd } (yielded ops a.tmps) = true)
    (hx : (parts.map fun x => (x.1, a.eval x.2)).toList = vs) (hi : (P.info? t).map (fun i => (i.zero, i.size)) = some (some z, m)) (hp : placesOf P t = some ps) (hf : Instr.fill (fun i => ps[i]?) z.cells vs = some cs) (h : K (.agg cs) w) :
    Does P ops { dst := d, op := .build t parts, type := ty, pos := pos, after := af, guard := gd } a w K :=
  does_val hw (by
    have hz := (zero_of_info hi).1 w
    unfold placesOf at hp
    split at hp
    · rename_i fs hu
      have hpl := run_places (P := P) w fs.toList ps hp
      have hpl' : (fs.mapM (fun f => do pure (f.offset, ← sizeOf f.type) : Field → Sem (Nat × Nat))).run P w = .ok ps.toArray w := by
        rw [← Array.toArray_toList (xs := fs), List.mapM_toArray]
        simp only [Sem.run_map, hpl, Result.andThen_ok]
      have hf' : Instr.fill (fun i => ps.toArray[i]?) z.cells (parts.map fun x => (x.1, a.eval x.2)).toList = some cs := by rw [hx]; simpa using hf
      unfold execOp
      simp only [Sem.run_bind, Instr.build, hz, Result.andThen_ok, run_underlying hu, hpl', hf', Sem.run_pure]
    · cases hp) h
theorem map0 {ρ : Operand → Value} : (#[] : Array Operand).map ρ = #[] := by simp
theorem map1 {ρ : Operand → Value} {x0 : Operand} {v0 : Value} (h0 : ρ x0 = v0) : #[x0].map ρ = #[v0] := by simp [h0]
theorem map2 {ρ : Operand → Value} {x0 x1 : Operand} {v0 v1 : Value} (h0 : ρ x0 = v0) (h1 : ρ x1 = v1) : #[x0, x1].map ρ = #[v0, v1] := by simp [h0, h1]
theorem map3 {ρ : Operand → Value} {x0 x1 x2 : Operand} {v0 v1 v2 : Value} (h0 : ρ x0 = v0) (h1 : ρ x1 = v1) (h2 : ρ x2 = v2) : #[x0, x1, x2].map ρ = #[v0, v1, v2] := by simp [h0, h1, h2]
theorem map4 {ρ : Operand → Value} {x0 x1 x2 x3 : Operand} {v0 v1 v2 v3 : Value} (h0 : ρ x0 = v0) (h1 : ρ x1 = v1) (h2 : ρ x2 = v2) (h3 : ρ x3 = v3) : #[x0, x1, x2, x3].map ρ = #[v0, v1, v2, v3] := by simp [h0, h1, h2, h3]
theorem bp_nil {ρ : Operand → Value} : ((#[] : Array (Nat × Operand)).map fun x => (x.1, ρ x.2)).toList = [] := by simp
theorem bp_of {ρ : Operand → Value} {l : List (Nat × Operand)} {vs : List (Nat × Value)} (h : l.map (fun x => (x.1, ρ x.2)) = vs) : (l.toArray.map fun x => (x.1, ρ x.2)).toList = vs := by simp [h]
theorem bq_nil {ρ : Operand → Value} : ([] : List (Nat × Operand)).map (fun x => (x.1, ρ x.2)) = [] := rfl
theorem bq_cons {ρ : Operand → Value} {i : Nat} {x : Operand} {v : Value} {l : List (Nat × Operand)} {vs : List (Nat × Value)} (h : ρ x = v) (ht : l.map (fun x => (x.1, ρ x.2)) = vs) : ((i, x) :: l).map (fun x => (x.1, ρ x.2)) = (i, v) :: vs := by simp [h, ht]
end
end Go.Proofs.Ytiglneecmibgmaa
/- Equality of structs whose fields are numbers and truths; fields of values; results of several parts. -/
namespace Go.Proofs.Ytiglneecmibgmaa
open Go.RowKit

def shp : Bool → Option Value → Option Value → Option Bool
  | false, some (.int k a), some (.int k' b) => if k = k' then some (a == b) else none
  | true, some (.bool a), some (.bool b) => some (a == b)
  | _, _, _ => none
/-- the fields of a struct of numbers and truths: where each lies, whether it is a truth -/
def flatL (P : Program) : List Field → Option (List (Nat × Bool))
  | [] => some []
  | f :: fs => if f.name = "_" then none else match P.underlying f.type with
    | some .bool => (flatL P fs).map ((f.offset, true) :: ·)
    | some (.int _) => (flatL P fs).map ((f.offset, false) :: ·)
    | _ => none
def shps (xs ys : Array Value) : List (Nat × Bool) → Option (List Bool)
  | [] => some []
  | x :: l => match shp x.2 xs[x.1]? ys[x.1]?, shps xs ys l with
    | some b, some bs => some (b :: bs)
    | _, _ => none
section
variable {P : Program}
theorem part_one {t : TypeId} {cs : Array Value} {o : Nat} {v : Value} (w : World) (h : (isAgg t).run P w = .ok false w) (hv : cs[o]? = some v) : (part t cs o).run P w = .ok v w := by
  simp [part, h, hv]
theorem eqFields_flat (d : Nat) (w : World) (xs ys : Array Value) : ∀ (fs : List Field) (offs : List (Nat × Bool)) (bs : List Bool), flatL P fs = some offs → shps xs ys offs = some bs →
    (Op.eqFields (d + 1) xs ys fs).run P w = .ok (bs.all id) w
  | [], offs, bs, hf, hb => by simp [flatL] at hf; subst hf; simp [shps] at hb; subst hb; simp [Op.eqFields]
  | f :: fs, offs, bs, hf, hb => by
    unfold flatL at hf
    split at hf
    · cases hf
    rename_i hname
    cases hu : P.underlying f.type with
    | none => simp [hu] at hf
    | some dd =>
      have key : ∀ (isb : Bool) (l : List (Nat × Bool)), flatL P fs = some l → offs = (f.offset, isb) :: l → (isAgg f.type).run P w = .ok false w →
          (∀ a b r, shp isb (some a) (some b) = some r → (Op.equalIn (d + 1) f.type a b).run P w = .ok r w) → (Op.eqFields (d + 1) xs ys (f :: fs)).run P w = .ok (bs.all id) w := by
        intro isb l hl ho hagg heq
        subst ho
        unfold shps at hb
        simp only at hb
        cases hs : shp isb xs[f.offset]? ys[f.offset]? with
        | none => simp [hs] at hb
        | some r =>
          cases hs2 : shps xs ys l with
          | none => simp [hs, hs2] at hb
          | some rs =>
            simp [hs, hs2] at hb
            subst hb
            have ih := eqFields_flat d w xs ys fs l rs hl hs2
            cases hx : xs[f.offset]? with
            | none => simp [hx, shp] at hs
            | some a =>
              cases hy : ys[f.offset]? with
              | none => rw [hx, hy] at hs; cases a <;> cases isb <;> simp [shp] at hs
              | some b =>
                rw [hx, hy] at hs
                unfold Op.eqFields
                simp only [ne_eq, hname, not_false_eq_true, if_true, Sem.run_bind, part_one w hagg hx, part_one w hagg hy, Result.andThen_ok, heq a b r hs]
                cases r
                · simp
                · simp [ih]
      cases dd with
      | bool =>
        simp only [hu] at hf
        cases hl : flatL P fs with
        | none => simp [hl] at hf
        | some l =>
          simp [hl] at hf
          refine key true l hl hf.symm (by simp [isAgg, run_underlying hu]) fun a b r hr => ?_
          cases a <;> cases b <;> simp [shp] at hr
          subst hr
          exact run_equalIn_bool w d f.type _ _ hu
      | int k =>
        simp only [hu] at hf
        cases hl : flatL P fs with
        | none => simp [hl] at hf
        | some l =>
          simp [hl] at hf
          refine key false l hl hf.symm (by simp [isAgg, run_underlying hu]) fun a b r hr => ?_
          cases a <;> cases b <;> simp [shp] at hr
          obtain ⟨rfl, rfl⟩ := hr
          exact run_equalIn_int w d f.type _ _ _ _ hu
      | _ => simp [hu] at hf
/-- a struct type whose parts are numbers and truths -/
def flatT (P : Program) (t : TypeId) : Option (List (Nat × Bool)) :=
  match P.underlying t with
  | some (.struct fs) => if P.stoodInHeld t || P.eqGuardType P.depth t then none else flatL P fs.toList
  | _ => none
theorem eq_flat {t : TypeId} {offs : List (Nat × Bool)} {xs ys : Array Value} {bs : List Bool} (w : World) (x y : Operand) (h : flatT P t = some offs) (hb : shps xs ys offs = some bs) :
    ((eqGuard .eql t x y (.agg xs) (.agg ys)).run P w = .ok () w ∧ (binOp .eql t (.agg xs) (.agg ys)).run P w = .ok (.bool (bs.all id)) w) ∧
    ((eqGuard .neq t x y (.agg xs) (.agg ys)).run P w = .ok () w ∧ (binOp .neq t (.agg xs) (.agg ys)).run P w = .ok (.bool (!bs.all id)) w) := by
  unfold flatT at h
  split at h
  · rename_i fs hu
    split at h
    · cases h
    · rename_i hs
      simp only [Bool.or_eq_true, not_or, Bool.not_eq_true] at hs
      have hf : P.fieldsOf t = fs := by unfold Program.fieldsOf; rw [hu]
      have he : (Op.equalIn 10000 t (.agg xs) (.agg ys)).run P w = .ok (bs.all id) w := by
        rw [run_equalIn_struct w 9999 t xs ys (by rw [hf]; exact hu) hs.1, hf]
        exact eqFields_flat 9998 w xs ys _ offs bs h hb
      refine ⟨⟨run_eqGuard_agg w _ t x y xs ys hs.2, ?_⟩, run_eqGuard_agg w _ t x y xs ys hs.2, ?_⟩
      · rw [run_eql_struct, he]; rfl
      · rw [run_neq_struct, he]; rfl
  · cases h
def fieldInfo (P : Program) (s f : Nat) : Option (TypeId × Nat) :=
  match P.underlying s with
  | some (.struct fs) => (fs[f]?).map fun fd => (fd.type, fd.offset)
  | _ => none
variable {ops : Array Oper} {a : Act} {w : World} {K : Value → World → Prop} {d : Option Tmp} {ty : TypeId} {pos : String} {af : Array Edge} {gd : Option (Nat × Bool)} {v : Value}
theorem d_field {s f ft off : Nat} {x : Operand} {cs : Array Value} (hw : Region.wanted { dst := d, op := .field s x f, type := ty, pos := pos, after := af, guard := gd } (yielded ops a.tmps) = true) (hx : a.eval x = .agg cs)
    (hf : fieldInfo P s f = some (ft, off)) (h1 : oneB P ft = true) (hv : cs[off]? = some v) (h : K v w) : Does P ops { dst := d, op := .field s x f, type := ty, pos := pos, after := af, guard := gd } a w K :=
  does_val hw (by
    unfold fieldInfo at hf
    split at hf
    · rename_i fs hu
      cases hq : fs[f]? with
      | none => simp [hq] at hf
      | some fd =>
        simp [hq] at hf
        obtain ⟨rfl, rfl⟩ := hf
        unfold execOp
        simp only [hx, Sem.run_bind, Instr.field, run_underlying hu, Result.andThen_ok, hq, asAgg, Sem.run_pure, part_one w (agg_no h1 w) hv]
    · cases hf) h
variable {n : Nat} {T : List (Nat × Value)}
theorem retCT {fn : Func} {R : Ending → World → Prop} {p q : Tmp} {t t' : TypeId} {g : Nat} {cs : Array Value} (hr : fn.results = #[.cell p t, .tmp q]) (hA : St n T a) (hv : ev T (.tmp p) = some (.pointer (some ⟨g, 0, none⟩))) (hq : ev T (.tmp q) = some v) (hb : Blk w g cs t') (h1 : rowB P t cs.size = true)
    (h : R (.returned (.tuple #[.agg cs, v])) w) : bodyPost P fn R .ret a w := by
  obtain ⟨⟨dd, h2, _, h3⟩, h4⟩ := row_facts h1
  have e1 := hA.ev hv
  have e2 := hA.ev hq
  simp only [Act.eval] at e1 e2
  refine ⟨hA.defers, _, ?_, h⟩
  have e3 : a.tmps[p]?.getD undef = .pointer (some ⟨g, 0, none⟩) := by simpa using e1
  have e4 : a.tmps[q]?.getD undef = v := by simpa using e2
  simp [results, hr, e3, e4, asAddr, run_loadVar_row w g t' t cs (0, 0) dd hb h2 (by cases dd <;> simp_all) h4]
theorem ret3 {fn : Func} {R : Ending → World → Prop} {p q r : Tmp} {x y z : Value} (hr : fn.results = #[.tmp p, .tmp q, .tmp r]) (hA : St n T a) (hx : ev T (.tmp p) = some x) (hy : ev T (.tmp q) = some y) (hz : ev T (.tmp r) = some z)
    (h : R (.returned (.tuple #[x, y, z])) w) : bodyPost P fn R .ret a w := by
  have e1 := hA.ev hx
  have e2 := hA.ev hy
  have e3 := hA.ev hz
  simp only [Act.eval] at e1 e2 e3
  refine ⟨hA.defers, _, ?_, h⟩
  have f1 : a.tmps[p]?.getD undef = x := by simpa using e1
  have f2 : a.tmps[q]?.getD undef = y := by simpa using e2
  have f3 : a.tmps[r]?.getD undef = z := by simpa using e3
  simp [results, hr, f1, f2, f3]
end
theorem ret_agg {x y : Array Value} (h : x = y) : Ending.returned (.agg x) = .returned (.agg y) := by rw [h]
theorem notof {b c : Bool} (h : b = c) : (!b) = !c := by rw [h]

theorem join_wp {P : Program} {c : Code} {K : Act → World → Prop} {Q : Exit → Act → World → Prop} {a : Act} {w : World} (h : c.wp P (Exit.then K fun _ _ _ => False) a w) (hk : ∀ a w, K a w → Q .normal a w) : c.wp P Q a w :=
  Code.wp_mono (fun e a w h => by cases e <;> first | exact hk _ _ h | exact h.elim) h
section
variable {P : Program} {ops : Array Oper} {a : Act} {w : World} {K : Value → World → Prop} {d : Option Tmp} {ty : TypeId} {pos : String} {af : Array Edge} {gd : Option (Nat × Bool)} {v : Value}
theorem d_pickT {c x y : Operand} (hw : Region.wanted { dst := d, op := .pick c x y, type := ty, pos := pos, after := af, guard := gd } (yielded ops a.tmps) = true) (hc : a.eval c = .bool true) (hx : a.eval x = v) (h : K v w) :
    Does P ops { dst := d, op := .pick c x y, type := ty, pos := pos, after := af, guard := gd } a w K := d_pick hw hc (by simpa using hx) h
theorem d_pickF {c x y : Operand} (hw : Region.wanted { dst := d, op := .pick c x y, type := ty, pos := pos, after := af, guard := gd } (yielded ops a.tmps) = true) (hc : a.eval c = .bool false) (hx : a.eval y = v) (h : K v w) :
    Does P ops { dst := d, op := .pick c x y, type := ty, pos := pos, after := af, guard := gd } a w K := d_pick hw hc (by simpa using hx) h
end
/-! ### Loops -/
theorem least {p : Nat → Prop} (h : ∃ m, p m) : ∃ m, p m ∧ ∀ k, k < m → ¬ p k := by
  obtain ⟨m, hm⟩ := h
  induction m using Nat.strongRecOn with
  | _ m ih =>
    by_cases hk : ∃ k, k < m ∧ p k
    · obtain ⟨k, hkm, hpk⟩ := hk; exact ih k hkm hpk
    · exact ⟨m, hm, fun k hkm hpk => hk ⟨k, hkm, hpk⟩⟩
theorem loop_by {P : Program} {c : Code} {Q : Exit → Act → World → Prop} {a : Act} {w : World} (I : Nat → Act → World → Prop) (m : Nat) (h0 : I m a w)
    (round : ∀ m a w, I m a w → c.wp P (Exit.then (fun a' w' => ∃ m', m' < m ∧ I m' a' w') Q) a w) : (Code.loop c).wp P Q a w := by
  refine wp_loop (fun a w => ∃ m, I m a w) (fun a w => @dite Nat (∃ m, I m a w) (Classical.propDecidable _) (fun h => Classical.choose (least h)) fun _ => 0) ⟨m, h0⟩ fun a w hI => ?_
  have hc := Classical.choose_spec (least hI)
  have hr := round _ a w hc.1
  refine Code.wp_mono (fun e a' w' hq => ?_) hr
  cases e with
  | normal =>
    obtain ⟨m', hlt, hI'⟩ := hq
    refine ⟨⟨m', hI'⟩, ?_⟩
    have h' : ∃ m, I m a' w' := ⟨m', hI'⟩
    simp only [dif_pos hI, dif_pos h']
    have h2 := (Classical.choose_spec (least h')).2
    refine Nat.lt_of_le_of_lt ?_ hlt
    exact Nat.le_of_not_lt fun hgt => h2 m' hgt hI'
  | _ => exact hq
end Go.Proofs.Ytiglneecmibgmaa
/- Slices for the engine: read by index, their lengths; slices made of parts; arrays in memory by index; calls of function values; sums. -/
namespace Go.Proofs.Ytiglneecmibgmaa
open Go.RowKit

/-- a slice's elements, laid one behind the other in memory below B -/
def Sl {α : Type} (enc : α → List Value) (s B : Nat) (w : World) (v : Value) (l : List α) : Prop :=
  ∃ ao cap, v = .slice ao l.length cap ∧ l.length ≤ cap ∧ ∀ j x, l[j]? = some x → ∃ b o, ao = some ⟨b, o, none⟩ ∧ b < B ∧ w.rangeAt b (o + j * s) (enc x)
section
variable {α : Type} {enc : α → List Value} {s B : Nat} {w w' : World} {v : Value} {l : List α}
theorem range_below {b o : Nat} {cs : List Value} (hr : w.rangeAt b o cs) (hb : Below B w w') (h : b < B) : w'.rangeAt b o cs := fun j x hx => by
  rw [hb.cell (p := ⟨b, o + j, none⟩) h]; exact hr j x hx
theorem range_upd {b o g : Nat} {cs : List Value} (hr : w.rangeAt b o cs) (hu : Upd g w w') (h : b ≠ g) : w'.rangeAt b o cs := fun j x hx => by
  rw [World.cell?_of_block (w := w) (hu.block b h)]; exact hr j x hx
theorem ne_of_beq {a b : Int} (h : (a == b) = false) : a ≠ b := by simpa using h
theorem Sl.below (h : Sl enc s B w v l) (hb : Below B w w') : Sl enc s B w' v l := by
  obtain ⟨ao, cap, hv, hlc, he⟩ := h
  refine ⟨ao, cap, hv, hlc, fun j x hx => ?_⟩
  obtain ⟨b, o, h1, h2, h3⟩ := he j x hx
  exact ⟨b, o, h1, h2, range_below h3 hb h2⟩
theorem Sl.mono {B' : Nat} (h : Sl enc s B w v l) (hB : B ≤ B') : Sl enc s B' w v l := by
  obtain ⟨ao, cap, hv, hlc, he⟩ := h
  refine ⟨ao, cap, hv, hlc, fun j x hx => ?_⟩
  obtain ⟨b, o, h1, h2, h3⟩ := he j x hx
  exact ⟨b, o, h1, Nat.lt_of_lt_of_le h2 hB, h3⟩
theorem Sl.form (h : Sl enc s B w v l) : ∃ ao cap, v = .slice ao l.length cap := let ⟨ao, cap, hv, _, _⟩ := h; ⟨ao, cap, hv⟩
theorem Sl.nil : Sl enc s B w (.slice none 0 0) ([] : List α) := ⟨none, 0, rfl, Nat.le_refl _, fun j x h => by simp at h⟩
end
section
variable {P : Program} {ops : Array Oper} {a : Act} {w : World} {K : Value → World → Prop} {d : Option Tmp} {ty : TypeId} {pos : String} {af : Array Edge} {gd : Option (Nat × Bool)} {v : Value}
def sliceB (P : Program) (t e s : Nat) : Bool := (match P.underlying t with | some (.slice e') => e' == e | _ => false) && ((P.info? e).map (·.size) == some s)
theorem slice_facts {t e s : Nat} (h : sliceB P t e s = true) : P.underlying t = some (.slice e) ∧ (P.info? e).map (·.size) = some s := by
  unfold sliceB at h
  rw [Bool.and_eq_true] at h
  refine ⟨?_, by simpa using h.2⟩
  cases hq : P.underlying t with
  | none => simp [hq] at h
  | some dd => cases dd <;> simp_all
theorem run_size {e s : Nat} (h : (P.info? e).map (·.size) = some s) (w : World) : (sizeOf e).run P w = .ok s w := by
  cases hq : P.info? e with
  | none => simp [hq] at h
  | some i => simp [hq] at h; simp [sizeOf, typeInfo, hq, h]
theorem d_len {x : Operand} {t e s n : Nat} (hw : Region.wanted { dst := d, op := .call { callee := .builtin .len, args := #[x], argTypes := #[t] }, type := ty, pos := pos, after := af, guard := gd } (yielded ops a.tmps) = true) (hx : a.eval x = v) (ht : sliceB P t e s = true)
    (hv : ∃ ao cap, v = .slice ao n cap) (h : K (.int .i64 (n : Int)) w) : Does P ops { dst := d, op := .call { callee := .builtin .len, args := #[x], argTypes := #[t] }, type := ty, pos := pos, after := af, guard := gd } a w K :=
  does_val hw (by
    obtain ⟨ao, cap, hv⟩ := hv
    have hm : (#[x] : Array Operand).map a.eval = #[.slice ao n cap] := by simp only [List.map_toArray, List.map_cons, List.map_nil]; rw [hx, hv]
    unfold execOp
    simp only [resolve, Sem.run_bind, Sem.run_pure, Result.andThen_ok, invoke, builtin, hm]
    simp [Builtin.len_, run_underlying (slice_facts ht).1, goInt]) h
theorem d_index {α : Type} {enc : α → List Value} {t e s B j : Nat} {x ix : Operand} {l : List α} {y : α} (hw : Region.wanted { dst := d, op := .indexAddr t x ix, type := ty, pos := pos, after := af, guard := gd } (yielded ops a.tmps) = true) (hx : a.eval x = v) (hi : a.eval ix = .int .i64 (j : Int))
    (ht : sliceB P t e s = true) (hs : Sl enc s B w v l) (hy : l[j]? = some y) (h : ∀ b o, b < B → w.rangeAt b o (enc y) → K (.pointer (some ⟨b, o, none⟩)) w) :
    Does P ops { dst := d, op := .indexAddr t x ix, type := ty, pos := pos, after := af, guard := gd } a w K := by
  obtain ⟨ao, cap, hv, _, he⟩ := hs
  obtain ⟨b, o, hao, hb, hr⟩ := he j y hy
  have hj : j < l.length := (List.getElem?_eq_some_iff.1 hy).1
  refine does_val (v := .pointer (some ⟨b, o + j * s, none⟩)) hw ?_ (h b _ hb hr)
  subst hao; subst hv
  have hc : (0 : Int) ≤ (j : Int) ∧ (j : Int) < ((l.length : Nat) : Int) := ⟨by omega, by omega⟩
  have hq : (Instr.indexAt t (.slice (some ⟨b, o, none⟩) l.length cap) (.int .i64 (j : Int))).run P w = .ok (.pointer (some ⟨b, o + j * s, none⟩)) w := by
    unfold Instr.indexAt
    simp only [asIntOf, Sem.run_bind, Sem.run_pure, Result.andThen_ok, run_underlying (slice_facts ht).1, if_pos hc, run_size (slice_facts ht).2, Int.toNat_natCast, Addr.add_mid]
  unfold execOp
  simp only [hx, hi, Sem.run_bind, hq, Sem.run_pure, Result.andThen_ok]
/-- where element j of a slice of n lies -/
def IxAt (v : Value) (n j s b o : Nat) : Prop := ∃ o0 cap, v = .slice (some ⟨b, o0, none⟩) n cap ∧ o = o0 + j * s
theorem Sl.at {α : Type} {enc : α → List Value} {s B j : Nat} {l : List α} {y : α} (hs : Sl enc s B w v l) (hy : l[j]? = some y) : ∃ b o, b < B ∧ w.rangeAt b o (enc y) ∧ IxAt v l.length j s b o := by
  obtain ⟨ao, cap, hv, _, he⟩ := hs
  obtain ⟨b, o, hao, hb, hr⟩ := he j y hy
  exact ⟨b, o + j * s, hb, hr, o, cap, by rw [hv, hao], rfl⟩
theorem d_indexAt {t e s n j b o : Nat} {x ix : Operand} (hw : Region.wanted { dst := d, op := .indexAddr t x ix, type := ty, pos := pos, after := af, guard := gd } (yielded ops a.tmps) = true) (hx : a.eval x = v) (hi : a.eval ix = .int .i64 (j : Int))
    (ht : sliceB P t e s = true) (hix : IxAt v n j s b o) (hj : j < n) (h : K (.pointer (some ⟨b, o, none⟩)) w) :
    Does P ops { dst := d, op := .indexAddr t x ix, type := ty, pos := pos, after := af, guard := gd } a w K := by
  obtain ⟨o0, cap, hv, ho⟩ := hix
  refine does_val (v := .pointer (some ⟨b, o, none⟩)) hw ?_ h
  subst hv; subst ho
  have hc : (0 : Int) ≤ (j : Int) ∧ (j : Int) < ((n : Nat) : Int) := ⟨by omega, by omega⟩
  have hq : (Instr.indexAt t (.slice (some ⟨b, o0, none⟩) n cap) (.int .i64 (j : Int))).run P w = .ok (.pointer (some ⟨b, o0 + j * s, none⟩)) w := by
    unfold Instr.indexAt
    simp only [asIntOf, Sem.run_bind, Sem.run_pure, Result.andThen_ok, run_underlying (slice_facts ht).1, if_pos hc, run_size (slice_facts ht).2, Int.toNat_natCast, Addr.add_mid]
  unfold execOp
  simp only [hx, hi, Sem.run_bind, hq, Sem.run_pure, Result.andThen_ok]
theorem range_sm {M : Nat → Option (Array Value)} {w w' : World} {b o : Nat} {cs : List Value} (hr : w.rangeAt b o cs) (h : SM M w w') (hb : b < w.heap.size) (hM : M b = none) : w'.rangeAt b o cs := fun j x hx => by
  rw [World.cell?_of_block (w := w) (h.block b hb hM)]; exact hr j x hx
theorem get_lt {α : Type} {l : List α} {j : Nat} {y : α} (h : l[j]? = some y) : j < l.length := (List.getElem?_eq_some_iff.1 h).1
/-- an array in memory, by index -/
def arrB (P : Program) (t n e s : Nat) : Bool := (match P.underlying t with | some (.array n' e') => n' == n && e' == e | _ => false) && ((P.info? e).map (·.size) == some s)
theorem arr_facts {t n e s : Nat} (h : arrB P t n e s = true) : P.underlying t = some (.array n e) ∧ (P.info? e).map (·.size) = some s := by
  unfold arrB at h
  rw [Bool.and_eq_true] at h
  refine ⟨?_, by simpa using h.2⟩
  cases hq : P.underlying t with
  | none => simp [hq] at h
  | some dd => cases dd <;> simp_all
theorem d_indexArr {t n e s g o j : Nat} {x ix : Operand} (hw : Region.wanted { dst := d, op := .indexAddr t x ix, type := ty, pos := pos, after := af, guard := gd } (yielded ops a.tmps) = true) (hx : a.eval x = .pointer (some ⟨g, o, none⟩)) (hi : a.eval ix = .int .i64 (j : Int))
    (ht : arrB P t n e s = true) (hj : j < n) (h : K (.pointer (some ⟨g, o + j * s, none⟩)) w) : Does P ops { dst := d, op := .indexAddr t x ix, type := ty, pos := pos, after := af, guard := gd } a w K :=
  does_val hw (by
    have hc : (0 : Int) ≤ (j : Int) ∧ (j : Int) < ((n : Nat) : Int) := ⟨by omega, by omega⟩
    have hq : (Instr.indexAt t (.pointer (some ⟨g, o, none⟩)) (.int .i64 (j : Int))).run P w = .ok (.pointer (some ⟨g, o + j * s, none⟩)) w := by
      unfold Instr.indexAt
      simp only [asIntOf, Sem.run_bind, Sem.run_pure, Result.andThen_ok, run_underlying (arr_facts ht).1, if_pos hc, run_size (arr_facts ht).2, Int.toNat_natCast, Addr.add_mid, Instr.sureAddr]
    unfold execOp
    simp only [hx, hi, Sem.run_bind, hq, Sem.run_pure, Result.andThen_ok]) h
theorem d_nilCheck {x : Operand} {g o : Nat} (hw : Region.wanted { dst := d, op := .nilCheck x, type := ty, pos := pos, after := af, guard := gd } (yielded ops a.tmps) = true) (hx : a.eval x = .pointer (some ⟨g, o, none⟩)) (h : K (.pointer (some ⟨g, o, none⟩)) w) :
    Does P ops { dst := d, op := .nilCheck x, type := ty, pos := pos, after := af, guard := gd } a w K :=
  does_val hw (by unfold execOp; simp only [hx, Sem.run_pure]) h
theorem d_loadMid {t b o : Nat} {x : Operand} {cs : Array Value} (hw : Region.wanted { dst := d, op := .load t x, type := ty, pos := pos, after := af, guard := gd } (yielded ops a.tmps) = true) (hx : a.eval x = .pointer (some ⟨b, o, none⟩)) (h1 : rowB P t cs.size = true)
    (hr : w.rangeAt b o cs.toList) (h : K (.agg cs) w) : Does P ops { dst := d, op := .load t x, type := ty, pos := pos, after := af, guard := gd } a w K :=
  does_val hw (by
    obtain ⟨⟨dd, h2, h3, _⟩, h4⟩ := row_facts h1
    have := run_loadAt_mid (P := P) w b o t cs.toList dd hr h2 h3 (by simpa using h4)
    unfold execOp
    simp only [hx, Sem.run_bind, this, Result.andThen_ok, Sem.run_pure, Array.toArray_toList]) h
theorem Blk.range {g o n : Nat} {cs : Array Value} {t : TypeId} (hb : Blk w g cs t) : w.rangeAt g o (cs.extract o (o + n)).toList := World.rangeAt_of_block hb o n
theorem d_callv {x : Operand} {f : FuncId} {args : Array Operand} {ats : Array TypeId} {vs : Array Value} {R : Ending → World → Prop} (hw : Region.wanted { dst := d, op := .call { callee := .value x, args := args, argTypes := ats }, type := ty, pos := pos, after := af, guard := gd } (yielded ops a.tmps) = true)
    (hf : a.eval x = .func (.func f) #[] #[]) (hent : ((P.funcs[f]?).map fun fn => (fn.name == "runtime.NumGoroutine", fn.body.isNone)) = some (false, false)) (hx : args.map a.eval = vs) (hc : Calls P f vs w R) (h : ∀ e w', R e w' → ∃ v, e = .returned v ∧ K v w') :
    Does P ops { dst := d, op := .call { callee := .value x, args := args, argTypes := ats }, type := ty, pos := pos, after := af, guard := gd } a w K :=
  does_enter hw (by
    subst hx
    unfold execOp
    simp only [resolve, hf, Sem.run_bind, Deferred.ofValue, Sem.run_pure, Result.andThen_ok, invoke, Array.append_empty, Array.empty_append, enters hent]) hc h
end
section
variable {P : Program} {t : TypeId} (x y : Operand) (a b : Int) (w : World)
theorem b_add (h1 : -9223372036854775808 ≤ a + b) (h2 : a + b ≤ 9223372036854775807) : (eqGuard .add t x y (.int .i64 a) (.int .i64 b)).run P w = .ok () w ∧ (binOp .add t (.int .i64 a) (.int .i64 b)).run P w = .ok (.int .i64 (a + b)) w := by
  refine ⟨by simp [eqGuard], ?_⟩
  have : IntKind.wrap .i64 (a + b) = a + b := by simp only [IntKind.wrap, IntKind.signed, IntKind.bits]; simp; omega
  simp [binOp, this, go_sem]
end
end Go.Proofs.Ytiglneecmibgmaa
/- The law on regions that draw their order and end with one store that waits for all else; one operation that turns memory for good (an append) may come late, with nothing but plain operations behind it. -/
namespace Go.Proofs.Ytiglneecmibgmaa
open Go.RowKit

/-- what is known behind operation y's wait -/
def Ahead (ops : Array Oper) (S : World → World → Prop) (tab : Nat → Cl S) (pure : Nat → Option Value) (W : Value → World → Prop) (w : World) (len : Nat) (a' : Act) (w' : World) : Option Nat → Prop
  | none => S w w' ∧ ∀ j, j < len → (tab j).P (valOf ops a' j) w'
  | some x => (∀ j v, j < len → j ≠ x → pure j = some v → valOf ops a' j = v) ∧ W (valOf ops a' x) w'
section
variable {P : Program} {l : List Oper} {y : Oper} {Q : Exit → Act → World → Prop} {S : World → World → Prop} {n : Nat} {T : List (Nat × Value)} {w : World}
/-- each of a list is waited for, by the operation or by one that stands ahead in the list -/
def covB (l : List Oper) (o : Oper) : List Nat → List Nat → Bool
  | [], _ => true
  | j :: c, acc => (waits o j || acc.any fun m => match l[m]? with | some p => waits p j | none => false) && covB l o c (j :: acc)
theorem cov {o : Oper} {L : Nat → Prop} (ho : ∀ j, waits o j = true → L j) (hcl : ∀ m p, l[m]? = some p → L m → ∀ j, waits p j = true → L j) : ∀ (c acc : List Nat), (∀ m ∈ acc, L m) → covB l o c acc = true → ∀ j ∈ c, L j
  | [], _, _, _ => fun j hj => by cases hj
  | j :: c, acc, ha, h => by
    unfold covB at h
    rw [Bool.and_eq_true, Bool.or_eq_true] at h
    have hj : L j := by
      rcases h.1 with h1 | h1
      · exact ho j h1
      · rw [List.any_eq_true] at h1
        obtain ⟨m, hm, h2⟩ := h1
        cases hp : l[m]? with
        | none => simp [hp] at h2
        | some p => simp only [hp] at h2; exact hcl m p hp (ha m hm) j h2
    exact List.forall_mem_cons.2 ⟨hj, cov ho hcl c (j :: acc) (List.forall_mem_cons.2 ⟨hj, ha⟩) h.2⟩
/-- the last operation waits for all others; the late one for all that are not plain -/
def lateB (l : List Oper) (y : Oper) (xi : Option Nat) (pb : Nat → Bool) (cy cx : List Nat) : Bool :=
  y.dst.isNone && (y.after.toList.all fun e => !Region.binds .any e || decide (e.on < l.length)) && (covB l y cy [] && (List.range l.length).all fun j => cy.contains j) &&
  match xi with
  | none => true
  | some x => decide (x < l.length) && !pb x && (match l[x]? with | some o => covB l o cx [] | none => false) && ((List.range l.length).all fun i => i == x || pb i || cx.contains i)
theorem late_spec {xi : Option Nat} {pb : Nat → Bool} {cy cx : List Nat} (h : lateB l y xi pb cy cx = true) : y.dst = none ∧ (∀ e ∈ y.after, Region.binds .any e = true → e.on < l.length) ∧ (covB l y cy [] = true ∧ ∀ j, j < l.length → j ∈ cy) ∧
    ∀ x, xi = some x → x < l.length ∧ pb x = false ∧ (∀ o, l[x]? = some o → covB l o cx [] = true) ∧ ∀ i, i < l.length → i ≠ x → pb i = false → i ∈ cx := by
  unfold lateB at h
  rw [Bool.and_eq_true, Bool.and_eq_true, Bool.and_eq_true, Bool.and_eq_true] at h
  obtain ⟨⟨⟨h1, h2⟩, h3, h3'⟩, h4⟩ := h
  refine ⟨by simpa using h1, fun e he hb => by have := (List.all_eq_true.1 h2) e (by simpa using he); simpa [hb] using this, ⟨h3, fun j hj => by simpa using (List.all_eq_true.1 h3') j (by simpa using hj)⟩, fun x hx => ?_⟩
  subst hx
  simp only [Bool.and_eq_true, decide_eq_true_eq, Bool.not_eq_true'] at h4
  obtain ⟨⟨⟨h5, h5'⟩, h6⟩, h7⟩ := h4
  refine ⟨h5, h5', fun o ho => by simpa [ho] using h6, fun i hi hne hp => ?_⟩
  have := (List.all_eq_true.1 h7) i (by simpa using hi)
  simp only [hp, Bool.or_false, Bool.or_eq_true, beq_iff_eq] at this
  simpa using this.resolve_left hne
theorem late_any {cy cx : List Nat} (tab : Nat → Cl S) (xi : Option Nat) (pure : Nat → Option Value) (W : Value → World → Prop) (hrefl : ∀ w, S w w) (htrans : ∀ a b c, S a b → S b c → S a c) (hfit : fitB l.toArray n T = true) (hlate : lateB l y xi (fun i => (pure i).isSome) cy cx = true)
    (hcv : ∀ i v u w', pure i = some v → ((tab i).P u w' ↔ u = v))
    (hop : ∀ i o, l[i]? = some o → xi ≠ some i → pure i = none → Obl P (l ++ [y]).toArray S n T tab w i o)
    (hpu : ∀ i o v, l[i]? = some o → xi ≠ some i → pure i = some v → ∀ a' w', St n T a' → (∀ j u, waits o j = true → pure j = some u → valOf (l ++ [y]).toArray a' j = u) → (xi = none → ∀ j, waits o j = true → (tab j).P (valOf (l ++ [y]).toArray a' j) w') → Does P (l ++ [y]).toArray o a' w' fun v' w'' => w'' = w' ∧ seenV o v' = v)
    (hxo : ∀ x o, xi = some x → l[x]? = some o → ∀ a' w', S w w' → St n T a' → (∀ j, waits o j = true → (tab j).P (valOf (l ++ [y]).toArray a' j) w') → Does P (l ++ [y]).toArray o a' w' fun v w'' => W (seenV o v) w'')
    (hyo : ∀ a' w', St n T a' → Ahead (l ++ [y]).toArray S tab pure W w l.length a' w' xi → Does P (l ++ [y]).toArray y a' w' fun _ w'' => Q .normal a' w'') :
    ∀ (fuel : Nat) (listed : Array Bool) (a' : Act) (w' : World), listed.size = l.length + 1 → listed.getD l.length true = false → ((List.range (l.length + 1)).filter fun i => !listed.getD i true).length ≤ fuel → St n T a' → (∀ m p, l[m]? = some p → listed.getD m false = true → ∀ j, waits p j = true → listed.getD j false = true) →
      ((∀ x, xi = some x → listed.getD x false = false) → S w w' ∧ ∀ i, i < l.length → listed.getD i false = true → (tab i).P (valOf (l ++ [y]).toArray a' i) w') →
      (∀ x, xi = some x → listed.getD x false = true → W (valOf (l ++ [y]).toArray a' x) w' ∧ ∀ i, i < l.length → i ≠ x → (pure i = none → listed.getD i false = true) ∧ ∀ v, pure i = some v → listed.getD i false = true → valOf (l ++ [y]).toArray a' i = v) →
      wpAny P .any (l ++ [y]).toArray Q fuel listed a' w' := by
  obtain ⟨hyd, hyg, hyw, hxs⟩ := late_spec hlate
  have hat : ∀ i, i < l.length → (l ++ [y]).toArray[i]? = l[i]? := fun i hi => by simp [List.getElem?_append_left hi]
  have hlast : (l ++ [y]).toArray[l.length]? = some y := by simp
  have hdl : ∀ i, i < l.length → dstOf (l ++ [y]).toArray i = dstOf l.toArray i := fun i hi => by unfold dstOf; rw [hat i hi]; simp
  have hwl : ∀ i o, l[i]? = some o → ∀ j, waits o j = true → j < i := fun i o ho j hj => by
    obtain ⟨_, hfe⟩ := fit_spec hfit (show l.toArray[i]? = some o by simpa using ho)
    unfold waits at hj
    rw [List.any_eq_true] at hj
    obtain ⟨e, he, hb⟩ := hj
    simp only [Bool.and_eq_true, beq_iff_eq] at hb
    have := hfe e (by simpa using he) hb.1
    omega
  intro fuel
  induction fuel with
  | zero =>
    intro listed a' w' hls hlun hf
    exfalso
    have hnil : ((List.range (l.length + 1)).filter fun i => !listed.getD i true) = [] := List.eq_nil_of_length_eq_zero (by omega)
    rw [List.filter_eq_nil_iff] at hnil
    have := hnil l.length (by simp)
    rw [hlun] at this; simp at this
  | succ fuel ih =>
    intro listed a' w' hls hlun hf hT hclo hpre hpost
    refine ⟨fun hr => ?_, fun i hi => ?_⟩
    · exfalso
      have all : ∀ i, i < l.length + 1 → listed.getD i false = true := by
        intro i
        induction i using Nat.strongRecOn with
        | _ i ihi =>
          intro hi
          cases hl : listed.getD i false with
          | true => rfl
          | false =>
            exfalso
            have hli : i < listed.size := by omega
            have hmem : i ∈ Region.ready .any (l ++ [y]).toArray listed := by
              rw [mem_ready]
              refine ⟨by simpa [hli] using hl, ?_⟩
              rcases Nat.lt_or_ge i l.length with h1 | h1
              · refine ⟨l[i], by rw [hat i h1]; simp [h1], fun e he hb => ?_⟩
                have hlt := (fit_spec hfit (show l.toArray[i]? = some l[i] by simp [h1])).2 e he hb
                exact ihi e.on hlt (by omega)
              · have hie : i = l.length := by omega
                subst hie
                refine ⟨y, hlast, fun e he hb => ?_⟩
                have hlt := hyg e he hb
                exact ihi e.on hlt (by omega)
            rw [hr] at hmem; cases hmem
      have h1 := all l.length (by omega)
      have hll : l.length < listed.size := by omega
      simp [hll] at h1 hlun
      rw [h1] at hlun; cases hlun
    · obtain ⟨hun, o, hoi, hall⟩ := mem_ready.1 hi
      have hil : i < l.length + 1 := by have := (Array.getElem?_eq_some_iff.1 hoi).1; simpa using this
      have hlw : ∀ j, waits o j = true → listed.getD j false = true := fun j hj => by
        unfold waits at hj
        rw [List.any_eq_true] at hj
        obtain ⟨e, he, hb⟩ := hj
        simp only [Bool.and_eq_true, beq_iff_eq] at hb
        rw [← hb.2]; exact hall e (by simpa using he) hb.1
      have hunf : listed.getD i false = false := by
        have : i < listed.size := by omega
        simpa [this] using hun
      rcases Nat.lt_or_ge i l.length with hlt | hge
      · have hoi' : l[i]? = some o := by rw [← hat i hlt]; exact hoi
        obtain ⟨hfd, hfe⟩ := fit_spec hfit (show l.toArray[i]? = some o by simpa using hoi')
        have hdi : dstOf (l ++ [y]).toArray i = o.dst := by unfold dstOf; rw [hoi]; rfl
        have vi : ∀ v, valOf (l ++ [y]).toArray (a'.put o.dst v) i = seenV o v := fun v => by
          unfold valOf seenV
          rw [hdi]
          cases hd : o.dst with
          | none => rfl
          | some d =>
            have hdl' : d < a'.tmps.size := by rw [hT.size]; exact (hfd d hd).1
            simp [Act.put, hdl']
        have vj : ∀ v j, j < l.length → j ≠ i → valOf (l ++ [y]).toArray (a'.put o.dst v) j = valOf (l ++ [y]).toArray a' j := fun v j hj hne => by
          unfold valOf
          rw [hdl j hj]
          cases hdj : dstOf l.toArray j with
          | none => rfl
          | some d' =>
            cases hd : o.dst with
            | none => rfl
            | some d =>
              have hnd : d ≠ d' := fun e => by subst e; exact hne ((hfd d hd).2.1 j (by simpa using hj) hdj)
              simp [Act.put, Array.getD_eq_getD_getElem?, Array.getElem?_setIfInBounds_ne hnd]
        have hTp : ∀ v, St n T (a'.put o.dst v) := fun v => by
          cases hd : o.dst with
          | none => exact hT
          | some d =>
            obtain ⟨hdn, _, hTd⟩ := hfd d hd
            have hp := hT.put hdn v
            refine ⟨hp.size, hp.defers, fun t u hu => hp.get t u ?_⟩
            have hne : t ≠ d := hTd (t, u) (lookup_mem hu)
            rw [List.lookup_cons]
            have : (t == d) = false := by simpa using hne
            simp only [this]; exact hu
        have go : ∀ v w2, ((∀ x, xi = some x → (listed.setIfInBounds i true).getD x false = false) → S w w2 ∧ ∀ k, k < l.length → (listed.setIfInBounds i true).getD k false = true → (tab k).P (valOf (l ++ [y]).toArray (a'.put o.dst v) k) w2) →
            (∀ x, xi = some x → (listed.setIfInBounds i true).getD x false = true → W (valOf (l ++ [y]).toArray (a'.put o.dst v) x) w2 ∧ ∀ k, k < l.length → k ≠ x → (pure k = none → (listed.setIfInBounds i true).getD k false = true) ∧ ∀ u, pure k = some u → (listed.setIfInBounds i true).getD k false = true → valOf (l ++ [y]).toArray (a'.put o.dst v) k = u) →
            wpAny P .any (l ++ [y]).toArray Q fuel (listed.setIfInBounds i true) (a'.put o.dst v) w2 := fun v w2 h1 h2 => by
          have hcl2 : ∀ m p, l[m]? = some p → (listed.setIfInBounds i true).getD m false = true → ∀ j, waits p j = true → (listed.setIfInBounds i true).getD j false = true := fun m p hp hm j hj => by
            have hj' : listed.getD j false = true := by
              by_cases hmi : m = i
              · subst hmi; rw [hoi'] at hp; cases hp; exact hlw j hj
              · exact hclo m p hp (by rwa [set_ne false (Ne.symm hmi)] at hm) j hj
            by_cases hji : j = i
            · subst hji; rw [hunf] at hj'; cases hj'
            · rw [set_ne false (Ne.symm hji)]; exact hj'
          refine ih _ _ _ (by simpa using hls) (by rw [set_ne true (by omega)]; exact hlun) ?_ (hTp v) hcl2 h1 h2
          have hlt' : i < listed.size := by omega
          have : ((List.range (l.length + 1)).filter fun k => !(listed.setIfInBounds i true).getD k true).length < ((List.range (l.length + 1)).filter fun k => !listed.getD k true).length := by
            have hsub : ((List.range (l.length + 1)).filter fun k => !(listed.setIfInBounds i true).getD k true) = ((List.range (l.length + 1)).filter fun k => !listed.getD k true).filter (fun k => k != i) := by
              rw [List.filter_filter]
              apply List.filter_congr
              intro k _
              by_cases hk : k = i
              · subst hk; simp [hlt']
              · rw [set_ne true (Ne.symm hk)]; simp [hk]
            rw [hsub]
            refine List.length_filter_lt_length_iff_exists.2 ⟨i, ?_, by simp⟩
            simp only [List.mem_filter, List.mem_range]
            exact ⟨hil, by rw [hun]; rfl⟩
          omega
        have hseti : (listed.setIfInBounds i true).getD i false = true := by
          have : i < listed.size := by omega
          simp [this]
        have hset : ∀ k, k ≠ i → (listed.setIfInBounds i true).getD k false = listed.getD k false := fun k hk => set_ne false (Ne.symm hk)
        have run : ∀ (K : Value → World → Prop), Does P (l ++ [y]).toArray o a' w' K → (∀ v w2, K v w2 → wpAny P .any (l ++ [y]).toArray Q fuel (listed.setIfInBounds i true) (a'.put o.dst v) w2) → wpOp P (l ++ [y]).toArray Q i (wpAny P .any (l ++ [y]).toArray Q fuel (listed.setIfInBounds i true)) a' w' := fun K hD hk => by
          unfold wpOp
          rcases hD with ⟨hw, h⟩ | ⟨hw, h⟩
          · simp only [hoi, hw, if_true]
            refine .inl (Oper.wp_mono (fun a2 w2 h => ?_) (h Q))
            obtain ⟨v, rfl, hv⟩ := h
            exact hk v w2 hv
          · simp only [hoi, hw, Bool.false_eq_true, if_false]
            exact hk undef w' h
        by_cases hxi : xi = some i
        · have hnot : ∀ x, xi = some x → listed.getD x false = false := fun x hx => by rw [hxi] at hx; cases hx; exact hunf
          obtain ⟨hS, hcl⟩ := hpre hnot
          obtain ⟨_, _, hx1, hx2⟩ := hxs i hxi
          have hxc := cov (L := fun j => listed.getD j false = true) hlw hclo cx [] (fun _ h => by cases h) (hx1 o hoi')
          refine run _ (hxo i o hxi hoi' a' w' hS hT fun j hj => hcl j (by have := hwl i o hoi' j hj; omega) (hlw j hj)) fun v w2 hv => go v w2 (fun h => ?_) fun x hx hlx => ?_
          · have := h i hxi; rw [hseti] at this; cases this
          · rw [hxi] at hx; cases hx
            refine ⟨by rw [vi]; exact hv, fun k hk hne => ⟨fun hp => ?_, fun u hu hlk => ?_⟩⟩
            · rw [hset k hne]; exact hxc k (hx2 k hk hne (by simp [hp]))
            · rw [hset k hne] at hlk
              rw [vj v k hk hne]
              exact (hcv k u _ w' hu).1 (hcl k hk hlk)
        · by_cases hL : ∃ x, xi = some x ∧ listed.getD x false = true
          · obtain ⟨x, hx, hlx⟩ := hL
            obtain ⟨hW, hall2⟩ := hpost x hx hlx
            have hix : i ≠ x := fun e => hxi (by rw [hx, e])
            obtain ⟨hxl, hxp, _, _⟩ := hxs x hx
            cases hp : pure i with
            | none => have := (hall2 i hlt hix).1 hp; rw [hunf] at this; cases this
            | some v0 =>
              refine run _ (hpu i o v0 hoi' hxi hp a' w' hT (fun j u hj hu => ?_) (fun h => by rw [hx] at h; cases h)) fun v w2 hv => ?_
              · have hjl : j < l.length := by have := hwl i o hoi' j hj; omega
                have hjx : j ≠ x := fun e => by subst e; simp [hu] at hxp
                exact (hall2 j hjl hjx).2 u hu (hlw j hj)
              · obtain ⟨rfl, hv⟩ := hv
                refine go v w2 (fun h => ?_) fun x' hx' hlx' => ?_
                · have := h x hx; rw [hset x (Ne.symm hix), hlx] at this; cases this
                · rw [hx] at hx'; cases hx'
                  refine ⟨by rw [vj v x hxl (Ne.symm hix)]; exact hW, fun k hk hne => ⟨fun hpk => ?_, fun u hu hlk => ?_⟩⟩
                  · by_cases hki : k = i
                    · subst hki; exact hseti
                    · rw [hset k hki]; exact (hall2 k hk hne).1 hpk
                  · by_cases hki : k = i
                    · subst hki; rw [hp] at hu; cases hu; rw [vi]; exact hv
                    · rw [hset k hki] at hlk; rw [vj v k hk hki]; exact (hall2 k hk hne).2 u hu hlk
          · have hnot : ∀ x, xi = some x → listed.getD x false = false := fun x hx => by
              cases h : listed.getD x false with
              | false => rfl
              | true => exact absurd ⟨x, hx, h⟩ hL
            obtain ⟨hS, hcl⟩ := hpre hnot
            have hclw : ∀ j, waits o j = true → (tab j).P (valOf (l ++ [y]).toArray a' j) w' := fun j hj => hcl j (by have := hwl i o hoi' j hj; omega) (hlw j hj)
            have fin : ∀ v w2, S w' w2 → (tab i).P (seenV o v) w2 → wpAny P .any (l ++ [y]).toArray Q fuel (listed.setIfInBounds i true) (a'.put o.dst v) w2 := fun v w2 hS2 hv => by
              refine go v w2 (fun _ => ⟨htrans _ _ _ hS hS2, fun k hk hlk => ?_⟩) fun x hx hlx => ?_
              · by_cases hki : k = i
                · subst hki; rw [vi]; exact hv
                · rw [hset k hki] at hlk; rw [vj v k hk hki]; exact (tab k).st _ _ _ hS2 (hcl k hk hlk)
              · have hne : x ≠ i := fun e => hxi (by rw [hx, e])
                rw [hset x hne, hnot x hx] at hlx; cases hlx
            cases hp : pure i with
            | none => exact run _ (hop i o hoi' hxi hp a' w' hS hT hclw) fun v w2 hv => fin v w2 hv.1 hv.2
            | some v0 =>
              refine run _ (hpu i o v0 hoi' hxi hp a' w' hT (fun j u hj hu => (hcv j u _ w' hu).1 (hclw j hj)) (fun _ => hclw)) fun v w2 hv => ?_
              obtain ⟨rfl, hv⟩ := hv
              exact fin v w2 (hrefl _) ((hcv i v0 _ w2 hp).2 hv)
      · have hie : i = l.length := by omega
        subst hie
        rw [hlast] at hoi
        cases hoi
        have hallj : ∀ j, j < l.length → listed.getD j false = true := fun j hj => cov (L := fun j => listed.getD j false = true) hlw hclo cy [] (fun _ h => by cases h) hyw.1 j (hyw.2 j hj)
        have hah : Ahead (l ++ [y]).toArray S tab pure W w l.length a' w' xi := by
          cases hx : xi with
          | none =>
            obtain ⟨hS, hcl⟩ := hpre (fun x h => by rw [hx] at h; cases h)
            exact ⟨hS, fun j hj => hcl j hj (hallj j hj)⟩
          | some x =>
            obtain ⟨hxl, _, _, _⟩ := hxs x hx
            obtain ⟨hW, hall2⟩ := hpost x hx (hallj x hxl)
            exact ⟨fun j v hj hne hp => (hall2 j hj hne).2 v hp (hallj j hj), hW⟩
        have hready : Region.ready .any (l ++ [y]).toArray (listed.setIfInBounds l.length true) = [] := by
          unfold Region.ready
          rw [List.filter_eq_nil_iff]
          intro j hj
          have hj' : j < l.length + 1 := by simpa using hj
          have hlj : (listed.setIfInBounds l.length true).getD j true = true := by
            by_cases h1 : j = l.length
            · subst h1
              have : l.length < listed.size := by omega
              simp [this]
            · rw [set_ne true (Ne.symm h1)]
              have h2 := hallj j (by omega)
              have : j < listed.size := by omega
              simpa [this] using h2
          rw [hlj]; simp
        have done : ∀ w2, Q .normal a' w2 → wpAny P .any (l ++ [y]).toArray Q fuel (listed.setIfInBounds l.length true) a' w2 := fun w2 hq => by
          cases fuel with
          | zero => exact ⟨hready, hq⟩
          | succ fuel => exact ⟨fun _ => hq, fun j hj => by rw [hready] at hj; cases hj⟩
        unfold wpOp
        rcases hyo a' w' hT hah with ⟨hw, h⟩ | ⟨hw, h⟩
        · simp only [hlast, hw, if_true]
          refine .inl (Oper.wp_mono (fun a2 w2 h => ?_) (h Q))
          obtain ⟨v, rfl, hv⟩ := h
          rw [hyd]; exact done w2 hv
        · simp only [hlast, hw, Bool.false_eq_true, if_false]
          rw [hyd]; exact done w' h
/-- THE LAW. -/
def lastO : List Oper → Option Oper
  | [] => none
  | [x] => some x
  | _ :: x :: xs => lastO (x :: xs)
theorem lastO_spec : ∀ (L : List Oper) (y : Oper), lastO L = some y → L = L.dropLast ++ [y]
  | [], y, h => by simp [lastO] at h
  | [x], y, h => by simp [lastO] at h; subst h; rfl
  | x :: z :: xs, y, h => by
    have := lastO_spec (z :: xs) y (by simpa [lastO] using h)
    rw [List.dropLast_cons_cons, List.cons_append, ← this]
/-- what is owed for operation i: of three kinds -/
def OblL (P : Program) (ops : Array Oper) (S : World → World → Prop) (n : Nat) (T : List (Nat × Value)) (tab : Nat → Cl S) (xi : Option Nat) (pure : Nat → Option Value) (W : Value → World → Prop) (w : World) (i : Nat) (o : Oper) : Prop :=
  (xi ≠ some i ∧ pure i = none ∧ Obl P ops S n T tab w i o) ∨
  (xi ≠ some i ∧ ∃ v, pure i = some v ∧ ∀ a' w', St n T a' → (∀ j u, waits o j = true → pure j = some u → valOf ops a' j = u) → (xi = none → ∀ j, waits o j = true → (tab j).P (valOf ops a' j) w') → Does P ops o a' w' fun v' w'' => w'' = w' ∧ seenV o v' = v) ∨
  (xi = some i ∧ ∀ a' w', S w w' → St n T a' → (∀ j, waits o j = true → (tab j).P (valOf ops a' j) w') → Does P ops o a' w' fun v w'' => W (seenV o v) w'')
def EachD (P : Program) (ops : Array Oper) (S : World → World → Prop) (n : Nat) (T : List (Nat × Value)) (tab : Nat → Cl S) (xi : Option Nat) (pure : Nat → Option Value) (W : Value → World → Prop) (w : World) (k : Nat) (L : List Oper) : Prop :=
  ∀ i o, L.dropLast[i]? = some o → OblL P ops S n T tab xi pure W w (k + i) o
theorem eachD_one {ops : Array Oper} {tab : Nat → Cl S} {xi : Option Nat} {pure : Nat → Option Value} {W : Value → World → Prop} {k : Nat} {o : Oper} : EachD P ops S n T tab xi pure W w k [o] := fun i p h => by simp at h
theorem eachD_cons {ops : Array Oper} {tab : Nat → Cl S} {xi : Option Nat} {pure : Nat → Option Value} {W : Value → World → Prop} {k : Nat} {o p : Oper} {L : List Oper} (h : OblL P ops S n T tab xi pure W w k o) (ht : EachD P ops S n T tab xi pure W w (k + 1) (p :: L)) : EachD P ops S n T tab xi pure W w k (o :: p :: L) := fun i q hq => by
  rw [List.dropLast_cons_cons] at hq
  cases i with
  | zero => simp at hq; subst hq; exact h
  | succ i => have := ht i q (by simpa using hq); rwa [show k + 1 + i = k + (i + 1) by omega] at this
theorem drawnL {id : Nat} {L : List Oper} {a : Act} (hy : lastO L = some y) (tab : Nat → Cl S) (xi : Option Nat) (pure : Nat → Option Value) (W : Value → World → Prop) (cy cx : List Nat) (hm : P.follows .mixedOrders = true) (hrefl : ∀ w, S w w) (htrans : ∀ a b c, S a b → S b c → S a c) (hA : St n T a)
    (hfit : fitB L.dropLast.toArray n T = true) (hlate : lateB L.dropLast y xi (fun i => (pure i).isSome) cy cx = true) (hcv : ∀ i v u w', pure i = some v → ((tab i).P u w' ↔ u = v))
    (hop : EachD P L.toArray S n T tab xi pure W w.drew 0 L)
    (hyo : ∀ a' w', St n T a' → Ahead L.toArray S tab pure W w.drew (L.length - 1) a' w' xi → Does P L.toArray y a' w' fun _ w'' => Q .normal a' w'') : (Code.region id L.toArray true).wp P Q a w := by
  have hL := lastO_spec L y hy
  have hl : L.dropLast.length = L.length - 1 := by simp
  generalize hD : L.dropLast = D at *
  have hops : L.toArray = (D ++ [y]).toArray := by rw [hL]
  rw [hops] at hop hyo ⊢
  rw [← hl] at hyo
  have hop' : ∀ i o, D[i]? = some o → OblL P (D ++ [y]).toArray S n T tab xi pure W w.drew i o := fun i o h => by
    have := hop i o (by rw [hD]; exact h)
    rwa [Nat.zero_add] at this
  refine wp_region_any hm ?_
  refine late_any (w := w.drew) tab xi pure W hrefl htrans hfit hlate hcv (fun i o h h1 h2 => ?_) (fun i o v h h1 h2 => ?_) (fun x o h h1 => ?_) hyo _ _ _ _ (by simp) (by simp) ?_ hA (fun m p _ h => ?_) (fun _ => ⟨hrefl _, fun i _ hi => ?_⟩) (fun x _ hx => ?_)
  · rcases hop' i o h with ⟨_, _, h3⟩ | ⟨_, v, h3, _⟩ | ⟨h3, _⟩
    · exact h3
    · rw [h2] at h3; cases h3
    · exact absurd h3 h1
  · rcases hop' i o h with ⟨_, h3, _⟩ | ⟨_, v', h3, h4⟩ | ⟨h3, _⟩
    · rw [h2] at h3; cases h3
    · rw [h2] at h3; cases h3; exact h4
    · exact absurd h3 h1
  · rcases hop' x o h1 with ⟨h3, _⟩ | ⟨h3, _⟩ | ⟨_, h4⟩
    · exact absurd h h3
    · exact absurd h h3
    · exact h4
  · exact Nat.le_trans (List.length_filter_le _ _) (by simp)
  · exfalso
    simp [Array.getD_eq_getD_getElem?, Array.getElem?_replicate] at h; split at h <;> simp at h
  · exfalso
    simp [Array.getD_eq_getD_getElem?, Array.getElem?_replicate] at hi; split at hi <;> simp at hi
  · exfalso
    simp [Array.getD_eq_getD_getElem?, Array.getElem?_replicate] at hx; split at hx <;> simp at hx
end
end Go.Proofs.Ytiglneecmibgmaa
/- Slices that are made and appended to, for the engine. -/
namespace Go.Proofs.Ytiglneecmibgmaa
open Go.RowKit

section
variable {P : Program} {ops : Array Oper} {a : Act} {w : World} {K : Value → World → Prop} {d : Option Tmp} {ty : TypeId} {pos : String} {af : Array Edge} {gd : Option (Nat × Bool)} {v : Value}
theorem d_indexArrP {t n e s g o j p : Nat} {x ix : Operand} (hw : Region.wanted { dst := d, op := .indexAddr t x ix, type := ty, pos := pos, after := af, guard := gd } (yielded ops a.tmps) = true) (hx : a.eval x = .pointer (some ⟨g, o, none⟩)) (hi : a.eval ix = .int .i64 (j : Int))
    (ht : arrB P t n e s = true) (hj : j < n) (hp : o + j * s = p) (h : K (.pointer (some ⟨g, p, none⟩)) w) : Does P ops { dst := d, op := .indexAddr t x ix, type := ty, pos := pos, after := af, guard := gd } a w K := by
  subst hp; exact d_indexArr hw hx hi ht hj h
/-- of a type: its zero, its cells, its bytes -/
def elemB (P : Program) (t e s by_ : Nat) : Bool := sliceB P t e s && (match P.info? e with | some i => (match i.zero with | some z => z.cells.size == s | none => false) && i.bytes == by_ | none => false) && decide (0 < s)
theorem elem_facts {t e s by_ : Nat} (h : elemB P t e s by_ = true) : ∃ i z, P.underlying t = some (.slice e) ∧ P.info? e = some i ∧ i.zero = some z ∧ i.size = s ∧ i.bytes = by_ ∧ z.cells.size = s ∧ 0 < s := by
  unfold elemB at h
  rw [Bool.and_eq_true, Bool.and_eq_true, decide_eq_true_eq] at h
  obtain ⟨⟨h1, h2⟩, h3⟩ := h
  obtain ⟨h4, h5⟩ := slice_facts h1
  cases hq : P.info? e with
  | none => simp [hq] at h2
  | some i =>
    cases hz : i.zero with
    | none => simp [hq, hz] at h2
    | some z => simp [hq, hz] at h2 h5; exact ⟨i, z, h4, rfl, hz, h5, h2.2, h2.1, h3⟩
/-- one element laid into a new slice -/
theorem d_slice1 {t e s by_ : Nat} {x : Operand} (hw : Region.wanted { dst := d, op := .buildSlice t 1 #[(0, x)], type := ty, pos := pos, after := af, guard := gd } (yielded ops a.tmps) = true) (hx : a.eval x = v) (ht : elemB P t e s by_ = true) (hs : v.cells.size = s) (hsm : s ≤ 1000)
    (h : ∀ g w', g = w.heap.size → Grow w w' → Blk w' g v.cells e → K (.slice (some ⟨g, 0, none⟩) 1 1) w') : Does P ops { dst := d, op := .buildSlice t 1 #[(0, x)], type := ty, pos := pos, after := af, guard := gd } a w K := by
  obtain ⟨i, z, hu, hi, hz, hsz, _, hzs, h0⟩ := elem_facts ht
  refine does_val (w' := w.alloc (.cells v.cells e)) hw ?_ (h _ _ rfl ((Grow.refl _).alloc _) (heap_alloc_last w _))
  have hfill : Instr.fill (fun j => some (j * i.size, i.size)) ((Array.range (1 * i.size)).map (z.cells[· % z.cells.size]!)) [(0, v)] = some v.cells := by
    simp only [Instr.fill, hsz, Nat.zero_mul, Nat.one_mul, Array.size_map, Array.size_range]
    rw [if_neg (by simp [hs])]
    congr 1
    have key : ∀ (c : List Value) (k : Nat) (Z : Array Value), k + c.length = Z.size → ((c.zipIdx k).foldl (fun cs (x : Value × Nat) => cs.setIfInBounds (0 + x.2) x.1) Z).toList = Z.toList.take k ++ c := by
      intro c
      induction c with
      | nil => intro k Z hk; simp at hk ⊢; rw [List.take_of_length_le (by simp; omega)]
      | cons u c ih =>
        intro k Z hk
        simp only [List.length_cons] at hk
        rw [List.zipIdx_cons, List.foldl_cons, ih (k + 1) _ (by simp; omega)]
        simp only [Nat.zero_add, Array.toList_setIfInBounds]
        have hk' : k < Z.toList.length := by simp; omega
        rw [List.take_add_one, List.getElem?_set_self hk']
        simp [List.take_set_of_le]
    have hz2 := key v.cells.toList 0 ((Array.range s).map (z.cells[· % z.cells.size]!)) (by simp [hs])
    apply Array.ext'
    rw [← Array.foldl_toList, Array.toList_zipIdx]
    simpa using hz2
  have := run_buildSlice (P := P) w t e 1 #[(0, v)] v.cells i z hu hi hz (by rw [hsz]; omega) (by rw [hsz]; omega) (by simpa using hfill)
  unfold execOp
  simp only [Sem.run_bind, List.map_toArray, List.map_cons, List.map_nil, hx, this, Result.andThen_ok, Sem.run_pure]
theorem d_append {t e s by_ B n gb : Nat} {x y : Operand} {xs : List Value} {cs : Array Value} (hw : Region.wanted { dst := d, op := .call { callee := .builtin .append, args := #[x, y], argTypes := #[t, t] }, type := ty, pos := pos, after := af, guard := gd } (yielded ops a.tmps) = true) (hx : a.eval x = v) (hy : a.eval y = .slice (some ⟨gb, 0, none⟩) 1 1)
    (ht : elemB P t e s by_ = true) (hown : w.ownsRow B e s v n xs) (hb : Blk w gb cs e) (hcs : cs.size = s) (h1 : cs.toList.all (·.oneCell') = true) (hn : n ≤ 1000000) (hby : by_ ≤ 10000) (hB : B ≤ w.heap.size)
    (h : ∀ v' w', w'.ownsRow B e s v' (n + 1) (xs ++ cs.toList) → w.grownBy w' v.ownBlock → (v'.ownBlock = v.ownBlock ∨ v'.ownBlock = some w.heap.size) → K v' w') :
    Does P ops { dst := d, op := .call { callee := .builtin .append, args := #[x, y], argTypes := #[t, t] }, type := ty, pos := pos, after := af, guard := gd } a w K := by
  obtain ⟨i, z, hu, hi, hz, hsz, hbz, hzs, h0⟩ := elem_facts ht
  have hmul : (n + 1) * by_ ≤ 1000001 * 10000 := Nat.mul_le_mul (by omega) hby
  obtain ⟨v', w', hr, h2, h3, _, h5⟩ := run_append_own_at (P := P) w B t ty e i z s by_ hu hi hz hsz hbz hzs h0 v n xs hown ⟨gb, 0, none⟩ 1 1 cs.toList (by simp [hcs])
    (fun j u hj => by rw [Addr.add_mid, Nat.zero_add]; exact hb.cell (by simpa using hj)) (fun u hu => (List.all_eq_true.1 h1) u hu) (by simp only [maxLen]; omega) (by omega) hB
  refine does_val hw ?_ (h v' w' h2 h3 h5)
  unfold execOp
  simp only [resolve, invoke, builtin, Sem.run_bind, Sem.run_pure, Result.andThen_ok, List.map_toArray, List.map_cons, List.map_nil, hx, hy, hr]
end
theorem own_lt {w : World} {b : Nat} {e : TypeId} {s n : Nat} {v : Value} {xs : List Value} (h : w.ownsRow b e s v n xs) : ∀ k, v.ownBlock = some k → b ≤ k ∧ k < w.heap.size := by
  intro k hk
  rcases h.2 with ⟨rfl, _⟩ | ⟨g, cap, cur, rfl, hb, hg, _⟩
  · simp [Value.ownBlock] at hk
  · simp [Value.ownBlock] at hk; subst hk; exact ⟨hb, (Array.getElem?_eq_some_iff.1 hg).1⟩
/-- plain operations' values, and claims of the others -/
def tabQ {S : World → World → Prop} (pl : List (Option Value)) (L : List (Cl S)) (i : Nat) : Cl S := match (pl[i]?).getD none with | some v => cv v | none => (L[i]?).getD cfree
theorem tabQ_cv {S : World → World → Prop} (pl : List (Option Value)) (L : List (Cl S)) : ∀ i v u w', (pl[i]?).getD none = some v → ((tabQ pl L i).P u w' ↔ u = v) := fun i v u w' h => by
  unfold tabQ; rw [h]; exact Iff.rfl
/-- a slice of one element in new memory -/
def cs1 (M : Nat → Option (Array Value)) (hM : ∀ k, M k = none) (cs : Array Value) (e : TypeId) : Cl (SM M) :=
  ⟨fun v w => ∃ g, v = .slice (some ⟨g, 0, none⟩) 1 1 ∧ Blk w g cs e, fun _ _ _ hS ⟨g, h1, h2⟩ => ⟨g, h1, h2.sm hS (hM g)⟩⟩
theorem own_form {w : World} {b : Nat} {e : TypeId} {s n : Nat} {v : Value} {xs : List Value} (h : w.ownsRow b e s v n xs) : ∃ ao cap, v = .slice ao n cap := by
  rcases h.2 with ⟨rfl, rfl⟩ | ⟨g, cap, cur, rfl, _⟩
  · exact ⟨none, 0, rfl⟩
  · exact ⟨_, cap, rfl⟩
theorem own_new {w : World} {b g : Nat} {e : TypeId} {s n : Nat} {v : Value} {xs : List Value} (h : w.ownsRow b e s v n xs) (hg : g = w.heap.size) : v.ownBlock ≠ some g := fun hk => by
  have := (own_lt h _ hk).2; omega
theorem own_grow {w w' : World} {b : Nat} {e : TypeId} {s n : Nat} {v : Value} {xs : List Value} (hg : Grow w w') (h : w.ownsRow b e s v n xs) : w'.ownsRow b e s v n xs := by
  obtain ⟨h1, h2⟩ := h
  refine ⟨h1, ?_⟩
  rcases h2 with h2 | ⟨g, cap, cur, hv, hb, hgg, h3⟩
  · exact .inl h2
  · exact .inr ⟨g, cap, cur, hv, hb, by rw [hg.block g (Array.getElem?_eq_some_iff.1 hgg).1]; exact hgg, h3⟩
theorem own_sm {M : Nat → Option (Array Value)} {w w' : World} {b : Nat} {e : TypeId} {s n : Nat} {v : Value} {xs : List Value} (h : w.ownsRow b e s v n xs) (hS : SM M w w') (hM : ∀ k, M k = none) : w'.ownsRow b e s v n xs := by
  obtain ⟨h1, h2⟩ := h
  refine ⟨h1, ?_⟩
  rcases h2 with h2 | ⟨g, cap, cur, hv, hb, hgg, h3⟩
  · exact .inl h2
  · exact .inr ⟨g, cap, cur, hv, hb, by rw [hS.block g (Array.getElem?_eq_some_iff.1 hgg).1 (hM g)]; exact hgg, h3⟩
theorem own_keep {w w' : World} {b : Nat} {e : TypeId} {s n : Nat} {v : Value} {xs : List Value} (h : w.ownsRow b e s v n xs) (hk : ∀ k, v.ownBlock = some k → w'.heap[k]? = w.heap[k]?) : w'.ownsRow b e s v n xs := by
  obtain ⟨h1, h2⟩ := h
  refine ⟨h1, ?_⟩
  rcases h2 with h2 | ⟨g, cap, cur, hv, hb, hgg, h3⟩
  · exact .inl h2
  · exact .inr ⟨g, cap, cur, hv, hb, by rw [hk g (by rw [hv]; rfl)]; exact hgg, h3⟩
theorem own_upd {w w' : World} {b g : Nat} {e : TypeId} {s n : Nat} {v : Value} {xs : List Value} (h : w.ownsRow b e s v n xs) (hu : Upd g w w') (hne : v.ownBlock ≠ some g) : w'.ownsRow b e s v n xs :=
  own_keep h fun k hk => hu.block k (fun e => hne (by rw [← e]; exact hk))
theorem own_by {w w' : World} {b : Nat} {e : TypeId} {s n : Nat} {v u : Value} {xs : List Value} (h : w.ownsRow b e s v n xs) (hg : w.grownBy w' u.ownBlock) (hap : ∀ k, v.ownBlock = some k → u.ownBlock ≠ some k) : w'.ownsRow b e s v n xs :=
  own_keep h fun k hk => hg.block k (own_lt h k hk).2 (fun e => hap k hk e.symm)
theorem Blk.by {w w' : World} {g : Nat} {cs : Array Value} {t : TypeId} {u : Value} (h : Blk w g cs t) (hg : w.grownBy w' u.ownBlock) (hne : u.ownBlock ≠ some g) : Blk w' g cs t := by
  unfold Blk; rw [hg.block g h.lt (fun e => hne e.symm)]; exact h
theorem below_by {B : Nat} {a w w' : World} {u : Value} (h : Below B a w) (hg : w.grownBy w' u.ownBlock) (hB : B ≤ w.heap.size) (hr : ∀ k, u.ownBlock = some k → B ≤ k) : Below B a w' := h.grown hg hB hr
theorem lies_ne {w : World} {v v' : Value} {g : Nat} (hl : v'.ownBlock = v.ownBlock ∨ v'.ownBlock = some w.heap.size) (h : v.ownBlock ≠ some g) (hg : g < w.heap.size) : v'.ownBlock ≠ some g := by
  rcases hl with hl | hl
  · rw [hl]; exact h
  · rw [hl]; intro e; cases e; omega
theorem lies_ap {w : World} {b : Nat} {e : TypeId} {s n : Nat} {v v' u : Value} {xs : List Value} (hl : v'.ownBlock = v.ownBlock ∨ v'.ownBlock = some w.heap.size) (h : ∀ k, u.ownBlock = some k → v.ownBlock ≠ some k) (hu : w.ownsRow b e s u n xs) : ∀ k, u.ownBlock = some k → v'.ownBlock ≠ some k := fun k hk => by
  rcases hl with hl | hl
  · rw [hl]; exact h k hk
  · rw [hl]; intro e; cases e; have := (own_lt hu _ hk).2; omega
end Go.Proofs.Ytiglneecmibgmaa
/- Regions that draw their order in which a block is made and filled: one claim on another operation's value; copies of slices by append. -/
namespace Go.Proofs.Ytiglneecmibgmaa
open Go.RowKit

theorem does_mono {P : Program} {ops : Array Oper} {o : Oper} {a : Act} {w : World} {K K' : Value → World → Prop} (h : Does P ops o a w K) (hK : ∀ v w, K v w → K' v w) : Does P ops o a w K' := by
  rcases h with ⟨h1, h2⟩ | ⟨h1, h2⟩
  · refine .inl ⟨h1, fun Q => Oper.wp_mono (fun a' w' hh => ?_) (h2 Q)⟩
    obtain ⟨v, e, k⟩ := hh
    exact ⟨v, e, hK v w' k⟩
  · exact .inr ⟨h1, hK _ _ h2⟩
/-- what is owed for operation i, where pi's doing makes a claim on pj's value -/
def OblP (P : Program) (ops : Array Oper) (S : World → World → Prop) (n : Nat) (T : List (Nat × Value)) (tab : Nat → Cl S) (pi pj : Nat) (pc : Cl S) (w : World) (i : Nat) (o : Oper) : Prop :=
  ∀ a' w', S w w' → St n T a' → (∀ j, waits o j = true → (tab j).P (valOf ops a' j) w') → Does P ops o a' w' fun v w'' => S w' w'' ∧ (tab i).P (seenV o v) w'' ∧ (i = pi → pc.P (valOf ops a' pj) w'')
section
variable {P : Program} {l : List Oper} {Q : Exit → Act → World → Prop} {S : World → World → Prop} {n : Nat} {T : List (Nat × Value)} {w : World}
theorem drawn_anyP (tab : Nat → Cl S) (pi pj : Nat) (pc : Cl S) (hpi : pi < l.length) (hpw : ∀ o, l[pi]? = some o → waits o pj = true) (htrans : ∀ a b c, S a b → S b c → S a c) (hfit : fitB l.toArray n T = true)
    (hop : ∀ i o, l[i]? = some o → OblP P l.toArray S n T tab pi pj pc w i o)
    (hend : ∀ f a' w', S w w' → (∀ i, i < l.length → (tab i).P (f i) w') → pc.P (f pj) w' → St n (puts l f 0 ++ T) a' → Q .normal a' w') :
    ∀ (fuel : Nat) (listed : Array Bool) (a' : Act) (w' : World), listed.size = l.length → ((List.range l.length).filter fun i => !listed.getD i true).length ≤ fuel → S w w' → St n T a' →
      (∀ i, i < l.length → listed.getD i false = true → (tab i).P (valOf l.toArray a' i) w') → (listed.getD pi false = true → listed.getD pj false = true ∧ pc.P (valOf l.toArray a' pj) w') → wpAny P .any l.toArray Q fuel listed a' w' := by
  have last : ∀ (listed : Array Bool) (a' : Act) (w' : World), listed.size = l.length → Region.ready .any l.toArray listed = [] → S w w' → St n T a' →
      (∀ i, i < l.length → listed.getD i false = true → (tab i).P (valOf l.toArray a' i) w') → (listed.getD pi false = true → listed.getD pj false = true ∧ pc.P (valOf l.toArray a' pj) w') → Q .normal a' w' := by
    intro listed a' w' hls hr hS hT hin hlk
    have all : ∀ i, i < l.length → listed.getD i false = true := by
      intro i
      induction i using Nat.strongRecOn with
      | _ i ih =>
        intro hi
        cases hl : listed.getD i false with
        | true => rfl
        | false =>
          exfalso
          have : i ∈ Region.ready .any l.toArray listed := by
            rw [mem_ready]
            have hli : i < listed.size := by omega
            have hoi : l.toArray[i]? = some l[i] := by simp [hi]
            refine ⟨by simpa [hli] using hl, l[i], hoi, fun e he hb => ?_⟩
            have hlt := (fit_spec hfit hoi).2 e he hb
            exact ih e.on hlt (by omega)
          rw [hr] at this; cases this
    refine hend (valOf l.toArray a') a' w' hS (fun i hi => hin i hi (all i hi)) (hlk (all pi hpi)).2 ⟨hT.size, hT.defers, fun t v hv => ?_⟩
    rcases puts_look (valOf l.toArray a') T l 0 hv with ⟨i, o, h1, h2, h3⟩ | h
    · have hd : dstOf l.toArray i = some t := by simp [dstOf, h1, h2]
      rw [h3, Nat.zero_add]; unfold valOf; rw [hd]
    · exact hT.get t v h
  intro fuel
  induction fuel with
  | zero =>
    intro listed a' w' hls hf hS hT hin hlk
    have hr : Region.ready .any l.toArray listed = [] := by
      unfold Region.ready
      rw [List.filter_eq_nil_iff]
      intro i hi
      have hnil : ((List.range l.length).filter fun i => !listed.getD i true) = [] := List.eq_nil_of_length_eq_zero (by omega)
      rw [List.filter_eq_nil_iff] at hnil
      have := hnil i (by simpa using hi)
      simp only [Bool.not_eq_true, Bool.not_eq_false'] at this
      simp [this]
    exact ⟨hr, last listed a' w' hls hr hS hT hin hlk⟩
  | succ fuel ih =>
    intro listed a' w' hls hf hS hT hin hlk
    refine ⟨fun hr => last listed a' w' hls hr hS hT hin hlk, fun i hi => ?_⟩
    obtain ⟨hun, o, hoi, hall⟩ := mem_ready.1 hi
    have hil : i < l.length := by have := (Array.getElem?_eq_some_iff.1 hoi).1; simpa using this
    have hoi' : l[i]? = some o := by simpa using hoi
    obtain ⟨hfd, hfe⟩ := fit_spec hfit hoi
    have hk0 : ∀ j, waits o j = true → j < i ∧ listed.getD j false = true := fun j hj => by
      unfold waits at hj
      rw [List.any_eq_true] at hj
      obtain ⟨e, he', hb⟩ := hj
      have he : e ∈ o.after := by simpa using he'
      simp only [Bool.and_eq_true, beq_iff_eq] at hb
      have := hfe e he hb.1
      rw [← hb.2]
      exact ⟨by omega, hall e he hb.1⟩
    have hk : ∀ j, waits o j = true → (tab j).P (valOf l.toArray a' j) w' := fun j hj => hin j (by have := (hk0 j hj).1; omega) (hk0 j hj).2
    have hunf : listed.getD i false = false := by
      have hli : i < listed.size := by omega
      simpa [Array.getD_eq_getD_getElem?, hli] using hun
    have same : ∀ (v : Value) (j : Nat), j < l.length → j ≠ i → valOf l.toArray (a'.put o.dst v) j = valOf l.toArray a' j := fun v j hj hji => by
      unfold valOf
      cases hdj : dstOf l.toArray j with
      | none => rfl
      | some d' =>
        cases hd : o.dst with
        | none => rfl
        | some d =>
          have hne : d ≠ d' := fun e => by subst e; exact hji ((hfd d hd).2.1 j (by simpa using hj) hdj)
          simp [Act.put, Array.getD_eq_getD_getElem?, Array.getElem?_setIfInBounds_ne hne]
    have go : ∀ (v : Value) (w2 : World), S w' w2 → (tab i).P (seenV o v) w2 → (i = pi → pc.P (valOf l.toArray a' pj) w2) → wpAny P .any l.toArray Q fuel (listed.setIfInBounds i true) (a'.put o.dst v) w2 := by
      intro v w2 hS2 hv hpc
      have hT2 : St n T (a'.put o.dst v) := by
        cases hd : o.dst with
        | none => exact hT
        | some d =>
          obtain ⟨hdn, _, hTd⟩ := hfd d hd
          have hp := hT.put hdn v
          refine ⟨hp.size, hp.defers, fun t u hu => hp.get t u ?_⟩
          have hne : t ≠ d := hTd (t, u) (lookup_mem hu)
          rw [List.lookup_cons]
          have : (t == d) = false := by simpa using hne
          simp only [this]; exact hu
      refine ih _ _ _ (by simpa using hls) ?_ (htrans _ _ _ hS hS2) hT2 (fun j hj hlj => ?_) (fun hlp => ?_)
      · have hlt : i < listed.size := by omega
        have : ((List.range l.length).filter fun k => !(listed.setIfInBounds i true).getD k true).length < ((List.range l.length).filter fun k => !listed.getD k true).length := by
          have hsub : ((List.range l.length).filter fun k => !(listed.setIfInBounds i true).getD k true) = ((List.range l.length).filter fun k => !listed.getD k true).filter (fun k => k != i) := by
            rw [List.filter_filter]
            apply List.filter_congr
            intro k _
            by_cases hk : k = i
            · subst hk; simp [hlt]
            · rw [set_ne true (Ne.symm hk)]; simp [hk]
          rw [hsub]
          refine List.length_filter_lt_length_iff_exists.2 ⟨i, ?_, by simp⟩
          simp only [List.mem_filter, List.mem_range]
          exact ⟨hil, by rw [hun]; rfl⟩
        omega
      · by_cases hji : j = i
        · subst hji
          have : valOf l.toArray (a'.put o.dst v) j = seenV o v := by
            cases hd : o.dst with
            | none =>
              have hdi : dstOf l.toArray j = none := by simp [dstOf, hoi', hd]
              unfold valOf seenV; rw [hdi, hd]
            | some d =>
              have hdi : dstOf l.toArray j = some d := by simp [dstOf, hoi', hd]
              have hdl : d < a'.tmps.size := by rw [hT.size]; exact (hfd d hd).1
              unfold valOf seenV; rw [hdi, hd]; simp [Act.put, hdl]
          rw [this]; exact hv
        · have h1 := hin j hj (by rwa [set_ne false (Ne.symm hji)] at hlj)
          rw [same v j hj hji]; exact (tab j).st _ _ _ hS2 h1
      · by_cases hpe : i = pi
        · have hw := hk0 pj (hpw o (hpe ▸ hoi'))
          have hne : pj ≠ i := by omega
          refine ⟨by rw [set_ne false (Ne.symm hne)]; exact hw.2, ?_⟩
          rw [same v pj (by omega) hne]
          exact hpc hpe
        · rw [set_ne false hpe] at hlp
          obtain ⟨h1, h2⟩ := hlk hlp
          have hne : pj ≠ i := fun e => by rw [e, hunf] at h1; cases h1
          have hpl : pj < l.length := by
            have : pj < listed.size := by
              by_cases hc : pj < listed.size
              · exact hc
              · simp [Array.getD_eq_getD_getElem?, hc] at h1
            omega
          refine ⟨by rw [set_ne false (Ne.symm hne)]; exact h1, ?_⟩
          rw [same v pj hpl hne]
          exact pc.st _ _ _ hS2 h2
    unfold wpOp
    rcases hop i o hoi' a' w' hS hT hk with ⟨hw, h⟩ | ⟨hw, h⟩
    · simp only [hoi, hw, if_true]
      refine .inl (Oper.wp_mono (fun a2 w2 h => ?_) (h Q))
      obtain ⟨v, rfl, hS2, hv, hp⟩ := h
      exact go v w2 hS2 hv hp
    · simp only [hoi, hw, Bool.false_eq_true, if_false]
      exact go undef w' h.1 h.2.1 h.2.2
def EachsP (P : Program) (ops : Array Oper) (S : World → World → Prop) (n : Nat) (T : List (Nat × Value)) (tab : Nat → Cl S) (pi pj : Nat) (pc : Cl S) (w : World) (k : Nat) (l : List Oper) : Prop := ∀ i o, l[i]? = some o → OblP P ops S n T tab pi pj pc w (k + i) o
theorem eachP_nil {ops : Array Oper} {tab : Nat → Cl S} {k pi pj : Nat} {pc : Cl S} : EachsP P ops S n T tab pi pj pc w k [] := fun i o h => by simp at h
theorem eachP_pair {ops : Array Oper} {tab : Nat → Cl S} {k pi pj : Nat} {pc : Cl S} {o : Oper} {os : List Oper} (h : OblP P ops S n T tab pi pj pc w k o) (ht : EachsP P ops S n T tab pi pj pc w (k + 1) os) : EachsP P ops S n T tab pi pj pc w k (o :: os) := fun i p hp => by
  cases i with
  | zero => simp at hp; subst hp; exact h
  | succ i => have := ht i p (by simpa using hp); rwa [show k + 1 + i = k + (i + 1) by omega] at this
theorem eachP_cons {ops : Array Oper} {tab : Nat → Cl S} {k pi pj : Nat} {pc : Cl S} {o : Oper} {os : List Oper} (hne : k ≠ pi) (h : Obl P ops S n T tab w k o) (ht : EachsP P ops S n T tab pi pj pc w (k + 1) os) : EachsP P ops S n T tab pi pj pc w k (o :: os) :=
  eachP_pair (fun a' w' h1 h2 h3 => does_mono (h a' w' h1 h2 h3) fun _ _ hh => ⟨hh.1, hh.2, fun e => absurd e hne⟩) ht
theorem drawnP {id : Nat} {a : Act} (tab : Nat → Cl S) (pi pj : Nat) (pc : Cl S) (hpi : pi < l.length) (hpw : ((l[pi]?).map fun o => waits o pj) = some true) (hm : P.follows .mixedOrders = true) (hrefl : ∀ w, S w w) (htrans : ∀ a b c, S a b → S b c → S a c) (hdrew : ∀ w : World, S w w.drew) (hA : St n T a) (hfit : fitB l.toArray n T = true)
    (hop : EachsP P l.toArray S n T tab pi pj pc w.drew 0 l)
    (hend : ∀ f a' w', S w w' → (∀ i, i < l.length → (tab i).P (f i) w') → pc.P (f pj) w' → St n (puts l f 0 ++ T) a' → Q .normal a' w') : (Code.region id l.toArray true).wp P Q a w := by
  refine wp_region_any hm ?_
  refine drawn_anyP (w := w.drew) tab pi pj pc hpi (fun o ho => by rw [ho] at hpw; simpa using hpw) htrans hfit (fun i o h => by have := hop i o h; rwa [Nat.zero_add] at this) (fun f a' w' hS => hend f a' w' (htrans _ _ _ (hdrew w) hS)) _ _ _ _ (by simp) ?_ (hrefl _) hA (fun i _ hi => ?_) (fun hi => ?_)
  · refine Nat.le_trans (List.length_filter_le _ _) (by simp)
  · exfalso
    simp [Array.getD_eq_getD_getElem?, Array.getElem?_replicate] at hi; split at hi <;> simp at hi
  · exfalso
    simp [Array.getD_eq_getD_getElem?, Array.getElem?_replicate] at hi; split at hi <;> simp at hi
end

/-! ### Worlds that grow, blocks of one kind in new memory turning from what they were made with to what they will hold -/
structure SZ (B0 : Nat) (Z R : Array Value) (t : TypeId) (w w' : World) : Prop where
  os : w'.os = w.os
  tape : w'.tape = w.tape
  output : w'.output = w.output
  size : w.heap.size ≤ w'.heap.size
  block : ∀ k, k < w.heap.size → w'.heap[k]? = w.heap[k]? ∨ (B0 ≤ k ∧ Blk w k Z t ∧ Blk w' k R t)
section
variable {B0 : Nat} {Z R : Array Value} {t : TypeId} {w w' : World}
theorem SZ.refl (w : World) : SZ B0 Z R t w w := ⟨rfl, rfl, rfl, Nat.le_refl _, fun _ _ => .inl rfl⟩
theorem SZ.trans (a b c : World) (h : SZ B0 Z R t a b) (k : SZ B0 Z R t b c) : SZ B0 Z R t a c :=
  ⟨k.os.trans h.os, k.tape.trans h.tape, k.output.trans h.output, Nat.le_trans h.size k.size, fun i hi => by
    rcases h.block i hi with h1 | ⟨h1, h2, h3⟩ <;> rcases k.block i (Nat.lt_of_lt_of_le hi h.size) with k1 | ⟨k1, k2, k3⟩
    · exact .inl (k1.trans h1)
    · refine .inr ⟨k1, ?_, k3⟩; unfold Blk at k2 ⊢; rw [← h1]; exact k2
    · refine .inr ⟨h1, h2, ?_⟩; unfold Blk at h3 ⊢; rw [k1]; exact h3
    · exact .inr ⟨h1, h2, k3⟩⟩
theorem SZ.grow (h : Grow w w') : SZ B0 Z R t w w' := ⟨h.os, h.tape, h.output, h.size, fun k hk => .inl (h.block k hk)⟩
theorem SZ.drew (w : World) : SZ B0 Z R t w w.drew := SZ.grow (Grow.refl w).drew
theorem SZ.below {B : Nat} {a : World} (h : SZ B0 Z R t w w') (hb : Below B a w) (hB : B ≤ B0) (hw : B ≤ w.heap.size) : Below B a w' :=
  hb.trans ⟨h.os, h.tape, h.output, h.size, fun k hk => by
    rcases h.block k (by omega) with h1 | ⟨h1, _⟩
    · exact h1
    · omega⟩
theorem SZ.far (h : SZ B0 Z R t w w') (hB : B0 ≤ w.heap.size) : Below B0 w w' := h.below (Below.refl _ _) (Nat.le_refl _) hB
theorem SZ.keep {g : Nat} {cs : Array Value} {e : TypeId} (h : SZ B0 Z R t w w') (hb : w.heap[g]? = some (.cells cs e (0, 0))) (he : e ≠ t) : w'.heap[g]? = some (.cells cs e (0, 0)) := by
  rcases h.block g (Array.getElem?_eq_some_iff.1 hb).1 with h1 | ⟨_, h2, _⟩
  · rw [h1]; exact hb
  · unfold Blk at h2; rw [hb] at h2; injection h2 with h2; injection h2 with _ h4; exact absurd h4 he
theorem own_sz {b : Nat} {e : TypeId} {s n : Nat} {v : Value} {xs : List Value} (h : w.ownsRow b e s v n xs) (hS : SZ B0 Z R t w w') (he : e ≠ t) : w'.ownsRow b e s v n xs := by
  obtain ⟨h1, h2⟩ := h
  refine ⟨h1, ?_⟩
  rcases h2 with h2 | ⟨g, cap, cur, hv, hb, hgg, h3⟩
  · exact .inl h2
  · exact .inr ⟨g, cap, cur, hv, hb, hS.keep hgg he, h3⟩
def cRow (e s n : Nat) (xs : List Value) (he : e ≠ t) : Cl (SZ B0 Z R t) := ⟨fun v w => ∃ b, w.ownsRow b e s v n xs, fun _ _ _ hS ⟨b, h⟩ => ⟨b, own_sz h hS he⟩⟩
def cMade : Cl (SZ B0 Z R t) := ⟨fun v w => ∃ g, v = .pointer (some ⟨g, 0, none⟩) ∧ B0 ≤ g ∧ (Blk w g Z t ∨ Blk w g R t), fun _ w w' hS ⟨g, h1, h2, h3⟩ => ⟨g, h1, h2, by
  have hlt : g < w.heap.size := h3.elim (fun h => h.lt) (fun h => h.lt)
  rcases hS.block g hlt with k | ⟨_, _, k⟩
  · unfold Blk at h3 ⊢; rw [k]; exact h3
  · exact .inr k⟩⟩
def cFilled : Cl (SZ B0 Z R t) := ⟨fun v w => ∃ g, v = .pointer (some ⟨g, 0, none⟩) ∧ B0 ≤ g ∧ Blk w g R t, fun _ w w' hS ⟨g, h1, h2, h3⟩ => ⟨g, h1, h2, by
  rcases hS.block g h3.lt with k | ⟨_, _, k⟩
  · unfold Blk at h3 ⊢; rw [k]; exact h3
  · exact k⟩⟩
end
section
variable {P : Program} {ops : Array Oper} {a : Act} {w : World} {K : Value → World → Prop} {d : Option Tmp} {ty : TypeId} {pos : String} {af : Array Edge} {gd : Option (Nat × Bool)} {v : Value}
theorem d_storeZ {B0 : Nat} {Z R : Array Value} {t t' : TypeId} {x y : Operand} {u : Value} (hw : Region.wanted { dst := none, op := .store t' x y, type := ty, pos := pos, after := af, guard := gd } (yielded ops a.tmps) = true) (hx : a.eval x = u) (hu : ∃ g, u = .pointer (some ⟨g, 0, none⟩) ∧ B0 ≤ g ∧ (Blk w g Z t ∨ Blk w g R t)) (hy : a.eval y = .agg R)
    (h1 : rowB P t' R.size = true) (hs : Z.size = R.size) (ho : R.toList.all (·.oneCell') = true) (h : ∀ w', SZ B0 Z R t w w' → (∃ g, u = .pointer (some ⟨g, 0, none⟩) ∧ B0 ≤ g ∧ Blk w' g R t) → K undef w') :
    Does P ops { dst := none, op := .store t' x y, type := ty, pos := pos, after := af, guard := gd } a w K := by
  obtain ⟨g, rfl, hg, hb⟩ := hu
  have main : ∀ cs : Array Value, Blk w g cs t → cs.size = R.size → (∀ w', Upd g w w' → Blk w' g R t → SZ B0 Z R t w w') → Does P ops { dst := none, op := .store t' x y, type := ty, pos := pos, after := af, guard := gd } a w K := fun cs hcs hsz hz =>
    d_storeRow hw hx hy h1 hcs hsz ho fun w' hU hb' => h w' (hz w' hU hb') ⟨g, rfl, hg, hb'⟩
  rcases hb with hb | hb
  · exact main Z hb hs fun w' hU hb' => ⟨hU.os, hU.tape, hU.output, Nat.le_of_eq hU.size.symm, fun k _ => by
      by_cases hk : k = g
      · subst hk; exact .inr ⟨hg, hb, hb'⟩
      · exact .inl (hU.block k hk)⟩
  · exact main R hb rfl fun w' hU hb' => ⟨hU.os, hU.tape, hU.output, Nat.le_of_eq hU.size.symm, fun k _ => by
      by_cases hk : k = g
      · subst hk; left; unfold Blk at hb hb'; rw [hb, hb']
      · exact .inl (hU.block k hk)⟩
/-- a slice literal without parts -/
theorem d_none {t e s by_ : Nat} (hw : Region.wanted { dst := d, op := .buildSlice t 0 #[], type := ty, pos := pos, after := af, guard := gd } (yielded ops a.tmps) = true) (ht : elemB P t e s by_ = true)
    (h : ∀ g w', g = w.heap.size → Grow w w' → Blk w' g #[] e → K (.slice (some ⟨g, 0, none⟩) 0 0) w') : Does P ops { dst := d, op := .buildSlice t 0 #[], type := ty, pos := pos, after := af, guard := gd } a w K := by
  obtain ⟨i, z, hu, hi, hz, hsz, _, hzs, h0⟩ := elem_facts ht
  refine does_val (w' := w.alloc (.cells #[] e)) hw ?_ (h _ _ rfl ((Grow.refl _).alloc _) (heap_alloc_last w _))
  have : (Instr.buildSlice t 0 #[]).run P w = .ok (.slice (some ⟨w.heap.size, 0, none⟩) 0 0) (w.alloc (.cells #[] e)) := by
    simp [Instr.buildSlice, run_underlying hu, sizeOf, typeInfo, hi, Instr.fill, newRow]
    congr 1
    congr 1
    apply Array.ext'
    simp
  unfold execOp
  simp only [Sem.run_bind, List.map_toArray, List.map_nil, this, Result.andThen_ok, Sem.run_pure]
/-- append([]T{}, l...) -/
theorem d_copyF {α : Type} {enc : α → List Value} {t e s by_ B g : Nat} {x y : Operand} {l : List α} (hw : Region.wanted { dst := d, op := .call { callee := .builtin .append, args := #[x, y], argTypes := #[t, t] }, type := ty, pos := pos, after := af, guard := gd } (yielded ops a.tmps) = true) (hx : a.eval x = .slice (some ⟨g, 0, none⟩) 0 0) (hb : Blk w g #[] e) (hy : a.eval y = v)
    (ht : elemB P t e s by_ = true) (hs : Sl enc s B w v l) (hel : ∀ x, (enc x).length = s) (he1 : ∀ x, ∀ u ∈ enc x, u.oneCell' = true) (hn : l.length ≤ 1000000) (hby : by_ ≤ 10000)
    (h : ∀ v' w', Grow w w' → w'.ownsRow g e s v' l.length (l.flatMap enc) → (∃ g' cap', v' = .slice (some ⟨g', 0, none⟩) l.length cap') → K v' w') :
    Does P ops { dst := d, op := .call { callee := .builtin .append, args := #[x, y], argTypes := #[t, t] }, type := ty, pos := pos, after := af, guard := gd } a w K := by
  obtain ⟨i, z, hu, hi, hz, hsz, hbz, hzs, h0⟩ := elem_facts ht
  obtain ⟨ao, cap, rfl, hlc, hel'⟩ := hs
  have hfl : ∀ l : List α, (l.flatMap enc).length = l.length * s := fun l => by
    induction l with
    | nil => simp
    | cons c l ih => rw [List.flatMap_cons, List.length_append, ih, hel, List.length_cons, Nat.add_mul, Nat.one_mul, Nat.add_comm]
  have hone : ∀ u ∈ l.flatMap enc, u.oneCell' = true := fun u hu => by
    obtain ⟨c, _, hc⟩ := List.mem_flatMap.1 hu
    exact he1 c u hc
  have hat : ∀ (l : List α) (j : Nat) u, (l.flatMap enc)[j]? = some u → ∃ k c q, l[k]? = some c ∧ (enc c)[q]? = some u ∧ j = k * s + q := fun l => by
    induction l with
    | nil => intro j u hj; simp at hj
    | cons c l ih =>
      intro j u hj
      rw [List.flatMap_cons] at hj
      by_cases hlt : j < (enc c).length
      · rw [List.getElem?_append_left hlt] at hj; exact ⟨0, c, j, by simp, hj, by omega⟩
      · rw [List.getElem?_append_right (by omega)] at hj
        obtain ⟨k, c', q, h1, h2, h3⟩ := ih _ _ hj
        rw [hel] at h3 hlt
        exact ⟨k + 1, c', q, by simpa using h1, h2, by rw [Nat.add_mul, Nat.one_mul]; omega⟩
  cases l with
  | nil =>
    have hsrc : Src P i.size t (.slice ao 0 cap) 0 [] w := by
      cases ao with
      | none => exact Src.ofNil w hu cap
      | some x0 => exact Src.ofSlice w hu x0 0 cap [] (by simp) (fun j u hj => by simp at hj) (fun u hu => by cases hu)
    have hr := run_append_nothing (P := P) w t t ty e i hu hi (some ⟨g, 0, none⟩) 0 0 (Nat.le_refl _) _ hsrc
    refine does_val hw ?_ (h (.slice (some ⟨g, 0, none⟩) 0 0) w (Grow.refl _) ⟨by simp, .inr ⟨g, 0, #[], rfl, Nat.le_refl _, hb, Nat.le_refl _, by simp [maxLen], by simp, by simp⟩⟩ ⟨_, _, rfl⟩)
    unfold execOp
    simp only [resolve, invoke, builtin, Sem.run_bind, Sem.run_pure, Result.andThen_ok, List.map_toArray, List.map_cons, List.map_nil, List.length_nil, hx, hy, hr]
  | cons c l =>
    obtain ⟨b, o, rfl, _, _⟩ := hel' 0 c (by simp)
    have hsrc : Src P i.size t (.slice (some ⟨b, o, none⟩) (c :: l).length cap) (c :: l).length ((c :: l).flatMap enc) w := by
      refine Src.ofSlice w hu _ _ cap _ (by rw [hfl, hsz]) (fun j u hj => ?_) hone
      obtain ⟨k, c', q, h1, h2, rfl⟩ := hat _ j u hj
      obtain ⟨b', o', h3, _, h5⟩ := hel' k c' h1
      simp at h3
      obtain ⟨rfl, rfl⟩ := h3
      rw [Addr.add_mid, show o + (k * s + q) = o + k * s + q by omega]
      exact h5 q u h2
    have hpos : 0 < (c :: l).length := by simp
    have hcap : Builtin.nextslicecap (0 + (c :: l).length) 0 = (c :: l).length := by unfold Builtin.nextslicecap; rw [if_pos (by omega)]; omega
    have hmul : (c :: l).length * i.bytes ≤ 1000000 * 10000 := Nat.mul_le_mul hn (by omega)
    have hr := run_append_grow_src (P := P) w t t ty e i z hu hi hz (some ⟨g, 0, none⟩) 0 0 [] (by simp [Builtin.firstCells, loadCells, loadCellsFrom]) _ _ _ hsrc (by omega) (by omega) (by rw [hcap]; omega)
    have hge := grownCap_ge w (0 + (c :: l).length) 0 e
    have hcm : grownCap w (0 + (c :: l).length) 0 e ≤ maxLen := grownCap_le_maxLen w (0 + (c :: l).length) 0 e (by simp only [maxLen]; omega)
    have hown : (w.drew.alloc (.cells (([] ++ (c :: l).flatMap enc).toArray ++ Builtin.zeroCells z.cells (grownCap w (0 + (c :: l).length) 0 e - (0 + (c :: l).length))) e)).ownsRow g e s (.slice (some ⟨w.heap.size, 0, none⟩) (c :: l).length (grownCap w (0 + (c :: l).length) 0 e)) (c :: l).length ((c :: l).flatMap enc) := by
      refine ⟨hfl _, .inr ⟨w.heap.size, _, _, rfl, Nat.le_of_lt hb.lt, heap_alloc_new w.drew _, (by rw [Nat.zero_add] at hge ⊢; exact hge), hcm, ?_, ?_⟩⟩
      · simp only [Array.size_append, List.size_toArray, size_zeroCells, hzs, List.nil_append, hfl, ← Nat.add_mul]
        congr 1
        omega
      · simp only [Array.toList_append, List.nil_append]
        rw [← hfl]
        exact List.take_left
    refine does_val hw ?_ (h _ _ (((Grow.refl w).drew).alloc _) hown ⟨_, _, rfl⟩)
    unfold execOp
    simp only [resolve, invoke, builtin, Sem.run_bind, Sem.run_pure, Result.andThen_ok, List.map_toArray, List.map_cons, List.map_nil, hx, hy, hr]
    rw [Nat.zero_add]
theorem d_copy {α : Type} {enc : α → List Value} {t e s by_ B g : Nat} {x y : Operand} {l : List α} (hw : Region.wanted { dst := d, op := .call { callee := .builtin .append, args := #[x, y], argTypes := #[t, t] }, type := ty, pos := pos, after := af, guard := gd } (yielded ops a.tmps) = true) (hx : a.eval x = .slice (some ⟨g, 0, none⟩) 0 0) (hb : Blk w g #[] e) (hy : a.eval y = v)
    (ht : elemB P t e s by_ = true) (hs : Sl enc s B w v l) (hel : ∀ x, (enc x).length = s) (he1 : ∀ x, ∀ u ∈ enc x, u.oneCell' = true) (hn : l.length ≤ 1000000) (hby : by_ ≤ 10000)
    (h : ∀ v' w', Grow w w' → w'.ownsRow g e s v' l.length (l.flatMap enc) → K v' w') :
    Does P ops { dst := d, op := .call { callee := .builtin .append, args := #[x, y], argTypes := #[t, t] }, type := ty, pos := pos, after := af, guard := gd } a w K :=
  d_copyF hw hx hb hy ht hs hel he1 hn hby fun v' w' h1 h2 _ => h v' w' h1 h2
end
theorem own_gen {α : Type} {enc : α → List Value} {w : World} {b e s : Nat} {v : Value} {l : List α} (hel : ∀ x, (enc x).length = s) (h : w.ownsRow b e s v l.length (l.flatMap enc)) : Sl enc s w.heap.size w v l := by
  obtain ⟨h1, h2⟩ := h
  rcases h2 with ⟨rfl, h2⟩ | ⟨g, cap, cur, hv, hb, hg, hc, _, hs, ht⟩
  · have : l = [] := List.eq_nil_of_length_eq_zero h2
    subst this; exact Sl.nil
  · refine ⟨some ⟨g, 0, none⟩, cap, hv, hc, fun j x hx => ⟨g, 0, rfl, (Array.getElem?_eq_some_iff.1 hg).1, fun k u hu => ?_⟩⟩
    rw [cell_of_row w g _ cur _ _ hg]
    have hk : k < s := by have := get_lt hu; rwa [hel] at this
    have hj := get_lt hx
    have key : ∀ (l : List α) (j : Nat) (x : α), l[j]? = some x → (enc x)[k]? = some u → (l.flatMap enc)[j * s + k]? = some u := by
      intro l
      induction l with
      | nil => intro j x hx; simp at hx
      | cons c l ih =>
        intro j x hx hu
        rw [List.flatMap_cons]
        cases j with
        | zero =>
          simp at hx; subst hx
          rw [Nat.zero_mul, Nat.zero_add, List.getElem?_append_left (by rw [hel]; exact hk)]; exact hu
        | succ j =>
          rw [List.getElem?_append_right (by rw [hel, Nat.add_mul]; omega), hel, show (j + 1) * s + k - s = j * s + k by rw [Nat.add_mul]; omega]
          exact ih j x (by simpa using hx) hu
    have hlt : j * s + k < l.length * s := by
      have := Nat.mul_le_mul_right s (show j + 1 ≤ l.length by omega)
      rw [Nat.add_mul] at this; omega
    have h3 : (cur.toList.take (l.length * s))[j * s + k]? = some u := by rw [ht]; exact key l j x hx hu
    rw [List.getElem?_take_of_lt hlt] at h3
    rw [Nat.zero_add, ← Array.getElem?_toList]; exact h3
end Go.Proofs.Ytiglneecmibgmaa
/- Regions that draw their order and end with a row of operations, each of which waits for all ahead of it. -/
namespace Go.Proofs.Ytiglneecmibgmaa
open Go.RowKit

def SeqD (P : Program) (ops : Array Oper) : List Oper → Act → World → (Act → World → Prop) → Prop
  | [], a, w, Q => Q a w
  | o :: os, a, w, Q => Does P ops o a w fun v w' => SeqD P ops os (a.put o.dst v) w' Q
/-- what an operation waits for, and what those wait for -/
def clos (ops : Array Oper) : Nat → Nat → List Nat
  | 0, _ => []
  | f + 1, i => match ops[i]? with
    | some o => o.after.toList.flatMap fun e => if Region.binds .any e = true then e.on :: clos ops f e.on else []
    | none => []
def tailB (ops : Array Oper) (m fuel : Nat) : Bool := (List.range ops.size).all fun i => decide (i < m) || (List.range i).all fun j => (clos ops fuel i).contains j
theorem clos_listed {ops : Array Oper} {listed : Array Bool} (dc : ∀ i o, ops[i]? = some o → listed.getD i false = true → ∀ e ∈ o.after, Region.binds .any e = true → listed.getD e.on false = true) :
    ∀ (f i : Nat) o, ops[i]? = some o → (∀ e ∈ o.after, Region.binds .any e = true → listed.getD e.on false = true) → ∀ j ∈ clos ops f i, listed.getD j false = true
  | 0, _, _, _, _, j, hj => by simp [clos] at hj
  | f + 1, i, o, ho, he, j, hj => by
    unfold clos at hj
    simp only [ho] at hj
    obtain ⟨e, hem, hj⟩ := List.mem_flatMap.1 hj
    split at hj
    · rename_i hb
      have hl := he e (by simpa using hem) hb
      rcases List.mem_cons.1 hj with rfl | hj
      · exact hl
      · cases hq : ops[e.on]? with
        | none => cases f with
          | zero => simp [clos] at hj
          | succ f => unfold clos at hj; simp [hq] at hj
        | some o' => exact clos_listed dc f e.on o' hq (dc e.on o' hq hl) j hj
    · simp at hj
/-- a pointer's block -/
def blkOf : Value → Option Nat
  | .pointer (some p) => some p.block
  | _ => none
def OblA (P : Program) (ops : Array Oper) (S : World → World → Prop) (n : Nat) (T : List (Nat × Value)) (tab : Nat → Cl S) (al : List Nat) (w : World) (i : Nat) (o : Oper) : Prop :=
  ∀ a' w', S w w' → St n T a' → (∀ j, waits o j = true → (tab j).P (valOf ops a' j) w') → Does P ops o a' w' fun v w'' => S w' w'' ∧ (tab i).P (seenV o v) w'' ∧ (al.contains i = true → ∃ g, blkOf (seenV o v) = some g ∧ w'.heap.size ≤ g)
section
variable {P : Program} {l ys : List Oper} {Q : Exit → Act → World → Prop} {S : World → World → Prop} {n fu : Nat} {T : List (Nat × Value)} {w : World}
theorem tail_ready {listed : Array Bool} {i : Nat} (ht : tailB (l ++ ys).toArray l.length fu = true) (_hls : listed.size = (l ++ ys).length) (dc : ∀ i o, (l ++ ys).toArray[i]? = some o → listed.getD i false = true → ∀ e ∈ o.after, Region.binds .any e = true → listed.getD e.on false = true)
    (hi : i ∈ Region.ready .any (l ++ ys).toArray listed) (hil : l.length ≤ i) : ∀ j, j < i → listed.getD j false = true := by
  obtain ⟨hun, o, hoi, hall⟩ := mem_ready.1 hi
  have hlt := (Array.getElem?_eq_some_iff.1 hoi).1
  unfold tailB at ht
  have h1 := List.all_eq_true.1 ht i (by simpa using hlt)
  rw [Bool.or_eq_true] at h1
  rcases h1 with h1 | h1
  · have := of_decide_eq_true h1; omega
  · intro j hj
    have h2 := List.all_eq_true.1 h1 j (by simpa using hj)
    exact clos_listed dc fu i o hoi hall j (by simpa using h2)
theorem tail_seq (ht : tailB (l ++ ys).toArray l.length fu = true) (hfit : fitB (l ++ ys).toArray n T = true) :
    ∀ (zs : List Oper) (k : Nat) (fuel : Nat) (listed : Array Bool) (a' : Act) (w' : World), ys.drop k = zs → k ≤ ys.length → listed.size = (l ++ ys).length → (∀ i, listed.getD i false = true ↔ i < l.length + k) → zs.length ≤ fuel →
      SeqD P (l ++ ys).toArray zs a' w' (fun a w => Q .normal a w) → wpAny P .any (l ++ ys).toArray Q fuel listed a' w'
  | [], k, fuel, listed, a', w', hz, hk, hls, hli, _, h => by
    have hkl : k = ys.length := by
      have := congrArg List.length hz; simp at this; omega
    have hr : Region.ready .any (l ++ ys).toArray listed = [] := by
      rw [List.eq_nil_iff_forall_not_mem]
      intro i hi
      obtain ⟨hun, o, hoi, _⟩ := mem_ready.1 hi
      have hlt := (Array.getElem?_eq_some_iff.1 hoi).1
      have h1 := (hli i).2 (by simp at hlt; omega)
      have hls' : i < listed.size := by simp at hlt; rw [hls]; simp; omega
      simp [Array.getD_eq_getD_getElem?, hls'] at hun h1
      rw [h1] at hun; cases hun
    cases fuel with
    | zero => exact ⟨hr, h⟩
    | succ fuel => exact ⟨fun _ => h, fun i hi => by rw [hr] at hi; cases hi⟩
  | o :: os, k, 0, listed, a', w', hz, hk, hls, hli, hf, h => by simp at hf
  | o :: os, k, fuel + 1, listed, a', w', hz, hk, hls, hli, hf, h => by
    have hkl : k < ys.length := by
      have := congrArg List.length hz; simp at this; omega
    have hyk : ys[k]? = some o := by
      have := congrArg (fun l => l[0]?) hz; simpa using this
    have hok : (l ++ ys).toArray[l.length + k]? = some o := by
      simp [List.getElem?_append_right (show l.length ≤ l.length + k by omega), hyk]
    have dc : ∀ i o, (l ++ ys).toArray[i]? = some o → listed.getD i false = true → ∀ e ∈ o.after, Region.binds .any e = true → listed.getD e.on false = true := fun i o ho hl e he hb => by
      have := (fit_spec hfit ho).2 e he hb
      have h2 := (hli i).1 hl
      exact (hli _).2 (by omega)
    refine ⟨fun hr => ?_, fun i hi => ?_⟩
    · exfalso
      have : l.length + k ∈ Region.ready .any (l ++ ys).toArray listed := by
        rw [mem_ready]
        have hli' : l.length + k < listed.size := by rw [hls]; simp; omega
        have hno : listed.getD (l.length + k) false ≠ true := fun hh => by have := (hli _).1 hh; omega
        refine ⟨by simp [Array.getD_eq_getD_getElem?, hli'] at hno ⊢; exact hno, o, hok, fun e he hb => ?_⟩
        have := (fit_spec hfit hok).2 e he hb
        exact (hli _).2 (by omega)
      rw [hr] at this; cases this
    · have hie : i = l.length + k := by
        obtain ⟨hun, o', hoi, hall⟩ := mem_ready.1 hi
        have hlt := (Array.getElem?_eq_some_iff.1 hoi).1
        have hge : l.length + k ≤ i := by
          by_cases hc : i < l.length + k
          · have h1 := (hli i).2 hc
            have hls' : i < listed.size := by rw [hls]; simp at hlt ⊢; omega
            simp [Array.getD_eq_getD_getElem?, hls'] at hun h1
            rw [h1] at hun; cases hun
          · omega
        by_cases hc : i = l.length + k
        · exact hc
        · have := tail_ready ht hls dc hi (by omega) (l.length + k) (by omega)
          have := (hli _).1 this
          omega
      subst hie
      unfold wpOp
      have next : ∀ v w2, SeqD P (l ++ ys).toArray os (a'.put o.dst v) w2 (fun a w => Q .normal a w) → wpAny P .any (l ++ ys).toArray Q fuel (listed.setIfInBounds (l.length + k) true) (a'.put o.dst v) w2 := fun v w2 hs => by
        refine tail_seq ht hfit os (k + 1) fuel _ _ _ ?_ (by omega) (by simpa using hls) (fun i => ?_) (by simp at hf; omega) hs
        · rw [← List.drop_drop, hz]; rfl
        · by_cases hc : i = l.length + k
          · subst hc
            have hli' : l.length + k < listed.size := by rw [hls]; simp; omega
            simp [Array.getD_eq_getD_getElem?, hli']
          · rw [set_ne false (Ne.symm hc), hli i]; omega
      rcases h with ⟨hw, h⟩ | ⟨hw, h⟩
      · simp only [hok, hw, if_true]
        refine .inl (Oper.wp_mono (fun a2 w2 hh => ?_) (h Q))
        obtain ⟨v, rfl, hs⟩ := hh
        exact next v w2 hs
      · simp only [hok, hw, Bool.false_eq_true, if_false]
        exact next undef w' h
theorem drawn_anyT (tab : Nat → Cl S) (al : List Nat) (hal : ∀ i, al.contains i = true → ∀ v w, (tab i).P v w → ∃ g, blkOf v = some g ∧ g < w.heap.size) (hall_ : ∀ i, al.contains i = true → i < l.length) (htrans : ∀ a b c, S a b → S b c → S a c) (hfit : fitB (l ++ ys).toArray n T = true) (ht : tailB (l ++ ys).toArray l.length fu = true)
    (hop : ∀ i o, l[i]? = some o → OblA P (l ++ ys).toArray S n T tab al w i o)
    (hend : ∀ f a' w', S w w' → (∀ i, i < l.length → (tab i).P (f i) w') → (∀ i j, al.contains i = true → al.contains j = true → i ≠ j → blkOf (f i) ≠ blkOf (f j)) → St n (puts l f 0 ++ T) a' → SeqD P (l ++ ys).toArray ys a' w' (fun a w => Q .normal a w)) :
    ∀ (fuel : Nat) (listed : Array Bool) (a' : Act) (w' : World), listed.size = (l ++ ys).length → ((List.range (l ++ ys).length).filter fun i => !listed.getD i true).length ≤ fuel → S w w' → St n T a' →
      (∀ i, i < l.length → listed.getD i false = true → (tab i).P (valOf (l ++ ys).toArray a' i) w') → (∀ i j, al.contains i = true → al.contains j = true → i ≠ j → listed.getD i false = true → listed.getD j false = true → blkOf (valOf (l ++ ys).toArray a' i) ≠ blkOf (valOf (l ++ ys).toArray a' j)) → (∀ i, l.length ≤ i → listed.getD i false = false) →
      (∀ i o, (l ++ ys).toArray[i]? = some o → listed.getD i false = true → ∀ e ∈ o.after, Region.binds .any e = true → listed.getD e.on false = true) → wpAny P .any (l ++ ys).toArray Q fuel listed a' w' := by
  have last : ∀ (fuel : Nat) (listed : Array Bool) (a' : Act) (w' : World), listed.size = (l ++ ys).length → ((List.range (l ++ ys).length).filter fun i => !listed.getD i true).length ≤ fuel → (∀ i, i < l.length → listed.getD i false = true) → (∀ i, l.length ≤ i → listed.getD i false = false) → S w w' → St n T a' →
      (∀ i, i < l.length → listed.getD i false = true → (tab i).P (valOf (l ++ ys).toArray a' i) w') → (∀ i j, al.contains i = true → al.contains j = true → i ≠ j → listed.getD i false = true → listed.getD j false = true → blkOf (valOf (l ++ ys).toArray a' i) ≠ blkOf (valOf (l ++ ys).toArray a' j)) → wpAny P .any (l ++ ys).toArray Q fuel listed a' w' := by
    intro fuel listed a' w' hls hf all hno hS hT hin hdi
    refine tail_seq ht hfit ys 0 fuel listed a' w' rfl (Nat.zero_le _) hls (fun i => ⟨fun h => ?_, fun h => all i (by omega)⟩) ?_ (hend (valOf (l ++ ys).toArray a') a' w' hS (fun i hi => hin i hi (all i hi)) (fun i j hi hj hne => hdi i j hi hj hne (all i (hall_ i hi)) (all j (hall_ j hj))) ⟨hT.size, hT.defers, fun t v hv => ?_⟩)
    · by_cases hc : l.length ≤ i
      · rw [hno i hc] at h; cases h
      · omega
    · refine Nat.le_trans ?_ hf
      have hsub : ((List.range ys.length).map (l.length + ·)).Sublist ((List.range (l ++ ys).length).filter fun i => !listed.getD i true) := by
        rw [List.length_append, List.range_add, List.filter_append]
        refine List.Sublist.trans ?_ (List.sublist_append_right _ _)
        rw [List.filter_eq_self.2 ?_]
        · exact List.Sublist.refl _
        · intro i hi
          obtain ⟨k, hk, rfl⟩ := List.mem_map.1 hi
          have h1 := hno (l.length + k) (by omega)
          have hli' : l.length + k < listed.size := by rw [hls]; simp at hk ⊢; omega
          simp [Array.getD_eq_getD_getElem?, hli'] at h1 ⊢
          exact h1
      have := hsub.length_le
      simpa using this
    · rcases puts_look (valOf (l ++ ys).toArray a') T l 0 hv with ⟨i, o, h1, h2, h3⟩ | h
      · have hil := (List.getElem?_eq_some_iff.1 h1).1
        have hd : dstOf (l ++ ys).toArray i = some t := by simp [dstOf, List.getElem?_append_left hil, h1, h2]
        rw [h3, Nat.zero_add]; unfold valOf; rw [hd]
      · exact hT.get t v h
  intro fuel
  induction fuel with
  | zero =>
    intro listed a' w' hls hf hS hT hin hdi hno dc
    refine last 0 listed a' w' hls hf (fun i hi => ?_) hno hS hT hin hdi
    have hnil : ((List.range (l ++ ys).length).filter fun i => !listed.getD i true) = [] := List.eq_nil_of_length_eq_zero (by omega)
    rw [List.filter_eq_nil_iff] at hnil
    have := hnil i (by simp; omega)
    have hli' : i < listed.size := by rw [hls]; simp; omega
    simp [Array.getD_eq_getD_getElem?, hli'] at this ⊢
    exact this
  | succ fuel ih =>
    intro listed a' w' hls hf hS hT hin hdi hno dc
    by_cases hall : ∀ i, i < l.length → listed.getD i false = true
    · exact last (fuel + 1) listed a' w' hls hf hall hno hS hT hin hdi
    have hlt : ∀ i, i ∈ Region.ready .any (l ++ ys).toArray listed → i < l.length := fun i hi => by
      by_cases hc : l.length ≤ i
      · exact absurd (fun j hj => tail_ready ht hls dc hi hc j (by omega)) hall
      · omega
    refine ⟨fun hr => ?_, fun i hi => ?_⟩
    · exfalso
      refine hall fun i => ?_
      induction i using Nat.strongRecOn with
      | _ i ihi =>
        intro hi
        cases hl : listed.getD i false with
        | true => rfl
        | false =>
          exfalso
          have : i ∈ Region.ready .any (l ++ ys).toArray listed := by
            rw [mem_ready]
            have hli : i < listed.size := by rw [hls]; simp; omega
            have hoi : (l ++ ys).toArray[i]? = some l[i] := by simp [List.getElem?_append_left hi, hi]
            refine ⟨by simpa [hli] using hl, l[i], hoi, fun e he hb => ?_⟩
            have hlt := (fit_spec hfit hoi).2 e he hb
            exact ihi e.on hlt (by omega)
          rw [hr] at this; cases this
    · have hil := hlt i hi
      obtain ⟨hun, o, hoi, hallw⟩ := mem_ready.1 hi
      have hoi' : l[i]? = some o := by simpa [List.getElem?_append_left hil] using hoi
      obtain ⟨hfd, hfe⟩ := fit_spec hfit hoi
      have hk : ∀ j, waits o j = true → (tab j).P (valOf (l ++ ys).toArray a' j) w' := fun j hj => by
        unfold waits at hj
        rw [List.any_eq_true] at hj
        obtain ⟨e, he', hb⟩ := hj
        have he : e ∈ o.after := by simpa using he'
        simp only [Bool.and_eq_true, beq_iff_eq] at hb
        have := hfe e he hb.1
        rw [← hb.2]
        exact hin e.on (by omega) (hallw e he hb.1)
      have hils : i < listed.size := by rw [hls]; simp; omega
      have same : ∀ (v : Value) (j : Nat), j < l.length → j ≠ i → valOf (l ++ ys).toArray (a'.put o.dst v) j = valOf (l ++ ys).toArray a' j := fun v j hj hji => by
        unfold valOf
        cases hdj : dstOf (l ++ ys).toArray j with
        | none => rfl
        | some d' =>
          cases hd : o.dst with
          | none => rfl
          | some d =>
            have hne : d ≠ d' := fun e => by subst e; exact hji ((hfd d hd).2.1 j (by simp; omega) hdj)
            simp [Act.put, Array.getD_eq_getD_getElem?, Array.getElem?_setIfInBounds_ne hne]
      have own : ∀ (v : Value), valOf (l ++ ys).toArray (a'.put o.dst v) i = seenV o v := fun v => by
        cases hd : o.dst with
        | none =>
          have hdi : dstOf (l ++ ys).toArray i = none := by simp [dstOf, List.getElem?_append_left hil, hoi', hd]
          unfold valOf seenV; rw [hdi, hd]
        | some d =>
          have hdi : dstOf (l ++ ys).toArray i = some d := by simp [dstOf, List.getElem?_append_left hil, hoi', hd]
          have hdl : d < a'.tmps.size := by rw [hT.size]; exact (hfd d hd).1
          unfold valOf seenV; rw [hdi, hd]; simp [Act.put, hdl]
      have go : ∀ (v : Value) (w2 : World), S w' w2 → (tab i).P (seenV o v) w2 → (al.contains i = true → ∃ g, blkOf (seenV o v) = some g ∧ w'.heap.size ≤ g) → wpAny P .any (l ++ ys).toArray Q fuel (listed.setIfInBounds i true) (a'.put o.dst v) w2 := by
        intro v w2 hS2 hv hnew
        have fresh : ∀ j, al.contains i = true → al.contains j = true → j ≠ i → listed.getD j false = true → blkOf (seenV o v) ≠ blkOf (valOf (l ++ ys).toArray a' j) := fun j hi hj hne hl => by
          obtain ⟨g, h1, h2⟩ := hnew hi
          obtain ⟨g', h3, h4⟩ := hal j hj _ _ (hin j (hall_ j hj) hl)
          rw [h1, h3]
          intro e; cases e; omega
        have hT2 : St n T (a'.put o.dst v) := by
          cases hd : o.dst with
          | none => exact hT
          | some d =>
            obtain ⟨hdn, _, hTd⟩ := hfd d hd
            have hp := hT.put hdn v
            refine ⟨hp.size, hp.defers, fun t u hu => hp.get t u ?_⟩
            have hne : t ≠ d := hTd (t, u) (lookup_mem hu)
            rw [List.lookup_cons]
            have : (t == d) = false := by simpa using hne
            simp only [this]; exact hu
        refine ih _ _ _ (by simpa using hls) ?_ (htrans _ _ _ hS hS2) hT2 (fun j hj hlj => ?_) (fun j k hj hk' hne hlj hlk => ?_) (fun j hj => ?_) (fun j o' ho' hlj e he hb => ?_)
        · have : ((List.range (l ++ ys).length).filter fun k => !(listed.setIfInBounds i true).getD k true).length < ((List.range (l ++ ys).length).filter fun k => !listed.getD k true).length := by
            have hsub : ((List.range (l ++ ys).length).filter fun k => !(listed.setIfInBounds i true).getD k true) = ((List.range (l ++ ys).length).filter fun k => !listed.getD k true).filter (fun k => k != i) := by
              rw [List.filter_filter]
              apply List.filter_congr
              intro k _
              by_cases hk : k = i
              · subst hk; simp [hils]
              · rw [set_ne true (Ne.symm hk)]; simp [hk]
            rw [hsub]
            refine List.length_filter_lt_length_iff_exists.2 ⟨i, ?_, by simp⟩
            simp only [List.mem_filter, List.mem_range]
            exact ⟨by simp; omega, by rw [hun]; rfl⟩
          omega
        · by_cases hji : j = i
          · subst hji; rw [own]; exact hv
          · have h1 := hin j hj (by rwa [set_ne false (Ne.symm hji)] at hlj)
            rw [same v j hj hji]; exact (tab j).st _ _ _ hS2 h1
        · by_cases hji : j = i
          · subst hji
            rw [own, same v k (hall_ k hk') (Ne.symm hne)]
            exact fresh k hj hk' (Ne.symm hne) (by rwa [set_ne false hne] at hlk)
          · by_cases hki : k = i
            · subst hki
              rw [own, same v j (hall_ j hj) hji]
              exact Ne.symm (fresh j hk' hj hji (by rwa [set_ne false (Ne.symm hji)] at hlj))
            · rw [same v j (hall_ j hj) hji, same v k (hall_ k hk') hki]
              exact hdi j k hj hk' hne (by rwa [set_ne false (Ne.symm hji)] at hlj) (by rwa [set_ne false (Ne.symm hki)] at hlk)
        · rw [set_ne false (by omega)]; exact hno j hj
        · by_cases hji : j = i
          · subst hji
            rw [hoi] at ho'
            cases ho'
            have h1 := hfe e he hb
            rw [set_ne false (by omega)]
            exact hallw e he hb
          · rw [set_ne false (Ne.symm hji)] at hlj
            have h1 := dc j o' ho' hlj e he hb
            by_cases hei : e.on = i
            · rw [hei]; simp [Array.getD_eq_getD_getElem?, hils]
            · rw [set_ne false (Ne.symm hei)]; exact h1
      unfold wpOp
      rcases hop i o hoi' a' w' hS hT hk with ⟨hw, h⟩ | ⟨hw, h⟩
      · simp only [hoi, hw, if_true]
        refine .inl (Oper.wp_mono (fun a2 w2 h => ?_) (h Q))
        obtain ⟨v, rfl, hS2, hv, hg⟩ := h
        exact go v w2 hS2 hv hg
      · simp only [hoi, hw, Bool.false_eq_true, if_false]
        exact go undef w' h.1 h.2.1 h.2.2
def EachsA (P : Program) (ops : Array Oper) (S : World → World → Prop) (n : Nat) (T : List (Nat × Value)) (tab : Nat → Cl S) (al : List Nat) (w : World) (k : Nat) (l : List Oper) : Prop := ∀ i o, l[i]? = some o → OblA P ops S n T tab al w (k + i) o
theorem eachA_nil {ops : Array Oper} {tab : Nat → Cl S} {k : Nat} {al : List Nat} : EachsA P ops S n T tab al w k [] := fun i o h => by simp at h
theorem eachA_made {ops : Array Oper} {tab : Nat → Cl S} {k : Nat} {al : List Nat} {o : Oper} {os : List Oper} (h : OblA P ops S n T tab al w k o) (ht : EachsA P ops S n T tab al w (k + 1) os) : EachsA P ops S n T tab al w k (o :: os) := fun i p hp => by
  cases i with
  | zero => simp at hp; subst hp; exact h
  | succ i => have := ht i p (by simpa using hp); rwa [show k + 1 + i = k + (i + 1) by omega] at this
theorem eachA_cons {ops : Array Oper} {tab : Nat → Cl S} {k : Nat} {al : List Nat} {o : Oper} {os : List Oper} (hne : al.contains k = false) (h : Obl P ops S n T tab w k o) (ht : EachsA P ops S n T tab al w (k + 1) os) : EachsA P ops S n T tab al w k (o :: os) :=
  eachA_made (fun a' w' h1 h2 h3 => does_mono (h a' w' h1 h2 h3) fun _ _ hh => ⟨hh.1, hh.2, fun e => by rw [hne] at e; cases e⟩) ht
/-- THE LAW. -/
theorem drawnT {id : Nat} {a : Act} (l ys : List Oper) (fu : Nat) (tab : Nat → Cl S) (al : List Nat) (hal : ∀ i, al.contains i = true → ∀ v w, (tab i).P v w → ∃ g, blkOf v = some g ∧ g < w.heap.size) (hall_ : ∀ i, al.contains i = true → i < l.length) (hm : P.follows .mixedOrders = true) (hrefl : ∀ w, S w w) (htrans : ∀ a b c, S a b → S b c → S a c) (hdrew : ∀ w : World, S w w.drew) (hA : St n T a) (hfit : fitB (l ++ ys).toArray n T = true) (ht : tailB (l ++ ys).toArray l.length fu = true)
    (hop : EachsA P (l ++ ys).toArray S n T tab al w.drew 0 l)
    (hend : ∀ f a' w', S w w' → (∀ i, i < l.length → (tab i).P (f i) w') → (∀ i j, al.contains i = true → al.contains j = true → i ≠ j → blkOf (f i) ≠ blkOf (f j)) → St n (puts l f 0 ++ T) a' → SeqD P (l ++ ys).toArray ys a' w' (fun a w => Q .normal a w)) : (Code.region id (l ++ ys).toArray true).wp P Q a w := by
  refine wp_region_any hm ?_
  refine drawn_anyT (w := w.drew) tab al hal hall_ htrans hfit ht (fun i o h => by have := hop i o h; rwa [Nat.zero_add] at this) (fun f a' w' hS => hend f a' w' (htrans _ _ _ (hdrew w) hS)) _ _ _ _ (by simp) ?_ (hrefl _) hA (fun i _ hi => ?_) (fun i j _ _ _ hi => ?_) (fun i _ => ?_) (fun i o _ hi => ?_)
  · refine Nat.le_trans (List.length_filter_le _ _) (by simp)
  · exfalso
    simp [Array.getD_eq_getD_getElem?, Array.getElem?_replicate] at hi; split at hi <;> simp at hi
  · exfalso
    simp [Array.getD_eq_getD_getElem?, Array.getElem?_replicate] at hi; split at hi <;> simp at hi
  · simp [Array.getD_eq_getD_getElem?, Array.getElem?_replicate]; split <;> simp
  · exfalso
    simp [Array.getD_eq_getD_getElem?, Array.getElem?_replicate] at hi; split at hi <;> simp at hi
end
end Go.Proofs.Ytiglneecmibgmaa
/- Strings for the engine: a string is the list of its bytes; its length, its bytes, its parts, whether two are the same, two one behind the other. -/
namespace Go.Proofs.Ytiglneecmibgmaa
set_option linter.unusedVariables false
set_option linter.unusedSimpArgs false
open Go.RowKit

/-- the string of these bytes -/
def S (l : List UInt8) : ByteArray := ⟨l.toArray⟩
theorem S_size (l : List UInt8) : (S l).size = l.length := by unfold S; rfl
theorem S_at (l : List UInt8) (i : Nat) : (S l)[i]? = l[i]? := by
  by_cases h : i < l.length
  · rw [List.getElem?_eq_getElem h, getElem?_pos (S l) i (by rw [S_size]; exact h)]; rfl
  · rw [List.getElem?_eq_none (by omega), getElem?_neg (S l) i (by rw [S_size]; exact h)]
theorem S_of (s : ByteArray) : S s.data.toList = s := by unfold S; cases s; simp
theorem S_data (l : List UInt8) : (S l).data.toList = l := by unfold S; simp
theorem S_list (l : List UInt8) : (S l).toList = l := Go.ByteArray.toList_mk l
theorem S_part (l : List UInt8) (i j : Nat) : (S l).extract i j = S ((l.take j).drop i) := by
  have : ((S l).extract i j).data = (S ((l.take j).drop i)).data := by rw [ByteArray.data_extract]; unfold S; simp [List.drop_take]
  cases h : (S l).extract i j; cases h2 : S ((l.take j).drop i); rw [h, h2] at this; simp at this; rw [this]
theorem S_rest (l : List UInt8) (i : Nat) : (S l).extract i l.length = S (l.drop i) := by rw [S_part, List.take_length]
theorem S_join (l m : List UInt8) : S l ++ S m = S (l ++ m) := Go.ByteArray.mk_append_mk l m
theorem S_inj {l m : List UInt8} (h : S l = S m) : l = m := by have := congrArg (fun s => s.data.toList) h; simpa [S_data] using this

/-- the type of strings -/
def strB (P : Program) (t : TypeId) : Bool := match P.underlying t with | some .string => true | _ => false
theorem str_fact {P : Program} {t : TypeId} (h : strB P t = true) : P.underlying t = some .string := by
  unfold strB at h; split at h
  · assumption
  · cases h

section
variable {P : Program} {ops : Array Oper} {a : Act} {w : World} {K : Value → World → Prop} {d : Option Tmp} {ty : TypeId} {pos : String} {af : Array Edge} {gd : Option (Nat × Bool)} {v : Value}
theorem d_slen {x : Operand} {t : Nat} {l : List UInt8} (hw : Region.wanted { dst := d, op := .call { callee := .builtin .len, args := #[x], argTypes := #[t] }, type := ty, pos := pos, after := af, guard := gd } (yielded ops a.tmps) = true) (hx : a.eval x = .string (S l)) (ht : strB P t = true)
    (h : K (.int .i64 (l.length : Int)) w) : Does P ops { dst := d, op := .call { callee := .builtin .len, args := #[x], argTypes := #[t] }, type := ty, pos := pos, after := af, guard := gd } a w K :=
  does_val hw (by
    have hm : (#[x] : Array Operand).map a.eval = #[.string (S l)] := by simp only [List.map_toArray, List.map_cons, List.map_nil]; rw [hx]
    unfold execOp
    simp only [resolve, Sem.run_bind, Sem.run_pure, Result.andThen_ok, invoke, builtin, hm]
    simp [Builtin.len_, run_underlying (str_fact ht), goInt, S_size]) h
theorem d_sat {x ix : Operand} {ik : IntKind} {t j : Nat} {l : List UInt8} {b : UInt8} (hw : Region.wanted { dst := d, op := .index t x ix, type := ty, pos := pos, after := af, guard := gd } (yielded ops a.tmps) = true) (hx : a.eval x = .string (S l)) (hi : a.eval ix = .int ik (j : Int)) (ht : strB P t = true) (hb : l[j]? = some b)
    (h : K (.int .u8 (b.toNat : Int)) w) : Does P ops { dst := d, op := .index t x ix, type := ty, pos := pos, after := af, guard := gd } a w K :=
  does_val hw (by
    have h3 : (Instr.index t (.string (S l)) (.int ik (j : Int))).run P w = .ok (.int .u8 (b.toNat : Int)) w := by
      unfold Instr.index
      have h0 : (0 : Int) ≤ (j : Int) := by omega
      simp only [asIntOf, Sem.run_bind, Sem.run_pure, Result.andThen_ok, run_underlying (str_fact ht), if_pos h0, Int.toNat_natCast, S_at, hb]
    unfold execOp
    simp only [hx, hi, Sem.run_bind, h3, Sem.run_pure, Result.andThen_ok]) h
theorem d_srest {x y : Operand} {t n : Nat} {l : List UInt8} (hw : Region.wanted { dst := d, op := .slice t x (some y) none none, type := ty, pos := pos, after := af, guard := gd } (yielded ops a.tmps) = true) (hx : a.eval x = .string (S l)) (hy : a.eval y = .int .i64 (n : Int)) (ht : strB P t = true) (hn : n ≤ l.length)
    (h : K (.string (S (l.drop n))) w) : Does P ops { dst := d, op := .slice t x (some y) none none, type := ty, pos := pos, after := af, guard := gd } a w K := by
  refine does_val hw ?_ h
  have hsb : (Instr.sliceBounds false l.length l.length (some (.int .i64 (n : Int))) none none).run P w = .ok (n, l.length, l.length) w := by
    simp [Instr.sliceBounds, run_sliceBound (P := P) w .i64 n l.length .sliceB (by omega) (by omega)]
  unfold execOp
  simp only [Option.map_some, Option.map_none, hx, hy, Instr.sliceAt, Instr.slice, run_underlying (str_fact ht), Sem.run_bind, Sem.run_pure, Result.andThen_ok, S_size, hsb, S_rest, Option.isSome_none, Bool.false_eq_true, if_false]
theorem d_shead {x y : Operand} {t n : Nat} {l : List UInt8} (hw : Region.wanted { dst := d, op := .slice t x none (some y) none, type := ty, pos := pos, after := af, guard := gd } (yielded ops a.tmps) = true) (hx : a.eval x = .string (S l)) (hy : a.eval y = .int .i64 (n : Int)) (ht : strB P t = true) (hn : n ≤ l.length)
    (h : K (.string (S (l.take n))) w) : Does P ops { dst := d, op := .slice t x none (some y) none, type := ty, pos := pos, after := af, guard := gd } a w K := by
  refine does_val hw ?_ h
  have hsb : (Instr.sliceBounds false l.length l.length none (some (.int .i64 (n : Int))) none).run P w = .ok (0, n, l.length) w := by
    simp [Instr.sliceBounds, run_sliceBound (P := P) w .i64 n l.length .sliceAlen (by omega) (by omega)]
  unfold execOp
  simp only [Option.map_some, Option.map_none, hx, hy, Instr.sliceAt, Instr.slice, run_underlying (str_fact ht), Sem.run_bind, Sem.run_pure, Result.andThen_ok, S_size, hsb, S_part, List.drop_zero, Option.isSome_none, Bool.false_eq_true, if_false]
theorem d_spart {x y z : Operand} {t m n : Nat} {l : List UInt8} (hw : Region.wanted { dst := d, op := .slice t x (some y) (some z) none, type := ty, pos := pos, after := af, guard := gd } (yielded ops a.tmps) = true) (hx : a.eval x = .string (S l)) (hy : a.eval y = .int .i64 (m : Int)) (hz : a.eval z = .int .i64 (n : Int)) (ht : strB P t = true) (hm : m ≤ n) (hn : n ≤ l.length)
    (h : K (.string (S ((l.take n).drop m))) w) : Does P ops { dst := d, op := .slice t x (some y) (some z) none, type := ty, pos := pos, after := af, guard := gd } a w K := by
  refine does_val hw ?_ h
  have hsb : (Instr.sliceBounds false l.length l.length (some (.int .i64 (m : Int))) (some (.int .i64 (n : Int))) none).run P w = .ok (m, n, l.length) w := by
    simp [Instr.sliceBounds, run_sliceBound (P := P) w .i64 n l.length .sliceAlen (by omega) (by omega), run_sliceBound (P := P) w .i64 m n .sliceB (by omega) (by omega)]
  unfold execOp
  simp only [Option.map_some, Option.map_none, hx, hy, hz, Instr.sliceAt, Instr.slice, run_underlying (str_fact ht), Sem.run_bind, Sem.run_pure, Result.andThen_ok, S_size, hsb, S_part, Option.isSome_none, Bool.false_eq_true, if_false]
theorem b_seq {l m : List UInt8} {t : TypeId} {x y : Operand} {r : Bool} (h : (l == m) = r) : (eqGuard .eql t x y (.string (S l)) (.string (S m))).run P w = .ok () w ∧ (binOp .eql t (.string (S l)) (.string (S m))).run P w = .ok (.bool r) w := by
  subst h; exact ⟨by simp [eqGuard], by simp [binOp, Op.stringOp, S_list]⟩
theorem b_sne {l m : List UInt8} {t : TypeId} {x y : Operand} {r : Bool} (h : (!(l == m)) = r) : (eqGuard .neq t x y (.string (S l)) (.string (S m))).run P w = .ok () w ∧ (binOp .neq t (.string (S l)) (.string (S m))).run P w = .ok (.bool r) w := by
  subst h; exact ⟨by simp [eqGuard], by simp [binOp, Op.stringOp, S_list]⟩
theorem b_sadd {l m : List UInt8} {t : TypeId} {x y : Operand} (h : l.length + m.length ≤ 9223372036854775807) : (eqGuard .add t x y (.string (S l)) (.string (S m))).run P w = .ok () w ∧ (binOp .add t (.string (S l)) (.string (S m))).run P w = .ok (.string (S (l ++ m))) w := by
  refine ⟨by simp [eqGuard], ?_⟩
  have : ¬ (((S l).size + (S m).size : Nat) : Int) > IntKind.i64.max := by rw [S_size, S_size]; show ¬ _ > (9223372036854775807 : Int); omega
  simp only [binOp, Op.stringOp, if_neg this, S_join, Sem.run_pure]
end
section
variable {P : Program} {a : Act} {w : World} {n : Nat} {T : List (Nat × Value)}
theorem ret2 {fn : Func} {R : Ending → World → Prop} {p q : Tmp} {x y : Value} (hr : fn.results = #[.tmp p, .tmp q]) (hA : St n T a) (hx : ev T (.tmp p) = some x) (hy : ev T (.tmp q) = some y)
    (h : R (.returned (.tuple #[x, y])) w) : bodyPost P fn R .ret a w := by
  have e1 := hA.ev hx
  have e2 := hA.ev hy
  simp only [Act.eval] at e1 e2
  refine ⟨hA.defers, _, ?_, h⟩
  have f1 : a.tmps[p]?.getD undef = x := by simpa using e1
  have f2 : a.tmps[q]?.getD undef = y := by simpa using e2
  simp [results, hr, f1, f2]
end
theorem b_sub {P : Program} {t : TypeId} (x y : Operand) (a b : Int) (w : World) (h1 : -9223372036854775808 ≤ a - b) (h2 : a - b ≤ 9223372036854775807) : (eqGuard .sub t x y (.int .i64 a) (.int .i64 b)).run P w = .ok () w ∧ (binOp .sub t (.int .i64 a) (.int .i64 b)).run P w = .ok (.int .i64 (a - b)) w := by
  refine ⟨by simp [eqGuard], ?_⟩
  have : IntKind.wrap .i64 (a - b) = a - b := by simp only [IntKind.wrap, IntKind.signed, IntKind.bits]; simp; omega
  simp [binOp, this, go_sem]
theorem b_addE {P : Program} {w : World} {t : TypeId} {x y : Operand} {a b : Int} (n : Nat) (h : a + b = (n : Int)) (hn : n ≤ 9223372036854775807) : (eqGuard .add t x y (.int .i64 a) (.int .i64 b)).run P w = .ok () w ∧ (binOp .add t (.int .i64 a) (.int .i64 b)).run P w = .ok (.int .i64 (n : Int)) w := by
  rw [← h]; exact b_add _ _ _ _ _ (by omega) (by omega)
theorem b_subE {P : Program} {w : World} {t : TypeId} {x y : Operand} {a b : Int} (n : Nat) (h : a - b = (n : Int)) (hn : n ≤ 9223372036854775807) : (eqGuard .sub t x y (.int .i64 a) (.int .i64 b)).run P w = .ok () w ∧ (binOp .sub t (.int .i64 a) (.int .i64 b)).run P w = .ok (.int .i64 (n : Int)) w := by
  rw [← h]; exact b_sub _ _ _ _ _ (by omega) (by omega)
/-- what lies in a place of the beginning stays -/
theorem cell_keep {w w' : World} {k : Nat} {v : Value} (h : w.cell? ⟨k, 0, none⟩ = some v) (b : Below w.heap.size w w') : w'.cell? ⟨k, 0, none⟩ = some v := by
  have hk := World.block_lt_of_cell? w _ h
  have := b.block k hk
  rw [← h]
  simp only [World.cell?, this]
end Go.Proofs.Ytiglneecmibgmaa
/- Equality of structs and arrays whose cells are numbers, truths, strings. -/
namespace Go.Proofs.Ytiglneecmibgmaa
open Go.RowKit
set_option linter.unusedVariables false
set_option linter.unusedSimpArgs false
set_option linter.unusedSectionVars false

/-- cells that are compared: numbers (0), truths (1), strings (2) -/
def cellEq : Nat → Value → Value → Option Bool
  | 0, .int k a, .int k' b => if k = k' then some (a == b) else none
  | 1, .bool a, .bool b => some (a == b)
  | 2, .string a, .string b => some (ByteArray.toList a == ByteArray.toList b)
  | _, _, _ => none
def cellsEq : List Nat → List Value → List Value → Option Bool
  | [], [], [] => some true
  | q :: qs, x :: xs, y :: ys => match cellEq q x y, cellsEq qs xs ys with
    | some a, some b => some (a && b)
    | _, _ => none
  | _, _, _ => none
theorem cellsEq_app : ∀ {qs qs' : List Nat} {xs xs' ys ys' : List Value} {r : Bool}, xs.length = qs.length → ys.length = qs.length → cellsEq (qs ++ qs') (xs ++ xs') (ys ++ ys') = some r → ∃ a b, cellsEq qs xs ys = some a ∧ cellsEq qs' xs' ys' = some b ∧ r = (a && b)
  | [], qs', [], xs', [], ys', r, _, _, h => ⟨true, r, rfl, h, by simp⟩
  | q :: qs, qs', x :: xs, xs', y :: ys, ys', r, hl, hm, h => by
    simp only [List.cons_append, cellsEq] at h
    split at h
    · next a b ha hb =>
      cases h
      obtain ⟨c, d, h1, h2, h3⟩ := cellsEq_app (by simpa using hl) (by simpa using hm) hb
      exact ⟨a && c, d, by simp [cellsEq, ha, h1], h2, by rw [h3, Bool.and_assoc]⟩
    · cases h
  | [], _, _ :: _, _, _, _, _, h, _, _ => by cases h
  | [], _, _, _, _ :: _, _, _, _, h, _ => by cases h
  | _ :: _, _, [], _, _, _, _, h, _, _ => by cases h
  | _ :: _, _, _, _, [], _, _, _, h, _ => by cases h
def plainF (pt : TypeId → Option (List Nat)) : List Field → Nat → Option (List Nat)
  | [], _ => some []
  | f :: fs, o => if f.name = "_" ∨ f.offset ≠ o then none else match pt f.type with
    | some qs => match plainF pt fs (o + qs.length) with
      | some rs => some (qs ++ rs)
      | none => none
    | none => none
def reps : Nat → List Nat → List Nat
  | 0, _ => []
  | n + 1, l => l ++ reps n l
def plainT (P : Program) : Nat → TypeId → Option (List Nat)
  | 0, _ => none
  | d + 1, t => match P.underlying t with
    | some (.int _) => if oneB P t then some [0] else none
    | some .bool => if oneB P t then some [1] else none
    | some .string => if oneB P t then some [2] else none
    | some (.struct fs) => if P.stoodInHeld t then none else match plainF (plainT P d) fs.toList 0 with
      | some qs => if rowB P t qs.length then some qs else none
      | none => none
    | some (.array n e) => match plainT P d e with
      | some qs => if rowB P t (reps n qs).length && ((P.info? e).map (·.size) == some qs.length) then some (reps n qs) else none
      | none => none
    | _ => none
theorem reps_len : ∀ (n : Nat) (l : List Nat), (reps n l).length = n * l.length
  | 0, l => by simp [reps]
  | n + 1, l => by simp [reps, reps_len n l, Nat.add_mul]; omega
section
variable {P : Program} {w : World}
theorem prow {t : TypeId} {m o : Nat} {cs : Array Value} (h : rowB P t m = true) (ho : o + m ≤ cs.size) : (part t cs o).run P w = .ok (.agg (cs.extract o (o + m))) w := by
  obtain ⟨⟨dd, h2, h3, h3'⟩, h4⟩ := row_facts h
  have ha : (isAgg t).run P w = .ok true w := by
    unfold isAgg
    rw [Sem.run_bind, run_underlying h2]
    cases dd <;> simp_all
  cases hq : P.info? t with
  | none => simp [hq] at h4
  | some i =>
    have hi : i.size = m := by simpa [hq] using h4
    simp [part, ha, sizeOf, typeInfo, hq, hi, ho]
def EqP (P : Program) (w : World) (d : Nat) (t : TypeId) (qs : List Nat) : Prop := ∀ (D : Nat) (xs ys : Array Value) (off : Nat) (r : Bool), off + qs.length ≤ xs.size → off + qs.length ≤ ys.size → cellsEq qs ((xs.toList.drop off).take qs.length) ((ys.toList.drop off).take qs.length) = some r →
  ∃ a b, (part t xs off).run P w = .ok a w ∧ (part t ys off).run P w = .ok b w ∧ (Op.equalIn (D + d) t a b).run P w = .ok r w
theorem take_split (zs : List Value) (o m n : Nat) : (zs.drop o).take (m + n) = (zs.drop o).take m ++ (zs.drop (o + m)).take n := by rw [List.take_add, List.drop_drop]
theorem eqFields_plain {d : Nat} (ih : ∀ t qs, plainT P d t = some qs → EqP P w d t qs) (D : Nat) (xs ys : Array Value) : ∀ (fs : List Field) (o : Nat) (qs : List Nat) (r : Bool), plainF (plainT P d) fs o = some qs → o + qs.length ≤ xs.size → o + qs.length ≤ ys.size → cellsEq qs ((xs.toList.drop o).take qs.length) ((ys.toList.drop o).take qs.length) = some r → (Op.eqFields (D + d) xs ys fs).run P w = .ok r w
  | [], o, qs, r, h, _, _, hc => by cases h; simp [cellsEq] at hc; subst hc; simp [Op.eqFields]
  | f :: fs, o, qs, r, h, hx, hy, hc => by
    unfold plainF at h
    split at h
    · cases h
    · next hn =>
      simp only [not_or, Classical.not_not] at hn
      split at h
      · next q1 hm =>
        split at h
        · next q2 hr =>
          cases h
          simp only [List.length_append] at hx hy hc
          rw [take_split, take_split] at hc
          obtain ⟨a1, b1, c1, c2, c3⟩ := cellsEq_app (by simp; omega) (by simp; omega) hc
          obtain ⟨a, b, e1, e2, e3⟩ := ih _ _ hm D xs ys o a1 (by omega) (by omega) c1
          rw [← hn.2] at e1 e2
          have ih2 := eqFields_plain ih D xs ys fs (o + q1.length) q2 b1 hr (by omega) (by omega) c2
          unfold Op.eqFields
          simp only [ne_eq, hn.1, not_false_eq_true, if_true, Sem.run_bind, e1, e2, e3, Result.andThen_ok]
          rw [c3]
          cases a1
          · simp
          · simp [ih2]
        · cases h
      · cases h
theorem eqItems_plain {d e : Nat} {qs : List Nat} (ih : EqP P w d e qs) (D : Nat) (xs ys : Array Value) (hs : P.cellsOf e = qs.length) : ∀ (c k : Nat) (r : Bool), k * qs.length + c * qs.length ≤ xs.size → k * qs.length + c * qs.length ≤ ys.size → cellsEq (reps c qs) ((xs.toList.drop (k * qs.length)).take (c * qs.length)) ((ys.toList.drop (k * qs.length)).take (c * qs.length)) = some r → (Op.eqItems (D + d) e (P.cellsOf e) xs ys (List.range' k c)).run P w = .ok r w
  | 0, k, r, _, _, hc => by simp [cellsEq, reps] at hc; subst hc; simp [Op.eqItems]
  | c + 1, k, r, hx, hy, hc => by
    have hm3 : (c + 1) * qs.length = qs.length + c * qs.length := by simp [Nat.add_mul]; omega
    have hm4 : (k + 1) * qs.length = k * qs.length + qs.length := by simp [Nat.add_mul]
    rw [hm3, take_split, take_split, reps] at hc
    obtain ⟨a1, b1, c1, c2, c3⟩ := cellsEq_app (by simp; omega) (by simp; omega) hc
    obtain ⟨a, b, e1, e2, e3⟩ := ih D xs ys (k * qs.length) a1 (by omega) (by omega) c1
    rw [← hm4] at c2
    have ih2 := eqItems_plain ih D xs ys hs c (k + 1) b1 (by omega) (by omega) c2
    rw [List.range'_succ]
    unfold Op.eqItems
    rw [hs]
    rw [hs] at ih2
    simp only [Sem.run_bind, e1, e2, e3, Result.andThen_ok]
    rw [c3]
    cases a1
    · simp
    · simp [ih2]
theorem eq_plain : ∀ (d : Nat) (t : TypeId) (qs : List Nat), plainT P d t = some qs → EqP P w d t qs
  | 0, t, s, h => by cases h
  | d + 1, t, qs, h => by
    intro D xs ys off r hx hy hc
    have one : ∀ q, oneB P t = true → qs = [q] → (∀ a b, cellEq q a b = some r → (Op.equalIn (D + (d + 1)) t a b).run P w = .ok r w) → ∃ a b, (part t xs off).run P w = .ok a w ∧ (part t ys off).run P w = .ok b w ∧ (Op.equalIn (D + (d + 1)) t a b).run P w = .ok r w := by
      intro q h1 h2 h3
      subst h2
      simp only [List.length_cons, List.length_nil, Nat.zero_add] at hx hy hc
      have hxl : off < xs.size := by omega
      have hyl : off < ys.size := by omega
      have ex : (xs.toList.drop off).take 1 = [xs[off]] := by rw [List.drop_eq_getElem_cons (by simpa using hxl)]; simp
      have ey : (ys.toList.drop off).take 1 = [ys[off]] := by rw [List.drop_eq_getElem_cons (by simpa using hyl)]; simp
      rw [ex, ey] at hc
      simp only [cellsEq] at hc
      split at hc
      · next a b ha hb =>
        cases hb
        simp only [Bool.and_true, Option.some.injEq] at hc
        subst hc
        exact ⟨xs[off], ys[off], part_one w (agg_no h1 w) (by simp [hxl]), part_one w (agg_no h1 w) (by simp [hyl]), h3 _ _ ha⟩
      · cases hc
    have row : rowB P t qs.length = true → (∀ (us vs : Array Value), us.size = qs.length → vs.size = qs.length → cellsEq qs us.toList vs.toList = some r → (Op.equalIn (D + (d + 1)) t (.agg us) (.agg vs)).run P w = .ok r w) → ∃ a b, (part t xs off).run P w = .ok a w ∧ (part t ys off).run P w = .ok b w ∧ (Op.equalIn (D + (d + 1)) t a b).run P w = .ok r w := by
      intro h1 h3
      refine ⟨_, _, prow h1 hx, prow h1 hy, h3 _ _ (by simp; omega) (by simp; omega) ?_⟩
      simpa [List.extract_eq_take_drop] using hc
    unfold plainT at h
    split at h
    · next k hu =>
      split at h
      · next h1 =>
        cases h
        refine one 0 h1 rfl fun a b hab => ?_
        unfold cellEq at hab
        split at hab
        · split at hab
          · next hk => subst hk; cases hab; exact run_equalIn_int w _ t _ _ _ _ hu
          · cases hab
        · next h => cases h
        · next h => cases h
        · cases hab
      · cases h
    · next hu =>
      split at h
      · next h1 =>
        cases h
        refine one 1 h1 rfl fun a b hab => ?_
        unfold cellEq at hab
        split at hab
        · next h => cases h
        · cases hab; exact run_equalIn_bool w _ t _ _ hu
        · next h => cases h
        · cases hab
      · cases h
    · next hu =>
      split at h
      · next h1 =>
        cases h
        refine one 2 h1 rfl fun a b hab => ?_
        unfold cellEq at hab
        split at hab
        · next h => cases h
        · next h => cases h
        · cases hab; exact run_equalIn_string w _ t _ _ hu
        · cases hab
      · cases h
    · next fs hu =>
      split at h
      · cases h
      · next hst =>
        split at h
        · next q2 hf =>
          split at h
          · next hrow =>
            cases h
            refine row hrow fun us vs hus hvs hcc => ?_
            have hf2 : P.fieldsOf t = fs := by unfold Program.fieldsOf; rw [hu]
            rw [show D + (d + 1) = (D + d) + 1 by omega, run_equalIn_struct w (D + d) t us vs (by rw [hf2]; exact hu) (by simpa using hst), hf2]
            refine eqFields_plain (eq_plain d) D us vs fs.toList 0 qs r hf (by omega) (by omega) ?_
            rw [List.drop_zero, List.drop_zero, List.take_of_length_le (by simp; omega), List.take_of_length_le (by simp; omega)]
            exact hcc
          · cases h
        · cases h
    · next m e hu =>
      split at h
      · next q2 hq2 =>
        split at h
        · next hck =>
          cases h
          rw [Bool.and_eq_true] at hck
          refine row hck.1 fun us vs hus hvs hcc => ?_
          have hsz : (P.info? e).map (·.size) = some q2.length := by simpa using hck.2
          have hco : P.cellsOf e = q2.length := by unfold Program.cellsOf; rw [hsz]; rfl
          cases hqi : P.info? e with
          | none => rw [hqi] at hsz; cases hsz
          | some ie =>
            rw [show D + (d + 1) = (D + d) + 1 by omega, run_equalIn_array w (D + d) us vs hu hqi]
            rw [reps_len] at hus hvs
            have := eqItems_plain (eq_plain d e q2 hq2) D us vs hco m 0 r (by omega) (by omega) (by
              rw [Nat.zero_mul, List.drop_zero, List.drop_zero, List.take_of_length_le (by simp; omega), List.take_of_length_le (by simp; omega)]
              exact hcc)
            rwa [List.range_eq_range']
        · cases h
      · cases h
    · cases h
/-- a struct or an array that may be compared so -/
def eqTB (P : Program) (t : TypeId) (qs : List Nat) : Bool := (plainT P 6 t == some qs) && rowB P t qs.length && !P.eqGuardType P.depth t
theorem eq_row {t : TypeId} {qs : List Nat} {xs ys : Array Value} {r : Bool} (h : eqTB P t qs = true) (hx : xs.size = qs.length) (hy : ys.size = qs.length) (hc : cellsEq qs xs.toList ys.toList = some r) (x y : Operand) :
    ((eqGuard .eql t x y (.agg xs) (.agg ys)).run P w = .ok () w ∧ (binOp .eql t (.agg xs) (.agg ys)).run P w = .ok (.bool r) w) ∧
    ((eqGuard .neq t x y (.agg xs) (.agg ys)).run P w = .ok () w ∧ (binOp .neq t (.agg xs) (.agg ys)).run P w = .ok (.bool (!r)) w) := by
  unfold eqTB at h
  rw [Bool.and_eq_true, Bool.and_eq_true] at h
  obtain ⟨⟨h1, h2⟩, h3⟩ := h
  have h1 : plainT P 6 t = some qs := by simpa using h1
  have h3 : P.eqGuardType P.depth t = false := by simpa using h3
  obtain ⟨a, b, e1, e2, e3⟩ := eq_plain (P := P) (w := w) 6 t qs h1 9994 xs ys 0 r (by omega) (by omega) (by
    rw [List.drop_zero, List.drop_zero, List.take_of_length_le (by simp; omega), List.take_of_length_le (by simp; omega)]
    exact hc)
  have ex : (part t xs 0).run P w = .ok (.agg xs) w := by rw [prow h2 (by omega)]; simp [← hx]
  have ey : (part t ys 0).run P w = .ok (.agg ys) w := by rw [prow h2 (by omega)]; simp [← hy]
  rw [ex] at e1
  rw [ey] at e2
  cases e1; cases e2
  refine ⟨⟨run_eqGuard_agg w _ t x y xs ys h3, ?_⟩, run_eqGuard_agg w _ t x y xs ys h3, ?_⟩
  · rw [run_eql_struct, e3]; rfl
  · rw [run_neq_struct, e3]; rfl
end
end Go.Proofs.Ytiglneecmibgmaa
/- Values and memory as they are known: blocks by their place in a list; what a walk knows of its frame and of memory, as data. -/
namespace Go.Proofs.Ytiglneecmibgmaa
open Go.RowKit
set_option linter.unusedVariables false
set_option linter.unusedSimpArgs false

inductive SV where
  | int (k : IntKind) (n : Int)
  | bool (b : Bool)
  | tt
  | ff
  | str (l : List UInt8)
  | ptr (i o : Nat)
  | el (i s : Nat) (j : Int) (o : Nat)
  | ix (p : SV) (s n : Nat) (j : Int) (k : Nat)
  | sl (i n c : Nat)
  | sla (ao : Option Addr) (n c : Nat)
  | sp (p : SV) (n c : Nat)
  | st (i s j n c : Nat)
  | agg (l : List SV)
  | tup (l : List SV)
  | fn (f : Nat) (l : List SV)
  | opt (b : Bool) (x : SV)
  | v (x : Value)
/-- where cells lie: a block, what stands ahead of them there and behind, its type -/
structure Loc where
  b : Nat
  pre : List Value
  post : List Value
  t : TypeId
abbrev Gr := List (Option Loc)
/-- room that is hidden: how far a slice there reaches beyond what its value says -/
def rm : Option Loc → Nat
  | some L => L.post.length
  | none => 0
def adOf : Value → Option Addr
  | .pointer ao => ao
  | _ => none
mutual
def den (G : Gr) : SV → Option Value
  | .int k n => some (.int k n)
  | .bool b => some (.bool b)
  | .tt => some (.bool true)
  | .ff => some (.bool false)
  | .str l => some (.string (S l))
  | .ptr i o => match G[i]? with
    | some (some L) => some (.pointer (some ⟨L.b, L.pre.length + o, none⟩))
    | _ => none
  | .el i s j o => match G[i]? with
    | some p => some (.pointer (p.map fun L => ⟨L.b, L.pre.length + j.toNat * s + o, none⟩))
    | none => none
  | .ix p s _ j k => match den G p with
    | some (.pointer (some ⟨b, o, none⟩)) => some (.pointer (some ⟨b, o + j.toNat * s + k, none⟩))
    | some _ => some (.pointer none)
    | none => none
  | .sl i n c => match G[i]? with
    | some p => some (.slice (p.map fun L => ⟨L.b, L.pre.length, none⟩) n (c + rm p))
    | none => none
  | .sla ao n c => some (.slice ao n c)
  | .sp p n c => match den G p with
    | some v => some (.slice (adOf v) n c)
    | none => none
  | .st i s j n c => match G[i]? with
    | some p => some (.slice (p.map fun L => ⟨L.b, L.pre.length + (if c + rm p = j then 0 else j * s), none⟩) n (c + rm p - j))
    | none => none
  | .agg l => (denL G l).map fun vs => .agg vs.toArray
  | .tup l => (denL G l).map fun vs => .tuple vs.toArray
  | .fn f l => (denL G l).map fun vs => .func (.func f) #[] vs.toArray
  | .opt b x => (den G x).map fun v => bif b then v else undef
  | .v x => some x
def denL (G : Gr) : List SV → Option (List Value)
  | [] => some []
  | x :: l => match den G x with
    | some v => match denL G l with
      | some vs => some (v :: vs)
      | none => none
    | none => none
end
theorem denL_cons {G : Gr} {x : SV} {l : List SV} {vs : List Value} (h : denL G (x :: l) = some vs) : ∃ v ws, den G x = some v ∧ denL G l = some ws ∧ vs = v :: ws := by
  unfold denL at h
  split at h
  · next v hv =>
    split at h
    · next ws hw => cases h; exact ⟨v, ws, hv, hw, rfl⟩
    · cases h
  · cases h
theorem denL_mk {G : Gr} {x : SV} {l : List SV} {v : Value} {vs : List Value} (h : den G x = some v) (k : denL G l = some vs) : denL G (x :: l) = some (v :: vs) := by
  unfold denL; rw [h, k]
theorem denL_len {G : Gr} : ∀ {l : List SV} {vs : List Value}, denL G l = some vs → vs.length = l.length
  | [], vs, h => by cases h; rfl
  | x :: l, vs, h => by
    obtain ⟨v, ws, _, h2, rfl⟩ := denL_cons h
    simp [denL_len h2]
theorem denL_get {G : Gr} : ∀ {l : List SV} {vs : List Value} {k : Nat} {x : SV}, denL G l = some vs → l[k]? = some x → ∃ v, vs[k]? = some v ∧ den G x = some v
  | [], _, _, _, _, h => by cases h
  | y :: l, vs, 0, x, h, hx => by
    obtain ⟨v, ws, h1, _, rfl⟩ := denL_cons h
    cases hx; exact ⟨v, rfl, h1⟩
  | y :: l, vs, k + 1, x, h, hx => by
    obtain ⟨v, ws, _, h2, rfl⟩ := denL_cons h
    obtain ⟨u, h3, h4⟩ := denL_get h2 hx
    exact ⟨u, h3, h4⟩
theorem denL_app {G : Gr} : ∀ {l m : List SV} {vs ws : List Value}, denL G l = some vs → denL G m = some ws → denL G (l ++ m) = some (vs ++ ws)
  | [], m, vs, ws, h, k => by cases h; exact k
  | x :: l, m, vs, ws, h, k => by
    obtain ⟨v, us, h1, h2, rfl⟩ := denL_cons h
    exact denL_mk h1 (denL_app h2 k)
theorem denL_take {G : Gr} : ∀ {l : List SV} {vs : List Value} (k : Nat), denL G l = some vs → denL G (l.take k) = some (vs.take k)
  | [], vs, k, h => by cases h; simp [denL]
  | x :: l, vs, 0, h => by simp [denL]
  | x :: l, vs, k + 1, h => by
    obtain ⟨v, ws, h1, h2, rfl⟩ := denL_cons h
    exact denL_mk h1 (denL_take k h2)
theorem denL_drop {G : Gr} : ∀ {l : List SV} {vs : List Value} (k : Nat), denL G l = some vs → denL G (l.drop k) = some (vs.drop k)
  | [], vs, k, h => by cases h; simp [denL]
  | x :: l, vs, 0, h => by simpa using h
  | x :: l, vs, k + 1, h => by
    obtain ⟨v, ws, h1, h2, rfl⟩ := denL_cons h
    exact denL_drop k h2
mutual
theorem den_mono {G : Gr} (F : Gr) : ∀ (x : SV) {v : Value}, den G x = some v → den (G ++ F) x = some v
  | .int _ _, _, h => h
  | .bool _, _, h => h
  | .tt, _, h => h
  | .ff, _, h => h
  | .str _, _, h => h
  | .ptr i o, v, h => by
    unfold den at h ⊢
    split at h
    · next L hL => rw [List.getElem?_append_left (List.getElem?_eq_some_iff.1 hL).1, hL]; exact h
    · cases h
  | .el i s j o, v, h => by
    unfold den at h ⊢
    split at h
    · next L hL => rw [List.getElem?_append_left (List.getElem?_eq_some_iff.1 hL).1, hL]; exact h
    · cases h
  | .ix p s m j k, v, h => by
    unfold den at h ⊢
    cases hq : den G p with
    | none => rw [hq] at h; cases h
    | some u => rw [den_mono F p hq]; rw [hq] at h; exact h
  | .sl i n c, v, h => by
    unfold den at h ⊢
    split at h
    · next L hL => rw [List.getElem?_append_left (List.getElem?_eq_some_iff.1 hL).1, hL]; exact h
    · cases h
  | .sla _ _ _, _, h => h
  | .sp p m k, v, h => by
    unfold den at h ⊢
    cases hq : den G p with
    | none => rw [hq] at h; cases h
    | some u => rw [den_mono F p hq]; rw [hq] at h; exact h
  | .st i s j n c, v, h => by
    unfold den at h ⊢
    split at h
    · next L hL => rw [List.getElem?_append_left (List.getElem?_eq_some_iff.1 hL).1, hL]; exact h
    · cases h
  | .agg l, v, h => by
    unfold den at h ⊢
    obtain ⟨vs, h1, h2⟩ := Option.map_eq_some_iff.1 h
    rw [denL_mono F l h1]; exact congrArg some h2
  | .tup l, v, h => by
    unfold den at h ⊢
    obtain ⟨vs, h1, h2⟩ := Option.map_eq_some_iff.1 h
    rw [denL_mono F l h1]; exact congrArg some h2
  | .fn f l, v, h => by
    unfold den at h ⊢
    obtain ⟨vs, h1, h2⟩ := Option.map_eq_some_iff.1 h
    rw [denL_mono F l h1]; exact congrArg some h2
  | .opt b x, v, h => by
    unfold den at h ⊢
    obtain ⟨u, h1, h2⟩ := Option.map_eq_some_iff.1 h
    rw [den_mono F x h1]; exact congrArg some h2
  | .v _, _, h => h
theorem denL_mono {G : Gr} (F : Gr) : ∀ (l : List SV) {vs : List Value}, denL G l = some vs → denL (G ++ F) l = some vs
  | [], _, h => h
  | x :: l, vs, h => by
    obtain ⟨v, ws, h1, h2, rfl⟩ := denL_cons h
    exact denL_mk (den_mono F x h1) (denL_mono F l h2)
end
/-- is it one cell? -/
def SV.oneB : SV → Option Bool
  | .int _ _ | .bool _ | .tt | .ff | .str _ | .ptr _ _ | .el _ _ _ _ | .ix _ _ _ _ _ | .sl _ _ _ | .sla _ _ _ | .sp _ _ _ | .st _ _ _ _ _ | .fn _ _ => some true
  | .v x => some x.oneCell'
  | _ => none
theorem SV.one_spec {G : Gr} {x : SV} {v : Value} {b : Bool} (h : x.oneB = some b) (hb : b = true) (hv : den G x = some v) : v.oneCell' = true := by
  subst hb
  cases x with
  | agg l => simp [SV.oneB] at h
  | tup l => simp [SV.oneB] at h
  | opt b x => simp [SV.oneB] at h
  | v x => simp [SV.oneB] at h; simp [den] at hv; subst hv; exact h
  | ptr i o => unfold den at hv; split at hv <;> cases hv; rfl
  | el i s j o => unfold den at hv; split at hv <;> cases hv; rfl
  | ix p s m j k => unfold den at hv; split at hv <;> cases hv <;> rfl
  | sl i n c => unfold den at hv; split at hv <;> cases hv; rfl
  | st i s j n c => unfold den at hv; split at hv <;> cases hv; rfl
  | sp p m k => unfold den at hv; split at hv <;> cases hv <;> rfl
  | fn f l => unfold den at hv; obtain ⟨vs, _, h2⟩ := Option.map_eq_some_iff.1 hv; subst h2; rfl
  | _ => simp [den] at hv; subst hv; rfl
/-- cells that are known: of a block that may be turned, of a list that is read, of a row that grows -/
inductive Ent where
  | blk (cs : List SV)
  | lst (s n : Nat) (f : Nat → List SV)
  | fac (b : Nat) (o : Obj)
  | row (e s n c : Nat) (f : Nat → List SV)
def Ent.mut : Ent → Bool
  | .lst _ _ _ => false
  | .fac _ _ => false
  | _ => true
def Ent.empty : Ent → Prop
  | .lst _ n _ => n = 0
  | _ => False
/-- the first n parts, laid one behind the other -/
def flatV (f : Nat → List SV) : Nat → Option (List Value)
  | 0 => some []
  | n + 1 => match flatV f n with
    | some l => match denL [] (f n) with
      | some vs => some (l ++ vs)
      | none => none
    | none => none
def EntOK (G : Gr) (w : World) (p : Option Loc) : Ent → Prop
  | .blk cs => ∃ L vs, p = some L ∧ denL G cs = some vs ∧ Blk w L.b (L.pre ++ vs ++ L.post).toArray L.t
  | .lst s n f => (∀ k, ∃ vs, denL [] (f k) = some vs) ∧ (n = 0 ∨ ∃ L, p = some L ∧ L.b < w.heap.size ∧ ∀ k, k < n → ∃ vs, denL [] (f k) = some vs ∧ w.rangeAt L.b (L.pre.length + k * s) vs)
  | .fac b o => ∃ L, p = some L ∧ L.b = b ∧ w.heap[b]? = some o
  | .row e s n c f => (∀ k, ∃ vs, denL [] (f k) = some vs ∧ vs.length = s) ∧ (∀ L, p = some L → L.pre = []) ∧ ∃ xs, flatV f n = some xs ∧ w.ownsRow 0 e s (.slice (p.map fun L => ⟨L.b, L.pre.length, none⟩) n (c + rm p)) n xs
abbrev Hp := List (Option Ent)
structure Mem (H : Hp) (G : Gr) (w : World) : Prop where
  len : H.length = G.length
  ent : ∀ (i : Nat) (e : Ent), H[i]? = some (some e) → EntOK G w ((G[i]?).getD none) e
  sep : ∀ (i j : Nat) (e f : Ent) (L M : Loc), i ≠ j → H[i]? = some (some e) → H[j]? = some (some f) → e.mut = true → G[i]? = some (some L) → G[j]? = some (some M) → ¬ f.empty → L.b ≠ M.b
/-- all blocks that were there but these are as they were -/
structure Mix (ks : List Nat) (w w' : World) : Prop where
  os : w'.os = w.os
  tape : w'.tape = w.tape
  output : w'.output = w.output
  size : w.heap.size ≤ w'.heap.size
  block : ∀ k, k < w.heap.size → ks.contains k = false → w'.heap[k]? = w.heap[k]?
section
variable {ks ks' : List Nat} {a w w' : World} {B g : Nat}
theorem Mix.refl (ks : List Nat) (w : World) : Mix ks w w := ⟨rfl, rfl, rfl, Nat.le_refl _, fun _ _ _ => rfl⟩
theorem Mix.grow (h : Mix ks a w) (hg : Grow w w') : Mix ks a w' :=
  ⟨hg.os.trans h.os, hg.tape.trans h.tape, hg.output.trans h.output, Nat.le_trans h.size hg.size, fun k hk hc => (hg.block k (Nat.lt_of_lt_of_le hk h.size)).trans (h.block k hk hc)⟩
theorem Mix.upd (h : Mix ks a w) (hu : Upd g w w') (hg : ks.contains g = true ∨ a.heap.size ≤ g) : Mix ks a w' :=
  ⟨hu.os.trans h.os, hu.tape.trans h.tape, hu.output.trans h.output, Nat.le_trans h.size (Nat.le_of_eq hu.size.symm), fun k hk hc => (hu.block k (fun e => by
    subst e
    rcases hg with hg | hg
    · rw [hg] at hc; cases hc
    · omega)).trans (h.block k hk hc)⟩
theorem Mix.mix (h : Mix ks a w) (m : Mix ks' w w') (hk : ∀ k, k < a.heap.size → ks.contains k = false → ks'.contains k = false) : Mix ks a w' :=
  ⟨m.os.trans h.os, m.tape.trans h.tape, m.output.trans h.output, Nat.le_trans h.size m.size, fun k hl hc => (m.block k (Nat.lt_of_lt_of_le hl h.size) (hk k hl hc)).trans (h.block k hl hc)⟩
theorem Blk.mix {cs : Array Value} {t : TypeId} (h : Blk w g cs t) (m : Mix ks w w') (hk : ks.contains g = false) : Blk w' g cs t := by
  unfold Blk; rw [m.block g h.lt hk]; exact h
theorem range_mix {b o : Nat} {cs : List Value} (hr : w.rangeAt b o cs) (m : Mix ks w w') (hb : b < w.heap.size) (hk : ks.contains b = false) : w'.rangeAt b o cs := fun j x hx => by
  rw [World.cell?_of_block (w := w) (m.block b hb hk)]; exact hr j x hx
theorem own_mix {b e s n : Nat} {v : Value} {xs : List Value} (h : w.ownsRow b e s v n xs) (m : Mix ks w w') (hk : ∀ k, v.ownBlock = some k → ks.contains k = false) : w'.ownsRow b e s v n xs :=
  own_keep h fun k hv => m.block k (own_lt h k hv).2 (hk k hv)
theorem Grow.mix (hg : Grow w w') : Mix [] w w' := (Mix.refl [] w).grow hg
end
theorem EntOK.lt {G : Gr} {w : World} {L : Loc} {e : Ent} (h : EntOK G w (some L) e) (hn : ¬ e.empty) : L.b < w.heap.size := by
  cases e with
  | blk cs => obtain ⟨M, vs, h1, _, h3⟩ := h; cases h1; exact h3.lt
  | lst s n f =>
    rcases h.2 with h | ⟨M, h1, h2, _⟩
    · exact absurd h hn
    · cases h1; exact h2
  | row e s n c f => obtain ⟨_, _, xs, _, h⟩ := h; exact (own_lt h L.b (by simp [Value.ownBlock])).2
  | fac b o => obtain ⟨M, h1, h2, h3⟩ := h; cases h1; rw [h2]; exact (Array.getElem?_eq_some_iff.1 h3).1
theorem EntOK.mix {G : Gr} {ks : List Nat} {w w' : World} {p : Option Loc} {e : Ent} (h : EntOK G w p e) (m : Mix ks w w') (hk : ¬ e.empty → ∀ L, p = some L → ks.contains L.b = false) : EntOK G w' p e := by
  cases e with
  | blk cs => obtain ⟨M, vs, h1, h2, h3⟩ := h; exact ⟨M, vs, h1, h2, h3.mix m (hk (fun h => h) M h1)⟩
  | lst s n f =>
    refine ⟨h.1, ?_⟩
    by_cases h0 : n = 0
    · exact .inl h0
    · rcases h.2 with h | ⟨M, h1, h2, h3⟩
      · exact .inl h
      · exact .inr ⟨M, h1, Nat.lt_of_lt_of_le h2 m.size, fun k hl => by obtain ⟨vs, h4, h5⟩ := h3 k hl; exact ⟨vs, h4, range_mix h5 m h2 (hk h0 M h1)⟩⟩
  | row e s n c f =>
    obtain ⟨h1, h2, xs, h3, h4⟩ := h
    refine ⟨h1, h2, xs, h3, own_mix h4 m fun k hv => ?_⟩
    cases p with
    | none => simp [Value.ownBlock] at hv
    | some L => simp [Value.ownBlock] at hv; subst hv; exact hk (fun h => h) L rfl
  | fac b o =>
    obtain ⟨M, h1, h2, h3⟩ := h
    refine ⟨M, h1, h2, ?_⟩
    have hk' := hk (fun h => h) M h1
    rw [h2] at hk'
    rw [m.block b (Array.getElem?_eq_some_iff.1 h3).1 hk']; exact h3
theorem EntOK.more {G : Gr} (F : Gr) {w : World} {p : Option Loc} {e : Ent} (h : EntOK G w p e) : EntOK (G ++ F) w p e := by
  cases e with
  | blk cs => obtain ⟨M, vs, h1, h2, h3⟩ := h; exact ⟨M, vs, h1, denL_mono F cs h2, h3⟩
  | lst s n f => exact h
  | row e s n c f => exact h
  | fac b o => exact h
theorem mut_full {e : Ent} (h : e.mut = true) : ¬ e.empty := by cases e <;> first | (cases h; done) | exact fun h => h
theorem Upd.mix {g : Nat} {w w' : World} (hu : Upd g w w') : Mix [g] w w' := (Mix.refl [g] w).upd hu (.inl (by simp))
def look : List (Nat × SV) → Nat → Option SV
  | [], _ => none
  | (k, x) :: l, t => bif Nat.beq k t then some x else look l t
/-- what a walk knows -/
structure Sy (n : Nat) (T : List (Nat × SV)) (H : Hp) (ks : List Nat) (G0 : Gr) (w0 : World) (G : Gr) (a : Act) (w : World) : Prop where
  size : a.tmps.size = n
  defers : a.defers = []
  get : ∀ t x, look T t = some x → den G x = some (a.tmps.getD t undef)
  mem : Mem H G w
  pre : ∃ F, G = G0 ++ F
  own : ∀ (i : Nat) (e : Ent) (L : Loc), H[i]? = some (some e) → e.mut = true → G[i]? = some (some L) → ks.contains L.b = true ∨ w0.heap.size ≤ L.b
  mix : Mix ks w0 w
theorem flat_len {f : Nat → List SV} {s : Nat} (hs : ∀ k, ∃ vs, denL [] (f k) = some vs ∧ vs.length = s) : ∀ {n : Nat} {xs : List Value}, flatV f n = some xs → xs.length = n * s
  | 0, xs, h => by cases h; simp
  | n + 1, xs, h => by
    unfold flatV at h
    obtain ⟨vs, h1, h2⟩ := hs n
    split at h
    · next l hl =>
      rw [h1] at h
      cases h
      simp [flat_len hs hl, h2, Nat.add_mul]
    · cases h
theorem flat_ex {f : Nat → List SV} {s : Nat} (hs : ∀ k, ∃ vs, denL [] (f k) = some vs ∧ vs.length = s) : ∀ n : Nat, ∃ xs, flatV f n = some xs
  | 0 => ⟨[], rfl⟩
  | n + 1 => by
    obtain ⟨l, hl⟩ := flat_ex hs n
    obtain ⟨vs, h1, _⟩ := hs n
    exact ⟨l ++ vs, by unfold flatV; rw [hl, h1]⟩
theorem flat_at {f : Nat → List SV} {s : Nat} (hs : ∀ k, ∃ vs, denL [] (f k) = some vs ∧ vs.length = s) : ∀ {n : Nat} {xs : List Value}, flatV f n = some xs → ∀ k, k < n → ∃ vs, denL [] (f k) = some vs ∧ ∀ j v, vs[j]? = some v → xs[k * s + j]? = some v
  | 0, xs, h, k, hk => by omega
  | n + 1, xs, h, k, hk => by
    unfold flatV at h
    obtain ⟨vs, h1, h2⟩ := hs n
    split at h
    · next l hl =>
      rw [h1] at h
      cases h
      have hll := flat_len hs hl
      by_cases hkn : k < n
      · obtain ⟨us, h3, h4⟩ := flat_at hs hl k hkn
        refine ⟨us, h3, fun j v hj => ?_⟩
        have := h4 j v hj
        rw [List.getElem?_append_left (List.getElem?_eq_some_iff.1 this).1]; exact this
      · have : k = n := by omega
        subst this
        refine ⟨vs, h1, fun j v hj => ?_⟩
        rw [List.getElem?_append_right (by omega), show k * s + j - l.length = j by omega]; exact hj
    · cases h
theorem flat_congr {f g : Nat → List SV} : ∀ {n : Nat}, (∀ k, k < n → f k = g k) → flatV f n = flatV g n
  | 0, _ => rfl
  | n + 1, h => by unfold flatV; rw [flat_congr (fun k hk => h k (by omega)), h n (by omega)]
/-- the parts of a row lie in memory -/
theorem row_range {w : World} {e s n c : Nat} {p : Option Loc} {f : Nat → List SV} {G : Gr} (h : EntOK G w p (.row e s n c f)) {k : Nat} (hk : k < n) : ∃ L vs, p = some L ∧ denL [] (f k) = some vs ∧ vs.length = s ∧ w.rangeAt L.b (L.pre.length + k * s) vs := by
  obtain ⟨h1, h2, xs, h3, h4, h5⟩ := h
  obtain ⟨vs, v1, v2⟩ := h1 k
  obtain ⟨us, u1, u2⟩ := flat_at h1 h3 k hk
  rw [v1] at u1; cases u1
  rcases h5 with ⟨_, h5⟩ | ⟨g, cap, cur, q1, _, q3, q4, q5, q6, q7⟩
  · omega
  · cases p with
    | none => cases q1
    | some L =>
      simp only [Option.map_some, Value.slice.injEq, Option.some.injEq, Addr.mk.injEq] at q1
      obtain ⟨⟨q8, q9, _⟩, _, _⟩ := q1
      refine ⟨L, vs, rfl, v1, v2, fun j v hj => ?_⟩
      have hx := u2 j v hj
      rw [← q7] at hx
      have hlt := (List.getElem?_eq_some_iff.1 hx).1
      rw [List.getElem?_take_of_lt (by simp at hlt; omega)] at hx
      rw [q9, Nat.zero_add, q8]
      rw [cell_of_row w g (k * s + j) cur e _ q3]
      simpa using hx
end Go.Proofs.Ytiglneecmibgmaa
/- What is known of types, as a table; lists that are cut and filled. -/
namespace Go.Proofs.Ytiglneecmibgmaa
open Go.RowKit
set_option linter.unusedVariables false
set_option linter.unusedSimpArgs false
set_option linter.unusedSectionVars false

structure TI where
  one : Bool
  row : Option Nat
  zero : Option (List SV)
  flds : List (Nat × Nat × Nat)
  knd : Option IntKind
  isS : Bool
  isB : Bool
  elm : Option (Nat × Nat × Nat)
  eqk : Option (List Nat)
  arr : Option (Nat × Nat × Nat)
inductive Tb where
  | e
  | n (k : Nat) (i : TI) (l r : Tb)
def Tb.get : Tb → Nat → Option TI
  | .e, _ => none
  | .n k i l r, t => bif Nat.beq t k then some i else bif Nat.ble t k then l.get t else r.get t
def zB : Value → SV → Bool
  | .int k n, .int k' n' => k == k' && n == n'
  | .bool b, .ff => !b
  | .string s, .str l => s.data.toList.isEmpty && l.isEmpty
  | .pointer none, .v (.pointer none) => true
  | .slice none n c, .sla none n' c' => Nat.beq n n' && Nat.beq c c'
  | .nilIface, .v .nilIface => true
  | .nilFunc, .v .nilFunc => true
  | .map none, .v (.map none) => true
  | _, _ => false
def zsB : List Value → List SV → Bool
  | [], [] => true
  | v :: vs, x :: xs => zB v x && zsB vs xs
  | _, _ => false
theorem zB_den {G : Gr} {v : Value} {x : SV} (h : zB v x = true) : den G x = some v := by
  unfold zB at h
  split at h
  · simp only [Bool.and_eq_true, beq_iff_eq] at h; obtain ⟨rfl, rfl⟩ := h; rfl
  · simp at h; subst h; rfl
  · next s l =>
    simp only [Bool.and_eq_true, List.isEmpty_iff] at h
    obtain ⟨h1, rfl⟩ := h
    have := S_of s
    rw [h1] at this
    simp [den, this]
  · rfl
  · simp only [Bool.and_eq_true] at h
    have h1 := Nat.eq_of_beq_eq_true h.1
    have h2 := Nat.eq_of_beq_eq_true h.2
    subst h1; subst h2; rfl
  · rfl
  · rfl
  · rfl
  · cases h
theorem zsB_den {G : Gr} : ∀ {vs : List Value} {xs : List SV}, zsB vs xs = true → denL G xs = some vs
  | [], [], _ => rfl
  | v :: vs, x :: xs, h => by
    simp only [zsB, Bool.and_eq_true] at h
    exact denL_mk (zB_den h.1) (zsB_den h.2)
  | [], _ :: _, h => by cases h
  | _ :: _, [], h => by cases h
def boolB (P : Program) (t : TypeId) : Bool := match P.underlying t with | some .bool => true | _ => false
def knB (P : Program) (t : TypeId) (k : IntKind) : Bool := match P.underlying t with | some (.int k') => k' == k | _ => false
theorem kn_fact {P : Program} {t : TypeId} {k : IntKind} (h : knB P t k = true) : P.underlying t = some (.int k) := by
  unfold knB at h; split at h
  · next k' hk => rw [hk, eq_of_beq h]
  · cases h
def zeroOk (P : Program) (t : TypeId) (zs : List SV) : Bool := match P.info? t with
  | some i => match i.zero with
    | some z => zsB z.cells.toList zs
    | none => false
  | none => false
def fldsB (P : Program) (t : TypeId) : Nat → List (Nat × Nat × Nat) → Bool
  | _, [] => true
  | k, (ft, off, sz) :: l => (match fieldInfo P t k with | some (a, b) => Nat.beq a ft && Nat.beq b off | none => false) && (match fieldOff P t k with | some b => Nat.beq b off | none => sz == 0) && fldsB P t (k + 1) l
def plB (P : Program) (t : TypeId) (l : List (Nat × Nat × Nat)) : Bool := match placesOf P t with | some ps => ps == l.map (·.2) | none => false
def tiB (P : Program) (t : TypeId) (i : TI) : Bool :=
  (!i.one || oneB P t) && (match i.row with | some m => rowB P t m | none => true) && (match i.zero with | some zs => zeroOk P t zs | none => true) &&
  (match i.flds with | [] => true | l => fldsB P t 0 l && plB P t l) && (match i.knd with | some k => knB P t k | none => true) && (!i.isS || strB P t) && (!i.isB || boolB P t) &&
  (match i.elm with | some (e, s, b) => elemB P t e s b | none => true) && (match i.eqk with | some qs => eqTB P t qs | none => true) && (match i.arr with | some (n, e, s) => arrB P t n e s | none => true)
def Tb.ok (P : Program) : Tb → Bool
  | .e => true
  | .n k i l r => tiB P k i && l.ok P && r.ok P
theorem Tb.at {P : Program} : ∀ {X : Tb} {t : Nat} {i : TI}, X.ok P = true → X.get t = some i → tiB P t i = true
  | .e, _, _, _, h => by cases h
  | .n k j l r, t, i, hX, h => by
    simp only [Tb.ok, Bool.and_eq_true] at hX
    unfold Tb.get at h
    cases hb : Nat.beq t k with
    | true => rw [hb] at h; cases h; have := Nat.eq_of_beq_eq_true hb; subst this; exact hX.1.1
    | false =>
      rw [hb] at h
      cases hc : Nat.ble t k with
      | true => rw [hc] at h; exact Tb.at hX.1.2 h
      | false => rw [hc] at h; exact Tb.at hX.2 h
/-- the table, and whether sums are taken to stay in their range (what is then asked) -/
structure Tx where
  tb : Tb
  nw : Bool
abbrev Tx.get (X : Tx) (t : Nat) : Option TI := X.tb.get t
abbrev Tx.ok (P : Program) (X : Tx) : Bool := X.tb.ok P
section
variable {P : Program} {t : TypeId} {i : TI} (h : tiB P t i = true)
include h
theorem ti_parts : (!i.one || oneB P t) = true ∧ (match i.row with | some m => rowB P t m | none => true) = true ∧ (match i.zero with | some zs => zeroOk P t zs | none => true) = true ∧
  (match i.flds with | [] => true | l => fldsB P t 0 l && plB P t l) = true ∧ (match i.knd with | some k => knB P t k | none => true) = true ∧ (!i.isS || strB P t) = true ∧ (!i.isB || boolB P t) = true ∧
  (match i.elm with | some (e, s, b) => elemB P t e s b | none => true) = true ∧ (match i.eqk with | some qs => eqTB P t qs | none => true) = true ∧ (match i.arr with | some (n, e, s) => arrB P t n e s | none => true) = true := by
  unfold tiB at h
  simp only [Bool.and_eq_true] at h
  obtain ⟨⟨⟨⟨⟨⟨⟨⟨⟨h1, h2⟩, h3⟩, h4⟩, h5⟩, h6⟩, h7⟩, h8⟩, h9⟩, h10⟩ := h
  exact ⟨h1, h2, h3, h4, h5, h6, h7, h8, h9, h10⟩
theorem ti_one (ho : i.one = true) : oneB P t = true := by have := (ti_parts h).1; rw [ho] at this; simpa using this
theorem ti_row {m : Nat} (ho : i.row = some m) : rowB P t m = true := by have := (ti_parts h).2.1; rw [ho] at this; exact this
theorem ti_zero {zs : List SV} (ho : i.zero = some zs) : ∃ z m, (P.info? t).map (fun i => (i.zero, i.size)) = some (some z, m) ∧ ∀ G, denL G zs = some z.cells.toList := by
  have := (ti_parts h).2.2.1
  rw [ho] at this
  simp only [zeroOk] at this
  split at this
  · next f hf =>
    split at this
    · next z hz => exact ⟨z, f.size, by rw [hf, ← hz]; rfl, fun G => zsB_den this⟩
    · cases this
  · cases this
theorem flds_at : ∀ (l : List (Nat × Nat × Nat)) (k : Nat), fldsB P t k l = true → ∀ (f ft off sz : Nat), l[f]? = some (ft, off, sz) → fieldInfo P t (k + f) = some (ft, off) ∧ (sz ≠ 0 → fieldOff P t (k + f) = some off)
  | [], _, _, f, ft, off, sz, hf => by cases hf
  | (a, b, c) :: l, k, hb, 0, ft, off, sz, hf => by
    cases hf
    simp only [fldsB, Bool.and_eq_true] at hb
    obtain ⟨⟨h1, h2⟩, _⟩ := hb
    constructor
    · split at h1
      · next a' b' e => simp only [Bool.and_eq_true] at h1; rw [Nat.add_zero, e, Nat.eq_of_beq_eq_true h1.1, Nat.eq_of_beq_eq_true h1.2]
      · cases h1
    · intro hz
      split at h2
      · next b' e => rw [Nat.add_zero, e, Nat.eq_of_beq_eq_true h2]
      · simp at h2; exact absurd h2 hz
  | (a, b, c) :: l, k, hb, f + 1, ft, off, sz, hf => by
    simp only [fldsB, Bool.and_eq_true] at hb
    have := flds_at l (k + 1) hb.2 f ft off sz hf
    rw [show k + (f + 1) = k + 1 + f by omega]; exact this
theorem ti_fld {f ft off sz : Nat} (hf : i.flds[f]? = some (ft, off, sz)) : fieldInfo P t f = some (ft, off) ∧ (sz ≠ 0 → fieldOff P t f = some off) := by
  have := (ti_parts h).2.2.2.1
  split at this
  · next e => rw [e] at hf; cases hf
  · rw [Bool.and_eq_true] at this
    have := flds_at h i.flds 0 this.1 f ft off sz hf
    rwa [Nat.zero_add] at this
theorem ti_pl (hn : i.flds ≠ []) : placesOf P t = some (i.flds.map (·.2)) := by
  have := (ti_parts h).2.2.2.1
  split at this
  · next e => exact absurd e hn
  · rw [Bool.and_eq_true] at this
    have := this.2
    unfold plB at this
    split at this
    · next ps e => rw [e]; simpa using this
    · cases this
theorem ti_knd {k : IntKind} (ho : i.knd = some k) : P.underlying t = some (.int k) := by have := (ti_parts h).2.2.2.2.1; rw [ho] at this; exact kn_fact this
theorem ti_str (ho : i.isS = true) : strB P t = true := by have := (ti_parts h).2.2.2.2.2.1; rw [ho] at this; simpa using this
theorem ti_bool (ho : i.isB = true) : P.underlying t = some .bool := by
  have := (ti_parts h).2.2.2.2.2.2.1
  rw [ho] at this
  simp only [boolB, Bool.not_true, Bool.false_or] at this
  split at this
  · assumption
  · cases this
theorem ti_elm {e s b : Nat} (ho : i.elm = some (e, s, b)) : elemB P t e s b = true := by have := (ti_parts h).2.2.2.2.2.2.2.1; rw [ho] at this; exact this
theorem ti_eqk {qs : List Nat} (ho : i.eqk = some qs) : eqTB P t qs = true := by have := (ti_parts h).2.2.2.2.2.2.2.2.1; rw [ho] at this; exact this
theorem ti_arr {n e s : Nat} (ho : i.arr = some (n, e, s)) : arrB P t n e s = true := by have := (ti_parts h).2.2.2.2.2.2.2.2.2; rw [ho] at this; exact this
end
/-! ### Lists -/
def lg {α : Type} : List α → Nat → Option α
  | [], _ => none
  | x :: _, 0 => some x
  | _ :: l, k + 1 => lg l k
theorem lg_is {α : Type} : ∀ (l : List α) (k : Nat), lg l k = l[k]?
  | [], _ => rfl
  | _ :: _, 0 => rfl
  | _ :: l, k + 1 => by rw [lg, lg_is l k]; rfl
def tk {α : Type} : Nat → List α → Option (List α)
  | 0, _ => some []
  | _ + 1, [] => none
  | m + 1, x :: l => match tk m l with
    | some r => some (x :: r)
    | none => none
theorem tk_is {α : Type} : ∀ {m : Nat} {l r : List α}, tk m l = some r → r = l.take m ∧ m ≤ l.length
  | 0, l, r, h => by cases h; simp
  | m + 1, [], r, h => by cases h
  | m + 1, x :: l, r, h => by
    unfold tk at h
    split at h
    · next s hs => cases h; obtain ⟨rfl, h2⟩ := tk_is hs; simp; exact h2
    · cases h
def dp {α : Type} : Nat → List α → List α
  | 0, l => l
  | _ + 1, [] => []
  | o + 1, _ :: l => dp o l
theorem dp_is {α : Type} : ∀ (o : Nat) (l : List α), dp o l = l.drop o
  | 0, l => by simp [dp]
  | o + 1, [] => by simp [dp]
  | o + 1, x :: l => by simp [dp, dp_is o l]
/-- cells from o on are these -/
def sp {α : Type} : Nat → List α → List α → Option (List α)
  | 0, cs, [] => some cs
  | 0, [], _ :: _ => none
  | 0, _ :: cs, x :: xs => match sp 0 cs xs with
    | some r => some (x :: r)
    | none => none
  | _ + 1, [], _ => none
  | o + 1, c :: cs, xs => match sp o cs xs with
    | some r => some (c :: r)
    | none => none
theorem sp_is {α : Type} : ∀ {o : Nat} {cs xs r : List α}, sp o cs xs = some r → r = cs.take o ++ xs ++ cs.drop (o + xs.length) ∧ o + xs.length ≤ cs.length
  | 0, cs, [], r, h => by simp [sp] at h; subst h; simp
  | 0, [], _ :: _, r, h => by simp [sp] at h
  | 0, c :: cs, x :: xs, r, h => by
    unfold sp at h
    split at h
    · next s hs =>
      cases h
      obtain ⟨h1, h2⟩ := sp_is hs
      subst h1
      simp at h2 ⊢
      exact h2
    · cases h
  | o + 1, [], xs, r, h => by simp [sp] at h
  | o + 1, c :: cs, xs, r, h => by
    unfold sp at h
    split at h
    · next s hs =>
      cases h
      obtain ⟨h1, h2⟩ := sp_is hs
      subst h1
      rw [show o + 1 + xs.length = o + xs.length + 1 by omega]
      simp at h2 ⊢
      omega
    · cases h
theorem blk_cells {g : Nat} {t : TypeId} : ∀ (new old A B : List Value) (w : World), old.length = new.length → Blk w g (A ++ old ++ B).toArray t → Blk (w.setCells g A.length new) g (A ++ new ++ B).toArray t ∧ Upd g w (w.setCells g A.length new)
  | [], [], A, B, w, _, h => ⟨h, rfl, rfl, rfl, rfl, fun _ _ => rfl⟩
  | [], _ :: _, _, _, _, h, _ => by cases h
  | _ :: _, [], _, _, _, h, _ => by cases h
  | x :: new, y :: old, A, B, w, hl, h => by
    have h1 : Blk (w.setCell ⟨g, A.length, none⟩ x) g ((A ++ [x]) ++ old ++ B).toArray t := by
      have := h.set (k := A.length) x
      simpa using this
    have hl' : old.length = new.length := by simpa using hl
    obtain ⟨h2, h3⟩ := blk_cells new old (A ++ [x]) B _ hl' h1
    have e : w.setCells g A.length (x :: new) = (w.setCell ⟨g, A.length, none⟩ x).setCells g (A ++ [x]).length new := by
      rw [World.setCells]; simp
    rw [e]
    refine ⟨by simpa using h2, ?_⟩
    have u := upd_setCell w g A.length x
    exact ⟨h3.os.trans u.os, h3.tape.trans u.tape, h3.output.trans u.output, h3.size.trans u.size, fun k hk => (h3.block k hk).trans (u.block k hk)⟩
end Go.Proofs.Ytiglneecmibgmaa
