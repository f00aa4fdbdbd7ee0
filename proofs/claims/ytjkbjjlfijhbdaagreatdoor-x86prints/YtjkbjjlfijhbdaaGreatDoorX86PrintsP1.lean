/- X86Prints: what it stands on, part 1. -/
import Derived.WalkKit
import Derived.Deep.WholeRow
import Derived.Deep.MidRow
import Derived.Great.BuildSlice
import Derived.ChangeKeysEq
import Derived.Deep.Draws
import Derived.Laws.StructEq
import Derived.Maps.AppendAt
import Derived.Deep.Upon
import Derived.Test.YtjkbjjlfijhbdaaGreatDoorChecked
import Derived.Lib.ConvBytes
import Derived.WideLaws
import Derived.Laws.AppendOwn
import Derived.Test.YtjkbjjlfijhbdaaGreatDoorRows
import Derived.Deep.QuietTactic
import Derived.BigQuiet
import Derived.Shelf.Small.Strs
import Derived.Shelf.Strings.Search3
namespace Go.Proofs.YtjkbjjlfijhbdaaGreatDoor
open Go.RowKit
set_option linter.defProp false
set_option maxHeartbeats 4000000
set_option maxRecDepth 100000
set_option linter.unusedVariables false
set_option linter.unusedSimpArgs false
abbrev Grow (w w' : World) : Prop := Below w.heap.size w w'
theorem Grow.refl (w : World) : Grow w w := Below.refl _ _
theorem Grow.trans {a b c : World} (h : Grow a b) (k : Grow b c) : Grow a c := Below.trans h (Below.mono k h.size)
theorem Grow.alloc {a b : World} (h : Grow a b) (o : Obj) : Grow a (b.alloc o) := Below.alloc h h.size o
theorem Grow.drew {a b : World} (h : Grow a b) : Grow a b.drew := Below.drew h
theorem Grow.drewN {a b : World} (h : Grow a b) (q : Nat) : Grow a (b.drewN q) := ⟨h.os, h.tape, h.output, h.size, h.block⟩
structure St (n : Nat) (T : List (Nat × Value)) (a : Act) : Prop where
 size : a.tmps.size = n
 defers : a.defers = []
 get : ∀ t v, T.lookup t = some v → a.tmps.getD t undef = v
def ev (T : List (Nat × Value)) : Operand → Option Value
 | .tmp t => T.lookup t
 | .const v => some v
 | .global g => some (.pointer (some ⟨g, 0, none⟩))
 | .func f => some (.func (.func f) #[] #[])
theorem St.ev {n : Nat} {T : List (Nat × Value)} {a : Act} (h : St n T a) {x : Operand} {v : Value} (hx : ev T x = some v) : a.eval x = v := by
 cases x with
 | tmp t => exact h.get t v hx
 | const u => exact Option.some.inj hx
 | global g => exact Option.some.inj hx
 | func f => exact Option.some.inj hx
theorem St.put {n : Nat} {T : List (Nat × Value)} {a : Act} (h : St n T a) {d : Nat} (hd : d < n) (v : Value) : St n ((d, v) :: T) (a.put (some d) v) := by
 refine ⟨by simp [Act.put, h.size], by simp [Act.put, h.defers], fun t u hu => ?_⟩
 rw [List.lookup_cons] at hu
 have hs : d < a.tmps.size := by rw [h.size]; exact hd
 by_cases ht : t = d
 ·subst ht
  simp at hu
  simp [Act.put, hs, hu]
 ·have : (t == d) = false := by simpa using ht
  simp only [this] at hu
  have hg := h.get t u hu
  simp only [Act.put, Array.getD_eq_getD_getElem?]
  rw [Array.getElem?_setIfInBounds_ne (Ne.symm ht), ← Array.getD_eq_getD_getElem?]
  exact hg
theorem St.cut {n : Nat} {T : List (Nat × Value)} {a : Act} (h : St n T a) (T' : List (Nat × Value)) (hT : ∀ x ∈ T', a.tmps.getD x.1 undef = x.2) : St n T' a :=
 ⟨h.size, h.defers, fun t v hv => by
  have : (t, v) ∈ T' := by
   clear hT
   induction T' with
   | nil => simp at hv
   | cons x l ih =>
    rw [List.lookup_cons] at hv
    by_cases hx : t = x.1
    ·subst hx; simp at hv; subst hv; simp
    ·have : (t == x.1) = false := by simpa using hx
     simp only [this] at hv
     exact List.mem_cons_of_mem _ (ih hv)
  exact hT (t, v) this⟩
theorem St.shadow {n : Nat} {T : List (Nat × Value)} {a : Act} (h : St n T a) {t : Nat} {b c : Bool} (ht : T.lookup t = some (.bool b)) (hb : b = c) : St n ((t, .bool c) :: T) a :=
 ⟨h.size, h.defers, fun u v hv => by
  rw [List.lookup_cons] at hv
  by_cases hu : u = t
  ·subst hu; simp at hv; rw [← hv, ← hb]; exact h.get _ _ ht
  ·have : (u == t) = false := by simpa using hu
   simp only [this] at hv
   exact h.get _ _ hv⟩
theorem St.sub {n : Nat} {T T' : List (Nat × Value)} {a : Act} (h : St n T a) (hT : (T'.map fun x => T.lookup x.1) = T'.map fun x => some x.2) : St n T' a :=
 h.cut T' fun x hx => h.get _ _ (List.map_inj_left.1 hT x hx)
def ext (T : List (Nat × Value)) : Option Nat → Value → List (Nat × Value)
 | some d, v => (d, v) :: T
 | none, _ => T
def fitsD (n : Nat) : Option Nat → Bool
 | some d => decide (d < n)
 | none => true
theorem St.ext {n : Nat} {T : List (Nat × Value)} {a : Act} (h : St n T a) {o : Option Nat} (hd : fitsD n o = true) (v : Value) : St n (ext T o v) (a.put o v) := by
 cases o with
 | none => exact h
 | some d => exact h.put (by simpa [fitsD] using hd) v
def dstOf (ops : Array Oper) (j : Nat) : Option Tmp := (ops[j]?).bind (·.dst)
def Does (P : Program) (ops : Array Oper) (o : Oper) (a : Act) (w : World) (K : Value → World → Prop) : Prop :=
 (Region.wanted o (yielded ops a.tmps) = true ∧ ∀ Q, o.wp P a w (fun a' w' => ∃ v, a' = a.put o.dst v ∧ K v w') Q) ∨ (Region.wanted o (yielded ops a.tmps) = false ∧ K undef w)
section
variable {P : Program} {ops : Array Oper} {o : Oper} {a : Act} {w w' : World} {K : Value → World → Prop} {Q : Exit → Act → World → Prop} {rest : List Oper} {n : Nat} {T : List (Nat × Value)}
theorem wn {f : Nat → Option Bool} (h : o.guard = none) : Region.wanted o f = true := by unfold Region.wanted; rw [h]
theorem wy {j t : Nat} {b : Bool} (h : o.guard = some (j, b)) (hj : dstOf ops j = some t) (hv : a.tmps.getD t undef = .bool b) : Region.wanted o (yielded ops a.tmps) = true := by
 unfold Region.wanted yielded
 rw [h]
 have hj' : (ops[j]?).bind (·.dst) = some t := hj
 simp only [hj', Option.bind_some]
 cases hq : a.tmps[t]? with
 | none => simp [Array.getD_eq_getD_getElem?, hq, undef] at hv
 | some v => simp [Array.getD_eq_getD_getElem?, hq] at hv; subst hv; simp
theorem wno {j t : Nat} {b : Bool} (h : o.guard = some (j, b)) (hj : dstOf ops j = some t) (hv : a.tmps.getD t undef = .bool !b ∨ a.tmps.getD t undef = undef) : Region.wanted o (yielded ops a.tmps) = false := by
 unfold Region.wanted yielded
 rw [h]
 have hj' : (ops[j]?).bind (·.dst) = some t := hj
 simp only [hj', Option.bind_some]
 cases hq : a.tmps[t]? with
 | none => simp
 | some v =>
  simp [Array.getD_eq_getD_getElem?, hq] at hv
  rcases hv with hv | hv
  ·subst hv; cases b <;> simp
  ·subst hv; simp [undef]
theorem does_val {v : Value} (hw : Region.wanted o (yielded ops a.tmps) = true) (hr : (execOp a.eval o).run P w = .ok (.value v) w') (h : K v w') : Does P ops o a w K :=
 .inl ⟨hw, fun Q => by unfold Oper.wp; rw [hr, Oper.upon_value]; exact ⟨v, rfl, h⟩⟩
theorem does_unit (hw : Region.wanted o (yielded ops a.tmps) = true) (hr : (execOp a.eval o).run P w = .ok .skip w') (h : K undef w') : Does P ops o a w K :=
 .inl ⟨hw, fun Q => by unfold Oper.wp; rw [hr, Oper.upon_skip]; exact ⟨undef, rfl, h⟩⟩
theorem dno (hw : Region.wanted o (yielded ops a.tmps) = false) (h : K undef w) : Does P ops o a w K := .inr ⟨hw, h⟩
theorem does_enter {f : FuncId} {args : Array Value} {R : Ending → World → Prop} (hw : Region.wanted o (yielded ops a.tmps) = true) (hr : (execOp a.eval o).run P w = .ok (.enter f args) w) (hc : Calls P f args w R)
  (h : ∀ e w', R e w' → ∃ v, e = .returned v ∧ K v w') : Does P ops o a w K :=
 .inl ⟨hw, fun Q => by
  unfold Oper.wp; rw [hr, Oper.upon_enter]
  refine Calls.mono hc fun e w' he => ?_
  obtain ⟨v, rfl, hk⟩ := h e w' he
  exact ⟨v, rfl, hk⟩⟩
theorem qs (hA : St n T a) (hd : fitsD n o.dst = true) (h : Does P ops o a w fun v w' => ∀ a', St n (ext T o.dst v) a' → wpList P ops Q rest a' w') : wpList P ops Q (o :: rest) a w := by
 refine wpList_step fun K hK => ?_
 rcases h with ⟨hw, h⟩ | ⟨hw, h⟩
 ·rw [if_pos hw]
  refine Oper.wp_mono (fun a' w' h => ?_) (h Q)
  obtain ⟨v, rfl, hk⟩ := h
  exact hK _ _ (hk _ (hA.ext hd v))
 ·rw [if_neg (by rw [hw]; simp)]
  exact hK _ _ (h _ (hA.ext hd undef))
theorem qe_ (h : Q .normal a w) : wpList P ops Q [] a w := h
end
def Blk (w : World) (g : Nat) (cs : Array Value) (t : TypeId) : Prop := w.heap[g]? = some (.cells cs t (0, 0))
theorem Blk.lt {w : World} {g : Nat} {cs : Array Value} {t : TypeId} (h : Blk w g cs t) : g < w.heap.size := (Array.getElem?_eq_some_iff.1 h).1
theorem Blk.grow {w w' : World} {g : Nat} {cs : Array Value} {t : TypeId} (h : Blk w g cs t) (hg : Grow w w') : Blk w' g cs t := by
 unfold Blk; rw [hg.block g h.lt]; exact h
theorem Blk.cell {w : World} {g k : Nat} {cs : Array Value} {t : TypeId} {v : Value} (h : Blk w g cs t) (hv : cs[k]? = some v) : w.cell? ⟨g, k, none⟩ = some v := by
 rw [cell_of_row w g k cs t _ h]; exact hv
theorem Blk.frozen {w : World} {g : Nat} {cs : Array Value} {t : TypeId} (h : Blk w g cs t) (k : Nat) : w.frozen? ⟨g, k, none⟩ = false := by
 unfold Blk at h; simp [World.frozen?, h]
structure Upd (g : Nat) (w w' : World) : Prop where
 os : w'.os = w.os
 tape : w'.tape = w.tape
 output : w'.output = w.output
 size : w'.heap.size = w.heap.size
 block : ∀ k, k ≠ g → w'.heap[k]? = w.heap[k]?
theorem Blk.upd {w w' : World} {g g' : Nat} {cs : Array Value} {t : TypeId} (h : Blk w g cs t) (hu : Upd g' w w') (hne : g ≠ g') : Blk w' g cs t := by
 unfold Blk; rw [hu.block g hne]; exact h
theorem Upd.below {B g : Nat} {a w w' : World} (hu : Upd g w w') (h : Below B a w) (hg : B ≤ g) : Below B a w' :=
 h.trans ⟨hu.os, hu.tape, hu.output, Nat.le_of_eq hu.size.symm, fun k hk => hu.block k (by omega)⟩
theorem blg {B : Nat} {a w w' : World} (h : Below B a w) (hg : Grow w w') (hB : B ≤ w.heap.size) : Below B a w' := h.trans (hg.mono hB)
theorem upd_setCell (w : World) (g k : Nat) (v : Value) : Upd g w (w.setCell ⟨g, k, none⟩ v) :=
 ⟨rfl, rfl, rfl, by simp [World.setCell], fun j hj => Below.heap_setCell _ _ _ _ hj⟩
theorem upd_setRow (w : World) (g : Nat) (cs : Array Value) : Upd g w (w.setRow g cs) :=
 ⟨rfl, rfl, rfl, by simp, fun j hj => setRow_other _ _ _ _ hj⟩
theorem Blk.set {w : World} {g k : Nat} {cs : Array Value} {t : TypeId} (h : Blk w g cs t) (v : Value) : Blk (w.setCell ⟨g, k, none⟩ v) g (cs.setIfInBounds k v) t := by
 rw [setCell_eq_setRow w g k _ _ _ _ h]
 exact setRow_heap w g _ _ _ _ h
section
variable {P : Program} {ops : Array Oper} {a : Act} {w w' : World} {K : Value → World → Prop} {d : Option Tmp} {ty : TypeId} {pos : String} {af : Array Edge} {gd : Option (Nat × Bool)} {v u : Value}
theorem dmv {x : Operand} (hw : Region.wanted { dst := d, op := .move x, type := ty, pos := pos, after := af, guard := gd } (yielded ops a.tmps) = true) (hx : a.eval x = v) (h : K v w) :
  Does P ops { dst := d, op := .move x, type := ty, pos := pos, after := af, guard := gd } a w K := does_val hw (by subst hx; rfl) h
theorem das {x : Operand} (hw : Region.wanted { dst := d, op := .assign x, type := ty, pos := pos, after := af, guard := gd } (yielded ops a.tmps) = true) (hx : a.eval x = v) (h : K v w) :
  Does P ops { dst := d, op := .assign x, type := ty, pos := pos, after := af, guard := gd } a w K := does_val hw (by subst hx; rfl) h
theorem d_pick {c x y : Operand} {b : Bool} (hw : Region.wanted { dst := d, op := .pick c x y, type := ty, pos := pos, after := af, guard := gd } (yielded ops a.tmps) = true) (hc : a.eval c = .bool b) (hx : (if b then a.eval x else a.eval y) = v) (h : K v w) :
  Does P ops { dst := d, op := .pick c x y, type := ty, pos := pos, after := af, guard := gd } a w K :=
 does_val hw (by subst hx; unfold execOp; simp [hc, asBool]) h
theorem d_box {t : TypeId} {x : Operand} (hw : Region.wanted { dst := d, op := .box t x, type := ty, pos := pos, after := af, guard := gd } (yielded ops a.tmps) = true) (hx : a.eval x = v)
  (h : ∀ g w', g = w.heap.size → Grow w w' → Blk w' g v.cells t → K (.pointer (some ⟨g, 0, none⟩)) w') :
  Does P ops { dst := d, op := .box t x, type := ty, pos := pos, after := af, guard := gd } a w K :=
 does_val (w' := w.alloc (.cells v.cells t)) hw (by subst hx; rfl) (h _ _ rfl ((Grow.refl _).alloc _) (heap_alloc_last w _))
theorem dal {t : TypeId} {z : Value} {m : Nat} (hw : Region.wanted { dst := d, op := .alloc t, type := ty, pos := pos, after := af, guard := gd } (yielded ops a.tmps) = true)
  (hi : (P.info? t).map (fun i => (i.zero, i.size)) = some (some z, m)) (h : ∀ g w', g = w.heap.size → Grow w w' → Blk w' g z.cells t → K (.pointer (some ⟨g, 0, none⟩)) w') :
  Does P ops { dst := d, op := .alloc t, type := ty, pos := pos, after := af, guard := gd } a w K :=
 does_val (w' := w.alloc (.cells z.cells t)) hw (by
  have hz := (zero_of_info hi).1 w
  unfold execOp
  simp only [Instr.alloc, newVar, newRow, Sem.run_bind, hz, Result.andThen_ok]
  rfl) (h _ _ rfl ((Grow.refl _).alloc _) (heap_alloc_last w _))
theorem run_fieldAt {s : TypeId} {fs : Array Field} {f : Nat} {fd : Field} (w : World) (g k off : Nat) (hu : P.underlying s = some (.struct fs)) (hf : fs[f]? = some fd) (hs : (P.info? fd.type).map (·.size != 0) = some true) (ho : fd.offset = off) :
  (Instr.fieldAt s (.pointer (some ⟨g, k, none⟩)) f).run P w = .ok (.pointer (some ⟨g, k + off, none⟩)) w := by
 cases hq : P.info? fd.type with
 | none => simp [hq] at hs
 | some i =>
  have hz : i.size ≠ 0 := by simpa [hq] using hs
  simp [Instr.fieldAt, run_underlying hu, hf, Instr.sureAddr, fieldPlace, sizeOf, typeInfo, hq, hz, Addr.add_mid, ho]
def fieldOff (P : Program) (s f : Nat) : Option Nat :=
 match P.underlying s with
 | some (.struct fs) => match fs[f]? with
  | some fd => if (P.info? fd.type).map (·.size != 0) = some true then some fd.offset else none
  | none => none
 | _ => none
theorem run_fieldAt' {s f off : Nat} (w : World) (g k : Nat) (h : fieldOff P s f = some off) : (Instr.fieldAt s (.pointer (some ⟨g, k, none⟩)) f).run P w = .ok (.pointer (some ⟨g, k + off, none⟩)) w := by
 unfold fieldOff at h
 split at h
 ·rename_i fs hu
  split at h
  ·rename_i fd hf
   split at h
   ·rename_i hs
    exact run_fieldAt w g k off hu hf hs (by simpa using h)
   ·cases h
  ·cases h
 ·cases h
theorem dfa {s : TypeId} {x : Operand} {f g k off : Nat} (hw : Region.wanted { dst := d, op := .fieldAddr s x f, type := ty, pos := pos, after := af, guard := gd } (yielded ops a.tmps) = true) (hx : a.eval x = .pointer (some ⟨g, k, none⟩))
  (hf : fieldOff P s f = some off) (h : K (.pointer (some ⟨g, k + off, none⟩)) w) :
  Does P ops { dst := d, op := .fieldAddr s x f, type := ty, pos := pos, after := af, guard := gd } a w K :=
 does_val hw (by unfold execOp; simp only [hx, Sem.run_bind, run_fieldAt' w g k hf, Result.andThen_ok, Sem.run_pure]) h
def oneB (P : Program) (t : TypeId) : Bool :=
 (match P.underlying t with | some (.struct _) => false | some (.array _ _) => false | some _ => true | none => false) && ((P.info? t).map (·.size) == some 1)
theorem agg_no {t : TypeId} (h : oneB P t = true) (w : World) : (isAgg t).run P w = .ok false w := by
 unfold oneB at h
 rw [Bool.and_eq_true] at h
 cases hq : P.underlying t with
 | none => simp [hq] at h
 | some d =>
  unfold isAgg
  rw [Sem.run_bind, run_underlying hq w]
  cases d <;> simp_all
theorem run_load1 {t : TypeId} {g k : Nat} (h1 : oneB P t = true) (hc : w.cell? ⟨g, k, none⟩ = some v) : (Instr.loadAt t (.pointer (some ⟨g, k, none⟩))).run P w = .ok v w := by
 simp [Instr.loadAt, Instr.sureAddr, loadVar, agg_no h1, hc, go_sem]
theorem dld {t : TypeId} {x : Operand} {g k : Nat} (hw : Region.wanted { dst := d, op := .load t x, type := ty, pos := pos, after := af, guard := gd } (yielded ops a.tmps) = true) (hx : a.eval x = .pointer (some ⟨g, k, none⟩)) (h1 : oneB P t = true)
  (hc : w.cell? ⟨g, k, none⟩ = some v) (h : K v w) : Does P ops { dst := d, op := .load t x, type := ty, pos := pos, after := af, guard := gd } a w K :=
 does_val hw (by unfold execOp; simp only [hx, Sem.run_bind, run_load1 h1 hc, Result.andThen_ok, Sem.run_pure]) h
def rowB (P : Program) (t : TypeId) (m : Nat) : Bool :=
 (match P.underlying t with | some (.struct _) => true | some (.array _ _) => true | _ => false) && ((P.info? t).map (·.size) == some m)
theorem row_facts {t : TypeId} {m : Nat} (h : rowB P t m = true) : (∃ dd : TypeDesc, P.underlying t = some dd ∧ dd.isRow = true ∧ (match dd with | .struct _ | .array _ _ => true | _ => false) = true) ∧ (P.info? t).map (·.size) = some m := by
 unfold rowB at h
 rw [Bool.and_eq_true] at h
 refine ⟨?_, by simpa using h.2⟩
 cases hq : P.underlying t with
 | none => simp [hq] at h
 | some dd => refine ⟨dd, rfl, ?_, ?_⟩ <;> (cases dd <;> simp_all [TypeDesc.isRow])
theorem run_loadRow {t t' : TypeId} {g : Nat} {cs : Array Value} (h1 : rowB P t cs.size = true) (hb : Blk w g cs t') : (Instr.loadAt t (.pointer (some ⟨g, 0, none⟩))).run P w = .ok (.agg cs) w := by
 obtain ⟨⟨dd, h2, _, h3⟩, h4⟩ := row_facts h1
 simp only [Instr.loadAt, Instr.sureAddr, Sem.run_bind, Sem.run_pure, Result.andThen_ok, run_loadVar_row w g t' t cs (0, 0) dd hb h2 (by cases dd <;> simp_all) h4]
theorem dlr {t t' : TypeId} {x : Operand} {g : Nat} {cs : Array Value} (hw : Region.wanted { dst := d, op := .load t x, type := ty, pos := pos, after := af, guard := gd } (yielded ops a.tmps) = true) (hx : a.eval x = .pointer (some ⟨g, 0, none⟩)) (h1 : rowB P t cs.size = true)
  (hb : Blk w g cs t') (h : K (.agg cs) w) : Does P ops { dst := d, op := .load t x, type := ty, pos := pos, after := af, guard := gd } a w K :=
 does_val hw (by unfold execOp; simp only [hx, Sem.run_bind, run_loadRow h1 hb, Result.andThen_ok, Sem.run_pure]) h
theorem run_store1 {t t' : TypeId} {g k : Nat} {cs : Array Value} (h1 : oneB P t = true) (hv1 : v.oneCell' = true) (hb : Blk w g cs t') (hk : k < cs.size) : (Instr.storeAt t (.pointer (some ⟨g, k, none⟩)) v).run P w = .ok () (w.setCell ⟨g, k, none⟩ v) := by
 have hc : w.cell? ⟨g, k, none⟩ = some cs[k] := hb.cell (by simp [hk])
 have hf := hb.frozen k
 unfold oneB at h1
 rw [Bool.and_eq_true] at h1
 have hs : (P.info? t).map (·.size) = some 1 := by simpa using h1.2
 cases hq : P.info? t with
 | none => simp [hq] at hs
 | some i =>
  have hi : i.size = 1 := by simpa [hq] using hs
  have hz : (sizeOf t).run P w = .ok 1 w := by simp [sizeOf, typeInfo, hq, hi]
  have hcs : v.cells = #[v] := by cases v <;> simp_all [Value.oneCell', Value.cells]
  have hst : (store ((⟨g, k, none⟩ : Addr).add 0) v).run P w = .ok () (w.setCell ⟨g, k, none⟩ v) := by
   rw [Addr.add_mid, Nat.add_zero, run_store P w _ v _ hv1, hc]
   simp [hf]
  simp only [Instr.storeAt, Instr.sureAddr, storeVar, Sem.run_bind, Sem.run_pure, Result.andThen_ok, hz, hcs, List.size_toArray, List.length_cons, List.length_nil, Nat.zero_add, ne_eq, not_true_eq_false, if_false, storeCells, hst]
theorem dst_ {t t' : TypeId} {x y : Operand} {g k : Nat} {cs : Array Value} (hw : Region.wanted { dst := d, op := .store t x y, type := ty, pos := pos, after := af, guard := gd } (yielded ops a.tmps) = true) (hx : a.eval x = .pointer (some ⟨g, k, none⟩)) (hy : a.eval y = v)
  (h1 : oneB P t = true) (hv1 : v.oneCell' = true) (hb : Blk w g cs t') (hk : k < cs.size) (h : ∀ w', Upd g w w' → Blk w' g (cs.setIfInBounds k v) t' → K undef w') : Does P ops { dst := d, op := .store t x y, type := ty, pos := pos, after := af, guard := gd } a w K :=
 does_unit (w' := w.setCell ⟨g, k, none⟩ v) hw (by unfold execOp; simp only [hx, hy, Sem.run_bind, run_store1 h1 hv1 hb hk, Result.andThen_ok, Sem.run_pure]) (h _ (upd_setCell w g k v) (hb.set v))
theorem dsr {t t' : TypeId} {x y : Operand} {g : Nat} {cs old : Array Value} (hw : Region.wanted { dst := d, op := .store t x y, type := ty, pos := pos, after := af, guard := gd } (yielded ops a.tmps) = true) (hx : a.eval x = .pointer (some ⟨g, 0, none⟩)) (hy : a.eval y = .agg cs)
  (h1 : rowB P t cs.size = true) (hb : Blk w g old t') (hs : old.size = cs.size) (ho : cs.toList.all (·.oneCell') = true) (h : ∀ w', Upd g w w' → Blk w' g cs t' → K undef w') : Does P ops { dst := d, op := .store t x y, type := ty, pos := pos, after := af, guard := gd } a w K :=
 does_unit (w' := w.setRow g cs) hw (by
  unfold execOp
  simp only [hx, hy, Sem.run_bind, Instr.storeAt, Instr.sureAddr, Sem.run_pure, Result.andThen_ok, run_storeVar_row w g t' t old cs hb (row_facts h1).2 hs (by simpa using ho)]) (h _ (upd_setRow w g cs) (setRow_heap w g _ _ _ _ hb))
theorem dnt {t : TypeId} {x : Operand} {b : Bool} (hw : Region.wanted { dst := d, op := .unOp .not t x, type := ty, pos := pos, after := af, guard := gd } (yielded ops a.tmps) = true) (hx : a.eval x = .bool b) (h : K (.bool !b) w) :
  Does P ops { dst := d, op := .unOp .not t x, type := ty, pos := pos, after := af, guard := gd } a w K :=
 does_val hw (by unfold execOp; simp only [hx, Op.unary, Sem.run_bind, Sem.run_pure, Result.andThen_ok]) h
theorem dbn {op : BinOp} {t t2 : TypeId} {x y : Operand} {r : Value} (hw : Region.wanted { dst := d, op := .binOp op t x y t2, type := ty, pos := pos, after := af, guard := gd } (yielded ops a.tmps) = true) (hx : a.eval x = u) (hy : a.eval y = v)
  (hr : (eqGuard op t x y u v).run P w = .ok () w ∧ (binOp op t u v).run P w = .ok r w) (h : K r w) : Does P ops { dst := d, op := .binOp op t x y t2, type := ty, pos := pos, after := af, guard := gd } a w K :=
 does_val hw (by unfold execOp; simp only [hx, hy, Sem.run_bind, hr.1, hr.2, Sem.run_pure, Result.andThen_ok]) h
theorem enters {f : FuncId} (h : ((P.funcs[f]?).map fun fn => (fn.name == "runtime.NumGoroutine", fn.body.isNone)) = some (false, false)) (args : Array Value) (w : World) : (callFunc f args).run P w = .ok (.enter f args) w := by
 cases hf : P.funcs[f]? with
 | none => simp [hf] at h
 | some fn =>
  rw [hf] at h
  simp only [Option.map_some, Option.some.injEq, Prod.mk.injEq] at h
  unfold callFunc
  simp only [Sem.run_bind, run_program, Result.andThen_ok, hf, h.1, h.2, Bool.false_eq_true, if_false, Sem.run_pure]
theorem dcl {f : FuncId} {args : Array Operand} {ats : Array TypeId} {vs : Array Value} {R : Ending → World → Prop} (hw : Region.wanted { dst := d, op := .call { callee := .value (.func f), args := args, argTypes := ats }, type := ty, pos := pos, after := af, guard := gd } (yielded ops a.tmps) = true)
  (hent : ((P.funcs[f]?).map fun fn => (fn.name == "runtime.NumGoroutine", fn.body.isNone)) = some (false, false)) (hx : args.map a.eval = vs) (hc : Calls P f vs w R) (h : ∀ e w', R e w' → ∃ v, e = .returned v ∧ K v w') :
  Does P ops { dst := d, op := .call { callee := .value (.func f), args := args, argTypes := ats }, type := ty, pos := pos, after := af, guard := gd } a w K :=
 does_enter hw (by
  subst hx
  unfold execOp
  simp only [resolve, Act.eval, Sem.run_bind, Deferred.ofValue, Sem.run_pure, Result.andThen_ok, invoke, Array.append_empty, Array.empty_append, enters hent]) hc h
theorem dex {x : Operand} {k : Nat} {vs : Array Value} (hw : Region.wanted { dst := d, op := .extract x k, type := ty, pos := pos, after := af, guard := gd } (yielded ops a.tmps) = true) (hx : a.eval x = .tuple vs) (hk : vs[k]? = some v) (h : K v w) :
  Does P ops { dst := d, op := .extract x k, type := ty, pos := pos, after := af, guard := gd } a w K :=
 does_val hw (by unfold execOp; simp only [hx, Instr.extract, hk, Sem.run_bind, Sem.run_pure, Result.andThen_ok]) h
end
section
variable {P : Program} {t : TypeId} {k : IntKind} (x y : Operand) (a b : Int) (r : Bool) (w : World)
theorem b_eq (h : (a == b) = r) : (eqGuard .eql t x y (.int k a) (.int k b)).run P w = .ok () w ∧ (binOp .eql t (.int k a) (.int k b)).run P w = .ok (.bool r) w := by
 subst h; exact ⟨by simp [eqGuard], by simp [binOp, Op.intCmp]⟩
theorem b_ne (h : (!(a == b)) = r) : (eqGuard .neq t x y (.int k a) (.int k b)).run P w = .ok () w ∧ (binOp .neq t (.int k a) (.int k b)).run P w = .ok (.bool r) w := by
 subst h; exact ⟨by simp [eqGuard], by simp [binOp, Op.intCmp, bne]⟩
theorem b_lt (h : decide (a < b) = r) : (eqGuard .lss t x y (.int k a) (.int k b)).run P w = .ok () w ∧ (binOp .lss t (.int k a) (.int k b)).run P w = .ok (.bool r) w := by
 subst h; exact ⟨by simp [eqGuard], by simp [binOp, Op.intCmp]⟩
theorem b_le (h : decide (a ≤ b) = r) : (eqGuard .leq t x y (.int k a) (.int k b)).run P w = .ok () w ∧ (binOp .leq t (.int k a) (.int k b)).run P w = .ok (.bool r) w := by
 subst h; exact ⟨by simp [eqGuard], by simp [binOp, Op.intCmp]⟩
theorem b_gt (h : decide (a > b) = r) : (eqGuard .gtr t x y (.int k a) (.int k b)).run P w = .ok () w ∧ (binOp .gtr t (.int k a) (.int k b)).run P w = .ok (.bool r) w := by
 subst h; exact ⟨by simp [eqGuard], by simp [binOp, Op.intCmp]⟩
theorem b_ge (h : decide (a ≥ b) = r) : (eqGuard .geq t x y (.int k a) (.int k b)).run P w = .ok () w ∧ (binOp .geq t (.int k a) (.int k b)).run P w = .ok (.bool r) w := by
 subst h; exact ⟨by simp [eqGuard], by simp [binOp, Op.intCmp]⟩
end
section
variable {P : Program} {K : Act → World → Prop} {Q : Exit → Act → World → Prop} {a : Act} {w : World} {id j : Nat} {n : Nat} {T : List (Nat × Value)}
theorem tn_ (h : K a w) : Exit.then K Q .normal a w := h
theorem t_exit (h : Q (.exit j) a w) : Exit.then K Q (.exit j) a w := h
theorem t_ret (h : Q .ret a w) : Exit.then K Q .ret a w := h
theorem i_norm (h : Q .normal a w) : Exit.inBlock id Q .normal a w := h
theorem i_ret (h : Q .ret a w) : Exit.inBlock id Q .ret a w := h
theorem i_here (h : Q .normal a w) : Exit.inBlock id Q (.exit id) a w := by simp only [Exit.inBlock, if_true]; exact h
theorem c_true {c : Operand} {x y : Code} (hA : St n T a) (hc : ev T c = some (.bool true)) (h : x.wp P Q a w) : (Code.cond c x y).wp P Q a w := wp_cond_true (hA.ev hc) h
theorem c_false {c : Operand} {x y : Code} (hA : St n T a) (hc : ev T c = some (.bool false)) (h : y.wp P Q a w) : (Code.cond c x y).wp P Q a w := wp_cond_false (hA.ev hc) h
def argT : List Value → Nat → List (Nat × Value)
 | [], _ => []
 | v :: vs, k => (k, v) :: argT vs (k + 1)
theorem argT_look (t : Nat) (v : Value) : ∀ (vs : List Value) (k : Nat), (argT vs k).lookup t = some v → k ≤ t ∧ vs[t - k]? = some v
 | [], _, h => by simp [argT] at h
 | u :: vs, k, h => by
  unfold argT at h
  rw [List.lookup_cons] at h
  by_cases ht : t = k
  ·subst ht; simp at h; subst h; simp
  ·have : (t == k) = false := by simpa using ht
   simp only [this] at h
   obtain ⟨h1, h2⟩ := argT_look t v vs (k + 1) h
   refine ⟨by omega, ?_⟩
   rw [show t - k = (t - (k + 1)) + 1 by omega]; simpa using h2
theorem enter {f : FuncId} {fn : Func} {c : Code} {args : List Value} {R : Ending → World → Prop} (hf : P.funcs[f]? = some fn) (hb : fn.body = some c) (hn : fn.ntmps = n) (hl : args.length ≤ n)
  (h : ∀ a, St n (argT args 0) a → c.wp P (bodyPost P fn R) a w) : Calls P f args.toArray w R := by
 refine calls_of_wp hf hb (h _ ⟨by simp [hn]; omega, rfl, fun t v hv => ?_⟩)
 obtain ⟨_, h2⟩ := argT_look t v args 0 hv
 have hlt : t < args.length := (List.getElem?_eq_some_iff.1 h2).1
 simp only [Nat.sub_zero] at h2
 simp [Array.getD_eq_getD_getElem?, Array.getElem?_append, hlt] at h2 ⊢
 exact h2
theorem ret1 {fn : Func} {R : Ending → World → Prop} {t : Tmp} {v : Value} (hr : fn.results = #[.tmp t]) (hA : St n T a) (hv : ev T (.tmp t) = some v) (h : R (.returned v) w) : bodyPost P fn R .ret a w :=
 ⟨hA.defers, v, by have := hA.ev hv; simp only [Act.eval] at this; simp [results, hr, ← this], h⟩
theorem retRow {fn : Func} {R : Ending → World → Prop} {p : Tmp} {t t' : TypeId} {g : Nat} {cs : Array Value} (hr : fn.results = #[.cell p t]) (hA : St n T a) (hv : ev T (.tmp p) = some (.pointer (some ⟨g, 0, none⟩))) (hb : Blk w g cs t') (h1 : rowB P t cs.size = true) (h : R (.returned (.agg cs)) w) : bodyPost P fn R .ret a w := by
 obtain ⟨⟨dd, h2, _, h3⟩, h4⟩ := row_facts h1
 exact ⟨hA.defers, _, results_cell_row hr a.tmps w g t' cs (0, 0) dd (hA.ev hv) hb h2 (by cases dd <;> simp_all) h4, h⟩
end
structure Cl (S : World → World → Prop) where
 P : Value → World → Prop
 st : ∀ v w w', S w w' → P v w → P v w'
def cv {S : World → World → Prop} (v : Value) : Cl S := ⟨fun x _ => x = v, fun _ _ _ _ h => h⟩
def cfree {S : World → World → Prop} : Cl S := ⟨fun _ _ => True, fun _ _ _ _ h => h⟩
def valOf (ops : Array Oper) (a : Act) (j : Nat) : Value := match dstOf ops j with | some d => a.tmps.getD d undef | none => undef
def waits (o : Oper) (j : Nat) : Bool := o.after.toList.any fun e => Region.binds .any e && e.on == j
def puts : List Oper → (Nat → Value) → Nat → List (Nat × Value)
 | [], _, _ => []
 | o :: os, f, k => ext (puts os f (k + 1)) o.dst (f k)
def fitB (ops : Array Oper) (n : Nat) (T : List (Nat × Value)) : Bool :=
 ((List.range ops.size).all fun i => match ops[i]? with
  | some o => (match o.dst with
   | some d => decide (d < n) && ((List.range ops.size).all fun j => i == j || dstOf ops j != some d) && T.all fun x => x.1 != d
   | none => true) && o.after.all fun e => !Region.binds .any e || decide (e.on < i)
  | none => false)
theorem fit_spec {ops : Array Oper} {n i : Nat} {T : List (Nat × Value)} {o : Oper} (h : fitB ops n T = true) (hi : ops[i]? = some o) :
  (∀ d, o.dst = some d → d < n ∧ (∀ j, j < ops.size → dstOf ops j = some d → j = i) ∧ ∀ x ∈ T, x.1 ≠ d) ∧ ∀ e ∈ o.after, Region.binds .any e = true → e.on < i := by
 have hlt : i < ops.size := (Array.getElem?_eq_some_iff.1 hi).1
 unfold fitB at h
 rw [List.all_eq_true] at h
 have h1 := h i (by simpa using hlt)
 simp only [hi] at h1
 rw [Bool.and_eq_true] at h1
 obtain ⟨h2, h3⟩ := h1
 refine ⟨fun d hd => ?_, fun e he hb => ?_⟩
 ·simp only [hd, Bool.and_eq_true, decide_eq_true_eq, List.all_eq_true] at h2
  refine ⟨h2.1.1, fun j hj hjd => ?_, fun x hx => by simpa using h2.2 x hx⟩
  have := h2.1.2 j (by simpa using hj)
  simp only [hjd, Bool.or_eq_true, beq_iff_eq, bne_self_eq_false, Bool.false_eq_true, or_false] at this
  exact this.symm
 ·have := (Array.all_eq_true_iff_forall_mem.1 h3) e he
  simpa [hb] using this
theorem lookup_mem {T : List (Nat × Value)} {t : Nat} {v : Value} (h : T.lookup t = some v) : (t, v) ∈ T := by
 induction T with
 | nil => simp at h
 | cons x l ih =>
  rw [List.lookup_cons] at h
  by_cases hx : t = x.1
  ·subst hx; simp at h; subst h; simp
  ·have : (t == x.1) = false := by simpa using hx
   simp only [this] at h
   exact List.mem_cons_of_mem _ (ih h)
def seenV (o : Oper) (v : Value) : Value := match o.dst with | some _ => v | none => undef
def Obl (P : Program) (ops : Array Oper) (S : World → World → Prop) (n : Nat) (T : List (Nat × Value)) (tab : Nat → Cl S) (w : World) (i : Nat) (o : Oper) : Prop :=
 ∀ a' w', S w w' → St n T a' → (∀ j, waits o j = true → (tab j).P (valOf ops a' j) w') → Does P ops o a' w' fun v w'' => S w' w'' ∧ (tab i).P (seenV o v) w''
theorem puts_look {t : Nat} {v : Value} (f : Nat → Value) (T : List (Nat × Value)) : ∀ (l : List Oper) (k : Nat), (puts l f k ++ T).lookup t = some v →
  (∃ i o, l[i]? = some o ∧ o.dst = some t ∧ v = f (k + i)) ∨ T.lookup t = some v
 | [], _, h => .inr (by simpa [puts] using h)
 | o :: os, k, h => by
  unfold puts at h
  cases hd : o.dst with
  | none =>
   rw [hd] at h
   rcases puts_look f T os (k + 1) h with ⟨i, o', h1, h2, h3⟩ | h'
   ·exact .inl ⟨i + 1, o', by simpa using h1, h2, by rw [h3]; congr 1; omega⟩
   ·exact .inr h'
  | some d =>
   rw [hd] at h
   simp only [ext, List.cons_append] at h
   rw [List.lookup_cons] at h
   by_cases ht : t = d
   ·subst ht
    simp at h
    exact .inl ⟨0, o, by simp, hd, by simp [h]⟩
   ·have : (t == d) = false := by simpa using ht
    simp only [this] at h
    rcases puts_look f T os (k + 1) h with ⟨i, o', h1, h2, h3⟩ | h'
    ·exact .inl ⟨i + 1, o', by simpa using h1, h2, by rw [h3]; congr 1; omega⟩
    ·exact .inr h'
theorem set_ne {l : Array Bool} {i k : Nat} (b : Bool) (h : i ≠ k) : (l.setIfInBounds i true).getD k b = l.getD k b := by
 simp [Array.getD_eq_getD_getElem?, Array.getElem?_setIfInBounds_ne h]
section
variable {P : Program} {l : List Oper} {Q : Exit → Act → World → Prop} {S : World → World → Prop} {n : Nat} {T : List (Nat × Value)} {w : World}
theorem drawn_any (tab : Nat → Cl S) (htrans : ∀ a b c, S a b → S b c → S a c) (hfit : fitB l.toArray n T = true)
  (hop : ∀ i o, l[i]? = some o → Obl P l.toArray S n T tab w i o)
  (hend : ∀ f a' w', S w w' → (∀ i, i < l.length → (tab i).P (f i) w') → St n (puts l f 0 ++ T) a' → Q .normal a' w') :
  ∀ (fuel : Nat) (listed : Array Bool) (a' : Act) (w' : World), listed.size = l.length → ((List.range l.length).filter fun i => !listed.getD i true).length ≤ fuel → S w w' → St n T a' →
   (∀ i, i < l.length → listed.getD i false = true → (tab i).P (valOf l.toArray a' i) w') → wpAny P .any l.toArray Q fuel listed a' w' := by
 have last : ∀ (listed : Array Bool) (a' : Act) (w' : World), listed.size = l.length → Region.ready .any l.toArray listed = [] → S w w' → St n T a' →
   (∀ i, i < l.length → listed.getD i false = true → (tab i).P (valOf l.toArray a' i) w') → Q .normal a' w' := by
  intro listed a' w' hls hr hS hT hin
  have all : ∀ i, i < l.length → listed.getD i false = true := by
   intro i
   induction i using Nat.strongRecOn with
   | _ i ih =>
    intro hi
    cases hl : listed.getD i false with
    | true => rfl
    | false =>
     exfalso
     have : i ∈ Region.ready .any l.toArray listed := by
      rw [mem_ready]
      have hli : i < listed.size := by omega
      have hoi : l.toArray[i]? = some l[i] := by simp [hi]
      refine ⟨by simpa [hli] using hl, l[i], hoi, fun e he hb => ?_⟩
      have hlt := (fit_spec hfit hoi).2 e he hb
      exact ih e.on hlt (by omega)
     rw [hr] at this; cases this
  refine hend (valOf l.toArray a') a' w' hS (fun i hi => hin i hi (all i hi)) ⟨hT.size, hT.defers, fun t v hv => ?_⟩
  rcases puts_look (valOf l.toArray a') T l 0 hv with ⟨i, o, h1, h2, h3⟩ | h
  ·have hd : dstOf l.toArray i = some t := by simp [dstOf, h1, h2]
   rw [h3, Nat.zero_add]; unfold valOf; rw [hd]
  ·exact hT.get t v h
 intro fuel
 induction fuel with
 | zero =>
  intro listed a' w' hls hf hS hT hin
  have hr : Region.ready .any l.toArray listed = [] := by
   unfold Region.ready
   rw [List.filter_eq_nil_iff]
   intro i hi
   have hnil : ((List.range l.length).filter fun i => !listed.getD i true) = [] := List.eq_nil_of_length_eq_zero (by omega)
   rw [List.filter_eq_nil_iff] at hnil
   have := hnil i (by simpa using hi)
   simp only [Bool.not_eq_true, Bool.not_eq_false'] at this
   simp [this]
  exact ⟨hr, last listed a' w' hls hr hS hT hin⟩
 | succ fuel ih =>
  intro listed a' w' hls hf hS hT hin
  refine ⟨fun hr => last listed a' w' hls hr hS hT hin, fun i hi => ?_⟩
  obtain ⟨hun, o, hoi, hall⟩ := mem_ready.1 hi
  have hil : i < l.length := by have := (Array.getElem?_eq_some_iff.1 hoi).1; simpa using this
  have hoi' : l[i]? = some o := by simpa using hoi
  obtain ⟨hfd, hfe⟩ := fit_spec hfit hoi
  have hk : ∀ j, waits o j = true → (tab j).P (valOf l.toArray a' j) w' := fun j hj => by
   unfold waits at hj
   rw [List.any_eq_true] at hj
   obtain ⟨e, he', hb⟩ := hj
   have he : e ∈ o.after := by simpa using he'
   simp only [Bool.and_eq_true, beq_iff_eq] at hb
   have := hfe e he hb.1
   rw [← hb.2]
   exact hin e.on (by omega) (hall e he hb.1)
  have go : ∀ (v : Value) (w2 : World), S w' w2 → (tab i).P (seenV o v) w2 → wpAny P .any l.toArray Q fuel (listed.setIfInBounds i true) (a'.put o.dst v) w2 := by
   intro v w2 hS2 hv
   have hT2 : St n T (a'.put o.dst v) := by
    cases hd : o.dst with
    | none => exact hT
    | some d =>
     obtain ⟨hdn, _, hTd⟩ := hfd d hd
     have hp := hT.put hdn v
     refine ⟨hp.size, hp.defers, fun t u hu => hp.get t u ?_⟩
     have hne : t ≠ d := hTd (t, u) (lookup_mem hu)
     rw [List.lookup_cons]
     have : (t == d) = false := by simpa using hne
     simp only [this]; exact hu
   refine ih _ _ _ (by simpa using hls) ?_ (htrans _ _ _ hS hS2) hT2 (fun j hj hlj => ?_)
   ·have hlt : i < listed.size := by omega
    have : ((List.range l.length).filter fun k => !(listed.setIfInBounds i true).getD k true).length < ((List.range l.length).filter fun k => !listed.getD k true).length := by
     have hsub : ((List.range l.length).filter fun k => !(listed.setIfInBounds i true).getD k true) = ((List.range l.length).filter fun k => !listed.getD k true).filter (fun k => k != i) := by
      rw [List.filter_filter]
      apply List.filter_congr
      intro k _
      by_cases hk : k = i
      ·subst hk; simp [hlt]
      ·rw [set_ne true (Ne.symm hk)]; simp [hk]
     rw [hsub]
     refine List.length_filter_lt_length_iff_exists.2 ⟨i, ?_, by simp⟩
     simp only [List.mem_filter, List.mem_range]
     exact ⟨hil, by rw [hun]; rfl⟩
    omega
   ·by_cases hji : j = i
    ·subst hji
     have : valOf l.toArray (a'.put o.dst v) j = seenV o v := by
      cases hd : o.dst with
      | none =>
       have hdi : dstOf l.toArray j = none := by simp [dstOf, hoi', hd]
       unfold valOf seenV; rw [hdi, hd]
      | some d =>
       have hdi : dstOf l.toArray j = some d := by simp [dstOf, hoi', hd]
       have hdl : d < a'.tmps.size := by rw [hT.size]; exact (hfd d hd).1
       unfold valOf seenV; rw [hdi, hd]; simp [Act.put, hdl]
     rw [this]; exact hv
    ·have h1 := hin j hj (by rwa [set_ne false (Ne.symm hji)] at hlj)
     have h2 : valOf l.toArray (a'.put o.dst v) j = valOf l.toArray a' j := by
      unfold valOf
      cases hdj : dstOf l.toArray j with
      | none => rfl
      | some d' =>
       cases hd : o.dst with
       | none => rfl
       | some d =>
        have hne : d ≠ d' := fun e => by subst e; exact hji ((hfd d hd).2.1 j (by simpa using hj) hdj)
        simp [Act.put, Array.getD_eq_getD_getElem?, Array.getElem?_setIfInBounds_ne hne]
     rw [h2]; exact (tab j).st _ _ _ hS2 h1
  unfold wpOp
  rcases hop i o hoi' a' w' hS hT hk with ⟨hw, h⟩ | ⟨hw, h⟩
  ·simp only [hoi, hw, if_true]
   refine .inl (Oper.wp_mono (fun a2 w2 h => ?_) (h Q))
   obtain ⟨v, rfl, hS2, hv⟩ := h
   exact go v w2 hS2 hv
  ·simp only [hoi, hw, Bool.false_eq_true, if_false]
   exact go undef w' h.1 h.2
def Eachs (P : Program) (ops : Array Oper) (S : World → World → Prop) (n : Nat) (T : List (Nat × Value)) (tab : Nat → Cl S) (w : World) (k : Nat) (l : List Oper) : Prop := ∀ i o, l[i]? = some o → Obl P ops S n T tab w (k + i) o
theorem each_nil {ops : Array Oper} {tab : Nat → Cl S} {k : Nat} : Eachs P ops S n T tab w k [] := fun i o h => by simp at h
theorem ec_ {ops : Array Oper} {tab : Nat → Cl S} {k : Nat} {o : Oper} {os : List Oper} (h : Obl P ops S n T tab w k o) (ht : Eachs P ops S n T tab w (k + 1) os) : Eachs P ops S n T tab w k (o :: os) := fun i p hp => by
 cases i with
 | zero => simp at hp; subst hp; exact h
 | succ i => have := ht i p (by simpa using hp); rwa [show k + 1 + i = k + (i + 1) by omega] at this
theorem drawn {id : Nat} {a : Act} (tab : Nat → Cl S) (hm : P.follows .mixedOrders = true) (hrefl : ∀ w, S w w) (htrans : ∀ a b c, S a b → S b c → S a c) (hdrew : ∀ w : World, S w w.drew) (hA : St n T a) (hfit : fitB l.toArray n T = true)
  (hop : Eachs P l.toArray S n T tab w.drew 0 l)
  (hend : ∀ f a' w', S w w' → (∀ i, i < l.length → (tab i).P (f i) w') → St n (puts l f 0 ++ T) a' → Q .normal a' w') : (Code.region id l.toArray true).wp P Q a w := by
 refine wp_region_any hm ?_
 refine drawn_any (w := w.drew) tab htrans hfit (fun i o h => by have := hop i o h; rwa [Nat.zero_add] at this) (fun f a' w' hS => hend f a' w' (htrans _ _ _ (hdrew w) hS)) _ _ _ _ (by simp) ?_ (hrefl _) hA (fun i _ hi => ?_)
 ·refine Nat.le_trans (List.length_filter_le _ _) (by simp)
 ·exfalso
  simp [Array.getD_eq_getD_getElem?, Array.getElem?_replicate] at hi; split at hi <;> simp at hi
end
structure SM (M : Nat → Option (Array Value)) (w w' : World) : Prop where
 os : w'.os = w.os
 tape : w'.tape = w.tape
 output : w'.output = w.output
 size : w.heap.size ≤ w'.heap.size
 block : ∀ k, k < w.heap.size → M k = none → w'.heap[k]? = w.heap[k]?
 turns : ∀ k fin cs t, M k = some fin → Blk w k cs t → ∃ cs', Blk w' k cs' t ∧ cs'.size = cs.size ∧ ∀ j : Nat, cs'[j]? = cs[j]? ∨ cs'[j]? = fin[j]?
theorem SM.refl {M : Nat → Option (Array Value)} (w : World) : SM M w w := ⟨rfl, rfl, rfl, Nat.le_refl _, fun _ _ _ => rfl, fun _ _ cs _ _ h => ⟨cs, h, rfl, fun _ => .inl rfl⟩⟩
theorem SM.trans {M : Nat → Option (Array Value)} (a b c : World) (h : SM M a b) (k : SM M b c) : SM M a c :=
 ⟨k.os.trans h.os, k.tape.trans h.tape, k.output.trans h.output, Nat.le_trans h.size k.size, fun i hi hm => (k.block i (Nat.lt_of_lt_of_le hi h.size) hm).trans (h.block i hi hm), fun i fin cs t hm hb => by
  obtain ⟨cs1, h1, h2, h3⟩ := h.turns i fin cs t hm hb
  obtain ⟨cs2, k1, k2, k3⟩ := k.turns i fin cs1 t hm h1
  refine ⟨cs2, k1, k2.trans h2, fun j => ?_⟩
  rcases k3 j with e | e
  ·rcases h3 j with e' | e'
   ·exact .inl (e.trans e')
   ·exact .inr (e.trans e')
  ·exact .inr e⟩
theorem SM.grow {M : Nat → Option (Array Value)} {w w' : World} (h : Grow w w') : SM M w w' :=
 ⟨h.os, h.tape, h.output, h.size, fun k hk _ => h.block k hk, fun _ _ cs _ _ hb => ⟨cs, hb.grow h, rfl, fun _ => .inl rfl⟩⟩
theorem SM.drew {M : Nat → Option (Array Value)} (w : World) : SM M w w.drew := SM.grow (Grow.refl w).drew
theorem SM.grown {w w' : World} (h : SM (fun _ => none) w w') : Grow w w' := ⟨h.os, h.tape, h.output, h.size, fun k hk => h.block k hk rfl⟩
theorem SM.below {M : Nat → Option (Array Value)} {B : Nat} {a w w' : World} (h : SM M w w') (hb : Below B a w) (hB : B ≤ w.heap.size) (hM : ∀ k, k < B → M k = none) : Below B a w' :=
 hb.trans ⟨h.os, h.tape, h.output, h.size, fun k hk => h.block k (by omega) (hM k hk)⟩
theorem Blk.sm {M : Nat → Option (Array Value)} {w w' : World} {g : Nat} {cs : Array Value} {t : TypeId} (hb : Blk w g cs t) (h : SM M w w') (hM : M g = none) : Blk w' g cs t := by
 unfold Blk; rw [h.block g hb.lt hM]; exact hb
theorem SM.store {M : Nat → Option (Array Value)} {w w' : World} {g k : Nat} {fin cs : Array Value} {t : TypeId} {v : Value} (hM : M g = some fin) (hu : Upd g w w') (hb : Blk w g cs t) (hb' : Blk w' g (cs.setIfInBounds k v) t) (hf : fin[k]? = some v) (hk : k < cs.size) : SM M w w' :=
 ⟨hu.os, hu.tape, hu.output, Nat.le_of_eq hu.size.symm, fun i _ hm => hu.block i (fun e => by subst e; rw [hM] at hm; cases hm), fun i fin' cs' t' hm hbi => by
  by_cases hi : i = g
  ·subst hi
   rw [hM] at hm; cases hm
   unfold Blk at hb hbi
   rw [hb] at hbi
   injection hbi with hbi; injection hbi with h1 h2
   subst h1; subst h2
   refine ⟨_, hb', by simp, fun j => ?_⟩
   by_cases hj : k = j
   ·subst hj; right; simp [hk, hf]
   ·left; rw [Array.getElem?_setIfInBounds_ne hj]
  ·exact ⟨cs', hbi.upd hu hi, rfl, fun _ => .inl rfl⟩⟩
def cm (M : Nat → Option (Array Value)) (g k : Nat) (v : Value) (h : ∃ fin, M g = some fin ∧ fin[k]? = some v) : Cl (SM M) :=
 ⟨fun _ w => ∃ cs t, Blk w g cs t ∧ cs[k]? = some v, fun _ w w' hS ⟨cs, t, hb, hc⟩ => by
  obtain ⟨fin, hM, hf⟩ := h
  obtain ⟨cs', h1, _, h3⟩ := hS.turns g fin cs t hM hb
  refine ⟨cs', t, h1, ?_⟩
  rcases h3 k with e | e
  ·rw [e]; exact hc
  ·rw [e]; exact hf⟩
def setAll (cs : Array Value) : List (Nat × Value) → Array Value
 | [] => cs
 | x :: xs => setAll (cs.setIfInBounds x.1 x.2) xs
theorem setAll_out (j : Nat) : ∀ (xs : List (Nat × Value)) (cs : Array Value), (∀ x ∈ xs, x.1 ≠ j) → (setAll cs xs)[j]? = cs[j]?
 | [], _, _ => rfl
 | x :: xs, cs, h => by rw [setAll, setAll_out j xs _ (fun y hy => h y (by simp [hy])), Array.getElem?_setIfInBounds_ne (h x (by simp))]
theorem SM.fin {M : Nat → Option (Array Value)} {w w' : World} {g : Nat} {cs : Array Value} {t : TypeId} (h : SM M w w') (xs : List (Nat × Value)) (hM : M g = some (setAll cs xs)) (hb : Blk w g cs t)
  (hx : ∀ x ∈ xs, ∃ cs' t', Blk w' g cs' t' ∧ cs'[x.1]? = (setAll cs xs)[x.1]?) : Blk w' g (setAll cs xs) t := by
 obtain ⟨cs', h1, h2, h3⟩ := h.turns g _ cs t hM hb
 have : cs' = setAll cs xs := by
  apply Array.ext_getElem?
  intro j
  by_cases hj : ∃ x ∈ xs, x.1 = j
  ·obtain ⟨x, hxm, rfl⟩ := hj
   obtain ⟨cs'', t'', k1, k2⟩ := hx x hxm
   unfold Blk at h1 k1
   rw [h1] at k1
   injection k1 with k1; injection k1 with e1 e2
   subst e1; exact k2
  ·rcases h3 j with e | e
   ·rw [e, setAll_out j xs cs (fun x hx e => hj ⟨x, hx, e⟩)]
   ·exact e
 subst this; exact h1
theorem SM.finL {M : Nat → Option (Array Value)} {w w' : World} {g : Nat} {cs fin : Array Value} {t : TypeId} (h : SM M w w') (xs : List (Nat × Value)) (hM : M g = some fin) (hfin : setAll cs xs = fin) (hb : Blk w g cs t)
  (hx : ∀ x ∈ xs, ∃ cs' t', Blk w' g cs' t' ∧ cs'[x.1]? = fin[x.1]?) : Blk w' g fin t := by
 subst hfin; exact h.fin xs hM hb hx
def tabL {S : World → World → Prop} (L : List (Cl S)) (i : Nat) : Cl S := (L[i]?).getD cfree
theorem fn_ {R : Nat × Value → Prop} : ∀ x ∈ ([] : List (Nat × Value)), R x := fun _ h => by cases h
theorem fc {R : Nat × Value → Prop} {y : Nat × Value} {l : List (Nat × Value)} (h : R y) (ht : ∀ x ∈ l, R x) : ∀ x ∈ y :: l, R x := List.forall_mem_cons.2 ⟨h, ht⟩
section
variable {P : Program} {ops : Array Oper} {a : Act} {w w0 : World} {K : Value → World → Prop} {d : Option Tmp} {ty : TypeId} {pos : String} {af : Array Edge} {gd : Option (Nat × Bool)} {v : Value} {M : Nat → Option (Array Value)}
theorem d_storeM {t t' : TypeId} {x y : Operand} {g k : Nat} {fin cs : Array Value} (hw : Region.wanted { dst := d, op := .store t x y, type := ty, pos := pos, after := af, guard := gd } (yielded ops a.tmps) = true) (hx : a.eval x = .pointer (some ⟨g, k, none⟩)) (hy : a.eval y = v)
  (h1 : oneB P t = true) (ho : v.oneCell' = true) (hS : SM M w0 w) (hM : M g = some fin) (hb : Blk w0 g cs t') (hk : k < cs.size) (hf : fin[k]? = some v) (hK : ∀ w', SM M w w' ∧ (∃ cs t, Blk w' g cs t ∧ cs[k]? = some v) → K undef w') :
  Does P ops { dst := d, op := .store t x y, type := ty, pos := pos, after := af, guard := gd } a w K := by
 obtain ⟨cs', hb', hs', _⟩ := hS.turns g fin cs t' hM hb
 have hk' : k < cs'.size := by omega
 exact dst_ hw hx hy h1 ho hb' hk' fun w' hu hb2 => hK w' ⟨SM.store hM hu hb' hb2 hf hk', _, _, hb2, by simp [hk']⟩
def placesOf (P : Program) (t : TypeId) : Option (List (Nat × Nat)) :=
 match P.underlying t with
 | some (.struct fs) => fs.toList.mapM fun f => (P.info? f.type).map fun i => (f.offset, i.size)
 | _ => none
theorem run_places {P : Program} (w : World) : ∀ (fs : List Field) (ps : List (Nat × Nat)), fs.mapM (fun f => (P.info? f.type).map fun i => (f.offset, i.size)) = some ps → (fs.mapM (fun f => do pure (f.offset, ← sizeOf f.type) : Field → Sem (Nat × Nat))).run P w = .ok ps w
 | [], ps, h => by simp at h; subst h; simp
 | f :: fs, ps, h => by
  rw [List.mapM_cons] at h
  cases hi : P.info? f.type with
  | none => simp [hi] at h
  | some i =>
   cases hr : fs.mapM (fun f => (P.info? f.type).map fun i => (f.offset, i.size)) with
   | none => simp [hi, hr] at h
   | some qs =>
    simp [hi, hr] at h
    subst h
    have ih := run_places w fs qs hr
    have hz : (sizeOf f.type).run P w = .ok i.size w := by simp [sizeOf, typeInfo, hi]
    rw [List.mapM_cons]
    simp only [Sem.run_bind, hz, Result.andThen_ok, Sem.run_pure, ih]
theorem dbd {t : TypeId} {parts : Array (Nat × Operand)} {vs : List (Nat × Value)} {z : Value} {m : Nat} {ps : List (Nat × Nat)} {cs : Array Value} (hw : Region.wanted { dst := d, op := .build t parts, type := ty, pos := pos, after := af, guard := gd } (yielded ops a.tmps) = true)
  (hx : (parts.map fun x => (x.1, a.eval x.2)).toList = vs) (hi : (P.info? t).map (fun i => (i.zero, i.size)) = some (some z, m)) (hp : placesOf P t = some ps) (hf : Instr.fill (fun i => ps[i]?) z.cells vs = some cs) (h : K (.agg cs) w) :
  Does P ops { dst := d, op := .build t parts, type := ty, pos := pos, after := af, guard := gd } a w K :=
 does_val hw (by
  have hz := (zero_of_info hi).1 w
  unfold placesOf at hp
  split at hp
  ·rename_i fs hu
   have hpl := run_places (P := P) w fs.toList ps hp
   have hpl' : (fs.mapM (fun f => do pure (f.offset, ← sizeOf f.type) : Field → Sem (Nat × Nat))).run P w = .ok ps.toArray w := by
    rw [← Array.toArray_toList (xs := fs), List.mapM_toArray]
    simp only [Sem.run_map, hpl, Result.andThen_ok]
   have hf' : Instr.fill (fun i => ps.toArray[i]?) z.cells (parts.map fun x => (x.1, a.eval x.2)).toList = some cs := by rw [hx]; simpa using hf
   unfold execOp
   simp only [Sem.run_bind, Instr.build, hz, Result.andThen_ok, run_underlying hu, hpl', hf', Sem.run_pure]
  ·cases hp) h
theorem map0 {ρ : Operand → Value} : (#[] : Array Operand).map ρ = #[] := by simp
theorem map1 {ρ : Operand → Value} {x0 : Operand} {v0 : Value} (h0 : ρ x0 = v0) : #[x0].map ρ = #[v0] := by simp [h0]
theorem map2 {ρ : Operand → Value} {x0 x1 : Operand} {v0 v1 : Value} (h0 : ρ x0 = v0) (h1 : ρ x1 = v1) : #[x0, x1].map ρ = #[v0, v1] := by simp [h0, h1]
theorem map3 {ρ : Operand → Value} {x0 x1 x2 : Operand} {v0 v1 v2 : Value} (h0 : ρ x0 = v0) (h1 : ρ x1 = v1) (h2 : ρ x2 = v2) : #[x0, x1, x2].map ρ = #[v0, v1, v2] := by simp [h0, h1, h2]
theorem map4 {ρ : Operand → Value} {x0 x1 x2 x3 : Operand} {v0 v1 v2 v3 : Value} (h0 : ρ x0 = v0) (h1 : ρ x1 = v1) (h2 : ρ x2 = v2) (h3 : ρ x3 = v3) : #[x0, x1, x2, x3].map ρ = #[v0, v1, v2, v3] := by simp [h0, h1, h2, h3]
theorem bp_of {ρ : Operand → Value} {l : List (Nat × Operand)} {vs : List (Nat × Value)} (h : l.map (fun x => (x.1, ρ x.2)) = vs) : (l.toArray.map fun x => (x.1, ρ x.2)).toList = vs := by simp [h]
theorem bq_nil {ρ : Operand → Value} : ([] : List (Nat × Operand)).map (fun x => (x.1, ρ x.2)) = [] := rfl
theorem bq_cons {ρ : Operand → Value} {i : Nat} {x : Operand} {v : Value} {l : List (Nat × Operand)} {vs : List (Nat × Value)} (h : ρ x = v) (ht : l.map (fun x => (x.1, ρ x.2)) = vs) : ((i, x) :: l).map (fun x => (x.1, ρ x.2)) = (i, v) :: vs := by simp [h, ht]
end
def shp : Bool → Option Value → Option Value → Option Bool
 | false, some (.int k a), some (.int k' b) => if k = k' then some (a == b) else none
 | true, some (.bool a), some (.bool b) => some (a == b)
 | _, _, _ => none
def flatL (P : Program) : List Field → Option (List (Nat × Bool))
 | [] => some []
 | f :: fs => if f.name = "_" then none else match P.underlying f.type with
  | some .bool => (flatL P fs).map ((f.offset, true) :: ·)
  | some (.int _) => (flatL P fs).map ((f.offset, false) :: ·)
  | _ => none
def shps (xs ys : Array Value) : List (Nat × Bool) → Option (List Bool)
 | [] => some []
 | x :: l => match shp x.2 xs[x.1]? ys[x.1]?, shps xs ys l with
  | some b, some bs => some (b :: bs)
  | _, _ => none
section
variable {P : Program}
theorem part_one {t : TypeId} {cs : Array Value} {o : Nat} {v : Value} (w : World) (h : (isAgg t).run P w = .ok false w) (hv : cs[o]? = some v) : (part t cs o).run P w = .ok v w := by
 simp [part, h, hv]
theorem eqFields_flat (d : Nat) (w : World) (xs ys : Array Value) : ∀ (fs : List Field) (offs : List (Nat × Bool)) (bs : List Bool), flatL P fs = some offs → shps xs ys offs = some bs →
  (Op.eqFields (d + 1) xs ys fs).run P w = .ok (bs.all id) w
 | [], offs, bs, hf, hb => by simp [flatL] at hf; subst hf; simp [shps] at hb; subst hb; simp [Op.eqFields]
 | f :: fs, offs, bs, hf, hb => by
  unfold flatL at hf
  split at hf
  ·cases hf
  rename_i hname
  cases hu : P.underlying f.type with
  | none => simp [hu] at hf
  | some dd =>
   have key : ∀ (isb : Bool) (l : List (Nat × Bool)), flatL P fs = some l → offs = (f.offset, isb) :: l → (isAgg f.type).run P w = .ok false w →
     (∀ a b r, shp isb (some a) (some b) = some r → (Op.equalIn (d + 1) f.type a b).run P w = .ok r w) → (Op.eqFields (d + 1) xs ys (f :: fs)).run P w = .ok (bs.all id) w := by
    intro isb l hl ho hagg heq
    subst ho
    unfold shps at hb
    simp only at hb
    cases hs : shp isb xs[f.offset]? ys[f.offset]? with
    | none => simp [hs] at hb
    | some r =>
     cases hs2 : shps xs ys l with
     | none => simp [hs, hs2] at hb
     | some rs =>
      simp [hs, hs2] at hb
      subst hb
      have ih := eqFields_flat d w xs ys fs l rs hl hs2
      cases hx : xs[f.offset]? with
      | none => simp [hx, shp] at hs
      | some a =>
       cases hy : ys[f.offset]? with
       | none => rw [hx, hy] at hs; cases a <;> cases isb <;> simp [shp] at hs
       | some b =>
        rw [hx, hy] at hs
        unfold Op.eqFields
        simp only [ne_eq, hname, not_false_eq_true, if_true, Sem.run_bind, part_one w hagg hx, part_one w hagg hy, Result.andThen_ok, heq a b r hs]
        cases r
        ·simp
        ·simp [ih]
   cases dd with
   | bool =>
    simp only [hu] at hf
    cases hl : flatL P fs with
    | none => simp [hl] at hf
    | some l =>
     simp [hl] at hf
     refine key true l hl hf.symm (by simp [isAgg, run_underlying hu]) fun a b r hr => ?_
     cases a <;> cases b <;> simp [shp] at hr
     subst hr
     exact run_equalIn_bool w d f.type _ _ hu
   | int k =>
    simp only [hu] at hf
    cases hl : flatL P fs with
    | none => simp [hl] at hf
    | some l =>
     simp [hl] at hf
     refine key false l hl hf.symm (by simp [isAgg, run_underlying hu]) fun a b r hr => ?_
     cases a <;> cases b <;> simp [shp] at hr
     obtain ⟨rfl, rfl⟩ := hr
     exact run_equalIn_int w d f.type _ _ _ _ hu
   | _ => simp [hu] at hf
def flatT (P : Program) (t : TypeId) : Option (List (Nat × Bool)) :=
 match P.underlying t with
 | some (.struct fs) => if P.stoodInHeld t || P.eqGuardType P.depth t then none else flatL P fs.toList
 | _ => none
theorem eq_flat {t : TypeId} {offs : List (Nat × Bool)} {xs ys : Array Value} {bs : List Bool} (w : World) (x y : Operand) (h : flatT P t = some offs) (hb : shps xs ys offs = some bs) :
  ((eqGuard .eql t x y (.agg xs) (.agg ys)).run P w = .ok () w ∧ (binOp .eql t (.agg xs) (.agg ys)).run P w = .ok (.bool (bs.all id)) w) ∧
  ((eqGuard .neq t x y (.agg xs) (.agg ys)).run P w = .ok () w ∧ (binOp .neq t (.agg xs) (.agg ys)).run P w = .ok (.bool (!bs.all id)) w) := by
 unfold flatT at h
 split at h
 ·rename_i fs hu
  split at h
  ·cases h
  ·rename_i hs
   simp only [Bool.or_eq_true, not_or, Bool.not_eq_true] at hs
   have hf : P.fieldsOf t = fs := by unfold Program.fieldsOf; rw [hu]
   have he : (Op.equalIn 10000 t (.agg xs) (.agg ys)).run P w = .ok (bs.all id) w := by
    rw [run_equalIn_struct w 9999 t xs ys (by rw [hf]; exact hu) hs.1, hf]
    exact eqFields_flat 9998 w xs ys _ offs bs h hb
   refine ⟨⟨run_eqGuard_agg w _ t x y xs ys hs.2, ?_⟩, run_eqGuard_agg w _ t x y xs ys hs.2, ?_⟩
   ·rw [run_eql_struct, he]; rfl
   ·rw [run_neq_struct, he]; rfl
 ·cases h
variable {ops : Array Oper} {a : Act} {w : World} {K : Value → World → Prop} {d : Option Tmp} {ty : TypeId} {pos : String} {af : Array Edge} {gd : Option (Nat × Bool)} {v : Value}
variable {n : Nat} {T : List (Nat × Value)}
theorem retCT {fn : Func} {R : Ending → World → Prop} {p q : Tmp} {t t' : TypeId} {g : Nat} {cs : Array Value} (hr : fn.results = #[.cell p t, .tmp q]) (hA : St n T a) (hv : ev T (.tmp p) = some (.pointer (some ⟨g, 0, none⟩))) (hq : ev T (.tmp q) = some v) (hb : Blk w g cs t') (h1 : rowB P t cs.size = true)
  (h : R (.returned (.tuple #[.agg cs, v])) w) : bodyPost P fn R .ret a w := by
 obtain ⟨⟨dd, h2, _, h3⟩, h4⟩ := row_facts h1
 have e1 := hA.ev hv
 have e2 := hA.ev hq
 simp only [Act.eval] at e1 e2
 refine ⟨hA.defers, _, ?_, h⟩
 have e3 : a.tmps[p]?.getD undef = .pointer (some ⟨g, 0, none⟩) := by simpa using e1
 have e4 : a.tmps[q]?.getD undef = v := by simpa using e2
 simp [results, hr, e3, e4, asAddr, run_loadVar_row w g t' t cs (0, 0) dd hb h2 (by cases dd <;> simp_all) h4]
theorem ret3 {fn : Func} {R : Ending → World → Prop} {p q r : Tmp} {x y z : Value} (hr : fn.results = #[.tmp p, .tmp q, .tmp r]) (hA : St n T a) (hx : ev T (.tmp p) = some x) (hy : ev T (.tmp q) = some y) (hz : ev T (.tmp r) = some z)
  (h : R (.returned (.tuple #[x, y, z])) w) : bodyPost P fn R .ret a w := by
 have e1 := hA.ev hx
 have e2 := hA.ev hy
 have e3 := hA.ev hz
 simp only [Act.eval] at e1 e2 e3
 refine ⟨hA.defers, _, ?_, h⟩
 have f1 : a.tmps[p]?.getD undef = x := by simpa using e1
 have f2 : a.tmps[q]?.getD undef = y := by simpa using e2
 have f3 : a.tmps[r]?.getD undef = z := by simpa using e3
 simp [results, hr, f1, f2, f3]
end
theorem ret_agg {x y : Array Value} (h : x = y) : Ending.returned (.agg x) = .returned (.agg y) := by rw [h]
theorem notof {b c : Bool} (h : b = c) : (!b) = !c := by rw [h]
theorem jwp {P : Program} {c : Code} {K : Act → World → Prop} {Q : Exit → Act → World → Prop} {a : Act} {w : World} (h : c.wp P (Exit.then K fun _ _ _ => False) a w) (hk : ∀ a w, K a w → Q .normal a w) : c.wp P Q a w :=
 Code.wp_mono (fun e a w h => by cases e <;> first | exact hk _ _ h | exact h.elim) h
section
variable {P : Program} {ops : Array Oper} {a : Act} {w : World} {K : Value → World → Prop} {d : Option Tmp} {ty : TypeId} {pos : String} {af : Array Edge} {gd : Option (Nat × Bool)} {v : Value}
theorem dpt {c x y : Operand} (hw : Region.wanted { dst := d, op := .pick c x y, type := ty, pos := pos, after := af, guard := gd } (yielded ops a.tmps) = true) (hc : a.eval c = .bool true) (hx : a.eval x = v) (h : K v w) :
  Does P ops { dst := d, op := .pick c x y, type := ty, pos := pos, after := af, guard := gd } a w K := d_pick hw hc (by simpa using hx) h
theorem dpf {c x y : Operand} (hw : Region.wanted { dst := d, op := .pick c x y, type := ty, pos := pos, after := af, guard := gd } (yielded ops a.tmps) = true) (hc : a.eval c = .bool false) (hx : a.eval y = v) (h : K v w) :
  Does P ops { dst := d, op := .pick c x y, type := ty, pos := pos, after := af, guard := gd } a w K := d_pick hw hc (by simpa using hx) h
end
theorem least {p : Nat → Prop} (h : ∃ m, p m) : ∃ m, p m ∧ ∀ k, k < m → ¬ p k := by
 obtain ⟨m, hm⟩ := h
 induction m using Nat.strongRecOn with
 | _ m ih =>
  by_cases hk : ∃ k, k < m ∧ p k
  ·obtain ⟨k, hkm, hpk⟩ := hk; exact ih k hkm hpk
  ·exact ⟨m, hm, fun k hkm hpk => hk ⟨k, hkm, hpk⟩⟩
theorem loop_by {P : Program} {c : Code} {Q : Exit → Act → World → Prop} {a : Act} {w : World} (I : Nat → Act → World → Prop) (m : Nat) (h0 : I m a w)
  (round : ∀ m a w, I m a w → c.wp P (Exit.then (fun a' w' => ∃ m', m' < m ∧ I m' a' w') Q) a w) : (Code.loop c).wp P Q a w := by
 refine wp_loop (fun a w => ∃ m, I m a w) (fun a w => @dite Nat (∃ m, I m a w) (Classical.propDecidable _) (fun h => Classical.choose (least h)) fun _ => 0) ⟨m, h0⟩ fun a w hI => ?_
 have hc := Classical.choose_spec (least hI)
 have hr := round _ a w hc.1
 refine Code.wp_mono (fun e a' w' hq => ?_) hr
 cases e with
 | normal =>
  obtain ⟨m', hlt, hI'⟩ := hq
  refine ⟨⟨m', hI'⟩, ?_⟩
  have h' : ∃ m, I m a' w' := ⟨m', hI'⟩
  simp only [dif_pos hI, dif_pos h']
  have h2 := (Classical.choose_spec (least h')).2
  refine Nat.lt_of_le_of_lt ?_ hlt
  exact Nat.le_of_not_lt fun hgt => h2 m' hgt hI'
 | _ => exact hq
def Sl {α : Type} (enc : α → List Value) (s B : Nat) (w : World) (v : Value) (l : List α) : Prop :=
 ∃ ao cap, v = .slice ao l.length cap ∧ l.length ≤ cap ∧ ∀ j x, l[j]? = some x → ∃ b o, ao = some ⟨b, o, none⟩ ∧ b < B ∧ w.rangeAt b (o + j * s) (enc x)
section
variable {α : Type} {enc : α → List Value} {s B : Nat} {w w' : World} {v : Value} {l : List α}
theorem range_below {b o : Nat} {cs : List Value} (hr : w.rangeAt b o cs) (hb : Below B w w') (h : b < B) : w'.rangeAt b o cs := fun j x hx => by
 rw [hb.cell (p := ⟨b, o + j, none⟩) h]; exact hr j x hx
theorem range_upd {b o g : Nat} {cs : List Value} (hr : w.rangeAt b o cs) (hu : Upd g w w') (h : b ≠ g) : w'.rangeAt b o cs := fun j x hx => by
 rw [World.cell?_of_block (w := w) (hu.block b h)]; exact hr j x hx
theorem ne_of_beq {a b : Int} (h : (a == b) = false) : a ≠ b := by simpa using h
theorem Sl.below (h : Sl enc s B w v l) (hb : Below B w w') : Sl enc s B w' v l := by
 obtain ⟨ao, cap, hv, hlc, he⟩ := h
 refine ⟨ao, cap, hv, hlc, fun j x hx => ?_⟩
 obtain ⟨b, o, h1, h2, h3⟩ := he j x hx
 exact ⟨b, o, h1, h2, range_below h3 hb h2⟩
theorem Sl.mono {B' : Nat} (h : Sl enc s B w v l) (hB : B ≤ B') : Sl enc s B' w v l := by
 obtain ⟨ao, cap, hv, hlc, he⟩ := h
 refine ⟨ao, cap, hv, hlc, fun j x hx => ?_⟩
 obtain ⟨b, o, h1, h2, h3⟩ := he j x hx
 exact ⟨b, o, h1, Nat.lt_of_lt_of_le h2 hB, h3⟩
theorem Sl.form (h : Sl enc s B w v l) : ∃ ao cap, v = .slice ao l.length cap := let ⟨ao, cap, hv, _, _⟩ := h; ⟨ao, cap, hv⟩
theorem Sl.nil : Sl enc s B w (.slice none 0 0) ([] : List α) := ⟨none, 0, rfl, Nat.le_refl _, fun j x h => by simp at h⟩
end
section
variable {P : Program} {ops : Array Oper} {a : Act} {w : World} {K : Value → World → Prop} {d : Option Tmp} {ty : TypeId} {pos : String} {af : Array Edge} {gd : Option (Nat × Bool)} {v : Value}
def sliceB (P : Program) (t e s : Nat) : Bool := (match P.underlying t with | some (.slice e') => e' == e | _ => false) && ((P.info? e).map (·.size) == some s)
theorem slice_facts {t e s : Nat} (h : sliceB P t e s = true) : P.underlying t = some (.slice e) ∧ (P.info? e).map (·.size) = some s := by
 unfold sliceB at h
 rw [Bool.and_eq_true] at h
 refine ⟨?_, by simpa using h.2⟩
 cases hq : P.underlying t with
 | none => simp [hq] at h
 | some dd => cases dd <;> simp_all
theorem run_size {e s : Nat} (h : (P.info? e).map (·.size) = some s) (w : World) : (sizeOf e).run P w = .ok s w := by
 cases hq : P.info? e with
 | none => simp [hq] at h
 | some i => simp [hq] at h; simp [sizeOf, typeInfo, hq, h]
theorem dle {x : Operand} {t e s n : Nat} (hw : Region.wanted { dst := d, op := .call { callee := .builtin .len, args := #[x], argTypes := #[t] }, type := ty, pos := pos, after := af, guard := gd } (yielded ops a.tmps) = true) (hx : a.eval x = v) (ht : sliceB P t e s = true)
  (hv : ∃ ao cap, v = .slice ao n cap) (h : K (.int .i64 (n : Int)) w) : Does P ops { dst := d, op := .call { callee := .builtin .len, args := #[x], argTypes := #[t] }, type := ty, pos := pos, after := af, guard := gd } a w K :=
 does_val hw (by
  obtain ⟨ao, cap, hv⟩ := hv
  have hm : (#[x] : Array Operand).map a.eval = #[.slice ao n cap] := by simp only [List.map_toArray, List.map_cons, List.map_nil]; rw [hx, hv]
  unfold execOp
  simp only [resolve, Sem.run_bind, Sem.run_pure, Result.andThen_ok, invoke, builtin, hm]
  simp [Builtin.len_, run_underlying (slice_facts ht).1, goInt]) h
def IxAt (v : Value) (n j s b o : Nat) : Prop := ∃ o0 cap, v = .slice (some ⟨b, o0, none⟩) n cap ∧ o = o0 + j * s
theorem Sl.at {α : Type} {enc : α → List Value} {s B j : Nat} {l : List α} {y : α} (hs : Sl enc s B w v l) (hy : l[j]? = some y) : ∃ b o, b < B ∧ w.rangeAt b o (enc y) ∧ IxAt v l.length j s b o := by
 obtain ⟨ao, cap, hv, _, he⟩ := hs
 obtain ⟨b, o, hao, hb, hr⟩ := he j y hy
 exact ⟨b, o + j * s, hb, hr, o, cap, by rw [hv, hao], rfl⟩
theorem dia {t e s n j b o : Nat} {x ix : Operand} (hw : Region.wanted { dst := d, op := .indexAddr t x ix, type := ty, pos := pos, after := af, guard := gd } (yielded ops a.tmps) = true) (hx : a.eval x = v) (hi : a.eval ix = .int .i64 (j : Int))
  (ht : sliceB P t e s = true) (hix : IxAt v n j s b o) (hj : j < n) (h : K (.pointer (some ⟨b, o, none⟩)) w) :
  Does P ops { dst := d, op := .indexAddr t x ix, type := ty, pos := pos, after := af, guard := gd } a w K := by
 obtain ⟨o0, cap, hv, ho⟩ := hix
 refine does_val (v := .pointer (some ⟨b, o, none⟩)) hw ?_ h
 subst hv; subst ho
 have hc : (0 : Int) ≤ (j : Int) ∧ (j : Int) < ((n : Nat) : Int) := ⟨by omega, by omega⟩
 have hq : (Instr.indexAt t (.slice (some ⟨b, o0, none⟩) n cap) (.int .i64 (j : Int))).run P w = .ok (.pointer (some ⟨b, o0 + j * s, none⟩)) w := by
  unfold Instr.indexAt
  simp only [asIntOf, Sem.run_bind, Sem.run_pure, Result.andThen_ok, run_underlying (slice_facts ht).1, if_pos hc, run_size (slice_facts ht).2, Int.toNat_natCast, Addr.add_mid]
 unfold execOp
 simp only [hx, hi, Sem.run_bind, hq, Sem.run_pure, Result.andThen_ok]
theorem range_sm {M : Nat → Option (Array Value)} {w w' : World} {b o : Nat} {cs : List Value} (hr : w.rangeAt b o cs) (h : SM M w w') (hb : b < w.heap.size) (hM : M b = none) : w'.rangeAt b o cs := fun j x hx => by
 rw [World.cell?_of_block (w := w) (h.block b hb hM)]; exact hr j x hx
theorem get_lt {α : Type} {l : List α} {j : Nat} {y : α} (h : l[j]? = some y) : j < l.length := (List.getElem?_eq_some_iff.1 h).1
def arrB (P : Program) (t n e s : Nat) : Bool := (match P.underlying t with | some (.array n' e') => n' == n && e' == e | _ => false) && ((P.info? e).map (·.size) == some s)
theorem arr_facts {t n e s : Nat} (h : arrB P t n e s = true) : P.underlying t = some (.array n e) ∧ (P.info? e).map (·.size) = some s := by
 unfold arrB at h
 rw [Bool.and_eq_true] at h
 refine ⟨?_, by simpa using h.2⟩
 cases hq : P.underlying t with
 | none => simp [hq] at h
 | some dd => cases dd <;> simp_all
theorem d_indexArr {t n e s g o j : Nat} {x ix : Operand} (hw : Region.wanted { dst := d, op := .indexAddr t x ix, type := ty, pos := pos, after := af, guard := gd } (yielded ops a.tmps) = true) (hx : a.eval x = .pointer (some ⟨g, o, none⟩)) (hi : a.eval ix = .int .i64 (j : Int))
  (ht : arrB P t n e s = true) (hj : j < n) (h : K (.pointer (some ⟨g, o + j * s, none⟩)) w) : Does P ops { dst := d, op := .indexAddr t x ix, type := ty, pos := pos, after := af, guard := gd } a w K :=
 does_val hw (by
  have hc : (0 : Int) ≤ (j : Int) ∧ (j : Int) < ((n : Nat) : Int) := ⟨by omega, by omega⟩
  have hq : (Instr.indexAt t (.pointer (some ⟨g, o, none⟩)) (.int .i64 (j : Int))).run P w = .ok (.pointer (some ⟨g, o + j * s, none⟩)) w := by
   unfold Instr.indexAt
   simp only [asIntOf, Sem.run_bind, Sem.run_pure, Result.andThen_ok, run_underlying (arr_facts ht).1, if_pos hc, run_size (arr_facts ht).2, Int.toNat_natCast, Addr.add_mid, Instr.sureAddr]
  unfold execOp
  simp only [hx, hi, Sem.run_bind, hq, Sem.run_pure, Result.andThen_ok]) h
theorem dnc {x : Operand} {g o : Nat} (hw : Region.wanted { dst := d, op := .nilCheck x, type := ty, pos := pos, after := af, guard := gd } (yielded ops a.tmps) = true) (hx : a.eval x = .pointer (some ⟨g, o, none⟩)) (h : K (.pointer (some ⟨g, o, none⟩)) w) :
  Does P ops { dst := d, op := .nilCheck x, type := ty, pos := pos, after := af, guard := gd } a w K :=
 does_val hw (by unfold execOp; simp only [hx, Sem.run_pure]) h
theorem dlm {t b o : Nat} {x : Operand} {cs : Array Value} (hw : Region.wanted { dst := d, op := .load t x, type := ty, pos := pos, after := af, guard := gd } (yielded ops a.tmps) = true) (hx : a.eval x = .pointer (some ⟨b, o, none⟩)) (h1 : rowB P t cs.size = true)
  (hr : w.rangeAt b o cs.toList) (h : K (.agg cs) w) : Does P ops { dst := d, op := .load t x, type := ty, pos := pos, after := af, guard := gd } a w K :=
 does_val hw (by
  obtain ⟨⟨dd, h2, h3, _⟩, h4⟩ := row_facts h1
  have := run_loadAt_mid (P := P) w b o t cs.toList dd hr h2 h3 (by simpa using h4)
  unfold execOp
  simp only [hx, Sem.run_bind, this, Result.andThen_ok, Sem.run_pure, Array.toArray_toList]) h
theorem d_callv {x : Operand} {f : FuncId} {args : Array Operand} {ats : Array TypeId} {vs : Array Value} {R : Ending → World → Prop} (hw : Region.wanted { dst := d, op := .call { callee := .value x, args := args, argTypes := ats }, type := ty, pos := pos, after := af, guard := gd } (yielded ops a.tmps) = true)
  (hf : a.eval x = .func (.func f) #[] #[]) (hent : ((P.funcs[f]?).map fun fn => (fn.name == "runtime.NumGoroutine", fn.body.isNone)) = some (false, false)) (hx : args.map a.eval = vs) (hc : Calls P f vs w R) (h : ∀ e w', R e w' → ∃ v, e = .returned v ∧ K v w') :
  Does P ops { dst := d, op := .call { callee := .value x, args := args, argTypes := ats }, type := ty, pos := pos, after := af, guard := gd } a w K :=
 does_enter hw (by
  subst hx
  unfold execOp
  simp only [resolve, hf, Sem.run_bind, Deferred.ofValue, Sem.run_pure, Result.andThen_ok, invoke, Array.append_empty, Array.empty_append, enters hent]) hc h
end
section
variable {P : Program} {t : TypeId} (x y : Operand) (a b : Int) (w : World)
theorem b_add (h1 : -9223372036854775808 ≤ a + b) (h2 : a + b ≤ 9223372036854775807) : (eqGuard .add t x y (.int .i64 a) (.int .i64 b)).run P w = .ok () w ∧ (binOp .add t (.int .i64 a) (.int .i64 b)).run P w = .ok (.int .i64 (a + b)) w := by
 refine ⟨by simp [eqGuard], ?_⟩
 have : IntKind.wrap .i64 (a + b) = a + b := by simp only [IntKind.wrap, IntKind.signed, IntKind.bits]; simp; omega
 simp [binOp, this, go_sem]
end
def lgetV : List Value → Nat → Option Value
 | [], _ => none
 | x :: _, 0 => some x
 | _ :: l, k + 1 => lgetV l k
theorem lget_is : ∀ (l : List Value) (k : Nat), lgetV l k = l[k]?
 | [], _ => rfl
 | x :: _, 0 => rfl
 | _ :: l, k + 1 => by rw [lgetV, lget_is l k]; rfl
def guardV (ops : Array Oper) (T : List (Nat × Value)) : Option (Nat × Bool) → Option Bool
 | none => some true
 | some (j, b) => match dstOf ops j with
  | some t => match T.lookup t with
   | some (.bool c) => some (c == b)
   | some (.tuple vs) => match vs.toList with | [] => some false | _ => none
   | _ => none
  | none => none
def runV (T : List (Nat × Value)) : Op → Option Value
 | .move x => ev T x
 | .assign x => ev T x
 | .pick c x y => match ev T c with
  | some (.bool b) => match b with | true => ev T x | false => ev T y
  | _ => none
 | .extract x k => match ev T x with
  | some (.tuple vs) => lgetV vs.toList k
  | _ => none
 | .unOp .not _ x => match ev T x with
  | some (.bool b) => some (.bool !b)
  | _ => none
 | .nilCheck x => match ev T x with
  | some (.pointer (some ⟨g, o, none⟩)) => some (.pointer (some ⟨g, o, none⟩))
  | _ => none
 | _ => none
def stepV (ops : Array Oper) (T : List (Nat × Value)) (o : Oper) : Option Value := match guardV ops T o.guard with
 | some true => runV T o.op
 | some false => some undef
 | none => none
def stepsV (n : Nat) (ops : Array Oper) : Nat → List (Nat × Value) → List Oper → Option (List (Nat × Value) × List Oper)
 | 0, T, l => some (T, l)
 | _ + 1, _, [] => none
 | k + 1, T, o :: l => match fitsD n o.dst with
  | true => match stepV ops T o with
   | some v => stepsV n ops k (ext T o.dst v) l
   | none => none
  | false => none
def twoV (n : Nat) (ops : Array Oper) (T : List (Nat × Value)) (d : Option Tmp) (gd : Option (Nat × Bool)) (x y : Operand) : Option (Value × Value) := match fitsD n d, guardV ops T gd, ev T x, ev T y with
 | true, some true, some u, some v => some (u, v)
 | _, _, _, _ => none
def ptrV (n : Nat) (ops : Array Oper) (T : List (Nat × Value)) (d : Option Tmp) (gd : Option (Nat × Bool)) (x : Operand) : Option (Nat × Nat) := match fitsD n d, guardV ops T gd, ev T x with
 | true, some true, some (.pointer (some ⟨g, k, none⟩)) => some (g, k)
 | _, _, _ => none
def evsV (T : List (Nat × Value)) : List Operand → Option (List Value)
 | [] => some []
 | x :: l => match ev T x, evsV T l with
  | some v, some vs => some (v :: vs)
  | _, _ => none
def callV (n : Nat) (ops : Array Oper) (T : List (Nat × Value)) (d : Option Tmp) (gd : Option (Nat × Bool)) (args : Array Operand) : Option (List Value) := match fitsD n d, guardV ops T gd with
 | true, some true => evsV T args.toList
 | _, _ => none
abbrev Ent (P : Program) (f : Nat) : Option (Bool × Bool) := (P.funcs[f]?).map fun fn => (fn.name == "runtime.NumGoroutine", fn.body.isNone)
abbrev FF : Option (Bool × Bool) := some (false, false)
abbrev J (n : Int) : Value := .int .i64 n
section
variable {P : Program} {ops : Array Oper} {o : Oper} {a : Act} {w w' : World} {K : Value → World → Prop} {Q : Exit → Act → World → Prop} {n : Nat} {T : List (Nat × Value)}
theorem guard_yes {d : Option Tmp} {i : Op} {ty : TypeId} {pos : String} {af : Array Edge} {gd : Option (Nat × Bool)} (hA : St n T a) (h : guardV ops T gd = some true) : Region.wanted { dst := d, op := i, type := ty, pos := pos, after := af, guard := gd } (yielded ops a.tmps) = true := by
 unfold guardV at h
 split at h
 ·exact wn rfl
 ·next j b =>
  split at h
  ·next t ht =>
   split at h
   ·next c hc =>
    have e : c = b := by simpa using h
    subst e
    exact wy rfl ht (hA.get _ _ hc)
   ·split at h <;> cases h
   ·cases h
  ·cases h
theorem guard_no {d : Option Tmp} {i : Op} {ty : TypeId} {pos : String} {af : Array Edge} {gd : Option (Nat × Bool)} (hA : St n T a) (h : guardV ops T gd = some false) : Region.wanted { dst := d, op := i, type := ty, pos := pos, after := af, guard := gd } (yielded ops a.tmps) = false := by
 unfold guardV at h
 split at h
 ·cases h
 ·next j b =>
  split at h
  ·next t ht =>
   split at h
   ·next c hc =>
    have e : c = !b := by
     have : (c == b) = false := by simpa using h
     cases c <;> cases b <;> first | rfl | cases this
    subst e
    exact wno rfl ht (.inl (hA.get _ _ hc))
   ·next vs hc =>
    split at h
    ·next hv =>
     refine wno rfl ht (.inr ?_)
     rw [hA.get _ _ hc]
     unfold undef
     obtain ⟨l⟩ := vs
     simp only at hv
     subst hv; rfl
    ·cases h
   ·cases h
  ·cases h
theorem step_does {v : Value} (hA : St n T a) (h : stepV ops T o = some v) (hK : K v w) : Does P ops o a w K := by
 obtain ⟨d, i, ty, pos, af, gd⟩ := o
 unfold stepV at h
 split at h
 ·next hg =>
  have hw := guard_yes (d := d) (i := i) (ty := ty) (pos := pos) (af := af) hA hg
  unfold runV at h
  split at h
  ·next x hi => simp only at hi; subst hi; exact dmv hw (hA.ev h) hK
  ·next x hi => simp only at hi; subst hi; exact das hw (hA.ev h) hK
  ·next c x y hi =>
   simp only at hi; subst hi
   split at h
   ·next b hc =>
    split at h
    ·exact dpt hw (hA.ev hc) (hA.ev h) hK
    ·exact dpf hw (hA.ev hc) (hA.ev h) hK
   ·cases h
  ·next x k hi =>
   simp only at hi; subst hi
   split at h
   ·next vs hx => exact dex hw (hA.ev hx) (by rw [lget_is] at h; simpa using h) hK
   ·cases h
  ·next t x hi =>
   simp only at hi; subst hi
   split at h
   ·next b hx => cases h; exact dnt hw (hA.ev hx) hK
   ·cases h
  ·next x hi =>
   simp only at hi; subst hi
   split at h
   ·next g o hx => cases h; exact dnc hw (hA.ev hx) hK
   ·cases h
  ·cases h
 ·next hg => cases h; exact dno (guard_no hA hg) hK
 ·cases h
theorem Z : ∀ (k : Nat) {T T' : List (Nat × Value)} {l r : List Oper} {a : Act}, St n T a → stepsV n ops k T l = some (T', r) → (∀ {a'}, St n T' a' → wpList P ops Q r a' w) → wpList P ops Q l a w
 | 0, T, T', l, r, a, hA, h, hk => by cases h; exact hk hA
 | k + 1, T, T', [], r, a, hA, h, hk => by cases h
 | k + 1, T, T', o :: l, r, a, hA, h, hk => by
  rw [stepsV] at h
  split at h
  ·next hd =>
   split at h
   ·next v hv => exact qs hA hd (step_does hA hv fun a' hA' => Z k hA' h hk)
   ·cases h
  ·cases h
end
section
variable {P : Program} {ops : Array Oper} {a : Act} {w : World} {Q : Exit → Act → World → Prop} {rest : List Oper} {n : Nat} {T : List (Nat × Value)} {d : Option Tmp} {ty : TypeId} {pos : String} {af : Array Edge} {gd : Option (Nat × Bool)} {v u : Value}
theorem B2 {op : BinOp} {t t2 : TypeId} {x y : Operand} {r : Value} (hA : St n T a) (hz : twoV n ops T d gd x y = some (u, v))
  (hr : (eqGuard op t x y u v).run P w = .ok () w ∧ (binOp op t u v).run P w = .ok r w) (h : ∀ {a'}, St n (ext T d r) a' → wpList P ops Q rest a' w) : wpList P ops Q ({ dst := d, op := .binOp op t x y t2, type := ty, pos := pos, after := af, guard := gd } :: rest) a w := by
 unfold twoV at hz
 split at hz
 ·next u' v' hd hg hx hy => cases hz; exact qs hA hd (dbn (guard_yes hA hg) (hA.ev hx) (hA.ev hy) hr fun _ q => h q)
 ·cases hz
theorem F1 {s : TypeId} {x : Operand} {f g k off : Nat} (hA : St n T a) (hz : ptrV n ops T d gd x = some (g, k))
  (hf : fieldOff P s f = some off) (h : ∀ {a'}, St n (ext T d (.pointer (some ⟨g, k + off, none⟩))) a' → wpList P ops Q rest a' w) : wpList P ops Q ({ dst := d, op := .fieldAddr s x f, type := ty, pos := pos, after := af, guard := gd } :: rest) a w := by
 unfold ptrV at hz
 split at hz
 ·next g' k' hd hg hx => cases hz; exact qs hA hd (dfa (guard_yes hA hg) (hA.ev hx) hf fun _ q => h q)
 ·cases hz
theorem evs_is (hA : St n T a) : ∀ (l : List Operand) {vs : List Value}, evsV T l = some vs → l.map a.eval = vs
 | [], vs, h => by cases h; rfl
 | x :: l, vs, h => by
  rw [evsV] at h
  split at h
  ·next v ws hv hw => cases h; rw [List.map_cons, hA.ev hv, evs_is hA l hw]
  ·cases h
theorem C {f : FuncId} {args : Array Operand} {ats : Array TypeId} {vs : List Value} {R : Ending → World → Prop} (hA : St n T a) (hz : callV n ops T d gd args = some vs) (hent : Ent P f = FF) (hc : Calls P f vs.toArray w R)
  (h : ∀ e w', R e w' → ∃ v, e = .returned v ∧ ∀ a', St n (ext T d v) a' → wpList P ops Q rest a' w') : wpList P ops Q ({ dst := d, op := .call { callee := .value (.func f), args := args, argTypes := ats }, type := ty, pos := pos, after := af, guard := gd } :: rest) a w := by
 unfold callV at hz
 split at hz
 ·next hd hg => exact qs hA hd (dcl (guard_yes hA hg) hent (by obtain ⟨l⟩ := args; rw [← evs_is hA l hz]; simp) hc h)
 ·cases hz
end
section
variable {P : Program} {t : TypeId} {k : IntKind} {x y : Operand} {a b : Int} {r : Bool} {w : World}
theorem bq (h : (a == b) = r) : (eqGuard .eql t x y (.int k a) (.int k b)).run P w = .ok () w ∧ (binOp .eql t (.int k a) (.int k b)).run P w = .ok (.bool r) w := b_eq x y a b r w h
theorem bl (h : decide (a < b) = r) : (eqGuard .lss t x y (.int k a) (.int k b)).run P w = .ok () w ∧ (binOp .lss t (.int k a) (.int k b)).run P w = .ok (.bool r) w := b_lt x y a b r w h
theorem bg (h : decide (a > b) = r) : (eqGuard .gtr t x y (.int k a) (.int k b)).run P w = .ok () w ∧ (binOp .gtr t (.int k a) (.int k b)).run P w = .ok (.bool r) w := b_gt x y a b r w h
theorem bge_ (h : decide (a ≥ b) = r) : (eqGuard .geq t x y (.int k a) (.int k b)).run P w = .ok () w ∧ (binOp .geq t (.int k a) (.int k b)).run P w = .ok (.bool r) w := b_ge x y a b r w h
theorem ble_ (h : decide (a ≤ b) = r) : (eqGuard .leq t x y (.int k a) (.int k b)).run P w = .ok () w ∧ (binOp .leq t (.int k a) (.int k b)).run P w = .ok (.bool r) w := b_le x y a b r w h
end
def wr_ := @wp_region_lit
def ws_ := @wp_seq
def we_ := @wp_ret
def wk_ := @wp_skip
def eb_ := @Bool.eq_false_or_eq_true
def nb_ := @Nat.le_of_ble_eq_true
def nt_ := @Nat.le_trans
def ni_ := @Nat.lt_irrefl
def df_ := @of_decide_eq_false
def dt_ := @of_decide_eq_true
def cf_ := @c_false
def ct_ := @c_true
def tr_ := @t_ret
theorem qt_ {P : Program} {ops : Array Oper} {K : Act → World → Prop} {Q : Exit → Act → World → Prop} {a : Act} {w : World} (h : K a w) : wpList P ops (Exit.then K Q) [] a w := qe_ (tn_ h)
theorem sw_ {P : Program} {Q : Exit → Act → World → Prop} {a : Act} {w : World} {id : Nat} {l : List Oper} {y : Code} (h : wpList P l.toArray (Exit.then (y.wp P Q) Q) l a w) : (Code.seq (Code.region id l.toArray false) y).wp P Q a w := wp_seq (wp_region_lit h)
theorem St.g {n : Nat} {T : List (Nat × Value)} {a : Act} (h : St n T a) (t : Nat) {v : Value} (hv : T.lookup t = some v) : a.tmps.getD t undef = v := h.get t v hv
theorem bls {w w1 w2 : World} (b : Below w.heap.size w w1) (h : Grow w1 w2) : Below w.heap.size w w2 := blg b h b.size
theorem nn_ {w : World} {g g' : Nat} {cs : Array Value} {t : TypeId} (e : g' = w.heap.size) (m : Blk w g cs t) : g ≠ g' := fun h => Nat.lt_irrefl _ ((h.trans e) ▸ m.lt)
def Ahead (ops : Array Oper) (S : World → World → Prop) (tab : Nat → Cl S) (pure : Nat → Option Value) (W : Value → World → Prop) (w : World) (len : Nat) (a' : Act) (w' : World) : Option Nat → Prop
 | none => S w w' ∧ ∀ j, j < len → (tab j).P (valOf ops a' j) w'
 | some x => (∀ j v, j < len → j ≠ x → pure j = some v → valOf ops a' j = v) ∧ W (valOf ops a' x) w'
section
variable {P : Program} {l : List Oper} {y : Oper} {Q : Exit → Act → World → Prop} {S : World → World → Prop} {n : Nat} {T : List (Nat × Value)} {w : World}
def covB (l : List Oper) (o : Oper) : List Nat → List Nat → Bool
 | [], _ => true
 | j :: c, acc => (waits o j || acc.any fun m => match l[m]? with | some p => waits p j | none => false) && covB l o c (j :: acc)
theorem cov {o : Oper} {L : Nat → Prop} (ho : ∀ j, waits o j = true → L j) (hcl : ∀ m p, l[m]? = some p → L m → ∀ j, waits p j = true → L j) : ∀ (c acc : List Nat), (∀ m ∈ acc, L m) → covB l o c acc = true → ∀ j ∈ c, L j
 | [], _, _, _ => fun j hj => by cases hj
 | j :: c, acc, ha, h => by
  unfold covB at h
  rw [Bool.and_eq_true, Bool.or_eq_true] at h
  have hj : L j := by
   rcases h.1 with h1 | h1
   ·exact ho j h1
   ·rw [List.any_eq_true] at h1
    obtain ⟨m, hm, h2⟩ := h1
    cases hp : l[m]? with
    | none => simp [hp] at h2
    | some p => simp only [hp] at h2; exact hcl m p hp (ha m hm) j h2
  exact List.forall_mem_cons.2 ⟨hj, cov ho hcl c (j :: acc) (List.forall_mem_cons.2 ⟨hj, ha⟩) h.2⟩
def lateB (l : List Oper) (y : Oper) (xi : Option Nat) (pb : Nat → Bool) (cy cx : List Nat) : Bool :=
 y.dst.isNone && (y.after.toList.all fun e => !Region.binds .any e || decide (e.on < l.length)) && (covB l y cy [] && (List.range l.length).all fun j => cy.contains j) &&
 match xi with
 | none => true
 | some x => decide (x < l.length) && !pb x && (match l[x]? with | some o => covB l o cx [] | none => false) && ((List.range l.length).all fun i => i == x || pb i || cx.contains i)
theorem late_spec {xi : Option Nat} {pb : Nat → Bool} {cy cx : List Nat} (h : lateB l y xi pb cy cx = true) : y.dst = none ∧ (∀ e ∈ y.after, Region.binds .any e = true → e.on < l.length) ∧ (covB l y cy [] = true ∧ ∀ j, j < l.length → j ∈ cy) ∧
  ∀ x, xi = some x → x < l.length ∧ pb x = false ∧ (∀ o, l[x]? = some o → covB l o cx [] = true) ∧ ∀ i, i < l.length → i ≠ x → pb i = false → i ∈ cx := by
 unfold lateB at h
 rw [Bool.and_eq_true, Bool.and_eq_true, Bool.and_eq_true, Bool.and_eq_true] at h
 obtain ⟨⟨⟨h1, h2⟩, h3, h3'⟩, h4⟩ := h
 refine ⟨by simpa using h1, fun e he hb => by have := (List.all_eq_true.1 h2) e (by simpa using he); simpa [hb] using this, ⟨h3, fun j hj => by simpa using (List.all_eq_true.1 h3') j (by simpa using hj)⟩, fun x hx => ?_⟩
 subst hx
 simp only [Bool.and_eq_true, decide_eq_true_eq, Bool.not_eq_true'] at h4
 obtain ⟨⟨⟨h5, h5'⟩, h6⟩, h7⟩ := h4
 refine ⟨h5, h5', fun o ho => by simpa [ho] using h6, fun i hi hne hp => ?_⟩
 have := (List.all_eq_true.1 h7) i (by simpa using hi)
 simp only [hp, Bool.or_false, Bool.or_eq_true, beq_iff_eq] at this
 simpa using this.resolve_left hne
theorem late_any {cy cx : List Nat} (tab : Nat → Cl S) (xi : Option Nat) (pure : Nat → Option Value) (W : Value → World → Prop) (hrefl : ∀ w, S w w) (htrans : ∀ a b c, S a b → S b c → S a c) (hfit : fitB l.toArray n T = true) (hlate : lateB l y xi (fun i => (pure i).isSome) cy cx = true)
  (hcv : ∀ i v u w', pure i = some v → ((tab i).P u w' ↔ u = v))
  (hop : ∀ i o, l[i]? = some o → xi ≠ some i → pure i = none → Obl P (l ++ [y]).toArray S n T tab w i o)
  (hpu : ∀ i o v, l[i]? = some o → xi ≠ some i → pure i = some v → ∀ a' w', St n T a' → (∀ j u, waits o j = true → pure j = some u → valOf (l ++ [y]).toArray a' j = u) → (xi = none → ∀ j, waits o j = true → (tab j).P (valOf (l ++ [y]).toArray a' j) w') → Does P (l ++ [y]).toArray o a' w' fun v' w'' => w'' = w' ∧ seenV o v' = v)
  (hxo : ∀ x o, xi = some x → l[x]? = some o → ∀ a' w', S w w' → St n T a' → (∀ j, waits o j = true → (tab j).P (valOf (l ++ [y]).toArray a' j) w') → Does P (l ++ [y]).toArray o a' w' fun v w'' => W (seenV o v) w'')
  (hyo : ∀ a' w', St n T a' → Ahead (l ++ [y]).toArray S tab pure W w l.length a' w' xi → Does P (l ++ [y]).toArray y a' w' fun _ w'' => Q .normal a' w'') :
  ∀ (fuel : Nat) (listed : Array Bool) (a' : Act) (w' : World), listed.size = l.length + 1 → listed.getD l.length true = false → ((List.range (l.length + 1)).filter fun i => !listed.getD i true).length ≤ fuel → St n T a' → (∀ m p, l[m]? = some p → listed.getD m false = true → ∀ j, waits p j = true → listed.getD j false = true) →
   ((∀ x, xi = some x → listed.getD x false = false) → S w w' ∧ ∀ i, i < l.length → listed.getD i false = true → (tab i).P (valOf (l ++ [y]).toArray a' i) w') →
   (∀ x, xi = some x → listed.getD x false = true → W (valOf (l ++ [y]).toArray a' x) w' ∧ ∀ i, i < l.length → i ≠ x → (pure i = none → listed.getD i false = true) ∧ ∀ v, pure i = some v → listed.getD i false = true → valOf (l ++ [y]).toArray a' i = v) →
   wpAny P .any (l ++ [y]).toArray Q fuel listed a' w' := by
 obtain ⟨hyd, hyg, hyw, hxs⟩ := late_spec hlate
 have hat : ∀ i, i < l.length → (l ++ [y]).toArray[i]? = l[i]? := fun i hi => by simp [List.getElem?_append_left hi]
 have hlast : (l ++ [y]).toArray[l.length]? = some y := by simp
 have hdl : ∀ i, i < l.length → dstOf (l ++ [y]).toArray i = dstOf l.toArray i := fun i hi => by unfold dstOf; rw [hat i hi]; simp
 have hwl : ∀ i o, l[i]? = some o → ∀ j, waits o j = true → j < i := fun i o ho j hj => by
  obtain ⟨_, hfe⟩ := fit_spec hfit (show l.toArray[i]? = some o by simpa using ho)
  unfold waits at hj
  rw [List.any_eq_true] at hj
  obtain ⟨e, he, hb⟩ := hj
  simp only [Bool.and_eq_true, beq_iff_eq] at hb
  have := hfe e (by simpa using he) hb.1
  omega
 intro fuel
 induction fuel with
 | zero =>
  intro listed a' w' hls hlun hf
  exfalso
  have hnil : ((List.range (l.length + 1)).filter fun i => !listed.getD i true) = [] := List.eq_nil_of_length_eq_zero (by omega)
  rw [List.filter_eq_nil_iff] at hnil
  have := hnil l.length (by simp)
  rw [hlun] at this; simp at this
 | succ fuel ih =>
  intro listed a' w' hls hlun hf hT hclo hpre hpost
  refine ⟨fun hr => ?_, fun i hi => ?_⟩
  ·exfalso
   have all : ∀ i, i < l.length + 1 → listed.getD i false = true := by
    intro i
    induction i using Nat.strongRecOn with
    | _ i ihi =>
     intro hi
     cases hl : listed.getD i false with
     | true => rfl
     | false =>
      exfalso
      have hli : i < listed.size := by omega
      have hmem : i ∈ Region.ready .any (l ++ [y]).toArray listed := by
       rw [mem_ready]
       refine ⟨by simpa [hli] using hl, ?_⟩
       rcases Nat.lt_or_ge i l.length with h1 | h1
       ·refine ⟨l[i], by rw [hat i h1]; simp [h1], fun e he hb => ?_⟩
        have hlt := (fit_spec hfit (show l.toArray[i]? = some l[i] by simp [h1])).2 e he hb
        exact ihi e.on hlt (by omega)
       ·have hie : i = l.length := by omega
        subst hie
        refine ⟨y, hlast, fun e he hb => ?_⟩
        have hlt := hyg e he hb
        exact ihi e.on hlt (by omega)
      rw [hr] at hmem; cases hmem
   have h1 := all l.length (by omega)
   have hll : l.length < listed.size := by omega
   simp [hll] at h1 hlun
   rw [h1] at hlun; cases hlun
  ·obtain ⟨hun, o, hoi, hall⟩ := mem_ready.1 hi
   have hil : i < l.length + 1 := by have := (Array.getElem?_eq_some_iff.1 hoi).1; simpa using this
   have hlw : ∀ j, waits o j = true → listed.getD j false = true := fun j hj => by
    unfold waits at hj
    rw [List.any_eq_true] at hj
    obtain ⟨e, he, hb⟩ := hj
    simp only [Bool.and_eq_true, beq_iff_eq] at hb
    rw [← hb.2]; exact hall e (by simpa using he) hb.1
   have hunf : listed.getD i false = false := by
    have : i < listed.size := by omega
    simpa [this] using hun
   rcases Nat.lt_or_ge i l.length with hlt | hge
   ·have hoi' : l[i]? = some o := by rw [← hat i hlt]; exact hoi
    obtain ⟨hfd, hfe⟩ := fit_spec hfit (show l.toArray[i]? = some o by simpa using hoi')
    have hdi : dstOf (l ++ [y]).toArray i = o.dst := by unfold dstOf; rw [hoi]; rfl
    have vi : ∀ v, valOf (l ++ [y]).toArray (a'.put o.dst v) i = seenV o v := fun v => by
     unfold valOf seenV
     rw [hdi]
     cases hd : o.dst with
     | none => rfl
     | some d =>
      have hdl' : d < a'.tmps.size := by rw [hT.size]; exact (hfd d hd).1
      simp [Act.put, hdl']
    have vj : ∀ v j, j < l.length → j ≠ i → valOf (l ++ [y]).toArray (a'.put o.dst v) j = valOf (l ++ [y]).toArray a' j := fun v j hj hne => by
     unfold valOf
     rw [hdl j hj]
     cases hdj : dstOf l.toArray j with
     | none => rfl
     | some d' =>
      cases hd : o.dst with
      | none => rfl
      | some d =>
       have hnd : d ≠ d' := fun e => by subst e; exact hne ((hfd d hd).2.1 j (by simpa using hj) hdj)
       simp [Act.put, Array.getD_eq_getD_getElem?, Array.getElem?_setIfInBounds_ne hnd]
    have hTp : ∀ v, St n T (a'.put o.dst v) := fun v => by
     cases hd : o.dst with
     | none => exact hT
     | some d =>
      obtain ⟨hdn, _, hTd⟩ := hfd d hd
      have hp := hT.put hdn v
      refine ⟨hp.size, hp.defers, fun t u hu => hp.get t u ?_⟩
      have hne : t ≠ d := hTd (t, u) (lookup_mem hu)
      rw [List.lookup_cons]
      have : (t == d) = false := by simpa using hne
      simp only [this]; exact hu
    have go : ∀ v w2, ((∀ x, xi = some x → (listed.setIfInBounds i true).getD x false = false) → S w w2 ∧ ∀ k, k < l.length → (listed.setIfInBounds i true).getD k false = true → (tab k).P (valOf (l ++ [y]).toArray (a'.put o.dst v) k) w2) →
      (∀ x, xi = some x → (listed.setIfInBounds i true).getD x false = true → W (valOf (l ++ [y]).toArray (a'.put o.dst v) x) w2 ∧ ∀ k, k < l.length → k ≠ x → (pure k = none → (listed.setIfInBounds i true).getD k false = true) ∧ ∀ u, pure k = some u → (listed.setIfInBounds i true).getD k false = true → valOf (l ++ [y]).toArray (a'.put o.dst v) k = u) →
      wpAny P .any (l ++ [y]).toArray Q fuel (listed.setIfInBounds i true) (a'.put o.dst v) w2 := fun v w2 h1 h2 => by
     have hcl2 : ∀ m p, l[m]? = some p → (listed.setIfInBounds i true).getD m false = true → ∀ j, waits p j = true → (listed.setIfInBounds i true).getD j false = true := fun m p hp hm j hj => by
      have hj' : listed.getD j false = true := by
       by_cases hmi : m = i
       ·subst hmi; rw [hoi'] at hp; cases hp; exact hlw j hj
       ·exact hclo m p hp (by rwa [set_ne false (Ne.symm hmi)] at hm) j hj
      by_cases hji : j = i
      ·subst hji; rw [hunf] at hj'; cases hj'
      ·rw [set_ne false (Ne.symm hji)]; exact hj'
     refine ih _ _ _ (by simpa using hls) (by rw [set_ne true (by omega)]; exact hlun) ?_ (hTp v) hcl2 h1 h2
     have hlt' : i < listed.size := by omega
     have : ((List.range (l.length + 1)).filter fun k => !(listed.setIfInBounds i true).getD k true).length < ((List.range (l.length + 1)).filter fun k => !listed.getD k true).length := by
      have hsub : ((List.range (l.length + 1)).filter fun k => !(listed.setIfInBounds i true).getD k true) = ((List.range (l.length + 1)).filter fun k => !listed.getD k true).filter (fun k => k != i) := by
       rw [List.filter_filter]
       apply List.filter_congr
       intro k _
       by_cases hk : k = i
       ·subst hk; simp [hlt']
       ·rw [set_ne true (Ne.symm hk)]; simp [hk]
      rw [hsub]
      refine List.length_filter_lt_length_iff_exists.2 ⟨i, ?_, by simp⟩
      simp only [List.mem_filter, List.mem_range]
      exact ⟨hil, by rw [hun]; rfl⟩
     omega
    have hseti : (listed.setIfInBounds i true).getD i false = true := by
     have : i < listed.size := by omega
     simp [this]
    have hset : ∀ k, k ≠ i → (listed.setIfInBounds i true).getD k false = listed.getD k false := fun k hk => set_ne false (Ne.symm hk)
    have run : ∀ (K : Value → World → Prop), Does P (l ++ [y]).toArray o a' w' K → (∀ v w2, K v w2 → wpAny P .any (l ++ [y]).toArray Q fuel (listed.setIfInBounds i true) (a'.put o.dst v) w2) → wpOp P (l ++ [y]).toArray Q i (wpAny P .any (l ++ [y]).toArray Q fuel (listed.setIfInBounds i true)) a' w' := fun K hD hk => by
     unfold wpOp
     rcases hD with ⟨hw, h⟩ | ⟨hw, h⟩
     ·simp only [hoi, hw, if_true]
      refine .inl (Oper.wp_mono (fun a2 w2 h => ?_) (h Q))
      obtain ⟨v, rfl, hv⟩ := h
      exact hk v w2 hv
     ·simp only [hoi, hw, Bool.false_eq_true, if_false]
      exact hk undef w' h
    by_cases hxi : xi = some i
    ·have hnot : ∀ x, xi = some x → listed.getD x false = false := fun x hx => by rw [hxi] at hx; cases hx; exact hunf
     obtain ⟨hS, hcl⟩ := hpre hnot
     obtain ⟨_, _, hx1, hx2⟩ := hxs i hxi
     have hxc := cov (L := fun j => listed.getD j false = true) hlw hclo cx [] (fun _ h => by cases h) (hx1 o hoi')
     refine run _ (hxo i o hxi hoi' a' w' hS hT fun j hj => hcl j (by have := hwl i o hoi' j hj; omega) (hlw j hj)) fun v w2 hv => go v w2 (fun h => ?_) fun x hx hlx => ?_
     ·have := h i hxi; rw [hseti] at this; cases this
     ·rw [hxi] at hx; cases hx
      refine ⟨by rw [vi]; exact hv, fun k hk hne => ⟨fun hp => ?_, fun u hu hlk => ?_⟩⟩
      ·rw [hset k hne]; exact hxc k (hx2 k hk hne (by simp [hp]))
      ·rw [hset k hne] at hlk
       rw [vj v k hk hne]
       exact (hcv k u _ w' hu).1 (hcl k hk hlk)
    ·by_cases hL : ∃ x, xi = some x ∧ listed.getD x false = true
     ·obtain ⟨x, hx, hlx⟩ := hL
      obtain ⟨hW, hall2⟩ := hpost x hx hlx
      have hix : i ≠ x := fun e => hxi (by rw [hx, e])
      obtain ⟨hxl, hxp, _, _⟩ := hxs x hx
      cases hp : pure i with
      | none => have := (hall2 i hlt hix).1 hp; rw [hunf] at this; cases this
      | some v0 =>
       refine run _ (hpu i o v0 hoi' hxi hp a' w' hT (fun j u hj hu => ?_) (fun h => by rw [hx] at h; cases h)) fun v w2 hv => ?_
       ·have hjl : j < l.length := by have := hwl i o hoi' j hj; omega
        have hjx : j ≠ x := fun e => by subst e; simp [hu] at hxp
        exact (hall2 j hjl hjx).2 u hu (hlw j hj)
       ·obtain ⟨rfl, hv⟩ := hv
        refine go v w2 (fun h => ?_) fun x' hx' hlx' => ?_
        ·have := h x hx; rw [hset x (Ne.symm hix), hlx] at this; cases this
        ·rw [hx] at hx'; cases hx'
         refine ⟨by rw [vj v x hxl (Ne.symm hix)]; exact hW, fun k hk hne => ⟨fun hpk => ?_, fun u hu hlk => ?_⟩⟩
         ·by_cases hki : k = i
          ·subst hki; exact hseti
          ·rw [hset k hki]; exact (hall2 k hk hne).1 hpk
         ·by_cases hki : k = i
          ·subst hki; rw [hp] at hu; cases hu; rw [vi]; exact hv
          ·rw [hset k hki] at hlk; rw [vj v k hk hki]; exact (hall2 k hk hne).2 u hu hlk
     ·have hnot : ∀ x, xi = some x → listed.getD x false = false := fun x hx => by
       cases h : listed.getD x false with
       | false => rfl
       | true => exact absurd ⟨x, hx, h⟩ hL
      obtain ⟨hS, hcl⟩ := hpre hnot
      have hclw : ∀ j, waits o j = true → (tab j).P (valOf (l ++ [y]).toArray a' j) w' := fun j hj => hcl j (by have := hwl i o hoi' j hj; omega) (hlw j hj)
      have fin : ∀ v w2, S w' w2 → (tab i).P (seenV o v) w2 → wpAny P .any (l ++ [y]).toArray Q fuel (listed.setIfInBounds i true) (a'.put o.dst v) w2 := fun v w2 hS2 hv => by
       refine go v w2 (fun _ => ⟨htrans _ _ _ hS hS2, fun k hk hlk => ?_⟩) fun x hx hlx => ?_
       ·by_cases hki : k = i
        ·subst hki; rw [vi]; exact hv
        ·rw [hset k hki] at hlk; rw [vj v k hk hki]; exact (tab k).st _ _ _ hS2 (hcl k hk hlk)
       ·have hne : x ≠ i := fun e => hxi (by rw [hx, e])
        rw [hset x hne, hnot x hx] at hlx; cases hlx
      cases hp : pure i with
      | none => exact run _ (hop i o hoi' hxi hp a' w' hS hT hclw) fun v w2 hv => fin v w2 hv.1 hv.2
      | some v0 =>
       refine run _ (hpu i o v0 hoi' hxi hp a' w' hT (fun j u hj hu => (hcv j u _ w' hu).1 (hclw j hj)) (fun _ => hclw)) fun v w2 hv => ?_
       obtain ⟨rfl, hv⟩ := hv
       exact fin v w2 (hrefl _) ((hcv i v0 _ w2 hp).2 hv)
   ·have hie : i = l.length := by omega
    subst hie
    rw [hlast] at hoi
    cases hoi
    have hallj : ∀ j, j < l.length → listed.getD j false = true := fun j hj => cov (L := fun j => listed.getD j false = true) hlw hclo cy [] (fun _ h => by cases h) hyw.1 j (hyw.2 j hj)
    have hah : Ahead (l ++ [y]).toArray S tab pure W w l.length a' w' xi := by
     cases hx : xi with
     | none =>
      obtain ⟨hS, hcl⟩ := hpre (fun x h => by rw [hx] at h; cases h)
      exact ⟨hS, fun j hj => hcl j hj (hallj j hj)⟩
     | some x =>
      obtain ⟨hxl, _, _, _⟩ := hxs x hx
      obtain ⟨hW, hall2⟩ := hpost x hx (hallj x hxl)
      exact ⟨fun j v hj hne hp => (hall2 j hj hne).2 v hp (hallj j hj), hW⟩
    have hready : Region.ready .any (l ++ [y]).toArray (listed.setIfInBounds l.length true) = [] := by
     unfold Region.ready
     rw [List.filter_eq_nil_iff]
     intro j hj
     have hj' : j < l.length + 1 := by simpa using hj
     have hlj : (listed.setIfInBounds l.length true).getD j true = true := by
      by_cases h1 : j = l.length
      ·subst h1
       have : l.length < listed.size := by omega
       simp [this]
      ·rw [set_ne true (Ne.symm h1)]
       have h2 := hallj j (by omega)
       have : j < listed.size := by omega
       simpa [this] using h2
     rw [hlj]; simp
    have done : ∀ w2, Q .normal a' w2 → wpAny P .any (l ++ [y]).toArray Q fuel (listed.setIfInBounds l.length true) a' w2 := fun w2 hq => by
     cases fuel with
     | zero => exact ⟨hready, hq⟩
     | succ fuel => exact ⟨fun _ => hq, fun j hj => by rw [hready] at hj; cases hj⟩
    unfold wpOp
    rcases hyo a' w' hT hah with ⟨hw, h⟩ | ⟨hw, h⟩
    ·simp only [hlast, hw, if_true]
     refine .inl (Oper.wp_mono (fun a2 w2 h => ?_) (h Q))
     obtain ⟨v, rfl, hv⟩ := h
     rw [hyd]; exact done w2 hv
    ·simp only [hlast, hw, Bool.false_eq_true, if_false]
     rw [hyd]; exact done w' h
def lastO : List Oper → Option Oper
 | [] => none
 | [x] => some x
 | _ :: x :: xs => lastO (x :: xs)
theorem lastO_spec : ∀ (L : List Oper) (y : Oper), lastO L = some y → L = L.dropLast ++ [y]
 | [], y, h => by simp [lastO] at h
 | [x], y, h => by simp [lastO] at h; subst h; rfl
 | x :: z :: xs, y, h => by
  have := lastO_spec (z :: xs) y (by simpa [lastO] using h)
  rw [List.dropLast_cons_cons, List.cons_append, ← this]
def OblL (P : Program) (ops : Array Oper) (S : World → World → Prop) (n : Nat) (T : List (Nat × Value)) (tab : Nat → Cl S) (xi : Option Nat) (pure : Nat → Option Value) (W : Value → World → Prop) (w : World) (i : Nat) (o : Oper) : Prop :=
 (xi ≠ some i ∧ pure i = none ∧ Obl P ops S n T tab w i o) ∨
 (xi ≠ some i ∧ ∃ v, pure i = some v ∧ ∀ a' w', St n T a' → (∀ j u, waits o j = true → pure j = some u → valOf ops a' j = u) → (xi = none → ∀ j, waits o j = true → (tab j).P (valOf ops a' j) w') → Does P ops o a' w' fun v' w'' => w'' = w' ∧ seenV o v' = v) ∨
 (xi = some i ∧ ∀ a' w', S w w' → St n T a' → (∀ j, waits o j = true → (tab j).P (valOf ops a' j) w') → Does P ops o a' w' fun v w'' => W (seenV o v) w'')
def EachD (P : Program) (ops : Array Oper) (S : World → World → Prop) (n : Nat) (T : List (Nat × Value)) (tab : Nat → Cl S) (xi : Option Nat) (pure : Nat → Option Value) (W : Value → World → Prop) (w : World) (k : Nat) (L : List Oper) : Prop :=
 ∀ i o, L.dropLast[i]? = some o → OblL P ops S n T tab xi pure W w (k + i) o
theorem eachD_one {ops : Array Oper} {tab : Nat → Cl S} {xi : Option Nat} {pure : Nat → Option Value} {W : Value → World → Prop} {k : Nat} {o : Oper} : EachD P ops S n T tab xi pure W w k [o] := fun i p h => by simp at h
theorem ed_ {ops : Array Oper} {tab : Nat → Cl S} {xi : Option Nat} {pure : Nat → Option Value} {W : Value → World → Prop} {k : Nat} {o p : Oper} {L : List Oper} (h : OblL P ops S n T tab xi pure W w k o) (ht : EachD P ops S n T tab xi pure W w (k + 1) (p :: L)) : EachD P ops S n T tab xi pure W w k (o :: p :: L) := fun i q hq => by
 rw [List.dropLast_cons_cons] at hq
 cases i with
 | zero => simp at hq; subst hq; exact h
 | succ i => have := ht i q (by simpa using hq); rwa [show k + 1 + i = k + (i + 1) by omega] at this
theorem drawnL {id : Nat} {L : List Oper} {a : Act} (hy : lastO L = some y) (tab : Nat → Cl S) (xi : Option Nat) (pure : Nat → Option Value) (W : Value → World → Prop) (cy cx : List Nat) (hm : P.follows .mixedOrders = true) (hrefl : ∀ w, S w w) (htrans : ∀ a b c, S a b → S b c → S a c) (hA : St n T a)
  (hfit : fitB L.dropLast.toArray n T = true) (hlate : lateB L.dropLast y xi (fun i => (pure i).isSome) cy cx = true) (hcv : ∀ i v u w', pure i = some v → ((tab i).P u w' ↔ u = v))
  (hop : EachD P L.toArray S n T tab xi pure W w.drew 0 L)
  (hyo : ∀ a' w', St n T a' → Ahead L.toArray S tab pure W w.drew (L.length - 1) a' w' xi → Does P L.toArray y a' w' fun _ w'' => Q .normal a' w'') : (Code.region id L.toArray true).wp P Q a w := by
 have hL := lastO_spec L y hy
 have hl : L.dropLast.length = L.length - 1 := by simp
 generalize hD : L.dropLast = D at *
 have hops : L.toArray = (D ++ [y]).toArray := by rw [hL]
 rw [hops] at hop hyo ⊢
 rw [← hl] at hyo
 have hop' : ∀ i o, D[i]? = some o → OblL P (D ++ [y]).toArray S n T tab xi pure W w.drew i o := fun i o h => by
  have := hop i o (by rw [hD]; exact h)
  rwa [Nat.zero_add] at this
 refine wp_region_any hm ?_
 refine late_any (w := w.drew) tab xi pure W hrefl htrans hfit hlate hcv (fun i o h h1 h2 => ?_) (fun i o v h h1 h2 => ?_) (fun x o h h1 => ?_) hyo _ _ _ _ (by simp) (by simp) ?_ hA (fun m p _ h => ?_) (fun _ => ⟨hrefl _, fun i _ hi => ?_⟩) (fun x _ hx => ?_)
 ·rcases hop' i o h with ⟨_, _, h3⟩ | ⟨_, v, h3, _⟩ | ⟨h3, _⟩
  ·exact h3
  ·rw [h2] at h3; cases h3
  ·exact absurd h3 h1
 ·rcases hop' i o h with ⟨_, h3, _⟩ | ⟨_, v', h3, h4⟩ | ⟨h3, _⟩
  ·rw [h2] at h3; cases h3
  ·rw [h2] at h3; cases h3; exact h4
  ·exact absurd h3 h1
 ·rcases hop' x o h1 with ⟨h3, _⟩ | ⟨h3, _⟩ | ⟨_, h4⟩
  ·exact absurd h h3
  ·exact absurd h h3
  ·exact h4
 ·exact Nat.le_trans (List.length_filter_le _ _) (by simp)
 ·exfalso
  simp [Array.getD_eq_getD_getElem?, Array.getElem?_replicate] at h; split at h <;> simp at h
 ·exfalso
  simp [Array.getD_eq_getD_getElem?, Array.getElem?_replicate] at hi; split at hi <;> simp at hi
 ·exfalso
  simp [Array.getD_eq_getD_getElem?, Array.getElem?_replicate] at hx; split at hx <;> simp at hx
end
section
variable {P : Program} {ops : Array Oper} {a : Act} {w : World} {K : Value → World → Prop} {d : Option Tmp} {ty : TypeId} {pos : String} {af : Array Edge} {gd : Option (Nat × Bool)} {v : Value}
def elemB (P : Program) (t e s by_ : Nat) : Bool := sliceB P t e s && (match P.info? e with | some i => (match i.zero with | some z => z.cells.size == s | none => false) && i.bytes == by_ | none => false) && decide (0 < s)
theorem elem_facts {t e s by_ : Nat} (h : elemB P t e s by_ = true) : ∃ i z, P.underlying t = some (.slice e) ∧ P.info? e = some i ∧ i.zero = some z ∧ i.size = s ∧ i.bytes = by_ ∧ z.cells.size = s ∧ 0 < s := by
 unfold elemB at h
 rw [Bool.and_eq_true, Bool.and_eq_true, decide_eq_true_eq] at h
 obtain ⟨⟨h1, h2⟩, h3⟩ := h
 obtain ⟨h4, h5⟩ := slice_facts h1
 cases hq : P.info? e with
 | none => simp [hq] at h2
 | some i =>
  cases hz : i.zero with
  | none => simp [hq, hz] at h2
  | some z => simp [hq, hz] at h2 h5; exact ⟨i, z, h4, rfl, hz, h5, h2.2, h2.1, h3⟩
theorem d_slice1 {t e s by_ : Nat} {x : Operand} (hw : Region.wanted { dst := d, op := .buildSlice t 1 #[(0, x)], type := ty, pos := pos, after := af, guard := gd } (yielded ops a.tmps) = true) (hx : a.eval x = v) (ht : elemB P t e s by_ = true) (hs : v.cells.size = s) (hsm : s ≤ 1000)
  (h : ∀ g w', g = w.heap.size → Grow w w' → Blk w' g v.cells e → K (.slice (some ⟨g, 0, none⟩) 1 1) w') : Does P ops { dst := d, op := .buildSlice t 1 #[(0, x)], type := ty, pos := pos, after := af, guard := gd } a w K := by
 obtain ⟨i, z, hu, hi, hz, hsz, _, hzs, h0⟩ := elem_facts ht
 refine does_val (w' := w.alloc (.cells v.cells e)) hw ?_ (h _ _ rfl ((Grow.refl _).alloc _) (heap_alloc_last w _))
 have hfill : Instr.fill (fun j => some (j * i.size, i.size)) ((Array.range (1 * i.size)).map (z.cells[· % z.cells.size]!)) [(0, v)] = some v.cells := by
  simp only [Instr.fill, hsz, Nat.zero_mul, Nat.one_mul, Array.size_map, Array.size_range]
  rw [if_neg (by simp [hs])]
  congr 1
  have key : ∀ (c : List Value) (k : Nat) (Z : Array Value), k + c.length = Z.size → ((c.zipIdx k).foldl (fun cs (x : Value × Nat) => cs.setIfInBounds (0 + x.2) x.1) Z).toList = Z.toList.take k ++ c := by
   intro c
   induction c with
   | nil => intro k Z hk; simp at hk ⊢; rw [List.take_of_length_le (by simp; omega)]
   | cons u c ih =>
    intro k Z hk
    simp only [List.length_cons] at hk
    rw [List.zipIdx_cons, List.foldl_cons, ih (k + 1) _ (by simp; omega)]
    simp only [Nat.zero_add, Array.toList_setIfInBounds]
    have hk' : k < Z.toList.length := by simp; omega
    rw [List.take_add_one, List.getElem?_set_self hk']
    simp [List.take_set_of_le]
  have hz2 := key v.cells.toList 0 ((Array.range s).map (z.cells[· % z.cells.size]!)) (by simp [hs])
  apply Array.ext'
  rw [← Array.foldl_toList, Array.toList_zipIdx]
  simpa using hz2
 have := run_buildSlice (P := P) w t e 1 #[(0, v)] v.cells i z hu hi hz (by rw [hsz]; omega) (by rw [hsz]; omega) (by simpa using hfill)
 unfold execOp
 simp only [Sem.run_bind, List.map_toArray, List.map_cons, List.map_nil, hx, this, Result.andThen_ok, Sem.run_pure]
theorem d_append {t e s by_ B n gb : Nat} {x y : Operand} {xs : List Value} {cs : Array Value} (hw : Region.wanted { dst := d, op := .call { callee := .builtin .append, args := #[x, y], argTypes := #[t, t] }, type := ty, pos := pos, after := af, guard := gd } (yielded ops a.tmps) = true) (hx : a.eval x = v) (hy : a.eval y = .slice (some ⟨gb, 0, none⟩) 1 1)
  (ht : elemB P t e s by_ = true) (hown : w.ownsRow B e s v n xs) (hb : Blk w gb cs e) (hcs : cs.size = s) (h1 : cs.toList.all (·.oneCell') = true) (hn : n ≤ 1000000) (hby : by_ ≤ 10000) (hB : B ≤ w.heap.size)
  (h : ∀ v' w', w'.ownsRow B e s v' (n + 1) (xs ++ cs.toList) → w.grownBy w' v.ownBlock → (v'.ownBlock = v.ownBlock ∨ v'.ownBlock = some w.heap.size) → K v' w') :
  Does P ops { dst := d, op := .call { callee := .builtin .append, args := #[x, y], argTypes := #[t, t] }, type := ty, pos := pos, after := af, guard := gd } a w K := by
 obtain ⟨i, z, hu, hi, hz, hsz, hbz, hzs, h0⟩ := elem_facts ht
 have hmul : (n + 1) * by_ ≤ 1000001 * 10000 := Nat.mul_le_mul (by omega) hby
 obtain ⟨v', w', hr, h2, h3, _, h5⟩ := run_append_own_at (P := P) w B t ty e i z s by_ hu hi hz hsz hbz hzs h0 v n xs hown ⟨gb, 0, none⟩ 1 1 cs.toList (by simp [hcs])
  (fun j u hj => by rw [Addr.add_mid, Nat.zero_add]; exact hb.cell (by simpa using hj)) (fun u hu => (List.all_eq_true.1 h1) u hu) (by simp only [maxLen]; omega) (by omega) hB
 refine does_val hw ?_ (h v' w' h2 h3 h5)
 unfold execOp
 simp only [resolve, invoke, builtin, Sem.run_bind, Sem.run_pure, Result.andThen_ok, List.map_toArray, List.map_cons, List.map_nil, hx, hy, hr]
end
theorem own_lt {w : World} {b : Nat} {e : TypeId} {s n : Nat} {v : Value} {xs : List Value} (h : w.ownsRow b e s v n xs) : ∀ k, v.ownBlock = some k → b ≤ k ∧ k < w.heap.size := by
 intro k hk
 rcases h.2 with ⟨rfl, _⟩ | ⟨g, cap, cur, rfl, hb, hg, _⟩
 ·simp [Value.ownBlock] at hk
 ·simp [Value.ownBlock] at hk; subst hk; exact ⟨hb, (Array.getElem?_eq_some_iff.1 hg).1⟩
def cs1 (M : Nat → Option (Array Value)) (hM : ∀ k, M k = none) (cs : Array Value) (e : TypeId) : Cl (SM M) :=
 ⟨fun v w => ∃ g, v = .slice (some ⟨g, 0, none⟩) 1 1 ∧ Blk w g cs e, fun _ _ _ hS ⟨g, h1, h2⟩ => ⟨g, h1, h2.sm hS (hM g)⟩⟩
theorem own_form {w : World} {b : Nat} {e : TypeId} {s n : Nat} {v : Value} {xs : List Value} (h : w.ownsRow b e s v n xs) : ∃ ao cap, v = .slice ao n cap := by
 rcases h.2 with ⟨rfl, rfl⟩ | ⟨g, cap, cur, rfl, _⟩
 ·exact ⟨none, 0, rfl⟩
 ·exact ⟨_, cap, rfl⟩
theorem own_new {w : World} {b g : Nat} {e : TypeId} {s n : Nat} {v : Value} {xs : List Value} (h : w.ownsRow b e s v n xs) (hg : g = w.heap.size) : v.ownBlock ≠ some g := fun hk => by
 have := (own_lt h _ hk).2; omega
theorem owg {w w' : World} {b : Nat} {e : TypeId} {s n : Nat} {v : Value} {xs : List Value} (hg : Grow w w') (h : w.ownsRow b e s v n xs) : w'.ownsRow b e s v n xs := by
 obtain ⟨h1, h2⟩ := h
 refine ⟨h1, ?_⟩
 rcases h2 with h2 | ⟨g, cap, cur, hv, hb, hgg, h3⟩
 ·exact .inl h2
 ·exact .inr ⟨g, cap, cur, hv, hb, by rw [hg.block g (Array.getElem?_eq_some_iff.1 hgg).1]; exact hgg, h3⟩
theorem own_sm {M : Nat → Option (Array Value)} {w w' : World} {b : Nat} {e : TypeId} {s n : Nat} {v : Value} {xs : List Value} (h : w.ownsRow b e s v n xs) (hS : SM M w w') (hM : ∀ k, M k = none) : w'.ownsRow b e s v n xs := by
 obtain ⟨h1, h2⟩ := h
 refine ⟨h1, ?_⟩
 rcases h2 with h2 | ⟨g, cap, cur, hv, hb, hgg, h3⟩
 ·exact .inl h2
 ·exact .inr ⟨g, cap, cur, hv, hb, by rw [hS.block g (Array.getElem?_eq_some_iff.1 hgg).1 (hM g)]; exact hgg, h3⟩
theorem own_keep {w w' : World} {b : Nat} {e : TypeId} {s n : Nat} {v : Value} {xs : List Value} (h : w.ownsRow b e s v n xs) (hk : ∀ k, v.ownBlock = some k → w'.heap[k]? = w.heap[k]?) : w'.ownsRow b e s v n xs := by
 obtain ⟨h1, h2⟩ := h
 refine ⟨h1, ?_⟩
 rcases h2 with h2 | ⟨g, cap, cur, hv, hb, hgg, h3⟩
 ·exact .inl h2
 ·exact .inr ⟨g, cap, cur, hv, hb, by rw [hk g (by rw [hv]; rfl)]; exact hgg, h3⟩
theorem own_upd {w w' : World} {b g : Nat} {e : TypeId} {s n : Nat} {v : Value} {xs : List Value} (h : w.ownsRow b e s v n xs) (hu : Upd g w w') (hne : v.ownBlock ≠ some g) : w'.ownsRow b e s v n xs :=
 own_keep h fun k hk => hu.block k (fun e => hne (by rw [← e]; exact hk))
theorem Blk.by {w w' : World} {g : Nat} {cs : Array Value} {t : TypeId} {u : Value} (h : Blk w g cs t) (hg : w.grownBy w' u.ownBlock) (hne : u.ownBlock ≠ some g) : Blk w' g cs t := by
 unfold Blk; rw [hg.block g h.lt (fun e => hne e.symm)]; exact h
theorem below_by {B : Nat} {a w w' : World} {u : Value} (h : Below B a w) (hg : w.grownBy w' u.ownBlock) (hB : B ≤ w.heap.size) (hr : ∀ k, u.ownBlock = some k → B ≤ k) : Below B a w' := h.grown hg hB hr
theorem lies_ne {w : World} {v v' : Value} {g : Nat} (hl : v'.ownBlock = v.ownBlock ∨ v'.ownBlock = some w.heap.size) (h : v.ownBlock ≠ some g) (hg : g < w.heap.size) : v'.ownBlock ≠ some g := by
 rcases hl with hl | hl
 ·rw [hl]; exact h
 ·rw [hl]; intro e; cases e; omega
section
variable {P : Program} {l : List Oper} {Q : Exit → Act → World → Prop} {S : World → World → Prop} {n : Nat} {T : List (Nat × Value)} {w : World}
end
section
variable {B0 : Nat} {Z R : Array Value} {t : TypeId} {w w' : World}
end
section
variable {P : Program} {ops : Array Oper} {a : Act} {w : World} {K : Value → World → Prop} {d : Option Tmp} {ty : TypeId} {pos : String} {af : Array Edge} {gd : Option (Nat × Bool)} {v : Value}
theorem d_none {t e s by_ : Nat} (hw : Region.wanted { dst := d, op := .buildSlice t 0 #[], type := ty, pos := pos, after := af, guard := gd } (yielded ops a.tmps) = true) (ht : elemB P t e s by_ = true)
  (h : ∀ g w', g = w.heap.size → Grow w w' → Blk w' g #[] e → K (.slice (some ⟨g, 0, none⟩) 0 0) w') : Does P ops { dst := d, op := .buildSlice t 0 #[], type := ty, pos := pos, after := af, guard := gd } a w K := by
 obtain ⟨i, z, hu, hi, hz, hsz, _, hzs, h0⟩ := elem_facts ht
 refine does_val (w' := w.alloc (.cells #[] e)) hw ?_ (h _ _ rfl ((Grow.refl _).alloc _) (heap_alloc_last w _))
 have : (Instr.buildSlice t 0 #[]).run P w = .ok (.slice (some ⟨w.heap.size, 0, none⟩) 0 0) (w.alloc (.cells #[] e)) := by
  simp [Instr.buildSlice, run_underlying hu, sizeOf, typeInfo, hi, Instr.fill, newRow]
  congr 1
  congr 1
  apply Array.ext'
  simp
 unfold execOp
 simp only [Sem.run_bind, List.map_toArray, List.map_nil, this, Result.andThen_ok, Sem.run_pure]
theorem d_copyF {α : Type} {enc : α → List Value} {t e s by_ B g : Nat} {x y : Operand} {l : List α} (hw : Region.wanted { dst := d, op := .call { callee := .builtin .append, args := #[x, y], argTypes := #[t, t] }, type := ty, pos := pos, after := af, guard := gd } (yielded ops a.tmps) = true) (hx : a.eval x = .slice (some ⟨g, 0, none⟩) 0 0) (hb : Blk w g #[] e) (hy : a.eval y = v)
  (ht : elemB P t e s by_ = true) (hs : Sl enc s B w v l) (hel : ∀ x, (enc x).length = s) (he1 : ∀ x, ∀ u ∈ enc x, u.oneCell' = true) (hn : l.length ≤ 1000000) (hby : by_ ≤ 10000)
  (h : ∀ v' w', Grow w w' → w'.ownsRow g e s v' l.length (l.flatMap enc) → (∃ g' cap', v' = .slice (some ⟨g', 0, none⟩) l.length cap') → K v' w') :
  Does P ops { dst := d, op := .call { callee := .builtin .append, args := #[x, y], argTypes := #[t, t] }, type := ty, pos := pos, after := af, guard := gd } a w K := by
 obtain ⟨i, z, hu, hi, hz, hsz, hbz, hzs, h0⟩ := elem_facts ht
 obtain ⟨ao, cap, rfl, hlc, hel'⟩ := hs
 have hfl : ∀ l : List α, (l.flatMap enc).length = l.length * s := fun l => by
  induction l with
  | nil => simp
  | cons c l ih => rw [List.flatMap_cons, List.length_append, ih, hel, List.length_cons, Nat.add_mul, Nat.one_mul, Nat.add_comm]
 have hone : ∀ u ∈ l.flatMap enc, u.oneCell' = true := fun u hu => by
  obtain ⟨c, _, hc⟩ := List.mem_flatMap.1 hu
  exact he1 c u hc
 have hat : ∀ (l : List α) (j : Nat) u, (l.flatMap enc)[j]? = some u → ∃ k c q, l[k]? = some c ∧ (enc c)[q]? = some u ∧ j = k * s + q := fun l => by
  induction l with
  | nil => intro j u hj; simp at hj
  | cons c l ih =>
   intro j u hj
   rw [List.flatMap_cons] at hj
   by_cases hlt : j < (enc c).length
   ·rw [List.getElem?_append_left hlt] at hj; exact ⟨0, c, j, by simp, hj, by omega⟩
   ·rw [List.getElem?_append_right (by omega)] at hj
    obtain ⟨k, c', q, h1, h2, h3⟩ := ih _ _ hj
    rw [hel] at h3 hlt
    exact ⟨k + 1, c', q, by simpa using h1, h2, by rw [Nat.add_mul, Nat.one_mul]; omega⟩
 cases l with
 | nil =>
  have hsrc : Src P i.size t (.slice ao 0 cap) 0 [] w := by
   cases ao with
   | none => exact Src.ofNil w hu cap
   | some x0 => exact Src.ofSlice w hu x0 0 cap [] (by simp) (fun j u hj => by simp at hj) (fun u hu => by cases hu)
  have hr := run_append_nothing (P := P) w t t ty e i hu hi (some ⟨g, 0, none⟩) 0 0 (Nat.le_refl _) _ hsrc
  refine does_val hw ?_ (h (.slice (some ⟨g, 0, none⟩) 0 0) w (Grow.refl _) ⟨by simp, .inr ⟨g, 0, #[], rfl, Nat.le_refl _, hb, Nat.le_refl _, by simp [maxLen], by simp, by simp⟩⟩ ⟨_, _, rfl⟩)
  unfold execOp
  simp only [resolve, invoke, builtin, Sem.run_bind, Sem.run_pure, Result.andThen_ok, List.map_toArray, List.map_cons, List.map_nil, List.length_nil, hx, hy, hr]
 | cons c l =>
  obtain ⟨b, o, rfl, _, _⟩ := hel' 0 c (by simp)
  have hsrc : Src P i.size t (.slice (some ⟨b, o, none⟩) (c :: l).length cap) (c :: l).length ((c :: l).flatMap enc) w := by
   refine Src.ofSlice w hu _ _ cap _ (by rw [hfl, hsz]) (fun j u hj => ?_) hone
   obtain ⟨k, c', q, h1, h2, rfl⟩ := hat _ j u hj
   obtain ⟨b', o', h3, _, h5⟩ := hel' k c' h1
   simp at h3
   obtain ⟨rfl, rfl⟩ := h3
   rw [Addr.add_mid, show o + (k * s + q) = o + k * s + q by omega]
   exact h5 q u h2
  have hpos : 0 < (c :: l).length := by simp
  have hcap : Builtin.nextslicecap (0 + (c :: l).length) 0 = (c :: l).length := by unfold Builtin.nextslicecap; rw [if_pos (by omega)]; omega
  have hmul : (c :: l).length * i.bytes ≤ 1000000 * 10000 := Nat.mul_le_mul hn (by omega)
  have hr := run_append_grow_src (P := P) w t t ty e i z hu hi hz (some ⟨g, 0, none⟩) 0 0 [] (by simp [Builtin.firstCells, loadCells, loadCellsFrom]) _ _ _ hsrc (by omega) (by omega) (by rw [hcap]; omega)
  have hge := grownCap_ge w (0 + (c :: l).length) 0 e
  have hcm : grownCap w (0 + (c :: l).length) 0 e ≤ maxLen := grownCap_le_maxLen w (0 + (c :: l).length) 0 e (by simp only [maxLen]; omega)
  have hown : (w.drew.alloc (.cells (([] ++ (c :: l).flatMap enc).toArray ++ Builtin.zeroCells z.cells (grownCap w (0 + (c :: l).length) 0 e - (0 + (c :: l).length))) e)).ownsRow g e s (.slice (some ⟨w.heap.size, 0, none⟩) (c :: l).length (grownCap w (0 + (c :: l).length) 0 e)) (c :: l).length ((c :: l).flatMap enc) := by
   refine ⟨hfl _, .inr ⟨w.heap.size, _, _, rfl, Nat.le_of_lt hb.lt, heap_alloc_new w.drew _, (by rw [Nat.zero_add] at hge ⊢; exact hge), hcm, ?_, ?_⟩⟩
   ·simp only [Array.size_append, List.size_toArray, size_zeroCells, hzs, List.nil_append, hfl, ← Nat.add_mul]
    congr 1
    omega
   ·simp only [Array.toList_append, List.nil_append]
    rw [← hfl]
    exact List.take_left
  refine does_val hw ?_ (h _ _ (((Grow.refl w).drew).alloc _) hown ⟨_, _, rfl⟩)
  unfold execOp
  simp only [resolve, invoke, builtin, Sem.run_bind, Sem.run_pure, Result.andThen_ok, List.map_toArray, List.map_cons, List.map_nil, hx, hy, hr]
  rw [Nat.zero_add]
theorem d_copy {α : Type} {enc : α → List Value} {t e s by_ B g : Nat} {x y : Operand} {l : List α} (hw : Region.wanted { dst := d, op := .call { callee := .builtin .append, args := #[x, y], argTypes := #[t, t] }, type := ty, pos := pos, after := af, guard := gd } (yielded ops a.tmps) = true) (hx : a.eval x = .slice (some ⟨g, 0, none⟩) 0 0) (hb : Blk w g #[] e) (hy : a.eval y = v)
  (ht : elemB P t e s by_ = true) (hs : Sl enc s B w v l) (hel : ∀ x, (enc x).length = s) (he1 : ∀ x, ∀ u ∈ enc x, u.oneCell' = true) (hn : l.length ≤ 1000000) (hby : by_ ≤ 10000)
  (h : ∀ v' w', Grow w w' → w'.ownsRow g e s v' l.length (l.flatMap enc) → K v' w') :
  Does P ops { dst := d, op := .call { callee := .builtin .append, args := #[x, y], argTypes := #[t, t] }, type := ty, pos := pos, after := af, guard := gd } a w K :=
 d_copyF hw hx hb hy ht hs hel he1 hn hby fun v' w' h1 h2 _ => h v' w' h1 h2
end
theorem own_gen {α : Type} {enc : α → List Value} {w : World} {b e s : Nat} {v : Value} {l : List α} (hel : ∀ x, (enc x).length = s) (h : w.ownsRow b e s v l.length (l.flatMap enc)) : Sl enc s w.heap.size w v l := by
 obtain ⟨h1, h2⟩ := h
 rcases h2 with ⟨rfl, h2⟩ | ⟨g, cap, cur, hv, hb, hg, hc, _, hs, ht⟩
 ·have : l = [] := List.eq_nil_of_length_eq_zero h2
  subst this; exact Sl.nil
 ·refine ⟨some ⟨g, 0, none⟩, cap, hv, hc, fun j x hx => ⟨g, 0, rfl, (Array.getElem?_eq_some_iff.1 hg).1, fun k u hu => ?_⟩⟩
  rw [cell_of_row w g _ cur _ _ hg]
  have hk : k < s := by have := get_lt hu; rwa [hel] at this
  have hj := get_lt hx
  have key : ∀ (l : List α) (j : Nat) (x : α), l[j]? = some x → (enc x)[k]? = some u → (l.flatMap enc)[j * s + k]? = some u := by
   intro l
   induction l with
   | nil => intro j x hx; simp at hx
   | cons c l ih =>
    intro j x hx hu
    rw [List.flatMap_cons]
    cases j with
    | zero =>
     simp at hx; subst hx
     rw [Nat.zero_mul, Nat.zero_add, List.getElem?_append_left (by rw [hel]; exact hk)]; exact hu
    | succ j =>
     rw [List.getElem?_append_right (by rw [hel, Nat.add_mul]; omega), hel, show (j + 1) * s + k - s = j * s + k by rw [Nat.add_mul]; omega]
     exact ih j x (by simpa using hx) hu
  have hlt : j * s + k < l.length * s := by
   have := Nat.mul_le_mul_right s (show j + 1 ≤ l.length by omega)
   rw [Nat.add_mul] at this; omega
  have h3 : (cur.toList.take (l.length * s))[j * s + k]? = some u := by rw [ht]; exact key l j x hx hu
  rw [List.getElem?_take_of_lt hlt] at h3
  rw [Nat.zero_add, ← Array.getElem?_toList]; exact h3
section
variable {P : Program} {l ys : List Oper} {Q : Exit → Act → World → Prop} {S : World → World → Prop} {n fu : Nat} {T : List (Nat × Value)} {w : World}
end
def S (l : List UInt8) : ByteArray := ⟨l.toArray⟩
theorem S_size (l : List UInt8) : (S l).size = l.length := by unfold S; rfl
theorem S_at (l : List UInt8) (i : Nat) : (S l)[i]? = l[i]? := by
 by_cases h : i < l.length
 ·rw [List.getElem?_eq_getElem h, getElem?_pos (S l) i (by rw [S_size]; exact h)]; rfl
 ·rw [List.getElem?_eq_none (by omega), getElem?_neg (S l) i (by rw [S_size]; exact h)]
theorem S_of (s : ByteArray) : S s.data.toList = s := by unfold S; cases s; simp
theorem S_data (l : List UInt8) : (S l).data.toList = l := by unfold S; simp
theorem S_list (l : List UInt8) : (S l).toList = l := Go.ByteArray.toList_mk l
theorem S_part (l : List UInt8) (i j : Nat) : (S l).extract i j = S ((l.take j).drop i) := by
 have : ((S l).extract i j).data = (S ((l.take j).drop i)).data := by rw [ByteArray.data_extract]; unfold S; simp [List.drop_take]
 cases h : (S l).extract i j; cases h2 : S ((l.take j).drop i); rw [h, h2] at this; simp at this; rw [this]
theorem S_rest (l : List UInt8) (i : Nat) : (S l).extract i l.length = S (l.drop i) := by rw [S_part, List.take_length]
theorem S_join (l m : List UInt8) : S l ++ S m = S (l ++ m) := Go.ByteArray.mk_append_mk l m
def strB (P : Program) (t : TypeId) : Bool := match P.underlying t with | some .string => true | _ => false
theorem str_fact {P : Program} {t : TypeId} (h : strB P t = true) : P.underlying t = some .string := by
 unfold strB at h; split at h
 ·assumption
 ·cases h
section
variable {P : Program} {ops : Array Oper} {a : Act} {w : World} {K : Value → World → Prop} {d : Option Tmp} {ty : TypeId} {pos : String} {af : Array Edge} {gd : Option (Nat × Bool)} {v : Value}
theorem d_slen {x : Operand} {t : Nat} {l : List UInt8} (hw : Region.wanted { dst := d, op := .call { callee := .builtin .len, args := #[x], argTypes := #[t] }, type := ty, pos := pos, after := af, guard := gd } (yielded ops a.tmps) = true) (hx : a.eval x = .string (S l)) (ht : strB P t = true)
  (h : K (.int .i64 (l.length : Int)) w) : Does P ops { dst := d, op := .call { callee := .builtin .len, args := #[x], argTypes := #[t] }, type := ty, pos := pos, after := af, guard := gd } a w K :=
 does_val hw (by
  have hm : (#[x] : Array Operand).map a.eval = #[.string (S l)] := by simp only [List.map_toArray, List.map_cons, List.map_nil]; rw [hx]
  unfold execOp
  simp only [resolve, Sem.run_bind, Sem.run_pure, Result.andThen_ok, invoke, builtin, hm]
  simp [Builtin.len_, run_underlying (str_fact ht), goInt, S_size]) h
theorem d_sat {x ix : Operand} {t j : Nat} {l : List UInt8} {b : UInt8} (hw : Region.wanted { dst := d, op := .index t x ix, type := ty, pos := pos, after := af, guard := gd } (yielded ops a.tmps) = true) (hx : a.eval x = .string (S l)) (hi : a.eval ix = .int .i64 (j : Int)) (ht : strB P t = true) (hb : l[j]? = some b)
  (h : K (.int .u8 (b.toNat : Int)) w) : Does P ops { dst := d, op := .index t x ix, type := ty, pos := pos, after := af, guard := gd } a w K :=
 does_val hw (by
  have h3 : (Instr.index t (.string (S l)) (.int .i64 (j : Int))).run P w = .ok (.int .u8 (b.toNat : Int)) w := by
   unfold Instr.index
   have h0 : (0 : Int) ≤ (j : Int) := by omega
   simp only [asIntOf, Sem.run_bind, Sem.run_pure, Result.andThen_ok, run_underlying (str_fact ht), if_pos h0, Int.toNat_natCast, S_at, hb]
  unfold execOp
  simp only [hx, hi, Sem.run_bind, h3, Sem.run_pure, Result.andThen_ok]) h
theorem d_srest {x y : Operand} {t n : Nat} {l : List UInt8} (hw : Region.wanted { dst := d, op := .slice t x (some y) none none, type := ty, pos := pos, after := af, guard := gd } (yielded ops a.tmps) = true) (hx : a.eval x = .string (S l)) (hy : a.eval y = .int .i64 (n : Int)) (ht : strB P t = true) (hn : n ≤ l.length)
  (h : K (.string (S (l.drop n))) w) : Does P ops { dst := d, op := .slice t x (some y) none none, type := ty, pos := pos, after := af, guard := gd } a w K := by
 refine does_val hw ?_ h
 have hsb : (Instr.sliceBounds false l.length l.length (some (.int .i64 (n : Int))) none none).run P w = .ok (n, l.length, l.length) w := by
  simp [Instr.sliceBounds, run_sliceBound (P := P) w .i64 n l.length .sliceB (by omega) (by omega)]
 unfold execOp
 simp only [Option.map_some, Option.map_none, hx, hy, Instr.sliceAt, Instr.slice, run_underlying (str_fact ht), Sem.run_bind, Sem.run_pure, Result.andThen_ok, S_size, hsb, S_rest, Option.isSome_none, Bool.false_eq_true, if_false]
theorem d_shead {x y : Operand} {t n : Nat} {l : List UInt8} (hw : Region.wanted { dst := d, op := .slice t x none (some y) none, type := ty, pos := pos, after := af, guard := gd } (yielded ops a.tmps) = true) (hx : a.eval x = .string (S l)) (hy : a.eval y = .int .i64 (n : Int)) (ht : strB P t = true) (hn : n ≤ l.length)
  (h : K (.string (S (l.take n))) w) : Does P ops { dst := d, op := .slice t x none (some y) none, type := ty, pos := pos, after := af, guard := gd } a w K := by
 refine does_val hw ?_ h
 have hsb : (Instr.sliceBounds false l.length l.length none (some (.int .i64 (n : Int))) none).run P w = .ok (0, n, l.length) w := by
  simp [Instr.sliceBounds, run_sliceBound (P := P) w .i64 n l.length .sliceAlen (by omega) (by omega)]
 unfold execOp
 simp only [Option.map_some, Option.map_none, hx, hy, Instr.sliceAt, Instr.slice, run_underlying (str_fact ht), Sem.run_bind, Sem.run_pure, Result.andThen_ok, S_size, hsb, S_part, List.drop_zero, Option.isSome_none, Bool.false_eq_true, if_false]
theorem d_spart {x y z : Operand} {t m n : Nat} {l : List UInt8} (hw : Region.wanted { dst := d, op := .slice t x (some y) (some z) none, type := ty, pos := pos, after := af, guard := gd } (yielded ops a.tmps) = true) (hx : a.eval x = .string (S l)) (hy : a.eval y = .int .i64 (m : Int)) (hz : a.eval z = .int .i64 (n : Int)) (ht : strB P t = true) (hm : m ≤ n) (hn : n ≤ l.length)
  (h : K (.string (S ((l.take n).drop m))) w) : Does P ops { dst := d, op := .slice t x (some y) (some z) none, type := ty, pos := pos, after := af, guard := gd } a w K := by
 refine does_val hw ?_ h
 have hsb : (Instr.sliceBounds false l.length l.length (some (.int .i64 (m : Int))) (some (.int .i64 (n : Int))) none).run P w = .ok (m, n, l.length) w := by
  simp [Instr.sliceBounds, run_sliceBound (P := P) w .i64 n l.length .sliceAlen (by omega) (by omega), run_sliceBound (P := P) w .i64 m n .sliceB (by omega) (by omega)]
 unfold execOp
 simp only [Option.map_some, Option.map_none, hx, hy, hz, Instr.sliceAt, Instr.slice, run_underlying (str_fact ht), Sem.run_bind, Sem.run_pure, Result.andThen_ok, S_size, hsb, S_part, Option.isSome_none, Bool.false_eq_true, if_false]
theorem b_seq {l m : List UInt8} {t : TypeId} {x y : Operand} {r : Bool} (h : (l == m) = r) : (eqGuard .eql t x y (.string (S l)) (.string (S m))).run P w = .ok () w ∧ (binOp .eql t (.string (S l)) (.string (S m))).run P w = .ok (.bool r) w := by
 subst h; exact ⟨by simp [eqGuard], by simp [binOp, Op.stringOp, S_list]⟩
theorem b_sne {l m : List UInt8} {t : TypeId} {x y : Operand} {r : Bool} (h : (!(l == m)) = r) : (eqGuard .neq t x y (.string (S l)) (.string (S m))).run P w = .ok () w ∧ (binOp .neq t (.string (S l)) (.string (S m))).run P w = .ok (.bool r) w := by
 subst h; exact ⟨by simp [eqGuard], by simp [binOp, Op.stringOp, S_list]⟩
theorem b_sadd {l m : List UInt8} {t : TypeId} {x y : Operand} (h : l.length + m.length ≤ 9223372036854775807) : (eqGuard .add t x y (.string (S l)) (.string (S m))).run P w = .ok () w ∧ (binOp .add t (.string (S l)) (.string (S m))).run P w = .ok (.string (S (l ++ m))) w := by
 refine ⟨by simp [eqGuard], ?_⟩
 have : ¬ (((S l).size + (S m).size : Nat) : Int) > IntKind.i64.max := by rw [S_size, S_size]; show ¬ _ > (9223372036854775807 : Int); omega
 simp only [binOp, Op.stringOp, if_neg this, S_join, Sem.run_pure]
end
section
variable {P : Program} {a : Act} {w : World} {n : Nat} {T : List (Nat × Value)}
theorem ret2 {fn : Func} {R : Ending → World → Prop} {p q : Tmp} {x y : Value} (hr : fn.results = #[.tmp p, .tmp q]) (hA : St n T a) (hx : ev T (.tmp p) = some x) (hy : ev T (.tmp q) = some y)
  (h : R (.returned (.tuple #[x, y])) w) : bodyPost P fn R .ret a w := by
 have e1 := hA.ev hx
 have e2 := hA.ev hy
 simp only [Act.eval] at e1 e2
 refine ⟨hA.defers, _, ?_, h⟩
 have f1 : a.tmps[p]?.getD undef = x := by simpa using e1
 have f2 : a.tmps[q]?.getD undef = y := by simpa using e2
 simp [results, hr, f1, f2]
end
theorem b_sub {P : Program} {t : TypeId} (x y : Operand) (a b : Int) (w : World) (h1 : -9223372036854775808 ≤ a - b) (h2 : a - b ≤ 9223372036854775807) : (eqGuard .sub t x y (.int .i64 a) (.int .i64 b)).run P w = .ok () w ∧ (binOp .sub t (.int .i64 a) (.int .i64 b)).run P w = .ok (.int .i64 (a - b)) w := by
 refine ⟨by simp [eqGuard], ?_⟩
 have : IntKind.wrap .i64 (a - b) = a - b := by simp only [IntKind.wrap, IntKind.signed, IntKind.bits]; simp; omega
 simp [binOp, this, go_sem]
theorem b_addE {P : Program} {w : World} {t : TypeId} {x y : Operand} {a b : Int} (n : Nat) (h : a + b = (n : Int)) (hn : n ≤ 9223372036854775807) : (eqGuard .add t x y (.int .i64 a) (.int .i64 b)).run P w = .ok () w ∧ (binOp .add t (.int .i64 a) (.int .i64 b)).run P w = .ok (.int .i64 (n : Int)) w := by
 rw [← h]; exact b_add _ _ _ _ _ (by omega) (by omega)
theorem b_subE {P : Program} {w : World} {t : TypeId} {x y : Operand} {a b : Int} (n : Nat) (h : a - b = (n : Int)) (hn : n ≤ 9223372036854775807) : (eqGuard .sub t x y (.int .i64 a) (.int .i64 b)).run P w = .ok () w ∧ (binOp .sub t (.int .i64 a) (.int .i64 b)).run P w = .ok (.int .i64 (n : Int)) w := by
 rw [← h]; exact b_sub _ _ _ _ _ (by omega) (by omega)
theorem cell_keep {w w' : World} {k : Nat} {v : Value} (h : w.cell? ⟨k, 0, none⟩ = some v) (b : Below w.heap.size w w') : w'.cell? ⟨k, 0, none⟩ = some v := by
 have hk := World.block_lt_of_cell? w _ h
 have := b.block k hk
 rw [← h]
 simp only [World.cell?, this]
end Go.Proofs.YtjkbjjlfijhbdaaGreatDoor
namespace Go.Proofs.YtjkbjjlfijhbdaaGreatDoor
set_option linter.defProp false
set_option maxHeartbeats 4000000
set_option maxRecDepth 100000
set_option linter.unusedVariables false
set_option linter.unusedSimpArgs false
theorem ret_bool {b v : Bool} (h : b = v) : Ending.returned (.bool b) = .returned (.bool v) := by rw [h]
def eqL (l m : List UInt8) : Bool := l == m
theorem eqL_same (l : List UInt8) : eqL l l = true := beq_self_eq_true l
theorem eqL_eq {l m : List UInt8} (h : eqL l m = true) : l = m := eq_of_beq h
theorem eqL_ne {l m : List UInt8} (h : eqL l m = false) : l ≠ m := fun e => by rw [e, eqL_same] at h; cases h
def digB (b : UInt8) : Bool := decide (48 ≤ b.toNat ∧ b.toNat ≤ 57)
def letB (b : UInt8) : Bool := decide (97 ≤ b.toNat ∧ b.toNat ≤ 122 ∨ 65 ≤ b.toNat ∧ b.toNat ≤ 90)
def blkB (b : UInt8) : Bool := decide (b.toNat = 32 ∨ b.toNat = 9 ∨ b.toNat = 10)
def numB (b : UInt8) : Bool := letB b || digB b
def nbgB (b : UInt8) : Bool := letB b || b.toNat == 95
def namB (b : UInt8) : Bool := nbgB b || (digB b || b.toNat == 46)
def rn (p : UInt8 → Bool) (l : List UInt8) : Nat := (l.takeWhile p).length
theorem rn_le (p : UInt8 → Bool) (l : List UInt8) : rn p l ≤ l.length := by
 unfold rn; exact (List.takeWhile_sublist p).length_le
theorem rn_nil (p : UInt8 → Bool) : rn p [] = 0 := rfl
theorem rn_cons (p : UInt8 → Bool) (b : UInt8) (l : List UInt8) : rn p (b :: l) = if p b then rn p l + 1 else 0 := by
 unfold rn; rw [List.takeWhile_cons]; split <;> rfl
theorem drop_at {l : List UInt8} {n : Nat} {y : UInt8} (h : l[n]? = some y) : l.drop n = y :: l.drop (n + 1) := by
 obtain ⟨h1, h2⟩ := List.getElem?_eq_some_iff.1 h
 rw [List.drop_eq_getElem_cons h1, h2]
theorem rn_go {p : UInt8 → Bool} {l : List UInt8} {n : Nat} {y : UInt8} (h : l[n]? = some y) (hp : p y = true) : rn p (l.drop n) = rn p (l.drop (n + 1)) + 1 := by
 rw [drop_at h, rn_cons, if_pos hp]
theorem rn_stop {p : UInt8 → Bool} {l : List UInt8} {n : Nat} {y : UInt8} (h : l[n]? = some y) (hp : p y = false) : rn p (l.drop n) = 0 := by
 rw [drop_at h, rn_cons, if_neg (by simp [hp])]
theorem rn_end {p : UInt8 → Bool} {l : List UInt8} {n : Nat} (h : l.length ≤ n) : rn p (l.drop n) = 0 := by
 rw [List.drop_eq_nil_of_le h, rn_nil]
end Go.Proofs.YtjkbjjlfijhbdaaGreatDoor
namespace Go.Proofs.YtjkbjjlfijhbdaaGreatDoor
open Go.RowKit
set_option linter.defProp false
set_option maxHeartbeats 4000000
set_option maxRecDepth 100000
set_option linter.unusedVariables false
set_option linter.unusedSimpArgs false
def byteE (b : UInt8) : List Value := [.int .u8 ((b.toNat : Nat) : Int)]
def kindB (P : Program) (t : TypeId) (k : IntKind) : Bool := match P.underlying t with | some (.int k') => k' == k | _ => false
theorem kind_fact {P : Program} {t : TypeId} {k : IntKind} (h : kindB P t k = true) : P.underlying t = some (.int k) := by
 unfold kindB at h; split at h
 ·next k' hk => rw [hk, eq_of_beq h]
 ·cases h
def concB (P : Program) (t : TypeId) : Bool := match P.underlying t with | some (.interface _) => false | some _ => true | none => false
section
variable {P : Program} {ops : Array Oper} {a : Act} {w : World} {K : Value → World → Prop} {d : Option Tmp} {ty : TypeId} {pos : String} {af : Array Edge} {gd : Option (Nat × Bool)} {v : Value}
theorem d_conv {x : Operand} {s t : Nat} {k k' : IntKind} {n : Int} (m : Int) (hw : Region.wanted { dst := d, op := .convert s t x, type := ty, pos := pos, after := af, guard := gd } (yielded ops a.tmps) = true) (hx : a.eval x = .int k n) (hs : kindB P s k = true) (ht : kindB P t k' = true) (hm : k'.wrap n = m)
  (h : K (.int k' m) w) : Does P ops { dst := d, op := .convert s t x, type := ty, pos := pos, after := af, guard := gd } a w K :=
 does_val hw (by
  subst hm
  unfold execOp
  simp only [hx, Sem.run_bind]
  simp [convert, run_underlying (kind_fact hs), run_underlying (kind_fact ht), Conv.intToInt]) h
theorem d_iface {x : Operand} {t : Nat} {v : Value} (hw : Region.wanted { dst := d, op := .makeInterface t x, type := ty, pos := pos, after := af, guard := gd } (yielded ops a.tmps) = true) (hx : a.eval x = v) (ht : concB P t = true)
  (h : K (.iface t v) w) : Does P ops { dst := d, op := .makeInterface t x, type := ty, pos := pos, after := af, guard := gd } a w K :=
 does_val hw (by
  unfold execOp
  simp only [hx, Sem.run_bind]
  unfold concB at ht
  cases hd : P.underlying t with
  | none => simp [hd] at ht
  | some u => cases u <;> first | (simp [hd] at ht; done) | simp [Instr.makeInterface, run_underlying hd]) h
theorem d_bytes {x : Operand} {s t e : Nat} {l : List UInt8} (hw : Region.wanted { dst := d, op := .convert s t x, type := ty, pos := pos, after := af, guard := gd } (yielded ops a.tmps) = true) (hx : a.eval x = .string (S l)) (hs : strB P s = true) (ht : sliceB P t e 1 = true) (he : kindB P e .u8 = true) (hl : l.length ≤ 8192)
  (h : ∀ v w', Grow w w' → Sl byteE 1 w'.heap.size w' v l → K v w') : Does P ops { dst := d, op := .convert s t x, type := ty, pos := pos, after := af, guard := gd } a w K := by
 refine does_val (w' := Lib.bytesWorld w e (S l)) (v := .slice (some ⟨w.heap.size, 0, none⟩) (S l).size (grownCap w (S l).size 0 e)) hw ?_ (h _ _ ?_ ?_)
 ·unfold execOp
  simp only [hx, Sem.run_bind, Lib.run_convert_string_bytes w s t e (S l) (str_fact hs) (slice_facts ht).1 (kind_fact he), Sem.run_pure, Result.andThen_ok]
 ·exact ⟨rfl, rfl, rfl, by rw [Lib.bytesWorld_size]; omega, fun k hk => Lib.bytesWorld_at_old w e (S l) k hk⟩
 ·refine ⟨_, _, by rw [S_size], ?_, fun j y hy => ?_⟩
  ·exact grownCap_ge _ _ _ _
  ·have hj : j < l.length := (List.getElem?_eq_some_iff.1 hy).1
   refine ⟨_, _, rfl, by rw [Lib.bytesWorld_size]; omega, fun i z hz => ?_⟩
   have hi : i = 0 := by
    have := (List.getElem?_eq_some_iff.1 hz).1
    simp [byteE] at this; exact this
   subst hi
   have h1 := Lib.bytesWorld_cell w e (S l) j (by rw [S_size]; exact hj)
   rw [S_data] at h1
   simp [byteE] at hz
   subst hz
   simpa [List.getD, hy] using h1
end
section
variable {P : Program} {w : World} {t : TypeId} {x y : Operand} {k : IntKind} {a b : Int}
theorem b_addK (n : Int) (h : k.wrap (a + b) = n) : (eqGuard .add t x y (.int k a) (.int k b)).run P w = .ok () w ∧ (binOp .add t (.int k a) (.int k b)).run P w = .ok (.int k n) w := by
 subst h; exact ⟨by simp [eqGuard], by simp [binOp, Op.intArith]⟩
theorem b_subK (n : Int) (h : k.wrap (a - b) = n) : (eqGuard .sub t x y (.int k a) (.int k b)).run P w = .ok () w ∧ (binOp .sub t (.int k a) (.int k b)).run P w = .ok (.int k n) w := by
 subst h; exact ⟨by simp [eqGuard], by simp [binOp, Op.intArith]⟩
theorem b_mulK (n : Int) (h : k.wrap (a * b) = n) : (eqGuard .mul t x y (.int k a) (.int k b)).run P w = .ok () w ∧ (binOp .mul t (.int k a) (.int k b)).run P w = .ok (.int k n) w := by
 subst h; exact ⟨by simp [eqGuard], by simp [binOp, Op.intArith]⟩
theorem b_nilNe {c : Value} (ht : P.underlying t = some (.interface (P.methodsAt t))) : (eqGuard .neq t x (.const c) .nilIface .nilIface).run P w = .ok () w ∧ (binOp .neq t .nilIface .nilIface).run P w = .ok (.bool false) w :=
 ⟨by rw [eqGuard_nil_constR]; rfl, run_neq_nil_nil w t ht⟩
theorem b_ifcNe {tt : TypeId} {v : Value} (ht : P.underlying t = some (.interface (P.methodsAt t))) : (eqGuard .neq t x y (.iface tt v) .nilIface).run P w = .ok () w ∧ (binOp .neq t (.iface tt v) .nilIface).run P w = .ok (.bool true) w :=
 ⟨rfl, run_neq_held_nil w t tt v ht⟩
end
theorem wrap8 {n : Int} (h1 : 0 ≤ n) (h2 : n ≤ 255) : IntKind.wrap .u8 n = n := by simp only [IntKind.wrap, IntKind.signed, IntKind.bits]; simp; omega
theorem wrq64 {n : Int} (h1 : 0 ≤ n) (h2 : n ≤ 18446744073709551615) : IntKind.wrap .u64 n = n := by simp only [IntKind.wrap, IntKind.signed, IntKind.bits]; simp; omega
theorem wrapI {n : Int} (h1 : -9223372036854775808 ≤ n) (h2 : n ≤ 9223372036854775807) : IntKind.wrap .i64 n = n := by simp only [IntKind.wrap, IntKind.signed, IntKind.bits]; simp; omega
end Go.Proofs.YtjkbjjlfijhbdaaGreatDoor
namespace Go.Proofs.YtjkbjjlfijhbdaaGreatDoor
set_option linter.defProp false
set_option maxHeartbeats 4000000
set_option maxRecDepth 100000
set_option linter.unusedVariables false
set_option linter.unusedSimpArgs false
def lwcB (b : UInt8) : Nat := (b ||| 32).toNat
theorem lowB_le (b : UInt8) : lwcB b ≤ 255 := by unfold lwcB; exact Nat.le_of_lt_succ (b ||| 32).toNat_lt
def dv (b : UInt8) : Nat := if 48 ≤ b.toNat ∧ b.toNat ≤ 57 then b.toNat - 48 else if 97 ≤ lwcB b ∧ lwcB b ≤ 122 then lwcB b - 97 + 10 else 99
theorem dv_dig {b : UInt8} (h1 : 48 ≤ b.toNat) (h2 : b.toNat ≤ 57) : dv b = b.toNat - 48 := if_pos ⟨h1, h2⟩
theorem dv_let {b : UInt8} (h : ¬ (48 ≤ b.toNat ∧ b.toNat ≤ 57)) (h1 : 97 ≤ lwcB b) (h2 : lwcB b ≤ 122) : dv b = lwcB b - 97 + 10 := by unfold dv; rw [if_neg h, if_pos ⟨h1, h2⟩]
theorem dv_bad {b : UInt8} (h : ¬ (48 ≤ b.toNat ∧ b.toNat ≤ 57)) (h1 : ¬ (97 ≤ lwcB b ∧ lwcB b ≤ 122)) : dv b = 99 := by unfold dv; rw [if_neg h, if_neg h1]
def nv (bs : Nat) (l : List UInt8) : Nat := l.foldl (fun n b => n * bs + dv b) 0
def allD (bs : Nat) (l : List UInt8) : Bool := l.all fun b => decide (dv b < bs)
def valL (bs : Nat) (l : List UInt8) : Option Nat := if l = [] ∨ allD bs l = false then none else some (nv bs l)
theorem nv_zero (bs : Nat) (l : List UInt8) : nv bs (l.take 0) = 0 := rfl
theorem take_at {l : List UInt8} {i : Nat} {y : UInt8} (h : l[i]? = some y) : l.take (i + 1) = l.take i ++ [y] := by
 rw [List.take_add_one, h]; rfl
theorem nv_go {bs : Nat} {l : List UInt8} {i : Nat} {y : UInt8} (h : l[i]? = some y) : nv bs (l.take (i + 1)) = nv bs (l.take i) * bs + dv y := by
 rw [take_at h]; unfold nv; rw [List.foldl_append]; rfl
theorem all_go {bs : Nat} {l : List UInt8} {i : Nat} {y : UInt8} (h : l[i]? = some y) (ha : allD bs (l.take i) = true) (hy : dv y < bs) : allD bs (l.take (i + 1)) = true := by
 rw [take_at h]; unfold allD at *; rw [List.all_append, ha]; simp [hy]
theorem val_bad {bs : Nat} {l : List UInt8} {i : Nat} {y : UInt8} (h : l[i]? = some y) (hy : bs ≤ dv y) : valL bs l = none := by
 unfold valL; rw [if_pos]; right
 cases ha : allD bs l
 ·rfl
 ·exfalso
  have := List.all_eq_true.1 ha y (List.mem_of_getElem? h)
  have := of_decide_eq_true this
  omega
theorem val_nil {bs : Nat} {l : List UInt8} (h : l = []) : valL bs l = none := by unfold valL; rw [if_pos (.inl h)]
theorem val_end {bs : Nat} {l : List UInt8} {i : Nat} (h : l ≠ []) (ha : allD bs (l.take i) = true) (hi : l.length ≤ i) : valL bs l = some (nv bs (l.take i)) := by
 rw [List.take_of_length_le hi] at *
 unfold valL; rw [if_neg (by simp [h, ha])]
theorem nv_pow {bs : Nat} (hb : 0 < bs) (l : List UInt8) (i : Nat) (ha : allD bs (l.take i) = true) : nv bs (l.take i) < bs ^ i := by
 induction i with
 | zero => rw [nv_zero]; simp
 | succ i ih =>
  cases hy : l[i]? with
  | none =>
   have hl : l.length ≤ i := by simpa using hy
   have e : l.take (i + 1) = l.take i := by rw [List.take_of_length_le hl, List.take_of_length_le (by omega)]
   rw [e] at ha ⊢
   exact Nat.lt_of_lt_of_le (ih ha) (Nat.pow_le_pow_right hb (by omega))
  | some y =>
   rw [take_at hy] at ha
   unfold allD at ha
   rw [List.all_append, Bool.and_eq_true] at ha
   have h1 := ih ha.1
   have h2 : dv y < bs := by simpa using ha.2
   rw [nv_go hy, Nat.pow_succ]
   calc nv bs (l.take i) * bs + dv y < nv bs (l.take i) * bs + bs := by omega
    _ = (nv bs (l.take i) + 1) * bs := by rw [Nat.add_mul, Nat.one_mul]
    _ ≤ bs ^ i * bs := Nat.mul_le_mul_right _ h1
theorem nv_10 {l : List UInt8} {i : Nat} (ha : allD 10 (l.take i) = true) (hi : i ≤ 18) : nv 10 (l.take i) < 1000000000000000000 :=
 Nat.lt_of_lt_of_le (nv_pow (by omega) l i ha) (Nat.pow_le_pow_right (n := 10) (by omega) hi)
theorem nv_16 {l : List UInt8} {i : Nat} (ha : allD 16 (l.take i) = true) (hi : i ≤ 15) : nv 16 (l.take i) < 1152921504606846976 :=
 Nat.lt_of_lt_of_le (nv_pow (by omega) l i ha) (Nat.pow_le_pow_right (n := 16) (by omega) hi)
def puV (bs : Nat) (l : List UInt8) : Value := match valL bs l with | some n => .tuple #[.int .u64 (n : Int), .nilIface] | none => .tuple #[.int .u64 0, .iface 179 (.int .i64 2)]
theorem pu_none {bs : Nat} {l : List UInt8} (h : valL bs l = none) : puV bs l = .tuple #[.int .u64 0, .iface 179 (.int .i64 2)] := by unfold puV; rw [h]
theorem pu_some {bs : Nat} {l : List UInt8} {n : Nat} (h : valL bs l = some n) : puV bs l = .tuple #[.int .u64 (n : Int), .nilIface] := by unfold puV; rw [h]
theorem b_or8 {P : Program} {w : World} {t : TypeId} {x y : Operand} (b : UInt8) : (eqGuard .or t x y (.int .u8 ((b.toNat : Nat) : Int)) (.int .u8 32)).run P w = .ok () w ∧ (binOp .or t (.int .u8 ((b.toNat : Nat) : Int)) (.int .u8 32)).run P w = .ok (.int .u8 ((lwcB b : Nat) : Int)) w := by
 refine ⟨by simp [eqGuard], ?_⟩
 have : ∀ i : Fin 256, IntKind.wrap .u8 (((BitVec.ofInt 8 ((i.val : Nat) : Int) ||| BitVec.ofInt 8 32).toNat : Nat) : Int) = ((lwcB (UInt8.ofNat i.val) : Nat) : Int) := by decide +kernel
 have h2 := this ⟨b.toNat, b.toNat_lt⟩
 simp only [UInt8.ofNat_toNat] at h2
 show Sem.run P (pure (Value.int .u8 (IntKind.wrap .u8 (((BitVec.ofInt 8 ((b.toNat : Nat) : Int) ||| BitVec.ofInt 8 32).toNat : Nat) : Int)))) w = _
 rw [h2]; rfl
def preB (l q : List UInt8) : Bool := decide (q.length ≤ l.length) && (l.take q.length == q)
theorem pre_yes {l q : List UInt8} (h : q.length ≤ l.length) (e : (l.take q.length == q) = true) : preB l q = true := by unfold preB; rw [e, decide_eq_true h]; rfl
theorem pre_no {l q : List UInt8} (h : q.length ≤ l.length) (e : (l.take q.length == q) = false) : preB l q = false := by unfold preB; rw [e, Bool.and_false]
theorem pre_short {l q : List UInt8} (h : l.length < q.length) : preB l q = false := by unfold preB; rw [decide_eq_false (by omega)]; rfl
def cutF (l q : List UInt8) : List UInt8 := if preB l q then l.drop q.length else l
theorem pre_len {l q : List UInt8} (h : preB l q = true) : q.length ≤ l.length := by unfold preB at h; rw [Bool.and_eq_true] at h; exact of_decide_eq_true h.1
structure Tk where
 kind : Int
 text : List UInt8
 n : Int
 at_ : Int
def tokC (t : Tk) : Array Value := #[.int .i64 t.kind, .string (S t.text), .int .i64 t.n, .int .i64 t.at_]
def tok0 : Tk := ⟨0, [], 0, 0⟩
def fits (o : Option Nat) : Option Int := match o with | some n => if n > 9223372036854775808 then none else some (IntKind.wrap .i64 (n : Int)) | none => none
def numR (l : List UInt8) : Option Int :=
 if preB l [48, 120] then (if (cutF l [48, 120]).length > 16 then none else fits (valL 16 (cutF l [48, 120]))) else (if l.length > 19 then none else fits (valL 10 l))
def numV (l : List UInt8) (o : Option Int) : Value := match o with | some n => .tuple #[.agg (tokC ⟨2, l, n, 0⟩), .int .i64 0] | none => .tuple #[.agg (tokC tok0), .int .i64 23]
section
variable {l : List UInt8} {n : Nat}
theorem num_longx (h : preB l [48, 120] = true) (hl : (cutF l [48, 120]).length > 16) : numR l = none := by unfold numR; rw [if_pos h, if_pos hl]
theorem num_longd (h : preB l [48, 120] = false) (hl : l.length > 19) : numR l = none := by unfold numR; rw [if_neg (by simp [h]), if_pos hl]
theorem num_nonex (h : preB l [48, 120] = true) (hv : valL 16 (cutF l [48, 120]) = none) : numR l = none := by unfold numR; rw [if_pos h, hv]; simp [fits]
theorem num_noned (h : preB l [48, 120] = false) (hv : valL 10 l = none) : numR l = none := by unfold numR; rw [if_neg (by simp [h]), hv]; simp [fits]
theorem num_bigx (h : preB l [48, 120] = true) (hv : valL 16 (cutF l [48, 120]) = some n) (hn : n > 9223372036854775808) : numR l = none := by unfold numR; rw [if_pos h, hv]; simp [fits, hn]
theorem num_bigd (h : preB l [48, 120] = false) (hv : valL 10 l = some n) (hn : n > 9223372036854775808) : numR l = none := by unfold numR; rw [if_neg (by simp [h]), hv]; simp [fits, hn]
theorem num_okx (h : preB l [48, 120] = true) (hl : (cutF l [48, 120]).length ≤ 16) (hv : valL 16 (cutF l [48, 120]) = some n) (hn : n ≤ 9223372036854775808) : numR l = some (IntKind.wrap .i64 (n : Int)) := by
 unfold numR; rw [if_pos h, if_neg (by omega), hv]; simp only [fits]; rw [if_neg (by omega)]
theorem num_okd (h : preB l [48, 120] = false) (hl : l.length ≤ 19) (hv : valL 10 l = some n) (hn : n ≤ 9223372036854775808) : numR l = some (IntKind.wrap .i64 (n : Int)) := by
 unfold numR; rw [if_neg (by simp [h]), if_neg (by omega), hv]; simp only [fits]; rw [if_neg (by omega)]
end
end Go.Proofs.YtjkbjjlfijhbdaaGreatDoor
namespace Go.Proofs.YtjkbjjlfijhbdaaGreatDoor
open Go.RowKit
set_option linter.defProp false
set_option maxHeartbeats 4000000
set_option maxRecDepth 100000
set_option linter.unusedVariables false
set_option linter.unusedSimpArgs false
structure Mix (ks : List Nat) (w w' : World) : Prop where
 os : w'.os = w.os
 tape : w'.tape = w.tape
 output : w'.output = w.output
 size : w.heap.size ≤ w'.heap.size
 block : ∀ k, k < w.heap.size → ks.contains k = false → w'.heap[k]? = w.heap[k]?
section
variable {ks ks' : List Nat} {a w w' : World} {B g : Nat}
theorem Mix.refl (ks : List Nat) (w : World) : Mix ks w w := ⟨rfl, rfl, rfl, Nat.le_refl _, fun _ _ _ => rfl⟩
theorem Mix.grow (h : Mix ks a w) (hg : Grow w w') : Mix ks a w' :=
 ⟨hg.os.trans h.os, hg.tape.trans h.tape, hg.output.trans h.output, Nat.le_trans h.size hg.size, fun k hk hc => (hg.block k (Nat.lt_of_lt_of_le hk h.size)).trans (h.block k hk hc)⟩
theorem Mix.updIn (h : Mix ks a w) (hu : Upd g w w') (hg : ks.contains g = true) : Mix ks a w' :=
 ⟨hu.os.trans h.os, hu.tape.trans h.tape, hu.output.trans h.output, Nat.le_trans h.size (Nat.le_of_eq hu.size.symm), fun k hk hc => (hu.block k (fun e => by subst e; rw [hg] at hc; cases hc)).trans (h.block k hk hc)⟩
theorem Mix.updOut (h : Mix ks a w) (hu : Upd g w w') (hg : a.heap.size ≤ g) : Mix ks a w' :=
 ⟨hu.os.trans h.os, hu.tape.trans h.tape, hu.output.trans h.output, Nat.le_trans h.size (Nat.le_of_eq hu.size.symm), fun k hk hc => (hu.block k (by omega)).trans (h.block k hk hc)⟩
theorem Mix.sm {M : Nat → Option (Array Value)} (h : Mix ks a w) (hs : SM M w w') (hM : ∀ k, k < a.heap.size → ks.contains k = false → M k = none) : Mix ks a w' :=
 ⟨hs.os.trans h.os, hs.tape.trans h.tape, hs.output.trans h.output, Nat.le_trans h.size hs.size, fun k hk hc => (hs.block k (Nat.lt_of_lt_of_le hk h.size) (hM k hk hc)).trans (h.block k hk hc)⟩
theorem Mix.mix (h : Mix ks a w) (m : Mix ks' w w') (hk : ∀ k, k < a.heap.size → ks.contains k = false → ks'.contains k = false) : Mix ks a w' :=
 ⟨m.os.trans h.os, m.tape.trans h.tape, m.output.trans h.output, Nat.le_trans h.size m.size, fun k hl hc => (m.block k (Nat.lt_of_lt_of_le hl h.size) (hk k hl hc)).trans (h.block k hl hc)⟩
theorem Mix.below (m : Mix ks w w') (b : Below B a w) (hB : B ≤ w.heap.size) (hk : ∀ k, k < B → ks.contains k = false) : Below B a w' :=
 b.trans ⟨m.os, m.tape, m.output, m.size, fun k hl => m.block k (by omega) (hk k hl)⟩
theorem Mix.far (m : Mix ks w w') (hB : B ≤ w.heap.size) (hk : ∀ k, k < B → ks.contains k = false) : Below B w w' := m.below (Below.refl _ _) hB hk
theorem Blk.mix {cs : Array Value} {t : TypeId} (h : Blk w g cs t) (m : Mix ks w w') (hk : ks.contains g = false) : Blk w' g cs t := by
 unfold Blk; rw [m.block g h.lt hk]; exact h
theorem range_mix {b o : Nat} {cs : List Value} (hr : w.rangeAt b o cs) (m : Mix ks w w') (hb : b < w.heap.size) (hk : ks.contains b = false) : w'.rangeAt b o cs := fun j x hx => by
 rw [World.cell?_of_block (w := w) (m.block b hb hk)]; exact hr j x hx
theorem own_mix {b e s n : Nat} {v : Value} {xs : List Value} (h : w.ownsRow b e s v n xs) (m : Mix ks w w') (hk : ∀ k, v.ownBlock = some k → ks.contains k = false) : w'.ownsRow b e s v n xs :=
 own_keep h fun k hv => m.block k (own_lt h k hv).2 (hk k hv)
end
theorem in1 (g : Nat) : [g].contains g = true := by simp
theorem nin1 {g k : Nat} (h : k ≠ g) : [g].contains k = false := by simp [h]
theorem lows1 {B g : Nat} (h : B ≤ g) : ∀ k, k < B → [g].contains k = false := fun k hk => nin1 (by omega)
theorem one_of1 {g k : Nat} (h : [g].contains k = false) : k ≠ g := by simpa using h
theorem in2a (g h : Nat) : [g, h].contains g = true := by simp
theorem nin2 {g h k : Nat} (h1 : k ≠ g) (h2 : k ≠ h) : [g, h].contains k = false := by simp [h1, h2]
theorem lows2 {B g h : Nat} (h1 : B ≤ g) (h2 : B ≤ h) : ∀ k, k < B → [g, h].contains k = false := fun k hk => nin2 (by omega) (by omega)
theorem two_a {g h k : Nat} (hh : [g, h].contains k = false) : k ≠ g := by simp at hh; exact hh.1
theorem two_b {g h k : Nat} (hh : [g, h].contains k = false) : k ≠ h := by simp at hh; exact hh.2
theorem b_addW {P : Program} {w : World} {t : TypeId} {x y : Operand} (a b : Int) : (eqGuard .add t x y (.int .i64 a) (.int .i64 b)).run P w = .ok () w ∧ (binOp .add t (.int .i64 a) (.int .i64 b)).run P w = .ok (.int .i64 (IntKind.wrap .i64 (a + b))) w := by
 refine ⟨by simp [eqGuard], ?_⟩
 simp [binOp, go_sem]
section
variable {P : Program} {ops : Array Oper} {a : Act} {w : World} {K : Value → World → Prop} {d : Option Tmp} {ty : TypeId} {pos : String} {af : Array Edge} {gd : Option (Nat × Bool)}
theorem d_neg {t : TypeId} {x : Operand} {n : Int} (hw : Region.wanted { dst := d, op := .unOp .neg t x, type := ty, pos := pos, after := af, guard := gd } (yielded ops a.tmps) = true) (hx : a.eval x = .int .i64 n) (h : K (.int .i64 (IntKind.wrap .i64 (-n))) w) :
  Does P ops { dst := d, op := .unOp .neg t x, type := ty, pos := pos, after := af, guard := gd } a w K :=
 does_val hw (by
  have e : (0 : Int) - n = -n := by omega
  unfold execOp
  simp only [hx, Op.unary, Sem.run_bind]
  simp [Op.intArith, go_sem, e]) h
end
def cmr (M : Nat → Option (Array Value)) (g : Nat) (t : TypeId) (fin : Array Value) (h : M g = some fin) : Cl (SM M) :=
 ⟨fun _ w => Blk w g fin t, fun _ w w' hS hb => by
  obtain ⟨cs', h1, h2, h3⟩ := hS.turns g fin fin t h hb
  have : cs' = fin := by
   apply Array.ext_getElem?
   intro j
   rcases h3 j with e | e <;> exact e
  subst this; exact h1⟩
theorem SM.storeRow {M : Nat → Option (Array Value)} {w w' : World} {g : Nat} {fin cs : Array Value} {t : TypeId} (hM : M g = some fin) (hu : Upd g w w') (hb : Blk w g cs t) (hb' : Blk w' g fin t) (hs : fin.size = cs.size) : SM M w w' :=
 ⟨hu.os, hu.tape, hu.output, Nat.le_of_eq hu.size.symm, fun i _ hm => hu.block i (fun e => by subst e; rw [hM] at hm; cases hm), fun i fin' cs' t' hm hbi => by
  by_cases hi : i = g
  ·subst hi
   rw [hM] at hm; cases hm
   unfold Blk at hb hbi
   rw [hb] at hbi
   injection hbi with hbi; injection hbi with h1 h2
   subst h1; subst h2
   exact ⟨_, hb', hs, fun j => .inr rfl⟩
  ·exact ⟨cs', hbi.upd hu hi, rfl, fun _ => .inl rfl⟩⟩
section
variable {P : Program} {ops : Array Oper} {a : Act} {w w0 : World} {K : Value → World → Prop} {d : Option Tmp} {ty : TypeId} {pos : String} {af : Array Edge} {gd : Option (Nat × Bool)} {M : Nat → Option (Array Value)}
theorem d_storeRowM {t t' : TypeId} {x y : Operand} {g : Nat} {fin cs : Array Value} (hw : Region.wanted { dst := d, op := .store t x y, type := ty, pos := pos, after := af, guard := gd } (yielded ops a.tmps) = true) (hx : a.eval x = .pointer (some ⟨g, 0, none⟩)) (hy : a.eval y = .agg fin)
  (h1 : rowB P t fin.size = true) (hS : SM M w0 w) (hM : M g = some fin) (hb : Blk w0 g cs t') (hs : cs.size = fin.size) (ho : fin.toList.all (·.oneCell') = true) (hK : ∀ w', SM M w w' ∧ Blk w' g fin t' → K undef w') :
  Does P ops { dst := d, op := .store t x y, type := ty, pos := pos, after := af, guard := gd } a w K := by
 obtain ⟨cs', hb', hs', _⟩ := hS.turns g fin cs t' hM hb
 exact dsr hw hx hy h1 hb' (by omega) ho fun w' hu hb2 => hK w' ⟨SM.storeRow hM hu hb' hb2 (by omega), hb2⟩
end
theorem sl_mix {α : Type} {enc : α → List Value} {s g : Nat} {w w' : World} {v : Value} {l : List α} (h : Sl enc s w.heap.size w v l) (m : Mix [g] w w') (hne : v.ownBlock ≠ some g) : Sl enc s w'.heap.size w' v l := by
 obtain ⟨ao, cap, hv, hlc, he⟩ := h
 refine ⟨ao, cap, hv, hlc, fun j x hx => ?_⟩
 obtain ⟨b, o, h1, h2, h3⟩ := he j x hx
 refine ⟨b, o, h1, Nat.lt_of_lt_of_le h2 m.size, range_mix h3 m h2 (nin1 fun e => hne ?_)⟩
 rw [hv, h1, e]; rfl
def strE (l : List UInt8) : List Value := [.string (S l)]
def cBlk (M : Nat → Option (Array Value)) (hM : ∀ k, M k = none) (B0 : Nat) (Z : Array Value) (t : TypeId) : Cl (SM M) :=
 ⟨fun v w => ∃ g, v = .pointer (some ⟨g, 0, none⟩) ∧ B0 ≤ g ∧ Blk w g Z t, fun _ _ _ hS ⟨g, h1, h2, h3⟩ => ⟨g, h1, h2, h3.sm hS (hM g)⟩⟩
theorem eqL_yes {l m : List UInt8} (h : l = m) : eqL l m = true := by rw [h]; exact eqL_same _
theorem eqL_no {l m : List UInt8} (h : l ≠ m) : eqL l m = false := by
 cases hh : eqL l m
 ·rfl
 ·exact absurd (eqL_eq hh) h
theorem Mix.grown {w w' : World} (m : Mix [] w w') : Grow w w' := ⟨m.os, m.tape, m.output, m.size, fun k hk => m.block k hk rfl⟩
section
variable {P : Program} {a : Act} {w : World} {n : Nat} {T : List (Nat × Value)}
theorem ret0 {fn : Func} {R : Ending → World → Prop} (hr : fn.results = #[]) (hA : St n T a) (h : R (.returned (.tuple #[])) w) : bodyPost P fn R .ret a w :=
 ⟨hA.defers, .tuple #[], by simp [results, hr], h⟩
theorem end0 {fn : Func} {R : Ending → World → Prop} (hr : fn.results = #[]) (hA : St n T a) (h : R (.returned (.tuple #[])) w) : bodyPost P fn R .normal a w :=
 ⟨hA.defers, .tuple #[], by simp [results, hr], h⟩
end
structure Rs where
 e : Int
 a : Int
 p : Nat
def whereR (L : List Tk) (p : Nat) : Int := match L[p]? with
 | some y => y.at_
 | none => match L[L.length - 1]? with | some z => IntKind.wrap .i64 (z.at_ + ((z.text.length : Nat) : Int)) | none => 0
def reads (L : List Tk) (m : List UInt8) (p : Nat) : Bool := match L[p]? with | some y => !(y.kind == 2) && eqL y.text m | none => false
theorem where_some {L : List Tk} {p : Nat} {y : Tk} (h : L[p]? = some y) : whereR L p = y.at_ := by unfold whereR; rw [h]
theorem where_end {L : List Tk} {p : Nat} {z : Tk} (h : L.length ≤ p) (hz : L[L.length - 1]? = some z) : whereR L p = IntKind.wrap .i64 (z.at_ + ((z.text.length : Nat) : Int)) := by unfold whereR; rw [List.getElem?_eq_none h, hz]
theorem where_nil {L : List Tk} {p : Nat} (h : L.length ≤ p) (h0 : L.length = 0) : whereR L p = 0 := by unfold whereR; rw [List.getElem?_eq_none h, List.getElem?_eq_none (by omega)]
theorem reads_some {L : List Tk} {m : List UInt8} {p : Nat} {y : Tk} {b c : Bool} (h : L[p]? = some y) (hb : (y.kind == 2) = b) (hc : eqL y.text m = c) : reads L m p = (!b && c) := by unfold reads; rw [h]; simp only [hb, hc]
theorem reads_true {L : List Tk} {m : List UInt8} {p : Nat} (h : reads L m p = true) : ∃ y, L[p]? = some y ∧ y.kind ≠ 2 ∧ y.text = m := by
 unfold reads at h
 cases hy : L[p]? with
 | none => rw [hy] at h; cases h
 | some y =>
  rw [hy] at h
  simp only [Bool.and_eq_true, Bool.not_eq_true'] at h
  exact ⟨y, rfl, by simpa using h.1, eqL_eq h.2⟩
theorem reads_false {L : List Tk} {m : List UInt8} {p : Nat} (h : reads L m p = false) : L.length ≤ p ∨ ∃ y, L[p]? = some y ∧ (y.kind = 2 ∨ (y.kind ≠ 2 ∧ y.text ≠ m)) := by
 cases hy : L[p]? with
 | none => exact .inl (by simpa using hy)
 | some y =>
  refine .inr ⟨y, rfl, ?_⟩
  by_cases hk : y.kind = 2
  ·exact .inl hk
  ·refine .inr ⟨hk, fun e => ?_⟩
   have := reads_some hy (beq_eq_false_iff_ne.2 hk) (eqL_yes e)
   rw [this] at h; cases h
theorem reads_lt {L : List Tk} {m : List UInt8} {p : Nat} (h : reads L m p = true) : p < L.length := by
 obtain ⟨y, hy, _⟩ := reads_true h
 exact get_lt hy
def sliceZ (P : Program) (t e : Nat) : Option (Nat × Option Value) := match P.underlying t with
 | some (.slice e') => if e' == e then (P.info? e).map fun i => (i.size, i.zero) else none
 | _ => none
section
variable {P : Program} {ops : Array Oper} {a : Act} {w : World} {K : Value → World → Prop} {d : Option Tmp} {ty : TypeId} {pos : String} {af : Array Edge} {gd : Option (Nat × Bool)}
theorem d_sliceL {t e n s : Nat} {parts : Array (Nat × Operand)} {vs : List (Nat × Value)} {z : Value} {cells : Array Value} (hw : Region.wanted { dst := d, op := .buildSlice t n parts, type := ty, pos := pos, after := af, guard := gd } (yielded ops a.tmps) = true)
  (hx : (parts.map fun x => (x.1, a.eval x.2)).toList = vs) (hz : sliceZ P t e = some (s, some z)) (h1 : ¬ n * s > 2 ^ 24) (h2 : ¬ n * s = 0)
  (hf : Instr.fill (fun i => some (i * s, s)) ((Array.range (n * s)).map (z.cells[· % z.cells.size]!)) vs = some cells)
  (h : ∀ g w', g = w.heap.size → Grow w w' → Blk w' g cells e → K (.slice (some ⟨g, 0, none⟩) n n) w') : Does P ops { dst := d, op := .buildSlice t n parts, type := ty, pos := pos, after := af, guard := gd } a w K := by
 unfold sliceZ at hz
 split at hz
 ·next e' hu =>
  split at hz
  ·next he =>
   have he : e' = e := eq_of_beq he
   subst he
   cases hi : P.info? e' with
   | none => rw [hi] at hz; cases hz
   | some i =>
    rw [hi] at hz
    simp only [Option.map_some, Option.some.injEq, Prod.mk.injEq] at hz
    obtain ⟨hs, hz⟩ := hz
    subst hs
    refine does_val (w' := w.alloc (.cells cells e')) hw ?_ (h _ _ rfl ((Grow.refl _).alloc _) (heap_alloc_last w _))
    unfold execOp
    rw [← hx] at hf
    have := run_buildSlice (P := P) w t e' n (parts.map fun x => (x.1, a.eval x.2)) cells i z hu hi hz h1 h2 hf
    simp only [Sem.run_bind, this, Result.andThen_ok, Sem.run_pure]
  ·cases hz
 ·cases hz
end
theorem sl_lit {w : World} {g n : Nat} {cells : Array Value} {t : TypeId} {l : List (List UInt8)} (h : Blk w g cells t) (hc : cells = (l.map fun m => Value.string (S m)).toArray) (hn : l.length = n) : Sl strE 1 w.heap.size w (.slice (some ⟨g, 0, none⟩) n n) l := by
 subst hn
 refine ⟨some ⟨g, 0, none⟩, l.length, rfl, Nat.le_refl _, fun j x hx => ⟨g, 0, rfl, h.lt, fun k u hu => ?_⟩⟩
 have hk : k = 0 := by have := get_lt hu; simp [strE] at this; exact this
 subst hk
 simp [strE] at hu
 subst hu
 refine h.cell ?_
 subst hc
 simp [hx]
def idxL : List (List UInt8) → List UInt8 → Nat → Int
 | [], _, _ => -1
 | y :: l, q, k => if eqL y q then (k : Int) else idxL l q (k + 1)
theorem drop_atL {l : List (List UInt8)} {n : Nat} {y : List UInt8} (h : l[n]? = some y) : l.drop n = y :: l.drop (n + 1) := by
 obtain ⟨h1, h2⟩ := List.getElem?_eq_some_iff.1 h
 rw [List.drop_eq_getElem_cons h1, h2]
theorem idx_hit {l : List (List UInt8)} {j : Nat} {y q : List UInt8} (hy : l[j]? = some y) (h : eqL y q = true) : idxL (l.drop j) q j = (j : Int) := by rw [drop_atL hy, idxL, if_pos h]
theorem idx_go {l : List (List UInt8)} {j : Nat} {y q : List UInt8} (hy : l[j]? = some y) (h : eqL y q = false) : idxL (l.drop j) q j = idxL (l.drop (j + 1)) q (j + 1) := by rw [drop_atL hy, idxL, if_neg (by simp [h])]
theorem idx_end {l : List (List UInt8)} {j : Nat} {q : List UInt8} (h : l.length ≤ j) : idxL (l.drop j) q j = -1 := by rw [List.drop_eq_nil_of_le h, idxL]
theorem idx_ge (l : List (List UInt8)) (q : List UInt8) : ∀ k, idxL l q k = -1 ∨ ((k : Int) ≤ idxL l q k ∧ idxL l q k < k + l.length) := by
 induction l with
 | nil => intro k; exact .inl rfl
 | cons y l ih =>
  intro k
  rw [idxL]
  split
  ·exact .inr ⟨Int.le_refl _, by simp only [List.length_cons]; omega⟩
  ·rcases ih (k + 1) with h | h
   ·exact .inl h
   ·exact .inr ⟨by omega, by simp only [List.length_cons]; omega⟩
theorem eqL_flip {l m : List UInt8} {b : Bool} (h : eqL l m = b) : eqL m l = b := by
 cases b
 ·exact eqL_no fun e => by rw [e, eqL_same] at h; cases h
 ·exact eqL_yes (eqL_eq h).symm
def regsX : List (List UInt8) := [[82, 65, 88], [82, 66, 88], [82, 67, 88], [82, 68, 88], [82, 83, 73], [82, 68, 73], [82, 56], [82, 57]]
def locsX : List (List UInt8) := [[120], [121], [122]]
def regF (q : List UInt8) : Int := idxL regsX q 0
theorem regs_ne {j : Nat} {y : List UInt8} (h : regsX[j]? = some y) : y ≠ [] := by
 have : ∀ z ∈ regsX, z ≠ [] := by decide
 exact this y (List.mem_of_getElem? h)
end Go.Proofs.YtjkbjjlfijhbdaaGreatDoor
namespace Go.Proofs.YtjkbjjlfijhbdaaGreatDoor
set_option linter.defProp false
set_option maxHeartbeats 4000000
set_option maxRecDepth 100000
set_option linter.unusedVariables false
set_option linter.unusedSimpArgs false
section
variable {L : List Tk} {s : Rs} {y : Tk}
end
end Go.Proofs.YtjkbjjlfijhbdaaGreatDoor
namespace Go.Proofs.YtjkbjjlfijhbdaaGreatDoor
open Go.RowKit
set_option linter.defProp false
set_option maxHeartbeats 4000000
set_option maxRecDepth 100000
set_option linter.unusedVariables false
set_option linter.unusedSimpArgs false
def B (x : Int) : BitVec 64 := BitVec.ofInt 64 x
def I (b : BitVec 64) : Int := b.toInt
theorem B_I (b : BitVec 64) : B (I b) = b := by unfold B I; exact BitVec.ofInt_toInt
theorem wrap64_I (n : Int) : wrap64 n = I (B n) := by
 unfold wrap64 I B
 rw [BitVec.toInt_ofInt, Int.bmod_def]
 simp only [Nat.reducePow]
 omega
theorem wrap_toNat (b : BitVec 64) : IntKind.i64.wrap (b.toNat : Int) = I b := by
 rw [IntKind.wrap_i64]; unfold I
 rw [BitVec.toInt_eq_toNat_bmod, Int.bmod_def]
 have := b.isLt
 simp only [Nat.reducePow] at *
 omega
theorem bits_or (x y : BitVec 64) : bits .or .i64 (I x) (I y) = I (x ||| y) := by
 show IntKind.i64.wrap ((B (I x) ||| B (I y)).toNat : Int) = _
 rw [wrap_toNat, B_I, B_I]
theorem B_mul_pow (x : BitVec 64) (k : Nat) : B (I x * 2 ^ k) = x <<< k := by
 have h : B (I x * 2 ^ k) = B (I x) * BitVec.ofNat 64 (2 ^ k) := by
  unfold B; rw [BitVec.ofInt_mul]
  congr 1
 rw [h, B_I, BitVec.shiftLeft_eq_mul_twoPow]
 congr 1
 exact BitVec.eq_of_toNat_eq (by simp)
theorem shl (x : BitVec 64) (k : Nat) : wrap64 (I x * 2 ^ k) = I (x <<< k) := by rw [wrap64_I, B_mul_pow]
theorem add (x y : BitVec 64) : wrap64 (I x + I y) = I (x + y) := by
 rw [wrap64_I]; congr 1; unfold B; rw [BitVec.ofInt_add]; exact congr (congrArg _ (B_I x)) (B_I y)
theorem sub (x y : BitVec 64) : wrap64 (I x - I y) = I (x - y) := by
 rw [wrap64_I]; congr 1
 have : B (I x - I y) = B (I x) - B (I y) := by unfold B; rw [Int.sub_eq_add_neg, BitVec.ofInt_add, BitVec.ofInt_neg, BitVec.sub_eq_add_neg]
 rw [this, B_I, B_I]
theorem I_one : I 1#64 = 1 := by decide
theorem I_zero : I 0#64 = 0 := by decide
theorem pow_I (k : Nat) : wrap64 (2 ^ k) = I (1#64 <<< k) := by
 have key := shl 1#64 k
 rw [I_one, Int.one_mul] at key; exact key
def maskB (o k : Nat) : BitVec 64 := ((1#64 <<< k) - 1#64) <<< o
theorem mask_eq (o k : Nat) : wrap64 (wrap64 (wrap64 (2 ^ k) - 1) * 2 ^ o) = I (maskB o k) := by
 have key : wrap64 (wrap64 (wrap64 (I 1#64 * 2 ^ k) - I 1#64) * 2 ^ o) = I (maskB o k) := by rw [shl, sub, shl]; rfl
 rw [I_one, Int.one_mul] at key; exact key
theorem mask_step : ∀ o, o < 8 → ∀ j, j < 8 → maskB o j ||| (1#64 <<< (o + j)) = maskB o (j + 1) := by decide
theorem ret_int {k : IntKind} {a b : Int} (h : a = b) : Ending.returned (.int k a) = .returned (.int k b) := by rw [h]
def sizeB (n : Int) : Bool := decide (n = 1 ∨ n = 2 ∨ n = 4 ∨ n = 8)
def fitsB (off n : Int) : Bool := decide ((n = 1 ∨ n = 2 ∨ n = 4 ∨ n = 8) ∧ 0 ≤ off ∧ off ≤ 8 - n ∧ off % n = 0)
theorem isSize_any (n : Int) (w : World) : Calls Tryz.prog 213 #[.int .i64 n] w fun e w' => e = .returned (.bool (sizeB n)) ∧ w' = w := by
 by_cases h1 : n = 1
 ·subst h1; go_enter Tryz.func213, Tryz.ntmps213; go_wp2; go_ret; exact ⟨rfl, rfl⟩
 by_cases h2 : n = 2
 ·subst h2; go_enter Tryz.func213, Tryz.ntmps213; go_wp2; go_ret; exact ⟨rfl, rfl⟩
 by_cases h4 : n = 4
 ·subst h4; go_enter Tryz.func213, Tryz.ntmps213; go_wp2; go_ret; exact ⟨rfl, rfl⟩
 by_cases h8 : n = 8
 ·subst h8; go_enter Tryz.func213, Tryz.ntmps213; go_wp2; go_ret; exact ⟨rfl, rfl⟩
 have hb : sizeB n = false := by unfold sizeB; simp [h1, h2, h4, h8]
 have e1 : (n == 1) = false := by simpa using h1
 have e2 : (n == 2) = false := by simpa using h2
 have e4 : (n == 4) = false := by simpa using h4
 have e8 : (n == 8) = false := by simpa using h8
 rw [hb]; clear hb h1 h2 h4 h8
 go_enter Tryz.func213, Tryz.ntmps213
 go_wp2
 go_ret
 exact ⟨rfl, rfl⟩
theorem size_any (n : Int) (w : World) : Calls Tryz.prog 189 #[.int .i64 n] w fun e w' => e = .returned (.bool (sizeB n)) ∧ w' = w := by
 by_cases h1 : n = 1
 ·subst h1; go_enter Tryz.func189, Tryz.ntmps189; go_wp2; go_ret; exact ⟨rfl, rfl⟩
 by_cases h2 : n = 2
 ·subst h2; go_enter Tryz.func189, Tryz.ntmps189; go_wp2; go_ret; exact ⟨rfl, rfl⟩
 by_cases h4 : n = 4
 ·subst h4; go_enter Tryz.func189, Tryz.ntmps189; go_wp2; go_ret; exact ⟨rfl, rfl⟩
 by_cases h8 : n = 8
 ·subst h8; go_enter Tryz.func189, Tryz.ntmps189; go_wp2; go_ret; exact ⟨rfl, rfl⟩
 have hb : sizeB n = false := by unfold sizeB; simp [h1, h2, h4, h8]
 have e1 : (n == 1) = false := by simpa using h1
 have e2 : (n == 2) = false := by simpa using h2
 have e4 : (n == 4) = false := by simpa using h4
 have e8 : (n == 8) = false := by simpa using h8
 rw [hb]; clear hb h1 h2 h4 h8
 go_enter Tryz.func189, Tryz.ntmps189
 go_wp2
 go_ret
 exact ⟨rfl, rfl⟩
theorem fits_any (off n : Int) (w : World) : Calls Tryz.prog 207 #[.int .i64 off, .int .i64 n] w fun e w' => e = .returned (.bool (fitsB off n)) ∧ w' = w := by
 by_cases hs : n = 1 ∨ n = 2 ∨ n = 4 ∨ n = 8
 ·have hz : sizeB n = true := by unfold sizeB; simp [hs]
  have hn1 : 1 ≤ n := by omega
  have hn8 : n ≤ 8 := by omega
  by_cases h0 : 0 ≤ off
  ·by_cases hl : off ≤ 8 - n
   ·by_cases hm : off % n = 0
    ·have hb : fitsB off n = true := by unfold fitsB; simp [hs, h0, hl, hm]
     rw [hb]; clear hb
     have e : (off % n == 0) = true := by simpa using hm
     clear hs hm
     go_enter Tryz.func207, Tryz.ntmps207
     go_wp2_with (go_at_call 213; refine (isSize_any _ _).mono ?_; rintro e w' ⟨rfl, rfl⟩)
     go_ret
     exact ⟨rfl, rfl⟩
    ·have hb : fitsB off n = false := by unfold fitsB; simp [hm]
     rw [hb]; clear hb
     have e : (off % n == 0) = false := by simpa using hm
     clear hs hm
     go_enter Tryz.func207, Tryz.ntmps207
     go_wp2_with (go_at_call 213; refine (isSize_any _ _).mono ?_; rintro e w' ⟨rfl, rfl⟩)
     go_ret
     exact ⟨rfl, rfl⟩
   ·have hb : fitsB off n = false := by unfold fitsB; simp [hl]
    rw [hb]; clear hb hs
    have hl' : 8 - n < off := by omega
    clear hl
    go_enter Tryz.func207, Tryz.ntmps207
    go_wp2_with (go_at_call 213; refine (isSize_any _ _).mono ?_; rintro e w' ⟨rfl, rfl⟩)
    go_ret
    exact ⟨rfl, rfl⟩
  ·have hb : fitsB off n = false := by unfold fitsB; simp [h0]
   rw [hb]; clear hb hs
   have h0' : off < 0 := by omega
   clear h0
   go_enter Tryz.func207, Tryz.ntmps207
   go_wp2_with (go_at_call 213; refine (isSize_any _ _).mono ?_; rintro e w' ⟨rfl, rfl⟩)
   go_ret
   exact ⟨rfl, rfl⟩
 ·have hz : sizeB n = false := by unfold sizeB; simp only [hs]; rfl
  have hb : fitsB off n = false := by unfold fitsB; simp [hs]
  rw [hb]; clear hb hs
  go_enter Tryz.func207, Tryz.ntmps207
  go_wp2_with (go_at_call 213; refine (isSize_any _ _).mono ?_; rintro e w' ⟨rfl, rfl⟩)
  go_ret
  exact ⟨rfl, rfl⟩
theorem fits_yes {off n : Int} (h : fitsB off n = true) : ∃ o k : Nat, off = o ∧ n = k ∧ (k = 1 ∨ k = 2 ∨ k = 4 ∨ k = 8) ∧ o + k ≤ 8 ∧ o % k = 0 := by
 unfold fitsB at h
 have h := of_decide_eq_true h
 obtain ⟨hs, h0, hl, hm⟩ := h
 refine ⟨off.toNat, n.toNat, by omega, by omega, by omega, by omega, ?_⟩
 rcases hs with rfl | rfl | rfl | rfl
 ·simp; omega
 ·simp; omega
 ·simp; omega
 ·simp; omega
theorem mask_no (off n : Int) (w : World) (h : fitsB off n = false) : Calls Tryz.prog 202 #[.int .i64 off, .int .i64 n] w fun e w' => e = .returned (.int .i64 0) ∧ w' = w := by
 go_enter Tryz.func202, Tryz.ntmps202
 go_wp2_with (go_at_call 207; refine (fits_any _ _ _).mono ?_; rintro e w' ⟨rfl, rfl⟩)
 go_ret
 exact ⟨rfl, rfl⟩
theorem mask_yes (o k : Nat) (w : World) (hk : o + k ≤ 8) (h : fitsB o k = true) : Calls Tryz.prog 202 #[.int .i64 o, .int .i64 k] w fun e w' => e = .returned (.int .i64 (I (maskB o k))) ∧ w' = w := by
 go_enter Tryz.func202, Tryz.ntmps202
 go_wp2_with (go_at_call 207; refine (fits_any _ _ _).mono ?_; rintro e w' ⟨rfl, rfl⟩)
 go_ret
 exact ⟨ret_int (mask_eq o k), rfl⟩
theorem fits_sizeB {off n : Int} (h : fitsB off n = true) : sizeB n = true := by
 unfold fitsB at h; unfold sizeB; simp at h ⊢; exact h.1
theorem rmask_no (off n : Int) (w : World) (h : fitsB off n = false) : Calls Tryz.prog 158 #[.int .i64 off, .int .i64 n] w fun e w' => e = .returned (.int .i64 0) ∧ w' = w := by
 by_cases hs : n = 1 ∨ n = 2 ∨ n = 4 ∨ n = 8
 ·have hz : sizeB n = true := by unfold sizeB; simp [hs]
  have hn1 : 1 ≤ n := by omega
  have hn8 : n ≤ 8 := by omega
  by_cases h0 : off < 0
  ·clear h hs
   go_enter Tryz.func158, Tryz.ntmps158
   go_wp2_with (go_at_call 189; refine (size_any _ _).mono ?_; rintro e w' ⟨rfl, rfl⟩)
   go_ret
   exact ⟨rfl, rfl⟩
  have h0' : 0 ≤ off := by omega
  by_cases hl : 8 - n < off
  ·clear h hs h0
   go_enter Tryz.func158, Tryz.ntmps158
   go_wp2_with (go_at_call 189; refine (size_any _ _).mono ?_; rintro e w' ⟨rfl, rfl⟩)
   go_ret
   exact ⟨rfl, rfl⟩
  have hl' : off ≤ 8 - n := by omega
  have hm : (off % n != 0) = true := by
   unfold fitsB at h; simp [hs, h0', hl'] at h; simpa using h
  clear h hs h0 hl
  go_enter Tryz.func158, Tryz.ntmps158
  go_wp2_with (go_at_call 189; refine (size_any _ _).mono ?_; rintro e w' ⟨rfl, rfl⟩)
  go_ret
  exact ⟨rfl, rfl⟩
 ·have hz : sizeB n = false := by unfold sizeB; simp only [hs]; rfl
  clear h hs
  go_enter Tryz.func158, Tryz.ntmps158
  go_wp2_with (go_at_call 189; refine (size_any _ _).mono ?_; rintro e w' ⟨rfl, rfl⟩)
  go_ret
  exact ⟨rfl, rfl⟩
theorem rmask_yes (o k : Nat) (w : World) (hk : o + k ≤ 8) (h : fitsB o k = true) : Calls Tryz.prog 158 #[.int .i64 o, .int .i64 k] w fun e w' => e = .returned (.int .i64 (I (maskB o k))) ∧ w' = w := by
 have hz := fits_sizeB h
 have hm : (((o : Int) % (k : Int)) != 0) = false := by
  unfold fitsB at h; have h := of_decide_eq_true h; simp [h.2.2.2]
 have hk1 : 1 ≤ k := by
  unfold fitsB at h; have h := of_decide_eq_true h; omega
 clear h
 go_enter Tryz.func158, Tryz.ntmps158
 go_wp2_with (go_at_call 189; refine (size_any _ _).mono ?_; rintro e w' ⟨rfl, rfl⟩)
 go_loop [5, 6] (fun m i => ∃ j : Nat, j ≤ k ∧ i = .int .i64 ((o + j : Nat) : Int) ∧ m = .int .i64 (I (maskB o j))) (fun _ i => o + k - (intOf i).toNat)
 case atStart => exact ⟨0, Nat.zero_le _, rfl, by rw [show maskB o 0 = 0#64 by simp [maskB], I_zero]⟩
 case round =>
  obtain ⟨j, hj, rfl, rfl⟩ := hrel
  by_cases hlt : j < k
  ·have HS : Hid (maskB o j ||| (1#64 <<< (o + j)) = maskB o (j + 1)) := mask_step o (by omega) j (by omega)
   go_wp2
   go_round
   case rel => exact ⟨j + 1, by omega, by go_num, by rw [pow_I, bits_or, HS.out]⟩
   case measure => simp [intOf]; omega
  ·obtain rfl : j = k := by omega
   go_wp2
   go_ret
   exact ⟨rfl, rfl⟩
def maskR (off n : Int) : Int := if fitsB off n = true then I (maskB off.toNat n.toNat) else 0
theorem maskR_yes {o k : Nat} (h : fitsB o k = true) : maskR o k = I (maskB o k) := by unfold maskR; rw [if_pos h]; simp
theorem maskR_no {off n : Int} (h : fitsB off n = false) : maskR off n = 0 := by unfold maskR; rw [h]; simp
theorem mask_all (off n : Int) (w : World) : Calls Tryz.prog 202 #[.int .i64 off, .int .i64 n] w fun e w' => e = .returned (.int .i64 (maskR off n)) ∧ w' = w := by
 cases h : fitsB off n
 ·rw [maskR_no h]; exact mask_no off n w h
 ·obtain ⟨o, k, rfl, rfl, hk, hok, hm⟩ := fits_yes h
  rw [maskR_yes h]; exact mask_yes o k w hok h
theorem rmask_all (off n : Int) (w : World) : Calls Tryz.prog 158 #[.int .i64 off, .int .i64 n] w fun e w' => e = .returned (.int .i64 (maskR off n)) ∧ w' = w := by
 cases h : fitsB off n
 ·rw [maskR_no h]; exact rmask_no off n w h
 ·obtain ⟨o, k, rfl, rfl, hk, hok, hm⟩ := fits_yes h
  rw [maskR_yes h]; exact rmask_yes o k w hok h
structure Ins where
 op : Int
 dst : Int
 a : Int
 b : Int
 imm : Int
 loc : Int
 off : Int
 index : Int
 size : Int
 fn : Int
 acq : Bool
 weak : Bool
 rel : Bool
 pred : Int
 succ : Int
 to : Int
 zero : Bool
 deriving DecidableEq
def insC (i : Ins) : Array Value := #[.int .i64 i.op, .int .i64 i.dst, .int .i64 i.a, .int .i64 i.b, .int .i64 i.imm, .int .i64 i.loc, .int .i64 i.off, .int .i64 i.index, .int .i64 i.size, .int .i64 i.fn,
 .bool i.acq, .bool i.weak, .bool i.rel, .int .i64 i.pred, .int .i64 i.succ, .int .i64 i.to, .bool i.zero]
set_option maxHeartbeats 400000 in
theorem isBranch_any (i : Ins) (w : World) : Calls Tryz.prog 156 #[.agg (insC i)] w fun e w' => e = .returned (.bool (i.op == 9)) ∧ Grow w w' := by
 unfold insC
 go_enter Tryz.func156, Tryz.ntmps156
 go_wp2
 go_outline
 go_ret
 exact ⟨rfl, (Grow.refl _).alloc _⟩
theorem nin3 {g h i k : Nat} (h1 : k ≠ g) (h2 : k ≠ h) (h3 : k ≠ i) : [g, h, i].contains k = false := by simp [h1, h2, h3]
theorem three_a {g h i k : Nat} (hh : [g, h, i].contains k = false) : k ≠ g := by simp at hh; exact hh.1
theorem three_b {g h i k : Nat} (hh : [g, h, i].contains k = false) : k ≠ h := by simp at hh; exact hh.2.1
theorem three_c {g h i k : Nat} (hh : [g, h, i].contains k = false) : k ≠ i := by simp at hh; exact hh.2.2
theorem lows3 {B g h i : Nat} (h1 : B ≤ g) (h2 : B ≤ h) (h3 : B ≤ i) : ∀ k, k < B → [g, h, i].contains k = false := fun k hk => nin3 (by omega) (by omega) (by omega)
section
variable {L : List Tk} {s : Rs} {i : Ins} {y : Tk}
end
def alusX : List (List UInt8) := [[65, 68, 68], [83, 85, 66], [88, 79, 82], [65, 78, 68], [79, 82]]
def tailsX : List (List UInt8) := [[66], [87], [76], [81]]
def aluF (q : List UInt8) : Int := idxL alusX q 0 + 1
def szI (k : Int) : Int := if k == 0 then 1 else if k == 1 then 2 else if k == 2 then 4 else if k == 3 then 8 else 0
def szF (q h : List UInt8) : Int := if preB q h then szI (idxL tailsX (q.drop h.length) 0) else 0
theorem b_shl1 {P : Program} {w : World} {t : TypeId} {x y : Operand} {j : Nat} (hj : j < 4) : (eqGuard .shl t x y (.int .i64 1) (.int .i64 (j : Int))).run P w = .ok () w ∧ (binOp .shl t (.int .i64 1) (.int .i64 (j : Int))).run P w = .ok (.int .i64 (szI (j : Int))) w := by
 refine ⟨by simp [eqGuard], ?_⟩
 have : j = 0 ∨ j = 1 ∨ j = 2 ∨ j = 3 := by omega
 rcases this with rfl | rfl | rfl | rfl <;> simp [binOp, go_sem, szI] <;> rfl
theorem ent101 : Ent Tryz.prog 101 = FF := by kernel_rfl
theorem ent49 : Ent Tryz.prog 49 = FF := by kernel_rfl
theorem ent53 : Ent Tryz.prog 53 = FF := by kernel_rfl
theorem isBlank_any (c : UInt8) (w : World) : Calls Tryz.prog 46 #[.int .u8 ((c.toNat : Nat) : Int)] w λ e w' => e = .returned (.bool (blkB c)) ∧ Grow w w' := by
 have b0 := Grow.refl w
 refine enter (n := 13) Tryz.func46 rfl rfl (nb_ rfl) λ _ A=>sw_<|Z 1 A rfl λ A=>qt_<|sw_<|Z 1 A rfl λ A=>?_
 rcases eb_ (((c.toNat : Nat) : Int) == 32) with hb7 | hb7
 ·skip
  have hq8 := eq_of_beq hb7
  refine B2 A rfl (bq hb7) λ A=>Z 9 A rfl λ A=>qt_<|we_<|ret1 rfl A (v := (.bool true)) rfl ?_
  exact ⟨congrArg (λ b => Ending.returned (Value.bool b)) ((decide_eq_true (by omega)).symm), b0⟩
 have hq29 := ne_of_beq hb7
 refine B2 A rfl (bq hb7) λ A=>Z 2 A rfl λ A=>?_
 rcases eb_ (((c.toNat : Nat) : Int) == 9) with hb36 | hb36
 ·skip
  have hq37 := eq_of_beq hb36
  refine B2 A rfl (bq hb36) λ A=>Z 6 A rfl λ A=>qt_<|we_<|ret1 rfl A (v := (.bool true)) rfl ?_
  exact ⟨congrArg (λ b => Ending.returned (Value.bool b)) ((decide_eq_true (by omega)).symm), b0⟩
 have hq52 := ne_of_beq hb36
 refine B2 A rfl (bq hb36) λ A=>Z 3 A rfl λ A=>?_
 rcases eb_ (((c.toNat : Nat) : Int) == 10) with hb61 | hb61
 ·skip
  have hq62 := eq_of_beq hb61
  refine B2 A rfl (bq hb61) λ A=>Z 2 A rfl λ A=>qt_<|we_<|ret1 rfl A (v := (.bool true)) rfl ?_
  exact ⟨congrArg (λ b => Ending.returned (Value.bool b)) ((decide_eq_true (by omega)).symm), b0⟩
 have hq69 := ne_of_beq hb61
 refine B2 A rfl (bq hb61) λ A=>Z 2 A rfl λ A=>qt_<|we_<|ret1 rfl A (v := (.bool false)) rfl ?_
 exact ⟨congrArg (λ b => Ending.returned (Value.bool b)) ((decide_eq_false (by omega)).symm), b0⟩
theorem isDigit_any (c : UInt8) (w : World) : Calls Tryz.prog 49 #[.int .u8 ((c.toNat : Nat) : Int)] w λ e w' => e = .returned (.bool (digB c)) ∧ Grow w w' := by
 have b0 := Grow.refl w
 refine enter (n := 9) Tryz.func49 rfl rfl (nb_ rfl) λ _ A=>sw_<|Z 1 A rfl λ A=>qt_<|sw_<|Z 1 A rfl λ A=>?_
 rcases eb_ (decide ((48 : Int) ≤ ((c.toNat : Nat) : Int))) with hb7 | hb7
 ·skip
  have hq8 := dt_ hb7
  refine B2 A rfl (ble_ hb7) λ A=>Z 2 A rfl λ A=>?_
  rcases eb_ (decide (((c.toNat : Nat) : Int) ≤ 57)) with hb15 | hb15
  ·skip
   have hq16 := dt_ hb15
   refine B2 A rfl (ble_ hb15) λ A=>Z 2 A rfl λ A=>qt_<|we_<|ret1 rfl A (v := (.bool true)) rfl ?_
   exact ⟨congrArg (λ b => Ending.returned (Value.bool b)) ((decide_eq_true (by omega)).symm), b0⟩
  have hq23 := df_ hb15
  refine B2 A rfl (ble_ hb15) λ A=>Z 2 A rfl λ A=>qt_<|we_<|ret1 rfl A (v := (.bool false)) rfl ?_
  exact ⟨congrArg (λ b => Ending.returned (Value.bool b)) ((decide_eq_false (by omega)).symm), b0⟩
 have hq30 := df_ hb7
 refine B2 A rfl (ble_ hb7) λ A=>Z 5 A rfl λ A=>qt_<|we_<|ret1 rfl A (v := (.bool false)) rfl ?_
 exact ⟨congrArg (λ b => Ending.returned (Value.bool b)) ((decide_eq_false (by omega)).symm), b0⟩
theorem isLetter_any (c : UInt8) (w : World) : Calls Tryz.prog 101 #[.int .u8 ((c.toNat : Nat) : Int)] w λ e w' => e = .returned (.bool (letB c)) ∧ Grow w w' := by
 have b0 := Grow.refl w
 refine enter (n := 17) Tryz.func101 rfl rfl (nb_ rfl) λ _ A=>sw_<|Z 1 A rfl λ A=>qt_<|sw_<|Z 1 A rfl λ A=>?_
 rcases eb_ (decide ((97 : Int) ≤ ((c.toNat : Nat) : Int))) with hb7 | hb7
 ·skip
  have hq8 := dt_ hb7
  refine B2 A rfl (ble_ hb7) λ A=>Z 2 A rfl λ A=>?_
  rcases eb_ (decide (((c.toNat : Nat) : Int) ≤ 122)) with hb15 | hb15
  ·skip
   have hq16 := dt_ hb15
   refine B2 A rfl (ble_ hb15) λ A=>Z 10 A rfl λ A=>qt_<|we_<|ret1 rfl A (v := (.bool true)) rfl ?_
   exact ⟨congrArg (λ b => Ending.returned (Value.bool b)) ((decide_eq_true (by omega)).symm), b0⟩
  have hq39 := df_ hb15
  refine B2 A rfl (ble_ hb15) λ A=>Z 3 A rfl λ A=>?_
  rcases eb_ (decide ((65 : Int) ≤ ((c.toNat : Nat) : Int))) with hb48 | hb48
  ·skip
   have hq49 := dt_ hb48
   refine B2 A rfl (ble_ hb48) λ A=>Z 2 A rfl λ A=>?_
   rcases eb_ (decide (((c.toNat : Nat) : Int) ≤ 90)) with hb56 | hb56
   ·skip
    have hq57 := dt_ hb56
    refine B2 A rfl (ble_ hb56) λ A=>Z 3 A rfl λ A=>qt_<|we_<|ret1 rfl A (v := (.bool true)) rfl ?_
    exact ⟨congrArg (λ b => Ending.returned (Value.bool b)) ((decide_eq_true (by omega)).symm), b0⟩
   have hq66 := df_ hb56
   refine B2 A rfl (ble_ hb56) λ A=>Z 3 A rfl λ A=>qt_<|we_<|ret1 rfl A (v := (.bool false)) rfl ?_
   exact ⟨congrArg (λ b => Ending.returned (Value.bool b)) ((decide_eq_false (by omega)).symm), b0⟩
  have hq75 := df_ hb48
  refine B2 A rfl (ble_ hb48) λ A=>Z 6 A rfl λ A=>qt_<|we_<|ret1 rfl A (v := (.bool false)) rfl ?_
  exact ⟨congrArg (λ b => Ending.returned (Value.bool b)) ((decide_eq_false (by omega)).symm), b0⟩
 have hq90 := df_ hb7
 refine B2 A rfl (ble_ hb7) λ A=>Z 6 A rfl λ A=>?_
 rcases eb_ (decide ((65 : Int) ≤ ((c.toNat : Nat) : Int))) with hb105 | hb105
 ·skip
  have hq106 := dt_ hb105
  refine B2 A rfl (ble_ hb105) λ A=>Z 2 A rfl λ A=>?_
  rcases eb_ (decide (((c.toNat : Nat) : Int) ≤ 90)) with hb113 | hb113
  ·skip
   have hq114 := dt_ hb113
   refine B2 A rfl (ble_ hb113) λ A=>Z 3 A rfl λ A=>qt_<|we_<|ret1 rfl A (v := (.bool true)) rfl ?_
   exact ⟨congrArg (λ b => Ending.returned (Value.bool b)) ((decide_eq_true (by omega)).symm), b0⟩
  have hq123 := df_ hb113
  refine B2 A rfl (ble_ hb113) λ A=>Z 3 A rfl λ A=>qt_<|we_<|ret1 rfl A (v := (.bool false)) rfl ?_
  exact ⟨congrArg (λ b => Ending.returned (Value.bool b)) ((decide_eq_false (by omega)).symm), b0⟩
 have hq132 := df_ hb105
 refine B2 A rfl (ble_ hb105) λ A=>Z 6 A rfl λ A=>qt_<|we_<|ret1 rfl A (v := (.bool false)) rfl ?_
 exact ⟨congrArg (λ b => Ending.returned (Value.bool b)) ((decide_eq_false (by omega)).symm), b0⟩
theorem isNumberPart_any (c : UInt8) (w : World) : Calls Tryz.prog 52 #[.int .u8 ((c.toNat : Nat) : Int)] w λ e w' => e = .returned (.bool (numB c)) ∧ Grow w w' := by
 have b0 := Grow.refl w
 refine enter (n := 9) Tryz.func52 rfl rfl (nb_ rfl) λ _ A=>sw_<|Z 1 A rfl λ A=>qt_<|sw_<|Z 1 A rfl λ A=>C A rfl ent101 (isLetter_any c w) ?_
 rintro e10 w7 ⟨he9, hG8⟩
 have b11 := bls b0 hG8
 rcases eb_ (letB c) with hb12 | hb12
 ·skip
  refine ⟨.bool true, he9.trans (ret_bool hb12), λ _ A=>Z 5 A rfl λ A=>qt_<|we_<|ret1 rfl A (v := (.bool true)) rfl ?_⟩
  exact ⟨congrArg (λ b => Ending.returned (Value.bool b)) (by simp [numB, hb12] <;> omega), b11⟩
 refine ⟨.bool false, he9.trans (ret_bool hb12), λ _ A=>Z 2 A rfl λ A=>C A rfl ent49 (isDigit_any c w7) ?_⟩
 rintro e36 w33 ⟨he35, hG34⟩
 have b37 := bls b11 hG34
 rcases eb_ (digB c) with hb38 | hb38
 ·skip
  refine ⟨.bool true, he35.trans (ret_bool hb38), λ _ A=>Z 2 A rfl λ A=>qt_<|we_<|ret1 rfl A (v := (.bool true)) rfl ?_⟩
  exact ⟨congrArg (λ b => Ending.returned (Value.bool b)) (by simp [numB, hb12, hb38] <;> omega), b37⟩
 refine ⟨.bool false, he35.trans (ret_bool hb38), λ _ A=>Z 2 A rfl λ A=>qt_<|we_<|ret1 rfl A (v := (.bool false)) rfl ?_⟩
 exact ⟨congrArg (λ b => Ending.returned (Value.bool b)) (by simp [numB, hb12, hb38] <;> omega), b37⟩
theorem isNameBegin_any (c : UInt8) (w : World) : Calls Tryz.prog 53 #[.int .u8 ((c.toNat : Nat) : Int)] w λ e w' => e = .returned (.bool (nbgB c)) ∧ Grow w w' := by
 have b0 := Grow.refl w
 refine enter (n := 9) Tryz.func53 rfl rfl (nb_ rfl) λ _ A=>sw_<|Z 1 A rfl λ A=>qt_<|sw_<|Z 1 A rfl λ A=>C A rfl ent101 (isLetter_any c w) ?_
 rintro e10 w7 ⟨he9, hG8⟩
 have b11 := bls b0 hG8
 rcases eb_ (letB c) with hb12 | hb12
 ·skip
  refine ⟨.bool true, he9.trans (ret_bool hb12), λ _ A=>Z 5 A rfl λ A=>qt_<|we_<|ret1 rfl A (v := (.bool true)) rfl ?_⟩
  exact ⟨congrArg (λ b => Ending.returned (Value.bool b)) (by simp [nbgB, hb12] <;> omega), b11⟩
 refine ⟨.bool false, he9.trans (ret_bool hb12), λ _ A=>Z 2 A rfl λ A=>?_⟩
 rcases eb_ (((c.toNat : Nat) : Int) == 95) with hb33 | hb33
 ·skip
  have hq34 := eq_of_beq hb33
  refine B2 A rfl (bq hb33) λ A=>Z 2 A rfl λ A=>qt_<|we_<|ret1 rfl A (v := (.bool true)) rfl ?_
  exact ⟨congrArg (λ b => Ending.returned (Value.bool b)) (by simp [nbgB, hb12, hb33] <;> omega), b11⟩
 have hq41 := ne_of_beq hb33
 refine B2 A rfl (bq hb33) λ A=>Z 2 A rfl λ A=>qt_<|we_<|ret1 rfl A (v := (.bool false)) rfl ?_
 exact ⟨congrArg (λ b => Ending.returned (Value.bool b)) (by simp [nbgB, hb12, hb33] <;> omega), b11⟩
theorem isNamePart_any (c : UInt8) (w : World) : Calls Tryz.prog 54 #[.int .u8 ((c.toNat : Nat) : Int)] w λ e w' => e = .returned (.bool (namB c)) ∧ Grow w w' := by
 have b0 := Grow.refl w
 refine enter (n := 13) Tryz.func54 rfl rfl (nb_ rfl) λ _ A=>sw_<|Z 1 A rfl λ A=>qt_<|sw_<|Z 1 A rfl λ A=>C A rfl ent53 (isNameBegin_any c w) ?_
 rintro e10 w7 ⟨he9, hG8⟩
 have b11 := bls b0 hG8
 rcases eb_ (nbgB c) with hb12 | hb12
 ·skip
  refine ⟨.bool true, he9.trans (ret_bool hb12), λ _ A=>Z 9 A rfl λ A=>qt_<|we_<|ret1 rfl A (v := (.bool true)) rfl ?_⟩
  exact ⟨congrArg (λ b => Ending.returned (Value.bool b)) (by simp [namB, hb12] <;> omega), b11⟩
 refine ⟨.bool false, he9.trans (ret_bool hb12), λ _ A=>Z 2 A rfl λ A=>C A rfl ent49 (isDigit_any c w7) ?_⟩
 rintro e44 w41 ⟨he43, hG42⟩
 have b45 := bls b11 hG42
 rcases eb_ (digB c) with hb46 | hb46
 ·skip
  refine ⟨.bool true, he43.trans (ret_bool hb46), λ _ A=>Z 6 A rfl λ A=>qt_<|we_<|ret1 rfl A (v := (.bool true)) rfl ?_⟩
  exact ⟨congrArg (λ b => Ending.returned (Value.bool b)) (by simp [namB, hb12, hb46] <;> omega), b45⟩
 refine ⟨.bool false, he43.trans (ret_bool hb46), λ _ A=>Z 3 A rfl λ A=>?_⟩
 rcases eb_ (((c.toNat : Nat) : Int) == 46) with hb71 | hb71
 ·skip
  have hq72 := eq_of_beq hb71
  refine B2 A rfl (bq hb71) λ A=>Z 2 A rfl λ A=>qt_<|we_<|ret1 rfl A (v := (.bool true)) rfl ?_
  exact ⟨congrArg (λ b => Ending.returned (Value.bool b)) (by simp [namB, hb12, hb46, hb71] <;> omega), b45⟩
 have hq79 := ne_of_beq hb71
 refine B2 A rfl (bq hb71) λ A=>Z 2 A rfl λ A=>qt_<|we_<|ret1 rfl A (v := (.bool false)) rfl ?_
 exact ⟨congrArg (λ b => Ending.returned (Value.bool b)) (by simp [namB, hb12, hb46, hb71] <;> omega), b45⟩
theorem rdigit_any (c : UInt8) (w : World) : Calls Tryz.prog 129 #[.int .u8 ((c.toNat : Nat) : Int)] w λ e w' => e = .returned (.bool (digB c)) ∧ Grow w w' := by
 have b0 := Grow.refl w
 refine enter (n := 9) Tryz.func129 rfl rfl (nb_ rfl) λ _ A=>sw_<|Z 1 A rfl λ A=>qt_<|sw_<|Z 1 A rfl λ A=>?_
 rcases eb_ (decide (((c.toNat : Nat) : Int) ≥ 48)) with hb7 | hb7
 ·skip
  have hq8 := dt_ hb7
  refine B2 A rfl (bge_ hb7) λ A=>Z 2 A rfl λ A=>?_
  rcases eb_ (decide (((c.toNat : Nat) : Int) ≤ 57)) with hb15 | hb15
  ·skip
   have hq16 := dt_ hb15
   refine B2 A rfl (ble_ hb15) λ A=>Z 2 A rfl λ A=>qt_<|we_<|ret1 rfl A (v := (.bool true)) rfl ?_
   exact ⟨congrArg (λ b => Ending.returned (Value.bool b)) ((decide_eq_true (by omega)).symm), b0⟩
  have hq23 := df_ hb15
  refine B2 A rfl (ble_ hb15) λ A=>Z 2 A rfl λ A=>qt_<|we_<|ret1 rfl A (v := (.bool false)) rfl ?_
  exact ⟨congrArg (λ b => Ending.returned (Value.bool b)) ((decide_eq_false (by omega)).symm), b0⟩
 have hq30 := df_ hb7
 refine B2 A rfl (bge_ hb7) λ A=>Z 5 A rfl λ A=>qt_<|we_<|ret1 rfl A (v := (.bool false)) rfl ?_
 exact ⟨congrArg (λ b => Ending.returned (Value.bool b)) ((decide_eq_false (by omega)).symm), b0⟩
theorem rletter_any (c : UInt8) (w : World) : Calls Tryz.prog 132 #[.int .u8 ((c.toNat : Nat) : Int)] w λ e w' => e = .returned (.bool (letB c)) ∧ Grow w w' := by
 have b0 := Grow.refl w
 refine enter (n := 17) Tryz.func132 rfl rfl (nb_ rfl) λ _ A=>sw_<|Z 1 A rfl λ A=>qt_<|sw_<|Z 1 A rfl λ A=>?_
 rcases eb_ (decide (((c.toNat : Nat) : Int) ≥ 97)) with hb7 | hb7
 ·skip
  have hq8 := dt_ hb7
  refine B2 A rfl (bge_ hb7) λ A=>Z 2 A rfl λ A=>?_
  rcases eb_ (decide (((c.toNat : Nat) : Int) ≤ 122)) with hb15 | hb15
  ·skip
   have hq16 := dt_ hb15
   refine B2 A rfl (ble_ hb15) λ A=>Z 10 A rfl λ A=>qt_<|we_<|ret1 rfl A (v := (.bool true)) rfl ?_
   exact ⟨congrArg (λ b => Ending.returned (Value.bool b)) ((decide_eq_true (by omega)).symm), b0⟩
  have hq39 := df_ hb15
  refine B2 A rfl (ble_ hb15) λ A=>Z 3 A rfl λ A=>?_
  rcases eb_ (decide (((c.toNat : Nat) : Int) ≥ 65)) with hb48 | hb48
  ·skip
   have hq49 := dt_ hb48
   refine B2 A rfl (bge_ hb48) λ A=>Z 2 A rfl λ A=>?_
   rcases eb_ (decide (((c.toNat : Nat) : Int) ≤ 90)) with hb56 | hb56
   ·skip
    have hq57 := dt_ hb56
    refine B2 A rfl (ble_ hb56) λ A=>Z 3 A rfl λ A=>qt_<|we_<|ret1 rfl A (v := (.bool true)) rfl ?_
    exact ⟨congrArg (λ b => Ending.returned (Value.bool b)) ((decide_eq_true (by omega)).symm), b0⟩
   have hq66 := df_ hb56
   refine B2 A rfl (ble_ hb56) λ A=>Z 3 A rfl λ A=>qt_<|we_<|ret1 rfl A (v := (.bool false)) rfl ?_
   exact ⟨congrArg (λ b => Ending.returned (Value.bool b)) ((decide_eq_false (by omega)).symm), b0⟩
  have hq75 := df_ hb48
  refine B2 A rfl (bge_ hb48) λ A=>Z 6 A rfl λ A=>qt_<|we_<|ret1 rfl A (v := (.bool false)) rfl ?_
  exact ⟨congrArg (λ b => Ending.returned (Value.bool b)) ((decide_eq_false (by omega)).symm), b0⟩
 have hq90 := df_ hb7
 refine B2 A rfl (bge_ hb7) λ A=>Z 6 A rfl λ A=>?_
 rcases eb_ (decide (((c.toNat : Nat) : Int) ≥ 65)) with hb105 | hb105
 ·skip
  have hq106 := dt_ hb105
  refine B2 A rfl (bge_ hb105) λ A=>Z 2 A rfl λ A=>?_
  rcases eb_ (decide (((c.toNat : Nat) : Int) ≤ 90)) with hb113 | hb113
  ·skip
   have hq114 := dt_ hb113
   refine B2 A rfl (ble_ hb113) λ A=>Z 3 A rfl λ A=>qt_<|we_<|ret1 rfl A (v := (.bool true)) rfl ?_
   exact ⟨congrArg (λ b => Ending.returned (Value.bool b)) ((decide_eq_true (by omega)).symm), b0⟩
  have hq123 := df_ hb113
  refine B2 A rfl (ble_ hb113) λ A=>Z 3 A rfl λ A=>qt_<|we_<|ret1 rfl A (v := (.bool false)) rfl ?_
  exact ⟨congrArg (λ b => Ending.returned (Value.bool b)) ((decide_eq_false (by omega)).symm), b0⟩
 have hq132 := df_ hb105
 refine B2 A rfl (bge_ hb105) λ A=>Z 6 A rfl λ A=>qt_<|we_<|ret1 rfl A (v := (.bool false)) rfl ?_
 exact ⟨congrArg (λ b => Ending.returned (Value.bool b)) ((decide_eq_false (by omega)).symm), b0⟩
theorem ent97 : Ent Tryz.prog 97 = FF := by kernel_rfl
theorem str9 : strB Tryz.prog 9 = true := by kernel_rfl
theorem run_any (l : List UInt8) (f : Nat) (p : UInt8 → Bool) (w : World) (hl : l.length ≤ 9223372036854775806) (hent : ((Tryz.prog.funcs[f]?).map λ fn => (fn.name == "runtime.NumGoroutine", fn.body.isNone)) = some (false, false)) (hcon : ∀ b w, Calls Tryz.prog f #[.int .u8 ((b.toNat : Nat) : Int)] w λ e w' => e = .returned (.bool (p b)) ∧ Grow w w') : Calls Tryz.prog 51 #[.string (S l), .func (.func f) #[] #[]] w λ e w' => e = .returned (J (((rn p l : Nat) : Int))) ∧ Grow w w' := by
 have b0 := Grow.refl w
 refine enter (n := 20) Tryz.func51 rfl rfl (nb_ rfl) λ _ A=>sw_<|Z 1 A rfl λ A=>qt_<|sw_<|Z 1 A rfl λ A=>qt_<|ws_<|wp_block<|loop_by (λ m8 a9 w10 => ∃ j7 : Nat, m8 = l.length - j7 ∧ (j7 ≤ l.length ∧ rn p l = j7 + rn p (List.drop j7 l)) ∧ St 20 [(0, (.string (S l))), (1, (.func (.func f) #[] #[])), (4, (J 0)), (5, (J ((j7 : Nat) : Int)))] a9 ∧ Below w.heap.size w w10) (l.length - 0) ⟨0, rfl, (by simp), A.cut _ (fc (A.g 0 rfl) (fc (A.g 1 rfl) (fc (A.g 4 rfl) (fc ((A.g 5 rfl).trans (congrArg (Value.int .i64) (by omega))) fn_)))), b0⟩ ?_
 rintro m8 a9 w10 ⟨j7, hm13, hc14, A, b12⟩
 obtain ⟨hjl, hrn⟩ := hc14
 refine ws_<|sw_<|Z 2 A rfl λ A=>qs A rfl (d_slen (wn rfl) (A.ev rfl) str9 λ _ A=>?_)
 rcases eb_ (decide (((j7 : Nat) : Int) < ((l.length : Nat) : Int))) with hb21 | hb21
 ·skip
  have hq22 := dt_ hb21
  refine B2 A rfl (bl hb21) λ A=>Z 4 A rfl λ A=>?_
  obtain ⟨y33, hy34⟩ : ∃ y33, l[j7]? = some y33 := ⟨_, List.getElem?_eq_getElem (show j7 < l.length by omega)⟩
  refine qs A rfl (d_sat (j := j7) (wy rfl rfl (A.g 10 rfl)) (A.ev rfl) (A.ev rfl) str9 hy34 λ _ A=>qs A rfl (d_callv (f := f) (wy rfl rfl (A.g 10 rfl)) (A.ev rfl) hent (map1 (A.ev rfl)) (hcon y33 w10) ?_))
  rintro e40 w37 ⟨he39, hG38⟩
  have b41 := bls b12 hG38
  rcases eb_ (p y33) with hb42 | hb42
  ·skip
   refine ⟨.bool true, he39.trans (ret_bool hb42), λ _ A=>Z 1 A rfl λ A=>qt_<|ct_ A rfl<|wk_<|tn_<|wp_block<|wr_<|Z 1 A rfl λ A=>B2 A rfl (b_addE (j7 + 1) (by omega) (by omega)) λ A=>Z 1 A rfl λ A=>qe_<|i_norm ?_⟩
   refine tn_ ?_
   have hst := rn_go hy34 hb42
   exact ⟨l.length - (j7 + 1), (by rw [hm13]; omega), j7 + 1, rfl, (by omega), A.sub rfl, b41⟩
  refine ⟨.bool false, he39.trans (ret_bool hb42), λ _ A=>Z 1 A rfl λ A=>qt_<|cf_ A rfl<|wp_exit<|t_exit<|t_exit<|i_here<|tn_<|sw_<|Z 2 A rfl λ A=>qe_ ?_⟩
  refine tn_<|we_<|ret1 rfl A (v := (J ((j7 : Nat) : Int))) rfl ?_
  have hst := rn_stop (p := p) hy34 hb42
  exact ⟨congrArg (λ z => Ending.returned (J z)) (by omega), b41⟩
 have hq63 := df_ hb21
 refine B2 A rfl (bl hb21) λ A=>Z 7 A rfl λ A=>qt_<|cf_ A rfl<|wp_exit<|t_exit<|t_exit<|i_here<|tn_<|sw_<|Z 2 A rfl λ A=>qe_ ?_
 refine tn_<|we_<|ret1 rfl A (v := (J ((j7 : Nat) : Int))) rfl ?_
 have hst : rn p (List.drop j7 l) = 0 := rn_end (by omega)
 exact ⟨congrArg (λ z => Ending.returned (J z)) (by omega), b12⟩
theorem hasPrefixL_any (l q : List UInt8) (w : World) : Calls Tryz.prog 97 #[.string (S l), .string (S q)] w λ e w' => e = .returned (.bool (preB l q)) ∧ Grow w w' := by
 have b0 := Grow.refl w
 refine enter (n := 18) Tryz.func97 rfl rfl (nb_ rfl) λ _ A=>sw_<|Z 1 A rfl λ A=>qt_<|sw_<|Z 1 A rfl λ A=>qs A rfl (d_slen (wn rfl) (A.ev rfl) str9 λ _ A=>Z 1 A rfl λ A=>qs A rfl (d_slen (wn rfl) (A.ev rfl) str9 λ _ A=>?_))
 rcases eb_ (decide (((l.length : Nat) : Int) ≥ ((q.length : Nat) : Int))) with hb13 | hb13
 ·skip
  have hq14 := dt_ hb13
  refine B2 A rfl (bge_ hb13) λ A=>Z 3 A rfl λ A=>qs A rfl (d_slen (wy rfl rfl (A.g 10 rfl)) (A.ev rfl) str9 λ _ A=>qs A rfl (d_shead (n := q.length) (wy rfl rfl (A.g 10 rfl)) (A.ev rfl) (A.ev rfl) str9 (by omega) λ _ A=>Z 1 A rfl λ A=>?_))
  rcases eb_ (eqL (List.take q.length l) q) with hb29 | hb29
  ·skip
   refine B2 A rfl (b_seq (l := List.take q.length l) (m := q) (r := true) hb29) λ A=>Z 2 A rfl λ A=>qt_<|we_<|ret1 rfl A (v := (.bool true)) rfl ?_
   exact ⟨congrArg (λ b => Ending.returned (Value.bool b)) (by exact (pre_yes (by omega) hb29).symm), b0⟩
  refine B2 A rfl (b_seq (l := List.take q.length l) (m := q) (r := false) hb29) λ A=>Z 2 A rfl λ A=>qt_<|we_<|ret1 rfl A (v := (.bool false)) rfl ?_
  exact ⟨congrArg (λ b => Ending.returned (Value.bool b)) (by first | exact (pre_short (by omega)).symm | exact (pre_no (by omega) hb29).symm), b0⟩
 have hq44 := df_ hb13
 refine B2 A rfl (bge_ hb13) λ A=>Z 9 A rfl λ A=>qt_<|we_<|ret1 rfl A (v := (.bool false)) rfl ?_
 exact ⟨congrArg (λ b => Ending.returned (Value.bool b)) (by first | exact (pre_short (by omega)).symm | exact (pre_no (by omega) hb13).symm), b0⟩
theorem hasPrefix_any (l q : List UInt8) (w : World) : Calls Tryz.prog 47 #[.string (S l), .string (S q)] w λ e w' => e = .returned (.bool (preB l q)) ∧ Grow w w' := by
 have b0 := Grow.refl w
 refine enter (n := 8) Tryz.func47 rfl rfl (nb_ rfl) λ _ A=>sw_<|Z 1 A rfl λ A=>qt_<|sw_<|Z 2 A rfl λ A=>C A rfl ent97 (hasPrefixL_any l q w) ?_
 rintro e12 w9 ⟨he11, hG10⟩
 have b13 := bls b0 hG10
 rcases eb_ (preB l q) with hb14 | hb14
 ·skip
  refine ⟨.bool true, he11.trans (ret_bool hb14), λ _ A=>Z 1 A rfl λ A=>qt_<|we_<|ret1 rfl A (v := (.bool true)) rfl ?_⟩
  exact ⟨ret_bool hb14.symm, b13⟩
 refine ⟨.bool false, he11.trans (ret_bool hb14), λ _ A=>Z 1 A rfl λ A=>qt_<|we_<|ret1 rfl A (v := (.bool false)) rfl ?_⟩
 exact ⟨ret_bool hb14.symm, b13⟩
end Go.Proofs.YtjkbjjlfijhbdaaGreatDoor
namespace Go.Proofs.YtjkbjjlfijhbdaaGreatDoor
open Go.Shelf Go.RowKit
set_option linter.defProp false
set_option maxHeartbeats 4000000
set_option maxRecDepth 100000
set_option linter.unusedVariables false
set_option linter.unusedSimpArgs false
def lays137_ren : Go.Shelf.Ren := ⟨fun | 137 => 102 | 217 => 135 | 266 => 167 | n => n, fun | 9 => 9 | 5 => 5 | 3 => 3 | n => n, fun | n => n⟩
theorem lays137 : Go.Proofs.Lays.n137 Tryz.prog lays137_ren := {
 mixed := by kernel_rfl
 f137 := Tryz.func102.trans (congrArg some (by kernel_rfl))
 f217 := Tryz.func135.trans (congrArg some (by kernel_rfl))
 f266 := Tryz.func167.trans (congrArg some (by kernel_rfl))
 t3 := Tryz.underlying3
 a3 := Tryz.isAgg3
 z3 := Tryz.sizeOf3
 v3 := Tryz.zeroValue3
 t5 := Tryz.underlying5
 a5 := Tryz.isAgg5
 z5 := Tryz.sizeOf5
 v5 := Tryz.zeroValue5
 t9 := Tryz.underlying9
 a9 := Tryz.isAgg9
 z9 := Tryz.sizeOf9
 v9 := Tryz.zeroValue9 }
def lays143_ren : Go.Shelf.Ren := ⟨fun | 143 => 48 | 219 => 98 | 217 => 135 | 225 => 136 | 224 => 137 | 267 => 138 | 266 => 167 | 314 => 168 | n => n, fun | 9 => 9 | 3 => 3 | 4 => 4 | 5 => 5 | 46 => 160 | 146 => 177 | 51 => 176 | n => n, fun | 1 => 0 | n => n⟩
theorem lays143 : Go.Proofs.Lays.n143 Tryz.prog lays143_ren := {
 mixed := by kernel_rfl
 f143 := Tryz.func48.trans (congrArg some (by kernel_rfl))
 f217 := Tryz.func135.trans (congrArg some (by kernel_rfl))
 f219 := Tryz.func98.trans (congrArg some (by kernel_rfl))
 f224 := Tryz.func137.trans (congrArg some (by kernel_rfl))
 f225 := Tryz.func136.trans (congrArg some (by kernel_rfl))
 f266 := Tryz.func167.trans (congrArg some (by kernel_rfl))
 f267 := Tryz.func138.trans (congrArg some (by kernel_rfl))
 f314 := Tryz.func168.trans (congrArg some (by kernel_rfl))
 t3 := Tryz.underlying3
 a3 := Tryz.isAgg3
 z3 := Tryz.sizeOf3
 v3 := Tryz.zeroValue3
 t4 := Tryz.underlying4
 a4 := Tryz.isAgg4
 z4 := Tryz.sizeOf4
 v4 := Tryz.zeroValue4
 t5 := Tryz.underlying5
 a5 := Tryz.isAgg5
 z5 := Tryz.sizeOf5
 v5 := Tryz.zeroValue5
 t9 := Tryz.underlying9
 a9 := Tryz.isAgg9
 z9 := Tryz.sizeOf9
 v9 := Tryz.zeroValue9
 t46 := Tryz.underlying160
 a46 := Tryz.isAgg160
 z46 := Tryz.sizeOf160
 v46 := Tryz.zeroValue160
 t51 := Tryz.underlying176
 a51 := Tryz.isAgg176
 z51 := Tryz.sizeOf176
 v51 := Tryz.zeroValue176
 t146 := Tryz.underlying177
 a146 := Tryz.isAgg177
 z146 := Tryz.sizeOf177
 v146 := Tryz.zeroValue177
 g1 := by kernel_rfl }
def marksL : List UInt8 := [123, 125, 40, 41, 91, 93, 59, 124, 44, 58, 61, 43, 45, 35, 36, 126, 42, 47, 92, 38, 63, 94]
def mrkB (b : UInt8) : Bool := marksL.contains b
theorem indexByte_mark (l : List UInt8) (b : UInt8) : decide (Lib.indexByte l b ≥ 0) = l.contains b := by
 induction l with
 | nil => rfl
 | cons x l ih =>
  unfold Lib.indexByte
  rw [List.contains_cons]
  by_cases h : x = b
  ·subst h; simp
  ·have h1 : (x == b) = false := by simp [h]
   have h2 : (b == x) = false := by simp [Ne.symm h]
   rw [h1, h2]
   simp only [Bool.false_eq_true, if_false, Bool.false_or]
   rw [← ih]
   have h3 := Lib.indexByte_ge l b
   by_cases h4 : Lib.indexByte l b = -1
   ·simp [h4]
   ·have h5 : (Lib.indexByte l b == -1) = false := by simp [h4]
    rw [h5]
    simp only [Bool.false_eq_true, if_false]
    exact decide_eq_decide.2 (by omega)
theorem indexByte_any (b : UInt8) (w : World) : Calls Tryz.prog 102 #[.string (S marksL), .int .u8 ((b.toNat : Nat) : Int)] w fun e w' => e = .returned (.int .i64 (Lib.indexByte marksL b)) ∧ Grow w w' := by
 refine (Any.strings_IndexByte lays137 (S marksL) ((b.toNat : Nat) : Int) w).mono ?_
 rintro e w' ⟨rfl, rfl⟩
 refine ⟨?_, Grow.refl _⟩
 rw [S_data, Int.toNat_natCast]
 simp
theorem index_any (l q : List UInt8) (m : Int) (w : World) (hl : l.length ≤ 8192) (hm : w.cell? ⟨0, 0, none⟩ = some (.int .i64 m)) : Calls Tryz.prog 48 #[.string (S l), .string (S q)] w fun e w' => e = .returned (.int .i64 (Lib.index l q)) ∧ Grow w w' := by
 refine (Any.strings_Index lays143 (S l) (S q) m w (by rw [S_size]; omega) hm).mono ?_
 rintro e w' ⟨rfl, rfl⟩
 exact ⟨by rw [S_data, S_data], Grow.refl _⟩
end Go.Proofs.YtjkbjjlfijhbdaaGreatDoor
namespace Go.Proofs.YtjkbjjlfijhbdaaGreatDoor
set_option linter.defProp false
set_option maxHeartbeats 4000000
set_option maxRecDepth 100000
set_option linter.unusedVariables false
set_option linter.unusedSimpArgs false
def mkN (l : List UInt8) : Nat := if preB l [47, 92] || preB l [92, 47] then 2 else if (match l[0]? with | some b => mrkB b | none => false) then 1 else 0
theorem mkN_two {l : List UInt8} (h : preB l [47, 92] = true) : mkN l = 2 := by unfold mkN; simp [h]
theorem mkN_two' {l : List UInt8} (h : preB l [92, 47] = true) : mkN l = 2 := by unfold mkN; simp [h]
theorem mkN_one {l : List UInt8} {b : UInt8} (h1 : preB l [47, 92] = false) (h2 : preB l [92, 47] = false) (hb : l[0]? = some b) (h : decide (Lib.indexByte marksL b ≥ 0) = true) : mkN l = 1 := by
 have : mrkB b = true := by unfold mrkB; rw [← indexByte_mark]; exact h
 unfold mkN; simp [h1, h2, hb, this]
theorem mkN_no {l : List UInt8} {b : UInt8} (h1 : preB l [47, 92] = false) (h2 : preB l [92, 47] = false) (hb : l[0]? = some b) (h : decide (Lib.indexByte marksL b ≥ 0) = false) : mkN l = 0 := by
 have : mrkB b = false := by unfold mrkB; rw [← indexByte_mark]; exact h
 unfold mkN; simp [h1, h2, hb, this]
theorem mk_len : marksL.length = 22 := rfl
theorem mk_go {c y : UInt8} {j : Nat} (h : (marksL.drop j).contains c = mrkB c) (hy : marksL[j]? = some y) (hn : ¬ ((y.toNat : Nat) : Int) = ((c.toNat : Nat) : Int)) : (marksL.drop (j + 1)).contains c = mrkB c := by
 rw [← h, drop_at hy, List.contains_cons]
 have : (c == y) = false := by
  cases he : c == y
  ·rfl
  ·exact absurd (by rw [eq_of_beq he]) hn
 rw [this, Bool.false_or]
theorem mk_yes {c y : UInt8} {j : Nat} (h : (marksL.drop j).contains c = mrkB c) (hy : marksL[j]? = some y) (hn : ((y.toNat : Nat) : Int) = ((c.toNat : Nat) : Int)) : mrkB c = true := by
 rw [← h, drop_at hy, List.contains_cons]
 have : y = c := UInt8.toNat_inj.1 (by omega)
 simp [this]
theorem mk_end {c : UInt8} {j : Nat} (h : (marksL.drop j).contains c = mrkB c) (hj : 22 ≤ j) : mrkB c = false := by
 rw [← h, List.drop_eq_nil_of_le (by rw [mk_len]; exact hj)]; rfl
end Go.Proofs.YtjkbjjlfijhbdaaGreatDoor
namespace Go.Proofs.YtjkbjjlfijhbdaaGreatDoor
open Go.RowKit
set_option linter.defProp false
set_option maxHeartbeats 4000000
set_option maxRecDepth 100000
set_option linter.unusedVariables false
set_option linter.unusedSimpArgs false
theorem ent102 : Ent Tryz.prog 102 = FF := by kernel_rfl
theorem ent129 : Ent Tryz.prog 129 = FF := by kernel_rfl
theorem ent132 : Ent Tryz.prog 132 = FF := by kernel_rfl
theorem ent139 : Ent Tryz.prog 139 = FF := by kernel_rfl
theorem ent47 : Ent Tryz.prog 47 = FF := by kernel_rfl
theorem cutPrefixL_any (l q : List UInt8) (w : World) : Calls Tryz.prog 139 #[.string (S l), .string (S q)] w λ e w' => e = .returned (.tuple #[.string (S (cutF l q)), .bool (preB l q)]) ∧ Grow w w' := by
 have b0 := Grow.refl w
 refine enter (n := 15) Tryz.func139 rfl rfl (nb_ rfl) λ _ A=>sw_<|Z 2 A rfl λ A=>qt_<|ws_<|sw_<|Z 2 A rfl λ A=>C A rfl ent97 (hasPrefixL_any l q w) ?_
 rintro e14 w11 ⟨he13, hG12⟩
 have b15 := bls b0 hG12
 rcases eb_ (preB l q) with hb16 | hb16
 ·skip
  refine ⟨.bool true, he13.trans (ret_bool hb16), λ _ A=>Z 1 A rfl λ A=>qt_<|cf_ A rfl<|wk_<|tn_<|sw_<|Z 2 A rfl λ A=>qs A rfl (d_slen (wn rfl) (A.ev rfl) str9 λ _ A=>qs A rfl (d_srest (n := q.length) (wn rfl) (A.ev rfl) (A.ev rfl) str9 (by first | omega | (have := pre_len ‹preB _ _ = true›; omega)) λ _ A=>Z 2 A rfl λ A=>qe_ ?_))⟩
  refine tn_<|we_<|ret2 (x := (.string (S (List.drop q.length l)))) (y := (.bool true)) rfl A rfl rfl ?_
  exact ⟨by unfold cutF; rw [hb16]; rfl, b15⟩
 refine ⟨.bool false, he13.trans (ret_bool hb16), λ _ A=>Z 1 A rfl λ A=>qt_<|ct_ A rfl<|sw_<|Z 3 A rfl λ A=>qt_<|we_<|tr_<|ret2 (x := (.string (S l))) (y := (.bool false)) rfl A rfl rfl ?_⟩
 exact ⟨by unfold cutF; rw [hb16]; rfl, b15⟩
theorem cutPrefix_any (l q : List UInt8) (w : World) : Calls Tryz.prog 99 #[.string (S l), .string (S q)] w λ e w' => e = .returned (.tuple #[.string (S (cutF l q)), .bool (preB l q)]) ∧ Grow w w' := by
 have b0 := Grow.refl w
 refine enter (n := 11) Tryz.func99 rfl rfl (nb_ rfl) λ _ A=>sw_<|Z 2 A rfl λ A=>qt_<|sw_<|Z 2 A rfl λ A=>C A rfl ent139 (cutPrefixL_any l q w) ?_
 rintro e14 w11 ⟨he13, hG12⟩
 have b15 := bls b0 hG12
 refine ⟨(.tuple #[(.string (S (cutF l q))), (.bool (preB l q))]), he13, λ _ A=>Z 4 A rfl λ A=>qt_<|we_<|ret2 (x := (.string (S (cutF l q)))) (y := (.bool (preB l q))) rfl A rfl rfl ?_⟩
 exact ⟨rfl, b15⟩
theorem markLen_any (l : List UInt8) (w : World) (hl : 0 < l.length) : Calls Tryz.prog 55 #[.string (S l)] w λ e w' => e = .returned (J ((mkN l : Nat) : Int)) ∧ Grow w w' := by
 have b0 := Grow.refl w
 refine enter (n := 13) Tryz.func55 rfl rfl (nb_ rfl) λ _ A=>sw_<|Z 1 A rfl λ A=>qt_<|ws_<|wp_block<|ws_<|sw_<|Z 1 A rfl λ A=>C A rfl ent47 (hasPrefix_any l [47, 92] w) ?_
 rintro e10 w7 ⟨he9, hG8⟩
 have b11 := bls b0 hG8
 rcases eb_ (preB l [47, 92]) with hb12 | hb12
 ·skip
  refine ⟨.bool true, he9.trans (ret_bool hb12), λ _ A=>Z 1 A rfl λ A=>qt_<|ct_ A rfl<|wk_<|tn_<|ct_ A rfl<|sw_<|Z 1 A rfl λ A=>qt_<|we_ ?_⟩
  refine i_ret<|tr_<|ret1 rfl A (v := (J 2)) rfl ?_
  exact ⟨by rw [mkN_two hb12]; rfl, b11⟩
 refine ⟨.bool false, he9.trans (ret_bool hb12), λ _ A=>Z 1 A rfl λ A=>qt_<|cf_ A rfl<|wr_<|Z 1 A rfl λ A=>C A rfl ent47 (hasPrefix_any l [92, 47] w7) ?_⟩
 rintro e30 w27 ⟨he29, hG28⟩
 have b31 := bls b11 hG28
 rcases eb_ (preB l [92, 47]) with hb32 | hb32
 ·skip
  refine ⟨.bool true, he29.trans (ret_bool hb32), λ _ A=>Z 1 A rfl λ A=>qt_<|ct_ A rfl<|sw_<|Z 1 A rfl λ A=>qt_<|we_<|i_ret<|tr_<|ret1 rfl A (v := (J 2)) rfl ?_⟩
  exact ⟨by rw [mkN_two' hb32]; rfl, b31⟩
 refine ⟨.bool false, he29.trans (ret_bool hb32), λ _ A=>Z 1 A rfl λ A=>qt_<|cf_ A rfl<|sw_<|Z 1 A rfl λ A=>?_⟩
 obtain ⟨y47, hy48⟩ : ∃ y47, l[0]? = some y47 := ⟨_, List.getElem?_eq_getElem (show 0 < l.length by omega)⟩
 refine qs A rfl (d_sat (j := 0) (wn rfl) (A.ev rfl) (A.ev rfl) str9 hy48 λ _ A=>C A rfl ent102 (indexByte_any y47 w27) ?_)
 rintro e54 w51 ⟨he53, hG52⟩
 have b55 := bls b31 hG52
 refine ⟨(J (Lib.indexByte marksL y47)), he53, λ _ A=>?_⟩
 rcases eb_ (decide (Lib.indexByte marksL y47 ≥ 0)) with hb58 | hb58
 ·skip
  have hq59 := dt_ hb58
  refine B2 A rfl (bge_ hb58) λ A=>Z 1 A rfl λ A=>qt_<|ct_ A rfl<|sw_<|Z 1 A rfl λ A=>qt_<|we_<|i_ret<|tr_<|ret1 rfl A (v := (J 1)) rfl ?_
  exact ⟨by rw [mkN_one hb12 hb32 hy48 hb58]; rfl, b55⟩
 have hq66 := df_ hb58
 refine B2 A rfl (bge_ hb58) λ A=>Z 1 A rfl λ A=>qt_<|cf_ A rfl<|wk_<|i_norm<|tn_<|sw_<|Z 1 A rfl λ A=>qt_<|we_ ?_
 refine ret1 rfl A (v := (J 0)) rfl ?_
 exact ⟨by rw [mkN_no hb12 hb32 hy48 hb58]; rfl, b55⟩
theorem rmark_any (c : UInt8) (w : World) : Calls Tryz.prog 133 #[.int .u8 ((c.toNat : Nat) : Int)] w λ e w' => e = .returned (.bool (mrkB c)) ∧ Grow w w' := by
 have b0 := Grow.refl w
 refine enter (n := 12) Tryz.func133 rfl rfl (nb_ rfl) λ _ A=>sw_<|Z 1 A rfl λ A=>qt_<|ws_<|sw_<|Z 1 A rfl λ A=>qt_<|wp_block<|loop_by (λ m8 a9 w10 => ∃ j7 : Nat, m8 = 22 - j7 ∧ (j7 ≤ 22 ∧ (marksL.drop j7).contains c = mrkB c) ∧ St 12 [(0, (.int .u8 ((c.toNat : Nat) : Int))), (2, (.bool false)), (3, (J ((j7 : Nat) : Int)))] a9 ∧ Below w.heap.size w w10) (22 - 0) ⟨0, rfl, ⟨by omega, rfl⟩, A.cut _ (fc (A.g 0 rfl) (fc (A.g 2 rfl) (fc ((A.g 3 rfl).trans (congrArg (Value.int .i64) (by omega))) fn_))), b0⟩ ?_
 rintro m8 a9 w10 ⟨j7, hm13, hc14, A, b12⟩
 obtain ⟨hj, hmk⟩ := hc14
 have hlen := mk_len
 refine ws_<|sw_<|Z 1 A rfl λ A=>?_
 rcases eb_ (decide (((j7 : Nat) : Int) < 22)) with hb17 | hb17
 ·skip
  have hq18 := dt_ hb17
  refine B2 A rfl (bl hb17) λ A=>qt_<|ct_ A rfl<|wk_<|tn_<|ws_<|wp_block<|sw_<|Z 1 A rfl λ A=>?_
  obtain ⟨y23, hy24⟩ : ∃ y23, marksL[j7]? = some y23 := ⟨_, List.getElem?_eq_getElem (show j7 < marksL.length by omega)⟩
  refine qs A rfl (d_sat (j := j7) (wn rfl) (A.ev rfl) (A.ev rfl) str9 hy24 λ _ A=>Z 1 A rfl λ A=>?_)
  rcases eb_ (((y23.toNat : Nat) : Int) == ((c.toNat : Nat) : Int)) with hb29 | hb29
  ·skip
   have hq30 := eq_of_beq hb29
   refine B2 A rfl (bq hb29) λ A=>qt_<|ct_ A rfl<|sw_<|Z 1 A rfl λ A=>qt_<|we_<|i_ret<|tr_<|tr_<|i_ret ?_
   refine tr_<|ret1 rfl A (v := (.bool true)) rfl ?_
   exact ⟨ret_bool (mk_yes hmk hy24 (eq_of_beq hb29)).symm, b12⟩
  have hq35 := ne_of_beq hb29
  refine B2 A rfl (bq hb29) λ A=>qt_<|cf_ A rfl<|wk_<|i_norm<|tn_<|wr_<|Z 1 A rfl λ A=>B2 A rfl (b_addE (j7 + 1) (by omega) (by omega)) λ A=>Z 1 A rfl λ A=>qt_ ?_
  have hgo := mk_go hmk hy24 (ne_of_beq hb29)
  exact ⟨22 - (j7 + 1), (by rw [hm13]; omega), j7 + 1, rfl, ⟨by omega, hgo⟩, A.sub rfl, b12⟩
 have hq44 := df_ hb17
 refine B2 A rfl (bl hb17) λ A=>qt_<|cf_ A rfl<|wp_exit<|t_exit<|t_exit<|i_here<|tn_<|sw_<|Z 1 A rfl λ A=>qt_ ?_
 refine we_<|ret1 rfl A (v := (.bool false)) rfl ?_
 exact ⟨ret_bool (mk_end hmk (by omega)).symm, b12⟩
theorem rrun_false (l : List UInt8) (at0 : Nat) (w : World) (hl : l.length ≤ 9223372036854775806) (hat : at0 ≤ l.length) : Calls Tryz.prog 130 #[.string (S l), J ((at0 : Nat) : Int), .bool false] w λ e w' => e = .returned (J ((at0 + rn numB (List.drop at0 l) : Nat) : Int)) ∧ Grow w w' := by
 have b0 := Grow.refl w
 refine enter (n := 41) Tryz.func130 rfl rfl (nb_ rfl) λ _ A=>sw_<|Z 1 A rfl λ A=>qt_<|ws_<|wp_block<|loop_by (λ m6 a7 w8 => ∃ j5 : Nat, m6 = l.length - j5 ∧ (j5 ≤ l.length ∧ at0 + rn numB (List.drop at0 l) = j5 + rn numB (List.drop j5 l)) ∧ St 41 [(0, (.string (S l))), (1, (J ((j5 : Nat) : Int))), (2, (.bool false)), (6, (J 0))] a7 ∧ Below w.heap.size w w8) (l.length - at0) ⟨at0, rfl, ⟨by omega, rfl⟩, A.sub rfl, b0⟩ ?_
 rintro m6 a7 w8 ⟨j5, hm11, hc12, A, b10⟩
 obtain ⟨hjl, hrn⟩ := hc12
 refine ws_<|sw_<|Z 2 A rfl λ A=>qs A rfl (d_slen (wn rfl) (A.ev rfl) str9 λ _ A=>?_)
 rcases eb_ (decide (((j5 : Nat) : Int) < ((l.length : Nat) : Int))) with hb19 | hb19
 ·skip
  have hq20 := dt_ hb19
  refine B2 A rfl (bl hb19) λ A=>Z 3 A rfl λ A=>?_
  obtain ⟨y29, hy30⟩ : ∃ y29, l[j5]? = some y29 := ⟨_, List.getElem?_eq_getElem (show j5 < l.length by omega)⟩
  refine qs A rfl (d_sat (j := j5) (wy rfl rfl (A.g 11 rfl)) (A.ev rfl) (A.ev rfl) str9 hy30 λ _ A=>C A rfl ent132 (rletter_any y29 w8) ?_)
  rintro e36 w33 ⟨he35, hG34⟩
  have b37 := bls b10 hG34
  rcases eb_ (letB y29) with hb38 | hb38
  ·skip
   refine ⟨.bool true, he35.trans (ret_bool hb38), λ _ A=>Z 22 A rfl λ A=>qt_<|ct_ A rfl<|wk_<|tn_<|wp_block<|wr_<|Z 1 A rfl λ A=>B2 A rfl (b_addE (j5 + 1) (by omega) (by omega)) λ A=>Z 1 A rfl λ A=>qe_<|i_norm ?_⟩
   refine tn_ ?_
   have hst := rn_go (p := numB) hy30 (by simp [namB, nbgB, numB, hb38] <;> omega)
   exact ⟨l.length - (j5 + 1), (by rw [hm11]; omega), j5 + 1, rfl, (by omega), A.sub rfl, b37⟩
  refine ⟨.bool false, he35.trans (ret_bool hb38), λ _ A=>Z 3 A rfl λ A=>qs A rfl (d_sat (j := j5) (wy rfl rfl (A.g 16 rfl)) (A.ev rfl) (A.ev rfl) str9 hy30 λ _ A=>C A rfl ent129 (rdigit_any y29 w33) ?_)⟩
  rintro e106 w103 ⟨he105, hG104⟩
  have b107 := bls b37 hG104
  rcases eb_ (digB y29) with hb108 | hb108
  ·skip
   refine ⟨.bool true, he105.trans (ret_bool hb108), λ _ A=>Z 17 A rfl λ A=>qt_<|ct_ A rfl<|wk_<|tn_<|wp_block<|wr_<|Z 1 A rfl λ A=>B2 A rfl (b_addE (j5 + 1) (by omega) (by omega)) λ A=>Z 1 A rfl λ A=>qe_<|i_norm ?_⟩
   refine tn_ ?_
   have hst := rn_go (p := numB) hy30 (by simp [namB, nbgB, numB, hb38, hb108] <;> omega)
   exact ⟨l.length - (j5 + 1), (by rw [hm11]; omega), j5 + 1, rfl, (by omega), A.sub rfl, b107⟩
  refine ⟨.bool false, he105.trans (ret_bool hb108), λ _ A=>Z 17 A rfl λ A=>qt_<|cf_ A rfl<|wp_exit<|t_exit<|t_exit<|i_here<|tn_<|sw_<|Z 2 A rfl λ A=>qe_ ?_⟩
  refine tn_<|we_<|ret1 rfl A (v := (J ((j5 : Nat) : Int))) rfl ?_
  have hst := rn_stop (p := numB) hy30 (by simp [namB, nbgB, numB, hb38, hb108] <;> omega)
  exact ⟨congrArg (λ z => Ending.returned (J z)) (by omega), b107⟩
 have hq193 := df_ hb19
 refine B2 A rfl (bl hb19) λ A=>Z 27 A rfl λ A=>qt_<|cf_ A rfl<|wp_exit<|t_exit<|t_exit<|i_here<|tn_<|sw_<|Z 2 A rfl λ A=>qe_ ?_
 refine tn_<|we_<|ret1 rfl A (v := (J ((j5 : Nat) : Int))) rfl ?_
 have hst : rn numB (List.drop j5 l) = 0 := rn_end (by omega)
 exact ⟨congrArg (λ z => Ending.returned (J z)) (by omega), b10⟩
theorem rrun_true (l : List UInt8) (at0 : Nat) (w : World) (hl : l.length ≤ 9223372036854775806) (hat : at0 ≤ l.length) : Calls Tryz.prog 130 #[.string (S l), J ((at0 : Nat) : Int), .bool true] w λ e w' => e = .returned (J ((at0 + rn namB (List.drop at0 l) : Nat) : Int)) ∧ Grow w w' := by
 have b0 := Grow.refl w
 refine enter (n := 41) Tryz.func130 rfl rfl (nb_ rfl) λ _ A=>sw_<|Z 1 A rfl λ A=>qt_<|ws_<|wp_block<|loop_by (λ m6 a7 w8 => ∃ j5 : Nat, m6 = l.length - j5 ∧ (j5 ≤ l.length ∧ at0 + rn namB (List.drop at0 l) = j5 + rn namB (List.drop j5 l)) ∧ St 41 [(0, (.string (S l))), (1, (J ((j5 : Nat) : Int))), (2, (.bool true)), (6, (J 0))] a7 ∧ Below w.heap.size w w8) (l.length - at0) ⟨at0, rfl, ⟨by omega, rfl⟩, A.sub rfl, b0⟩ ?_
 rintro m6 a7 w8 ⟨j5, hm11, hc12, A, b10⟩
 obtain ⟨hjl, hrn⟩ := hc12
 refine ws_<|sw_<|Z 2 A rfl λ A=>qs A rfl (d_slen (wn rfl) (A.ev rfl) str9 λ _ A=>?_)
 rcases eb_ (decide (((j5 : Nat) : Int) < ((l.length : Nat) : Int))) with hb19 | hb19
 ·skip
  have hq20 := dt_ hb19
  refine B2 A rfl (bl hb19) λ A=>Z 3 A rfl λ A=>?_
  obtain ⟨y29, hy30⟩ : ∃ y29, l[j5]? = some y29 := ⟨_, List.getElem?_eq_getElem (show j5 < l.length by omega)⟩
  refine qs A rfl (d_sat (j := j5) (wy rfl rfl (A.g 11 rfl)) (A.ev rfl) (A.ev rfl) str9 hy30 λ _ A=>C A rfl ent132 (rletter_any y29 w8) ?_)
  rintro e36 w33 ⟨he35, hG34⟩
  have b37 := bls b10 hG34
  rcases eb_ (letB y29) with hb38 | hb38
  ·skip
   refine ⟨.bool true, he35.trans (ret_bool hb38), λ _ A=>Z 22 A rfl λ A=>qt_<|ct_ A rfl<|wk_<|tn_<|wp_block<|wr_<|Z 1 A rfl λ A=>B2 A rfl (b_addE (j5 + 1) (by omega) (by omega)) λ A=>Z 1 A rfl λ A=>qe_<|i_norm ?_⟩
   refine tn_ ?_
   have hst := rn_go (p := namB) hy30 (by simp [namB, nbgB, numB, hb38] <;> omega)
   exact ⟨l.length - (j5 + 1), (by rw [hm11]; omega), j5 + 1, rfl, (by omega), A.sub rfl, b37⟩
  refine ⟨.bool false, he35.trans (ret_bool hb38), λ _ A=>Z 3 A rfl λ A=>qs A rfl (d_sat (j := j5) (wy rfl rfl (A.g 16 rfl)) (A.ev rfl) (A.ev rfl) str9 hy30 λ _ A=>C A rfl ent129 (rdigit_any y29 w33) ?_)⟩
  rintro e106 w103 ⟨he105, hG104⟩
  have b107 := bls b37 hG104
  rcases eb_ (digB y29) with hb108 | hb108
  ·skip
   refine ⟨.bool true, he105.trans (ret_bool hb108), λ _ A=>Z 17 A rfl λ A=>qt_<|ct_ A rfl<|wk_<|tn_<|wp_block<|wr_<|Z 1 A rfl λ A=>B2 A rfl (b_addE (j5 + 1) (by omega) (by omega)) λ A=>Z 1 A rfl λ A=>qe_<|i_norm ?_⟩
   refine tn_ ?_
   have hst := rn_go (p := namB) hy30 (by simp [namB, nbgB, numB, hb38, hb108] <;> omega)
   exact ⟨l.length - (j5 + 1), (by rw [hm11]; omega), j5 + 1, rfl, (by omega), A.sub rfl, b107⟩
  refine ⟨.bool false, he105.trans (ret_bool hb108), λ _ A=>Z 6 A rfl λ A=>qs A rfl (d_sat (j := j5) (wy rfl rfl (A.g 24 rfl)) (A.ev rfl) (A.ev rfl) str9 hy30 λ _ A=>?_)⟩
  rcases eb_ (((y29.toNat : Nat) : Int) == 95) with hb169 | hb169
  ·skip
   have hq170 := eq_of_beq hb169
   refine B2 A rfl (bq hb169) λ A=>Z 9 A rfl λ A=>qt_<|ct_ A rfl<|wk_<|tn_<|wp_block<|wr_<|Z 1 A rfl λ A=>B2 A rfl (b_addE (j5 + 1) (by omega) (by omega)) λ A=>Z 1 A rfl λ A=>qe_<|i_norm ?_
   refine tn_ ?_
   have hst := rn_go (p := namB) hy30 (by simp [namB, nbgB, numB, hb38, hb108, hb169] <;> omega)
   exact ⟨l.length - (j5 + 1), (by rw [hm11]; omega), j5 + 1, rfl, (by omega), A.sub rfl, b107⟩
  have hq197 := ne_of_beq hb169
  refine B2 A rfl (bq hb169) λ A=>Z 3 A rfl λ A=>qs A rfl (d_sat (j := j5) (wy rfl rfl (A.g 29 rfl)) (A.ev rfl) (A.ev rfl) str9 hy30 λ _ A=>?_)
  rcases eb_ (((y29.toNat : Nat) : Int) == 46) with hb208 | hb208
  ·skip
   have hq209 := eq_of_beq hb208
   refine B2 A rfl (bq hb208) λ A=>Z 4 A rfl λ A=>qt_<|ct_ A rfl<|wk_<|tn_<|wp_block<|wr_<|Z 1 A rfl λ A=>B2 A rfl (b_addE (j5 + 1) (by omega) (by omega)) λ A=>Z 1 A rfl λ A=>qe_<|i_norm ?_
   refine tn_ ?_
   have hst := rn_go (p := namB) hy30 (by simp [namB, nbgB, numB, hb38, hb108, hb169, hb208] <;> omega)
   exact ⟨l.length - (j5 + 1), (by rw [hm11]; omega), j5 + 1, rfl, (by omega), A.sub rfl, b107⟩
  have hq226 := ne_of_beq hb208
  refine B2 A rfl (bq hb208) λ A=>Z 4 A rfl λ A=>qt_<|cf_ A rfl<|wp_exit<|t_exit<|t_exit<|i_here<|tn_<|sw_<|Z 2 A rfl λ A=>qe_ ?_
  refine tn_<|we_<|ret1 rfl A (v := (J ((j5 : Nat) : Int))) rfl ?_
  have hst := rn_stop (p := namB) hy30 (by simp [namB, nbgB, numB, hb38, hb108, hb169, hb208] <;> omega)
  exact ⟨congrArg (λ z => Ending.returned (J z)) (by omega), b107⟩
 have hq241 := df_ hb19
 refine B2 A rfl (bl hb19) λ A=>Z 27 A rfl λ A=>qt_<|cf_ A rfl<|wp_exit<|t_exit<|t_exit<|i_here<|tn_<|sw_<|Z 2 A rfl λ A=>qe_ ?_
 refine tn_<|we_<|ret1 rfl A (v := (J ((j5 : Nat) : Int))) rfl ?_
 have hst : rn namB (List.drop j5 l) = 0 := rn_end (by omega)
 exact ⟨congrArg (λ z => Ending.returned (J z)) (by omega), b10⟩
end Go.Proofs.YtjkbjjlfijhbdaaGreatDoor
