/- An engine for walks: what is known of a frame is a short list of slots; each operation is a step; a region that draws its order is told by claims. -/
import Derived.WalkKit
import Derived.Deep.WholeRow
import Derived.Deep.MidRow
import Derived.Great.BuildSlice
import Derived.ChangeKeysEq
import Derived.Deep.Draws
import Derived.Laws.StructEq
import Derived.Maps.AppendAt
import Derived.Test.YtlhompedcphnnaaRows
import Derived.Deep.QuietTactic
import Derived.BigQuiet
namespace Go.Proofs.Ytlhompedcphnnaa
open Go.RowKit

abbrev Grow (w w' : World) : Prop := Below w.heap.size w w'
theorem Grow.refl (w : World) : Grow w w := Below.refl _ _
theorem Grow.trans {a b c : World} (h : Grow a b) (k : Grow b c) : Grow a c := Below.trans h (Below.mono k h.size)
theorem Grow.alloc {a b : World} (h : Grow a b) (o : Obj) : Grow a (b.alloc o) := Below.alloc h h.size o
theorem Grow.drew {a b : World} (h : Grow a b) : Grow a b.drew := Below.drew h
theorem Grow.drewN {a b : World} (h : Grow a b) (q : Nat) : Grow a (b.drewN q) := ⟨h.os, h.tape, h.output, h.size, h.block⟩

/-! ### The frame -/
structure St (n : Nat) (T : List (Nat × Value)) (a : Act) : Prop where
  size : a.tmps.size = n
  defers : a.defers = []
  get : ∀ t v, T.lookup t = some v → a.tmps.getD t undef = v
def ev (T : List (Nat × Value)) : Operand → Option Value
  | .tmp t => T.lookup t
  | .const v => some v
  | .global g => some (.pointer (some ⟨g, 0, none⟩))
  | .func f => some (.func (.func f) #[] #[])
theorem St.ev {n : Nat} {T : List (Nat × Value)} {a : Act} (h : St n T a) {x : Operand} {v : Value} (hx : ev T x = some v) : a.eval x = v := by
  cases x with
  | tmp t => exact h.get t v hx
  | const u => exact Option.some.inj hx
  | global g => exact Option.some.inj hx
  | func f => exact Option.some.inj hx
theorem St.put {n : Nat} {T : List (Nat × Value)} {a : Act} (h : St n T a) {d : Nat} (hd : d < n) (v : Value) : St n ((d, v) :: T) (a.put (some d) v) := by
  refine ⟨by simp [Act.put, h.size], by simp [Act.put, h.defers], fun t u hu => ?_⟩
  rw [List.lookup_cons] at hu
  have hs : d < a.tmps.size := by rw [h.size]; exact hd
  by_cases ht : t = d
  · subst ht
    simp at hu
    simp [Act.put, hs, hu]
  · have : (t == d) = false := by simpa using ht
    simp only [this] at hu
    have hg := h.get t u hu
    simp only [Act.put, Array.getD_eq_getD_getElem?]
    rw [Array.getElem?_setIfInBounds_ne (Ne.symm ht), ← Array.getD_eq_getD_getElem?]
    exact hg
/-- of what is known a part is kept -/
theorem St.cut {n : Nat} {T : List (Nat × Value)} {a : Act} (h : St n T a) (T' : List (Nat × Value)) (hT : ∀ x ∈ T', a.tmps.getD x.1 undef = x.2) : St n T' a :=
  ⟨h.size, h.defers, fun t v hv => by
    have : (t, v) ∈ T' := by
      clear hT
      induction T' with
      | nil => simp at hv
      | cons x l ih =>
        rw [List.lookup_cons] at hv
        by_cases hx : t = x.1
        · subst hx; simp at hv; subst hv; simp
        · have : (t == x.1) = false := by simpa using hx
          simp only [this] at hv
          exact List.mem_cons_of_mem _ (ih hv)
    exact hT (t, v) this⟩
theorem St.shadow {n : Nat} {T : List (Nat × Value)} {a : Act} (h : St n T a) {t : Nat} {b c : Bool} (ht : T.lookup t = some (.bool b)) (hb : b = c) : St n ((t, .bool c) :: T) a :=
  ⟨h.size, h.defers, fun u v hv => by
    rw [List.lookup_cons] at hv
    by_cases hu : u = t
    · subst hu; simp at hv; rw [← hv, ← hb]; exact h.get _ _ ht
    · have : (u == t) = false := by simpa using hu
      simp only [this] at hv
      exact h.get _ _ hv⟩
theorem St.sub {n : Nat} {T T' : List (Nat × Value)} {a : Act} (h : St n T a) (hT : (T'.map fun x => T.lookup x.1) = T'.map fun x => some x.2) : St n T' a :=
  h.cut T' fun x hx => h.get _ _ (List.map_inj_left.1 hT x hx)
def ext (T : List (Nat × Value)) : Option Nat → Value → List (Nat × Value)
  | some d, v => (d, v) :: T
  | none, _ => T
def fitsD (n : Nat) : Option Nat → Bool
  | some d => decide (d < n)
  | none => true
theorem St.ext {n : Nat} {T : List (Nat × Value)} {a : Act} (h : St n T a) {o : Option Nat} (hd : fitsD n o = true) (v : Value) : St n (ext T o v) (a.put o v) := by
  cases o with
  | none => exact h
  | some d => exact h.put (by simpa [fitsD] using hd) v

/-! ### One operation -/
def dstOf (ops : Array Oper) (j : Nat) : Option Tmp := (ops[j]?).bind (·.dst)
def Does (P : Program) (ops : Array Oper) (o : Oper) (a : Act) (w : World) (K : Value → World → Prop) : Prop :=
  (Region.wanted o (yielded ops a.tmps) = true ∧ ∀ Q, o.wp P a w (fun a' w' => ∃ v, a' = a.put o.dst v ∧ K v w') Q) ∨ (Region.wanted o (yielded ops a.tmps) = false ∧ K undef w)
section
variable {P : Program} {ops : Array Oper} {o : Oper} {a : Act} {w w' : World} {K : Value → World → Prop} {Q : Exit → Act → World → Prop} {rest : List Oper} {n : Nat} {T : List (Nat × Value)}
theorem wn {f : Nat → Option Bool} (h : o.guard = none) : Region.wanted o f = true := by unfold Region.wanted; rw [h]
theorem wy {j t : Nat} {b : Bool} (h : o.guard = some (j, b)) (hj : dstOf ops j = some t) (hv : a.tmps.getD t undef = .bool b) : Region.wanted o (yielded ops a.tmps) = true := by
  unfold Region.wanted yielded
  rw [h]
  have hj' : (ops[j]?).bind (·.dst) = some t := hj
  simp only [hj', Option.bind_some]
  cases hq : a.tmps[t]? with
  | none => simp [Array.getD_eq_getD_getElem?, hq, undef] at hv
  | some v => simp [Array.getD_eq_getD_getElem?, hq] at hv; subst hv; simp
theorem wno {j t : Nat} {b : Bool} (h : o.guard = some (j, b)) (hj : dstOf ops j = some t) (hv : a.tmps.getD t undef = .bool !b ∨ a.tmps.getD t undef = undef) : Region.wanted o (yielded ops a.tmps) = false := by
  unfold Region.wanted yielded
  rw [h]
  have hj' : (ops[j]?).bind (·.dst) = some t := hj
  simp only [hj', Option.bind_some]
  cases hq : a.tmps[t]? with
  | none => simp
  | some v =>
    simp [Array.getD_eq_getD_getElem?, hq] at hv
    rcases hv with hv | hv
    · subst hv; cases b <;> simp
    · subst hv; simp [undef]
theorem does_val {v : Value} (hw : Region.wanted o (yielded ops a.tmps) = true) (hr : (execOp a.eval o).run P w = .ok (.value v) w') (h : K v w') : Does P ops o a w K :=
  .inl ⟨hw, fun Q => by unfold Oper.wp; rw [hr, Oper.upon_value]; exact ⟨v, rfl, h⟩⟩
theorem does_unit (hw : Region.wanted o (yielded ops a.tmps) = true) (hr : (execOp a.eval o).run P w = .ok .skip w') (h : K undef w') : Does P ops o a w K :=
  .inl ⟨hw, fun Q => by unfold Oper.wp; rw [hr, Oper.upon_skip]; exact ⟨undef, rfl, h⟩⟩
theorem dno (hw : Region.wanted o (yielded ops a.tmps) = false) (h : K undef w) : Does P ops o a w K := .inr ⟨hw, h⟩
theorem does_enter {f : FuncId} {args : Array Value} {R : Ending → World → Prop} (hw : Region.wanted o (yielded ops a.tmps) = true) (hr : (execOp a.eval o).run P w = .ok (.enter f args) w) (hc : Calls P f args w R)
    (h : ∀ e w', R e w' → ∃ v, e = .returned v ∧ K v w') : Does P ops o a w K :=
  .inl ⟨hw, fun Q => by
    unfold Oper.wp; rw [hr, Oper.upon_enter]
    refine Calls.mono hc fun e w' he => ?_
    obtain ⟨v, rfl, hk⟩ := h e w' he
    exact ⟨v, rfl, hk⟩⟩
/-- the next operation of a region in its order -/
theorem qs (hA : St n T a) (hd : fitsD n o.dst = true) (h : Does P ops o a w fun v w' => ∀ a', St n (ext T o.dst v) a' → wpList P ops Q rest a' w') : wpList P ops Q (o :: rest) a w := by
  refine wpList_step fun K hK => ?_
  rcases h with ⟨hw, h⟩ | ⟨hw, h⟩
  · rw [if_pos hw]
    refine Oper.wp_mono (fun a' w' h => ?_) (h Q)
    obtain ⟨v, rfl, hk⟩ := h
    exact hK _ _ (hk _ (hA.ext hd v))
  · rw [if_neg (by rw [hw]; simp)]
    exact hK _ _ (h _ (hA.ext hd undef))
theorem qe_ (h : Q .normal a w) : wpList P ops Q [] a w := h
end

/-! ### Memory -/
def Blk (w : World) (g : Nat) (cs : Array Value) (t : TypeId) : Prop := w.heap[g]? = some (.cells cs t (0, 0))
theorem Blk.lt {w : World} {g : Nat} {cs : Array Value} {t : TypeId} (h : Blk w g cs t) : g < w.heap.size := (Array.getElem?_eq_some_iff.1 h).1
theorem Blk.grow {w w' : World} {g : Nat} {cs : Array Value} {t : TypeId} (h : Blk w g cs t) (hg : Grow w w') : Blk w' g cs t := by
  unfold Blk; rw [hg.block g h.lt]; exact h
theorem Blk.cell {w : World} {g k : Nat} {cs : Array Value} {t : TypeId} {v : Value} (h : Blk w g cs t) (hv : cs[k]? = some v) : w.cell? ⟨g, k, none⟩ = some v := by
  rw [cell_of_row w g k cs t _ h]; exact hv
theorem Blk.frozen {w : World} {g : Nat} {cs : Array Value} {t : TypeId} (h : Blk w g cs t) (k : Nat) : w.frozen? ⟨g, k, none⟩ = false := by
  unfold Blk at h; simp [World.frozen?, h]
/-- one block alone has turned -/
structure Upd (g : Nat) (w w' : World) : Prop where
  os : w'.os = w.os
  tape : w'.tape = w.tape
  output : w'.output = w.output
  size : w'.heap.size = w.heap.size
  block : ∀ k, k ≠ g → w'.heap[k]? = w.heap[k]?
theorem Blk.upd {w w' : World} {g g' : Nat} {cs : Array Value} {t : TypeId} (h : Blk w g cs t) (hu : Upd g' w w') (hne : g ≠ g') : Blk w' g cs t := by
  unfold Blk; rw [hu.block g hne]; exact h
theorem Upd.below {B g : Nat} {a w w' : World} (hu : Upd g w w') (h : Below B a w) (hg : B ≤ g) : Below B a w' :=
  h.trans ⟨hu.os, hu.tape, hu.output, Nat.le_of_eq hu.size.symm, fun k hk => hu.block k (by omega)⟩
theorem blg {B : Nat} {a w w' : World} (h : Below B a w) (hg : Grow w w') (hB : B ≤ w.heap.size) : Below B a w' := h.trans (hg.mono hB)
theorem below_size {B : Nat} {a w : World} (h : Below B a w) (hB : B ≤ a.heap.size) : B ≤ w.heap.size := Nat.le_trans hB h.size
theorem upd_setCell (w : World) (g k : Nat) (v : Value) : Upd g w (w.setCell ⟨g, k, none⟩ v) :=
  ⟨rfl, rfl, rfl, by simp [World.setCell], fun j hj => Below.heap_setCell _ _ _ _ hj⟩
theorem upd_setRow (w : World) (g : Nat) (cs : Array Value) : Upd g w (w.setRow g cs) :=
  ⟨rfl, rfl, rfl, by simp, fun j hj => setRow_other _ _ _ _ hj⟩
theorem Blk.set {w : World} {g k : Nat} {cs : Array Value} {t : TypeId} (h : Blk w g cs t) (v : Value) : Blk (w.setCell ⟨g, k, none⟩ v) g (cs.setIfInBounds k v) t := by
  rw [setCell_eq_setRow w g k _ _ _ _ h]
  exact setRow_heap w g _ _ _ _ h

/-! ### What operations do -/
section
variable {P : Program} {ops : Array Oper} {a : Act} {w w' : World} {K : Value → World → Prop} {d : Option Tmp} {ty : TypeId} {pos : String} {af : Array Edge} {gd : Option (Nat × Bool)} {v u : Value}
theorem dmv {x : Operand} (hw : Region.wanted { dst := d, op := .move x, type := ty, pos := pos, after := af, guard := gd } (yielded ops a.tmps) = true) (hx : a.eval x = v) (h : K v w) :
    Does P ops { dst := d, op := .move x, type := ty, pos := pos, after := af, guard := gd } a w K := does_val hw (by subst hx; rfl) h
theorem das {x : Operand} (hw : Region.wanted { dst := d, op := .assign x, type := ty, pos := pos, after := af, guard := gd } (yielded ops a.tmps) = true) (hx : a.eval x = v) (h : K v w) :
    Does P ops { dst := d, op := .assign x, type := ty, pos := pos, after := af, guard := gd } a w K := does_val hw (by subst hx; rfl) h
theorem d_pick {c x y : Operand} {b : Bool} (hw : Region.wanted { dst := d, op := .pick c x y, type := ty, pos := pos, after := af, guard := gd } (yielded ops a.tmps) = true) (hc : a.eval c = .bool b) (hx : (if b then a.eval x else a.eval y) = v) (h : K v w) :
    Does P ops { dst := d, op := .pick c x y, type := ty, pos := pos, after := af, guard := gd } a w K :=
  does_val hw (by subst hx; unfold execOp; simp [hc, asBool]) h
theorem d_box {t : TypeId} {x : Operand} (hw : Region.wanted { dst := d, op := .box t x, type := ty, pos := pos, after := af, guard := gd } (yielded ops a.tmps) = true) (hx : a.eval x = v)
    (h : ∀ g w', g = w.heap.size → Grow w w' → Blk w' g v.cells t → K (.pointer (some ⟨g, 0, none⟩)) w') :
    Does P ops { dst := d, op := .box t x, type := ty, pos := pos, after := af, guard := gd } a w K :=
  does_val (w' := w.alloc (.cells v.cells t)) hw (by subst hx; rfl) (h _ _ rfl ((Grow.refl _).alloc _) (heap_alloc_last w _))
theorem dal {t : TypeId} {z : Value} {m : Nat} (hw : Region.wanted { dst := d, op := .alloc t, type := ty, pos := pos, after := af, guard := gd } (yielded ops a.tmps) = true)
    (hi : (P.info? t).map (fun i => (i.zero, i.size)) = some (some z, m)) (h : ∀ g w', g = w.heap.size → Grow w w' → Blk w' g z.cells t → K (.pointer (some ⟨g, 0, none⟩)) w') :
    Does P ops { dst := d, op := .alloc t, type := ty, pos := pos, after := af, guard := gd } a w K :=
  does_val (w' := w.alloc (.cells z.cells t)) hw (by
    have hz := (zero_of_info hi).1 w
    unfold execOp
    simp only [Instr.alloc, newVar, newRow, Sem.run_bind, hz, Result.andThen_ok]
    rfl) (h _ _ rfl ((Grow.refl _).alloc _) (heap_alloc_last w _))
theorem run_fieldAt {s : TypeId} {fs : Array Field} {f : Nat} {fd : Field} (w : World) (g k off : Nat) (hu : P.underlying s = some (.struct fs)) (hf : fs[f]? = some fd) (hs : (P.info? fd.type).map (·.size != 0) = some true) (ho : fd.offset = off) :
    (Instr.fieldAt s (.pointer (some ⟨g, k, none⟩)) f).run P w = .ok (.pointer (some ⟨g, k + off, none⟩)) w := by
  cases hq : P.info? fd.type with
  | none => simp [hq] at hs
  | some i =>
    have hz : i.size ≠ 0 := by simpa [hq] using hs
    simp [Instr.fieldAt, run_underlying hu, hf, Instr.sureAddr, fieldPlace, sizeOf, typeInfo, hq, hz, Addr.add_mid, ho]
/-- where a field lies, off one closed fact -/
def fieldOff (P : Program) (s f : Nat) : Option Nat :=
  match P.underlying s with
  | some (.struct fs) => match fs[f]? with
    | some fd => if (P.info? fd.type).map (·.size != 0) = some true then some fd.offset else none
    | none => none
  | _ => none
theorem run_fieldAt' {s f off : Nat} (w : World) (g k : Nat) (h : fieldOff P s f = some off) : (Instr.fieldAt s (.pointer (some ⟨g, k, none⟩)) f).run P w = .ok (.pointer (some ⟨g, k + off, none⟩)) w := by
  unfold fieldOff at h
  split at h
  · rename_i fs hu
    split at h
    · rename_i fd hf
      split at h
      · rename_i hs
        exact run_fieldAt w g k off hu hf hs (by simpa using h)
      · cases h
    · cases h
  · cases h
theorem dfa {s : TypeId} {x : Operand} {f g k off : Nat} (hw : Region.wanted { dst := d, op := .fieldAddr s x f, type := ty, pos := pos, after := af, guard := gd } (yielded ops a.tmps) = true) (hx : a.eval x = .pointer (some ⟨g, k, none⟩))
    (hf : fieldOff P s f = some off) (h : K (.pointer (some ⟨g, k + off, none⟩)) w) :
    Does P ops { dst := d, op := .fieldAddr s x f, type := ty, pos := pos, after := af, guard := gd } a w K :=
  does_val hw (by unfold execOp; simp only [hx, Sem.run_bind, run_fieldAt' w g k hf, Result.andThen_ok, Sem.run_pure]) h
/-- a type of one cell that is no struct, no array -/
def oneB (P : Program) (t : TypeId) : Bool :=
  (match P.underlying t with | some (.struct _) => false | some (.array _ _) => false | some _ => true | none => false) && ((P.info? t).map (·.size) == some 1)
theorem agg_no {t : TypeId} (h : oneB P t = true) (w : World) : (isAgg t).run P w = .ok false w := by
  unfold oneB at h
  rw [Bool.and_eq_true] at h
  cases hq : P.underlying t with
  | none => simp [hq] at h
  | some d =>
    unfold isAgg
    rw [Sem.run_bind, run_underlying hq w]
    cases d <;> simp_all
theorem run_load1 {t : TypeId} {g k : Nat} (h1 : oneB P t = true) (hc : w.cell? ⟨g, k, none⟩ = some v) : (Instr.loadAt t (.pointer (some ⟨g, k, none⟩))).run P w = .ok v w := by
  simp [Instr.loadAt, Instr.sureAddr, loadVar, agg_no h1, hc, go_sem]
theorem dld {t : TypeId} {x : Operand} {g k : Nat} (hw : Region.wanted { dst := d, op := .load t x, type := ty, pos := pos, after := af, guard := gd } (yielded ops a.tmps) = true) (hx : a.eval x = .pointer (some ⟨g, k, none⟩)) (h1 : oneB P t = true)
    (hc : w.cell? ⟨g, k, none⟩ = some v) (h : K v w) : Does P ops { dst := d, op := .load t x, type := ty, pos := pos, after := af, guard := gd } a w K :=
  does_val hw (by unfold execOp; simp only [hx, Sem.run_bind, run_load1 h1 hc, Result.andThen_ok, Sem.run_pure]) h
/-- a struct or an array of m cells -/
def rowB (P : Program) (t : TypeId) (m : Nat) : Bool :=
  (match P.underlying t with | some (.struct _) => true | some (.array _ _) => true | _ => false) && ((P.info? t).map (·.size) == some m)
theorem row_facts {t : TypeId} {m : Nat} (h : rowB P t m = true) : (∃ dd : TypeDesc, P.underlying t = some dd ∧ dd.isRow = true ∧ (match dd with | .struct _ | .array _ _ => true | _ => false) = true) ∧ (P.info? t).map (·.size) = some m := by
  unfold rowB at h
  rw [Bool.and_eq_true] at h
  refine ⟨?_, by simpa using h.2⟩
  cases hq : P.underlying t with
  | none => simp [hq] at h
  | some dd => refine ⟨dd, rfl, ?_, ?_⟩ <;> (cases dd <;> simp_all [TypeDesc.isRow])
theorem run_loadRow {t t' : TypeId} {g : Nat} {cs : Array Value} (h1 : rowB P t cs.size = true) (hb : Blk w g cs t') : (Instr.loadAt t (.pointer (some ⟨g, 0, none⟩))).run P w = .ok (.agg cs) w := by
  obtain ⟨⟨dd, h2, _, h3⟩, h4⟩ := row_facts h1
  simp only [Instr.loadAt, Instr.sureAddr, Sem.run_bind, Sem.run_pure, Result.andThen_ok, run_loadVar_row w g t' t cs (0, 0) dd hb h2 (by cases dd <;> simp_all) h4]
theorem dlr {t t' : TypeId} {x : Operand} {g : Nat} {cs : Array Value} (hw : Region.wanted { dst := d, op := .load t x, type := ty, pos := pos, after := af, guard := gd } (yielded ops a.tmps) = true) (hx : a.eval x = .pointer (some ⟨g, 0, none⟩)) (h1 : rowB P t cs.size = true)
    (hb : Blk w g cs t') (h : K (.agg cs) w) : Does P ops { dst := d, op := .load t x, type := ty, pos := pos, after := af, guard := gd } a w K :=
  does_val hw (by unfold execOp; simp only [hx, Sem.run_bind, run_loadRow h1 hb, Result.andThen_ok, Sem.run_pure]) h
theorem run_store1 {t t' : TypeId} {g k : Nat} {cs : Array Value} (h1 : oneB P t = true) (hv1 : v.oneCell' = true) (hb : Blk w g cs t') (hk : k < cs.size) : (Instr.storeAt t (.pointer (some ⟨g, k, none⟩)) v).run P w = .ok () (w.setCell ⟨g, k, none⟩ v) := by
  have hc : w.cell? ⟨g, k, none⟩ = some cs[k] := hb.cell (by simp [hk])
  have hf := hb.frozen k
  unfold oneB at h1
  rw [Bool.and_eq_true] at h1
  have hs : (P.info? t).map (·.size) = some 1 := by simpa using h1.2
  cases hq : P.info? t with
  | none => simp [hq] at hs
  | some i =>
    have hi : i.size = 1 := by simpa [hq] using hs
    have hz : (sizeOf t).run P w = .ok 1 w := by simp [sizeOf, typeInfo, hq, hi]
    have hcs : v.cells = #[v] := by cases v <;> simp_all [Value.oneCell', Value.cells]
    have hst : (store ((⟨g, k, none⟩ : Addr).add 0) v).run P w = .ok () (w.setCell ⟨g, k, none⟩ v) := by
      rw [Addr.add_mid, Nat.add_zero, run_store P w _ v _ hv1, hc]
      simp [hf]
    simp only [Instr.storeAt, Instr.sureAddr, storeVar, Sem.run_bind, Sem.run_pure, Result.andThen_ok, hz, hcs, List.size_toArray, List.length_cons, List.length_nil, Nat.zero_add, ne_eq, not_true_eq_false, if_false, storeCells, hst]
theorem dst_ {t t' : TypeId} {x y : Operand} {g k : Nat} {cs : Array Value} (hw : Region.wanted { dst := d, op := .store t x y, type := ty, pos := pos, after := af, guard := gd } (yielded ops a.tmps) = true) (hx : a.eval x = .pointer (some ⟨g, k, none⟩)) (hy : a.eval y = v)
    (h1 : oneB P t = true) (hv1 : v.oneCell' = true) (hb : Blk w g cs t') (hk : k < cs.size) (h : ∀ w', Upd g w w' → Blk w' g (cs.setIfInBounds k v) t' → K undef w') : Does P ops { dst := d, op := .store t x y, type := ty, pos := pos, after := af, guard := gd } a w K :=
  does_unit (w' := w.setCell ⟨g, k, none⟩ v) hw (by unfold execOp; simp only [hx, hy, Sem.run_bind, run_store1 h1 hv1 hb hk, Result.andThen_ok, Sem.run_pure]) (h _ (upd_setCell w g k v) (hb.set v))
theorem dsr {t t' : TypeId} {x y : Operand} {g : Nat} {cs old : Array Value} (hw : Region.wanted { dst := d, op := .store t x y, type := ty, pos := pos, after := af, guard := gd } (yielded ops a.tmps) = true) (hx : a.eval x = .pointer (some ⟨g, 0, none⟩)) (hy : a.eval y = .agg cs)
    (h1 : rowB P t cs.size = true) (hb : Blk w g old t') (hs : old.size = cs.size) (ho : cs.toList.all (·.oneCell') = true) (h : ∀ w', Upd g w w' → Blk w' g cs t' → K undef w') : Does P ops { dst := d, op := .store t x y, type := ty, pos := pos, after := af, guard := gd } a w K :=
  does_unit (w' := w.setRow g cs) hw (by
    unfold execOp
    simp only [hx, hy, Sem.run_bind, Instr.storeAt, Instr.sureAddr, Sem.run_pure, Result.andThen_ok, run_storeVar_row w g t' t old cs hb (row_facts h1).2 hs (by simpa using ho)]) (h _ (upd_setRow w g cs) (setRow_heap w g _ _ _ _ hb))
theorem dnt {t : TypeId} {x : Operand} {b : Bool} (hw : Region.wanted { dst := d, op := .unOp .not t x, type := ty, pos := pos, after := af, guard := gd } (yielded ops a.tmps) = true) (hx : a.eval x = .bool b) (h : K (.bool !b) w) :
    Does P ops { dst := d, op := .unOp .not t x, type := ty, pos := pos, after := af, guard := gd } a w K :=
  does_val hw (by unfold execOp; simp only [hx, Op.unary, Sem.run_bind, Sem.run_pure, Result.andThen_ok]) h
theorem dbn {op : BinOp} {t t2 : TypeId} {x y : Operand} {r : Value} (hw : Region.wanted { dst := d, op := .binOp op t x y t2, type := ty, pos := pos, after := af, guard := gd } (yielded ops a.tmps) = true) (hx : a.eval x = u) (hy : a.eval y = v)
    (hr : (eqGuard op t x y u v).run P w = .ok () w ∧ (binOp op t u v).run P w = .ok r w) (h : K r w) : Does P ops { dst := d, op := .binOp op t x y t2, type := ty, pos := pos, after := af, guard := gd } a w K :=
  does_val hw (by unfold execOp; simp only [hx, hy, Sem.run_bind, hr.1, hr.2, Sem.run_pure, Result.andThen_ok]) h
theorem enters {f : FuncId} (h : ((P.funcs[f]?).map fun fn => (fn.name == "runtime.NumGoroutine", fn.body.isNone)) = some (false, false)) (args : Array Value) (w : World) : (callFunc f args).run P w = .ok (.enter f args) w := by
  cases hf : P.funcs[f]? with
  | none => simp [hf] at h
  | some fn =>
    rw [hf] at h
    simp only [Option.map_some, Option.some.injEq, Prod.mk.injEq] at h
    unfold callFunc
    simp only [Sem.run_bind, run_program, Result.andThen_ok, hf, h.1, h.2, Bool.false_eq_true, if_false, Sem.run_pure]
theorem dcl {f : FuncId} {args : Array Operand} {ats : Array TypeId} {vs : Array Value} {R : Ending → World → Prop} (hw : Region.wanted { dst := d, op := .call { callee := .value (.func f), args := args, argTypes := ats }, type := ty, pos := pos, after := af, guard := gd } (yielded ops a.tmps) = true)
    (hent : ((P.funcs[f]?).map fun fn => (fn.name == "runtime.NumGoroutine", fn.body.isNone)) = some (false, false)) (hx : args.map a.eval = vs) (hc : Calls P f vs w R) (h : ∀ e w', R e w' → ∃ v, e = .returned v ∧ K v w') :
    Does P ops { dst := d, op := .call { callee := .value (.func f), args := args, argTypes := ats }, type := ty, pos := pos, after := af, guard := gd } a w K :=
  does_enter hw (by
    subst hx
    unfold execOp
    simp only [resolve, Act.eval, Sem.run_bind, Deferred.ofValue, Sem.run_pure, Result.andThen_ok, invoke, Array.append_empty, Array.empty_append, enters hent]) hc h
theorem dex {x : Operand} {k : Nat} {vs : Array Value} (hw : Region.wanted { dst := d, op := .extract x k, type := ty, pos := pos, after := af, guard := gd } (yielded ops a.tmps) = true) (hx : a.eval x = .tuple vs) (hk : vs[k]? = some v) (h : K v w) :
    Does P ops { dst := d, op := .extract x k, type := ty, pos := pos, after := af, guard := gd } a w K :=
  does_val hw (by unfold execOp; simp only [hx, Instr.extract, hk, Sem.run_bind, Sem.run_pure, Result.andThen_ok]) h
end

/-! ### Comparisons -/
section
variable {P : Program} {t : TypeId} {k : IntKind} (x y : Operand) (a b : Int) (r : Bool) (w : World)
theorem b_eq (h : (a == b) = r) : (eqGuard .eql t x y (.int k a) (.int k b)).run P w = .ok () w ∧ (binOp .eql t (.int k a) (.int k b)).run P w = .ok (.bool r) w := by
  subst h; exact ⟨by simp [eqGuard], by simp [binOp, Op.intCmp]⟩
theorem b_ne (h : (!(a == b)) = r) : (eqGuard .neq t x y (.int k a) (.int k b)).run P w = .ok () w ∧ (binOp .neq t (.int k a) (.int k b)).run P w = .ok (.bool r) w := by
  subst h; exact ⟨by simp [eqGuard], by simp [binOp, Op.intCmp, bne]⟩
theorem b_lt (h : decide (a < b) = r) : (eqGuard .lss t x y (.int k a) (.int k b)).run P w = .ok () w ∧ (binOp .lss t (.int k a) (.int k b)).run P w = .ok (.bool r) w := by
  subst h; exact ⟨by simp [eqGuard], by simp [binOp, Op.intCmp]⟩
theorem b_le (h : decide (a ≤ b) = r) : (eqGuard .leq t x y (.int k a) (.int k b)).run P w = .ok () w ∧ (binOp .leq t (.int k a) (.int k b)).run P w = .ok (.bool r) w := by
  subst h; exact ⟨by simp [eqGuard], by simp [binOp, Op.intCmp]⟩
theorem b_gt (h : decide (a > b) = r) : (eqGuard .gtr t x y (.int k a) (.int k b)).run P w = .ok () w ∧ (binOp .gtr t (.int k a) (.int k b)).run P w = .ok (.bool r) w := by
  subst h; exact ⟨by simp [eqGuard], by simp [binOp, Op.intCmp]⟩
theorem b_ge (h : decide (a ≥ b) = r) : (eqGuard .geq t x y (.int k a) (.int k b)).run P w = .ok () w ∧ (binOp .geq t (.int k a) (.int k b)).run P w = .ok (.bool r) w := by
  subst h; exact ⟨by simp [eqGuard], by simp [binOp, Op.intCmp]⟩
end

/-! ### Code -/
section
variable {P : Program} {K : Act → World → Prop} {Q : Exit → Act → World → Prop} {a : Act} {w : World} {id j : Nat} {n : Nat} {T : List (Nat × Value)}
theorem tn_ (h : K a w) : Exit.then K Q .normal a w := h
theorem t_exit (h : Q (.exit j) a w) : Exit.then K Q (.exit j) a w := h
theorem t_ret (h : Q .ret a w) : Exit.then K Q .ret a w := h
theorem i_norm (h : Q .normal a w) : Exit.inBlock id Q .normal a w := h
theorem i_ret (h : Q .ret a w) : Exit.inBlock id Q .ret a w := h
theorem i_here (h : Q .normal a w) : Exit.inBlock id Q (.exit id) a w := by simp only [Exit.inBlock, if_true]; exact h
theorem i_past (hne : j ≠ id) (h : Q (.exit j) a w) : Exit.inBlock id Q (.exit j) a w := by simp only [Exit.inBlock, if_neg hne]; exact h
theorem c_true {c : Operand} {x y : Code} (hA : St n T a) (hc : ev T c = some (.bool true)) (h : x.wp P Q a w) : (Code.cond c x y).wp P Q a w := wp_cond_true (hA.ev hc) h
theorem c_false {c : Operand} {x y : Code} (hA : St n T a) (hc : ev T c = some (.bool false)) (h : y.wp P Q a w) : (Code.cond c x y).wp P Q a w := wp_cond_false (hA.ev hc) h
def argT : List Value → Nat → List (Nat × Value)
  | [], _ => []
  | v :: vs, k => (k, v) :: argT vs (k + 1)
theorem argT_look (t : Nat) (v : Value) : ∀ (vs : List Value) (k : Nat), (argT vs k).lookup t = some v → k ≤ t ∧ vs[t - k]? = some v
  | [], _, h => by simp [argT] at h
  | u :: vs, k, h => by
    unfold argT at h
    rw [List.lookup_cons] at h
    by_cases ht : t = k
    · subst ht; simp at h; subst h; simp
    · have : (t == k) = false := by simpa using ht
      simp only [this] at h
      obtain ⟨h1, h2⟩ := argT_look t v vs (k + 1) h
      refine ⟨by omega, ?_⟩
      rw [show t - k = (t - (k + 1)) + 1 by omega]; simpa using h2
theorem enter {f : FuncId} {fn : Func} {c : Code} {args : List Value} {R : Ending → World → Prop} (hf : P.funcs[f]? = some fn) (hb : fn.body = some c) (hn : fn.ntmps = n) (hl : args.length ≤ n)
    (h : ∀ a, St n (argT args 0) a → c.wp P (bodyPost P fn R) a w) : Calls P f args.toArray w R := by
  refine calls_of_wp hf hb (h _ ⟨by simp [hn]; omega, rfl, fun t v hv => ?_⟩)
  obtain ⟨_, h2⟩ := argT_look t v args 0 hv
  have hlt : t < args.length := (List.getElem?_eq_some_iff.1 h2).1
  simp only [Nat.sub_zero] at h2
  simp [Array.getD_eq_getD_getElem?, Array.getElem?_append, hlt] at h2 ⊢
  exact h2
theorem ret1 {fn : Func} {R : Ending → World → Prop} {t : Tmp} {v : Value} (hr : fn.results = #[.tmp t]) (hA : St n T a) (hv : ev T (.tmp t) = some v) (h : R (.returned v) w) : bodyPost P fn R .ret a w :=
  ⟨hA.defers, v, by have := hA.ev hv; simp only [Act.eval] at this; simp [results, hr, ← this], h⟩
theorem end1 {fn : Func} {R : Ending → World → Prop} {t : Tmp} {v : Value} (hr : fn.results = #[.tmp t]) (hA : St n T a) (hv : ev T (.tmp t) = some v) (h : R (.returned v) w) : bodyPost P fn R .normal a w :=
  ⟨hA.defers, v, by have := hA.ev hv; simp only [Act.eval] at this; simp [results, hr, ← this], h⟩
theorem retRow {fn : Func} {R : Ending → World → Prop} {p : Tmp} {t t' : TypeId} {g : Nat} {cs : Array Value} (hr : fn.results = #[.cell p t]) (hA : St n T a) (hv : ev T (.tmp p) = some (.pointer (some ⟨g, 0, none⟩))) (hb : Blk w g cs t') (h1 : rowB P t cs.size = true) (h : R (.returned (.agg cs)) w) : bodyPost P fn R .ret a w := by
  obtain ⟨⟨dd, h2, _, h3⟩, h4⟩ := row_facts h1
  exact ⟨hA.defers, _, results_cell_row hr a.tmps w g t' cs (0, 0) dd (hA.ev hv) hb h2 (by cases dd <;> simp_all) h4, h⟩
end
end Go.Proofs.Ytlhompedcphnnaa
/- The law on regions that draw their order, for the engine: each operation keeps what is claimed of those done, whatever the order. -/
namespace Go.Proofs.Ytlhompedcphnnaa
open Go.RowKit

/-- what is claimed of an operation's value, and of memory, behind it: no step of the region turns it -/
structure Cl (S : World → World → Prop) where
  P : Value → World → Prop
  st : ∀ v w w', S w w' → P v w → P v w'
def cv {S : World → World → Prop} (v : Value) : Cl S := ⟨fun x _ => x = v, fun _ _ _ _ h => h⟩
def cfree {S : World → World → Prop} : Cl S := ⟨fun _ _ => True, fun _ _ _ _ h => h⟩
def valOf (ops : Array Oper) (a : Act) (j : Nat) : Value := match dstOf ops j with | some d => a.tmps.getD d undef | none => undef
def waits (o : Oper) (j : Nat) : Bool := o.after.toList.any fun e => Region.binds .any e && e.on == j
def puts : List Oper → (Nat → Value) → Nat → List (Nat × Value)
  | [], _, _ => []
  | o :: os, f, k => ext (puts os f (k + 1)) o.dst (f k)
/-- each slot is filled once; what an operation must wait for stands ahead of it; what is known is not filled -/
def fitB (ops : Array Oper) (n : Nat) (T : List (Nat × Value)) : Bool :=
  ((List.range ops.size).all fun i => match ops[i]? with
    | some o => (match o.dst with
      | some d => decide (d < n) && ((List.range ops.size).all fun j => i == j || dstOf ops j != some d) && T.all fun x => x.1 != d
      | none => true) && o.after.all fun e => !Region.binds .any e || decide (e.on < i)
    | none => false)
theorem fit_spec {ops : Array Oper} {n i : Nat} {T : List (Nat × Value)} {o : Oper} (h : fitB ops n T = true) (hi : ops[i]? = some o) :
    (∀ d, o.dst = some d → d < n ∧ (∀ j, j < ops.size → dstOf ops j = some d → j = i) ∧ ∀ x ∈ T, x.1 ≠ d) ∧ ∀ e ∈ o.after, Region.binds .any e = true → e.on < i := by
  have hlt : i < ops.size := (Array.getElem?_eq_some_iff.1 hi).1
  unfold fitB at h
  rw [List.all_eq_true] at h
  have h1 := h i (by simpa using hlt)
  simp only [hi] at h1
  rw [Bool.and_eq_true] at h1
  obtain ⟨h2, h3⟩ := h1
  refine ⟨fun d hd => ?_, fun e he hb => ?_⟩
  · simp only [hd, Bool.and_eq_true, decide_eq_true_eq, List.all_eq_true] at h2
    refine ⟨h2.1.1, fun j hj hjd => ?_, fun x hx => by simpa using h2.2 x hx⟩
    have := h2.1.2 j (by simpa using hj)
    simp only [hjd, Bool.or_eq_true, beq_iff_eq, bne_self_eq_false, Bool.false_eq_true, or_false] at this
    exact this.symm
  · have := (Array.all_eq_true_iff_forall_mem.1 h3) e he
    simpa [hb] using this
theorem lookup_mem {T : List (Nat × Value)} {t : Nat} {v : Value} (h : T.lookup t = some v) : (t, v) ∈ T := by
  induction T with
  | nil => simp at h
  | cons x l ih =>
    rw [List.lookup_cons] at h
    by_cases hx : t = x.1
    · subst hx; simp at h; subst h; simp
    · have : (t == x.1) = false := by simpa using hx
      simp only [this] at h
      exact List.mem_cons_of_mem _ (ih h)
def seenV (o : Oper) (v : Value) : Value := match o.dst with | some _ => v | none => undef
/-- what is owed for operation i -/
def Obl (P : Program) (ops : Array Oper) (S : World → World → Prop) (n : Nat) (T : List (Nat × Value)) (tab : Nat → Cl S) (w : World) (i : Nat) (o : Oper) : Prop :=
  ∀ a' w', S w w' → St n T a' → (∀ j, waits o j = true → (tab j).P (valOf ops a' j) w') → Does P ops o a' w' fun v w'' => S w' w'' ∧ (tab i).P (seenV o v) w''
theorem puts_look {t : Nat} {v : Value} (f : Nat → Value) (T : List (Nat × Value)) : ∀ (l : List Oper) (k : Nat), (puts l f k ++ T).lookup t = some v →
    (∃ i o, l[i]? = some o ∧ o.dst = some t ∧ v = f (k + i)) ∨ T.lookup t = some v
  | [], _, h => .inr (by simpa [puts] using h)
  | o :: os, k, h => by
    unfold puts at h
    cases hd : o.dst with
    | none =>
      rw [hd] at h
      rcases puts_look f T os (k + 1) h with ⟨i, o', h1, h2, h3⟩ | h'
      · exact .inl ⟨i + 1, o', by simpa using h1, h2, by rw [h3]; congr 1; omega⟩
      · exact .inr h'
    | some d =>
      rw [hd] at h
      simp only [ext, List.cons_append] at h
      rw [List.lookup_cons] at h
      by_cases ht : t = d
      · subst ht
        simp at h
        exact .inl ⟨0, o, by simp, hd, by simp [h]⟩
      · have : (t == d) = false := by simpa using ht
        simp only [this] at h
        rcases puts_look f T os (k + 1) h with ⟨i, o', h1, h2, h3⟩ | h'
        · exact .inl ⟨i + 1, o', by simpa using h1, h2, by rw [h3]; congr 1; omega⟩
        · exact .inr h'
theorem set_ne {l : Array Bool} {i k : Nat} (b : Bool) (h : i ≠ k) : (l.setIfInBounds i true).getD k b = l.getD k b := by
  simp [Array.getD_eq_getD_getElem?, Array.getElem?_setIfInBounds_ne h]
section
variable {P : Program} {l : List Oper} {Q : Exit → Act → World → Prop} {S : World → World → Prop} {n : Nat} {T : List (Nat × Value)} {w : World}
theorem drawn_any (tab : Nat → Cl S) (htrans : ∀ a b c, S a b → S b c → S a c) (hfit : fitB l.toArray n T = true)
    (hop : ∀ i o, l[i]? = some o → Obl P l.toArray S n T tab w i o)
    (hend : ∀ f a' w', S w w' → (∀ i, i < l.length → (tab i).P (f i) w') → St n (puts l f 0 ++ T) a' → Q .normal a' w') :
    ∀ (fuel : Nat) (listed : Array Bool) (a' : Act) (w' : World), listed.size = l.length → ((List.range l.length).filter fun i => !listed.getD i true).length ≤ fuel → S w w' → St n T a' →
      (∀ i, i < l.length → listed.getD i false = true → (tab i).P (valOf l.toArray a' i) w') → wpAny P .any l.toArray Q fuel listed a' w' := by
  have last : ∀ (listed : Array Bool) (a' : Act) (w' : World), listed.size = l.length → Region.ready .any l.toArray listed = [] → S w w' → St n T a' →
      (∀ i, i < l.length → listed.getD i false = true → (tab i).P (valOf l.toArray a' i) w') → Q .normal a' w' := by
    intro listed a' w' hls hr hS hT hin
    have all : ∀ i, i < l.length → listed.getD i false = true := by
      intro i
      induction i using Nat.strongRecOn with
      | _ i ih =>
        intro hi
        cases hl : listed.getD i false with
        | true => rfl
        | false =>
          exfalso
          have : i ∈ Region.ready .any l.toArray listed := by
            rw [mem_ready]
            have hli : i < listed.size := by omega
            have hoi : l.toArray[i]? = some l[i] := by simp [hi]
            refine ⟨by simpa [hli] using hl, l[i], hoi, fun e he hb => ?_⟩
            have hlt := (fit_spec hfit hoi).2 e he hb
            exact ih e.on hlt (by omega)
          rw [hr] at this; cases this
    refine hend (valOf l.toArray a') a' w' hS (fun i hi => hin i hi (all i hi)) ⟨hT.size, hT.defers, fun t v hv => ?_⟩
    rcases puts_look (valOf l.toArray a') T l 0 hv with ⟨i, o, h1, h2, h3⟩ | h
    · have hd : dstOf l.toArray i = some t := by simp [dstOf, h1, h2]
      rw [h3, Nat.zero_add]; unfold valOf; rw [hd]
    · exact hT.get t v h
  intro fuel
  induction fuel with
  | zero =>
    intro listed a' w' hls hf hS hT hin
    have hr : Region.ready .any l.toArray listed = [] := by
      unfold Region.ready
      rw [List.filter_eq_nil_iff]
      intro i hi
      have hnil : ((List.range l.length).filter fun i => !listed.getD i true) = [] := List.eq_nil_of_length_eq_zero (by omega)
      rw [List.filter_eq_nil_iff] at hnil
      have := hnil i (by simpa using hi)
      simp only [Bool.not_eq_true, Bool.not_eq_false'] at this
      simp [this]
    exact ⟨hr, last listed a' w' hls hr hS hT hin⟩
  | succ fuel ih =>
    intro listed a' w' hls hf hS hT hin
    refine ⟨fun hr => last listed a' w' hls hr hS hT hin, fun i hi => ?_⟩
    obtain ⟨hun, o, hoi, hall⟩ := mem_ready.1 hi
    have hil : i < l.length := by have := (Array.getElem?_eq_some_iff.1 hoi).1; simpa using this
    have hoi' : l[i]? = some o := by simpa using hoi
    obtain ⟨hfd, hfe⟩ := fit_spec hfit hoi
    have hk : ∀ j, waits o j = true → (tab j).P (valOf l.toArray a' j) w' := fun j hj => by
      unfold waits at hj
      rw [List.any_eq_true] at hj
      obtain ⟨e, he', hb⟩ := hj
      have he : e ∈ o.after := by simpa using he'
      simp only [Bool.and_eq_true, beq_iff_eq] at hb
      have := hfe e he hb.1
      rw [← hb.2]
      exact hin e.on (by omega) (hall e he hb.1)
    have go : ∀ (v : Value) (w2 : World), S w' w2 → (tab i).P (seenV o v) w2 → wpAny P .any l.toArray Q fuel (listed.setIfInBounds i true) (a'.put o.dst v) w2 := by
      intro v w2 hS2 hv
      have hT2 : St n T (a'.put o.dst v) := by
        cases hd : o.dst with
        | none => exact hT
        | some d =>
          obtain ⟨hdn, _, hTd⟩ := hfd d hd
          have hp := hT.put hdn v
          refine ⟨hp.size, hp.defers, fun t u hu => hp.get t u ?_⟩
          have hne : t ≠ d := hTd (t, u) (lookup_mem hu)
          rw [List.lookup_cons]
          have : (t == d) = false := by simpa using hne
          simp only [this]; exact hu
      refine ih _ _ _ (by simpa using hls) ?_ (htrans _ _ _ hS hS2) hT2 (fun j hj hlj => ?_)
      · have hlt : i < listed.size := by omega
        have : ((List.range l.length).filter fun k => !(listed.setIfInBounds i true).getD k true).length < ((List.range l.length).filter fun k => !listed.getD k true).length := by
          have hsub : ((List.range l.length).filter fun k => !(listed.setIfInBounds i true).getD k true) = ((List.range l.length).filter fun k => !listed.getD k true).filter (fun k => k != i) := by
            rw [List.filter_filter]
            apply List.filter_congr
            intro k _
            by_cases hk : k = i
            · subst hk; simp [hlt]
            · rw [set_ne true (Ne.symm hk)]; simp [hk]
          rw [hsub]
          refine List.length_filter_lt_length_iff_exists.2 ⟨i, ?_, by simp⟩
          simp only [List.mem_filter, List.mem_range]
          exact ⟨hil, by rw [hun]; rfl⟩
        omega
      · by_cases hji : j = i
        · subst hji
          have : valOf l.toArray (a'.put o.dst v) j = seenV o v := by
            cases hd : o.dst with
            | none =>
              have hdi : dstOf l.toArray j = none := by simp [dstOf, hoi', hd]
              unfold valOf seenV; rw [hdi, hd]
            | some d =>
              have hdi : dstOf l.toArray j = some d := by simp [dstOf, hoi', hd]
              have hdl : d < a'.tmps.size := by rw [hT.size]; exact (hfd d hd).1
              unfold valOf seenV; rw [hdi, hd]; simp [Act.put, hdl]
          rw [this]; exact hv
        · have h1 := hin j hj (by rwa [set_ne false (Ne.symm hji)] at hlj)
          have h2 : valOf l.toArray (a'.put o.dst v) j = valOf l.toArray a' j := by
            unfold valOf
            cases hdj : dstOf l.toArray j with
            | none => rfl
            | some d' =>
              cases hd : o.dst with
              | none => rfl
              | some d =>
                have hne : d ≠ d' := fun e => by subst e; exact hji ((hfd d hd).2.1 j (by simpa using hj) hdj)
                simp [Act.put, Array.getD_eq_getD_getElem?, Array.getElem?_setIfInBounds_ne hne]
          rw [h2]; exact (tab j).st _ _ _ hS2 h1
    unfold wpOp
    rcases hop i o hoi' a' w' hS hT hk with ⟨hw, h⟩ | ⟨hw, h⟩
    · simp only [hoi, hw, if_true]
      refine .inl (Oper.wp_mono (fun a2 w2 h => ?_) (h Q))
      obtain ⟨v, rfl, hS2, hv⟩ := h
      exact go v w2 hS2 hv
    · simp only [hoi, hw, Bool.false_eq_true, if_false]
      exact go undef w' h.1 h.2
def Eachs (P : Program) (ops : Array Oper) (S : World → World → Prop) (n : Nat) (T : List (Nat × Value)) (tab : Nat → Cl S) (w : World) (k : Nat) (l : List Oper) : Prop := ∀ i o, l[i]? = some o → Obl P ops S n T tab w (k + i) o
theorem each_nil {ops : Array Oper} {tab : Nat → Cl S} {k : Nat} : Eachs P ops S n T tab w k [] := fun i o h => by simp at h
theorem ec_ {ops : Array Oper} {tab : Nat → Cl S} {k : Nat} {o : Oper} {os : List Oper} (h : Obl P ops S n T tab w k o) (ht : Eachs P ops S n T tab w (k + 1) os) : Eachs P ops S n T tab w k (o :: os) := fun i p hp => by
  cases i with
  | zero => simp at hp; subst hp; exact h
  | succ i => have := ht i p (by simpa using hp); rwa [show k + 1 + i = k + (i + 1) by omega] at this
/-- THE LAW. -/
theorem drawn {id : Nat} {a : Act} (tab : Nat → Cl S) (hm : P.follows .mixedOrders = true) (hrefl : ∀ w, S w w) (htrans : ∀ a b c, S a b → S b c → S a c) (hdrew : ∀ w : World, S w w.drew) (hA : St n T a) (hfit : fitB l.toArray n T = true)
    (hop : Eachs P l.toArray S n T tab w.drew 0 l)
    (hend : ∀ f a' w', S w w' → (∀ i, i < l.length → (tab i).P (f i) w') → St n (puts l f 0 ++ T) a' → Q .normal a' w') : (Code.region id l.toArray true).wp P Q a w := by
  refine wp_region_any hm ?_
  refine drawn_any (w := w.drew) tab htrans hfit (fun i o h => by have := hop i o h; rwa [Nat.zero_add] at this) (fun f a' w' hS => hend f a' w' (htrans _ _ _ (hdrew w) hS)) _ _ _ _ (by simp) ?_ (hrefl _) hA (fun i _ hi => ?_)
  · refine Nat.le_trans (List.length_filter_le _ _) (by simp)
  · exfalso
    simp [Array.getD_eq_getD_getElem?, Array.getElem?_replicate] at hi; split at hi <;> simp at hi
end

/-! ### Worlds that grow, some blocks of the call's own going forward to what they will hold -/
structure SM (M : Nat → Option (Array Value)) (w w' : World) : Prop where
  os : w'.os = w.os
  tape : w'.tape = w.tape
  output : w'.output = w.output
  size : w.heap.size ≤ w'.heap.size
  block : ∀ k, k < w.heap.size → M k = none → w'.heap[k]? = w.heap[k]?
  turns : ∀ k fin cs t, M k = some fin → Blk w k cs t → ∃ cs', Blk w' k cs' t ∧ cs'.size = cs.size ∧ ∀ j : Nat, cs'[j]? = cs[j]? ∨ cs'[j]? = fin[j]?
theorem SM.refl {M : Nat → Option (Array Value)} (w : World) : SM M w w := ⟨rfl, rfl, rfl, Nat.le_refl _, fun _ _ _ => rfl, fun _ _ cs _ _ h => ⟨cs, h, rfl, fun _ => .inl rfl⟩⟩
theorem SM.trans {M : Nat → Option (Array Value)} (a b c : World) (h : SM M a b) (k : SM M b c) : SM M a c :=
  ⟨k.os.trans h.os, k.tape.trans h.tape, k.output.trans h.output, Nat.le_trans h.size k.size, fun i hi hm => (k.block i (Nat.lt_of_lt_of_le hi h.size) hm).trans (h.block i hi hm), fun i fin cs t hm hb => by
    obtain ⟨cs1, h1, h2, h3⟩ := h.turns i fin cs t hm hb
    obtain ⟨cs2, k1, k2, k3⟩ := k.turns i fin cs1 t hm h1
    refine ⟨cs2, k1, k2.trans h2, fun j => ?_⟩
    rcases k3 j with e | e
    · rcases h3 j with e' | e'
      · exact .inl (e.trans e')
      · exact .inr (e.trans e')
    · exact .inr e⟩
theorem SM.grow {M : Nat → Option (Array Value)} {w w' : World} (h : Grow w w') : SM M w w' :=
  ⟨h.os, h.tape, h.output, h.size, fun k hk _ => h.block k hk, fun _ _ cs _ _ hb => ⟨cs, hb.grow h, rfl, fun _ => .inl rfl⟩⟩
theorem SM.drew {M : Nat → Option (Array Value)} (w : World) : SM M w w.drew := SM.grow (Grow.refl w).drew
theorem SM.grown {w w' : World} (h : SM (fun _ => none) w w') : Grow w w' := ⟨h.os, h.tape, h.output, h.size, fun k hk => h.block k hk rfl⟩
theorem SM.below {M : Nat → Option (Array Value)} {B : Nat} {a w w' : World} (h : SM M w w') (hb : Below B a w) (hB : B ≤ w.heap.size) (hM : ∀ k, k < B → M k = none) : Below B a w' :=
  hb.trans ⟨h.os, h.tape, h.output, h.size, fun k hk => h.block k (by omega) (hM k hk)⟩
theorem Blk.sm {M : Nat → Option (Array Value)} {w w' : World} {g : Nat} {cs : Array Value} {t : TypeId} (hb : Blk w g cs t) (h : SM M w w') (hM : M g = none) : Blk w' g cs t := by
  unfold Blk; rw [h.block g hb.lt hM]; exact hb
theorem SM.store {M : Nat → Option (Array Value)} {w w' : World} {g k : Nat} {fin cs : Array Value} {t : TypeId} {v : Value} (hM : M g = some fin) (hu : Upd g w w') (hb : Blk w g cs t) (hb' : Blk w' g (cs.setIfInBounds k v) t) (hf : fin[k]? = some v) (hk : k < cs.size) : SM M w w' :=
  ⟨hu.os, hu.tape, hu.output, Nat.le_of_eq hu.size.symm, fun i _ hm => hu.block i (fun e => by subst e; rw [hM] at hm; cases hm), fun i fin' cs' t' hm hbi => by
    by_cases hi : i = g
    · subst hi
      rw [hM] at hm; cases hm
      unfold Blk at hb hbi
      rw [hb] at hbi
      injection hbi with hbi; injection hbi with h1 h2
      subst h1; subst h2
      refine ⟨_, hb', by simp, fun j => ?_⟩
      by_cases hj : k = j
      · subst hj; right; simp [hk, hf]
      · left; rw [Array.getElem?_setIfInBounds_ne hj]
    · exact ⟨cs', hbi.upd hu hi, rfl, fun _ => .inl rfl⟩⟩
/-- a cell that holds what it will hold -/
def cm (M : Nat → Option (Array Value)) (g k : Nat) (v : Value) (h : ∃ fin, M g = some fin ∧ fin[k]? = some v) : Cl (SM M) :=
  ⟨fun _ w => ∃ cs t, Blk w g cs t ∧ cs[k]? = some v, fun _ w w' hS ⟨cs, t, hb, hc⟩ => by
    obtain ⟨fin, hM, hf⟩ := h
    obtain ⟨cs', h1, _, h3⟩ := hS.turns g fin cs t hM hb
    refine ⟨cs', t, h1, ?_⟩
    rcases h3 k with e | e
    · rw [e]; exact hc
    · rw [e]; exact hf⟩
def setAll (cs : Array Value) : List (Nat × Value) → Array Value
  | [] => cs
  | x :: xs => setAll (cs.setIfInBounds x.1 x.2) xs
theorem setAll_size : ∀ (xs : List (Nat × Value)) (cs : Array Value), (setAll cs xs).size = cs.size
  | [], _ => rfl
  | x :: xs, cs => by rw [setAll, setAll_size xs]; simp
theorem setAll_out (j : Nat) : ∀ (xs : List (Nat × Value)) (cs : Array Value), (∀ x ∈ xs, x.1 ≠ j) → (setAll cs xs)[j]? = cs[j]?
  | [], _, _ => rfl
  | x :: xs, cs, h => by rw [setAll, setAll_out j xs _ (fun y hy => h y (by simp [hy])), Array.getElem?_setIfInBounds_ne (h x (by simp))]
/-- the block holds what it was to hold, once all stores are done -/
theorem SM.fin {M : Nat → Option (Array Value)} {w w' : World} {g : Nat} {cs : Array Value} {t : TypeId} (h : SM M w w') (xs : List (Nat × Value)) (hM : M g = some (setAll cs xs)) (hb : Blk w g cs t)
    (hx : ∀ x ∈ xs, ∃ cs' t', Blk w' g cs' t' ∧ cs'[x.1]? = (setAll cs xs)[x.1]?) : Blk w' g (setAll cs xs) t := by
  obtain ⟨cs', h1, h2, h3⟩ := h.turns g _ cs t hM hb
  have : cs' = setAll cs xs := by
    apply Array.ext_getElem?
    intro j
    by_cases hj : ∃ x ∈ xs, x.1 = j
    · obtain ⟨x, hxm, rfl⟩ := hj
      obtain ⟨cs'', t'', k1, k2⟩ := hx x hxm
      unfold Blk at h1 k1
      rw [h1] at k1
      injection k1 with k1; injection k1 with e1 e2
      subst e1; exact k2
    · rcases h3 j with e | e
      · rw [e, setAll_out j xs cs (fun x hx e => hj ⟨x, hx, e⟩)]
      · exact e
  subst this; exact h1
theorem SM.finL {M : Nat → Option (Array Value)} {w w' : World} {g : Nat} {cs fin : Array Value} {t : TypeId} (h : SM M w w') (xs : List (Nat × Value)) (hM : M g = some fin) (hfin : setAll cs xs = fin) (hb : Blk w g cs t)
    (hx : ∀ x ∈ xs, ∃ cs' t', Blk w' g cs' t' ∧ cs'[x.1]? = fin[x.1]?) : Blk w' g fin t := by
  subst hfin; exact h.fin xs hM hb hx
def tabL {S : World → World → Prop} (L : List (Cl S)) (i : Nat) : Cl S := (L[i]?).getD cfree
theorem fn_ {R : Nat × Value → Prop} : ∀ x ∈ ([] : List (Nat × Value)), R x := fun _ h => by cases h
theorem fc {R : Nat × Value → Prop} {y : Nat × Value} {l : List (Nat × Value)} (h : R y) (ht : ∀ x ∈ l, R x) : ∀ x ∈ y :: l, R x := List.forall_mem_cons.2 ⟨h, ht⟩
section
variable {P : Program} {ops : Array Oper} {a : Act} {w w0 : World} {K : Value → World → Prop} {d : Option Tmp} {ty : TypeId} {pos : String} {af : Array Edge} {gd : Option (Nat × Bool)} {v : Value} {M : Nat → Option (Array Value)}
theorem d_storeM {t t' : TypeId} {x y : Operand} {g k : Nat} {fin cs : Array Value} (hw : Region.wanted { dst := d, op := .store t x y, type := ty, pos := pos, after := af, guard := gd } (yielded ops a.tmps) = true) (hx : a.eval x = .pointer (some ⟨g, k, none⟩)) (hy : a.eval y = v)
    (h1 : oneB P t = true) (ho : v.oneCell' = true) (hS : SM M w0 w) (hM : M g = some fin) (hb : Blk w0 g cs t') (hk : k < cs.size) (hf : fin[k]? = some v) (hK : ∀ w', SM M w w' ∧ (∃ cs t, Blk w' g cs t ∧ cs[k]? = some v) → K undef w') :
    Does P ops { dst := d, op := .store t x y, type := ty, pos := pos, after := af, guard := gd } a w K := by
  obtain ⟨cs', hb', hs', _⟩ := hS.turns g fin cs t' hM hb
  have hk' : k < cs'.size := by omega
  exact dst_ hw hx hy h1 ho hb' hk' fun w' hu hb2 => hK w' ⟨SM.store hM hu hb' hb2 hf hk', _, _, hb2, by simp [hk']⟩
/-- the places of a struct's fields, off closed facts -/
def placesOf (P : Program) (t : TypeId) : Option (List (Nat × Nat)) :=
  match P.underlying t with
  | some (.struct fs) => fs.toList.mapM fun f => (P.info? f.type).map fun i => (f.offset, i.size)
  | _ => none
theorem run_places {P : Program} (w : World) : ∀ (fs : List Field) (ps : List (Nat × Nat)), fs.mapM (fun f => (P.info? f.type).map fun i => (f.offset, i.size)) = some ps → (fs.mapM (fun f => do pure (f.offset, ← sizeOf f.type) : Field → Sem (Nat × Nat))).run P w = .ok ps w
  | [], ps, h => by simp at h; subst h; simp
  | f :: fs, ps, h => by
    rw [List.mapM_cons] at h
    cases hi : P.info? f.type with
    | none => simp [hi] at h
    | some i =>
      cases hr : fs.mapM (fun f => (P.info? f.type).map fun i => (f.offset, i.size)) with
      | none => simp [hi, hr] at h
      | some qs =>
        simp [hi, hr] at h
        subst h
        have ih := run_places w fs qs hr
        have hz : (sizeOf f.type).run P w = .ok i.size w := by simp [sizeOf, typeInfo, hi]
        rw [List.mapM_cons]
        simp only [Sem.run_bind, hz, Result.andThen_ok, Sem.run_pure, ih]
theorem dbd {t : TypeId} {parts : Array (Nat × Operand)} {vs : List (Nat × Value)} {z : Value} {m : Nat} {ps : List (Nat × Nat)} {cs : Array Value} (hw : Region.wanted { dst := d, op := .build t parts, type := ty, pos := pos, after := af, guard := gd } (yielded ops a.tmps) = true)
    (hx : (parts.map fun x => (x.1, a.eval x.2)).toList = vs) (hi : (P.info? t).map (fun i => (i.zero, i.size)) = some (some z, m)) (hp : placesOf P t = some ps) (hf : Instr.fill (fun i => ps[i]?) z.cells vs = some cs) (h : K (.agg cs) w) :
    Does P ops { dst := d, op := .build t parts, type := ty, pos := pos, after := af, guard := gd } a w K :=
  does_val hw (by
    have hz := (zero_of_info hi).1 w
    unfold placesOf at hp
    split at hp
    · rename_i fs hu
      have hpl := run_places (P := P) w fs.toList ps hp
      have hpl' : (fs.mapM (fun f => do pure (f.offset, ← sizeOf f.type) : Field → Sem (Nat × Nat))).run P w = .ok ps.toArray w := by
        rw [← Array.toArray_toList (xs := fs), List.mapM_toArray]
        simp only [Sem.run_map, hpl, Result.andThen_ok]
      have hf' : Instr.fill (fun i => ps.toArray[i]?) z.cells (parts.map fun x => (x.1, a.eval x.2)).toList = some cs := by rw [hx]; simpa using hf
      unfold execOp
      simp only [Sem.run_bind, Instr.build, hz, Result.andThen_ok, run_underlying hu, hpl', hf', Sem.run_pure]
    · cases hp) h
theorem map0 {ρ : Operand → Value} : (#[] : Array Operand).map ρ = #[] := by simp
theorem map1 {ρ : Operand → Value} {x0 : Operand} {v0 : Value} (h0 : ρ x0 = v0) : #[x0].map ρ = #[v0] := by simp [h0]
theorem map2 {ρ : Operand → Value} {x0 x1 : Operand} {v0 v1 : Value} (h0 : ρ x0 = v0) (h1 : ρ x1 = v1) : #[x0, x1].map ρ = #[v0, v1] := by simp [h0, h1]
theorem map3 {ρ : Operand → Value} {x0 x1 x2 : Operand} {v0 v1 v2 : Value} (h0 : ρ x0 = v0) (h1 : ρ x1 = v1) (h2 : ρ x2 = v2) : #[x0, x1, x2].map ρ = #[v0, v1, v2] := by simp [h0, h1, h2]
theorem map4 {ρ : Operand → Value} {x0 x1 x2 x3 : Operand} {v0 v1 v2 v3 : Value} (h0 : ρ x0 = v0) (h1 : ρ x1 = v1) (h2 : ρ x2 = v2) (h3 : ρ x3 = v3) : #[x0, x1, x2, x3].map ρ = #[v0, v1, v2, v3] := by simp [h0, h1, h2, h3]
theorem bp_nil {ρ : Operand → Value} : ((#[] : Array (Nat × Operand)).map fun x => (x.1, ρ x.2)).toList = [] := by simp
theorem bp_of {ρ : Operand → Value} {l : List (Nat × Operand)} {vs : List (Nat × Value)} (h : l.map (fun x => (x.1, ρ x.2)) = vs) : (l.toArray.map fun x => (x.1, ρ x.2)).toList = vs := by simp [h]
theorem bq_nil {ρ : Operand → Value} : ([] : List (Nat × Operand)).map (fun x => (x.1, ρ x.2)) = [] := rfl
theorem bq_cons {ρ : Operand → Value} {i : Nat} {x : Operand} {v : Value} {l : List (Nat × Operand)} {vs : List (Nat × Value)} (h : ρ x = v) (ht : l.map (fun x => (x.1, ρ x.2)) = vs) : ((i, x) :: l).map (fun x => (x.1, ρ x.2)) = (i, v) :: vs := by simp [h, ht]
end
end Go.Proofs.Ytlhompedcphnnaa
/- Equality of structs whose fields are numbers and truths; fields of values; results of several parts. -/
namespace Go.Proofs.Ytlhompedcphnnaa
open Go.RowKit

def shp : Bool → Option Value → Option Value → Option Bool
  | false, some (.int k a), some (.int k' b) => if k = k' then some (a == b) else none
  | true, some (.bool a), some (.bool b) => some (a == b)
  | _, _, _ => none
/-- the fields of a struct of numbers and truths: where each lies, whether it is a truth -/
def flatL (P : Program) : List Field → Option (List (Nat × Bool))
  | [] => some []
  | f :: fs => if f.name = "_" then none else match P.underlying f.type with
    | some .bool => (flatL P fs).map ((f.offset, true) :: ·)
    | some (.int _) => (flatL P fs).map ((f.offset, false) :: ·)
    | _ => none
def shps (xs ys : Array Value) : List (Nat × Bool) → Option (List Bool)
  | [] => some []
  | x :: l => match shp x.2 xs[x.1]? ys[x.1]?, shps xs ys l with
    | some b, some bs => some (b :: bs)
    | _, _ => none
section
variable {P : Program}
theorem part_one {t : TypeId} {cs : Array Value} {o : Nat} {v : Value} (w : World) (h : (isAgg t).run P w = .ok false w) (hv : cs[o]? = some v) : (part t cs o).run P w = .ok v w := by
  simp [part, h, hv]
theorem eqFields_flat (d : Nat) (w : World) (xs ys : Array Value) : ∀ (fs : List Field) (offs : List (Nat × Bool)) (bs : List Bool), flatL P fs = some offs → shps xs ys offs = some bs →
    (Op.eqFields (d + 1) xs ys fs).run P w = .ok (bs.all id) w
  | [], offs, bs, hf, hb => by simp [flatL] at hf; subst hf; simp [shps] at hb; subst hb; simp [Op.eqFields]
  | f :: fs, offs, bs, hf, hb => by
    unfold flatL at hf
    split at hf
    · cases hf
    rename_i hname
    cases hu : P.underlying f.type with
    | none => simp [hu] at hf
    | some dd =>
      have key : ∀ (isb : Bool) (l : List (Nat × Bool)), flatL P fs = some l → offs = (f.offset, isb) :: l → (isAgg f.type).run P w = .ok false w →
          (∀ a b r, shp isb (some a) (some b) = some r → (Op.equalIn (d + 1) f.type a b).run P w = .ok r w) → (Op.eqFields (d + 1) xs ys (f :: fs)).run P w = .ok (bs.all id) w := by
        intro isb l hl ho hagg heq
        subst ho
        unfold shps at hb
        simp only at hb
        cases hs : shp isb xs[f.offset]? ys[f.offset]? with
        | none => simp [hs] at hb
        | some r =>
          cases hs2 : shps xs ys l with
          | none => simp [hs, hs2] at hb
          | some rs =>
            simp [hs, hs2] at hb
            subst hb
            have ih := eqFields_flat d w xs ys fs l rs hl hs2
            cases hx : xs[f.offset]? with
            | none => simp [hx, shp] at hs
            | some a =>
              cases hy : ys[f.offset]? with
              | none => rw [hx, hy] at hs; cases a <;> cases isb <;> simp [shp] at hs
              | some b =>
                rw [hx, hy] at hs
                unfold Op.eqFields
                simp only [ne_eq, hname, not_false_eq_true, if_true, Sem.run_bind, part_one w hagg hx, part_one w hagg hy, Result.andThen_ok, heq a b r hs]
                cases r
                · simp
                · simp [ih]
      cases dd with
      | bool =>
        simp only [hu] at hf
        cases hl : flatL P fs with
        | none => simp [hl] at hf
        | some l =>
          simp [hl] at hf
          refine key true l hl hf.symm (by simp [isAgg, run_underlying hu]) fun a b r hr => ?_
          cases a <;> cases b <;> simp [shp] at hr
          subst hr
          exact run_equalIn_bool w d f.type _ _ hu
      | int k =>
        simp only [hu] at hf
        cases hl : flatL P fs with
        | none => simp [hl] at hf
        | some l =>
          simp [hl] at hf
          refine key false l hl hf.symm (by simp [isAgg, run_underlying hu]) fun a b r hr => ?_
          cases a <;> cases b <;> simp [shp] at hr
          obtain ⟨rfl, rfl⟩ := hr
          exact run_equalIn_int w d f.type _ _ _ _ hu
      | _ => simp [hu] at hf
/-- a struct type whose parts are numbers and truths -/
def flatT (P : Program) (t : TypeId) : Option (List (Nat × Bool)) :=
  match P.underlying t with
  | some (.struct fs) => if P.stoodInHeld t || P.eqGuardType P.depth t then none else flatL P fs.toList
  | _ => none
theorem eq_flat {t : TypeId} {offs : List (Nat × Bool)} {xs ys : Array Value} {bs : List Bool} (w : World) (x y : Operand) (h : flatT P t = some offs) (hb : shps xs ys offs = some bs) :
    ((eqGuard .eql t x y (.agg xs) (.agg ys)).run P w = .ok () w ∧ (binOp .eql t (.agg xs) (.agg ys)).run P w = .ok (.bool (bs.all id)) w) ∧
    ((eqGuard .neq t x y (.agg xs) (.agg ys)).run P w = .ok () w ∧ (binOp .neq t (.agg xs) (.agg ys)).run P w = .ok (.bool (!bs.all id)) w) := by
  unfold flatT at h
  split at h
  · rename_i fs hu
    split at h
    · cases h
    · rename_i hs
      simp only [Bool.or_eq_true, not_or, Bool.not_eq_true] at hs
      have hf : P.fieldsOf t = fs := by unfold Program.fieldsOf; rw [hu]
      have he : (Op.equalIn 10000 t (.agg xs) (.agg ys)).run P w = .ok (bs.all id) w := by
        rw [run_equalIn_struct w 9999 t xs ys (by rw [hf]; exact hu) hs.1, hf]
        exact eqFields_flat 9998 w xs ys _ offs bs h hb
      refine ⟨⟨run_eqGuard_agg w _ t x y xs ys hs.2, ?_⟩, run_eqGuard_agg w _ t x y xs ys hs.2, ?_⟩
      · rw [run_eql_struct, he]; rfl
      · rw [run_neq_struct, he]; rfl
  · cases h
def fieldInfo (P : Program) (s f : Nat) : Option (TypeId × Nat) :=
  match P.underlying s with
  | some (.struct fs) => (fs[f]?).map fun fd => (fd.type, fd.offset)
  | _ => none
variable {ops : Array Oper} {a : Act} {w : World} {K : Value → World → Prop} {d : Option Tmp} {ty : TypeId} {pos : String} {af : Array Edge} {gd : Option (Nat × Bool)} {v : Value}
theorem d_field {s f ft off : Nat} {x : Operand} {cs : Array Value} (hw : Region.wanted { dst := d, op := .field s x f, type := ty, pos := pos, after := af, guard := gd } (yielded ops a.tmps) = true) (hx : a.eval x = .agg cs)
    (hf : fieldInfo P s f = some (ft, off)) (h1 : oneB P ft = true) (hv : cs[off]? = some v) (h : K v w) : Does P ops { dst := d, op := .field s x f, type := ty, pos := pos, after := af, guard := gd } a w K :=
  does_val hw (by
    unfold fieldInfo at hf
    split at hf
    · rename_i fs hu
      cases hq : fs[f]? with
      | none => simp [hq] at hf
      | some fd =>
        simp [hq] at hf
        obtain ⟨rfl, rfl⟩ := hf
        unfold execOp
        simp only [hx, Sem.run_bind, Instr.field, run_underlying hu, Result.andThen_ok, hq, asAgg, Sem.run_pure, part_one w (agg_no h1 w) hv]
    · cases hf) h
variable {n : Nat} {T : List (Nat × Value)}
theorem retCT {fn : Func} {R : Ending → World → Prop} {p q : Tmp} {t t' : TypeId} {g : Nat} {cs : Array Value} (hr : fn.results = #[.cell p t, .tmp q]) (hA : St n T a) (hv : ev T (.tmp p) = some (.pointer (some ⟨g, 0, none⟩))) (hq : ev T (.tmp q) = some v) (hb : Blk w g cs t') (h1 : rowB P t cs.size = true)
    (h : R (.returned (.tuple #[.agg cs, v])) w) : bodyPost P fn R .ret a w := by
  obtain ⟨⟨dd, h2, _, h3⟩, h4⟩ := row_facts h1
  have e1 := hA.ev hv
  have e2 := hA.ev hq
  simp only [Act.eval] at e1 e2
  refine ⟨hA.defers, _, ?_, h⟩
  have e3 : a.tmps[p]?.getD undef = .pointer (some ⟨g, 0, none⟩) := by simpa using e1
  have e4 : a.tmps[q]?.getD undef = v := by simpa using e2
  simp [results, hr, e3, e4, asAddr, run_loadVar_row w g t' t cs (0, 0) dd hb h2 (by cases dd <;> simp_all) h4]
theorem ret3 {fn : Func} {R : Ending → World → Prop} {p q r : Tmp} {x y z : Value} (hr : fn.results = #[.tmp p, .tmp q, .tmp r]) (hA : St n T a) (hx : ev T (.tmp p) = some x) (hy : ev T (.tmp q) = some y) (hz : ev T (.tmp r) = some z)
    (h : R (.returned (.tuple #[x, y, z])) w) : bodyPost P fn R .ret a w := by
  have e1 := hA.ev hx
  have e2 := hA.ev hy
  have e3 := hA.ev hz
  simp only [Act.eval] at e1 e2 e3
  refine ⟨hA.defers, _, ?_, h⟩
  have f1 : a.tmps[p]?.getD undef = x := by simpa using e1
  have f2 : a.tmps[q]?.getD undef = y := by simpa using e2
  have f3 : a.tmps[r]?.getD undef = z := by simpa using e3
  simp [results, hr, f1, f2, f3]
end
theorem ret_agg {x y : Array Value} (h : x = y) : Ending.returned (.agg x) = .returned (.agg y) := by rw [h]
theorem notof {b c : Bool} (h : b = c) : (!b) = !c := by rw [h]

theorem jwp {P : Program} {c : Code} {K : Act → World → Prop} {Q : Exit → Act → World → Prop} {a : Act} {w : World} (h : c.wp P (Exit.then K fun _ _ _ => False) a w) (hk : ∀ a w, K a w → Q .normal a w) : c.wp P Q a w :=
  Code.wp_mono (fun e a w h => by cases e <;> first | exact hk _ _ h | exact h.elim) h
section
variable {P : Program} {ops : Array Oper} {a : Act} {w : World} {K : Value → World → Prop} {d : Option Tmp} {ty : TypeId} {pos : String} {af : Array Edge} {gd : Option (Nat × Bool)} {v : Value}
theorem dpt {c x y : Operand} (hw : Region.wanted { dst := d, op := .pick c x y, type := ty, pos := pos, after := af, guard := gd } (yielded ops a.tmps) = true) (hc : a.eval c = .bool true) (hx : a.eval x = v) (h : K v w) :
    Does P ops { dst := d, op := .pick c x y, type := ty, pos := pos, after := af, guard := gd } a w K := d_pick hw hc (by simpa using hx) h
theorem dpf {c x y : Operand} (hw : Region.wanted { dst := d, op := .pick c x y, type := ty, pos := pos, after := af, guard := gd } (yielded ops a.tmps) = true) (hc : a.eval c = .bool false) (hx : a.eval y = v) (h : K v w) :
    Does P ops { dst := d, op := .pick c x y, type := ty, pos := pos, after := af, guard := gd } a w K := d_pick hw hc (by simpa using hx) h
end
/-! ### Loops -/
theorem least {p : Nat → Prop} (h : ∃ m, p m) : ∃ m, p m ∧ ∀ k, k < m → ¬ p k := by
  obtain ⟨m, hm⟩ := h
  induction m using Nat.strongRecOn with
  | _ m ih =>
    by_cases hk : ∃ k, k < m ∧ p k
    · obtain ⟨k, hkm, hpk⟩ := hk; exact ih k hkm hpk
    · exact ⟨m, hm, fun k hkm hpk => hk ⟨k, hkm, hpk⟩⟩
theorem loop_by {P : Program} {c : Code} {Q : Exit → Act → World → Prop} {a : Act} {w : World} (I : Nat → Act → World → Prop) (m : Nat) (h0 : I m a w)
    (round : ∀ m a w, I m a w → c.wp P (Exit.then (fun a' w' => ∃ m', m' < m ∧ I m' a' w') Q) a w) : (Code.loop c).wp P Q a w := by
  refine wp_loop (fun a w => ∃ m, I m a w) (fun a w => @dite Nat (∃ m, I m a w) (Classical.propDecidable _) (fun h => Classical.choose (least h)) fun _ => 0) ⟨m, h0⟩ fun a w hI => ?_
  have hc := Classical.choose_spec (least hI)
  have hr := round _ a w hc.1
  refine Code.wp_mono (fun e a' w' hq => ?_) hr
  cases e with
  | normal =>
    obtain ⟨m', hlt, hI'⟩ := hq
    refine ⟨⟨m', hI'⟩, ?_⟩
    have h' : ∃ m, I m a' w' := ⟨m', hI'⟩
    simp only [dif_pos hI, dif_pos h']
    have h2 := (Classical.choose_spec (least h')).2
    refine Nat.lt_of_le_of_lt ?_ hlt
    exact Nat.le_of_not_lt fun hgt => h2 m' hgt hI'
  | _ => exact hq
end Go.Proofs.Ytlhompedcphnnaa
/- Slices for the engine: read by index, their lengths; slices made of parts; arrays in memory by index; calls of function values; sums. -/
namespace Go.Proofs.Ytlhompedcphnnaa
open Go.RowKit

/-- a slice's elements, laid one behind the other in memory below B -/
def Sl {α : Type} (enc : α → List Value) (s B : Nat) (w : World) (v : Value) (l : List α) : Prop :=
  ∃ ao cap, v = .slice ao l.length cap ∧ l.length ≤ cap ∧ ∀ j x, l[j]? = some x → ∃ b o, ao = some ⟨b, o, none⟩ ∧ b < B ∧ w.rangeAt b (o + j * s) (enc x)
section
variable {α : Type} {enc : α → List Value} {s B : Nat} {w w' : World} {v : Value} {l : List α}
theorem range_below {b o : Nat} {cs : List Value} (hr : w.rangeAt b o cs) (hb : Below B w w') (h : b < B) : w'.rangeAt b o cs := fun j x hx => by
  rw [hb.cell (p := ⟨b, o + j, none⟩) h]; exact hr j x hx
theorem range_upd {b o g : Nat} {cs : List Value} (hr : w.rangeAt b o cs) (hu : Upd g w w') (h : b ≠ g) : w'.rangeAt b o cs := fun j x hx => by
  rw [World.cell?_of_block (w := w) (hu.block b h)]; exact hr j x hx
theorem ne_of_beq {a b : Int} (h : (a == b) = false) : a ≠ b := by simpa using h
theorem Sl.below (h : Sl enc s B w v l) (hb : Below B w w') : Sl enc s B w' v l := by
  obtain ⟨ao, cap, hv, hlc, he⟩ := h
  refine ⟨ao, cap, hv, hlc, fun j x hx => ?_⟩
  obtain ⟨b, o, h1, h2, h3⟩ := he j x hx
  exact ⟨b, o, h1, h2, range_below h3 hb h2⟩
theorem Sl.mono {B' : Nat} (h : Sl enc s B w v l) (hB : B ≤ B') : Sl enc s B' w v l := by
  obtain ⟨ao, cap, hv, hlc, he⟩ := h
  refine ⟨ao, cap, hv, hlc, fun j x hx => ?_⟩
  obtain ⟨b, o, h1, h2, h3⟩ := he j x hx
  exact ⟨b, o, h1, Nat.lt_of_lt_of_le h2 hB, h3⟩
theorem Sl.form (h : Sl enc s B w v l) : ∃ ao cap, v = .slice ao l.length cap := let ⟨ao, cap, hv, _, _⟩ := h; ⟨ao, cap, hv⟩
theorem Sl.nil : Sl enc s B w (.slice none 0 0) ([] : List α) := ⟨none, 0, rfl, Nat.le_refl _, fun j x h => by simp at h⟩
end
section
variable {P : Program} {ops : Array Oper} {a : Act} {w : World} {K : Value → World → Prop} {d : Option Tmp} {ty : TypeId} {pos : String} {af : Array Edge} {gd : Option (Nat × Bool)} {v : Value}
def sliceB (P : Program) (t e s : Nat) : Bool := (match P.underlying t with | some (.slice e') => e' == e | _ => false) && ((P.info? e).map (·.size) == some s)
theorem slice_facts {t e s : Nat} (h : sliceB P t e s = true) : P.underlying t = some (.slice e) ∧ (P.info? e).map (·.size) = some s := by
  unfold sliceB at h
  rw [Bool.and_eq_true] at h
  refine ⟨?_, by simpa using h.2⟩
  cases hq : P.underlying t with
  | none => simp [hq] at h
  | some dd => cases dd <;> simp_all
theorem run_size {e s : Nat} (h : (P.info? e).map (·.size) = some s) (w : World) : (sizeOf e).run P w = .ok s w := by
  cases hq : P.info? e with
  | none => simp [hq] at h
  | some i => simp [hq] at h; simp [sizeOf, typeInfo, hq, h]
theorem dle {x : Operand} {t e s n : Nat} (hw : Region.wanted { dst := d, op := .call { callee := .builtin .len, args := #[x], argTypes := #[t] }, type := ty, pos := pos, after := af, guard := gd } (yielded ops a.tmps) = true) (hx : a.eval x = v) (ht : sliceB P t e s = true)
    (hv : ∃ ao cap, v = .slice ao n cap) (h : K (.int .i64 (n : Int)) w) : Does P ops { dst := d, op := .call { callee := .builtin .len, args := #[x], argTypes := #[t] }, type := ty, pos := pos, after := af, guard := gd } a w K :=
  does_val hw (by
    obtain ⟨ao, cap, hv⟩ := hv
    have hm : (#[x] : Array Operand).map a.eval = #[.slice ao n cap] := by simp only [List.map_toArray, List.map_cons, List.map_nil]; rw [hx, hv]
    unfold execOp
    simp only [resolve, Sem.run_bind, Sem.run_pure, Result.andThen_ok, invoke, builtin, hm]
    simp [Builtin.len_, run_underlying (slice_facts ht).1, goInt]) h
theorem d_index {α : Type} {enc : α → List Value} {t e s B j : Nat} {x ix : Operand} {l : List α} {y : α} (hw : Region.wanted { dst := d, op := .indexAddr t x ix, type := ty, pos := pos, after := af, guard := gd } (yielded ops a.tmps) = true) (hx : a.eval x = v) (hi : a.eval ix = .int .i64 (j : Int))
    (ht : sliceB P t e s = true) (hs : Sl enc s B w v l) (hy : l[j]? = some y) (h : ∀ b o, b < B → w.rangeAt b o (enc y) → K (.pointer (some ⟨b, o, none⟩)) w) :
    Does P ops { dst := d, op := .indexAddr t x ix, type := ty, pos := pos, after := af, guard := gd } a w K := by
  obtain ⟨ao, cap, hv, _, he⟩ := hs
  obtain ⟨b, o, hao, hb, hr⟩ := he j y hy
  have hj : j < l.length := (List.getElem?_eq_some_iff.1 hy).1
  refine does_val (v := .pointer (some ⟨b, o + j * s, none⟩)) hw ?_ (h b _ hb hr)
  subst hao; subst hv
  have hc : (0 : Int) ≤ (j : Int) ∧ (j : Int) < ((l.length : Nat) : Int) := ⟨by omega, by omega⟩
  have hq : (Instr.indexAt t (.slice (some ⟨b, o, none⟩) l.length cap) (.int .i64 (j : Int))).run P w = .ok (.pointer (some ⟨b, o + j * s, none⟩)) w := by
    unfold Instr.indexAt
    simp only [asIntOf, Sem.run_bind, Sem.run_pure, Result.andThen_ok, run_underlying (slice_facts ht).1, if_pos hc, run_size (slice_facts ht).2, Int.toNat_natCast, Addr.add_mid]
  unfold execOp
  simp only [hx, hi, Sem.run_bind, hq, Sem.run_pure, Result.andThen_ok]
/-- where element j of a slice of n lies -/
def IxAt (v : Value) (n j s b o : Nat) : Prop := ∃ o0 cap, v = .slice (some ⟨b, o0, none⟩) n cap ∧ o = o0 + j * s
theorem Sl.at {α : Type} {enc : α → List Value} {s B j : Nat} {l : List α} {y : α} (hs : Sl enc s B w v l) (hy : l[j]? = some y) : ∃ b o, b < B ∧ w.rangeAt b o (enc y) ∧ IxAt v l.length j s b o := by
  obtain ⟨ao, cap, hv, _, he⟩ := hs
  obtain ⟨b, o, hao, hb, hr⟩ := he j y hy
  exact ⟨b, o + j * s, hb, hr, o, cap, by rw [hv, hao], rfl⟩
theorem dia {t e s n j b o : Nat} {x ix : Operand} (hw : Region.wanted { dst := d, op := .indexAddr t x ix, type := ty, pos := pos, after := af, guard := gd } (yielded ops a.tmps) = true) (hx : a.eval x = v) (hi : a.eval ix = .int .i64 (j : Int))
    (ht : sliceB P t e s = true) (hix : IxAt v n j s b o) (hj : j < n) (h : K (.pointer (some ⟨b, o, none⟩)) w) :
    Does P ops { dst := d, op := .indexAddr t x ix, type := ty, pos := pos, after := af, guard := gd } a w K := by
  obtain ⟨o0, cap, hv, ho⟩ := hix
  refine does_val (v := .pointer (some ⟨b, o, none⟩)) hw ?_ h
  subst hv; subst ho
  have hc : (0 : Int) ≤ (j : Int) ∧ (j : Int) < ((n : Nat) : Int) := ⟨by omega, by omega⟩
  have hq : (Instr.indexAt t (.slice (some ⟨b, o0, none⟩) n cap) (.int .i64 (j : Int))).run P w = .ok (.pointer (some ⟨b, o0 + j * s, none⟩)) w := by
    unfold Instr.indexAt
    simp only [asIntOf, Sem.run_bind, Sem.run_pure, Result.andThen_ok, run_underlying (slice_facts ht).1, if_pos hc, run_size (slice_facts ht).2, Int.toNat_natCast, Addr.add_mid]
  unfold execOp
  simp only [hx, hi, Sem.run_bind, hq, Sem.run_pure, Result.andThen_ok]
theorem range_sm {M : Nat → Option (Array Value)} {w w' : World} {b o : Nat} {cs : List Value} (hr : w.rangeAt b o cs) (h : SM M w w') (hb : b < w.heap.size) (hM : M b = none) : w'.rangeAt b o cs := fun j x hx => by
  rw [World.cell?_of_block (w := w) (h.block b hb hM)]; exact hr j x hx
theorem get_lt {α : Type} {l : List α} {j : Nat} {y : α} (h : l[j]? = some y) : j < l.length := (List.getElem?_eq_some_iff.1 h).1
/-- an array in memory, by index -/
def arrB (P : Program) (t n e s : Nat) : Bool := (match P.underlying t with | some (.array n' e') => n' == n && e' == e | _ => false) && ((P.info? e).map (·.size) == some s)
theorem arr_facts {t n e s : Nat} (h : arrB P t n e s = true) : P.underlying t = some (.array n e) ∧ (P.info? e).map (·.size) = some s := by
  unfold arrB at h
  rw [Bool.and_eq_true] at h
  refine ⟨?_, by simpa using h.2⟩
  cases hq : P.underlying t with
  | none => simp [hq] at h
  | some dd => cases dd <;> simp_all
theorem d_indexArr {t n e s g o j : Nat} {x ix : Operand} (hw : Region.wanted { dst := d, op := .indexAddr t x ix, type := ty, pos := pos, after := af, guard := gd } (yielded ops a.tmps) = true) (hx : a.eval x = .pointer (some ⟨g, o, none⟩)) (hi : a.eval ix = .int .i64 (j : Int))
    (ht : arrB P t n e s = true) (hj : j < n) (h : K (.pointer (some ⟨g, o + j * s, none⟩)) w) : Does P ops { dst := d, op := .indexAddr t x ix, type := ty, pos := pos, after := af, guard := gd } a w K :=
  does_val hw (by
    have hc : (0 : Int) ≤ (j : Int) ∧ (j : Int) < ((n : Nat) : Int) := ⟨by omega, by omega⟩
    have hq : (Instr.indexAt t (.pointer (some ⟨g, o, none⟩)) (.int .i64 (j : Int))).run P w = .ok (.pointer (some ⟨g, o + j * s, none⟩)) w := by
      unfold Instr.indexAt
      simp only [asIntOf, Sem.run_bind, Sem.run_pure, Result.andThen_ok, run_underlying (arr_facts ht).1, if_pos hc, run_size (arr_facts ht).2, Int.toNat_natCast, Addr.add_mid, Instr.sureAddr]
    unfold execOp
    simp only [hx, hi, Sem.run_bind, hq, Sem.run_pure, Result.andThen_ok]) h
theorem dnc {x : Operand} {g o : Nat} (hw : Region.wanted { dst := d, op := .nilCheck x, type := ty, pos := pos, after := af, guard := gd } (yielded ops a.tmps) = true) (hx : a.eval x = .pointer (some ⟨g, o, none⟩)) (h : K (.pointer (some ⟨g, o, none⟩)) w) :
    Does P ops { dst := d, op := .nilCheck x, type := ty, pos := pos, after := af, guard := gd } a w K :=
  does_val hw (by unfold execOp; simp only [hx, Sem.run_pure]) h
theorem dlm {t b o : Nat} {x : Operand} {cs : Array Value} (hw : Region.wanted { dst := d, op := .load t x, type := ty, pos := pos, after := af, guard := gd } (yielded ops a.tmps) = true) (hx : a.eval x = .pointer (some ⟨b, o, none⟩)) (h1 : rowB P t cs.size = true)
    (hr : w.rangeAt b o cs.toList) (h : K (.agg cs) w) : Does P ops { dst := d, op := .load t x, type := ty, pos := pos, after := af, guard := gd } a w K :=
  does_val hw (by
    obtain ⟨⟨dd, h2, h3, _⟩, h4⟩ := row_facts h1
    have := run_loadAt_mid (P := P) w b o t cs.toList dd hr h2 h3 (by simpa using h4)
    unfold execOp
    simp only [hx, Sem.run_bind, this, Result.andThen_ok, Sem.run_pure, Array.toArray_toList]) h
theorem Blk.range {g o n : Nat} {cs : Array Value} {t : TypeId} (hb : Blk w g cs t) : w.rangeAt g o (cs.extract o (o + n)).toList := World.rangeAt_of_block hb o n
theorem d_callv {x : Operand} {f : FuncId} {args : Array Operand} {ats : Array TypeId} {vs : Array Value} {R : Ending → World → Prop} (hw : Region.wanted { dst := d, op := .call { callee := .value x, args := args, argTypes := ats }, type := ty, pos := pos, after := af, guard := gd } (yielded ops a.tmps) = true)
    (hf : a.eval x = .func (.func f) #[] #[]) (hent : ((P.funcs[f]?).map fun fn => (fn.name == "runtime.NumGoroutine", fn.body.isNone)) = some (false, false)) (hx : args.map a.eval = vs) (hc : Calls P f vs w R) (h : ∀ e w', R e w' → ∃ v, e = .returned v ∧ K v w') :
    Does P ops { dst := d, op := .call { callee := .value x, args := args, argTypes := ats }, type := ty, pos := pos, after := af, guard := gd } a w K :=
  does_enter hw (by
    subst hx
    unfold execOp
    simp only [resolve, hf, Sem.run_bind, Deferred.ofValue, Sem.run_pure, Result.andThen_ok, invoke, Array.append_empty, Array.empty_append, enters hent]) hc h
end
section
variable {P : Program} {t : TypeId} (x y : Operand) (a b : Int) (w : World)
theorem b_add (h1 : -9223372036854775808 ≤ a + b) (h2 : a + b ≤ 9223372036854775807) : (eqGuard .add t x y (.int .i64 a) (.int .i64 b)).run P w = .ok () w ∧ (binOp .add t (.int .i64 a) (.int .i64 b)).run P w = .ok (.int .i64 (a + b)) w := by
  refine ⟨by simp [eqGuard], ?_⟩
  have : IntKind.wrap .i64 (a + b) = a + b := by simp only [IntKind.wrap, IntKind.signed, IntKind.bits]; simp; omega
  simp [binOp, this, go_sem]
end
end Go.Proofs.Ytlhompedcphnnaa
/- Plain facts on sixty-four bits: how Go's '&', '|', '&^', '<<', '>>' on int read as operations on bit vectors; no program is named here. -/
namespace Go.Proofs.Ytlhompedcphnnaa
open Go.RowKit

/-- the sixty-four bits of a number -/
def B (x : Int) : BitVec 64 := BitVec.ofInt 64 x
/-- the number that sixty-four bits are -/
def I (b : BitVec 64) : Int := b.toInt

theorem B_I (b : BitVec 64) : B (I b) = b := by unfold B I; exact BitVec.ofInt_toInt
theorem wf_bd {x : Int} (h : (Lit.int .i64 x).wf = true) : -9223372036854775808 ≤ x ∧ x ≤ 9223372036854775807 := by
  simpa [Lit.wf, IntKind.min, IntKind.max, IntKind.signed, IntKind.bits] using h
theorem I_bd (b : BitVec 64) : -9223372036854775808 ≤ I b ∧ I b ≤ 9223372036854775807 := by
  unfold I
  have h1 := BitVec.le_toInt b
  have h2 := BitVec.toInt_lt (x := b)
  simp at h1 h2
  omega
theorem wrap64_I (n : Int) : wrap64 n = I (B n) := by
  unfold wrap64 I B
  rw [BitVec.toInt_ofInt, Int.bmod_def]
  simp only [Nat.reducePow]
  omega
theorem I_B {x : Int} (h : (Lit.int .i64 x).wf = true) : I (B x) = x := by
  have := wf_bd h
  rw [← wrap64_I]; unfold wrap64; omega
theorem I_inj {a b : BitVec 64} (h : I a = I b) : a = b := by rw [← B_I a, h, B_I]
theorem I_wf (b : BitVec 64) : (Lit.int .i64 (I b)).wf = true := WalkArith.wf_i64 (I_bd b)
theorem wrap_toNat (b : BitVec 64) : IntKind.i64.wrap (b.toNat : Int) = I b := by
  rw [IntKind.wrap_i64]; unfold I
  rw [BitVec.toInt_eq_toNat_bmod, Int.bmod_def]
  have := b.isLt
  simp only [Nat.reducePow] at *
  omega
theorem bits_and (x y : BitVec 64) : bits .and .i64 (I x) (I y) = I (x &&& y) := by
  show IntKind.i64.wrap ((B (I x) &&& B (I y)).toNat : Int) = _
  rw [wrap_toNat, B_I, B_I]
theorem bits_or (x y : BitVec 64) : bits .or .i64 (I x) (I y) = I (x ||| y) := by
  show IntKind.i64.wrap ((B (I x) ||| B (I y)).toNat : Int) = _
  rw [wrap_toNat, B_I, B_I]
theorem bits_xor (x y : BitVec 64) : bits .xor .i64 (I x) (I y) = I (x ^^^ y) := by
  show IntKind.i64.wrap ((B (I x) ^^^ B (I y)).toNat : Int) = _
  rw [wrap_toNat, B_I, B_I]
theorem bits_andNot (x y : BitVec 64) : bits .andNot .i64 (I x) (I y) = I (x &&& ~~~y) := by
  show IntKind.i64.wrap ((B (I x) &&& ~~~B (I y)).toNat : Int) = _
  rw [wrap_toNat, B_I, B_I]
theorem B_mul_pow (x : BitVec 64) (k : Nat) : B (I x * 2 ^ k) = x <<< k := by
  have h : B (I x * 2 ^ k) = B (I x) * BitVec.ofNat 64 (2 ^ k) := by
    unfold B; rw [BitVec.ofInt_mul]
    congr 1
  rw [h, B_I, BitVec.shiftLeft_eq_mul_twoPow]
  congr 1
  exact BitVec.eq_of_toNat_eq (by simp)
theorem shl (x : BitVec 64) (k : Nat) : wrap64 (I x * 2 ^ k) = I (x <<< k) := by rw [wrap64_I, B_mul_pow]
theorem shr (x : BitVec 64) (k : Nat) : I x / 2 ^ k = I (x.sshiftRight k) := by
  unfold I; rw [BitVec.toInt_sshiftRight, Int.shiftRight_eq_div_pow]; push_cast; rfl
theorem add (x y : BitVec 64) : wrap64 (I x + I y) = I (x + y) := by
  rw [wrap64_I]; congr 1; unfold B; rw [BitVec.ofInt_add]; exact congr (congrArg _ (B_I x)) (B_I y)
theorem sub (x y : BitVec 64) : wrap64 (I x - I y) = I (x - y) := by
  rw [wrap64_I]; congr 1
  have : B (I x - I y) = B (I x) - B (I y) := by unfold B; rw [Int.sub_eq_add_neg, BitVec.ofInt_add, BitVec.ofInt_neg, BitVec.sub_eq_add_neg]
  rw [this, B_I, B_I]
theorem I_one : I 1#64 = 1 := by decide
theorem I_zero : I 0#64 = 0 := by decide
theorem I_7 : I 7#64 = 7 := by decide
theorem I_255 : I 255#64 = 255 := by decide
theorem wrap64_in (n : Int) (h : -9223372036854775808 ≤ n ∧ n ≤ 9223372036854775807) : wrap64 n = n := by unfold wrap64; omega
theorem pow_I (k : Nat) : wrap64 (2 ^ k) = I (1#64 <<< k) := by
  have key := shl 1#64 k
  rw [I_one, Int.one_mul] at key; exact key
/-- the low bytes -/
def lowB (k : Nat) : BitVec 64 := (1#64 <<< (8 * k)) - 1#64
theorem low_eq (k : Nat) : wrap64 (wrap64 (2 ^ (8 * k)) - 1) = I (lowB k) := by
  have key : wrap64 (wrap64 (I 1#64 * 2 ^ (8 * k)) - I 1#64) = I (lowB k) := by rw [shl, sub]; rfl
  rw [I_one, Int.one_mul] at key; exact key
/-- one byte -/
def byteB (v : BitVec 64) (k : Nat) : BitVec 64 := v.sshiftRight (8 * k) &&& 255#64
/-- the mask of an access -/
def maskB (o k : Nat) : BitVec 64 := ((1#64 <<< k) - 1#64) <<< o
theorem mask_eq (o k : Nat) : wrap64 (wrap64 (wrap64 (2 ^ k) - 1) * 2 ^ o) = I (maskB o k) := by
  have key : wrap64 (wrap64 (wrap64 (I 1#64 * 2 ^ k) - I 1#64) * 2 ^ o) = I (maskB o k) := by rw [shl, sub, shl]; rfl
  rw [I_one, Int.one_mul] at key; exact key
theorem mask_step : ∀ o, o < 8 → ∀ j, j < 8 → maskB o j ||| (1#64 <<< (o + j)) = maskB o (j + 1) := by decide

/-- where an access lies -/
def placeB (p : BitVec 64) (n : Int) : Int := I (p &&& 7#64) - I (p &&& 7#64) % n
theorem and7 (p : BitVec 64) : 0 ≤ I (p &&& 7#64) ∧ I (p &&& 7#64) ≤ 7 := by
  have h : (p &&& 7#64).toNat ≤ 7 := by rw [BitVec.toNat_and]; exact Nat.and_le_right
  unfold I; rw [BitVec.toInt_eq_toNat_of_lt (by omega)]; omega
theorem place_eq : ∀ p, p < 8 → ∀ n, n = 1 ∨ n = 2 ∨ n = 4 ∨ n = 8 → I (BitVec.ofNat 64 p &&& ~~~ (BitVec.ofNat 64 (n - 1))) = (p : Int) - (p : Int) % (n : Int) := by
  intro p hp n hn
  have : p = 0 ∨ p = 1 ∨ p = 2 ∨ p = 3 ∨ p = 4 ∨ p = 5 ∨ p = 6 ∨ p = 7 := by omega
  rcases hn with rfl | rfl | rfl | rfl <;> rcases this with rfl | rfl | rfl | rfl | rfl | rfl | rfl | rfl <;> decide
theorem of_I (q : BitVec 64) (h0 : 0 ≤ I q) : BitVec.ofNat 64 (I q).toNat = q := by
  have h : B ((I q).toNat : Int) = q := by rw [Int.toNat_of_nonneg h0, B_I]
  unfold B at h; rw [BitVec.ofInt_natCast] at h; exact h
theorem I_nat (n : Nat) (h : n < 9223372036854775808) : I (BitVec.ofNat 64 n) = (n : Int) := by
  unfold I; rw [BitVec.toInt_eq_toNat_of_lt (by rw [BitVec.toNat_ofNat]; omega), BitVec.toNat_ofNat]; omega
theorem place_and (p : BitVec 64) (n : Int) (hn : n = 1 ∨ n = 2 ∨ n = 4 ∨ n = 8) : bits .andNot .i64 (bits .and .i64 (I p) 7) (n - 1) = placeB p n := by
  obtain ⟨h0, h7⟩ := and7 p
  unfold placeB
  rw [← I_7, bits_and]
  generalize p &&& 7#64 = q at *
  have e := place_eq (I q).toNat (by omega) n.toNat (by omega)
  have hn' : n - 1 = I (BitVec.ofNat 64 (n.toNat - 1)) := by rw [I_nat _ (by omega)]; omega
  rw [hn', bits_andNot]
  rw [of_I q h0, Int.toNat_of_nonneg h0, Int.toNat_of_nonneg (by omega)] at e
  exact e
theorem place_ref (p : BitVec 64) (n : Int) (hn : 1 ≤ n) : wrap64 (bits .and .i64 (I p) 7 - (bits .and .i64 (I p) 7).tmod n) = placeB p n := by
  obtain ⟨h0, h7⟩ := and7 p
  unfold placeB
  rw [← I_7, bits_and, Int.tmod_eq_emod_of_nonneg h0]
  have h1 := Int.emod_nonneg (I (p &&& 7#64)) (b := n) (by omega)
  have h2 : I (p &&& 7#64) % n ≤ I (p &&& 7#64) := by
    have := Int.emod_add_mul_ediv (I (p &&& 7#64)) n
    have h3 := Int.mul_nonneg (show 0 ≤ n by omega) (Int.ediv_nonneg h0 (show 0 ≤ n by omega))
    omega
  exact wrap64_in _ (by omega)

/-- how many of the lowest bits are set -/
def countB (m : BitVec 64) : Nat → Nat
  | 0 => 0
  | k + 1 => countB m k + (m.getLsbD k).toNat
theorem count_le (m : BitVec 64) (k : Nat) : countB m k ≤ k := by
  induction k with
  | zero => exact Nat.le_refl _
  | succ k ih => unfold countB; have := (m.getLsbD k).toNat_le; omega
theorem bit_eq (m : BitVec 64) (k : Nat) (hk : k < 64) : bits .and .i64 (I m / 2 ^ k) 1 = ((m.getLsbD k).toNat : Int) := by
  rw [shr, ← I_one, bits_and]
  have h : m.sshiftRight k &&& 1#64 = BitVec.ofNat 64 (m.getLsbD k).toNat := by
    ext i hi
    rw [BitVec.getElem_and, BitVec.getElem_sshiftRight]
    cases i with
    | zero =>
      have e : m.getLsbD k = m[k] := by simp [hk]
      rw [e]; simp [hk]; cases m[k] <;> simp
    | succ i =>
      cases m.getLsbD k
      · simp
      · simp
  rw [h]
  cases m.getLsbD k <;> decide
theorem count_step (m : BitVec 64) (k : Nat) (hk : k < 8) : wrap64 ((countB m k : Int) + bits .and .i64 (I m / 2 ^ k) 1) = (countB m (k + 1) : Int) := by
  rw [bit_eq m k (by omega)]
  have h1 := count_le m k
  have h2 := (m.getLsbD k).toNat_le
  rw [wrap64_in _ (by omega)]; unfold countB; cases k <;> (push_cast; rfl)
end Go.Proofs.Ytlhompedcphnnaa
/- What the small functions of chapter 1 return, each for every input: isSize, size, fits, low, choose, Byte, Mask, Place, Count. -/
namespace Go.Proofs.Ytlhompedcphnnaa
open Go.RowKit

theorem ret_int {k : IntKind} {a b : Int} (h : a = b) : Ending.returned (.int k a) = .returned (.int k b) := by rw [h]
theorem ret_bool {a b : Bool} (h : a = b) : Ending.returned (.bool a) = .returned (.bool b) := by rw [h]

def sizeB (n : Int) : Bool := decide (n = 1 ∨ n = 2 ∨ n = 4 ∨ n = 8)
def fitsB (off n : Int) : Bool := decide ((n = 1 ∨ n = 2 ∨ n = 4 ∨ n = 8) ∧ 0 ≤ off ∧ off ≤ 8 - n ∧ off % n = 0)

theorem isSize_any (n : Int) (w : World) : Calls Try.prog 65 #[.int .i64 n] w fun e w' => e = .returned (.bool (sizeB n)) ∧ w' = w := by
  by_cases h1 : n = 1
  · subst h1; go_enter Try.func65, Try.ntmps65; go_wp2; go_ret; exact ⟨rfl, rfl⟩
  by_cases h2 : n = 2
  · subst h2; go_enter Try.func65, Try.ntmps65; go_wp2; go_ret; exact ⟨rfl, rfl⟩
  by_cases h4 : n = 4
  · subst h4; go_enter Try.func65, Try.ntmps65; go_wp2; go_ret; exact ⟨rfl, rfl⟩
  by_cases h8 : n = 8
  · subst h8; go_enter Try.func65, Try.ntmps65; go_wp2; go_ret; exact ⟨rfl, rfl⟩
  have hb : sizeB n = false := by unfold sizeB; simp [h1, h2, h4, h8]
  have e1 : (n == 1) = false := by simpa using h1
  have e2 : (n == 2) = false := by simpa using h2
  have e4 : (n == 4) = false := by simpa using h4
  have e8 : (n == 8) = false := by simpa using h8
  rw [hb]; clear hb h1 h2 h4 h8
  go_enter Try.func65, Try.ntmps65
  go_wp2
  go_ret
  exact ⟨rfl, rfl⟩

theorem size_any (n : Int) (w : World) : Calls Try.prog 64 #[.int .i64 n] w fun e w' => e = .returned (.bool (sizeB n)) ∧ w' = w := by
  by_cases h1 : n = 1
  · subst h1; go_enter Try.func64, Try.ntmps64; go_wp2; go_ret; exact ⟨rfl, rfl⟩
  by_cases h2 : n = 2
  · subst h2; go_enter Try.func64, Try.ntmps64; go_wp2; go_ret; exact ⟨rfl, rfl⟩
  by_cases h4 : n = 4
  · subst h4; go_enter Try.func64, Try.ntmps64; go_wp2; go_ret; exact ⟨rfl, rfl⟩
  by_cases h8 : n = 8
  · subst h8; go_enter Try.func64, Try.ntmps64; go_wp2; go_ret; exact ⟨rfl, rfl⟩
  have hb : sizeB n = false := by unfold sizeB; simp [h1, h2, h4, h8]
  have e1 : (n == 1) = false := by simpa using h1
  have e2 : (n == 2) = false := by simpa using h2
  have e4 : (n == 4) = false := by simpa using h4
  have e8 : (n == 8) = false := by simpa using h8
  rw [hb]; clear hb h1 h2 h4 h8
  go_enter Try.func64, Try.ntmps64
  go_wp2
  go_ret
  exact ⟨rfl, rfl⟩

theorem fits_any (off n : Int) (w : World) : Calls Try.prog 63 #[.int .i64 off, .int .i64 n] w fun e w' => e = .returned (.bool (fitsB off n)) ∧ w' = w := by
  by_cases hs : n = 1 ∨ n = 2 ∨ n = 4 ∨ n = 8
  · have hz : sizeB n = true := by unfold sizeB; simp [hs]
    have hn1 : 1 ≤ n := by omega
    have hn8 : n ≤ 8 := by omega
    by_cases h0 : 0 ≤ off
    · by_cases hl : off ≤ 8 - n
      · by_cases hm : off % n = 0
        · have hb : fitsB off n = true := by unfold fitsB; simp [hs, h0, hl, hm]
          rw [hb]; clear hb
          have e : (off % n == 0) = true := by simpa using hm
          clear hs hm
          go_enter Try.func63, Try.ntmps63
          go_wp2_with (go_at_call 65; refine (isSize_any _ _).mono ?_; rintro e w' ⟨rfl, rfl⟩)
          go_ret
          exact ⟨rfl, rfl⟩
        · have hb : fitsB off n = false := by unfold fitsB; simp [hm]
          rw [hb]; clear hb
          have e : (off % n == 0) = false := by simpa using hm
          clear hs hm
          go_enter Try.func63, Try.ntmps63
          go_wp2_with (go_at_call 65; refine (isSize_any _ _).mono ?_; rintro e w' ⟨rfl, rfl⟩)
          go_ret
          exact ⟨rfl, rfl⟩
      · have hb : fitsB off n = false := by unfold fitsB; simp [hl]
        rw [hb]; clear hb hs
        have hl' : 8 - n < off := by omega
        clear hl
        go_enter Try.func63, Try.ntmps63
        go_wp2_with (go_at_call 65; refine (isSize_any _ _).mono ?_; rintro e w' ⟨rfl, rfl⟩)
        go_ret
        exact ⟨rfl, rfl⟩
    · have hb : fitsB off n = false := by unfold fitsB; simp [h0]
      rw [hb]; clear hb hs
      have h0' : off < 0 := by omega
      clear h0
      go_enter Try.func63, Try.ntmps63
      go_wp2_with (go_at_call 65; refine (isSize_any _ _).mono ?_; rintro e w' ⟨rfl, rfl⟩)
      go_ret
      exact ⟨rfl, rfl⟩
  · have hz : sizeB n = false := by unfold sizeB; simp only [hs]; rfl
    have hb : fitsB off n = false := by unfold fitsB; simp [hs]
    rw [hb]; clear hb hs
    go_enter Try.func63, Try.ntmps63
    go_wp2_with (go_at_call 65; refine (isSize_any _ _).mono ?_; rintro e w' ⟨rfl, rfl⟩)
    go_ret
    exact ⟨rfl, rfl⟩

/-- an offset and a size that fit, as natural numbers -/
theorem fits_yes {off n : Int} (h : fitsB off n = true) : ∃ o k : Nat, off = o ∧ n = k ∧ (k = 1 ∨ k = 2 ∨ k = 4 ∨ k = 8) ∧ o + k ≤ 8 ∧ o % k = 0 := by
  unfold fitsB at h
  have h := of_decide_eq_true h
  obtain ⟨hs, h0, hl, hm⟩ := h
  refine ⟨off.toNat, n.toNat, by omega, by omega, by omega, by omega, ?_⟩
  rcases hs with rfl | rfl | rfl | rfl
  · simp; omega
  · simp; omega
  · simp; omega
  · simp; omega

theorem low_any (k : Nat) (w : World) (hk : k ≤ 8) : Calls Try.prog 66 #[.int .i64 k] w fun e w' => e = .returned (.int .i64 (I (lowB k))) ∧ w' = w := by
  go_enter Try.func66, Try.ntmps66
  go_wp2
  go_ret
  exact ⟨ret_int (low_eq k), rfl⟩

theorem byte_any (v : BitVec 64) (k : Nat) (w : World) (hk : k < 8) : Calls Try.prog 62 #[.int .i64 (I v), .int .i64 k] w fun e w' => e = .returned (.int .i64 (I (byteB v k))) ∧ w' = w := by
  go_enter Try.func62, Try.ntmps62
  go_wp2
  go_ret
  exact ⟨ret_int (by rw [shr, ← I_255, bits_and]; rfl), rfl⟩

theorem mask_no (off n : Int) (w : World) (h : fitsB off n = false) : Calls Try.prog 55 #[.int .i64 off, .int .i64 n] w fun e w' => e = .returned (.int .i64 0) ∧ w' = w := by
  go_enter Try.func55, Try.ntmps55
  go_wp2_with (go_at_call 63; refine (fits_any _ _ _).mono ?_; rintro e w' ⟨rfl, rfl⟩)
  go_ret
  exact ⟨rfl, rfl⟩
theorem mask_yes (o k : Nat) (w : World) (hk : o + k ≤ 8) (h : fitsB o k = true) : Calls Try.prog 55 #[.int .i64 o, .int .i64 k] w fun e w' => e = .returned (.int .i64 (I (maskB o k))) ∧ w' = w := by
  go_enter Try.func55, Try.ntmps55
  go_wp2_with (go_at_call 63; refine (fits_any _ _ _).mono ?_; rintro e w' ⟨rfl, rfl⟩)
  go_ret
  exact ⟨ret_int (mask_eq o k), rfl⟩
theorem fits_sizeB {off n : Int} (h : fitsB off n = true) : sizeB n = true := by
  unfold fitsB at h; unfold sizeB; simp at h ⊢; exact h.1
theorem rmask_no (off n : Int) (w : World) (h : fitsB off n = false) : Calls Try.prog 56 #[.int .i64 off, .int .i64 n] w fun e w' => e = .returned (.int .i64 0) ∧ w' = w := by
  by_cases hs : n = 1 ∨ n = 2 ∨ n = 4 ∨ n = 8
  · have hz : sizeB n = true := by unfold sizeB; simp [hs]
    have hn1 : 1 ≤ n := by omega
    have hn8 : n ≤ 8 := by omega
    by_cases h0 : off < 0
    · clear h hs
      go_enter Try.func56, Try.ntmps56
      go_wp2_with (go_at_call 64; refine (size_any _ _).mono ?_; rintro e w' ⟨rfl, rfl⟩)
      go_ret
      exact ⟨rfl, rfl⟩
    have h0' : 0 ≤ off := by omega
    by_cases hl : 8 - n < off
    · clear h hs h0
      go_enter Try.func56, Try.ntmps56
      go_wp2_with (go_at_call 64; refine (size_any _ _).mono ?_; rintro e w' ⟨rfl, rfl⟩)
      go_ret
      exact ⟨rfl, rfl⟩
    have hl' : off ≤ 8 - n := by omega
    have hm : (off % n != 0) = true := by
      unfold fitsB at h; simp [hs, h0', hl'] at h; simpa using h
    clear h hs h0 hl
    go_enter Try.func56, Try.ntmps56
    go_wp2_with (go_at_call 64; refine (size_any _ _).mono ?_; rintro e w' ⟨rfl, rfl⟩)
    go_ret
    exact ⟨rfl, rfl⟩
  · have hz : sizeB n = false := by unfold sizeB; simp only [hs]; rfl
    clear h hs
    go_enter Try.func56, Try.ntmps56
    go_wp2_with (go_at_call 64; refine (size_any _ _).mono ?_; rintro e w' ⟨rfl, rfl⟩)
    go_ret
    exact ⟨rfl, rfl⟩
theorem rmask_yes (o k : Nat) (w : World) (hk : o + k ≤ 8) (h : fitsB o k = true) : Calls Try.prog 56 #[.int .i64 o, .int .i64 k] w fun e w' => e = .returned (.int .i64 (I (maskB o k))) ∧ w' = w := by
  have hz := fits_sizeB h
  have hm : (((o : Int) % (k : Int)) != 0) = false := by
    unfold fitsB at h; have h := of_decide_eq_true h; simp [h.2.2.2]
  have hk1 : 1 ≤ k := by
    unfold fitsB at h; have h := of_decide_eq_true h; omega
  clear h
  go_enter Try.func56, Try.ntmps56
  go_wp2_with (go_at_call 64; refine (size_any _ _).mono ?_; rintro e w' ⟨rfl, rfl⟩)
  go_loop [5, 6] (fun m i => ∃ j : Nat, j ≤ k ∧ i = .int .i64 ((o + j : Nat) : Int) ∧ m = .int .i64 (I (maskB o j))) (fun _ i => o + k - (intOf i).toNat)
  case atStart => exact ⟨0, Nat.zero_le _, rfl, by rw [show maskB o 0 = 0#64 by simp [maskB], I_zero]⟩
  case round =>
    obtain ⟨j, hj, rfl, rfl⟩ := hrel
    by_cases hlt : j < k
    · have HS : Hid (maskB o j ||| (1#64 <<< (o + j)) = maskB o (j + 1)) := mask_step o (by omega) j (by omega)
      go_wp2
      go_round
      case rel => exact ⟨j + 1, by omega, by go_num, by rw [pow_I, bits_or, HS.out]⟩
      case measure => simp [intOf]; omega
    · obtain rfl : j = k := by omega
      go_wp2
      go_ret
      exact ⟨rfl, rfl⟩

theorem place_no (off i n : Int) (w : World) (h : sizeB n = false) : Calls Try.prog 57 #[.int .i64 off, .int .i64 i, .int .i64 n] w fun e w' => e = .returned (.int .i64 (-1)) ∧ w' = w := by
  go_enter Try.func57, Try.ntmps57
  go_wp2_with (go_at_call 65; refine (isSize_any _ _).mono ?_; rintro e w' ⟨rfl, rfl⟩)
  go_ret
  exact ⟨rfl, rfl⟩
theorem rplace_no (off i n : Int) (w : World) (h : sizeB n = false) : Calls Try.prog 68 #[.int .i64 off, .int .i64 i, .int .i64 n] w fun e w' => e = .returned (.int .i64 (-1)) ∧ w' = w := by
  go_enter Try.func68, Try.ntmps68
  go_wp2_with (go_at_call 64; refine (size_any _ _).mono ?_; rintro e w' ⟨rfl, rfl⟩)
  go_ret
  exact ⟨rfl, rfl⟩
theorem place_yes (off i : BitVec 64) (n : Int) (w : World) (h : sizeB n = true) : Calls Try.prog 57 #[.int .i64 (I off), .int .i64 (I i), .int .i64 n] w fun e w' => e = .returned (.int .i64 (placeB (off + i) n)) ∧ w' = w := by
  have hn : n = 1 ∨ n = 2 ∨ n = 4 ∨ n = 8 := by unfold sizeB at h; exact of_decide_eq_true h
  have HN : Hid (n = 1 ∨ n = 2 ∨ n = 4 ∨ n = 8) := hn
  have h1 : 1 ≤ n := by omega
  have h8 : n ≤ 8 := by omega
  clear hn
  go_enter Try.func57, Try.ntmps57
  go_wp2_with (go_at_call 65; refine (isSize_any _ _).mono ?_; rintro e w' ⟨rfl, rfl⟩)
  go_ret
  exact ⟨ret_int (by rw [add]; exact place_and _ _ HN.out), rfl⟩
theorem rplace_yes (off i : BitVec 64) (n : Int) (w : World) (h : sizeB n = true) : Calls Try.prog 68 #[.int .i64 (I off), .int .i64 (I i), .int .i64 n] w fun e w' => e = .returned (.int .i64 (placeB (off + i) n)) ∧ w' = w := by
  have hn : n = 1 ∨ n = 2 ∨ n = 4 ∨ n = 8 := by unfold sizeB at h; exact of_decide_eq_true h
  have h1 : 1 ≤ n := by omega
  have h8 : n ≤ 8 := by omega
  clear hn
  go_enter Try.func68, Try.ntmps68
  go_wp2_with (go_at_call 64; refine (size_any _ _).mono ?_; rintro e w' ⟨rfl, rfl⟩)
  go_ret
  exact ⟨ret_int (by rw [add]; exact place_ref _ _ h1), rfl⟩

end Go.Proofs.Ytlhompedcphnnaa
/- Plain facts on bytes of sixty-four bits: taken out, laid in, blended; no program is named here. -/
namespace Go.Proofs.Ytlhompedcphnnaa
open Go.RowKit

theorem low_bits : ∀ k, k ≤ 8 → ∀ i, i < 64 → (lowB k).getLsbD i = decide (i < 8 * k) := by
  intro k hk
  have : k = 0 ∨ k = 1 ∨ k = 2 ∨ k = 3 ∨ k = 4 ∨ k = 5 ∨ k = 6 ∨ k = 7 ∨ k = 8 := by omega
  rcases this with rfl | rfl | rfl | rfl | rfl | rfl | rfl | rfl | rfl <;> decide
theorem ext64 {a b : BitVec 64} (h : ∀ i, i < 64 → a.getLsbD i = b.getLsbD i) : a = b := by
  apply BitVec.eq_of_getLsbD_eq; intro i hi; exact h i hi
theorem byte255 : ∀ i, i < 64 → (255#64).getLsbD i = decide (i < 8) := by decide
theorem byte_bits (v : BitVec 64) (k i : Nat) (hk : k < 8) (hi : i < 64) : (byteB v k).getLsbD i = (decide (i < 8) && v.getLsbD (8 * k + i)) := by
  unfold byteB
  rw [BitVec.getLsbD_and, byte255 i hi, BitVec.getLsbD_sshiftRight]
  by_cases h : i < 8
  · have h1 : 8 * k + i < 64 := by omega
    simp [h, h1, hi]
  · simp [h]
/-- the bytes at an offset -/
def getB (v : BitVec 64) (o k : Nat) : BitVec 64 := (v >>> (8 * o)) &&& lowB k
theorem get_bits (v : BitVec 64) (o k i : Nat) (hk : k ≤ 8) (hi : i < 64) : (getB v o k).getLsbD i = (decide (i < 8 * k) && v.getLsbD (8 * o + i)) := by
  unfold getB
  rw [BitVec.getLsbD_and, low_bits k hk i hi, BitVec.getLsbD_ushiftRight, Bool.and_comm]
theorem get_eq (v : BitVec 64) (o k : Nat) (h : o + k ≤ 8) : v.sshiftRight (8 * o) &&& lowB k = getB v o k := by
  apply ext64; intro i hi
  rw [get_bits v o k i (by omega) hi, BitVec.getLsbD_and, low_bits k (by omega) i hi, BitVec.getLsbD_sshiftRight]
  by_cases h' : i < 8 * k
  · have h1 : 8 * o + i < 64 := by omega
    simp [h', h1, hi]
  · simp [h']
theorem get_zero (v : BitVec 64) (o : Nat) : getB v o 0 = 0#64 := by
  apply ext64; intro i hi; rw [get_bits v o 0 i (by omega) hi]; simp
theorem get_step (v : BitVec 64) (o k : Nat) (h : o + k < 8) : getB v o k ||| (byteB v (o + k) <<< (8 * k)) = getB v o (k + 1) := by
  apply ext64; intro i hi
  rw [BitVec.getLsbD_or, get_bits v o k i (by omega) hi, get_bits v o (k + 1) i (by omega) hi, BitVec.getLsbD_shiftLeft]
  by_cases h1 : i < 8 * k
  · have h2 : i < 8 * (k + 1) := by omega
    simp [h1, h2]
  · rw [byte_bits v (o + k) (i - 8 * k) h (by omega)]
    have e : 8 * (o + k) + (i - 8 * k) = 8 * o + i := by omega
    by_cases h2 : i < 8 * (k + 1)
    · have h3 : i - 8 * k < 8 := by omega
      simp [h1, h2, h3, hi, e]
    · have h3 : ¬ (i - 8 * k < 8) := by omega
      simp [h1, h2, h3]
/-- all eight bits of each byte that the mask has, of the first k bytes -/
def spreadB (m : BitVec 64) : Nat → BitVec 64
  | 0 => 0#64
  | k + 1 => spreadB m k ||| (if m.getLsbD k = true then 255#64 <<< (8 * k) else 0#64)
theorem spread_bits (m : BitVec 64) (k i : Nat) (hi : i < 64) : (spreadB m k).getLsbD i = (decide (i < 8 * k) && m.getLsbD (i / 8)) := by
  induction k with
  | zero => simp [spreadB]
  | succ k ih =>
    unfold spreadB
    rw [BitVec.getLsbD_or, ih]
    by_cases h1 : i < 8 * k
    · have h2 : i < 8 * (k + 1) := by omega
      by_cases hm : m.getLsbD k = true
      · simp [h1, h2, hm]
      · simp [h1, h2, hm]
    · by_cases h2 : i < 8 * (k + 1)
      · have e : i / 8 = k := by omega
        rw [e]
        by_cases hm : m.getLsbD k = true
        · rw [if_pos hm, BitVec.getLsbD_shiftLeft, byte255 _ (by omega)]
          have h3 : i - 8 * k < 8 := by omega
          simp [h1, h2, h3, hm, hi]
        · simp [h1, h2, hm]
      · by_cases hm : m.getLsbD k = true
        · rw [if_pos hm, BitVec.getLsbD_shiftLeft, byte255 _ (by omega)]
          have h3 : ¬ i - 8 * k < 8 := by omega
          simp [h1, h2, h3]
        · simp [h1, h2, hm]
/-- the bits that 'p' has of 'x', the others of 'v' -/
def chooseB (v x p : BitVec 64) : BitVec 64 := (v &&& ~~~p) ||| (x &&& p)
theorem choose_bits (v x p : BitVec 64) (i : Nat) (hi : i < 64) : (chooseB v x p).getLsbD i = if p.getLsbD i = true then x.getLsbD i else v.getLsbD i := by
  unfold chooseB
  rw [BitVec.getLsbD_or, BitVec.getLsbD_and, BitVec.getLsbD_and, BitVec.getLsbD_not]
  rw [decide_eq_true hi]
  cases p.getLsbD i <;> cases v.getLsbD i <;> cases x.getLsbD i <;> rfl
/-- a value blended by a mask -/
def blendB (v x m : BitVec 64) : BitVec 64 := chooseB v x (spreadB m 8)
theorem blend_bits (v x m : BitVec 64) (i : Nat) (hi : i < 64) : (blendB v x m).getLsbD i = if m.getLsbD (i / 8) = true then x.getLsbD i else v.getLsbD i := by
  unfold blendB
  rw [choose_bits _ _ _ _ hi, spread_bits m 8 i hi]
  have : i < 8 * 8 := by omega
  simp [this]
/-- the first k bytes of a blend -/
def blendTo (v x m : BitVec 64) (k : Nat) : BitVec 64 := blendB v x m &&& lowB k
theorem blendTo_bits (v x m : BitVec 64) (k i : Nat) (hk : k ≤ 8) (hi : i < 64) : (blendTo v x m k).getLsbD i = (decide (i < 8 * k) && if m.getLsbD (i / 8) = true then x.getLsbD i else v.getLsbD i) := by
  unfold blendTo
  rw [BitVec.getLsbD_and, low_bits k hk i hi, blend_bits _ _ _ _ hi, Bool.and_comm]
theorem blendTo_zero (v x m : BitVec 64) : blendTo v x m 0 = 0#64 := by
  apply ext64; intro i hi; rw [blendTo_bits _ _ _ 0 i (by omega) hi]; simp
theorem blendTo_all (v x m : BitVec 64) : blendTo v x m 8 = blendB v x m := by
  apply ext64; intro i hi; rw [blendTo_bits _ _ _ 8 i (by omega) hi, blend_bits _ _ _ _ hi]; have : i < 8 * 8 := by omega
  simp [this]
theorem blendTo_step (v x m : BitVec 64) (k : Nat) (h : k < 8) : blendTo v x m k ||| ((if m.getLsbD k = true then byteB x k else byteB v k) <<< (8 * k)) = blendTo v x m (k + 1) := by
  apply ext64; intro i hi
  rw [BitVec.getLsbD_or, blendTo_bits _ _ _ k i (by omega) hi, blendTo_bits _ _ _ (k + 1) i (by omega) hi, BitVec.getLsbD_shiftLeft]
  by_cases h1 : i < 8 * k
  · have h2 : i < 8 * (k + 1) := by omega
    simp [h1, h2]
  · have e : 8 * k + (i - 8 * k) = i := by omega
    by_cases h2 : i < 8 * (k + 1)
    · have h3 : i - 8 * k < 8 := by omega
      have h4 : i / 8 = k := by omega
      by_cases hm : m.getLsbD k = true
      · rw [if_pos hm, byte_bits _ _ _ h (by omega), h4, if_pos hm, e]; simp [h1, h2, h3, hi]
      · rw [if_neg hm, byte_bits _ _ _ h (by omega), h4, if_neg hm, e]; simp [h1, h2, h3, hi]
    · have h3 : ¬ (i - 8 * k < 8) := by omega
      by_cases hm : m.getLsbD k = true
      · rw [if_pos hm, byte_bits _ _ _ h (by omega)]; simp [h1, h2, h3]
      · rw [if_neg hm, byte_bits _ _ _ h (by omega)]; simp [h1, h2, h3]
theorem mask_bits : ∀ o, o < 9 → ∀ k, k < 9 → ∀ i, i < 8 → o + k ≤ 8 → (maskB o k).getLsbD i = decide (o ≤ i ∧ i < o + k) := by decide
/-- the low bytes of 'x' laid in at the offset -/
def putB (v : BitVec 64) (o k : Nat) (x : BitVec 64) : BitVec 64 := chooseB v (x <<< (8 * o)) (lowB k <<< (8 * o))
theorem put_eq (v : BitVec 64) (o k : Nat) (x : BitVec 64) (h : o + k ≤ 8) : blendB v (x <<< (8 * o)) (maskB o k) = putB v o k x := by
  apply ext64; intro i hi
  unfold putB
  rw [blend_bits _ _ _ _ hi, choose_bits _ _ _ _ hi, mask_bits o (by omega) k (by omega) (i / 8) (by omega) h]
  have e : (lowB k <<< (8 * o)).getLsbD i = decide (o ≤ i / 8 ∧ i / 8 < o + k) := by
    rw [BitVec.getLsbD_shiftLeft]
    by_cases h1 : i < 8 * o
    · have : ¬ (o ≤ i / 8 ∧ i / 8 < o + k) := by omega
      simp [h1, this]
    · rw [low_bits k (by omega) _ (by omega)]
      by_cases h2 : i - 8 * o < 8 * k
      · have : (o ≤ i / 8 ∧ i / 8 < o + k) := by omega
        simp [h1, h2, this, hi]
      · have : ¬ (o ≤ i / 8 ∧ i / 8 < o + k) := by omega
        simp [h1, h2, this]
  rw [e]
theorem put_bits (v : BitVec 64) (o k : Nat) (x : BitVec 64) (i : Nat) (h : o + k ≤ 8) (hi : i < 64) : (putB v o k x).getLsbD i = if 8 * o ≤ i ∧ i < 8 * (o + k) then x.getLsbD (i - 8 * o) else v.getLsbD i := by
  rw [← put_eq v o k x h, blend_bits _ _ _ _ hi, mask_bits o (by omega) k (by omega) (i / 8) (by omega) h, BitVec.getLsbD_shiftLeft]
  by_cases h1 : o ≤ i / 8 ∧ i / 8 < o + k
  · have h2 : 8 * o ≤ i ∧ i < 8 * (o + k) := by omega
    have h3 : ¬ i < 8 * o := by omega
    rw [if_pos h2]; simp [h1, h3, hi]
  · have h2 : ¬ (8 * o ≤ i ∧ i < 8 * (o + k)) := by omega
    rw [if_neg h2]; simp only [decide_eq_true_eq]; rw [if_neg h1]
end Go.Proofs.Ytlhompedcphnnaa
/- What Mask, Place, Get, Put, Alu, Rmw of chapter 1 return, and the reference's, each for every input; and that the statements' own first check passes. -/
namespace Go.Proofs.Ytlhompedcphnnaa
open Go.RowKit

def maskR (off n : Int) : Int := if fitsB off n = true then I (maskB off.toNat n.toNat) else 0
theorem maskR_yes {o k : Nat} (h : fitsB o k = true) : maskR o k = I (maskB o k) := by unfold maskR; rw [if_pos h]; simp
theorem maskR_no {off n : Int} (h : fitsB off n = false) : maskR off n = 0 := by unfold maskR; rw [h]; simp
theorem mask_all (off n : Int) (w : World) : Calls Try.prog 55 #[.int .i64 off, .int .i64 n] w fun e w' => e = .returned (.int .i64 (maskR off n)) ∧ w' = w := by
  cases h : fitsB off n
  · rw [maskR_no h]; exact mask_no off n w h
  · obtain ⟨o, k, rfl, rfl, hk, hok, hm⟩ := fits_yes h
    rw [maskR_yes h]; exact mask_yes o k w hok h
theorem rmask_all (off n : Int) (w : World) : Calls Try.prog 56 #[.int .i64 off, .int .i64 n] w fun e w' => e = .returned (.int .i64 (maskR off n)) ∧ w' = w := by
  cases h : fitsB off n
  · rw [maskR_no h]; exact rmask_no off n w h
  · obtain ⟨o, k, rfl, rfl, hk, hok, hm⟩ := fits_yes h
    rw [maskR_yes h]; exact rmask_yes o k w hok h
theorem mask_ne : ∀ o, o < 9 → ∀ k, k < 9 → 1 ≤ k → o + k ≤ 8 → I (maskB o k) ≠ 0 := by decide
theorem fits_one {o k : Nat} (h : fitsB o k = true) : 1 ≤ k := by
  unfold fitsB at h; have h := of_decide_eq_true h; omega

def placeR (off i : BitVec 64) (n : Int) : Int := if sizeB n = true then placeB (off + i) n else -1
theorem place_all (off i : BitVec 64) (n : Int) (w : World) : Calls Try.prog 57 #[.int .i64 (I off), .int .i64 (I i), .int .i64 n] w fun e w' => e = .returned (.int .i64 (placeR off i n)) ∧ w' = w := by
  cases h : sizeB n
  · have e : placeR off i n = -1 := by unfold placeR; simp [h]
    rw [e]; exact place_no _ _ n w h
  · have e : placeR off i n = placeB (off + i) n := by unfold placeR; simp [h]
    rw [e]; exact place_yes off i n w h
theorem rplace_all (off i : BitVec 64) (n : Int) (w : World) : Calls Try.prog 68 #[.int .i64 (I off), .int .i64 (I i), .int .i64 n] w fun e w' => e = .returned (.int .i64 (placeR off i n)) ∧ w' = w := by
  cases h : sizeB n
  · have e : placeR off i n = -1 := by unfold placeR; simp [h]
    rw [e]; exact rplace_no _ _ n w h
  · have e : placeR off i n = placeB (off + i) n := by unfold placeR; simp [h]
    rw [e]; exact rplace_yes off i n w h

theorem get_no (v off n : Int) (w : World) (h : fitsB off n = false) : Calls Try.prog 58 #[.int .i64 v, .int .i64 off, .int .i64 n] w fun e w' => e = .returned (.int .i64 0) ∧ ∃ q, w' = w.drewN q := by
  go_enter Try.func58, Try.ntmps58
  go_wp2_with (go_at_call 63; refine (fits_any _ _ _).mono ?_; rintro e w' ⟨rfl, rfl⟩)
  go_ret
  exact ⟨rfl, 0, rfl⟩
theorem get_yes (v : BitVec 64) (o k : Nat) (w : World) (hk : o + k ≤ 8) (h : fitsB o k = true) : Calls Try.prog 58 #[.int .i64 (I v), .int .i64 o, .int .i64 k] w fun e w' => e = .returned (.int .i64 (I (getB v o k))) ∧ ∃ q, w' = w.drewN q := by
  go_enter Try.func58, Try.ntmps58
  go_wp2_with (go_at_call 63; refine (fits_any _ _ _).mono ?_; rintro e w' ⟨rfl, rfl⟩)
  go_quiet ((go_at_call 66; exact Calls.quiet_of_same (low_any _ _ (by omega))))
  go_wp2
  go_ret
  exact ⟨ret_int (by rw [shr, bits_and, get_eq v o k hk]), _, rfl⟩
def getR (v : BitVec 64) (off n : Int) : BitVec 64 := if fitsB off n = true then getB v off.toNat n.toNat else 0#64
theorem getR_yes (v : BitVec 64) {o k : Nat} (h : fitsB o k = true) : getR v o k = getB v o k := by unfold getR; rw [if_pos h]; simp
theorem getR_no (v : BitVec 64) {off n : Int} (h : fitsB off n = false) : getR v off n = 0#64 := by unfold getR; rw [h]; simp
theorem get_all (v : BitVec 64) (off n : Int) (w : World) : Calls Try.prog 58 #[.int .i64 (I v), .int .i64 off, .int .i64 n] w fun e w' => e = .returned (.int .i64 (I (getR v off n))) ∧ ∃ q, w' = w.drewN q := by
  cases h : fitsB off n
  · rw [getR_no v h, I_zero]; exact get_no _ off n w h
  · obtain ⟨o, k, rfl, rfl, hk, hok, hm⟩ := fits_yes h
    rw [getR_yes v h]; exact get_yes v o k w hok h
theorem rget_no (v off n : Int) (w : World) (h : fitsB off n = false) : Calls Try.prog 52 #[.int .i64 v, .int .i64 off, .int .i64 n] w fun e w' => e = .returned (.int .i64 0) ∧ w' = w := by
  have hm := maskR_no h
  go_enter Try.func52, Try.ntmps52
  go_wp2_with (go_at_call 56; refine (rmask_all _ _ _).mono ?_; rintro e w' ⟨rfl, rfl⟩)
  go_ret
  exact ⟨rfl, rfl⟩
theorem rget_yes (v : BitVec 64) (o k : Nat) (w : World) (hk : o + k ≤ 8) (h : fitsB o k = true) : Calls Try.prog 52 #[.int .i64 (I v), .int .i64 o, .int .i64 k] w fun e w' => e = .returned (.int .i64 (I (getB v o k))) ∧ w' = w := by
  have hm : (maskR o k == 0) = false := by
    rw [maskR_yes h]; have := mask_ne o (by omega) k (by omega) (fits_one h) hk; simpa using this
  clear h
  go_enter Try.func52, Try.ntmps52
  go_wp2_with (go_at_call 56; refine (rmask_all _ _ _).mono ?_; rintro e w' ⟨rfl, rfl⟩)
  go_loop [7, 8] (fun m i => ∃ j : Nat, j ≤ k ∧ i = .int .i64 (j : Int) ∧ m = .int .i64 (I (getB v o j))) (fun _ i => k - (intOf i).toNat)
  case atStart => exact ⟨0, Nat.zero_le _, rfl, by rw [get_zero, I_zero]⟩
  case round =>
    obtain ⟨j, hj, rfl, rfl⟩ := hrel
    by_cases hlt : j < k
    · go_wp2_with (go_at_call 62; refine (byte_any _ (o + j) _ (by omega)).mono ?_; rintro e w' ⟨rfl, rfl⟩)
      go_round
      case rel => exact ⟨j + 1, by omega, by go_num, by rw [shl, bits_or, get_step v o j (by omega)]⟩
      case measure => simp [intOf]; omega
    · obtain rfl : j = k := by omega
      go_wp2
      go_ret
      exact ⟨rfl, rfl⟩
theorem rget_all (v : BitVec 64) (off n : Int) (w : World) : Calls Try.prog 52 #[.int .i64 (I v), .int .i64 off, .int .i64 n] w fun e w' => e = .returned (.int .i64 (I (getR v off n))) ∧ w' = w := by
  cases h : fitsB off n
  · rw [getR_no v h, I_zero]; exact rget_no _ off n w h
  · obtain ⟨o, k, rfl, rfl, hk, hok, hm⟩ := fits_yes h
    rw [getR_yes v h]; exact rget_yes v o k w hok h

def putR (v : BitVec 64) (off n : Int) (x : BitVec 64) : BitVec 64 := if fitsB off n = true then putB v off.toNat n.toNat x else v
theorem putR_yes (v x : BitVec 64) {o k : Nat} (h : fitsB o k = true) : putR v o k x = putB v o k x := by unfold putR; rw [if_pos h]; simp
theorem putR_no (v x : BitVec 64) {off n : Int} (h : fitsB off n = false) : putR v off n x = v := by unfold putR; rw [h]; simp
end Go.Proofs.Ytlhompedcphnnaa
/- What the reference's Blend and Put, and Alu and Rmw of chapter 1 and of the reference, return, each for every input; and that the statements' own first check passes. -/
namespace Go.Proofs.Ytlhompedcphnnaa
open Go.RowKit

/-- what an OpAlu computes -/
def aluR (fn a b : Int) : Int := if fn = 1 then wrap64 (a + b) else if fn = 2 then wrap64 (a - b) else if fn = 3 then bits .xor .i64 a b else if fn = 4 then bits .and .i64 a b else if fn = 5 then bits .or .i64 a b else 0
theorem alu_any (fn a b : Int) (w : World) : Calls Try.prog 46 #[.int .i64 fn, .int .i64 a, .int .i64 b] w fun e w' => e = .returned (.int .i64 (aluR fn a b)) ∧ w' = w := by
  by_cases h1 : fn = 1
  · subst h1; go_enter Try.func46, Try.ntmps46; go_wp2; go_ret; exact ⟨rfl, rfl⟩
  by_cases h2 : fn = 2
  · subst h2; go_enter Try.func46, Try.ntmps46; go_wp2; go_ret; exact ⟨rfl, rfl⟩
  by_cases h3 : fn = 3
  · subst h3; go_enter Try.func46, Try.ntmps46; go_wp2; go_ret; exact ⟨rfl, rfl⟩
  by_cases h4 : fn = 4
  · subst h4; go_enter Try.func46, Try.ntmps46; go_wp2; go_ret; exact ⟨rfl, rfl⟩
  by_cases h5 : fn = 5
  · subst h5; go_enter Try.func46, Try.ntmps46; go_wp2; go_ret; exact ⟨rfl, rfl⟩
  have e : aluR fn a b = 0 := by unfold aluR; simp [h1, h2, h3, h4, h5]
  have e1 : (fn == 1) = false := by simpa using h1
  have e2 : (fn == 2) = false := by simpa using h2
  have e3 : (fn == 3) = false := by simpa using h3
  have e4 : (fn == 4) = false := by simpa using h4
  have e5 : (fn == 5) = false := by simpa using h5
  rw [e]; clear e h1 h2 h3 h4 h5
  go_enter Try.func46, Try.ntmps46; go_wp2; go_ret; exact ⟨rfl, rfl⟩
theorem ralu_any (fn a b : Int) (w : World) : Calls Try.prog 50 #[.int .i64 fn, .int .i64 a, .int .i64 b] w fun e w' => e = .returned (.int .i64 (aluR fn a b)) ∧ w' = w := by
  by_cases h1 : fn = 1
  · subst h1; go_enter Try.func50, Try.ntmps50; go_wp2; go_ret; exact ⟨rfl, rfl⟩
  by_cases h2 : fn = 2
  · subst h2; go_enter Try.func50, Try.ntmps50; go_wp2; go_ret; exact ⟨rfl, rfl⟩
  by_cases h3 : fn = 3
  · subst h3; go_enter Try.func50, Try.ntmps50; go_wp2; go_ret; exact ⟨rfl, rfl⟩
  by_cases h4 : fn = 4
  · subst h4; go_enter Try.func50, Try.ntmps50; go_wp2; go_ret; exact ⟨rfl, rfl⟩
  by_cases h5 : fn = 5
  · subst h5; go_enter Try.func50, Try.ntmps50; go_wp2; go_ret; exact ⟨rfl, rfl⟩
  have e : aluR fn a b = 0 := by unfold aluR; simp [h1, h2, h3, h4, h5]
  have e1 : (fn == 1) = false := by simpa using h1
  have e2 : (fn == 2) = false := by simpa using h2
  have e3 : (fn == 3) = false := by simpa using h3
  have e4 : (fn == 4) = false := by simpa using h4
  have e5 : (fn == 5) = false := by simpa using h5
  rw [e]; clear e h1 h2 h3 h4 h5
  go_enter Try.func50, Try.ntmps50; go_wp2; go_ret; exact ⟨rfl, rfl⟩

theorem get_int (v : BitVec 64) (a off n : Int) (ha : a = I v) (w : World) : Calls Try.prog 58 #[.int .i64 a, .int .i64 off, .int .i64 n] w fun e w' => e = .returned (.int .i64 (I (getR v off n))) ∧ ∃ q, w' = w.drewN q := by
  rw [ha]; exact get_all v off n w
theorem rget_int (v : BitVec 64) (a off n : Int) (ha : a = I v) (w : World) : Calls Try.prog 52 #[.int .i64 a, .int .i64 off, .int .i64 n] w fun e w' => e = .returned (.int .i64 (I (getR v off n))) ∧ w' = w := by
  rw [ha]; exact rget_all v off n w
/-- what an OpRmw writes -/
def rmwR (fn : Int) (old a : BitVec 64) (n : Int) : BitVec 64 := if fn = 6 then getR a 0 n else if fn = 1 then getR (old + a) 0 n else 0#64
theorem rmw_any (fn : Int) (old a : BitVec 64) (n : Int) (w : World) : Calls Try.prog 67 #[.int .i64 fn, .int .i64 (I old), .int .i64 (I a), .int .i64 n] w fun e w' => e = .returned (.int .i64 (I (rmwR fn old a n))) ∧ ∃ q, w' = w.drewN q := by
  by_cases h6 : fn = 6
  · subst h6
    go_enter Try.func67, Try.ntmps67
    go_wp2_with (go_at_call 58; refine (get_int a _ _ _ rfl _).mono ?_; rintro e w' ⟨rfl, q, rfl⟩)
    go_ret
    exact ⟨rfl, _, rfl⟩
  by_cases h1 : fn = 1
  · subst h1
    go_enter Try.func67, Try.ntmps67
    go_wp2_with (go_at_call 58; refine (get_int (old + a) _ _ _ (add old a) _).mono ?_; rintro e w' ⟨rfl, q, rfl⟩)
    go_ret
    exact ⟨rfl, _, rfl⟩
  have e : I (rmwR fn old a n) = 0 := by unfold rmwR; simp [h1, h6, I_zero]
  have e1 : (fn == 1) = false := by simpa using h1
  have e6 : (fn == 6) = false := by simpa using h6
  rw [e]; clear e h1 h6
  go_enter Try.func67, Try.ntmps67; go_wp2; go_ret; exact ⟨rfl, 0, rfl⟩
theorem rrmw_any (fn : Int) (old a : BitVec 64) (n : Int) (w : World) : Calls Try.prog 54 #[.int .i64 fn, .int .i64 (I old), .int .i64 (I a), .int .i64 n] w fun e w' => e = .returned (.int .i64 (I (rmwR fn old a n))) ∧ w' = w := by
  by_cases h6 : fn = 6
  · subst h6
    go_enter Try.func54, Try.ntmps54
    go_wp2_with (go_at_call 52; refine (rget_int a _ _ _ rfl _).mono ?_; rintro e w' ⟨rfl, rfl⟩)
    go_ret
    exact ⟨rfl, rfl⟩
  by_cases h1 : fn = 1
  · subst h1
    go_enter Try.func54, Try.ntmps54
    go_wp2_with (go_at_call 52; refine (rget_int (old + a) _ _ _ (add old a) _).mono ?_; rintro e w' ⟨rfl, rfl⟩)
    go_ret
    exact ⟨rfl, rfl⟩
  have e : I (rmwR fn old a n) = 0 := by unfold rmwR; simp [h1, h6, I_zero]
  have e1 : (fn == 1) = false := by simpa using h1
  have e6 : (fn == 6) = false := by simpa using h6
  rw [e]; clear e h1 h6
  go_enter Try.func54, Try.ntmps54; go_wp2; go_ret; exact ⟨rfl, rfl⟩

end Go.Proofs.Ytlhompedcphnnaa
/- An instruction as Go lays it: seventeen cells. -/
namespace Go.Proofs.Ytlhompedcphnnaa
open Go.RowKit

structure Ins where
  op : Int
  dst : Int
  a : Int
  b : Int
  imm : Int
  loc : Int
  off : Int
  index : Int
  size : Int
  fn : Int
  acq : Bool
  weak : Bool
  rel : Bool
  pred : Int
  succ : Int
  to : Int
  zero : Bool
  deriving DecidableEq

def insC (i : Ins) : Array Value := #[.int .i64 i.op, .int .i64 i.dst, .int .i64 i.a, .int .i64 i.b, .int .i64 i.imm, .int .i64 i.loc, .int .i64 i.off, .int .i64 i.index, .int .i64 i.size, .int .i64 i.fn,
  .bool i.acq, .bool i.weak, .bool i.rel, .int .i64 i.pred, .int .i64 i.succ, .int .i64 i.to, .bool i.zero]







set_option maxHeartbeats 400000 in
theorem isBranch_any (i : Ins) (w : World) : Calls Try.prog 30 #[.agg (insC i)] w fun e w' => e = .returned (.bool (i.op == 9)) ∧ Grow w w' := by
  unfold insC
  go_enter Try.func30, Try.ntmps30
  go_wp2
  go_outline
  go_ret
  exact ⟨rfl, (Grow.refl _).alloc _⟩
end Go.Proofs.Ytlhompedcphnnaa
/- What the functions of chapter 3 on single instructions come to. -/
namespace Go.Proofs.Ytlhompedcphnnaa
open Go.RowKit

def regB (r : Int) : Bool := decide (r ≥ 0) && decide (r < 8)
def ronB (r : Int) : Bool := r == -1 || regB r
def fenB (k : Int) : Bool := k == 1 || k == 2 || k == 3
def accB (i : Ins) : Bool := decide (i.loc ≥ 0) && decide (i.loc < 3) && ronB i.index && !(maskR i.off i.size == 0)
def immF (i : Ins) (r : Int) : Int := if r == -1 then i.imm else 0
def rdB (i : Ins) : Bool := i.op == 4 || i.op == 6
def wrB (i : Ins) : Bool := i.op == 5 || i.op == 6
def opB (i : Ins) : Bool := rdB i || wrB i
def plainF (i : Ins) : Ins where
  op := i.op
  dst := if i.op == 1 || i.op == 2 || i.op == 3 || i.op == 4 || i.op == 6 then i.dst else -1
  a := if i.op == 2 || i.op == 3 || i.op == 5 || i.op == 6 || i.op == 9 then i.a else -1
  b := if i.op == 3 then i.b else -1
  imm := if i.op == 1 then i.imm else if i.op == 3 then immF i i.b else if i.op == 5 then immF i i.a else 0
  loc := if opB i then i.loc else 0
  off := if opB i then i.off else 0
  index := if opB i then i.index else -1
  size := if opB i then i.size else 0
  fn := if i.op == 3 || i.op == 6 then i.fn else 0
  acq := if i.op == 4 || i.op == 6 then i.acq else false
  weak := if i.op == 4 then i.weak else false
  rel := if i.op == 5 || i.op == 6 then i.rel else false
  pred := if i.op == 7 then i.pred else 0
  succ := if i.op == 7 then i.succ else 0
  to := if i.op == 9 then i.to else 0
  zero := if i.op == 9 then i.zero else false
def soundB (i : Ins) : Bool :=
  if i.op == 1 then regB i.dst else
  if i.op == 2 then regB i.dst && regB i.a else
  if i.op == 3 then regB i.dst && regB i.a && ronB i.b && decide (i.fn ≥ 1) && decide (i.fn ≤ 5) else
  if i.op == 4 then regB i.dst && accB i && !(i.acq && i.weak) else
  if i.op == 5 then ronB i.a && accB i else
  if i.op == 6 then regB i.dst && regB i.a && accB i && (i.fn == 6 || i.fn == 1) else
  if i.op == 7 then fenB i.pred && fenB i.succ else
  if i.op == 8 then true else
  if i.op == 9 then regB i.a else false
def plcB (i : Ins) : Bool := decide (i.loc ≥ 0) && decide (i.loc < 3) && !(maskR i.off i.size == 0) && (i.index == -1 || regB i.index)
def bareF (i : Ins) : Ins where
  op := 0
  dst := if i.op == 1 || i.op == 2 || i.op == 3 || i.op == 4 || i.op == 6 then -1 else i.dst
  a := if i.op == 2 || i.op == 3 || i.op == 5 || i.op == 6 || i.op == 9 then -1 else i.a
  b := if i.op == 3 then -1 else i.b
  imm := if i.op == 1 || i.op == 3 || i.op == 5 then 0 else i.imm
  loc := if opB i then 0 else i.loc
  off := if opB i then 0 else i.off
  index := if opB i then -1 else i.index
  size := if opB i then 0 else i.size
  fn := if i.op == 3 || i.op == 6 then 0 else i.fn
  acq := if i.op == 4 || i.op == 6 then false else i.acq
  weak := if i.op == 4 then false else i.weak
  rel := if i.op == 5 || i.op == 6 then false else i.rel
  pred := if i.op == 7 then 0 else i.pred
  succ := if i.op == 7 then 0 else i.succ
  to := if i.op == 9 then 0 else i.to
  zero := if i.op == 9 then false else i.zero
def fineB (i : Ins) : Bool :=
  if i.op == 1 then regB i.dst else
  if i.op == 2 then regB i.dst && regB i.a else
  if i.op == 3 then regB i.dst && regB i.a && decide (i.fn ≥ 1) && decide (i.fn ≤ 5) && (i.b == -1 || regB i.b && i.imm == 0) else
  if i.op == 4 then regB i.dst && plcB i && !(i.acq && i.weak) else
  if i.op == 5 then plcB i && (i.a == -1 || regB i.a && i.imm == 0) else
  if i.op == 6 then regB i.dst && regB i.a && plcB i && (i.fn == 6 || i.fn == 1) else
  if i.op == 7 then decide (i.pred ≥ 1) && decide (i.pred ≤ 3) && decide (i.succ ≥ 1) && decide (i.succ ≤ 3) else
  if i.op == 8 then true else
  if i.op == 9 then regB i.a else false
def blank : Ins := ⟨0, -1, -1, -1, 0, 0, 0, -1, 0, 0, false, false, false, 0, 0, 0, false⟩
def insEq (i j : Ins) : Bool := decide (i = j)
def offsI : List (Nat × Bool) := [(0, false), (1, false), (2, false), (3, false), (4, false), (5, false), (6, false), (7, false), (8, false), (9, false), (10, true), (11, true), (12, true), (13, false), (14, false), (15, false), (16, true)]
theorem flat_ins : flatT Try.prog 23 = some offsI := by kernel_rfl
theorem all_ins (i j : Ins) : [i.op == j.op, i.dst == j.dst, i.a == j.a, i.b == j.b, i.imm == j.imm, i.loc == j.loc, i.off == j.off, i.index == j.index, i.size == j.size, i.fn == j.fn, i.acq == j.acq, i.weak == j.weak, i.rel == j.rel, i.pred == j.pred, i.succ == j.succ, i.to == j.to, i.zero == j.zero].all id = insEq i j := by
  unfold insEq
  rw [Bool.eq_iff_iff, decide_eq_true_iff]
  cases i; cases j
  simp
theorem eq_ins (i j : Ins) (x y : Operand) (w : World) (r : Bool) (h : insEq i j = r) : (eqGuard .eql 23 x y (.agg (insC i)) (.agg (insC j))).run Try.prog w = .ok () w ∧ (binOp .eql 23 (.agg (insC i)) (.agg (insC j))).run Try.prog w = .ok (.bool r) w := by
  have := (eq_flat (P := Try.prog) (xs := insC i) (ys := insC j) w x y flat_ins rfl).1
  rw [all_ins, h] at this; exact this
theorem ne_ins (i j : Ins) (x y : Operand) (w : World) (r : Bool) (h : (!insEq i j) = r) : (eqGuard .neq 23 x y (.agg (insC i)) (.agg (insC j))).run Try.prog w = .ok () w ∧ (binOp .neq 23 (.agg (insC i)) (.agg (insC j))).run Try.prog w = .ok (.bool r) w := by
  have := (eq_flat (P := Try.prog) (xs := insC i) (ys := insC j) w x y flat_ins rfl).2
  rw [all_ins, h] at this; exact this
def rightR (i : Ins) (at_ n : Int) : Int :=
  if insEq i (plainF i) && soundB i then (if i.op == 9 && (decide (i.to ≤ at_) || decide (i.to > n)) then 35 else 0) else 34
def givesF (i : Ins) : Int := (plainF i).dst
theorem plc_acc (i : Ins) : plcB i = accB i := by
  unfold plcB accB ronB
  cases decide (i.loc ≥ 0) <;> cases decide (i.loc < 3) <;> cases (maskR i.off i.size == 0) <;> simp
end Go.Proofs.Ytlhompedcphnnaa
/- Closed facts on the types and functions of the program. -/
namespace Go.Proofs.Ytlhompedcphnnaa
open Go.RowKit
set_option linter.unusedSimpArgs false
set_option linter.unusedVariables false
theorem ent11 : ((Try.prog.funcs[11]?).map fun fn => (fn.name == "runtime.NumGoroutine", fn.body.isNone)) = some (false, false) := by kernel_rfl
theorem ent13 : ((Try.prog.funcs[13]?).map fun fn => (fn.name == "runtime.NumGoroutine", fn.body.isNone)) = some (false, false) := by kernel_rfl
theorem ent28 : ((Try.prog.funcs[28]?).map fun fn => (fn.name == "runtime.NumGoroutine", fn.body.isNone)) = some (false, false) := by kernel_rfl
theorem ent29 : ((Try.prog.funcs[29]?).map fun fn => (fn.name == "runtime.NumGoroutine", fn.body.isNone)) = some (false, false) := by kernel_rfl
theorem ent30 : ((Try.prog.funcs[30]?).map fun fn => (fn.name == "runtime.NumGoroutine", fn.body.isNone)) = some (false, false) := by kernel_rfl
theorem ent31 : ((Try.prog.funcs[31]?).map fun fn => (fn.name == "runtime.NumGoroutine", fn.body.isNone)) = some (false, false) := by kernel_rfl
theorem ent35 : ((Try.prog.funcs[35]?).map fun fn => (fn.name == "runtime.NumGoroutine", fn.body.isNone)) = some (false, false) := by kernel_rfl
theorem ent39 : ((Try.prog.funcs[39]?).map fun fn => (fn.name == "runtime.NumGoroutine", fn.body.isNone)) = some (false, false) := by kernel_rfl
theorem ent40 : ((Try.prog.funcs[40]?).map fun fn => (fn.name == "runtime.NumGoroutine", fn.body.isNone)) = some (false, false) := by kernel_rfl
theorem ent41 : ((Try.prog.funcs[41]?).map fun fn => (fn.name == "runtime.NumGoroutine", fn.body.isNone)) = some (false, false) := by kernel_rfl
theorem ent42 : ((Try.prog.funcs[42]?).map fun fn => (fn.name == "runtime.NumGoroutine", fn.body.isNone)) = some (false, false) := by kernel_rfl
theorem ent43 : ((Try.prog.funcs[43]?).map fun fn => (fn.name == "runtime.NumGoroutine", fn.body.isNone)) = some (false, false) := by kernel_rfl
theorem ent44 : ((Try.prog.funcs[44]?).map fun fn => (fn.name == "runtime.NumGoroutine", fn.body.isNone)) = some (false, false) := by kernel_rfl
theorem ent45 : ((Try.prog.funcs[45]?).map fun fn => (fn.name == "runtime.NumGoroutine", fn.body.isNone)) = some (false, false) := by kernel_rfl
theorem ent55 : ((Try.prog.funcs[55]?).map fun fn => (fn.name == "runtime.NumGoroutine", fn.body.isNone)) = some (false, false) := by kernel_rfl
theorem ent56 : ((Try.prog.funcs[56]?).map fun fn => (fn.name == "runtime.NumGoroutine", fn.body.isNone)) = some (false, false) := by kernel_rfl
theorem fi23_1 : fieldInfo Try.prog 23 1 = some (3, 1) := by kernel_rfl
theorem fo23_0 : fieldOff Try.prog 23 0 = some 0 := by kernel_rfl
theorem fo23_1 : fieldOff Try.prog 23 1 = some 1 := by kernel_rfl
theorem fo23_10 : fieldOff Try.prog 23 10 = some 10 := by kernel_rfl
theorem fo23_11 : fieldOff Try.prog 23 11 = some 11 := by kernel_rfl
theorem fo23_12 : fieldOff Try.prog 23 12 = some 12 := by kernel_rfl
theorem fo23_13 : fieldOff Try.prog 23 13 = some 13 := by kernel_rfl
theorem fo23_14 : fieldOff Try.prog 23 14 = some 14 := by kernel_rfl
theorem fo23_15 : fieldOff Try.prog 23 15 = some 15 := by kernel_rfl
theorem fo23_16 : fieldOff Try.prog 23 16 = some 16 := by kernel_rfl
theorem fo23_2 : fieldOff Try.prog 23 2 = some 2 := by kernel_rfl
theorem fo23_3 : fieldOff Try.prog 23 3 = some 3 := by kernel_rfl
theorem fo23_4 : fieldOff Try.prog 23 4 = some 4 := by kernel_rfl
theorem fo23_5 : fieldOff Try.prog 23 5 = some 5 := by kernel_rfl
theorem fo23_6 : fieldOff Try.prog 23 6 = some 6 := by kernel_rfl
theorem fo23_7 : fieldOff Try.prog 23 7 = some 7 := by kernel_rfl
theorem fo23_8 : fieldOff Try.prog 23 8 = some 8 := by kernel_rfl
theorem fo23_9 : fieldOff Try.prog 23 9 = some 9 := by kernel_rfl
theorem mixedY : Try.prog.follows .mixedOrders = true := by kernel_rfl
theorem one3 : oneB Try.prog 3 = true := by kernel_rfl
theorem one4 : oneB Try.prog 4 = true := by kernel_rfl
theorem places23 : placesOf Try.prog 23 = some [(0, 1), (1, 1), (2, 1), (3, 1), (4, 1), (5, 1), (6, 1), (7, 1), (8, 1), (9, 1), (10, 1), (11, 1), (12, 1), (13, 1), (14, 1), (15, 1), (16, 1)] := by kernel_rfl
theorem row23 : rowB Try.prog 23 17 = true := by kernel_rfl
theorem zero23 : (Try.prog.info? 23).map (fun i => (i.zero, i.size)) = some (some (.agg #[.int .i64 0, .int .i64 0, .int .i64 0, .int .i64 0, .int .i64 0, .int .i64 0, .int .i64 0, .int .i64 0, .int .i64 0, .int .i64 0, .bool false, .bool false, .bool false, .int .i64 0, .int .i64 0, .int .i64 0, .bool false]), 17) := by kernel_rfl
theorem ret_two {x y : Array Value} {a b : Bool} (h : x = y) (k : a = b) : Ending.returned (.tuple #[.agg x, .bool a]) = .returned (.tuple #[.agg y, .bool b]) := by rw [h, k]
end Go.Proofs.Ytlhompedcphnnaa
/- Contracts of functions on single instructions. -/
namespace Go.Proofs.Ytlhompedcphnnaa
open Go.RowKit
set_option linter.unusedSimpArgs false
set_option linter.unusedVariables false
set_option maxHeartbeats 4000000 in
set_option maxRecDepth 4000 in
theorem isReg_any (r : Int) (w : World) : Calls Try.prog 40 #[.int .i64 r] w fun e w' => e = .returned (.bool (regB r)) ∧ Grow w w' := by
 have b0 : Below w.heap.size w w := Below.refl _ _
 refine enter (n := 9) Try.func40 rfl rfl (Nat.le_of_ble_eq_true rfl) ?_
 intro a1 hA2
 refine wp_seq ?_
 refine wp_region_lit ?_
 refine qs hA2 rfl (das (wn rfl) (hA2.ev rfl) ?_)
 intro a3 hA4
 refine qe_ ?_
 refine tn_ ?_
 refine wp_seq ?_
 refine jwp (K := fun a5 w6 => St 9 [(2, (.bool ((decide (r ≥ 0)) && (decide (r < 8)))))] a5 ∧ Below w.heap.size w w6) ?_ ?_
 ·skip
  refine wp_region_lit ?_
  refine qs hA4 rfl (dmv (wn rfl) (hA4.ev rfl) ?_)
  intro a7 hA8
  rcases Bool.eq_false_or_eq_true (decide (r ≥ 0)) with hb9 | hb9
  ·skip
   have hq10 := of_decide_eq_true hb9
   refine qs hA8 rfl (dbn (wn rfl) (hA8.ev rfl) (hA8.ev rfl) (b_ge _ _ r 0 true _ hb9) ?_)
   intro a11 hA12
   refine qs hA12 rfl (dmv (wn rfl) (hA12.ev rfl) ?_)
   intro a13 hA14
   refine qs hA14 rfl (dmv (wy rfl rfl (hA14.get 5 _ rfl)) (hA14.ev rfl) ?_)
   intro a15 hA16
   rcases Bool.eq_false_or_eq_true (decide (r < 8)) with hb17 | hb17
   ·skip
    have hq18 := of_decide_eq_true hb17
    refine qs hA16 rfl (dbn (wy rfl rfl (hA16.get 5 _ rfl)) (hA16.ev rfl) (hA16.ev rfl) (b_lt _ _ r 8 true _ hb17) ?_)
    intro a19 hA20
    refine qs hA20 rfl (dpt (wn rfl) (hA20.ev rfl) (hA20.ev rfl) ?_)
    intro a21 hA22
    refine qs hA22 rfl (das (wn rfl) (hA22.ev rfl) ?_)
    intro a23 hA24
    refine qe_ ?_
    exact ⟨hA24.cut _ (fc ((hA24.get 2 _ rfl).trans (congrArg Value.bool (by simp [hb9, hb17]))) fn_), b0⟩
   have hq25 := of_decide_eq_false hb17
   refine qs hA16 rfl (dbn (wy rfl rfl (hA16.get 5 _ rfl)) (hA16.ev rfl) (hA16.ev rfl) (b_lt _ _ r 8 false _ hb17) ?_)
   intro a26 hA27
   refine qs hA27 rfl (dpt (wn rfl) (hA27.ev rfl) (hA27.ev rfl) ?_)
   intro a28 hA29
   refine qs hA29 rfl (das (wn rfl) (hA29.ev rfl) ?_)
   intro a30 hA31
   refine qe_ ?_
   exact ⟨hA31.cut _ (fc ((hA31.get 2 _ rfl).trans (congrArg Value.bool (by simp [hb9, hb17]))) fn_), b0⟩
  have hq32 := of_decide_eq_false hb9
  refine qs hA8 rfl (dbn (wn rfl) (hA8.ev rfl) (hA8.ev rfl) (b_ge _ _ r 0 false _ hb9) ?_)
  intro a33 hA34
  refine qs hA34 rfl (dmv (wn rfl) (hA34.ev rfl) ?_)
  intro a35 hA36
  refine qs hA36 rfl (dno (wno rfl rfl (.inl (hA36.get 5 _ rfl))) ?_)
  intro a37 hA38
  refine qs hA38 rfl (dno (wno rfl rfl (.inl (hA38.get 5 _ rfl))) ?_)
  intro a39 hA40
  refine qs hA40 rfl (dpf (wn rfl) (hA40.ev rfl) (hA40.ev rfl) ?_)
  intro a41 hA42
  refine qs hA42 rfl (das (wn rfl) (hA42.ev rfl) ?_)
  intro a43 hA44
  refine qe_ ?_
  exact ⟨hA44.cut _ (fc ((hA44.get 2 _ rfl).trans (congrArg Value.bool (by simp [hb9]))) fn_), b0⟩
 rintro a5 w6 ⟨hA45, b46⟩
 refine tn_ ?_
 refine wp_ret ?_
 refine ret1 rfl hA45 (v := (.bool ((decide (r ≥ 0)) && (decide (r < 8))))) rfl ?_
 exact ⟨ret_bool (by first | (simp [regB, Bool.or_assoc, Bool.and_assoc]; done) | (rw [Bool.eq_iff_iff]; simp [regB]; done) | (rw [Bool.eq_iff_iff]; simp [regB]; omega) | grind), b46⟩
set_option maxHeartbeats 4000000 in
set_option maxRecDepth 4000 in
theorem rreg_any (r : Int) (w : World) : Calls Try.prog 44 #[.int .i64 r] w fun e w' => e = .returned (.bool (regB r)) ∧ Grow w w' := by
 have b0 : Below w.heap.size w w := Below.refl _ _
 refine enter (n := 9) Try.func44 rfl rfl (Nat.le_of_ble_eq_true rfl) ?_
 intro a1 hA2
 refine wp_seq ?_
 refine wp_region_lit ?_
 refine qs hA2 rfl (das (wn rfl) (hA2.ev rfl) ?_)
 intro a3 hA4
 refine qe_ ?_
 refine tn_ ?_
 refine wp_seq ?_
 refine jwp (K := fun a5 w6 => St 9 [(2, (.bool ((decide (r ≥ 0)) && (decide (r < 8)))))] a5 ∧ Below w.heap.size w w6) ?_ ?_
 ·skip
  refine wp_region_lit ?_
  refine qs hA4 rfl (dmv (wn rfl) (hA4.ev rfl) ?_)
  intro a7 hA8
  rcases Bool.eq_false_or_eq_true (decide (r ≥ 0)) with hb9 | hb9
  ·skip
   have hq10 := of_decide_eq_true hb9
   refine qs hA8 rfl (dbn (wn rfl) (hA8.ev rfl) (hA8.ev rfl) (b_ge _ _ r 0 true _ hb9) ?_)
   intro a11 hA12
   refine qs hA12 rfl (dmv (wn rfl) (hA12.ev rfl) ?_)
   intro a13 hA14
   refine qs hA14 rfl (dmv (wy rfl rfl (hA14.get 5 _ rfl)) (hA14.ev rfl) ?_)
   intro a15 hA16
   rcases Bool.eq_false_or_eq_true (decide (r < 8)) with hb17 | hb17
   ·skip
    have hq18 := of_decide_eq_true hb17
    refine qs hA16 rfl (dbn (wy rfl rfl (hA16.get 5 _ rfl)) (hA16.ev rfl) (hA16.ev rfl) (b_lt _ _ r 8 true _ hb17) ?_)
    intro a19 hA20
    refine qs hA20 rfl (dpt (wn rfl) (hA20.ev rfl) (hA20.ev rfl) ?_)
    intro a21 hA22
    refine qs hA22 rfl (das (wn rfl) (hA22.ev rfl) ?_)
    intro a23 hA24
    refine qe_ ?_
    exact ⟨hA24.cut _ (fc ((hA24.get 2 _ rfl).trans (congrArg Value.bool (by simp [hb9, hb17]))) fn_), b0⟩
   have hq25 := of_decide_eq_false hb17
   refine qs hA16 rfl (dbn (wy rfl rfl (hA16.get 5 _ rfl)) (hA16.ev rfl) (hA16.ev rfl) (b_lt _ _ r 8 false _ hb17) ?_)
   intro a26 hA27
   refine qs hA27 rfl (dpt (wn rfl) (hA27.ev rfl) (hA27.ev rfl) ?_)
   intro a28 hA29
   refine qs hA29 rfl (das (wn rfl) (hA29.ev rfl) ?_)
   intro a30 hA31
   refine qe_ ?_
   exact ⟨hA31.cut _ (fc ((hA31.get 2 _ rfl).trans (congrArg Value.bool (by simp [hb9, hb17]))) fn_), b0⟩
  have hq32 := of_decide_eq_false hb9
  refine qs hA8 rfl (dbn (wn rfl) (hA8.ev rfl) (hA8.ev rfl) (b_ge _ _ r 0 false _ hb9) ?_)
  intro a33 hA34
  refine qs hA34 rfl (dmv (wn rfl) (hA34.ev rfl) ?_)
  intro a35 hA36
  refine qs hA36 rfl (dno (wno rfl rfl (.inl (hA36.get 5 _ rfl))) ?_)
  intro a37 hA38
  refine qs hA38 rfl (dno (wno rfl rfl (.inl (hA38.get 5 _ rfl))) ?_)
  intro a39 hA40
  refine qs hA40 rfl (dpf (wn rfl) (hA40.ev rfl) (hA40.ev rfl) ?_)
  intro a41 hA42
  refine qs hA42 rfl (das (wn rfl) (hA42.ev rfl) ?_)
  intro a43 hA44
  refine qe_ ?_
  exact ⟨hA44.cut _ (fc ((hA44.get 2 _ rfl).trans (congrArg Value.bool (by simp [hb9]))) fn_), b0⟩
 rintro a5 w6 ⟨hA45, b46⟩
 refine tn_ ?_
 refine wp_ret ?_
 refine ret1 rfl hA45 (v := (.bool ((decide (r ≥ 0)) && (decide (r < 8))))) rfl ?_
 exact ⟨ret_bool (by first | (simp [regB, Bool.or_assoc, Bool.and_assoc]; done) | (rw [Bool.eq_iff_iff]; simp [regB]; done) | (rw [Bool.eq_iff_iff]; simp [regB]; omega) | grind), b46⟩
set_option maxHeartbeats 4000000 in
set_option maxRecDepth 4000 in
theorem isRegOrNone_any (r : Int) (w : World) : Calls Try.prog 41 #[.int .i64 r] w fun e w' => e = .returned (.bool (ronB r)) ∧ Grow w w' := by
 have b0 : Below w.heap.size w w := Below.refl _ _
 refine enter (n := 9) Try.func41 rfl rfl (Nat.le_of_ble_eq_true rfl) ?_
 intro a1 hA2
 refine wp_seq ?_
 refine wp_region_lit ?_
 refine qs hA2 rfl (das (wn rfl) (hA2.ev rfl) ?_)
 intro a3 hA4
 refine qe_ ?_
 refine tn_ ?_
 refine wp_seq ?_
 refine jwp (K := fun a5 w6 => St 9 [(2, (.bool ((r == (-1)) || (regB r))))] a5 ∧ Below w.heap.size w w6) ?_ ?_
 ·skip
  refine wp_region_lit ?_
  refine qs hA4 rfl (dmv (wn rfl) (hA4.ev rfl) ?_)
  intro a7 hA8
  rcases Bool.eq_false_or_eq_true (r == (-1)) with hb9 | hb9
  ·skip
   have hq10 := eq_of_beq hb9
   refine qs hA8 rfl (dbn (wn rfl) (hA8.ev rfl) (hA8.ev rfl) (b_eq _ _ r (-1) true _ hb9) ?_)
   intro a11 hA12
   refine qs hA12 rfl (dmv (wn rfl) (hA12.ev rfl) ?_)
   intro a13 hA14
   refine qs hA14 rfl (dno (wno rfl rfl (.inl (hA14.get 5 _ rfl))) ?_)
   intro a15 hA16
   refine qs hA16 rfl (dno (wno rfl rfl (.inl (hA16.get 5 _ rfl))) ?_)
   intro a17 hA18
   refine qs hA18 rfl (dpt (wn rfl) (hA18.ev rfl) (hA18.ev rfl) ?_)
   intro a19 hA20
   refine qs hA20 rfl (das (wn rfl) (hA20.ev rfl) ?_)
   intro a21 hA22
   refine qe_ ?_
   exact ⟨hA22.cut _ (fc ((hA22.get 2 _ rfl).trans (congrArg Value.bool (by simp [hb9]))) fn_), b0⟩
  have hq23 := ne_of_beq hb9
  refine qs hA8 rfl (dbn (wn rfl) (hA8.ev rfl) (hA8.ev rfl) (b_eq _ _ r (-1) false _ hb9) ?_)
  intro a24 hA25
  refine qs hA25 rfl (dmv (wn rfl) (hA25.ev rfl) ?_)
  intro a26 hA27
  refine qs hA27 rfl (dmv (wy rfl rfl (hA27.get 5 _ rfl)) (hA27.ev rfl) ?_)
  intro a28 hA29
  refine qs hA29 rfl (dcl (wy rfl rfl (hA29.get 5 _ rfl)) ent40 (map1 (hA29.ev rfl)) (isReg_any r w) ?_)
  rintro e33 w30 ⟨he32, hG31⟩
  have b34 := blg b0 hG31 b0.size
  rcases Bool.eq_false_or_eq_true (regB r) with hb35 | hb35
  ·skip
   refine ⟨.bool true, he32.trans (ret_bool hb35), ?_⟩
   intro a37 hA38
   refine qs hA38 rfl (dpf (wn rfl) (hA38.ev rfl) (hA38.ev rfl) ?_)
   intro a39 hA40
   refine qs hA40 rfl (das (wn rfl) (hA40.ev rfl) ?_)
   intro a41 hA42
   refine qe_ ?_
   exact ⟨hA42.cut _ (fc ((hA42.get 2 _ rfl).trans (congrArg Value.bool (by simp [hb9, hb35]))) fn_), b34⟩
  refine ⟨.bool false, he32.trans (ret_bool hb35), ?_⟩
  intro a44 hA45
  refine qs hA45 rfl (dpf (wn rfl) (hA45.ev rfl) (hA45.ev rfl) ?_)
  intro a46 hA47
  refine qs hA47 rfl (das (wn rfl) (hA47.ev rfl) ?_)
  intro a48 hA49
  refine qe_ ?_
  exact ⟨hA49.cut _ (fc ((hA49.get 2 _ rfl).trans (congrArg Value.bool (by simp [hb9, hb35]))) fn_), b34⟩
 rintro a5 w6 ⟨hA50, b51⟩
 refine tn_ ?_
 refine wp_ret ?_
 refine ret1 rfl hA50 (v := (.bool ((r == (-1)) || (regB r)))) rfl ?_
 exact ⟨ret_bool (by first | (simp [ronB, Bool.or_assoc, Bool.and_assoc]; done) | (rw [Bool.eq_iff_iff]; simp [ronB]; done) | (rw [Bool.eq_iff_iff]; simp [ronB]; omega) | grind), b51⟩
set_option maxHeartbeats 4000000 in
set_option maxRecDepth 4000 in
theorem isFenced_any (r : Int) (w : World) : Calls Try.prog 43 #[.int .i64 r] w fun e w' => e = .returned (.bool (fenB r)) ∧ Grow w w' := by
 have b0 : Below w.heap.size w w := Below.refl _ _
 refine enter (n := 13) Try.func43 rfl rfl (Nat.le_of_ble_eq_true rfl) ?_
 intro a1 hA2
 refine wp_seq ?_
 refine wp_region_lit ?_
 refine qs hA2 rfl (das (wn rfl) (hA2.ev rfl) ?_)
 intro a3 hA4
 refine qe_ ?_
 refine tn_ ?_
 refine wp_seq ?_
 refine jwp (K := fun a5 w6 => St 13 [(2, (.bool ((r == 1) || ((r == 2) || (r == 3)))))] a5 ∧ Below w.heap.size w w6) ?_ ?_
 ·skip
  refine wp_region_lit ?_
  refine qs hA4 rfl (dmv (wn rfl) (hA4.ev rfl) ?_)
  intro a7 hA8
  rcases Bool.eq_false_or_eq_true (r == 1) with hb9 | hb9
  ·skip
   have hq10 := eq_of_beq hb9
   refine qs hA8 rfl (dbn (wn rfl) (hA8.ev rfl) (hA8.ev rfl) (b_eq _ _ r 1 true _ hb9) ?_)
   intro a11 hA12
   refine qs hA12 rfl (dmv (wn rfl) (hA12.ev rfl) ?_)
   intro a13 hA14
   refine qs hA14 rfl (dno (wno rfl rfl (.inl (hA14.get 5 _ rfl))) ?_)
   intro a15 hA16
   refine qs hA16 rfl (dno (wno rfl rfl (.inl (hA16.get 5 _ rfl))) ?_)
   intro a17 hA18
   refine qs hA18 rfl (dpt (wn rfl) (hA18.ev rfl) (hA18.ev rfl) ?_)
   intro a19 hA20
   refine qs hA20 rfl (dmv (wn rfl) (hA20.ev rfl) ?_)
   intro a21 hA22
   refine qs hA22 rfl (dno (wno rfl rfl (.inl (hA22.get 9 _ rfl))) ?_)
   intro a23 hA24
   refine qs hA24 rfl (dno (wno rfl rfl (.inl (hA24.get 9 _ rfl))) ?_)
   intro a25 hA26
   refine qs hA26 rfl (dpt (wn rfl) (hA26.ev rfl) (hA26.ev rfl) ?_)
   intro a27 hA28
   refine qs hA28 rfl (das (wn rfl) (hA28.ev rfl) ?_)
   intro a29 hA30
   refine qe_ ?_
   exact ⟨hA30.cut _ (fc ((hA30.get 2 _ rfl).trans (congrArg Value.bool (by simp [hb9]))) fn_), b0⟩
  have hq31 := ne_of_beq hb9
  refine qs hA8 rfl (dbn (wn rfl) (hA8.ev rfl) (hA8.ev rfl) (b_eq _ _ r 1 false _ hb9) ?_)
  intro a32 hA33
  refine qs hA33 rfl (dmv (wn rfl) (hA33.ev rfl) ?_)
  intro a34 hA35
  refine qs hA35 rfl (dmv (wy rfl rfl (hA35.get 5 _ rfl)) (hA35.ev rfl) ?_)
  intro a36 hA37
  rcases Bool.eq_false_or_eq_true (r == 2) with hb38 | hb38
  ·skip
   have hq39 := eq_of_beq hb38
   refine qs hA37 rfl (dbn (wy rfl rfl (hA37.get 5 _ rfl)) (hA37.ev rfl) (hA37.ev rfl) (b_eq _ _ r 2 true _ hb38) ?_)
   intro a40 hA41
   refine qs hA41 rfl (dpf (wn rfl) (hA41.ev rfl) (hA41.ev rfl) ?_)
   intro a42 hA43
   refine qs hA43 rfl (dmv (wn rfl) (hA43.ev rfl) ?_)
   intro a44 hA45
   refine qs hA45 rfl (dno (wno rfl rfl (.inl (hA45.get 9 _ rfl))) ?_)
   intro a46 hA47
   refine qs hA47 rfl (dno (wno rfl rfl (.inl (hA47.get 9 _ rfl))) ?_)
   intro a48 hA49
   refine qs hA49 rfl (dpt (wn rfl) (hA49.ev rfl) (hA49.ev rfl) ?_)
   intro a50 hA51
   refine qs hA51 rfl (das (wn rfl) (hA51.ev rfl) ?_)
   intro a52 hA53
   refine qe_ ?_
   exact ⟨hA53.cut _ (fc ((hA53.get 2 _ rfl).trans (congrArg Value.bool (by simp [hb9, hb38]))) fn_), b0⟩
  have hq54 := ne_of_beq hb38
  refine qs hA37 rfl (dbn (wy rfl rfl (hA37.get 5 _ rfl)) (hA37.ev rfl) (hA37.ev rfl) (b_eq _ _ r 2 false _ hb38) ?_)
  intro a55 hA56
  refine qs hA56 rfl (dpf (wn rfl) (hA56.ev rfl) (hA56.ev rfl) ?_)
  intro a57 hA58
  refine qs hA58 rfl (dmv (wn rfl) (hA58.ev rfl) ?_)
  intro a59 hA60
  refine qs hA60 rfl (dmv (wy rfl rfl (hA60.get 9 _ rfl)) (hA60.ev rfl) ?_)
  intro a61 hA62
  rcases Bool.eq_false_or_eq_true (r == 3) with hb63 | hb63
  ·skip
   have hq64 := eq_of_beq hb63
   refine qs hA62 rfl (dbn (wy rfl rfl (hA62.get 9 _ rfl)) (hA62.ev rfl) (hA62.ev rfl) (b_eq _ _ r 3 true _ hb63) ?_)
   intro a65 hA66
   refine qs hA66 rfl (dpf (wn rfl) (hA66.ev rfl) (hA66.ev rfl) ?_)
   intro a67 hA68
   refine qs hA68 rfl (das (wn rfl) (hA68.ev rfl) ?_)
   intro a69 hA70
   refine qe_ ?_
   exact ⟨hA70.cut _ (fc ((hA70.get 2 _ rfl).trans (congrArg Value.bool (by simp [hb9, hb38, hb63]))) fn_), b0⟩
  have hq71 := ne_of_beq hb63
  refine qs hA62 rfl (dbn (wy rfl rfl (hA62.get 9 _ rfl)) (hA62.ev rfl) (hA62.ev rfl) (b_eq _ _ r 3 false _ hb63) ?_)
  intro a72 hA73
  refine qs hA73 rfl (dpf (wn rfl) (hA73.ev rfl) (hA73.ev rfl) ?_)
  intro a74 hA75
  refine qs hA75 rfl (das (wn rfl) (hA75.ev rfl) ?_)
  intro a76 hA77
  refine qe_ ?_
  exact ⟨hA77.cut _ (fc ((hA77.get 2 _ rfl).trans (congrArg Value.bool (by simp [hb9, hb38, hb63]))) fn_), b0⟩
 rintro a5 w6 ⟨hA78, b79⟩
 refine tn_ ?_
 refine wp_ret ?_
 refine ret1 rfl hA78 (v := (.bool ((r == 1) || ((r == 2) || (r == 3))))) rfl ?_
 exact ⟨ret_bool (by first | (simp [fenB, Bool.or_assoc, Bool.and_assoc]; done) | (rw [Bool.eq_iff_iff]; simp [fenB]; done) | (rw [Bool.eq_iff_iff]; simp [fenB]; omega) | grind), b79⟩
set_option maxHeartbeats 4000000 in
set_option maxRecDepth 4000 in
theorem reads_any (i : Ins) (w : World) : Calls Try.prog 11 #[.agg (insC i)] w fun e w' => e = .returned (.bool (rdB i)) ∧ Grow w w' := by
 have b0 : Below w.heap.size w w := Below.refl _ _
 refine enter (n := 11) Try.func11 rfl rfl (Nat.le_of_ble_eq_true rfl) ?_
 intro a1 hA2
 refine wp_seq ?_
 refine wp_region_lit ?_
 refine qs hA2 rfl (d_box (wn rfl) (hA2.ev rfl) ?_)
 intro g3 w4 eg5 hG6 (m7 : Blk w4 g3 (insC i) 23)
 have ge8 : w.heap.size ≤ g3 := eg5 ▸ b0.size
 have b9 := blg b0 hG6 b0.size
 intro a10 hA11
 refine qs hA11 rfl (das (wn rfl) (hA11.ev rfl) ?_)
 intro a12 hA13
 refine qe_ ?_
 refine tn_ ?_
 refine wp_seq ?_
 refine jwp (K := fun a14 w15 => St 11 [(2, (.bool ((i.op == 4) || (i.op == 6))))] a14 ∧ Below w.heap.size w w15 ∧ Blk w15 g3 (insC i) 23) ?_ ?_
 ·skip
  refine wp_region_lit ?_
  refine qs hA13 rfl (dfa (wn rfl) (hA13.ev rfl) fo23_0 ?_)
  intro a16 hA17
  refine qs hA17 rfl (dld (v := (.int .i64 i.op)) (wn rfl) (hA17.ev rfl) one3 (m7.cell rfl) ?_)
  intro a18 hA19
  rcases Bool.eq_false_or_eq_true (i.op == 4) with hb20 | hb20
  ·skip
   have hq21 := eq_of_beq hb20
   refine qs hA19 rfl (dbn (wn rfl) (hA19.ev rfl) (hA19.ev rfl) (b_eq _ _ i.op 4 true _ hb20) ?_)
   intro a22 hA23
   refine qs hA23 rfl (dmv (wn rfl) (hA23.ev rfl) ?_)
   intro a24 hA25
   refine qs hA25 rfl (dno (wno rfl rfl (.inl (hA25.get 6 _ rfl))) ?_)
   intro a26 hA27
   refine qs hA27 rfl (dno (wno rfl rfl (.inl (hA27.get 6 _ rfl))) ?_)
   intro a28 hA29
   refine qs hA29 rfl (dno (wno rfl rfl (.inl (hA29.get 6 _ rfl))) ?_)
   intro a30 hA31
   refine qs hA31 rfl (dpt (wn rfl) (hA31.ev rfl) (hA31.ev rfl) ?_)
   intro a32 hA33
   refine qs hA33 rfl (das (wn rfl) (hA33.ev rfl) ?_)
   intro a34 hA35
   refine qe_ ?_
   exact ⟨hA35.cut _ (fc ((hA35.get 2 _ rfl).trans (congrArg Value.bool (by simp [hb20]))) fn_), b9, m7⟩
  have hq36 := ne_of_beq hb20
  refine qs hA19 rfl (dbn (wn rfl) (hA19.ev rfl) (hA19.ev rfl) (b_eq _ _ i.op 4 false _ hb20) ?_)
  intro a37 hA38
  refine qs hA38 rfl (dmv (wn rfl) (hA38.ev rfl) ?_)
  intro a39 hA40
  refine qs hA40 rfl (dfa (wy rfl rfl (hA40.get 6 _ rfl)) (hA40.ev rfl) fo23_0 ?_)
  intro a41 hA42
  refine qs hA42 rfl (dld (v := (.int .i64 i.op)) (wy rfl rfl (hA42.get 6 _ rfl)) (hA42.ev rfl) one3 (m7.cell rfl) ?_)
  intro a43 hA44
  rcases Bool.eq_false_or_eq_true (i.op == 6) with hb45 | hb45
  ·skip
   have hq46 := eq_of_beq hb45
   refine qs hA44 rfl (dbn (wy rfl rfl (hA44.get 6 _ rfl)) (hA44.ev rfl) (hA44.ev rfl) (b_eq _ _ i.op 6 true _ hb45) ?_)
   intro a47 hA48
   refine qs hA48 rfl (dpf (wn rfl) (hA48.ev rfl) (hA48.ev rfl) ?_)
   intro a49 hA50
   refine qs hA50 rfl (das (wn rfl) (hA50.ev rfl) ?_)
   intro a51 hA52
   refine qe_ ?_
   exact ⟨hA52.cut _ (fc ((hA52.get 2 _ rfl).trans (congrArg Value.bool (by simp [hb20, hb45]))) fn_), b9, m7⟩
  have hq53 := ne_of_beq hb45
  refine qs hA44 rfl (dbn (wy rfl rfl (hA44.get 6 _ rfl)) (hA44.ev rfl) (hA44.ev rfl) (b_eq _ _ i.op 6 false _ hb45) ?_)
  intro a54 hA55
  refine qs hA55 rfl (dpf (wn rfl) (hA55.ev rfl) (hA55.ev rfl) ?_)
  intro a56 hA57
  refine qs hA57 rfl (das (wn rfl) (hA57.ev rfl) ?_)
  intro a58 hA59
  refine qe_ ?_
  exact ⟨hA59.cut _ (fc ((hA59.get 2 _ rfl).trans (congrArg Value.bool (by simp [hb20, hb45]))) fn_), b9, m7⟩
 rintro a14 w15 ⟨hA60, b61, m62⟩
 refine tn_ ?_
 refine wp_ret ?_
 refine ret1 rfl hA60 (v := (.bool ((i.op == 4) || (i.op == 6)))) rfl ?_
 exact ⟨ret_bool (by first | (simp [rdB, Bool.or_assoc, Bool.and_assoc]; done) | (rw [Bool.eq_iff_iff]; simp [rdB]; done) | (rw [Bool.eq_iff_iff]; simp [rdB]; omega) | grind), b61⟩
set_option maxHeartbeats 4000000 in
set_option maxRecDepth 4000 in
theorem rreads_any (i : Ins) (w : World) : Calls Try.prog 12 #[.agg (insC i)] w fun e w' => e = .returned (.bool (rdB i)) ∧ Grow w w' := by
 have b0 : Below w.heap.size w w := Below.refl _ _
 refine enter (n := 11) Try.func12 rfl rfl (Nat.le_of_ble_eq_true rfl) ?_
 intro a1 hA2
 refine wp_seq ?_
 refine wp_region_lit ?_
 refine qs hA2 rfl (d_box (wn rfl) (hA2.ev rfl) ?_)
 intro g3 w4 eg5 hG6 (m7 : Blk w4 g3 (insC i) 23)
 have ge8 : w.heap.size ≤ g3 := eg5 ▸ b0.size
 have b9 := blg b0 hG6 b0.size
 intro a10 hA11
 refine qs hA11 rfl (das (wn rfl) (hA11.ev rfl) ?_)
 intro a12 hA13
 refine qe_ ?_
 refine tn_ ?_
 refine wp_seq ?_
 refine jwp (K := fun a14 w15 => St 11 [(2, (.bool ((i.op == 4) || (i.op == 6))))] a14 ∧ Below w.heap.size w w15 ∧ Blk w15 g3 (insC i) 23) ?_ ?_
 ·skip
  refine wp_region_lit ?_
  refine qs hA13 rfl (dfa (wn rfl) (hA13.ev rfl) fo23_0 ?_)
  intro a16 hA17
  refine qs hA17 rfl (dld (v := (.int .i64 i.op)) (wn rfl) (hA17.ev rfl) one3 (m7.cell rfl) ?_)
  intro a18 hA19
  rcases Bool.eq_false_or_eq_true (i.op == 4) with hb20 | hb20
  ·skip
   have hq21 := eq_of_beq hb20
   refine qs hA19 rfl (dbn (wn rfl) (hA19.ev rfl) (hA19.ev rfl) (b_eq _ _ i.op 4 true _ hb20) ?_)
   intro a22 hA23
   refine qs hA23 rfl (dmv (wn rfl) (hA23.ev rfl) ?_)
   intro a24 hA25
   refine qs hA25 rfl (dno (wno rfl rfl (.inl (hA25.get 6 _ rfl))) ?_)
   intro a26 hA27
   refine qs hA27 rfl (dno (wno rfl rfl (.inl (hA27.get 6 _ rfl))) ?_)
   intro a28 hA29
   refine qs hA29 rfl (dno (wno rfl rfl (.inl (hA29.get 6 _ rfl))) ?_)
   intro a30 hA31
   refine qs hA31 rfl (dpt (wn rfl) (hA31.ev rfl) (hA31.ev rfl) ?_)
   intro a32 hA33
   refine qs hA33 rfl (das (wn rfl) (hA33.ev rfl) ?_)
   intro a34 hA35
   refine qe_ ?_
   exact ⟨hA35.cut _ (fc ((hA35.get 2 _ rfl).trans (congrArg Value.bool (by simp [hb20]))) fn_), b9, m7⟩
  have hq36 := ne_of_beq hb20
  refine qs hA19 rfl (dbn (wn rfl) (hA19.ev rfl) (hA19.ev rfl) (b_eq _ _ i.op 4 false _ hb20) ?_)
  intro a37 hA38
  refine qs hA38 rfl (dmv (wn rfl) (hA38.ev rfl) ?_)
  intro a39 hA40
  refine qs hA40 rfl (dfa (wy rfl rfl (hA40.get 6 _ rfl)) (hA40.ev rfl) fo23_0 ?_)
  intro a41 hA42
  refine qs hA42 rfl (dld (v := (.int .i64 i.op)) (wy rfl rfl (hA42.get 6 _ rfl)) (hA42.ev rfl) one3 (m7.cell rfl) ?_)
  intro a43 hA44
  rcases Bool.eq_false_or_eq_true (i.op == 6) with hb45 | hb45
  ·skip
   have hq46 := eq_of_beq hb45
   refine qs hA44 rfl (dbn (wy rfl rfl (hA44.get 6 _ rfl)) (hA44.ev rfl) (hA44.ev rfl) (b_eq _ _ i.op 6 true _ hb45) ?_)
   intro a47 hA48
   refine qs hA48 rfl (dpf (wn rfl) (hA48.ev rfl) (hA48.ev rfl) ?_)
   intro a49 hA50
   refine qs hA50 rfl (das (wn rfl) (hA50.ev rfl) ?_)
   intro a51 hA52
   refine qe_ ?_
   exact ⟨hA52.cut _ (fc ((hA52.get 2 _ rfl).trans (congrArg Value.bool (by simp [hb20, hb45]))) fn_), b9, m7⟩
  have hq53 := ne_of_beq hb45
  refine qs hA44 rfl (dbn (wy rfl rfl (hA44.get 6 _ rfl)) (hA44.ev rfl) (hA44.ev rfl) (b_eq _ _ i.op 6 false _ hb45) ?_)
  intro a54 hA55
  refine qs hA55 rfl (dpf (wn rfl) (hA55.ev rfl) (hA55.ev rfl) ?_)
  intro a56 hA57
  refine qs hA57 rfl (das (wn rfl) (hA57.ev rfl) ?_)
  intro a58 hA59
  refine qe_ ?_
  exact ⟨hA59.cut _ (fc ((hA59.get 2 _ rfl).trans (congrArg Value.bool (by simp [hb20, hb45]))) fn_), b9, m7⟩
 rintro a14 w15 ⟨hA60, b61, m62⟩
 refine tn_ ?_
 refine wp_ret ?_
 refine ret1 rfl hA60 (v := (.bool ((i.op == 4) || (i.op == 6)))) rfl ?_
 exact ⟨ret_bool (by first | (simp [rdB, Bool.or_assoc, Bool.and_assoc]; done) | (rw [Bool.eq_iff_iff]; simp [rdB]; done) | (rw [Bool.eq_iff_iff]; simp [rdB]; omega) | grind), b61⟩
set_option maxHeartbeats 4000000 in
set_option maxRecDepth 4000 in
theorem writes_any (i : Ins) (w : World) : Calls Try.prog 13 #[.agg (insC i)] w fun e w' => e = .returned (.bool (wrB i)) ∧ Grow w w' := by
 have b0 : Below w.heap.size w w := Below.refl _ _
 refine enter (n := 11) Try.func13 rfl rfl (Nat.le_of_ble_eq_true rfl) ?_
 intro a1 hA2
 refine wp_seq ?_
 refine wp_region_lit ?_
 refine qs hA2 rfl (d_box (wn rfl) (hA2.ev rfl) ?_)
 intro g3 w4 eg5 hG6 (m7 : Blk w4 g3 (insC i) 23)
 have ge8 : w.heap.size ≤ g3 := eg5 ▸ b0.size
 have b9 := blg b0 hG6 b0.size
 intro a10 hA11
 refine qs hA11 rfl (das (wn rfl) (hA11.ev rfl) ?_)
 intro a12 hA13
 refine qe_ ?_
 refine tn_ ?_
 refine wp_seq ?_
 refine jwp (K := fun a14 w15 => St 11 [(2, (.bool ((i.op == 5) || (i.op == 6))))] a14 ∧ Below w.heap.size w w15 ∧ Blk w15 g3 (insC i) 23) ?_ ?_
 ·skip
  refine wp_region_lit ?_
  refine qs hA13 rfl (dfa (wn rfl) (hA13.ev rfl) fo23_0 ?_)
  intro a16 hA17
  refine qs hA17 rfl (dld (v := (.int .i64 i.op)) (wn rfl) (hA17.ev rfl) one3 (m7.cell rfl) ?_)
  intro a18 hA19
  rcases Bool.eq_false_or_eq_true (i.op == 5) with hb20 | hb20
  ·skip
   have hq21 := eq_of_beq hb20
   refine qs hA19 rfl (dbn (wn rfl) (hA19.ev rfl) (hA19.ev rfl) (b_eq _ _ i.op 5 true _ hb20) ?_)
   intro a22 hA23
   refine qs hA23 rfl (dmv (wn rfl) (hA23.ev rfl) ?_)
   intro a24 hA25
   refine qs hA25 rfl (dno (wno rfl rfl (.inl (hA25.get 6 _ rfl))) ?_)
   intro a26 hA27
   refine qs hA27 rfl (dno (wno rfl rfl (.inl (hA27.get 6 _ rfl))) ?_)
   intro a28 hA29
   refine qs hA29 rfl (dno (wno rfl rfl (.inl (hA29.get 6 _ rfl))) ?_)
   intro a30 hA31
   refine qs hA31 rfl (dpt (wn rfl) (hA31.ev rfl) (hA31.ev rfl) ?_)
   intro a32 hA33
   refine qs hA33 rfl (das (wn rfl) (hA33.ev rfl) ?_)
   intro a34 hA35
   refine qe_ ?_
   exact ⟨hA35.cut _ (fc ((hA35.get 2 _ rfl).trans (congrArg Value.bool (by simp [hb20]))) fn_), b9, m7⟩
  have hq36 := ne_of_beq hb20
  refine qs hA19 rfl (dbn (wn rfl) (hA19.ev rfl) (hA19.ev rfl) (b_eq _ _ i.op 5 false _ hb20) ?_)
  intro a37 hA38
  refine qs hA38 rfl (dmv (wn rfl) (hA38.ev rfl) ?_)
  intro a39 hA40
  refine qs hA40 rfl (dfa (wy rfl rfl (hA40.get 6 _ rfl)) (hA40.ev rfl) fo23_0 ?_)
  intro a41 hA42
  refine qs hA42 rfl (dld (v := (.int .i64 i.op)) (wy rfl rfl (hA42.get 6 _ rfl)) (hA42.ev rfl) one3 (m7.cell rfl) ?_)
  intro a43 hA44
  rcases Bool.eq_false_or_eq_true (i.op == 6) with hb45 | hb45
  ·skip
   have hq46 := eq_of_beq hb45
   refine qs hA44 rfl (dbn (wy rfl rfl (hA44.get 6 _ rfl)) (hA44.ev rfl) (hA44.ev rfl) (b_eq _ _ i.op 6 true _ hb45) ?_)
   intro a47 hA48
   refine qs hA48 rfl (dpf (wn rfl) (hA48.ev rfl) (hA48.ev rfl) ?_)
   intro a49 hA50
   refine qs hA50 rfl (das (wn rfl) (hA50.ev rfl) ?_)
   intro a51 hA52
   refine qe_ ?_
   exact ⟨hA52.cut _ (fc ((hA52.get 2 _ rfl).trans (congrArg Value.bool (by simp [hb20, hb45]))) fn_), b9, m7⟩
  have hq53 := ne_of_beq hb45
  refine qs hA44 rfl (dbn (wy rfl rfl (hA44.get 6 _ rfl)) (hA44.ev rfl) (hA44.ev rfl) (b_eq _ _ i.op 6 false _ hb45) ?_)
  intro a54 hA55
  refine qs hA55 rfl (dpf (wn rfl) (hA55.ev rfl) (hA55.ev rfl) ?_)
  intro a56 hA57
  refine qs hA57 rfl (das (wn rfl) (hA57.ev rfl) ?_)
  intro a58 hA59
  refine qe_ ?_
  exact ⟨hA59.cut _ (fc ((hA59.get 2 _ rfl).trans (congrArg Value.bool (by simp [hb20, hb45]))) fn_), b9, m7⟩
 rintro a14 w15 ⟨hA60, b61, m62⟩
 refine tn_ ?_
 refine wp_ret ?_
 refine ret1 rfl hA60 (v := (.bool ((i.op == 5) || (i.op == 6)))) rfl ?_
 exact ⟨ret_bool (by first | (simp [wrB, Bool.or_assoc, Bool.and_assoc]; done) | (rw [Bool.eq_iff_iff]; simp [wrB]; done) | (rw [Bool.eq_iff_iff]; simp [wrB]; omega) | grind), b61⟩
set_option maxHeartbeats 4000000 in
set_option maxRecDepth 4000 in
theorem rwrites_any (i : Ins) (w : World) : Calls Try.prog 14 #[.agg (insC i)] w fun e w' => e = .returned (.bool (wrB i)) ∧ Grow w w' := by
 have b0 : Below w.heap.size w w := Below.refl _ _
 refine enter (n := 11) Try.func14 rfl rfl (Nat.le_of_ble_eq_true rfl) ?_
 intro a1 hA2
 refine wp_seq ?_
 refine wp_region_lit ?_
 refine qs hA2 rfl (d_box (wn rfl) (hA2.ev rfl) ?_)
 intro g3 w4 eg5 hG6 (m7 : Blk w4 g3 (insC i) 23)
 have ge8 : w.heap.size ≤ g3 := eg5 ▸ b0.size
 have b9 := blg b0 hG6 b0.size
 intro a10 hA11
 refine qs hA11 rfl (das (wn rfl) (hA11.ev rfl) ?_)
 intro a12 hA13
 refine qe_ ?_
 refine tn_ ?_
 refine wp_seq ?_
 refine jwp (K := fun a14 w15 => St 11 [(2, (.bool ((i.op == 5) || (i.op == 6))))] a14 ∧ Below w.heap.size w w15 ∧ Blk w15 g3 (insC i) 23) ?_ ?_
 ·skip
  refine wp_region_lit ?_
  refine qs hA13 rfl (dfa (wn rfl) (hA13.ev rfl) fo23_0 ?_)
  intro a16 hA17
  refine qs hA17 rfl (dld (v := (.int .i64 i.op)) (wn rfl) (hA17.ev rfl) one3 (m7.cell rfl) ?_)
  intro a18 hA19
  rcases Bool.eq_false_or_eq_true (i.op == 5) with hb20 | hb20
  ·skip
   have hq21 := eq_of_beq hb20
   refine qs hA19 rfl (dbn (wn rfl) (hA19.ev rfl) (hA19.ev rfl) (b_eq _ _ i.op 5 true _ hb20) ?_)
   intro a22 hA23
   refine qs hA23 rfl (dmv (wn rfl) (hA23.ev rfl) ?_)
   intro a24 hA25
   refine qs hA25 rfl (dno (wno rfl rfl (.inl (hA25.get 6 _ rfl))) ?_)
   intro a26 hA27
   refine qs hA27 rfl (dno (wno rfl rfl (.inl (hA27.get 6 _ rfl))) ?_)
   intro a28 hA29
   refine qs hA29 rfl (dno (wno rfl rfl (.inl (hA29.get 6 _ rfl))) ?_)
   intro a30 hA31
   refine qs hA31 rfl (dpt (wn rfl) (hA31.ev rfl) (hA31.ev rfl) ?_)
   intro a32 hA33
   refine qs hA33 rfl (das (wn rfl) (hA33.ev rfl) ?_)
   intro a34 hA35
   refine qe_ ?_
   exact ⟨hA35.cut _ (fc ((hA35.get 2 _ rfl).trans (congrArg Value.bool (by simp [hb20]))) fn_), b9, m7⟩
  have hq36 := ne_of_beq hb20
  refine qs hA19 rfl (dbn (wn rfl) (hA19.ev rfl) (hA19.ev rfl) (b_eq _ _ i.op 5 false _ hb20) ?_)
  intro a37 hA38
  refine qs hA38 rfl (dmv (wn rfl) (hA38.ev rfl) ?_)
  intro a39 hA40
  refine qs hA40 rfl (dfa (wy rfl rfl (hA40.get 6 _ rfl)) (hA40.ev rfl) fo23_0 ?_)
  intro a41 hA42
  refine qs hA42 rfl (dld (v := (.int .i64 i.op)) (wy rfl rfl (hA42.get 6 _ rfl)) (hA42.ev rfl) one3 (m7.cell rfl) ?_)
  intro a43 hA44
  rcases Bool.eq_false_or_eq_true (i.op == 6) with hb45 | hb45
  ·skip
   have hq46 := eq_of_beq hb45
   refine qs hA44 rfl (dbn (wy rfl rfl (hA44.get 6 _ rfl)) (hA44.ev rfl) (hA44.ev rfl) (b_eq _ _ i.op 6 true _ hb45) ?_)
   intro a47 hA48
   refine qs hA48 rfl (dpf (wn rfl) (hA48.ev rfl) (hA48.ev rfl) ?_)
   intro a49 hA50
   refine qs hA50 rfl (das (wn rfl) (hA50.ev rfl) ?_)
   intro a51 hA52
   refine qe_ ?_
   exact ⟨hA52.cut _ (fc ((hA52.get 2 _ rfl).trans (congrArg Value.bool (by simp [hb20, hb45]))) fn_), b9, m7⟩
  have hq53 := ne_of_beq hb45
  refine qs hA44 rfl (dbn (wy rfl rfl (hA44.get 6 _ rfl)) (hA44.ev rfl) (hA44.ev rfl) (b_eq _ _ i.op 6 false _ hb45) ?_)
  intro a54 hA55
  refine qs hA55 rfl (dpf (wn rfl) (hA55.ev rfl) (hA55.ev rfl) ?_)
  intro a56 hA57
  refine qs hA57 rfl (das (wn rfl) (hA57.ev rfl) ?_)
  intro a58 hA59
  refine qe_ ?_
  exact ⟨hA59.cut _ (fc ((hA59.get 2 _ rfl).trans (congrArg Value.bool (by simp [hb20, hb45]))) fn_), b9, m7⟩
 rintro a14 w15 ⟨hA60, b61, m62⟩
 refine tn_ ?_
 refine wp_ret ?_
 refine ret1 rfl hA60 (v := (.bool ((i.op == 5) || (i.op == 6)))) rfl ?_
 exact ⟨ret_bool (by first | (simp [wrB, Bool.or_assoc, Bool.and_assoc]; done) | (rw [Bool.eq_iff_iff]; simp [wrB]; done) | (rw [Bool.eq_iff_iff]; simp [wrB]; omega) | grind), b61⟩
set_option maxHeartbeats 4000000 in
set_option maxRecDepth 4000 in
theorem isOp_any (i : Ins) (w : World) : Calls Try.prog 35 #[.agg (insC i)] w fun e w' => e = .returned (.bool (opB i)) ∧ Grow w w' := by
 have b0 : Below w.heap.size w w := Below.refl _ _
 refine enter (n := 9) Try.func35 rfl rfl (Nat.le_of_ble_eq_true rfl) ?_
 intro a1 hA2
 refine wp_seq ?_
 refine wp_region_lit ?_
 refine qs hA2 rfl (d_box (wn rfl) (hA2.ev rfl) ?_)
 intro g3 w4 eg5 hG6 (m7 : Blk w4 g3 (insC i) 23)
 have ge8 : w.heap.size ≤ g3 := eg5 ▸ b0.size
 have b9 := blg b0 hG6 b0.size
 intro a10 hA11
 refine qs hA11 rfl (das (wn rfl) (hA11.ev rfl) ?_)
 intro a12 hA13
 refine qe_ ?_
 refine tn_ ?_
 refine wp_seq ?_
 refine jwp (K := fun a14 w15 => St 9 [(2, (.bool ((rdB i) || (wrB i))))] a14 ∧ Below w.heap.size w w15 ∧ Blk w15 g3 (insC i) 23) ?_ ?_
 ·skip
  refine wp_region_lit ?_
  refine qs hA13 rfl (dlr (cs := (insC i)) (wn rfl) (hA13.ev rfl) row23 m7 ?_)
  intro a16 hA17
  refine qs hA17 rfl (dcl (wn rfl) ent11 (map1 (hA17.ev rfl)) (reads_any i w4) ?_)
  rintro e21 w18 ⟨he20, hG19⟩
  have m22 := m7.grow hG19
  have b23 := blg b9 hG19 b9.size
  rcases Bool.eq_false_or_eq_true (rdB i) with hb24 | hb24
  ·skip
   refine ⟨.bool true, he20.trans (ret_bool hb24), ?_⟩
   intro a26 hA27
   refine qs hA27 rfl (dmv (wn rfl) (hA27.ev rfl) ?_)
   intro a28 hA29
   refine qs hA29 rfl (dno (wno rfl rfl (.inl (hA29.get 5 _ rfl))) ?_)
   intro a30 hA31
   refine qs hA31 rfl (dno (wno rfl rfl (.inl (hA31.get 5 _ rfl))) ?_)
   intro a32 hA33
   refine qs hA33 rfl (dpt (wn rfl) (hA33.ev rfl) (hA33.ev rfl) ?_)
   intro a34 hA35
   refine qs hA35 rfl (das (wn rfl) (hA35.ev rfl) ?_)
   intro a36 hA37
   refine qe_ ?_
   exact ⟨hA37.cut _ (fc ((hA37.get 2 _ rfl).trans (congrArg Value.bool (by simp [hb24]))) fn_), b23, m22⟩
  refine ⟨.bool false, he20.trans (ret_bool hb24), ?_⟩
  intro a39 hA40
  refine qs hA40 rfl (dmv (wn rfl) (hA40.ev rfl) ?_)
  intro a41 hA42
  refine qs hA42 rfl (dlr (cs := (insC i)) (wy rfl rfl (hA42.get 5 _ rfl)) (hA42.ev rfl) row23 m22 ?_)
  intro a43 hA44
  refine qs hA44 rfl (dcl (wy rfl rfl (hA44.get 5 _ rfl)) ent13 (map1 (hA44.ev rfl)) (writes_any i w18) ?_)
  rintro e48 w45 ⟨he47, hG46⟩
  have m49 := m22.grow hG46
  have b50 := blg b23 hG46 b23.size
  rcases Bool.eq_false_or_eq_true (wrB i) with hb51 | hb51
  ·skip
   refine ⟨.bool true, he47.trans (ret_bool hb51), ?_⟩
   intro a53 hA54
   refine qs hA54 rfl (dpf (wn rfl) (hA54.ev rfl) (hA54.ev rfl) ?_)
   intro a55 hA56
   refine qs hA56 rfl (das (wn rfl) (hA56.ev rfl) ?_)
   intro a57 hA58
   refine qe_ ?_
   exact ⟨hA58.cut _ (fc ((hA58.get 2 _ rfl).trans (congrArg Value.bool (by simp [hb24, hb51]))) fn_), b50, m49⟩
  refine ⟨.bool false, he47.trans (ret_bool hb51), ?_⟩
  intro a60 hA61
  refine qs hA61 rfl (dpf (wn rfl) (hA61.ev rfl) (hA61.ev rfl) ?_)
  intro a62 hA63
  refine qs hA63 rfl (das (wn rfl) (hA63.ev rfl) ?_)
  intro a64 hA65
  refine qe_ ?_
  exact ⟨hA65.cut _ (fc ((hA65.get 2 _ rfl).trans (congrArg Value.bool (by simp [hb24, hb51]))) fn_), b50, m49⟩
 rintro a14 w15 ⟨hA66, b67, m68⟩
 refine tn_ ?_
 refine wp_ret ?_
 refine ret1 rfl hA66 (v := (.bool ((rdB i) || (wrB i)))) rfl ?_
 exact ⟨ret_bool (by first | (simp [opB, Bool.or_assoc, Bool.and_assoc]; done) | (rw [Bool.eq_iff_iff]; simp [opB]; done) | (rw [Bool.eq_iff_iff]; simp [opB]; omega) | grind), b67⟩
set_option maxHeartbeats 4000000 in
set_option maxRecDepth 4000 in
theorem memory_any (i : Ins) (w : World) : Calls Try.prog 32 #[.agg (insC i)] w fun e w' => e = .returned (.bool (opB i)) ∧ Grow w w' := by
 have b0 : Below w.heap.size w w := Below.refl _ _
 refine enter (n := 16) Try.func32 rfl rfl (Nat.le_of_ble_eq_true rfl) ?_
 intro a1 hA2
 refine wp_seq ?_
 refine wp_region_lit ?_
 refine qs hA2 rfl (d_box (wn rfl) (hA2.ev rfl) ?_)
 intro g3 w4 eg5 hG6 (m7 : Blk w4 g3 (insC i) 23)
 have ge8 : w.heap.size ≤ g3 := eg5 ▸ b0.size
 have b9 := blg b0 hG6 b0.size
 intro a10 hA11
 refine qs hA11 rfl (das (wn rfl) (hA11.ev rfl) ?_)
 intro a12 hA13
 refine qe_ ?_
 refine tn_ ?_
 refine wp_seq ?_
 refine jwp (K := fun a14 w15 => St 16 [(2, (.bool ((i.op == 4) || ((i.op == 5) || (i.op == 6)))))] a14 ∧ Below w.heap.size w w15 ∧ Blk w15 g3 (insC i) 23) ?_ ?_
 ·skip
  refine wp_region_lit ?_
  refine qs hA13 rfl (dfa (wn rfl) (hA13.ev rfl) fo23_0 ?_)
  intro a16 hA17
  refine qs hA17 rfl (dld (v := (.int .i64 i.op)) (wn rfl) (hA17.ev rfl) one3 (m7.cell rfl) ?_)
  intro a18 hA19
  rcases Bool.eq_false_or_eq_true (i.op == 4) with hb20 | hb20
  ·skip
   have hq21 := eq_of_beq hb20
   refine qs hA19 rfl (dbn (wn rfl) (hA19.ev rfl) (hA19.ev rfl) (b_eq _ _ i.op 4 true _ hb20) ?_)
   intro a22 hA23
   refine qs hA23 rfl (dmv (wn rfl) (hA23.ev rfl) ?_)
   intro a24 hA25
   refine qs hA25 rfl (dno (wno rfl rfl (.inl (hA25.get 6 _ rfl))) ?_)
   intro a26 hA27
   refine qs hA27 rfl (dno (wno rfl rfl (.inl (hA27.get 6 _ rfl))) ?_)
   intro a28 hA29
   refine qs hA29 rfl (dno (wno rfl rfl (.inl (hA29.get 6 _ rfl))) ?_)
   intro a30 hA31
   refine qs hA31 rfl (dpt (wn rfl) (hA31.ev rfl) (hA31.ev rfl) ?_)
   intro a32 hA33
   refine qs hA33 rfl (dmv (wn rfl) (hA33.ev rfl) ?_)
   intro a34 hA35
   refine qs hA35 rfl (dno (wno rfl rfl (.inl (hA35.get 11 _ rfl))) ?_)
   intro a36 hA37
   refine qs hA37 rfl (dno (wno rfl rfl (.inl (hA37.get 11 _ rfl))) ?_)
   intro a38 hA39
   refine qs hA39 rfl (dno (wno rfl rfl (.inl (hA39.get 11 _ rfl))) ?_)
   intro a40 hA41
   refine qs hA41 rfl (dpt (wn rfl) (hA41.ev rfl) (hA41.ev rfl) ?_)
   intro a42 hA43
   refine qs hA43 rfl (das (wn rfl) (hA43.ev rfl) ?_)
   intro a44 hA45
   refine qe_ ?_
   exact ⟨hA45.cut _ (fc ((hA45.get 2 _ rfl).trans (congrArg Value.bool (by simp [hb20]))) fn_), b9, m7⟩
  have hq46 := ne_of_beq hb20
  refine qs hA19 rfl (dbn (wn rfl) (hA19.ev rfl) (hA19.ev rfl) (b_eq _ _ i.op 4 false _ hb20) ?_)
  intro a47 hA48
  refine qs hA48 rfl (dmv (wn rfl) (hA48.ev rfl) ?_)
  intro a49 hA50
  refine qs hA50 rfl (dfa (wy rfl rfl (hA50.get 6 _ rfl)) (hA50.ev rfl) fo23_0 ?_)
  intro a51 hA52
  refine qs hA52 rfl (dld (v := (.int .i64 i.op)) (wy rfl rfl (hA52.get 6 _ rfl)) (hA52.ev rfl) one3 (m7.cell rfl) ?_)
  intro a53 hA54
  rcases Bool.eq_false_or_eq_true (i.op == 5) with hb55 | hb55
  ·skip
   have hq56 := eq_of_beq hb55
   refine qs hA54 rfl (dbn (wy rfl rfl (hA54.get 6 _ rfl)) (hA54.ev rfl) (hA54.ev rfl) (b_eq _ _ i.op 5 true _ hb55) ?_)
   intro a57 hA58
   refine qs hA58 rfl (dpf (wn rfl) (hA58.ev rfl) (hA58.ev rfl) ?_)
   intro a59 hA60
   refine qs hA60 rfl (dmv (wn rfl) (hA60.ev rfl) ?_)
   intro a61 hA62
   refine qs hA62 rfl (dno (wno rfl rfl (.inl (hA62.get 11 _ rfl))) ?_)
   intro a63 hA64
   refine qs hA64 rfl (dno (wno rfl rfl (.inl (hA64.get 11 _ rfl))) ?_)
   intro a65 hA66
   refine qs hA66 rfl (dno (wno rfl rfl (.inl (hA66.get 11 _ rfl))) ?_)
   intro a67 hA68
   refine qs hA68 rfl (dpt (wn rfl) (hA68.ev rfl) (hA68.ev rfl) ?_)
   intro a69 hA70
   refine qs hA70 rfl (das (wn rfl) (hA70.ev rfl) ?_)
   intro a71 hA72
   refine qe_ ?_
   exact ⟨hA72.cut _ (fc ((hA72.get 2 _ rfl).trans (congrArg Value.bool (by simp [hb20, hb55]))) fn_), b9, m7⟩
  have hq73 := ne_of_beq hb55
  refine qs hA54 rfl (dbn (wy rfl rfl (hA54.get 6 _ rfl)) (hA54.ev rfl) (hA54.ev rfl) (b_eq _ _ i.op 5 false _ hb55) ?_)
  intro a74 hA75
  refine qs hA75 rfl (dpf (wn rfl) (hA75.ev rfl) (hA75.ev rfl) ?_)
  intro a76 hA77
  refine qs hA77 rfl (dmv (wn rfl) (hA77.ev rfl) ?_)
  intro a78 hA79
  refine qs hA79 rfl (dfa (wy rfl rfl (hA79.get 11 _ rfl)) (hA79.ev rfl) fo23_0 ?_)
  intro a80 hA81
  refine qs hA81 rfl (dld (v := (.int .i64 i.op)) (wy rfl rfl (hA81.get 11 _ rfl)) (hA81.ev rfl) one3 (m7.cell rfl) ?_)
  intro a82 hA83
  rcases Bool.eq_false_or_eq_true (i.op == 6) with hb84 | hb84
  ·skip
   have hq85 := eq_of_beq hb84
   refine qs hA83 rfl (dbn (wy rfl rfl (hA83.get 11 _ rfl)) (hA83.ev rfl) (hA83.ev rfl) (b_eq _ _ i.op 6 true _ hb84) ?_)
   intro a86 hA87
   refine qs hA87 rfl (dpf (wn rfl) (hA87.ev rfl) (hA87.ev rfl) ?_)
   intro a88 hA89
   refine qs hA89 rfl (das (wn rfl) (hA89.ev rfl) ?_)
   intro a90 hA91
   refine qe_ ?_
   exact ⟨hA91.cut _ (fc ((hA91.get 2 _ rfl).trans (congrArg Value.bool (by simp [hb20, hb55, hb84]))) fn_), b9, m7⟩
  have hq92 := ne_of_beq hb84
  refine qs hA83 rfl (dbn (wy rfl rfl (hA83.get 11 _ rfl)) (hA83.ev rfl) (hA83.ev rfl) (b_eq _ _ i.op 6 false _ hb84) ?_)
  intro a93 hA94
  refine qs hA94 rfl (dpf (wn rfl) (hA94.ev rfl) (hA94.ev rfl) ?_)
  intro a95 hA96
  refine qs hA96 rfl (das (wn rfl) (hA96.ev rfl) ?_)
  intro a97 hA98
  refine qe_ ?_
  exact ⟨hA98.cut _ (fc ((hA98.get 2 _ rfl).trans (congrArg Value.bool (by simp [hb20, hb55, hb84]))) fn_), b9, m7⟩
 rintro a14 w15 ⟨hA99, b100, m101⟩
 refine tn_ ?_
 refine wp_ret ?_
 refine ret1 rfl hA99 (v := (.bool ((i.op == 4) || ((i.op == 5) || (i.op == 6))))) rfl ?_
 exact ⟨ret_bool (by first | (simp [opB, rdB, wrB, Bool.or_assoc, Bool.and_assoc]; done) | (rw [Bool.eq_iff_iff]; simp [opB, rdB, wrB]; done) | (rw [Bool.eq_iff_iff]; simp [opB, rdB, wrB]; omega) | grind), b100⟩
set_option maxHeartbeats 4000000 in
set_option maxRecDepth 4000 in
theorem isAccess_any (i : Ins) (w : World) : Calls Try.prog 42 #[.agg (insC i)] w fun e w' => e = .returned (.bool (accB i)) ∧ Grow w w' := by
 have b0 : Below w.heap.size w w := Below.refl _ _
 refine enter (n := 24) Try.func42 rfl rfl (Nat.le_of_ble_eq_true rfl) ?_
 intro a1 hA2
 refine wp_seq ?_
 refine wp_region_lit ?_
 refine qs hA2 rfl (d_box (wn rfl) (hA2.ev rfl) ?_)
 intro g3 w4 eg5 hG6 (m7 : Blk w4 g3 (insC i) 23)
 have ge8 : w.heap.size ≤ g3 := eg5 ▸ b0.size
 have b9 := blg b0 hG6 b0.size
 intro a10 hA11
 refine qs hA11 rfl (das (wn rfl) (hA11.ev rfl) ?_)
 intro a12 hA13
 refine qe_ ?_
 refine tn_ ?_
 refine wp_seq ?_
 refine jwp (K := fun a14 w15 => St 24 [(2, (.bool ((decide (i.loc ≥ 0)) && ((decide (i.loc < 3)) && ((ronB i.index) && (!(maskR i.off i.size == 0)))))))] a14 ∧ Below w.heap.size w w15 ∧ Blk w15 g3 (insC i) 23) ?_ ?_
 ·skip
  refine wp_region_lit ?_
  refine qs hA13 rfl (dfa (wn rfl) (hA13.ev rfl) fo23_5 ?_)
  intro a16 hA17
  refine qs hA17 rfl (dld (v := (.int .i64 i.loc)) (wn rfl) (hA17.ev rfl) one3 (m7.cell rfl) ?_)
  intro a18 hA19
  rcases Bool.eq_false_or_eq_true (decide (i.loc ≥ 0)) with hb20 | hb20
  ·skip
   have hq21 := of_decide_eq_true hb20
   refine qs hA19 rfl (dbn (wn rfl) (hA19.ev rfl) (hA19.ev rfl) (b_ge _ _ i.loc 0 true _ hb20) ?_)
   intro a22 hA23
   refine qs hA23 rfl (dmv (wn rfl) (hA23.ev rfl) ?_)
   intro a24 hA25
   refine qs hA25 rfl (dfa (wy rfl rfl (hA25.get 6 _ rfl)) (hA25.ev rfl) fo23_5 ?_)
   intro a26 hA27
   refine qs hA27 rfl (dld (v := (.int .i64 i.loc)) (wy rfl rfl (hA27.get 6 _ rfl)) (hA27.ev rfl) one3 (m7.cell rfl) ?_)
   intro a28 hA29
   rcases Bool.eq_false_or_eq_true (decide (i.loc < 3)) with hb30 | hb30
   ·skip
    have hq31 := of_decide_eq_true hb30
    refine qs hA29 rfl (dbn (wy rfl rfl (hA29.get 6 _ rfl)) (hA29.ev rfl) (hA29.ev rfl) (b_lt _ _ i.loc 3 true _ hb30) ?_)
    intro a32 hA33
    refine qs hA33 rfl (dpt (wn rfl) (hA33.ev rfl) (hA33.ev rfl) ?_)
    intro a34 hA35
    refine qs hA35 rfl (dmv (wn rfl) (hA35.ev rfl) ?_)
    intro a36 hA37
    refine qs hA37 rfl (dfa (wy rfl rfl (hA37.get 11 _ rfl)) (hA37.ev rfl) fo23_7 ?_)
    intro a38 hA39
    refine qs hA39 rfl (dld (v := (.int .i64 i.index)) (wy rfl rfl (hA39.get 11 _ rfl)) (hA39.ev rfl) one3 (m7.cell rfl) ?_)
    intro a40 hA41
    refine qs hA41 rfl (dcl (wy rfl rfl (hA41.get 11 _ rfl)) ent41 (map1 (hA41.ev rfl)) (isRegOrNone_any i.index w4) ?_)
    rintro e45 w42 ⟨he44, hG43⟩
    have m46 := m7.grow hG43
    have b47 := blg b9 hG43 b9.size
    rcases Bool.eq_false_or_eq_true (ronB i.index) with hb48 | hb48
    ·skip
     refine ⟨.bool true, he44.trans (ret_bool hb48), ?_⟩
     intro a50 hA51
     refine qs hA51 rfl (dpt (wn rfl) (hA51.ev rfl) (hA51.ev rfl) ?_)
     intro a52 hA53
     refine qs hA53 rfl (dmv (wn rfl) (hA53.ev rfl) ?_)
     intro a54 hA55
     refine qs hA55 rfl (dfa (wy rfl rfl (hA55.get 16 _ rfl)) (hA55.ev rfl) fo23_6 ?_)
     intro a56 hA57
     refine qs hA57 rfl (dld (v := (.int .i64 i.off)) (wy rfl rfl (hA57.get 16 _ rfl)) (hA57.ev rfl) one3 (m46.cell rfl) ?_)
     intro a58 hA59
     refine qs hA59 rfl (dfa (wy rfl rfl (hA59.get 16 _ rfl)) (hA59.ev rfl) fo23_8 ?_)
     intro a60 hA61
     refine qs hA61 rfl (dld (v := (.int .i64 i.size)) (wy rfl rfl (hA61.get 16 _ rfl)) (hA61.ev rfl) one3 (m46.cell rfl) ?_)
     intro a62 hA63
     refine qs hA63 rfl (dcl (wy rfl rfl (hA63.get 16 _ rfl)) ent55 (map2 (hA63.ev rfl) (hA63.ev rfl)) (mask_all i.off i.size w42) ?_)
     rintro e67 w64 ⟨he66, hG650⟩
     have hG65 : Grow w42 w64 := hG650 ▸ Grow.refl _
     have m68 := m46.grow hG65
     have b69 := blg b47 hG65 b47.size
     refine ⟨(.int .i64 (maskR i.off i.size)), he66, ?_⟩
     intro a70 hA71
     rcases Bool.eq_false_or_eq_true (maskR i.off i.size == 0) with hb72 | hb72
     ·skip
      have hq73 := eq_of_beq hb72
      refine qs hA71 rfl (dbn (wy rfl rfl (hA71.get 16 _ rfl)) (hA71.ev rfl) (hA71.ev rfl) (b_ne _ _ (maskR i.off i.size) 0 false _ (notof hb72)) ?_)
      intro a74 hA75
      refine qs hA75 rfl (dpt (wn rfl) (hA75.ev rfl) (hA75.ev rfl) ?_)
      intro a76 hA77
      refine qs hA77 rfl (das (wn rfl) (hA77.ev rfl) ?_)
      intro a78 hA79
      refine qe_ ?_
      exact ⟨hA79.cut _ (fc ((hA79.get 2 _ rfl).trans (congrArg Value.bool (by simp [hb20, hb30, hb48, hb72]))) fn_), b69, m68⟩
     have hq80 := ne_of_beq hb72
     refine qs hA71 rfl (dbn (wy rfl rfl (hA71.get 16 _ rfl)) (hA71.ev rfl) (hA71.ev rfl) (b_ne _ _ (maskR i.off i.size) 0 true _ (notof hb72)) ?_)
     intro a81 hA82
     refine qs hA82 rfl (dpt (wn rfl) (hA82.ev rfl) (hA82.ev rfl) ?_)
     intro a83 hA84
     refine qs hA84 rfl (das (wn rfl) (hA84.ev rfl) ?_)
     intro a85 hA86
     refine qe_ ?_
     exact ⟨hA86.cut _ (fc ((hA86.get 2 _ rfl).trans (congrArg Value.bool (by simp [hb20, hb30, hb48, hb72]))) fn_), b69, m68⟩
    refine ⟨.bool false, he44.trans (ret_bool hb48), ?_⟩
    intro a88 hA89
    refine qs hA89 rfl (dpt (wn rfl) (hA89.ev rfl) (hA89.ev rfl) ?_)
    intro a90 hA91
    refine qs hA91 rfl (dmv (wn rfl) (hA91.ev rfl) ?_)
    intro a92 hA93
    refine qs hA93 rfl (dno (wno rfl rfl (.inl (hA93.get 16 _ rfl))) ?_)
    intro a94 hA95
    refine qs hA95 rfl (dno (wno rfl rfl (.inl (hA95.get 16 _ rfl))) ?_)
    intro a96 hA97
    refine qs hA97 rfl (dno (wno rfl rfl (.inl (hA97.get 16 _ rfl))) ?_)
    intro a98 hA99
    refine qs hA99 rfl (dno (wno rfl rfl (.inl (hA99.get 16 _ rfl))) ?_)
    intro a100 hA101
    refine qs hA101 rfl (dno (wno rfl rfl (.inl (hA101.get 16 _ rfl))) ?_)
    intro a102 hA103
    refine qs hA103 rfl (dno (wno rfl rfl (.inl (hA103.get 16 _ rfl))) ?_)
    intro a104 hA105
    refine qs hA105 rfl (dpf (wn rfl) (hA105.ev rfl) (hA105.ev rfl) ?_)
    intro a106 hA107
    refine qs hA107 rfl (das (wn rfl) (hA107.ev rfl) ?_)
    intro a108 hA109
    refine qe_ ?_
    exact ⟨hA109.cut _ (fc ((hA109.get 2 _ rfl).trans (congrArg Value.bool (by simp [hb20, hb30, hb48]))) fn_), b47, m46⟩
   have hq110 := of_decide_eq_false hb30
   refine qs hA29 rfl (dbn (wy rfl rfl (hA29.get 6 _ rfl)) (hA29.ev rfl) (hA29.ev rfl) (b_lt _ _ i.loc 3 false _ hb30) ?_)
   intro a111 hA112
   refine qs hA112 rfl (dpt (wn rfl) (hA112.ev rfl) (hA112.ev rfl) ?_)
   intro a113 hA114
   refine qs hA114 rfl (dmv (wn rfl) (hA114.ev rfl) ?_)
   intro a115 hA116
   refine qs hA116 rfl (dno (wno rfl rfl (.inl (hA116.get 11 _ rfl))) ?_)
   intro a117 hA118
   refine qs hA118 rfl (dno (wno rfl rfl (.inl (hA118.get 11 _ rfl))) ?_)
   intro a119 hA120
   refine qs hA120 rfl (dno (wno rfl rfl (.inl (hA120.get 11 _ rfl))) ?_)
   intro a121 hA122
   refine qs hA122 rfl (dpf (wn rfl) (hA122.ev rfl) (hA122.ev rfl) ?_)
   intro a123 hA124
   refine qs hA124 rfl (dmv (wn rfl) (hA124.ev rfl) ?_)
   intro a125 hA126
   refine qs hA126 rfl (dno (wno rfl rfl (.inl (hA126.get 16 _ rfl))) ?_)
   intro a127 hA128
   refine qs hA128 rfl (dno (wno rfl rfl (.inl (hA128.get 16 _ rfl))) ?_)
   intro a129 hA130
   refine qs hA130 rfl (dno (wno rfl rfl (.inl (hA130.get 16 _ rfl))) ?_)
   intro a131 hA132
   refine qs hA132 rfl (dno (wno rfl rfl (.inl (hA132.get 16 _ rfl))) ?_)
   intro a133 hA134
   refine qs hA134 rfl (dno (wno rfl rfl (.inl (hA134.get 16 _ rfl))) ?_)
   intro a135 hA136
   refine qs hA136 rfl (dno (wno rfl rfl (.inl (hA136.get 16 _ rfl))) ?_)
   intro a137 hA138
   refine qs hA138 rfl (dpf (wn rfl) (hA138.ev rfl) (hA138.ev rfl) ?_)
   intro a139 hA140
   refine qs hA140 rfl (das (wn rfl) (hA140.ev rfl) ?_)
   intro a141 hA142
   refine qe_ ?_
   exact ⟨hA142.cut _ (fc ((hA142.get 2 _ rfl).trans (congrArg Value.bool (by simp [hb20, hb30]))) fn_), b9, m7⟩
  have hq143 := of_decide_eq_false hb20
  refine qs hA19 rfl (dbn (wn rfl) (hA19.ev rfl) (hA19.ev rfl) (b_ge _ _ i.loc 0 false _ hb20) ?_)
  intro a144 hA145
  refine qs hA145 rfl (dmv (wn rfl) (hA145.ev rfl) ?_)
  intro a146 hA147
  refine qs hA147 rfl (dno (wno rfl rfl (.inl (hA147.get 6 _ rfl))) ?_)
  intro a148 hA149
  refine qs hA149 rfl (dno (wno rfl rfl (.inl (hA149.get 6 _ rfl))) ?_)
  intro a150 hA151
  refine qs hA151 rfl (dno (wno rfl rfl (.inl (hA151.get 6 _ rfl))) ?_)
  intro a152 hA153
  refine qs hA153 rfl (dpf (wn rfl) (hA153.ev rfl) (hA153.ev rfl) ?_)
  intro a154 hA155
  refine qs hA155 rfl (dmv (wn rfl) (hA155.ev rfl) ?_)
  intro a156 hA157
  refine qs hA157 rfl (dno (wno rfl rfl (.inl (hA157.get 11 _ rfl))) ?_)
  intro a158 hA159
  refine qs hA159 rfl (dno (wno rfl rfl (.inl (hA159.get 11 _ rfl))) ?_)
  intro a160 hA161
  refine qs hA161 rfl (dno (wno rfl rfl (.inl (hA161.get 11 _ rfl))) ?_)
  intro a162 hA163
  refine qs hA163 rfl (dpf (wn rfl) (hA163.ev rfl) (hA163.ev rfl) ?_)
  intro a164 hA165
  refine qs hA165 rfl (dmv (wn rfl) (hA165.ev rfl) ?_)
  intro a166 hA167
  refine qs hA167 rfl (dno (wno rfl rfl (.inl (hA167.get 16 _ rfl))) ?_)
  intro a168 hA169
  refine qs hA169 rfl (dno (wno rfl rfl (.inl (hA169.get 16 _ rfl))) ?_)
  intro a170 hA171
  refine qs hA171 rfl (dno (wno rfl rfl (.inl (hA171.get 16 _ rfl))) ?_)
  intro a172 hA173
  refine qs hA173 rfl (dno (wno rfl rfl (.inl (hA173.get 16 _ rfl))) ?_)
  intro a174 hA175
  refine qs hA175 rfl (dno (wno rfl rfl (.inl (hA175.get 16 _ rfl))) ?_)
  intro a176 hA177
  refine qs hA177 rfl (dno (wno rfl rfl (.inl (hA177.get 16 _ rfl))) ?_)
  intro a178 hA179
  refine qs hA179 rfl (dpf (wn rfl) (hA179.ev rfl) (hA179.ev rfl) ?_)
  intro a180 hA181
  refine qs hA181 rfl (das (wn rfl) (hA181.ev rfl) ?_)
  intro a182 hA183
  refine qe_ ?_
  exact ⟨hA183.cut _ (fc ((hA183.get 2 _ rfl).trans (congrArg Value.bool (by simp [hb20]))) fn_), b9, m7⟩
 rintro a14 w15 ⟨hA184, b185, m186⟩
 refine tn_ ?_
 refine wp_ret ?_
 refine ret1 rfl hA184 (v := (.bool ((decide (i.loc ≥ 0)) && ((decide (i.loc < 3)) && ((ronB i.index) && (!(maskR i.off i.size == 0))))))) rfl ?_
 exact ⟨ret_bool (by first | (simp [accB, Bool.or_assoc, Bool.and_assoc]; done) | (rw [Bool.eq_iff_iff]; simp [accB]; done) | (rw [Bool.eq_iff_iff]; simp [accB]; omega) | grind), b185⟩
set_option maxHeartbeats 4000000 in
set_option maxRecDepth 4000 in
theorem place3_any (i : Ins) (w : World) : Calls Try.prog 45 #[.agg (insC i)] w fun e w' => e = .returned (.bool (plcB i)) ∧ Grow w w' := by
 have b0 : Below w.heap.size w w := Below.refl _ _
 refine enter (n := 29) Try.func45 rfl rfl (Nat.le_of_ble_eq_true rfl) ?_
 intro a1 hA2
 refine wp_seq ?_
 refine wp_region_lit ?_
 refine qs hA2 rfl (d_box (wn rfl) (hA2.ev rfl) ?_)
 intro g3 w4 eg5 hG6 (m7 : Blk w4 g3 (insC i) 23)
 have ge8 : w.heap.size ≤ g3 := eg5 ▸ b0.size
 have b9 := blg b0 hG6 b0.size
 intro a10 hA11
 refine qs hA11 rfl (das (wn rfl) (hA11.ev rfl) ?_)
 intro a12 hA13
 refine qe_ ?_
 refine tn_ ?_
 refine wp_seq ?_
 refine jwp (K := fun a14 w15 => St 29 [(2, (.bool ((decide (i.loc ≥ 0)) && ((decide (i.loc < 3)) && (cond (maskR i.off i.size == 0) false ((i.index == (-1)) || (regB i.index)))))))] a14 ∧ Below w.heap.size w w15 ∧ Blk w15 g3 (insC i) 23) ?_ ?_
 ·skip
  refine wp_region_lit ?_
  refine qs hA13 rfl (dfa (wn rfl) (hA13.ev rfl) fo23_5 ?_)
  intro a16 hA17
  refine qs hA17 rfl (dld (v := (.int .i64 i.loc)) (wn rfl) (hA17.ev rfl) one3 (m7.cell rfl) ?_)
  intro a18 hA19
  rcases Bool.eq_false_or_eq_true (decide (i.loc ≥ 0)) with hb20 | hb20
  ·skip
   have hq21 := of_decide_eq_true hb20
   refine qs hA19 rfl (dbn (wn rfl) (hA19.ev rfl) (hA19.ev rfl) (b_ge _ _ i.loc 0 true _ hb20) ?_)
   intro a22 hA23
   refine qs hA23 rfl (dmv (wn rfl) (hA23.ev rfl) ?_)
   intro a24 hA25
   refine qs hA25 rfl (dfa (wy rfl rfl (hA25.get 6 _ rfl)) (hA25.ev rfl) fo23_5 ?_)
   intro a26 hA27
   refine qs hA27 rfl (dld (v := (.int .i64 i.loc)) (wy rfl rfl (hA27.get 6 _ rfl)) (hA27.ev rfl) one3 (m7.cell rfl) ?_)
   intro a28 hA29
   rcases Bool.eq_false_or_eq_true (decide (i.loc < 3)) with hb30 | hb30
   ·skip
    have hq31 := of_decide_eq_true hb30
    refine qs hA29 rfl (dbn (wy rfl rfl (hA29.get 6 _ rfl)) (hA29.ev rfl) (hA29.ev rfl) (b_lt _ _ i.loc 3 true _ hb30) ?_)
    intro a32 hA33
    refine qs hA33 rfl (dpt (wn rfl) (hA33.ev rfl) (hA33.ev rfl) ?_)
    intro a34 hA35
    refine qs hA35 rfl (dmv (wn rfl) (hA35.ev rfl) ?_)
    intro a36 hA37
    refine qs hA37 rfl (dfa (wy rfl rfl (hA37.get 11 _ rfl)) (hA37.ev rfl) fo23_6 ?_)
    intro a38 hA39
    refine qs hA39 rfl (dld (v := (.int .i64 i.off)) (wy rfl rfl (hA39.get 11 _ rfl)) (hA39.ev rfl) one3 (m7.cell rfl) ?_)
    intro a40 hA41
    refine qs hA41 rfl (dfa (wy rfl rfl (hA41.get 11 _ rfl)) (hA41.ev rfl) fo23_8 ?_)
    intro a42 hA43
    refine qs hA43 rfl (dld (v := (.int .i64 i.size)) (wy rfl rfl (hA43.get 11 _ rfl)) (hA43.ev rfl) one3 (m7.cell rfl) ?_)
    intro a44 hA45
    refine qs hA45 rfl (dcl (wy rfl rfl (hA45.get 11 _ rfl)) ent56 (map2 (hA45.ev rfl) (hA45.ev rfl)) (rmask_all i.off i.size w4) ?_)
    rintro e49 w46 ⟨he48, hG470⟩
    have hG47 : Grow w4 w46 := hG470 ▸ Grow.refl _
    have m50 := m7.grow hG47
    have b51 := blg b9 hG47 b9.size
    refine ⟨(.int .i64 (maskR i.off i.size)), he48, ?_⟩
    intro a52 hA53
    rcases Bool.eq_false_or_eq_true (maskR i.off i.size == 0) with hb54 | hb54
    ·skip
     have hq55 := eq_of_beq hb54
     refine qs hA53 rfl (dbn (wy rfl rfl (hA53.get 11 _ rfl)) (hA53.ev rfl) (hA53.ev rfl) (b_ne _ _ (maskR i.off i.size) 0 false _ (notof hb54)) ?_)
     intro a56 hA57
     refine qs hA57 rfl (dpt (wn rfl) (hA57.ev rfl) (hA57.ev rfl) ?_)
     intro a58 hA59
     refine qs hA59 rfl (dmv (wn rfl) (hA59.ev rfl) ?_)
     intro a60 hA61
     refine qs hA61 rfl (dno (wno rfl rfl (.inl (hA61.get 19 _ rfl))) ?_)
     intro a62 hA63
     refine qs hA63 rfl (dno (wno rfl rfl (.inl (hA63.get 19 _ rfl))) ?_)
     intro a64 hA65
     refine qs hA65 rfl (dno (wno rfl rfl (.inl (hA65.get 19 _ rfl))) ?_)
     intro a66 hA67
     refine qs hA67 rfl (dno (wno rfl rfl (.inl (hA67.get 19 _ rfl))) ?_)
     intro a68 hA69
     refine qs hA69 rfl (dno (wno rfl rfl (.inr (hA69.get 23 _ rfl))) ?_)
     intro a70 hA71
     refine qs hA71 rfl (dno (wno rfl rfl (.inr (hA71.get 23 _ rfl))) ?_)
     intro a72 hA73
     refine qs hA73 rfl (dno (wno rfl rfl (.inr (hA73.get 23 _ rfl))) ?_)
     intro a74 hA75
     refine qs hA75 rfl (dno (wno rfl rfl (.inl (hA75.get 19 _ rfl))) ?_)
     intro a76 hA77
     refine qs hA77 rfl (dpf (wn rfl) (hA77.ev rfl) (hA77.ev rfl) ?_)
     intro a78 hA79
     refine qs hA79 rfl (das (wn rfl) (hA79.ev rfl) ?_)
     intro a80 hA81
     refine qe_ ?_
     exact ⟨hA81.cut _ (fc ((hA81.get 2 _ rfl).trans (congrArg Value.bool (by simp [hb20, hb30, hb54]))) fn_), b51, m50⟩
    have hq82 := ne_of_beq hb54
    refine qs hA53 rfl (dbn (wy rfl rfl (hA53.get 11 _ rfl)) (hA53.ev rfl) (hA53.ev rfl) (b_ne _ _ (maskR i.off i.size) 0 true _ (notof hb54)) ?_)
    intro a83 hA84
    refine qs hA84 rfl (dpt (wn rfl) (hA84.ev rfl) (hA84.ev rfl) ?_)
    intro a85 hA86
    refine qs hA86 rfl (dmv (wn rfl) (hA86.ev rfl) ?_)
    intro a87 hA88
    refine qs hA88 rfl (dfa (wy rfl rfl (hA88.get 19 _ rfl)) (hA88.ev rfl) fo23_7 ?_)
    intro a89 hA90
    refine qs hA90 rfl (dld (v := (.int .i64 i.index)) (wy rfl rfl (hA90.get 19 _ rfl)) (hA90.ev rfl) one3 (m50.cell rfl) ?_)
    intro a91 hA92
    rcases Bool.eq_false_or_eq_true (i.index == (-1)) with hb93 | hb93
    ·skip
     have hq94 := eq_of_beq hb93
     refine qs hA92 rfl (dbn (wy rfl rfl (hA92.get 19 _ rfl)) (hA92.ev rfl) (hA92.ev rfl) (b_eq _ _ i.index (-1) true _ hb93) ?_)
     intro a95 hA96
     refine qs hA96 rfl (dmv (wy rfl rfl (hA96.get 19 _ rfl)) (hA96.ev rfl) ?_)
     intro a97 hA98
     refine qs hA98 rfl (dno (wno rfl rfl (.inl (hA98.get 23 _ rfl))) ?_)
     intro a99 hA100
     refine qs hA100 rfl (dno (wno rfl rfl (.inl (hA100.get 23 _ rfl))) ?_)
     intro a101 hA102
     refine qs hA102 rfl (dno (wno rfl rfl (.inl (hA102.get 23 _ rfl))) ?_)
     intro a103 hA104
     refine qs hA104 rfl (dpt (wy rfl rfl (hA104.get 19 _ rfl)) (hA104.ev rfl) (hA104.ev rfl) ?_)
     intro a105 hA106
     refine qs hA106 rfl (dpt (wn rfl) (hA106.ev rfl) (hA106.ev rfl) ?_)
     intro a107 hA108
     refine qs hA108 rfl (das (wn rfl) (hA108.ev rfl) ?_)
     intro a109 hA110
     refine qe_ ?_
     exact ⟨hA110.cut _ (fc ((hA110.get 2 _ rfl).trans (congrArg Value.bool (by simp [hb20, hb30, hb54, hb93]))) fn_), b51, m50⟩
    have hq111 := ne_of_beq hb93
    refine qs hA92 rfl (dbn (wy rfl rfl (hA92.get 19 _ rfl)) (hA92.ev rfl) (hA92.ev rfl) (b_eq _ _ i.index (-1) false _ hb93) ?_)
    intro a112 hA113
    refine qs hA113 rfl (dmv (wy rfl rfl (hA113.get 19 _ rfl)) (hA113.ev rfl) ?_)
    intro a114 hA115
    refine qs hA115 rfl (dfa (wy rfl rfl (hA115.get 23 _ rfl)) (hA115.ev rfl) fo23_7 ?_)
    intro a116 hA117
    refine qs hA117 rfl (dld (v := (.int .i64 i.index)) (wy rfl rfl (hA117.get 23 _ rfl)) (hA117.ev rfl) one3 (m50.cell rfl) ?_)
    intro a118 hA119
    refine qs hA119 rfl (dcl (wy rfl rfl (hA119.get 23 _ rfl)) ent44 (map1 (hA119.ev rfl)) (rreg_any i.index w46) ?_)
    rintro e123 w120 ⟨he122, hG121⟩
    have m124 := m50.grow hG121
    have b125 := blg b51 hG121 b51.size
    rcases Bool.eq_false_or_eq_true (regB i.index) with hb126 | hb126
    ·skip
     refine ⟨.bool true, he122.trans (ret_bool hb126), ?_⟩
     intro a128 hA129
     refine qs hA129 rfl (dpf (wy rfl rfl (hA129.get 19 _ rfl)) (hA129.ev rfl) (hA129.ev rfl) ?_)
     intro a130 hA131
     refine qs hA131 rfl (dpt (wn rfl) (hA131.ev rfl) (hA131.ev rfl) ?_)
     intro a132 hA133
     refine qs hA133 rfl (das (wn rfl) (hA133.ev rfl) ?_)
     intro a134 hA135
     refine qe_ ?_
     exact ⟨hA135.cut _ (fc ((hA135.get 2 _ rfl).trans (congrArg Value.bool (by simp [hb20, hb30, hb54, hb93, hb126]))) fn_), b125, m124⟩
    refine ⟨.bool false, he122.trans (ret_bool hb126), ?_⟩
    intro a137 hA138
    refine qs hA138 rfl (dpf (wy rfl rfl (hA138.get 19 _ rfl)) (hA138.ev rfl) (hA138.ev rfl) ?_)
    intro a139 hA140
    refine qs hA140 rfl (dpt (wn rfl) (hA140.ev rfl) (hA140.ev rfl) ?_)
    intro a141 hA142
    refine qs hA142 rfl (das (wn rfl) (hA142.ev rfl) ?_)
    intro a143 hA144
    refine qe_ ?_
    exact ⟨hA144.cut _ (fc ((hA144.get 2 _ rfl).trans (congrArg Value.bool (by simp [hb20, hb30, hb54, hb93, hb126]))) fn_), b125, m124⟩
   have hq145 := of_decide_eq_false hb30
   refine qs hA29 rfl (dbn (wy rfl rfl (hA29.get 6 _ rfl)) (hA29.ev rfl) (hA29.ev rfl) (b_lt _ _ i.loc 3 false _ hb30) ?_)
   intro a146 hA147
   refine qs hA147 rfl (dpt (wn rfl) (hA147.ev rfl) (hA147.ev rfl) ?_)
   intro a148 hA149
   refine qs hA149 rfl (dmv (wn rfl) (hA149.ev rfl) ?_)
   intro a150 hA151
   refine qs hA151 rfl (dno (wno rfl rfl (.inl (hA151.get 11 _ rfl))) ?_)
   intro a152 hA153
   refine qs hA153 rfl (dno (wno rfl rfl (.inl (hA153.get 11 _ rfl))) ?_)
   intro a154 hA155
   refine qs hA155 rfl (dno (wno rfl rfl (.inl (hA155.get 11 _ rfl))) ?_)
   intro a156 hA157
   refine qs hA157 rfl (dno (wno rfl rfl (.inl (hA157.get 11 _ rfl))) ?_)
   intro a158 hA159
   refine qs hA159 rfl (dno (wno rfl rfl (.inl (hA159.get 11 _ rfl))) ?_)
   intro a160 hA161
   refine qs hA161 rfl (dno (wno rfl rfl (.inl (hA161.get 11 _ rfl))) ?_)
   intro a162 hA163
   refine qs hA163 rfl (dpf (wn rfl) (hA163.ev rfl) (hA163.ev rfl) ?_)
   intro a164 hA165
   refine qs hA165 rfl (dmv (wn rfl) (hA165.ev rfl) ?_)
   intro a166 hA167
   refine qs hA167 rfl (dno (wno rfl rfl (.inl (hA167.get 19 _ rfl))) ?_)
   intro a168 hA169
   refine qs hA169 rfl (dno (wno rfl rfl (.inl (hA169.get 19 _ rfl))) ?_)
   intro a170 hA171
   refine qs hA171 rfl (dno (wno rfl rfl (.inl (hA171.get 19 _ rfl))) ?_)
   intro a172 hA173
   refine qs hA173 rfl (dno (wno rfl rfl (.inl (hA173.get 19 _ rfl))) ?_)
   intro a174 hA175
   refine qs hA175 rfl (dno (wno rfl rfl (.inr (hA175.get 23 _ rfl))) ?_)
   intro a176 hA177
   refine qs hA177 rfl (dno (wno rfl rfl (.inr (hA177.get 23 _ rfl))) ?_)
   intro a178 hA179
   refine qs hA179 rfl (dno (wno rfl rfl (.inr (hA179.get 23 _ rfl))) ?_)
   intro a180 hA181
   refine qs hA181 rfl (dno (wno rfl rfl (.inl (hA181.get 19 _ rfl))) ?_)
   intro a182 hA183
   refine qs hA183 rfl (dpf (wn rfl) (hA183.ev rfl) (hA183.ev rfl) ?_)
   intro a184 hA185
   refine qs hA185 rfl (das (wn rfl) (hA185.ev rfl) ?_)
   intro a186 hA187
   refine qe_ ?_
   exact ⟨hA187.cut _ (fc ((hA187.get 2 _ rfl).trans (congrArg Value.bool (by simp [hb20, hb30]))) fn_), b9, m7⟩
  have hq188 := of_decide_eq_false hb20
  refine qs hA19 rfl (dbn (wn rfl) (hA19.ev rfl) (hA19.ev rfl) (b_ge _ _ i.loc 0 false _ hb20) ?_)
  intro a189 hA190
  refine qs hA190 rfl (dmv (wn rfl) (hA190.ev rfl) ?_)
  intro a191 hA192
  refine qs hA192 rfl (dno (wno rfl rfl (.inl (hA192.get 6 _ rfl))) ?_)
  intro a193 hA194
  refine qs hA194 rfl (dno (wno rfl rfl (.inl (hA194.get 6 _ rfl))) ?_)
  intro a195 hA196
  refine qs hA196 rfl (dno (wno rfl rfl (.inl (hA196.get 6 _ rfl))) ?_)
  intro a197 hA198
  refine qs hA198 rfl (dpf (wn rfl) (hA198.ev rfl) (hA198.ev rfl) ?_)
  intro a199 hA200
  refine qs hA200 rfl (dmv (wn rfl) (hA200.ev rfl) ?_)
  intro a201 hA202
  refine qs hA202 rfl (dno (wno rfl rfl (.inl (hA202.get 11 _ rfl))) ?_)
  intro a203 hA204
  refine qs hA204 rfl (dno (wno rfl rfl (.inl (hA204.get 11 _ rfl))) ?_)
  intro a205 hA206
  refine qs hA206 rfl (dno (wno rfl rfl (.inl (hA206.get 11 _ rfl))) ?_)
  intro a207 hA208
  refine qs hA208 rfl (dno (wno rfl rfl (.inl (hA208.get 11 _ rfl))) ?_)
  intro a209 hA210
  refine qs hA210 rfl (dno (wno rfl rfl (.inl (hA210.get 11 _ rfl))) ?_)
  intro a211 hA212
  refine qs hA212 rfl (dno (wno rfl rfl (.inl (hA212.get 11 _ rfl))) ?_)
  intro a213 hA214
  refine qs hA214 rfl (dpf (wn rfl) (hA214.ev rfl) (hA214.ev rfl) ?_)
  intro a215 hA216
  refine qs hA216 rfl (dmv (wn rfl) (hA216.ev rfl) ?_)
  intro a217 hA218
  refine qs hA218 rfl (dno (wno rfl rfl (.inl (hA218.get 19 _ rfl))) ?_)
  intro a219 hA220
  refine qs hA220 rfl (dno (wno rfl rfl (.inl (hA220.get 19 _ rfl))) ?_)
  intro a221 hA222
  refine qs hA222 rfl (dno (wno rfl rfl (.inl (hA222.get 19 _ rfl))) ?_)
  intro a223 hA224
  refine qs hA224 rfl (dno (wno rfl rfl (.inl (hA224.get 19 _ rfl))) ?_)
  intro a225 hA226
  refine qs hA226 rfl (dno (wno rfl rfl (.inr (hA226.get 23 _ rfl))) ?_)
  intro a227 hA228
  refine qs hA228 rfl (dno (wno rfl rfl (.inr (hA228.get 23 _ rfl))) ?_)
  intro a229 hA230
  refine qs hA230 rfl (dno (wno rfl rfl (.inr (hA230.get 23 _ rfl))) ?_)
  intro a231 hA232
  refine qs hA232 rfl (dno (wno rfl rfl (.inl (hA232.get 19 _ rfl))) ?_)
  intro a233 hA234
  refine qs hA234 rfl (dpf (wn rfl) (hA234.ev rfl) (hA234.ev rfl) ?_)
  intro a235 hA236
  refine qs hA236 rfl (das (wn rfl) (hA236.ev rfl) ?_)
  intro a237 hA238
  refine qe_ ?_
  exact ⟨hA238.cut _ (fc ((hA238.get 2 _ rfl).trans (congrArg Value.bool (by simp [hb20]))) fn_), b9, m7⟩
 rintro a14 w15 ⟨hA239, b240, m241⟩
 refine tn_ ?_
 refine wp_ret ?_
 refine ret1 rfl hA239 (v := (.bool ((decide (i.loc ≥ 0)) && ((decide (i.loc < 3)) && (cond (maskR i.off i.size == 0) false ((i.index == (-1)) || (regB i.index))))))) rfl ?_
 exact ⟨ret_bool (by first | (simp [plcB, Bool.or_assoc, Bool.and_assoc]; done) | (rw [Bool.eq_iff_iff]; simp [plcB]; done) | (rw [Bool.eq_iff_iff]; simp [plcB]; omega) | grind), b240⟩
set_option maxHeartbeats 4000000 in
set_option maxRecDepth 4000 in
theorem immFor_any (i : Ins) (r : Int) (w : World) : Calls Try.prog 39 #[.agg (insC i), .int .i64 r] w fun e w' => e = .returned (.int .i64 (immF i r)) ∧ Grow w w' := by
 have b0 : Below w.heap.size w w := Below.refl _ _
 refine enter (n := 9) Try.func39 rfl rfl (Nat.le_of_ble_eq_true rfl) ?_
 intro a1 hA2
 refine wp_seq ?_
 refine wp_region_lit ?_
 refine qs hA2 rfl (d_box (wn rfl) (hA2.ev rfl) ?_)
 intro g3 w4 eg5 hG6 (m7 : Blk w4 g3 (insC i) 23)
 have ge8 : w.heap.size ≤ g3 := eg5 ▸ b0.size
 have b9 := blg b0 hG6 b0.size
 intro a10 hA11
 refine qs hA11 rfl (das (wn rfl) (hA11.ev rfl) ?_)
 intro a12 hA13
 refine qe_ ?_
 refine tn_ ?_
 refine wp_seq ?_
 refine wp_seq ?_
 refine wp_region_lit ?_
 refine qs hA13 rfl (dmv (wn rfl) (hA13.ev rfl) ?_)
 intro a14 hA15
 rcases Bool.eq_false_or_eq_true (r == (-1)) with hb16 | hb16
 ·skip
  have hq17 := eq_of_beq hb16
  refine qs hA15 rfl (dbn (wn rfl) (hA15.ev rfl) (hA15.ev rfl) (b_ne _ _ r (-1) false _ (notof hb16)) ?_)
  intro a18 hA19
  refine qe_ ?_
  refine tn_ ?_
  refine c_false hA19 rfl ?_
  refine wp_skip ?_
  refine tn_ ?_
  refine wp_seq ?_
  refine wp_region_lit ?_
  refine qs hA19 rfl (dfa (wn rfl) (hA19.ev rfl) fo23_4 ?_)
  intro a20 hA21
  refine qs hA21 rfl (dld (v := (.int .i64 i.imm)) (wn rfl) (hA21.ev rfl) one3 (m7.cell rfl) ?_)
  intro a22 hA23
  refine qs hA23 rfl (das (wn rfl) (hA23.ev rfl) ?_)
  intro a24 hA25
  refine qe_ ?_
  refine tn_ ?_
  refine wp_ret ?_
  refine ret1 rfl hA25 (v := (.int .i64 i.imm)) rfl ?_
  exact ⟨ret_int (by simp [immF, eq_of_beq hb16]), b9⟩
 have hq26 := ne_of_beq hb16
 refine qs hA15 rfl (dbn (wn rfl) (hA15.ev rfl) (hA15.ev rfl) (b_ne _ _ r (-1) true _ (notof hb16)) ?_)
 intro a27 hA28
 refine qe_ ?_
 refine tn_ ?_
 refine c_true hA28 rfl ?_
 refine wp_seq ?_
 refine wp_region_lit ?_
 refine qs hA28 rfl (das (wn rfl) (hA28.ev rfl) ?_)
 intro a29 hA30
 refine qe_ ?_
 refine tn_ ?_
 refine wp_ret ?_
 refine t_ret ?_
 refine ret1 rfl hA30 (v := (.int .i64 0)) rfl ?_
 exact ⟨ret_int (by simp [immF, hb16]), b9⟩
end Go.Proofs.Ytlhompedcphnnaa
