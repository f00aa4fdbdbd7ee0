/- The kinds of operations that a drawn region of the statements holds, each with what it owes. -/
import Derived.Test.YtlbccddhcbcpoaaRelMakesP1
import Derived.Great.BuildSlice
import Derived.OwnWalk
import Derived.Maps.AppendAt
import Derived.Deep.DeepMust
import Derived.WalkSmall
import Derived.ProofKit
import Derived.OpenShut
import Derived.ChangeOld
import Derived.Deep.Cut
import Derived.Deep.QuietTactic
import Derived.BigQuiet
namespace Go.Proofs.Ytlbccddhcbcpoaa
open Go.RowKit

/-! ### A slice literal of relations -/
def lay (off : Nat) (l : List (Value × Nat)) (Z : Array Value) : Array Value := l.foldl (fun cs x => cs.setIfInBounds (off + x.2) x.1) Z
theorem lay_size (off : Nat) : ∀ (l : List (Value × Nat)) (Z : Array Value), (lay off l Z).size = Z.size
  | [], _ => rfl
  | x :: l, Z => by show (lay off l (Z.setIfInBounds (off + x.2) x.1)).size = _; rw [lay_size off l]; simp
theorem lay_out (off k : Nat) : ∀ (c : List Value) (s : Nat) (Z : Array Value), (k < off + s ∨ off + s + c.length ≤ k) → (lay off (c.zipIdx s) Z)[k]? = Z[k]?
  | [], _, _, _ => rfl
  | v :: c, s, Z, h => by
    show (lay off (c.zipIdx (s + 1)) (Z.setIfInBounds (off + s) v))[k]? = _
    simp only [List.length_cons] at h
    rw [lay_out off k c (s + 1) _ (by omega), Array.getElem?_setIfInBounds_ne (by omega)]
theorem lay_in (off : Nat) : ∀ (c : List Value) (s j : Nat) (Z : Array Value), j < c.length → off + s + c.length ≤ Z.size → (lay off (c.zipIdx s) Z)[off + s + j]? = c[j]?
  | v :: c, s, 0, Z, _, hz => by
    show (lay off (c.zipIdx (s + 1)) (Z.setIfInBounds (off + s) v))[off + s + 0]? = _
    simp only [List.length_cons] at hz
    rw [lay_out off _ c (s + 1) _ (by omega)]
    have hlt : off + s < Z.size := by omega
    simp [hlt]
  | v :: c, s, j + 1, Z, h, hz => by
    show (lay off (c.zipIdx (s + 1)) (Z.setIfInBounds (off + s) v))[off + s + (j + 1)]? = _
    simp only [List.length_cons] at h hz
    have := lay_in off c (s + 1) j (Z.setIfInBounds (off + s) v) (by omega) (by simp; omega)
    rw [show off + s + (j + 1) = off + (s + 1) + j by omega, this]; simp
theorem fill_rels : ∀ (ps : List (Nat × Rl)) (Z : Array Value), (∀ p ∈ ps, p.1 * 32 + 32 ≤ Z.size) → (ps.map Prod.fst).Nodup →
    ∃ A, Instr.fill (fun i => some (i * 32, 32)) Z (ps.map fun p => (p.1, Value.agg (cells p.2))) = some A ∧ A.size = Z.size ∧
      (∀ k, (∀ p ∈ ps, k < p.1 * 32 ∨ p.1 * 32 + 32 ≤ k) → A[k]? = Z[k]?) ∧ ∀ p ∈ ps, ∀ k, k < 32 → A[p.1 * 32 + k]? = (cells p.2)[k]?
  | [], Z, _, _ => ⟨Z, rfl, rfl, fun _ _ => rfl, fun p hp => by cases hp⟩
  | (i, r) :: ps, Z, h, hn => by
    have h0 := h (i, r) (by simp)
    simp only [List.map_cons, List.nodup_cons] at hn
    have hl : (cells r).toList.length = 32 := by rw [Array.length_toList, cells_size]
    obtain ⟨A, h1, h2, h3, h4⟩ := fill_rels ps (lay (i * 32) ((cells r).toList.zipIdx 0) Z) (fun p hp => by rw [lay_size]; exact h p (by simp [hp])) hn.2
    have hne : ∀ p ∈ ps, p.1 ≠ i := fun p hp e => hn.1 (by rw [← e]; exact List.mem_map.2 ⟨p, hp, rfl⟩)
    refine ⟨A, ?_, by rw [h2, lay_size], fun k hk => ?_, fun p hp k hk => ?_⟩
    · simp only [List.map_cons, Instr.fill]
      have hc : (Value.agg (cells r)).cells = cells r := rfl
      rw [hc, cells_size]
      have : ¬ (i * 32 + 32 > Z.size) := by omega
      simp only [this]
      have hf : (cells r).zipIdx.foldl (fun cs (x : Value × Nat) => cs.setIfInBounds (i * 32 + x.2) x.1) Z = lay (i * 32) ((cells r).toList.zipIdx 0) Z := by
        unfold lay; rw [← Array.foldl_toList, Array.toList_zipIdx]
      simp only [ne_eq, not_true_eq_false, decide_false, Bool.or_self, Bool.false_eq_true, if_false]
      exact hf ▸ h1
    · rw [h3 k (fun p hp => hk p (by simp [hp]))]
      have := hk (i, r) (by simp)
      exact lay_out _ k _ 0 Z (by rw [hl]; simpa using this)
    · rcases List.mem_cons.1 hp with rfl | hp
      · rw [h3 _ (fun p hp => by have := hne p hp; omega)]
        have := lay_in (i * 32) (cells r).toList 0 k Z (by rw [hl]; exact hk) (by rw [hl]; simpa using h0)
        simpa using this
      · exact h4 p hp k hk
theorem info_rel2 : (Try.prog.info? 28).map (fun i => (i.zero.isSome, i.size)) = some (true, 32) := by kernel_rfl
theorem und_rels : Try.prog.underlying 38 = some (.slice 28) := Try.underlying38
/-- the parts of a literal, numbered -/
def numd (rs : List Rl) : List (Nat × Rl) := (rs.zipIdx 0).map fun x => (x.2, x.1)
theorem run_rels (rs : List Rl) (hn : 0 < rs.length) (hm : rs.length ≤ 100) (w : World) : ∃ A, (Instr.buildSlice 38 rs.length ((numd rs).map fun p => (p.1, Value.agg (cells p.2))).toArray).run Try.prog w =
    .ok (.slice (some ⟨w.heap.size, 0, none⟩) rs.length rs.length) (w.alloc (.cells A 28)) ∧ ∀ j r, rs[j]? = some r → ∀ k, k < 32 → A[j * 32 + k]? = (cells r)[k]? := by
  have hi := info_rel2
  cases hq : Try.prog.info? 28 with
  | none => simp [hq] at hi
  | some i =>
    simp [hq] at hi
    obtain ⟨hz, hs⟩ := hi
    cases hz' : i.zero with
    | none => simp [hz'] at hz
    | some z =>
      have hmem : ∀ p ∈ numd rs, p.1 < rs.length ∧ rs[p.1]? = some p.2 := fun p hp => by
        unfold numd at hp
        obtain ⟨x, hx, rfl⟩ := List.mem_map.1 hp
        have := List.mk_mem_zipIdx_iff_getElem? (l := rs) (i := x.2) (x := x.1)
        have h2 := this.1 hx
        exact ⟨(List.getElem?_eq_some_iff.1 h2).1, h2⟩
      have hfst : (numd rs).map Prod.fst = List.range' 0 rs.length := by
        unfold numd; rw [List.map_map]
        show (rs.zipIdx 0).map (fun x => x.2) = _
        simp
      obtain ⟨A, h1, _, _, h4⟩ := fill_rels (numd rs) ((Array.range (rs.length * 32)).map (z.cells[· % z.cells.size]!)) (fun p hp => by have := (hmem p hp).1; simp; omega) (by rw [hfst]; exact List.nodup_range')
      refine ⟨A, ?_, fun j r hj k hk => ?_⟩
      · refine run_buildSlice w 38 28 rs.length _ A i z und_rels hq hz' (by rw [hs]; omega) (by rw [hs]; omega) ?_
        rw [hs]; simpa using h1
      · have hp : (j, r) ∈ numd rs := by
          unfold numd
          exact List.mem_map.2 ⟨(r, j), List.mk_mem_zipIdx_iff_getElem?.2 hj, rfl⟩
        exact h4 (j, r) hp k hk
theorem sn_new {w : World} {A : Array Value} {rs : List Rl} (h : ∀ j r, rs[j]? = some r → ∀ k, k < 32 → A[j * 32 + k]? = (cells r)[k]?) : Sn (w.alloc (.cells A 28)) (.slice (some ⟨w.heap.size, 0, none⟩) rs.length rs.length) rs := by
  refine ⟨w.heap.size, 0, rs.length, rfl, by simp, fun j r hj k v hv => ?_⟩
  have hk : k < 32 := by
    have := (List.getElem?_eq_some_iff.1 hv).1
    rw [Array.length_toList, cells_size] at this; exact this
  rw [cell_of_row _ _ _ A 28 (0, 0) (heap_alloc_last w _), Nat.zero_add, h j r hj k hk]
  simpa using hv

/-! ### What an operation owes -/
section
variable {ops : Array Oper} {Q : Exit → Act → World → Prop} {w : World} {tab : Nat → Cl}
/-- the operation's guard is met -/
def Gd (ops : Array Oper) (tab : Nat → Cl) (o : Oper) : Prop :=
  match o.guard with
  | none => True
  | some (j, b) => ∃ t, dstOf ops j = some t ∧ knownB ops o t = true ∧ tab t = .val (.bool b)
theorem wanted_of {o : Oper} (h : Gd ops tab o) {a : Act} {w : World} (hk : ∀ t, knownB ops o t = true → (tab t).ok (a.tmps.getD t undef) w) : Region.wanted o (yielded ops a.tmps) = true := by
  unfold Gd at h
  unfold Region.wanted
  cases hg : o.guard with
  | none => rfl
  | some p =>
    obtain ⟨j, b⟩ := p
    simp only [hg] at h
    obtain ⟨t, ht, hkn, htab⟩ := h
    have := hk t hkn
    rw [htab] at this
    have hv : a.tmps.getD t undef = .bool b := this
    simp only
    unfold yielded
    have ht' : (ops[j]?).bind (·.dst) = some t := ht
    rw [ht']
    have h2 : a.tmps[t]? = some (.bool b) := by
      rw [Array.getD_eq_getD_getElem?] at hv
      cases h3 : a.tmps[t]? with
      | none => rw [h3] at hv; cases hv
      | some x => rw [h3] at hv; rw [← hv]; rfl
    simp [h2]
/-- the operation's guard is not met -/
theorem k_skip {o : Oper} {j : Nat} {b : Bool} (t : Nat) (c : Cl) (hg : o.guard = some (j, b)) (ht : dstOf ops j = some t) (hk : knownB ops o t = true) (hc : tab t = c) (hn : c = .val (.bool !b) ∨ c = .val undef) (hd : ∀ d, o.dst = some d → tab d = .val undef) : Skp ops w tab o := fun a' w' _ hkn => by
  refine ⟨?_, fun d h => by rw [hd d h]; rfl⟩
  have h1 := hkn t hk
  rw [hc] at h1
  unfold Region.wanted
  rw [hg]
  simp only
  have ht' : (ops[j]?).bind (·.dst) = some t := ht
  have hy : yielded ops a'.tmps j ≠ some b := by
    unfold yielded
    rw [ht']
    simp only [Option.bind_some]
    intro h
    have h2 : a'.tmps.getD t undef = .bool b := by
      rw [Array.getD_eq_getD_getElem?]
      cases h3 : a'.tmps[t]? with
      | none => rw [h3] at h; simp at h
      | some x =>
        rw [h3] at h
        cases x <;> simp at h
        rw [h]; rfl
    rcases hn with rfl | rfl
    · have h3 : a'.tmps.getD t undef = .bool !b := h1
      rw [h2] at h3
      cases b <;> simp at h3
    · have h3 : a'.tmps.getD t undef = undef := h1
      rw [h2] at h3; cases h3
  simpa using hy
variable {d p q : Tmp} {ty : TypeId} {pos : String} {af : Array Edge} {gd : Option (Nat × Bool)}

theorem k_ld (r : Rl) (hk : knownB ops { dst := some d, op := .load 28 (.tmp p), type := ty, pos := pos, after := af, guard := gd } p = true) (hp : tab p = .ptr r) (hd : tab d = .val (.agg (cells r)))
    (hg : Gd ops tab { dst := some d, op := .load 28 (.tmp p), type := ty, pos := pos, after := af, guard := gd }) :
    Obl ops Q w tab { dst := some d, op := .load 28 (.tmp p), type := ty, pos := pos, after := af, guard := gd } := fun a' w' _ hc => by
  refine ⟨wanted_of hg hc, ?_⟩
  have := hc p hk
  rw [hp] at this
  obtain ⟨g, hv, ha⟩ := this
  exact ld_wp g r hv ha ⟨_, rfl, Grow.refl _, fun _ h => by cases h; rw [hd]; rfl⟩
theorem k_mv (hk : knownB ops { dst := some d, op := .move (.tmp p), type := ty, pos := pos, after := af, guard := gd } p = true) (hd : tab d = tab p)
    (hg : Gd ops tab { dst := some d, op := .move (.tmp p), type := ty, pos := pos, after := af, guard := gd }) :
    Obl ops Q w tab { dst := some d, op := .move (.tmp p), type := ty, pos := pos, after := af, guard := gd } := fun a' w' _ hc => by
  refine ⟨wanted_of hg hc, ?_⟩
  have := hc p hk
  unfold Oper.wp execOp
  simp only [Sem.run_pure, Oper.upon_value]
  exact ⟨_, rfl, Grow.refl _, fun _ h => by cases h; rw [hd]; exact this⟩
theorem k_as (hk : knownB ops { dst := some d, op := .assign (.tmp p), type := ty, pos := pos, after := af, guard := gd } p = true) (hd : tab d = tab p)
    (hg : Gd ops tab { dst := some d, op := .assign (.tmp p), type := ty, pos := pos, after := af, guard := gd }) :
    Obl ops Q w tab { dst := some d, op := .assign (.tmp p), type := ty, pos := pos, after := af, guard := gd } := fun a' w' _ hc => by
  refine ⟨wanted_of hg hc, ?_⟩
  have := hc p hk
  unfold Oper.wp execOp
  simp only [Sem.run_pure, Oper.upon_value]
  exact ⟨_, rfl, Grow.refl _, fun _ h => by cases h; rw [hd]; exact this⟩
theorem k_pt {y : Operand} (hk : knownB ops { dst := some d, op := .pick (.tmp p) (.tmp q) y, type := ty, pos := pos, after := af, guard := gd } p = true) (hk2 : knownB ops { dst := some d, op := .pick (.tmp p) (.tmp q) y, type := ty, pos := pos, after := af, guard := gd } q = true)
    (hp : tab p = .val (.bool true)) (hd : tab d = tab q) (hg : Gd ops tab { dst := some d, op := .pick (.tmp p) (.tmp q) y, type := ty, pos := pos, after := af, guard := gd }) :
    Obl ops Q w tab { dst := some d, op := .pick (.tmp p) (.tmp q) y, type := ty, pos := pos, after := af, guard := gd } := fun a' w' _ hc => by
  refine ⟨wanted_of hg hc, ?_⟩
  have h1 := hc p hk
  rw [hp] at h1
  have h1' : a'.eval (.tmp p) = .bool true := h1
  have h2 := hc q hk2
  unfold Oper.wp execOp
  simp only [h1', asBool, Sem.run_bind, Sem.run_pure, Result.andThen_ok, if_true, Oper.upon_value]
  exact ⟨_, rfl, Grow.refl _, fun _ h => by cases h; rw [hd]; exact h2⟩
theorem k_pf {x : Operand} (hk : knownB ops { dst := some d, op := .pick (.tmp p) x (.tmp q), type := ty, pos := pos, after := af, guard := gd } p = true) (hk2 : knownB ops { dst := some d, op := .pick (.tmp p) x (.tmp q), type := ty, pos := pos, after := af, guard := gd } q = true)
    (hp : tab p = .val (.bool false)) (hd : tab d = tab q) (hg : Gd ops tab { dst := some d, op := .pick (.tmp p) x (.tmp q), type := ty, pos := pos, after := af, guard := gd }) :
    Obl ops Q w tab { dst := some d, op := .pick (.tmp p) x (.tmp q), type := ty, pos := pos, after := af, guard := gd } := fun a' w' _ hc => by
  refine ⟨wanted_of hg hc, ?_⟩
  have h1 := hc p hk
  rw [hp] at h1
  have h1' : a'.eval (.tmp p) = .bool false := h1
  have h2 := hc q hk2
  unfold Oper.wp execOp
  simp only [h1', asBool, Sem.run_bind, Sem.run_pure, Result.andThen_ok, if_false, Oper.upon_value, Bool.false_eq_true]
  exact ⟨_, rfl, Grow.refl _, fun _ h => by cases h; rw [hd]; exact h2⟩
theorem k_ptc {v : Value} {y : Operand} (hk : knownB ops { dst := some d, op := .pick (.tmp p) (.const v) y, type := ty, pos := pos, after := af, guard := gd } p = true) (hp : tab p = .val (.bool true)) (hd : tab d = .val v)
    (hg : Gd ops tab { dst := some d, op := .pick (.tmp p) (.const v) y, type := ty, pos := pos, after := af, guard := gd }) :
    Obl ops Q w tab { dst := some d, op := .pick (.tmp p) (.const v) y, type := ty, pos := pos, after := af, guard := gd } := fun a' w' _ hc => by
  refine ⟨wanted_of hg hc, ?_⟩
  have h1 := hc p hk
  rw [hp] at h1
  have h1' : a'.eval (.tmp p) = .bool true := h1
  unfold Oper.wp execOp
  simp only [h1', asBool, Sem.run_bind, Sem.run_pure, Result.andThen_ok, if_true, Oper.upon_value]
  exact ⟨_, rfl, Grow.refl _, fun _ h => by cases h; rw [hd]; rfl⟩
theorem k_pfc {v : Value} {x : Operand} (hk : knownB ops { dst := some d, op := .pick (.tmp p) x (.const v), type := ty, pos := pos, after := af, guard := gd } p = true) (hp : tab p = .val (.bool false)) (hd : tab d = .val v)
    (hg : Gd ops tab { dst := some d, op := .pick (.tmp p) x (.const v), type := ty, pos := pos, after := af, guard := gd }) :
    Obl ops Q w tab { dst := some d, op := .pick (.tmp p) x (.const v), type := ty, pos := pos, after := af, guard := gd } := fun a' w' _ hc => by
  refine ⟨wanted_of hg hc, ?_⟩
  have h1 := hc p hk
  rw [hp] at h1
  have h1' : a'.eval (.tmp p) = .bool false := h1
  unfold Oper.wp execOp
  simp only [h1', asBool, Sem.run_bind, Sem.run_pure, Result.andThen_ok, if_false, Oper.upon_value, Bool.false_eq_true]
  exact ⟨_, rfl, Grow.refl _, fun _ h => by cases h; rw [hd]; rfl⟩
theorem k_eq (x y : Rl) (b : Bool) (hk : knownB ops { dst := some d, op := .binOp .eql 28 (.tmp p) (.tmp q) 28, type := ty, pos := pos, after := af, guard := gd } p = true) (hk2 : knownB ops { dst := some d, op := .binOp .eql 28 (.tmp p) (.tmp q) 28, type := ty, pos := pos, after := af, guard := gd } q = true)
    (hp : tab p = .val (.agg (cells x))) (hq : tab q = .val (.agg (cells y))) (hd : tab d = .val (.bool b)) (he : eqB x y = b)
    (hg : Gd ops tab { dst := some d, op := .binOp .eql 28 (.tmp p) (.tmp q) 28, type := ty, pos := pos, after := af, guard := gd }) :
    Obl ops Q w tab { dst := some d, op := .binOp .eql 28 (.tmp p) (.tmp q) 28, type := ty, pos := pos, after := af, guard := gd } := fun a' w' _ hc => by
  refine ⟨wanted_of hg hc, ?_⟩
  have h1 := hc p hk
  have h2 := hc q hk2
  rw [hp] at h1; rw [hq] at h2
  exact eq_wp x y h1 h2 ⟨_, rfl, Grow.refl _, fun _ h => by cases h; rw [hd, he]; rfl⟩
theorem k_ne (x y : Rl) (b : Bool) (hk : knownB ops { dst := some d, op := .binOp .neq 28 (.tmp p) (.tmp q) 28, type := ty, pos := pos, after := af, guard := gd } p = true) (hk2 : knownB ops { dst := some d, op := .binOp .neq 28 (.tmp p) (.tmp q) 28, type := ty, pos := pos, after := af, guard := gd } q = true)
    (hp : tab p = .val (.agg (cells x))) (hq : tab q = .val (.agg (cells y))) (hd : tab d = .val (.bool b)) (he : (!eqB x y) = b)
    (hg : Gd ops tab { dst := some d, op := .binOp .neq 28 (.tmp p) (.tmp q) 28, type := ty, pos := pos, after := af, guard := gd }) :
    Obl ops Q w tab { dst := some d, op := .binOp .neq 28 (.tmp p) (.tmp q) 28, type := ty, pos := pos, after := af, guard := gd } := fun a' w' _ hc => by
  refine ⟨wanted_of hg hc, ?_⟩
  have h1 := hc p hk
  have h2 := hc q hk2
  rw [hp] at h1; rw [hq] at h2
  exact ne_wp x y h1 h2 ⟨_, rfl, Grow.refl _, fun _ h => by cases h; rw [hd, he]; rfl⟩
theorem k_not (b c : Bool) (hk : knownB ops { dst := some d, op := .unOp .not 4 (.tmp p), type := ty, pos := pos, after := af, guard := gd } p = true) (hp : tab p = .val (.bool b)) (hd : tab d = .val (.bool c)) (he : (!b) = c)
    (hg : Gd ops tab { dst := some d, op := .unOp .not 4 (.tmp p), type := ty, pos := pos, after := af, guard := gd }) :
    Obl ops Q w tab { dst := some d, op := .unOp .not 4 (.tmp p), type := ty, pos := pos, after := af, guard := gd } := fun a' w' _ hc => by
  refine ⟨wanted_of hg hc, ?_⟩
  have h1 := hc p hk
  rw [hp] at h1
  have h1' : a'.eval (.tmp p) = .bool b := h1
  have hr : (Op.unary .not (.bool b)).run Try.prog w' = .ok (.bool c) w' := by rw [← he]; simp [Op.unary]
  unfold Oper.wp execOp
  simp only [h1', Sem.run_bind, hr, Sem.run_pure, Result.andThen_ok, Oper.upon_value]
  exact ⟨_, rfl, Grow.refl _, fun _ h => by cases h; rw [hd]; rfl⟩
/-- an operation on two plain values -/
theorem k_bin {op : BinOp} {t1 t2 : TypeId} {x y : Operand} (u v r : Value) (hx : ∀ (a' : Act) (w' : World), (∀ t, knownB ops { dst := some d, op := .binOp op t1 x y t2, type := ty, pos := pos, after := af, guard := gd } t = true → (tab t).ok (a'.tmps.getD t undef) w') → a'.eval x = u ∧ a'.eval y = v)
    (hd : tab d = .val r) (hr : ∀ w', (eqGuard op t1 x y u v).run Try.prog w' = .ok () w' ∧ (binOp op t1 u v).run Try.prog w' = .ok r w')
    (hg : Gd ops tab { dst := some d, op := .binOp op t1 x y t2, type := ty, pos := pos, after := af, guard := gd }) :
    Obl ops Q w tab { dst := some d, op := .binOp op t1 x y t2, type := ty, pos := pos, after := af, guard := gd } := fun a' w' _ hc => by
  refine ⟨wanted_of hg hc, ?_⟩
  obtain ⟨h1, h2⟩ := hx a' w' hc
  obtain ⟨h3, h4⟩ := hr w'
  unfold Oper.wp execOp
  simp only [h1, h2, Sem.run_bind, h3, h4, Sem.run_pure, Result.andThen_ok, Oper.upon_value]
  exact ⟨_, rfl, Grow.refl _, fun _ h => by cases h; rw [hd]; rfl⟩
theorem enters {f : FuncId} (h : ((Try.prog.funcs[f]?).map fun fn => (fn.name == "runtime.NumGoroutine", fn.body.isNone)) = some (false, false)) (args : Array Value) (w : World) : (callFunc f args).run Try.prog w = .ok (.enter f args) w := by
  cases hf : Try.prog.funcs[f]? with
  | none => simp [hf] at h
  | some fn =>
    rw [hf] at h
    simp only [Option.map_some, Option.some.injEq, Prod.mk.injEq] at h
    unfold callFunc
    simp only [Sem.run_bind, run_program, Result.andThen_ok, hf, h.1, h.2, Bool.false_eq_true, if_false, Sem.run_pure]
/-- a call -/
theorem k_call {f : FuncId} {args : Array Operand} {ats : Array TypeId} (hent : ((Try.prog.funcs[f]?).map fun fn => (fn.name == "runtime.NumGoroutine", fn.body.isNone)) = some (false, false))
    (hx : ∀ (a' : Act) (w' : World), Grow w w' → (∀ t, knownB ops { dst := some d, op := .call { callee := .value (.func f), args := args, argTypes := ats }, type := ty, pos := pos, after := af, guard := gd } t = true → (tab t).ok (a'.tmps.getD t undef) w') →
      Calls Try.prog f (args.map a'.eval) w' fun e w'' => ∃ v, e = .returned v ∧ Grow w' w'' ∧ (tab d).ok v w'')
    (hg : Gd ops tab { dst := some d, op := .call { callee := .value (.func f), args := args, argTypes := ats }, type := ty, pos := pos, after := af, guard := gd }) :
    Obl ops Q w tab { dst := some d, op := .call { callee := .value (.func f), args := args, argTypes := ats }, type := ty, pos := pos, after := af, guard := gd } := fun a' w' hgr hc => by
  refine ⟨wanted_of hg hc, ?_⟩
  have h := hx a' w' hgr hc
  have hr : (execOp a'.eval { dst := some d, op := .call { callee := .value (.func f), args := args, argTypes := ats }, type := ty, pos := pos, after := af, guard := gd }).run Try.prog w' = .ok (.enter f (args.map a'.eval)) w' := by
    unfold execOp
    simp only [resolve, Act.eval, Sem.run_bind, Deferred.ofValue, Sem.run_pure, Result.andThen_ok, invoke, Array.append_empty, Array.empty_append, enters hent]
  unfold Oper.wp
  rw [hr, Oper.upon_enter]
  refine Calls.mono h fun e w'' he => ?_
  obtain ⟨v, rfl, hg2, hok⟩ := he
  exact ⟨v, rfl, hg2, fun _ h => by cases h; exact hok⟩
theorem k_c1 {f : FuncId} {ats : Array TypeId} (x : Value) (u : Value) (hent : ((Try.prog.funcs[f]?).map fun fn => (fn.name == "runtime.NumGoroutine", fn.body.isNone)) = some (false, false)) (hk0 : knownB ops { dst := some d, op := .call { callee := .value (.func f), args := #[.tmp p], argTypes := ats }, type := ty, pos := pos, after := af, guard := gd } p = true) (hp0 : tab p = .val x) (hc : ∀ w', Calls Try.prog f #[x] w' fun e w'' => e = .returned u ∧ Grow w' w'') (hd : tab d = .val u)
    (hg : Gd ops tab { dst := some d, op := .call { callee := .value (.func f), args := #[.tmp p], argTypes := ats }, type := ty, pos := pos, after := af, guard := gd }) : Obl ops Q w tab { dst := some d, op := .call { callee := .value (.func f), args := #[.tmp p], argTypes := ats }, type := ty, pos := pos, after := af, guard := gd } :=
  k_call hent (fun a' w' _ hkn => by
    have h0 := hkn p hk0
    rw [hp0] at h0
    have e0 : a'.eval (.tmp p) = x := h0
    have hm : (#[.tmp p] : Array Operand).map a'.eval = #[x] := by simp [e0]
    rw [hm]
    refine Calls.mono (hc w') fun e w'' he => ?_
    obtain ⟨rfl, hgr⟩ := he
    exact ⟨u, rfl, hgr, by rw [hd]; rfl⟩) hg
theorem k_c2 {f : FuncId} {ats : Array TypeId} (x y : Value) (u : Value) (hent : ((Try.prog.funcs[f]?).map fun fn => (fn.name == "runtime.NumGoroutine", fn.body.isNone)) = some (false, false)) (hk0 : knownB ops { dst := some d, op := .call { callee := .value (.func f), args := #[.tmp p, .tmp q], argTypes := ats }, type := ty, pos := pos, after := af, guard := gd } p = true) (hp0 : tab p = .val x) (hk1 : knownB ops { dst := some d, op := .call { callee := .value (.func f), args := #[.tmp p, .tmp q], argTypes := ats }, type := ty, pos := pos, after := af, guard := gd } q = true) (hp1 : tab q = .val y) (hc : ∀ w', Calls Try.prog f #[x, y] w' fun e w'' => e = .returned u ∧ Grow w' w'') (hd : tab d = .val u)
    (hg : Gd ops tab { dst := some d, op := .call { callee := .value (.func f), args := #[.tmp p, .tmp q], argTypes := ats }, type := ty, pos := pos, after := af, guard := gd }) : Obl ops Q w tab { dst := some d, op := .call { callee := .value (.func f), args := #[.tmp p, .tmp q], argTypes := ats }, type := ty, pos := pos, after := af, guard := gd } :=
  k_call hent (fun a' w' _ hkn => by
    have h0 := hkn p hk0
    rw [hp0] at h0
    have e0 : a'.eval (.tmp p) = x := h0
    have h1 := hkn q hk1
    rw [hp1] at h1
    have e1 : a'.eval (.tmp q) = y := h1
    have hm : (#[.tmp p, .tmp q] : Array Operand).map a'.eval = #[x, y] := by simp [e0, e1]
    rw [hm]
    refine Calls.mono (hc w') fun e w'' he => ?_
    obtain ⟨rfl, hgr⟩ := he
    exact ⟨u, rfl, hgr, by rw [hd]; rfl⟩) hg
theorem k_c3 {f : FuncId} {ats : Array TypeId} {s : Tmp} (x y z : Value) (u : Value) (hent : ((Try.prog.funcs[f]?).map fun fn => (fn.name == "runtime.NumGoroutine", fn.body.isNone)) = some (false, false)) (hk0 : knownB ops { dst := some d, op := .call { callee := .value (.func f), args := #[.tmp p, .tmp q, .tmp s], argTypes := ats }, type := ty, pos := pos, after := af, guard := gd } p = true) (hp0 : tab p = .val x) (hk1 : knownB ops { dst := some d, op := .call { callee := .value (.func f), args := #[.tmp p, .tmp q, .tmp s], argTypes := ats }, type := ty, pos := pos, after := af, guard := gd } q = true) (hp1 : tab q = .val y) (hk2 : knownB ops { dst := some d, op := .call { callee := .value (.func f), args := #[.tmp p, .tmp q, .tmp s], argTypes := ats }, type := ty, pos := pos, after := af, guard := gd } s = true) (hp2 : tab s = .val z) (hc : ∀ w', Calls Try.prog f #[x, y, z] w' fun e w'' => e = .returned u ∧ Grow w' w'') (hd : tab d = .val u)
    (hg : Gd ops tab { dst := some d, op := .call { callee := .value (.func f), args := #[.tmp p, .tmp q, .tmp s], argTypes := ats }, type := ty, pos := pos, after := af, guard := gd }) : Obl ops Q w tab { dst := some d, op := .call { callee := .value (.func f), args := #[.tmp p, .tmp q, .tmp s], argTypes := ats }, type := ty, pos := pos, after := af, guard := gd } :=
  k_call hent (fun a' w' _ hkn => by
    have h0 := hkn p hk0
    rw [hp0] at h0
    have e0 : a'.eval (.tmp p) = x := h0
    have h1 := hkn q hk1
    rw [hp1] at h1
    have e1 : a'.eval (.tmp q) = y := h1
    have h2 := hkn s hk2
    rw [hp2] at h2
    have e2 : a'.eval (.tmp s) = z := h2
    have hm : (#[.tmp p, .tmp q, .tmp s] : Array Operand).map a'.eval = #[x, y, z] := by simp [e0, e1, e2]
    rw [hm]
    refine Calls.mono (hc w') fun e w'' he => ?_
    obtain ⟨rfl, hgr⟩ := he
    exact ⟨u, rfl, hgr, by rw [hd]; rfl⟩) hg
theorem k_h {f : FuncId} {ats : Array TypeId} {y z : Value} (x : Value) (u : Value) (hent : ((Try.prog.funcs[f]?).map fun fn => (fn.name == "runtime.NumGoroutine", fn.body.isNone)) = some (false, false)) (hk0 : knownB ops { dst := some d, op := .call { callee := .value (.func f), args := #[.tmp p, .const y, .const z], argTypes := ats }, type := ty, pos := pos, after := af, guard := gd } p = true) (hp0 : tab p = .val x) (hc : ∀ w', Calls Try.prog f #[x, y, z] w' fun e w'' => e = .returned u ∧ Grow w' w'') (hd : tab d = .val u)
    (hg : Gd ops tab { dst := some d, op := .call { callee := .value (.func f), args := #[.tmp p, .const y, .const z], argTypes := ats }, type := ty, pos := pos, after := af, guard := gd }) : Obl ops Q w tab { dst := some d, op := .call { callee := .value (.func f), args := #[.tmp p, .const y, .const z], argTypes := ats }, type := ty, pos := pos, after := af, guard := gd } :=
  k_call hent (fun a' w' _ hkn => by
    have h0 := hkn p hk0
    rw [hp0] at h0
    have e0 : a'.eval (.tmp p) = x := h0
    have hm : (#[.tmp p, .const y, .const z] : Array Operand).map a'.eval = #[x, y, z] := by
      simp only [List.map_toArray, List.map_cons, List.map_nil]; rw [e0]; rfl
    rw [hm]
    refine Calls.mono (hc w') fun e w'' he => ?_
    obtain ⟨rfl, hgr⟩ := he
    exact ⟨u, rfl, hgr, by rw [hd]; rfl⟩) hg
theorem k_k1 {f : FuncId} {ats : Array TypeId} {y : Value} (u : Value) (hent : ((Try.prog.funcs[f]?).map fun fn => (fn.name == "runtime.NumGoroutine", fn.body.isNone)) = some (false, false))  (hc : ∀ w', Calls Try.prog f #[y] w' fun e w'' => e = .returned u ∧ Grow w' w'') (hd : tab d = .val u)
    (hg : Gd ops tab { dst := some d, op := .call { callee := .value (.func f), args := #[.const y], argTypes := ats }, type := ty, pos := pos, after := af, guard := gd }) : Obl ops Q w tab { dst := some d, op := .call { callee := .value (.func f), args := #[.const y], argTypes := ats }, type := ty, pos := pos, after := af, guard := gd } :=
  k_call hent (fun a' w' _ hkn => by
    have hm : (#[.const y] : Array Operand).map a'.eval = #[y] := by simp [Act.eval]
    rw [hm]
    refine Calls.mono (hc w') fun e w'' he => ?_
    obtain ⟨rfl, hgr⟩ := he
    exact ⟨u, rfl, hgr, by rw [hd]; rfl⟩) hg
theorem k_s1 {f : FuncId} {ats : Array TypeId} (rs : List Rl) (u : Value) (hent : ((Try.prog.funcs[f]?).map fun fn => (fn.name == "runtime.NumGoroutine", fn.body.isNone)) = some (false, false)) (hk : knownB ops { dst := some d, op := .call { callee := .value (.func f), args := #[.tmp p], argTypes := ats }, type := ty, pos := pos, after := af, guard := gd } p = true) (hp : tab p = .sl rs)
    (hc : ∀ v w', Sn w' v rs → Calls Try.prog f #[v] w' fun e w'' => e = .returned u ∧ Grow w' w'') (hd : tab d = .val u) (hg : Gd ops tab { dst := some d, op := .call { callee := .value (.func f), args := #[.tmp p], argTypes := ats }, type := ty, pos := pos, after := af, guard := gd }) : Obl ops Q w tab { dst := some d, op := .call { callee := .value (.func f), args := #[.tmp p], argTypes := ats }, type := ty, pos := pos, after := af, guard := gd } :=
  k_call hent (fun a' w' _ hkn => by
    have h0 := hkn p hk
    rw [hp] at h0
    have hm : (#[.tmp p] : Array Operand).map a'.eval = #[a'.tmps.getD p undef] := by
      simp only [List.map_toArray, List.map_cons, List.map_nil]; rfl
    rw [hm]
    refine Calls.mono (hc (a'.tmps.getD p undef) w' h0) fun e w'' he => ?_
    obtain ⟨rfl, hgr⟩ := he
    exact ⟨u, rfl, hgr, by rw [hd]; rfl⟩) hg
theorem k_a1 {f : FuncId} {ats : Array TypeId} (x : Value) (hent : ((Try.prog.funcs[f]?).map fun fn => (fn.name == "runtime.NumGoroutine", fn.body.isNone)) = some (false, false)) (hk : knownB ops { dst := some d, op := .call { callee := .value (.func f), args := #[.tmp p], argTypes := ats }, type := ty, pos := pos, after := af, guard := gd } p = true) (hp : tab p = .val x)
    (hc : ∀ w', Calls Try.prog f #[x] w' fun e w'' => ∃ v, e = .returned v ∧ Grow w' w'' ∧ (tab d).ok v w'') (hg : Gd ops tab { dst := some d, op := .call { callee := .value (.func f), args := #[.tmp p], argTypes := ats }, type := ty, pos := pos, after := af, guard := gd }) : Obl ops Q w tab { dst := some d, op := .call { callee := .value (.func f), args := #[.tmp p], argTypes := ats }, type := ty, pos := pos, after := af, guard := gd } :=
  k_call hent (fun a' w' _ hkn => by
    have h0 := hkn p hk
    rw [hp] at h0
    have e0 : a'.eval (.tmp p) = x := h0
    have hm : (#[.tmp p] : Array Operand).map a'.eval = #[x] := by simp [e0]
    rw [hm]; exact hc w') hg
theorem grow_of {f : FuncId} {xs : Array Value} {r : Ending} {w : World} (h : Calls Try.prog f xs w fun e w' => e = r ∧ w' = w) : Calls Try.prog f xs w fun e w' => e = r ∧ Grow w w' :=
  Calls.mono h fun _ _ he => ⟨he.1, by rw [he.2]; exact Grow.refl _⟩
theorem calls_val {f : FuncId} {xs : Array Value} {u v : Value} {w : World} (h : Calls Try.prog f xs w fun e w' => e = .returned u ∧ Grow w w') (he : u = v) : Calls Try.prog f xs w fun e w' => e = .returned v ∧ Grow w w' := he ▸ h
theorem k_b2 (x y : Rl) (hk0 : knownB ops { dst := some d, op := .buildSlice 38 2 #[(0, .tmp p), (1, .tmp q)], type := ty, pos := pos, after := af, guard := gd } p = true) (hp0 : tab p = .val (.agg (cells x))) (hk1 : knownB ops { dst := some d, op := .buildSlice 38 2 #[(0, .tmp p), (1, .tmp q)], type := ty, pos := pos, after := af, guard := gd } q = true) (hp1 : tab q = .val (.agg (cells y))) (hd : tab d = .sl [x, y]) (hg : Gd ops tab { dst := some d, op := .buildSlice 38 2 #[(0, .tmp p), (1, .tmp q)], type := ty, pos := pos, after := af, guard := gd }) : Obl ops Q w tab { dst := some d, op := .buildSlice 38 2 #[(0, .tmp p), (1, .tmp q)], type := ty, pos := pos, after := af, guard := gd } := fun a' w' _ hc => by
  refine ⟨wanted_of hg hc, ?_⟩
  have h0 := hc p hk0
  rw [hp0] at h0
  have e0 : a'.eval (.tmp p) = .agg (cells x) := h0
  have h1 := hc q hk1
  rw [hp1] at h1
  have e1 : a'.eval (.tmp q) = .agg (cells y) := h1
  obtain ⟨A, h, hA⟩ := run_rels [x, y] (by simp) (by simp) w'
  have hr : (execOp a'.eval { dst := some d, op := .buildSlice 38 2 #[(0, .tmp p), (1, .tmp q)], type := ty, pos := pos, after := af, guard := gd }).run Try.prog w' = .ok (.value (.slice (some ⟨w'.heap.size, 0, none⟩) 2 2)) (w'.alloc (.cells A 28)) := by
    unfold execOp
    have hm : (#[(0, .tmp p), (1, .tmp q)] : Array (Nat × Operand)).map (fun (i, x) => (i, a'.eval x)) = ((numd [x, y]).map fun p => (p.1, Value.agg (cells p.2))).toArray := by
      simp [numd, e0, e1]
    have hm' : (#[(0, .tmp p), (1, .tmp q)] : Array (Nat × Operand)).map (fun x => (x.1, a'.eval x.2)) = ((numd [x, y]).map fun p => (p.1, Value.agg (cells p.2))).toArray := hm
    simp only [Sem.run_bind, hm']
    have h' := h
    simp only [List.length_cons, List.length_nil, Nat.zero_add, Nat.reduceAdd] at h'
    rw [h']; rfl
  unfold Oper.wp
  rw [hr, Oper.upon_value]
  exact ⟨_, rfl, (Grow.refl _).alloc _, fun _ h => by cases h; rw [hd]; exact sn_new hA⟩
theorem k_b3 {s : Tmp} (x y z : Rl) (hk0 : knownB ops { dst := some d, op := .buildSlice 38 3 #[(0, .tmp p), (1, .tmp q), (2, .tmp s)], type := ty, pos := pos, after := af, guard := gd } p = true) (hp0 : tab p = .val (.agg (cells x))) (hk1 : knownB ops { dst := some d, op := .buildSlice 38 3 #[(0, .tmp p), (1, .tmp q), (2, .tmp s)], type := ty, pos := pos, after := af, guard := gd } q = true) (hp1 : tab q = .val (.agg (cells y))) (hk2 : knownB ops { dst := some d, op := .buildSlice 38 3 #[(0, .tmp p), (1, .tmp q), (2, .tmp s)], type := ty, pos := pos, after := af, guard := gd } s = true) (hp2 : tab s = .val (.agg (cells z))) (hd : tab d = .sl [x, y, z]) (hg : Gd ops tab { dst := some d, op := .buildSlice 38 3 #[(0, .tmp p), (1, .tmp q), (2, .tmp s)], type := ty, pos := pos, after := af, guard := gd }) : Obl ops Q w tab { dst := some d, op := .buildSlice 38 3 #[(0, .tmp p), (1, .tmp q), (2, .tmp s)], type := ty, pos := pos, after := af, guard := gd } := fun a' w' _ hc => by
  refine ⟨wanted_of hg hc, ?_⟩
  have h0 := hc p hk0
  rw [hp0] at h0
  have e0 : a'.eval (.tmp p) = .agg (cells x) := h0
  have h1 := hc q hk1
  rw [hp1] at h1
  have e1 : a'.eval (.tmp q) = .agg (cells y) := h1
  have h2 := hc s hk2
  rw [hp2] at h2
  have e2 : a'.eval (.tmp s) = .agg (cells z) := h2
  obtain ⟨A, h, hA⟩ := run_rels [x, y, z] (by simp) (by simp) w'
  have hr : (execOp a'.eval { dst := some d, op := .buildSlice 38 3 #[(0, .tmp p), (1, .tmp q), (2, .tmp s)], type := ty, pos := pos, after := af, guard := gd }).run Try.prog w' = .ok (.value (.slice (some ⟨w'.heap.size, 0, none⟩) 3 3)) (w'.alloc (.cells A 28)) := by
    unfold execOp
    have hm : (#[(0, .tmp p), (1, .tmp q), (2, .tmp s)] : Array (Nat × Operand)).map (fun (i, x) => (i, a'.eval x)) = ((numd [x, y, z]).map fun p => (p.1, Value.agg (cells p.2))).toArray := by
      simp [numd, e0, e1, e2]
    have hm' : (#[(0, .tmp p), (1, .tmp q), (2, .tmp s)] : Array (Nat × Operand)).map (fun x => (x.1, a'.eval x.2)) = ((numd [x, y, z]).map fun p => (p.1, Value.agg (cells p.2))).toArray := hm
    simp only [Sem.run_bind, hm']
    have h' := h
    simp only [List.length_cons, List.length_nil, Nat.zero_add, Nat.reduceAdd] at h'
    rw [h']; rfl
  unfold Oper.wp
  rw [hr, Oper.upon_value]
  exact ⟨_, rfl, (Grow.refl _).alloc _, fun _ h => by cases h; rw [hd]; exact sn_new hA⟩
theorem k_len (n : Nat) (P : Value → World → Prop) (hP : ∀ v w w', Grow w w' → P v w → P v w') (hk : knownB ops { dst := some d, op := .call { callee := .builtin .len, args := #[.tmp p], argTypes := #[22] }, type := ty, pos := pos, after := af, guard := gd } p = true) (hp : tab p = .any P hP) (hn : ∀ v w, P v w → ∃ ad cap, v = .slice ad n cap) (hd : tab d = .val (.int .i64 n))
    (hg : Gd ops tab { dst := some d, op := .call { callee := .builtin .len, args := #[.tmp p], argTypes := #[22] }, type := ty, pos := pos, after := af, guard := gd }) : Obl ops Q w tab { dst := some d, op := .call { callee := .builtin .len, args := #[.tmp p], argTypes := #[22] }, type := ty, pos := pos, after := af, guard := gd } := fun a' w' _ hc => by
  refine ⟨wanted_of hg hc, ?_⟩
  have h0 := hc p hk
  rw [hp] at h0
  obtain ⟨ad, cap, hv⟩ := hn _ _ h0
  have e0 : a'.eval (.tmp p) = .slice ad n cap := hv
  have hr : (execOp a'.eval { dst := some d, op := .call { callee := .builtin .len, args := #[.tmp p], argTypes := #[22] }, type := ty, pos := pos, after := af, guard := gd }).run Try.prog w' = .ok (.value (.int .i64 n)) w' := by
    have hm : (#[.tmp p] : Array Operand).map a'.eval = #[.slice ad n cap] := by simp only [List.map_toArray, List.map_cons, List.map_nil]; rw [e0]
    unfold execOp
    simp only [resolve, Sem.run_bind, Sem.run_pure, Result.andThen_ok, invoke, builtin, hm]
    simp [Builtin.len_, run_underlying Try.underlying22, goInt]
  unfold Oper.wp
  rw [hr, Oper.upon_value]
  exact ⟨_, rfl, Grow.refl _, fun _ h => by cases h; rw [hd]; rfl⟩
end

theorem eqi {t : TypeId} {k : IntKind} (x y : Operand) (a b : Int) (r : Bool) (h : (a == b) = r) (w' : World) :
    (eqGuard .eql t x y (.int k a) (.int k b)).run Try.prog w' = .ok () w' ∧ (binOp .eql t (.int k a) (.int k b)).run Try.prog w' = .ok (.bool r) w' := by
  subst h
  constructor
  · simp [eqGuard]
  · simp [binOp, Op.intCmp]
theorem nei {t : TypeId} {k : IntKind} (x y : Operand) (a b : Int) (r : Bool) (h : (!(a == b)) = r) (w' : World) :
    (eqGuard .neq t x y (.int k a) (.int k b)).run Try.prog w' = .ok () w' ∧ (binOp .neq t (.int k a) (.int k b)).run Try.prog w' = .ok (.bool r) w' := by
  subst h
  constructor
  · simp [eqGuard]
  · simp [binOp, Op.intCmp, bne]
theorem neb (x y : Operand) (a b r : Bool) (h : (a != b) = r) (w' : World) :
    (eqGuard .neq 4 x y (.bool a) (.bool b)).run Try.prog w' = .ok () w' ∧ (binOp .neq 4 (.bool a) (.bool b)).run Try.prog w' = .ok (.bool r) w' := by
  subst h
  constructor
  · simp [eqGuard]
  · have h := run_equalIn_bool' (P := Try.prog) w' 9999 4 a b Try.underlying4
    simp [binOp, Op.equal, Op.maxDepth, h, bne]
theorem eqb (x y : Operand) (a b r : Bool) (h : (a == b) = r) (w' : World) :
    (eqGuard .eql 4 x y (.bool a) (.bool b)).run Try.prog w' = .ok () w' ∧ (binOp .eql 4 (.bool a) (.bool b)).run Try.prog w' = .ok (.bool r) w' := by
  subst h
  constructor
  · simp [eqGuard]
  · have h := run_equalIn_bool' (P := Try.prog) w' 9999 4 a b Try.underlying4
    simp [binOp, Op.equal, Op.maxDepth, h]
section
variable {ops : Array Oper} {rest : List Oper} {a : Act} {w : World} {Q : Exit → Act → World → Prop}
/-- a new variable for a relation, in a plain region -/
theorem al {d : Option Tmp} {ty : TypeId} {pos : String} {af : Array Edge} (g : Nat) (hg : w.heap.size = g) (h : wpList Try.prog ops Q rest (a.put d (.pointer (some ⟨g, 0, none⟩))) (w.alloc (.cells (cells nil) 28))) :
    wpList Try.prog ops Q ({ dst := d, op := .alloc 28, type := ty, pos := pos, after := af, guard := none } :: rest) a w := by
  subst hg
  refine wpList_plain rfl fun _ hK => ?_
  have hi : (Try.prog.info? 28).map (fun i => (i.zero, i.size)) = some (some (.agg (Array.replicate 32 (Value.int .u32 0))), 32) := by kernel_rfl
  have hr : (execOp a.eval { dst := d, op := .alloc 28, type := ty, pos := pos, after := af, guard := none }).run Try.prog w = .ok (.value (.pointer (some ⟨w.heap.size, 0, none⟩))) (w.alloc (.cells (cells nil) 28)) := by
    have hz := (zero_of_info hi).1 w
    unfold execOp
    rw [← cells_nil]
    simp only [Instr.alloc, newVar, newRow, Sem.run_bind, hz, Result.andThen_ok, Value.cells]
    rfl
  unfold Oper.wp
  rw [hr, Oper.upon_value]
  exact hK _ _ h
/-- a slice literal of two relations, in a plain region -/
theorem bs2 {d : Option Tmp} {p q : Tmp} {ty : TypeId} {pos : String} {af : Array Edge} (x y : Rl) (hp : a.eval (.tmp p) = .agg (cells x)) (hq : a.eval (.tmp q) = .agg (cells y))
    (h : ∀ v w', Grow w w' → Sn w' v [x, y] → wpList Try.prog ops Q rest (a.put d v) w') :
    wpList Try.prog ops Q ({ dst := d, op := .buildSlice 38 2 #[(0, .tmp p), (1, .tmp q)], type := ty, pos := pos, after := af, guard := none } :: rest) a w := by
  refine wpList_plain rfl fun _ hK => ?_
  obtain ⟨A, h1, hA⟩ := run_rels [x, y] (by simp) (by simp) w
  have hm' : (#[(0, .tmp p), (1, .tmp q)] : Array (Nat × Operand)).map (fun x => (x.1, a.eval x.2)) = ((numd [x, y]).map fun p => (p.1, Value.agg (cells p.2))).toArray := by simp [numd, hp, hq]
  have hr : (execOp a.eval { dst := d, op := .buildSlice 38 2 #[(0, .tmp p), (1, .tmp q)], type := ty, pos := pos, after := af, guard := none }).run Try.prog w = .ok (.value (.slice (some ⟨w.heap.size, 0, none⟩) 2 2)) (w.alloc (.cells A 28)) := by
    unfold execOp
    simp only [Sem.run_bind, hm']
    have h' := h1
    simp only [List.length_cons, List.length_nil, Nat.zero_add, Nat.reduceAdd] at h'
    rw [h']; rfl
  unfold Oper.wp
  rw [hr, Oper.upon_value]
  exact hK _ _ (h _ _ ((Grow.refl _).alloc _) (sn_new hA))
end

/-! ### The table of claims -/
def free : Cl := .any (fun _ _ => True) (fun _ _ _ _ h => h)
def tabOf (L : List (Nat × Cl)) (t : Nat) : Cl := (L.lookup t).getD free
theorem tab_out {a : Act} {w : World} {l : List Oper} (Lo Li : List (Nat × Cl)) (hi : (Li.all fun x => l.any fun o => o.dst == some x.1) = true) (ho : ∀ x ∈ Lo, x.2.ok (a.tmps.getD x.1 undef) w) :
    ∀ t, (∀ o ∈ l, o.dst ≠ some t) → (tabOf (Lo ++ Li) t).ok (a.tmps.getD t undef) w := by
  intro t ht
  unfold tabOf
  cases hl : (Lo ++ Li).lookup t with
  | none => trivial
  | some c =>
    have hmem : (t, c) ∈ Lo ++ Li := by
      obtain ⟨l1, l2, h1, _⟩ := List.lookup_eq_some_iff.1 hl
      rw [h1]; simp
    rcases List.mem_append.1 hmem with h | h
    · exact ho (t, c) h
    · exfalso
      have := (List.all_eq_true.1 hi) (t, c) h
      obtain ⟨o, ho', hd⟩ := List.any_eq_true.1 this
      exact ht o ho' (by simpa using hd)

end Go.Proofs.Ytlbccddhcbcpoaa
/- What List returns, for every input: a row of numbers in new memory. -/
namespace Go.Proofs.Ytlbccddhcbcpoaa
open Go.RowKit

/-- a row's elements as cells -/
def nums (l : List Nat) : List Value := l.map fun n : Nat => Value.int .i64 (n : Int)
theorem nums_len (l : List Nat) : (nums l).length = l.length * 1 := by simp [nums]
theorem nums_snoc (l : List Nat) (n : Nat) : nums (l ++ [n]) = nums l ++ [Value.int .i64 n] := by simp [nums]
/-- a value is a row of these numbers -/
def Il (w : World) (v : Value) (l : List Nat) : Prop := w.ownsRow 0 3 1 v l.length (nums l)
theorem own_grow {w w' : World} {b : Nat} {e : TypeId} {s n : Nat} {v : Value} {xs : List Value} (hg : Grow w w') (h : w.ownsRow b e s v n xs) : w'.ownsRow b e s v n xs := by
  obtain ⟨h1, h2⟩ := h
  refine ⟨h1, ?_⟩
  rcases h2 with h2 | ⟨g, cap, cur, hv, hb, hgg, h3⟩
  · exact .inl h2
  · exact .inr ⟨g, cap, cur, hv, hb, by rw [hg.block g (Array.getElem?_eq_some_iff.1 hgg).1]; exact hgg, h3⟩
theorem own_zero {w : World} {b : Nat} {e : TypeId} {s n : Nat} {v : Value} {xs : List Value} (h : w.ownsRow b e s v n xs) : w.ownsRow 0 e s v n xs := by
  obtain ⟨h1, h2⟩ := h
  refine ⟨h1, ?_⟩
  rcases h2 with h2 | ⟨g, cap, cur, hv, hb, h3⟩
  · exact .inl h2
  · exact .inr ⟨g, cap, cur, hv, Nat.zero_le _, h3⟩
theorem own_block {w : World} {b : Nat} {e : TypeId} {s n : Nat} {v : Value} {xs : List Value} (h : w.ownsRow b e s v n xs) : ∀ k, v.ownBlock = some k → b ≤ k := by
  intro k hk
  rcases h.2 with ⟨rfl, _⟩ | ⟨g, cap, cur, rfl, hb, _⟩
  · simp [Value.ownBlock] at hk
  · simp [Value.ownBlock] at hk; omega
theorem own_drew {w : World} {b : Nat} {e : TypeId} {s n : Nat} {v : Value} {xs : List Value} (h : w.ownsRow b e s v n xs) : w.drew.ownsRow b e s v n xs := h
theorem own_alloc {w : World} {b : Nat} {e : TypeId} {s n : Nat} {v : Value} {xs : List Value} (h : w.ownsRow b e s v n xs) (o : Obj) : (w.alloc o).ownsRow b e s v n xs := own_grow ((Grow.refl w).alloc o) h
theorem Il.grow {w w' : World} {v : Value} {l : List Nat} (hg : Grow w w') (h : Il w v l) : Il w' v l := own_grow hg h
theorem Il.form {w : World} {v : Value} {l : List Nat} (h : Il w v l) : ∃ ad cap, v = .slice ad l.length cap := by
  rcases h.2 with ⟨hv, hn⟩ | ⟨g, cap, cur, hv, _⟩
  · exact ⟨none, 0, by rw [hv, hn]⟩
  · exact ⟨_, _, hv⟩
theorem Il.cell {w : World} {v : Value} {l : List Nat} (h : Il w v l) {j x : Nat} (hj : l[j]? = some x) : ∃ g cap, v = .slice (some ⟨g, 0, none⟩) l.length cap ∧ g < w.heap.size ∧ w.cell? ⟨g, j, none⟩ = some (.int .i64 x) := by
  have hjl : j < l.length := (List.getElem?_eq_some_iff.1 hj).1
  rcases h.2 with ⟨hv, hn⟩ | ⟨g, cap, cur, hv, _, hg, hl, _, hs, ht⟩
  · omega
  · refine ⟨g, cap, hv, (Array.getElem?_eq_some_iff.1 hg).1, ?_⟩
    rw [cell_of_row w g j cur _ _ hg]
    have h1 : (cur.toList.take (l.length * 1))[j]? = (nums l)[j]? := by rw [ht]
    rw [List.getElem?_take_of_lt (by omega)] at h1
    rw [← Array.getElem?_toList, h1]
    simp [nums, hj]
/-- the events of a set below n, rising -/
def lst (s : St) (n : Nat) : List Nat := (List.range n).filter (inn s)
theorem lst_yes {s : St} {n : Nat} (h : inn s n = true) : lst s (n + 1) = lst s n ++ [n] := by
  unfold lst; rw [List.range_succ, List.filter_append]; simp [h]
theorem lst_no {s : St} {n : Nat} (h : inn s n = false) : lst s (n + 1) = lst s n := by
  unfold lst; rw [List.range_succ, List.filter_append]; simp [h]
theorem lst_len (s : St) (n : Nat) : (lst s n).length ≤ n := by
  unfold lst; have := List.length_filter_le (inn s) (List.range n); simpa using this
theorem lst_zero (s : St) : lst s 0 = [] := rfl
theorem own_nums (w : World) (b : Nat) (e : TypeId) (s : Nat) : w.ownsRow b e s (.slice none 0 0) ([] : List Nat).length (nums []) := ⟨by simp [nums], .inl ⟨rfl, rfl⟩⟩
theorem info_int : (Try.prog.info? 3).map (fun i => (i.zero, i.size, i.bytes)) = some (some (.int .i64 0), 1, 8) := by kernel_rfl
theorem info_int' : ∃ i, Try.prog.info? 3 = some i ∧ i.zero = some (.int .i64 0) ∧ i.size = 1 ∧ i.bytes = 8 := by
  have h := info_int
  cases hq : Try.prog.info? 3 with
  | none => simp [hq] at h
  | some i => simp [hq] at h; exact ⟨i, rfl, h.1, h.2.1, h.2.2⟩
/-- behind an append: what is not the row itself is as it was; the row stayed where it was, or lies behind all that was there -/
structure Moved (w w' : World) (v v' : Value) : Prop where
  size : w.heap.size ≤ w'.heap.size
  block : ∀ k, k < w.heap.size → v.ownBlock ≠ some k → w'.heap[k]? = w.heap[k]?
  lies : v'.ownBlock = v.ownBlock ∨ v'.ownBlock = some w.heap.size
theorem own_lt {w : World} {b : Nat} {e : TypeId} {s n : Nat} {v : Value} {xs : List Value} (h : w.ownsRow b e s v n xs) : ∀ k, v.ownBlock = some k → k < w.heap.size := by
  intro k hk
  rcases h.2 with ⟨rfl, _⟩ | ⟨g, cap, cur, rfl, hb, hg, _⟩
  · simp [Value.ownBlock] at hk
  · simp [Value.ownBlock] at hk; subst hk; exact (Array.getElem?_eq_some_iff.1 hg).1
theorem own_keep {w w' : World} {b : Nat} {e : TypeId} {s n : Nat} {v : Value} {xs : List Value} (h : w.ownsRow b e s v n xs) (hk : ∀ k, v.ownBlock = some k → w'.heap[k]? = w.heap[k]?) : w'.ownsRow b e s v n xs := by
  obtain ⟨h1, h2⟩ := h
  refine ⟨h1, ?_⟩
  rcases h2 with h2 | ⟨g, cap, cur, rfl, hb, hgg, h3⟩
  · exact .inl h2
  · exact .inr ⟨g, cap, cur, rfl, hb, by rw [hk g rfl]; exact hgg, h3⟩
/-- two rows lie in two blocks, the one in the heap -/
def Apart (w : World) (u v : Value) : Prop := ∀ k, u.ownBlock = some k → k < w.heap.size ∧ v.ownBlock ≠ some k
theorem Apart.moved {w w' : World} {u v v' : Value} (h : Apart w u v) (hm : Moved w w' v v') : Apart w' u v' := fun k hk => by
  obtain ⟨h1, h2⟩ := h k hk
  refine ⟨Nat.lt_of_lt_of_le h1 hm.size, ?_⟩
  rcases hm.lies with e | e
  · rw [e]; exact h2
  · rw [e]; intro h; cases h; omega
theorem Apart.alloc {w : World} {u v : Value} (h : Apart w u v) (o : Obj) : Apart (w.alloc o) u v := fun k hk => ⟨by have := (h k hk).1; simp; omega, (h k hk).2⟩
theorem own_moved {w w' : World} {u v v' : Value} {b : Nat} {e : TypeId} {s n : Nat} {xs : List Value} (h : w.ownsRow b e s u n xs) (ha : Apart w u v) (hm : Moved w w' v v') : w'.ownsRow b e s u n xs :=
  own_keep h fun k hk => hm.block k (ha k hk).1 (ha k hk).2
theorem apart_new {w w' : World} {u v : Value} {b : Nat} {e e' : TypeId} {s n s' n' : Nat} {xs xs' : List Value} (hv : w.ownsRow b e s v n xs) (hu : w'.ownsRow w.heap.size e' s' u n' xs') : Apart w' u v := fun k hk =>
  ⟨own_lt hu k hk, fun h => by have h1 := own_block hu k hk; have h2 := own_lt hv k h; omega⟩
section
variable {ops : Array Oper} {rest : List Oper} {a : Act} {Q : Exit → Act → World → Prop}
/-- one number is appended to a row of the call's own -/
theorem app1 (w : World) {d : Option Tmp} {p q : Tmp} {ty : TypeId} {pos : String} {af : Array Edge} (B : Nat) (l : List Nat) (n g : Nat) (v : Value) (hp : a.eval (.tmp p) = v) (hq : a.eval (.tmp q) = .slice (some ⟨g, 0, none⟩) 1 1)
    (hc : w.cell? ⟨g, 0, none⟩ = some (.int .i64 n)) (ho : w.ownsRow B 3 1 v l.length (nums l)) (hl : l.length ≤ 100000) (hB : B ≤ w.heap.size)
    (h : ∀ v' w', w'.ownsRow B 3 1 v' (l ++ [n]).length (nums (l ++ [n])) → Below B w w' → Moved w w' v v' → wpList Try.prog ops Q rest (a.put d v') w') :
    wpList Try.prog ops Q ({ dst := d, op := .call { callee := .builtin .append, args := #[.tmp p, .tmp q], argTypes := #[22, 22] }, type := ty, pos := pos, after := af, guard := none } :: rest) a w := by
  obtain ⟨i, hi, hz, hs, hb⟩ := info_int'
  refine wpList_append_own_at w rfl (.tmp p) (.tmp q) 22 rfl B 3 i (.int .i64 0) 1 8 Try.underlying22 hi hz hs hb rfl (by decide) v l.length (nums l) hp ho ⟨g, 0, none⟩ 1 1 [.int .i64 n] hq rfl ?_ ?_ (by unfold maxLen; omega) (by omega) hB ?_
  · intro j u hj
    match j, hj with
    | 0, hj => simp at hj; subst hj; rw [Addr.add_mid]; exact hc
  · intro u hu; simp at hu; subst hu; rfl
  · intro v' w' h1 h2 _ h4
    exact h v' w' (by rw [nums_snoc, List.length_append]; exact h1) ((Below.refl B w).grown h2 hB (own_block ho)) ⟨h2.size, fun k hk hne => h2.block k hk (Ne.symm hne), h4⟩
end
attribute [local irreducible] wpList cells row U aft inn one nil part upd idr crs mns eqB evB stepP plusT invT uni met sqs or2 and2 seq2 allS lst nums

set_option maxHeartbeats 2000000 in
theorem list_any (s : St) (w : World) : Calls Try.prog 13 #[.int .u32 (U s)] w fun x w' => ∃ v, x = .returned v ∧ Grow w w' ∧ w'.ownsRow w.heap.size 3 1 v (lst s 32).length (nums (lst s 32)) := by
  go_enter Try.func13, Try.ntmps13
  go_wp2
  go_loopw [3, 5] (fun v i wr => ∃ k : Nat, k ≤ 32 ∧ i = .int .i64 k ∧ Grow w wr ∧ wr.ownsRow w.heap.size 3 1 v (lst s k).length (nums (lst s k))) (fun _ i _ => 32 - (intOf i).toNat)
  case atStart => exact ⟨0, by omega, rfl, Grow.refl w, by rw [lst_zero]; exact own_nums _ _ _ _⟩
  case round =>
    obtain ⟨k, hk, rfl, hg, ho⟩ := hrel
    by_cases hlt : k < 32
    · cases hin : inn s k
      · have HL : Hid (lst s (k + 1) = lst s k) := lst_no hin
        go_wp2_with (go_at_call 49; refine (in_any _ _ hlt _).mono ?_; rintro e w' ⟨rfl, rfl⟩)
        go_roundw
        case rel => exact ⟨k + 1, by omega, by go_num, hg, by rw [HL.out]; exact ho⟩
        case measure => simp [intOf]; omega
      · have HL : Hid (lst s (k + 1) = lst s k ++ [k]) := lst_yes hin
        have HN : Hid ((lst s k).length ≤ k) := lst_len s k
        have hsz := hg.size
        go_wp2_with (first | (go_at_call 49; refine (in_any _ _ hlt _).mono ?_; rintro e w' ⟨rfl, rfl⟩) | (at_builtin; go_must (refine app1 _ w.heap.size (lst s k) k _ _ (by rfl) (by rfl) ?c1 (own_alloc ho _) ?c2 ?c3 ?_)))
        case c1 => simp
        case c2 => have := HN.out; omega
        case c3 => simp; omega
        intro v' w2 ho2 hb2 _
        go_wp2
        go_roundw
        case rel => exact ⟨k + 1, by omega, by go_num, (Below.alloc hg hsz _).trans hb2, by rw [HL.out]; exact ho2⟩
        case measure => simp [intOf]; omega
    · obtain rfl : k = 32 := by omega
      go_wp2
      go_ret
      exact ⟨_, rfl, hg, ho⟩

end Go.Proofs.Ytlbccddhcbcpoaa
/- What Pairs and Count return, for every input. -/
namespace Go.Proofs.Ytlbccddhcbcpoaa
open Go.RowKit

/-- a row of pairs as cells -/
def pcs (l : List (Nat × Nat)) : List Value := l.flatMap fun p => [Value.int .i64 (p.1 : Int), Value.int .i64 (p.2 : Int)]
theorem pcs_snoc (l : List (Nat × Nat)) (p : Nat × Nat) : pcs (l ++ [p]) = pcs l ++ [Value.int .i64 (p.1 : Int), Value.int .i64 (p.2 : Int)] := by simp [pcs]
theorem pcs_len (l : List (Nat × Nat)) : (pcs l).length = l.length * 2 := by
  induction l with
  | nil => rfl
  | cons p l ih => have : pcs (p :: l) = [Value.int .i64 (p.1 : Int), Value.int .i64 (p.2 : Int)] ++ pcs l := by simp [pcs]
                   rw [this, List.length_append, ih, List.length_cons]; simp; omega
/-- a value is a row of these pairs -/
def Pl (w : World) (v : Value) (l : List (Nat × Nat)) : Prop := w.ownsRow 0 29 2 v l.length (pcs l)
theorem Pl.grow {w w' : World} {v : Value} {l : List (Nat × Nat)} (hg : Grow w w') (h : Pl w v l) : Pl w' v l := own_grow hg h
theorem Pl.form {w : World} {v : Value} {l : List (Nat × Nat)} (h : Pl w v l) : ∃ ad cap, v = .slice ad l.length cap := by
  rcases h.2 with ⟨hv, hn⟩ | ⟨g, cap, cur, hv, _⟩
  · exact ⟨none, 0, by rw [hv, hn]⟩
  · exact ⟨_, _, hv⟩
theorem own_pcs (w : World) (b : Nat) (e : TypeId) (s : Nat) : w.ownsRow b e s (.slice none 0 0) ([] : List (Nat × Nat)).length (pcs []) := ⟨by simp [pcs], .inl ⟨rfl, rfl⟩⟩
theorem info_pair : (Try.prog.info? 29).map (fun i => (i.zero, i.size, i.bytes)) = some (some (.agg #[.int .i64 0, .int .i64 0]), 2, 16) := by kernel_rfl
theorem info_pair' : ∃ i, Try.prog.info? 29 = some i ∧ i.zero = some (.agg #[.int .i64 0, .int .i64 0]) ∧ i.size = 2 ∧ i.bytes = 16 := by
  have h := info_pair
  cases hq : Try.prog.info? 29 with
  | none => simp [hq] at h
  | some i => simp [hq] at h; exact ⟨i, rfl, h.1, h.2.1, h.2.2⟩
section
variable {ops : Array Oper} {rest : List Oper} {a : Act} {Q : Exit → Act → World → Prop}
/-- one pair is appended to a row of the call's own -/
theorem app2 (w : World) {d : Option Tmp} {p q : Tmp} {ty : TypeId} {pos : String} {af : Array Edge} (B : Nat) (l : List (Nat × Nat)) (m n g : Nat) (v : Value) (hp : a.eval (.tmp p) = v) (hq : a.eval (.tmp q) = .slice (some ⟨g, 0, none⟩) 1 1)
    (hc : w.cell? ⟨g, 0, none⟩ = some (.int .i64 m)) (hc2 : w.cell? ⟨g, 1, none⟩ = some (.int .i64 n)) (ho : w.ownsRow B 29 2 v l.length (pcs l)) (hl : l.length ≤ 100000) (hB : B ≤ w.heap.size)
    (h : ∀ v' w', w'.ownsRow B 29 2 v' (l ++ [(m, n)]).length (pcs (l ++ [(m, n)])) → Below B w w' → Moved w w' v v' → wpList Try.prog ops Q rest (a.put d v') w') :
    wpList Try.prog ops Q ({ dst := d, op := .call { callee := .builtin .append, args := #[.tmp p, .tmp q], argTypes := #[23, 23] }, type := ty, pos := pos, after := af, guard := none } :: rest) a w := by
  obtain ⟨i, hi, hz, hs, hb⟩ := info_pair'
  refine wpList_append_own_at w rfl (.tmp p) (.tmp q) 23 rfl B 29 i (.agg #[.int .i64 0, .int .i64 0]) 2 16 Try.underlying23 hi hz hs hb rfl (by decide) v l.length (pcs l) hp ho ⟨g, 0, none⟩ 1 1 [.int .i64 m, .int .i64 n] hq rfl ?_ ?_ (by unfold maxLen; omega) (by omega) hB ?_
  · intro j u hj
    match j, hj with
    | 0, hj => simp at hj; subst hj; rw [Addr.add_mid]; exact hc
    | 1, hj => simp at hj; subst hj; rw [Addr.add_mid]; exact hc2
  · intro u hu; simp at hu; rcases hu with rfl | rfl <;> rfl
  · intro v' w' h1 h2 _ h4
    exact h v' w' (by rw [pcs_snoc, List.length_append]; exact h1) ((Below.refl B w).grown h2 hB (own_block ho)) ⟨h2.size, fun k hk hne => h2.block k hk (Ne.symm hne), h4⟩
end
/-- the pairs of the rows below n -/
def prs (r : Rl) (n : Nat) : List (Nat × Nat) := (List.range n).flatMap fun a => (lst (row r a) 32).map fun b => (a, b)
theorem prs_zero (r : Rl) : prs r 0 = [] := rfl
theorem prs_succ (r : Rl) (n : Nat) : prs r (n + 1) = prs r n ++ (lst (row r n) 32).map fun b => (n, b) := by
  unfold prs; rw [List.range_succ, List.flatMap_append]; simp
theorem prs_len (r : Rl) (n : Nat) : (prs r n).length ≤ n * 32 := by
  induction n with
  | zero => simp [prs]
  | succ n ih => rw [prs_succ, List.length_append, List.length_map]; have := lst_len (row r n) 32; omega
/-- the pairs of the rows below n, and the first j of row n -/
def prt (r : Rl) (n j : Nat) : List (Nat × Nat) := prs r n ++ ((lst (row r n) 32).take j).map fun b => (n, b)
theorem prt_zero (r : Rl) (n : Nat) : prt r n 0 = prs r n := by simp [prt]
theorem prt_full (r : Rl) (n : Nat) : prt r n (lst (row r n) 32).length = prs r (n + 1) := by rw [prs_succ]; simp [prt]
theorem prt_succ {r : Rl} {n j x : Nat} (h : (lst (row r n) 32)[j]? = some x) : prt r n (j + 1) = prt r n j ++ [(n, x)] := by
  unfold prt; rw [List.take_add_one, h]; simp
theorem prt_len (r : Rl) (n j : Nat) : (prt r n j).length ≤ n * 32 + 32 := by
  unfold prt; rw [List.length_append, List.length_map, List.length_take]
  have := prs_len r n; have := lst_len (row r n) 32; omega
attribute [local irreducible] wpList cells row U aft inn one nil part upd idr crs mns eqB evB stepP plusT invT uni met sqs or2 and2 seq2 allS lst nums prs prt pcs

set_option maxHeartbeats 2000000 in
theorem pairs_any (r : Rl) (w : World) : Calls Try.prog 34 #[.agg (cells r)] w fun x w' => ∃ v, x = .returned v ∧ Grow w w' ∧ Pl w' v (prs r 32) := by
  have h1 := At.new w r
  have hg0 : Grow w (w.alloc (.cells (cells r) 28)) := (Grow.refl w).alloc _
  go_enter Try.func34, Try.ntmps34
  go_wp2_with (refine ld w.heap.size r (by rfl) h1 ?_)
  clear h1
  go_loopw [3, 9] (fun v i wr => ∃ k : Nat, k ≤ 32 ∧ i = .int .i64 k ∧ Grow w wr ∧ wr.ownsRow w.heap.size 29 2 v (prs r k).length (pcs (prs r k))) (fun _ i _ => 32 - (intOf i).toNat)
  case atStart => exact ⟨0, by omega, rfl, hg0, by rw [prs_zero]; exact own_pcs _ _ _ _⟩
  case round =>
    clear hg0
    obtain ⟨k, hk, rfl, hg, ho⟩ := hrel
    by_cases hlt : k < 32
    · have hdk : decide ((k : Int) < 32) = true := by simp; omega
      have hsz := hg.size
      go_wp2_with (first | (refine ix r k hlt (by rfl) (by rfl) ?_) | (go_at_call 13; refine (list_any _ _).mono ?_; rintro e w1 ⟨v1, rfl, hg1, hi1⟩; have hap1 := apart_new ho hi1; have hi1 := own_zero hi1; obtain ⟨ad1, cap1, hv1⟩ := Il.form hi1; subst hv1))
      have hgw : Grow w w1 := Grow.trans hg hg1
      have ho1 := own_grow hg1 ho
      have HL := lst_len (row r k) 32
      obtain ⟨l, Hl⟩ : ∃ l, Hid (l = lst (row r k) 32) := ⟨_, rfl⟩
      rw [← Hl.out] at hi1 hap1 HL ⊢
      clear hg ho hg1
      go_loopw [3, 16] (fun v i wr => ∃ j : Nat, j ≤ l.length ∧ i = .int .i64 j ∧ Grow w wr ∧ Il wr (.slice ad1 l.length cap1) l ∧ Apart wr (.slice ad1 l.length cap1) v ∧ wr.ownsRow w.heap.size 29 2 v (prt r k j).length (pcs (prt r k j))) (fun _ i _ => l.length - (intOf i).toNat)
      case atStart => exact ⟨0, by omega, rfl, hgw, hi1, hap1, by rw [prt_zero]; exact ho1⟩
      case round =>
        clear hgw hi1 ho1 hap1
        obtain ⟨j, hj, rfl, hg, hi, hap, ho⟩ := hrel
        by_cases hjl : j < l.length
        · obtain ⟨x, hx⟩ : ∃ x, l[j]? = some x := ⟨l[j], List.getElem?_eq_getElem hjl⟩
          obtain ⟨g, cap, hv, hgl, hcx⟩ := hi.cell hx
          cases hv
          have HT : Hid (prt r k (j + 1) = prt r k j ++ [(k, x)]) := prt_succ (by rw [← Hl.out]; exact hx)
          have HN : Hid ((prt r k j).length ≤ k * 32 + 32) := prt_len r k j
          have Hx : Hid (l[j]? = some x) := hx
          clear hx
          have hsz2 := hg.size
          go_wp2_with (first | (at_builtin; go_must (refine app2 _ w.heap.size (prt r k j) k x _ _ (by rfl) (by rfl) ?c1 ?c2 (own_alloc ho _) ?c3 ?c4 ?_)))
          case c1 => simp
          case c2 => simp
          case c3 => have := HN.out; omega
          case c4 => simp; omega
          intro v' w2 ho2 hb2 hm2
          go_wp2
          go_roundw
          case rel => exact ⟨j + 1, by omega, by go_num, (Below.alloc hg hsz2 _).trans hb2, own_moved (own_alloc hi _) (hap.alloc _) hm2, (hap.alloc _).moved hm2, by rw [HT.out]; exact ho2⟩
          case measure => simp [intOf]; omega
        · obtain rfl : j = l.length := by omega
          rw [Hl.out, prt_full] at ho
          go_wp2
          go_roundw
          case rel => exact ⟨k + 1, by omega, by go_num, hg, ho⟩
          case measure => simp [intOf]; omega
    · obtain rfl : k = 32 := by omega
      go_wp2
      go_ret
      exact ⟨_, rfl, hg, own_zero ho⟩

theorem count_any (r : Rl) (w : World) : Calls Try.prog 36 #[.agg (cells r)] w fun x w' => x = .returned (.int .i64 ((prs r 32).length : Int)) ∧ Grow w w' := by
  have h1 := At.new w r
  have hg0 : Grow w (w.alloc (.cells (cells r) 28)) := (Grow.refl w).alloc _
  go_enter Try.func36, Try.ntmps36
  go_wp2_with (first | (refine ld w.heap.size r (by rfl) h1 ?_) | (go_at_call 34; refine (pairs_any r _).mono ?_; rintro e w1 ⟨v1, rfl, hg1, hp1⟩; obtain ⟨ad, cap, hv⟩ := hp1.form; subst hv))
  go_ret
  exact ⟨rfl, Grow.trans hg0 hg1⟩

end Go.Proofs.Ytlbccddhcbcpoaa
/- What Pair and Events return of the numbers that a slice holds. -/
namespace Go.Proofs.Ytlbccddhcbcpoaa
open Go.RowKit

def pairS (r : Rl) (p : Int × Int) : Rl := if evB p.1 && evB p.2 then upd r p.1.toNat (row r p.1.toNat ||| one p.2.toNat) else r
/-- those of the pairs that are pairs of events -/
def pairT (ps : List (Int × Int)) : Rl := ps.foldl pairS nil
theorem pairT_zero (ps : List (Int × Int)) : pairT (ps.take 0) = nil := rfl
theorem pairT_take {ps : List (Int × Int)} {j : Nat} {p : Int × Int} (h : ps[j]? = some p) : pairT (ps.take (j + 1)) = pairS (pairT (ps.take j)) p := by
  unfold pairT; rw [List.take_add_one, h, List.foldl_append]; rfl
theorem pairS_no {r : Rl} {x y : Int} (h : (evB x && evB y) = false) : pairS r (x, y) = r := by simp [pairS, h]
theorem pairS_yes {r : Rl} {i j : Nat} (hi : evB i = true) (hj : evB j = true) : pairS r ((i : Int), (j : Int)) = upd r i (row r i ||| one j) := by simp [pairS, hi, hj]
attribute [local irreducible] wpList cells row U aft inn one nil part upd idr crs mns eqB evB stepP plusT invT uni met sqs or2 and2 seq2 allS lst nums prs prt pcs pairT pairS

set_option maxHeartbeats 2000000 in
theorem pair_sl (ps : List (Int × Int)) (b o cap : Nat) (w : World) (hb : b < w.heap.size) (hl : ps.length ≤ 1000000)
    (HR : Hid (∀ j x y, ps[j]? = some (x, y) → w.cell? ⟨b, o + j * 2, none⟩ = some (.int .i64 x) ∧ w.cell? ⟨b, o + j * 2 + 1, none⟩ = some (.int .i64 y))) :
    Calls Try.prog 14 #[.slice (some ⟨b, o, none⟩) ps.length cap] w fun x w' => x = .returned (.agg (cells (pairT ps))) ∧ Grow w w' := by
  go_enter Try.func14, Try.ntmps14
  go_wp2
  rw [nil_lit]
  have h0 : Hid (Grow w ((w.alloc (.cells (cells nil) 28)).alloc (.cells (cells nil) 28))) := ((Grow.refl w).alloc _).alloc _
  have h1 : At ((w.alloc (.cells (cells nil) 28)).alloc (.cells (cells nil) 28)) w.heap.size nil := (At.new w nil).alloc _
  have h2 : At ((w.alloc (.cells (cells nil) 28)).alloc (.cells (cells nil) 28)) (w.heap.size + 1) nil := by simpa using At.new (w.alloc (.cells (cells nil) 28)) nil
  generalize ((w.alloc (.cells (cells nil) 28)).alloc (.cells (cells nil) 28)) = w0 at h0 h1 h2 ⊢
  have hHG : w.heap.size < w.heap.size + 1 := by omega
  generalize w.heap.size + 1 = G at h2 hHG ⊢
  go_loopw [8] (fun i wr => ∃ j : Nat, j ≤ ps.length ∧ i = .int .i64 j ∧ Grow w wr ∧ At wr w.heap.size nil ∧ At wr G (pairT (ps.take j))) (fun i _ => ps.length - (intOf i).toNat)
  case atStart => exact ⟨0, by omega, rfl, h0.out, h1, by rw [pairT_zero]; exact h2⟩
  case round =>
    clear h0 h1 h2
    obtain ⟨j, hj, rfl, hg, hr, ho⟩ := hrel
    by_cases hlt : j < ps.length
    · obtain ⟨x, y, Hp⟩ : ∃ x y, Hid (ps[j]? = some (x, y)) := ⟨ps[j].1, ps[j].2, List.getElem?_eq_getElem hlt⟩
      obtain ⟨hcx, hcy⟩ := HR.out j x y Hp.out
      have hcx' : wr.cell? ⟨b, o + j * 2, none⟩ = some (.int .i64 x) := by rw [hg.cell (p := ⟨b, o + j * 2, none⟩) hb]; exact hcx
      have hcy' : wr.cell? ⟨b, o + j * 2 + 1, none⟩ = some (.int .i64 y) := by rw [hg.cell (p := ⟨b, o + j * 2 + 1, none⟩) hb]; exact hcy
      clear hcx hcy
      have HT : Hid (pairT (ps.take (j + 1)) = pairS (pairT (ps.take j)) (x, y)) := pairT_take Hp.out
      generalize pairT (ps.take j) = R at ho HT
      cases hx : evB x
      · have HN : Hid (pairS R (x, y) = R) := pairS_no (by rw [hx]; rfl)
        go_wp2_with (go_at_call 47; refine (isEvent_any _ _).mono ?_; rintro e w' ⟨rfl, rfl⟩)
        go_roundw
        case rel => exact ⟨j + 1, by omega, by go_num, Grow.alloc hg _, hr.alloc _, by rw [HT.out, HN.out]; exact ho.alloc _⟩
        case measure => simp [intOf]; omega
      · obtain ⟨m, rfl, hm⟩ := ev_nat hx
        cases hy : evB y
        · have HN : Hid (pairS R ((m : Int), y) = R) := pairS_no (by rw [hy]; simp)
          go_wp2_with (go_at_call 47; refine (isEvent_any _ _).mono ?_; rintro e w' ⟨rfl, rfl⟩)
          go_roundw
          case rel => exact ⟨j + 1, by omega, by go_num, Grow.alloc hg _, hr.alloc _, by rw [HT.out, HN.out]; exact ho.alloc _⟩
          case measure => simp [intOf]; omega
        · obtain ⟨n, rfl, hn⟩ := ev_nat hy
          have HN : Hid (pairS R ((m : Int), (n : Int)) = upd R m (row R m ||| one n)) := pairS_yes hx hy
          have hGw := ho.lt
          have hoA := ho.alloc (.cells #[.int .i64 (m : Int), .int .i64 (n : Int)] 29)
          have hcm := ho.cell m hm
          have hfm := ho.frozen m
          have hor := bits_or (row R m) (one n)
          have hm1 : (m : Int) < 32 := by omega
          go_wp2_with (go_at_call 47; refine (isEvent_any _ _).mono ?_; rintro e w' ⟨rfl, rfl⟩)
          go_region_with (go_at_call 48; refine (only_any _ hn _).mono ?_; rintro e w' ⟨rfl, rfl⟩)
          all_goals go_wp2
          all_goals
            go_roundw
            case rel => exact ⟨j + 1, by omega, by go_num, Grow.drew (Grow.alloc (bset hg (by omega) _) _), ((hr.set_other (by omega) _ _).alloc _).drew, by rw [HT.out, HN.out]; exact ((ho.set m _).alloc _).drew⟩
            case measure => simp [intOf]; omega
    · obtain rfl : j = ps.length := by omega
      rw [List.take_length] at ho
      go_wp2_with (first | (refine ld G (pairT ps) (by rfl) ho ?_) | (refine st w.heap.size nil (pairT ps) (by rfl) (by rfl) hr ?_))
      exact bodyPost_ret (v := .agg (cells (pairT ps))) (res rfl _ _ w.heap.size _ (by rfl) hr.put) rfl ⟨rfl, below_setRow hg (by omega) _⟩

/-- the set of those numbers that are events -/
def evS (s : St) (x : Int) : St := if evB x then s ||| one x.toNat else s
def evs (l : List Int) : St := l.foldl evS 0#32
theorem evs_zero (l : List Int) : U (evs (l.take 0)) = 0 := U_zero
theorem evs_take {l : List Int} {j : Nat} {x : Int} (h : l[j]? = some x) : evs (l.take (j + 1)) = evS (evs (l.take j)) x := by
  unfold evs; rw [List.take_add_one, h, List.foldl_append]; rfl
theorem evS_no {s : St} {x : Int} (h : evB x = false) : evS s x = s := by simp [evS, h]
theorem evS_yes {s : St} {i : Nat} (h : evB i = true) : evS s (i : Int) = s ||| one i := by simp [evS, h]
attribute [local irreducible] evS evs
set_option maxHeartbeats 2000000 in
theorem events_sl (l : List Int) (b o cap : Nat) (w : World) (hl : l.length ≤ 1000000) (HR : Hid (∀ j x, l[j]? = some x → w.cell? ⟨b, o + j, none⟩ = some (.int .i64 x))) :
    Calls Try.prog 10 #[.slice (some ⟨b, o, none⟩) l.length cap] w fun x w' => x = .returned (.int .u32 (U (evs l))) ∧ w' = w := by
  go_enter Try.func10, Try.ntmps10
  go_wp2
  go_loop [3, 8] (fun v i => ∃ j : Nat, j ≤ l.length ∧ i = .int .i64 j ∧ v = .int .u32 (U (evs (l.take j)))) (fun _ i => l.length - (intOf i).toNat)
  case atStart => exact ⟨0, by omega, rfl, by rw [evs_zero]⟩
  case round =>
    obtain ⟨j, hj, rfl, rfl⟩ := hrel
    by_cases hlt : j < l.length
    · obtain ⟨x, Hp⟩ : ∃ x, Hid (l[j]? = some x) := ⟨l[j], List.getElem?_eq_getElem hlt⟩
      have hcx := HR.out j x Hp.out
      have HT : Hid (evs (l.take (j + 1)) = evS (evs (l.take j)) x) := evs_take Hp.out
      generalize evs (l.take j) = R at HT ⊢
      cases hx : evB x
      · have HN : Hid (evS R x = R) := evS_no hx
        go_wp2_with (go_at_call 47; refine (isEvent_any _ _).mono ?_; rintro e w' ⟨rfl, rfl⟩)
        go_round
        case rel => exact ⟨j + 1, by omega, by go_num, by rw [HT.out, HN.out]⟩
        case measure => simp [intOf]; omega
      · obtain ⟨m, rfl, hm⟩ := ev_nat hx
        have HN : Hid (evS R (m : Int) = R ||| one m) := evS_yes hx
        have hor := bits_or R (one m)
        go_wp2_with (first | (go_at_call 47; refine (isEvent_any _ _).mono ?_; rintro e w' ⟨rfl, rfl⟩) | (go_at_call 48; refine (only_any _ hm _).mono ?_; rintro e w' ⟨rfl, rfl⟩))
        go_round
        case rel => exact ⟨j + 1, by omega, by go_num, by rw [HT.out, HN.out]⟩
        case measure => simp [intOf]; omega
    · obtain rfl : j = l.length := by omega
      go_wp2
      go_ret
      exact ⟨rfl, rfl⟩

end Go.Proofs.Ytlbccddhcbcpoaa
/- What Irreflexive and Acyclic return, for every input. -/
namespace Go.Proofs.Ytlbccddhcbcpoaa
open Go.RowKit

/-- no event with itself -/
def irrB (r : Rl) : Bool := eqB (met [r, idr allS]) nil
/-- no steps lead from an event to itself -/
def acyB (r : Rl) : Bool := irrB (plusT r 32)
attribute [local irreducible] wpList cells row U aft inn one nil part upd idr crs mns eqB evB stepP plusT invT uni met sqs or2 and2 seq2 allS lst nums prs prt pcs pairT pairS irrB acyB

theorem irr_def (r : Rl) : eqB (met [r, idr allS]) nil = irrB r := by unfold irrB; rfl
theorem acy_def (r : Rl) : irrB (plusT r 32) = acyB r := by unfold acyB; rfl
set_option maxHeartbeats 1000000 in
theorem irr_any (r : Rl) (w : World) : Calls Try.prog 41 #[.agg (cells r)] w fun x w' => x = .returned (.bool (irrB r)) ∧ Grow w w' := by
  have h1 := At.new w r
  have hg0 : Grow w (w.alloc (.cells (cells r) 28)) := (Grow.refl w).alloc _
  go_enter Try.func41, Try.ntmps41
  go_wp2
  refine told (tabOf ([(1, .ptr (r))] ++ [(3, .val (.agg (cells (r)))), (4, .val (.agg (cells (idr (allS))))), (5, .sl [r, idr (allS)]), (6, .val (.agg (cells (met [r, idr (allS)])))), (7, .val (.bool (irrB r))), (2, .val (.bool (irrB r)))])) (by kernel_rfl) (by kernel_rfl) (tab_out _ _ (by kernel_rfl) ?outer) ?each ?last
  case each =>
    refine List.forall_mem_cons.2 ⟨k_ld (r) (by kernel_rfl) rfl rfl trivial, ?_⟩
    refine List.forall_mem_cons.2 ⟨k_k1 (.agg (cells (idr (allS)))) (by kernel_rfl) (fun w => U_all ▸ id_any allS w) rfl trivial, ?_⟩
    refine List.forall_mem_cons.2 ⟨k_b2 (r) (idr (allS)) (by kernel_rfl) rfl (by kernel_rfl) rfl rfl trivial, ?_⟩
    refine List.forall_mem_cons.2 ⟨k_s1 [r, idr (allS)] (.agg (cells (met [r, idr (allS)]))) (by kernel_rfl) (by kernel_rfl) rfl (fun v w h => met_any [r, idr (allS)] v w h (by simp)) rfl trivial, ?_⟩
    refine List.forall_mem_cons.2 ⟨k_c1 (.agg (cells (met [r, idr (allS)]))) (.bool (irrB r)) (by kernel_rfl) (by kernel_rfl) rfl (fun w => calls_val (empty_any (met [r, idr (allS)]) w) (congrArg Value.bool (irr_def r))) rfl trivial, ?_⟩
    refine List.forall_mem_cons.2 ⟨k_as (by kernel_rfl) rfl trivial, ?_⟩
    intro _ h; cases h
  case outer =>
    intro x hx
    simp only [List.mem_cons, List.not_mem_nil, or_false] at hx
    subst hx
    exact ⟨w.heap.size, rfl, h1.drew⟩
  case last =>
    intro f w' hg hf
    have hv : f 5 = .bool (irrB r) := hf 5 2 rfl
    simp only [putF, Act.put, List.setIfInBounds_toArray, List.set_cons_zero, List.set_cons_succ]
    go_wp2
    go_ret
    exact ⟨congrArg Ending.returned hv, Grow.trans hg0 hg⟩

theorem acy_any (r : Rl) (w : World) : Calls Try.prog 43 #[.agg (cells r)] w fun x w' => x = .returned (.bool (acyB r)) ∧ Grow w w' := by
  have h1 := At.new w r
  have hg0 : Grow w (w.alloc (.cells (cells r) 28)) := (Grow.refl w).alloc _
  have hd := acy_def r
  go_enter Try.func43, Try.ntmps43
  go_wp2_with (first | (refine ld w.heap.size r (by rfl) h1 ?_) | (go_at_call 30; refine (plus_any r _).mono ?_; rintro e w1 ⟨rfl, hg1⟩) | (go_at_call 41; refine (irr_any _ _).mono ?_; rintro e w2 ⟨rfl, hg2⟩))
  go_ret
  exact ⟨rfl, Grow.trans (Grow.trans hg0 hg1) hg2⟩

end Go.Proofs.Ytlbccddhcbcpoaa
/- The plain theory of relations on thirty-two events: what has a pair, closure, ways. -/
namespace Go.Proofs.Ytlbccddhcbcpoaa
open Go.RowKit

/-- a relation has a pair -/
def has (r : Rl) (a b : Nat) : Prop := inn (row r a) b = true
theorem inn_lt {s : St} {e : Nat} (h : inn s e = true) : e < 32 := by
  rcases Nat.lt_or_ge e 32 with h1 | h1
  · exact h1
  · unfold inn at h; rw [BitVec.getLsbD_of_ge _ _ h1] at h; cases h
theorem inn_zero (e : Nat) : inn 0#32 e = false := by simp [inn]
theorem inn_all (e : Nat) : inn allS e = decide (e < 32) := by
  rcases Nat.lt_or_ge e 32 with h1 | h1
  · have : ∀ e, e < 32 → inn allS e = true := by decide
    simp [this e h1, h1]
  · unfold inn; rw [BitVec.getLsbD_of_ge _ _ h1]; simp; omega
theorem inn_one (e b : Nat) : inn (one e) b = (decide (b < 32) && decide (b = e)) := one_bit e b
theorem inn_or (x y : St) (e : Nat) : inn (x ||| y) e = (inn x e || inn y e) := by simp [inn]
theorem inn_and (x y : St) (e : Nat) : inn (x &&& y) e = (inn x e && inn y e) := by simp [inn]
theorem inn_andNot (x y : St) (e : Nat) (h : e < 32) : inn (x &&& ~~~y) e = (inn x e && !inn y e) := by simp [inn, h]
theorem st_ext {x y : St} (h : ∀ e, e < 32 → inn x e = inn y e) : x = y := ext32 h
theorem st_ext' {x y : St} (h : ∀ e, inn x e = true ↔ inn y e = true) : x = y := ext32 fun e _ => by rw [Bool.eq_iff_iff]; exact h e
theorem has_lt {r : Rl} {a b : Nat} (h : has r a b) : a < 32 ∧ b < 32 := by
  refine ⟨?_, inn_lt h⟩
  rcases Nat.lt_or_ge a 32 with h1 | h1
  · exact h1
  · unfold has row at h; rw [dif_neg (by omega)] at h; rw [inn_zero] at h; cases h
theorem rl_ext {r s : Rl} (h : ∀ a b, has r a b ↔ has s a b) : r = s := by
  funext i
  have : row r i.val = row s i.val := st_ext' fun e => h i.val e
  rwa [row_fin, row_fin] at this
theorem not_has_nil (a b : Nat) : ¬ has nil a b := by unfold has; rw [row_nil, inn_zero]; simp
theorem has_idr (s : St) (a b : Nat) : has (idr s) a b ↔ a = b ∧ inn s a = true := by
  constructor
  · intro h
    have ha := (has_lt h).1
    unfold has at h
    rw [row_idr s a ha, inn_and, inn_one] at h
    simp only [Bool.and_eq_true, decide_eq_true_eq] at h
    obtain ⟨h1, _, rfl⟩ := h
    exact ⟨rfl, h1⟩
  · rintro ⟨rfl, h⟩
    have ha := inn_lt h
    unfold has
    rw [row_idr s a ha, inn_and, inn_one]; simp [h, ha]
theorem has_crs (x y : St) (a b : Nat) : has (crs x y) a b ↔ inn x a = true ∧ inn y b = true := by
  constructor
  · intro h
    have ha := (has_lt h).1
    unfold has at h
    rw [row_crs x y a ha] at h
    cases hx : inn x a
    · rw [hx] at h; simp [inn_zero] at h
    · rw [hx] at h; exact ⟨rfl, h⟩
  · rintro ⟨h1, h2⟩
    unfold has
    rw [row_crs x y a (inn_lt h1), h1]; exact h2
theorem has_mns (r s : Rl) (a b : Nat) : has (mns r s) a b ↔ has r a b ∧ ¬ has s a b := by
  constructor
  · intro h
    obtain ⟨ha, hb⟩ := has_lt h
    unfold has at h ⊢
    rw [row_mns r s a ha, inn_andNot _ _ _ hb] at h
    simpa using h
  · rintro ⟨h1, h2⟩
    obtain ⟨ha, hb⟩ := has_lt h1
    unfold has at h1 h2 ⊢
    rw [row_mns r s a ha, inn_andNot _ _ _ hb]
    simp [h1, h2]
theorem has_or2 (r s : Rl) (a b : Nat) : has (or2 r s) a b ↔ has r a b ∨ has s a b := by
  by_cases ha : a < 32
  · unfold has; rw [row_or2 r s a ha, inn_or]; simp
  · constructor
    · intro h; exact absurd (has_lt h).1 ha
    · rintro (h | h) <;> exact absurd (has_lt h).1 ha
theorem has_and2 (r s : Rl) (a b : Nat) : has (and2 r s) a b ↔ has r a b ∧ has s a b := by
  by_cases ha : a < 32
  · unfold has; rw [row_and2 r s a ha, inn_and]; simp
  · constructor
    · intro h; exact absurd (has_lt h).1 ha
    · rintro ⟨h, _⟩; exact absurd (has_lt h).1 ha
theorem inn_aft (s : St) (r : Rl) (n b : Nat) : inn (aft s r n) b = true ↔ ∃ k, k < n ∧ inn s k = true ∧ has r k b := by
  induction n with
  | zero => show inn 0#32 b = true ↔ _; rw [inn_zero]; simp
  | succ n ih =>
    cases hn : inn s n
    · rw [aft_no hn, ih]
      constructor
      · rintro ⟨k, hk, h⟩; exact ⟨k, by omega, h⟩
      · rintro ⟨k, hk, h1, h2⟩
        rcases Nat.lt_or_ge k n with h | h
        · exact ⟨k, h, h1, h2⟩
        · have : k = n := by omega
          subst this; rw [hn] at h1; cases h1
    · rw [aft_yes hn, inn_or, Bool.or_eq_true, ih]
      constructor
      · rintro (⟨k, hk, h⟩ | h)
        · exact ⟨k, by omega, h⟩
        · exact ⟨n, by omega, hn, h⟩
      · rintro ⟨k, hk, h1, h2⟩
        rcases Nat.lt_or_ge k n with h | h
        · exact .inl ⟨k, h, h1, h2⟩
        · have : k = n := by omega
          subst this; exact .inr h2
theorem inn_after (s : St) (r : Rl) (b : Nat) : inn (aft s r 32) b = true ↔ ∃ k, inn s k = true ∧ has r k b := by
  rw [inn_aft]
  exact ⟨fun ⟨k, _, h⟩ => ⟨k, h⟩, fun ⟨k, h1, h2⟩ => ⟨k, inn_lt h1, h1, h2⟩⟩
theorem inn_range (r : Rl) (b : Nat) : inn (aft allS r 32) b = true ↔ ∃ a, has r a b := by
  rw [inn_after]
  exact ⟨fun ⟨k, _, h⟩ => ⟨k, h⟩, fun ⟨k, h⟩ => ⟨k, by rw [inn_all]; simpa using (has_lt h).1, h⟩⟩
theorem has_seq2 (r s : Rl) (a c : Nat) : has (seq2 r s) a c ↔ ∃ b, has r a b ∧ has s b c := by
  by_cases ha : a < 32
  · unfold has; rw [row_seq2 r s a ha]; exact inn_after _ _ _
  · constructor
    · intro h; exact absurd (has_lt h).1 ha
    · rintro ⟨b, h, _⟩; exact absurd (has_lt h).1 ha
theorem has_invT (r : Rl) (n a b : Nat) : has (invT r n) a b ↔ b < n ∧ has r b a := by
  induction n with
  | zero => rw [invT_zero]; constructor
            · intro h; exact absurd h (not_has_nil a b)
            · rintro ⟨h, _⟩; omega
  | succ n ih =>
    by_cases ha : a < 32
    · unfold has at ih ⊢
      rw [row_invT r n a ha]
      by_cases hn : inn (row r n) a = true
      · rw [if_pos hn, inn_or, Bool.or_eq_true, ih, inn_one]
        simp only [Bool.and_eq_true, decide_eq_true_eq]
        constructor
        · rintro (⟨h1, h2⟩ | ⟨_, rfl⟩)
          · exact ⟨by omega, h2⟩
          · exact ⟨by omega, hn⟩
        · rintro ⟨h1, h2⟩
          rcases Nat.lt_or_ge b n with h | h
          · exact .inl ⟨h, h2⟩
          · exact .inr ⟨(has_lt h2).1, by omega⟩
      · rw [if_neg hn, ih]
        constructor
        · rintro ⟨h1, h2⟩; exact ⟨by omega, h2⟩
        · rintro ⟨h1, h2⟩
          rcases Nat.lt_or_ge b n with h | h
          · exact ⟨h, h2⟩
          · have : b = n := by omega
            subst this; exact absurd h2 hn
    · constructor
      · intro h; exact absurd (has_lt h).1 ha
      · rintro ⟨_, h⟩; exact absurd (has_lt h).2 ha
theorem has_inv (r : Rl) (a b : Nat) : has (invT r 32) a b ↔ has r b a := by
  rw [has_invT]; exact ⟨fun h => h.2, fun h => ⟨(has_lt h).1, h⟩⟩
theorem has_foldl_or (l : List Rl) (x : Rl) (a b : Nat) : has (l.foldl or2 x) a b ↔ has x a b ∨ ∃ r ∈ l, has r a b := by
  induction l generalizing x with
  | nil => simp
  | cons y l ih => rw [List.foldl_cons, ih, has_or2]; simp [or_assoc]
theorem has_uni (l : List Rl) (a b : Nat) : has (uni l) a b ↔ ∃ r ∈ l, has r a b := by
  unfold uni; rw [has_foldl_or]; simp [not_has_nil]
theorem has_foldl_and (l : List Rl) (x : Rl) (a b : Nat) : has (l.foldl and2 x) a b ↔ has x a b ∧ ∀ r ∈ l, has r a b := by
  induction l generalizing x with
  | nil => simp
  | cons y l ih => rw [List.foldl_cons, ih, has_and2]; simp [and_assoc]
theorem has_met (l : List Rl) (a b : Nat) : has (met l) a b ↔ (a < 32 ∧ b < 32) ∧ ∀ r ∈ l, has r a b := by
  unfold met; rw [has_foldl_and, has_crs, inn_all, inn_all]; simp
theorem has_met2 (x y : Rl) (a b : Nat) : has (met [x, y]) a b ↔ has x a b ∧ has y a b := by
  rw [has_met]; simp
  exact fun h _ => has_lt h
theorem has_uni2 (x y : Rl) (a b : Nat) : has (uni [x, y]) a b ↔ has x a b ∨ has y a b := by rw [has_uni]; simp
theorem has_uni3 (x y z : Rl) (a b : Nat) : has (uni [x, y, z]) a b ↔ has x a b ∨ has y a b ∨ has z a b := by rw [has_uni]; simp
theorem id_seq (x : Rl) : seq2 (idr allS) x = x := rl_ext fun a b => by
  rw [has_seq2]
  constructor
  · rintro ⟨c, h1, h2⟩; rw [has_idr] at h1; rw [h1.1]; exact h2
  · intro h; exact ⟨a, (has_idr _ _ _).2 ⟨rfl, by rw [inn_all]; simpa using (has_lt h).1⟩, h⟩
theorem sqs2 (x y : Rl) : sqs [x, y] = seq2 x y := by unfold sqs; rw [List.foldl_cons, id_seq]; rfl
theorem sqs3 (x y z : Rl) : sqs [x, y, z] = seq2 (seq2 x y) z := by unfold sqs; rw [List.foldl_cons, id_seq]; rfl
theorem has_sqs2 (x y : Rl) (a c : Nat) : has (sqs [x, y]) a c ↔ ∃ b, has x a b ∧ has y b c := by rw [sqs2]; exact has_seq2 x y a c

/-! ### Ways -/
/-- steps lead from the one to the other, by events below n -/
inductive Way (r : Rl) (n : Nat) : Nat → Nat → Prop
  | step {a b : Nat} : has r a b → Way r n a b
  | join {a b c : Nat} : Way r n a b → b < n → Way r n b c → Way r n a c
theorem Way.mono {r : Rl} {n m : Nat} (h : n ≤ m) {a b : Nat} (w : Way r n a b) : Way r m a b := by
  induction w with
  | step h1 => exact .step h1
  | join _ hb _ h1 h2 => exact .join h1 (by omega) h2
theorem Way.part {r : Rl} {n : Nat} {a b : Nat} (w : Way r (n + 1) a b) : Way r n a b ∨ (Way r n a n ∧ Way r n n b) := by
  induction w with
  | step h => exact .inl (.step h)
  | @join a b c _ hb _ h1 h2 =>
    rcases Nat.lt_or_ge b n with hlt | hge
    · rcases h1 with h1 | ⟨h1, h1'⟩
      · rcases h2 with h2 | ⟨h2, h2'⟩
        · exact .inl (.join h1 hlt h2)
        · exact .inr ⟨.join h1 hlt h2, h2'⟩
      · rcases h2 with h2 | ⟨h2, h2'⟩
        · exact .inr ⟨h1, .join h1' hlt h2⟩
        · exact .inr ⟨h1, h2'⟩
    · have : b = n := by omega
      subst this
      rcases h1 with h1 | ⟨h1, _⟩
      · rcases h2 with h2 | ⟨_, h2'⟩
        · exact .inr ⟨h1, h2⟩
        · exact .inr ⟨h1, h2'⟩
      · rcases h2 with h2 | ⟨_, h2'⟩
        · exact .inr ⟨h1, h2⟩
        · exact .inr ⟨h1, h2'⟩
theorem has_stepP (k : Nat) (r : Rl) (a b : Nat) : has (stepP k r) a b ↔ has r a b ∨ (has r a k ∧ has r k b) := by
  by_cases ha : a < 32
  · unfold has
    rw [row_stepP k r a ha]
    by_cases h : inn (row r a) k = true
    · rw [if_pos h, inn_or]; simp [h]
    · rw [if_neg h]; simp [h]
  · constructor
    · intro h; exact absurd (has_lt h).1 ha
    · rintro (h | ⟨h, _⟩) <;> exact absurd (has_lt h).1 ha
theorem has_plusT (r : Rl) (n a b : Nat) : has (plusT r n) a b ↔ Way r n a b := by
  induction n generalizing a b with
  | zero =>
    rw [plusT_zero]
    constructor
    · exact .step
    · intro h
      cases h with
      | step h => exact h
      | join _ hb _ => omega
  | succ n ih =>
    rw [plusT_succ, has_stepP, ih, ih, ih]
    constructor
    · rintro (h | ⟨h1, h2⟩)
      · exact h.mono (by omega)
      · exact .join (h1.mono (by omega)) (by omega) (h2.mono (by omega))
    · exact Way.part
theorem Way.lt {r : Rl} {n a b : Nat} (h : Way r n a b) : a < 32 ∧ b < 32 := by
  induction h with
  | step h => exact has_lt h
  | join _ _ _ h1 h2 => exact ⟨h1.1, h2.2⟩
/-- steps lead from the one to the other -/
abbrev Plus (r : Rl) (a b : Nat) : Prop := Way r 32 a b
theorem has_plus (r : Rl) (a b : Nat) : has (plusT r 32) a b ↔ Plus r a b := has_plusT r 32 a b
theorem Plus.trans {r : Rl} {a b c : Nat} (h1 : Plus r a b) (h2 : Plus r b c) : Plus r a c := .join h1 h1.lt.2 h2
theorem Plus.incl {r s : Rl} (h : ∀ a b, has r a b → Plus s a b) {a b : Nat} (w : Plus r a b) : Plus s a b := by
  induction w with
  | step h1 => exact h _ _ h1
  | join _ hb _ h1 h2 => exact h1.trans h2
theorem Plus.head {r : Rl} {a c : Nat} (w : Plus r a c) : has r a c ∨ ∃ b, has r a b ∧ Plus r b c := by
  induction w with
  | step h => exact .inl h
  | join _ hb w2 h1 _ =>
    rcases h1 with h1 | ⟨x, h1, h1'⟩
    · exact .inr ⟨_, h1, w2⟩
    · exact .inr ⟨x, h1, h1'.trans w2⟩

/-! ### What is told -/
theorem inn_domT (r : Rl) (n a : Nat) : inn (domT r n) a = true ↔ a < n ∧ ∃ b, has r a b := by
  induction n with
  | zero => show inn 0#32 a = true ↔ _; rw [inn_zero]; simp
  | succ n ih =>
    by_cases hz : row r n = 0#32
    · rw [domT_no hz, ih]
      constructor
      · rintro ⟨h1, h2⟩; exact ⟨by omega, h2⟩
      · rintro ⟨h1, b, h2⟩
        rcases Nat.lt_or_ge a n with h | h
        · exact ⟨h, b, h2⟩
        · have : a = n := by omega
          subst this; unfold has at h2; rw [hz, inn_zero] at h2; cases h2
    · rw [domT_yes hz, inn_or, Bool.or_eq_true, ih, inn_one]
      simp only [Bool.and_eq_true, decide_eq_true_eq]
      constructor
      · rintro (⟨h1, h2⟩ | ⟨h1, rfl⟩)
        · exact ⟨by omega, h2⟩
        · refine ⟨by omega, ?_⟩
          refine Classical.byContradiction fun hno => hz (st_ext fun e _ => ?_)
          rw [inn_zero]
          cases he : inn (row r a) e
          · rfl
          · exact absurd ⟨e, he⟩ hno
      · rintro ⟨h1, b, h2⟩
        rcases Nat.lt_or_ge a n with h | h
        · exact .inl ⟨h, b, h2⟩
        · exact .inr ⟨(has_lt h2).1, by omega⟩
theorem inn_dom (r : Rl) (a : Nat) : inn (domT r 32) a = true ↔ ∃ b, has r a b := by
  rw [inn_domT]; exact ⟨fun h => h.2, fun ⟨b, h⟩ => ⟨(has_lt h).1, b, h⟩⟩
theorem empty_iff (r : Rl) : eqB r nil = true ↔ ∀ a b, ¬ has r a b := by
  rw [eqB_iff]
  constructor
  · intro h a b; rw [h]; exact not_has_nil a b
  · intro h; exact rl_ext fun a b => ⟨fun h1 => absurd h1 (h a b), fun h1 => absurd h1 (not_has_nil a b)⟩
theorem irr_iff (r : Rl) : irrB r = true ↔ ∀ a, ¬ has r a a := by
  unfold irrB
  rw [empty_iff]
  constructor
  · intro h a h1
    exact h a a ((has_met2 _ _ _ _).2 ⟨h1, (has_idr _ _ _).2 ⟨rfl, by rw [inn_all]; simpa using (has_lt h1).1⟩⟩)
  · intro h a b h1
    rw [has_met2, has_idr] at h1
    obtain ⟨h1, rfl, _⟩ := h1
    exact h a h1
theorem acy_iff (r : Rl) : acyB r = true ↔ ∀ a, ¬ Plus r a a := by
  unfold acyB; rw [irr_iff]
  exact ⟨fun h a h1 => h a ((has_plus r a a).2 h1), fun h a h1 => h a ((has_plus r a a).1 h1)⟩
theorem hasB_iff (r : Rl) (a b : Nat) : hasB r a b = true ↔ has r a b := by
  unfold hasB
  constructor
  · intro h; simp only [Bool.and_eq_true] at h; exact h.2
  · intro h
    obtain ⟨ha, hb⟩ := has_lt h
    have h1 : evB a = true := by unfold evB; simp; omega
    have h2 : evB b = true := by unfold evB; simp; omega
    rw [h1, h2]; exact h
theorem mem_lst (s : St) (n e : Nat) : e ∈ lst s n ↔ e < n ∧ inn s e = true := by unfold lst; simp
theorem mem_prs (r : Rl) (n : Nat) (p : Nat × Nat) : p ∈ prs r n ↔ p.1 < n ∧ has r p.1 p.2 := by
  unfold prs
  simp only [List.mem_flatMap, List.mem_range, List.mem_map, mem_lst]
  constructor
  · rintro ⟨a, ha, b, ⟨_, hb⟩, rfl⟩; exact ⟨ha, hb⟩
  · rintro ⟨h1, h2⟩; exact ⟨p.1, h1, p.2, ⟨(has_lt h2).2, h2⟩, rfl⟩

end Go.Proofs.Ytlbccddhcbcpoaa
/- What 'able' returns: true. -/
namespace Go.Proofs.Ytlbccddhcbcpoaa
open Go.RowKit

theorem has_upd (r : Rl) (k : Nat) (hk : k < 32) (s : St) (a b : Nat) : has (upd r k s) a b ↔ (a = k ∧ inn s b = true) ∨ (a ≠ k ∧ has r a b) := by
  unfold has
  by_cases h : a = k
  · subst h; rw [row_upd_same _ _ _ hk]; simp
  · rw [row_upd_other _ _ _ _ h]; simp [h]
theorem has_pair1 (x y : Nat) (hx : x < 32) (hy : y < 32) (a b : Nat) : has (pairT [((x : Int), (y : Int))]) a b ↔ a = x ∧ b = y := by
  have h1 : evB x = true := by unfold evB; simp; omega
  have h2 : evB y = true := by unfold evB; simp; omega
  show has (pairS nil ((x : Int), (y : Int))) a b ↔ _
  rw [pairS_yes h1 h2, has_upd _ _ hx, row_nil, inn_or, inn_zero, inn_one]
  simp [not_has_nil]
  intro _ h; omega
def pA : Rl := pairT [(0, 1)]
def pB : Rl := pairT [(1, 2)]
def pC : Rl := pairT [(0, 2)]
theorem has_pA (a b : Nat) : has pA a b ↔ a = 0 ∧ b = 1 := has_pair1 0 1 (by omega) (by omega) a b
theorem has_pB (a b : Nat) : has pB a b ↔ a = 1 ∧ b = 2 := has_pair1 1 2 (by omega) (by omega) a b
theorem has_pC (a b : Nat) : has pC a b ↔ a = 0 ∧ b = 2 := has_pair1 0 2 (by omega) (by omega) a b
theorem seq_AB : sqs [pA, pB] = pC := rl_ext fun a c => by
  rw [has_sqs2, has_pC]
  constructor
  · rintro ⟨b, h1, h2⟩; rw [has_pA] at h1; rw [has_pB] at h2; exact ⟨h1.1, h2.2⟩
  · rintro ⟨rfl, rfl⟩; exact ⟨1, (has_pA 0 1).2 ⟨rfl, rfl⟩, (has_pB 1 2).2 ⟨rfl, rfl⟩⟩
theorem able1 : hasB (sqs [pA, pB]) 0 2 = true := by rw [seq_AB]; exact (hasB_iff pC 0 2).2 ((has_pC 0 2).2 ⟨rfl, rfl⟩)
theorem prs_C : prs pC 32 = [(0, 2)] := by kernel_rfl
theorem able2 : (((prs (sqs [pA, pB]) 32).length : Int) == 1) = true := by rw [seq_AB, prs_C]; rfl
theorem able3 : hasB (plusT (uni [pA, pB]) 32) 0 2 = true := by
  refine (hasB_iff _ 0 2).2 ((has_plus _ _ _).2 (.join (b := 1) (.step ?_) (by omega) (.step ?_)))
  · exact (has_uni2 _ _ _ _).2 (.inl ((has_pA 0 1).2 ⟨rfl, rfl⟩))
  · exact (has_uni2 _ _ _ _).2 (.inr ((has_pB 1 2).2 ⟨rfl, rfl⟩))
theorem able4 : acyB (uni [pA, invT pA 32]) = false := by
  cases h : acyB (uni [pA, invT pA 32])
  · rfl
  · refine absurd ?_ ((acy_iff _).1 h 0)
    exact .join (b := 1) (.step ((has_uni2 _ _ _ _).2 (.inl ((has_pA 0 1).2 ⟨rfl, rfl⟩)))) (by omega) (.step ((has_uni2 _ _ _ _).2 (.inr ((has_inv _ _ _).2 ((has_pA 0 1).2 ⟨rfl, rfl⟩)))))
theorem able5 : (U (fst 3) == 7) = true := by decide
attribute [local irreducible] wpList cells row U aft inn one nil part upd idr crs mns eqB evB stepP plusT invT uni met sqs or2 and2 seq2 allS lst nums prs prt pcs pairT pairS irrB acyB hasB fst pA pB pC has
theorem pair_one (x y : Int) (b : Nat) (w : World) (hb : b < w.heap.size) (h0 : w.cell? ⟨b, 0, none⟩ = some (.int .i64 x)) (h1 : w.cell? ⟨b, 1, none⟩ = some (.int .i64 y)) :
    Calls Try.prog 14 #[.slice (some ⟨b, 0, none⟩) 1 1] w fun e w' => e = .returned (.agg (cells (pairT [(x, y)]))) ∧ Grow w w' :=
  pair_sl [(x, y)] b 0 1 w hb (by simp) (fun j x' y' hj => by
    match j, hj with
    | 0, hj => simp at hj; obtain ⟨rfl, rfl⟩ := hj; exact ⟨h0, h1⟩)
theorem pA_def : pairT [(0, 1)] = pA := by unfold pA; rfl
theorem pB_def : pairT [(1, 2)] = pB := by unfold pB; rfl

set_option maxHeartbeats 2000000 in
theorem able_any (w : World) : Calls Try.prog 9 #[] w fun x w' => x = .returned (.bool true) ∧ Grow w w' := by
  go_enter Try.func9, Try.ntmps9
  go_wp2_with fail
  refine (pair_one 0 1 _ _ (by simp) (by simp) (by simp)).mono ?_
  rintro e w1 ⟨rfl, hg1⟩
  rw [pA_def]
  go_wp2_with fail
  refine (pair_one 1 2 _ _ (by simp) (by simp) (by simp)).mono ?_
  rintro e w2 ⟨rfl, hg2⟩
  rw [pB_def]
  have hgw : Grow w w2 := Grow.trans (Grow.trans ((Grow.refl w).alloc _) hg1) (Grow.trans ((Grow.refl w1).alloc _) hg2)
  clear hg1 hg2
  have hnA : At ((w2.alloc (.cells (cells nil) 28)).alloc (.cells (cells nil) 28)) w2.heap.size nil := (At.new w2 nil).alloc _
  have hnB : At ((w2.alloc (.cells (cells nil) 28)).alloc (.cells (cells nil) 28)) (w2.heap.size + 1) nil := by simpa using At.new (w2.alloc (.cells (cells nil) 28)) nil
  have hA := (hnA.put (r' := pA)).put_other (r' := pB) (g' := w2.heap.size + 1) (by omega)
  have hnB1 := hnB.put_other (r' := pA) (g' := w2.heap.size) (by omega)
  have hB := hnB1.put (r' := pB)
  have hgB : Grow w ((((w2.alloc (.cells (cells nil) 28)).alloc (.cells (cells nil) 28)).setRow w2.heap.size (cells pA)).setRow (w2.heap.size + 1) (cells pB)) :=
    below_setRow (below_setRow (Grow.alloc (Grow.alloc hgw _) _) hgw.size _) (by have := hgw.size; omega) _
  go_wp2_with (first | (refine al w2.heap.size rfl ?_) | (refine al (w2.heap.size + 1) (by simp) ?_) | (refine al w4.heap.size rfl ?_) | (refine st w2.heap.size nil pA (by rfl) (by rfl) hnA ?_) | (refine st (w2.heap.size + 1) nil pB (by rfl) (by rfl) hnB1 ?_) | (refine ld w2.heap.size pA (by rfl) hA ?_) | (refine ld (w2.heap.size + 1) pB (by rfl) hB ?_) | (refine bs2 pA pB (by rfl) (by rfl) ?_; intro v3 w3 hg3 hs3) | (go_at_call 21; refine (seq_any [pA, pB] _ _ hs3 (by simp)).mono ?_; rintro e w4 ⟨rfl, hg4⟩) | (refine st w4.heap.size nil (sqs [pA, pB]) (by rfl) (by rfl) (At.new w4 nil) ?_))
  rw [World.setRow_alloc_new]
  have hA4 := (hA.grow hg3).grow hg4
  have hB4 := (hB.grow hg3).grow hg4
  have hG4 := Grow.trans (Grow.trans hgB hg3) hg4
  have hA5 := hA4.alloc (.cells (cells (sqs [pA, pB])) 28)
  have hB5 := hB4.alloc (.cells (cells (sqs [pA, pB])) 28)
  have hS5 := At.new w4 (sqs [pA, pB])
  have hG5 := Grow.alloc hG4 (.cells (cells (sqs [pA, pB])) 28)
  generalize w4.alloc (.cells (cells (sqs [pA, pB])) 28) = w5 at hA5 hB5 hS5 hG5 ⊢
  refine told (tabOf ([(1, .ptr (pA)), (2, .ptr (pB)), (3, .ptr (sqs [pA, pB]))] ++ [(14, .val (.agg (cells (sqs [pA, pB])))), (15, .val (.bool true)), (16, .val (.bool true)), (17, .val (.agg (cells (sqs [pA, pB])))), (18, .val (.int .i64 (((prs (sqs [pA, pB]) 32).length : Nat)))), (19, .val (.bool true)), (20, .val (.bool true)), (21, .val (.bool true)), (22, .val (.agg (cells (pA)))), (23, .val (.agg (cells (pB)))), (24, .sl [pA, pB]), (25, .val (.agg (cells (uni [pA, pB])))), (26, .val (.agg (cells (plusT (uni [pA, pB]) 32)))), (27, .val (.bool true)), (28, .val (.bool true)), (29, .val (.bool true)), (30, .val (.agg (cells (pA)))), (31, .val (.agg (cells (pA)))), (32, .val (.agg (cells (invT (pA) 32)))), (33, .sl [pA, invT (pA) 32]), (34, .val (.agg (cells (uni [pA, invT (pA) 32])))), (35, .val (.bool false)), (36, .val (.bool true)), (37, .val (.bool true)), (38, .val (.bool true)), (39, .val (.int .u32 (U (fst 3)))), (40, .val (.bool true)), (41, .val (.bool true)), (0, .val (.bool true))])) (by kernel_rfl) (by kernel_rfl) (tab_out _ _ (by kernel_rfl) ?outer) ?each ?last
  case each =>
    refine List.forall_mem_cons.2 ⟨k_ld (sqs [pA, pB]) (by kernel_rfl) rfl rfl trivial, ?_⟩
    refine List.forall_mem_cons.2 ⟨k_h (.agg (cells (sqs [pA, pB]))) (.bool true) (by kernel_rfl) (by kernel_rfl) rfl (fun w => calls_val (has_any (sqs [pA, pB]) 0 2 w) (congrArg Value.bool (able1))) rfl trivial, ?_⟩
    refine List.forall_mem_cons.2 ⟨k_mv (by kernel_rfl) rfl trivial, ?_⟩
    refine List.forall_mem_cons.2 ⟨k_ld (sqs [pA, pB]) (by kernel_rfl) rfl rfl ⟨16, rfl, (by kernel_rfl), rfl⟩, ?_⟩
    refine List.forall_mem_cons.2 ⟨k_c1 (.agg (cells (sqs [pA, pB]))) (.int .i64 (((prs (sqs [pA, pB]) 32).length : Nat))) (by kernel_rfl) (by kernel_rfl) rfl (count_any (sqs [pA, pB])) rfl ⟨16, rfl, (by kernel_rfl), rfl⟩, ?_⟩
    refine List.forall_mem_cons.2 ⟨k_bin (.int .i64 (((prs (sqs [pA, pB]) 32).length : Nat))) (.int .i64 1) (.bool true) (fun _ _ h => ⟨h 18 (by kernel_rfl), rfl⟩) rfl (eqi _ _ _ _ _ able2) ⟨16, rfl, (by kernel_rfl), rfl⟩, ?_⟩
    refine List.forall_mem_cons.2 ⟨k_pt (by kernel_rfl) (by kernel_rfl) rfl rfl trivial, ?_⟩
    refine List.forall_mem_cons.2 ⟨k_mv (by kernel_rfl) rfl trivial, ?_⟩
    refine List.forall_mem_cons.2 ⟨k_ld (pA) (by kernel_rfl) rfl rfl ⟨21, rfl, (by kernel_rfl), rfl⟩, ?_⟩
    refine List.forall_mem_cons.2 ⟨k_ld (pB) (by kernel_rfl) rfl rfl ⟨21, rfl, (by kernel_rfl), rfl⟩, ?_⟩
    refine List.forall_mem_cons.2 ⟨k_b2 (pA) (pB) (by kernel_rfl) rfl (by kernel_rfl) rfl rfl ⟨21, rfl, (by kernel_rfl), rfl⟩, ?_⟩
    refine List.forall_mem_cons.2 ⟨k_s1 [pA, pB] (.agg (cells (uni [pA, pB]))) (by kernel_rfl) (by kernel_rfl) rfl (fun v w h => uni_any [pA, pB] v w h (by simp)) rfl ⟨21, rfl, (by kernel_rfl), rfl⟩, ?_⟩
    refine List.forall_mem_cons.2 ⟨k_c1 (.agg (cells (uni [pA, pB]))) (.agg (cells (plusT (uni [pA, pB]) 32))) (by kernel_rfl) (by kernel_rfl) rfl (plus_any (uni [pA, pB])) rfl ⟨21, rfl, (by kernel_rfl), rfl⟩, ?_⟩
    refine List.forall_mem_cons.2 ⟨k_h (.agg (cells (plusT (uni [pA, pB]) 32))) (.bool true) (by kernel_rfl) (by kernel_rfl) rfl (fun w => calls_val (has_any (plusT (uni [pA, pB]) 32) 0 2 w) (congrArg Value.bool (able3))) rfl ⟨21, rfl, (by kernel_rfl), rfl⟩, ?_⟩
    refine List.forall_mem_cons.2 ⟨k_pt (by kernel_rfl) (by kernel_rfl) rfl rfl trivial, ?_⟩
    refine List.forall_mem_cons.2 ⟨k_mv (by kernel_rfl) rfl trivial, ?_⟩
    refine List.forall_mem_cons.2 ⟨k_ld (pA) (by kernel_rfl) rfl rfl ⟨29, rfl, (by kernel_rfl), rfl⟩, ?_⟩
    refine List.forall_mem_cons.2 ⟨k_ld (pA) (by kernel_rfl) rfl rfl ⟨29, rfl, (by kernel_rfl), rfl⟩, ?_⟩
    refine List.forall_mem_cons.2 ⟨k_c1 (.agg (cells (pA))) (.agg (cells (invT (pA) 32))) (by kernel_rfl) (by kernel_rfl) rfl (inv_any (pA)) rfl ⟨29, rfl, (by kernel_rfl), rfl⟩, ?_⟩
    refine List.forall_mem_cons.2 ⟨k_b2 (pA) (invT (pA) 32) (by kernel_rfl) rfl (by kernel_rfl) rfl rfl ⟨29, rfl, (by kernel_rfl), rfl⟩, ?_⟩
    refine List.forall_mem_cons.2 ⟨k_s1 [pA, invT (pA) 32] (.agg (cells (uni [pA, invT (pA) 32]))) (by kernel_rfl) (by kernel_rfl) rfl (fun v w h => uni_any [pA, invT (pA) 32] v w h (by simp)) rfl ⟨29, rfl, (by kernel_rfl), rfl⟩, ?_⟩
    refine List.forall_mem_cons.2 ⟨k_c1 (.agg (cells (uni [pA, invT (pA) 32]))) (.bool false) (by kernel_rfl) (by kernel_rfl) rfl (fun w => calls_val (acy_any (uni [pA, invT (pA) 32]) w) (congrArg Value.bool (able4))) rfl ⟨29, rfl, (by kernel_rfl), rfl⟩, ?_⟩
    refine List.forall_mem_cons.2 ⟨k_not false true (by kernel_rfl) rfl rfl rfl ⟨29, rfl, (by kernel_rfl), rfl⟩, ?_⟩
    refine List.forall_mem_cons.2 ⟨k_pt (by kernel_rfl) (by kernel_rfl) rfl rfl trivial, ?_⟩
    refine List.forall_mem_cons.2 ⟨k_mv (by kernel_rfl) rfl trivial, ?_⟩
    refine List.forall_mem_cons.2 ⟨k_k1 (.int .u32 (U (fst 3))) (by kernel_rfl) (fun w => grow_of (first_any 3 w)) rfl ⟨38, rfl, (by kernel_rfl), rfl⟩, ?_⟩
    refine List.forall_mem_cons.2 ⟨k_bin (.int .u32 (U (fst 3))) (.int .u32 7) (.bool true) (fun _ _ h => ⟨h 39 (by kernel_rfl), rfl⟩) rfl (eqi _ _ _ _ _ able5) ⟨38, rfl, (by kernel_rfl), rfl⟩, ?_⟩
    refine List.forall_mem_cons.2 ⟨k_pt (by kernel_rfl) (by kernel_rfl) rfl rfl trivial, ?_⟩
    refine List.forall_mem_cons.2 ⟨k_as (by kernel_rfl) rfl trivial, ?_⟩
    intro _ h; cases h
  case outer =>
    intro x hx
    simp only [List.mem_cons, List.not_mem_nil, or_false] at hx
    rcases hx with rfl | rfl | rfl
    · exact ⟨w2.heap.size, rfl, hA5.drew⟩
    · exact ⟨w2.heap.size + 1, rfl, hB5.drew⟩
    · exact ⟨w4.heap.size, rfl, hS5.drew⟩
  case last =>
    intro f w' hg hf
    have hv : f 28 = .bool true := hf 28 0 rfl
    simp only [putF, Act.put, List.setIfInBounds_toArray, List.set_cons_zero, List.set_cons_succ]
    go_wp2
    go_ret
    exact ⟨congrArg Ending.returned hv, Grow.trans hG5 hg⟩

end Go.Proofs.Ytlbccddhcbcpoaa
/- How the arguments of the statements are read: a relation, a set. -/
namespace Go.Proofs.Ytlbccddhcbcpoaa
open Go.ChangeShapes Go.WideShapes Go.ChangeAt Go.RowKit

theorem cells_rel : Try.prog.cellsOf 28 = 32 := by kernel_rfl
theorem rel_of_cells (cs : Array Value) (hs : cs.size = 32) (h : ∀ i, i < 32 → ∃ x : St, cs[i]? = some (.int .u32 (U x))) : ∃ r : Rl, cs = cells r := by
  refine ⟨fun i => Classical.choose (h i.val i.isLt), ?_⟩
  apply Array.ext_getElem?
  intro k
  by_cases hk : k < 32
  · rw [Classical.choose_spec (h k hk), cells_at _ k hk, row_of _ hk]
  · rw [Array.getElem?_eq_none (by omega), Array.getElem?_eq_none (by rw [cells_size]; omega)]
theorem open_rel {H : Type} {enc : TypeId × Value → H} {W : World} {base : Nat} {spare : Nat → Bool} {held : Bool} {base' : Nat} {v : Value} {d : DataW H} {ps : List MemPlace}
    (hv : Value.okWide Try.prog W .any base 28 v) (h : DataW.Trod enc Try.prog W base' spare held 28 v d ps) : ∃ r : Rl, v = .agg (cells r) := by
  unfold Value.okWide at hv
  rw [und_rel] at hv
  obtain ⟨cs, rfl, hsz, _⟩ := hv
  rw [cells_rel] at hsz
  obtain ⟨fuel, hf⟩ := h
  obtain ⟨xs, m, _, _, _, hxl, hx⟩ := DataW.trod_array und_rel hf
  obtain ⟨r, rfl⟩ := rel_of_cells cs hsz (fun i hi => by
    have h1 := hx i hi
    rw [cells_of_set] at h1
    have hxi : i < xs.length := by omega
    rw [List.getElem?_eq_getElem hxi] at h1
    obtain ⟨n, h2, _, hwf⟩ := DataW.trod_int Try.underlying25 h1
    obtain ⟨x, rfl⟩ := U_of_wf hwf
    refine ⟨x, ?_⟩
    have h3 : ((Value.agg cs).cells.toList.drop (i * 1)).take 1 = [.int .u32 (U x)] := h2
    have h4 : ((Value.agg cs).cells.toList.drop (i * 1))[0]? = some (.int .u32 (U x)) := by
      have := congrArg (fun l => l[0]?) h3
      simpa using this
    have h5 : cs.toList[i]? = some (.int .u32 (U x)) := by simpa [Value.cells] using h4
    simpa using h5)
  exact ⟨r, rfl⟩

end Go.Proofs.Ytlbccddhcbcpoaa
/- The law on drawn regions for a region whose last operation stores, and waits for all others. -/
namespace Go.Proofs.Ytlbccddhcbcpoaa
open Go.RowKit

/-- a new variable that lies behind all that was there -/
def freshP (B : Nat) : Value → World → Prop := fun v wx => ∃ g, B ≤ g ∧ v = .pointer (some ⟨g, 0, none⟩) ∧ At wx g nil
theorem freshP_grow (B : Nat) : ∀ v w w', Grow w w' → freshP B v w → freshP B v w' := fun _ _ _ hg ⟨g, h1, h2, h3⟩ => ⟨g, h1, h2, h3.grow hg⟩
section
variable {l : List Oper} {s : Oper} {Q : Exit → Act → World → Prop} {a : Act} {w : World}
theorem final_form (tab : Nat → Cl) (hfit : fitB l.toArray a.tmps.size = true) {a' : Act} {w' : World} (hdf : a'.defers = a.defers) (hsz : a'.tmps.size = a.tmps.size)
    (ho : ∀ t, (∀ o ∈ l, o.dst ≠ some t) → a'.tmps[t]? = a.tmps[t]?) (hin : ∀ i d, dstOf l.toArray i = some d → (tab d).ok (a'.tmps.getD d undef) w') :
    ∃ f, a' = putF a l 0 f ∧ ∀ i d, dstOf l.toArray i = some d → (tab d).ok (f i) w' := by
  refine ⟨fun i => a'.tmps.getD ((dstOf l.toArray i).getD 0) undef, ?_, fun i d hd => by simpa [hd] using hin i d hd⟩
  have e1 : a'.tmps = (putF a l 0 (fun i => a'.tmps.getD ((dstOf l.toArray i).getD 0) undef)).tmps := by
    apply Array.ext_getElem?
    intro t
    by_cases hex : ∃ i, dstOf l.toArray i = some t
    · obtain ⟨i, hi⟩ := hex
      have hio : ∃ o, l.toArray[i]? = some o ∧ o.dst = some t := by
        unfold dstOf at hi
        cases ho : l.toArray[i]? with
        | none => rw [ho] at hi; simp at hi
        | some o => exact ⟨o, rfl, by rw [ho] at hi; simpa using hi⟩
      obtain ⟨o, hoi, hot⟩ := hio
      obtain ⟨d, hd, hdn, huniq, _⟩ := fit_spec hfit hoi
      rw [hot] at hd; cases hd
      rw [putF_in _ t l a 0 i hdn (by simpa [dstOf] using hi) (fun j hj => by
        have hjd : dstOf l.toArray j = some t := by simpa [dstOf] using hj
        refine huniq j ?_ hjd
        unfold dstOf at hjd
        cases hoj : l.toArray[j]? with
        | none => rw [hoj] at hjd; simp at hjd
        | some _ => exact (Array.getElem?_eq_some_iff.1 hoj).1)]
      have htl : t < a'.tmps.size := by rw [hsz]; exact hdn
      simp [hi, htl]
    · have hno : ∀ o ∈ l, o.dst ≠ some t := fun o ho hd => by
        obtain ⟨i, hi⟩ := List.getElem?_of_mem ho
        exact hex ⟨i, by simp [dstOf, hi, hd]⟩
      rw [ho t hno, putF_out _ t _ _ _ hno]
  exact act_ext e1 (by rw [putF_defers, hdf])
theorem fd_cons {P : Oper → Prop} {x y : Oper} {l : List Oper} (h : P x) (ht : ∀ o ∈ (y :: l).dropLast, P o) : ∀ o ∈ (x :: y :: l).dropLast, P o := by
  rw [List.dropLast_cons_cons]; exact List.forall_mem_cons.2 ⟨h, ht⟩
theorem fd_one {P : Oper → Prop} {x : Oper} : ∀ o ∈ [x].dropLast, P o := by simp
theorem putF_two (a : Act) (x y : Oper) (l : List Oper) (k : Nat) (f : Nat → Value) : putF a (x :: y :: l).dropLast k f = putF (a.put x.dst (f k)) (y :: l).dropLast (k + 1) f := by rw [List.dropLast_cons_cons]; rfl
theorem putF_one (a : Act) (x : Oper) (k : Nat) (f : Nat → Value) : putF a [x].dropLast k f = a := rfl
theorem any_ok {tab : Nat → Cl} {d : Nat} {P : Value → World → Prop} {h : ∀ v w w', Grow w w' → P v w → P v w'} {v : Value} {w : World} (e : tab d = .any P h) (hk : (tab d).ok v w) : P v w := by rw [e] at hk; exact hk
theorem fresh_out {B : Nat} {v : Value} {w : World} (h : freshP B v w) : ∃ g, B ≤ g ∧ v = .pointer (some ⟨g, 0, none⟩) ∧ At w g nil := h
/-- the last operation waits for all others -/
def waitB (l : List Oper) (s : Oper) : Bool := ((List.range l.length).all fun j => s.after.any fun e => Region.binds .any e && e.on == j) && (s.after.all fun e => decide (e.on < l.length)) && s.dst.isNone && s.guard.isNone
theorem told_last_any (tab : Nat → Cl) (hfit : fitB l.toArray a.tmps.size = true) (hwait : waitB l s = true) (hout : ∀ t, (∀ o ∈ l, o.dst ≠ some t) → (tab t).ok (a.tmps.getD t undef) w)
    (hop : ∀ o ∈ l, Obl (l ++ [s]).toArray Q w tab o)
    (hend : ∀ f w', Grow w w' → (∀ i d, dstOf l.toArray i = some d → (tab d).ok (f i) w') → s.wp Try.prog (putF a l 0 f) w' (fun a'' w'' => Q .normal a'' w'') Q) :
    ∀ (fuel : Nat) (listed : Array Bool) (a' : Act) (w' : World), listed.size = l.length + 1 → listed.getD l.length true = false → ((List.range (l.length + 1)).filter fun i => !listed.getD i true).length ≤ fuel → Grow w w' → a'.defers = a.defers → a'.tmps.size = a.tmps.size →
      (∀ t, (∀ o ∈ l, o.dst ≠ some t) → a'.tmps[t]? = a.tmps[t]?) →
      (∀ i d, listed.getD i false = true → dstOf l.toArray i = some d → (tab d).ok (a'.tmps.getD d undef) w') →
      wpAny Try.prog .any (l ++ [s]).toArray Q fuel listed a' w' := by
  unfold waitB at hwait
  simp only [Bool.and_eq_true] at hwait
  obtain ⟨⟨⟨hw1, hw2⟩, hw3⟩, hw4⟩ := hwait
  have hsd : s.dst = none := by simpa using hw3
  have hsg : s.guard = none := by simpa using hw4
  have hse : ∀ e ∈ s.after, e.on < l.length := fun e he => by
    have := (Array.all_eq_true_iff_forall_mem.1 hw2) e he
    simpa using this
  have hsw : ∀ j, j < l.length → ∃ e ∈ s.after, Region.binds .any e = true ∧ e.on = j := fun j hj => by
    have := (List.all_eq_true.1 hw1) j (by simpa using hj)
    rw [← Array.any_toList, List.any_eq_true] at this
    obtain ⟨e, he, hb⟩ := this
    simp only [Bool.and_eq_true, beq_iff_eq] at hb
    exact ⟨e, by simpa using he, hb.1, hb.2⟩
  have hat : ∀ i, i < l.length → (l ++ [s]).toArray[i]? = l.toArray[i]? := fun i hi => by simp [List.getElem?_append_left hi]
  have hlast : (l ++ [s]).toArray[l.length]? = some s := by simp
  have hdst : ∀ i d, dstOf (l ++ [s]).toArray i = some d → i < l.length ∧ dstOf l.toArray i = some d := fun i d h => by
    unfold dstOf at h ⊢
    rcases Nat.lt_or_ge i l.length with hi | hi
    · rw [hat i hi] at h; exact ⟨hi, h⟩
    · rcases Nat.lt_or_ge l.length i with h2 | h2
      · have : (l ++ [s]).toArray[i]? = none := Array.getElem?_eq_none (by simp; omega)
        rw [this] at h; simp at h
      · have : i = l.length := by omega
        rw [this, hlast] at h; simp [hsd] at h
  intro fuel
  induction fuel with
  | zero =>
    intro listed a' w' hls hlun hf
    exfalso
    have hnil : ((List.range (l.length + 1)).filter fun i => !listed.getD i true) = [] := List.eq_nil_of_length_eq_zero (by omega)
    rw [List.filter_eq_nil_iff] at hnil
    have := hnil l.length (by simp)
    rw [hlun] at this; simp at this
  | succ fuel ih =>
    intro listed a' w' hls hlun hf hg hdf hsz ho hin
    refine ⟨fun hr => ?_, fun i hi => ?_⟩
    · exfalso
      have all : ∀ i, i < l.length + 1 → listed.getD i false = true := by
        intro i
        induction i using Nat.strongRecOn with
        | _ i ihi =>
          intro hi
          cases hl : listed.getD i false with
          | true => rfl
          | false =>
            exfalso
            have hli : i < listed.size := by omega
            have hmem : i ∈ Region.ready .any (l ++ [s]).toArray listed := by
              rw [mem_ready]
              refine ⟨by simpa [hli] using hl, ?_⟩
              rcases Nat.lt_or_ge i l.length with h1 | h1
              · refine ⟨l[i], by rw [hat i h1]; simp [h1], fun e he _ => ?_⟩
                obtain ⟨d, _, _, _, hlt⟩ := fit_spec hfit (show l.toArray[i]? = some l[i] by simp [h1])
                have := hlt e he
                exact ihi e.on this (by omega)
              · have hie : i = l.length := by omega
                subst hie
                exact ⟨s, hlast, fun e he _ => by have := hse e he; exact ihi e.on this (by omega)⟩
            rw [hr] at hmem; cases hmem
      have h1 := all l.length (by omega)
      have hll : l.length < listed.size := by omega
      simp [hll] at h1 hlun
      rw [h1] at hlun; cases hlun
    · obtain ⟨hun, o, hoi, hall⟩ := mem_ready.1 hi
      have hil : i < l.length + 1 := by have := (Array.getElem?_eq_some_iff.1 hoi).1; simpa using this
      rcases Nat.lt_or_ge i l.length with hin' | hin'
      · have hoi' : l.toArray[i]? = some o := by rw [← hat i hin']; exact hoi
        have hmem : o ∈ l := by have := List.mem_of_getElem? (show l[i]? = some o by simpa using hoi'); exact this
        obtain ⟨d, hd, hdn, huniq, _⟩ := fit_spec hfit hoi'
        have hdi : dstOf l.toArray i = some d := by simp only [dstOf, hoi']; simpa using hd
        have hkn : ∀ t, knownB (l ++ [s]).toArray o t = true → (tab t).ok (a'.tmps.getD t undef) w' := fun t ht => by
          unfold knownB at ht
          rw [Bool.or_eq_true] at ht
          rcases ht with ht | ht
          · have hno : ∀ p ∈ l, p.dst ≠ some t := fun p hp => by
              have := (Array.all_eq_true_iff_forall_mem.1 ht) p (by simp [hp])
              simpa using this
            have h1 := (tab t).grow hg (hout t hno)
            have h2 : a'.tmps.getD t undef = a.tmps.getD t undef := by simp [Array.getD_eq_getD_getElem?, ho t hno]
            rw [h2]; exact h1
          · rw [← Array.any_toList, List.any_eq_true] at ht
            obtain ⟨e, he', hb⟩ := ht
            have he : e ∈ o.after := by simpa using he'
            simp only [Bool.and_eq_true, beq_iff_eq] at hb
            exact hin e.on t (hall e he hb.1) (hdst e.on t hb.2).2
        obtain ⟨hw, hwp⟩ := hop o hmem a' w' hg hkn
        unfold wpOp
        simp only [hoi, hw, if_true]
        refine .inl (Oper.wp_mono (fun a2 w2 h => ?_) hwp)
        obtain ⟨v, rfl, hg2, hv⟩ := h
        have hput : (a'.put o.dst v).tmps = a'.tmps.setIfInBounds d v := by simp [Act.put, hd]
        refine ih _ _ _ (by simpa using hls) (by rw [getD_set_ne true (by omega)]; exact hlun) ?_ (Grow.trans hg hg2) (by simp [Act.put, hd, hdf]) (by rw [hput]; simpa using hsz) (fun t hno => ?_) (fun j d' hj hdj => ?_)
        · have hlt : i < listed.size := by omega
          have : ((List.range (l.length + 1)).filter fun k => !(listed.setIfInBounds i true).getD k true).length < ((List.range (l.length + 1)).filter fun k => !listed.getD k true).length := by
            have hsub : ((List.range (l.length + 1)).filter fun k => !(listed.setIfInBounds i true).getD k true) = ((List.range (l.length + 1)).filter fun k => !listed.getD k true).filter (fun k => k != i) := by
              rw [List.filter_filter]
              apply List.filter_congr
              intro k _
              by_cases hk : k = i
              · subst hk; simp [hlt]
              · rw [getD_set_ne true (Ne.symm hk)]; simp [hk]
            rw [hsub]
            refine List.length_filter_lt_length_iff_exists.2 ⟨i, ?_, by simp⟩
            simp only [List.mem_filter, List.mem_range]
            exact ⟨hil, by rw [hun]; rfl⟩
          omega
        · rw [hput]
          have : d ≠ t := fun e => hno o hmem (by rw [hd, e])
          rw [Array.getElem?_setIfInBounds_ne this]; exact ho t hno
        · rw [hput]
          by_cases hji : j = i
          · subst hji
            rw [hdi] at hdj; cases hdj
            have hdl : d < a'.tmps.size := by rw [hsz]; exact hdn
            simpa [hdl] using hv d hd
          · have hdd : d ≠ d' := fun e => by
              subst e
              have hjl : j < l.toArray.size := by
                unfold dstOf at hdj
                cases hoj : l.toArray[j]? with
                | none => rw [hoj] at hdj; simp at hdj
                | some _ => exact (Array.getElem?_eq_some_iff.1 hoj).1
              exact hji (huniq j hjl hdj)
            have h1 := hin j d' (by rwa [getD_set_ne false (Ne.symm hji)] at hj) hdj
            have h2 : (a'.tmps.setIfInBounds d v).getD d' undef = a'.tmps.getD d' undef := by simp [Array.getD_eq_getD_getElem?, Array.getElem?_setIfInBounds_ne hdd]
            rw [h2]; exact (tab d').grow hg2 h1
      · have hie : i = l.length := by omega
        subst hie
        rw [hlast] at hoi
        cases hoi
        have hall' : ∀ j, j < l.length → listed.getD j false = true := fun j hj => by
          obtain ⟨e, he, hb, rfl⟩ := hsw j hj
          exact hall e he hb
        obtain ⟨f, rfl, hf2⟩ := final_form tab hfit hdf hsz ho (fun j d hd => hin j d (hall' j (by
          unfold dstOf at hd
          cases hoj : l.toArray[j]? with
          | none => rw [hoj] at hd; simp at hd
          | some _ => have := (Array.getElem?_eq_some_iff.1 hoj).1; simpa using this)) hd)
        have h := hend f w' hg hf2
        have hwn : Region.wanted s (yielded (l ++ [s]).toArray (putF a l 0 f).tmps) = true := by unfold Region.wanted; rw [hsg]
        unfold wpOp
        simp only [hlast, hwn, if_true]
        refine .inl (Oper.wp_mono (fun a2 w2 hq => ?_) h)
        have hready : Region.ready .any (l ++ [s]).toArray (listed.setIfInBounds l.length true) = [] := by
          unfold Region.ready
          rw [List.filter_eq_nil_iff]
          intro j hj
          have hj' : j < l.length + 1 := by simpa using hj
          have hlj : (listed.setIfInBounds l.length true).getD j true = true := by
            by_cases h1 : j = l.length
            · subst h1
              have : l.length < listed.size := by omega
              simp [this]
            · rw [getD_set_ne true (Ne.symm h1)]
              have h2 := hall' j (by omega)
              have : j < listed.size := by omega
              simpa [this] using h2
          rw [hlj]; simp
        cases fuel with
        | zero => exact ⟨hready, hq⟩
        | succ fuel => exact ⟨fun _ => hq, fun j hj => by rw [hready] at hj; cases hj⟩

/-- THE LAW for a region that draws its order and ends with a store that waits for all else. -/
theorem told_last {id : Nat} (l : List Oper) (s : Oper) {ops : Array Oper} (hops : ops = (l ++ [s]).toArray) (tab : Nat → Cl) (hm : Try.prog.follows .mixedOrders = true) (hfit : fitB l.toArray a.tmps.size = true) (hwait : waitB l s = true)
    (hout : ∀ t, (∀ o ∈ l, o.dst ≠ some t) → (tab t).ok (a.tmps.getD t undef) w.drew)
    (hop : ∀ o ∈ l, Obl (l ++ [s]).toArray Q w.drew tab o)
    (hend : ∀ f w', Grow w w' → (∀ i d, dstOf l.toArray i = some d → (tab d).ok (f i) w') → s.wp Try.prog (putF a l 0 f) w' (fun a'' w'' => Q .normal a'' w'') Q) :
    (Code.region id ops true).wp Try.prog Q a w := by
  subst hops
  refine wp_region_any hm ?_
  refine told_last_any (a := a) (w := w.drew) tab hfit hwait hout hop (fun f w' hg hf => hend f w' (Grow.trans ((Grow.refl w).drew) hg) hf) _ _ _ _ (by simp) ?_ ?_ (Grow.refl _) rfl rfl (fun _ _ => rfl) (fun i d hi _ => ?_)
  · simp
  · exact Nat.le_trans (List.length_filter_le _ _) (by simp)
  · exfalso
    simp [Array.getD_eq_getD_getElem?, Array.getElem?_replicate] at hi
    split at hi <;> simp at hi
theorem told_end {id : Nat} {L : List Oper} (hL : L ≠ []) (tab : Nat → Cl) (hm : Try.prog.follows .mixedOrders = true) (hfit : fitB L.dropLast.toArray a.tmps.size = true) (hwait : waitB L.dropLast (L.getLast hL) = true)
    (hout : ∀ t, (∀ o ∈ L.dropLast, o.dst ≠ some t) → (tab t).ok (a.tmps.getD t undef) w.drew)
    (hop : ∀ o ∈ L.dropLast, Obl (L.dropLast ++ [L.getLast hL]).toArray Q w.drew tab o)
    (hend : ∀ f w', Grow w w' → (∀ i d, dstOf L.dropLast.toArray i = some d → (tab d).ok (f i) w') → (L.getLast hL).wp Try.prog (putF a L.dropLast 0 f) w' (fun a'' w'' => Q .normal a'' w'') Q) :
    (Code.region id L.toArray true).wp Try.prog Q a w :=
  told_last L.dropLast (L.getLast hL) (by rw [List.dropLast_concat_getLast hL]) tab hm hfit hwait hout hop hend
variable {ops : Array Oper} {tab : Nat → Cl} {d : Tmp} {ty : TypeId} {pos : String} {af : Array Edge} {gd : Option (Nat × Bool)}
theorem k_al (B : Nat) (hB : B ≤ w.heap.size) (hd : tab d = .any (freshP B) (freshP_grow B))
    (hg : Gd ops tab { dst := some d, op := .alloc 28, type := ty, pos := pos, after := af, guard := gd }) :
    Obl ops Q w tab { dst := some d, op := .alloc 28, type := ty, pos := pos, after := af, guard := gd } := fun a' w' hgr hc => by
  refine ⟨wanted_of hg hc, ?_⟩
  have hi : (Try.prog.info? 28).map (fun i => (i.zero, i.size)) = some (some (.agg (Array.replicate 32 (Value.int .u32 0))), 32) := by kernel_rfl
  have hr : (execOp a'.eval { dst := some d, op := .alloc 28, type := ty, pos := pos, after := af, guard := gd }).run Try.prog w' = .ok (.value (.pointer (some ⟨w'.heap.size, 0, none⟩))) (w'.alloc (.cells (cells nil) 28)) := by
    have hz := (zero_of_info hi).1 w'
    unfold execOp
    rw [← cells_nil]
    simp only [Instr.alloc, newVar, newRow, Sem.run_bind, hz, Result.andThen_ok, Value.cells]
    rfl
  unfold Oper.wp
  rw [hr, Oper.upon_value]
  exact ⟨_, rfl, (Grow.refl _).alloc _, fun _ h => by cases h; rw [hd]; exact ⟨w'.heap.size, Nat.le_trans hB hgr.size, rfl, At.new w' nil⟩⟩
theorem st_wp {K : Act → World → Prop} {d : Option Tmp} {p q : Operand} (g : Nat) (r0 r : Rl) (hp : a.eval p = .pointer (some ⟨g, 0, none⟩)) (hq : a.eval q = .agg (cells r)) (hg : At w g r0)
    (h : K (a.put d undef) (w.setRow g (cells r))) : Oper.wp Try.prog { dst := d, op := .store 28 p q, type := ty, pos := pos, after := af, guard := gd } a w K Q :=
  wp_store_row 28 p q rfl g (cells r) hp hq 28 (cells r0) hg (by rw [cells_size]; exact info_rel) (by rw [cells_size, cells_size]) (cells_one r) h
/-- the address of a cell that holds a number -/
def cellP (x : Nat) : Value → World → Prop := fun v wx => ∃ g i, v = .pointer (some ⟨g, i, none⟩) ∧ g < wx.heap.size ∧ wx.cell? ⟨g, i, none⟩ = some (.int .i64 x)
theorem cellP_grow (x : Nat) : ∀ v w w', Grow w w' → cellP x v w → cellP x v w' := fun _ _ _ hg ⟨g, i, h1, h2, h3⟩ => ⟨g, i, h1, Nat.lt_of_lt_of_le h2 hg.size, by rw [hg.cell (p := ⟨g, i, none⟩) h2]; exact h3⟩
def rowP (l : List Nat) : Value → World → Prop := fun v wx => Il wx v l
theorem rowP_grow (l : List Nat) : ∀ v w w', Grow w w' → rowP l v w → rowP l v w' := fun _ _ _ hg h => Il.grow hg h
theorem size_int (w : World) : (sizeOf 3).run Try.prog w = .ok 1 w := by
  obtain ⟨i, hi, _, hs, _⟩ := info_int'
  have := run_sizeOf w hi
  have hc : Try.prog.cellsOf 3 = 1 := by kernel_rfl
  rw [hc] at this; exact this
theorem k_ia {p q : Tmp} (l : List Nat) (i x : Nat) (hk : knownB ops { dst := some d, op := .indexAddr 22 (.tmp p) (.tmp q), type := ty, pos := pos, after := af, guard := gd } p = true) (hk2 : knownB ops { dst := some d, op := .indexAddr 22 (.tmp p) (.tmp q), type := ty, pos := pos, after := af, guard := gd } q = true)
    (hp : tab p = .any (rowP l) (rowP_grow l)) (hq : tab q = .val (.int .i64 (i : Int))) (hx : l[i]? = some x) (hd : tab d = .any (cellP x) (cellP_grow x))
    (hg : Gd ops tab { dst := some d, op := .indexAddr 22 (.tmp p) (.tmp q), type := ty, pos := pos, after := af, guard := gd }) :
    Obl ops Q w tab { dst := some d, op := .indexAddr 22 (.tmp p) (.tmp q), type := ty, pos := pos, after := af, guard := gd } := fun a' w' hgr hc => by
  refine ⟨wanted_of hg hc, ?_⟩
  have h1 := hc p hk
  have h2 := hc q hk2
  rw [hp] at h1; rw [hq] at h2
  have hil : i < l.length := (List.getElem?_eq_some_iff.1 hx).1
  obtain ⟨g, cap, hv, hgl, hcx⟩ := Il.cell h1 hx
  have e1 : a'.eval (.tmp p) = .slice (some ⟨g, 0, none⟩) l.length cap := hv
  have e2 : a'.eval (.tmp q) = .int .i64 (i : Int) := h2
  have hb : (0 : Int) ≤ (i : Int) ∧ (i : Int) < (l.length : Int) := ⟨by omega, by omega⟩
  have hr : (Instr.indexAt 22 (.slice (some ⟨g, 0, none⟩) l.length cap) (.int .i64 (i : Int))).run Try.prog w' = .ok (.pointer (some ⟨g, i, none⟩)) w' := by
    unfold Instr.indexAt
    simp only [asIntOf, Sem.run_bind, Sem.run_pure, Result.andThen_ok, run_underlying Try.underlying22, if_pos hb, size_int, Int.toNat_natCast, Addr.add_mid, Nat.mul_one, Nat.zero_add]
  unfold Oper.wp execOp
  simp only [e1, e2, Sem.run_bind, hr, Sem.run_pure, Result.andThen_ok, Oper.upon_value]
  exact ⟨_, rfl, Grow.refl _, fun _ h => by cases h; rw [hd]; exact ⟨g, i, rfl, hgl, hcx⟩⟩
theorem k_li {p : Tmp} (x : Nat) (hk : knownB ops { dst := some d, op := .load 3 (.tmp p), type := ty, pos := pos, after := af, guard := gd } p = true) (hp : tab p = .any (cellP x) (cellP_grow x)) (hd : tab d = .val (.int .i64 (x : Int)))
    (hg : Gd ops tab { dst := some d, op := .load 3 (.tmp p), type := ty, pos := pos, after := af, guard := gd }) :
    Obl ops Q w tab { dst := some d, op := .load 3 (.tmp p), type := ty, pos := pos, after := af, guard := gd } := fun a' w' hgr hc => by
  refine ⟨wanted_of hg hc, ?_⟩
  have h1 := hc p hk
  rw [hp] at h1
  obtain ⟨g, i, hv, hgl, hcx⟩ := h1
  have e1 : a'.eval (.tmp p) = .pointer (some ⟨g, i, none⟩) := hv
  have hr : (Instr.loadAt 3 (.pointer (some ⟨g, i, none⟩))).run Try.prog w' = .ok (.int .i64 (x : Int)) w' := by
    simp [Instr.loadAt, Instr.sureAddr, loadVar, isAgg, run_underlying Try.underlying3, hcx, go_sem]
  unfold Oper.wp execOp
  simp only [e1, Sem.run_bind, hr, Sem.run_pure, Result.andThen_ok, Oper.upon_value]
  exact ⟨_, rfl, Grow.refl _, fun _ h => by cases h; rw [hd]; rfl⟩
end

end Go.Proofs.Ytlbccddhcbcpoaa
/- What the reference's Id, Minus, Join return, each for every input. -/
namespace Go.Proofs.Ytlbccddhcbcpoaa
open Go.RowKit
attribute [local irreducible] wpList cells row U aft inn one nil part upd idr crs mns eqB evB stepP plusT invT uni met sqs or2 and2 seq2 allS

set_option maxHeartbeats 1000000 in
theorem rid_any (s : St) (w : World) : Calls Try.prog 16 #[.int .u32 (U s)] w fun x w' => x = .returned (.agg (cells (idr s))) ∧ Grow w w' := by
  go_enter Try.func16, Try.ntmps16
  go_wp2
  rw [nil_lit]
  have h0 : Hid (Grow w ((w.alloc (.cells (cells nil) 28)).alloc (.cells (cells nil) 28))) := ((Grow.refl w).alloc _).alloc _
  have h1 : At ((w.alloc (.cells (cells nil) 28)).alloc (.cells (cells nil) 28)) w.heap.size nil := (At.new w nil).alloc _
  have h2 : At ((w.alloc (.cells (cells nil) 28)).alloc (.cells (cells nil) 28)) (w.heap.size + 1) nil := by simpa using At.new (w.alloc (.cells (cells nil) 28)) nil
  generalize ((w.alloc (.cells (cells nil) 28)).alloc (.cells (cells nil) 28)) = w0 at h0 h1 h2 ⊢
  go_loopw [4] (fun i wr => ∃ k : Nat, k ≤ 32 ∧ i = .int .i64 k ∧ Grow w wr ∧ At wr w.heap.size nil ∧ At wr (w.heap.size + 1) (part k (idr s) nil)) (fun i _ => 32 - (intOf i).toNat)
  case atStart => exact ⟨0, by omega, rfl, h0.out, h1, by rw [part_zero]; exact h2⟩
  case round =>
    clear h0 h1 h2
    obtain ⟨k, hk, rfl, hg, hr, ho⟩ := hrel
    by_cases hlt : k < 32
    · have hc := ho.cell k hlt
      have hf := ho.frozen k
      have hp := pow_one k
      have ha := bits_and s (one k)
      go_wp2
      go_roundw
      case rel => exact ⟨k + 1, by omega, by go_num, bset hg (by omega) _, hr.set_other (by omega) _ _, by first | exact ho.step _ (fun h => (row_idr s k h).symm) | (rw [hp, ha]; exact ho.step _ (fun h => (row_idr s k h).symm))⟩
      case measure => simp [intOf]; omega
    · obtain rfl : k = 32 := by omega
      rw [part_full] at ho
      go_wp2_with (first | (refine ld (w.heap.size + 1) (idr s) (by rfl) ho ?_) | (refine st w.heap.size nil (idr s) (by rfl) (by rfl) hr ?_))
      exact bodyPost_ret (v := .agg (cells (idr s))) (res rfl _ _ w.heap.size _ (by rfl) hr.put) rfl ⟨rfl, below_setRow hg (Nat.le_refl _) _⟩

set_option maxHeartbeats 1000000 in
theorem rmns_any (a b : Rl) (w : World) : Calls Try.prog 27 #[.agg (cells a), .agg (cells b)] w fun x w' => x = .returned (.agg (cells (mns a b))) ∧ Grow w w' := by
  go_enter Try.func27, Try.ntmps27
  go_wp2
  rw [nil_lit]
  have h0 : Hid (Grow w (((w.alloc (.cells (cells a) 28)).alloc (.cells (cells b) 28)).alloc (.cells (cells nil) 28))) := (((Grow.refl w).alloc _).alloc _).alloc _
  have h1 : At (((w.alloc (.cells (cells a) 28)).alloc (.cells (cells b) 28)).alloc (.cells (cells nil) 28)) w.heap.size a := ((At.new w a).alloc _).alloc _
  have h2 : At (((w.alloc (.cells (cells a) 28)).alloc (.cells (cells b) 28)).alloc (.cells (cells nil) 28)) (w.heap.size + 1) b := by simpa using (At.new (w.alloc (.cells (cells a) 28)) b).alloc _
  have h3 : At (((w.alloc (.cells (cells a) 28)).alloc (.cells (cells b) 28)).alloc (.cells (cells nil) 28)) (w.heap.size + 2) nil := by simpa using At.new ((w.alloc (.cells (cells a) 28)).alloc (.cells (cells b) 28)) nil
  generalize (((w.alloc (.cells (cells a) 28)).alloc (.cells (cells b) 28)).alloc (.cells (cells nil) 28)) = w0 at h0 h1 h2 h3 ⊢
  go_loopw [5] (fun i wr => ∃ k : Nat, k ≤ 32 ∧ i = .int .i64 k ∧ Grow w wr ∧ At wr w.heap.size (part k (mns a b) a) ∧ At wr (w.heap.size + 1) b ∧ At wr (w.heap.size + 2) nil) (fun i _ => 32 - (intOf i).toNat)
  case atStart => exact ⟨0, by omega, rfl, h0.out, by rw [part_zero]; exact h1, h2, h3⟩
  case round =>
    clear h0 h1 h2 h3
    obtain ⟨k, hk, rfl, hg, ha, hb, hn⟩ := hrel
    by_cases hlt : k < 32
    · have ca := ha.cell k hlt
      rw [row_part_ge _ _ _ _ (Nat.le_refl _)] at ca
      have fa := ha.frozen k
      have cb := hb.cell k hlt
      have hx := bits_andNot (row a k) (row b k)
      have hi0 : (0 : Int) ≤ (k : Int) := by omega
      have hi1 : (k : Int) < 32 := by omega
      go_wp2
      go_region
      all_goals go_wp2
      all_goals
        go_roundw
        case rel => exact ⟨k + 1, by omega, by go_num, (bset hg (by omega) _).drew, (ha.step _ (fun h => (row_mns a b k h).symm)).drew, (hb.set_other (by omega) _ _).drew, (hn.set_other (by omega) _ _).drew⟩
        case measure => simp [intOf]; omega
    · obtain rfl : k = 32 := by omega
      rw [part_full] at ha
      go_wp2_with (first | (refine ld w.heap.size (mns a b) (by rfl) ha ?_) | (refine st (w.heap.size + 2) nil (mns a b) (by rfl) (by rfl) hn ?_))
      exact bodyPost_ret (v := .agg (cells (mns a b))) (res rfl _ _ (w.heap.size + 2) _ (by rfl) hn.put) rfl ⟨rfl, below_setRow hg (by omega) _⟩

set_option maxHeartbeats 1000000 in
theorem rjoin_any (a b : Rl) (w : World) : Calls Try.prog 32 #[.agg (cells a), .agg (cells b)] w fun x w' => x = .returned (.agg (cells (or2 a b))) ∧ Grow w w' := by
  go_enter Try.func32, Try.ntmps32
  go_wp2
  rw [nil_lit]
  have h0 : Hid (Grow w (((w.alloc (.cells (cells a) 28)).alloc (.cells (cells b) 28)).alloc (.cells (cells nil) 28))) := (((Grow.refl w).alloc _).alloc _).alloc _
  have h1 : At (((w.alloc (.cells (cells a) 28)).alloc (.cells (cells b) 28)).alloc (.cells (cells nil) 28)) w.heap.size a := ((At.new w a).alloc _).alloc _
  have h2 : At (((w.alloc (.cells (cells a) 28)).alloc (.cells (cells b) 28)).alloc (.cells (cells nil) 28)) (w.heap.size + 1) b := by simpa using (At.new (w.alloc (.cells (cells a) 28)) b).alloc _
  have h3 : At (((w.alloc (.cells (cells a) 28)).alloc (.cells (cells b) 28)).alloc (.cells (cells nil) 28)) (w.heap.size + 2) nil := by simpa using At.new ((w.alloc (.cells (cells a) 28)).alloc (.cells (cells b) 28)) nil
  generalize (((w.alloc (.cells (cells a) 28)).alloc (.cells (cells b) 28)).alloc (.cells (cells nil) 28)) = w0 at h0 h1 h2 h3 ⊢
  go_loopw [5] (fun i wr => ∃ k : Nat, k ≤ 32 ∧ i = .int .i64 k ∧ Grow w wr ∧ At wr w.heap.size (part k (or2 a b) a) ∧ At wr (w.heap.size + 1) b ∧ At wr (w.heap.size + 2) nil) (fun i _ => 32 - (intOf i).toNat)
  case atStart => exact ⟨0, by omega, rfl, h0.out, by rw [part_zero]; exact h1, h2, h3⟩
  case round =>
    clear h0 h1 h2 h3
    obtain ⟨k, hk, rfl, hg, ha, hb, hn⟩ := hrel
    by_cases hlt : k < 32
    · have ca := ha.cell k hlt
      rw [row_part_ge _ _ _ _ (Nat.le_refl _)] at ca
      have fa := ha.frozen k
      have cb := hb.cell k hlt
      have hx := bits_or (row a k) (row b k)
      have hi0 : (0 : Int) ≤ (k : Int) := by omega
      have hi1 : (k : Int) < 32 := by omega
      go_wp2
      go_region
      all_goals go_wp2
      all_goals
        go_roundw
        case rel => exact ⟨k + 1, by omega, by go_num, (bset hg (by omega) _).drew, (ha.step _ (fun h => (row_or2 a b k h).symm)).drew, (hb.set_other (by omega) _ _).drew, (hn.set_other (by omega) _ _).drew⟩
        case measure => simp [intOf]; omega
    · obtain rfl : k = 32 := by omega
      rw [part_full] at ha
      go_wp2_with (first | (refine ld w.heap.size (or2 a b) (by rfl) ha ?_) | (refine st (w.heap.size + 2) nil (or2 a b) (by rfl) (by rfl) hn ?_))
      exact bodyPost_ret (v := .agg (cells (or2 a b))) (res rfl _ _ (w.heap.size + 2) _ (by rfl) hn.put) rfl ⟨rfl, below_setRow hg (by omega) _⟩

end Go.Proofs.Ytlbccddhcbcpoaa
/- What Order returns, for every input. -/
namespace Go.Proofs.Ytlbccddhcbcpoaa
open Go.RowKit

/-- those left that nothing left has ahead of it -/
def freeS (r : Rl) (s : St) : St := s &&& ~~~aft s r 32
/-- the row, with so many places at most -/
def ordT (r : Rl) : Nat → St → List Nat → Option (List Nat)
  | 0, _, _ => none
  | f + 1, s, acc => if s = 0#32 then some acc else match lst (freeS r s) 32 with
    | [] => none
    | x :: _ => ordT r f (s &&& ~~~one x) (acc ++ [x])
theorem ordT_done {r : Rl} {f : Nat} {s : St} {acc : List Nat} (h : s = 0#32) : ordT r (f + 1) s acc = some acc := by simp [ordT, h]
theorem ordT_none {r : Rl} {f : Nat} {s : St} {acc : List Nat} (h : s ≠ 0#32) (hl : lst (freeS r s) 32 = []) : ordT r (f + 1) s acc = none := by simp [ordT, h, hl]
theorem ordT_next {r : Rl} {f : Nat} {s : St} {acc l : List Nat} {x : Nat} (h : s ≠ 0#32) (hl : lst (freeS r s) 32 = x :: l) : ordT r (f + 1) s acc = ordT r f (s &&& ~~~one x) (acc ++ [x]) := by simp [ordT, h, hl]
/-- how many events a set has -/
def card (s : St) : Nat := (lst s 32).length
theorem card_le (s : St) : card s ≤ 32 := lst_len s 32
theorem inn_free {r : Rl} {s : St} {e : Nat} (h : inn (freeS r s) e = true) : inn s e = true := by
  unfold freeS at h; rw [inn_andNot _ _ _ (inn_lt h)] at h; simp at h; exact h.1
theorem lst_drop (s : St) (x : Nat) : lst (s &&& ~~~one x) 32 = (lst s 32).filter (fun e => e != x) := by
  unfold lst
  rw [List.filter_filter]
  apply List.filter_congr
  intro e he
  have he' : e < 32 := by simpa using he
  rw [inn_andNot _ _ _ he', inn_one]
  by_cases h : e = x
  · subst h; simp [he']
  · simp [h]
theorem card_drop {s : St} {x : Nat} (h : inn s x = true) : card (s &&& ~~~one x) < card s := by
  unfold card
  rw [lst_drop]
  exact List.length_filter_lt_length_iff_exists.2 ⟨x, (mem_lst s 32 x).2 ⟨inn_lt h, h⟩, by simp⟩
theorem head_inn {r : Rl} {s : St} {x : Nat} {l : List Nat} (h : lst (freeS r s) 32 = x :: l) : inn (freeS r s) x = true := ((mem_lst (freeS r s) 32 x).1 (by rw [h]; simp)).2
theorem ofInt_card (s : St) : card (BitVec.ofInt 32 (U s)) = card s := by rw [ofInt_U]
theorem u_ne {s : St} (h : s ≠ 0#32) : (U s == 0) = false := by rw [beq_eq_false_iff_ne]; intro e; exact h (U_inj (e.trans U_zero.symm))
theorem u_eq {s : St} (h : s = 0#32) : (U s == 0) = true := by rw [h, U_zero]; rfl
theorem free_def (r : Rl) (s : St) : s &&& ~~~aft s r 32 = freeS r s := rfl
attribute [local irreducible] wpList cells row U aft inn one nil part upd idr crs mns eqB evB stepP plusT invT uni met sqs or2 and2 seq2 allS lst nums prs prt pcs pairT pairS irrB acyB hasB fst pA pB pC has domT ordT freeS card

set_option maxHeartbeats 4000000 in
theorem order_any (u : St) (r : Rl) (w : World) : Calls Try.prog 45 #[.int .u32 (U u), .agg (cells r)] w fun x w' => ∃ v b, x = .returned (.tuple #[v, .bool b]) ∧ Grow w w' ∧
    ((b = false ∧ v = .slice none 0 0 ∧ ordT r 33 u [] = none) ∨ (b = true ∧ ∃ l, ordT r 33 u [] = some l ∧ Il w' v l)) := by
  have h1 := At.new w r
  have hg0 : Grow w (w.alloc (.cells (cells r) 28)) := (Grow.refl w).alloc _
  go_enter Try.func45, Try.ntmps45
  go_wp2
  generalize w.alloc (.cells (cells r) 28) = w0 at h1 hg0 ⊢
  have hk0 := card_le u
  have HO0 : Hid (∃ f, ordT r 33 u [] = ordT r f u [] ∧ card u < f) := ⟨33, rfl, by omega⟩
  go_loopw [6, 7] (fun v s wr => ∃ (left : St) (acc : List Nat), s = .int .u32 (U left) ∧ Grow w wr ∧ At wr w.heap.size r ∧ wr.ownsRow (w.heap.size + 1) 3 1 v acc.length (nums acc) ∧ acc.length + card left ≤ 32 ∧ Hid (∃ f, ordT r 33 u [] = ordT r f left acc ∧ card left < f)) (fun _ s _ => card (BitVec.ofInt 32 (intOf s)))
  case atStart => exact ⟨u, [], rfl, hg0, h1, own_nums _ _ _ _, by simpa using hk0, HO0⟩
  case round =>
    clear h1 hg0 hk0 HO0
    obtain ⟨left, acc, rfl, hg, hr, ho, hcard, HO⟩ := hrel
    have hlt0 := hr.lt
    by_cases hz : left = 0#32
    · have hzb := u_eq hz
      have HR : Hid (ordT r 33 u [] = some acc) := by
        obtain ⟨f, h1, h2⟩ := HO.out
        cases f with
        | zero => omega
        | succ f => exact h1.trans (ordT_done hz)
      clear hz
      go_wp2
      go_ret2
      exact ⟨_, true, rfl, hg, .inr ⟨rfl, acc, HR.out, own_zero ho⟩⟩
    · have hzb := u_ne hz
      have hand := bits_andNot left (aft left r 32)
      rw [free_def] at hand
      obtain ⟨l, Hl⟩ : ∃ l, Hid (l = lst (freeS r left) 32) := ⟨_, rfl⟩
      have hll : l.length ≤ 32 := by rw [Hl.out]; exact lst_len _ _
      go_upto_region 5 with (first | (refine ld w.heap.size r (by rfl) hr ?_) | (go_at_call 51; refine (after_any left r _).mono ?_; rintro e w1 ⟨rfl, hg1⟩) | (go_at_call 13; refine (list_any (freeS r left) _).mono ?_; rintro e w2 ⟨v2, rfl, hg2, hi2⟩))
      have ho2 := own_grow hg2 (own_grow hg1 ho)
      have hap2 := apart_new (own_grow hg1 ho) hi2
      have hi2 := own_zero hi2
      have hG2 := Grow.trans (Grow.trans hg hg1) hg2
      have hr2 := (hr.grow hg1).grow hg2
      have hi2 : Il w2 v2 l := by rw [Hl.out]; exact hi2
      clear hg hr ho hg1 hg2
      obtain ⟨ad2, cap2, hv2⟩ := Il.form hi2
      subst hv2
      cases hlc : l with
      | nil =>
        have HN : Hid (ordT r 33 u [] = none) := by
          obtain ⟨f, h1, h2⟩ := HO.out
          cases f with
          | zero => omega
          | succ f => exact h1.trans (ordT_none hz (by rw [← Hl.out, hlc]))
        have hl0 : l.length = 0 := by rw [hlc]; rfl
        clear hz
        go_wp2
        go_ret2
        exact ⟨_, false, rfl, hG2, .inl ⟨rfl, rfl, HN.out⟩⟩
      | cons x l' =>
        have hx : l[0]? = some x := by rw [hlc]; rfl
        have hxf := head_inn (r := r) (s := left) (x := x) (l := l') (by rw [← Hl.out, hlc])
        have hx32 := inn_lt hxf
        have hxl := inn_free hxf
        have hcd := card_drop hxl
        obtain ⟨g, cap, hv, hgl, hcx⟩ := hi2.cell hx
        cases hv
        have hpos : 0 < l.length := by rw [hlc]; simp
        have hl1 : ((l.length : Int) == 0) = false := by rw [beq_eq_false_iff_ne]; omega
        have HN : Hid (∃ f, ordT r 33 u [] = ordT r f (left &&& ~~~one x) (acc ++ [x]) ∧ card (left &&& ~~~one x) < f) := by
          obtain ⟨f, h1, h2⟩ := HO.out
          cases f with
          | zero => omega
          | succ f => exact ⟨f, h1.trans (ordT_next hz (by rw [← Hl.out, hlc])), by omega⟩
        have HX0 : Hid (l[0]? = some x) := hx
        clear hz hx hlc HO hxf hxl
        have hsz2 := hG2.size
        have hand2 := bits_andNot left (one x)
        go_upto_region 8 with (at_builtin; go_must (refine app1 _ (w.heap.size + 1) acc x _ _ (by rfl) (by rfl) ?c1 (own_alloc ho2 _) ?c2 ?c3 ?_))
        case c1 => simp
        case c2 => omega
        case c3 => have := hr2.lt; simp; omega
        intro v' w3 ho3 hb3 hm3
        have hi3 : Il w3 (.slice (some ⟨g, 0, none⟩) l.length cap2) l := own_moved (own_alloc hi2 _) (hap2.alloc _) hm3
        have Hx : Hid (l[0]? = some x) := HX0
        obtain ⟨g', cap', hv', hgl', hcx'⟩ := hi3.cell Hx.out
        cases hv'
        have hr3 : At w3 w.heap.size r := (hr2.alloc _).below hb3 (by omega)
        have hG3 : Grow w w3 := (Below.alloc hG2 hsz2 _).trans (hb3.mono (by omega))
        clear hcx hi2 hap2 ho2 hi3 hm3 hb3
        go_wp2_with (go_at_call 48; refine (only_any _ hx32 _).mono ?_; rintro e w' ⟨rfl, rfl⟩)
        go_roundw
        case rel => exact ⟨left &&& ~~~one x, acc ++ [x], rfl, hG3, hr3, ho3, by rw [List.length_append]; simp; omega, HN⟩
        case measure => simp [intOf, ofInt_card]; exact hcd

end Go.Proofs.Ytlbccddhcbcpoaa
/- The theory of the row that Order lays: there is one just if the relation is acyclic within the set; in it each pair goes forward, and each event stands once. -/
namespace Go.Proofs.Ytlbccddhcbcpoaa
open Go.RowKit

theorem lst_one (a : St) (k : Nat) : ∀ n, n ≤ 32 → (lst (a &&& one k) n).length = if inn a k = true ∧ k < n then 1 else 0
  | 0, _ => by simp [lst_zero]
  | n + 1, h => by
    by_cases hkn : n = k
    · subst hkn
      cases hn : inn a n
      · have : inn (a &&& one n) n = false := by rw [inn_and, hn]; rfl
        rw [lst_no this, lst_one a n n (by omega)]; simp [hn]
      · have : inn (a &&& one n) n = true := by rw [inn_and, hn, inn_one]; simp; omega
        rw [lst_yes this, List.length_append, lst_one a n n (by omega)]; simp
    · have : inn (a &&& one k) n = false := by rw [inn_and, inn_one]; simp [hkn]
      rw [lst_no this, lst_one a k n (by omega)]
      by_cases h1 : inn a k = true
      · by_cases h2 : k < n
        · simp [h1, h2]; omega
        · have : ¬ k < n + 1 := by omega
          simp [h2, this]
      · simp [h1]
theorem len_split (p : Nat → Bool) : ∀ l : List Nat, l.length = (l.filter p).length + (l.filter fun e => !p e).length
  | [] => rfl
  | x :: l => by
    have ih := len_split p l
    cases h : p x <;> simp [h] <;> omega
theorem card_take {s : St} {x : Nat} (h : inn s x = true) : card (s &&& ~~~one x) + 1 = card s := by
  unfold card
  rw [lst_drop, len_split (fun e => e != x) (lst s 32)]
  have h1 : (lst s 32).filter (fun e => !(e != x)) = lst (s &&& one x) 32 := by
    unfold lst
    rw [List.filter_filter]
    apply List.filter_congr
    intro e he
    have he' : e < 32 := by simpa using he
    rw [inn_and, inn_one]
    by_cases h : e = x
    · subst h; simp [he']
    · simp [h]
  rw [h1, lst_one s x 32 (Nat.le_refl _)]
  simp [h, inn_lt h]
/-- what holds while the row is laid -/
structure Laid (u : St) (r : Rl) (s : St) (acc : List Nat) : Prop where
  mem : ∀ e : Nat, inn u e = true ↔ (e ∈ acc ∨ inn s e = true)
  apart : ∀ e ∈ acc, inn s e = false
  nodup : acc.Nodup
  num : acc.length + card s = card u
  back : ∀ e x : Nat, inn s e = true → x ∈ acc → ¬ has r e x
  fwd : ∀ i k a b : Nat, k ≤ i → acc[i]? = some a → acc[k]? = some b → ¬ has r a b
theorem Laid.start (u : St) (r : Rl) : Laid u r u [] := ⟨by simp, by simp, by simp, by simp, by simp, by simp⟩
theorem free_spec {r : Rl} {s : St} {x : Nat} (h : inn (freeS r s) x = true) : inn s x = true ∧ ∀ e, inn s e = true → ¬ has r e x := by
  refine ⟨inn_free h, fun e he hex => ?_⟩
  unfold freeS at h
  rw [inn_andNot _ _ _ (inn_lt h)] at h
  simp at h
  have := (inn_after s r x).2 ⟨e, he, hex⟩
  rw [this] at h; cases h.2
theorem inn_drop (s : St) (x e : Nat) : inn (s &&& ~~~one x) e = true ↔ inn s e = true ∧ e ≠ x := by
  constructor
  · intro h
    rw [inn_andNot _ _ _ (inn_lt h), inn_one] at h
    have := inn_lt (s := s) (e := e) (by simp at h; exact h.1)
    simp [this] at h; exact h
  · rintro ⟨h1, h2⟩
    rw [inn_andNot _ _ _ (inn_lt h1), inn_one]; simp [h1, h2]
theorem Laid.next {u : St} {r : Rl} {s : St} {acc l : List Nat} {x : Nat} (h : Laid u r s acc) (hl : lst (freeS r s) 32 = x :: l) : Laid u r (s &&& ~~~one x) (acc ++ [x]) := by
  obtain ⟨hx, hfree⟩ := free_spec (head_inn hl)
  have hxa : x ∉ acc := fun hm => by have := h.apart x hm; rw [hx] at this; cases this
  refine ⟨fun e => ?_, fun e he => ?_, ?_, ?_, fun e y he hy => ?_, fun i k a b hki ha hb => ?_⟩
  · rw [h.mem e, inn_drop, List.mem_append, List.mem_singleton]
    constructor
    · rintro (h1 | h1)
      · exact .inl (.inl h1)
      · by_cases hex : e = x
        · exact .inl (.inr hex)
        · exact .inr ⟨h1, hex⟩
    · rintro ((h1 | h1) | h1)
      · exact .inl h1
      · exact .inr (h1 ▸ hx)
      · exact .inr h1.1
  · cases hb : inn (s &&& ~~~one x) e
    · rfl
    · have := (inn_drop s x e).1 hb
      rcases List.mem_append.1 he with h1 | h1
      · have h2 := h.apart e h1; rw [this.1] at h2; cases h2
      · exact absurd (List.mem_singleton.1 h1) this.2
  · rw [List.nodup_append]
    refine ⟨h.nodup, by simp, fun a ha b hb => ?_⟩
    rw [List.mem_singleton.1 hb]; intro e; exact hxa (e ▸ ha)
  · rw [List.length_append]; have := h.num; have := card_take hx; simp; omega
  · have he' := (inn_drop s x e).1 he
    rcases List.mem_append.1 hy with h1 | h1
    · exact h.back e y he'.1 h1
    · rw [List.mem_singleton.1 h1]; exact hfree e he'.1
  · have hil := (List.getElem?_eq_some_iff.1 ha).1
    rw [List.length_append] at hil
    rcases Nat.lt_or_ge i acc.length with h1 | h1
    · rw [List.getElem?_append_left h1] at ha
      rw [List.getElem?_append_left (by omega)] at hb
      exact h.fwd i k a b hki ha hb
    · have hi : i = acc.length := by simp at hil; omega
      have ha' : a = x := by rw [hi] at ha; simpa [eq_comm] using ha
      rw [ha']
      rcases Nat.lt_or_ge k acc.length with h2 | h2
      · rw [List.getElem?_append_left h2] at hb
        exact h.back x b hx (List.mem_of_getElem? hb)
      · have hk : k = acc.length := by omega
        have hb' : b = x := by rw [hk] at hb; simpa [eq_comm] using hb
        rw [hb']; exact hfree x hx
theorem ord_some {u : St} {r : Rl} : ∀ {f : Nat} {s : St} {acc l : List Nat}, Laid u r s acc → ordT r f s acc = some l → Laid u r 0#32 l
  | 0, _, _, _, _, h => by simp [ordT] at h
  | f + 1, s, acc, l, hL, h => by
    by_cases hz : s = 0#32
    · rw [ordT_done hz] at h; cases h; rw [← hz]; exact hL
    · cases hl : lst (freeS r s) 32 with
      | nil => rw [ordT_none hz hl] at h; cases h
      | cons x l' => rw [ordT_next hz hl] at h; exact ord_some (hL.next hl) h
theorem ord_none {u : St} {r : Rl} : ∀ {f : Nat} {s : St} {acc : List Nat}, Laid u r s acc → card s < f → ordT r f s acc = none → ∃ s', s' ≠ 0#32 ∧ (∀ e, inn s' e = true → inn u e = true) ∧ ∀ e, inn s' e = true → ∃ e', inn s' e' = true ∧ has r e' e
  | 0, _, _, _, hc, _ => by omega
  | f + 1, s, acc, hL, hc, h => by
    by_cases hz : s = 0#32
    · rw [ordT_done hz] at h; cases h
    · cases hl : lst (freeS r s) 32 with
      | nil =>
        refine ⟨s, hz, fun e he => (hL.mem e).2 (.inr he), fun e he => ?_⟩
        have hno : inn (freeS r s) e = false := by
          cases hb : inn (freeS r s) e
          · rfl
          · have : e ∈ lst (freeS r s) 32 := (mem_lst _ _ _).2 ⟨inn_lt hb, hb⟩
            rw [hl] at this; cases this
        unfold freeS at hno
        rw [inn_andNot _ _ _ (inn_lt he), he] at hno
        have ha : inn (aft s r 32) e = true := by simpa using hno
        obtain ⟨e', h1, h2⟩ := (inn_after s r e).1 ha
        exact ⟨e', h1, h2⟩
      | cons x l' =>
        rw [ordT_next hz hl] at h
        have := card_take (free_spec (head_inn hl)).1
        exact ord_none (hL.next hl) (by omega) h
/-- the relation between events of the set -/
def within (u : St) (r : Rl) : Rl := met [r, crs u u]
theorem has_within (u : St) (r : Rl) (a b : Nat) : has (within u r) a b ↔ has r a b ∧ inn u a = true ∧ inn u b = true := by
  unfold within; rw [has_met2, has_crs]
theorem acy_of_some {u : St} {r : Rl} {l : List Nat} (h : Laid u r 0#32 l) : acyB (within u r) = true := by
  have hm : ∀ e, inn u e = true → e ∈ l := fun e he => by
    rcases (h.mem e).1 he with h1 | h1
    · exact h1
    · rw [inn_zero] at h1; cases h1
  have key : ∀ a b : Nat, Plus (within u r) a b → ∃ i k : Nat, l[i]? = some a ∧ l[k]? = some b ∧ i < k := by
    intro a b hw
    induction hw with
    | step h1 =>
      rw [has_within] at h1
      obtain ⟨i, hi⟩ := List.getElem?_of_mem (hm _ h1.2.1)
      obtain ⟨k, hk⟩ := List.getElem?_of_mem (hm _ h1.2.2)
      refine ⟨i, k, hi, hk, ?_⟩
      rcases Nat.lt_or_ge i k with h2 | h2
      · exact h2
      · exact absurd h1.1 (h.fwd i k _ _ h2 hi hk)
    | join _ _ _ ih1 ih2 =>
      obtain ⟨i, k, h1, h2, h3⟩ := ih1
      obtain ⟨i', k', h4, h5, h6⟩ := ih2
      have : k = i' := (List.getElem?_inj (List.getElem?_eq_some_iff.1 h2).1 h.nodup).1 (h2.trans h4.symm)
      exact ⟨i, k', h1, h5, by omega⟩
  refine (acy_iff _).2 fun a ha => ?_
  obtain ⟨i, k, h1, h2, h3⟩ := key a a ha
  have : i = k := (List.getElem?_inj (List.getElem?_eq_some_iff.1 h1).1 h.nodup).1 (h1.trans h2.symm)
  omega
theorem least (P : Nat → Prop) (f : Nat → Nat) (h : ∃ n, P n) : ∃ n, P n ∧ ∀ m, P m → f n ≤ f m := by
  have key : ∀ k n, P n → f n ≤ k → ∃ n, P n ∧ ∀ m, P m → f n ≤ f m := by
    intro k
    induction k with
    | zero => intro n hn hk; exact ⟨n, hn, fun m _ => by omega⟩
    | succ k ih =>
      intro n hn hk
      by_cases hex : ∃ m, P m ∧ f m < f n
      · obtain ⟨m, hm, hlt⟩ := hex
        exact ih m hm (by omega)
      · exact ⟨n, hn, fun m hm => Nat.le_of_not_lt fun hlt => hex ⟨m, hm, hlt⟩⟩
  obtain ⟨n, hn⟩ := h
  exact key (f n) n hn (Nat.le_refl _)
theorem cyc_of_none {u : St} {r : Rl} {s : St} (h0 : s ≠ 0#32) (h1 : ∀ e, inn s e = true → inn u e = true) (h2 : ∀ e, inn s e = true → ∃ e', inn s e' = true ∧ has r e' e) : acyB (within u r) = false := by
  cases hb : acyB (within u r)
  · rfl
  · exfalso
    have hac := (acy_iff _).1 hb
    have hex : ∃ e, inn s e = true := by
      refine Classical.byContradiction fun hno => h0 (st_ext fun e _ => ?_)
      rw [inn_zero]
      cases he : inn s e
      · rfl
      · exact absurd ⟨e, he⟩ hno
    obtain ⟨e, he, hmin⟩ := least (fun e => inn s e = true) (fun e => ((List.range 32).filter fun a => inn (row (plusT (within u r) 32) a) e).length) hex
    obtain ⟨e', he', hee⟩ := h2 e he
    have hin : has (within u r) e' e := (has_within u r e' e).2 ⟨hee, h1 e' he', h1 e he⟩
    have hle := hmin e' he'
    have hp : ∀ a, inn (row (plusT (within u r) 32) a) e' = true → inn (row (plusT (within u r) 32) a) e = true := fun a ha =>
      (has_plus _ a e).2 (Plus.trans ((has_plus _ a e').1 ha) (.step hin))
    have hsub : (List.range 32).filter (fun a => inn (row (plusT (within u r) 32) a) e') = ((List.range 32).filter (fun a => inn (row (plusT (within u r) 32) a) e)).filter (fun a => inn (row (plusT (within u r) 32) a) e') := by
      rw [List.filter_filter]
      apply List.filter_congr
      intro a _
      cases ha : inn (row (plusT (within u r) 32) a) e'
      · simp
      · simp [hp a ha]
    have hlt : ((List.range 32).filter fun a => inn (row (plusT (within u r) 32) a) e').length < ((List.range 32).filter fun a => inn (row (plusT (within u r) 32) a) e).length := by
      rw [hsub]
      refine List.length_filter_lt_length_iff_exists.2 ⟨e', ?_, ?_⟩
      · simp only [List.mem_filter, List.mem_range]
        exact ⟨inn_lt he', (has_plus _ e' e).2 (.step hin)⟩
      · intro hself
        exact hac e' ((has_plus _ e' e').1 hself)
    omega
theorem ord_acy_some {u : St} {r : Rl} {l : List Nat} (h : ordT r 33 u [] = some l) : Laid u r 0#32 l ∧ acyB (within u r) = true := by
  have hL := ord_some (Laid.start u r) h
  exact ⟨hL, acy_of_some hL⟩
theorem ord_acy_none {u : St} {r : Rl} (h : ordT r 33 u [] = none) : acyB (within u r) = false := by
  obtain ⟨s, h0, h1, h2⟩ := ord_none (Laid.start u r) (by have := card_le u; omega) h
  exact cyc_of_none h0 h1 h2
theorem card_zero : card 0#32 = 0 := by unfold card lst; simp [inn_zero]
theorem Laid.len {u : St} {r : Rl} {l : List Nat} (h : Laid u r 0#32 l) : l.length = (lst u 32).length := by
  have := h.num; rw [card_zero] at this; simpa [card] using this
theorem inn_evs (l : List Nat) (s : St) (e : Nat) : inn ((l.map fun n : Nat => (n : Int)).foldl evS s) e = true ↔ inn s e = true ∨ (e ∈ l ∧ e < 32) := by
  induction l generalizing s with
  | nil => simp
  | cons x l ih =>
    rw [List.map_cons, List.foldl_cons, ih]
    cases hx : evB (x : Int)
    · rw [evS_no hx]
      have hx32 : ¬ x < 32 := by unfold evB at hx; simp at hx; omega
      constructor
      · rintro (h | h)
        · exact .inl h
        · exact .inr ⟨List.mem_cons_of_mem _ h.1, h.2⟩
      · rintro (h | ⟨h1, h2⟩)
        · exact .inl h
        · rcases List.mem_cons.1 h1 with rfl | h1
          · exact absurd h2 hx32
          · exact .inr ⟨h1, h2⟩
    · rw [evS_yes hx, inn_or, inn_one]
      simp only [Bool.or_eq_true, Bool.and_eq_true, decide_eq_true_eq]
      constructor
      · rintro ((h | ⟨h1, rfl⟩) | h)
        · exact .inl h
        · exact .inr ⟨by simp, h1⟩
        · exact .inr ⟨List.mem_cons_of_mem _ h.1, h.2⟩
      · rintro (h | ⟨h1, h2⟩)
        · exact .inl (.inl h)
        · rcases List.mem_cons.1 h1 with rfl | h1
          · exact .inl (.inr ⟨h2, rfl⟩)
          · exact .inr ⟨h1, h2⟩
theorem Laid.evs {u : St} {r : Rl} {l : List Nat} (h : Laid u r 0#32 l) : evs (l.map fun n : Nat => (n : Int)) = u := st_ext' fun e => by
  unfold Go.Proofs.Ytlbccddhcbcpoaa.evs
  rw [inn_evs, inn_zero, h.mem e, inn_zero]
  simp
  intro he
  exact inn_lt ((h.mem e).2 (.inl he))

end Go.Proofs.Ytlbccddhcbcpoaa
/- What the reference's In and Order return, and whether two rows of numbers are the same. -/
namespace Go.Proofs.Ytlbccddhcbcpoaa
open Go.RowKit

theorem rin_any (s : St) (e : Nat) (he : e < 32) (w : World) : Calls Try.prog 50 #[.int .u32 (U s), .int .i64 e] w fun x w' => x = .returned (.bool (inn s e)) ∧ w' = w := by
  go_enter Try.func50, Try.ntmps50
  go_wp2
  go_ret
  exact ⟨ret_bool (in_test s e), rfl⟩

/-- no event of the set below n has this one ahead of it -/
def frT (s : St) (r : Rl) (e n : Nat) : Bool := (List.range n).all fun k => !(inn s k && inn (row r k) e)
theorem frT_zero (s : St) (r : Rl) (e : Nat) : frT s r e 0 = true := rfl
theorem frT_succ (s : St) (r : Rl) (e n : Nat) : frT s r e (n + 1) = (frT s r e n && !(inn s n && inn (row r n) e)) := by
  unfold frT; rw [List.range_succ, List.all_append]; simp
theorem frT_full {s : St} {r : Rl} {e : Nat} (h : inn s e = true) : frT s r e 32 = inn (freeS r s) e := by
  rw [Bool.eq_iff_iff]
  unfold frT
  rw [List.all_eq_true]
  constructor
  · intro hall
    unfold freeS
    rw [inn_andNot _ _ _ (inn_lt h), h]
    cases hb : inn (aft s r 32) e
    · rfl
    · obtain ⟨k, h1, h2⟩ := (inn_after s r e).1 hb
      have := hall k (by simpa using inn_lt h1)
      have h3 : inn (row r k) e = true := h2
      rw [h1, h3] at this; cases this
  · intro hf k hk
    have := (free_spec hf).2 k
    cases h1 : inn s k
    · rfl
    · cases h2 : inn (row r k) e
      · rfl
      · exact absurd h2 (this h1)
theorem free_out {r : Rl} {s : St} {e : Nat} (h : inn s e = false) : inn (freeS r s) e = false := by
  cases hb : inn (freeS r s) e
  · rfl
  · have := inn_free hb; rw [h] at this; cases this
theorem lst_head {s : St} {x : Nat} (h0 : lst s x = []) (hx : inn s x = true) : ∀ n, x < n → ∃ l, lst s n = x :: l
  | 0, h => by omega
  | n + 1, h => by
    by_cases hn : n = x
    · subst hn; rw [lst_yes hx, h0]; exact ⟨[], rfl⟩
    · obtain ⟨l, hl⟩ := lst_head h0 hx n (by omega)
      cases hb : inn s n
      · rw [lst_no hb]; exact ⟨l, hl⟩
      · rw [lst_yes hb, hl]; exact ⟨l ++ [n], rfl⟩
/-- what Order answers -/
def Ans (r : Rl) (u : St) (w : World) (x : Ending) (w' : World) : Prop :=
  ∃ v b, x = .returned (.tuple #[v, .bool b]) ∧ Grow w w' ∧ ((b = false ∧ v = .slice none 0 0 ∧ ordT r 33 u [] = none) ∨ (b = true ∧ ∃ l, ordT r 33 u [] = some l ∧ Il w' v l))
theorem ans_no {r : Rl} {u : St} {w w' : World} (hg : Grow w w') (h : ordT r 33 u [] = none) : Ans r u w (.returned (.tuple #[.slice none 0 0, .bool false])) w' := ⟨_, _, rfl, hg, .inl ⟨rfl, rfl, h⟩⟩
theorem ans_yes {r : Rl} {u : St} {w w' : World} {v : Value} {l : List Nat} (hg : Grow w w') (h : ordT r 33 u [] = some l) (hi : Il w' v l) : Ans r u w (.returned (.tuple #[v, .bool true])) w' := ⟨_, _, rfl, hg, .inr ⟨rfl, l, h, hi⟩⟩
theorem sh_one (e : Nat) : (2 : Int) ^ e % 4294967296 = U (one e) := pow_one e
theorem Grow_drewN (w : World) (n : Nat) : Grow w (w.drewN n) := ⟨rfl, rfl, rfl, Nat.le_refl _, fun _ _ => rfl⟩
attribute [local irreducible] wpList cells row U aft inn one nil part upd idr crs mns eqB evB stepP plusT invT uni met sqs or2 and2 seq2 allS lst nums prs prt pcs pairT pairS irrB acyB hasB fst pA pB pC has domT ordT freeS card frT Ans

set_option maxHeartbeats 8000000 in
theorem rorder_any (u : St) (r : Rl) (w : World) : Calls Try.prog 46 #[.int .u32 (U u), .agg (cells r)] w fun x w' => Ans r u w x w' := by
  have h1 := At.new w r
  have hg0 : Grow w (w.alloc (.cells (cells r) 28)) := (Grow.refl w).alloc _
  go_enter Try.func46, Try.ntmps46
  go_wp2
  generalize w.alloc (.cells (cells r) 28) = w0 at h1 hg0 ⊢
  have hk0 := card_le u
  have HO0 : Hid (∃ f, ordT r 33 u [] = ordT r f u [] ∧ card u < f) := ⟨33, rfl, by omega⟩
  go_loopw [6, 7] (fun v s wr => ∃ (left : St) (acc : List Nat), s = .int .u32 (U left) ∧ Grow w wr ∧ At wr w.heap.size r ∧ wr.ownsRow (w.heap.size + 1) 3 1 v acc.length (nums acc) ∧ acc.length + card left ≤ 32 ∧ Hid (∃ f, ordT r 33 u [] = ordT r f left acc ∧ card left < f)) (fun _ s _ => card (BitVec.ofInt 32 (intOf s)))
  case atStart => exact ⟨u, [], rfl, hg0, h1, own_nums _ _ _ _, by simpa using hk0, HO0⟩
  case round =>
    clear h1 hg0 hk0 HO0
    obtain ⟨left, acc, rfl, hg, hr, ho, hcard, HO⟩ := hrel
    have hlt0 := hr.lt
    by_cases hz : left = 0#32
    · have hzb := u_eq hz
      have HR : Hid (ordT r 33 u [] = some acc) := by
        obtain ⟨f, h1, h2⟩ := HO.out
        cases f with
        | zero => omega
        | succ f => exact h1.trans (ordT_done hz)
      clear hz
      go_wp2
      go_ret2
      exact ans_yes hg HR.out (own_zero ho)
    · have hzb := u_ne hz
      have hzn : (U left != 0) = true := by simp [bne, hzb]
      have Hz : Hid (left ≠ 0#32) := hz
      clear hz
      go_wp2
      go_loop [8, 9] (fun n i => (∃ e : Nat, e ≤ 32 ∧ i = .int .i64 e ∧ n = .int .i64 (-1) ∧ Hid (lst (freeS r left) e = [])) ∨ (∃ x : Nat, x < 32 ∧ i = .int .i64 (x + 1 : Nat) ∧ n = .int .i64 x ∧ Hid (lst (freeS r left) x = []) ∧ Hid (inn (freeS r left) x = true))) (fun _ i => 33 - (intOf i).toNat)
      case atStart => exact .inl ⟨0, by omega, rfl, rfl, lst_zero _⟩
      case round =>
        rcases hrel with ⟨e, he, rfl, rfl, HE⟩ | ⟨x, hx32, rfl, rfl, HE, HX⟩
        · by_cases hlt : e < 32
          · have hde : decide ((e : Int) < 32) = true := by simp; omega
            cases hin : inn left e
            · have HF : Hid (lst (freeS r left) (e + 1) = []) := (lst_no (free_out hin)).trans HE.out
              go_wp2_with (go_at_call 50; refine (rin_any _ _ hlt _).mono ?_; rintro e w' ⟨rfl, rfl⟩)
              go_round
              case rel => exact .inl ⟨e + 1, by omega, by go_num, rfl, HF⟩
              case measure => simp [intOf]; omega
            · go_wp2_with (go_at_call 50; refine (rin_any _ _ hlt _).mono ?_; rintro e w' ⟨rfl, rfl⟩)
              go_loop [10, 11] (fun b i => ∃ k : Nat, k ≤ 32 ∧ i = .int .i64 k ∧ b = .bool (frT left r e k)) (fun _ i => 32 - (intOf i).toNat)
              case atStart => exact ⟨0, by omega, rfl, by rw [frT_zero]⟩
              case round =>
                obtain ⟨k, hk, rfl, rfl⟩ := hrel
                by_cases hlt3 : k < 32
                · have HS : Hid (frT left r e (k + 1) = (frT left r e k && !(inn left k && inn (row r k) e))) := frT_succ left r e k
                  have hck := hr.cell k hlt3
                  have htest := in_test (row r k) e
                  cases hb : frT left r e k
                  · go_wp2
                    go_round
                    case rel => exact ⟨k + 1, by omega, by go_num, by rw [HS.out, hb]; rfl⟩
                    case measure => simp [intOf]; omega
                  · cases hik : inn left k
                    · go_wp2_with (go_at_call 50; refine (rin_any _ _ hlt3 _).mono ?_; rintro e w' ⟨rfl, rfl⟩)
                      go_round
                      case rel => exact ⟨k + 1, by omega, by go_num, by rw [HS.out, hb, hik]; rfl⟩
                      case measure => simp [intOf]; omega
                    · cases hrk : inn (row r k) e
                      · rw [hrk] at htest
                        go_wp2_with (go_at_call 50; refine (rin_any _ _ hlt3 _).mono ?_; rintro e w' ⟨rfl, rfl⟩)
                        go_round
                        case rel => exact ⟨k + 1, by omega, by go_num, by rw [HS.out, hb, hik, hrk]; rfl⟩
                        case measure => simp [intOf]; omega
                      · rw [hrk] at htest
                        go_wp2_with (go_at_call 50; refine (rin_any _ _ hlt3 _).mono ?_; rintro e w' ⟨rfl, rfl⟩)
                        go_round
                        case rel => exact ⟨k + 1, by omega, by go_num, by rw [HS.out, hb, hik, hrk]; rfl⟩
                        case measure => simp [intOf]; omega
                · obtain rfl : k = 32 := by omega
                  have HF : Hid (frT left r e 32 = inn (freeS r left) e) := frT_full hin
                  cases hb : frT left r e 32
                  · have HF2 : Hid (lst (freeS r left) (e + 1) = []) := (lst_no (by rw [← HF.out, hb])).trans HE.out
                    go_wp2
                    go_round
                    case rel => exact .inl ⟨e + 1, by omega, by go_num, rfl, HF2⟩
                    case measure => simp [intOf]; omega
                  · have HF2 : Hid (inn (freeS r left) e = true) := HF.out.symm.trans hb
                    go_wp2
                    go_round
                    case rel => exact .inr ⟨e, hlt, by go_num, rfl, HE, HF2⟩
                    case measure => simp [intOf]; omega
          · obtain rfl : e = 32 := by omega
            have HN : Hid (ordT r 33 u [] = none) := by
              obtain ⟨f, h1, h2⟩ := HO.out
              cases f with
              | zero => omega
              | succ f => exact h1.trans (ordT_none Hz.out HE.out)
            go_wp2
            go_ret2
            exact ans_no hg HN.out
        · obtain ⟨l', hl'⟩ := lst_head HE.out HX.out 32 hx32
          have hxl := inn_free HX.out
          have hcd := card_drop hxl
          have HN : Hid (∃ f, ordT r 33 u [] = ordT r f (left &&& ~~~one x) (acc ++ [x]) ∧ card (left &&& ~~~one x) < f) := by
            obtain ⟨f, h1, h2⟩ := HO.out
            cases f with
            | zero => omega
            | succ f => exact ⟨f, h1.trans (ordT_next Hz.out hl'), by omega⟩
          clear hl' hxl HO
          have hsz2 := hg.size
          have hand2 := bits_andNot left (one x)
          have hsh := sh_one x
          have hd0 : decide ((x : Int) < 0) = false := by simp
          have hc3 : w.heap.size + 1 ≤ wr.heap.size + 1 := by omega
          have hc2 : acc.length ≤ 100000 := by omega
          go_upto_region 19 with (at_builtin; go_must (refine app1 _ (w.heap.size + 1) acc x _ _ (by rfl) (by rfl) (by simp) (own_alloc ho _) hc2 (by simpa using hc3) ?_))
          all_goals
            intro v' w3 ho3 hb3 hm3
            have hr3 : At w3 w.heap.size r := (hr.alloc _).below hb3 (by omega)
            have hG3 : Grow w w3 := (Below.alloc hg hsz2 _).trans (hb3.mono (by omega))
            clear hm3 hb3
            go_wp2
            go_roundw
            case rel => exact ⟨left &&& ~~~one x, acc ++ [x], by first | rfl | (rw [hsh, hand2]), hG3, hr3, by simpa using ho3, by rw [List.length_append]; simp; omega, HN⟩
            case measure => simp [intOf, ofInt_card]; exact hcd

set_option maxHeartbeats 2000000 in
theorem ints_any (l : List Nat) (u v : Value) (w : World) (hu : Il w u l) (hv : Il w v l) (hl : l.length ≤ 1000) : Calls Try.prog 12 #[u, v] w fun x w' => x = .returned (.bool true) ∧ Grow w w' := by
  have HU : Hid (Il w u l) := hu
  have HV : Hid (Il w v l) := hv
  obtain ⟨au, cu, rfl⟩ := hu.form
  obtain ⟨av, cv, rfl⟩ := hv.form
  clear hu hv
  go_enter Try.func12, Try.ntmps12
  go_wp2
  go_loopw [5] (fun i wr => ∃ j n : Nat, j ≤ l.length ∧ i = .int .i64 j ∧ wr = w.drewN n) (fun i _ => l.length - (intOf i).toNat)
  case atStart => exact ⟨0, 0, by omega, rfl, rfl⟩
  case round =>
    obtain ⟨j, n, hj, rfl, rfl⟩ := hrel
    by_cases hlt : j < l.length
    · obtain ⟨x, hx⟩ : ∃ x, l[j]? = some x := ⟨l[j], List.getElem?_eq_getElem hlt⟩
      obtain ⟨g1, c1, hv1, hg1, hc1⟩ := HU.out.cell hx
      obtain ⟨g2, c2, hv2, hg2, hc2⟩ := HV.out.cell hx
      cases hv1
      cases hv2
      clear hx
      go_wp2
      go_quiet ((fail))
      go_wp2
      go_roundw
      case rel => exact ⟨j + 1, _, by omega, by go_num, rfl⟩
      case measure => simp [intOf]; omega
    · obtain rfl : j = l.length := by omega
      go_wp2
      go_ret
      exact ⟨rfl, Grow_drewN w n⟩

end Go.Proofs.Ytlbccddhcbcpoaa
/- What the engine needs of sets and relations. -/
namespace Go.Proofs.Ytlbccddhcbcpoaa.En
open Go.RowKit
set_option linter.unusedSimpArgs false
set_option linter.unusedVariables false

abbrev S32 := BitVec 32
theorem b_shl (x y : Operand) (e : Nat) (w : World) (he : e < 32) : (eqGuard .shl 25 x y (.int .u32 1) (.int .i64 (e : Int))).run Try.prog w = .ok () w ∧ (binOp .shl 25 (.int .u32 1) (.int .i64 (e : Int))).run Try.prog w = .ok (.int .u32 (U (one e))) w := by
  refine ⟨by simp [eqGuard], ?_⟩
  rw [← shl_one e]
  simp [binOp, go_sem]
theorem b_or32 (x y : Operand) (a b : S32) (w : World) : (eqGuard .or 25 x y (.int .u32 (U a)) (.int .u32 (U b))).run Try.prog w = .ok () w ∧ (binOp .or 25 (.int .u32 (U a)) (.int .u32 (U b))).run Try.prog w = .ok (.int .u32 (U (a ||| b))) w := by
  refine ⟨by simp [eqGuard], ?_⟩
  rw [← bits_or]
  simp [binOp, go_sem]
theorem b_shr (x y : Operand) (s : S32) (e : Nat) (w : World) (he : e < 32) : (eqGuard .shr 25 x y (.int .u32 (U s)) (.int .i64 (e : Int))).run Try.prog w = .ok () w ∧ (binOp .shr 25 (.int .u32 (U s)) (.int .i64 (e : Int))).run Try.prog w = .ok (.int .u32 (U (s >>> e))) w := by
  refine ⟨by simp [eqGuard], ?_⟩
  rw [← shr_U]
  simp [binOp, go_sem, Nat.min_eq_left (Nat.le_of_lt he)]
theorem b_and1 (x y : Operand) (s : S32) (w : World) : (eqGuard .and 25 x y (.int .u32 (U s)) (.int .u32 1)).run Try.prog w = .ok () w ∧ (binOp .and 25 (.int .u32 (U s)) (.int .u32 1)).run Try.prog w = .ok (.int .u32 (U (s &&& 1#32))) w := by
  refine ⟨by simp [eqGuard], ?_⟩
  rw [← bits_and, U_one]
  simp [binOp, go_sem]
theorem in_bit (s : S32) (e : Nat) : (U (s >>> e &&& 1#32) == 1) = inn s e := by
  rw [and_one]
  unfold inn
  simp
  cases s.getLsbD e <;> simp
theorem cell32 {r : Rl} {k : Nat} (h : k < 32) : (cells r)[k]? = some (.int .u32 (U (row r k))) := cells_at r k h
theorem cells_oneL (r : Rl) : (cells r).toList.all (·.oneCell') = true := by
  have := cells_one r
  rw [← Array.all_toList] at this; exact this
theorem row28 : rowB Try.prog 28 32 = true := by kernel_rfl
theorem row28c (r : Rl) : rowB Try.prog 28 (cells r).size = true := by rw [cells_size]; exact row28
theorem zero28 : (Try.prog.info? 28).map (fun i => (i.zero, i.size)) = some (some (.agg (cells nil)), 32) := by kernel_rfl
theorem eq_rels (x y : Rl) (p q : Operand) (w : World) (b : Bool) (h : eqB x y = b) : (eqGuard .eql 28 p q (.agg (cells x)) (.agg (cells y))).run Try.prog w = .ok () w ∧ (binOp .eql 28 (.agg (cells x)) (.agg (cells y))).run Try.prog w = .ok (.bool b) w := by
  subst h; exact ⟨guard_rel _ _ _ _ _ _, eql_rel x y w⟩
theorem ne_rels (x y : Rl) (p q : Operand) (w : World) (b : Bool) (h : (!eqB x y) = b) : (eqGuard .neq 28 p q (.agg (cells x)) (.agg (cells y))).run Try.prog w = .ok () w ∧ (binOp .neq 28 (.agg (cells x)) (.agg (cells y))).run Try.prog w = .ok (.bool b) w := by
  subst h; exact ⟨guard_rel _ _ _ _ _ _, neq_rel x y w⟩
def intE (x : Int) : List Value := [.int .i64 x]
def pairE (p : Int × Int) : List Value := [.int .i64 p.1, .int .i64 p.2]
theorem intE_len (i : Int) : (intE i).length = 1 := rfl
theorem intE_one (i : Int) : ∀ u ∈ intE i, u.oneCell' = true := List.all_eq_true.1 rfl
theorem pairE_len (i : Int × Int) : (pairE i).length = 2 := rfl
theorem pairE_one (i : Int × Int) : ∀ u ∈ pairE i, u.oneCell' = true := List.all_eq_true.1 rfl
section
variable (M : Nat → Option (Array Value)) (hM : ∀ k, M k = none)
def cNoneM (e : Nat) : Cl (SM M) := ⟨fun v w => ∃ g, v = .slice (some ⟨g, 0, none⟩) 0 0 ∧ Blk w g #[] e, fun _ _ _ hS ⟨g, h1, h2⟩ => ⟨g, h1, h2.sm hS (hM g)⟩⟩
def cRowM (e s n : Nat) (xs : List Value) : Cl (SM M) := ⟨fun v w => (∃ g cap, v = .slice (some ⟨g, 0, none⟩) n cap) ∧ ∃ b, w.ownsRow b e s v n xs, fun _ _ _ hS ⟨h, b, k⟩ => ⟨h, b, own_sm k hS hM⟩⟩
def cIl (l : List Nat) : Cl (SM M) := ⟨fun v w => Il w v l, fun _ _ _ hS k => own_sm k hS hM⟩
end
theorem events_own {l : List Int} {v : Value} {w : World} (h : (∃ g cap, v = .slice (some ⟨g, 0, none⟩) l.length cap) ∧ ∃ b, w.ownsRow b 3 1 v l.length (l.flatMap intE)) (hl : l.length ≤ 1000000) : Calls Try.prog 10 #[v] w fun x w' => x = .returned (.int .u32 (U (evs l))) ∧ w' = w := by
  obtain ⟨⟨g, cap, rfl⟩, b, h⟩ := h
  obtain ⟨ao, cap', hv, _, hs⟩ := own_gen intE_len h
  refine events_sl l g 0 cap w hl (fun j x hx => ?_)
  obtain ⟨b', o', h1, _, h3⟩ := hs j x hx
  simp at hv
  rw [← hv.1] at h1
  simp at h1
  obtain ⟨rfl, rfl⟩ := h1
  have := h3 0 (.int .i64 x) rfl
  simpa using this
theorem pair_own {l : List (Int × Int)} {v : Value} {w : World} (h : (∃ g cap, v = .slice (some ⟨g, 0, none⟩) l.length cap) ∧ ∃ b, w.ownsRow b 29 2 v l.length (l.flatMap pairE)) (hl : l.length ≤ 1000000) : Calls Try.prog 14 #[v] w fun x w' => x = .returned (.agg (cells (pairT l))) ∧ Grow w w' := by
  obtain ⟨⟨g, cap, rfl⟩, b, h⟩ := h
  obtain ⟨ao, cap', hv, _, hs⟩ := own_gen pairE_len h
  have hg : g < w.heap.size := by
    rcases h.2 with ⟨h2, _⟩ | ⟨g', cap2, cur, hv2, _, hgg, _⟩
    · simp at h2
    · simp at hv2
      obtain ⟨rfl, _⟩ := hv2
      exact (Array.getElem?_eq_some_iff.1 hgg).1
  refine pair_sl l g 0 cap w hg hl (fun j x y hx => ?_)
  obtain ⟨b', o', h1, _, h3⟩ := hs j (x, y) hx
  simp at hv
  rw [← hv.1] at h1
  simp at h1
  obtain ⟨rfl, rfl⟩ := h1
  have h4 := h3 0 (.int .i64 x) rfl
  have h5 := h3 1 (.int .i64 y) rfl
  exact ⟨by simpa using h4, by simpa using h5⟩
theorem fst_bit (e b : Nat) (hb : b < 32) : (fst (e : Int)).getLsbD b = decide (b < e) := by
  unfold fst
  split
  · have : e = 0 := by omega
    subst this; simp
  split
  · rename_i h1 h2
    have h3 : 32 ≤ e := by omega
    have : b < e := by omega
    simp [this]
    unfold allS
    have hq : ∀ b : Fin 32, (4294967295#32).getLsbD b.val = true := by decide
    exact hq ⟨b, hb⟩
  · rename_i h1 h2
    have h3 : e < 32 := by omega
    simp only [Int.toNat_natCast]
    have hq : ∀ (e : Fin 32) (b : Fin 32), (one e.val - 1#32).getLsbD b.val = decide (b.val < e.val) := by decide
    exact hq ⟨e, h3⟩ ⟨b, hb⟩
theorem fst_step (e : Nat) (he : e < 32) : fst (e : Int) ||| one e = fst ((e + 1 : Nat) : Int) := by
  apply ext32
  intro b hb
  rw [BitVec.getLsbD_or, fst_bit e b hb, fst_bit (e + 1) b hb, one_bit]
  by_cases h : b = e
  · subst h; simp [hb]
  · have : (b < e + 1) ↔ (b < e) := by omega
    simp [h, this]
theorem fst_end {e : Nat} {n : Int} (h32 : e ≤ 32) (hn : (e : Int) ≤ n ∨ e = 0) (hx : ¬ (e : Int) < 32 ∨ ¬ (e : Int) < n) : fst n = fst (e : Int) := by
  by_cases h : (e : Int) = n
  · rw [h]
  · unfold fst
    by_cases h1 : n < 1
    · have : (e : Int) < 1 := by omega
      simp [h1, this]
    · have h2 : 32 ≤ n := by omega
      have h3 : ¬ (e : Int) < 1 := by omega
      have h4 : (32 : Int) ≤ (e : Int) := by omega
      simp [h1, h2, h3, h4]
theorem evB_nat {e : Nat} (h : e < 32) : evB (e : Int) = true := by simp [evB]; omega
theorem evB_no {n : Int} (h : ¬ (n ≥ 0 ∧ n < 32)) : evB n = false := by simp [evB]; omega
theorem evB_both {x y : Int} (h : ¬ (x ≥ 0 ∧ x < 32 ∧ y ≥ 0 ∧ y < 32)) : (evB x && evB y) = false := by
  rw [Bool.and_eq_false_iff]
  by_cases hx : x ≥ 0 ∧ x < 32
  · right; exact evB_no (by omega)
  · left; exact evB_no hx
end Go.Proofs.Ytlbccddhcbcpoaa.En
/- Rows of a product, one after another. -/
namespace Go.Proofs.Ytlbccddhcbcpoaa.En
set_option linter.unusedSimpArgs false
set_option linter.unusedVariables false
open Go.RowKit

theorem crs_yes {a b : BitVec 32} {k : Nat} (h : inn a k = true) (hk : k < 32) : row (crs a b) k = b := by
  unfold row crs; simp [hk, h]
theorem part_no {a b : BitVec 32} {k : Nat} (h : inn a k = false) : part (k + 1) (crs a b) nil = part k (crs a b) nil := by
  funext i
  unfold part crs nil
  by_cases hi : i.val = k
  · simp [hi, h]
  · have : (i.val < k + 1) ↔ (i.val < k) := by omega
    simp [this]
end Go.Proofs.Ytlbccddhcbcpoaa.En
/- What the reference's Cross returns. -/
namespace Go.Proofs.Ytlbccddhcbcpoaa.En
open Go.RowKit
set_option linter.unusedSimpArgs false
set_option linter.unusedVariables false
theorem arr28 : arrB Try.prog 28 32 25 1 = true := by kernel_rfl
theorem ent50 : ((Try.prog.funcs[50]?).map fun fn => (fn.name == "runtime.NumGoroutine", fn.body.isNone)) = some (false, false) := by kernel_rfl
theorem one25 : oneB Try.prog 25 = true := by kernel_rfl
attribute [local irreducible] cells row U one upd nil evB evs pairT fst lst nums idr crs inn
set_option maxHeartbeats 4000000 in
set_option maxRecDepth 4000 in
theorem rcrs_any (sa sb : BitVec 32) (w : World) : Calls Try.prog 18 #[.int .u32 (U sa), .int .u32 (U sb)] w fun e w' => e = .returned (.agg (cells (crs sa sb))) ∧ Grow w w' := by
  have b0 : Below w.heap.size w w := Below.refl _ _
  refine enter (n := 18) Try.func18 rfl rfl (Nat.le_of_ble_eq_true rfl) ?_
  intro a1 hA2
  refine wp_seq ?_
  refine wp_region_lit ?_
  refine q_step hA2 rfl (d_alloc (wn rfl) zero28 ?_)
  intro g3 w4 eg5 hG6 (m7 : Blk w4 g3 (cells nil) 28)
  have ge8 : w.heap.size ≤ g3 := eg5 ▸ b0.size
  have b9 := below_grow b0 hG6 b0.size
  intro a10 hA11
  refine q_end ?_
  refine t_norm ?_
  refine wp_seq ?_
  refine wp_region_lit ?_
  refine q_step hA11 rfl (d_alloc (wn rfl) zero28 ?_)
  intro g12 w13 eg14 hG15 (m16 : Blk w13 g12 (cells nil) 28)
  have ge17 : w.heap.size ≤ g12 := eg14 ▸ b9.size
  have n18 : g3 ≠ g12 := fun h => Nat.lt_irrefl _ ((h.trans eg14) ▸ m7.lt)
  have m19 := m7.grow hG15
  have b20 := below_grow b9 hG15 b9.size
  intro a21 hA22
  refine q_end ?_
  refine t_norm ?_
  refine wp_seq ?_
  refine wp_seq ?_
  refine wp_region_lit ?_
  refine q_step hA22 rfl (d_assign (wn rfl) (hA22.ev (v := (.int .i64 0)) rfl) ?_)
  intro a23 hA24
  refine q_end ?_
  refine t_norm ?_
  refine wp_block ?_
  refine loop_by (fun m26 a27 w28 => ∃ j25 : Nat, m26 = 32 - j25 ∧ (j25 ≤ 32) ∧ St 18 [(0, (.int .u32 (U sa))), (1, (.int .u32 (U sb))), (4, (.pointer (some ⟨g3, 0, none⟩))), (5, (.pointer (some ⟨g12, 0, none⟩))), (6, (.int .i64 ((j25 : Nat) : Int)))] a27 ∧ Below w.heap.size w w28 ∧ Blk w28 g3 (cells nil) 28 ∧ Blk w28 g12 (cells (part j25 (crs sa sb) nil)) 28) (32 - 0) ⟨0, rfl, (by omega), hA24.cut _ (fm_cons (hA24.get 0 _ rfl) (fm_cons (hA24.get 1 _ rfl) (fm_cons (hA24.get 4 _ rfl) (fm_cons (hA24.get 5 _ rfl) (fm_cons ((hA24.get 6 _ rfl).trans (congrArg (Value.int .i64) (by omega))) fm_nil))))), b20, m19, m16⟩ ?_
  rintro m26 a27 w28 ⟨j25, hm31, hc32, hA29, b30, m33, m34⟩
  refine wp_seq ?_
  refine wp_seq ?_
  refine wp_region_lit ?_
  refine q_step hA29 rfl (d_move (wn rfl) (hA29.ev (v := (.int .i64 ((j25 : Nat) : Int))) rfl) ?_)
  intro a35 hA36
  rcases Bool.eq_false_or_eq_true (decide (((j25 : Nat) : Int) < 32)) with hb37 | hb37
  · skip
    have hq38 := of_decide_eq_true hb37
    refine q_step hA36 rfl (d_bin (wn rfl) (hA36.ev (v := (.int .i64 ((j25 : Nat) : Int))) rfl) (hA36.ev (v := (.int .i64 32)) rfl) (b_lt _ _ ((j25 : Nat) : Int) 32 true _ hb37) ?_)
    intro a39 hA40
    refine q_end ?_
    refine t_norm ?_
    refine c_true hA40 rfl ?_
    refine wp_skip ?_
    refine t_norm ?_
    refine wp_seq ?_
    refine wp_block ?_
    refine wp_seq ?_
    refine wp_region_lit ?_
    refine q_step hA40 rfl (d_move (wn rfl) (hA40.ev (v := (.int .u32 (U sa))) rfl) ?_)
    intro a41 hA42
    refine q_step hA42 rfl (d_move (wn rfl) (hA42.ev (v := (.int .i64 ((j25 : Nat) : Int))) rfl) ?_)
    intro a43 hA44
    refine q_step hA44 rfl (d_call (wn rfl) ent50 (map2 (hA44.ev (v := (.int .u32 (U sa))) rfl) (hA44.ev (v := (.int .i64 ((j25 : Nat) : Int))) rfl)) (rin_any sa j25 (by omega) w28) ?_)
    rintro e48 w45 ⟨he47, hG460⟩
    have hG46 : Grow w28 w45 := hG460 ▸ Grow.refl _
    have m49 := m33.grow hG46
    have m50 := m34.grow hG46
    have b51 := below_grow b30 hG46 b30.size
    rcases Bool.eq_false_or_eq_true (inn sa j25) with hb52 | hb52
    · skip
      refine ⟨.bool true, he47.trans (ret_bool hb52), ?_⟩
      intro a54 hA55
      refine q_end ?_
      refine t_norm ?_
      refine c_true hA55 rfl ?_
      refine wp_region_lit ?_
      refine q_step hA55 rfl (d_move (wn rfl) (hA55.ev (v := (.int .i64 ((j25 : Nat) : Int))) rfl) ?_)
      intro a56 hA57
      refine q_step hA57 rfl (d_move (wn rfl) (hA57.ev (v := (.int .u32 (U sb))) rfl) ?_)
      intro a58 hA59
      refine q_step hA59 rfl (d_indexArrP (j := j25) (p := j25) (wn rfl) (hA59.ev (v := (.pointer (some ⟨g12, 0, none⟩))) rfl) (hA59.ev (v := (.int .i64 ((j25 : Nat) : Int))) rfl) arr28 (by omega) (by omega) ?_)
      intro a60 hA61
      refine q_step hA61 rfl (d_store (v := (.int .u32 (U sb))) (wn rfl) (hA61.ev (v := (.pointer (some ⟨g12, j25, none⟩))) rfl) (hA61.ev (v := (.int .u32 (U sb))) rfl) one25 rfl m50 (by rw [cells_size]; omega) ?_)
      intro w62 hU63 m64
      rw [cells_set] at m64
      have m65 := m49.upd hU63 n18
      have b66 := hU63.below b51 ge17
      intro a67 hA68
      refine q_end ?_
      refine i_norm ?_
      refine t_norm ?_
      refine wp_region_lit ?_
      refine q_step hA68 rfl (d_move (wn rfl) (hA68.ev (v := (.int .i64 ((j25 : Nat) : Int))) rfl) ?_)
      intro a69 hA70
      refine q_step hA70 rfl (d_bin (wn rfl) (hA70.ev (v := (.int .i64 ((j25 : Nat) : Int))) rfl) (hA70.ev (v := (.int .i64 1)) rfl) (b_add _ _ ((j25 : Nat) : Int) 1 _ (by omega) (by omega)) ?_)
      intro a71 hA72
      refine q_step hA72 rfl (d_assign (wn rfl) (hA72.ev (v := (.int .i64 (((j25 : Nat) : Int) + 1))) rfl) ?_)
      intro a73 hA74
      refine q_end ?_
      refine t_norm ?_
      have m75 : Blk w62 g12 (cells (part (j25 + 1) (crs sa sb) nil)) 28 := by rw [← part_step (crs sa sb) nil j25 sb (fun _ => (crs_yes hb52 (by omega)).symm)]; exact m64
      exact ⟨32 - (j25 + 1), (by rw [hm31]; omega), j25 + 1, rfl, (by omega), hA74.cut _ (fm_cons (hA74.get 0 _ rfl) (fm_cons (hA74.get 1 _ rfl) (fm_cons (hA74.get 4 _ rfl) (fm_cons (hA74.get 5 _ rfl) (fm_cons ((hA74.get 6 _ rfl).trans (congrArg (Value.int .i64) (by omega))) fm_nil))))), b66, m65, m75⟩
    · skip
      refine ⟨.bool false, he47.trans (ret_bool hb52), ?_⟩
      intro a77 hA78
      refine q_end ?_
      refine t_norm ?_
      refine c_false hA78 rfl ?_
      refine wp_skip ?_
      refine i_norm ?_
      refine t_norm ?_
      refine wp_region_lit ?_
      refine q_step hA78 rfl (d_move (wn rfl) (hA78.ev (v := (.int .i64 ((j25 : Nat) : Int))) rfl) ?_)
      intro a79 hA80
      refine q_step hA80 rfl (d_bin (wn rfl) (hA80.ev (v := (.int .i64 ((j25 : Nat) : Int))) rfl) (hA80.ev (v := (.int .i64 1)) rfl) (b_add _ _ ((j25 : Nat) : Int) 1 _ (by omega) (by omega)) ?_)
      intro a81 hA82
      refine q_step hA82 rfl (d_assign (wn rfl) (hA82.ev (v := (.int .i64 (((j25 : Nat) : Int) + 1))) rfl) ?_)
      intro a83 hA84
      refine q_end ?_
      refine t_norm ?_
      have m85 : Blk w45 g12 (cells (part (j25 + 1) (crs sa sb) nil)) 28 := by rw [part_no hb52]; exact m50
      exact ⟨32 - (j25 + 1), (by rw [hm31]; omega), j25 + 1, rfl, (by omega), hA84.cut _ (fm_cons (hA84.get 0 _ rfl) (fm_cons (hA84.get 1 _ rfl) (fm_cons (hA84.get 4 _ rfl) (fm_cons (hA84.get 5 _ rfl) (fm_cons ((hA84.get 6 _ rfl).trans (congrArg (Value.int .i64) (by omega))) fm_nil))))), b51, m49, m85⟩
  · skip
    have hq86 := of_decide_eq_false hb37
    refine q_step hA36 rfl (d_bin (wn rfl) (hA36.ev (v := (.int .i64 ((j25 : Nat) : Int))) rfl) (hA36.ev (v := (.int .i64 32)) rfl) (b_lt _ _ ((j25 : Nat) : Int) 32 false _ hb37) ?_)
    intro a87 hA88
    refine q_end ?_
    refine t_norm ?_
    refine c_false hA88 rfl ?_
    refine wp_exit ?_
    refine t_exit ?_
    refine t_exit ?_
    refine i_here ?_
    refine t_norm ?_
    refine wp_seq ?_
    refine wp_region_lit ?_
    refine q_step hA88 rfl (d_loadRow (cs := (cells (part j25 (crs sa sb) nil))) (wn rfl) (hA88.ev (v := (.pointer (some ⟨g12, 0, none⟩))) rfl) (row28c _) m34 ?_)
    intro a89 hA90
    refine q_step hA90 rfl (d_storeRow (wn rfl) (hA90.ev (v := (.pointer (some ⟨g3, 0, none⟩))) rfl) (hA90.ev (v := (.agg (cells (part j25 (crs sa sb) nil)))) rfl) (row28c _) m33 (by rw [cells_size, cells_size]) (cells_oneL _) ?_)
    intro w91 hU92 (m93 : Blk w91 g3 (cells (part j25 (crs sa sb) nil)) 28)
    have m94 := m34.upd hU92 (Ne.symm n18)
    have b95 := hU92.below b30 ge8
    intro a96 hA97
    refine q_end ?_
    refine t_norm ?_
    refine wp_ret ?_
    refine retRow (g := g3) (cs := (cells (part j25 (crs sa sb) nil))) rfl hA97 rfl m93 (row28c _) ?_
    have hj32 : j25 = 32 := by omega
    exact ⟨by rw [hj32, part_full], b95⟩
end Go.Proofs.Ytlbccddhcbcpoaa.En
/- The beginnings of loops over sets. -/
namespace Go.Proofs.Ytlbccddhcbcpoaa.En
set_option linter.unusedSimpArgs false
set_option linter.unusedVariables false
open Go.RowKit

theorem evs0 (l : List Int) : (0 : Int) = U (evs (l.take 0)) := by rw [List.take_zero]; rfl
theorem fst0 : (0 : Int) = U (fst ((0 : Nat) : Int)) := by decide
theorem pair0 (l : List (Int × Int)) : pairT (l.take 0) = nil := pairT_zero l
theorem il_own {w : World} {b n j : Nat} {v : Value} {s : BitVec 32} {xs : List Value} (h : w.ownsRow b 3 1 v n xs) (hn : n = (lst s j).length) (hx : xs = nums (lst s j)) (hj : j = 32) : Il w v (lst s 32) := by
  subst hj; subst hn; subst hx; exact own_zero h
theorem lst_small (s : BitVec 32) : (lst s 32).length ≤ 1000 := by have := lst_len s 32; omega
end Go.Proofs.Ytlbccddhcbcpoaa.En
/- A sequence of two, by rows and columns. -/
namespace Go.Proofs.Ytlbccddhcbcpoaa.En
set_option linter.unusedSimpArgs false
set_option linter.unusedVariables false
open Go.RowKit

def twoI (x y : Rl) (a b : Nat) : Rl := upd (part a (seq2 x y) nil) a (aft (row x a) y b)
theorem upd_upd (r : Rl) (k : Nat) (x y : BitVec 32) : upd (upd r k x) k y = upd r k y := by
  funext i; unfold upd; split <;> rfl
theorem row_nil (k : Nat) : row nil k = 0#32 := by unfold row nil; split <;> rfl
theorem two0 (x y : Rl) (a : Nat) : twoI x y a 0 = part a (seq2 x y) nil := by
  unfold twoI
  have h : aft (row x a) y 0 = row (part a (seq2 x y) nil) a := by rw [row_part_ge _ _ _ _ (Nat.le_refl _), row_nil]; rfl
  rw [h, upd_row]
theorem twoY {x y : Rl} {a b : Nat} (ha : a < 32) (h : inn (row x a) b = true) : upd (twoI x y a b) a (row (twoI x y a b) a ||| row y b) = twoI x y a (b + 1) := by
  unfold twoI
  rw [row_upd_same _ _ _ ha, upd_upd, aft_yes h]
theorem twoN {x y : Rl} {a b : Nat} (h : inn (row x a) b = false) : twoI x y a (b + 1) = twoI x y a b := by
  unfold twoI; rw [aft_no h]
theorem twoE (x y : Rl) (a : Nat) : twoI x y a 32 = part (a + 1) (seq2 x y) nil := by
  unfold twoI
  exact part_step _ _ _ _ fun ha => by rw [row_of _ ha]; unfold seq2; rw [row_of _ ha]
theorem rid_all (w : World) : Calls Try.prog 16 #[.int .u32 4294967295] w fun x w' => x = .returned (.agg (cells (idr allS))) ∧ Grow w w' := by
  have := rid_any allS w; rw [U_all] at this; exact this
theorem sqs0 (rs : List Rl) : sqs (rs.take 0) = idr allS := by rw [List.take_zero]; rfl
theorem sqs_at {rs : List Rl} {j : Nat} {r : Rl} (h : rs[j]? = some r) : sqs (rs.take (j + 1)) = seq2 (sqs (rs.take j)) r := by
  unfold sqs; rw [List.take_add_one, h, List.foldl_append]; rfl
def relE (r : Rl) : List Value := (cells r).toList
theorem relE_len (r : Rl) : (relE r).length = 32 := by unfold relE; rw [Array.length_toList, cells_size]
theorem relE_one (r : Rl) : ∀ u ∈ relE r, u.oneCell' = true := List.all_eq_true.1 (cells_oneL r)
theorem relE_at {r : Rl} {k : Nat} (h : k < 32) : (relE r)[k]? = some (.int .u32 (U (row r k))) := by
  unfold relE; rw [Array.getElem?_toList]; exact cells_at r k h
end Go.Proofs.Ytlbccddhcbcpoaa.En
/- A table of thirty-two by thirty-two truths in memory, by value; what the reference's Of and Rel return. -/
namespace Go.Proofs.Ytlbccddhcbcpoaa
open Go.RowKit

/-- a table -/
abbrev Tb := Nat → Nat → Bool
def tcs (t : Tb) : Array Value := Array.ofFn (fun i : Fin 1024 => Value.bool (t (i.val / 32) (i.val % 32)))
theorem tcs_size (t : Tb) : (tcs t).size = 1024 := by unfold tcs; simp
theorem tcs_at (t : Tb) (a b : Nat) (ha : a < 32) (hb : b < 32) : (tcs t)[a * 32 + b]? = some (.bool (t a b)) := by
  have h : a * 32 + b < 1024 := by omega
  have h1 : (a * 32 + b) / 32 = a := by omega
  have h2 : (a * 32 + b) % 32 = b := by omega
  unfold tcs; simp [h, h1, h2]
def updt (t : Tb) (a b : Nat) (v : Bool) : Tb := fun i j => if i = a ∧ j = b then v else t i j
theorem tcs_get (t : Tb) (i : Nat) (hi : i < 1024) : (tcs t)[i]? = some (.bool (t (i / 32) (i % 32))) := by unfold tcs; simp [hi]
theorem tcs_set (t : Tb) (a b : Nat) (hb : b < 32) (v : Bool) : (tcs t).setIfInBounds (a * 32 + b) (.bool v) = tcs (updt t a b v) := by
  apply Array.ext_getElem?
  intro i
  by_cases hi : i < 1024
  · rw [tcs_get _ i hi]
    by_cases h : a * 32 + b = i
    · have h3 : i / 32 = a := by omega
      have h4 : i % 32 = b := by omega
      rw [h, Array.getElem?_setIfInBounds_self_of_lt (by rw [tcs_size]; exact hi), h3, h4]
      simp [updt]
    · have : ¬ (i / 32 = a ∧ i % 32 = b) := by omega
      rw [Array.getElem?_setIfInBounds_ne h, tcs_get t i hi]
      simp [updt, this]
  · rw [Array.getElem?_eq_none (by simp [tcs_size]; omega), Array.getElem?_eq_none (by rw [tcs_size]; omega)]
theorem tcs_congr {t u : Tb} (h : ∀ a b, a < 32 → b < 32 → t a b = u a b) : tcs t = tcs u := by
  unfold tcs
  congr 1
  funext i
  rw [h (i.val / 32) (i.val % 32) (by have := i.isLt; omega) (by omega)]
theorem tcs_one (t : Tb) : (tcs t).all (·.oneCell') = true := by
  rw [Array.all_eq_true]; intro i hi
  have hi' : i < 1024 := by simpa [tcs_size] using hi
  have := tcs_at t (i / 32) (i % 32) (by omega) (by omega)
  rw [show i / 32 * 32 + i % 32 = i by omega] at this
  obtain ⟨_, h⟩ := Array.getElem?_eq_some_iff.1 this
  rw [h]; rfl
theorem tcs_false : Array.replicate 1024 (Value.bool false) = tcs (fun _ _ => false) := by
  apply Array.ext_getElem?
  intro i
  by_cases hi : i < 1024
  · rw [tcs_get _ i hi]; simp [hi]
  · rw [Array.getElem?_eq_none (by simp; omega), Array.getElem?_eq_none (by rw [tcs_size]; omega)]
theorem info_tab : (Try.prog.info? 60).map (·.size) = some 1024 := by kernel_rfl
theorem und_tab : ∃ e, Try.prog.underlying 60 = some (.array 32 e) := ⟨_, Try.underlying60⟩
/-- a table lies in a block -/
def Tt (w : World) (g : Nat) (t : Tb) : Prop := w.heap[g]? = some (.cells (tcs t) 60 (0, 0))
theorem Tt.lt {w : World} {g : Nat} {t : Tb} (h : Tt w g t) : g < w.heap.size := (Array.getElem?_eq_some_iff.1 h).1
theorem Tt.cell {w : World} {g : Nat} {t : Tb} (h : Tt w g t) (a b : Nat) (ha : a < 32) (hb : b < 32) : w.cell? ⟨g, a * 32 + b, none⟩ = some (.bool (t a b)) := by
  rw [cell_of_row w g _ _ _ _ h]; exact tcs_at t a b ha hb
theorem Tt.frozen {w : World} {g : Nat} {t : Tb} (h : Tt w g t) (k : Nat) : w.frozen? ⟨g, k, none⟩ = false := by unfold Tt at h; simp [World.frozen?, h]
theorem Tt.grow {w w' : World} {g : Nat} {t : Tb} (h : Tt w g t) (hg : Grow w w') : Tt w' g t := by unfold Tt; rw [hg.block g h.lt]; exact h
theorem Tt.set {w : World} {g : Nat} {t : Tb} (h : Tt w g t) (a b : Nat) (hb : b < 32) (v : Bool) : Tt (w.setCell ⟨g, a * 32 + b, none⟩ (.bool v)) g (updt t a b v) := by
  unfold Tt
  rw [setCell_eq_setRow w g _ _ _ _ _ h, tcs_set t a b hb]
  exact setRow_heap w g _ _ _ _ h
theorem Tt.set_other {w : World} {g g' : Nat} {t : Tb} (h : Tt w g t) (hne : g ≠ g') (k : Nat) (v : Value) : Tt (w.setCell ⟨g', k, none⟩ v) g t := by
  unfold Tt; rw [Below.heap_setCell _ _ _ _ hne]; exact h
theorem Tt.alloc {w : World} {g : Nat} {t : Tb} (h : Tt w g t) (o : Obj) : Tt (w.alloc o) g t := by unfold Tt; rw [Below.heap_alloc _ _ _ h.lt]; exact h
theorem Tt.drew {w : World} {g : Nat} {t : Tb} (h : Tt w g t) : Tt w.drew g t := h
theorem Tt.new (w : World) (t : Tb) : Tt (w.alloc (.cells (tcs t) 60)) w.heap.size t := heap_alloc_last w _
theorem Tt.put {w : World} {g : Nat} {t t' : Tb} (h : Tt w g t) : Tt (w.setRow g (tcs t')) g t' := setRow_heap w g _ _ _ _ h
theorem Tt.congr {w : World} {g : Nat} {t u : Tb} (h : Tt w g t) (e : ∀ a b, a < 32 → b < 32 → t a b = u a b) : Tt w g u := by unfold Tt at *; rw [← tcs_congr e]; exact h
section
variable {ops : Array Oper} {rest : List Oper} {a : Act} {w : World} {Q : Exit → Act → World → Prop}
theorem ldt {d : Option Tmp} {p : Tmp} {ty : TypeId} {pos : String} {af : Array Edge} (g : Nat) (t : Tb) (hp : a.eval (.tmp p) = .pointer (some ⟨g, 0, none⟩)) (hg : Tt w g t)
    (h : wpList Try.prog ops Q rest (a.put d (.agg (tcs t))) w) : wpList Try.prog ops Q ({ dst := d, op := .load 60 (.tmp p), type := ty, pos := pos, after := af, guard := none } :: rest) a w :=
  wpList_load_row rfl 60 (.tmp p) rfl g hp 60 (tcs t) (0, 0) _ hg Try.underlying60 rfl (by rw [tcs_size]; exact info_tab) h
theorem stt {d : Option Tmp} {p q : Tmp} {ty : TypeId} {pos : String} {af : Array Edge} (g : Nat) (t0 t : Tb) (hp : a.eval (.tmp p) = .pointer (some ⟨g, 0, none⟩)) (hq : a.eval (.tmp q) = .agg (tcs t)) (hg : Tt w g t0)
    (h : wpList Try.prog ops Q rest (a.put d undef) (w.setRow g (tcs t))) : wpList Try.prog ops Q ({ dst := d, op := .store 60 (.tmp p) (.tmp q), type := ty, pos := pos, after := af, guard := none } :: rest) a w :=
  wpList_store_row rfl 60 (.tmp p) (.tmp q) rfl g (tcs t) hp hq 60 (tcs t0) hg (by rw [tcs_size]; exact info_tab) (by rw [tcs_size, tcs_size]) (tcs_one t) h
theorem alt {d : Option Tmp} {ty : TypeId} {pos : String} {af : Array Edge} (g : Nat) (hg : w.heap.size = g) (h : wpList Try.prog ops Q rest (a.put d (.pointer (some ⟨g, 0, none⟩))) (w.alloc (.cells (tcs fun _ _ => false) 60))) :
    wpList Try.prog ops Q ({ dst := d, op := .alloc 60, type := ty, pos := pos, after := af, guard := none } :: rest) a w := by
  subst hg
  refine wpList_plain rfl fun _ hK => ?_
  have hi : (Try.prog.info? 60).map (fun i => (i.zero, i.size)) = some (some (.agg (Array.replicate 1024 (Value.bool false))), 1024) := by kernel_rfl
  have hr : (execOp a.eval { dst := d, op := .alloc 60, type := ty, pos := pos, after := af, guard := none }).run Try.prog w = .ok (.value (.pointer (some ⟨w.heap.size, 0, none⟩))) (w.alloc (.cells (tcs fun _ _ => false) 60)) := by
    have hz := (zero_of_info hi).1 w
    unfold execOp
    rw [← tcs_false]
    simp only [Instr.alloc, newVar, newRow, Sem.run_bind, hz, Result.andThen_ok, Value.cells]
    rfl
  unfold Oper.wp
  rw [hr, Oper.upon_value]
  exact hK _ _ h
end
theorem rest_tab {fn : Func} {p : Tmp} (h : fn.results = #[.cell p 60]) (tmps : Array Value) (w : World) (g : Nat) (t : Tb) (hp : tmps.getD p undef = .pointer (some ⟨g, 0, none⟩)) (hg : Tt w g t) :
    (results fn tmps).run Try.prog w = .ok (.agg (tcs t)) w :=
  results_cell_row h tmps w g 60 (tcs t) (0, 0) _ hp hg Try.underlying60 rfl (by rw [tcs_size]; exact info_tab)

/-- a relation as a table, as far as it is laid -/
def ofT (r : Rl) (a b : Nat) : Tb := fun i j => if i < a ∨ (i = a ∧ j < b) then inn (row r i) j else false
theorem ofT_zero (r : Rl) (i j : Nat) : ofT r 0 0 i j = false := by simp [ofT]
theorem ofT_step (r : Rl) (a b i j : Nat) : updt (ofT r a b) a b (inn (row r a) b) i j = ofT r a (b + 1) i j := by
  unfold updt ofT
  by_cases h : i = a ∧ j = b
  · obtain ⟨rfl, rfl⟩ := h; simp
  · rw [if_neg h]
    have : (i < a ∨ (i = a ∧ j < b)) ↔ (i < a ∨ (i = a ∧ j < b + 1)) := by omega
    simp [this]
theorem ofT_row (r : Rl) (a i j : Nat) (hj : j < 32) : ofT r a 32 i j = ofT r (a + 1) 0 i j := by
  unfold ofT
  have : (i < a ∨ (i = a ∧ j < 32)) ↔ (i < a + 1 ∨ (i = a + 1 ∧ j < 0)) := by omega
  simp only [this]
/-- a relation as a table -/
def tabR (r : Rl) : Tb := fun i j => inn (row r i) j
theorem ofT_full (r : Rl) (i j : Nat) (hi : i < 32) : ofT r 32 0 i j = tabR r i j := by simp [ofT, tabR, hi]
attribute [local irreducible] wpList cells row U aft inn one nil part upd idr crs mns eqB evB stepP plusT invT uni met sqs or2 and2 seq2 allS tcs updt ofT tabR

set_option maxHeartbeats 2000000 in
theorem of_any (r : Rl) (w : World) : Calls Try.prog 52 #[.agg (cells r)] w fun x w' => x = .returned (.agg (tcs (tabR r))) ∧ Grow w w' := by
  have e1 : (w.alloc (.cells (cells r) 28)).heap.size = w.heap.size + 1 := by simp
  have e2 : ((w.alloc (.cells (cells r) 28)).alloc (.cells (tcs fun _ _ => false) 60)).heap.size = w.heap.size + 2 := by simp
  go_enter Try.func52, Try.ntmps52
  go_wp2_with (first | (refine alt _ e1 ?_) | (refine alt _ e2 ?_))
  clear e1 e2
  have h0 : Hid (Grow w (((w.alloc (.cells (cells r) 28)).alloc (.cells (tcs fun _ _ => false) 60)).alloc (.cells (tcs fun _ _ => false) 60))) := (((Grow.refl w).alloc _).alloc _).alloc _
  have h1 : At (((w.alloc (.cells (cells r) 28)).alloc (.cells (tcs fun _ _ => false) 60)).alloc (.cells (tcs fun _ _ => false) 60)) w.heap.size r := ((At.new w r).alloc _).alloc _
  have h2 : Tt (((w.alloc (.cells (cells r) 28)).alloc (.cells (tcs fun _ _ => false) 60)).alloc (.cells (tcs fun _ _ => false) 60)) (w.heap.size + 1) (fun _ _ => false) := by simpa using (Tt.new (w.alloc (.cells (cells r) 28)) (fun _ _ => false)).alloc _
  have h3 : Tt (((w.alloc (.cells (cells r) 28)).alloc (.cells (tcs fun _ _ => false) 60)).alloc (.cells (tcs fun _ _ => false) 60)) (w.heap.size + 2) (fun _ _ => false) := by simpa using Tt.new ((w.alloc (.cells (cells r) 28)).alloc (.cells (tcs fun _ _ => false) 60)) (fun _ _ => false)
  generalize (((w.alloc (.cells (cells r) 28)).alloc (.cells (tcs fun _ _ => false) 60)).alloc (.cells (tcs fun _ _ => false) 60)) = w0 at h0 h1 h2 h3 ⊢
  go_loopw [4] (fun i wr => ∃ k : Nat, k ≤ 32 ∧ i = .int .i64 k ∧ Grow w wr ∧ At wr w.heap.size r ∧ Tt wr (w.heap.size + 1) (fun _ _ => false) ∧ Tt wr (w.heap.size + 2) (ofT r k 0)) (fun i _ => 32 - (intOf i).toNat)
  case atStart => exact ⟨0, by omega, rfl, h0.out, h1, h2, h3.congr (fun i j _ _ => (ofT_zero r i j).symm)⟩
  case round =>
    clear h0 h1 h2 h3
    obtain ⟨k, hk, rfl, hg, hr, hz, ht⟩ := hrel
    by_cases hlt : k < 32
    · have hdk : decide ((k : Int) < 32) = true := by simp; omega
      go_wp2
      go_loopw [5] (fun i wr => ∃ e : Nat, e ≤ 32 ∧ i = .int .i64 e ∧ Grow w wr ∧ At wr w.heap.size r ∧ Tt wr (w.heap.size + 1) (fun _ _ => false) ∧ Tt wr (w.heap.size + 2) (ofT r k e)) (fun i _ => 32 - (intOf i).toNat)
      case atStart => exact ⟨0, by omega, rfl, hg, hr, hz, ht⟩
      case round =>
        clear hg hr hz ht
        obtain ⟨e, he, rfl, hg, hr, hz, ht⟩ := hrel
        by_cases hlt2 : e < 32
        · have hc := hr.cell k hlt
          have hc2 := ht.cell k e hlt hlt2
          have hf := ht.frozen (k * 32 + e)
          have htest := in_test (row r k) e
          have hi1 : (k : Int) < 32 := by omega
          have hi2 : (e : Int) < 32 := by omega
          go_wp2
          go_region
          all_goals go_wp2
          all_goals
            go_roundw
            case rel => exact ⟨e + 1, by omega, by go_num, (bset hg (by omega) _).drew, (hr.set_other (by omega) _ _).drew, (hz.set_other (by omega) _ _).drew, ((ht.set k e hlt2 _).congr (fun i j _ _ => ofT_step r k e i j)).drew⟩
            case measure => simp [intOf]; omega
        · obtain rfl : e = 32 := by omega
          go_wp2
          go_roundw
          case rel => exact ⟨k + 1, by omega, by go_num, hg, hr, hz, ht.congr (fun i j _ hj => ofT_row r k i j hj)⟩
          case measure => simp [intOf]; omega
    · obtain rfl : k = 32 := by omega
      have ht' : Tt wr (w.heap.size + 2) (tabR r) := ht.congr (fun i j hi _ => ofT_full r i j hi)
      clear ht
      go_wp2_with (first | (refine ldt (w.heap.size + 2) (tabR r) (by rfl) ht' ?_) | (refine stt (w.heap.size + 1) (fun _ _ => false) (tabR r) (by rfl) (by rfl) hz ?_))
      exact bodyPost_ret (v := .agg (tcs (tabR r))) (rest_tab rfl _ _ (w.heap.size + 1) _ (by rfl) hz.put) rfl ⟨rfl, below_setRow hg (by omega) _⟩

end Go.Proofs.Ytlbccddhcbcpoaa
/- What the reference's Rel and Inverse return, for every input. -/
namespace Go.Proofs.Ytlbccddhcbcpoaa
open Go.RowKit

/-- a table's row as a set, the events below b -/
def rowT (t : Tb) (a : Nat) : Nat → St
  | 0 => 0#32
  | b + 1 => if t a b then rowT t a b ||| one b else rowT t a b
theorem rowT_yes {t : Tb} {a b : Nat} (h : t a b = true) : rowT t a (b + 1) = rowT t a b ||| one b := by simp [rowT, h]
theorem rowT_no {t : Tb} {a b : Nat} (h : t a b = false) : rowT t a (b + 1) = rowT t a b := by simp [rowT, h]
theorem rowT_zero (t : Tb) (a : Nat) : rowT t a 0 = 0#32 := rfl
theorem inn_rowT (t : Tb) (a n e : Nat) (hn : n ≤ 32) : inn (rowT t a n) e = (decide (e < n) && t a e) := by
  induction n with
  | zero => rw [rowT_zero, inn_zero]; simp
  | succ n ih =>
    have ih := ih (by omega)
    cases h : t a n
    · rw [rowT_no h, ih]
      by_cases he : e = n
      · subst he; simp [h]
      · have : decide (e < n + 1) = decide (e < n) := by simp; omega
        rw [this]
    · rw [rowT_yes h, inn_or, ih, inn_one]
      by_cases he : e = n
      · subst he; simp [h]; omega
      · have : decide (e < n + 1) = decide (e < n) := by simp; omega
        rw [this]; simp [he]
/-- a table as a relation -/
def relR (t : Tb) : Rl := fun i => rowT t i.val 32
theorem row_relR (t : Tb) (k : Nat) (h : k < 32) : row (relR t) k = rowT t k 32 := by rw [row_of _ h]; rfl
theorem has_relR (t : Tb) (a b : Nat) : has (relR t) a b ↔ a < 32 ∧ b < 32 ∧ t a b = true := by
  constructor
  · intro h
    obtain ⟨ha, hb⟩ := has_lt h
    unfold has at h
    rw [row_relR t a ha, inn_rowT t a 32 b (Nat.le_refl _)] at h
    simp at h; exact ⟨ha, hb, h.2⟩
  · rintro ⟨ha, hb, h⟩
    unfold has
    rw [row_relR t a ha, inn_rowT t a 32 b (Nat.le_refl _)]; simp [h, hb]
theorem upd_upd (r : Rl) (k : Nat) (x y : St) : upd (upd r k x) k y = upd r k y := by funext i; unfold upd; split <;> rfl
theorem relR_start (t : Tb) (k : Nat) : upd (part k (relR t) nil) k (rowT t k 0) = part k (relR t) nil := by
  have := upd_row (part k (relR t) nil) k
  rw [row_part_ge _ _ _ _ (Nat.le_refl _), row_nil] at this
  exact this
theorem relR_end (t : Tb) (k : Nat) (h : k < 32) : upd (part k (relR t) nil) k (rowT t k 32) = part (k + 1) (relR t) nil := part_step _ _ k _ (fun _ => (row_relR t k h).symm)
/-- a table turned round, as far as it is laid -/
def invU (r : Rl) (a b : Nat) : Tb := fun x y => if y < a ∨ (y = a ∧ x < b) then inn (row r y) x else false
theorem invU_zero (r : Rl) (i j : Nat) : invU r 0 0 i j = false := by simp [invU]
theorem invU_step (r : Rl) (a b i j : Nat) : updt (invU r a b) b a (inn (row r a) b) i j = invU r a (b + 1) i j := by
  unfold updt invU
  by_cases h : i = b ∧ j = a
  · obtain ⟨rfl, rfl⟩ := h; simp
  · rw [if_neg h]
    have : (j < a ∨ (j = a ∧ i < b)) ↔ (j < a ∨ (j = a ∧ i < b + 1)) := by omega
    simp [this]
theorem invU_row (r : Rl) (a i j : Nat) (hi : i < 32) : invU r a 32 i j = invU r (a + 1) 0 i j := by
  unfold invU
  have : (j < a ∨ (j = a ∧ i < 32)) ↔ (j < a + 1 ∨ (j = a + 1 ∧ i < 0)) := by omega
  simp only [this]
theorem inv_tab (r : Rl) : relR (invU r 32 0) = invT r 32 := rl_ext fun a b => by
  rw [has_relR, has_inv]
  unfold invU has
  constructor
  · rintro ⟨ha, hb, h⟩; rw [if_pos (.inl hb)] at h; exact h
  · intro h
    obtain ⟨hb, ha⟩ := has_lt h
    exact ⟨ha, hb, by rw [if_pos (.inl hb)]; exact h⟩
theorem tabR_at (r : Rl) (a b : Nat) : tabR r a b = inn (row r a) b := rfl
attribute [local irreducible] wpList cells row U aft inn one nil part upd idr crs mns eqB evB stepP plusT invT uni met sqs or2 and2 seq2 allS tcs updt ofT tabR rowT relR invU

set_option maxHeartbeats 2000000 in
theorem rel_any (t : Tb) (w : World) : Calls Try.prog 53 #[.agg (tcs t)] w fun x w' => x = .returned (.agg (cells (relR t))) ∧ Grow w w' := by
  have e1 : (w.alloc (.cells (tcs t) 60)).heap.size = w.heap.size + 1 := by simp
  have e2 : ((w.alloc (.cells (tcs t) 60)).alloc (.cells (cells nil) 28)).heap.size = w.heap.size + 2 := by simp
  go_enter Try.func53, Try.ntmps53
  go_wp2_with (first | (refine al _ e1 ?_) | (refine al _ e2 ?_))
  clear e1 e2
  have h0 : Hid (Grow w (((w.alloc (.cells (tcs t) 60)).alloc (.cells (cells nil) 28)).alloc (.cells (cells nil) 28))) := (((Grow.refl w).alloc _).alloc _).alloc _
  have h1 : Tt (((w.alloc (.cells (tcs t) 60)).alloc (.cells (cells nil) 28)).alloc (.cells (cells nil) 28)) w.heap.size t := ((Tt.new w t).alloc _).alloc _
  have h2 : At (((w.alloc (.cells (tcs t) 60)).alloc (.cells (cells nil) 28)).alloc (.cells (cells nil) 28)) (w.heap.size + 1) nil := by simpa using (At.new (w.alloc (.cells (tcs t) 60)) nil).alloc _
  have h3 : At (((w.alloc (.cells (tcs t) 60)).alloc (.cells (cells nil) 28)).alloc (.cells (cells nil) 28)) (w.heap.size + 2) nil := by simpa using At.new ((w.alloc (.cells (tcs t) 60)).alloc (.cells (cells nil) 28)) nil
  generalize (((w.alloc (.cells (tcs t) 60)).alloc (.cells (cells nil) 28)).alloc (.cells (cells nil) 28)) = w0 at h0 h1 h2 h3 ⊢
  go_loopw [4] (fun i wr => ∃ k : Nat, k ≤ 32 ∧ i = .int .i64 k ∧ Grow w wr ∧ Tt wr w.heap.size t ∧ At wr (w.heap.size + 1) nil ∧ At wr (w.heap.size + 2) (part k (relR t) nil)) (fun i _ => 32 - (intOf i).toNat)
  case atStart => exact ⟨0, by omega, rfl, h0.out, h1, h2, by rw [part_zero]; exact h3⟩
  case round =>
    clear h0 h1 h2 h3
    obtain ⟨k, hk, rfl, hg, ht, hz, ho⟩ := hrel
    by_cases hlt : k < 32
    · have hdk : decide ((k : Int) < 32) = true := by simp; omega
      have HE : Hid (upd (part k (relR t) nil) k (rowT t k 32) = part (k + 1) (relR t) nil) := relR_end t k hlt
      have ho' : At wr (w.heap.size + 2) (upd (part k (relR t) nil) k (rowT t k 0)) := by rw [relR_start]; exact ho
      clear ho
      generalize part k (relR t) nil = R at ho' HE
      go_wp2
      go_loopw [5] (fun i wr => ∃ e : Nat, e ≤ 32 ∧ i = .int .i64 e ∧ Grow w wr ∧ Tt wr w.heap.size t ∧ At wr (w.heap.size + 1) nil ∧ At wr (w.heap.size + 2) (upd R k (rowT t k e))) (fun i _ => 32 - (intOf i).toNat)
      case atStart => exact ⟨0, by omega, rfl, hg, ht, hz, ho'⟩
      case round =>
        clear hg ht hz ho'
        obtain ⟨e, he, rfl, hg, ht, hz, ho⟩ := hrel
        by_cases hlt2 : e < 32
        · have hc := ho.cell k hlt
          rw [row_upd_same _ _ _ hlt] at hc
          have hc2 := ht.cell k e hlt hlt2
          have hf := ho.frozen k
          have hi1 : (k : Int) < 32 := by omega
          have hi2 : (e : Int) < 32 := by omega
          cases hb : t k e
          · have HS : Hid (rowT t k (e + 1) = rowT t k e) := rowT_no hb
            rw [hb] at hc2
            go_wp2
            go_roundw
            case rel => exact ⟨e + 1, by omega, by go_num, hg, ht, hz, by rw [HS.out]; exact ho⟩
            case measure => simp [intOf]; omega
          · have HS : Hid (rowT t k (e + 1) = rowT t k e ||| one e) := rowT_yes hb
            rw [hb] at hc2
            have hp := pow_one e
            have hor := bits_or (rowT t k e) (one e)
            go_wp2
            go_region
            all_goals go_wp2
            all_goals
              go_roundw
              case rel => exact ⟨e + 1, by omega, by go_num, (bset hg (by omega) _).drew, (ht.set_other (by omega) _ _).drew, (hz.set_other (by omega) _ _).drew, by rw [HS.out]; have := ho.set k (rowT t k e ||| one e); rw [upd_upd] at this; first | exact this.drew | (rw [hp, hor]; exact this.drew)⟩
              case measure => simp [intOf]; omega
        · obtain rfl : e = 32 := by omega
          rw [HE.out] at ho
          go_wp2
          go_roundw
          case rel => exact ⟨k + 1, by omega, by go_num, hg, ht, hz, ho⟩
          case measure => simp [intOf]; omega
    · obtain rfl : k = 32 := by omega
      rw [part_full] at ho
      go_wp2_with (first | (refine ld (w.heap.size + 2) (relR t) (by rfl) ho ?_) | (refine st (w.heap.size + 1) nil (relR t) (by rfl) (by rfl) hz ?_))
      exact bodyPost_ret (v := .agg (cells (relR t))) (res rfl _ _ (w.heap.size + 1) _ (by rfl) hz.put) rfl ⟨rfl, below_setRow hg (by omega) _⟩

end Go.Proofs.Ytlbccddhcbcpoaa
/- Meets and unions, bit by bit. -/
namespace Go.Proofs.Ytlbccddhcbcpoaa.En
set_option linter.unusedSimpArgs false
set_option linter.unusedVariables false
open Go.RowKit

def allB (rs : List Rl) (a b j : Nat) : Bool := (rs.take j).all fun r => inn (row r a) b
theorem allB_zero (rs : List Rl) (a b : Nat) : true = allB rs a b 0 := by simp [allB]
theorem allB_at {rs : List Rl} {a b j : Nat} {r : Rl} (h : rs[j]? = some r) : allB rs a b (j + 1) = (allB rs a b j && inn (row r a) b) := by
  unfold allB; rw [List.take_add_one, h, List.all_append]; simp
theorem inn_all (b : Nat) (hb : b < 32) : inn allS b = true := by
  have hq : ∀ b : Fin 32, inn allS b.val = true := by decide
  exact hq ⟨b, hb⟩
theorem all_met {rs : List Rl} {a b : Nat} (ha : a < 32) (hb : b < 32) : ∀ j, inn (row (met (rs.take j)) a) b = allB rs a b j
  | 0 => by
    rw [met_zero, crs_yes (inn_all a ha) ha, inn_all b hb, ← allB_zero]
  | j + 1 => by
    cases hr : rs[j]? with
    | none =>
      have hl : rs.length ≤ j := by simpa using hr
      have e : rs.take (j + 1) = rs.take j := by rw [List.take_of_length_le hl, List.take_of_length_le (by omega)]
      have ih := all_met (rs := rs) ha hb j
      unfold allB at *
      rw [e]; exact ih
    | some r =>
      rw [met_take hr, row_and2 _ _ _ ha, allB_at hr, ← all_met ha hb j]
      unfold inn; rw [BitVec.getLsbD_and]
def mtI (rs : List Rl) (a b : Nat) : Rl := upd (part a (met rs) nil) a (row (met rs) a &&& fst (b : Int))
theorem fst_low (b k : Nat) (hk : k < 32) : inn (fst (b : Int)) k = decide (k < b) := fst_bit b k hk
theorem mt0 (rs : List Rl) (a : Nat) : mtI rs a 0 = part a (met rs) nil := by
  unfold mtI
  have h : row (met rs) a &&& fst ((0 : Nat) : Int) = row (part a (met rs) nil) a := by
    rw [row_part_ge _ _ _ _ (Nat.le_refl _), row_nil]
    apply ext32; intro k hk
    rw [BitVec.getLsbD_and, fst_bit 0 k hk]; simp
  rw [h, upd_row]
theorem mtY {rs : List Rl} {a b : Nat} (ha : a < 32) (hb : b < 32) (h : inn (row (met rs) a) b = true) : upd (mtI rs a b) a (row (mtI rs a b) a ||| one b) = mtI rs a (b + 1) := by
  unfold mtI
  rw [row_upd_same _ _ _ ha, upd_upd]
  congr 1
  apply ext32; intro k hk
  rw [BitVec.getLsbD_or, BitVec.getLsbD_and, BitVec.getLsbD_and, fst_bit b k hk, fst_bit (b + 1) k hk, one_bit]
  by_cases e : k = b
  · subst e; unfold inn at h; simp [h, hk]
  · have : (k < b + 1) ↔ (k < b) := by omega
    simp [e, this]
theorem mtN {rs : List Rl} {a b : Nat} (h : inn (row (met rs) a) b = false) : mtI rs a (b + 1) = mtI rs a b := by
  unfold mtI
  congr 1
  apply ext32; intro k hk
  rw [BitVec.getLsbD_and, BitVec.getLsbD_and, fst_bit b k hk, fst_bit (b + 1) k hk]
  by_cases e : k = b
  · subst e; unfold inn at h; simp [h]
  · have : (k < b + 1) ↔ (k < b) := by omega
    simp [this]
theorem mtE (rs : List Rl) (a : Nat) : mtI rs a 32 = part (a + 1) (met rs) nil := by
  unfold mtI
  refine part_step _ _ _ _ fun _ => ?_
  apply ext32; intro k hk
  rw [BitVec.getLsbD_and, fst_bit 32 k hk]; simp [hk]
theorem allB_all {rs : List Rl} {a b j : Nat} (hj : rs.length ≤ j) (ha : a < 32) (hb : b < 32) : allB rs a b j = inn (row (met rs) a) b := by
  rw [← all_met ha hb j, List.take_of_length_le hj]
/-! ### Tables -/
def unI (T X : Tb) (a b : Nat) : Tb := fun p q => if p < a ∨ (p = a ∧ q < b) then T p q || X p q else T p q
theorem unS {T X : Tb} {a b : Nat} {v : Bool} (hv : v = (unI T X a b a b || X a b)) : updt (unI T X a b) a b v = unI T X a (b + 1) := by
  subst hv
  funext p q
  unfold updt
  by_cases h : p = a ∧ q = b
  · obtain ⟨rfl, rfl⟩ := h
    simp [unI]
  · rw [if_neg h]
    unfold unI
    have : (p < a ∨ p = a ∧ q < b + 1) ↔ (p < a ∨ p = a ∧ q < b) := by omega
    simp [this]
theorem unR {T X : Tb} {a : Nat} : tcs (unI T X a 32) = tcs (unI T X (a + 1) 0) := tcs_congr fun p q hp hq => by
  unfold unI
  have : (p < a ∨ p = a ∧ q < 32) ↔ (p < a + 1 ∨ p = a + 1 ∧ q < 0) := by omega
  simp [this]
theorem un0 {T X : Tb} : tcs T = tcs (unI T X 0 0) := tcs_congr fun p q hp hq => by unfold unI; simp
theorem unE {rs : List Rl} {j : Nat} {y : Rl} (h : rs[j]? = some y) : tcs (unI (tabR (uni (rs.take j))) (tabR y) 32 0) = tcs (tabR (uni (rs.take (j + 1)))) := tcs_congr fun p q hp hq => by
  rw [uni_take h]
  unfold unI tabR
  have : (p < 32 ∨ p = 32 ∧ q < 0) := by omega
  rw [if_pos this, row_or2 _ _ _ hp]
  unfold inn; rw [BitVec.getLsbD_or]
theorem tab0 (rs : List Rl) : tcs (fun _ _ => false) = tcs (tabR (uni (rs.take 0))) := tcs_congr fun p q hp hq => by
  rw [uni_zero]; unfold tabR; rw [row_nil]; unfold inn; simp
theorem relR_tabR (r : Rl) : relR (tabR r) = r := rl_ext fun a b => by
  rw [has_relR]
  unfold has tabR
  constructor
  · intro h; exact h.2.2
  · intro h
    refine ⟨?_, ?_, h⟩
    · by_cases ha : a < 32
      · exact ha
      · unfold row at h; simp [ha, inn] at h
    · by_cases hb : b < 32
      · exact hb
      · unfold inn at h; rw [BitVec.getLsbD_of_ge _ _ (by omega)] at h; cases h
theorem row60 : rowB Try.prog 60 1024 = true := by kernel_rfl
theorem row60c (t : Tb) : rowB Try.prog 60 (tcs t).size = true := by rw [tcs_size]; exact row60
theorem zero60 : (Try.prog.info? 60).map (fun i => (i.zero, i.size)) = some (some (.agg (tcs fun _ _ => false)), 1024) := by kernel_rfl
theorem tcs_oneL (t : Tb) : (tcs t).toList.all (·.oneCell') = true := by
  have := tcs_one t
  rw [← Array.all_toList] at this; exact this
theorem tcell {t : Tb} {a b : Nat} (ha : a < 32) (hb : b < 32) : (tcs t)[a * 32 + b]? = some (.bool (t a b)) := tcs_at t a b ha hb
end Go.Proofs.Ytlbccddhcbcpoaa.En
/- What the reference's Two returns. -/
namespace Go.Proofs.Ytlbccddhcbcpoaa.En
open Go.RowKit
set_option linter.unusedSimpArgs false
set_option linter.unusedVariables false
theorem mixedY : Try.prog.follows .mixedOrders = true := by kernel_rfl
attribute [local irreducible] cells row U one upd nil evB fst inn part seq2 sqs met uni twoI mtI idr allB aft tcs tabR unI updt relR
set_option maxHeartbeats 4000000 in
set_option maxRecDepth 4000 in
theorem rtwo_any (rx ry : Rl) (w : World) : Calls Try.prog 54 #[.agg (cells rx), .agg (cells ry)] w fun e w' => e = .returned (.agg (cells (seq2 rx ry))) ∧ Grow w w' := by
  have b0 : Below w.heap.size w w := Below.refl _ _
  refine enter (n := 33) Try.func54 rfl rfl (Nat.le_of_ble_eq_true rfl) ?_
  intro a1 hA2
  refine wp_seq ?_
  refine wp_region_lit ?_
  refine q_step hA2 rfl (d_box (wn rfl) (hA2.ev (v := (.agg (cells rx))) rfl) ?_)
  intro g3 w4 eg5 hG6 (m7 : Blk w4 g3 (cells rx) 28)
  have ge8 : w.heap.size ≤ g3 := eg5 ▸ b0.size
  have b9 := below_grow b0 hG6 b0.size
  intro a10 hA11
  refine q_step hA11 rfl (d_box (wn rfl) (hA11.ev (v := (.agg (cells ry))) rfl) ?_)
  intro g12 w13 eg14 hG15 (m16 : Blk w13 g12 (cells ry) 28)
  have ge17 : w.heap.size ≤ g12 := eg14 ▸ b9.size
  have n18 : g3 ≠ g12 := fun h => Nat.lt_irrefl _ ((h.trans eg14) ▸ m7.lt)
  have m19 := m7.grow hG15
  have b20 := below_grow b9 hG15 b9.size
  intro a21 hA22
  refine q_step hA22 rfl (d_alloc (wn rfl) zero28 ?_)
  intro g23 w24 eg25 hG26 (m27 : Blk w24 g23 (cells nil) 28)
  have ge28 : w.heap.size ≤ g23 := eg25 ▸ b20.size
  have n29 : g3 ≠ g23 := fun h => Nat.lt_irrefl _ ((h.trans eg25) ▸ m19.lt)
  have n30 : g12 ≠ g23 := fun h => Nat.lt_irrefl _ ((h.trans eg25) ▸ m16.lt)
  have m31 := m19.grow hG26
  have m32 := m16.grow hG26
  have b33 := below_grow b20 hG26 b20.size
  intro a34 hA35
  refine q_end ?_
  refine t_norm ?_
  refine wp_seq ?_
  refine wp_region_lit ?_
  refine q_step hA35 rfl (d_alloc (wn rfl) zero28 ?_)
  intro g36 w37 eg38 hG39 (m40 : Blk w37 g36 (cells nil) 28)
  have ge41 : w.heap.size ≤ g36 := eg38 ▸ b33.size
  have n42 : g3 ≠ g36 := fun h => Nat.lt_irrefl _ ((h.trans eg38) ▸ m31.lt)
  have n43 : g12 ≠ g36 := fun h => Nat.lt_irrefl _ ((h.trans eg38) ▸ m32.lt)
  have n44 : g23 ≠ g36 := fun h => Nat.lt_irrefl _ ((h.trans eg38) ▸ m27.lt)
  have m45 := m31.grow hG39
  have m46 := m32.grow hG39
  have m47 := m27.grow hG39
  have b48 := below_grow b33 hG39 b33.size
  intro a49 hA50
  refine q_end ?_
  refine t_norm ?_
  refine wp_seq ?_
  refine wp_seq ?_
  refine wp_region_lit ?_
  refine q_step hA50 rfl (d_assign (wn rfl) (hA50.ev (v := (.int .i64 0)) rfl) ?_)
  intro a51 hA52
  refine q_end ?_
  refine t_norm ?_
  refine wp_block ?_
  have m53 : Blk w37 g36 (cells (part 0 (seq2 rx ry) nil)) 28 := by rw [part_zero]; exact m40
  refine loop_by (fun m55 a56 w57 => ∃ a54 : Nat, m55 = 32 - a54 ∧ (a54 ≤ 32) ∧ St 33 [(2, (.pointer (some ⟨g3, 0, none⟩))), (3, (.pointer (some ⟨g12, 0, none⟩))), (4, (.pointer (some ⟨g23, 0, none⟩))), (5, (.pointer (some ⟨g36, 0, none⟩))), (6, (.int .i64 ((a54 : Nat) : Int)))] a56 ∧ Below w.heap.size w w57 ∧ Blk w57 g3 (cells rx) 28 ∧ Blk w57 g12 (cells ry) 28 ∧ Blk w57 g23 (cells nil) 28 ∧ Blk w57 g36 (cells (part a54 (seq2 rx ry) nil)) 28) (32 - 0) ⟨0, rfl, (by omega), hA52.cut _ (fm_cons (hA52.get 2 _ rfl) (fm_cons (hA52.get 3 _ rfl) (fm_cons (hA52.get 4 _ rfl) (fm_cons (hA52.get 5 _ rfl) (fm_cons ((hA52.get 6 _ rfl).trans (congrArg (Value.int .i64) (by omega))) fm_nil))))), b48, m45, m46, m47, m53⟩ ?_
  rintro m55 a56 w57 ⟨a54, hm60, hc61, hA58, b59, m62, m63, m64, m65⟩
  refine wp_seq ?_
  refine wp_seq ?_
  refine wp_region_lit ?_
  refine q_step hA58 rfl (d_move (wn rfl) (hA58.ev (v := (.int .i64 ((a54 : Nat) : Int))) rfl) ?_)
  intro a66 hA67
  rcases Bool.eq_false_or_eq_true (decide (((a54 : Nat) : Int) < 32)) with hb68 | hb68
  · skip
    have hq69 := of_decide_eq_true hb68
    refine q_step hA67 rfl (d_bin (wn rfl) (hA67.ev (v := (.int .i64 ((a54 : Nat) : Int))) rfl) (hA67.ev (v := (.int .i64 32)) rfl) (b_lt _ _ ((a54 : Nat) : Int) 32 true _ hb68) ?_)
    intro a70 hA71
    refine q_end ?_
    refine t_norm ?_
    refine c_true hA71 rfl ?_
    refine wp_skip ?_
    refine t_norm ?_
    refine wp_seq ?_
    refine wp_block ?_
    refine wp_seq ?_
    refine wp_region_lit ?_
    refine q_step hA71 rfl (d_assign (wn rfl) (hA71.ev (v := (.int .i64 0)) rfl) ?_)
    intro a72 hA73
    refine q_end ?_
    refine t_norm ?_
    refine wp_block ?_
    have m74 : Blk w57 g36 (cells (twoI rx ry a54 0)) 28 := by rw [two0]; exact m65
    refine loop_by (fun m76 a77 w78 => ∃ b75 : Nat, m76 = 32 - b75 ∧ (b75 ≤ 32) ∧ St 33 [(2, (.pointer (some ⟨g3, 0, none⟩))), (3, (.pointer (some ⟨g12, 0, none⟩))), (4, (.pointer (some ⟨g23, 0, none⟩))), (5, (.pointer (some ⟨g36, 0, none⟩))), (6, (.int .i64 ((a54 : Nat) : Int))), (7, (.int .i64 ((b75 : Nat) : Int)))] a77 ∧ Below w.heap.size w w78 ∧ Blk w78 g3 (cells rx) 28 ∧ Blk w78 g12 (cells ry) 28 ∧ Blk w78 g23 (cells nil) 28 ∧ Blk w78 g36 (cells (twoI rx ry a54 b75)) 28) (32 - 0) ⟨0, rfl, (by omega), hA73.cut _ (fm_cons (hA73.get 2 _ rfl) (fm_cons (hA73.get 3 _ rfl) (fm_cons (hA73.get 4 _ rfl) (fm_cons (hA73.get 5 _ rfl) (fm_cons (hA73.get 6 _ rfl) (fm_cons ((hA73.get 7 _ rfl).trans (congrArg (Value.int .i64) (by omega))) fm_nil)))))), b59, m62, m63, m64, m74⟩ ?_
    rintro m76 a77 w78 ⟨b75, hm81, hc82, hA79, b80, m83, m84, m85, m86⟩
    refine wp_seq ?_
    refine wp_seq ?_
    refine wp_region_lit ?_
    refine q_step hA79 rfl (d_move (wn rfl) (hA79.ev (v := (.int .i64 ((b75 : Nat) : Int))) rfl) ?_)
    intro a87 hA88
    rcases Bool.eq_false_or_eq_true (decide (((b75 : Nat) : Int) < 32)) with hb89 | hb89
    · skip
      have hq90 := of_decide_eq_true hb89
      refine q_step hA88 rfl (d_bin (wn rfl) (hA88.ev (v := (.int .i64 ((b75 : Nat) : Int))) rfl) (hA88.ev (v := (.int .i64 32)) rfl) (b_lt _ _ ((b75 : Nat) : Int) 32 true _ hb89) ?_)
      intro a91 hA92
      refine q_end ?_
      refine t_norm ?_
      refine c_true hA92 rfl ?_
      refine wp_skip ?_
      refine t_norm ?_
      refine wp_seq ?_
      refine wp_block ?_
      refine wp_seq ?_
      refine wp_region_lit ?_
      refine q_step hA92 rfl (d_move (wn rfl) (hA92.ev (v := (.int .i64 ((a54 : Nat) : Int))) rfl) ?_)
      intro a93 hA94
      refine q_step hA94 rfl (d_indexArrP (j := a54) (p := a54) (wn rfl) (hA94.ev (v := (.pointer (some ⟨g3, 0, none⟩))) rfl) (hA94.ev (v := (.int .i64 ((a54 : Nat) : Int))) rfl) arr28 (by omega) (by omega) ?_)
      intro a95 hA96
      refine q_step hA96 rfl (d_load (v := (.int .u32 (U (row rx a54)))) (wn rfl) (hA96.ev (v := (.pointer (some ⟨g3, a54, none⟩))) rfl) one25 (m83.cell (cell32 (by omega))) ?_)
      intro a97 hA98
      refine q_step hA98 rfl (d_move (wn rfl) (hA98.ev (v := (.int .i64 ((b75 : Nat) : Int))) rfl) ?_)
      intro a99 hA100
      refine q_step hA100 rfl (d_bin (wn rfl) (hA100.ev (v := (.int .u32 (U (row rx a54)))) rfl) (hA100.ev (v := (.int .i64 ((b75 : Nat) : Int))) rfl) (b_shr _ _ (row rx a54) b75 _ (by omega)) ?_)
      intro a101 hA102
      refine q_step hA102 rfl (d_bin (wn rfl) (hA102.ev (v := (.int .u32 (U ((row rx a54) >>> b75)))) rfl) (hA102.ev (v := (.int .u32 1)) rfl) (b_and1 _ _ ((row rx a54) >>> b75) _) ?_)
      intro a103 hA104
      rcases Bool.eq_false_or_eq_true (inn (row rx a54) b75) with hb105 | hb105
      · skip
        refine q_step hA104 rfl (d_bin (wn rfl) (hA104.ev (v := (.int .u32 (U (((row rx a54) >>> b75) &&& 1#32)))) rfl) (hA104.ev (v := (.int .u32 1)) rfl) (b_eq _ _ (U (((row rx a54) >>> b75) &&& 1#32)) 1 true _ ((in_bit (row rx a54) b75).trans hb105)) ?_)
        intro a107 hA108
        refine q_end ?_
        refine t_norm ?_
        refine c_true hA108 rfl ?_
        have bD109 := below_grow b80 ((Grow.refl w78).drew) b80.size
        have hA110 : St 33 [(2, (.pointer (some ⟨g3, 0, none⟩))), (3, (.pointer (some ⟨g12, 0, none⟩))), (4, (.pointer (some ⟨g23, 0, none⟩))), (5, (.pointer (some ⟨g36, 0, none⟩))), (6, (.int .i64 ((a54 : Nat) : Int))), (7, (.int .i64 ((b75 : Nat) : Int)))] a107 := hA108.cut _ (fm_cons (hA108.get 2 _ rfl) (fm_cons (hA108.get 3 _ rfl) (fm_cons (hA108.get 4 _ rfl) (fm_cons (hA108.get 5 _ rfl) (fm_cons (hA108.get 6 _ rfl) (fm_cons (hA108.get 7 _ rfl) fm_nil))))))
        let M111 : Nat → Option (Array Value) := fun _ => none
        have hM111 : M111 = fun _ => none := rfl
        clear_value M111
        have hM111A : ∀ k, M111 k = none := fun k => congrFun hM111 k
        have hM111B : ∀ k, k < w.heap.size → M111 k = none := fun k _ => hM111A k
        refine drawnL (S := SM M111) rfl (tabL [cv (.int .i64 ((a54 : Nat) : Int)), cv (.int .i64 ((a54 : Nat) : Int)), cv (.pointer (some ⟨g36, a54, none⟩)), cv (.int .u32 (U (row (twoI rx ry a54 b75) a54))), cv (.int .i64 ((b75 : Nat) : Int)), cv (.pointer (some ⟨g12, b75, none⟩)), cv (.int .u32 (U (row ry b75))), cv (.int .u32 (U ((row (twoI rx ry a54 b75) a54) ||| (row ry b75)))), cv (.pointer (some ⟨g36, a54, none⟩))]) none (fun _ => none) (fun _ _ => True) [8, 7, 0, 1, 2, 3, 4, 5, 6] [] mixedY SM.refl SM.trans hA110 (by kernel_rfl) (by kernel_rfl) (fun i v u w h => by cases h) ?_ ?_
        · skip
          refine eachD_cons (.inl ⟨nofun, rfl, fun x y hS hT hk => d_move (wn rfl) (hT.ev (v := (.int .i64 ((a54 : Nat) : Int))) rfl) ⟨SM.refl _, rfl⟩⟩) ?_
          refine eachD_cons (.inl ⟨nofun, rfl, fun x y hS hT hk => d_move (wn rfl) (hT.ev (v := (.int .i64 ((a54 : Nat) : Int))) rfl) ⟨SM.refl _, rfl⟩⟩) ?_
          refine eachD_cons (.inl ⟨nofun, rfl, fun x y hS hT hk => d_indexArrP (j := a54) (p := a54) (wn rfl) (hT.ev (v := (.pointer (some ⟨g36, 0, none⟩))) rfl) (hk 1 rfl) arr28 (by omega) (by omega) ⟨SM.refl _, rfl⟩⟩) ?_
          refine eachD_cons (.inl ⟨nofun, rfl, fun x y hS hT hk => d_load (v := (.int .u32 (U (row (twoI rx ry a54 b75) a54)))) (wn rfl) (hk 2 rfl) one25 ((Blk.sm (w := w78.drew) m86 hS (hM111A _)).cell (cell32 (by omega))) ⟨SM.refl _, rfl⟩⟩) ?_
          refine eachD_cons (.inl ⟨nofun, rfl, fun x y hS hT hk => d_move (wn rfl) (hT.ev (v := (.int .i64 ((b75 : Nat) : Int))) rfl) ⟨SM.refl _, rfl⟩⟩) ?_
          refine eachD_cons (.inl ⟨nofun, rfl, fun x y hS hT hk => d_indexArrP (j := b75) (p := b75) (wn rfl) (hT.ev (v := (.pointer (some ⟨g12, 0, none⟩))) rfl) (hk 4 rfl) arr28 (by omega) (by omega) ⟨SM.refl _, rfl⟩⟩) ?_
          refine eachD_cons (.inl ⟨nofun, rfl, fun x y hS hT hk => d_load (v := (.int .u32 (U (row ry b75)))) (wn rfl) (hk 5 rfl) one25 ((Blk.sm (w := w78.drew) m84 hS (hM111A _)).cell (cell32 (by omega))) ⟨SM.refl _, rfl⟩⟩) ?_
          refine eachD_cons (.inl ⟨nofun, rfl, fun x y hS hT hk => d_bin (wn rfl) (hk 3 rfl) (hk 6 rfl) (b_or32 _ _ (row (twoI rx ry a54 b75) a54) (row ry b75) _) ⟨SM.refl _, rfl⟩⟩) ?_
          refine eachD_cons (.inl ⟨nofun, rfl, fun x y hS hT hk => d_indexArrP (j := a54) (p := a54) (wn rfl) (hT.ev (v := (.pointer (some ⟨g36, 0, none⟩))) rfl) (hk 0 rfl) arr28 (by omega) (by omega) ⟨SM.refl _, rfl⟩⟩) ?_
          exact eachD_one
        rintro a112 w113 hA114 ⟨hS116, hC117⟩
        have hA118 : St 33 [(2, (.pointer (some ⟨g3, 0, none⟩))), (3, (.pointer (some ⟨g12, 0, none⟩))), (4, (.pointer (some ⟨g23, 0, none⟩))), (5, (.pointer (some ⟨g36, 0, none⟩))), (6, (.int .i64 ((a54 : Nat) : Int))), (7, (.int .i64 ((b75 : Nat) : Int))), (30, (.int .u32 (U ((row (twoI rx ry a54 b75) a54) ||| (row ry b75))))), (31, (.pointer (some ⟨g36, a54, none⟩)))] a112 := hA114.cut _ (fm_cons (hA114.get 2 _ rfl) (fm_cons (hA114.get 3 _ rfl) (fm_cons (hA114.get 4 _ rfl) (fm_cons (hA114.get 5 _ rfl) (fm_cons (hA114.get 6 _ rfl) (fm_cons (hA114.get 7 _ rfl) (fm_cons (hC117 7 (Nat.le_of_ble_eq_true rfl)) (fm_cons (hC117 8 (Nat.le_of_ble_eq_true rfl)) fm_nil))))))))
        have hG119 : Grow w78 w113 := Grow.trans ((Grow.refl _).drew) (SM.grown (by rw [hM111] at hS116; exact hS116))
        have m120 := m83.grow hG119
        have m121 := m84.grow hG119
        have m122 := m85.grow hG119
        have m123 := m86.grow hG119
        have b124 := below_grow b80 hG119 b80.size
        refine d_store (v := (.int .u32 (U ((row (twoI rx ry a54 b75) a54) ||| (row ry b75))))) (wn rfl) (hA118.ev (v := (.pointer (some ⟨g36, a54, none⟩))) rfl) (hA118.ev (v := (.int .u32 (U ((row (twoI rx ry a54 b75) a54) ||| (row ry b75))))) rfl) one25 rfl m123 (by rw [cells_size]; omega) ?_
        intro w125 hU126 m127
        rw [cells_set] at m127
        have m128 := m120.upd hU126 n42
        have m129 := m121.upd hU126 n43
        have m130 := m122.upd hU126 n44
        have b131 := hU126.below b124 ge41
        refine i_norm ?_
        refine t_norm ?_
        refine wp_region_lit ?_
        refine q_step hA118 rfl (d_move (wn rfl) (hA118.ev (v := (.int .i64 ((b75 : Nat) : Int))) rfl) ?_)
        intro a132 hA133
        refine q_step hA133 rfl (d_bin (wn rfl) (hA133.ev (v := (.int .i64 ((b75 : Nat) : Int))) rfl) (hA133.ev (v := (.int .i64 1)) rfl) (b_add _ _ ((b75 : Nat) : Int) 1 _ (by omega) (by omega)) ?_)
        intro a134 hA135
        refine q_step hA135 rfl (d_assign (wn rfl) (hA135.ev (v := (.int .i64 (((b75 : Nat) : Int) + 1))) rfl) ?_)
        intro a136 hA137
        refine q_end ?_
        refine t_norm ?_
        have m138 : Blk w125 g36 (cells (twoI rx ry a54 (b75 + 1))) 28 := by rw [← twoY (by omega) hb105]; exact m127
        exact ⟨32 - (b75 + 1), (by rw [hm81]; omega), b75 + 1, rfl, (by omega), hA137.cut _ (fm_cons (hA137.get 2 _ rfl) (fm_cons (hA137.get 3 _ rfl) (fm_cons (hA137.get 4 _ rfl) (fm_cons (hA137.get 5 _ rfl) (fm_cons (hA137.get 6 _ rfl) (fm_cons ((hA137.get 7 _ rfl).trans (congrArg (Value.int .i64) (by omega))) fm_nil)))))), b131, m128, m129, m130, m138⟩
      · skip
        refine q_step hA104 rfl (d_bin (wn rfl) (hA104.ev (v := (.int .u32 (U (((row rx a54) >>> b75) &&& 1#32)))) rfl) (hA104.ev (v := (.int .u32 1)) rfl) (b_eq _ _ (U (((row rx a54) >>> b75) &&& 1#32)) 1 false _ ((in_bit (row rx a54) b75).trans hb105)) ?_)
        intro a140 hA141
        refine q_end ?_
        refine t_norm ?_
        refine c_false hA141 rfl ?_
        refine wp_skip ?_
        refine i_norm ?_
        refine t_norm ?_
        refine wp_region_lit ?_
        refine q_step hA141 rfl (d_move (wn rfl) (hA141.ev (v := (.int .i64 ((b75 : Nat) : Int))) rfl) ?_)
        intro a142 hA143
        refine q_step hA143 rfl (d_bin (wn rfl) (hA143.ev (v := (.int .i64 ((b75 : Nat) : Int))) rfl) (hA143.ev (v := (.int .i64 1)) rfl) (b_add _ _ ((b75 : Nat) : Int) 1 _ (by omega) (by omega)) ?_)
        intro a144 hA145
        refine q_step hA145 rfl (d_assign (wn rfl) (hA145.ev (v := (.int .i64 (((b75 : Nat) : Int) + 1))) rfl) ?_)
        intro a146 hA147
        refine q_end ?_
        refine t_norm ?_
        have m148 : Blk w78 g36 (cells (twoI rx ry a54 (b75 + 1))) 28 := by rw [twoN hb105]; exact m86
        exact ⟨32 - (b75 + 1), (by rw [hm81]; omega), b75 + 1, rfl, (by omega), hA147.cut _ (fm_cons (hA147.get 2 _ rfl) (fm_cons (hA147.get 3 _ rfl) (fm_cons (hA147.get 4 _ rfl) (fm_cons (hA147.get 5 _ rfl) (fm_cons (hA147.get 6 _ rfl) (fm_cons ((hA147.get 7 _ rfl).trans (congrArg (Value.int .i64) (by omega))) fm_nil)))))), b80, m83, m84, m85, m148⟩
    · skip
      have hq149 := of_decide_eq_false hb89
      refine q_step hA88 rfl (d_bin (wn rfl) (hA88.ev (v := (.int .i64 ((b75 : Nat) : Int))) rfl) (hA88.ev (v := (.int .i64 32)) rfl) (b_lt _ _ ((b75 : Nat) : Int) 32 false _ hb89) ?_)
      intro a150 hA151
      refine q_end ?_
      refine t_norm ?_
      refine c_false hA151 rfl ?_
      refine wp_exit ?_
      refine t_exit ?_
      refine t_exit ?_
      refine i_here ?_
      refine i_norm ?_
      refine t_norm ?_
      refine wp_region_lit ?_
      refine q_step hA151 rfl (d_move (wn rfl) (hA151.ev (v := (.int .i64 ((a54 : Nat) : Int))) rfl) ?_)
      intro a152 hA153
      refine q_step hA153 rfl (d_bin (wn rfl) (hA153.ev (v := (.int .i64 ((a54 : Nat) : Int))) rfl) (hA153.ev (v := (.int .i64 1)) rfl) (b_add _ _ ((a54 : Nat) : Int) 1 _ (by omega) (by omega)) ?_)
      intro a154 hA155
      refine q_step hA155 rfl (d_assign (wn rfl) (hA155.ev (v := (.int .i64 (((a54 : Nat) : Int) + 1))) rfl) ?_)
      intro a156 hA157
      refine q_end ?_
      refine t_norm ?_
      have m158 : Blk w78 g36 (cells (part (a54 + 1) (seq2 rx ry) nil)) 28 := by rw [← twoE, ← show b75 = 32 by omega]; exact m86
      exact ⟨32 - (a54 + 1), (by rw [hm60]; omega), a54 + 1, rfl, (by omega), hA157.cut _ (fm_cons (hA157.get 2 _ rfl) (fm_cons (hA157.get 3 _ rfl) (fm_cons (hA157.get 4 _ rfl) (fm_cons (hA157.get 5 _ rfl) (fm_cons ((hA157.get 6 _ rfl).trans (congrArg (Value.int .i64) (by omega))) fm_nil))))), b80, m83, m84, m85, m158⟩
  · skip
    have hq159 := of_decide_eq_false hb68
    refine q_step hA67 rfl (d_bin (wn rfl) (hA67.ev (v := (.int .i64 ((a54 : Nat) : Int))) rfl) (hA67.ev (v := (.int .i64 32)) rfl) (b_lt _ _ ((a54 : Nat) : Int) 32 false _ hb68) ?_)
    intro a160 hA161
    refine q_end ?_
    refine t_norm ?_
    refine c_false hA161 rfl ?_
    refine wp_exit ?_
    refine t_exit ?_
    refine t_exit ?_
    refine i_here ?_
    refine t_norm ?_
    refine wp_seq ?_
    refine wp_region_lit ?_
    refine q_step hA161 rfl (d_loadRow (cs := (cells (part a54 (seq2 rx ry) nil))) (wn rfl) (hA161.ev (v := (.pointer (some ⟨g36, 0, none⟩))) rfl) (row28c _) m65 ?_)
    intro a162 hA163
    refine q_step hA163 rfl (d_storeRow (wn rfl) (hA163.ev (v := (.pointer (some ⟨g23, 0, none⟩))) rfl) (hA163.ev (v := (.agg (cells (part a54 (seq2 rx ry) nil)))) rfl) (row28c _) m64 (by rw [cells_size, cells_size]) (cells_oneL _) ?_)
    intro w164 hU165 (m166 : Blk w164 g23 (cells (part a54 (seq2 rx ry) nil)) 28)
    have m167 := m62.upd hU165 n29
    have m168 := m63.upd hU165 n30
    have m169 := m65.upd hU165 (Ne.symm n44)
    have b170 := hU165.below b59 ge28
    intro a171 hA172
    refine q_end ?_
    refine t_norm ?_
    refine wp_ret ?_
    refine retRow (g := g23) (cs := (cells (part a54 (seq2 rx ry) nil))) rfl hA172 rfl m166 (row28c _) ?_
    exact ⟨by rw [show a54 = 32 by omega, part_full], b170⟩
end Go.Proofs.Ytlbccddhcbcpoaa.En
