/- The kinds of operations that a drawn region of the statements holds, each with what it owes. -/
import Derived.Test.YtlbccddhcbcpoaaTold
import Derived.Great.BuildSlice
namespace Go.Proofs.Ytlbccddhcbcpoaa
open Go.RowKit

/-! ### A slice literal of relations -/
def lay (off : Nat) (l : List (Value × Nat)) (Z : Array Value) : Array Value := l.foldl (fun cs x => cs.setIfInBounds (off + x.2) x.1) Z
theorem lay_size (off : Nat) : ∀ (l : List (Value × Nat)) (Z : Array Value), (lay off l Z).size = Z.size
  | [], _ => rfl
  | x :: l, Z => by show (lay off l (Z.setIfInBounds (off + x.2) x.1)).size = _; rw [lay_size off l]; simp
theorem lay_out (off k : Nat) : ∀ (c : List Value) (s : Nat) (Z : Array Value), (k < off + s ∨ off + s + c.length ≤ k) → (lay off (c.zipIdx s) Z)[k]? = Z[k]?
  | [], _, _, _ => rfl
  | v :: c, s, Z, h => by
    show (lay off (c.zipIdx (s + 1)) (Z.setIfInBounds (off + s) v))[k]? = _
    simp only [List.length_cons] at h
    rw [lay_out off k c (s + 1) _ (by omega), Array.getElem?_setIfInBounds_ne (by omega)]
theorem lay_in (off : Nat) : ∀ (c : List Value) (s j : Nat) (Z : Array Value), j < c.length → off + s + c.length ≤ Z.size → (lay off (c.zipIdx s) Z)[off + s + j]? = c[j]?
  | v :: c, s, 0, Z, _, hz => by
    show (lay off (c.zipIdx (s + 1)) (Z.setIfInBounds (off + s) v))[off + s + 0]? = _
    simp only [List.length_cons] at hz
    rw [lay_out off _ c (s + 1) _ (by omega)]
    have hlt : off + s < Z.size := by omega
    simp [hlt]
  | v :: c, s, j + 1, Z, h, hz => by
    show (lay off (c.zipIdx (s + 1)) (Z.setIfInBounds (off + s) v))[off + s + (j + 1)]? = _
    simp only [List.length_cons] at h hz
    have := lay_in off c (s + 1) j (Z.setIfInBounds (off + s) v) (by omega) (by simp; omega)
    rw [show off + s + (j + 1) = off + (s + 1) + j by omega, this]; simp
theorem fill_rels : ∀ (ps : List (Nat × Rl)) (Z : Array Value), (∀ p ∈ ps, p.1 * 32 + 32 ≤ Z.size) → (ps.map Prod.fst).Nodup →
    ∃ A, Instr.fill (fun i => some (i * 32, 32)) Z (ps.map fun p => (p.1, Value.agg (cells p.2))) = some A ∧ A.size = Z.size ∧
      (∀ k, (∀ p ∈ ps, k < p.1 * 32 ∨ p.1 * 32 + 32 ≤ k) → A[k]? = Z[k]?) ∧ ∀ p ∈ ps, ∀ k, k < 32 → A[p.1 * 32 + k]? = (cells p.2)[k]?
  | [], Z, _, _ => ⟨Z, rfl, rfl, fun _ _ => rfl, fun p hp => by cases hp⟩
  | (i, r) :: ps, Z, h, hn => by
    have h0 := h (i, r) (by simp)
    simp only [List.map_cons, List.nodup_cons] at hn
    have hl : (cells r).toList.length = 32 := by rw [Array.length_toList, cells_size]
    obtain ⟨A, h1, h2, h3, h4⟩ := fill_rels ps (lay (i * 32) ((cells r).toList.zipIdx 0) Z) (fun p hp => by rw [lay_size]; exact h p (by simp [hp])) hn.2
    have hne : ∀ p ∈ ps, p.1 ≠ i := fun p hp e => hn.1 (by rw [← e]; exact List.mem_map.2 ⟨p, hp, rfl⟩)
    refine ⟨A, ?_, by rw [h2, lay_size], fun k hk => ?_, fun p hp k hk => ?_⟩
    · simp only [List.map_cons, Instr.fill]
      have hc : (Value.agg (cells r)).cells = cells r := rfl
      rw [hc, cells_size]
      have : ¬ (i * 32 + 32 > Z.size) := by omega
      simp only [this]
      have hf : (cells r).zipIdx.foldl (fun cs (x : Value × Nat) => cs.setIfInBounds (i * 32 + x.2) x.1) Z = lay (i * 32) ((cells r).toList.zipIdx 0) Z := by
        unfold lay; rw [← Array.foldl_toList, Array.toList_zipIdx]
      simp only [ne_eq, not_true_eq_false, decide_false, Bool.or_self, Bool.false_eq_true, if_false]
      exact hf ▸ h1
    · rw [h3 k (fun p hp => hk p (by simp [hp]))]
      have := hk (i, r) (by simp)
      exact lay_out _ k _ 0 Z (by rw [hl]; simpa using this)
    · rcases List.mem_cons.1 hp with rfl | hp
      · rw [h3 _ (fun p hp => by have := hne p hp; omega)]
        have := lay_in (i * 32) (cells r).toList 0 k Z (by rw [hl]; exact hk) (by rw [hl]; simpa using h0)
        simpa using this
      · exact h4 p hp k hk
theorem info_rel2 : (Try.prog.info? 28).map (fun i => (i.zero.isSome, i.size)) = some (true, 32) := by kernel_rfl
theorem und_rels : Try.prog.underlying 38 = some (.slice 28) := Try.underlying38
/-- the parts of a literal, numbered -/
def numd (rs : List Rl) : List (Nat × Rl) := (rs.zipIdx 0).map fun x => (x.2, x.1)
theorem run_rels (rs : List Rl) (hn : 0 < rs.length) (hm : rs.length ≤ 100) (w : World) : ∃ A, (Instr.buildSlice 38 rs.length ((numd rs).map fun p => (p.1, Value.agg (cells p.2))).toArray).run Try.prog w =
    .ok (.slice (some ⟨w.heap.size, 0, none⟩) rs.length rs.length) (w.alloc (.cells A 28)) ∧ ∀ j r, rs[j]? = some r → ∀ k, k < 32 → A[j * 32 + k]? = (cells r)[k]? := by
  have hi := info_rel2
  cases hq : Try.prog.info? 28 with
  | none => simp [hq] at hi
  | some i =>
    simp [hq] at hi
    obtain ⟨hz, hs⟩ := hi
    cases hz' : i.zero with
    | none => simp [hz'] at hz
    | some z =>
      have hmem : ∀ p ∈ numd rs, p.1 < rs.length ∧ rs[p.1]? = some p.2 := fun p hp => by
        unfold numd at hp
        obtain ⟨x, hx, rfl⟩ := List.mem_map.1 hp
        have := List.mk_mem_zipIdx_iff_getElem? (l := rs) (i := x.2) (x := x.1)
        have h2 := this.1 hx
        exact ⟨(List.getElem?_eq_some_iff.1 h2).1, h2⟩
      have hfst : (numd rs).map Prod.fst = List.range' 0 rs.length := by
        unfold numd; rw [List.map_map]
        show (rs.zipIdx 0).map (fun x => x.2) = _
        simp
      obtain ⟨A, h1, _, _, h4⟩ := fill_rels (numd rs) ((Array.range (rs.length * 32)).map (z.cells[· % z.cells.size]!)) (fun p hp => by have := (hmem p hp).1; simp; omega) (by rw [hfst]; exact List.nodup_range')
      refine ⟨A, ?_, fun j r hj k hk => ?_⟩
      · refine run_buildSlice w 38 28 rs.length _ A i z und_rels hq hz' (by rw [hs]; omega) (by rw [hs]; omega) ?_
        rw [hs]; simpa using h1
      · have hp : (j, r) ∈ numd rs := by
          unfold numd
          exact List.mem_map.2 ⟨(r, j), List.mk_mem_zipIdx_iff_getElem?.2 hj, rfl⟩
        exact h4 (j, r) hp k hk
theorem sn_new {w : World} {A : Array Value} {rs : List Rl} (h : ∀ j r, rs[j]? = some r → ∀ k, k < 32 → A[j * 32 + k]? = (cells r)[k]?) : Sn (w.alloc (.cells A 28)) (.slice (some ⟨w.heap.size, 0, none⟩) rs.length rs.length) rs := by
  refine ⟨w.heap.size, 0, rs.length, rfl, by simp, fun j r hj k v hv => ?_⟩
  have hk : k < 32 := by
    have := (List.getElem?_eq_some_iff.1 hv).1
    rw [Array.length_toList, cells_size] at this; exact this
  rw [cell_of_row _ _ _ A 28 (0, 0) (heap_alloc_last w _), Nat.zero_add, h j r hj k hk]
  simpa using hv

/-! ### What an operation owes -/
section
variable {ops : Array Oper} {Q : Exit → Act → World → Prop} {w : World} {tab : Nat → Cl}
/-- the operation's guard is met -/
def Gd (ops : Array Oper) (tab : Nat → Cl) (o : Oper) : Prop :=
  match o.guard with
  | none => True
  | some (j, b) => ∃ t, dstOf ops j = some t ∧ knownB ops o t = true ∧ tab t = .val (.bool b)
theorem wanted_of {o : Oper} (h : Gd ops tab o) {a : Act} {w : World} (hk : ∀ t, knownB ops o t = true → (tab t).ok (a.tmps.getD t undef) w) : Region.wanted o (yielded ops a.tmps) = true := by
  unfold Gd at h
  unfold Region.wanted
  cases hg : o.guard with
  | none => rfl
  | some p =>
    obtain ⟨j, b⟩ := p
    simp only [hg] at h
    obtain ⟨t, ht, hkn, htab⟩ := h
    have := hk t hkn
    rw [htab] at this
    have hv : a.tmps.getD t undef = .bool b := this
    simp only
    unfold yielded
    have ht' : (ops[j]?).bind (·.dst) = some t := ht
    rw [ht']
    have h2 : a.tmps[t]? = some (.bool b) := by
      rw [Array.getD_eq_getD_getElem?] at hv
      cases h3 : a.tmps[t]? with
      | none => rw [h3] at hv; cases hv
      | some x => rw [h3] at hv; rw [← hv]; rfl
    simp [h2]
/-- the operation's guard is not met -/
theorem k_skip {o : Oper} {j : Nat} {b : Bool} (t : Nat) (c : Cl) (hg : o.guard = some (j, b)) (ht : dstOf ops j = some t) (hk : knownB ops o t = true) (hc : tab t = c) (hn : c = .val (.bool !b) ∨ c = .val undef) (hd : ∀ d, o.dst = some d → tab d = .val undef) : Skp ops w tab o := fun a' w' _ hkn => by
  refine ⟨?_, fun d h => by rw [hd d h]; rfl⟩
  have h1 := hkn t hk
  rw [hc] at h1
  unfold Region.wanted
  rw [hg]
  simp only
  have ht' : (ops[j]?).bind (·.dst) = some t := ht
  have hy : yielded ops a'.tmps j ≠ some b := by
    unfold yielded
    rw [ht']
    simp only [Option.bind_some]
    intro h
    have h2 : a'.tmps.getD t undef = .bool b := by
      rw [Array.getD_eq_getD_getElem?]
      cases h3 : a'.tmps[t]? with
      | none => rw [h3] at h; simp at h
      | some x =>
        rw [h3] at h
        cases x <;> simp at h
        rw [h]; rfl
    rcases hn with rfl | rfl
    · have h3 : a'.tmps.getD t undef = .bool !b := h1
      rw [h2] at h3
      cases b <;> simp at h3
    · have h3 : a'.tmps.getD t undef = undef := h1
      rw [h2] at h3; cases h3
  simpa using hy
variable {d p q : Tmp} {ty : TypeId} {pos : String} {af : Array Edge} {gd : Option (Nat × Bool)}

theorem k_ld (r : Rl) (hk : knownB ops { dst := some d, op := .load 28 (.tmp p), type := ty, pos := pos, after := af, guard := gd } p = true) (hp : tab p = .ptr r) (hd : tab d = .val (.agg (cells r)))
    (hg : Gd ops tab { dst := some d, op := .load 28 (.tmp p), type := ty, pos := pos, after := af, guard := gd }) :
    Obl ops Q w tab { dst := some d, op := .load 28 (.tmp p), type := ty, pos := pos, after := af, guard := gd } := fun a' w' _ hc => by
  refine ⟨wanted_of hg hc, ?_⟩
  have := hc p hk
  rw [hp] at this
  obtain ⟨g, hv, ha⟩ := this
  exact ld_wp g r hv ha ⟨_, rfl, Grow.refl _, fun _ h => by cases h; rw [hd]; rfl⟩
theorem k_mv (hk : knownB ops { dst := some d, op := .move (.tmp p), type := ty, pos := pos, after := af, guard := gd } p = true) (hd : tab d = tab p)
    (hg : Gd ops tab { dst := some d, op := .move (.tmp p), type := ty, pos := pos, after := af, guard := gd }) :
    Obl ops Q w tab { dst := some d, op := .move (.tmp p), type := ty, pos := pos, after := af, guard := gd } := fun a' w' _ hc => by
  refine ⟨wanted_of hg hc, ?_⟩
  have := hc p hk
  unfold Oper.wp execOp
  simp only [Sem.run_pure, Oper.upon_value]
  exact ⟨_, rfl, Grow.refl _, fun _ h => by cases h; rw [hd]; exact this⟩
theorem k_as (hk : knownB ops { dst := some d, op := .assign (.tmp p), type := ty, pos := pos, after := af, guard := gd } p = true) (hd : tab d = tab p)
    (hg : Gd ops tab { dst := some d, op := .assign (.tmp p), type := ty, pos := pos, after := af, guard := gd }) :
    Obl ops Q w tab { dst := some d, op := .assign (.tmp p), type := ty, pos := pos, after := af, guard := gd } := fun a' w' _ hc => by
  refine ⟨wanted_of hg hc, ?_⟩
  have := hc p hk
  unfold Oper.wp execOp
  simp only [Sem.run_pure, Oper.upon_value]
  exact ⟨_, rfl, Grow.refl _, fun _ h => by cases h; rw [hd]; exact this⟩
theorem k_pt {y : Operand} (hk : knownB ops { dst := some d, op := .pick (.tmp p) (.tmp q) y, type := ty, pos := pos, after := af, guard := gd } p = true) (hk2 : knownB ops { dst := some d, op := .pick (.tmp p) (.tmp q) y, type := ty, pos := pos, after := af, guard := gd } q = true)
    (hp : tab p = .val (.bool true)) (hd : tab d = tab q) (hg : Gd ops tab { dst := some d, op := .pick (.tmp p) (.tmp q) y, type := ty, pos := pos, after := af, guard := gd }) :
    Obl ops Q w tab { dst := some d, op := .pick (.tmp p) (.tmp q) y, type := ty, pos := pos, after := af, guard := gd } := fun a' w' _ hc => by
  refine ⟨wanted_of hg hc, ?_⟩
  have h1 := hc p hk
  rw [hp] at h1
  have h1' : a'.eval (.tmp p) = .bool true := h1
  have h2 := hc q hk2
  unfold Oper.wp execOp
  simp only [h1', asBool, Sem.run_bind, Sem.run_pure, Result.andThen_ok, if_true, Oper.upon_value]
  exact ⟨_, rfl, Grow.refl _, fun _ h => by cases h; rw [hd]; exact h2⟩
theorem k_pf {x : Operand} (hk : knownB ops { dst := some d, op := .pick (.tmp p) x (.tmp q), type := ty, pos := pos, after := af, guard := gd } p = true) (hk2 : knownB ops { dst := some d, op := .pick (.tmp p) x (.tmp q), type := ty, pos := pos, after := af, guard := gd } q = true)
    (hp : tab p = .val (.bool false)) (hd : tab d = tab q) (hg : Gd ops tab { dst := some d, op := .pick (.tmp p) x (.tmp q), type := ty, pos := pos, after := af, guard := gd }) :
    Obl ops Q w tab { dst := some d, op := .pick (.tmp p) x (.tmp q), type := ty, pos := pos, after := af, guard := gd } := fun a' w' _ hc => by
  refine ⟨wanted_of hg hc, ?_⟩
  have h1 := hc p hk
  rw [hp] at h1
  have h1' : a'.eval (.tmp p) = .bool false := h1
  have h2 := hc q hk2
  unfold Oper.wp execOp
  simp only [h1', asBool, Sem.run_bind, Sem.run_pure, Result.andThen_ok, if_false, Oper.upon_value, Bool.false_eq_true]
  exact ⟨_, rfl, Grow.refl _, fun _ h => by cases h; rw [hd]; exact h2⟩
theorem k_eq (x y : Rl) (b : Bool) (hk : knownB ops { dst := some d, op := .binOp .eql 28 (.tmp p) (.tmp q) 28, type := ty, pos := pos, after := af, guard := gd } p = true) (hk2 : knownB ops { dst := some d, op := .binOp .eql 28 (.tmp p) (.tmp q) 28, type := ty, pos := pos, after := af, guard := gd } q = true)
    (hp : tab p = .val (.agg (cells x))) (hq : tab q = .val (.agg (cells y))) (hd : tab d = .val (.bool b)) (he : eqB x y = b)
    (hg : Gd ops tab { dst := some d, op := .binOp .eql 28 (.tmp p) (.tmp q) 28, type := ty, pos := pos, after := af, guard := gd }) :
    Obl ops Q w tab { dst := some d, op := .binOp .eql 28 (.tmp p) (.tmp q) 28, type := ty, pos := pos, after := af, guard := gd } := fun a' w' _ hc => by
  refine ⟨wanted_of hg hc, ?_⟩
  have h1 := hc p hk
  have h2 := hc q hk2
  rw [hp] at h1; rw [hq] at h2
  exact eq_wp x y h1 h2 ⟨_, rfl, Grow.refl _, fun _ h => by cases h; rw [hd, he]; rfl⟩
theorem k_ne (x y : Rl) (b : Bool) (hk : knownB ops { dst := some d, op := .binOp .neq 28 (.tmp p) (.tmp q) 28, type := ty, pos := pos, after := af, guard := gd } p = true) (hk2 : knownB ops { dst := some d, op := .binOp .neq 28 (.tmp p) (.tmp q) 28, type := ty, pos := pos, after := af, guard := gd } q = true)
    (hp : tab p = .val (.agg (cells x))) (hq : tab q = .val (.agg (cells y))) (hd : tab d = .val (.bool b)) (he : (!eqB x y) = b)
    (hg : Gd ops tab { dst := some d, op := .binOp .neq 28 (.tmp p) (.tmp q) 28, type := ty, pos := pos, after := af, guard := gd }) :
    Obl ops Q w tab { dst := some d, op := .binOp .neq 28 (.tmp p) (.tmp q) 28, type := ty, pos := pos, after := af, guard := gd } := fun a' w' _ hc => by
  refine ⟨wanted_of hg hc, ?_⟩
  have h1 := hc p hk
  have h2 := hc q hk2
  rw [hp] at h1; rw [hq] at h2
  exact ne_wp x y h1 h2 ⟨_, rfl, Grow.refl _, fun _ h => by cases h; rw [hd, he]; rfl⟩
theorem k_not (b c : Bool) (hk : knownB ops { dst := some d, op := .unOp .not 4 (.tmp p), type := ty, pos := pos, after := af, guard := gd } p = true) (hp : tab p = .val (.bool b)) (hd : tab d = .val (.bool c)) (he : (!b) = c)
    (hg : Gd ops tab { dst := some d, op := .unOp .not 4 (.tmp p), type := ty, pos := pos, after := af, guard := gd }) :
    Obl ops Q w tab { dst := some d, op := .unOp .not 4 (.tmp p), type := ty, pos := pos, after := af, guard := gd } := fun a' w' _ hc => by
  refine ⟨wanted_of hg hc, ?_⟩
  have h1 := hc p hk
  rw [hp] at h1
  have h1' : a'.eval (.tmp p) = .bool b := h1
  have hr : (Op.unary .not (.bool b)).run Try.prog w' = .ok (.bool c) w' := by rw [← he]; simp [Op.unary]
  unfold Oper.wp execOp
  simp only [h1', Sem.run_bind, hr, Sem.run_pure, Result.andThen_ok, Oper.upon_value]
  exact ⟨_, rfl, Grow.refl _, fun _ h => by cases h; rw [hd]; rfl⟩
/-- an operation on two plain values -/
theorem k_bin {op : BinOp} {t1 t2 : TypeId} {x y : Operand} (u v r : Value) (hx : ∀ (a' : Act) (w' : World), (∀ t, knownB ops { dst := some d, op := .binOp op t1 x y t2, type := ty, pos := pos, after := af, guard := gd } t = true → (tab t).ok (a'.tmps.getD t undef) w') → a'.eval x = u ∧ a'.eval y = v)
    (hd : tab d = .val r) (hr : ∀ w', (eqGuard op t1 x y u v).run Try.prog w' = .ok () w' ∧ (binOp op t1 u v).run Try.prog w' = .ok r w')
    (hg : Gd ops tab { dst := some d, op := .binOp op t1 x y t2, type := ty, pos := pos, after := af, guard := gd }) :
    Obl ops Q w tab { dst := some d, op := .binOp op t1 x y t2, type := ty, pos := pos, after := af, guard := gd } := fun a' w' _ hc => by
  refine ⟨wanted_of hg hc, ?_⟩
  obtain ⟨h1, h2⟩ := hx a' w' hc
  obtain ⟨h3, h4⟩ := hr w'
  unfold Oper.wp execOp
  simp only [h1, h2, Sem.run_bind, h3, h4, Sem.run_pure, Result.andThen_ok, Oper.upon_value]
  exact ⟨_, rfl, Grow.refl _, fun _ h => by cases h; rw [hd]; rfl⟩
theorem enters {f : FuncId} (h : ((Try.prog.funcs[f]?).map fun fn => (fn.name == "runtime.NumGoroutine", fn.body.isNone)) = some (false, false)) (args : Array Value) (w : World) : (callFunc f args).run Try.prog w = .ok (.enter f args) w := by
  cases hf : Try.prog.funcs[f]? with
  | none => simp [hf] at h
  | some fn =>
    rw [hf] at h
    simp only [Option.map_some, Option.some.injEq, Prod.mk.injEq] at h
    unfold callFunc
    simp only [Sem.run_bind, run_program, Result.andThen_ok, hf, h.1, h.2, Bool.false_eq_true, if_false, Sem.run_pure]
/-- a call -/
theorem k_call {f : FuncId} {args : Array Operand} {ats : Array TypeId} (hent : ((Try.prog.funcs[f]?).map fun fn => (fn.name == "runtime.NumGoroutine", fn.body.isNone)) = some (false, false))
    (hx : ∀ (a' : Act) (w' : World), Grow w w' → (∀ t, knownB ops { dst := some d, op := .call { callee := .value (.func f), args := args, argTypes := ats }, type := ty, pos := pos, after := af, guard := gd } t = true → (tab t).ok (a'.tmps.getD t undef) w') →
      Calls Try.prog f (args.map a'.eval) w' fun e w'' => ∃ v, e = .returned v ∧ Grow w' w'' ∧ (tab d).ok v w'')
    (hg : Gd ops tab { dst := some d, op := .call { callee := .value (.func f), args := args, argTypes := ats }, type := ty, pos := pos, after := af, guard := gd }) :
    Obl ops Q w tab { dst := some d, op := .call { callee := .value (.func f), args := args, argTypes := ats }, type := ty, pos := pos, after := af, guard := gd } := fun a' w' hgr hc => by
  refine ⟨wanted_of hg hc, ?_⟩
  have h := hx a' w' hgr hc
  have hr : (execOp a'.eval { dst := some d, op := .call { callee := .value (.func f), args := args, argTypes := ats }, type := ty, pos := pos, after := af, guard := gd }).run Try.prog w' = .ok (.enter f (args.map a'.eval)) w' := by
    unfold execOp
    simp only [resolve, Act.eval, Sem.run_bind, Deferred.ofValue, Sem.run_pure, Result.andThen_ok, invoke, Array.append_empty, Array.empty_append, enters hent]
  unfold Oper.wp
  rw [hr, Oper.upon_enter]
  refine Calls.mono h fun e w'' he => ?_
  obtain ⟨v, rfl, hg2, hok⟩ := he
  exact ⟨v, rfl, hg2, fun _ h => by cases h; exact hok⟩
theorem k_c1 {f : FuncId} {ats : Array TypeId} (x : Value) (u : Value) (hent : ((Try.prog.funcs[f]?).map fun fn => (fn.name == "runtime.NumGoroutine", fn.body.isNone)) = some (false, false)) (hk0 : knownB ops { dst := some d, op := .call { callee := .value (.func f), args := #[.tmp p], argTypes := ats }, type := ty, pos := pos, after := af, guard := gd } p = true) (hp0 : tab p = .val x) (hc : ∀ w', Calls Try.prog f #[x] w' fun e w'' => e = .returned u ∧ Grow w' w'') (hd : tab d = .val u)
    (hg : Gd ops tab { dst := some d, op := .call { callee := .value (.func f), args := #[.tmp p], argTypes := ats }, type := ty, pos := pos, after := af, guard := gd }) : Obl ops Q w tab { dst := some d, op := .call { callee := .value (.func f), args := #[.tmp p], argTypes := ats }, type := ty, pos := pos, after := af, guard := gd } :=
  k_call hent (fun a' w' _ hkn => by
    have h0 := hkn p hk0
    rw [hp0] at h0
    have e0 : a'.eval (.tmp p) = x := h0
    have hm : (#[.tmp p] : Array Operand).map a'.eval = #[x] := by simp [e0]
    rw [hm]
    refine Calls.mono (hc w') fun e w'' he => ?_
    obtain ⟨rfl, hgr⟩ := he
    exact ⟨u, rfl, hgr, by rw [hd]; rfl⟩) hg
theorem k_c2 {f : FuncId} {ats : Array TypeId} (x y : Value) (u : Value) (hent : ((Try.prog.funcs[f]?).map fun fn => (fn.name == "runtime.NumGoroutine", fn.body.isNone)) = some (false, false)) (hk0 : knownB ops { dst := some d, op := .call { callee := .value (.func f), args := #[.tmp p, .tmp q], argTypes := ats }, type := ty, pos := pos, after := af, guard := gd } p = true) (hp0 : tab p = .val x) (hk1 : knownB ops { dst := some d, op := .call { callee := .value (.func f), args := #[.tmp p, .tmp q], argTypes := ats }, type := ty, pos := pos, after := af, guard := gd } q = true) (hp1 : tab q = .val y) (hc : ∀ w', Calls Try.prog f #[x, y] w' fun e w'' => e = .returned u ∧ Grow w' w'') (hd : tab d = .val u)
    (hg : Gd ops tab { dst := some d, op := .call { callee := .value (.func f), args := #[.tmp p, .tmp q], argTypes := ats }, type := ty, pos := pos, after := af, guard := gd }) : Obl ops Q w tab { dst := some d, op := .call { callee := .value (.func f), args := #[.tmp p, .tmp q], argTypes := ats }, type := ty, pos := pos, after := af, guard := gd } :=
  k_call hent (fun a' w' _ hkn => by
    have h0 := hkn p hk0
    rw [hp0] at h0
    have e0 : a'.eval (.tmp p) = x := h0
    have h1 := hkn q hk1
    rw [hp1] at h1
    have e1 : a'.eval (.tmp q) = y := h1
    have hm : (#[.tmp p, .tmp q] : Array Operand).map a'.eval = #[x, y] := by simp [e0, e1]
    rw [hm]
    refine Calls.mono (hc w') fun e w'' he => ?_
    obtain ⟨rfl, hgr⟩ := he
    exact ⟨u, rfl, hgr, by rw [hd]; rfl⟩) hg
theorem k_c3 {f : FuncId} {ats : Array TypeId} {s : Tmp} (x y z : Value) (u : Value) (hent : ((Try.prog.funcs[f]?).map fun fn => (fn.name == "runtime.NumGoroutine", fn.body.isNone)) = some (false, false)) (hk0 : knownB ops { dst := some d, op := .call { callee := .value (.func f), args := #[.tmp p, .tmp q, .tmp s], argTypes := ats }, type := ty, pos := pos, after := af, guard := gd } p = true) (hp0 : tab p = .val x) (hk1 : knownB ops { dst := some d, op := .call { callee := .value (.func f), args := #[.tmp p, .tmp q, .tmp s], argTypes := ats }, type := ty, pos := pos, after := af, guard := gd } q = true) (hp1 : tab q = .val y) (hk2 : knownB ops { dst := some d, op := .call { callee := .value (.func f), args := #[.tmp p, .tmp q, .tmp s], argTypes := ats }, type := ty, pos := pos, after := af, guard := gd } s = true) (hp2 : tab s = .val z) (hc : ∀ w', Calls Try.prog f #[x, y, z] w' fun e w'' => e = .returned u ∧ Grow w' w'') (hd : tab d = .val u)
    (hg : Gd ops tab { dst := some d, op := .call { callee := .value (.func f), args := #[.tmp p, .tmp q, .tmp s], argTypes := ats }, type := ty, pos := pos, after := af, guard := gd }) : Obl ops Q w tab { dst := some d, op := .call { callee := .value (.func f), args := #[.tmp p, .tmp q, .tmp s], argTypes := ats }, type := ty, pos := pos, after := af, guard := gd } :=
  k_call hent (fun a' w' _ hkn => by
    have h0 := hkn p hk0
    rw [hp0] at h0
    have e0 : a'.eval (.tmp p) = x := h0
    have h1 := hkn q hk1
    rw [hp1] at h1
    have e1 : a'.eval (.tmp q) = y := h1
    have h2 := hkn s hk2
    rw [hp2] at h2
    have e2 : a'.eval (.tmp s) = z := h2
    have hm : (#[.tmp p, .tmp q, .tmp s] : Array Operand).map a'.eval = #[x, y, z] := by simp [e0, e1, e2]
    rw [hm]
    refine Calls.mono (hc w') fun e w'' he => ?_
    obtain ⟨rfl, hgr⟩ := he
    exact ⟨u, rfl, hgr, by rw [hd]; rfl⟩) hg
theorem k_h {f : FuncId} {ats : Array TypeId} {y z : Value} (x : Value) (u : Value) (hent : ((Try.prog.funcs[f]?).map fun fn => (fn.name == "runtime.NumGoroutine", fn.body.isNone)) = some (false, false)) (hk0 : knownB ops { dst := some d, op := .call { callee := .value (.func f), args := #[.tmp p, .const y, .const z], argTypes := ats }, type := ty, pos := pos, after := af, guard := gd } p = true) (hp0 : tab p = .val x) (hc : ∀ w', Calls Try.prog f #[x, y, z] w' fun e w'' => e = .returned u ∧ Grow w' w'') (hd : tab d = .val u)
    (hg : Gd ops tab { dst := some d, op := .call { callee := .value (.func f), args := #[.tmp p, .const y, .const z], argTypes := ats }, type := ty, pos := pos, after := af, guard := gd }) : Obl ops Q w tab { dst := some d, op := .call { callee := .value (.func f), args := #[.tmp p, .const y, .const z], argTypes := ats }, type := ty, pos := pos, after := af, guard := gd } :=
  k_call hent (fun a' w' _ hkn => by
    have h0 := hkn p hk0
    rw [hp0] at h0
    have e0 : a'.eval (.tmp p) = x := h0
    have hm : (#[.tmp p, .const y, .const z] : Array Operand).map a'.eval = #[x, y, z] := by
      simp only [List.map_toArray, List.map_cons, List.map_nil]; rw [e0]; rfl
    rw [hm]
    refine Calls.mono (hc w') fun e w'' he => ?_
    obtain ⟨rfl, hgr⟩ := he
    exact ⟨u, rfl, hgr, by rw [hd]; rfl⟩) hg
theorem k_k1 {f : FuncId} {ats : Array TypeId} {y : Value} (u : Value) (hent : ((Try.prog.funcs[f]?).map fun fn => (fn.name == "runtime.NumGoroutine", fn.body.isNone)) = some (false, false))  (hc : ∀ w', Calls Try.prog f #[y] w' fun e w'' => e = .returned u ∧ Grow w' w'') (hd : tab d = .val u)
    (hg : Gd ops tab { dst := some d, op := .call { callee := .value (.func f), args := #[.const y], argTypes := ats }, type := ty, pos := pos, after := af, guard := gd }) : Obl ops Q w tab { dst := some d, op := .call { callee := .value (.func f), args := #[.const y], argTypes := ats }, type := ty, pos := pos, after := af, guard := gd } :=
  k_call hent (fun a' w' _ hkn => by
    have hm : (#[.const y] : Array Operand).map a'.eval = #[y] := by simp [Act.eval]
    rw [hm]
    refine Calls.mono (hc w') fun e w'' he => ?_
    obtain ⟨rfl, hgr⟩ := he
    exact ⟨u, rfl, hgr, by rw [hd]; rfl⟩) hg
theorem k_s1 {f : FuncId} {ats : Array TypeId} (rs : List Rl) (u : Value) (hent : ((Try.prog.funcs[f]?).map fun fn => (fn.name == "runtime.NumGoroutine", fn.body.isNone)) = some (false, false)) (hk : knownB ops { dst := some d, op := .call { callee := .value (.func f), args := #[.tmp p], argTypes := ats }, type := ty, pos := pos, after := af, guard := gd } p = true) (hp : tab p = .sl rs)
    (hc : ∀ v w', Sn w' v rs → Calls Try.prog f #[v] w' fun e w'' => e = .returned u ∧ Grow w' w'') (hd : tab d = .val u) (hg : Gd ops tab { dst := some d, op := .call { callee := .value (.func f), args := #[.tmp p], argTypes := ats }, type := ty, pos := pos, after := af, guard := gd }) : Obl ops Q w tab { dst := some d, op := .call { callee := .value (.func f), args := #[.tmp p], argTypes := ats }, type := ty, pos := pos, after := af, guard := gd } :=
  k_call hent (fun a' w' _ hkn => by
    have h0 := hkn p hk
    rw [hp] at h0
    have hm : (#[.tmp p] : Array Operand).map a'.eval = #[a'.tmps.getD p undef] := by
      simp only [List.map_toArray, List.map_cons, List.map_nil]; rfl
    rw [hm]
    refine Calls.mono (hc (a'.tmps.getD p undef) w' h0) fun e w'' he => ?_
    obtain ⟨rfl, hgr⟩ := he
    exact ⟨u, rfl, hgr, by rw [hd]; rfl⟩) hg
theorem k_a1 {f : FuncId} {ats : Array TypeId} (x : Value) (hent : ((Try.prog.funcs[f]?).map fun fn => (fn.name == "runtime.NumGoroutine", fn.body.isNone)) = some (false, false)) (hk : knownB ops { dst := some d, op := .call { callee := .value (.func f), args := #[.tmp p], argTypes := ats }, type := ty, pos := pos, after := af, guard := gd } p = true) (hp : tab p = .val x)
    (hc : ∀ w', Calls Try.prog f #[x] w' fun e w'' => ∃ v, e = .returned v ∧ Grow w' w'' ∧ (tab d).ok v w'') (hg : Gd ops tab { dst := some d, op := .call { callee := .value (.func f), args := #[.tmp p], argTypes := ats }, type := ty, pos := pos, after := af, guard := gd }) : Obl ops Q w tab { dst := some d, op := .call { callee := .value (.func f), args := #[.tmp p], argTypes := ats }, type := ty, pos := pos, after := af, guard := gd } :=
  k_call hent (fun a' w' _ hkn => by
    have h0 := hkn p hk
    rw [hp] at h0
    have e0 : a'.eval (.tmp p) = x := h0
    have hm : (#[.tmp p] : Array Operand).map a'.eval = #[x] := by simp [e0]
    rw [hm]; exact hc w') hg
theorem grow_of {f : FuncId} {xs : Array Value} {r : Ending} {w : World} (h : Calls Try.prog f xs w fun e w' => e = r ∧ w' = w) : Calls Try.prog f xs w fun e w' => e = r ∧ Grow w w' :=
  Calls.mono h fun _ _ he => ⟨he.1, by rw [he.2]; exact Grow.refl _⟩
theorem calls_val {f : FuncId} {xs : Array Value} {u v : Value} {w : World} (h : Calls Try.prog f xs w fun e w' => e = .returned u ∧ Grow w w') (he : u = v) : Calls Try.prog f xs w fun e w' => e = .returned v ∧ Grow w w' := he ▸ h
theorem k_b2 (x y : Rl) (hk0 : knownB ops { dst := some d, op := .buildSlice 38 2 #[(0, .tmp p), (1, .tmp q)], type := ty, pos := pos, after := af, guard := gd } p = true) (hp0 : tab p = .val (.agg (cells x))) (hk1 : knownB ops { dst := some d, op := .buildSlice 38 2 #[(0, .tmp p), (1, .tmp q)], type := ty, pos := pos, after := af, guard := gd } q = true) (hp1 : tab q = .val (.agg (cells y))) (hd : tab d = .sl [x, y]) (hg : Gd ops tab { dst := some d, op := .buildSlice 38 2 #[(0, .tmp p), (1, .tmp q)], type := ty, pos := pos, after := af, guard := gd }) : Obl ops Q w tab { dst := some d, op := .buildSlice 38 2 #[(0, .tmp p), (1, .tmp q)], type := ty, pos := pos, after := af, guard := gd } := fun a' w' _ hc => by
  refine ⟨wanted_of hg hc, ?_⟩
  have h0 := hc p hk0
  rw [hp0] at h0
  have e0 : a'.eval (.tmp p) = .agg (cells x) := h0
  have h1 := hc q hk1
  rw [hp1] at h1
  have e1 : a'.eval (.tmp q) = .agg (cells y) := h1
  obtain ⟨A, h, hA⟩ := run_rels [x, y] (by simp) (by simp) w'
  have hr : (execOp a'.eval { dst := some d, op := .buildSlice 38 2 #[(0, .tmp p), (1, .tmp q)], type := ty, pos := pos, after := af, guard := gd }).run Try.prog w' = .ok (.value (.slice (some ⟨w'.heap.size, 0, none⟩) 2 2)) (w'.alloc (.cells A 28)) := by
    unfold execOp
    have hm : (#[(0, .tmp p), (1, .tmp q)] : Array (Nat × Operand)).map (fun (i, x) => (i, a'.eval x)) = ((numd [x, y]).map fun p => (p.1, Value.agg (cells p.2))).toArray := by
      simp [numd, e0, e1]
    have hm' : (#[(0, .tmp p), (1, .tmp q)] : Array (Nat × Operand)).map (fun x => (x.1, a'.eval x.2)) = ((numd [x, y]).map fun p => (p.1, Value.agg (cells p.2))).toArray := hm
    simp only [Sem.run_bind, hm']
    have h' := h
    simp only [List.length_cons, List.length_nil, Nat.zero_add, Nat.reduceAdd] at h'
    rw [h']; rfl
  unfold Oper.wp
  rw [hr, Oper.upon_value]
  exact ⟨_, rfl, (Grow.refl _).alloc _, fun _ h => by cases h; rw [hd]; exact sn_new hA⟩
theorem k_b3 {s : Tmp} (x y z : Rl) (hk0 : knownB ops { dst := some d, op := .buildSlice 38 3 #[(0, .tmp p), (1, .tmp q), (2, .tmp s)], type := ty, pos := pos, after := af, guard := gd } p = true) (hp0 : tab p = .val (.agg (cells x))) (hk1 : knownB ops { dst := some d, op := .buildSlice 38 3 #[(0, .tmp p), (1, .tmp q), (2, .tmp s)], type := ty, pos := pos, after := af, guard := gd } q = true) (hp1 : tab q = .val (.agg (cells y))) (hk2 : knownB ops { dst := some d, op := .buildSlice 38 3 #[(0, .tmp p), (1, .tmp q), (2, .tmp s)], type := ty, pos := pos, after := af, guard := gd } s = true) (hp2 : tab s = .val (.agg (cells z))) (hd : tab d = .sl [x, y, z]) (hg : Gd ops tab { dst := some d, op := .buildSlice 38 3 #[(0, .tmp p), (1, .tmp q), (2, .tmp s)], type := ty, pos := pos, after := af, guard := gd }) : Obl ops Q w tab { dst := some d, op := .buildSlice 38 3 #[(0, .tmp p), (1, .tmp q), (2, .tmp s)], type := ty, pos := pos, after := af, guard := gd } := fun a' w' _ hc => by
  refine ⟨wanted_of hg hc, ?_⟩
  have h0 := hc p hk0
  rw [hp0] at h0
  have e0 : a'.eval (.tmp p) = .agg (cells x) := h0
  have h1 := hc q hk1
  rw [hp1] at h1
  have e1 : a'.eval (.tmp q) = .agg (cells y) := h1
  have h2 := hc s hk2
  rw [hp2] at h2
  have e2 : a'.eval (.tmp s) = .agg (cells z) := h2
  obtain ⟨A, h, hA⟩ := run_rels [x, y, z] (by simp) (by simp) w'
  have hr : (execOp a'.eval { dst := some d, op := .buildSlice 38 3 #[(0, .tmp p), (1, .tmp q), (2, .tmp s)], type := ty, pos := pos, after := af, guard := gd }).run Try.prog w' = .ok (.value (.slice (some ⟨w'.heap.size, 0, none⟩) 3 3)) (w'.alloc (.cells A 28)) := by
    unfold execOp
    have hm : (#[(0, .tmp p), (1, .tmp q), (2, .tmp s)] : Array (Nat × Operand)).map (fun (i, x) => (i, a'.eval x)) = ((numd [x, y, z]).map fun p => (p.1, Value.agg (cells p.2))).toArray := by
      simp [numd, e0, e1, e2]
    have hm' : (#[(0, .tmp p), (1, .tmp q), (2, .tmp s)] : Array (Nat × Operand)).map (fun x => (x.1, a'.eval x.2)) = ((numd [x, y, z]).map fun p => (p.1, Value.agg (cells p.2))).toArray := hm
    simp only [Sem.run_bind, hm']
    have h' := h
    simp only [List.length_cons, List.length_nil, Nat.zero_add, Nat.reduceAdd] at h'
    rw [h']; rfl
  unfold Oper.wp
  rw [hr, Oper.upon_value]
  exact ⟨_, rfl, (Grow.refl _).alloc _, fun _ h => by cases h; rw [hd]; exact sn_new hA⟩
theorem k_len (n : Nat) (P : Value → World → Prop) (hP : ∀ v w w', Grow w w' → P v w → P v w') (hk : knownB ops { dst := some d, op := .call { callee := .builtin .len, args := #[.tmp p], argTypes := #[22] }, type := ty, pos := pos, after := af, guard := gd } p = true) (hp : tab p = .any P hP) (hn : ∀ v w, P v w → ∃ ad cap, v = .slice ad n cap) (hd : tab d = .val (.int .i64 n))
    (hg : Gd ops tab { dst := some d, op := .call { callee := .builtin .len, args := #[.tmp p], argTypes := #[22] }, type := ty, pos := pos, after := af, guard := gd }) : Obl ops Q w tab { dst := some d, op := .call { callee := .builtin .len, args := #[.tmp p], argTypes := #[22] }, type := ty, pos := pos, after := af, guard := gd } := fun a' w' _ hc => by
  refine ⟨wanted_of hg hc, ?_⟩
  have h0 := hc p hk
  rw [hp] at h0
  obtain ⟨ad, cap, hv⟩ := hn _ _ h0
  have e0 : a'.eval (.tmp p) = .slice ad n cap := hv
  have hr : (execOp a'.eval { dst := some d, op := .call { callee := .builtin .len, args := #[.tmp p], argTypes := #[22] }, type := ty, pos := pos, after := af, guard := gd }).run Try.prog w' = .ok (.value (.int .i64 n)) w' := by
    have hm : (#[.tmp p] : Array Operand).map a'.eval = #[.slice ad n cap] := by simp only [List.map_toArray, List.map_cons, List.map_nil]; rw [e0]
    unfold execOp
    simp only [resolve, Sem.run_bind, Sem.run_pure, Result.andThen_ok, invoke, builtin, hm]
    simp [Builtin.len_, run_underlying Try.underlying22, goInt]
  unfold Oper.wp
  rw [hr, Oper.upon_value]
  exact ⟨_, rfl, Grow.refl _, fun _ h => by cases h; rw [hd]; rfl⟩
end

theorem eqi {t : TypeId} {k : IntKind} (x y : Operand) (a b : Int) (r : Bool) (h : (a == b) = r) (w' : World) :
    (eqGuard .eql t x y (.int k a) (.int k b)).run Try.prog w' = .ok () w' ∧ (binOp .eql t (.int k a) (.int k b)).run Try.prog w' = .ok (.bool r) w' := by
  subst h
  constructor
  · simp [eqGuard]
  · simp [binOp, Op.intCmp]
theorem nei {t : TypeId} {k : IntKind} (x y : Operand) (a b : Int) (r : Bool) (h : (!(a == b)) = r) (w' : World) :
    (eqGuard .neq t x y (.int k a) (.int k b)).run Try.prog w' = .ok () w' ∧ (binOp .neq t (.int k a) (.int k b)).run Try.prog w' = .ok (.bool r) w' := by
  subst h
  constructor
  · simp [eqGuard]
  · simp [binOp, Op.intCmp, bne]
section
variable {ops : Array Oper} {rest : List Oper} {a : Act} {w : World} {Q : Exit → Act → World → Prop}
/-- a new variable for a relation, in a plain region -/
theorem al {d : Option Tmp} {ty : TypeId} {pos : String} {af : Array Edge} (g : Nat) (hg : w.heap.size = g) (h : wpList Try.prog ops Q rest (a.put d (.pointer (some ⟨g, 0, none⟩))) (w.alloc (.cells (cells nil) 28))) :
    wpList Try.prog ops Q ({ dst := d, op := .alloc 28, type := ty, pos := pos, after := af, guard := none } :: rest) a w := by
  subst hg
  refine wpList_plain rfl fun _ hK => ?_
  have hi : (Try.prog.info? 28).map (fun i => (i.zero, i.size)) = some (some (.agg (Array.replicate 32 (Value.int .u32 0))), 32) := by kernel_rfl
  have hr : (execOp a.eval { dst := d, op := .alloc 28, type := ty, pos := pos, after := af, guard := none }).run Try.prog w = .ok (.value (.pointer (some ⟨w.heap.size, 0, none⟩))) (w.alloc (.cells (cells nil) 28)) := by
    have hz := (zero_of_info hi).1 w
    unfold execOp
    rw [← cells_nil]
    simp only [Instr.alloc, newVar, newRow, Sem.run_bind, hz, Result.andThen_ok, Value.cells]
    rfl
  unfold Oper.wp
  rw [hr, Oper.upon_value]
  exact hK _ _ h
/-- a slice literal of two relations, in a plain region -/
theorem bs2 {d : Option Tmp} {p q : Tmp} {ty : TypeId} {pos : String} {af : Array Edge} (x y : Rl) (hp : a.eval (.tmp p) = .agg (cells x)) (hq : a.eval (.tmp q) = .agg (cells y))
    (h : ∀ v w', Grow w w' → Sn w' v [x, y] → wpList Try.prog ops Q rest (a.put d v) w') :
    wpList Try.prog ops Q ({ dst := d, op := .buildSlice 38 2 #[(0, .tmp p), (1, .tmp q)], type := ty, pos := pos, after := af, guard := none } :: rest) a w := by
  refine wpList_plain rfl fun _ hK => ?_
  obtain ⟨A, h1, hA⟩ := run_rels [x, y] (by simp) (by simp) w
  have hm' : (#[(0, .tmp p), (1, .tmp q)] : Array (Nat × Operand)).map (fun x => (x.1, a.eval x.2)) = ((numd [x, y]).map fun p => (p.1, Value.agg (cells p.2))).toArray := by simp [numd, hp, hq]
  have hr : (execOp a.eval { dst := d, op := .buildSlice 38 2 #[(0, .tmp p), (1, .tmp q)], type := ty, pos := pos, after := af, guard := none }).run Try.prog w = .ok (.value (.slice (some ⟨w.heap.size, 0, none⟩) 2 2)) (w.alloc (.cells A 28)) := by
    unfold execOp
    simp only [Sem.run_bind, hm']
    have h' := h1
    simp only [List.length_cons, List.length_nil, Nat.zero_add, Nat.reduceAdd] at h'
    rw [h']; rfl
  unfold Oper.wp
  rw [hr, Oper.upon_value]
  exact hK _ _ (h _ _ ((Grow.refl _).alloc _) (sn_new hA))
end

/-! ### The table of claims -/
def free : Cl := .any (fun _ _ => True) (fun _ _ _ _ h => h)
def tabOf (L : List (Nat × Cl)) (t : Nat) : Cl := (L.lookup t).getD free
theorem tab_out {a : Act} {w : World} {l : List Oper} (Lo Li : List (Nat × Cl)) (hi : (Li.all fun x => l.any fun o => o.dst == some x.1) = true) (ho : ∀ x ∈ Lo, x.2.ok (a.tmps.getD x.1 undef) w) :
    ∀ t, (∀ o ∈ l, o.dst ≠ some t) → (tabOf (Lo ++ Li) t).ok (a.tmps.getD t undef) w := by
  intro t ht
  unfold tabOf
  cases hl : (Lo ++ Li).lookup t with
  | none => trivial
  | some c =>
    have hmem : (t, c) ∈ Lo ++ Li := by
      obtain ⟨l1, l2, h1, _⟩ := List.lookup_eq_some_iff.1 hl
      rw [h1]; simp
    rcases List.mem_append.1 hmem with h | h
    · exact ho (t, c) h
    · exfalso
      have := (List.all_eq_true.1 hi) (t, c) h
      obtain ⟨o, ho', hd⟩ := List.any_eq_true.1 this
      exact ht o ho' (by simpa using hd)

end Go.Proofs.Ytlbccddhcbcpoaa
