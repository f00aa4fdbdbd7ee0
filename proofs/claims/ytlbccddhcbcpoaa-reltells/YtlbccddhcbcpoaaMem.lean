/- A relation in memory: a block of thirty-two cells; how it is read, written, copied, and how two are compared. -/
import Derived.Test.YtlbccddhcbcpoaaBase
import Derived.Deep.WholeRow
import Derived.Deep.MidRow
import Derived.ChangeKeysEq
namespace Go.Proofs.Ytlbccddhcbcpoaa
open Go.RowKit

theorem info_rel : (Try.prog.info? 28).map (·.size) = some 32 := by kernel_rfl
theorem und_rel : Try.prog.underlying 28 = some (.array 32 25) := Try.underlying28

/-- a relation lies in a block -/
def At (w : World) (g : Nat) (r : Rl) : Prop := w.heap[g]? = some (.cells (cells r) 28 (0, 0))

theorem At.lt {w : World} {g : Nat} {r : Rl} (h : At w g r) : g < w.heap.size := (Array.getElem?_eq_some_iff.1 h).1
theorem At.cell {w : World} {g : Nat} {r : Rl} (h : At w g r) (k : Nat) (hk : k < 32) : w.cell? ⟨g, k, none⟩ = some (.int .u32 (U (row r k))) := by
  rw [cell_of_row w g k _ _ _ h]; exact cells_at r k hk
theorem At.frozen {w : World} {g : Nat} {r : Rl} (h : At w g r) (k : Nat) : w.frozen? ⟨g, k, none⟩ = false := by
  unfold At at h; simp [World.frozen?, h]
theorem At.grow {w w' : World} {g : Nat} {r : Rl} (h : At w g r) (hg : Grow w w') : At w' g r := by
  unfold At; rw [hg.block g h.lt]; exact h
theorem At.below {w w' : World} {B g : Nat} {r : Rl} (h : At w g r) (hg : Below B w w') (hb : g < B) : At w' g r := by
  unfold At; rw [hg.block g hb]; exact h
theorem At.set {w : World} {g : Nat} {r : Rl} (h : At w g r) (k : Nat) (x : St) : At (w.setCell ⟨g, k, none⟩ (.int .u32 (U x))) g (upd r k x) := by
  rw [setCell_eq_setRow w g k _ _ _ _ h, cells_set]
  exact setRow_heap w g _ _ _ _ h
theorem At.set_other {w : World} {g g' : Nat} {r : Rl} (h : At w g r) (hne : g ≠ g') (k : Nat) (v : Value) : At (w.setCell ⟨g', k, none⟩ v) g r := by
  unfold At; rw [Below.heap_setCell _ _ _ _ hne]; exact h
theorem At.alloc {w : World} {g : Nat} {r : Rl} (h : At w g r) (o : Obj) : At (w.alloc o) g r := by
  unfold At; rw [Below.heap_alloc _ _ _ h.lt]; exact h
theorem At.drew {w : World} {g : Nat} {r : Rl} (h : At w g r) : At w.drew g r := h
theorem At.new (w : World) (r : Rl) : At (w.alloc (.cells (cells r) 28)) w.heap.size r := heap_alloc_last w _
theorem At.put {w : World} {g : Nat} {r r' : Rl} (h : At w g r) : At (w.setRow g (cells r')) g r' := setRow_heap w g _ _ _ _ h
theorem At.put_other {w : World} {g g' : Nat} {r r' : Rl} (h : At w g r) (hne : g ≠ g') : At (w.setRow g' (cells r')) g r := by
  unfold At; rw [setRow_other _ _ _ _ hne]; exact h
theorem below_setRow {B : Nat} {a w : World} (h : Below B a w) {g : Nat} (hg : B ≤ g) (cs : Array Value) : Below B a (w.setRow g cs) :=
  h.trans ⟨rfl, rfl, rfl, by simp, fun k hk => setRow_other _ _ _ _ (by omega)⟩
theorem bset {B : Nat} {a w : World} (h : Below B a w) {b k : Nat} (hb : B ≤ b) (v : Value) : Below B a (w.setCell ⟨b, k, none⟩ v) := h.setCell hb v
theorem Grow.refl (w : World) : Grow w w := Below.refl _ _
theorem Grow.trans {a b c : World} (h : Grow a b) (k : Grow b c) : Grow a c := Below.trans h (Below.mono k h.size)
theorem Grow.alloc {a b : World} (h : Grow a b) (o : Obj) : Grow a (b.alloc o) := Below.alloc h h.size o
theorem Grow.drew {a b : World} (h : Grow a b) : Grow a b.drew := Below.drew h

section
variable {ops : Array Oper} {rest : List Oper} {a : Act} {w : World} {Q : Exit → Act → World → Prop}
/-- a relation is loaded whole -/
theorem ld {d : Option Tmp} {p : Tmp} {ty : TypeId} {pos : String} {af : Array Edge} (g : Nat) (r : Rl) (hp : a.eval (.tmp p) = .pointer (some ⟨g, 0, none⟩)) (hg : At w g r)
    (h : wpList Try.prog ops Q rest (a.put d (.agg (cells r))) w) : wpList Try.prog ops Q ({ dst := d, op := .load 28 (.tmp p), type := ty, pos := pos, after := af, guard := none } :: rest) a w :=
  wpList_load_row rfl 28 (.tmp p) rfl g hp 28 (cells r) (0, 0) _ hg und_rel rfl (by rw [cells_size]; exact info_rel) h
/-- a relation is stored whole -/
theorem st {d : Option Tmp} {p q : Tmp} {ty : TypeId} {pos : String} {af : Array Edge} (g : Nat) (r0 r : Rl) (hp : a.eval (.tmp p) = .pointer (some ⟨g, 0, none⟩)) (hq : a.eval (.tmp q) = .agg (cells r)) (hg : At w g r0)
    (h : wpList Try.prog ops Q rest (a.put d undef) (w.setRow g (cells r))) : wpList Try.prog ops Q ({ dst := d, op := .store 28 (.tmp p) (.tmp q), type := ty, pos := pos, after := af, guard := none } :: rest) a w :=
  wpList_store_row rfl 28 (.tmp p) (.tmp q) rfl g (cells r) hp hq 28 (cells r0) hg (by rw [cells_size]; exact info_rel) (by rw [cells_size, cells_size]) (cells_one r) h
end
/-- what a function that hands a relation back returns -/
theorem res {fn : Func} {p : Tmp} (h : fn.results = #[.cell p 28]) (tmps : Array Value) (w : World) (g : Nat) (r : Rl) (hp : tmps.getD p undef = .pointer (some ⟨g, 0, none⟩)) (hg : At w g r) :
    (results fn tmps).run Try.prog w = .ok (.agg (cells r)) w :=
  results_cell_row h tmps w g 28 (cells r) (0, 0) _ hp hg und_rel rfl (by rw [cells_size]; exact info_rel)

theorem nil_lit : #[Value.int IntKind.u32 0, Value.int IntKind.u32 0, Value.int IntKind.u32 0, Value.int IntKind.u32 0, Value.int IntKind.u32 0, Value.int IntKind.u32 0, Value.int IntKind.u32 0, Value.int IntKind.u32 0, Value.int IntKind.u32 0, Value.int IntKind.u32 0, Value.int IntKind.u32 0, Value.int IntKind.u32 0, Value.int IntKind.u32 0, Value.int IntKind.u32 0, Value.int IntKind.u32 0, Value.int IntKind.u32 0, Value.int IntKind.u32 0, Value.int IntKind.u32 0, Value.int IntKind.u32 0, Value.int IntKind.u32 0, Value.int IntKind.u32 0, Value.int IntKind.u32 0, Value.int IntKind.u32 0, Value.int IntKind.u32 0, Value.int IntKind.u32 0, Value.int IntKind.u32 0, Value.int IntKind.u32 0, Value.int IntKind.u32 0, Value.int IntKind.u32 0, Value.int IntKind.u32 0, Value.int IntKind.u32 0, Value.int IntKind.u32 0] = cells nil := cells_nil
theorem part_set (f g : Rl) (k : Nat) (x : St) (hx : k < 32 → x = row f k) : (cells (part k f g)).setIfInBounds k (Value.int .u32 (U x)) = cells (part (k + 1) f g) := by
  rw [cells_set, part_step f g k x hx]
theorem At.step {w : World} {g k : Nat} {f f' : Rl} (h : At w g (part k f f')) (x : St) (hx : k < 32 → x = row f k) : At (w.setCell ⟨g, k, none⟩ (.int .u32 (U x))) g (part (k + 1) f f') := by
  have := h.set k x; rwa [part_step f f' k x hx] at this

/-- are two relations the same? -/
def eqB (x y : Rl) : Bool := (List.range 32).all fun k => row x k == row y k
theorem eqB_iff (x y : Rl) : eqB x y = true ↔ x = y := by
  unfold eqB
  rw [List.all_eq_true]
  constructor
  · intro h; funext i
    have := h i.val (by simp)
    rw [row_fin, row_fin] at this
    simpa using this
  · intro h k _; subst h; simp
theorem eqB_same (x : Rl) : eqB x x = true := (eqB_iff x x).2 rfl
theorem eqB_of {x y : Rl} (h : x = y) : eqB x y = true := (eqB_iff x y).2 h
theorem part_rel (x : Rl) (k : Nat) (hk : k < 32) (w : World) : (Go.part 25 (cells x) (k * 1)).run Try.prog w = .ok (.int .u32 (U (row x k))) w := by
  have h := cells_at x k hk
  simp [Go.part, isAgg, run_underlying Try.underlying25, h]
theorem items_rel (d : Nat) (x y : Rl) (w : World) : ∀ is : List Nat, (∀ k ∈ is, k < 32) → (Op.eqItems (d + 1) 25 1 (cells x) (cells y) is).run Try.prog w = .ok (is.all fun k => row x k == row y k) w
  | [], _ => by simp [Op.eqItems]
  | k :: is, h => by
    have hk := h k (by simp)
    have ih := items_rel d x y w is (fun j hj => h j (by simp [hj]))
    have he : (U (row x k) == U (row y k)) = (row x k == row y k) := by
      rw [Bool.eq_iff_iff]; simp
      exact ⟨fun h => U_inj h, fun h => by rw [h]⟩
    simp only [Op.eqItems, Sem.run_bind, part_rel x k hk, part_rel y k hk, Result.andThen_ok, run_equalIn_int w d 25 .u32 .u32 _ _ Try.underlying25, he, List.all_cons]
    cases hb : (row x k == row y k)
    · simp
    · simp only [Bool.not_true, Bool.false_eq_true, if_false, Bool.true_and]; exact ih
theorem cells_of_set : Try.prog.cellsOf 25 = 1 := by kernel_rfl
theorem info_set : ∃ i, Try.prog.info? 25 = some i := by
  cases h : Try.prog.info? 25 with
  | none => exact absurd h (by decide +kernel)
  | some i => exact ⟨i, rfl⟩
theorem equal_rel (d : Nat) (x y : Rl) (w : World) : (Op.equalIn (d + 2) 28 (.agg (cells x)) (.agg (cells y))).run Try.prog w = .ok (eqB x y) w := by
  obtain ⟨i, hi⟩ := info_set
  rw [run_equalIn_array w (d + 1) (cells x) (cells y) und_rel hi, cells_of_set, items_rel d x y w _ (fun k hk => by simpa using hk)]
  rfl
theorem eql_rel (x y : Rl) (w : World) : (binOp .eql 28 (.agg (cells x)) (.agg (cells y))).run Try.prog w = .ok (.bool (eqB x y)) w := by
  rw [run_eql_struct, equal_rel 9998]; rfl
theorem neq_rel (x y : Rl) (w : World) : (binOp .neq 28 (.agg (cells x)) (.agg (cells y))).run Try.prog w = .ok (.bool (!eqB x y)) w := by
  rw [run_neq_struct, equal_rel 9998]; rfl
theorem guard_rel (op : BinOp) (p q : Operand) (x y : Array Value) (w : World) : (eqGuard op 28 p q (.agg x) (.agg y)).run Try.prog w = .ok () w :=
  run_eqGuard_agg w op 28 p q x y Try.eqGuardType28

attribute [local irreducible] cells row U
section
variable {ops : Array Oper} {rest : List Oper} {a : Act} {w : World} {Q : Exit → Act → World → Prop}
theorem eq_wp {K : Act → World → Prop} {d : Option Tmp} {p q : Operand} {ty : TypeId} {pos : String} {af : Array Edge} {g : Option (Nat × Bool)} (x y : Rl) (hp : a.eval p = .agg (cells x)) (hq : a.eval q = .agg (cells y))
    (h : K (a.put d (.bool (eqB x y))) w) : Oper.wp Try.prog { dst := d, op := .binOp .eql 28 p q 28, type := ty, pos := pos, after := af, guard := g } a w K Q := by
  unfold Oper.wp execOp
  simp only [hp, hq, Sem.run_bind, guard_rel, Result.andThen_ok, eql_rel, Sem.run_pure, Oper.upon_value]
  exact h
theorem ne_wp {K : Act → World → Prop} {d : Option Tmp} {p q : Operand} {ty : TypeId} {pos : String} {af : Array Edge} {g : Option (Nat × Bool)} (x y : Rl) (hp : a.eval p = .agg (cells x)) (hq : a.eval q = .agg (cells y))
    (h : K (a.put d (.bool (!eqB x y))) w) : Oper.wp Try.prog { dst := d, op := .binOp .neq 28 p q 28, type := ty, pos := pos, after := af, guard := g } a w K Q := by
  unfold Oper.wp execOp
  simp only [hp, hq, Sem.run_bind, guard_rel, Result.andThen_ok, neq_rel, Sem.run_pure, Oper.upon_value]
  exact h
theorem ld_wp {K : Act → World → Prop} {d : Option Tmp} {p : Operand} {ty : TypeId} {pos : String} {af : Array Edge} {gd : Option (Nat × Bool)} (g : Nat) (r : Rl) (hp : a.eval p = .pointer (some ⟨g, 0, none⟩)) (hg : At w g r)
    (h : K (a.put d (.agg (cells r))) w) : Oper.wp Try.prog { dst := d, op := .load 28 p, type := ty, pos := pos, after := af, guard := gd } a w K Q :=
  wp_load_row 28 p rfl g hp 28 (cells r) (0, 0) _ hg und_rel rfl (by rw [cells_size]; exact info_rel) h
theorem ix_wp {K : Act → World → Prop} {d : Option Tmp} {p q : Operand} {ty : TypeId} {pos : String} {af : Array Edge} {gd : Option (Nat × Bool)} (r : Rl) (k : Nat) (hk : k < 32) (hp : a.eval p = .agg (cells r)) (hq : a.eval q = .int .i64 k)
    (h : K (a.put d (.int .u32 (U (row r k)))) w) : Oper.wp Try.prog { dst := d, op := .index 28 p q, type := ty, pos := pos, after := af, guard := gd } a w K Q := by
  have h1 : (sizeOf 25).run Try.prog w = .ok 1 w := by
    obtain ⟨i, hi⟩ := info_set
    have := run_sizeOf w hi
    rw [cells_of_set] at this; exact this
  have h2 := part_rel r k hk w
  have h3 : (Instr.index 28 (.agg (cells r)) (.int .i64 k)).run Try.prog w = .ok (.int .u32 (U (row r k))) w := by
    have hc : (0 : Int) ≤ (k : Int) ∧ (k : Int) < ((32 : Nat) : Int) := ⟨by omega, by omega⟩
    unfold Instr.index
    simp only [asIntOf, Sem.run_bind, Sem.run_pure, Result.andThen_ok, run_underlying und_rel, if_pos hc, h1, Int.toNat_natCast]
    exact h2
  unfold Oper.wp execOp
  simp only [hp, hq, Sem.run_bind, h3, Result.andThen_ok, Sem.run_pure, Oper.upon_value]
  exact h
theorem ix {d : Option Tmp} {p q : Tmp} {ty : TypeId} {pos : String} {af : Array Edge} (r : Rl) (k : Nat) (hk : k < 32) (hp : a.eval (.tmp p) = .agg (cells r)) (hq : a.eval (.tmp q) = .int .i64 k)
    (h : wpList Try.prog ops Q rest (a.put d (.int .u32 (U (row r k)))) w) : wpList Try.prog ops Q ({ dst := d, op := .index 28 (.tmp p) (.tmp q), type := ty, pos := pos, after := af, guard := none } :: rest) a w :=
  wpList_plain rfl fun _ hK => ix_wp r k hk hp hq (hK _ _ h)
theorem eq' {d : Option Tmp} {p q : Tmp} {ty : TypeId} {pos : String} {af : Array Edge} (x y : Rl) (hp : a.eval (.tmp p) = .agg (cells x)) (hq : a.eval (.tmp q) = .agg (cells y))
    (h : wpList Try.prog ops Q rest (a.put d (.bool (eqB x y))) w) : wpList Try.prog ops Q ({ dst := d, op := .binOp .eql 28 (.tmp p) (.tmp q) 28, type := ty, pos := pos, after := af, guard := none } :: rest) a w :=
  wpList_plain rfl fun _ hK => eq_wp x y hp hq (hK _ _ h)
end

end Go.Proofs.Ytlbccddhcbcpoaa
