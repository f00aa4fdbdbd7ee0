/- A table of thirty-two by thirty-two truths in memory, by value; what the reference's Of and Rel return. -/
import Derived.Test.YtlbccddhcbcpoaaRefA
namespace Go.Proofs.Ytlbccddhcbcpoaa
open Go.RowKit

/-- a table -/
abbrev Tb := Nat → Nat → Bool
def tcs (t : Tb) : Array Value := Array.ofFn (fun i : Fin 1024 => Value.bool (t (i.val / 32) (i.val % 32)))
theorem tcs_size (t : Tb) : (tcs t).size = 1024 := by unfold tcs; simp
theorem tcs_at (t : Tb) (a b : Nat) (ha : a < 32) (hb : b < 32) : (tcs t)[a * 32 + b]? = some (.bool (t a b)) := by
  have h : a * 32 + b < 1024 := by omega
  have h1 : (a * 32 + b) / 32 = a := by omega
  have h2 : (a * 32 + b) % 32 = b := by omega
  unfold tcs; simp [h, h1, h2]
def updt (t : Tb) (a b : Nat) (v : Bool) : Tb := fun i j => if i = a ∧ j = b then v else t i j
theorem tcs_get (t : Tb) (i : Nat) (hi : i < 1024) : (tcs t)[i]? = some (.bool (t (i / 32) (i % 32))) := by unfold tcs; simp [hi]
theorem tcs_set (t : Tb) (a b : Nat) (hb : b < 32) (v : Bool) : (tcs t).setIfInBounds (a * 32 + b) (.bool v) = tcs (updt t a b v) := by
  apply Array.ext_getElem?
  intro i
  by_cases hi : i < 1024
  · rw [tcs_get _ i hi]
    by_cases h : a * 32 + b = i
    · have h3 : i / 32 = a := by omega
      have h4 : i % 32 = b := by omega
      rw [h, Array.getElem?_setIfInBounds_self_of_lt (by rw [tcs_size]; exact hi), h3, h4]
      simp [updt]
    · have : ¬ (i / 32 = a ∧ i % 32 = b) := by omega
      rw [Array.getElem?_setIfInBounds_ne h, tcs_get t i hi]
      simp [updt, this]
  · rw [Array.getElem?_eq_none (by simp [tcs_size]; omega), Array.getElem?_eq_none (by rw [tcs_size]; omega)]
theorem tcs_congr {t u : Tb} (h : ∀ a b, a < 32 → b < 32 → t a b = u a b) : tcs t = tcs u := by
  unfold tcs
  congr 1
  funext i
  rw [h (i.val / 32) (i.val % 32) (by have := i.isLt; omega) (by omega)]
theorem tcs_one (t : Tb) : (tcs t).all (·.oneCell') = true := by
  rw [Array.all_eq_true]; intro i hi
  have hi' : i < 1024 := by simpa [tcs_size] using hi
  have := tcs_at t (i / 32) (i % 32) (by omega) (by omega)
  rw [show i / 32 * 32 + i % 32 = i by omega] at this
  obtain ⟨_, h⟩ := Array.getElem?_eq_some_iff.1 this
  rw [h]; rfl
theorem tcs_false : Array.replicate 1024 (Value.bool false) = tcs (fun _ _ => false) := by
  apply Array.ext_getElem?
  intro i
  by_cases hi : i < 1024
  · rw [tcs_get _ i hi]; simp [hi]
  · rw [Array.getElem?_eq_none (by simp; omega), Array.getElem?_eq_none (by rw [tcs_size]; omega)]
theorem info_tab : (Try.prog.info? 60).map (·.size) = some 1024 := by kernel_rfl
theorem und_tab : ∃ e, Try.prog.underlying 60 = some (.array 32 e) := ⟨_, Try.underlying60⟩
/-- a table lies in a block -/
def Tt (w : World) (g : Nat) (t : Tb) : Prop := w.heap[g]? = some (.cells (tcs t) 60 (0, 0))
theorem Tt.lt {w : World} {g : Nat} {t : Tb} (h : Tt w g t) : g < w.heap.size := (Array.getElem?_eq_some_iff.1 h).1
theorem Tt.cell {w : World} {g : Nat} {t : Tb} (h : Tt w g t) (a b : Nat) (ha : a < 32) (hb : b < 32) : w.cell? ⟨g, a * 32 + b, none⟩ = some (.bool (t a b)) := by
  rw [cell_of_row w g _ _ _ _ h]; exact tcs_at t a b ha hb
theorem Tt.frozen {w : World} {g : Nat} {t : Tb} (h : Tt w g t) (k : Nat) : w.frozen? ⟨g, k, none⟩ = false := by unfold Tt at h; simp [World.frozen?, h]
theorem Tt.grow {w w' : World} {g : Nat} {t : Tb} (h : Tt w g t) (hg : Grow w w') : Tt w' g t := by unfold Tt; rw [hg.block g h.lt]; exact h
theorem Tt.set {w : World} {g : Nat} {t : Tb} (h : Tt w g t) (a b : Nat) (hb : b < 32) (v : Bool) : Tt (w.setCell ⟨g, a * 32 + b, none⟩ (.bool v)) g (updt t a b v) := by
  unfold Tt
  rw [setCell_eq_setRow w g _ _ _ _ _ h, tcs_set t a b hb]
  exact setRow_heap w g _ _ _ _ h
theorem Tt.set_other {w : World} {g g' : Nat} {t : Tb} (h : Tt w g t) (hne : g ≠ g') (k : Nat) (v : Value) : Tt (w.setCell ⟨g', k, none⟩ v) g t := by
  unfold Tt; rw [Below.heap_setCell _ _ _ _ hne]; exact h
theorem Tt.alloc {w : World} {g : Nat} {t : Tb} (h : Tt w g t) (o : Obj) : Tt (w.alloc o) g t := by unfold Tt; rw [Below.heap_alloc _ _ _ h.lt]; exact h
theorem Tt.drew {w : World} {g : Nat} {t : Tb} (h : Tt w g t) : Tt w.drew g t := h
theorem Tt.new (w : World) (t : Tb) : Tt (w.alloc (.cells (tcs t) 60)) w.heap.size t := heap_alloc_last w _
theorem Tt.put {w : World} {g : Nat} {t t' : Tb} (h : Tt w g t) : Tt (w.setRow g (tcs t')) g t' := setRow_heap w g _ _ _ _ h
theorem Tt.congr {w : World} {g : Nat} {t u : Tb} (h : Tt w g t) (e : ∀ a b, a < 32 → b < 32 → t a b = u a b) : Tt w g u := by unfold Tt at *; rw [← tcs_congr e]; exact h
section
variable {ops : Array Oper} {rest : List Oper} {a : Act} {w : World} {Q : Exit → Act → World → Prop}
theorem ldt {d : Option Tmp} {p : Tmp} {ty : TypeId} {pos : String} {af : Array Edge} (g : Nat) (t : Tb) (hp : a.eval (.tmp p) = .pointer (some ⟨g, 0, none⟩)) (hg : Tt w g t)
    (h : wpList Try.prog ops Q rest (a.put d (.agg (tcs t))) w) : wpList Try.prog ops Q ({ dst := d, op := .load 60 (.tmp p), type := ty, pos := pos, after := af, guard := none } :: rest) a w :=
  wpList_load_row rfl 60 (.tmp p) rfl g hp 60 (tcs t) (0, 0) _ hg Try.underlying60 rfl (by rw [tcs_size]; exact info_tab) h
theorem stt {d : Option Tmp} {p q : Tmp} {ty : TypeId} {pos : String} {af : Array Edge} (g : Nat) (t0 t : Tb) (hp : a.eval (.tmp p) = .pointer (some ⟨g, 0, none⟩)) (hq : a.eval (.tmp q) = .agg (tcs t)) (hg : Tt w g t0)
    (h : wpList Try.prog ops Q rest (a.put d undef) (w.setRow g (tcs t))) : wpList Try.prog ops Q ({ dst := d, op := .store 60 (.tmp p) (.tmp q), type := ty, pos := pos, after := af, guard := none } :: rest) a w :=
  wpList_store_row rfl 60 (.tmp p) (.tmp q) rfl g (tcs t) hp hq 60 (tcs t0) hg (by rw [tcs_size]; exact info_tab) (by rw [tcs_size, tcs_size]) (tcs_one t) h
theorem alt {d : Option Tmp} {ty : TypeId} {pos : String} {af : Array Edge} (g : Nat) (hg : w.heap.size = g) (h : wpList Try.prog ops Q rest (a.put d (.pointer (some ⟨g, 0, none⟩))) (w.alloc (.cells (tcs fun _ _ => false) 60))) :
    wpList Try.prog ops Q ({ dst := d, op := .alloc 60, type := ty, pos := pos, after := af, guard := none } :: rest) a w := by
  subst hg
  refine wpList_plain rfl fun _ hK => ?_
  have hi : (Try.prog.info? 60).map (fun i => (i.zero, i.size)) = some (some (.agg (Array.replicate 1024 (Value.bool false))), 1024) := by kernel_rfl
  have hr : (execOp a.eval { dst := d, op := .alloc 60, type := ty, pos := pos, after := af, guard := none }).run Try.prog w = .ok (.value (.pointer (some ⟨w.heap.size, 0, none⟩))) (w.alloc (.cells (tcs fun _ _ => false) 60)) := by
    have hz := (zero_of_info hi).1 w
    unfold execOp
    rw [← tcs_false]
    simp only [Instr.alloc, newVar, newRow, Sem.run_bind, hz, Result.andThen_ok, Value.cells]
    rfl
  unfold Oper.wp
  rw [hr, Oper.upon_value]
  exact hK _ _ h
end
theorem rest_tab {fn : Func} {p : Tmp} (h : fn.results = #[.cell p 60]) (tmps : Array Value) (w : World) (g : Nat) (t : Tb) (hp : tmps.getD p undef = .pointer (some ⟨g, 0, none⟩)) (hg : Tt w g t) :
    (results fn tmps).run Try.prog w = .ok (.agg (tcs t)) w :=
  results_cell_row h tmps w g 60 (tcs t) (0, 0) _ hp hg Try.underlying60 rfl (by rw [tcs_size]; exact info_tab)

/-- a relation as a table, as far as it is laid -/
def ofT (r : Rl) (a b : Nat) : Tb := fun i j => if i < a ∨ (i = a ∧ j < b) then inn (row r i) j else false
theorem ofT_zero (r : Rl) (i j : Nat) : ofT r 0 0 i j = false := by simp [ofT]
theorem ofT_step (r : Rl) (a b i j : Nat) : updt (ofT r a b) a b (inn (row r a) b) i j = ofT r a (b + 1) i j := by
  unfold updt ofT
  by_cases h : i = a ∧ j = b
  · obtain ⟨rfl, rfl⟩ := h; simp
  · rw [if_neg h]
    have : (i < a ∨ (i = a ∧ j < b)) ↔ (i < a ∨ (i = a ∧ j < b + 1)) := by omega
    simp [this]
theorem ofT_row (r : Rl) (a i j : Nat) (hj : j < 32) : ofT r a 32 i j = ofT r (a + 1) 0 i j := by
  unfold ofT
  have : (i < a ∨ (i = a ∧ j < 32)) ↔ (i < a + 1 ∨ (i = a + 1 ∧ j < 0)) := by omega
  simp only [this]
/-- a relation as a table -/
def tabR (r : Rl) : Tb := fun i j => inn (row r i) j
theorem ofT_full (r : Rl) (i j : Nat) (hi : i < 32) : ofT r 32 0 i j = tabR r i j := by simp [ofT, tabR, hi]
attribute [local irreducible] wpList cells row U aft inn one nil part upd idr crs mns eqB evB stepP plusT invT uni met sqs or2 and2 seq2 allS tcs updt ofT tabR

set_option maxHeartbeats 2000000 in
theorem of_any (r : Rl) (w : World) : Calls Try.prog 52 #[.agg (cells r)] w fun x w' => x = .returned (.agg (tcs (tabR r))) ∧ Grow w w' := by
  have e1 : (w.alloc (.cells (cells r) 28)).heap.size = w.heap.size + 1 := by simp
  have e2 : ((w.alloc (.cells (cells r) 28)).alloc (.cells (tcs fun _ _ => false) 60)).heap.size = w.heap.size + 2 := by simp
  go_enter Try.func52, Try.ntmps52
  go_wp2_with (first | (refine alt _ e1 ?_) | (refine alt _ e2 ?_))
  clear e1 e2
  have h0 : Hid (Grow w (((w.alloc (.cells (cells r) 28)).alloc (.cells (tcs fun _ _ => false) 60)).alloc (.cells (tcs fun _ _ => false) 60))) := (((Grow.refl w).alloc _).alloc _).alloc _
  have h1 : At (((w.alloc (.cells (cells r) 28)).alloc (.cells (tcs fun _ _ => false) 60)).alloc (.cells (tcs fun _ _ => false) 60)) w.heap.size r := ((At.new w r).alloc _).alloc _
  have h2 : Tt (((w.alloc (.cells (cells r) 28)).alloc (.cells (tcs fun _ _ => false) 60)).alloc (.cells (tcs fun _ _ => false) 60)) (w.heap.size + 1) (fun _ _ => false) := by simpa using (Tt.new (w.alloc (.cells (cells r) 28)) (fun _ _ => false)).alloc _
  have h3 : Tt (((w.alloc (.cells (cells r) 28)).alloc (.cells (tcs fun _ _ => false) 60)).alloc (.cells (tcs fun _ _ => false) 60)) (w.heap.size + 2) (fun _ _ => false) := by simpa using Tt.new ((w.alloc (.cells (cells r) 28)).alloc (.cells (tcs fun _ _ => false) 60)) (fun _ _ => false)
  generalize (((w.alloc (.cells (cells r) 28)).alloc (.cells (tcs fun _ _ => false) 60)).alloc (.cells (tcs fun _ _ => false) 60)) = w0 at h0 h1 h2 h3 ⊢
  go_loopw [4] (fun i wr => ∃ k : Nat, k ≤ 32 ∧ i = .int .i64 k ∧ Grow w wr ∧ At wr w.heap.size r ∧ Tt wr (w.heap.size + 1) (fun _ _ => false) ∧ Tt wr (w.heap.size + 2) (ofT r k 0)) (fun i _ => 32 - (intOf i).toNat)
  case atStart => exact ⟨0, by omega, rfl, h0.out, h1, h2, h3.congr (fun i j _ _ => (ofT_zero r i j).symm)⟩
  case round =>
    clear h0 h1 h2 h3
    obtain ⟨k, hk, rfl, hg, hr, hz, ht⟩ := hrel
    by_cases hlt : k < 32
    · have hdk : decide ((k : Int) < 32) = true := by simp; omega
      go_wp2
      go_loopw [5] (fun i wr => ∃ e : Nat, e ≤ 32 ∧ i = .int .i64 e ∧ Grow w wr ∧ At wr w.heap.size r ∧ Tt wr (w.heap.size + 1) (fun _ _ => false) ∧ Tt wr (w.heap.size + 2) (ofT r k e)) (fun i _ => 32 - (intOf i).toNat)
      case atStart => exact ⟨0, by omega, rfl, hg, hr, hz, ht⟩
      case round =>
        clear hg hr hz ht
        obtain ⟨e, he, rfl, hg, hr, hz, ht⟩ := hrel
        by_cases hlt2 : e < 32
        · have hc := hr.cell k hlt
          have hc2 := ht.cell k e hlt hlt2
          have hf := ht.frozen (k * 32 + e)
          have htest := in_test (row r k) e
          have hi1 : (k : Int) < 32 := by omega
          have hi2 : (e : Int) < 32 := by omega
          go_wp2
          go_region
          all_goals go_wp2
          all_goals
            go_roundw
            case rel => exact ⟨e + 1, by omega, by go_num, (bset hg (by omega) _).drew, (hr.set_other (by omega) _ _).drew, (hz.set_other (by omega) _ _).drew, ((ht.set k e hlt2 _).congr (fun i j _ _ => ofT_step r k e i j)).drew⟩
            case measure => simp [intOf]; omega
        · obtain rfl : e = 32 := by omega
          go_wp2
          go_roundw
          case rel => exact ⟨k + 1, by omega, by go_num, hg, hr, hz, ht.congr (fun i j _ hj => ofT_row r k i j hj)⟩
          case measure => simp [intOf]; omega
    · obtain rfl : k = 32 := by omega
      have ht' : Tt wr (w.heap.size + 2) (tabR r) := ht.congr (fun i j hi _ => ofT_full r i j hi)
      clear ht
      go_wp2_with (first | (refine ldt (w.heap.size + 2) (tabR r) (by rfl) ht' ?_) | (refine stt (w.heap.size + 1) (fun _ _ => false) (tabR r) (by rfl) (by rfl) hz ?_))
      exact bodyPost_ret (v := .agg (tcs (tabR r))) (rest_tab rfl _ _ (w.heap.size + 1) _ (by rfl) hz.put) rfl ⟨rfl, below_setRow hg (by omega) _⟩

end Go.Proofs.Ytlbccddhcbcpoaa
