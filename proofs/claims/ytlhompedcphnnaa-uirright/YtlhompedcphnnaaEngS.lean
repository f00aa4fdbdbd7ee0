/- Slices for the engine: read by index, their lengths; slices made of parts; arrays in memory by index; calls of function values; sums. -/
import Derived.Test.YtlhompedcphnnaaEngE
import Derived.Maps.AppendAt
namespace Go.Proofs.Ytlhompedcphnnaa
open Go.RowKit

/-- a slice's elements, laid one behind the other in memory below B -/
def Sl {α : Type} (enc : α → List Value) (s B : Nat) (w : World) (v : Value) (l : List α) : Prop :=
  ∃ ao cap, v = .slice ao l.length cap ∧ l.length ≤ cap ∧ ∀ j x, l[j]? = some x → ∃ b o, ao = some ⟨b, o, none⟩ ∧ b < B ∧ w.rangeAt b (o + j * s) (enc x)
section
variable {α : Type} {enc : α → List Value} {s B : Nat} {w w' : World} {v : Value} {l : List α}
theorem range_below {b o : Nat} {cs : List Value} (hr : w.rangeAt b o cs) (hb : Below B w w') (h : b < B) : w'.rangeAt b o cs := fun j x hx => by
  rw [hb.cell (p := ⟨b, o + j, none⟩) h]; exact hr j x hx
theorem range_upd {b o g : Nat} {cs : List Value} (hr : w.rangeAt b o cs) (hu : Upd g w w') (h : b ≠ g) : w'.rangeAt b o cs := fun j x hx => by
  rw [World.cell?_of_block (w := w) (hu.block b h)]; exact hr j x hx
theorem ne_of_beq {a b : Int} (h : (a == b) = false) : a ≠ b := by simpa using h
theorem Sl.below (h : Sl enc s B w v l) (hb : Below B w w') : Sl enc s B w' v l := by
  obtain ⟨ao, cap, hv, hlc, he⟩ := h
  refine ⟨ao, cap, hv, hlc, fun j x hx => ?_⟩
  obtain ⟨b, o, h1, h2, h3⟩ := he j x hx
  exact ⟨b, o, h1, h2, range_below h3 hb h2⟩
theorem Sl.mono {B' : Nat} (h : Sl enc s B w v l) (hB : B ≤ B') : Sl enc s B' w v l := by
  obtain ⟨ao, cap, hv, hlc, he⟩ := h
  refine ⟨ao, cap, hv, hlc, fun j x hx => ?_⟩
  obtain ⟨b, o, h1, h2, h3⟩ := he j x hx
  exact ⟨b, o, h1, Nat.lt_of_lt_of_le h2 hB, h3⟩
theorem Sl.form (h : Sl enc s B w v l) : ∃ ao cap, v = .slice ao l.length cap := let ⟨ao, cap, hv, _, _⟩ := h; ⟨ao, cap, hv⟩
theorem Sl.nil : Sl enc s B w (.slice none 0 0) ([] : List α) := ⟨none, 0, rfl, Nat.le_refl _, fun j x h => by simp at h⟩
end
section
variable {P : Program} {ops : Array Oper} {a : Act} {w : World} {K : Value → World → Prop} {d : Option Tmp} {ty : TypeId} {pos : String} {af : Array Edge} {gd : Option (Nat × Bool)} {v : Value}
def sliceB (P : Program) (t e s : Nat) : Bool := (match P.underlying t with | some (.slice e') => e' == e | _ => false) && ((P.info? e).map (·.size) == some s)
theorem slice_facts {t e s : Nat} (h : sliceB P t e s = true) : P.underlying t = some (.slice e) ∧ (P.info? e).map (·.size) = some s := by
  unfold sliceB at h
  rw [Bool.and_eq_true] at h
  refine ⟨?_, by simpa using h.2⟩
  cases hq : P.underlying t with
  | none => simp [hq] at h
  | some dd => cases dd <;> simp_all
theorem run_size {e s : Nat} (h : (P.info? e).map (·.size) = some s) (w : World) : (sizeOf e).run P w = .ok s w := by
  cases hq : P.info? e with
  | none => simp [hq] at h
  | some i => simp [hq] at h; simp [sizeOf, typeInfo, hq, h]
theorem d_len {x : Operand} {t e s n : Nat} (hw : Region.wanted { dst := d, op := .call { callee := .builtin .len, args := #[x], argTypes := #[t] }, type := ty, pos := pos, after := af, guard := gd } (yielded ops a.tmps) = true) (hx : a.eval x = v) (ht : sliceB P t e s = true)
    (hv : ∃ ao cap, v = .slice ao n cap) (h : K (.int .i64 (n : Int)) w) : Does P ops { dst := d, op := .call { callee := .builtin .len, args := #[x], argTypes := #[t] }, type := ty, pos := pos, after := af, guard := gd } a w K :=
  does_val hw (by
    obtain ⟨ao, cap, hv⟩ := hv
    have hm : (#[x] : Array Operand).map a.eval = #[.slice ao n cap] := by simp only [List.map_toArray, List.map_cons, List.map_nil]; rw [hx, hv]
    unfold execOp
    simp only [resolve, Sem.run_bind, Sem.run_pure, Result.andThen_ok, invoke, builtin, hm]
    simp [Builtin.len_, run_underlying (slice_facts ht).1, goInt]) h
theorem d_index {α : Type} {enc : α → List Value} {t e s B j : Nat} {x ix : Operand} {l : List α} {y : α} (hw : Region.wanted { dst := d, op := .indexAddr t x ix, type := ty, pos := pos, after := af, guard := gd } (yielded ops a.tmps) = true) (hx : a.eval x = v) (hi : a.eval ix = .int .i64 (j : Int))
    (ht : sliceB P t e s = true) (hs : Sl enc s B w v l) (hy : l[j]? = some y) (h : ∀ b o, b < B → w.rangeAt b o (enc y) → K (.pointer (some ⟨b, o, none⟩)) w) :
    Does P ops { dst := d, op := .indexAddr t x ix, type := ty, pos := pos, after := af, guard := gd } a w K := by
  obtain ⟨ao, cap, hv, _, he⟩ := hs
  obtain ⟨b, o, hao, hb, hr⟩ := he j y hy
  have hj : j < l.length := (List.getElem?_eq_some_iff.1 hy).1
  refine does_val (v := .pointer (some ⟨b, o + j * s, none⟩)) hw ?_ (h b _ hb hr)
  subst hao; subst hv
  have hc : (0 : Int) ≤ (j : Int) ∧ (j : Int) < ((l.length : Nat) : Int) := ⟨by omega, by omega⟩
  have hq : (Instr.indexAt t (.slice (some ⟨b, o, none⟩) l.length cap) (.int .i64 (j : Int))).run P w = .ok (.pointer (some ⟨b, o + j * s, none⟩)) w := by
    unfold Instr.indexAt
    simp only [asIntOf, Sem.run_bind, Sem.run_pure, Result.andThen_ok, run_underlying (slice_facts ht).1, if_pos hc, run_size (slice_facts ht).2, Int.toNat_natCast, Addr.add_mid]
  unfold execOp
  simp only [hx, hi, Sem.run_bind, hq, Sem.run_pure, Result.andThen_ok]
/-- where element j of a slice of n lies -/
def IxAt (v : Value) (n j s b o : Nat) : Prop := ∃ o0 cap, v = .slice (some ⟨b, o0, none⟩) n cap ∧ o = o0 + j * s
theorem Sl.at {α : Type} {enc : α → List Value} {s B j : Nat} {l : List α} {y : α} (hs : Sl enc s B w v l) (hy : l[j]? = some y) : ∃ b o, b < B ∧ w.rangeAt b o (enc y) ∧ IxAt v l.length j s b o := by
  obtain ⟨ao, cap, hv, _, he⟩ := hs
  obtain ⟨b, o, hao, hb, hr⟩ := he j y hy
  exact ⟨b, o + j * s, hb, hr, o, cap, by rw [hv, hao], rfl⟩
theorem d_indexAt {t e s n j b o : Nat} {x ix : Operand} (hw : Region.wanted { dst := d, op := .indexAddr t x ix, type := ty, pos := pos, after := af, guard := gd } (yielded ops a.tmps) = true) (hx : a.eval x = v) (hi : a.eval ix = .int .i64 (j : Int))
    (ht : sliceB P t e s = true) (hix : IxAt v n j s b o) (hj : j < n) (h : K (.pointer (some ⟨b, o, none⟩)) w) :
    Does P ops { dst := d, op := .indexAddr t x ix, type := ty, pos := pos, after := af, guard := gd } a w K := by
  obtain ⟨o0, cap, hv, ho⟩ := hix
  refine does_val (v := .pointer (some ⟨b, o, none⟩)) hw ?_ h
  subst hv; subst ho
  have hc : (0 : Int) ≤ (j : Int) ∧ (j : Int) < ((n : Nat) : Int) := ⟨by omega, by omega⟩
  have hq : (Instr.indexAt t (.slice (some ⟨b, o0, none⟩) n cap) (.int .i64 (j : Int))).run P w = .ok (.pointer (some ⟨b, o0 + j * s, none⟩)) w := by
    unfold Instr.indexAt
    simp only [asIntOf, Sem.run_bind, Sem.run_pure, Result.andThen_ok, run_underlying (slice_facts ht).1, if_pos hc, run_size (slice_facts ht).2, Int.toNat_natCast, Addr.add_mid]
  unfold execOp
  simp only [hx, hi, Sem.run_bind, hq, Sem.run_pure, Result.andThen_ok]
theorem range_sm {M : Nat → Option (Array Value)} {w w' : World} {b o : Nat} {cs : List Value} (hr : w.rangeAt b o cs) (h : SM M w w') (hb : b < w.heap.size) (hM : M b = none) : w'.rangeAt b o cs := fun j x hx => by
  rw [World.cell?_of_block (w := w) (h.block b hb hM)]; exact hr j x hx
theorem get_lt {α : Type} {l : List α} {j : Nat} {y : α} (h : l[j]? = some y) : j < l.length := (List.getElem?_eq_some_iff.1 h).1
/-- an array in memory, by index -/
def arrB (P : Program) (t n e s : Nat) : Bool := (match P.underlying t with | some (.array n' e') => n' == n && e' == e | _ => false) && ((P.info? e).map (·.size) == some s)
theorem arr_facts {t n e s : Nat} (h : arrB P t n e s = true) : P.underlying t = some (.array n e) ∧ (P.info? e).map (·.size) = some s := by
  unfold arrB at h
  rw [Bool.and_eq_true] at h
  refine ⟨?_, by simpa using h.2⟩
  cases hq : P.underlying t with
  | none => simp [hq] at h
  | some dd => cases dd <;> simp_all
theorem d_indexArr {t n e s g o j : Nat} {x ix : Operand} (hw : Region.wanted { dst := d, op := .indexAddr t x ix, type := ty, pos := pos, after := af, guard := gd } (yielded ops a.tmps) = true) (hx : a.eval x = .pointer (some ⟨g, o, none⟩)) (hi : a.eval ix = .int .i64 (j : Int))
    (ht : arrB P t n e s = true) (hj : j < n) (h : K (.pointer (some ⟨g, o + j * s, none⟩)) w) : Does P ops { dst := d, op := .indexAddr t x ix, type := ty, pos := pos, after := af, guard := gd } a w K :=
  does_val hw (by
    have hc : (0 : Int) ≤ (j : Int) ∧ (j : Int) < ((n : Nat) : Int) := ⟨by omega, by omega⟩
    have hq : (Instr.indexAt t (.pointer (some ⟨g, o, none⟩)) (.int .i64 (j : Int))).run P w = .ok (.pointer (some ⟨g, o + j * s, none⟩)) w := by
      unfold Instr.indexAt
      simp only [asIntOf, Sem.run_bind, Sem.run_pure, Result.andThen_ok, run_underlying (arr_facts ht).1, if_pos hc, run_size (arr_facts ht).2, Int.toNat_natCast, Addr.add_mid, Instr.sureAddr]
    unfold execOp
    simp only [hx, hi, Sem.run_bind, hq, Sem.run_pure, Result.andThen_ok]) h
theorem d_nilCheck {x : Operand} {g o : Nat} (hw : Region.wanted { dst := d, op := .nilCheck x, type := ty, pos := pos, after := af, guard := gd } (yielded ops a.tmps) = true) (hx : a.eval x = .pointer (some ⟨g, o, none⟩)) (h : K (.pointer (some ⟨g, o, none⟩)) w) :
    Does P ops { dst := d, op := .nilCheck x, type := ty, pos := pos, after := af, guard := gd } a w K :=
  does_val hw (by unfold execOp; simp only [hx, Sem.run_pure]) h
theorem d_loadMid {t b o : Nat} {x : Operand} {cs : Array Value} (hw : Region.wanted { dst := d, op := .load t x, type := ty, pos := pos, after := af, guard := gd } (yielded ops a.tmps) = true) (hx : a.eval x = .pointer (some ⟨b, o, none⟩)) (h1 : rowB P t cs.size = true)
    (hr : w.rangeAt b o cs.toList) (h : K (.agg cs) w) : Does P ops { dst := d, op := .load t x, type := ty, pos := pos, after := af, guard := gd } a w K :=
  does_val hw (by
    obtain ⟨⟨dd, h2, h3, _⟩, h4⟩ := row_facts h1
    have := run_loadAt_mid (P := P) w b o t cs.toList dd hr h2 h3 (by simpa using h4)
    unfold execOp
    simp only [hx, Sem.run_bind, this, Result.andThen_ok, Sem.run_pure, Array.toArray_toList]) h
theorem Blk.range {g o n : Nat} {cs : Array Value} {t : TypeId} (hb : Blk w g cs t) : w.rangeAt g o (cs.extract o (o + n)).toList := World.rangeAt_of_block hb o n
theorem d_callv {x : Operand} {f : FuncId} {args : Array Operand} {ats : Array TypeId} {vs : Array Value} {R : Ending → World → Prop} (hw : Region.wanted { dst := d, op := .call { callee := .value x, args := args, argTypes := ats }, type := ty, pos := pos, after := af, guard := gd } (yielded ops a.tmps) = true)
    (hf : a.eval x = .func (.func f) #[] #[]) (hent : ((P.funcs[f]?).map fun fn => (fn.name == "runtime.NumGoroutine", fn.body.isNone)) = some (false, false)) (hx : args.map a.eval = vs) (hc : Calls P f vs w R) (h : ∀ e w', R e w' → ∃ v, e = .returned v ∧ K v w') :
    Does P ops { dst := d, op := .call { callee := .value x, args := args, argTypes := ats }, type := ty, pos := pos, after := af, guard := gd } a w K :=
  does_enter hw (by
    subst hx
    unfold execOp
    simp only [resolve, hf, Sem.run_bind, Deferred.ofValue, Sem.run_pure, Result.andThen_ok, invoke, Array.append_empty, Array.empty_append, enters hent]) hc h
end
section
variable {P : Program} {t : TypeId} (x y : Operand) (a b : Int) (w : World)
theorem b_add (h1 : -9223372036854775808 ≤ a + b) (h2 : a + b ≤ 9223372036854775807) : (eqGuard .add t x y (.int .i64 a) (.int .i64 b)).run P w = .ok () w ∧ (binOp .add t (.int .i64 a) (.int .i64 b)).run P w = .ok (.int .i64 (a + b)) w := by
  refine ⟨by simp [eqGuard], ?_⟩
  have : IntKind.wrap .i64 (a + b) = a + b := by simp only [IntKind.wrap, IntKind.signed, IntKind.bits]; simp; omega
  simp [binOp, this, go_sem]
end
end Go.Proofs.Ytlhompedcphnnaa
