/- Arrays by value, by parts and by index; the registers that an instruction uses. -/
import Derived.Test.YtlhompedcphnnaaUInts
namespace Go.Proofs.Ytlhompedcphnnaa
open Go.RowKit

section
variable {P : Program} {ops : Array Oper} {a : Act} {w : World} {K : Value → World → Prop} {d : Option Tmp} {ty : TypeId} {pos : String} {af : Array Edge} {gd : Option (Nat × Bool)} {v : Value}
theorem d_buildArr {t n e s m : Nat} {parts : Array (Nat × Operand)} {vs : List (Nat × Value)} {z : Value} {cs : Array Value} (hw : Region.wanted { dst := d, op := .build t parts, type := ty, pos := pos, after := af, guard := gd } (yielded ops a.tmps) = true)
    (hx : (parts.map fun x => (x.1, a.eval x.2)).toList = vs) (ht : arrB P t n e s = true) (hi : (P.info? t).map (fun i => (i.zero, i.size)) = some (some z, m)) (hf : Instr.fill (fun i => some (i * s, s)) z.cells vs = some cs) (h : K (.agg cs) w) :
    Does P ops { dst := d, op := .build t parts, type := ty, pos := pos, after := af, guard := gd } a w K :=
  does_val hw (by
    have hz := (zero_of_info hi).1 w
    have hf' : Instr.fill (fun i => some (i * s, s)) z.cells (parts.map fun x => (x.1, a.eval x.2)).toList = some cs := by rw [hx]; exact hf
    unfold execOp
    simp only [Sem.run_bind, Instr.build, hz, Result.andThen_ok, run_underlying (arr_facts ht).1, run_size (arr_facts ht).2, hf', Sem.run_pure]) h
theorem d_indexV {t n e j : Nat} {x ix : Operand} {cs : Array Value} (hw : Region.wanted { dst := d, op := .index t x ix, type := ty, pos := pos, after := af, guard := gd } (yielded ops a.tmps) = true) (hx : a.eval x = .agg cs) (hi : a.eval ix = .int .i64 (j : Int)) (ht : arrB P t n e 1 = true) (h1 : oneB P e = true) (hj : j < n) (hv : cs[j]? = some v) (h : K v w) :
    Does P ops { dst := d, op := .index t x ix, type := ty, pos := pos, after := af, guard := gd } a w K :=
  does_val hw (by
    have hc : (0 : Int) ≤ (j : Int) ∧ (j : Int) < ((n : Nat) : Int) := ⟨by omega, by omega⟩
    have h2 := part_one (P := P) (t := e) (cs := cs) (o := j * 1) w (agg_no h1 w) (by rw [Nat.mul_one]; exact hv)
    have h3 : (Instr.index t (.agg cs) (.int .i64 (j : Int))).run P w = .ok v w := by
      unfold Instr.index
      simp only [asIntOf, Sem.run_bind, Sem.run_pure, Result.andThen_ok, run_underlying (arr_facts ht).1, if_pos hc, run_size (arr_facts ht).2, Int.toNat_natCast]
      exact h2
    unfold execOp
    simp only [hx, hi, Sem.run_bind, h3, Result.andThen_ok, Sem.run_pure]) h
end
def useX (i : Ins) : List Int := [(plainF i).a, (plainF i).b, (plainF i).index]
def useL (l : List Int) (j : Nat) : List Int := (l.take j).filter fun x => !(x == -1)
def useF (i : Ins) : List Int := (useX i).filter fun x => !(x == -1)
theorem use_yes {l : List Int} {j : Nat} {y : Int} (h : l[j]? = some y) (hy : (y == -1) = false) : useL l (j + 1) = useL l j ++ [y] := by
  unfold useL; rw [List.take_add_one, h, List.filter_append]; simp [hy]
theorem use_no {l : List Int} {j : Nat} {y : Int} (h : l[j]? = some y) (hy : (y == -1) = true) : useL l (j + 1) = useL l j := by
  unfold useL; rw [List.take_add_one, h, List.filter_append]; simp [hy]
theorem arr_of {l : List Int} {j : Nat} {y : Int} (h : l[j]? = some y) : ((l.map (Value.int .i64)).toArray)[j]? = some (.int .i64 y) := by simp [h]
theorem use_len (l : List Int) (j : Nat) : (useL l j).length ≤ l.length := by
  unfold useL
  have := List.length_filter_le (fun x : Int => !(x == -1)) (l.take j)
  simp at this ⊢; omega
end Go.Proofs.Ytlhompedcphnnaa
