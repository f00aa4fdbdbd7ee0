/- What the functions of chapter 3 on single instructions come to. -/
import Derived.Test.YtlhompedcphnnaaEngS
import Derived.Test.YtlhompedcphnnaaUIns
namespace Go.Proofs.Ytlhompedcphnnaa
open Go.RowKit

def regB (r : Int) : Bool := decide (r ≥ 0) && decide (r < 8)
def ronB (r : Int) : Bool := r == -1 || regB r
def fenB (k : Int) : Bool := k == 1 || k == 2 || k == 3
def accB (i : Ins) : Bool := decide (i.loc ≥ 0) && decide (i.loc < 3) && ronB i.index && !(maskR i.off i.size == 0)
def immF (i : Ins) (r : Int) : Int := if r == -1 then i.imm else 0
def rdB (i : Ins) : Bool := i.op == 4 || i.op == 6
def wrB (i : Ins) : Bool := i.op == 5 || i.op == 6
def opB (i : Ins) : Bool := rdB i || wrB i
def plainF (i : Ins) : Ins where
  op := i.op
  dst := if i.op == 1 || i.op == 2 || i.op == 3 || i.op == 4 || i.op == 6 then i.dst else -1
  a := if i.op == 2 || i.op == 3 || i.op == 5 || i.op == 6 || i.op == 9 then i.a else -1
  b := if i.op == 3 then i.b else -1
  imm := if i.op == 1 then i.imm else if i.op == 3 then immF i i.b else if i.op == 5 then immF i i.a else 0
  loc := if opB i then i.loc else 0
  off := if opB i then i.off else 0
  index := if opB i then i.index else -1
  size := if opB i then i.size else 0
  fn := if i.op == 3 || i.op == 6 then i.fn else 0
  acq := if i.op == 4 || i.op == 6 then i.acq else false
  weak := if i.op == 4 then i.weak else false
  rel := if i.op == 5 || i.op == 6 then i.rel else false
  pred := if i.op == 7 then i.pred else 0
  succ := if i.op == 7 then i.succ else 0
  to := if i.op == 9 then i.to else 0
  zero := if i.op == 9 then i.zero else false
def soundB (i : Ins) : Bool :=
  if i.op == 1 then regB i.dst else
  if i.op == 2 then regB i.dst && regB i.a else
  if i.op == 3 then regB i.dst && regB i.a && ronB i.b && decide (i.fn ≥ 1) && decide (i.fn ≤ 5) else
  if i.op == 4 then regB i.dst && accB i && !(i.acq && i.weak) else
  if i.op == 5 then ronB i.a && accB i else
  if i.op == 6 then regB i.dst && regB i.a && accB i && (i.fn == 6 || i.fn == 1) else
  if i.op == 7 then fenB i.pred && fenB i.succ else
  if i.op == 8 then true else
  if i.op == 9 then regB i.a else false
def plcB (i : Ins) : Bool := decide (i.loc ≥ 0) && decide (i.loc < 3) && !(maskR i.off i.size == 0) && (i.index == -1 || regB i.index)
def bareF (i : Ins) : Ins where
  op := 0
  dst := if i.op == 1 || i.op == 2 || i.op == 3 || i.op == 4 || i.op == 6 then -1 else i.dst
  a := if i.op == 2 || i.op == 3 || i.op == 5 || i.op == 6 || i.op == 9 then -1 else i.a
  b := if i.op == 3 then -1 else i.b
  imm := if i.op == 1 || i.op == 3 || i.op == 5 then 0 else i.imm
  loc := if opB i then 0 else i.loc
  off := if opB i then 0 else i.off
  index := if opB i then -1 else i.index
  size := if opB i then 0 else i.size
  fn := if i.op == 3 || i.op == 6 then 0 else i.fn
  acq := if i.op == 4 || i.op == 6 then false else i.acq
  weak := if i.op == 4 then false else i.weak
  rel := if i.op == 5 || i.op == 6 then false else i.rel
  pred := if i.op == 7 then 0 else i.pred
  succ := if i.op == 7 then 0 else i.succ
  to := if i.op == 9 then 0 else i.to
  zero := if i.op == 9 then false else i.zero
def fineB (i : Ins) : Bool :=
  if i.op == 1 then regB i.dst else
  if i.op == 2 then regB i.dst && regB i.a else
  if i.op == 3 then regB i.dst && regB i.a && decide (i.fn ≥ 1) && decide (i.fn ≤ 5) && (i.b == -1 || regB i.b && i.imm == 0) else
  if i.op == 4 then regB i.dst && plcB i && !(i.acq && i.weak) else
  if i.op == 5 then plcB i && (i.a == -1 || regB i.a && i.imm == 0) else
  if i.op == 6 then regB i.dst && regB i.a && plcB i && (i.fn == 6 || i.fn == 1) else
  if i.op == 7 then decide (i.pred ≥ 1) && decide (i.pred ≤ 3) && decide (i.succ ≥ 1) && decide (i.succ ≤ 3) else
  if i.op == 8 then true else
  if i.op == 9 then regB i.a else false
def blank : Ins := ⟨0, -1, -1, -1, 0, 0, 0, -1, 0, 0, false, false, false, 0, 0, 0, false⟩
def insEq (i j : Ins) : Bool := decide (i = j)
def offsI : List (Nat × Bool) := [(0, false), (1, false), (2, false), (3, false), (4, false), (5, false), (6, false), (7, false), (8, false), (9, false), (10, true), (11, true), (12, true), (13, false), (14, false), (15, false), (16, true)]
theorem flat_ins : flatT Try.prog 23 = some offsI := by kernel_rfl
theorem all_ins (i j : Ins) : [i.op == j.op, i.dst == j.dst, i.a == j.a, i.b == j.b, i.imm == j.imm, i.loc == j.loc, i.off == j.off, i.index == j.index, i.size == j.size, i.fn == j.fn, i.acq == j.acq, i.weak == j.weak, i.rel == j.rel, i.pred == j.pred, i.succ == j.succ, i.to == j.to, i.zero == j.zero].all id = insEq i j := by
  unfold insEq
  rw [Bool.eq_iff_iff, decide_eq_true_iff]
  cases i; cases j
  simp
theorem eq_ins (i j : Ins) (x y : Operand) (w : World) (r : Bool) (h : insEq i j = r) : (eqGuard .eql 23 x y (.agg (insC i)) (.agg (insC j))).run Try.prog w = .ok () w ∧ (binOp .eql 23 (.agg (insC i)) (.agg (insC j))).run Try.prog w = .ok (.bool r) w := by
  have := (eq_flat (P := Try.prog) (xs := insC i) (ys := insC j) w x y flat_ins rfl).1
  rw [all_ins, h] at this; exact this
theorem ne_ins (i j : Ins) (x y : Operand) (w : World) (r : Bool) (h : (!insEq i j) = r) : (eqGuard .neq 23 x y (.agg (insC i)) (.agg (insC j))).run Try.prog w = .ok () w ∧ (binOp .neq 23 (.agg (insC i)) (.agg (insC j))).run Try.prog w = .ok (.bool r) w := by
  have := (eq_flat (P := Try.prog) (xs := insC i) (ys := insC j) w x y flat_ins rfl).2
  rw [all_ins, h] at this; exact this
def rightR (i : Ins) (at_ n : Int) : Int :=
  if insEq i (plainF i) && soundB i then (if i.op == 9 && (decide (i.to ≤ at_) || decide (i.to > n)) then 35 else 0) else 34
def givesF (i : Ins) : Int := (plainF i).dst
theorem plc_acc (i : Ins) : plcB i = accB i := by
  unfold plcB accB ronB
  cases decide (i.loc ≥ 0) <;> cases decide (i.loc < 3) <;> cases (maskR i.off i.size == 0) <;> simp
end Go.Proofs.Ytlhompedcphnnaa
