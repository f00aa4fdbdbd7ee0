/- A code's run by itself: the walk in memory, its events. -/
import Derived.Test.YtlhompedcphnnaaV4
import Derived.Test.YtlhompedcphnnaaV5
import Derived.Test.YtlhompedcphnnaaEngA
namespace Go.Proofs.Ytlhompedcphnnaa
open Go.RowKit

structure Ev where
  thread : Int
  pos : Int
  at_ : Int
  op : Int
  loc : Int
  mask : Int
  reads : Bool
  writes : Bool
  old : Int
  new_ : Int
  acq : Bool
  weak : Bool
  rel : Bool
  pred : Int
  succ : Int
  deriving DecidableEq
def evC (e : Ev) : Array Value := #[.int .i64 e.thread, .int .i64 e.pos, .int .i64 e.at_, .int .i64 e.op, .int .i64 e.loc, .int .i64 e.mask, .bool e.reads, .bool e.writes, .int .i64 e.old, .int .i64 e.new_, .bool e.acq, .bool e.weak, .bool e.rel, .int .i64 e.pred, .int .i64 e.succ]
def walkC (p : Int) (r : Nat → Int) (rd ev pa : Value) : Array Value := #[.int .i64 p, .int .i64 (r 0), .int .i64 (r 1), .int .i64 (r 2), .int .i64 (r 3), .int .i64 (r 4), .int .i64 (r 5), .int .i64 (r 6), .int .i64 (r 7), rd, ev, pa]
def regsC (r : Nat → Int) : Array Value := #[.int .i64 (r 0), .int .i64 (r 1), .int .i64 (r 2), .int .i64 (r 3), .int .i64 (r 4), .int .i64 (r 5), .int .i64 (r 6), .int .i64 (r 7)]
def updR (r : Nat → Int) (j : Nat) (x : Int) : Nat → Int := fun k => if k = j then x else r k
theorem walk_get {p : Int} {r : Nat → Int} {rd ev pa : Value} : ∀ {j : Nat}, j < 8 → (walkC p r rd ev pa)[1 + j]? = some (.int .i64 (r j))
  | 0, _ | 1, _ | 2, _ | 3, _ | 4, _ | 5, _ | 6, _ | 7, _ => rfl
theorem walk_set {p : Int} {r : Nat → Int} {rd ev pa : Value} {x : Int} : ∀ {j : Nat}, j < 8 → (walkC p r rd ev pa).setIfInBounds (1 + j) (.int .i64 x) = walkC p (updR r j x) rd ev pa
  | 0, _ | 1, _ | 2, _ | 3, _ | 4, _ | 5, _ | 6, _ | 7, _ => by simp [walkC, updR]
theorem walk_size {p : Int} {r : Nat → Int} {rd ev pa : Value} : (walkC p r rd ev pa).size = 12 := rfl
def orR (r : Nat → Int) (q : Int) (x : Int) : Int := if q == -1 then x else r q.toNat
def ev0 (i : Ins) (n p : Int) : Ev := ⟨0, n, p, i.op, 0, 0, rdB i, wrB i, 0, 0, i.acq, i.weak, i.rel, i.pred, i.succ⟩
end Go.Proofs.Ytlhompedcphnnaa
