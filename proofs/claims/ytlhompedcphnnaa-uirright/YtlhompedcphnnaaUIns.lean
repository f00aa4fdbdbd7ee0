/- An instruction as Go lays it: seventeen cells. -/
import Derived.Test.YtlhompedcphnnaaBMore
import Derived.Test.YtlhompedcphnnaaEngD
import Derived.Deep.WholeRow
import Derived.Deep.MidRow
namespace Go.Proofs.Ytlhompedcphnnaa
open Go.RowKit

structure Ins where
  op : Int
  dst : Int
  a : Int
  b : Int
  imm : Int
  loc : Int
  off : Int
  index : Int
  size : Int
  fn : Int
  acq : Bool
  weak : Bool
  rel : Bool
  pred : Int
  succ : Int
  to : Int
  zero : Bool
  deriving DecidableEq

def insC (i : Ins) : Array Value := #[.int .i64 i.op, .int .i64 i.dst, .int .i64 i.a, .int .i64 i.b, .int .i64 i.imm, .int .i64 i.loc, .int .i64 i.off, .int .i64 i.index, .int .i64 i.size, .int .i64 i.fn,
  .bool i.acq, .bool i.weak, .bool i.rel, .int .i64 i.pred, .int .i64 i.succ, .int .i64 i.to, .bool i.zero]







set_option maxHeartbeats 400000 in
theorem isBranch_any (i : Ins) (w : World) : Calls Try.prog 30 #[.agg (insC i)] w fun e w' => e = .returned (.bool (i.op == 9)) ∧ Grow w w' := by
  unfold insC
  go_enter Try.func30, Try.ntmps30
  go_wp2
  go_outline
  go_ret
  exact ⟨rfl, (Grow.refl _).alloc _⟩
end Go.Proofs.Ytlhompedcphnnaa
