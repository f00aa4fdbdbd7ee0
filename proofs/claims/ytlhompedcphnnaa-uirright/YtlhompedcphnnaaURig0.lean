/- A row of numbers that a call returns, while others go on; what a law's ints wants. -/
import Derived.Test.YtlhompedcphnnaaURef
namespace Go.Proofs.Ytlhompedcphnnaa
open Go.RowKit

def cu (M : Nat → Option (Array Value)) (hM : ∀ k, M k = none) (l : List Int) : Cl (SM M) :=
  ⟨fun v w => ∃ b, w.ownsRow b 3 1 v l.length (paE l), fun _ _ _ hS ⟨b, h⟩ => ⟨b, own_sm h hS hM⟩⟩
theorem cu_sl {w : World} {v : Value} {l : List Int} (h : ∃ b, w.ownsRow b 3 1 v l.length (paE l)) : Sl intE 1 w.heap.size w v l := let ⟨_, h⟩ := h; own_int h
theorem use_le (i : Ins) : (useF i).length ≤ 1000000 := by
  have := List.length_filter_le (fun x : Int => !(x == -1)) (useX i)
  have h3 : (useX i).length = 3 := rfl
  unfold useF; omega
end Go.Proofs.Ytlhompedcphnnaa
