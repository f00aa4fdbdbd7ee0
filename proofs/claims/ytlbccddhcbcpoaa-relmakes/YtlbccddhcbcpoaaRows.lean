/-
  No cell of these rows narrows 'for every input' (looked for: loops, veiled, ifaces, maps, wideKeys, modest, calm, conditions, laid).
  DERIVED. THE GIVEN ROWS OF THIS SEAT. 6 by the template 'for every input the law returns true; each argument reads behind the call as it read before'; 0 by the template 'total and deterministic' (their statements: YtlbccddhcbcpoaaTotals.lean).
  GIVEN WITH THE SEED: the statements are not yours to turn. If you find one false, say at which input.
  Laid BY PROGRAM, IN A SANDBOX (cutbox-rows.mjs): the forced cells as the released guide's own fill.sh prints them over the translation cfa236cb1e9f2baf… (all of the seat's roots in one cut). By AI agents, Wed Nov 11 2026. No macro, syntax, notation, axiom, sorry.
-/
import Derived.Test.YtlbccddhcbcpoaaChecked
import GoSem.Claim
import GoSem.ClaimJoined
import GoSem.ClaimMapViews
import Derived.JoinedTies
import Derived.KernelRfl
namespace Go.Proofs.Ytlbccddhcbcpoaa
/- THE CELL 'sum', in the pinned program and in every row, IS THE sha256 OF THE DUMP (.gsa) THAT YtlbccddhcbcpoaaProg.lean LOADS. Nothing in Lean hashes anything: it is a label: what it is worth is what the hold of that sum in a sandbox is worth. -/
noncomputable def Try.pinned : Pinned := { name := "ytlbccddhcbcpoaa", sum := "cfa236cb1e9f2baf67bf8fbd506017f46074fb6d593f6d6cb7c89637cb303715", checked := Try.checked }
namespace Rows
def none {H : Type} : Left H := { results := [], args := [] }

/-- 'belatedlaw2.RelSets': WHATEVER THE INPUT: true; the input reads as it did. -/
def relSetsSpec : ChangeSpec := { name := "relSets", fn := fun _ => fun
  | [d1, d2, d3, d4, d5] => { results := [.lit (.bool true)], args := [d1, d2, d3, d4, d5] }
  | _ => none }
def relSetsRow : OpenClaim := { program := "ytlbccddhcbcpoaa", sum := "cfa236cb1e9f2baf67bf8fbd506017f46074fb6d593f6d6cb7c89637cb303715", func := "belated/belatedlaw2.RelSets", spec := "relSets", apart := false }
def RelSetsSaid : Prop := relSetsRow.holds Try.pinned (OpenSpec.ofChange relSetsSpec)

/-- ITS FALSE NEIGHBOUR: 'it returns false'. Refute it at one input. -/
def relSetsWrong : ChangeSpec := { name := "relSets", fn := fun _ => fun
  | [d1, d2, d3, d4, d5] => { results := [.lit (.bool false)], args := [d1, d2, d3, d4, d5] }
  | _ => none }
def RelSetsWrongFalsely : Prop := relSetsRow.holds Try.pinned (OpenSpec.ofChange relSetsWrong)

/-- 'belatedlaw2.RelMakes': WHATEVER THE INPUT: true; the input reads as it did. -/
def relMakesSpec : ChangeSpec := { name := "relMakes", fn := fun _ => fun
  | [d] => { results := [.lit (.bool true)], args := [d] }
  | _ => none }
def relMakesRow : OpenClaim := { program := "ytlbccddhcbcpoaa", sum := "cfa236cb1e9f2baf67bf8fbd506017f46074fb6d593f6d6cb7c89637cb303715", func := "belated/belatedlaw2.RelMakes", spec := "relMakes", apart := false }
def RelMakesSaid : Prop := relMakesRow.holds Try.pinned (OpenSpec.ofChange relMakesSpec)

/-- ITS FALSE NEIGHBOUR: 'it returns false'. Refute it at one input. -/
def relMakesWrong : ChangeSpec := { name := "relMakes", fn := fun _ => fun
  | [d] => { results := [.lit (.bool false)], args := [d] }
  | _ => none }
def RelMakesWrongFalsely : Prop := relMakesRow.holds Try.pinned (OpenSpec.ofChange relMakesWrong)

/-- 'belatedlaw2.RelTurns': WHATEVER THE INPUT: true; the input reads as it did. -/
def relTurnsSpec : ChangeSpec := { name := "relTurns", fn := fun _ => fun
  | [d1, d2, d3] => { results := [.lit (.bool true)], args := [d1, d2, d3] }
  | _ => none }
def relTurnsRow : OpenClaim := { program := "ytlbccddhcbcpoaa", sum := "cfa236cb1e9f2baf67bf8fbd506017f46074fb6d593f6d6cb7c89637cb303715", func := "belated/belatedlaw2.RelTurns", spec := "relTurns", apart := false }
def RelTurnsSaid : Prop := relTurnsRow.holds Try.pinned (OpenSpec.ofChange relTurnsSpec)

/-- ITS FALSE NEIGHBOUR: 'it returns false'. Refute it at one input. -/
def relTurnsWrong : ChangeSpec := { name := "relTurns", fn := fun _ => fun
  | [d1, d2, d3] => { results := [.lit (.bool false)], args := [d1, d2, d3] }
  | _ => none }
def RelTurnsWrongFalsely : Prop := relTurnsRow.holds Try.pinned (OpenSpec.ofChange relTurnsWrong)

/-- 'belatedlaw2.RelTells': WHATEVER THE INPUT: true; the input reads as it did. -/
def relTellsSpec : ChangeSpec := { name := "relTells", fn := fun _ => fun
  | [d1, d2, d3] => { results := [.lit (.bool true)], args := [d1, d2, d3] }
  | _ => none }
def relTellsRow : OpenClaim := { program := "ytlbccddhcbcpoaa", sum := "cfa236cb1e9f2baf67bf8fbd506017f46074fb6d593f6d6cb7c89637cb303715", func := "belated/belatedlaw2.RelTells", spec := "relTells", apart := false }
def RelTellsSaid : Prop := relTellsRow.holds Try.pinned (OpenSpec.ofChange relTellsSpec)

/-- ITS FALSE NEIGHBOUR: 'it returns false'. Refute it at one input. -/
def relTellsWrong : ChangeSpec := { name := "relTells", fn := fun _ => fun
  | [d1, d2, d3] => { results := [.lit (.bool false)], args := [d1, d2, d3] }
  | _ => none }
def RelTellsWrongFalsely : Prop := relTellsRow.holds Try.pinned (OpenSpec.ofChange relTellsWrong)

/-- 'belatedlaw2.RelOrders': WHATEVER THE INPUT: true; the input reads as it did. -/
def relOrdersSpec : ChangeSpec := { name := "relOrders", fn := fun _ => fun
  | [d1, d2] => { results := [.lit (.bool true)], args := [d1, d2] }
  | _ => none }
def relOrdersRow : OpenClaim := { program := "ytlbccddhcbcpoaa", sum := "cfa236cb1e9f2baf67bf8fbd506017f46074fb6d593f6d6cb7c89637cb303715", func := "belated/belatedlaw2.RelOrders", spec := "relOrders", apart := false }
def RelOrdersSaid : Prop := relOrdersRow.holds Try.pinned (OpenSpec.ofChange relOrdersSpec)

/-- ITS FALSE NEIGHBOUR: 'it returns false'. Refute it at one input. -/
def relOrdersWrong : ChangeSpec := { name := "relOrders", fn := fun _ => fun
  | [d1, d2] => { results := [.lit (.bool false)], args := [d1, d2] }
  | _ => none }
def RelOrdersWrongFalsely : Prop := relOrdersRow.holds Try.pinned (OpenSpec.ofChange relOrdersWrong)

/-- 'belatedlaw2.RelAlgebra': WHATEVER THE INPUT: true; the input reads as it did. -/
def relAlgebraSpec : ChangeSpec := { name := "relAlgebra", fn := fun _ => fun
  | [d1, d2, d3] => { results := [.lit (.bool true)], args := [d1, d2, d3] }
  | _ => none }
def relAlgebraRow : OpenClaim := { program := "ytlbccddhcbcpoaa", sum := "cfa236cb1e9f2baf67bf8fbd506017f46074fb6d593f6d6cb7c89637cb303715", func := "belated/belatedlaw2.RelAlgebra", spec := "relAlgebra", apart := false }
def RelAlgebraSaid : Prop := relAlgebraRow.holds Try.pinned (OpenSpec.ofChange relAlgebraSpec)

/-- ITS FALSE NEIGHBOUR: 'it returns false'. Refute it at one input. -/
def relAlgebraWrong : ChangeSpec := { name := "relAlgebra", fn := fun _ => fun
  | [d1, d2, d3] => { results := [.lit (.bool false)], args := [d1, d2, d3] }
  | _ => none }
def RelAlgebraWrongFalsely : Prop := relAlgebraRow.holds Try.pinned (OpenSpec.ofChange relAlgebraWrong)

/- THE SECOND FORM. 'bulk': how many values and letters a reading holds, each counted each time it is reached (what is shared counts as often as it is met; a slice's spare places count too). A statement '..UptoSaid' is the law's where the arguments, and the package variables that the reading takes, are together of bulk at most 1048576: NARROWER than '..Said'. Prove '..Said' where nothing that the law and all that it calls make is longer than what came in: it says more and counts as full. Else prove '..UptoSaid'. A law counts once. -/
mutual
def uptoBulk {H : Type} : DataW H → Nat
  | .lit (.string bytes) => bytes.length + 1
  | .lit _ => 1
  | .nil => 1
  | .ptr d => uptoBulk d + 1
  | .slice elems spare => uptoBulkAll elems + uptoBulkAll spare + 1
  | .agg parts => uptoBulkAll parts + 1
  | .iface _ d => uptoBulk d + 1
  | .map entries => uptoBulkEntries entries + 1
  | .held _ => 1
def uptoBulkAll {H : Type} : List (DataW H) → Nat
  | [] => 0
  | d :: r => uptoBulk d + uptoBulkAll r
def uptoBulkEntries {H : Type} : List (Lit × DataW H) → Nat
  | [] => 0
  | x :: r => uptoBulkEntry x + uptoBulkEntries r
def uptoBulkEntry {H : Type} : Lit × DataW H → Nat
  | (.string bytes, d) => bytes.length + uptoBulk d + 1
  | (_, d) => uptoBulk d + 1
 end
def uptoSmall : (H : Type) → List (DataW H) → Bool := fun _ ds => decide (uptoBulkAll ds ≤ 1048576)
def OpenSpec.upto (s : _root_.Go.ChangeSpec) : _root_.Go.OpenSpec := { _root_.Go.OpenSpec.ofChange s with cond := some uptoSmall }

/-- 'belatedlaw2.RelSets', WHERE WHAT IT READS IS OF BULK AT MOST 1048576: true; the input reads as it did. -/
def relSetsUptoRow : OpenClaim := { program := "ytlbccddhcbcpoaa", sum := "cfa236cb1e9f2baf67bf8fbd506017f46074fb6d593f6d6cb7c89637cb303715", func := "belated/belatedlaw2.RelSets", spec := "relSets", apart := false, narrowed := true }
def RelSetsUptoSaid : Prop := relSetsUptoRow.holds Try.pinned (OpenSpec.upto relSetsSpec)

/-- 'belatedlaw2.RelMakes', WHERE WHAT IT READS IS OF BULK AT MOST 1048576: true; the input reads as it did. -/
def relMakesUptoRow : OpenClaim := { program := "ytlbccddhcbcpoaa", sum := "cfa236cb1e9f2baf67bf8fbd506017f46074fb6d593f6d6cb7c89637cb303715", func := "belated/belatedlaw2.RelMakes", spec := "relMakes", apart := false, narrowed := true }
def RelMakesUptoSaid : Prop := relMakesUptoRow.holds Try.pinned (OpenSpec.upto relMakesSpec)

/-- 'belatedlaw2.RelTurns', WHERE WHAT IT READS IS OF BULK AT MOST 1048576: true; the input reads as it did. -/
def relTurnsUptoRow : OpenClaim := { program := "ytlbccddhcbcpoaa", sum := "cfa236cb1e9f2baf67bf8fbd506017f46074fb6d593f6d6cb7c89637cb303715", func := "belated/belatedlaw2.RelTurns", spec := "relTurns", apart := false, narrowed := true }
def RelTurnsUptoSaid : Prop := relTurnsUptoRow.holds Try.pinned (OpenSpec.upto relTurnsSpec)

/-- 'belatedlaw2.RelTells', WHERE WHAT IT READS IS OF BULK AT MOST 1048576: true; the input reads as it did. -/
def relTellsUptoRow : OpenClaim := { program := "ytlbccddhcbcpoaa", sum := "cfa236cb1e9f2baf67bf8fbd506017f46074fb6d593f6d6cb7c89637cb303715", func := "belated/belatedlaw2.RelTells", spec := "relTells", apart := false, narrowed := true }
def RelTellsUptoSaid : Prop := relTellsUptoRow.holds Try.pinned (OpenSpec.upto relTellsSpec)

/-- 'belatedlaw2.RelOrders', WHERE WHAT IT READS IS OF BULK AT MOST 1048576: true; the input reads as it did. -/
def relOrdersUptoRow : OpenClaim := { program := "ytlbccddhcbcpoaa", sum := "cfa236cb1e9f2baf67bf8fbd506017f46074fb6d593f6d6cb7c89637cb303715", func := "belated/belatedlaw2.RelOrders", spec := "relOrders", apart := false, narrowed := true }
def RelOrdersUptoSaid : Prop := relOrdersUptoRow.holds Try.pinned (OpenSpec.upto relOrdersSpec)

/-- 'belatedlaw2.RelAlgebra', WHERE WHAT IT READS IS OF BULK AT MOST 1048576: true; the input reads as it did. -/
def relAlgebraUptoRow : OpenClaim := { program := "ytlbccddhcbcpoaa", sum := "cfa236cb1e9f2baf67bf8fbd506017f46074fb6d593f6d6cb7c89637cb303715", func := "belated/belatedlaw2.RelAlgebra", spec := "relAlgebra", apart := false, narrowed := true }
def RelAlgebraUptoSaid : Prop := relAlgebraUptoRow.holds Try.pinned (OpenSpec.upto relAlgebraSpec)

end Rows
end Go.Proofs.Ytlbccddhcbcpoaa
