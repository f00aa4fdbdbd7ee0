/-
  No cell of these rows narrows 'for every input' (looked for: loops, veiled, ifaces, maps, wideKeys, modest, calm, conditions, laid).
  DERIVED. THE GIVEN ROWS OF THIS SEAT. 3 by the template 'for every input the law returns true; each argument reads behind the call as it read before'; 0 by the template 'total and deterministic' (their statements: YtlbccddhcbcpoabTotals.lean).
  GIVEN WITH THE SEED: the statements are not yours to turn. If you find one false, say at which input.
  Laid BY PROGRAM, IN A SANDBOX (cutbox-rows.mjs): the forced cells as the released guide's own fill.sh prints them over the translation 7a542a5606c245ff… (all of the seat's roots in one cut). By AI agents, Wed Nov 11 2026. No macro, syntax, notation, axiom, sorry.
-/
import Derived.Test.YtlbccddhcbcpoabChecked
import GoSem.Claim
import GoSem.ClaimJoined
import GoSem.ClaimMapViews
import Derived.JoinedTies
import Derived.KernelRfl
namespace Go.Proofs.Ytlbccddhcbcpoab
/- THE CELL 'sum', in the pinned program and in every row, IS THE sha256 OF THE DUMP (.gsa) THAT YtlbccddhcbcpoabProg.lean LOADS. Nothing in Lean hashes anything: it is a label: what it is worth is what the hold of that sum in a sandbox is worth. -/
noncomputable def Try.pinned : Pinned := { name := "ytlbccddhcbcpoab", sum := "7a542a5606c245ff71ddb9000d2852bd1052dab2b84c73623fbe85b0d69146e3", checked := Try.checked }
namespace Rows
def none {H : Type} : Left H := { results := [], args := [] }

/-- 'belatedlaw2.RelLeast': WHATEVER THE INPUT: true; the input reads as it did. -/
def relLeastSpec : ChangeSpec := { name := "relLeast", fn := fun _ => fun
  | [d1, d2] => { results := [.lit (.bool true)], args := [d1, d2] }
  | _ => none }
def relLeastRow : OpenClaim := { program := "ytlbccddhcbcpoab", sum := "7a542a5606c245ff71ddb9000d2852bd1052dab2b84c73623fbe85b0d69146e3", func := "belated/belatedlaw2.RelLeast", spec := "relLeast", apart := false }
def RelLeastSaid : Prop := relLeastRow.holds Try.pinned (OpenSpec.ofChange relLeastSpec)

/-- ITS FALSE NEIGHBOUR: 'it returns false'. Refute it at one input. -/
def relLeastWrong : ChangeSpec := { name := "relLeast", fn := fun _ => fun
  | [d1, d2] => { results := [.lit (.bool false)], args := [d1, d2] }
  | _ => none }
def RelLeastWrongFalsely : Prop := relLeastRow.holds Try.pinned (OpenSpec.ofChange relLeastWrong)

/-- 'belatedlaw2.RelRows': WHATEVER THE INPUT: true; the input reads as it did. -/
def relRowsSpec : ChangeSpec := { name := "relRows", fn := fun _ => fun
  | [d1, d2] => { results := [.lit (.bool true)], args := [d1, d2] }
  | _ => none }
def relRowsRow : OpenClaim := { program := "ytlbccddhcbcpoab", sum := "7a542a5606c245ff71ddb9000d2852bd1052dab2b84c73623fbe85b0d69146e3", func := "belated/belatedlaw2.RelRows", spec := "relRows", apart := false }
def RelRowsSaid : Prop := relRowsRow.holds Try.pinned (OpenSpec.ofChange relRowsSpec)

/-- ITS FALSE NEIGHBOUR: 'it returns false'. Refute it at one input. -/
def relRowsWrong : ChangeSpec := { name := "relRows", fn := fun _ => fun
  | [d1, d2] => { results := [.lit (.bool false)], args := [d1, d2] }
  | _ => none }
def RelRowsWrongFalsely : Prop := relRowsRow.holds Try.pinned (OpenSpec.ofChange relRowsWrong)

/-- 'belatedlaw2.RelSides': WHATEVER THE INPUT: true; the input reads as it did. -/
def relSidesSpec : ChangeSpec := { name := "relSides", fn := fun _ => fun
  | [d1, d2, d3] => { results := [.lit (.bool true)], args := [d1, d2, d3] }
  | _ => none }
def relSidesRow : OpenClaim := { program := "ytlbccddhcbcpoab", sum := "7a542a5606c245ff71ddb9000d2852bd1052dab2b84c73623fbe85b0d69146e3", func := "belated/belatedlaw2.RelSides", spec := "relSides", apart := false }
def RelSidesSaid : Prop := relSidesRow.holds Try.pinned (OpenSpec.ofChange relSidesSpec)

/-- ITS FALSE NEIGHBOUR: 'it returns false'. Refute it at one input. -/
def relSidesWrong : ChangeSpec := { name := "relSides", fn := fun _ => fun
  | [d1, d2, d3] => { results := [.lit (.bool false)], args := [d1, d2, d3] }
  | _ => none }
def RelSidesWrongFalsely : Prop := relSidesRow.holds Try.pinned (OpenSpec.ofChange relSidesWrong)

/- THE SECOND FORM. 'bulk': how many values and letters a reading holds, each counted each time it is reached (what is shared counts as often as it is met; a slice's spare places count too). A statement '..UptoSaid' is the law's where the arguments, and the package variables that the reading takes, are together of bulk at most 1048576: NARROWER than '..Said'. Prove '..Said' where nothing that the law and all that it calls make is longer than what came in: it says more and counts as full. Else prove '..UptoSaid'. A law counts once. -/
mutual
def uptoBulk {H : Type} : DataW H → Nat
  | .lit (.string bytes) => bytes.length + 1
  | .lit _ => 1
  | .nil => 1
  | .ptr d => uptoBulk d + 1
  | .slice elems spare => uptoBulkAll elems + uptoBulkAll spare + 1
  | .agg parts => uptoBulkAll parts + 1
  | .iface _ d => uptoBulk d + 1
  | .map entries => uptoBulkEntries entries + 1
  | .held _ => 1
def uptoBulkAll {H : Type} : List (DataW H) → Nat
  | [] => 0
  | d :: r => uptoBulk d + uptoBulkAll r
def uptoBulkEntries {H : Type} : List (Lit × DataW H) → Nat
  | [] => 0
  | x :: r => uptoBulkEntry x + uptoBulkEntries r
def uptoBulkEntry {H : Type} : Lit × DataW H → Nat
  | (.string bytes, d) => bytes.length + uptoBulk d + 1
  | (_, d) => uptoBulk d + 1
 end
def uptoSmall : (H : Type) → List (DataW H) → Bool := fun _ ds => decide (uptoBulkAll ds ≤ 1048576)
def OpenSpec.upto (s : _root_.Go.ChangeSpec) : _root_.Go.OpenSpec := { _root_.Go.OpenSpec.ofChange s with cond := some uptoSmall }

/-- 'belatedlaw2.RelLeast', WHERE WHAT IT READS IS OF BULK AT MOST 1048576: true; the input reads as it did. -/
def relLeastUptoRow : OpenClaim := { program := "ytlbccddhcbcpoab", sum := "7a542a5606c245ff71ddb9000d2852bd1052dab2b84c73623fbe85b0d69146e3", func := "belated/belatedlaw2.RelLeast", spec := "relLeast", apart := false, narrowed := true }
def RelLeastUptoSaid : Prop := relLeastUptoRow.holds Try.pinned (OpenSpec.upto relLeastSpec)

/-- 'belatedlaw2.RelRows', WHERE WHAT IT READS IS OF BULK AT MOST 1048576: true; the input reads as it did. -/
def relRowsUptoRow : OpenClaim := { program := "ytlbccddhcbcpoab", sum := "7a542a5606c245ff71ddb9000d2852bd1052dab2b84c73623fbe85b0d69146e3", func := "belated/belatedlaw2.RelRows", spec := "relRows", apart := false, narrowed := true }
def RelRowsUptoSaid : Prop := relRowsUptoRow.holds Try.pinned (OpenSpec.upto relRowsSpec)

/-- 'belatedlaw2.RelSides', WHERE WHAT IT READS IS OF BULK AT MOST 1048576: true; the input reads as it did. -/
def relSidesUptoRow : OpenClaim := { program := "ytlbccddhcbcpoab", sum := "7a542a5606c245ff71ddb9000d2852bd1052dab2b84c73623fbe85b0d69146e3", func := "belated/belatedlaw2.RelSides", spec := "relSides", apart := false, narrowed := true }
def RelSidesUptoSaid : Prop := relSidesUptoRow.holds Try.pinned (OpenSpec.upto relSidesSpec)

end Rows
end Go.Proofs.Ytlbccddhcbcpoab
