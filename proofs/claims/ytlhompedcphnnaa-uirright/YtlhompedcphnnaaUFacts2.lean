/- Closed facts on the types and functions of the program. -/
import Derived.Test.YtlhompedcphnnaaUSpec2
namespace Go.Proofs.Ytlhompedcphnnaa
open Go.RowKit
set_option linter.unusedSimpArgs false
set_option linter.unusedVariables false
theorem ent10 : ((Try.prog.funcs[10]?).map fun fn => (fn.name == "runtime.NumGoroutine", fn.body.isNone)) = some (false, false) := by kernel_rfl
theorem ent22 : ((Try.prog.funcs[22]?).map fun fn => (fn.name == "runtime.NumGoroutine", fn.body.isNone)) = some (false, false) := by kernel_rfl
theorem ent23 : ((Try.prog.funcs[23]?).map fun fn => (fn.name == "runtime.NumGoroutine", fn.body.isNone)) = some (false, false) := by kernel_rfl
theorem ent24 : ((Try.prog.funcs[24]?).map fun fn => (fn.name == "runtime.NumGoroutine", fn.body.isNone)) = some (false, false) := by kernel_rfl
theorem ent25 : ((Try.prog.funcs[25]?).map fun fn => (fn.name == "runtime.NumGoroutine", fn.body.isNone)) = some (false, false) := by kernel_rfl
theorem ent32 : ((Try.prog.funcs[32]?).map fun fn => (fn.name == "runtime.NumGoroutine", fn.body.isNone)) = some (false, false) := by kernel_rfl
theorem ent33 : ((Try.prog.funcs[33]?).map fun fn => (fn.name == "runtime.NumGoroutine", fn.body.isNone)) = some (false, false) := by kernel_rfl
theorem ent34 : ((Try.prog.funcs[34]?).map fun fn => (fn.name == "runtime.NumGoroutine", fn.body.isNone)) = some (false, false) := by kernel_rfl
theorem ent9 : ((Try.prog.funcs[9]?).map fun fn => (fn.name == "runtime.NumGoroutine", fn.body.isNone)) = some (false, false) := by kernel_rfl
theorem one35 : oneB Try.prog 35 = true := by kernel_rfl
theorem slc34 : sliceB Try.prog 34 35 1 = true := by kernel_rfl
theorem slc35 : sliceB Try.prog 35 23 17 = true := by kernel_rfl
end Go.Proofs.Ytlhompedcphnnaa
