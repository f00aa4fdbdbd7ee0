/- Closed facts on the types and functions of the program. -/
import Derived.Test.YtlhompedcphnnaaUWalk
namespace Go.Proofs.Ytlhompedcphnnaa
open Go.RowKit
set_option linter.unusedSimpArgs false
set_option linter.unusedVariables false
theorem arr43 : arrB Try.prog 43 8 3 1 = true := by kernel_rfl
theorem elm30 : elemB Try.prog 30 3 1 8 = true := by kernel_rfl
theorem elm44 : elemB Try.prog 44 52 15 96 = true := by kernel_rfl
theorem ent46 : ((Try.prog.funcs[46]?).map fun fn => (fn.name == "runtime.NumGoroutine", fn.body.isNone)) = some (false, false) := by kernel_rfl
theorem ent47 : ((Try.prog.funcs[47]?).map fun fn => (fn.name == "runtime.NumGoroutine", fn.body.isNone)) = some (false, false) := by kernel_rfl
theorem ent48 : ((Try.prog.funcs[48]?).map fun fn => (fn.name == "runtime.NumGoroutine", fn.body.isNone)) = some (false, false) := by kernel_rfl
theorem ent49 : ((Try.prog.funcs[49]?).map fun fn => (fn.name == "runtime.NumGoroutine", fn.body.isNone)) = some (false, false) := by kernel_rfl
theorem ent57 : ((Try.prog.funcs[57]?).map fun fn => (fn.name == "runtime.NumGoroutine", fn.body.isNone)) = some (false, false) := by kernel_rfl
theorem ent58 : ((Try.prog.funcs[58]?).map fun fn => (fn.name == "runtime.NumGoroutine", fn.body.isNone)) = some (false, false) := by kernel_rfl
theorem ent59 : ((Try.prog.funcs[59]?).map fun fn => (fn.name == "runtime.NumGoroutine", fn.body.isNone)) = some (false, false) := by kernel_rfl
theorem ent67 : ((Try.prog.funcs[67]?).map fun fn => (fn.name == "runtime.NumGoroutine", fn.body.isNone)) = some (false, false) := by kernel_rfl
theorem fo52_4 : fieldOff Try.prog 52 4 = some 4 := by kernel_rfl
theorem fo52_5 : fieldOff Try.prog 52 5 = some 6 := by kernel_rfl
theorem fo52_6 : fieldOff Try.prog 52 6 = some 7 := by kernel_rfl
theorem fo52_7 : fieldOff Try.prog 52 7 = some 8 := by kernel_rfl
theorem fo52_8 : fieldOff Try.prog 52 8 = some 9 := by kernel_rfl
theorem fo62_0 : fieldOff Try.prog 62 0 = some 0 := by kernel_rfl
theorem fo62_1 : fieldOff Try.prog 62 1 = some 1 := by kernel_rfl
theorem fo62_2 : fieldOff Try.prog 62 2 = some 9 := by kernel_rfl
theorem fo62_3 : fieldOff Try.prog 62 3 = some 10 := by kernel_rfl
theorem fo62_4 : fieldOff Try.prog 62 4 = some 11 := by kernel_rfl
theorem one30 : oneB Try.prog 30 = true := by kernel_rfl
theorem one44 : oneB Try.prog 44 = true := by kernel_rfl
theorem places50 : placesOf Try.prog 50 = some [(0, 1), (1, 1)] := by kernel_rfl
theorem places52 : placesOf Try.prog 52 = some [(0, 1), (1, 1), (2, 1), (3, 1), (4, 2), (6, 1), (7, 1), (8, 1), (9, 1), (10, 1), (11, 1), (12, 1), (13, 1), (14, 1)] := by kernel_rfl
theorem row50 : rowB Try.prog 50 2 = true := by kernel_rfl
theorem row52 : rowB Try.prog 52 15 = true := by kernel_rfl
theorem slc30 : sliceB Try.prog 30 3 1 = true := by kernel_rfl
theorem zero50 : (Try.prog.info? 50).map (fun i => (i.zero, i.size)) = some (some (.agg #[.int .i64 0, .int .i64 0]), 2) := by kernel_rfl
theorem zero52 : (Try.prog.info? 52).map (fun i => (i.zero, i.size)) = some (some (.agg #[.int .i64 0, .int .i64 0, .int .i64 0, .int .i64 0, .int .i64 0, .int .i64 0, .bool false, .bool false, .int .i64 0, .int .i64 0, .bool false, .bool false, .bool false, .int .i64 0, .int .i64 0]), 15) := by kernel_rfl
end Go.Proofs.Ytlhompedcphnnaa
