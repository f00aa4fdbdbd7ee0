/- Closed facts on the types and functions of the program. -/
import Derived.Test.YtlhompedcphnnaaUSpec
namespace Go.Proofs.Ytlhompedcphnnaa
open Go.RowKit
set_option linter.unusedSimpArgs false
set_option linter.unusedVariables false
theorem ent11 : ((Try.prog.funcs[11]?).map fun fn => (fn.name == "runtime.NumGoroutine", fn.body.isNone)) = some (false, false) := by kernel_rfl
theorem ent13 : ((Try.prog.funcs[13]?).map fun fn => (fn.name == "runtime.NumGoroutine", fn.body.isNone)) = some (false, false) := by kernel_rfl
theorem ent28 : ((Try.prog.funcs[28]?).map fun fn => (fn.name == "runtime.NumGoroutine", fn.body.isNone)) = some (false, false) := by kernel_rfl
theorem ent29 : ((Try.prog.funcs[29]?).map fun fn => (fn.name == "runtime.NumGoroutine", fn.body.isNone)) = some (false, false) := by kernel_rfl
theorem ent30 : ((Try.prog.funcs[30]?).map fun fn => (fn.name == "runtime.NumGoroutine", fn.body.isNone)) = some (false, false) := by kernel_rfl
theorem ent31 : ((Try.prog.funcs[31]?).map fun fn => (fn.name == "runtime.NumGoroutine", fn.body.isNone)) = some (false, false) := by kernel_rfl
theorem ent35 : ((Try.prog.funcs[35]?).map fun fn => (fn.name == "runtime.NumGoroutine", fn.body.isNone)) = some (false, false) := by kernel_rfl
theorem ent39 : ((Try.prog.funcs[39]?).map fun fn => (fn.name == "runtime.NumGoroutine", fn.body.isNone)) = some (false, false) := by kernel_rfl
theorem ent40 : ((Try.prog.funcs[40]?).map fun fn => (fn.name == "runtime.NumGoroutine", fn.body.isNone)) = some (false, false) := by kernel_rfl
theorem ent41 : ((Try.prog.funcs[41]?).map fun fn => (fn.name == "runtime.NumGoroutine", fn.body.isNone)) = some (false, false) := by kernel_rfl
theorem ent42 : ((Try.prog.funcs[42]?).map fun fn => (fn.name == "runtime.NumGoroutine", fn.body.isNone)) = some (false, false) := by kernel_rfl
theorem ent43 : ((Try.prog.funcs[43]?).map fun fn => (fn.name == "runtime.NumGoroutine", fn.body.isNone)) = some (false, false) := by kernel_rfl
theorem ent44 : ((Try.prog.funcs[44]?).map fun fn => (fn.name == "runtime.NumGoroutine", fn.body.isNone)) = some (false, false) := by kernel_rfl
theorem ent45 : ((Try.prog.funcs[45]?).map fun fn => (fn.name == "runtime.NumGoroutine", fn.body.isNone)) = some (false, false) := by kernel_rfl
theorem ent55 : ((Try.prog.funcs[55]?).map fun fn => (fn.name == "runtime.NumGoroutine", fn.body.isNone)) = some (false, false) := by kernel_rfl
theorem ent56 : ((Try.prog.funcs[56]?).map fun fn => (fn.name == "runtime.NumGoroutine", fn.body.isNone)) = some (false, false) := by kernel_rfl
theorem fi23_1 : fieldInfo Try.prog 23 1 = some (3, 1) := by kernel_rfl
theorem fo23_0 : fieldOff Try.prog 23 0 = some 0 := by kernel_rfl
theorem fo23_1 : fieldOff Try.prog 23 1 = some 1 := by kernel_rfl
theorem fo23_10 : fieldOff Try.prog 23 10 = some 10 := by kernel_rfl
theorem fo23_11 : fieldOff Try.prog 23 11 = some 11 := by kernel_rfl
theorem fo23_12 : fieldOff Try.prog 23 12 = some 12 := by kernel_rfl
theorem fo23_13 : fieldOff Try.prog 23 13 = some 13 := by kernel_rfl
theorem fo23_14 : fieldOff Try.prog 23 14 = some 14 := by kernel_rfl
theorem fo23_15 : fieldOff Try.prog 23 15 = some 15 := by kernel_rfl
theorem fo23_16 : fieldOff Try.prog 23 16 = some 16 := by kernel_rfl
theorem fo23_2 : fieldOff Try.prog 23 2 = some 2 := by kernel_rfl
theorem fo23_3 : fieldOff Try.prog 23 3 = some 3 := by kernel_rfl
theorem fo23_4 : fieldOff Try.prog 23 4 = some 4 := by kernel_rfl
theorem fo23_5 : fieldOff Try.prog 23 5 = some 5 := by kernel_rfl
theorem fo23_6 : fieldOff Try.prog 23 6 = some 6 := by kernel_rfl
theorem fo23_7 : fieldOff Try.prog 23 7 = some 7 := by kernel_rfl
theorem fo23_8 : fieldOff Try.prog 23 8 = some 8 := by kernel_rfl
theorem fo23_9 : fieldOff Try.prog 23 9 = some 9 := by kernel_rfl
theorem mixedY : Try.prog.follows .mixedOrders = true := by kernel_rfl
theorem one3 : oneB Try.prog 3 = true := by kernel_rfl
theorem one4 : oneB Try.prog 4 = true := by kernel_rfl
theorem places23 : placesOf Try.prog 23 = some [(0, 1), (1, 1), (2, 1), (3, 1), (4, 1), (5, 1), (6, 1), (7, 1), (8, 1), (9, 1), (10, 1), (11, 1), (12, 1), (13, 1), (14, 1), (15, 1), (16, 1)] := by kernel_rfl
theorem row23 : rowB Try.prog 23 17 = true := by kernel_rfl
theorem zero23 : (Try.prog.info? 23).map (fun i => (i.zero, i.size)) = some (some (.agg #[.int .i64 0, .int .i64 0, .int .i64 0, .int .i64 0, .int .i64 0, .int .i64 0, .int .i64 0, .int .i64 0, .int .i64 0, .int .i64 0, .bool false, .bool false, .bool false, .int .i64 0, .int .i64 0, .int .i64 0, .bool false]), 17) := by kernel_rfl
theorem ret_two {x y : Array Value} {a b : Bool} (h : x = y) (k : a = b) : Ending.returned (.tuple #[.agg x, .bool a]) = .returned (.tuple #[.agg y, .bool b]) := by rw [h, k]
end Go.Proofs.Ytlhompedcphnnaa
