/- strconv.toError at this program: the numbers under which it holds ParseUint's closure, and what is handed back for a fault of spelling. -/
import Derived.Test.YtfehbkcfncioiaaDoorScanBackP3
import Derived.Shelf.Pu.ParseUintPublic10
import Derived.Ground.MpProg
import Derived.Lib.IndexMore
namespace Go.Proofs.YtfehbkcfncioiaaDoor
open Go.Shelf Go.RowKit
set_option linter.unusedVariables false
def laysPu_ren : Go.Shelf.Ren := ⟨fun | 14 => 51 | 16 => 59 | 17 => 60 | 19 => 63 | 20 => 64 | 21 => 65 | 22 => 66 | 23 => 67 | 24 => 68 | 25 => 69 | 27 => 71 | 26 => 70 | 28 => 72 | 29 => 73 | 30 => 74 | 31 => 75 | 32 => 76 | 33 => 77 | 35 => 79 | 34 => 78 | 36 => 80 | 37 => 81 | 38 => 82 | 39 => 83 | 40 => 84 | n => n, fun | 9 => 9 | 3 => 3 | 22 => 70 | 24 => 74 | 25 => 75 | 4 => 4 | 34 => 84 | 5 => 5 | 36 => 79 | 37 => 86 | 0 => 0 | 39 => 87 | 21 => 21 | 44 => 92 | 47 => 95 | 50 => 98 | 48 => 96 | 2 => 2 | 52 => 100 | 55 => 103 | 59 => 106 | 60 => 81 | 20 => 20 | 61 => 107 | 65 => 111 | 66 => 112 | 67 => 113 | n => n, fun | 0 => 1 | 1 => 2 | 2 => 3 | 3 => 4 | 4 => 5 | n => n⟩
theorem laysPu : Go.Proofs.LaysPu.n14 Tryd.prog laysPu_ren := {
  mixed := by kernel_rfl
  f14 := Tryd.func51.trans (congrArg some (by kernel_rfl))
  f16 := Tryd.func59.trans (congrArg some (by kernel_rfl))
  f17 := Tryd.func60.trans (congrArg some (by kernel_rfl))
  f19 := Tryd.func63.trans (congrArg some (by kernel_rfl))
  f20 := Tryd.func64.trans (congrArg some (by kernel_rfl))
  f21 := Tryd.func65.trans (congrArg some (by kernel_rfl))
  f22 := Tryd.func66.trans (congrArg some (by kernel_rfl))
  f23 := Tryd.func67.trans (congrArg some (by kernel_rfl))
  f24 := Tryd.func68.trans (congrArg some (by kernel_rfl))
  f25 := Tryd.func69.trans (congrArg some (by kernel_rfl))
  f26 := Tryd.func70.trans (congrArg some (by kernel_rfl))
  f27 := Tryd.func71.trans (congrArg some (by kernel_rfl))
  f28 := Tryd.func72.trans (congrArg some (by kernel_rfl))
  f29 := Tryd.func73.trans (congrArg some (by kernel_rfl))
  f30 := Tryd.func74.trans (congrArg some (by kernel_rfl))
  f31 := Tryd.func75.trans (congrArg some (by kernel_rfl))
  f32 := Tryd.func76.trans (congrArg some (by kernel_rfl))
  f33 := Tryd.func77.trans (congrArg some (by kernel_rfl))
  f34 := Tryd.func78.trans (congrArg some (by kernel_rfl))
  f35 := Tryd.func79.trans (congrArg some (by kernel_rfl))
  f36 := Tryd.func80.trans (congrArg some (by kernel_rfl))
  f37 := Tryd.func81.trans (congrArg some (by kernel_rfl))
  f38 := Tryd.func82.trans (congrArg some (by kernel_rfl))
  f39 := Tryd.func83.trans (congrArg some (by kernel_rfl))
  f40 := Tryd.func84.trans (congrArg some (by kernel_rfl))
  t0 := Tryd.underlying0
  a0 := Tryd.isAgg0
  z0 := Tryd.sizeOf0
  v0 := Tryd.zeroValue0
  i0 := by kernel_rfl
  t2 := Tryd.underlying2
  a2 := Tryd.isAgg2
  z2 := Tryd.sizeOf2
  v2 := Tryd.zeroValue2
  i2 := by kernel_rfl
  t3 := Tryd.underlying3
  a3 := Tryd.isAgg3
  z3 := Tryd.sizeOf3
  v3 := Tryd.zeroValue3
  i3 := by kernel_rfl
  t4 := Tryd.underlying4
  a4 := Tryd.isAgg4
  z4 := Tryd.sizeOf4
  v4 := Tryd.zeroValue4
  i4 := by kernel_rfl
  t5 := Tryd.underlying5
  a5 := Tryd.isAgg5
  z5 := Tryd.sizeOf5
  v5 := Tryd.zeroValue5
  i5 := by kernel_rfl
  t9 := Tryd.underlying9
  a9 := Tryd.isAgg9
  z9 := Tryd.sizeOf9
  v9 := Tryd.zeroValue9
  i9 := by kernel_rfl
  t20 := Tryd.underlying20
  a20 := Tryd.isAgg20
  z20 := Tryd.sizeOf20
  v20 := Tryd.zeroValue20
  i20 := by kernel_rfl
  t21 := Tryd.underlying21
  a21 := Tryd.isAgg21
  z21 := Tryd.sizeOf21
  v21 := Tryd.zeroValue21
  i21 := by kernel_rfl
  t22 := Tryd.underlying70
  a22 := Tryd.isAgg70
  z22 := Tryd.sizeOf70
  v22 := Tryd.zeroValue70
  i22 := by kernel_rfl
  t24 := Tryd.underlying74
  a24 := Tryd.isAgg74
  z24 := Tryd.sizeOf74
  v24 := Tryd.zeroValue74
  i24 := by kernel_rfl
  t25 := Tryd.underlying75
  a25 := Tryd.isAgg75
  z25 := Tryd.sizeOf75
  v25 := Tryd.zeroValue75
  i25 := by kernel_rfl
  t34 := Tryd.underlying84
  a34 := Tryd.isAgg84
  z34 := Tryd.sizeOf84
  v34 := Tryd.zeroValue84
  i34 := by kernel_rfl
  c34 := by kernel_rfl
  t36 := Tryd.underlying79
  a36 := Tryd.isAgg79
  z36 := Tryd.sizeOf79
  v36 := Tryd.zeroValue79
  i36 := by kernel_rfl
  t37 := Tryd.underlying86
  a37 := Tryd.isAgg86
  z37 := Tryd.sizeOf86
  v37 := Tryd.zeroValue86
  i37 := by kernel_rfl
  t39 := Tryd.underlying87
  a39 := Tryd.isAgg87
  z39 := Tryd.sizeOf87
  v39 := Tryd.zeroValue87
  i39 := by kernel_rfl
  t44 := Tryd.underlying92
  a44 := Tryd.isAgg92
  z44 := Tryd.sizeOf92
  v44 := Tryd.zeroValue92
  i44 := by kernel_rfl
  t47 := Tryd.underlying95
  a47 := Tryd.isAgg95
  z47 := Tryd.sizeOf95
  v47 := Tryd.zeroValue95
  i47 := by kernel_rfl
  t48 := Tryd.underlying96
  a48 := Tryd.isAgg96
  z48 := Tryd.sizeOf96
  v48 := Tryd.zeroValue96
  i48 := by kernel_rfl
  t50 := Tryd.underlying98
  a50 := Tryd.isAgg98
  z50 := Tryd.sizeOf98
  v50 := Tryd.zeroValue98
  i50 := by kernel_rfl
  t52 := Tryd.underlying100
  a52 := Tryd.isAgg100
  z52 := Tryd.sizeOf100
  v52 := Tryd.zeroValue100
  i52 := by kernel_rfl
  t55 := Tryd.underlying103
  a55 := Tryd.isAgg103
  z55 := Tryd.sizeOf103
  v55 := Tryd.zeroValue103
  i55 := by kernel_rfl
  t59 := Tryd.underlying106
  a59 := Tryd.isAgg106
  z59 := Tryd.sizeOf106
  v59 := Tryd.zeroValue106
  i59 := by kernel_rfl
  t60 := Tryd.underlying81
  a60 := Tryd.isAgg81
  z60 := Tryd.sizeOf81
  v60 := Tryd.zeroValue81
  i60 := by kernel_rfl
  t61 := Tryd.underlying107
  a61 := Tryd.isAgg107
  z61 := Tryd.sizeOf107
  t65 := Tryd.underlying111
  a65 := Tryd.isAgg111
  z65 := Tryd.sizeOf111
  v65 := Tryd.zeroValue111
  i65 := by kernel_rfl
  t66 := Tryd.underlying112
  a66 := Tryd.isAgg112
  z66 := Tryd.sizeOf112
  v66 := Tryd.zeroValue112
  i66 := by kernel_rfl
  t67 := Tryd.underlying113
  a67 := Tryd.isAgg113
  z67 := Tryd.sizeOf113
  v67 := Tryd.zeroValue113
  i67 := by kernel_rfl
  g0 := by kernel_rfl
  m0 := by kernel_rfl
  g1 := by kernel_rfl
  m1 := by kernel_rfl
  g2 := by kernel_rfl
  m2 := by kernel_rfl
  g3 := by kernel_rfl
  m3 := by kernel_rfl
  g4 := by kernel_rfl
  m4 := by kernel_rfl }
theorem map5 {a : Act} {p q r s t : Operand} {b c d e f : Value} (h1 : a.eval p = b) (h2 : a.eval q = c) (h3 : a.eval r = d) (h4 : a.eval s = e) (h5 : a.eval t = f) : (#[p, q, r, s, t] : Array Operand).map a.eval = #[b, c, d, e, f] := by
  simp only [List.map_toArray, List.map_cons, List.map_nil, h1, h2, h3, h4, h5]
theorem toError_any (fn l : List UInt8) (base bits : Int) (ev : Value) (w : World) (hl : l.length ≤ 19) (hv : w.cell? ⟨1, 0, none⟩ = some ev) (hev : ev = .nilIface ∨ ∃ te pe, ev = .iface te pe) :
    Calls Tryd.prog 60 #[.string (S fn), .string (S l), .int .i64 base, .int .i64 bits, .iface 84 (.int .i64 2)] w fun e w' => (∃ N, e = .returned (.iface 87 (.pointer (some ⟨N, 0, none⟩)))) ∧ Grow w w' := by
  refine (AnyPu.strconv_toError_syntax { laysPu with } (S fn) (S l) base bits ev w (by rw [S_size]; omega) hv hev).mono ?_
  rintro e w' ⟨N, he, _, _, hb⟩
  exact ⟨⟨N, he⟩, hb⟩
end Go.Proofs.YtfehbkcfncioiaaDoor
/- A number's text: its value, or that it is none. -/
namespace Go.Proofs.YtfehbkcfncioiaaDoor
set_option linter.unusedVariables false

/-- a word -/
structure Tk where
  kind : Int
  text : List UInt8
  n : Int
  at_ : Int
def tokC (t : Tk) : Array Value := #[.int .i64 t.kind, .string (S t.text), .int .i64 t.n, .int .i64 t.at_]
def tok0 : Tk := ⟨0, [], 0, 0⟩
def fits (o : Option Nat) : Option Int := match o with | some n => if n > 9223372036854775808 then none else some (IntKind.wrap .i64 (n : Int)) | none => none
/-- the value of a number's text -/
def numR (l : List UInt8) : Option Int :=
  if preB l [48, 120] then (if (cutF l [48, 120]).length > 16 then none else fits (valL 16 (cutF l [48, 120]))) else (if l.length > 19 then none else fits (valL 10 l))
def numV (l : List UInt8) (o : Option Int) : Value := match o with | some n => .tuple #[.agg (tokC ⟨2, l, n, 0⟩), .int .i64 0] | none => .tuple #[.agg (tokC tok0), .int .i64 23]
section
variable {l : List UInt8} {n : Nat}
theorem num_longx (h : preB l [48, 120] = true) (hl : (cutF l [48, 120]).length > 16) : numR l = none := by unfold numR; rw [if_pos h, if_pos hl]
theorem num_longd (h : preB l [48, 120] = false) (hl : l.length > 19) : numR l = none := by unfold numR; rw [if_neg (by simp [h]), if_pos hl]
theorem num_nonex (h : preB l [48, 120] = true) (hv : valL 16 (cutF l [48, 120]) = none) : numR l = none := by unfold numR; rw [if_pos h, hv]; simp [fits]
theorem num_noned (h : preB l [48, 120] = false) (hv : valL 10 l = none) : numR l = none := by unfold numR; rw [if_neg (by simp [h]), hv]; simp [fits]
theorem num_bigx (h : preB l [48, 120] = true) (hv : valL 16 (cutF l [48, 120]) = some n) (hn : n > 9223372036854775808) : numR l = none := by unfold numR; rw [if_pos h, hv]; simp [fits, hn]
theorem num_bigd (h : preB l [48, 120] = false) (hv : valL 10 l = some n) (hn : n > 9223372036854775808) : numR l = none := by unfold numR; rw [if_neg (by simp [h]), hv]; simp [fits, hn]
theorem num_okx (h : preB l [48, 120] = true) (hl : (cutF l [48, 120]).length ≤ 16) (hv : valL 16 (cutF l [48, 120]) = some n) (hn : n ≤ 9223372036854775808) : numR l = some (IntKind.wrap .i64 (n : Int)) := by
  unfold numR; rw [if_pos h, if_neg (by omega), hv]; simp only [fits]; rw [if_neg (by omega)]
theorem num_okd (h : preB l [48, 120] = false) (hl : l.length ≤ 19) (hv : valL 10 l = some n) (hn : n ≤ 9223372036854775808) : numR l = some (IntKind.wrap .i64 (n : Int)) := by
  unfold numR; rw [if_neg (by simp [h]), if_neg (by omega), hv]; simp only [fits]; rw [if_neg (by omega)]
end
end Go.Proofs.YtfehbkcfncioiaaDoor
/- strconv.ParseUint at 10 and 16; scan.number. -/
namespace Go.Proofs.YtfehbkcfncioiaaDoor
open Go.RowKit
set_option linter.unusedSimpArgs false
set_option linter.unusedVariables false
theorem ent50 : ((Tryd.prog.funcs[50]?).map fun fn => (fn.name == "runtime.NumGoroutine", fn.body.isNone)) = some (false, false) := by kernel_rfl
theorem ent51 : ((Tryd.prog.funcs[51]?).map fun fn => (fn.name == "runtime.NumGoroutine", fn.body.isNone)) = some (false, false) := by kernel_rfl
theorem ent59 : ((Tryd.prog.funcs[59]?).map fun fn => (fn.name == "runtime.NumGoroutine", fn.body.isNone)) = some (false, false) := by kernel_rfl
theorem ent60 : ((Tryd.prog.funcs[60]?).map fun fn => (fn.name == "runtime.NumGoroutine", fn.body.isNone)) = some (false, false) := by kernel_rfl
theorem ifc74 : Tryd.prog.underlying 74 = some (.interface (Tryd.prog.methodsAt 74)) := by kernel_rfl
theorem places33 : placesOf Tryd.prog 33 = some [(0, 1), (1, 1), (2, 1), (3, 1)] := by kernel_rfl
theorem row33 : rowB Tryd.prog 33 4 = true := by kernel_rfl
theorem zero33 : (Tryd.prog.info? 33).map (fun i => (i.zero, i.size)) = some (some (.agg #[.int .i64 0, .string (S []), .int .i64 0, .int .i64 0]), 4) := by kernel_rfl
theorem parse10_or (l : List UInt8) (w : World) (hl : l.length ≤ 19) : Calls Tryd.prog 59 #[.string (S l), .int .i64 10, .int .i64 64] w fun e w' => ((∃ n : Nat, valL 10 l = some n ∧ e = .returned (.tuple #[.int .u64 (n : Int), .nilIface])) ∨ (valL 10 l = none ∧ e = .returned (.tuple #[.int .u64 0, .iface 84 (.int .i64 2)]))) ∧ Grow w w' := by
  refine (parse10_in l w hl).mono fun e w' ⟨he, hG⟩ => ⟨?_, hG⟩
  cases hv : valL 10 l with
  | none => exact .inr ⟨rfl, by rw [he, pu_none hv]⟩
  | some n => exact .inl ⟨n, rfl, by rw [he, pu_some hv]⟩
theorem parse16_or (l : List UInt8) (w : World) (hl : l.length ≤ 16) : Calls Tryd.prog 59 #[.string (S l), .int .i64 16, .int .i64 64] w fun e w' => ((∃ n : Nat, valL 16 l = some n ∧ e = .returned (.tuple #[.int .u64 (n : Int), .nilIface])) ∨ (valL 16 l = none ∧ e = .returned (.tuple #[.int .u64 0, .iface 84 (.int .i64 2)]))) ∧ Grow w w' := by
  refine (parse16_in l w hl).mono fun e w' ⟨he, hG⟩ => ⟨?_, hG⟩
  cases hv : valL 16 l with
  | none => exact .inr ⟨rfl, by rw [he, pu_none hv]⟩
  | some n => exact .inl ⟨n, rfl, by rw [he, pu_some hv]⟩
set_option maxHeartbeats 4000000 in
set_option maxRecDepth 4000 in
theorem pub10_or (l : List UInt8) (w : World) (hl : l.length ≤ 19) (ev : Value) (hev1 : w.cell? ⟨1, 0, none⟩ = some ev) (hev2 : ev = .nilIface ∨ ∃ te pe, ev = .iface te pe) : Calls Tryd.prog 51 #[.string (S l), .int .i64 10, .int .i64 64] w fun e w' => ((∃ n : Nat, valL 10 l = some n ∧ e = .returned (.tuple #[.int .u64 (n : Int), .nilIface])) ∨ (valL 10 l = none ∧ ∃ N, e = .returned (.tuple #[.int .u64 0, .iface 87 (.pointer (some ⟨N, 0, none⟩))]))) ∧ Grow w w' := by
  have b0 : Below w.heap.size w w := Below.refl _ _
  refine enter (n := 26) Tryd.func51 rfl rfl (Nat.le_of_ble_eq_true rfl) ?_
  intro a1 hA2
  refine wp_seq ?_
  refine wp_region_lit ?_
  refine q_step hA2 rfl (d_assign (wn rfl) (hA2.ev (v := (.int .u64 0)) rfl) ?_)
  intro a3 hA4
  refine q_step hA4 rfl (d_assign (wn rfl) (hA4.ev (v := (.nilIface)) rfl) ?_)
  intro a5 hA6
  refine q_end ?_
  refine t_norm ?_
  refine wp_seq ?_
  refine wp_region_lit ?_
  refine q_step hA6 rfl (d_move (wn rfl) (hA6.ev (v := (.string (S l))) rfl) ?_)
  intro a7 hA8
  refine q_step hA8 rfl (d_move (wn rfl) (hA8.ev (v := (.int .i64 10)) rfl) ?_)
  intro a9 hA10
  refine q_step hA10 rfl (d_move (wn rfl) (hA10.ev (v := (.int .i64 64)) rfl) ?_)
  intro a11 hA12
  refine q_step hA12 rfl (d_call (wn rfl) ent59 (map3 (hA12.ev (v := (.string (S l))) rfl) (hA12.ev (v := (.int .i64 10)) rfl) (hA12.ev (v := (.int .i64 64)) rfl)) (parse10_or l w (by omega)) ?_)
  rintro e16 w13 ⟨⟨n17, hv19, he15⟩ | ⟨hv19, he15⟩, hG14⟩
  · skip
    have b20 := below_grow b0 hG14 b0.size
    refine ⟨(.tuple #[(.int .u64 ((n17 : Nat) : Int)), (.nilIface)]), he15, ?_⟩
    intro a21 hA22
    refine q_step hA22 rfl (d_move (wn rfl) (hA22.ev (v := (.tuple #[(.int .u64 ((n17 : Nat) : Int)), (.nilIface)])) rfl) ?_)
    intro a23 hA24
    refine q_step hA24 rfl (d_extract (v := (.int .u64 ((n17 : Nat) : Int))) (wn rfl) (hA24.ev (v := (.tuple #[(.int .u64 ((n17 : Nat) : Int)), (.nilIface)])) rfl) rfl ?_)
    intro a25 hA26
    refine q_step hA26 rfl (d_extract (v := (.nilIface)) (wn rfl) (hA26.ev (v := (.tuple #[(.int .u64 ((n17 : Nat) : Int)), (.nilIface)])) rfl) rfl ?_)
    intro a27 hA28
    refine q_step hA28 rfl (d_assign (wn rfl) (hA28.ev (v := (.int .u64 ((n17 : Nat) : Int))) rfl) ?_)
    intro a29 hA30
    refine q_step hA30 rfl (d_assign (wn rfl) (hA30.ev (v := (.nilIface)) rfl) ?_)
    intro a31 hA32
    refine q_end ?_
    refine t_norm ?_
    refine wp_seq ?_
    refine wp_seq ?_
    refine wp_region_lit ?_
    refine q_step hA32 rfl (d_move (wn rfl) (hA32.ev (v := (.nilIface)) rfl) ?_)
    intro a33 hA34
    refine q_step hA34 rfl (d_bin (wn rfl) (hA34.ev (v := (.nilIface)) rfl) (hA34.ev (v := (.nilIface)) rfl) (b_nilNe ifc74) ?_)
    intro a35 hA36
    refine q_end ?_
    refine t_norm ?_
    refine c_false hA36 rfl ?_
    refine wp_skip ?_
    refine t_norm ?_
    refine wp_seq ?_
    refine wp_region_lit ?_
    refine q_step hA36 rfl (d_move (wn rfl) (hA36.ev (v := (.int .u64 ((n17 : Nat) : Int))) rfl) ?_)
    intro a37 hA38
    refine q_step hA38 rfl (d_assign (wn rfl) (hA38.ev (v := (.int .u64 ((n17 : Nat) : Int))) rfl) ?_)
    intro a39 hA40
    refine q_step hA40 rfl (d_assign (wn rfl) (hA40.ev (v := (.nilIface)) rfl) ?_)
    intro a41 hA42
    refine q_end ?_
    refine t_norm ?_
    refine wp_ret ?_
    refine ret2 (x := (.int .u64 ((n17 : Nat) : Int))) (y := (.nilIface)) rfl hA42 rfl rfl ?_
    exact ⟨.inl ⟨n17, hv19, rfl⟩, b20⟩
  · skip
    have b43 := below_grow b0 hG14 b0.size
    refine ⟨(.tuple #[(.int .u64 0), (.iface 84 (.int .i64 2))]), he15, ?_⟩
    intro a44 hA45
    refine q_step hA45 rfl (d_move (wn rfl) (hA45.ev (v := (.tuple #[(.int .u64 0), (.iface 84 (.int .i64 2))])) rfl) ?_)
    intro a46 hA47
    refine q_step hA47 rfl (d_extract (v := (.int .u64 0)) (wn rfl) (hA47.ev (v := (.tuple #[(.int .u64 0), (.iface 84 (.int .i64 2))])) rfl) rfl ?_)
    intro a48 hA49
    refine q_step hA49 rfl (d_extract (v := (.iface 84 (.int .i64 2))) (wn rfl) (hA49.ev (v := (.tuple #[(.int .u64 0), (.iface 84 (.int .i64 2))])) rfl) rfl ?_)
    intro a50 hA51
    refine q_step hA51 rfl (d_assign (wn rfl) (hA51.ev (v := (.int .u64 0)) rfl) ?_)
    intro a52 hA53
    refine q_step hA53 rfl (d_assign (wn rfl) (hA53.ev (v := (.iface 84 (.int .i64 2))) rfl) ?_)
    intro a54 hA55
    refine q_end ?_
    refine t_norm ?_
    refine wp_seq ?_
    refine wp_seq ?_
    refine wp_region_lit ?_
    refine q_step hA55 rfl (d_move (wn rfl) (hA55.ev (v := (.iface 84 (.int .i64 2))) rfl) ?_)
    intro a56 hA57
    refine q_step hA57 rfl (d_bin (wn rfl) (hA57.ev (v := (.iface 84 (.int .i64 2))) rfl) (hA57.ev (v := (.nilIface)) rfl) (b_ifcNe ifc74) ?_)
    intro a58 hA59
    refine q_end ?_
    refine t_norm ?_
    refine c_true hA59 rfl ?_
    refine wp_seq ?_
    refine wp_region_lit ?_
    refine q_step hA59 rfl (d_move (wn rfl) (hA59.ev (v := (.int .u64 0)) rfl) ?_)
    intro a60 hA61
    refine q_step hA61 rfl (d_move (wn rfl) (hA61.ev (v := (.string (S l))) rfl) ?_)
    intro a62 hA63
    refine q_step hA63 rfl (d_move (wn rfl) (hA63.ev (v := (.int .i64 10)) rfl) ?_)
    intro a64 hA65
    refine q_step hA65 rfl (d_move (wn rfl) (hA65.ev (v := (.int .i64 64)) rfl) ?_)
    intro a66 hA67
    refine q_step hA67 rfl (d_move (wn rfl) (hA67.ev (v := (.iface 84 (.int .i64 2))) rfl) ?_)
    intro a68 hA69
    refine q_step hA69 rfl (d_call (wn rfl) ent60 (map5 (hA69.ev (v := (.string (S [80, 97, 114, 115, 101, 85, 105, 110, 116]))) rfl) (hA69.ev (v := (.string (S l))) rfl) (hA69.ev (v := (.int .i64 10)) rfl) (hA69.ev (v := (.int .i64 64)) rfl) (hA69.ev (v := (.iface 84 (.int .i64 2))) rfl)) (toError_any [80, 97, 114, 115, 101, 85, 105, 110, 116] l 10 64 ev w13 (by omega) (cell_keep hev1 b43) hev2) ?_)
    rintro e73 w70 ⟨⟨N74, he72⟩, hG71⟩
    have b75 := below_grow b43 hG71 b43.size
    refine ⟨(.iface 87 (.pointer (some ⟨N74, 0, none⟩))), he72, ?_⟩
    intro a76 hA77
    refine q_step hA77 rfl (d_assign (wn rfl) (hA77.ev (v := (.int .u64 0)) rfl) ?_)
    intro a78 hA79
    refine q_step hA79 rfl (d_assign (wn rfl) (hA79.ev (v := (.iface 87 (.pointer (some ⟨N74, 0, none⟩)))) rfl) ?_)
    intro a80 hA81
    refine q_end ?_
    refine t_norm ?_
    refine wp_ret ?_
    refine t_ret ?_
    refine ret2 (x := (.int .u64 0)) (y := (.iface 87 (.pointer (some ⟨N74, 0, none⟩)))) rfl hA81 rfl rfl ?_
    exact ⟨.inr ⟨hv19, N74, rfl⟩, b75⟩
set_option maxHeartbeats 4000000 in
set_option maxRecDepth 4000 in
theorem pub16_or (l : List UInt8) (w : World) (hl : l.length ≤ 16) (ev : Value) (hev1 : w.cell? ⟨1, 0, none⟩ = some ev) (hev2 : ev = .nilIface ∨ ∃ te pe, ev = .iface te pe) : Calls Tryd.prog 51 #[.string (S l), .int .i64 16, .int .i64 64] w fun e w' => ((∃ n : Nat, valL 16 l = some n ∧ e = .returned (.tuple #[.int .u64 (n : Int), .nilIface])) ∨ (valL 16 l = none ∧ ∃ N, e = .returned (.tuple #[.int .u64 0, .iface 87 (.pointer (some ⟨N, 0, none⟩))]))) ∧ Grow w w' := by
  have b0 : Below w.heap.size w w := Below.refl _ _
  refine enter (n := 26) Tryd.func51 rfl rfl (Nat.le_of_ble_eq_true rfl) ?_
  intro a1 hA2
  refine wp_seq ?_
  refine wp_region_lit ?_
  refine q_step hA2 rfl (d_assign (wn rfl) (hA2.ev (v := (.int .u64 0)) rfl) ?_)
  intro a3 hA4
  refine q_step hA4 rfl (d_assign (wn rfl) (hA4.ev (v := (.nilIface)) rfl) ?_)
  intro a5 hA6
  refine q_end ?_
  refine t_norm ?_
  refine wp_seq ?_
  refine wp_region_lit ?_
  refine q_step hA6 rfl (d_move (wn rfl) (hA6.ev (v := (.string (S l))) rfl) ?_)
  intro a7 hA8
  refine q_step hA8 rfl (d_move (wn rfl) (hA8.ev (v := (.int .i64 16)) rfl) ?_)
  intro a9 hA10
  refine q_step hA10 rfl (d_move (wn rfl) (hA10.ev (v := (.int .i64 64)) rfl) ?_)
  intro a11 hA12
  refine q_step hA12 rfl (d_call (wn rfl) ent59 (map3 (hA12.ev (v := (.string (S l))) rfl) (hA12.ev (v := (.int .i64 16)) rfl) (hA12.ev (v := (.int .i64 64)) rfl)) (parse16_or l w (by omega)) ?_)
  rintro e16 w13 ⟨⟨n17, hv19, he15⟩ | ⟨hv19, he15⟩, hG14⟩
  · skip
    have b20 := below_grow b0 hG14 b0.size
    refine ⟨(.tuple #[(.int .u64 ((n17 : Nat) : Int)), (.nilIface)]), he15, ?_⟩
    intro a21 hA22
    refine q_step hA22 rfl (d_move (wn rfl) (hA22.ev (v := (.tuple #[(.int .u64 ((n17 : Nat) : Int)), (.nilIface)])) rfl) ?_)
    intro a23 hA24
    refine q_step hA24 rfl (d_extract (v := (.int .u64 ((n17 : Nat) : Int))) (wn rfl) (hA24.ev (v := (.tuple #[(.int .u64 ((n17 : Nat) : Int)), (.nilIface)])) rfl) rfl ?_)
    intro a25 hA26
    refine q_step hA26 rfl (d_extract (v := (.nilIface)) (wn rfl) (hA26.ev (v := (.tuple #[(.int .u64 ((n17 : Nat) : Int)), (.nilIface)])) rfl) rfl ?_)
    intro a27 hA28
    refine q_step hA28 rfl (d_assign (wn rfl) (hA28.ev (v := (.int .u64 ((n17 : Nat) : Int))) rfl) ?_)
    intro a29 hA30
    refine q_step hA30 rfl (d_assign (wn rfl) (hA30.ev (v := (.nilIface)) rfl) ?_)
    intro a31 hA32
    refine q_end ?_
    refine t_norm ?_
    refine wp_seq ?_
    refine wp_seq ?_
    refine wp_region_lit ?_
    refine q_step hA32 rfl (d_move (wn rfl) (hA32.ev (v := (.nilIface)) rfl) ?_)
    intro a33 hA34
    refine q_step hA34 rfl (d_bin (wn rfl) (hA34.ev (v := (.nilIface)) rfl) (hA34.ev (v := (.nilIface)) rfl) (b_nilNe ifc74) ?_)
    intro a35 hA36
    refine q_end ?_
    refine t_norm ?_
    refine c_false hA36 rfl ?_
    refine wp_skip ?_
    refine t_norm ?_
    refine wp_seq ?_
    refine wp_region_lit ?_
    refine q_step hA36 rfl (d_move (wn rfl) (hA36.ev (v := (.int .u64 ((n17 : Nat) : Int))) rfl) ?_)
    intro a37 hA38
    refine q_step hA38 rfl (d_assign (wn rfl) (hA38.ev (v := (.int .u64 ((n17 : Nat) : Int))) rfl) ?_)
    intro a39 hA40
    refine q_step hA40 rfl (d_assign (wn rfl) (hA40.ev (v := (.nilIface)) rfl) ?_)
    intro a41 hA42
    refine q_end ?_
    refine t_norm ?_
    refine wp_ret ?_
    refine ret2 (x := (.int .u64 ((n17 : Nat) : Int))) (y := (.nilIface)) rfl hA42 rfl rfl ?_
    exact ⟨.inl ⟨n17, hv19, rfl⟩, b20⟩
  · skip
    have b43 := below_grow b0 hG14 b0.size
    refine ⟨(.tuple #[(.int .u64 0), (.iface 84 (.int .i64 2))]), he15, ?_⟩
    intro a44 hA45
    refine q_step hA45 rfl (d_move (wn rfl) (hA45.ev (v := (.tuple #[(.int .u64 0), (.iface 84 (.int .i64 2))])) rfl) ?_)
    intro a46 hA47
    refine q_step hA47 rfl (d_extract (v := (.int .u64 0)) (wn rfl) (hA47.ev (v := (.tuple #[(.int .u64 0), (.iface 84 (.int .i64 2))])) rfl) rfl ?_)
    intro a48 hA49
    refine q_step hA49 rfl (d_extract (v := (.iface 84 (.int .i64 2))) (wn rfl) (hA49.ev (v := (.tuple #[(.int .u64 0), (.iface 84 (.int .i64 2))])) rfl) rfl ?_)
    intro a50 hA51
    refine q_step hA51 rfl (d_assign (wn rfl) (hA51.ev (v := (.int .u64 0)) rfl) ?_)
    intro a52 hA53
    refine q_step hA53 rfl (d_assign (wn rfl) (hA53.ev (v := (.iface 84 (.int .i64 2))) rfl) ?_)
    intro a54 hA55
    refine q_end ?_
    refine t_norm ?_
    refine wp_seq ?_
    refine wp_seq ?_
    refine wp_region_lit ?_
    refine q_step hA55 rfl (d_move (wn rfl) (hA55.ev (v := (.iface 84 (.int .i64 2))) rfl) ?_)
    intro a56 hA57
    refine q_step hA57 rfl (d_bin (wn rfl) (hA57.ev (v := (.iface 84 (.int .i64 2))) rfl) (hA57.ev (v := (.nilIface)) rfl) (b_ifcNe ifc74) ?_)
    intro a58 hA59
    refine q_end ?_
    refine t_norm ?_
    refine c_true hA59 rfl ?_
    refine wp_seq ?_
    refine wp_region_lit ?_
    refine q_step hA59 rfl (d_move (wn rfl) (hA59.ev (v := (.int .u64 0)) rfl) ?_)
    intro a60 hA61
    refine q_step hA61 rfl (d_move (wn rfl) (hA61.ev (v := (.string (S l))) rfl) ?_)
    intro a62 hA63
    refine q_step hA63 rfl (d_move (wn rfl) (hA63.ev (v := (.int .i64 16)) rfl) ?_)
    intro a64 hA65
    refine q_step hA65 rfl (d_move (wn rfl) (hA65.ev (v := (.int .i64 64)) rfl) ?_)
    intro a66 hA67
    refine q_step hA67 rfl (d_move (wn rfl) (hA67.ev (v := (.iface 84 (.int .i64 2))) rfl) ?_)
    intro a68 hA69
    refine q_step hA69 rfl (d_call (wn rfl) ent60 (map5 (hA69.ev (v := (.string (S [80, 97, 114, 115, 101, 85, 105, 110, 116]))) rfl) (hA69.ev (v := (.string (S l))) rfl) (hA69.ev (v := (.int .i64 16)) rfl) (hA69.ev (v := (.int .i64 64)) rfl) (hA69.ev (v := (.iface 84 (.int .i64 2))) rfl)) (toError_any [80, 97, 114, 115, 101, 85, 105, 110, 116] l 16 64 ev w13 (by omega) (cell_keep hev1 b43) hev2) ?_)
    rintro e73 w70 ⟨⟨N74, he72⟩, hG71⟩
    have b75 := below_grow b43 hG71 b43.size
    refine ⟨(.iface 87 (.pointer (some ⟨N74, 0, none⟩))), he72, ?_⟩
    intro a76 hA77
    refine q_step hA77 rfl (d_assign (wn rfl) (hA77.ev (v := (.int .u64 0)) rfl) ?_)
    intro a78 hA79
    refine q_step hA79 rfl (d_assign (wn rfl) (hA79.ev (v := (.iface 87 (.pointer (some ⟨N74, 0, none⟩)))) rfl) ?_)
    intro a80 hA81
    refine q_end ?_
    refine t_norm ?_
    refine wp_ret ?_
    refine t_ret ?_
    refine ret2 (x := (.int .u64 0)) (y := (.iface 87 (.pointer (some ⟨N74, 0, none⟩)))) rfl hA81 rfl rfl ?_
    exact ⟨.inr ⟨hv19, N74, rfl⟩, b75⟩
set_option maxHeartbeats 4000000 in
set_option maxRecDepth 4000 in
theorem number_any (l : List UInt8) (w : World) (hl : l.length ≤ 8192) (ev : Value) (hev1 : w.cell? ⟨1, 0, none⟩ = some ev) (hev2 : ev = .nilIface ∨ ∃ te pe, ev = .iface te pe) : Calls Tryd.prog 41 #[.string (S l)] w fun e w' => e = .returned (numV l (numR l)) ∧ Grow w w' := by
  have b0 : Below w.heap.size w w := Below.refl _ _
  refine enter (n := 41) Tryd.func41 rfl rfl (Nat.le_of_ble_eq_true rfl) ?_
  intro a1 hA2
  refine wp_seq ?_
  refine wp_region_lit ?_
  refine q_step hA2 rfl (d_alloc (wn rfl) zero33 ?_)
  intro g3 w4 eg5 hG6 (m7 : Blk w4 g3 #[.int .i64 0, .string (S []), .int .i64 0, .int .i64 0] 33)
  have ge8 : w.heap.size ≤ g3 := eg5 ▸ b0.size
  have b9 := below_grow b0 hG6 b0.size
  intro a10 hA11
  refine q_step hA11 rfl (d_assign (wn rfl) (hA11.ev (v := (.int .i64 0)) rfl) ?_)
  intro a12 hA13
  refine q_end ?_
  refine t_norm ?_
  refine wp_seq ?_
  refine wp_region_lit ?_
  refine q_step hA13 rfl (d_move (wn rfl) (hA13.ev (v := (.string (S l))) rfl) ?_)
  intro a14 hA15
  refine q_step hA15 rfl (d_assign (wn rfl) (hA15.ev (v := (.string (S l))) rfl) ?_)
  intro a16 hA17
  refine q_step hA17 rfl (d_assign (wn rfl) (hA17.ev (v := (.int .i64 10)) rfl) ?_)
  intro a18 hA19
  refine q_step hA19 rfl (d_assign (wn rfl) (hA19.ev (v := (.int .i64 19)) rfl) ?_)
  intro a20 hA21
  refine q_end ?_
  refine t_norm ?_
  refine wp_seq ?_
  refine wp_seq ?_
  refine wp_region_lit ?_
  refine q_step hA21 rfl (d_move (wn rfl) (hA21.ev (v := (.string (S l))) rfl) ?_)
  intro a22 hA23
  refine q_step hA23 rfl (d_call (wn rfl) ent50 (map2 (hA23.ev (v := (.string (S l))) rfl) (hA23.ev (v := (.string (S [48, 120]))) rfl)) (cutPrefix_any l [48, 120] w4) ?_)
  rintro e27 w24 ⟨he26, hG25⟩
  have m28 := m7.grow hG25
  have b29 := below_grow b9 hG25 b9.size
  refine ⟨(.tuple #[(.string (S (cutF l [48, 120]))), (.bool (preB l [48, 120]))]), he26, ?_⟩
  intro a30 hA31
  refine q_step hA31 rfl (d_move (wn rfl) (hA31.ev (v := (.tuple #[(.string (S (cutF l [48, 120]))), (.bool (preB l [48, 120]))])) rfl) ?_)
  intro a32 hA33
  refine q_step hA33 rfl (d_extract (v := (.string (S (cutF l [48, 120])))) (wn rfl) (hA33.ev (v := (.tuple #[(.string (S (cutF l [48, 120]))), (.bool (preB l [48, 120]))])) rfl) rfl ?_)
  intro a34 hA35
  refine q_step hA35 rfl (d_extract (v := (.bool (preB l [48, 120]))) (wn rfl) (hA35.ev (v := (.tuple #[(.string (S (cutF l [48, 120]))), (.bool (preB l [48, 120]))])) rfl) rfl ?_)
  intro a36 hA37
  refine q_step hA37 rfl (d_assign (wn rfl) (hA37.ev (v := (.string (S (cutF l [48, 120])))) rfl) ?_)
  intro a38 hA39
  refine q_step hA39 rfl (d_assign (wn rfl) (hA39.ev (v := (.bool (preB l [48, 120]))) rfl) ?_)
  intro a40 hA41
  refine q_end ?_
  refine t_norm ?_
  refine wp_seq ?_
  refine wp_region_lit ?_
  refine q_step hA41 rfl (d_move (wn rfl) (hA41.ev (v := (.bool (preB l [48, 120]))) rfl) ?_)
  intro a42 hA43
  refine q_end ?_
  refine t_norm ?_
  rcases Bool.eq_false_or_eq_true (preB l [48, 120]) with hb44 | hb44
  · skip
    have hA46 := hA43.shadow (t := 17) rfl hb44
    refine c_true hA46 rfl ?_
    refine wp_region_lit ?_
    refine q_step hA46 rfl (d_move (wn rfl) (hA46.ev (v := (.string (S (cutF l [48, 120])))) rfl) ?_)
    intro a47 hA48
    refine q_step hA48 rfl (d_assign (wn rfl) (hA48.ev (v := (.string (S (cutF l [48, 120])))) rfl) ?_)
    intro a49 hA50
    refine q_step hA50 rfl (d_assign (wn rfl) (hA50.ev (v := (.int .i64 16)) rfl) ?_)
    intro a51 hA52
    refine q_step hA52 rfl (d_assign (wn rfl) (hA52.ev (v := (.int .i64 16)) rfl) ?_)
    intro a53 hA54
    refine q_end ?_
    refine t_norm ?_
    refine wp_seq ?_
    refine wp_seq ?_
    refine wp_region_lit ?_
    refine q_step hA54 rfl (d_move (wn rfl) (hA54.ev (v := (.string (S (cutF l [48, 120])))) rfl) ?_)
    intro a55 hA56
    refine q_step hA56 rfl (d_slen (wn rfl) (hA56.ev (v := (.string (S (cutF l [48, 120])))) rfl) str9 ?_)
    intro a57 hA58
    refine q_step hA58 rfl (d_move (wn rfl) (hA58.ev (v := (.int .i64 16)) rfl) ?_)
    intro a59 hA60
    rcases Bool.eq_false_or_eq_true (decide ((((cutF l [48, 120]).length : Nat) : Int) > 16)) with hb61 | hb61
    · skip
      have hq62 := of_decide_eq_true hb61
      refine q_step hA60 rfl (d_bin (wn rfl) (hA60.ev (v := (.int .i64 (((cutF l [48, 120]).length : Nat) : Int))) rfl) (hA60.ev (v := (.int .i64 16)) rfl) (b_gt _ _ (((cutF l [48, 120]).length : Nat) : Int) 16 true _ hb61) ?_)
      intro a63 hA64
      refine q_end ?_
      refine t_norm ?_
      refine c_true hA64 rfl ?_
      refine wp_seq ?_
      refine wp_region_lit ?_
      refine q_step hA64 rfl (d_build (cs := #[.int .i64 0, .string (S []), .int .i64 0, .int .i64 0]) (wn rfl) (bp_of bq_nil) zero33 places33 (by kernel_rfl) ?_)
      intro a65 hA66
      refine q_step hA66 rfl (d_storeRow (wn rfl) (hA66.ev (v := (.pointer (some ⟨g3, 0, none⟩))) rfl) (hA66.ev (v := (.agg #[.int .i64 0, .string (S []), .int .i64 0, .int .i64 0])) rfl) row33 m28 rfl rfl ?_)
      intro w67 hU68 (m69 : Blk w67 g3 #[.int .i64 0, .string (S []), .int .i64 0, .int .i64 0] 33)
      have b70 := hU68.below b29 ge8
      intro a71 hA72
      refine q_step hA72 rfl (d_assign (wn rfl) (hA72.ev (v := (.int .i64 23)) rfl) ?_)
      intro a73 hA74
      refine q_end ?_
      refine t_norm ?_
      refine wp_ret ?_
      refine t_ret ?_
      refine retCT (g := g3) (cs := #[.int .i64 0, .string (S []), .int .i64 0, .int .i64 0]) (v := (.int .i64 23)) rfl hA74 rfl rfl m69 row33 ?_
      exact ⟨by rw [num_longx hb44 (by omega)]; rfl, b70⟩
    · skip
      have hq75 := of_decide_eq_false hb61
      refine q_step hA60 rfl (d_bin (wn rfl) (hA60.ev (v := (.int .i64 (((cutF l [48, 120]).length : Nat) : Int))) rfl) (hA60.ev (v := (.int .i64 16)) rfl) (b_gt _ _ (((cutF l [48, 120]).length : Nat) : Int) 16 false _ hb61) ?_)
      intro a76 hA77
      refine q_end ?_
      refine t_norm ?_
      refine c_false hA77 rfl ?_
      refine wp_skip ?_
      refine t_norm ?_
      refine wp_seq ?_
      refine wp_region_lit ?_
      refine q_step hA77 rfl (d_move (wn rfl) (hA77.ev (v := (.string (S (cutF l [48, 120])))) rfl) ?_)
      intro a78 hA79
      refine q_step hA79 rfl (d_move (wn rfl) (hA79.ev (v := (.int .i64 16)) rfl) ?_)
      intro a80 hA81
      refine q_step hA81 rfl (d_call (wn rfl) ent51 (map3 (hA81.ev (v := (.string (S (cutF l [48, 120])))) rfl) (hA81.ev (v := (.int .i64 16)) rfl) (hA81.ev (v := (.int .i64 64)) rfl)) (pub16_or (cutF l [48, 120]) w24 (by omega) ev (cell_keep hev1 b29) hev2) ?_)
      rintro e85 w82 ⟨⟨n86, hv88, he84⟩ | ⟨hv88, N87, he84⟩, hG83⟩
      · skip
        have m89 := m28.grow hG83
        have b90 := below_grow b29 hG83 b29.size
        refine ⟨(.tuple #[(.int .u64 ((n86 : Nat) : Int)), (.nilIface)]), he84, ?_⟩
        intro a91 hA92
        refine q_step hA92 rfl (d_move (wn rfl) (hA92.ev (v := (.tuple #[(.int .u64 ((n86 : Nat) : Int)), (.nilIface)])) rfl) ?_)
        intro a93 hA94
        refine q_step hA94 rfl (d_extract (v := (.int .u64 ((n86 : Nat) : Int))) (wn rfl) (hA94.ev (v := (.tuple #[(.int .u64 ((n86 : Nat) : Int)), (.nilIface)])) rfl) rfl ?_)
        intro a95 hA96
        refine q_step hA96 rfl (d_extract (v := (.nilIface)) (wn rfl) (hA96.ev (v := (.tuple #[(.int .u64 ((n86 : Nat) : Int)), (.nilIface)])) rfl) rfl ?_)
        intro a97 hA98
        refine q_step hA98 rfl (d_assign (wn rfl) (hA98.ev (v := (.int .u64 ((n86 : Nat) : Int))) rfl) ?_)
        intro a99 hA100
        refine q_step hA100 rfl (d_assign (wn rfl) (hA100.ev (v := (.nilIface)) rfl) ?_)
        intro a101 hA102
        refine q_end ?_
        refine t_norm ?_
        refine wp_seq ?_
        refine wp_seq ?_
        refine wp_region_lit ?_
        refine q_step hA102 rfl (d_move (wn rfl) (hA102.ev (v := (.nilIface)) rfl) ?_)
        intro a103 hA104
        refine q_step hA104 rfl (d_bin (wn rfl) (hA104.ev (v := (.nilIface)) rfl) (hA104.ev (v := (.nilIface)) rfl) (b_nilNe ifc74) ?_)
        intro a105 hA106
        refine q_step hA106 rfl (d_move (wn rfl) (hA106.ev (v := (.bool false)) rfl) ?_)
        intro a107 hA108
        refine q_step hA108 rfl (d_move (wy rfl rfl (hA108.get 32 _ rfl)) (hA108.ev (v := (.int .u64 ((n86 : Nat) : Int))) rfl) ?_)
        intro a109 hA110
        rcases Bool.eq_false_or_eq_true (decide (((n86 : Nat) : Int) > 9223372036854775808)) with hb111 | hb111
        · skip
          have hq112 := of_decide_eq_true hb111
          refine q_step hA110 rfl (d_bin (wy rfl rfl (hA110.get 32 _ rfl)) (hA110.ev (v := (.int .u64 ((n86 : Nat) : Int))) rfl) (hA110.ev (v := (.int .u64 9223372036854775808)) rfl) (b_gt _ _ ((n86 : Nat) : Int) 9223372036854775808 true _ hb111) ?_)
          intro a113 hA114
          refine q_step hA114 rfl (d_pickF (wn rfl) (hA114.ev (v := (.bool false)) rfl) (hA114.ev (v := (.bool true)) rfl) ?_)
          intro a115 hA116
          refine q_end ?_
          refine t_norm ?_
          refine c_true hA116 rfl ?_
          refine wp_seq ?_
          refine wp_region_lit ?_
          refine q_step hA116 rfl (d_build (cs := #[.int .i64 0, .string (S []), .int .i64 0, .int .i64 0]) (wn rfl) (bp_of bq_nil) zero33 places33 (by kernel_rfl) ?_)
          intro a117 hA118
          refine q_step hA118 rfl (d_storeRow (wn rfl) (hA118.ev (v := (.pointer (some ⟨g3, 0, none⟩))) rfl) (hA118.ev (v := (.agg #[.int .i64 0, .string (S []), .int .i64 0, .int .i64 0])) rfl) row33 m89 rfl rfl ?_)
          intro w119 hU120 (m121 : Blk w119 g3 #[.int .i64 0, .string (S []), .int .i64 0, .int .i64 0] 33)
          have b122 := hU120.below b90 ge8
          intro a123 hA124
          refine q_step hA124 rfl (d_assign (wn rfl) (hA124.ev (v := (.int .i64 23)) rfl) ?_)
          intro a125 hA126
          refine q_end ?_
          refine t_norm ?_
          refine wp_ret ?_
          refine t_ret ?_
          refine retCT (g := g3) (cs := #[.int .i64 0, .string (S []), .int .i64 0, .int .i64 0]) (v := (.int .i64 23)) rfl hA126 rfl rfl m121 row33 ?_
          exact ⟨by rw [num_bigx hb44 hv88 (by omega)]; rfl, b122⟩
        · skip
          have hq127 := of_decide_eq_false hb111
          refine q_step hA110 rfl (d_bin (wy rfl rfl (hA110.get 32 _ rfl)) (hA110.ev (v := (.int .u64 ((n86 : Nat) : Int))) rfl) (hA110.ev (v := (.int .u64 9223372036854775808)) rfl) (b_gt _ _ ((n86 : Nat) : Int) 9223372036854775808 false _ hb111) ?_)
          intro a128 hA129
          refine q_step hA129 rfl (d_pickF (wn rfl) (hA129.ev (v := (.bool false)) rfl) (hA129.ev (v := (.bool false)) rfl) ?_)
          intro a130 hA131
          refine q_end ?_
          refine t_norm ?_
          refine c_false hA131 rfl ?_
          refine wp_skip ?_
          refine t_norm ?_
          refine wp_seq ?_
          refine wp_region_lit ?_
          refine q_step hA131 rfl (d_move (wn rfl) (hA131.ev (v := (.string (S l))) rfl) ?_)
          intro a132 hA133
          refine q_step hA133 rfl (d_move (wn rfl) (hA133.ev (v := (.int .u64 ((n86 : Nat) : Int))) rfl) ?_)
          intro a134 hA135
          refine q_step hA135 rfl (d_conv (IntKind.wrap .i64 ((n86 : Nat) : Int)) (wn rfl) (hA135.ev (v := (.int .u64 ((n86 : Nat) : Int))) rfl) knd70 knd3 rfl ?_)
          intro a136 hA137
          refine q_step hA137 rfl (d_build (cs := #[.int .i64 2, .string (S l), .int .i64 (IntKind.wrap .i64 ((n86 : Nat) : Int)), .int .i64 0]) (wn rfl) (bp_of (bq_cons (hA137.ev (v := (.int .i64 2)) rfl) (bq_cons (hA137.ev (v := (.string (S l))) rfl) (bq_cons (hA137.ev (v := (.int .i64 (IntKind.wrap .i64 ((n86 : Nat) : Int)))) rfl) bq_nil)))) zero33 places33 (by kernel_rfl) ?_)
          intro a138 hA139
          refine q_step hA139 rfl (d_storeRow (wn rfl) (hA139.ev (v := (.pointer (some ⟨g3, 0, none⟩))) rfl) (hA139.ev (v := (.agg #[.int .i64 2, .string (S l), .int .i64 (IntKind.wrap .i64 ((n86 : Nat) : Int)), .int .i64 0])) rfl) row33 m89 rfl rfl ?_)
          intro w140 hU141 (m142 : Blk w140 g3 #[.int .i64 2, .string (S l), .int .i64 (IntKind.wrap .i64 ((n86 : Nat) : Int)), .int .i64 0] 33)
          have b143 := hU141.below b90 ge8
          intro a144 hA145
          refine q_step hA145 rfl (d_assign (wn rfl) (hA145.ev (v := (.int .i64 0)) rfl) ?_)
          intro a146 hA147
          refine q_end ?_
          refine t_norm ?_
          refine wp_ret ?_
          refine retCT (g := g3) (cs := #[.int .i64 2, .string (S l), .int .i64 (IntKind.wrap .i64 ((n86 : Nat) : Int)), .int .i64 0]) (v := (.int .i64 0)) rfl hA147 rfl rfl m142 row33 ?_
          exact ⟨by rw [num_okx hb44 (by omega) hv88 (by omega)]; rfl, b143⟩
      · skip
        have m148 := m28.grow hG83
        have b149 := below_grow b29 hG83 b29.size
        refine ⟨(.tuple #[(.int .u64 0), (.iface 87 (.pointer (some ⟨N87, 0, none⟩)))]), he84, ?_⟩
        intro a150 hA151
        refine q_step hA151 rfl (d_move (wn rfl) (hA151.ev (v := (.tuple #[(.int .u64 0), (.iface 87 (.pointer (some ⟨N87, 0, none⟩)))])) rfl) ?_)
        intro a152 hA153
        refine q_step hA153 rfl (d_extract (v := (.int .u64 0)) (wn rfl) (hA153.ev (v := (.tuple #[(.int .u64 0), (.iface 87 (.pointer (some ⟨N87, 0, none⟩)))])) rfl) rfl ?_)
        intro a154 hA155
        refine q_step hA155 rfl (d_extract (v := (.iface 87 (.pointer (some ⟨N87, 0, none⟩)))) (wn rfl) (hA155.ev (v := (.tuple #[(.int .u64 0), (.iface 87 (.pointer (some ⟨N87, 0, none⟩)))])) rfl) rfl ?_)
        intro a156 hA157
        refine q_step hA157 rfl (d_assign (wn rfl) (hA157.ev (v := (.int .u64 0)) rfl) ?_)
        intro a158 hA159
        refine q_step hA159 rfl (d_assign (wn rfl) (hA159.ev (v := (.iface 87 (.pointer (some ⟨N87, 0, none⟩)))) rfl) ?_)
        intro a160 hA161
        refine q_end ?_
        refine t_norm ?_
        refine wp_seq ?_
        refine wp_seq ?_
        refine wp_region_lit ?_
        refine q_step hA161 rfl (d_move (wn rfl) (hA161.ev (v := (.iface 87 (.pointer (some ⟨N87, 0, none⟩)))) rfl) ?_)
        intro a162 hA163
        refine q_step hA163 rfl (d_bin (wn rfl) (hA163.ev (v := (.iface 87 (.pointer (some ⟨N87, 0, none⟩)))) rfl) (hA163.ev (v := (.nilIface)) rfl) (b_ifcNe ifc74) ?_)
        intro a164 hA165
        refine q_step hA165 rfl (d_move (wn rfl) (hA165.ev (v := (.bool true)) rfl) ?_)
        intro a166 hA167
        refine q_step hA167 rfl (does_not (wno rfl rfl (.inl (hA167.get 32 _ rfl))) ?_)
        intro a168 hA169
        refine q_step hA169 rfl (does_not (wno rfl rfl (.inl (hA169.get 32 _ rfl))) ?_)
        intro a170 hA171
        refine q_step hA171 rfl (d_pickT (wn rfl) (hA171.ev (v := (.bool true)) rfl) (hA171.ev (v := (.bool true)) rfl) ?_)
        intro a172 hA173
        refine q_end ?_
        refine t_norm ?_
        refine c_true hA173 rfl ?_
        refine wp_seq ?_
        refine wp_region_lit ?_
        refine q_step hA173 rfl (d_build (cs := #[.int .i64 0, .string (S []), .int .i64 0, .int .i64 0]) (wn rfl) (bp_of bq_nil) zero33 places33 (by kernel_rfl) ?_)
        intro a174 hA175
        refine q_step hA175 rfl (d_storeRow (wn rfl) (hA175.ev (v := (.pointer (some ⟨g3, 0, none⟩))) rfl) (hA175.ev (v := (.agg #[.int .i64 0, .string (S []), .int .i64 0, .int .i64 0])) rfl) row33 m148 rfl rfl ?_)
        intro w176 hU177 (m178 : Blk w176 g3 #[.int .i64 0, .string (S []), .int .i64 0, .int .i64 0] 33)
        have b179 := hU177.below b149 ge8
        intro a180 hA181
        refine q_step hA181 rfl (d_assign (wn rfl) (hA181.ev (v := (.int .i64 23)) rfl) ?_)
        intro a182 hA183
        refine q_end ?_
        refine t_norm ?_
        refine wp_ret ?_
        refine t_ret ?_
        refine retCT (g := g3) (cs := #[.int .i64 0, .string (S []), .int .i64 0, .int .i64 0]) (v := (.int .i64 23)) rfl hA183 rfl rfl m178 row33 ?_
        exact ⟨by rw [num_nonex hb44 hv88]; rfl, b179⟩
  · skip
    have hA185 := hA43.shadow (t := 17) rfl hb44
    refine c_false hA185 rfl ?_
    refine wp_skip ?_
    refine t_norm ?_
    refine wp_seq ?_
    refine wp_seq ?_
    refine wp_region_lit ?_
    refine q_step hA185 rfl (d_move (wn rfl) (hA185.ev (v := (.string (S l))) rfl) ?_)
    intro a186 hA187
    refine q_step hA187 rfl (d_slen (wn rfl) (hA187.ev (v := (.string (S l))) rfl) str9 ?_)
    intro a188 hA189
    refine q_step hA189 rfl (d_move (wn rfl) (hA189.ev (v := (.int .i64 19)) rfl) ?_)
    intro a190 hA191
    rcases Bool.eq_false_or_eq_true (decide (((l.length : Nat) : Int) > 19)) with hb192 | hb192
    · skip
      have hq193 := of_decide_eq_true hb192
      refine q_step hA191 rfl (d_bin (wn rfl) (hA191.ev (v := (.int .i64 ((l.length : Nat) : Int))) rfl) (hA191.ev (v := (.int .i64 19)) rfl) (b_gt _ _ ((l.length : Nat) : Int) 19 true _ hb192) ?_)
      intro a194 hA195
      refine q_end ?_
      refine t_norm ?_
      refine c_true hA195 rfl ?_
      refine wp_seq ?_
      refine wp_region_lit ?_
      refine q_step hA195 rfl (d_build (cs := #[.int .i64 0, .string (S []), .int .i64 0, .int .i64 0]) (wn rfl) (bp_of bq_nil) zero33 places33 (by kernel_rfl) ?_)
      intro a196 hA197
      refine q_step hA197 rfl (d_storeRow (wn rfl) (hA197.ev (v := (.pointer (some ⟨g3, 0, none⟩))) rfl) (hA197.ev (v := (.agg #[.int .i64 0, .string (S []), .int .i64 0, .int .i64 0])) rfl) row33 m28 rfl rfl ?_)
      intro w198 hU199 (m200 : Blk w198 g3 #[.int .i64 0, .string (S []), .int .i64 0, .int .i64 0] 33)
      have b201 := hU199.below b29 ge8
      intro a202 hA203
      refine q_step hA203 rfl (d_assign (wn rfl) (hA203.ev (v := (.int .i64 23)) rfl) ?_)
      intro a204 hA205
      refine q_end ?_
      refine t_norm ?_
      refine wp_ret ?_
      refine t_ret ?_
      refine retCT (g := g3) (cs := #[.int .i64 0, .string (S []), .int .i64 0, .int .i64 0]) (v := (.int .i64 23)) rfl hA205 rfl rfl m200 row33 ?_
      exact ⟨by rw [num_longd hb44 (by omega)]; rfl, b201⟩
    · skip
      have hq206 := of_decide_eq_false hb192
      refine q_step hA191 rfl (d_bin (wn rfl) (hA191.ev (v := (.int .i64 ((l.length : Nat) : Int))) rfl) (hA191.ev (v := (.int .i64 19)) rfl) (b_gt _ _ ((l.length : Nat) : Int) 19 false _ hb192) ?_)
      intro a207 hA208
      refine q_end ?_
      refine t_norm ?_
      refine c_false hA208 rfl ?_
      refine wp_skip ?_
      refine t_norm ?_
      refine wp_seq ?_
      refine wp_region_lit ?_
      refine q_step hA208 rfl (d_move (wn rfl) (hA208.ev (v := (.string (S l))) rfl) ?_)
      intro a209 hA210
      refine q_step hA210 rfl (d_move (wn rfl) (hA210.ev (v := (.int .i64 10)) rfl) ?_)
      intro a211 hA212
      refine q_step hA212 rfl (d_call (wn rfl) ent51 (map3 (hA212.ev (v := (.string (S l))) rfl) (hA212.ev (v := (.int .i64 10)) rfl) (hA212.ev (v := (.int .i64 64)) rfl)) (pub10_or l w24 (by omega) ev (cell_keep hev1 b29) hev2) ?_)
      rintro e216 w213 ⟨⟨n217, hv219, he215⟩ | ⟨hv219, N218, he215⟩, hG214⟩
      · skip
        have m220 := m28.grow hG214
        have b221 := below_grow b29 hG214 b29.size
        refine ⟨(.tuple #[(.int .u64 ((n217 : Nat) : Int)), (.nilIface)]), he215, ?_⟩
        intro a222 hA223
        refine q_step hA223 rfl (d_move (wn rfl) (hA223.ev (v := (.tuple #[(.int .u64 ((n217 : Nat) : Int)), (.nilIface)])) rfl) ?_)
        intro a224 hA225
        refine q_step hA225 rfl (d_extract (v := (.int .u64 ((n217 : Nat) : Int))) (wn rfl) (hA225.ev (v := (.tuple #[(.int .u64 ((n217 : Nat) : Int)), (.nilIface)])) rfl) rfl ?_)
        intro a226 hA227
        refine q_step hA227 rfl (d_extract (v := (.nilIface)) (wn rfl) (hA227.ev (v := (.tuple #[(.int .u64 ((n217 : Nat) : Int)), (.nilIface)])) rfl) rfl ?_)
        intro a228 hA229
        refine q_step hA229 rfl (d_assign (wn rfl) (hA229.ev (v := (.int .u64 ((n217 : Nat) : Int))) rfl) ?_)
        intro a230 hA231
        refine q_step hA231 rfl (d_assign (wn rfl) (hA231.ev (v := (.nilIface)) rfl) ?_)
        intro a232 hA233
        refine q_end ?_
        refine t_norm ?_
        refine wp_seq ?_
        refine wp_seq ?_
        refine wp_region_lit ?_
        refine q_step hA233 rfl (d_move (wn rfl) (hA233.ev (v := (.nilIface)) rfl) ?_)
        intro a234 hA235
        refine q_step hA235 rfl (d_bin (wn rfl) (hA235.ev (v := (.nilIface)) rfl) (hA235.ev (v := (.nilIface)) rfl) (b_nilNe ifc74) ?_)
        intro a236 hA237
        refine q_step hA237 rfl (d_move (wn rfl) (hA237.ev (v := (.bool false)) rfl) ?_)
        intro a238 hA239
        refine q_step hA239 rfl (d_move (wy rfl rfl (hA239.get 32 _ rfl)) (hA239.ev (v := (.int .u64 ((n217 : Nat) : Int))) rfl) ?_)
        intro a240 hA241
        rcases Bool.eq_false_or_eq_true (decide (((n217 : Nat) : Int) > 9223372036854775808)) with hb242 | hb242
        · skip
          have hq243 := of_decide_eq_true hb242
          refine q_step hA241 rfl (d_bin (wy rfl rfl (hA241.get 32 _ rfl)) (hA241.ev (v := (.int .u64 ((n217 : Nat) : Int))) rfl) (hA241.ev (v := (.int .u64 9223372036854775808)) rfl) (b_gt _ _ ((n217 : Nat) : Int) 9223372036854775808 true _ hb242) ?_)
          intro a244 hA245
          refine q_step hA245 rfl (d_pickF (wn rfl) (hA245.ev (v := (.bool false)) rfl) (hA245.ev (v := (.bool true)) rfl) ?_)
          intro a246 hA247
          refine q_end ?_
          refine t_norm ?_
          refine c_true hA247 rfl ?_
          refine wp_seq ?_
          refine wp_region_lit ?_
          refine q_step hA247 rfl (d_build (cs := #[.int .i64 0, .string (S []), .int .i64 0, .int .i64 0]) (wn rfl) (bp_of bq_nil) zero33 places33 (by kernel_rfl) ?_)
          intro a248 hA249
          refine q_step hA249 rfl (d_storeRow (wn rfl) (hA249.ev (v := (.pointer (some ⟨g3, 0, none⟩))) rfl) (hA249.ev (v := (.agg #[.int .i64 0, .string (S []), .int .i64 0, .int .i64 0])) rfl) row33 m220 rfl rfl ?_)
          intro w250 hU251 (m252 : Blk w250 g3 #[.int .i64 0, .string (S []), .int .i64 0, .int .i64 0] 33)
          have b253 := hU251.below b221 ge8
          intro a254 hA255
          refine q_step hA255 rfl (d_assign (wn rfl) (hA255.ev (v := (.int .i64 23)) rfl) ?_)
          intro a256 hA257
          refine q_end ?_
          refine t_norm ?_
          refine wp_ret ?_
          refine t_ret ?_
          refine retCT (g := g3) (cs := #[.int .i64 0, .string (S []), .int .i64 0, .int .i64 0]) (v := (.int .i64 23)) rfl hA257 rfl rfl m252 row33 ?_
          exact ⟨by rw [num_bigd hb44 hv219 (by omega)]; rfl, b253⟩
        · skip
          have hq258 := of_decide_eq_false hb242
          refine q_step hA241 rfl (d_bin (wy rfl rfl (hA241.get 32 _ rfl)) (hA241.ev (v := (.int .u64 ((n217 : Nat) : Int))) rfl) (hA241.ev (v := (.int .u64 9223372036854775808)) rfl) (b_gt _ _ ((n217 : Nat) : Int) 9223372036854775808 false _ hb242) ?_)
          intro a259 hA260
          refine q_step hA260 rfl (d_pickF (wn rfl) (hA260.ev (v := (.bool false)) rfl) (hA260.ev (v := (.bool false)) rfl) ?_)
          intro a261 hA262
          refine q_end ?_
          refine t_norm ?_
          refine c_false hA262 rfl ?_
          refine wp_skip ?_
          refine t_norm ?_
          refine wp_seq ?_
          refine wp_region_lit ?_
          refine q_step hA262 rfl (d_move (wn rfl) (hA262.ev (v := (.string (S l))) rfl) ?_)
          intro a263 hA264
          refine q_step hA264 rfl (d_move (wn rfl) (hA264.ev (v := (.int .u64 ((n217 : Nat) : Int))) rfl) ?_)
          intro a265 hA266
          refine q_step hA266 rfl (d_conv (IntKind.wrap .i64 ((n217 : Nat) : Int)) (wn rfl) (hA266.ev (v := (.int .u64 ((n217 : Nat) : Int))) rfl) knd70 knd3 rfl ?_)
          intro a267 hA268
          refine q_step hA268 rfl (d_build (cs := #[.int .i64 2, .string (S l), .int .i64 (IntKind.wrap .i64 ((n217 : Nat) : Int)), .int .i64 0]) (wn rfl) (bp_of (bq_cons (hA268.ev (v := (.int .i64 2)) rfl) (bq_cons (hA268.ev (v := (.string (S l))) rfl) (bq_cons (hA268.ev (v := (.int .i64 (IntKind.wrap .i64 ((n217 : Nat) : Int)))) rfl) bq_nil)))) zero33 places33 (by kernel_rfl) ?_)
          intro a269 hA270
          refine q_step hA270 rfl (d_storeRow (wn rfl) (hA270.ev (v := (.pointer (some ⟨g3, 0, none⟩))) rfl) (hA270.ev (v := (.agg #[.int .i64 2, .string (S l), .int .i64 (IntKind.wrap .i64 ((n217 : Nat) : Int)), .int .i64 0])) rfl) row33 m220 rfl rfl ?_)
          intro w271 hU272 (m273 : Blk w271 g3 #[.int .i64 2, .string (S l), .int .i64 (IntKind.wrap .i64 ((n217 : Nat) : Int)), .int .i64 0] 33)
          have b274 := hU272.below b221 ge8
          intro a275 hA276
          refine q_step hA276 rfl (d_assign (wn rfl) (hA276.ev (v := (.int .i64 0)) rfl) ?_)
          intro a277 hA278
          refine q_end ?_
          refine t_norm ?_
          refine wp_ret ?_
          refine retCT (g := g3) (cs := #[.int .i64 2, .string (S l), .int .i64 (IntKind.wrap .i64 ((n217 : Nat) : Int)), .int .i64 0]) (v := (.int .i64 0)) rfl hA278 rfl rfl m273 row33 ?_
          exact ⟨by rw [num_okd hb44 (by omega) hv219 (by omega)]; rfl, b274⟩
      · skip
        have m279 := m28.grow hG214
        have b280 := below_grow b29 hG214 b29.size
        refine ⟨(.tuple #[(.int .u64 0), (.iface 87 (.pointer (some ⟨N218, 0, none⟩)))]), he215, ?_⟩
        intro a281 hA282
        refine q_step hA282 rfl (d_move (wn rfl) (hA282.ev (v := (.tuple #[(.int .u64 0), (.iface 87 (.pointer (some ⟨N218, 0, none⟩)))])) rfl) ?_)
        intro a283 hA284
        refine q_step hA284 rfl (d_extract (v := (.int .u64 0)) (wn rfl) (hA284.ev (v := (.tuple #[(.int .u64 0), (.iface 87 (.pointer (some ⟨N218, 0, none⟩)))])) rfl) rfl ?_)
        intro a285 hA286
        refine q_step hA286 rfl (d_extract (v := (.iface 87 (.pointer (some ⟨N218, 0, none⟩)))) (wn rfl) (hA286.ev (v := (.tuple #[(.int .u64 0), (.iface 87 (.pointer (some ⟨N218, 0, none⟩)))])) rfl) rfl ?_)
        intro a287 hA288
        refine q_step hA288 rfl (d_assign (wn rfl) (hA288.ev (v := (.int .u64 0)) rfl) ?_)
        intro a289 hA290
        refine q_step hA290 rfl (d_assign (wn rfl) (hA290.ev (v := (.iface 87 (.pointer (some ⟨N218, 0, none⟩)))) rfl) ?_)
        intro a291 hA292
        refine q_end ?_
        refine t_norm ?_
        refine wp_seq ?_
        refine wp_seq ?_
        refine wp_region_lit ?_
        refine q_step hA292 rfl (d_move (wn rfl) (hA292.ev (v := (.iface 87 (.pointer (some ⟨N218, 0, none⟩)))) rfl) ?_)
        intro a293 hA294
        refine q_step hA294 rfl (d_bin (wn rfl) (hA294.ev (v := (.iface 87 (.pointer (some ⟨N218, 0, none⟩)))) rfl) (hA294.ev (v := (.nilIface)) rfl) (b_ifcNe ifc74) ?_)
        intro a295 hA296
        refine q_step hA296 rfl (d_move (wn rfl) (hA296.ev (v := (.bool true)) rfl) ?_)
        intro a297 hA298
        refine q_step hA298 rfl (does_not (wno rfl rfl (.inl (hA298.get 32 _ rfl))) ?_)
        intro a299 hA300
        refine q_step hA300 rfl (does_not (wno rfl rfl (.inl (hA300.get 32 _ rfl))) ?_)
        intro a301 hA302
        refine q_step hA302 rfl (d_pickT (wn rfl) (hA302.ev (v := (.bool true)) rfl) (hA302.ev (v := (.bool true)) rfl) ?_)
        intro a303 hA304
        refine q_end ?_
        refine t_norm ?_
        refine c_true hA304 rfl ?_
        refine wp_seq ?_
        refine wp_region_lit ?_
        refine q_step hA304 rfl (d_build (cs := #[.int .i64 0, .string (S []), .int .i64 0, .int .i64 0]) (wn rfl) (bp_of bq_nil) zero33 places33 (by kernel_rfl) ?_)
        intro a305 hA306
        refine q_step hA306 rfl (d_storeRow (wn rfl) (hA306.ev (v := (.pointer (some ⟨g3, 0, none⟩))) rfl) (hA306.ev (v := (.agg #[.int .i64 0, .string (S []), .int .i64 0, .int .i64 0])) rfl) row33 m279 rfl rfl ?_)
        intro w307 hU308 (m309 : Blk w307 g3 #[.int .i64 0, .string (S []), .int .i64 0, .int .i64 0] 33)
        have b310 := hU308.below b280 ge8
        intro a311 hA312
        refine q_step hA312 rfl (d_assign (wn rfl) (hA312.ev (v := (.int .i64 23)) rfl) ?_)
        intro a313 hA314
        refine q_end ?_
        refine t_norm ?_
        refine wp_ret ?_
        refine t_ret ?_
        refine retCT (g := g3) (cs := #[.int .i64 0, .string (S []), .int .i64 0, .int .i64 0]) (v := (.int .i64 23)) rfl hA314 rfl rfl m309 row33 ?_
        exact ⟨by rw [num_noned hb44 hv219]; rfl, b310⟩
end Go.Proofs.YtfehbkcfncioiaaDoor
/- The word that a text begins with. -/
namespace Go.Proofs.YtfehbkcfncioiaaDoor
set_option linter.unusedVariables false

theorem mkN_le {l : List UInt8} (h : 0 < l.length) : mkN l ≤ l.length := by
  unfold mkN
  split
  · next h1 =>
    rw [Bool.or_eq_true] at h1
    rcases h1 with h1 | h1
    · exact pre_len h1
    · exact pre_len h1
  · split <;> split <;> omega
/-- the word, and what is wrong -/
def firstR (l : List UInt8) : Tk × Int :=
  match l[0]? with
  | none => (tok0, 20)
  | some b =>
    if digB b then (match numR (l.take (rn numB l)) with | some n => (⟨2, l.take (rn numB l), n, 0⟩, 0) | none => (tok0, 23))
    else if nbgB b then (⟨1, l.take (rn namB l), 0, 0⟩, 0)
    else if mkN l > 0 then (⟨3, l.take (mkN l), 0, 0⟩, 0) else (tok0, 20)
section
variable {l : List UInt8} {b : UInt8}
theorem first_num {n : Int} (hb : l[0]? = some b) (h : digB b = true) (hn : numR (l.take (rn numB l)) = some n) : firstR l = (⟨2, l.take (rn numB l), n, 0⟩, 0) := by unfold firstR; simp [hb, h, hn]
theorem first_bad (hb : l[0]? = some b) (h : digB b = true) (hn : numR (l.take (rn numB l)) = none) : firstR l = (tok0, 23) := by unfold firstR; simp [hb, h, hn]
theorem first_name (hb : l[0]? = some b) (h : digB b = false) (h2 : nbgB b = true) : firstR l = (⟨1, l.take (rn namB l), 0, 0⟩, 0) := by unfold firstR; simp [hb, h, h2]
theorem first_mark (hb : l[0]? = some b) (h : digB b = false) (h2 : nbgB b = false) (h3 : mkN l > 0) : firstR l = (⟨3, l.take (mkN l), 0, 0⟩, 0) := by unfold firstR; simp [hb, h, h2, h3]
theorem first_byte (hb : l[0]? = some b) (h : digB b = false) (h2 : nbgB b = false) (h3 : ¬ mkN l > 0) : firstR l = (tok0, 20) := by unfold firstR; simp [hb, h, h2, h3]
end
end Go.Proofs.YtfehbkcfncioiaaDoor
/- The word that a text begins with: scan.first. -/
namespace Go.Proofs.YtfehbkcfncioiaaDoor
open Go.RowKit
set_option linter.unusedSimpArgs false
set_option linter.unusedVariables false
theorem ent41 : ((Tryd.prog.funcs[41]?).map fun fn => (fn.name == "runtime.NumGoroutine", fn.body.isNone)) = some (false, false) := by kernel_rfl
theorem ent42 : ((Tryd.prog.funcs[42]?).map fun fn => (fn.name == "runtime.NumGoroutine", fn.body.isNone)) = some (false, false) := by kernel_rfl
theorem ent43 : ((Tryd.prog.funcs[43]?).map fun fn => (fn.name == "runtime.NumGoroutine", fn.body.isNone)) = some (false, false) := by kernel_rfl
theorem ent45 : ((Tryd.prog.funcs[45]?).map fun fn => (fn.name == "runtime.NumGoroutine", fn.body.isNone)) = some (false, false) := by kernel_rfl
theorem ent46 : ((Tryd.prog.funcs[46]?).map fun fn => (fn.name == "runtime.NumGoroutine", fn.body.isNone)) = some (false, false) := by kernel_rfl
theorem number_or (l : List UInt8) (w : World) (hl : l.length ≤ 8192) (ev : Value) (hev1 : w.cell? ⟨1, 0, none⟩ = some ev) (hev2 : ev = .nilIface ∨ ∃ te pe, ev = .iface te pe) : Calls Tryd.prog 41 #[.string (S l)] w fun e w' => ((∃ n : Int, numR l = some n ∧ e = .returned (.tuple #[.agg (tokC ⟨2, l, n, 0⟩), .int .i64 0])) ∨ (numR l = none ∧ e = .returned (.tuple #[.agg (tokC tok0), .int .i64 23]))) ∧ Grow w w' := by
  refine (number_any l w hl ev hev1 hev2).mono fun e w' ⟨he, hG⟩ => ⟨?_, hG⟩
  cases hv : numR l with
  | none => exact .inr ⟨rfl, by rw [he, hv]; rfl⟩
  | some n => exact .inl ⟨n, rfl, by rw [he, hv]; rfl⟩
set_option maxHeartbeats 4000000 in
set_option maxRecDepth 4000 in
theorem first_any (l : List UInt8) (w : World) (h0 : 0 < l.length) (hl : l.length ≤ 8192) (ev : Value) (hev1 : w.cell? ⟨1, 0, none⟩ = some ev) (hev2 : ev = .nilIface ∨ ∃ te pe, ev = .iface te pe) : Calls Tryd.prog 26 #[.string (S l)] w fun e w' => e = .returned (.tuple #[.agg (tokC (firstR l).1), .int .i64 (firstR l).2]) ∧ Grow w w' := by
  have b0 : Below w.heap.size w w := Below.refl _ _
  refine enter (n := 35) Tryd.func26 rfl rfl (Nat.le_of_ble_eq_true rfl) ?_
  intro a1 hA2
  refine wp_seq ?_
  refine wp_region_lit ?_
  refine q_step hA2 rfl (d_alloc (wn rfl) zero33 ?_)
  intro g3 w4 eg5 hG6 (m7 : Blk w4 g3 #[.int .i64 0, .string (S []), .int .i64 0, .int .i64 0] 33)
  have ge8 : w.heap.size ≤ g3 := eg5 ▸ b0.size
  have b9 := below_grow b0 hG6 b0.size
  intro a10 hA11
  refine q_step hA11 rfl (d_assign (wn rfl) (hA11.ev (v := (.int .i64 0)) rfl) ?_)
  intro a12 hA13
  refine q_end ?_
  refine t_norm ?_
  refine wp_seq ?_
  refine wp_seq ?_
  refine wp_region_lit ?_
  refine q_step hA13 rfl (d_move (wn rfl) (hA13.ev (v := (.string (S l))) rfl) ?_)
  intro a14 hA15
  obtain ⟨y16, hy17⟩ : ∃ y16, l[0]? = some y16 := ⟨_, List.getElem?_eq_getElem (show 0 < l.length by omega)⟩
  refine q_step hA15 rfl (d_sat (j := 0) (wn rfl) (hA15.ev (v := (.string (S l))) rfl) (hA15.ev (v := (.int .i64 0)) rfl) str9 hy17 ?_)
  intro a18 hA19
  refine q_step hA19 rfl (d_assign (wn rfl) (hA19.ev (v := (.int .u8 ((y16.toNat : Nat) : Int))) rfl) ?_)
  intro a20 hA21
  refine q_end ?_
  refine t_norm ?_
  refine wp_block ?_
  refine wp_seq ?_
  refine wp_region_lit ?_
  refine q_step hA21 rfl (d_move (wn rfl) (hA21.ev (v := (.int .u8 ((y16.toNat : Nat) : Int))) rfl) ?_)
  intro a22 hA23
  refine q_step hA23 rfl (d_call (wn rfl) ent40 (map1 (hA23.ev (v := (.int .u8 ((y16.toNat : Nat) : Int))) rfl)) (isDigit_any y16 w4) ?_)
  rintro e27 w24 ⟨he26, hG25⟩
  have m28 := m7.grow hG25
  have b29 := below_grow b9 hG25 b9.size
  rcases Bool.eq_false_or_eq_true (digB y16) with hb30 | hb30
  · skip
    refine ⟨.bool true, he26.trans (ret_bool hb30), ?_⟩
    intro a32 hA33
    refine q_step hA33 rfl (d_assign (wn rfl) (hA33.ev (v := (.bool true)) rfl) ?_)
    intro a34 hA35
    refine q_end ?_
    refine t_norm ?_
    refine c_true hA35 rfl ?_
    refine wp_seq ?_
    refine wp_region_lit ?_
    refine q_step hA35 rfl (d_move (wn rfl) (hA35.ev (v := (.string (S l))) rfl) ?_)
    intro a36 hA37
    refine q_step hA37 rfl (d_move (wn rfl) (hA37.ev (v := (.string (S l))) rfl) ?_)
    intro a38 hA39
    have hrn := rn_le numB l
    refine q_step hA39 rfl (d_call (wn rfl) ent42 (map2 (hA39.ev (v := (.string (S l))) rfl) (hA39.ev (v := (.func (.func 43) #[] #[])) rfl)) (run_any l 43 numB w24 (by omega) ent43 isNumberPart_any) ?_)
    rintro e43 w40 ⟨he42, hG41⟩
    have m44 := m28.grow hG41
    have b45 := below_grow b29 hG41 b29.size
    refine ⟨(.int .i64 ((rn numB l : Nat) : Int)), he42, ?_⟩
    intro a46 hA47
    refine q_step hA47 rfl (d_shead (n := rn numB l) (wn rfl) (hA47.ev (v := (.string (S l))) rfl) (hA47.ev (v := (.int .i64 ((rn numB l : Nat) : Int))) rfl) str9 (by omega) ?_)
    intro a48 hA49
    refine q_step hA49 rfl (d_call (wn rfl) ent41 (map1 (hA49.ev (v := (.string (S (List.take (rn numB l) l)))) rfl)) (number_or (List.take (rn numB l) l) w40 (by rw [List.length_take]; omega) ev (cell_keep hev1 b45) hev2) ?_)
    rintro e53 w50 ⟨⟨n54, hv55, he52⟩ | ⟨hv55, he52⟩, hG51⟩
    · skip
      have m56 := m44.grow hG51
      have b57 := below_grow b45 hG51 b45.size
      refine ⟨(.tuple #[(.agg #[.int .i64 2, .string (S (List.take (rn numB l) l)), .int .i64 n54, .int .i64 0]), (.int .i64 0)]), he52, ?_⟩
      intro a58 hA59
      refine q_step hA59 rfl (d_extract (v := (.agg #[.int .i64 2, .string (S (List.take (rn numB l) l)), .int .i64 n54, .int .i64 0])) (wn rfl) (hA59.ev (v := (.tuple #[(.agg #[.int .i64 2, .string (S (List.take (rn numB l) l)), .int .i64 n54, .int .i64 0]), (.int .i64 0)])) rfl) rfl ?_)
      intro a60 hA61
      refine q_step hA61 rfl (d_extract (v := (.int .i64 0)) (wn rfl) (hA61.ev (v := (.tuple #[(.agg #[.int .i64 2, .string (S (List.take (rn numB l) l)), .int .i64 n54, .int .i64 0]), (.int .i64 0)])) rfl) rfl ?_)
      intro a62 hA63
      refine q_step hA63 rfl (d_storeRow (wn rfl) (hA63.ev (v := (.pointer (some ⟨g3, 0, none⟩))) rfl) (hA63.ev (v := (.agg #[.int .i64 2, .string (S (List.take (rn numB l) l)), .int .i64 n54, .int .i64 0])) rfl) row33 m56 rfl rfl ?_)
      intro w64 hU65 (m66 : Blk w64 g3 #[.int .i64 2, .string (S (List.take (rn numB l) l)), .int .i64 n54, .int .i64 0] 33)
      have b67 := hU65.below b57 ge8
      intro a68 hA69
      refine q_step hA69 rfl (d_assign (wn rfl) (hA69.ev (v := (.int .i64 0)) rfl) ?_)
      intro a70 hA71
      refine q_end ?_
      refine t_norm ?_
      refine wp_ret ?_
      refine i_ret ?_
      refine t_ret ?_
      refine retCT (g := g3) (cs := #[.int .i64 2, .string (S (List.take (rn numB l) l)), .int .i64 n54, .int .i64 0]) (v := (.int .i64 0)) rfl hA71 rfl rfl m66 row33 ?_
      exact ⟨by rw [first_num hy17 hb30 hv55]; rfl, b67⟩
    · skip
      have m72 := m44.grow hG51
      have b73 := below_grow b45 hG51 b45.size
      refine ⟨(.tuple #[(.agg #[.int .i64 0, .string (S []), .int .i64 0, .int .i64 0]), (.int .i64 23)]), he52, ?_⟩
      intro a74 hA75
      refine q_step hA75 rfl (d_extract (v := (.agg #[.int .i64 0, .string (S []), .int .i64 0, .int .i64 0])) (wn rfl) (hA75.ev (v := (.tuple #[(.agg #[.int .i64 0, .string (S []), .int .i64 0, .int .i64 0]), (.int .i64 23)])) rfl) rfl ?_)
      intro a76 hA77
      refine q_step hA77 rfl (d_extract (v := (.int .i64 23)) (wn rfl) (hA77.ev (v := (.tuple #[(.agg #[.int .i64 0, .string (S []), .int .i64 0, .int .i64 0]), (.int .i64 23)])) rfl) rfl ?_)
      intro a78 hA79
      refine q_step hA79 rfl (d_storeRow (wn rfl) (hA79.ev (v := (.pointer (some ⟨g3, 0, none⟩))) rfl) (hA79.ev (v := (.agg #[.int .i64 0, .string (S []), .int .i64 0, .int .i64 0])) rfl) row33 m72 rfl rfl ?_)
      intro w80 hU81 (m82 : Blk w80 g3 #[.int .i64 0, .string (S []), .int .i64 0, .int .i64 0] 33)
      have b83 := hU81.below b73 ge8
      intro a84 hA85
      refine q_step hA85 rfl (d_assign (wn rfl) (hA85.ev (v := (.int .i64 23)) rfl) ?_)
      intro a86 hA87
      refine q_end ?_
      refine t_norm ?_
      refine wp_ret ?_
      refine i_ret ?_
      refine t_ret ?_
      refine retCT (g := g3) (cs := #[.int .i64 0, .string (S []), .int .i64 0, .int .i64 0]) (v := (.int .i64 23)) rfl hA87 rfl rfl m82 row33 ?_
      exact ⟨by rw [first_bad hy17 hb30 hv55]; rfl, b83⟩
  · skip
    refine ⟨.bool false, he26.trans (ret_bool hb30), ?_⟩
    intro a89 hA90
    refine q_step hA90 rfl (d_assign (wn rfl) (hA90.ev (v := (.bool false)) rfl) ?_)
    intro a91 hA92
    refine q_end ?_
    refine t_norm ?_
    refine c_false hA92 rfl ?_
    refine wp_seq ?_
    refine wp_region_lit ?_
    refine q_step hA92 rfl (d_move (wn rfl) (hA92.ev (v := (.int .u8 ((y16.toNat : Nat) : Int))) rfl) ?_)
    intro a93 hA94
    refine q_step hA94 rfl (d_call (wn rfl) ent44 (map1 (hA94.ev (v := (.int .u8 ((y16.toNat : Nat) : Int))) rfl)) (isNameBegin_any y16 w24) ?_)
    rintro e98 w95 ⟨he97, hG96⟩
    have m99 := m28.grow hG96
    have b100 := below_grow b29 hG96 b29.size
    rcases Bool.eq_false_or_eq_true (nbgB y16) with hb101 | hb101
    · skip
      refine ⟨.bool true, he97.trans (ret_bool hb101), ?_⟩
      intro a103 hA104
      refine q_step hA104 rfl (d_assign (wn rfl) (hA104.ev (v := (.bool true)) rfl) ?_)
      intro a105 hA106
      refine q_end ?_
      refine t_norm ?_
      refine c_true hA106 rfl ?_
      refine wp_seq ?_
      refine wp_region_lit ?_
      refine q_step hA106 rfl (d_move (wn rfl) (hA106.ev (v := (.string (S l))) rfl) ?_)
      intro a107 hA108
      refine q_step hA108 rfl (d_move (wn rfl) (hA108.ev (v := (.string (S l))) rfl) ?_)
      intro a109 hA110
      have hrn := rn_le namB l
      refine q_step hA110 rfl (d_call (wn rfl) ent42 (map2 (hA110.ev (v := (.string (S l))) rfl) (hA110.ev (v := (.func (.func 45) #[] #[])) rfl)) (run_any l 45 namB w95 (by omega) ent45 isNamePart_any) ?_)
      rintro e114 w111 ⟨he113, hG112⟩
      have m115 := m99.grow hG112
      have b116 := below_grow b100 hG112 b100.size
      refine ⟨(.int .i64 ((rn namB l : Nat) : Int)), he113, ?_⟩
      intro a117 hA118
      refine q_step hA118 rfl (d_shead (n := rn namB l) (wn rfl) (hA118.ev (v := (.string (S l))) rfl) (hA118.ev (v := (.int .i64 ((rn namB l : Nat) : Int))) rfl) str9 (by omega) ?_)
      intro a119 hA120
      refine q_step hA120 rfl (d_build (cs := #[.int .i64 1, .string (S (List.take (rn namB l) l)), .int .i64 0, .int .i64 0]) (wn rfl) (bp_of (bq_cons (hA120.ev (v := (.int .i64 1)) rfl) (bq_cons (hA120.ev (v := (.string (S (List.take (rn namB l) l)))) rfl) bq_nil))) zero33 places33 (by kernel_rfl) ?_)
      intro a121 hA122
      refine q_step hA122 rfl (d_storeRow (wn rfl) (hA122.ev (v := (.pointer (some ⟨g3, 0, none⟩))) rfl) (hA122.ev (v := (.agg #[.int .i64 1, .string (S (List.take (rn namB l) l)), .int .i64 0, .int .i64 0])) rfl) row33 m115 rfl rfl ?_)
      intro w123 hU124 (m125 : Blk w123 g3 #[.int .i64 1, .string (S (List.take (rn namB l) l)), .int .i64 0, .int .i64 0] 33)
      have b126 := hU124.below b116 ge8
      intro a127 hA128
      refine q_step hA128 rfl (d_assign (wn rfl) (hA128.ev (v := (.int .i64 0)) rfl) ?_)
      intro a129 hA130
      refine q_end ?_
      refine t_norm ?_
      refine wp_ret ?_
      refine i_ret ?_
      refine t_ret ?_
      refine retCT (g := g3) (cs := #[.int .i64 1, .string (S (List.take (rn namB l) l)), .int .i64 0, .int .i64 0]) (v := (.int .i64 0)) rfl hA130 rfl rfl m125 row33 ?_
      exact ⟨by rw [first_name hy17 hb30 hb101]; rfl, b126⟩
    · skip
      refine ⟨.bool false, he97.trans (ret_bool hb101), ?_⟩
      intro a132 hA133
      refine q_step hA133 rfl (d_assign (wn rfl) (hA133.ev (v := (.bool false)) rfl) ?_)
      intro a134 hA135
      refine q_end ?_
      refine t_norm ?_
      refine c_false hA135 rfl ?_
      refine wp_skip ?_
      refine i_norm ?_
      refine t_norm ?_
      refine wp_seq ?_
      refine wp_seq ?_
      refine wp_region_lit ?_
      refine q_step hA135 rfl (d_move (wn rfl) (hA135.ev (v := (.string (S l))) rfl) ?_)
      intro a136 hA137
      have hmk := mkN_le (l := l) (by omega)
      refine q_step hA137 rfl (d_call (wn rfl) ent46 (map1 (hA137.ev (v := (.string (S l))) rfl)) (markLen_any l w95 (by omega)) ?_)
      rintro e141 w138 ⟨he140, hG139⟩
      have m142 := m99.grow hG139
      have b143 := below_grow b100 hG139 b100.size
      refine ⟨(.int .i64 ((mkN l : Nat) : Int)), he140, ?_⟩
      intro a144 hA145
      refine q_step hA145 rfl (d_assign (wn rfl) (hA145.ev (v := (.int .i64 ((mkN l : Nat) : Int))) rfl) ?_)
      intro a146 hA147
      refine q_end ?_
      refine t_norm ?_
      refine wp_seq ?_
      refine wp_region_lit ?_
      refine q_step hA147 rfl (d_move (wn rfl) (hA147.ev (v := (.int .i64 ((mkN l : Nat) : Int))) rfl) ?_)
      intro a148 hA149
      rcases Bool.eq_false_or_eq_true (decide (((mkN l : Nat) : Int) > 0)) with hb150 | hb150
      · skip
        have hq151 := of_decide_eq_true hb150
        refine q_step hA149 rfl (d_bin (wn rfl) (hA149.ev (v := (.int .i64 ((mkN l : Nat) : Int))) rfl) (hA149.ev (v := (.int .i64 0)) rfl) (b_gt _ _ ((mkN l : Nat) : Int) 0 true _ hb150) ?_)
        intro a152 hA153
        refine q_end ?_
        refine t_norm ?_
        refine c_true hA153 rfl ?_
        refine wp_seq ?_
        refine wp_region_lit ?_
        refine q_step hA153 rfl (d_move (wn rfl) (hA153.ev (v := (.string (S l))) rfl) ?_)
        intro a154 hA155
        refine q_step hA155 rfl (d_move (wn rfl) (hA155.ev (v := (.int .i64 ((mkN l : Nat) : Int))) rfl) ?_)
        intro a156 hA157
        refine q_step hA157 rfl (d_shead (n := mkN l) (wn rfl) (hA157.ev (v := (.string (S l))) rfl) (hA157.ev (v := (.int .i64 ((mkN l : Nat) : Int))) rfl) str9 (by omega) ?_)
        intro a158 hA159
        refine q_step hA159 rfl (d_build (cs := #[.int .i64 3, .string (S (List.take (mkN l) l)), .int .i64 0, .int .i64 0]) (wn rfl) (bp_of (bq_cons (hA159.ev (v := (.int .i64 3)) rfl) (bq_cons (hA159.ev (v := (.string (S (List.take (mkN l) l)))) rfl) bq_nil))) zero33 places33 (by kernel_rfl) ?_)
        intro a160 hA161
        refine q_step hA161 rfl (d_storeRow (wn rfl) (hA161.ev (v := (.pointer (some ⟨g3, 0, none⟩))) rfl) (hA161.ev (v := (.agg #[.int .i64 3, .string (S (List.take (mkN l) l)), .int .i64 0, .int .i64 0])) rfl) row33 m142 rfl rfl ?_)
        intro w162 hU163 (m164 : Blk w162 g3 #[.int .i64 3, .string (S (List.take (mkN l) l)), .int .i64 0, .int .i64 0] 33)
        have b165 := hU163.below b143 ge8
        intro a166 hA167
        refine q_step hA167 rfl (d_assign (wn rfl) (hA167.ev (v := (.int .i64 0)) rfl) ?_)
        intro a168 hA169
        refine q_end ?_
        refine t_norm ?_
        refine wp_ret ?_
        refine t_ret ?_
        refine retCT (g := g3) (cs := #[.int .i64 3, .string (S (List.take (mkN l) l)), .int .i64 0, .int .i64 0]) (v := (.int .i64 0)) rfl hA169 rfl rfl m164 row33 ?_
        exact ⟨by rw [first_mark hy17 hb30 hb101 (by omega)]; rfl, b165⟩
      · skip
        have hq170 := of_decide_eq_false hb150
        refine q_step hA149 rfl (d_bin (wn rfl) (hA149.ev (v := (.int .i64 ((mkN l : Nat) : Int))) rfl) (hA149.ev (v := (.int .i64 0)) rfl) (b_gt _ _ ((mkN l : Nat) : Int) 0 false _ hb150) ?_)
        intro a171 hA172
        refine q_end ?_
        refine t_norm ?_
        refine c_false hA172 rfl ?_
        refine wp_skip ?_
        refine t_norm ?_
        refine wp_seq ?_
        refine wp_region_lit ?_
        refine q_step hA172 rfl (d_build (cs := #[.int .i64 0, .string (S []), .int .i64 0, .int .i64 0]) (wn rfl) (bp_of bq_nil) zero33 places33 (by kernel_rfl) ?_)
        intro a173 hA174
        refine q_step hA174 rfl (d_storeRow (wn rfl) (hA174.ev (v := (.pointer (some ⟨g3, 0, none⟩))) rfl) (hA174.ev (v := (.agg #[.int .i64 0, .string (S []), .int .i64 0, .int .i64 0])) rfl) row33 m142 rfl rfl ?_)
        intro w175 hU176 (m177 : Blk w175 g3 #[.int .i64 0, .string (S []), .int .i64 0, .int .i64 0] 33)
        have b178 := hU176.below b143 ge8
        intro a179 hA180
        refine q_step hA180 rfl (d_assign (wn rfl) (hA180.ev (v := (.int .i64 20)) rfl) ?_)
        intro a181 hA182
        refine q_end ?_
        refine t_norm ?_
        refine wp_ret ?_
        refine retCT (g := g3) (cs := #[.int .i64 0, .string (S []), .int .i64 0, .int .i64 0]) (v := (.int .i64 20)) rfl hA182 rfl rfl m177 row33 ?_
        exact ⟨by rw [first_byte hy17 hb30 hb101 (by omega)]; rfl, b178⟩
end Go.Proofs.YtfehbkcfncioiaaDoor
/- Past blanks and remarks. -/
namespace Go.Proofs.YtfehbkcfncioiaaDoor
set_option linter.unusedVariables false

/-- where a remark ends, that has begun -/
def endR (l : List UInt8) : Int := Lib.index l [42, 41]
theorem endR_ge (l : List UInt8) : -1 ≤ endR l := Lib.index_ge l _
theorem drop_lt {l : List UInt8} (n : Nat) (h : 0 < l.length) (hn : 0 < n) : (l.drop n).length < l.length := by rw [List.length_drop]; omega
/-- how far blanks and remarks go; whether the remark there does not end -/
def skipL (l : List UInt8) : Nat × Bool :=
  match l with
  | [] => (0, false)
  | b :: r =>
    if blkB b then ((skipL r).1 + 1, (skipL r).2)
    else if preB (b :: r) [40, 42] then
      if endR ((b :: r).drop 2) < 0 then (0, true)
      else ((skipL ((b :: r).drop (endR ((b :: r).drop 2)).toNat.succ.succ.succ.succ)).1 + ((endR ((b :: r).drop 2)).toNat + 4), (skipL ((b :: r).drop (endR ((b :: r).drop 2)).toNat.succ.succ.succ.succ)).2)
    else (0, false)
termination_by l.length
decreasing_by
  · simp
  all_goals exact drop_lt _ (by simp) (by omega)
theorem skip_nil : skipL [] = (0, false) := by rw [skipL]
theorem skip_end {l : List UInt8} {n : Nat} (h : l.length ≤ n) : skipL (l.drop n) = (0, false) := by rw [List.drop_eq_nil_of_le h, skip_nil]
theorem skip_blank {l : List UInt8} {n : Nat} {b : UInt8} (hb : l[n]? = some b) (h : blkB b = true) : skipL (l.drop n) = ((skipL (l.drop (n + 1))).1 + 1, (skipL (l.drop (n + 1))).2) := by
  rw [drop_at hb, skipL, if_pos h]
theorem skip_word {l : List UInt8} {n : Nat} {b : UInt8} (hb : l[n]? = some b) (h : blkB b = false) (hp : preB (l.drop n) [40, 42] = false) : skipL (l.drop n) = (0, false) := by
  rw [drop_at hb] at hp ⊢
  rw [skipL, if_neg (by simp [h]), if_neg (by simp [hp])]
theorem skip_open {l : List UInt8} {n : Nat} {b : UInt8} (hb : l[n]? = some b) (h : blkB b = false) (hp : preB (l.drop n) [40, 42] = true) (he : endR (l.drop (n + 2)) < 0) : skipL (l.drop n) = (0, true) := by
  have e : l.drop (n + 2) = (l.drop n).drop 2 := by rw [List.drop_drop]
  rw [e] at he
  rw [drop_at hb] at hp he ⊢
  rw [skipL, if_neg (by simp [h]), if_pos hp, if_pos he]
theorem skip_remark {l : List UInt8} {n : Nat} {b : UInt8} (hb : l[n]? = some b) (h : blkB b = false) (hp : preB (l.drop n) [40, 42] = true) (he : ¬ endR (l.drop (n + 2)) < 0) :
    skipL (l.drop n) = ((skipL (l.drop (n + 2 + (endR (l.drop (n + 2))).toNat + 2))).1 + ((endR (l.drop (n + 2))).toNat + 4), (skipL (l.drop (n + 2 + (endR (l.drop (n + 2))).toNat + 2))).2) := by
  have e : l.drop (n + 2) = (l.drop n).drop 2 := by rw [List.drop_drop]
  have e2 : l.drop (n + 2 + (endR (l.drop (n + 2))).toNat + 2) = (l.drop n).drop (endR (l.drop (n + 2))).toNat.succ.succ.succ.succ := by
    rw [List.drop_drop]; congr 1; omega
  rw [e2, e]
  rw [e] at he
  rw [drop_at hb] at hp he ⊢
  rw [skipL, if_neg (by simp [h]), if_pos hp, if_neg he]
end Go.Proofs.YtfehbkcfncioiaaDoor
/- Where a remark ends, within the text. -/
namespace Go.Proofs.YtfehbkcfncioiaaDoor
set_option linter.unusedVariables false

theorem endR_nil : endR [] = -1 := rfl
theorem endR_cons (b : UInt8) (l : List UInt8) : endR (b :: l) = if [42, 41].isPrefixOf (b :: l) then 0 else if endR l == -1 then -1 else endR l + 1 := by
  unfold endR; rw [Lib.index]
theorem endR_le (l : List UInt8) : endR l < 0 ∨ (endR l).toNat + 2 ≤ l.length := by
  induction l with
  | nil => exact .inl (by rw [endR_nil]; omega)
  | cons b l ih =>
    rw [endR_cons]
    split
    · next h =>
      right
      match l, h with
      | [], h => simp at h
      | c :: l, h => simp
    · split
      · left; omega
      · next h =>
        have h1 : endR l ≠ -1 := by simpa using h
        have h2 := endR_ge l
        rcases ih with h3 | h3
        · omega
        · right; simp only [List.length_cons]; omega
end Go.Proofs.YtfehbkcfncioiaaDoor
/- Past blanks and remarks: scan.skip. -/
namespace Go.Proofs.YtfehbkcfncioiaaDoor
open Go.RowKit
set_option linter.unusedSimpArgs false
set_option linter.unusedVariables false
theorem ent37 : ((Tryd.prog.funcs[37]?).map fun fn => (fn.name == "runtime.NumGoroutine", fn.body.isNone)) = some (false, false) := by kernel_rfl
theorem ent39 : ((Tryd.prog.funcs[39]?).map fun fn => (fn.name == "runtime.NumGoroutine", fn.body.isNone)) = some (false, false) := by kernel_rfl
set_option maxHeartbeats 4000000 in
set_option maxRecDepth 4000 in
theorem skip_any (l : List UInt8) (at0 : Nat) (w : World) (hl : l.length ≤ 8192) (hat : at0 ≤ l.length) (m0 : Int) (hm : w.cell? ⟨0, 0, none⟩ = some (.int .i64 m0)) : Calls Tryd.prog 25 #[.string (S l), .int .i64 ((at0 : Nat) : Int)] w fun e w' => e = .returned (.tuple #[.int .i64 ((at0 + (skipL (List.drop at0 l)).1 : Nat) : Int), .int .i64 (if (skipL (List.drop at0 l)).2 then 24 else 0)]) ∧ Grow w w' := by
  have b0 : Below w.heap.size w w := Below.refl _ _
  refine enter (n := 39) Tryd.func25 rfl rfl (Nat.le_of_ble_eq_true rfl) ?_
  intro a1 hA2
  refine wp_seq ?_
  refine wp_region_lit ?_
  refine q_step hA2 rfl (d_assign (wn rfl) (hA2.ev (v := (.int .i64 0)) rfl) ?_)
  intro a3 hA4
  refine q_step hA4 rfl (d_assign (wn rfl) (hA4.ev (v := (.int .i64 0)) rfl) ?_)
  intro a5 hA6
  refine q_end ?_
  refine t_norm ?_
  refine wp_seq ?_
  refine wp_block ?_
  refine loop_by (fun m8 a9 w10 => ∃ j7 : Nat, m8 = l.length - j7 ∧ (j7 ≤ l.length ∧ at0 + (skipL (List.drop at0 l)).1 = j7 + (skipL (List.drop j7 l)).1 ∧ (skipL (List.drop at0 l)).2 = (skipL (List.drop j7 l)).2) ∧ St 39 [(0, (.string (S l))), (1, (.int .i64 ((j7 : Nat) : Int))), (4, (.int .i64 0)), (5, (.int .i64 0))] a9 ∧ Below w.heap.size w w10) (l.length - at0) ⟨at0, rfl, ⟨by omega, rfl, rfl⟩, hA6.cut _ (fm_cons (hA6.get 0 _ rfl) (fm_cons (hA6.get 1 _ rfl) (fm_cons (hA6.get 4 _ rfl) (fm_cons (hA6.get 5 _ rfl) fm_nil)))), b0⟩ ?_
  rintro m8 a9 w10 ⟨j7, hm13, hc14, hA11, b12⟩
  obtain ⟨hjl, hs1, hs2⟩ := hc14
  refine wp_seq ?_
  refine wp_seq ?_
  refine wp_region_lit ?_
  refine q_step hA11 rfl (d_move (wn rfl) (hA11.ev (v := (.int .i64 ((j7 : Nat) : Int))) rfl) ?_)
  intro a15 hA16
  refine q_step hA16 rfl (d_move (wn rfl) (hA16.ev (v := (.string (S l))) rfl) ?_)
  intro a17 hA18
  refine q_step hA18 rfl (d_slen (wn rfl) (hA18.ev (v := (.string (S l))) rfl) str9 ?_)
  intro a19 hA20
  rcases Bool.eq_false_or_eq_true (decide (((j7 : Nat) : Int) < ((l.length : Nat) : Int))) with hb21 | hb21
  · skip
    have hq22 := of_decide_eq_true hb21
    refine q_step hA20 rfl (d_bin (wn rfl) (hA20.ev (v := (.int .i64 ((j7 : Nat) : Int))) rfl) (hA20.ev (v := (.int .i64 ((l.length : Nat) : Int))) rfl) (b_lt _ _ ((j7 : Nat) : Int) ((l.length : Nat) : Int) true _ hb21) ?_)
    intro a23 hA24
    refine q_end ?_
    refine t_norm ?_
    refine c_true hA24 rfl ?_
    refine wp_skip ?_
    refine t_norm ?_
    refine wp_block ?_
    refine wp_block ?_
    refine wp_seq ?_
    refine wp_region_lit ?_
    refine q_step hA24 rfl (d_move (wn rfl) (hA24.ev (v := (.string (S l))) rfl) ?_)
    intro a25 hA26
    refine q_step hA26 rfl (d_move (wn rfl) (hA26.ev (v := (.int .i64 ((j7 : Nat) : Int))) rfl) ?_)
    intro a27 hA28
    obtain ⟨y29, hy30⟩ : ∃ y29, l[j7]? = some y29 := ⟨_, List.getElem?_eq_getElem (show j7 < l.length by first | omega | (have := pre_len ‹preB _ _ = true›; simp only [List.length_drop, List.length_cons, List.length_nil] at this; omega))⟩
    refine q_step hA28 rfl (d_sat (j := j7) (wn rfl) (hA28.ev (v := (.string (S l))) rfl) (hA28.ev (v := (.int .i64 ((j7 : Nat) : Int))) rfl) str9 hy30 ?_)
    intro a31 hA32
    refine q_step hA32 rfl (d_call (wn rfl) ent37 (map1 (hA32.ev (v := (.int .u8 ((y29.toNat : Nat) : Int))) rfl)) (isBlank_any y29 w10) ?_)
    rintro e36 w33 ⟨he35, hG34⟩
    have b37 := below_grow b12 hG34 b12.size
    rcases Bool.eq_false_or_eq_true (blkB y29) with hb38 | hb38
    · skip
      refine ⟨.bool true, he35.trans (ret_bool hb38), ?_⟩
      intro a40 hA41
      refine q_step hA41 rfl (d_assign (wn rfl) (hA41.ev (v := (.bool true)) rfl) ?_)
      intro a42 hA43
      refine q_end ?_
      refine t_norm ?_
      refine c_true hA43 rfl ?_
      refine wp_region_lit ?_
      refine q_step hA43 rfl (d_move (wn rfl) (hA43.ev (v := (.int .i64 ((j7 : Nat) : Int))) rfl) ?_)
      intro a44 hA45
      refine q_step hA45 rfl (d_bin (wn rfl) (hA45.ev (v := (.int .i64 ((j7 : Nat) : Int))) rfl) (hA45.ev (v := (.int .i64 1)) rfl) (b_addE (j7 + 1) (by omega) (by omega)) ?_)
      intro a46 hA47
      refine q_step hA47 rfl (d_assign (wn rfl) (hA47.ev (v := (.int .i64 ((j7 + 1 : Nat) : Int))) rfl) ?_)
      intro a48 hA49
      refine q_end ?_
      refine i_norm ?_
      refine i_norm ?_
      refine t_norm ?_
      have hsk := skip_blank hy30 hb38
      have hk1 := congrArg Prod.fst hsk
      have hk2 := congrArg Prod.snd hsk
      dsimp only at hk1 hk2
      exact ⟨l.length - (j7 + 1), (by rw [hm13]; omega), j7 + 1, rfl, ⟨by omega, by omega, hs2.trans hk2⟩, hA49.cut _ (fm_cons (hA49.get 0 _ rfl) (fm_cons (hA49.get 1 _ rfl) (fm_cons (hA49.get 4 _ rfl) (fm_cons (hA49.get 5 _ rfl) fm_nil)))), b37⟩
    · skip
      refine ⟨.bool false, he35.trans (ret_bool hb38), ?_⟩
      intro a51 hA52
      refine q_step hA52 rfl (d_assign (wn rfl) (hA52.ev (v := (.bool false)) rfl) ?_)
      intro a53 hA54
      refine q_end ?_
      refine t_norm ?_
      refine c_false hA54 rfl ?_
      refine wp_seq ?_
      refine wp_region_lit ?_
      refine q_step hA54 rfl (d_move (wn rfl) (hA54.ev (v := (.string (S l))) rfl) ?_)
      intro a55 hA56
      refine q_step hA56 rfl (d_move (wn rfl) (hA56.ev (v := (.int .i64 ((j7 : Nat) : Int))) rfl) ?_)
      intro a57 hA58
      refine q_step hA58 rfl (d_srest (n := j7) (wn rfl) (hA58.ev (v := (.string (S l))) rfl) (hA58.ev (v := (.int .i64 ((j7 : Nat) : Int))) rfl) str9 (by first | omega | (have := pre_len ‹preB _ _ = true›; simp only [List.length_drop, List.length_cons, List.length_nil] at this; omega)) ?_)
      intro a59 hA60
      refine q_step hA60 rfl (d_call (wn rfl) ent38 (map2 (hA60.ev (v := (.string (S (List.drop j7 l)))) rfl) (hA60.ev (v := (.string (S [40, 42]))) rfl)) (hasPrefix_any (List.drop j7 l) [40, 42] w33) ?_)
      rintro e64 w61 ⟨he63, hG62⟩
      have b65 := below_grow b37 hG62 b37.size
      rcases Bool.eq_false_or_eq_true (preB (List.drop j7 l) [40, 42]) with hb66 | hb66
      · skip
        refine ⟨.bool true, he63.trans (ret_bool hb66), ?_⟩
        intro a68 hA69
        refine q_step hA69 rfl (d_assign (wn rfl) (hA69.ev (v := (.bool true)) rfl) ?_)
        intro a70 hA71
        refine q_end ?_
        refine t_norm ?_
        refine c_true hA71 rfl ?_
        refine wp_seq ?_
        refine wp_region_lit ?_
        refine q_step hA71 rfl (d_move (wn rfl) (hA71.ev (v := (.int .i64 ((j7 : Nat) : Int))) rfl) ?_)
        intro a72 hA73
        refine q_step hA73 rfl (d_bin (wn rfl) (hA73.ev (v := (.int .i64 ((j7 : Nat) : Int))) rfl) (hA73.ev (v := (.int .i64 2)) rfl) (b_addE (j7 + 2) (by omega) (by omega)) ?_)
        intro a74 hA75
        refine q_step hA75 rfl (d_assign (wn rfl) (hA75.ev (v := (.int .i64 ((j7 + 2 : Nat) : Int))) rfl) ?_)
        intro a76 hA77
        refine q_end ?_
        refine t_norm ?_
        refine wp_seq ?_
        refine wp_region_lit ?_
        refine q_step hA77 rfl (d_move (wn rfl) (hA77.ev (v := (.string (S l))) rfl) ?_)
        intro a78 hA79
        refine q_step hA79 rfl (d_move (wn rfl) (hA79.ev (v := (.int .i64 ((j7 + 2 : Nat) : Int))) rfl) ?_)
        intro a80 hA81
        refine q_step hA81 rfl (d_srest (n := j7 + 2) (wn rfl) (hA81.ev (v := (.string (S l))) rfl) (hA81.ev (v := (.int .i64 ((j7 + 2 : Nat) : Int))) rfl) str9 (by first | omega | (have := pre_len ‹preB _ _ = true›; simp only [List.length_drop, List.length_cons, List.length_nil] at this; omega)) ?_)
        intro a82 hA83
        have hle := endR_le (List.drop (j7 + 2) l)
        rw [List.length_drop] at hle
        have hge := endR_ge (List.drop (j7 + 2) l)
        refine q_step hA83 rfl (d_call (wn rfl) ent39 (map2 (hA83.ev (v := (.string (S (List.drop (j7 + 2) l)))) rfl) (hA83.ev (v := (.string (S [42, 41]))) rfl)) (index_any (List.drop (j7 + 2) l) [42, 41] m0 w61 (by rw [List.length_drop]; omega) (cell_keep hm b65)) ?_)
        rintro e87 w84 ⟨he86, hG85⟩
        have b88 := below_grow b65 hG85 b65.size
        refine ⟨(.int .i64 (endR (List.drop (j7 + 2) l))), he86, ?_⟩
        intro a89 hA90
        refine q_step hA90 rfl (d_assign (wn rfl) (hA90.ev (v := (.int .i64 (endR (List.drop (j7 + 2) l)))) rfl) ?_)
        intro a91 hA92
        refine q_end ?_
        refine t_norm ?_
        refine wp_seq ?_
        refine wp_seq ?_
        refine wp_region_lit ?_
        refine q_step hA92 rfl (d_move (wn rfl) (hA92.ev (v := (.int .i64 (endR (List.drop (j7 + 2) l)))) rfl) ?_)
        intro a93 hA94
        rcases Bool.eq_false_or_eq_true (decide (endR (List.drop (j7 + 2) l) < 0)) with hb95 | hb95
        · skip
          have hq96 := of_decide_eq_true hb95
          refine q_step hA94 rfl (d_bin (wn rfl) (hA94.ev (v := (.int .i64 (endR (List.drop (j7 + 2) l)))) rfl) (hA94.ev (v := (.int .i64 0)) rfl) (b_lt _ _ (endR (List.drop (j7 + 2) l)) 0 true _ hb95) ?_)
          intro a97 hA98
          refine q_end ?_
          refine t_norm ?_
          refine c_true hA98 rfl ?_
          refine wp_seq ?_
          refine wp_region_lit ?_
          refine q_step hA98 rfl (d_move (wn rfl) (hA98.ev (v := (.int .i64 ((j7 : Nat) : Int))) rfl) ?_)
          intro a99 hA100
          refine q_step hA100 rfl (d_assign (wn rfl) (hA100.ev (v := (.int .i64 ((j7 : Nat) : Int))) rfl) ?_)
          intro a101 hA102
          refine q_step hA102 rfl (d_assign (wn rfl) (hA102.ev (v := (.int .i64 24)) rfl) ?_)
          intro a103 hA104
          refine q_end ?_
          refine t_norm ?_
          refine wp_ret ?_
          refine t_ret ?_
          refine i_ret ?_
          refine i_ret ?_
          refine t_ret ?_
          refine i_ret ?_
          refine t_ret ?_
          refine ret2 (x := (.int .i64 ((j7 : Nat) : Int))) (y := (.int .i64 24)) rfl hA104 rfl rfl ?_
          have hsk := skip_open hy30 hb38 hb66 (of_decide_eq_true hb95)
          rw [hsk] at hs1 hs2
          exact ⟨by rw [hs2, hs1]; rfl, b88⟩
        · skip
          have hq105 := of_decide_eq_false hb95
          refine q_step hA94 rfl (d_bin (wn rfl) (hA94.ev (v := (.int .i64 (endR (List.drop (j7 + 2) l)))) rfl) (hA94.ev (v := (.int .i64 0)) rfl) (b_lt _ _ (endR (List.drop (j7 + 2) l)) 0 false _ hb95) ?_)
          intro a106 hA107
          refine q_end ?_
          refine t_norm ?_
          refine c_false hA107 rfl ?_
          refine wp_skip ?_
          refine t_norm ?_
          refine wp_region_lit ?_
          refine q_step hA107 rfl (d_move (wn rfl) (hA107.ev (v := (.int .i64 ((j7 + 2 : Nat) : Int))) rfl) ?_)
          intro a108 hA109
          refine q_step hA109 rfl (d_move (wn rfl) (hA109.ev (v := (.int .i64 (endR (List.drop (j7 + 2) l)))) rfl) ?_)
          intro a110 hA111
          refine q_step hA111 rfl (d_bin (wn rfl) (hA111.ev (v := (.int .i64 ((j7 + 2 : Nat) : Int))) rfl) (hA111.ev (v := (.int .i64 (endR (List.drop (j7 + 2) l)))) rfl) (b_add _ _ ((j7 + 2 : Nat) : Int) (endR (List.drop (j7 + 2) l)) _ (by omega) (by omega)) ?_)
          intro a112 hA113
          refine q_step hA113 rfl (d_bin (wn rfl) (hA113.ev (v := (.int .i64 (((j7 + 2 : Nat) : Int) + endR (List.drop (j7 + 2) l)))) rfl) (hA113.ev (v := (.int .i64 2)) rfl) (b_add _ _ (((j7 + 2 : Nat) : Int) + endR (List.drop (j7 + 2) l)) 2 _ (by omega) (by omega)) ?_)
          intro a114 hA115
          refine q_step hA115 rfl (d_assign (wn rfl) (hA115.ev (v := (.int .i64 (((j7 + 2 : Nat) : Int) + endR (List.drop (j7 + 2) l) + 2))) rfl) ?_)
          intro a116 hA117
          refine q_end ?_
          refine i_norm ?_
          refine i_norm ?_
          refine t_norm ?_
          have hsk := skip_remark hy30 hb38 hb66 (of_decide_eq_false hb95)
          have hk1 := congrArg Prod.fst hsk
          have hk2 := congrArg Prod.snd hsk
          dsimp only at hk1 hk2
          exact ⟨l.length - (j7 + 2 + (endR (List.drop (j7 + 2) l)).toNat + 2), (by rw [hm13]; omega), j7 + 2 + (endR (List.drop (j7 + 2) l)).toNat + 2, rfl, ⟨by omega, by omega, hs2.trans hk2⟩, hA117.cut _ (fm_cons (hA117.get 0 _ rfl) (fm_cons ((hA117.get 1 _ rfl).trans (congrArg (Value.int .i64) (by omega))) (fm_cons (hA117.get 4 _ rfl) (fm_cons (hA117.get 5 _ rfl) fm_nil)))), b88⟩
      · skip
        refine ⟨.bool false, he63.trans (ret_bool hb66), ?_⟩
        intro a119 hA120
        refine q_step hA120 rfl (d_assign (wn rfl) (hA120.ev (v := (.bool false)) rfl) ?_)
        intro a121 hA122
        refine q_end ?_
        refine t_norm ?_
        refine c_false hA122 rfl ?_
        refine wp_seq ?_
        refine wp_region_lit ?_
        refine q_step hA122 rfl (d_move (wn rfl) (hA122.ev (v := (.int .i64 ((j7 : Nat) : Int))) rfl) ?_)
        intro a123 hA124
        refine q_step hA124 rfl (d_assign (wn rfl) (hA124.ev (v := (.int .i64 ((j7 : Nat) : Int))) rfl) ?_)
        intro a125 hA126
        refine q_step hA126 rfl (d_assign (wn rfl) (hA126.ev (v := (.int .i64 0)) rfl) ?_)
        intro a127 hA128
        refine q_end ?_
        refine t_norm ?_
        refine wp_ret ?_
        refine i_ret ?_
        refine i_ret ?_
        refine t_ret ?_
        refine i_ret ?_
        refine t_ret ?_
        refine ret2 (x := (.int .i64 ((j7 : Nat) : Int))) (y := (.int .i64 0)) rfl hA128 rfl rfl ?_
        have hsk := skip_word hy30 hb38 hb66
        rw [hsk] at hs1 hs2
        exact ⟨by rw [hs2, hs1]; rfl, b65⟩
  · skip
    have hq129 := of_decide_eq_false hb21
    refine q_step hA20 rfl (d_bin (wn rfl) (hA20.ev (v := (.int .i64 ((j7 : Nat) : Int))) rfl) (hA20.ev (v := (.int .i64 ((l.length : Nat) : Int))) rfl) (b_lt _ _ ((j7 : Nat) : Int) ((l.length : Nat) : Int) false _ hb21) ?_)
    intro a130 hA131
    refine q_end ?_
    refine t_norm ?_
    refine c_false hA131 rfl ?_
    refine wp_exit ?_
    refine t_exit ?_
    refine t_exit ?_
    refine i_here ?_
    refine t_norm ?_
    refine wp_seq ?_
    refine wp_region_lit ?_
    refine q_step hA131 rfl (d_move (wn rfl) (hA131.ev (v := (.int .i64 ((j7 : Nat) : Int))) rfl) ?_)
    intro a132 hA133
    refine q_step hA133 rfl (d_assign (wn rfl) (hA133.ev (v := (.int .i64 ((j7 : Nat) : Int))) rfl) ?_)
    intro a134 hA135
    refine q_step hA135 rfl (d_assign (wn rfl) (hA135.ev (v := (.int .i64 0)) rfl) ?_)
    intro a136 hA137
    refine q_end ?_
    refine t_norm ?_
    refine wp_ret ?_
    refine ret2 (x := (.int .i64 ((j7 : Nat) : Int))) (y := (.int .i64 0)) rfl hA137 rfl rfl ?_
    have hsk : skipL (List.drop j7 l) = (0, false) := skip_end (by omega)
    rw [hsk] at hs1 hs2
    exact ⟨by rw [hs2, hs1]; rfl, b12⟩
end Go.Proofs.YtfehbkcfncioiaaDoor
/- The words of a text. -/
namespace Go.Proofs.YtfehbkcfncioiaaDoor
set_option linter.unusedVariables false

def tokE (t : Tk) : List Value := (tokC t).toList
theorem skip_le (l : List UInt8) : (skipL l).1 ≤ l.length := by
  have go : ∀ n (l : List UInt8), l.length ≤ n → (skipL l).1 ≤ l.length := by
    intro n
    induction n with
    | zero => intro l hl; obtain rfl : l = [] := List.eq_nil_of_length_eq_zero (Nat.le_zero.1 hl); rw [skip_nil]; simp
    | succ n ih =>
      intro l hl
      match l, hl with
      | [], _ => rw [skip_nil]; simp
      | b :: r, hl =>
        have h0 : (b :: r)[0]? = some b := rfl
        rcases Bool.eq_false_or_eq_true (blkB b) with h1 | h1
        · have e := skip_blank h0 h1
          rw [List.drop_zero] at e
          rw [e]
          have := ih r (by simpa using hl)
          simp only [List.length_cons, Nat.zero_add, List.drop_succ_cons, List.drop_zero]
          omega
        · rcases Bool.eq_false_or_eq_true (preB (b :: r) [40, 42]) with h2 | h2
          · by_cases h3 : endR ((b :: r).drop 2) < 0
            · have e := skip_open (n := 0) h0 h1 (by rw [List.drop_zero]; exact h2) (by rw [Nat.zero_add]; exact h3)
              rw [List.drop_zero] at e; rw [e]; simp
            · have e := skip_remark (n := 0) h0 h1 (by rw [List.drop_zero]; exact h2) (by rw [Nat.zero_add]; exact h3)
              rw [List.drop_zero] at e; rw [e]
              simp only [Nat.zero_add]
              have h4 := endR_le ((b :: r).drop 2)
              have h5 := ih ((b :: r).drop (2 + (endR ((b :: r).drop 2)).toNat + 2)) (by rw [List.length_drop]; omega)
              rw [List.length_drop] at h4 h5
              omega
          · have e := skip_word (n := 0) h0 h1 (by rw [List.drop_zero]; exact h2)
            rw [List.drop_zero] at e; rw [e]; simp
  exact go l.length l (Nat.le_refl _)
theorem rn_pos {p : UInt8 → Bool} {l : List UInt8} {b : UInt8} (hb : l[0]? = some b) (h : p b = true) : 0 < rn p l := by
  have := rn_go (p := p) (n := 0) hb h
  rw [List.drop_zero] at this; omega
theorem first_len {l : List UInt8} (h : (firstR l).2 = 0) : 0 < (firstR l).1.text.length ∧ (firstR l).1.text.length ≤ l.length := by
  cases hb : l[0]? with
  | none => unfold firstR at h; simp [hb] at h
  | some b =>
    have hl : 0 < l.length := (List.getElem?_eq_some_iff.1 hb).1
    rcases Bool.eq_false_or_eq_true (digB b) with h1 | h1
    · cases hn : numR (l.take (rn numB l)) with
      | none => rw [first_bad hb h1 hn] at h; simp at h
      | some n =>
        rw [first_num hb h1 hn]
        have h2 := rn_pos (p := numB) hb (by unfold numB; rw [h1, Bool.or_true])
        have h3 := rn_le numB l
        simp only [List.length_take]; omega
    · rcases Bool.eq_false_or_eq_true (nbgB b) with h2 | h2
      · rw [first_name hb h1 h2]
        have h3 := rn_pos (p := namB) hb (by unfold namB; rw [h2, Bool.true_or])
        have h4 := rn_le namB l
        simp only [List.length_take]; omega
      · by_cases h3 : mkN l > 0
        · rw [first_mark hb h1 h2 h3]
          have h4 := mkN_le hl
          simp only [List.length_take]; omega
        · rw [first_byte hb h1 h2 h3] at h; simp at h
/-- the words from a place on, behind those that were found; what is wrong, and where -/
def toksF : Nat → List UInt8 → Nat → List Tk → List Tk × Int × Nat
  | 0, _, _, _ => ([], 0, 0)
  | f + 1, l, a, ws =>
    if (skipL (l.drop a)).2 then ([], 24, a + (skipL (l.drop a)).1)
    else if a + (skipL (l.drop a)).1 = l.length then (ws, 0, 0)
    else if (firstR (l.drop (a + (skipL (l.drop a)).1))).2 = 0 then
      toksF f l (a + (skipL (l.drop a)).1 + (firstR (l.drop (a + (skipL (l.drop a)).1))).1.text.length) (ws ++ [{ (firstR (l.drop (a + (skipL (l.drop a)).1))).1 with at_ := ((a + (skipL (l.drop a)).1 : Nat) : Int) }])
    else ([], (firstR (l.drop (a + (skipL (l.drop a)).1))).2, a + (skipL (l.drop a)).1)
def tokensR (l : List UInt8) : List Tk × Int × Nat := if l.length > 8192 then ([], 2, 0) else toksF (l.length + 1) l 0 []
section
variable {f a : Nat} {l : List UInt8} {ws : List Tk}
theorem tf_rem (h : (skipL (l.drop a)).2 = true) : toksF (f + 1) l a ws = ([], 24, a + (skipL (l.drop a)).1) := by rw [toksF, if_pos h]
theorem tf_end (h : (skipL (l.drop a)).2 = false) (h1 : a + (skipL (l.drop a)).1 = l.length) : toksF (f + 1) l a ws = (ws, 0, 0) := by rw [toksF, if_neg (by simp [h]), if_pos h1]
theorem tf_bad (h : (skipL (l.drop a)).2 = false) (h1 : ¬ a + (skipL (l.drop a)).1 = l.length) (h2 : ¬ (firstR (l.drop (a + (skipL (l.drop a)).1))).2 = 0) : toksF (f + 1) l a ws = ([], (firstR (l.drop (a + (skipL (l.drop a)).1))).2, a + (skipL (l.drop a)).1) := by
  rw [toksF, if_neg (by simp [h]), if_neg h1, if_neg h2]
theorem tf_go (h : (skipL (l.drop a)).2 = false) (h1 : ¬ a + (skipL (l.drop a)).1 = l.length) (h2 : (firstR (l.drop (a + (skipL (l.drop a)).1))).2 = 0) : toksF (f + 1) l a ws = toksF f l (a + (skipL (l.drop a)).1 + (firstR (l.drop (a + (skipL (l.drop a)).1))).1.text.length) (ws ++ [{ (firstR (l.drop (a + (skipL (l.drop a)).1))).1 with at_ := ((a + (skipL (l.drop a)).1 : Nat) : Int) }]) := by
  rw [toksF, if_neg (by simp [h]), if_neg h1, if_pos h2]
theorem tokens_long (h : l.length > 8192) : tokensR l = ([], 2, 0) := by unfold tokensR; rw [if_pos h]
theorem tokens_short (h : l.length ≤ 8192) : tokensR l = toksF (l.length + 1) l 0 [] := by unfold tokensR; rw [if_neg (by omega)]
theorem flat_tok (ws : List Tk) (t : Tk) : ws.flatMap tokE ++ (tokC t).toList = (ws ++ [t]).flatMap tokE := by simp [tokE]
end
end Go.Proofs.YtfehbkcfncioiaaDoor
/- The words of a text: scan.Tokens. -/
namespace Go.Proofs.YtfehbkcfncioiaaDoor
open Go.RowKit
set_option linter.unusedSimpArgs false
set_option linter.unusedVariables false
theorem elm23 : elemB Tryd.prog 23 33 4 40 = true := by kernel_rfl
theorem ent25 : ((Tryd.prog.funcs[25]?).map fun fn => (fn.name == "runtime.NumGoroutine", fn.body.isNone)) = some (false, false) := by kernel_rfl
theorem ent26 : ((Tryd.prog.funcs[26]?).map fun fn => (fn.name == "runtime.NumGoroutine", fn.body.isNone)) = some (false, false) := by kernel_rfl
theorem fo33_1 : fieldOff Tryd.prog 33 1 = some 1 := by kernel_rfl
theorem fo33_3 : fieldOff Tryd.prog 33 3 = some 3 := by kernel_rfl
theorem one3 : oneB Tryd.prog 3 = true := by kernel_rfl
theorem one9 : oneB Tryd.prog 9 = true := by kernel_rfl
set_option maxHeartbeats 4000000 in
set_option maxRecDepth 4000 in
theorem tokens_any (l : List UInt8) (w : World) (hlm : l.length ≤ 9223372036854775807) (m0 : Int) (hm : w.cell? ⟨0, 0, none⟩ = some (.int .i64 m0)) (ev : Value) (hev1 : w.cell? ⟨1, 0, none⟩ = some ev) (hev2 : ev = .nilIface ∨ ∃ te pe, ev = .iface te pe) : Calls Tryd.prog 8 #[.string (S l)] w fun e w' => ∃ v, e = .returned (.tuple #[v, .int .i64 (tokensR l).2.1, .int .i64 (((tokensR l).2.2 : Nat) : Int)]) ∧ w'.ownsRow w.heap.size 33 4 v (tokensR l).1.length ((tokensR l).1.flatMap tokE) ∧ Below w.heap.size w w' := by
  have b0 : Below w.heap.size w w := Below.refl _ _
  refine enter (n := 50) Tryd.func8 rfl rfl (Nat.le_of_ble_eq_true rfl) ?_
  intro a1 hA2
  refine wp_seq ?_
  refine wp_region_lit ?_
  refine q_step hA2 rfl (d_assign (wn rfl) (hA2.ev (v := (.slice none 0 0)) rfl) ?_)
  intro a3 hA4
  refine q_step hA4 rfl (d_assign (wn rfl) (hA4.ev (v := (.int .i64 0)) rfl) ?_)
  intro a5 hA6
  refine q_step hA6 rfl (d_assign (wn rfl) (hA6.ev (v := (.int .i64 0)) rfl) ?_)
  intro a7 hA8
  refine q_end ?_
  refine t_norm ?_
  refine wp_seq ?_
  refine wp_seq ?_
  refine wp_region_lit ?_
  refine q_step hA8 rfl (d_move (wn rfl) (hA8.ev (v := (.string (S l))) rfl) ?_)
  intro a9 hA10
  refine q_step hA10 rfl (d_slen (wn rfl) (hA10.ev (v := (.string (S l))) rfl) str9 ?_)
  intro a11 hA12
  rcases Bool.eq_false_or_eq_true (decide (((l.length : Nat) : Int) > 8192)) with hb13 | hb13
  · skip
    have hq14 := of_decide_eq_true hb13
    refine q_step hA12 rfl (d_bin (wn rfl) (hA12.ev (v := (.int .i64 ((l.length : Nat) : Int))) rfl) (hA12.ev (v := (.int .i64 8192)) rfl) (b_gt _ _ ((l.length : Nat) : Int) 8192 true _ hb13) ?_)
    intro a15 hA16
    refine q_end ?_
    refine t_norm ?_
    refine c_true hA16 rfl ?_
    refine wp_seq ?_
    refine wp_region_lit ?_
    refine q_step hA16 rfl (d_assign (wn rfl) (hA16.ev (v := (.slice none 0 0)) rfl) ?_)
    intro a17 hA18
    refine q_step hA18 rfl (d_assign (wn rfl) (hA18.ev (v := (.int .i64 2)) rfl) ?_)
    intro a19 hA20
    refine q_step hA20 rfl (d_assign (wn rfl) (hA20.ev (v := (.int .i64 0)) rfl) ?_)
    intro a21 hA22
    refine q_end ?_
    refine t_norm ?_
    refine wp_ret ?_
    refine t_ret ?_
    refine ret3 (x := (.slice none 0 0)) (y := (.int .i64 2)) (z := (.int .i64 0)) rfl hA22 rfl rfl rfl ?_
    exact ⟨_, by rw [tokens_long (by omega)] <;> rfl, by rw [tokens_long (by omega)]; exact ⟨rfl, .inl ⟨rfl, rfl⟩⟩, b0⟩
  · skip
    have hq23 := of_decide_eq_false hb13
    refine q_step hA12 rfl (d_bin (wn rfl) (hA12.ev (v := (.int .i64 ((l.length : Nat) : Int))) rfl) (hA12.ev (v := (.int .i64 8192)) rfl) (b_gt _ _ ((l.length : Nat) : Int) 8192 false _ hb13) ?_)
    intro a24 hA25
    refine q_end ?_
    refine t_norm ?_
    refine c_false hA25 rfl ?_
    refine wp_skip ?_
    refine t_norm ?_
    refine wp_seq ?_
    refine wp_region_lit ?_
    refine q_step hA25 rfl (d_assign (wn rfl) (hA25.ev (v := (.slice none 0 0)) rfl) ?_)
    intro a26 hA27
    refine q_end ?_
    refine t_norm ?_
    refine wp_seq ?_
    refine wp_region_lit ?_
    refine q_step hA27 rfl (d_assign (wn rfl) (hA27.ev (v := (.int .i64 0)) rfl) ?_)
    intro a28 hA29
    refine q_end ?_
    refine t_norm ?_
    refine wp_block ?_
    refine loop_by (fun m a' w' => ∃ (f j : Nat) (ws : List Tk) (v : Value), m = l.length - j ∧ (j ≤ l.length ∧ l.length - j < f ∧ ws.length ≤ j) ∧ toksF f l j ws = tokensR l ∧ St 50 [(0, (.string (S l))), (2, (.slice none 0 0)), (3, (.int .i64 0)), (4, (.int .i64 0)), (5, v), (6, (.int .i64 ((j : Nat) : Int)))] a' ∧ Below w.heap.size w w' ∧ w'.ownsRow w.heap.size 33 4 v ws.length (ws.flatMap tokE)) (l.length - 0) ⟨l.length + 1, 0, [], .slice none 0 0, rfl, ⟨by omega, by omega, by simp⟩, (tokens_short (by omega)).symm, hA29.cut _ (fm_cons (hA29.get 0 _ rfl) (fm_cons (hA29.get 2 _ rfl) (fm_cons (hA29.get 3 _ rfl) (fm_cons (hA29.get 4 _ rfl) (fm_cons (hA29.get 5 _ rfl) (fm_cons (hA29.get 6 _ rfl) fm_nil)))))), b0, ⟨rfl, .inl ⟨rfl, rfl⟩⟩⟩ ?_
    rintro m30 a31 w32 ⟨f33, j34, ws35, v36, hm37, ⟨hj1, hj2, hj3⟩, htk, hA38, b39, ho40⟩
    obtain ⟨f', rfl⟩ : ∃ f', f33 = f' + 1 := ⟨f33 - 1, by omega⟩
    refine wp_block ?_
    refine wp_seq ?_
    refine wp_region_lit ?_
    refine q_step hA38 rfl (d_move (wn rfl) (hA38.ev (v := (.string (S l))) rfl) ?_)
    intro a41 hA42
    refine q_step hA42 rfl (d_move (wn rfl) (hA42.ev (v := (.int .i64 ((j34 : Nat) : Int))) rfl) ?_)
    intro a43 hA44
    refine q_step hA44 rfl (d_call (wn rfl) ent25 (map2 (hA44.ev (v := (.string (S l))) rfl) (hA44.ev (v := (.int .i64 ((j34 : Nat) : Int))) rfl)) (skip_any l j34 w32 (by omega) (by omega) m0 (cell_keep hm b39)) ?_)
    rintro e48 w45 ⟨he47, hG46⟩
    rcases Bool.eq_false_or_eq_true ((skipL (List.drop j34 l)).2) with hk49 | hk49
    · skip
      have b50 := below_grow b39 hG46 b39.size
      have ho51 := own_grow hG46 ho40
      have hsl := skip_le (List.drop j34 l)
      rw [List.length_drop] at hsl
      refine ⟨(.tuple #[(.int .i64 ((j34 + (skipL (List.drop j34 l)).1 : Nat) : Int)), (.int .i64 24)]), he47.trans (by rw [hk49]; rfl), ?_⟩
      intro a52 hA53
      refine q_step hA53 rfl (d_move (wn rfl) (hA53.ev (v := (.tuple #[(.int .i64 ((j34 + (skipL (List.drop j34 l)).1 : Nat) : Int)), (.int .i64 24)])) rfl) ?_)
      intro a54 hA55
      refine q_step hA55 rfl (d_extract (v := (.int .i64 ((j34 + (skipL (List.drop j34 l)).1 : Nat) : Int))) (wn rfl) (hA55.ev (v := (.tuple #[(.int .i64 ((j34 + (skipL (List.drop j34 l)).1 : Nat) : Int)), (.int .i64 24)])) rfl) rfl ?_)
      intro a56 hA57
      refine q_step hA57 rfl (d_extract (v := (.int .i64 24)) (wn rfl) (hA57.ev (v := (.tuple #[(.int .i64 ((j34 + (skipL (List.drop j34 l)).1 : Nat) : Int)), (.int .i64 24)])) rfl) rfl ?_)
      intro a58 hA59
      refine q_step hA59 rfl (d_assign (wn rfl) (hA59.ev (v := (.int .i64 ((j34 + (skipL (List.drop j34 l)).1 : Nat) : Int))) rfl) ?_)
      intro a60 hA61
      refine q_step hA61 rfl (d_assign (wn rfl) (hA61.ev (v := (.int .i64 24)) rfl) ?_)
      intro a62 hA63
      refine q_end ?_
      refine t_norm ?_
      refine wp_seq ?_
      refine wp_seq ?_
      refine wp_region_lit ?_
      refine q_step hA63 rfl (d_move (wn rfl) (hA63.ev (v := (.int .i64 24)) rfl) ?_)
      intro a64 hA65
      refine q_step hA65 rfl (d_bin (wn rfl) (hA65.ev (v := (.int .i64 24)) rfl) (hA65.ev (v := (.int .i64 0)) rfl) (b_ne _ _ 24 0 true _ (notof rfl)) ?_)
      intro a66 hA67
      refine q_end ?_
      refine t_norm ?_
      refine c_true hA67 rfl ?_
      refine wp_seq ?_
      refine wp_region_lit ?_
      refine q_step hA67 rfl (d_move (wn rfl) (hA67.ev (v := (.int .i64 24)) rfl) ?_)
      intro a68 hA69
      refine q_step hA69 rfl (d_move (wn rfl) (hA69.ev (v := (.int .i64 ((j34 + (skipL (List.drop j34 l)).1 : Nat) : Int))) rfl) ?_)
      intro a70 hA71
      refine q_step hA71 rfl (d_assign (wn rfl) (hA71.ev (v := (.slice none 0 0)) rfl) ?_)
      intro a72 hA73
      refine q_step hA73 rfl (d_assign (wn rfl) (hA73.ev (v := (.int .i64 24)) rfl) ?_)
      intro a74 hA75
      refine q_step hA75 rfl (d_assign (wn rfl) (hA75.ev (v := (.int .i64 ((j34 + (skipL (List.drop j34 l)).1 : Nat) : Int))) rfl) ?_)
      intro a76 hA77
      refine q_end ?_
      refine t_norm ?_
      refine wp_ret ?_
      refine t_ret ?_
      refine i_ret ?_
      refine t_ret ?_
      refine i_ret ?_
      refine ret3 (x := (.slice none 0 0)) (y := (.int .i64 24)) (z := (.int .i64 ((j34 + (skipL (List.drop j34 l)).1 : Nat) : Int))) rfl hA77 rfl rfl rfl ?_
      rw [tf_rem hk49] at htk
      exact ⟨_, by rw [← htk] <;> rfl, by rw [← htk]; exact ⟨rfl, .inl ⟨rfl, rfl⟩⟩, b50⟩
    · skip
      have b78 := below_grow b39 hG46 b39.size
      have ho79 := own_grow hG46 ho40
      have hsl := skip_le (List.drop j34 l)
      rw [List.length_drop] at hsl
      refine ⟨(.tuple #[(.int .i64 ((j34 + (skipL (List.drop j34 l)).1 : Nat) : Int)), (.int .i64 0)]), he47.trans (by rw [hk49]; rfl), ?_⟩
      intro a80 hA81
      refine q_step hA81 rfl (d_move (wn rfl) (hA81.ev (v := (.tuple #[(.int .i64 ((j34 + (skipL (List.drop j34 l)).1 : Nat) : Int)), (.int .i64 0)])) rfl) ?_)
      intro a82 hA83
      refine q_step hA83 rfl (d_extract (v := (.int .i64 ((j34 + (skipL (List.drop j34 l)).1 : Nat) : Int))) (wn rfl) (hA83.ev (v := (.tuple #[(.int .i64 ((j34 + (skipL (List.drop j34 l)).1 : Nat) : Int)), (.int .i64 0)])) rfl) rfl ?_)
      intro a84 hA85
      refine q_step hA85 rfl (d_extract (v := (.int .i64 0)) (wn rfl) (hA85.ev (v := (.tuple #[(.int .i64 ((j34 + (skipL (List.drop j34 l)).1 : Nat) : Int)), (.int .i64 0)])) rfl) rfl ?_)
      intro a86 hA87
      refine q_step hA87 rfl (d_assign (wn rfl) (hA87.ev (v := (.int .i64 ((j34 + (skipL (List.drop j34 l)).1 : Nat) : Int))) rfl) ?_)
      intro a88 hA89
      refine q_step hA89 rfl (d_assign (wn rfl) (hA89.ev (v := (.int .i64 0)) rfl) ?_)
      intro a90 hA91
      refine q_end ?_
      refine t_norm ?_
      refine wp_seq ?_
      refine wp_seq ?_
      refine wp_region_lit ?_
      refine q_step hA91 rfl (d_move (wn rfl) (hA91.ev (v := (.int .i64 0)) rfl) ?_)
      intro a92 hA93
      refine q_step hA93 rfl (d_bin (wn rfl) (hA93.ev (v := (.int .i64 0)) rfl) (hA93.ev (v := (.int .i64 0)) rfl) (b_ne _ _ 0 0 false _ (notof rfl)) ?_)
      intro a94 hA95
      refine q_end ?_
      refine t_norm ?_
      refine c_false hA95 rfl ?_
      refine wp_skip ?_
      refine t_norm ?_
      refine wp_seq ?_
      refine wp_seq ?_
      refine wp_region_lit ?_
      refine q_step hA95 rfl (d_move (wn rfl) (hA95.ev (v := (.int .i64 ((j34 + (skipL (List.drop j34 l)).1 : Nat) : Int))) rfl) ?_)
      intro a96 hA97
      refine q_step hA97 rfl (d_move (wn rfl) (hA97.ev (v := (.string (S l))) rfl) ?_)
      intro a98 hA99
      refine q_step hA99 rfl (d_slen (wn rfl) (hA99.ev (v := (.string (S l))) rfl) str9 ?_)
      intro a100 hA101
      rcases Bool.eq_false_or_eq_true (((j34 + (skipL (List.drop j34 l)).1 : Nat) : Int) == ((l.length : Nat) : Int)) with hb102 | hb102
      · skip
        have hq103 := eq_of_beq hb102
        refine q_step hA101 rfl (d_bin (wn rfl) (hA101.ev (v := (.int .i64 ((j34 + (skipL (List.drop j34 l)).1 : Nat) : Int))) rfl) (hA101.ev (v := (.int .i64 ((l.length : Nat) : Int))) rfl) (b_eq _ _ ((j34 + (skipL (List.drop j34 l)).1 : Nat) : Int) ((l.length : Nat) : Int) true _ hb102) ?_)
        intro a104 hA105
        refine q_end ?_
        refine t_norm ?_
        refine c_true hA105 rfl ?_
        refine wp_seq ?_
        refine wp_region_lit ?_
        refine q_step hA105 rfl (d_move (wn rfl) (hA105.ev (v := v36) rfl) ?_)
        intro a106 hA107
        refine q_step hA107 rfl (d_assign (wn rfl) (hA107.ev (v := v36) rfl) ?_)
        intro a108 hA109
        refine q_step hA109 rfl (d_assign (wn rfl) (hA109.ev (v := (.int .i64 0)) rfl) ?_)
        intro a110 hA111
        refine q_step hA111 rfl (d_assign (wn rfl) (hA111.ev (v := (.int .i64 0)) rfl) ?_)
        intro a112 hA113
        refine q_end ?_
        refine t_norm ?_
        refine wp_ret ?_
        refine t_ret ?_
        refine i_ret ?_
        refine t_ret ?_
        refine i_ret ?_
        refine ret3 (x := v36) (y := (.int .i64 0)) (z := (.int .i64 0)) rfl hA113 rfl rfl rfl ?_
        rw [tf_end hk49 (by omega)] at htk
        exact ⟨_, by rw [← htk] <;> rfl, by rw [← htk]; exact ho79, b78⟩
      · skip
        have hq114 := ne_of_beq hb102
        refine q_step hA101 rfl (d_bin (wn rfl) (hA101.ev (v := (.int .i64 ((j34 + (skipL (List.drop j34 l)).1 : Nat) : Int))) rfl) (hA101.ev (v := (.int .i64 ((l.length : Nat) : Int))) rfl) (b_eq _ _ ((j34 + (skipL (List.drop j34 l)).1 : Nat) : Int) ((l.length : Nat) : Int) false _ hb102) ?_)
        intro a115 hA116
        refine q_end ?_
        refine t_norm ?_
        refine c_false hA116 rfl ?_
        refine wp_skip ?_
        refine t_norm ?_
        refine wp_seq ?_
        refine wp_region_lit ?_
        refine q_step hA116 rfl (d_move (wn rfl) (hA116.ev (v := (.string (S l))) rfl) ?_)
        intro a117 hA118
        refine q_step hA118 rfl (d_move (wn rfl) (hA118.ev (v := (.int .i64 ((j34 + (skipL (List.drop j34 l)).1 : Nat) : Int))) rfl) ?_)
        intro a119 hA120
        refine q_step hA120 rfl (d_srest (n := j34 + (skipL (List.drop j34 l)).1) (wn rfl) (hA120.ev (v := (.string (S l))) rfl) (hA120.ev (v := (.int .i64 ((j34 + (skipL (List.drop j34 l)).1 : Nat) : Int))) rfl) str9 (by omega) ?_)
        intro a121 hA122
        refine q_step hA122 rfl (d_call (wn rfl) ent26 (map1 (hA122.ev (v := (.string (S (List.drop (j34 + (skipL (List.drop j34 l)).1) l)))) rfl)) (first_any (List.drop (j34 + (skipL (List.drop j34 l)).1) l) w45 (by rw [List.length_drop]; omega) (by rw [List.length_drop]; omega) ev (cell_keep hev1 b78) hev2) ?_)
        rintro e126 w123 ⟨he125, hG124⟩
        have b127 := below_grow b78 hG124 b78.size
        have ho128 := own_grow hG124 ho79
        refine ⟨(.tuple #[(.agg #[.int .i64 ((firstR (List.drop (j34 + (skipL (List.drop j34 l)).1) l)).1.kind), .string (S ((firstR (List.drop (j34 + (skipL (List.drop j34 l)).1) l)).1.text)), .int .i64 ((firstR (List.drop (j34 + (skipL (List.drop j34 l)).1) l)).1.n), .int .i64 ((firstR (List.drop (j34 + (skipL (List.drop j34 l)).1) l)).1.at_)]), (.int .i64 ((firstR (List.drop (j34 + (skipL (List.drop j34 l)).1) l)).2))]), he125, ?_⟩
        intro a129 hA130
        refine q_step hA130 rfl (d_move (wn rfl) (hA130.ev (v := (.tuple #[(.agg #[.int .i64 ((firstR (List.drop (j34 + (skipL (List.drop j34 l)).1) l)).1.kind), .string (S ((firstR (List.drop (j34 + (skipL (List.drop j34 l)).1) l)).1.text)), .int .i64 ((firstR (List.drop (j34 + (skipL (List.drop j34 l)).1) l)).1.n), .int .i64 ((firstR (List.drop (j34 + (skipL (List.drop j34 l)).1) l)).1.at_)]), (.int .i64 ((firstR (List.drop (j34 + (skipL (List.drop j34 l)).1) l)).2))])) rfl) ?_)
        intro a131 hA132
        refine q_step hA132 rfl (d_extract (v := (.agg #[.int .i64 ((firstR (List.drop (j34 + (skipL (List.drop j34 l)).1) l)).1.kind), .string (S ((firstR (List.drop (j34 + (skipL (List.drop j34 l)).1) l)).1.text)), .int .i64 ((firstR (List.drop (j34 + (skipL (List.drop j34 l)).1) l)).1.n), .int .i64 ((firstR (List.drop (j34 + (skipL (List.drop j34 l)).1) l)).1.at_)])) (wn rfl) (hA132.ev (v := (.tuple #[(.agg #[.int .i64 ((firstR (List.drop (j34 + (skipL (List.drop j34 l)).1) l)).1.kind), .string (S ((firstR (List.drop (j34 + (skipL (List.drop j34 l)).1) l)).1.text)), .int .i64 ((firstR (List.drop (j34 + (skipL (List.drop j34 l)).1) l)).1.n), .int .i64 ((firstR (List.drop (j34 + (skipL (List.drop j34 l)).1) l)).1.at_)]), (.int .i64 ((firstR (List.drop (j34 + (skipL (List.drop j34 l)).1) l)).2))])) rfl) rfl ?_)
        intro a133 hA134
        refine q_step hA134 rfl (d_extract (v := (.int .i64 ((firstR (List.drop (j34 + (skipL (List.drop j34 l)).1) l)).2))) (wn rfl) (hA134.ev (v := (.tuple #[(.agg #[.int .i64 ((firstR (List.drop (j34 + (skipL (List.drop j34 l)).1) l)).1.kind), .string (S ((firstR (List.drop (j34 + (skipL (List.drop j34 l)).1) l)).1.text)), .int .i64 ((firstR (List.drop (j34 + (skipL (List.drop j34 l)).1) l)).1.n), .int .i64 ((firstR (List.drop (j34 + (skipL (List.drop j34 l)).1) l)).1.at_)]), (.int .i64 ((firstR (List.drop (j34 + (skipL (List.drop j34 l)).1) l)).2))])) rfl) rfl ?_)
        intro a135 hA136
        refine q_step hA136 rfl (d_alloc (wn rfl) zero33 ?_)
        intro g137 w138 eg139 hG140 (m141 : Blk w138 g137 #[.int .i64 0, .string (S []), .int .i64 0, .int .i64 0] 33)
        have ge142 : w.heap.size ≤ g137 := eg139 ▸ b127.size
        have off143 := own_new ho128 eg139
        have b144 := below_grow b127 hG140 b127.size
        have ho145 := own_grow hG140 ho128
        intro a146 hA147
        refine q_step hA147 rfl (d_storeRow (wn rfl) (hA147.ev (v := (.pointer (some ⟨g137, 0, none⟩))) rfl) (hA147.ev (v := (.agg #[.int .i64 ((firstR (List.drop (j34 + (skipL (List.drop j34 l)).1) l)).1.kind), .string (S ((firstR (List.drop (j34 + (skipL (List.drop j34 l)).1) l)).1.text)), .int .i64 ((firstR (List.drop (j34 + (skipL (List.drop j34 l)).1) l)).1.n), .int .i64 ((firstR (List.drop (j34 + (skipL (List.drop j34 l)).1) l)).1.at_)])) rfl) row33 m141 rfl rfl ?_)
        intro w148 hU149 (m150 : Blk w148 g137 #[.int .i64 ((firstR (List.drop (j34 + (skipL (List.drop j34 l)).1) l)).1.kind), .string (S ((firstR (List.drop (j34 + (skipL (List.drop j34 l)).1) l)).1.text)), .int .i64 ((firstR (List.drop (j34 + (skipL (List.drop j34 l)).1) l)).1.n), .int .i64 ((firstR (List.drop (j34 + (skipL (List.drop j34 l)).1) l)).1.at_)] 33)
        have b151 := hU149.below b144 ge142
        have ho152 := own_upd ho145 hU149 off143
        intro a153 hA154
        refine q_step hA154 rfl (d_assign (wn rfl) (hA154.ev (v := (.int .i64 ((firstR (List.drop (j34 + (skipL (List.drop j34 l)).1) l)).2))) rfl) ?_)
        intro a155 hA156
        refine q_end ?_
        refine t_norm ?_
        refine wp_seq ?_
        refine wp_seq ?_
        refine wp_region_lit ?_
        refine q_step hA156 rfl (d_move (wn rfl) (hA156.ev (v := (.int .i64 ((firstR (List.drop (j34 + (skipL (List.drop j34 l)).1) l)).2))) rfl) ?_)
        intro a157 hA158
        rcases Bool.eq_false_or_eq_true ((firstR (List.drop (j34 + (skipL (List.drop j34 l)).1) l)).2 == 0) with hb159 | hb159
        · skip
          have hq160 := eq_of_beq hb159
          refine q_step hA158 rfl (d_bin (wn rfl) (hA158.ev (v := (.int .i64 ((firstR (List.drop (j34 + (skipL (List.drop j34 l)).1) l)).2))) rfl) (hA158.ev (v := (.int .i64 0)) rfl) (b_ne _ _ ((firstR (List.drop (j34 + (skipL (List.drop j34 l)).1) l)).2) 0 false _ (notof hb159)) ?_)
          intro a161 hA162
          refine q_end ?_
          refine t_norm ?_
          refine c_false hA162 rfl ?_
          refine wp_skip ?_
          refine t_norm ?_
          refine wp_seq ?_
          refine wp_region_lit ?_
          refine q_step hA162 rfl (d_move (wn rfl) (hA162.ev (v := (.int .i64 ((j34 + (skipL (List.drop j34 l)).1 : Nat) : Int))) rfl) ?_)
          intro a163 hA164
          refine q_step hA164 rfl (d_fieldAddr (wn rfl) (hA164.ev (v := (.pointer (some ⟨g137, 0, none⟩))) rfl) fo33_3 ?_)
          intro a165 hA166
          refine q_step hA166 rfl (d_store (wn rfl) (hA166.ev (v := (.pointer (some ⟨g137, 3, none⟩))) rfl) (hA166.ev (v := (.int .i64 ((j34 + (skipL (List.drop j34 l)).1 : Nat) : Int))) rfl) one3 rfl m150 (Nat.le_of_ble_eq_true rfl) ?_)
          intro w167 hU168 (m169 : Blk w167 g137 #[.int .i64 ((firstR (List.drop (j34 + (skipL (List.drop j34 l)).1) l)).1.kind), .string (S ((firstR (List.drop (j34 + (skipL (List.drop j34 l)).1) l)).1.text)), .int .i64 ((firstR (List.drop (j34 + (skipL (List.drop j34 l)).1) l)).1.n), .int .i64 ((j34 + (skipL (List.drop j34 l)).1 : Nat) : Int)] 33)
          have b170 := hU168.below b151 ge142
          have ho171 := own_upd ho152 hU168 off143
          intro a172 hA173
          refine q_end ?_
          refine t_norm ?_
          refine wp_seq ?_
          refine wp_region_lit ?_
          refine q_step hA173 rfl (d_move (wn rfl) (hA173.ev (v := v36) rfl) ?_)
          intro a174 hA175
          refine q_step hA175 rfl (d_loadRow (cs := #[.int .i64 ((firstR (List.drop (j34 + (skipL (List.drop j34 l)).1) l)).1.kind), .string (S ((firstR (List.drop (j34 + (skipL (List.drop j34 l)).1) l)).1.text)), .int .i64 ((firstR (List.drop (j34 + (skipL (List.drop j34 l)).1) l)).1.n), .int .i64 ((j34 + (skipL (List.drop j34 l)).1 : Nat) : Int)]) (wn rfl) (hA175.ev (v := (.pointer (some ⟨g137, 0, none⟩))) rfl) row33 m169 ?_)
          intro a176 hA177
          refine q_step hA177 rfl (d_slice1 (wn rfl) (hA177.ev (v := (.agg #[.int .i64 ((firstR (List.drop (j34 + (skipL (List.drop j34 l)).1) l)).1.kind), .string (S ((firstR (List.drop (j34 + (skipL (List.drop j34 l)).1) l)).1.text)), .int .i64 ((firstR (List.drop (j34 + (skipL (List.drop j34 l)).1) l)).1.n), .int .i64 ((j34 + (skipL (List.drop j34 l)).1 : Nat) : Int)])) rfl) elm23 rfl (by decide) ?_)
          intro g178 w179 eg180 hG181 (m182 : Blk w179 g178 #[.int .i64 ((firstR (List.drop (j34 + (skipL (List.drop j34 l)).1) l)).1.kind), .string (S ((firstR (List.drop (j34 + (skipL (List.drop j34 l)).1) l)).1.text)), .int .i64 ((firstR (List.drop (j34 + (skipL (List.drop j34 l)).1) l)).1.n), .int .i64 ((j34 + (skipL (List.drop j34 l)).1 : Nat) : Int)] 33)
          have ge183 : w.heap.size ≤ g178 := eg180 ▸ b170.size
          have n184 : g137 ≠ g178 := fun h => Nat.lt_irrefl _ ((h.trans eg180) ▸ m169.lt)
          have off185 := own_new ho171 eg180
          have m186 := m169.grow hG181
          have b187 := below_grow b170 hG181 b170.size
          have ho188 := own_grow hG181 ho171
          intro a189 hA190
          refine q_step hA190 rfl (d_append (wn rfl) (hA190.ev (v := v36) rfl) (hA190.ev (v := (.slice (some ⟨g178, 0, none⟩) 1 1)) rfl) elm23 ho188 m182 rfl rfl (by omega) (by decide) b187.size ?_)
          intro v191 w192 ho193 hg194 hl195
          have b196 := below_by b187 hg194 b187.size (fun k hk => (own_lt ho188 k hk).1)
          have m197 := m186.by hg194 off143
          have off198 := lies_ne hl195 off143 m186.lt
          intro a199 hA200
          refine q_step hA200 rfl (d_assign (wn rfl) (hA200.ev (v := v191) rfl) ?_)
          intro a201 hA202
          refine q_end ?_
          refine t_norm ?_
          refine wp_region_lit ?_
          refine q_step hA202 rfl (d_move (wn rfl) (hA202.ev (v := (.int .i64 ((j34 + (skipL (List.drop j34 l)).1 : Nat) : Int))) rfl) ?_)
          intro a203 hA204
          refine q_step hA204 rfl (d_fieldAddr (wn rfl) (hA204.ev (v := (.pointer (some ⟨g137, 0, none⟩))) rfl) fo33_1 ?_)
          intro a205 hA206
          refine q_step hA206 rfl (d_load (v := (.string (S ((firstR (List.drop (j34 + (skipL (List.drop j34 l)).1) l)).1.text)))) (wn rfl) (hA206.ev (v := (.pointer (some ⟨g137, 1, none⟩))) rfl) one9 (m197.cell rfl) ?_)
          intro a207 hA208
          have hfl := first_len (eq_of_beq hb159)
          rw [List.length_drop] at hfl
          refine q_step hA208 rfl (d_slen (wn rfl) (hA208.ev (v := (.string (S ((firstR (List.drop (j34 + (skipL (List.drop j34 l)).1) l)).1.text)))) rfl) str9 ?_)
          intro a209 hA210
          refine q_step hA210 rfl (d_bin (wn rfl) (hA210.ev (v := (.int .i64 ((j34 + (skipL (List.drop j34 l)).1 : Nat) : Int))) rfl) (hA210.ev (v := (.int .i64 ((((firstR (List.drop (j34 + (skipL (List.drop j34 l)).1) l)).1.text).length : Nat) : Int))) rfl) (b_addE (j34 + (skipL (List.drop j34 l)).1 + ((firstR (List.drop (j34 + (skipL (List.drop j34 l)).1) l)).1.text).length) (by omega) (by omega)) ?_)
          intro a211 hA212
          refine q_step hA212 rfl (d_assign (wn rfl) (hA212.ev (v := (.int .i64 ((j34 + (skipL (List.drop j34 l)).1 + ((firstR (List.drop (j34 + (skipL (List.drop j34 l)).1) l)).1.text).length : Nat) : Int))) rfl) ?_)
          intro a213 hA214
          refine q_end ?_
          refine i_norm ?_
          refine t_norm ?_
          have hgo := tf_go (f := f') (ws := ws35) hk49 (by omega) (eq_of_beq hb159)
          rw [hgo] at htk
          exact ⟨l.length - (j34 + (skipL (List.drop j34 l)).1 + (firstR (List.drop (j34 + (skipL (List.drop j34 l)).1) l)).1.text.length), (by rw [hm37]; omega), f', j34 + (skipL (List.drop j34 l)).1 + (firstR (List.drop (j34 + (skipL (List.drop j34 l)).1) l)).1.text.length, ws35 ++ [({ (firstR (List.drop (j34 + (skipL (List.drop j34 l)).1) l)).1 with at_ := ((j34 + (skipL (List.drop j34 l)).1 : Nat) : Int) } : Tk)], v191, rfl, ⟨by omega, by omega, by rw [List.length_append, List.length_singleton]; omega⟩, htk, hA214.cut _ (fm_cons (hA214.get 0 _ rfl) (fm_cons (hA214.get 2 _ rfl) (fm_cons (hA214.get 3 _ rfl) (fm_cons (hA214.get 4 _ rfl) (fm_cons (hA214.get 5 _ rfl) (fm_cons (hA214.get 6 _ rfl) fm_nil)))))), b196, by rw [List.length_append, List.length_singleton, ← flat_tok]; exact ho193⟩
        · skip
          have hq215 := ne_of_beq hb159
          refine q_step hA158 rfl (d_bin (wn rfl) (hA158.ev (v := (.int .i64 ((firstR (List.drop (j34 + (skipL (List.drop j34 l)).1) l)).2))) rfl) (hA158.ev (v := (.int .i64 0)) rfl) (b_ne _ _ ((firstR (List.drop (j34 + (skipL (List.drop j34 l)).1) l)).2) 0 true _ (notof hb159)) ?_)
          intro a216 hA217
          refine q_end ?_
          refine t_norm ?_
          refine c_true hA217 rfl ?_
          refine wp_seq ?_
          refine wp_region_lit ?_
          refine q_step hA217 rfl (d_move (wn rfl) (hA217.ev (v := (.int .i64 ((firstR (List.drop (j34 + (skipL (List.drop j34 l)).1) l)).2))) rfl) ?_)
          intro a218 hA219
          refine q_step hA219 rfl (d_move (wn rfl) (hA219.ev (v := (.int .i64 ((j34 + (skipL (List.drop j34 l)).1 : Nat) : Int))) rfl) ?_)
          intro a220 hA221
          refine q_step hA221 rfl (d_assign (wn rfl) (hA221.ev (v := (.slice none 0 0)) rfl) ?_)
          intro a222 hA223
          refine q_step hA223 rfl (d_assign (wn rfl) (hA223.ev (v := (.int .i64 ((firstR (List.drop (j34 + (skipL (List.drop j34 l)).1) l)).2))) rfl) ?_)
          intro a224 hA225
          refine q_step hA225 rfl (d_assign (wn rfl) (hA225.ev (v := (.int .i64 ((j34 + (skipL (List.drop j34 l)).1 : Nat) : Int))) rfl) ?_)
          intro a226 hA227
          refine q_end ?_
          refine t_norm ?_
          refine wp_ret ?_
          refine t_ret ?_
          refine i_ret ?_
          refine t_ret ?_
          refine i_ret ?_
          refine ret3 (x := (.slice none 0 0)) (y := (.int .i64 ((firstR (List.drop (j34 + (skipL (List.drop j34 l)).1) l)).2))) (z := (.int .i64 ((j34 + (skipL (List.drop j34 l)).1 : Nat) : Int))) rfl hA227 rfl rfl rfl ?_
          rw [tf_bad hk49 (by omega) (ne_of_beq hb159)] at htk
          exact ⟨_, by rw [← htk] <;> rfl, by rw [← htk]; exact ⟨rfl, .inl ⟨rfl, rfl⟩⟩, b151⟩
end Go.Proofs.YtfehbkcfncioiaaDoor
/- Hexadecimal digits; a number's value as the reference reckons it. -/
namespace Go.Proofs.YtfehbkcfncioiaaDoor
set_option linter.unusedVariables false

theorem low_facts (b : UInt8) : (65 ≤ b.toNat ∧ b.toNat ≤ 90 → lowB b = b.toNat + 32) ∧ (97 ≤ b.toNat ∧ b.toNat ≤ 122 → lowB b = b.toNat) ∧ (97 ≤ lowB b ∧ lowB b ≤ 122 → (65 ≤ b.toNat ∧ b.toNat ≤ 90) ∨ (97 ≤ b.toNat ∧ b.toNat ≤ 122)) := by
  have : ∀ i : Fin 256, (65 ≤ (UInt8.ofNat i.val).toNat ∧ (UInt8.ofNat i.val).toNat ≤ 90 → lowB (UInt8.ofNat i.val) = (UInt8.ofNat i.val).toNat + 32) ∧ (97 ≤ (UInt8.ofNat i.val).toNat ∧ (UInt8.ofNat i.val).toNat ≤ 122 → lowB (UInt8.ofNat i.val) = (UInt8.ofNat i.val).toNat) ∧ (97 ≤ lowB (UInt8.ofNat i.val) ∧ lowB (UInt8.ofNat i.val) ≤ 122 → (65 ≤ (UInt8.ofNat i.val).toNat ∧ (UInt8.ofNat i.val).toNat ≤ 90) ∨ (97 ≤ (UInt8.ofNat i.val).toNat ∧ (UInt8.ofNat i.val).toNat ≤ 122)) := by decide +kernel
  have h := this ⟨b.toNat, b.toNat_lt⟩
  simpa only [UInt8.ofNat_toNat] using h
def hxI (b : UInt8) : Int := if dv b < 16 then ((dv b : Nat) : Int) else -1
theorem hx_dig {b : UInt8} (h1 : 48 ≤ b.toNat) (h2 : b.toNat ≤ 57) : hxI b = ((b.toNat : Nat) : Int) - 48 := by
  have := dv_dig h1 h2
  unfold hxI; rw [if_pos (by omega)]; omega
theorem hx_low {b : UInt8} (h1 : 97 ≤ b.toNat) (h2 : b.toNat ≤ 102) : hxI b = ((b.toNat : Nat) : Int) - 97 + 10 := by
  have h := (low_facts b).2.1 (by omega)
  have := dv_let (b := b) (by omega) (by omega) (by omega)
  unfold hxI; rw [if_pos (by omega)]; omega
theorem hx_up {b : UInt8} (h1 : 65 ≤ b.toNat) (h2 : b.toNat ≤ 70) : hxI b = ((b.toNat : Nat) : Int) - 65 + 10 := by
  have h := (low_facts b).1 (by omega)
  have := dv_let (b := b) (by omega) (by omega) (by omega)
  unfold hxI; rw [if_pos (by omega)]; omega
theorem hx_no {b : UInt8} (h : ¬ (48 ≤ b.toNat ∧ b.toNat ≤ 57)) (h1 : ¬ (97 ≤ b.toNat ∧ b.toNat ≤ 102)) (h2 : ¬ (65 ≤ b.toNat ∧ b.toNat ≤ 70)) : hxI b = -1 := by
  have hf := low_facts b
  unfold hxI; rw [if_neg]
  by_cases h3 : 97 ≤ lowB b ∧ lowB b ≤ 122
  · have := dv_let h h3.1 h3.2
    rcases hf.2.2 h3 with h4 | h4
    · have := hf.1 h4; omega
    · have := hf.2.1 h4; omega
  · have := dv_bad h h3; omega
theorem hx_dv {b : UInt8} (h : 0 ≤ hxI b) : dv b < 16 ∧ hxI b = ((dv b : Nat) : Int) := by
  unfold hxI at *; split at h
  · next h1 => exact ⟨h1, if_pos h1⟩
  · omega
theorem hx_neg {b : UInt8} (h : hxI b < 0) : 16 ≤ dv b := by
  unfold hxI at h; split at h
  · omega
  · omega
theorem fold_ge (bs : Nat) (hb : 0 < bs) (l : List UInt8) : ∀ n : Nat, n ≤ l.foldl (fun n b => n * bs + dv b) n := by
  induction l with
  | nil => intro n; exact Nat.le_refl _
  | cons b l ih =>
    intro n
    refine Nat.le_trans ?_ (ih (n * bs + dv b))
    exact Nat.le_trans (Nat.le_mul_of_pos_right n hb) (Nat.le_add_right _ _)
theorem nv_mono {bs : Nat} (hb : 0 < bs) (l : List UInt8) (i : Nat) : nv bs (l.take i) ≤ nv bs l := by
  unfold nv
  conv => rhs; rw [← List.take_append_drop i l, List.foldl_append]
  exact fold_ge bs hb (l.drop i) _
theorem fits_over {bs : Nat} (hb : 0 < bs) {l : List UInt8} {i : Nat} (h : nv bs (l.take i) > 9223372036854775808) : fits (valL bs l) = none := by
  unfold valL; split
  · rfl
  · have := nv_mono hb l i
    simp only [fits]; rw [if_pos (by omega)]
theorem fits_bad {bs : Nat} {l : List UInt8} {i : Nat} {y : UInt8} (h : l[i]? = some y) (hy : bs ≤ dv y) : fits (valL bs l) = none := by rw [val_bad h hy]; rfl
theorem fits_end {bs : Nat} {l : List UInt8} {i : Nat} (h : l ≠ []) (ha : allD bs (l.take i) = true) (hi : l.length ≤ i) (hn : nv bs (l.take i) ≤ 9223372036854775808) : fits (valL bs l) = some (IntKind.wrap .i64 ((nv bs (l.take i) : Nat) : Int)) := by
  rw [val_end h ha hi]; simp only [fits]; rw [if_neg (by omega)]
end Go.Proofs.YtfehbkcfncioiaaDoor
/- Where a remark ends, byte by byte; what a text begins with. -/
namespace Go.Proofs.YtfehbkcfncioiaaDoor
set_option linter.unusedVariables false

theorem drop_two {l : List UInt8} {n : Nat} {a b : UInt8} (ha : l[n]? = some a) (hb : l[n + 1]? = some b) : l.drop n = a :: b :: l.drop (n + 2) := by rw [drop_at ha, drop_at hb]
theorem endR_hit {l : List UInt8} {n : Nat} {a b : UInt8} (ha : l[n]? = some a) (hb : l[n + 1]? = some b) (h1 : ((a.toNat : Nat) : Int) = 42) (h2 : ((b.toNat : Nat) : Int) = 41) : endR (l.drop n) = 0 := by
  have e1 : a = 42 := UInt8.toNat_inj.1 (by show a.toNat = 42; omega)
  have e2 : b = 41 := UInt8.toNat_inj.1 (by show b.toNat = 41; omega)
  rw [drop_two ha hb, endR_cons, e1, e2]; simp
theorem endR_go {l : List UInt8} {n : Nat} {a b : UInt8} (ha : l[n]? = some a) (hb : l[n + 1]? = some b) (h : ¬ (((a.toNat : Nat) : Int) = 42 ∧ ((b.toNat : Nat) : Int) = 41)) : (endR (l.drop n) < 0 ∧ endR (l.drop (n + 1)) < 0) ∨ (0 ≤ endR (l.drop (n + 1)) ∧ endR (l.drop n) = endR (l.drop (n + 1)) + 1) := by
  have hp : List.isPrefixOf [42, 41] (a :: l.drop (n + 1)) = false := by
    rw [drop_at hb]
    cases hh : List.isPrefixOf [42, 41] (a :: b :: l.drop (n + 1 + 1))
    · rfl
    · simp [List.isPrefixOf] at hh
      exact absurd ⟨by rw [← hh.1]; rfl, by rw [← hh.2]; rfl⟩ h
  rw [drop_at ha, endR_cons, hp]
  simp only [Bool.false_eq_true, if_false]
  have hge := endR_ge (l.drop (n + 1))
  by_cases h1 : endR (l.drop (n + 1)) = -1
  · left; simp [h1]
  · right
    have h2 : (endR (l.drop (n + 1)) == -1) = false := by simp [h1]
    rw [h2]
    simp only [Bool.false_eq_true, if_false]
    exact ⟨by omega, trivial⟩
theorem endR_stop {l : List UInt8} {n : Nat} (h : l.length ≤ n + 1) : endR (l.drop n) < 0 := by
  rcases endR_le (l.drop n) with h1 | h1
  · exact h1
  · rw [List.length_drop] at h1; omega
theorem pre2_yes {l : List UInt8} {n : Nat} {a b : UInt8} (ha : l[n]? = some a) (hb : l[n + 1]? = some b) (h1 : ((a.toNat : Nat) : Int) = 40) (h2 : ((b.toNat : Nat) : Int) = 42) : preB (l.drop n) [40, 42] = true := by
  have e1 : a = 40 := UInt8.toNat_inj.1 (by show a.toNat = 40; omega)
  have e2 : b = 42 := UInt8.toNat_inj.1 (by show b.toNat = 42; omega)
  rw [drop_two ha hb, e1, e2]; simp [preB]
theorem pre2_first {l : List UInt8} {n : Nat} {a : UInt8} (ha : l[n]? = some a) (h1 : ¬ ((a.toNat : Nat) : Int) = 40) : preB (l.drop n) [40, 42] = false := by
  cases hh : preB (l.drop n) [40, 42]
  · rfl
  · exfalso
    unfold preB at hh
    rw [drop_at ha] at hh
    simp at hh
    exact h1 (by rw [hh.2.1]; rfl)
theorem pre2_short {l : List UInt8} {n : Nat} (h : l.length ≤ n + 1) : preB (l.drop n) [40, 42] = false := pre_short (by rw [List.length_drop]; simp only [List.length_cons, List.length_nil]; omega)
theorem pre2_second {l : List UInt8} {n : Nat} {a b : UInt8} (ha : l[n]? = some a) (hb : l[n + 1]? = some b) (h1 : ¬ ((b.toNat : Nat) : Int) = 42) : preB (l.drop n) [40, 42] = false := by
  cases hh : preB (l.drop n) [40, 42]
  · rfl
  · exfalso
    unfold preB at hh
    rw [drop_two ha hb] at hh
    simp at hh
    exact h1 (by rw [hh.2]; rfl)
end Go.Proofs.YtfehbkcfncioiaaDoor
/- What the reference's Value comes to. -/
namespace Go.Proofs.YtfehbkcfncioiaaDoor
set_option linter.unusedVariables false

def valV (o : Option Int) : Value := match o with | some n => .tuple #[.int .i64 n, .bool true] | none => .tuple #[.int .i64 0, .bool false]
theorem hx_or (b : UInt8) : (hxI b = -1 ∧ 16 ≤ dv b) ∨ (hxI b = ((dv b : Nat) : Int) ∧ dv b < 16) := by
  unfold hxI; split
  · next h => exact .inr ⟨rfl, h⟩
  · next h => exact .inl ⟨rfl, by omega⟩
theorem b_quo64 {P : Program} {w : World} {t : TypeId} {x y : Operand} {a b : Int} (h0 : 0 ≤ a) (ha : a ≤ 18446744073709551615) (hb : 0 < b) : (eqGuard .quo t x y (.int .u64 a) (.int .u64 b)).run P w = .ok () w ∧ (binOp .quo t (.int .u64 a) (.int .u64 b)).run P w = .ok (.int .u64 (a / b)) w := by
  refine ⟨by simp [eqGuard], ?_⟩
  have h1 : a.tdiv b = a / b := Int.tdiv_eq_ediv_of_nonneg h0
  have h2 : 0 ≤ a / b := Int.ediv_nonneg h0 (by omega)
  have h3 : a / b ≤ a := Int.ediv_le_self b h0
  have h4 : ¬ b = 0 := by omega
  simp only [binOp, Op.intDiv, if_neg h4, h1, wrap64 h2 (by omega)]
  simp
section
variable {l : List UInt8} {a b : UInt8}
theorem pre_two {p q : UInt8} (ha : l[0]? = some a) (hb : l[1]? = some b) : preB l [p, q] = (a == p && b == q) := by
  have e : l = a :: b :: l.drop 2 := by have := drop_two (n := 0) ha hb; rw [List.drop_zero] at this; exact this
  rw [e]; unfold preB; simp
theorem numx (ha : l[0]? = some a) (h1 : ((a.toNat : Nat) : Int) = 48) (hb : l[1]? = some b) (h2 : ((b.toNat : Nat) : Int) = 120) : numR l = if (l.drop 2).length > 16 then none else fits (valL 16 (l.drop 2)) := by
  have e1 : a = 48 := UInt8.toNat_inj.1 (by show a.toNat = 48; omega)
  have e2 : b = 120 := UInt8.toNat_inj.1 (by show b.toNat = 120; omega)
  have hp : preB l [48, 120] = true := by rw [pre_two ha hb, e1, e2]; rfl
  unfold numR cutF; rw [if_pos hp, if_pos hp]; rfl
theorem numd_of (hp : preB l [48, 120] = false) : numR l = if l.length > 19 then none else fits (valL 10 l) := by unfold numR; rw [if_neg (by simp [hp])]
theorem pre_of (hp : preB l [48, 120] = true) : l[0]? = some 48 ∧ l[1]? = some 120 ∧ 2 ≤ l.length := by
  unfold preB at hp
  rw [Bool.and_eq_true] at hp
  have h1 := of_decide_eq_true hp.1
  have h2 := eq_of_beq hp.2
  match l, h1, h2 with
  | a :: b :: r, _, h2 => simp at h2; simp [h2.1, h2.2]
theorem numd_a (ha : l[0]? = some a) (h1 : ¬ ((a.toNat : Nat) : Int) = 48) : numR l = if l.length > 19 then none else fits (valL 10 l) := by
  rcases Bool.eq_false_or_eq_true (preB l [48, 120]) with h | h
  · have := (pre_of h).1; rw [ha] at this; simp at this; exact absurd (by rw [this]; rfl) h1
  · exact numd_of h
theorem numd_b (hb : l[1]? = some b) (h1 : ¬ ((b.toNat : Nat) : Int) = 120) : numR l = if l.length > 19 then none else fits (valL 10 l) := by
  rcases Bool.eq_false_or_eq_true (preB l [48, 120]) with h | h
  · have := (pre_of h).2.1; rw [hb] at this; simp at this; exact absurd (by rw [this]; rfl) h1
  · exact numd_of h
theorem numd_short (hl : l.length ≤ 2) : numR l = if l.length > 19 then none else fits (valL 10 l) := by
  rcases Bool.eq_false_or_eq_true (preB l [48, 120]) with h | h
  · obtain ⟨h1, h2, h3⟩ := pre_of h
    have e : l = [48, 120] := by
      have := drop_two (n := 0) h1 h2
      rw [List.drop_zero, List.drop_eq_nil_of_le (by omega)] at this; exact this
    rw [e]; decide
  · exact numd_of h
end
end Go.Proofs.YtfehbkcfncioiaaDoor
