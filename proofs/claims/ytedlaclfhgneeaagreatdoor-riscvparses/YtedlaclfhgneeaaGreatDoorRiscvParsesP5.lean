/- RiscvParses, part 5: the engine, contracts, theory. -/
import Derived.Test.YtedlaclfhgneeaaGreatDoorRiscvParsesP4
import Derived.Shelf.Spec.SlicesGrow
import Derived.LoopN
namespace Go.Proofs.YtedlaclfhgneeaaGreatDoor
open Go.RowKit
set_option linter.unusedVariables false
set_option linter.unusedSimpArgs false
set_option maxRecDepth 100000
set_option maxHeartbeats 2000000
set_option simprocs false
theorem nd_t {p : Prop} [Decidable p] (h : (!(decide p)) = true) : ¬ p := by simpa using h
theorem nd_f {p : Prop} [Decidable p] (h : (!(decide p)) = false) : p := by simpa using h
def regG (rf : List UInt8 → Int) (L : List Tk) (s : Old.Rs) : Old.Rs × Int := if s.e == 0 then (match L[s.p]? with
    | some y => if (y.kind == 1) && !decide (rf y.text < 0) then (⟨s.e, s.a, s.p + 1⟩, rf y.text) else (Old.oddR L true s, -1)
    | none => (Old.oddR L true s, -1)) else (s, -1)
def isR (L : List Tk) (s : Old.Rs) (m : List UInt8) : Bool := (s.e == 0) && Old.reads L m s.p
section
variable {ws : List Tk} {k : Nat} {m : List UInt8} {s : Old.Rs} {x y : Int} {u : Bool} {rf : List UInt8 → Int}
theorem tk_get (h : k < ws.length) : ws[k]? = some (ws.getD k tok0) := by rw [List.getD_eq_getElem?_getD, List.getElem?_eq_getElem h]; rfl
theorem tk_non (h : ¬ k < ws.length) : ws[k]? = none := List.getElem?_eq_none (by omega)
theorem reads_tk : Old.reads ws m k = tkB ws k m := by
  unfold Old.reads tkB
  by_cases h : k < ws.length
  · rw [tk_get h, decide_eq_true h]; rfl
  · rw [tk_non h, decide_eq_false h]; rfl
theorem where_at (hw : WsOK ws) : Old.whereR ws k = atW ws k := by
  unfold Old.whereR atW
  by_cases h : k < ws.length
  · rw [tk_get h, if_pos h]
  · rw [tk_non h, if_neg h]
    by_cases h0 : ws.length = 0
    · rw [if_pos h0, tk_non (by omega)]
    · rw [if_neg h0, tk_get (by omega)]
      have := hw _ (tk_mem (ws := ws) (k := ws.length - 1) (by omega))
      exact wrap_in ⟨by omega, by omega⟩
theorem nxK_y (h : k < ws.length) : nxK ws k = k + 1 := by unfold nxK; rw [if_pos h]
theorem fail_y (h : s.e = 0) : Old.failR s x y = ⟨x, y, s.p⟩ := by unfold Old.failR; rw [if_pos (beq_iff_eq.2 h)]
theorem fail_n (h : s.e ≠ 0) : Old.failR s x y = s := by unfold Old.failR; rw [if_neg (fun e => h (eq_of_beq e))]
theorem fail_p : (Old.failR s x y).p = s.p := by unfold Old.failR; split <;> rfl
theorem fail_le (h : s.p ≤ ws.length) : (Old.failR s x y).p ≤ ws.length := by rw [fail_p]; exact h
theorem odd_e (hw : WsOK ws) (h : ¬ s.p < ws.length) : Old.oddR ws u s = Old.failR s 24 (atW ws s.p) := by unfold Old.oddR; rw [tk_non h]; simp only [where_at hw]
theorem odd_w (h : s.p < ws.length) (h1 : (ws.getD s.p tok0).kind = 1) : Old.oddR ws true s = Old.failR s 21 (ws.getD s.p tok0).at_ := by unfold Old.oddR; rw [tk_get h]; simp only [h1]; rfl
theorem odd_f (h : s.p < ws.length) (h1 : (ws.getD s.p tok0).kind ≠ 1) : Old.oddR ws true s = Old.failR s 22 (ws.getD s.p tok0).at_ := by
  unfold Old.oddR; rw [tk_get h]
  have : ((ws.getD s.p tok0).kind == 1) = false := beq_eq_false_iff_ne.2 h1
  simp only [this]; rfl
theorem odd_g (h : s.p < ws.length) : Old.oddR ws false s = Old.failR s 22 (ws.getD s.p tok0).at_ := by unfold Old.oddR; rw [tk_get h]; rfl
theorem odd_p : (Old.oddR ws u s).p = s.p := by
  unfold Old.oddR; split
  · exact fail_p
  · split <;> exact fail_p
theorem odd_le (h : s.p ≤ ws.length) : (Old.oddR ws u s).p ≤ ws.length := by rw [odd_p]; exact h
theorem odd_ne (h : s.e = 0) : (Old.oddR ws u s).e ≠ 0 := by
  unfold Old.oddR; split
  · rw [fail_y h]; exact (by decide : (24 : Int) ≠ 0)
  · split
    · rw [fail_y h]; exact (by decide : (21 : Int) ≠ 0)
    · rw [fail_y h]; exact (by decide : (22 : Int) ≠ 0)
theorem tkK_n (h : tkB ws k m = false) : tkK ws k m = k := by unfold tkK; rw [h]; rfl
theorem tkK_y (h : tkB ws k m = true) : tkK ws k m = k + 1 := by unfold tkK; rw [h]; rfl
theorem mark_y (h : s.e = 0) (hb : tkB ws s.p m = true) : Old.markR ws m s = ⟨s.e, s.a, tkK ws s.p m⟩ := by unfold Old.markR; rw [if_pos (beq_iff_eq.2 h), reads_tk, if_pos hb, tkK_y hb]
theorem mark_n (h : s.e = 0) (hb : tkB ws s.p m = false) : Old.markR ws m s = Old.oddR ws false ⟨s.e, s.a, tkK ws s.p m⟩ := by unfold Old.markR; rw [if_pos (beq_iff_eq.2 h), reads_tk, if_neg (by rw [hb]; decide), tkK_n hb]
theorem mark_s (h : s.e ≠ 0) : Old.markR ws m s = s := by unfold Old.markR; rw [if_neg (fun e => h (eq_of_beq e))]
theorem mark_le (h : s.p ≤ ws.length) : (Old.markR ws m s).p ≤ ws.length := by
  by_cases he : s.e = 0
  · cases hb : tkB ws s.p m with
    | true => rw [mark_y he hb]; exact tkK_le h
    | false => rw [mark_n he hb]; exact odd_le (tkK_le h)
  · rw [mark_s he]; exact h
theorem is_is : ((((s.e == 0) && decide (s.p < ws.length)) && (!((ws.getD s.p tok0).kind == 2))) && ((ws.getD s.p tok0).text == m)) = isR ws s m := by
  unfold isR; rw [reads_tk]; unfold tkB
  cases (s.e == 0) <;> cases decide (s.p < ws.length) <;> cases ((ws.getD s.p tok0).kind == 2) <;> rfl
theorem reg_s (h : s.e ≠ 0) : regG rf ws s = (s, -1) := by unfold regG; rw [if_neg (fun e => h (eq_of_beq e))]
theorem reg_n (h : s.e = 0) (hb : (((!(decide (s.p < ws.length))) || (!((ws.getD s.p tok0).kind == 1))) || (decide (rf (ws.getD s.p tok0).text < 0))) = true) : regG rf ws s = (Old.oddR ws true s, -1) := by
  unfold regG; rw [if_pos (beq_iff_eq.2 h)]
  by_cases hl : s.p < ws.length
  · rw [tk_get hl]
    rw [decide_eq_true hl] at hb
    simp only
    rw [if_neg]
    revert hb
    cases ((ws.getD s.p tok0).kind == 1) <;> cases decide (rf (ws.getD s.p tok0).text < 0) <;> decide
  · rw [tk_non hl]
theorem reg_y (h : s.e = 0) (hb : (((!(decide (s.p < ws.length))) || (!((ws.getD s.p tok0).kind == 1))) || (decide (rf (ws.getD s.p tok0).text < 0))) = false) : regG rf ws s = (⟨s.e, s.a, nxK ws s.p⟩, rf (ws.getD s.p tok0).text) := by
  unfold regG; rw [if_pos (beq_iff_eq.2 h)]
  by_cases hl : s.p < ws.length
  · rw [tk_get hl, nxK_y hl]
    rw [decide_eq_true hl] at hb
    simp only
    rw [if_pos]
    revert hb
    cases ((ws.getD s.p tok0).kind == 1) <;> cases decide (rf (ws.getD s.p tok0).text < 0) <;> decide
  · rw [decide_eq_false hl] at hb; cases hb
theorem regG_le (h : s.p ≤ ws.length) : (regG rf ws s).1.p ≤ ws.length := by
  by_cases he : s.e = 0
  · cases hb : (((!(decide (s.p < ws.length))) || (!((ws.getD s.p tok0).kind == 1))) || (decide (rf (ws.getD s.p tok0).text < 0))) with
    | true => rw [reg_n he hb]; exact odd_le h
    | false => rw [reg_y he hb]; exact nxK_le h
  · rw [reg_s he]; exact h
theorem num_s (h : s.e ≠ 0) : Old.numS ws s = (s, 0) := by unfold Old.numS; rw [if_neg (fun e => h (eq_of_beq e))]
theorem numM (h : s.e = 0) : Old.numS ws s = Old.numE ws (tkB ws s.p [45]) ⟨s.e, s.a, tkK ws s.p [45]⟩ := by
  unfold Old.numS; rw [if_pos (beq_iff_eq.2 h), reads_tk]
  cases hb : tkB ws s.p [45] with
  | true => rw [if_pos rfl, tkK_y hb]
  | false => rw [if_neg (by decide), tkK_n hb]
theorem numE_n {mi : Bool} (hb : ((!(decide (s.p < ws.length))) || (!((ws.getD s.p tok0).kind == 2))) = true) : Old.numE ws mi s = (Old.oddR ws false s, 0) := by
  unfold Old.numE
  by_cases hl : s.p < ws.length
  · rw [tk_get hl]
    rw [decide_eq_true hl] at hb
    simp only
    rw [if_neg]
    revert hb
    cases ((ws.getD s.p tok0).kind == 2) <;> decide
  · rw [tk_non hl]
theorem numE_y {mi : Bool} (hb : ((!(decide (s.p < ws.length))) || (!((ws.getD s.p tok0).kind == 2))) = false) : Old.numE ws mi s = (⟨s.e, s.a, nxK ws s.p⟩, if mi = true then IntKind.wrap .i64 (0 - (ws.getD s.p tok0).n) else (ws.getD s.p tok0).n) := by
  unfold Old.numE
  by_cases hl : s.p < ws.length
  · rw [tk_get hl, nxK_y hl]
    rw [decide_eq_true hl] at hb
    simp only
    rw [if_pos, Int.zero_sub]
    revert hb
    cases ((ws.getD s.p tok0).kind == 2) <;> decide
  · rw [decide_eq_false hl] at hb; cases hb
theorem num_le (h : s.p ≤ ws.length) : (Old.numS ws s).1.p ≤ ws.length := by
  by_cases he : s.e = 0
  · rw [numM he]
    have hk : (⟨s.e, s.a, tkK ws s.p [45]⟩ : Old.Rs).p ≤ ws.length := tkK_le h
    generalize (⟨s.e, s.a, tkK ws s.p [45]⟩ : Old.Rs) = z at hk ⊢
    cases hb : ((!(decide (z.p < ws.length))) || (!((ws.getD z.p tok0).kind == 2))) with
    | true => rw [numE_n hb]; exact odd_le hk
    | false => rw [numE_y hb]; exact nxK_le hk
  · rw [num_s he]; exact h
theorem lab_s (h : s.e ≠ 0) : Old.labR ws s = (s, []) := by unfold Old.labR; rw [if_neg (fun e => h (eq_of_beq e))]
theorem lab_n (h : s.e = 0) (hb : ((!(decide (s.p < ws.length))) || (!((ws.getD s.p tok0).kind == 1))) = true) : Old.labR ws s = (Old.oddR ws false s, []) := by
  unfold Old.labR; rw [if_pos (beq_iff_eq.2 h)]
  by_cases hl : s.p < ws.length
  · rw [tk_get hl]
    rw [decide_eq_true hl] at hb
    simp only
    rw [if_neg]
    revert hb
    cases ((ws.getD s.p tok0).kind == 1) <;> decide
  · rw [tk_non hl]
theorem lab_y (h : s.e = 0) (hb : ((!(decide (s.p < ws.length))) || (!((ws.getD s.p tok0).kind == 1))) = false) : Old.labR ws s = (⟨s.e, s.a, nxK ws s.p⟩, (ws.getD s.p tok0).text) := by
  unfold Old.labR; rw [if_pos (beq_iff_eq.2 h)]
  by_cases hl : s.p < ws.length
  · rw [tk_get hl, nxK_y hl]
    rw [decide_eq_true hl] at hb
    simp only
    rw [if_pos]
    revert hb
    cases ((ws.getD s.p tok0).kind == 1) <;> decide
  · rw [decide_eq_false hl] at hb; cases hb
theorem lab_le (h : s.p ≤ ws.length) : (Old.labR ws s).1.p ≤ ws.length := by
  by_cases he : s.e = 0
  · cases hb : ((!(decide (s.p < ws.length))) || (!((ws.getD s.p tok0).kind == 1))) with
    | true => rw [lab_n he hb]; exact odd_le h
    | false => rw [lab_y he hb]; exact nxK_le h
  · rw [lab_s he]; exact h
end
theorem rfail_ (ar : Int) (ws : List Tk) (cw : Nat) (s : Old.Rs) (x : Int) (y : Int) (hk : s.p ≤ ws.length) (hn : ws.length ≤ 1000000) (hw : WsOK ws) : Fn Tryz.prog 36 [.ptr 0 0, .int .i64 x, .int .i64 y] [some (.blk [.int .i64 ar, .ptr 1 0, .int .i64 s.e, .int .i64 s.a]), some (.blk [.sl 2 ws.length cw, .int .i64 ((s.p : Nat) : Int)]), some (.lst 4 ws.length (fun zz => tkc (ws.getD zz tok0)))] (Rt (.tup []) [some (.blk [.int .i64 ar, .ptr 1 0, .int .i64 ((Old.failR s x y).e), .int .i64 ((Old.failR s x y).a)]), some (.blk [.sl 2 ws.length cw, .int .i64 (((Old.failR s x y).p : Nat) : Int)]), some (.lst 4 ws.length (fun zz => tkc (ws.getD zz tok0)))]) :=
 enterM (n := 19) (by kernel_rfl) Tryz.func36 rfl rfl rfl fun G w a h0 A => N hX 9 A rfl rfl fun A => forkE 10 A rfl
  (fun h1 A => N hX 17 A rfl rfl fun A => ENDN (RETN hX A rfl rfl rfl h0 rfl rfl rfl rfl rfl (by rw [fail_y h1] <;> rfl)))
  (fun h1 A => N hX 2 A rfl rfl fun A => ENDN (RETN hX A rfl rfl rfl h0 rfl rfl rfl rfl rfl (by rw [fail_n h1] <;> rfl)))
theorem roddT_ (ar : Int) (ws : List Tk) (cw : Nat) (s : Old.Rs) (hk : s.p ≤ ws.length) (hn : ws.length ≤ 1000000) (hw : WsOK ws) : Fn Tryz.prog 30 [.ptr 0 0, .tt] [some (.blk [.int .i64 ar, .ptr 1 0, .int .i64 s.e, .int .i64 s.a]), some (.blk [.sl 2 ws.length cw, .int .i64 ((s.p : Nat) : Int)]), some (.lst 4 ws.length (fun zz => tkc (ws.getD zz tok0)))] (Rt (.tup []) [some (.blk [.int .i64 ar, .ptr 1 0, .int .i64 ((Old.oddR ws true s).e), .int .i64 ((Old.oddR ws true s).a)]), some (.blk [.sl 2 ws.length cw, .int .i64 (((Old.oddR ws true s).p : Nat) : Int)]), some (.lst 4 ws.length (fun zz => tkc (ws.getD zz tok0)))]) :=
 enterM (n := 39) (by kernel_rfl) Tryz.func30 rfl rfl rfl fun G w a h0 A => N hX 6 A rfl rfl fun A => CALL1 [1, 2] (rpeek_ ws cw s.p hk hn) A rfl rfl rfl rfl rfl rfl rfl fun A => N hX 16 A rfl rfl fun A => fork 18 A rfl
  (fun h1 A => N hX 7 A rfl rfl fun A => CALL1 [1, 2] (rwhere_ ws cw s.p hk hn hw) A rfl rfl rfl rfl rfl rfl rfl fun A => CALL1 [0, 1, 2] (rfail_ ar ws cw s 24 (atW ws s.p) hk hn hw) A rfl rfl rfl rfl rfl rfl rfl fun A => N hX 2 A rfl rfl fun A => ENDN (RETN hX A rfl rfl rfl h0 rfl rfl rfl rfl rfl (by rw [odd_e hw (nd_t h1)] <;> rfl)))
  (fun h1 A => N hX 12 A rfl rfl fun A => forkE 28 A rfl
   (fun h2 A => N hX 5 A rfl rfl fun A => CALL1 [0, 1, 2] (rfail_ ar ws cw s 21 ((ws.getD s.p tok0).at_) hk hn hw) A rfl rfl rfl rfl rfl rfl rfl fun A => N hX 2 A rfl rfl fun A => ENDN (RETN hX A rfl rfl rfl h0 rfl rfl rfl rfl rfl (by rw [odd_w (nd_f h1) h2] <;> rfl)))
   (fun h2 A => N hX 5 A rfl rfl fun A => CALL1 [0, 1, 2] (rfail_ ar ws cw s 22 ((ws.getD s.p tok0).at_) hk hn hw) A rfl rfl rfl rfl rfl rfl rfl fun A => N hX 2 A rfl rfl fun A => ENDN (RETN hX A rfl rfl rfl h0 rfl rfl rfl rfl rfl (by rw [odd_f (nd_f h1) h2] <;> rfl))))
theorem roddF_ (ar : Int) (ws : List Tk) (cw : Nat) (s : Old.Rs) (hk : s.p ≤ ws.length) (hn : ws.length ≤ 1000000) (hw : WsOK ws) : Fn Tryz.prog 30 [.ptr 0 0, .ff] [some (.blk [.int .i64 ar, .ptr 1 0, .int .i64 s.e, .int .i64 s.a]), some (.blk [.sl 2 ws.length cw, .int .i64 ((s.p : Nat) : Int)]), some (.lst 4 ws.length (fun zz => tkc (ws.getD zz tok0)))] (Rt (.tup []) [some (.blk [.int .i64 ar, .ptr 1 0, .int .i64 ((Old.oddR ws false s).e), .int .i64 ((Old.oddR ws false s).a)]), some (.blk [.sl 2 ws.length cw, .int .i64 (((Old.oddR ws false s).p : Nat) : Int)]), some (.lst 4 ws.length (fun zz => tkc (ws.getD zz tok0)))]) :=
 enterM (n := 39) (by kernel_rfl) Tryz.func30 rfl rfl rfl fun G w a h0 A => N hX 6 A rfl rfl fun A => CALL1 [1, 2] (rpeek_ ws cw s.p hk hn) A rfl rfl rfl rfl rfl rfl rfl fun A => N hX 16 A rfl rfl fun A => fork 18 A rfl
  (fun h1 A => N hX 7 A rfl rfl fun A => CALL1 [1, 2] (rwhere_ ws cw s.p hk hn hw) A rfl rfl rfl rfl rfl rfl rfl fun A => CALL1 [0, 1, 2] (rfail_ ar ws cw s 24 (atW ws s.p) hk hn hw) A rfl rfl rfl rfl rfl rfl rfl fun A => N hX 2 A rfl rfl fun A => ENDN (RETN hX A rfl rfl rfl h0 rfl rfl rfl rfl rfl (by rw [odd_e hw (nd_t h1)] <;> rfl)))
  (fun h1 A => N hX 17 A rfl rfl fun A => CALL1 [0, 1, 2] (rfail_ ar ws cw s 22 ((ws.getD s.p tok0).at_) hk hn hw) A rfl rfl rfl rfl rfl rfl rfl fun A => N hX 2 A rfl rfl fun A => ENDN (RETN hX A rfl rfl rfl h0 rfl rfl rfl rfl rfl (by rw [odd_g (nd_f h1)] <;> rfl)))
theorem rmk_ (ar : Int) (ws : List Tk) (cw : Nat) (s : Old.Rs) (m : List UInt8) (hk : s.p ≤ ws.length) (hn : ws.length ≤ 1000000) (hw : WsOK ws) : Fn Tryz.prog 67 [.ptr 0 0, .str m] [some (.blk [.int .i64 ar, .ptr 1 0, .int .i64 s.e, .int .i64 s.a]), some (.blk [.sl 2 ws.length cw, .int .i64 ((s.p : Nat) : Int)]), some (.lst 4 ws.length (fun zz => tkc (ws.getD zz tok0)))] (Rt (.tup []) [some (.blk [.int .i64 ar, .ptr 1 0, .int .i64 ((Old.markR ws m s).e), .int .i64 ((Old.markR ws m s).a)]), some (.blk [.sl 2 ws.length cw, .int .i64 (((Old.markR ws m s).p : Nat) : Int)]), some (.lst 4 ws.length (fun zz => tkc (ws.getD zz tok0)))]) :=
 enterM (n := 20) (by kernel_rfl) Tryz.func67 rfl rfl rfl fun G w a h0 A => N hX 8 A rfl rfl fun A => forkE 9 A rfl
  (fun h1 A => N hX 5 A rfl rfl fun A => CALL1 [1, 2] (rmark_ ws cw s.p m hk hn) A rfl rfl rfl rfl rfl rfl rfl fun A => N hX 4 A rfl rfl fun A => fork 17 A rfl
   (fun h2 A => N hX 3 A rfl rfl fun A => CALL1 [0, 1, 2] (roddF_ ar ws cw (⟨s.e, s.a, tkK ws s.p m⟩ : Old.Rs) (tkK_le hk) hn hw) A rfl rfl rfl rfl rfl rfl rfl fun A => N hX 1 A rfl rfl fun A => ENDN (RETN hX A rfl rfl rfl h0 rfl rfl rfl rfl rfl (by rw [mark_n h1 (by simpa using h2)] <;> rfl)))
   (fun h2 A => N hX 2 A rfl rfl fun A => ENDN (RETN hX A rfl rfl rfl h0 rfl rfl rfl rfl rfl (by rw [mark_y h1 (by simpa using h2)] <;> rfl))))
  (fun h1 A => N hX 12 A rfl rfl fun A => ENDN (RETN hX A rfl rfl rfl h0 rfl rfl rfl rfl rfl (by rw [mark_s h1] <;> rfl)))
theorem ris_ (ar : Int) (ws : List Tk) (cw : Nat) (s : Old.Rs) (m : List UInt8) (hk : s.p ≤ ws.length) (hn : ws.length ≤ 1000000) (hw : WsOK ws) : Fn Tryz.prog 70 [.ptr 0 0, .str m] [some (.blk [.int .i64 ar, .ptr 1 0, .int .i64 s.e, .int .i64 s.a]), some (.blk [.sl 2 ws.length cw, .int .i64 ((s.p : Nat) : Int)]), some (.lst 4 ws.length (fun zz => tkc (ws.getD zz tok0)))] (Rt (.bool (isR ws s m)) [some (.blk [.int .i64 ar, .ptr 1 0, .int .i64 s.e, .int .i64 s.a]), some (.blk [.sl 2 ws.length cw, .int .i64 ((s.p : Nat) : Int)]), some (.lst 4 ws.length (fun zz => tkc (ws.getD zz tok0)))]) :=
 enterM (n := 34) (by kernel_rfl) Tryz.func70 rfl rfl rfl fun G w a h0 A => N hX 11 A rfl rfl fun A => CALL1 [1, 2] (rpeek_ ws cw s.p hk hn) A rfl rfl rfl rfl rfl rfl rfl fun A => N hX 33 A rfl rfl fun A => RETN hX A rfl rfl rfl h0 rfl rfl rfl rfl (by rw [← is_is] <;> rfl) rfl
theorem rreg_ (ar : Int) (ws : List Tk) (cw : Nat) (s : Old.Rs) (hk : s.p ≤ ws.length) (hn : ws.length ≤ 1000000) (hw : WsOK ws) (rf : List UInt8 → Int) (hrf : ∀ q : List UInt8, Fn Tryz.prog 18 [.int .i64 ar, .str q] [] (Rt (.int .i64 (rf q)) [])) : Fn Tryz.prog 66 [.ptr 0 0] [some (.blk [.int .i64 ar, .ptr 1 0, .int .i64 s.e, .int .i64 s.a]), some (.blk [.sl 2 ws.length cw, .int .i64 ((s.p : Nat) : Int)]), some (.lst 4 ws.length (fun zz => tkc (ws.getD zz tok0)))] (Rt (.int .i64 ((regG rf ws s).2)) [some (.blk [.int .i64 ar, .ptr 1 0, .int .i64 (((regG rf ws s).1).e), .int .i64 (((regG rf ws s).1).a)]), some (.blk [.sl 2 ws.length cw, .int .i64 ((((regG rf ws s).1).p : Nat) : Int)]), some (.lst 4 ws.length (fun zz => tkc (ws.getD zz tok0)))]) :=
 enterM (n := 49) (by kernel_rfl) Tryz.func66 rfl rfl rfl fun G w a h0 A => N hX 11 A rfl rfl fun A => CALL1 [1, 2] (rpeek_ ws cw s.p hk hn) A rfl rfl rfl rfl rfl rfl rfl fun A => N hX 18 A rfl rfl fun A => forkN 17 A rfl
  (fun h1 A => N hX 7 A rfl rfl fun A => RETN hX A rfl rfl rfl h0 rfl rfl rfl rfl (by rw [reg_s h1] <;> rfl) (by rw [reg_s h1] <;> rfl))
  (fun h1 A => N hX 5 A rfl rfl fun A => DRAWN hX hmo [(14, .opt (!((!(decide (s.p < ws.length))) || (!(((ws.getD s.p tok0).kind) == 1)))) (.int .i64 (rf ((ws.getD s.p tok0).text))))] [] A rfl rfl rfl rfl (by kernel_rfl) (effAll_nil _ _) ⟨.inr ⟨_, _, _, _, _, _, rfl, rfl, rfl, rfl, rfl, fun hg => hrf ((ws.getD s.p tok0).text)⟩, trivial⟩ fun A => N hX 1 A rfl rfl fun A => fork 34 A rfl
   (fun h2 A => N hX 4 A rfl rfl fun A => CALL1 [0, 1, 2] (roddT_ ar ws cw s hk hn hw) A rfl rfl rfl rfl rfl rfl rfl fun A => N hX 8 A rfl rfl fun A => RETN hX A rfl rfl rfl h0 rfl rfl rfl rfl (by rw [reg_n h1 h2] <;> rfl) (by rw [reg_n h1 h2] <;> rfl))
   (fun h2 A => N hX 9 A rfl rfl fun A => CALL1 [1, 2] (rnext_ ws cw s.p hk hn) A rfl rfl rfl rfl rfl rfl rfl fun A => N hX 3 A rfl rfl fun A => DRAWN hX hmo [(6, .int .i64 (rf ((ws.getD s.p tok0).text)))] [] A rfl rfl rfl rfl (by kernel_rfl) (effAll_nil _ _) ⟨.inl ⟨_, _, rfl, rfl, hrf ((ws.getD s.p tok0).text)⟩, trivial⟩ fun A => N hX 2 A rfl rfl fun A => RETN hX A rfl rfl rfl h0 rfl rfl rfl rfl (by rw [reg_y h1 h2] <;> rfl) (by rw [reg_y h1 h2] <;> rfl)))
theorem rnum_ (ar : Int) (ws : List Tk) (cw : Nat) (s : Old.Rs) (hk : s.p ≤ ws.length) (hn : ws.length ≤ 1000000) (hw : WsOK ws) : Fn Tryz.prog 114 [.ptr 0 0] [some (.blk [.int .i64 ar, .ptr 1 0, .int .i64 s.e, .int .i64 s.a]), some (.blk [.sl 2 ws.length cw, .int .i64 ((s.p : Nat) : Int)]), some (.lst 4 ws.length (fun zz => tkc (ws.getD zz tok0)))] (Rt (.int .i64 ((Old.numS ws s).2)) [some (.blk [.int .i64 ar, .ptr 1 0, .int .i64 (((Old.numS ws s).1).e), .int .i64 (((Old.numS ws s).1).a)]), some (.blk [.sl 2 ws.length cw, .int .i64 ((((Old.numS ws s).1).p : Nat) : Int)]), some (.lst 4 ws.length (fun zz => tkc (ws.getD zz tok0)))]) :=
 enterM (n := 44) (by kernel_rfl) Tryz.func114 rfl rfl rfl fun G w a h0 A => N hX 15 A rfl rfl fun A => forkN 10 A rfl
  (fun h1 A => N hX 7 A rfl rfl fun A => RETN hX A rfl rfl rfl h0 rfl rfl rfl rfl (by rw [num_s h1] <;> rfl) (by rw [num_s h1] <;> rfl))
  (fun h1 A => N hX 9 A rfl rfl fun A => CALL1 [1, 2] (rmark_ ws cw s.p [45] hk hn) A rfl rfl rfl rfl rfl rfl rfl fun A => N hX 9 A rfl rfl fun A => CALL1 [1, 2] (rpeek_ ws cw (tkK ws s.p [45]) (tkK_le hk) hn) A rfl rfl rfl rfl rfl rfl rfl fun A => N hX 20 A rfl rfl fun A => fork 30 A rfl
   (fun h2 A => N hX 4 A rfl rfl fun A => CALL1 [0, 1, 2] (roddF_ ar ws cw (⟨s.e, s.a, tkK ws s.p [45]⟩ : Old.Rs) (tkK_le hk) hn hw) A rfl rfl rfl rfl rfl rfl rfl fun A => N hX 8 A rfl rfl fun A => RETN hX A rfl rfl rfl h0 rfl rfl rfl rfl (by rw [numM h1, numE_n h2] <;> rfl) (by rw [numM h1, numE_n h2] <;> rfl))
   (fun h2 A => N hX 9 A rfl rfl fun A => CALL1 [1, 2] (rnext_ ws cw (tkK ws s.p [45]) (tkK_le hk) hn) A rfl rfl rfl rfl rfl rfl rfl fun A => N hX 8 A rfl rfl fun A => fork 38 A rfl
    (fun h3 A => N hX 10 A rfl rfl fun A => RETN hX A rfl rfl rfl h0 rfl rfl rfl rfl (by rw [numM h1, numE_y h2]; simp only [h3, if_true, if_false, Bool.false_eq_true] <;> rfl) (by rw [numM h1, numE_y h2] <;> rfl))
    (fun h3 A => N hX 11 A rfl rfl fun A => RETN hX A rfl rfl rfl h0 rfl rfl rfl rfl (by rw [numM h1, numE_y h2]; simp only [h3, if_true, if_false, Bool.false_eq_true] <;> rfl) (by rw [numM h1, numE_y h2] <;> rfl))))
theorem rlab_ (ar : Int) (ws : List Tk) (cw : Nat) (s : Old.Rs) (hk : s.p ≤ ws.length) (hn : ws.length ≤ 1000000) (hw : WsOK ws) : Fn Tryz.prog 116 [.ptr 0 0] [some (.blk [.int .i64 ar, .ptr 1 0, .int .i64 s.e, .int .i64 s.a]), some (.blk [.sl 2 ws.length cw, .int .i64 ((s.p : Nat) : Int)]), some (.lst 4 ws.length (fun zz => tkc (ws.getD zz tok0)))] (Rt (.str ((Old.labR ws s).2)) [some (.blk [.int .i64 ar, .ptr 1 0, .int .i64 (((Old.labR ws s).1).e), .int .i64 (((Old.labR ws s).1).a)]), some (.blk [.sl 2 ws.length cw, .int .i64 ((((Old.labR ws s).1).p : Nat) : Int)]), some (.lst 4 ws.length (fun zz => tkc (ws.getD zz tok0)))]) :=
 enterM (n := 34) (by kernel_rfl) Tryz.func116 rfl rfl rfl fun G w a h0 A => N hX 11 A rfl rfl fun A => CALL1 [1, 2] (rpeek_ ws cw s.p hk hn) A rfl rfl rfl rfl rfl rfl rfl fun A => N hX 18 A rfl rfl fun A => forkN 17 A rfl
  (fun h1 A => N hX 7 A rfl rfl fun A => RETN hX A rfl rfl rfl h0 rfl rfl rfl rfl (by rw [lab_s h1] <;> rfl) (by rw [lab_s h1] <;> rfl))
  (fun h1 A => N hX 15 A rfl rfl fun A => fork 24 A rfl
   (fun h2 A => N hX 4 A rfl rfl fun A => CALL1 [0, 1, 2] (roddF_ ar ws cw s hk hn hw) A rfl rfl rfl rfl rfl rfl rfl fun A => N hX 8 A rfl rfl fun A => RETN hX A rfl rfl rfl h0 rfl rfl rfl rfl (by rw [lab_n h1 h2] <;> rfl) (by rw [lab_n h1 h2] <;> rfl))
   (fun h2 A => N hX 9 A rfl rfl fun A => CALL1 [1, 2] (rnext_ ws cw s.p hk hn) A rfl rfl rfl rfl rfl rfl rfl fun A => N hX 10 A rfl rfl fun A => RETN hX A rfl rfl rfl h0 rfl rfl rfl rfl (by rw [lab_y h1 h2] <;> rfl) (by rw [lab_y h1 h2] <;> rfl)))
abbrev oiQ9 (i : Old.Ins) : List SV := [.int .i64 i.op, .int .i64 i.dst, .int .i64 i.a, .int .i64 i.b, .int .i64 i.imm, .int .i64 i.loc, .int .i64 i.off, .int .i64 i.index, .int .i64 i.size, .int .i64 i.fn, .bool i.acq, .bool i.weak, .bool i.rel, .int .i64 i.pred, .int .i64 i.succ, .int .i64 i.to, .bool i.zero]
def idxG (rf : List UInt8 → Int) (L : List Tk) (s : Old.Rs) (i : Old.Ins) : Old.Rs × Old.Ins := ((regG rf L s).1, { i with index := (regG rf L s).2 })
def offG (rf : List UInt8 → Int) (L : List Tk) (s : Old.Rs) (i : Old.Ins) : Old.Rs × Old.Ins := if Old.plusR L s then idxG rf L ⟨s.e, s.a, s.p + 1⟩ i else (s, i)
def memEG (rf : List UInt8 → Int) (L : List Tk) (s : Old.Rs) (i : Old.Ins) : Old.Rs × Old.Ins := if Old.plusR L s then (match L[s.p + 1]? with
    | some y => if y.kind == 2 then offG rf L ⟨s.e, s.a, s.p + 1 + 1⟩ { i with off := y.n } else idxG rf L ⟨s.e, s.a, s.p + 1⟩ i
    | none => idxG rf L ⟨s.e, s.a, s.p + 1⟩ i) else (s, i)
def memIG (rf : List UInt8 → Int) (L : List Tk) (s : Old.Rs) (i : Old.Ins) : Old.Rs × Old.Ins := if s.e == 0 then (match L[s.p]? with
    | some y => if (y.kind == 1) && !decide (Old.locF y.text < 0) then Old.closeR L (memEG rf L ⟨s.e, s.a, s.p + 1⟩ { i with loc := Old.locF y.text }) else (Old.oddR L true s, i)
    | none => (Old.oddR L true s, i)) else (s, i)
def memG (rf : List UInt8 → Int) (L : List Tk) (s : Old.Rs) (i : Old.Ins) : Old.Rs × Old.Ins := memIG rf L (Old.markR L [91] s) i
def branG (rf : List UInt8 → Int) (L : List Tk) (s : Old.Rs) (i : Old.Ins) (z : Bool) : List UInt8 × Old.Rs × Old.Ins := ((Old.labR L (Old.markR L [44] (regG rf L s).1)).2, (Old.labR L (Old.markR L [44] (regG rf L s).1)).1, (Old.Ins.mk 9 i.dst ((regG rf L s).2) i.b i.imm i.loc i.off i.index i.size i.fn i.acq i.weak i.rel i.pred i.succ i.to z))
section
variable {ws : List Tk} {k : Nat} {m : List UInt8} {s : Old.Rs} {i : Old.Ins} {rf : List UInt8 → Int}
theorem isR_lt (h : isR ws s m = true) : s.e = 0 ∧ s.p < ws.length := by
  unfold isR at h; rw [Bool.and_eq_true, reads_tk] at h; exact ⟨eq_of_beq h.1, tk_lt h.2⟩
theorem gmem_s (h : s.e ≠ 0) : memIG rf ws s i = (s, i) := by unfold memIG; rw [if_neg (fun e => h (eq_of_beq e))]
theorem gmem_o (h : s.e = 0) (hb : (((!(decide (s.p < ws.length))) || (!((ws.getD s.p tok0).kind == 1))) || (decide (Old.locF (ws.getD s.p tok0).text < 0))) = true) : memIG rf ws s i = (Old.oddR ws true s, i) := by
  unfold memIG; rw [if_pos (beq_iff_eq.2 h)]
  by_cases hl : s.p < ws.length
  · rw [tk_get hl]
    rw [decide_eq_true hl] at hb
    simp only
    rw [if_neg]
    revert hb
    cases ((ws.getD s.p tok0).kind == 1) <;> cases decide (Old.locF (ws.getD s.p tok0).text < 0) <;> decide
  · rw [tk_non hl]
theorem gmem_o1 (h : s.e = 0) (hb : (!(decide (s.p < ws.length))) = true) : memIG rf ws s i = (Old.oddR ws true s, i) := gmem_o h (by rw [hb]; rfl)
theorem gmem_o2 (h : s.e = 0) (hb : (ws.getD s.p tok0).kind ≠ 1) : memIG rf ws s i = (Old.oddR ws true s, i) := gmem_o h (by rw [beq_eq_false_iff_ne.2 hb, Bool.not_false, Bool.or_true, Bool.true_or])
theorem gmem_o3 (h : s.e = 0) (hb : Old.locF (ws.getD s.p tok0).text < 0) : memIG rf ws s i = (Old.oddR ws true s, i) := gmem_o h (by rw [decide_eq_true hb, Bool.or_true])
theorem gmem_y (h : s.e = 0) (h1 : (!(decide (s.p < ws.length))) = false) (h2 : (ws.getD s.p tok0).kind = 1) (h3 : ¬ Old.locF (ws.getD s.p tok0).text < 0) : memIG rf ws s i = Old.closeR ws (memEG rf ws ⟨s.e, s.a, nxK ws s.p⟩ { i with loc := Old.locF (ws.getD s.p tok0).text }) := by
  have hl := nd_f h1
  unfold memIG; rw [if_pos (beq_iff_eq.2 h), tk_get hl, nxK_y hl]
  simp only
  rw [if_pos]
  rw [h2, decide_eq_false h3]; rfl
theorem meE_n (h : isR ws s [43] = false) : memEG rf ws s i = (s, i) := by unfold memEG Old.plusR; unfold isR at h; rw [if_neg (by rw [h]; decide)]
theorem meE_num (h : isR ws s [43] = true) (hb : (decide (nxK ws s.p < ws.length) && ((ws.getD (nxK ws s.p) tok0).kind == 2)) = true) : memEG rf ws s i = offG rf ws ⟨s.e, s.a, nxK ws (nxK ws s.p)⟩ { i with off := (ws.getD (nxK ws s.p) tok0).n } := by
  have hl := (isR_lt h).2
  rw [nxK_y hl] at hb ⊢
  rw [Bool.and_eq_true] at hb
  have hl2 := of_decide_eq_true hb.1
  unfold memEG Old.plusR; unfold isR at h
  rw [if_pos h, tk_get hl2, nxK_y hl2]
  simp only
  rw [if_pos hb.2]
theorem meE_reg (h : isR ws s [43] = true) (hb : (decide (nxK ws s.p < ws.length) && ((ws.getD (nxK ws s.p) tok0).kind == 2)) = false) : memEG rf ws s i = idxG rf ws ⟨s.e, s.a, nxK ws s.p⟩ i := by
  have hl := (isR_lt h).2
  rw [nxK_y hl] at hb ⊢
  unfold memEG Old.plusR; unfold isR at h
  rw [if_pos h]
  by_cases hl2 : s.p + 1 < ws.length
  · rw [decide_eq_true hl2, Bool.true_and] at hb
    rw [tk_get hl2]
    simp only
    rw [if_neg (by rw [hb]; decide)]
  · rw [tk_non hl2]
theorem off_n (h : isR ws s [43] = false) : offG rf ws s i = (s, i) := by unfold offG Old.plusR; unfold isR at h; rw [if_neg (by rw [h]; decide)]
theorem off_y (h : isR ws s [43] = true) : offG rf ws s i = idxG rf ws ⟨s.e, s.a, nxK ws s.p⟩ i := by
  rw [nxK_y (isR_lt h).2]; unfold offG Old.plusR; unfold isR at h; rw [if_pos h]
theorem idxG_le (h : s.p ≤ ws.length) : (idxG rf ws s i).1.p ≤ ws.length := regG_le h
theorem offG_le (h : s.p ≤ ws.length) : (offG rf ws s i).1.p ≤ ws.length := by
  cases hb : isR ws s [43] with
  | false => rw [off_n hb]; exact h
  | true => rw [off_y hb]; exact idxG_le (nxK_le h)
theorem meE_le (h : s.p ≤ ws.length) : (memEG rf ws s i).1.p ≤ ws.length := by
  cases hb : isR ws s [43] with
  | false => rw [meE_n hb]; exact h
  | true =>
    cases hc : (decide (nxK ws s.p < ws.length) && ((ws.getD (nxK ws s.p) tok0).kind == 2)) with
    | true => rw [meE_num hb hc]; exact offG_le (nxK_le (nxK_le h))
    | false => rw [meE_reg hb hc]; exact idxG_le (nxK_le h)
theorem memI_le (h : s.p ≤ ws.length) : (memIG rf ws s i).1.p ≤ ws.length := by
  by_cases he : s.e = 0
  · cases hb : (((!(decide (s.p < ws.length))) || (!((ws.getD s.p tok0).kind == 1))) || (decide (Old.locF (ws.getD s.p tok0).text < 0))) with
    | true => rw [gmem_o he hb]; exact odd_le h
    | false =>
      rw [Bool.or_eq_false_iff, Bool.or_eq_false_iff] at hb
      rw [gmem_y he hb.1.1 (by simpa using hb.1.2) (by simpa using hb.2)]
      exact mark_le (meE_le (nxK_le h))
  · rw [gmem_s he]; exact h
theorem memG_le (h : s.p ≤ ws.length) : (memG rf ws s i).1.p ≤ ws.length := memI_le (mark_le h)
theorem branG_le {z : Bool} (h : s.p ≤ ws.length) : (branG rf ws s i z).2.1.p ≤ ws.length := lab_le (mark_le (regG_le h))
end
theorem locN3 {q : List UInt8} (h1 : q ≠ [120]) (h2 : q ≠ [121]) (h3 : q ≠ [122]) : Old.locF q = -1 := by
  unfold Old.locF Old.locsX Old.idxL Old.idxL Old.idxL Old.idxL
  rw [Old.eqL_no (fun e => h1 e.symm), Old.eqL_no (fun e => h2 e.symm), Old.eqL_no (fun e => h3 e.symm)]; rfl
theorem rloc_ (q : List UInt8)  : Fn Tryz.prog 115 [.str q] [] (Rt (.int .i64 (Old.locF q)) []) :=
 enterM (n := 10) (by kernel_rfl) Tryz.func115 rfl rfl rfl fun G w a h0 A => N hX 18 A rfl rfl fun A => forkE 4 A rfl
  (fun h1 A => N hX 7 A rfl rfl fun A => RETN hX A rfl rfl rfl h0 rfl rfl rfl rfl (by rw [h1]; rfl) rfl)
  (fun h1 A => N hX 7 A rfl rfl fun A => forkE 6 A rfl
   (fun h2 A => N hX 7 A rfl rfl fun A => RETN hX A rfl rfl rfl h0 rfl rfl rfl rfl (by rw [h2]; rfl) rfl)
   (fun h2 A => N hX 7 A rfl rfl fun A => forkE 8 A rfl
    (fun h3 A => N hX 7 A rfl rfl fun A => RETN hX A rfl rfl rfl h0 rfl rfl rfl rfl (by rw [h3]; rfl) rfl)
    (fun h3 A => N hX 10 A rfl rfl fun A => RETN hX A rfl rfl rfl h0 rfl rfl rfl rfl (by rw [locN3 h1 h2 h3]; rfl) rfl)))
theorem rmem_ (ar : Int) (ws : List Tk) (cw : Nat) (s : Old.Rs) (i : Old.Ins) (hk : s.p ≤ ws.length) (hn : ws.length ≤ 1000000) (hw : WsOK ws) (rf : List UInt8 → Int) (hrf : ∀ q : List UInt8, Fn Tryz.prog 18 [.int .i64 ar, .str q] [] (Rt (.int .i64 (rf q)) [])) : Fn Tryz.prog 71 [.ptr 0 0, .ptr 3 0] [some (.blk [.int .i64 ar, .ptr 1 0, .int .i64 s.e, .int .i64 s.a]), some (.blk [.sl 2 ws.length cw, .int .i64 ((s.p : Nat) : Int)]), some (.lst 4 ws.length (fun zz => tkc (ws.getD zz tok0))), some (.blk (oiQ9 i))] (Rt (.tup []) [some (.blk [.int .i64 ar, .ptr 1 0, .int .i64 (((memG rf ws s i).1).e), .int .i64 (((memG rf ws s i).1).a)]), some (.blk [.sl 2 ws.length cw, .int .i64 ((((memG rf ws s i).1).p : Nat) : Int)]), some (.lst 4 ws.length (fun zz => tkc (ws.getD zz tok0))), some (.blk (oiQ9 ((memG rf ws s i).2)))]) :=
 enterM (n := 104) (by kernel_rfl) Tryz.func71 rfl rfl rfl fun G w a h0 A => N hX 3 A rfl rfl fun A => CALL1 [0, 1, 2] (rmk_ ar ws cw s [91] hk hn hw) A rfl rfl rfl rfl rfl rfl rfl fun A => N hX 8 A rfl rfl fun A => CALL1 [1, 2] (rpeek_ ws cw ((Old.markR ws [91] s).p) (mark_le hk) hn) A rfl rfl rfl rfl rfl rfl rfl fun A => N hX 17 A rfl rfl fun A => forkE 21 A rfl
  (fun h1 A => N hX 3 A rfl rfl fun A => fork 24 A rfl
   (fun h2 A => N hX 16 A rfl rfl fun A => CALL1 [0, 1, 2] (roddT_ ar ws cw (Old.markR ws [91] s) (mark_le hk) hn hw) A rfl rfl rfl rfl rfl rfl rfl fun A => N hX 10 A rfl rfl fun A => have A := sy_sayD A 42 (.tt) rfl (fun _ => congrArg (fun b => some (Value.bool b)) (show (!(((Old.oddR ws true (Old.markR ws [91] s)).e) == 0)) = true by rw [beq_eq_false_iff_ne.2 (odd_ne h1)]; rfl)); N hX 4 A rfl rfl fun A => RETN hX A rfl rfl rfl h0 rfl rfl rfl rfl rfl (by unfold memG; rw [gmem_o1 h1 h2] <;> rfl))
   (fun h2 A => N hX 5 A rfl rfl fun A => forkN 29 A rfl
    (fun h3 A => N hX 11 A rfl rfl fun A => CALL1 [0, 1, 2] (roddT_ ar ws cw (Old.markR ws [91] s) (mark_le hk) hn hw) A rfl rfl rfl rfl rfl rfl rfl fun A => N hX 10 A rfl rfl fun A => have A := sy_sayD A 42 (.tt) rfl (fun _ => congrArg (fun b => some (Value.bool b)) (show (!(((Old.oddR ws true (Old.markR ws [91] s)).e) == 0)) = true by rw [beq_eq_false_iff_ne.2 (odd_ne h1)]; rfl)); N hX 4 A rfl rfl fun A => RETN hX A rfl rfl rfl h0 rfl rfl rfl rfl rfl (by unfold memG; rw [gmem_o2 h1 h3] <;> rfl))
    (fun h3 A => N hX 2 A rfl rfl fun A => CALL1 [] (rloc_ ((ws.getD ((Old.markR ws [91] s).p) tok0).text)) A rfl rfl rfl rfl rfl rfl rfl fun A => N hX 5 A rfl rfl fun A => forkD 35 A rfl
     (fun h4 A => N hX 3 A rfl rfl fun A => CALL1 [0, 1, 2] (roddT_ ar ws cw (Old.markR ws [91] s) (mark_le hk) hn hw) A rfl rfl rfl rfl rfl rfl rfl fun A => N hX 10 A rfl rfl fun A => have A := sy_sayD A 42 (.tt) rfl (fun _ => congrArg (fun b => some (Value.bool b)) (show (!(((Old.oddR ws true (Old.markR ws [91] s)).e) == 0)) = true by rw [beq_eq_false_iff_ne.2 (odd_ne h1)]; rfl)); N hX 4 A rfl rfl fun A => RETN hX A rfl rfl rfl h0 rfl rfl rfl rfl rfl (by unfold memG; rw [gmem_o3 h1 h4] <;> rfl))
     (fun h4 A => N hX 11 A rfl rfl fun A => have A := sy_sayD A 42 (.ff) rfl (fun _ => congrArg (fun b => some (Value.bool b)) (show (!(((Old.markR ws [91] s).e) == 0)) = false by rw [beq_iff_eq.2 h1]; rfl)); N hX 11 A rfl rfl fun A => CALL1 [1, 2] (rnext_ ws cw ((Old.markR ws [91] s).p) (mark_le hk) hn) A rfl rfl rfl rfl rfl rfl rfl fun A => N hX 7 A rfl rfl fun A => CALL1 [] (rloc_ ((ws.getD ((Old.markR ws [91] s).p) tok0).text)) A rfl rfl rfl rfl rfl rfl rfl fun A => N hX 9 A rfl rfl fun A => CALL1 [0, 1, 2] (ris_ ar ws cw (⟨(Old.markR ws [91] s).e, (Old.markR ws [91] s).a, nxK ws ((Old.markR ws [91] s).p)⟩ : Old.Rs) [43] (nxK_le (mark_le hk)) hn hw) A rfl rfl rfl rfl rfl rfl rfl fun A => N hX 2 A rfl rfl fun A => fork 55 A rfl
      (fun h5 A => N hX 7 A rfl rfl fun A => CALL1 [1, 2] (rnext_ ws cw ((⟨(Old.markR ws [91] s).e, (Old.markR ws [91] s).a, nxK ws ((Old.markR ws [91] s).p)⟩ : Old.Rs).p) (nxK_le (mark_le hk)) hn) A rfl rfl rfl rfl rfl rfl rfl fun A => N hX 8 A rfl rfl fun A => CALL1 [1, 2] (rpeek_ ws cw (nxK ws ((⟨(Old.markR ws [91] s).e, (Old.markR ws [91] s).a, nxK ws ((Old.markR ws [91] s).p)⟩ : Old.Rs).p)) (nxK_le (nxK_le (mark_le hk))) hn) A rfl rfl rfl rfl rfl rfl rfl fun A => N hX 17 A rfl rfl fun A => fork 74 A rfl
       (fun h6 A => N hX 7 A rfl rfl fun A => CALL1 [1, 2] (rnext_ ws cw (nxK ws ((⟨(Old.markR ws [91] s).e, (Old.markR ws [91] s).a, nxK ws ((Old.markR ws [91] s).p)⟩ : Old.Rs).p)) (nxK_le (nxK_le (mark_le hk))) hn) A rfl rfl rfl rfl rfl rfl rfl fun A => N hX 15 A rfl rfl fun A => CALL1 [0, 1, 2] (ris_ ar ws cw (⟨(⟨(Old.markR ws [91] s).e, (Old.markR ws [91] s).a, nxK ws ((Old.markR ws [91] s).p)⟩ : Old.Rs).e, (⟨(Old.markR ws [91] s).e, (Old.markR ws [91] s).a, nxK ws ((Old.markR ws [91] s).p)⟩ : Old.Rs).a, nxK ws (nxK ws ((⟨(Old.markR ws [91] s).e, (Old.markR ws [91] s).a, nxK ws ((Old.markR ws [91] s).p)⟩ : Old.Rs).p))⟩ : Old.Rs) [43] (nxK_le (nxK_le (nxK_le (mark_le hk)))) hn hw) A rfl rfl rfl rfl rfl rfl rfl fun A => N hX 2 A rfl rfl fun A => fork 86 A rfl
        (fun h7 A => N hX 7 A rfl rfl fun A => CALL1 [1, 2] (rnext_ ws cw ((⟨(⟨(Old.markR ws [91] s).e, (Old.markR ws [91] s).a, nxK ws ((Old.markR ws [91] s).p)⟩ : Old.Rs).e, (⟨(Old.markR ws [91] s).e, (Old.markR ws [91] s).a, nxK ws ((Old.markR ws [91] s).p)⟩ : Old.Rs).a, nxK ws (nxK ws ((⟨(Old.markR ws [91] s).e, (Old.markR ws [91] s).a, nxK ws ((Old.markR ws [91] s).p)⟩ : Old.Rs).p))⟩ : Old.Rs).p) (nxK_le (nxK_le (nxK_le (mark_le hk)))) hn) A rfl rfl rfl rfl rfl rfl rfl fun A => N hX 5 A rfl rfl fun A => CALL1 [0, 1, 2] (rreg_ ar ws cw (⟨(⟨(⟨(Old.markR ws [91] s).e, (Old.markR ws [91] s).a, nxK ws ((Old.markR ws [91] s).p)⟩ : Old.Rs).e, (⟨(Old.markR ws [91] s).e, (Old.markR ws [91] s).a, nxK ws ((Old.markR ws [91] s).p)⟩ : Old.Rs).a, nxK ws (nxK ws ((⟨(Old.markR ws [91] s).e, (Old.markR ws [91] s).a, nxK ws ((Old.markR ws [91] s).p)⟩ : Old.Rs).p))⟩ : Old.Rs).e, (⟨(⟨(Old.markR ws [91] s).e, (Old.markR ws [91] s).a, nxK ws ((Old.markR ws [91] s).p)⟩ : Old.Rs).e, (⟨(Old.markR ws [91] s).e, (Old.markR ws [91] s).a, nxK ws ((Old.markR ws [91] s).p)⟩ : Old.Rs).a, nxK ws (nxK ws ((⟨(Old.markR ws [91] s).e, (Old.markR ws [91] s).a, nxK ws ((Old.markR ws [91] s).p)⟩ : Old.Rs).p))⟩ : Old.Rs).a, nxK ws ((⟨(⟨(Old.markR ws [91] s).e, (Old.markR ws [91] s).a, nxK ws ((Old.markR ws [91] s).p)⟩ : Old.Rs).e, (⟨(Old.markR ws [91] s).e, (Old.markR ws [91] s).a, nxK ws ((Old.markR ws [91] s).p)⟩ : Old.Rs).a, nxK ws (nxK ws ((⟨(Old.markR ws [91] s).e, (Old.markR ws [91] s).a, nxK ws ((Old.markR ws [91] s).p)⟩ : Old.Rs).p))⟩ : Old.Rs).p)⟩ : Old.Rs) (nxK_le (nxK_le (nxK_le (nxK_le (mark_le hk))))) hn hw rf hrf) A rfl rfl rfl rfl rfl rfl rfl fun A => N hX 7 A rfl rfl fun A => CALL1 [0, 1, 2] (rmk_ ar ws cw ((regG rf ws (⟨(⟨(⟨(Old.markR ws [91] s).e, (Old.markR ws [91] s).a, nxK ws ((Old.markR ws [91] s).p)⟩ : Old.Rs).e, (⟨(Old.markR ws [91] s).e, (Old.markR ws [91] s).a, nxK ws ((Old.markR ws [91] s).p)⟩ : Old.Rs).a, nxK ws (nxK ws ((⟨(Old.markR ws [91] s).e, (Old.markR ws [91] s).a, nxK ws ((Old.markR ws [91] s).p)⟩ : Old.Rs).p))⟩ : Old.Rs).e, (⟨(⟨(Old.markR ws [91] s).e, (Old.markR ws [91] s).a, nxK ws ((Old.markR ws [91] s).p)⟩ : Old.Rs).e, (⟨(Old.markR ws [91] s).e, (Old.markR ws [91] s).a, nxK ws ((Old.markR ws [91] s).p)⟩ : Old.Rs).a, nxK ws (nxK ws ((⟨(Old.markR ws [91] s).e, (Old.markR ws [91] s).a, nxK ws ((Old.markR ws [91] s).p)⟩ : Old.Rs).p))⟩ : Old.Rs).a, nxK ws ((⟨(⟨(Old.markR ws [91] s).e, (Old.markR ws [91] s).a, nxK ws ((Old.markR ws [91] s).p)⟩ : Old.Rs).e, (⟨(Old.markR ws [91] s).e, (Old.markR ws [91] s).a, nxK ws ((Old.markR ws [91] s).p)⟩ : Old.Rs).a, nxK ws (nxK ws ((⟨(Old.markR ws [91] s).e, (Old.markR ws [91] s).a, nxK ws ((Old.markR ws [91] s).p)⟩ : Old.Rs).p))⟩ : Old.Rs).p)⟩ : Old.Rs)).1) [93] (regG_le (nxK_le (nxK_le (nxK_le (nxK_le (mark_le hk)))))) hn hw) A rfl rfl rfl rfl rfl rfl rfl fun A => N hX 1 A rfl rfl fun A => ENDN (RETN hX A rfl rfl rfl h0 rfl rfl rfl rfl rfl (by unfold memG; rw [gmem_y h1 h2 h3 h4, meE_num h5 h6, off_y h7] <;> rfl)))
        (fun h7 A => N hX 5 A rfl rfl fun A => CALL1 [0, 1, 2] (rmk_ ar ws cw (⟨(⟨(Old.markR ws [91] s).e, (Old.markR ws [91] s).a, nxK ws ((Old.markR ws [91] s).p)⟩ : Old.Rs).e, (⟨(Old.markR ws [91] s).e, (Old.markR ws [91] s).a, nxK ws ((Old.markR ws [91] s).p)⟩ : Old.Rs).a, nxK ws (nxK ws ((⟨(Old.markR ws [91] s).e, (Old.markR ws [91] s).a, nxK ws ((Old.markR ws [91] s).p)⟩ : Old.Rs).p))⟩ : Old.Rs) [93] (nxK_le (nxK_le (nxK_le (mark_le hk)))) hn hw) A rfl rfl rfl rfl rfl rfl rfl fun A => N hX 1 A rfl rfl fun A => ENDN (RETN hX A rfl rfl rfl h0 rfl rfl rfl rfl rfl (by unfold memG; rw [gmem_y h1 h2 h3 h4, meE_num h5 h6, off_n h7] <;> rfl))))
       (fun h6 A => N hX 4 A rfl rfl fun A => CALL1 [0, 1, 2] (rreg_ ar ws cw (⟨(⟨(Old.markR ws [91] s).e, (Old.markR ws [91] s).a, nxK ws ((Old.markR ws [91] s).p)⟩ : Old.Rs).e, (⟨(Old.markR ws [91] s).e, (Old.markR ws [91] s).a, nxK ws ((Old.markR ws [91] s).p)⟩ : Old.Rs).a, nxK ws ((⟨(Old.markR ws [91] s).e, (Old.markR ws [91] s).a, nxK ws ((Old.markR ws [91] s).p)⟩ : Old.Rs).p)⟩ : Old.Rs) (nxK_le (nxK_le (mark_le hk))) hn hw rf hrf) A rfl rfl rfl rfl rfl rfl rfl fun A => N hX 7 A rfl rfl fun A => CALL1 [0, 1, 2] (rmk_ ar ws cw ((regG rf ws (⟨(⟨(Old.markR ws [91] s).e, (Old.markR ws [91] s).a, nxK ws ((Old.markR ws [91] s).p)⟩ : Old.Rs).e, (⟨(Old.markR ws [91] s).e, (Old.markR ws [91] s).a, nxK ws ((Old.markR ws [91] s).p)⟩ : Old.Rs).a, nxK ws ((⟨(Old.markR ws [91] s).e, (Old.markR ws [91] s).a, nxK ws ((Old.markR ws [91] s).p)⟩ : Old.Rs).p)⟩ : Old.Rs)).1) [93] (regG_le (nxK_le (nxK_le (mark_le hk)))) hn hw) A rfl rfl rfl rfl rfl rfl rfl fun A => N hX 1 A rfl rfl fun A => ENDN (RETN hX A rfl rfl rfl h0 rfl rfl rfl rfl rfl (by unfold memG; rw [gmem_y h1 h2 h3 h4, meE_reg h5 h6] <;> rfl))))
      (fun h5 A => N hX 5 A rfl rfl fun A => CALL1 [0, 1, 2] (rmk_ ar ws cw (⟨(Old.markR ws [91] s).e, (Old.markR ws [91] s).a, nxK ws ((Old.markR ws [91] s).p)⟩ : Old.Rs) [93] (nxK_le (mark_le hk)) hn hw) A rfl rfl rfl rfl rfl rfl rfl fun A => N hX 1 A rfl rfl fun A => ENDN (RETN hX A rfl rfl rfl h0 rfl rfl rfl rfl rfl (by unfold memG; rw [gmem_y h1 h2 h3 h4, meE_n h5] <;> rfl)))))))
  (fun h1 A => N hX 27 A rfl rfl fun A => have A := sy_sayD A 42 (.tt) rfl (fun _ => congrArg (fun b => some (Value.bool b)) (show (!(((Old.markR ws [91] s).e) == 0)) = true by rw [beq_eq_false_iff_ne.2 h1]; rfl)); N hX 4 A rfl rfl fun A => RETN hX A rfl rfl rfl h0 rfl rfl rfl rfl rfl (by unfold memG; rw [gmem_s h1] <;> rfl))
theorem rbran_ (ar : Int) (ws : List Tk) (cw : Nat) (s : Old.Rs) (i : Old.Ins) (z : Bool) (hk : s.p ≤ ws.length) (hn : ws.length ≤ 1000000) (hw : WsOK ws) (rf : List UInt8 → Int) (hrf : ∀ q : List UInt8, Fn Tryz.prog 18 [.int .i64 ar, .str q] [] (Rt (.int .i64 (rf q)) [])) : Fn Tryz.prog 72 [.ptr 0 0, .ptr 3 0, .bool z] [some (.blk [.int .i64 ar, .ptr 1 0, .int .i64 s.e, .int .i64 s.a]), some (.blk [.sl 2 ws.length cw, .int .i64 ((s.p : Nat) : Int)]), some (.lst 4 ws.length (fun zz => tkc (ws.getD zz tok0))), some (.blk (oiQ9 i))] (Rt (.str ((branG rf ws s i z).1)) [some (.blk [.int .i64 ar, .ptr 1 0, .int .i64 (((branG rf ws s i z).2.1).e), .int .i64 (((branG rf ws s i z).2.1).a)]), some (.blk [.sl 2 ws.length cw, .int .i64 ((((branG rf ws s i z).2.1).p : Nat) : Int)]), some (.lst 4 ws.length (fun zz => tkc (ws.getD zz tok0))), some (.blk (oiQ9 ((branG rf ws s i z).2.2)))]) :=
 enterM (n := 23) (by kernel_rfl) Tryz.func72 rfl rfl rfl fun G w a h0 A => N hX 26 A rfl rfl fun A => CALL1 [0, 1, 2] (rreg_ ar ws cw s hk hn hw rf hrf) A rfl rfl rfl rfl rfl rfl rfl fun A => N hX 8 A rfl rfl fun A => CALL1 [0, 1, 2] (rmk_ ar ws cw ((regG rf ws s).1) [44] (regG_le hk) hn hw) A rfl rfl rfl rfl rfl rfl rfl fun A => N hX 5 A rfl rfl fun A => CALL1 [0, 1, 2] (rlab_ ar ws cw (Old.markR ws [44] ((regG rf ws s).1)) (mark_le (regG_le hk)) hn hw) A rfl rfl rfl rfl rfl rfl rfl fun A => N hX 4 A rfl rfl fun A => RETN hX A rfl rfl rfl h0 rfl rfl rfl rfl rfl rfl
theorem szI_k (k : Nat) (h : k < 4) : (IntKind.wrap .i64 (1 * 2 ^ min ((k : Int)).toNat (IntKind.bits .i64))) = Old.szI (k : Int) := by
  have : k = 0 ∨ k = 1 ∨ k = 2 ∨ k = 3 := by omega
  rcases this with e | e | e | e <;> subst e <;> decide +kernel
theorem pre_n {q t : List UInt8} (h : ((decide ((q.length : Int) < (t.length : Int))) || (!((q.take ((t.length : Int)).toNat) == t))) = true) : preB q t = false := by
  unfold preB
  by_cases hl : t.length ≤ q.length
  · rw [decide_eq_true hl]
    rw [decide_eq_false (by omega : ¬ (q.length : Int) < (t.length : Int)), Int.toNat_natCast] at h
    simpa using h
  · rw [decide_eq_false hl]; rfl
theorem pre_y {q t : List UInt8} (h : ((decide ((q.length : Int) < (t.length : Int))) || (!((q.take ((t.length : Int)).toNat) == t))) = false) : preB q t = true := by
  unfold preB
  rw [Bool.or_eq_false_iff] at h
  have h1 := of_decide_eq_false h.1
  rw [decide_eq_true (by omega : t.length ≤ q.length)]
  have h2 := h.2
  rw [Int.toNat_natCast] at h2
  simpa using h2
def regsV : List (List UInt8) := [[97, 48], [97, 49], [97, 50], [97, 51], [97, 52], [97, 53], [97, 54], [97, 55]]
def nameV (r : Int) : List UInt8 := if r < 0 then [] else (regsV[r.toNat]?).getD []
def regV (q : List UInt8) : Int := Old.idxL regsV q 0
def tlV (n : Int) : List UInt8 := if n == 1 then [98] else if n == 2 then [104] else if n == 4 then [119] else if n == 8 then [100] else []
def alusV : List (List UInt8) := [[97, 100, 100], [115, 117, 98], [120, 111, 114], [97, 110, 100], [111, 114]]
def alusW : List (List UInt8) := [[97, 100, 100, 105], [115, 117, 98, 105], [120, 111, 114, 105], [97, 110, 100, 105], [111, 114, 105]]
def aluV (q : List UInt8) : Int × Bool := if idxS alusV q < 0 then (if idxS alusW q < 0 then (0, false) else (idxS alusW q + 1, true)) else (idxS alusV q + 1, false)
def tailsV : List (List UInt8) := [[98], [104], [119], [100]]
def szV (q h : List UInt8) : Int := if preB q h then Old.szI (Old.idxL tailsV (q.drop h.length) 0) else 0
def amoN : List (List UInt8) := [[97, 109, 111, 115, 119, 97, 112, 46, 98], [97, 109, 111, 115, 119, 97, 112, 46, 98, 46, 97, 113], [97, 109, 111, 115, 119, 97, 112, 46, 98, 46, 114, 108], [97, 109, 111, 115, 119, 97, 112, 46, 98, 46, 97, 113, 46, 114, 108], [97, 109, 111, 115, 119, 97, 112, 46, 104], [97, 109, 111, 115, 119, 97, 112, 46, 104, 46, 97, 113], [97, 109, 111, 115, 119, 97, 112, 46, 104, 46, 114, 108], [97, 109, 111, 115, 119, 97, 112, 46, 104, 46, 97, 113, 46, 114, 108], [97, 109, 111, 115, 119, 97, 112, 46, 119], [97, 109, 111, 115, 119, 97, 112, 46, 119, 46, 97, 113], [97, 109, 111, 115, 119, 97, 112, 46, 119, 46, 114, 108], [97, 109, 111, 115, 119, 97, 112, 46, 119, 46, 97, 113, 46, 114, 108], [97, 109, 111, 115, 119, 97, 112, 46, 100], [97, 109, 111, 115, 119, 97, 112, 46, 100, 46, 97, 113], [97, 109, 111, 115, 119, 97, 112, 46, 100, 46, 114, 108], [97, 109, 111, 115, 119, 97, 112, 46, 100, 46, 97, 113, 46, 114, 108], [97, 109, 111, 97, 100, 100, 46, 98], [97, 109, 111, 97, 100, 100, 46, 98, 46, 97, 113], [97, 109, 111, 97, 100, 100, 46, 98, 46, 114, 108], [97, 109, 111, 97, 100, 100, 46, 98, 46, 97, 113, 46, 114, 108], [97, 109, 111, 97, 100, 100, 46, 104], [97, 109, 111, 97, 100, 100, 46, 104, 46, 97, 113], [97, 109, 111, 97, 100, 100, 46, 104, 46, 114, 108], [97, 109, 111, 97, 100, 100, 46, 104, 46, 97, 113, 46, 114, 108], [97, 109, 111, 97, 100, 100, 46, 119], [97, 109, 111, 97, 100, 100, 46, 119, 46, 97, 113], [97, 109, 111, 97, 100, 100, 46, 119, 46, 114, 108], [97, 109, 111, 97, 100, 100, 46, 119, 46, 97, 113, 46, 114, 108], [97, 109, 111, 97, 100, 100, 46, 100], [97, 109, 111, 97, 100, 100, 46, 100, 46, 97, 113], [97, 109, 111, 97, 100, 100, 46, 100, 46, 114, 108], [97, 109, 111, 97, 100, 100, 46, 100, 46, 97, 113, 46, 114, 108]]
def amoA (n : Nat) : Int × Int × Bool × Bool := (if n < 16 then 6 else 1, [1, 2, 4, 8].getD (n / 4 % 4) 0, (n % 4 == 1) || (n % 4 == 3), decide (n % 4 ≥ 2))
def amoV (q : List UInt8) : Int × Int × Bool × Bool := if idxS amoN q < 0 then (0, 0, false, false) else amoA (idxS amoN q).toNat
theorem nameV_o {g : Int} (h : ((decide (g < 0)) || (decide (g > 7))) = true) : nameV g = [] := by
  unfold nameV
  simp only [Bool.or_eq_true, decide_eq_true_eq] at h
  rcases h with h | h
  · rw [if_pos h]
  · rw [if_neg (by omega), List.getElem?_eq_none (by show regsV.length ≤ _; have : regsV.length = 8 := rfl; omega)]; rfl
theorem nameV_i {g : Int} (h : ((decide (g < 0)) || (decide (g > 7))) = false) : nameV g = [97] ++ (([48, 49, 50, 51, 52, 53, 54, 55] : List UInt8).take (g + 1).toNat).drop g.toNat := by
  simp only [Bool.or_eq_false_iff, decide_eq_false_iff_not] at h
  have : g = 0 ∨ g = 1 ∨ g = 2 ∨ g = 3 ∨ g = 4 ∨ g = 5 ∨ g = 6 ∨ g = 7 := by omega
  rcases this with e | e | e | e | e | e | e | e <;> subst e <;> rfl
theorem nameV_k (k : Nat) (h : k < 8) : nameV (k : Int) = regsV.getD k [] := by
  have : k = 0 ∨ k = 1 ∨ k = 2 ∨ k = 3 ∨ k = 4 ∨ k = 5 ∨ k = 6 ∨ k = 7 := by omega
  rcases this with e | e | e | e | e | e | e | e <;> subst e <;> rfl
theorem regsV_ne (k : Nat) (h : k < 8) : regsV.getD k [] ≠ [] := by
  have : k = 0 ∨ k = 1 ∨ k = 2 ∨ k = 3 ∨ k = 4 ∨ k = 5 ∨ k = 6 ∨ k = 7 := by omega
  rcases this with e | e | e | e | e | e | e | e <;> subst e <;> decide
theorem rgV_no1 {q : List UInt8} {k : Nat} (h : k < 8) (h1 : nameV (k : Int) ≠ q) : (q == regsV.getD k []) = false := by
  rw [nameV_k k h] at h1
  exact beq_eq_false_iff_ne.2 fun e => h1 e.symm
theorem rgV_no2 {q : List UInt8} {k : Nat} (h : k < 8) (h1 : q = []) : (q == regsV.getD k []) = false := by
  rw [h1]; exact beq_eq_false_iff_ne.2 fun e => regsV_ne k h e.symm
theorem rgV_yes {q : List UInt8} {k : Nat} (h : k < 8) (h1 : nameV (k : Int) = q) : (q == regsV.getD k []) = true := by
  rw [nameV_k k h] at h1
  rw [h1]; exact beq_self_eq_true q
theorem TLI.fiV {n : Int} {k : Nat} (hI : TLI n k) (h : ¬ (k : Int) < 4) : tlV n = [] := by
  have hk : 4 ≤ k := by omega
  have a1 := hI.h1 (by omega); have a2 := hI.h2 (by omega); have a4 := hI.h4 (by omega); have a8 := hI.h8 hk
  set_option simprocs true in simp [tlV, a1, a2, a4, a8]
theorem TLI.hitV {n : Int} {k : Nat} (h : k < 4) (hn : [1, 2, 4, 8].getD k 0 = n) : tlV n = ([[98], [104], [119], [100]] : List (List UInt8)).getD k [] := by
  have hk : k = 0 ∨ k = 1 ∨ k = 2 ∨ k = 3 := by omega
  rcases hk with e | e | e | e <;> subst e <;> subst hn <;> decide
theorem alW (k : Nat) (h : k < 5) : alusV.getD k [] ++ [105] = alusW.getD k [] := by
  have : k = 0 ∨ k = 1 ∨ k = 2 ∨ k = 3 ∨ k = 4 := by omega
  rcases this with e | e | e | e | e <;> subst e <;> rfl
theorem alX (q : List UInt8) (j k : Nat) (hj : j < 5) (hk : k < 5) (h : q = alusV.getD j []) (h2 : q = alusW.getD k []) : False := by
  have a : j = 0 ∨ j = 1 ∨ j = 2 ∨ j = 3 ∨ j = 4 := by omega
  have b : k = 0 ∨ k = 1 ∨ k = 2 ∨ k = 3 ∨ k = 4 := by omega
  rw [h] at h2
  revert h2
  rcases a with e | e | e | e | e <;> rcases b with f | f | f | f | f <;> subst e <;> subst f <;> decide
theorem amo_at (h k e : Nat) (h1 : h < 2) (h2 : k < 4) (h3 : e < 4) : (([[97, 109, 111, 115, 119, 97, 112, 46], [97, 109, 111, 97, 100, 100, 46]].getD ((h : Int)).toNat [] ++ tlV (IntKind.wrap .i64 (1 * 2 ^ min ((k : Int)).toNat (IntKind.bits .i64)))) ++ [[], [46, 97, 113], [46, 114, 108], [46, 97, 113, 46, 114, 108]].getD ((e : Int)).toNat []) = amoN.getD (16 * h + 4 * k + e) [] := by
  have a : h = 0 ∨ h = 1 := by omega
  have b : k = 0 ∨ k = 1 ∨ k = 2 ∨ k = 3 := by omega
  have c : e = 0 ∨ e = 1 ∨ e = 2 ∨ e = 3 := by omega
  rcases a with x | x <;> rcases b with y | y | y | y <;> rcases c with z | z | z | z <;> subst x <;> subst y <;> subst z <;> decide +kernel
theorem amo_len (h k e : Nat) (h1 : h < 2) (h2 : k < 4) (h3 : e < 4) : ([[97, 109, 111, 115, 119, 97, 112, 46], [97, 109, 111, 97, 100, 100, 46]].getD ((h : Int)).toNat ([] : List UInt8)).length ≤ 10 ∧ (tlV (IntKind.wrap .i64 (1 * 2 ^ min ((k : Int)).toNat (IntKind.bits .i64)))).length ≤ 1 ∧ ([[], [46, 97, 113], [46, 114, 108], [46, 97, 113, 46, 114, 108]].getD ((e : Int)).toNat ([] : List UInt8)).length ≤ 6 := by
  have a : h = 0 ∨ h = 1 := by omega
  have b : k = 0 ∨ k = 1 ∨ k = 2 ∨ k = 3 := by omega
  have c : e = 0 ∨ e = 1 ∨ e = 2 ∨ e = 3 := by omega
  refine ⟨?_, ?_, ?_⟩
  · rcases a with x | x <;> subst x <;> decide
  · rcases b with y | y | y | y <;> subst y <;> decide +kernel
  · rcases c with z | z | z | z <;> subst z <;> decide
theorem amo_is (h k e : Nat) (h1 : h < 2) (h2 : k < 4) (h3 : e < 4) : amoA (16 * h + 4 * k + e) = (if h = 1 then 1 else 6, IntKind.wrap .i64 (1 * 2 ^ min ((k : Int)).toNat (IntKind.bits .i64)), (((e : Int) == 1) || ((e : Int) == 3)), decide ((e : Int) ≥ 2)) := by
  have a : h = 0 ∨ h = 1 := by omega
  have b : k = 0 ∨ k = 1 ∨ k = 2 ∨ k = 3 := by omega
  have c : e = 0 ∨ e = 1 ∨ e = 2 ∨ e = 3 := by omega
  rcases a with x | x <;> rcases b with y | y | y | y <;> rcases c with z | z | z | z <;> subst x <;> subst y <;> subst z <;> decide +kernel
def bitsV (L : List Tk) (s : Old.Rs) : Old.Rs × Int := if s.e == 0 then (match L[s.p]? with
    | some y => if (y.kind == 1) && !decide (Old.idxL [[114], [119], [114, 119]] y.text 0 < 0) then (⟨s.e, s.a, s.p + 1⟩, Old.idxL [[114], [119], [114, 119]] y.text 0 + 1) else (Old.oddR L true s, 0)
    | none => (Old.oddR L true s, 0)) else (s, 0)
def threeG (rf : List UInt8 → Int) (L : List Tk) (s : Old.Rs) (i : Old.Ins) : Old.Rs × Old.Ins := memG rf L (Old.markR L [44] (regG rf L (Old.markR L [44] (regG rf L s).1)).1) { i with dst := (regG rf L s).2, a := (regG rf L (Old.markR L [44] (regG rf L s).1)).2 }
theorem rname_v (g : Int)  : Fn Tryz.prog 16 [.int .i64 2, .int .i64 g] [] (Rt (.str (nameV g)) []) :=
 enterM (n := 37) (by kernel_rfl) Tryz.func16 rfl rfl rfl fun G w a h0 A => N hX 16 A rfl rfl fun A => fork 12 A rfl
  (fun h1 A => N hX 7 A rfl rfl fun A => RETN hX A rfl rfl rfl h0 rfl rfl rfl rfl (by rw [nameV_o h1]; rfl) rfl)
  (fun h1 A => N hX 27 A rfl rfl fun A => forkE 15 A rfl
   (fun h2 A => absurd h2 (by decide))
   (fun h2 A => N hX 7 A rfl rfl fun A => forkE 21 A rfl
    (fun h3 A => N hX 13 A rfl (ok_d (by have hz := h1; simp only [Bool.or_eq_false_iff, decide_eq_false_iff_not] at hz; (try simp only [List.length_cons, List.length_nil, List.length_drop, List.length_take]); omega) <| ok_d (by have hz := h1; simp only [Bool.or_eq_false_iff, decide_eq_false_iff_not] at hz; (try simp only [List.length_cons, List.length_nil, List.length_drop, List.length_take]); omega) <| ok_d (by have hz := h1; simp only [Bool.or_eq_false_iff, decide_eq_false_iff_not] at hz; (try simp only [List.length_cons, List.length_nil, List.length_drop, List.length_take]); omega) <| okE_nil) fun A => RETN hX A rfl rfl rfl h0 rfl rfl rfl rfl (by rw [nameV_i h1]; rfl) rfl)
    (fun h3 A => absurd rfl h3)))
theorem rregn_v (q : List UInt8)  : Fn Tryz.prog 18 [.int .i64 2, .str q] [] (Rt (.int .i64 (regV q)) []) :=
 enterM (n := 20) (by kernel_rfl) Tryz.func18 rfl rfl rfl fun G w a h0 A => N hX 12 A rfl rfl fun A => LOOP1 (fun (k : Nat) => [(0, .int .i64 2), (1, .str q), (4, .int .i64 0), (5, .int .i64 (k : Int))]) (fun (k : Nat) => []) (fun (k : Nat) => IxI regsV q k) (fun (k : Nat) => 8 - k) 0 IxI.i0 ((A.cut [0, 1, 4, 5] rfl).trunc 0 rfl rfl rfl (by simp only [List.length_cons, List.length_nil] at h0; omega)) fun k hI {G a w} A => N hX 7 A rfl rfl fun A => forkD 7 A rfl
   (fun h1 A => N hX 10 A rfl rfl fun A => forkN 12 A rfl
    (fun h2 A => N hX 2 A rfl rfl fun A => CALL1 [] (rname_v (k : Int)) A rfl rfl rfl rfl rfl rfl rfl fun A => N hX 5 A rfl rfl fun A => forkE 18 A rfl
     (fun h3 A => N hX 8 A rfl rfl fun A => RETN hX A rfl rfl rfl h0 rfl rfl rfl rfl (by unfold regV; rw [← idxS_L, hI.hit (by show k < 8; omega) (rgV_yes (by omega) h3)]; rfl) rfl)
     (fun h3 A => N hX 9 A rfl (ok_d (by have := hI.le; have e : regsV.length = 8 := rfl; omega) <| okE_nil) fun A => ⟨k + 1, _, (by omega), (hI.nx (by show k < 8; omega) (rgV_no1 (by omega) h3)), ((A.cut [0, 1, 4, 5] rfl).trunc 0 rfl rfl rfl (by simp only [List.length_cons, List.length_nil] at h0; omega))⟩))
    (fun h2 A => N hX 17 A rfl (ok_d (by have := hI.le; have e : regsV.length = 8 := rfl; omega) <| okE_nil) fun A => ⟨k + 1, _, (by omega), (hI.nx (by show k < 8; omega) (rgV_no2 (by omega) h2)), ((A.cut [0, 1, 4, 5] rfl).trunc 0 rfl rfl rfl (by simp only [List.length_cons, List.length_nil] at h0; omega))⟩))
   (fun h1 A => N hX 9 A rfl rfl fun A => RETN hX A rfl rfl rfl h0 rfl rfl rfl rfl (by unfold regV; rw [← idxS_L, hI.fi (by show 8 ≤ k; omega)]; rfl) rfl)
theorem rtail_v (v : Int)  : Fn Tryz.prog 117 [.int .i64 2, .int .i64 v] [] (Rt (.str (tlV v)) []) :=
 enterM (n := 31) (by kernel_rfl) Tryz.func117 rfl rfl rfl fun G w a h0 A => N hX 12 A rfl rfl fun A => LOOP1 (fun (k : Nat) => [(0, .int .i64 2), (1, .int .i64 v), (4, .str []), (5, .int .i64 (k : Int))]) (fun (k : Nat) => []) (fun (k : Nat) => TLI v k) (fun (k : Nat) => 4 - k) 0 TLI.i0 ((A.cut [0, 1, 4, 5] rfl).trunc 0 rfl rfl rfl (by simp only [List.length_cons, List.length_nil] at h0; omega)) fun k hI {G a w} A => N hX 7 A rfl rfl fun A => forkD 7 A rfl
   (fun h1 A => N hX 14 A rfl (ok_d (by have := hI.le; (try simp only [List.length_cons, List.length_nil]); omega) <| okE_nil) fun A => forkN 13 A rfl
    (fun h2 A => N hX 8 A rfl (ok_d (by have := hI.le; (try simp only [List.length_cons, List.length_nil]); omega) <| okE_nil) fun A => ⟨k + 1, _, (by omega), (hI.nx (by omega) (by rw [← sh_k k (by omega)]; exact h2)), ((A.cut [0, 1, 4, 5] rfl).trunc 0 rfl rfl rfl (by simp only [List.length_cons, List.length_nil] at h0; omega))⟩)
    (fun h2 A => N hX 16 A rfl rfl fun A => forkE 15 A rfl
     (fun h3 A => absurd h3 (by decide))
     (fun h3 A => N hX 7 A rfl rfl fun A => forkE 21 A rfl
      (fun h4 A => N hX 11 A rfl (ok_d (by have := hI.le; (try simp only [List.length_cons, List.length_nil]); omega) <| ok_d (by have := hI.le; (try simp only [List.length_cons, List.length_nil]); omega) <| okE_nil) fun A => RETN hX A rfl rfl rfl h0 rfl rfl rfl rfl (by rw [TLI.hitV (k := k) (by omega) ((sh_k k (by omega)).symm.trans h2)]; have : k = 0 ∨ k = 1 ∨ k = 2 ∨ k = 3 := (by omega); rcases this with e | e | e | e <;> subst e <;> rfl) rfl)
      (fun h4 A => absurd rfl h4))))
   (fun h1 A => N hX 9 A rfl rfl fun A => RETN hX A rfl rfl rfl h0 rfl rfl rfl rfl (by rw [hI.fiV h1]; rfl) rfl)
theorem rimm_v (ws : List Tk) (cw : Nat) (s : Old.Rs) (hk : s.p ≤ ws.length) (hn : ws.length ≤ 1000000) (hw : WsOK ws) : Fn Tryz.prog 69 [.ptr 0 0] [some (.blk [.int .i64 2, .ptr 1 0, .int .i64 s.e, .int .i64 s.a]), some (.blk [.sl 2 ws.length cw, .int .i64 ((s.p : Nat) : Int)]), some (.lst 4 ws.length (fun zz => tkc (ws.getD zz tok0)))] (Rt (.int .i64 ((Old.numS ws s).2)) [some (.blk [.int .i64 2, .ptr 1 0, .int .i64 (((Old.numS ws s).1).e), .int .i64 (((Old.numS ws s).1).a)]), some (.blk [.sl 2 ws.length cw, .int .i64 ((((Old.numS ws s).1).p : Nat) : Int)]), some (.lst 4 ws.length (fun zz => tkc (ws.getD zz tok0)))]) :=
 enterM (n := 19) (by kernel_rfl) Tryz.func69 rfl rfl rfl fun G w a h0 A => N hX 15 A rfl rfl fun A => forkE 7 A rfl
  (fun h1 A => absurd h1 (by decide))
  (fun h1 A => N hX 13 A rfl rfl fun A => forkE 14 A rfl
   (fun h2 A => absurd h2 (by decide))
   (fun h2 A => N hX 6 A rfl rfl fun A => CALL1 [0, 1, 2] (rnum_ 2 ws cw s hk hn hw) A rfl rfl rfl rfl rfl rfl rfl fun A => N hX 4 A rfl rfl fun A => RETN hX A rfl rfl rfl h0 rfl rfl rfl rfl rfl rfl))
structure AlI (q : List UInt8) (k : Nat) : Prop where
  a : IxI alusV q k
  b : IxI alusW q k
theorem AlI.i0 {q : List UInt8} : AlI q 0 := ⟨IxI.i0, IxI.i0⟩
theorem AlI.nx {q : List UInt8} {k : Nat} (hI : AlI q k) (hk : k < 5) (h1 : alusV.getD k [] ≠ q) (h2 : alusV.getD k [] ++ [105] ≠ q) : AlI q (k + 1) := ⟨hI.a.nx hk (beq_eq_false_iff_ne.2 fun e => h1 e.symm), hI.b.nx hk (beq_eq_false_iff_ne.2 fun e => h2 (by rw [alW k hk]; exact e.symm))⟩
theorem AlI.fi {q : List UInt8} {k : Nat} (hI : AlI q k) (hk : 5 ≤ k) : aluV q = (0, false) := by
  unfold aluV; rw [hI.a.fi hk, hI.b.fi hk]; rfl
theorem AlI.hit1 {q : List UInt8} {k : Nat} (hI : AlI q k) (hk : k < 5) (h1 : alusV.getD k [] = q) : aluV q = ((k : Int) + 1, false) := by
  unfold aluV; rw [hI.a.hit hk (beq_iff_eq.2 h1.symm), if_neg (by omega)]
theorem AlI.hit2 {q : List UInt8} {k : Nat} (hI : AlI q k) (hk : k < 5) (h2 : alusV.getD k [] ++ [105] = q) : aluV q = ((k : Int) + 1, true) := by
  have hq : q = alusW.getD k [] := by rw [← alW k hk]; exact h2.symm
  have ha : idxS alusV q = -1 := by
    unfold idxS
    have : (List.range alusV.length).find? (fun j => q == alusV.getD j []) = none := by
      rw [List.find?_eq_none]
      intro j hj he
      exact alX q j k (List.mem_range.1 hj) hk (eq_of_beq he) hq
    rw [this]
  unfold aluV; rw [ha, hI.b.hit hk (beq_iff_eq.2 hq), if_pos (by decide), if_neg (by omega)]
theorem al2 {x y : List UInt8} (h : (((2 : Int) == 2) && (x == y)) = false) : x ≠ y := by
  have h' : (x == y) = false := h
  exact beq_eq_false_iff_ne.1 h'
theorem al1 {x y : List UInt8} (h : (((2 : Int) == 2) && (x == y)) = true) : x = y := by
  have h' : (x == y) = true := h
  exact eq_of_beq h'
theorem ralu_v (q : List UInt8)  : Fn Tryz.prog 64 [.int .i64 2, .str q] [] (Rt (.tup [.int .i64 ((aluV q).1), .bool ((aluV q).2)]) []) :=
 enterM (n := 40) (by kernel_rfl) Tryz.func64 rfl rfl rfl fun G w a h0 A => N hX 19 A rfl rfl fun A => forkE 10 A rfl
  (fun h1 A => N hX 13 A rfl rfl fun A => forkE 13 A rfl
   (fun h2 A => absurd h2 (by decide))
   (fun h2 A => N hX 10 A rfl rfl fun A => LOOP1 (fun (k : Nat) => [(0, .int .i64 2), (1, .str q), (4, .int .i64 0), (5, .ff), (6, .sl 1 5 5), (7, .int .i64 (k : Int))]) (fun (k : Nat) => [some (.blk [.str [65, 68, 68], .str [83, 85, 66], .str [88, 79, 82], .str [65, 78, 68], .str [79, 82]]), some (.blk [.str [97, 100, 100], .str [115, 117, 98], .str [120, 111, 114], .str [97, 110, 100], .str [111, 114]])]) (fun (k : Nat) => AlI q k) (fun (k : Nat) => 5 - k) 0 AlI.i0 ((A.cut [0, 1, 4, 5, 6, 7] rfl).trunc 2 rfl rfl rfl (by simp only [List.length_cons, List.length_nil] at h0; omega)) fun k hI {G a w} A => N hX 7 A rfl rfl fun A => forkD 16 A rfl
     (fun h3 A => N hX 16 A rfl (ok_d (by have := hI.a.le; have e : alusV.length = 5 := rfl; omega) <| ok_d (by have := hI.a.le; have e : alusV.length = 5 := rfl; omega) <| okE_nil) fun A => forkE 24 A rfl
      (fun h4 A => N hX 10 A rfl (ok_d (by have := hI.a.le; have e : alusV.length = 5 := rfl; omega) <| okE_nil) fun A => RETN hX A rfl rfl rfl h0 rfl rfl rfl rfl (by rw [hI.hit1 (by omega) h4]; rfl) rfl)
      (fun h4 A => N hX 18 A rfl (ok_r <| ok_r <| ok_g (fun hg => (by have := hI.a.le; have e : alusV.length = 5 := rfl; omega)) <| ok_r <| ok_g (fun hg => (by have := hI.a.le; have e : alusV.length = 5 := rfl; omega)) <| ok_r <| ok_g (fun hg => (by have hk : k < 5 := (by omega); have : k = 0 ∨ k = 1 ∨ k = 2 ∨ k = 3 ∨ k = 4 := (by omega); rcases this with e | e | e | e | e <;> subst e <;> decide)) <| ok_r <| ok_r <| ok_r <| okE_nil) fun A => fork 37 A rfl
       (fun h5 A => N hX 10 A rfl (ok_d (by have := hI.a.le; have e : alusV.length = 5 := rfl; omega) <| okE_nil) fun A => RETN hX A rfl rfl rfl h0 rfl rfl rfl rfl (by rw [hI.hit2 (by omega) (al1 h5)]; rfl) rfl)
       (fun h5 A => N hX 9 A rfl (ok_d (by have := hI.a.le; have e : alusV.length = 5 := rfl; omega) <| okE_nil) fun A => ⟨k + 1, _, (by omega), (hI.nx (by omega) h4 (al2 h5)), ((A.cut [0, 1, 4, 5, 6, 7] rfl).trunc 2 rfl rfl rfl (by simp only [List.length_cons, List.length_nil] at h0; omega))⟩)))
     (fun h3 A => N hX 10 A rfl rfl fun A => RETN hX A rfl rfl rfl h0 rfl rfl rfl rfl (by rw [hI.fi (by omega)]; rfl) rfl)))
  (fun h1 A => absurd rfl h1)
theorem rsized_v (q : List UInt8) (t : List UInt8)  : Fn Tryz.prog 65 [.int .i64 2, .str q, .str t] [] (Rt (.int .i64 (szV q t)) []) :=
 enterM (n := 44) (by kernel_rfl) Tryz.func65 rfl rfl rfl fun G w a h0 A => N hX 23 A rfl (ok_r <| ok_r <| ok_r <| ok_g (fun hg => (by have hz := nd_t hg; omega)) <| ok_r <| ok_r <| ok_r <| okE_nil) fun A => fork 21 A rfl
  (fun h1 A => N hX 7 A rfl rfl fun A => RETN hX A rfl rfl rfl h0 rfl rfl rfl rfl (by unfold szV; rw [pre_n h1]; rfl) rfl)
  (fun h1 A => N hX 16 A rfl rfl fun A => forkE 24 A rfl
   (fun h2 A => N hX 13 A rfl rfl fun A => forkE 27 A rfl
    (fun h3 A => absurd h3 (by decide))
    (fun h3 A => N hX 10 A rfl rfl fun A => LOOP1 (fun (k : Nat) => [(1, .str q), (2, .str t), (6, .int .i64 0), (7, .sl 1 4 4), (8, .int .i64 (k : Int))]) (fun (k : Nat) => [some (.blk [.str [66], .str [87], .str [76], .str [81]]), some (.blk [.str [98], .str [104], .str [119], .str [100]])]) (fun (k : Nat) => IxI tailsV (q.drop ((t.length : Int)).toNat) k) (fun (k : Nat) => 4 - k) 0 IxI.i0 ((A.cut [1, 2, 6, 7, 8] rfl).trunc 2 rfl rfl rfl (by simp only [List.length_cons, List.length_nil] at h0; omega)) fun k hI {G a w} A => N hX 7 A rfl rfl fun A => forkD 30 A rfl
      (fun h4 A => N hX 6 A rfl rfl fun A => DRAWN hX hmo [] [] A rfl (ok_d (by have hp := pre_y h1; unfold preB at hp; rw [Bool.and_eq_true] at hp; have hq := of_decide_eq_true hp.1; have := hI.le; have e : tailsV.length = 4 := rfl; omega) <| ok_d (by have hp := pre_y h1; unfold preB at hp; rw [Bool.and_eq_true] at hp; have hq := of_decide_eq_true hp.1; have := hI.le; have e : tailsV.length = 4 := rfl; omega) <| ok_d (by have hp := pre_y h1; unfold preB at hp; rw [Bool.and_eq_true] at hp; have hq := of_decide_eq_true hp.1; have := hI.le; have e : tailsV.length = 4 := rfl; omega) <| okE_nil) rfl rfl (by kernel_rfl) (effAll_nil _ _) trivial fun A => N hX 1 A rfl rfl fun A => forkE 41 A rfl
       (fun h5 A => N hX 9 A rfl (ok_d (by have hp := pre_y h1; unfold preB at hp; rw [Bool.and_eq_true] at hp; have hq := of_decide_eq_true hp.1; have := hI.le; have e : tailsV.length = 4 := rfl; omega) <| okE_nil) fun A => RETN hX A rfl rfl rfl h0 rfl rfl rfl rfl (by unfold szV; rw [pre_y h1, if_pos rfl, ← idxS_L, show t.length = ((t.length : Int)).toNat from rfl, hI.hit (by show k < 4; omega) (beq_iff_eq.2 h5), ← szI_k k (by omega)]; rfl) rfl)
       (fun h5 A => N hX 9 A rfl (ok_d (by have hp := pre_y h1; unfold preB at hp; rw [Bool.and_eq_true] at hp; have hq := of_decide_eq_true hp.1; have := hI.le; have e : tailsV.length = 4 := rfl; omega) <| okE_nil) fun A => ⟨k + 1, _, (by omega), (hI.nx (by show k < 4; omega) (beq_eq_false_iff_ne.2 h5)), ((A.cut [1, 2, 6, 7, 8] rfl).trunc 2 rfl rfl rfl (by simp only [List.length_cons, List.length_nil] at h0; omega))⟩))
      (fun h4 A => N hX 9 A rfl rfl fun A => RETN hX A rfl rfl rfl h0 rfl rfl rfl rfl (by unfold szV; rw [pre_y h1, if_pos rfl, ← idxS_L, show t.length = ((t.length : Int)).toNat from rfl, hI.fi (by show 4 ≤ k; omega)]; rfl) rfl)))
   (fun h2 A => absurd rfl h2))
theorem ramo_ (q : List UInt8)  : Fn Tryz.prog 73 [.str q] [] (Rt (.tup [.int .i64 ((amoV q).1), .int .i64 ((amoV q).2.1), .bool ((amoV q).2.2.1), .bool ((amoV q).2.2.2)]) []) :=
 enterM (n := 54) (by kernel_rfl) Tryz.func73 rfl rfl rfl fun G w a h0 A => N hX 27 A rfl rfl fun A => LOOP1 (fun (h7 : Nat) => [(0, .str q), (2, .int .i64 0), (3, .int .i64 0), (4, .ff), (5, .ff), (6, .sl 0 2 2), (7, .sl 1 4 4), (8, .int .i64 (h7 : Int))]) (fun (h7 : Nat) => [some (.blk [.str [97, 109, 111, 115, 119, 97, 112, 46], .str [97, 109, 111, 97, 100, 100, 46]]), some (.blk [.str [], .str [46, 97, 113], .str [46, 114, 108], .str [46, 97, 113, 46, 114, 108]])]) (fun (h7 : Nat) => h7 ≤ 2 ∧ IxI amoN q (16 * h7)) (fun (h7 : Nat) => 2 - h7) 0 ⟨by omega, IxI.i0⟩ ((A.cut [0, 2, 3, 4, 5, 6, 7, 8] rfl).trunc 2 rfl rfl rfl (by simp only [List.length_cons, List.length_nil] at h0; omega)) fun h7 hI1 {G a w} A => N hX 7 A rfl rfl fun A => forkD 15 A rfl
   (fun h1 A => N hX 11 A rfl rfl fun A => LOOP1 (fun (k7 : Nat) => [(0, .str q), (2, .int .i64 0), (3, .int .i64 0), (4, .ff), (5, .ff), (6, .sl 0 2 2), (7, .sl 1 4 4), (8, .int .i64 (h7 : Int)), (9, .int .i64 (k7 : Int))]) (fun (k7 : Nat) => [some (.blk [.str [97, 109, 111, 115, 119, 97, 112, 46], .str [97, 109, 111, 97, 100, 100, 46]]), some (.blk [.str [], .str [46, 97, 113], .str [46, 114, 108], .str [46, 97, 113, 46, 114, 108]])]) (fun (k7 : Nat) => k7 ≤ 4 ∧ IxI amoN q (16 * h7 + 4 * k7)) (fun (k7 : Nat) => 4 - k7) 0 ⟨by omega, hI1.2⟩ ((A.cut [0, 2, 3, 4, 5, 6, 7, 8, 9] rfl).trunc 2 rfl rfl rfl (by simp only [List.length_cons, List.length_nil] at h0; omega)) fun k7 hI2 {G a w} A => N hX 7 A rfl rfl fun A => forkD 19 A rfl
     (fun h2 A => N hX 11 A rfl rfl fun A => LOOP1 (fun (e7 : Nat) => [(0, .str q), (2, .int .i64 0), (3, .int .i64 0), (4, .ff), (5, .ff), (6, .sl 0 2 2), (7, .sl 1 4 4), (8, .int .i64 (h7 : Int)), (9, .int .i64 (k7 : Int)), (10, .int .i64 (e7 : Int))]) (fun (e7 : Nat) => [some (.blk [.str [97, 109, 111, 115, 119, 97, 112, 46], .str [97, 109, 111, 97, 100, 100, 46]]), some (.blk [.str [], .str [46, 97, 113], .str [46, 114, 108], .str [46, 97, 113, 46, 114, 108]])]) (fun (e7 : Nat) => e7 ≤ 4 ∧ IxI amoN q (16 * h7 + 4 * k7 + e7)) (fun (e7 : Nat) => 4 - e7) 0 ⟨by omega, hI2.2⟩ ((A.cut [0, 2, 3, 4, 5, 6, 7, 8, 9, 10] rfl).trunc 2 rfl rfl rfl (by simp only [List.length_cons, List.length_nil] at h0; omega)) fun e7 hI3 {G a w} A => N hX 7 A rfl rfl fun A => forkD 23 A rfl
       (fun h3 A => N hX 6 A rfl rfl fun A => DRAWN hX hmo [(7, .str (tlV (IntKind.wrap .i64 (1 * 2 ^ min ((k7 : Int)).toNat (IntKind.bits .i64)))))] [] A rfl (ok_d (by have q1 := hI1.1; have q2 := hI2.1; have q3 := hI3.1; omega) <| ok_d (by have q1 := hI1.1; have q2 := hI2.1; have q3 := hI3.1; omega) <| ok_d (by have q1 := hI1.1; have q2 := hI2.1; have q3 := hI3.1; omega) <| ok_d (by have hz := amo_len h7 k7 e7 (by omega) (by omega) (by omega); (try simp only [List.length_append]); omega) <| ok_d (by have q1 := hI1.1; have q2 := hI2.1; have q3 := hI3.1; omega) <| ok_d (by have q1 := hI1.1; have q2 := hI2.1; have q3 := hI3.1; omega) <| ok_d (by have hz := amo_len h7 k7 e7 (by omega) (by omega) (by omega); (try simp only [List.length_append]); omega) <| okE_nil) rfl rfl (by kernel_rfl) (effAll_nil _ _) ⟨.inl ⟨_, _, rfl, rfl, rtail_v (IntKind.wrap .i64 (1 * 2 ^ min ((k7 : Int)).toNat (IntKind.bits .i64)))⟩, trivial⟩ fun A => N hX 1 A rfl rfl fun A => forkE 40 A rfl
        (fun h4 A => N hX 13 A rfl rfl fun A => forkE 42 A rfl
         (fun h5 A => N hX 6 A rfl rfl fun A => DRAWN hX hmo [] [] A rfl (ok_d (by have q1 := hI1.1; have q2 := hI2.1; have q3 := hI3.1; omega) <| ok_r <| ok_r <| okE_nil) rfl rfl (by kernel_rfl) (effAll_nil _ _) trivial fun A => N hX 2 A rfl rfl fun A => RETN hX A rfl rfl rfl h0 rfl rfl rfl rfl (by have hz := hI3.2.hit (by show _ < 32; omega) (beq_iff_eq.2 (by rw [← amo_at h7 k7 e7 (by omega) (by omega) (by omega)]; exact h4)); unfold amoV; rw [hz, if_neg (by omega), show (((16 * h7 + 4 * k7 + e7 : Nat) : Int)).toNat = 16 * h7 + 4 * k7 + e7 from rfl, amo_is h7 k7 e7 (by omega) (by omega) (by omega)]; rw [if_pos (by have := h5; omega)]; rfl) rfl)
         (fun h5 A => N hX 4 A rfl rfl fun A => DRAWN hX hmo [] [] A rfl (ok_d (by have q1 := hI1.1; have q2 := hI2.1; have q3 := hI3.1; omega) <| ok_r <| ok_r <| okE_nil) rfl rfl (by kernel_rfl) (effAll_nil _ _) trivial fun A => N hX 2 A rfl rfl fun A => RETN hX A rfl rfl rfl h0 rfl rfl rfl rfl (by have hz := hI3.2.hit (by show _ < 32; omega) (beq_iff_eq.2 (by rw [← amo_at h7 k7 e7 (by omega) (by omega) (by omega)]; exact h4)); unfold amoV; rw [hz, if_neg (by omega), show (((16 * h7 + 4 * k7 + e7 : Nat) : Int)).toNat = 16 * h7 + 4 * k7 + e7 from rfl, amo_is h7 k7 e7 (by omega) (by omega) (by omega)]; rw [if_neg (by have := h5; omega)]; rfl) rfl))
        (fun h4 A => N hX 9 A rfl (ok_d (by have q1 := hI1.1; have q2 := hI2.1; have q3 := hI3.1; omega) <| okE_nil) fun A => ⟨e7 + 1, _, (by omega), ⟨by omega, by have hz := hI3.2.nx (by show _ < 32; omega) (beq_eq_false_iff_ne.2 (by rw [← amo_at h7 k7 e7 (by omega) (by omega) (by omega)]; exact h4)); rw [show 16 * h7 + 4 * k7 + (e7 + 1) = 16 * h7 + 4 * k7 + e7 + 1 by omega]; exact hz⟩, ((A.cut [0, 2, 3, 4, 5, 6, 7, 8, 9, 10] rfl).trunc 2 rfl rfl rfl (by simp only [List.length_cons, List.length_nil] at h0; omega))⟩))
       (fun h3 A => N hX 9 A rfl (ok_d (by have q1 := hI1.1; have q2 := hI2.1; have q3 := hI3.1; omega) <| okE_nil) fun A => ⟨k7 + 1, _, (by omega), ⟨by omega, by have hz := hI3.2; have e : 16 * h7 + 4 * k7 + e7 = 16 * h7 + 4 * (k7 + 1) := (by have := hI3.1; omega); rw [e] at hz; exact hz⟩, ((A.cut [0, 2, 3, 4, 5, 6, 7, 8, 9] rfl).trunc 2 rfl rfl rfl (by simp only [List.length_cons, List.length_nil] at h0; omega))⟩))
     (fun h2 A => N hX 9 A rfl (ok_d (by have q1 := hI1.1; have q2 := hI2.1; omega) <| okE_nil) fun A => ⟨h7 + 1, _, (by omega), ⟨by omega, by have hz := hI2.2; have e : 16 * h7 + 4 * k7 = 16 * (h7 + 1) := (by have := hI2.1; omega); rw [e] at hz; exact hz⟩, ((A.cut [0, 2, 3, 4, 5, 6, 7, 8] rfl).trunc 2 rfl rfl rfl (by simp only [List.length_cons, List.length_nil] at h0; omega))⟩))
   (fun h1 A => N hX 12 A rfl rfl fun A => RETN hX A rfl rfl rfl h0 rfl rfl rfl rfl (by unfold amoV; rw [show idxS amoN q = -1 from hI1.2.fi (by show 32 ≤ _; have := hI1.1; omega)]; rfl) rfl)
section
variable {ws : List Tk} {s : Old.Rs} {i : Old.Ins} {z : Bool}
end
section
variable {ws : List Tk} {s : Old.Rs} {i : Old.Ins}
theorem bits_s (h : s.e ≠ 0) : bitsV ws s = (s, 0) := by unfold bitsV; rw [if_neg (fun e => h (eq_of_beq e))]
theorem bits_n (h : s.e = 0) (hb : ¬ (s.p < ws.length ∧ (ws.getD s.p tok0).kind = 1 ∧ ¬ Old.idxL [[114], [119], [114, 119]] (ws.getD s.p tok0).text 0 < 0)) : bitsV ws s = (Old.oddR ws true s, 0) := by
  unfold bitsV; rw [if_pos (beq_iff_eq.2 h)]
  by_cases hl : s.p < ws.length
  · rw [tk_get hl]
    simp only
    rw [if_neg]
    intro hc
    rw [Bool.and_eq_true] at hc
    exact hb ⟨hl, eq_of_beq hc.1, by simpa using hc.2⟩
  · rw [tk_non hl]
theorem bits_y {n : Int} (h : s.e = 0) (hl : s.p < ws.length) (hk : (ws.getD s.p tok0).kind = 1) (hn : Old.idxL [[114], [119], [114, 119]] (ws.getD s.p tok0).text 0 = n) (h0 : 0 ≤ n) : bitsV ws s = (⟨s.e, s.a, nxK ws s.p⟩, n + 1) := by
  unfold bitsV; rw [if_pos (beq_iff_eq.2 h), tk_get hl, nxK_y hl]
  simp only
  rw [hn, hk, decide_eq_false (by omega)]; rfl
theorem bits_le (h : s.p ≤ ws.length) : (bitsV ws s).1.p ≤ ws.length := by
  by_cases he : s.e = 0
  · by_cases hb : s.p < ws.length ∧ (ws.getD s.p tok0).kind = 1 ∧ ¬ Old.idxL [[114], [119], [114, 119]] (ws.getD s.p tok0).text 0 < 0
    · rw [bits_y he hb.1 hb.2.1 rfl (by omega)]; exact nxK_le h
    · rw [bits_n he hb]; exact odd_le h
  · rw [bits_s he]; exact h
theorem threeG_le {rf : List UInt8 → Int} (h : s.p ≤ ws.length) : (threeG rf ws s i).1.p ≤ ws.length := memG_le (mark_le (regG_le (mark_le (regG_le h))))
theorem ix3_no {q : List UInt8} (h1 : q ≠ [114]) (h2 : q ≠ [119]) (h3 : q ≠ [114, 119]) : Old.idxL [[114], [119], [114, 119]] q 0 = -1 := by
  unfold Old.idxL Old.idxL Old.idxL Old.idxL
  rw [Old.eqL_no (fun e => h1 e.symm), Old.eqL_no (fun e => h2 e.symm), Old.eqL_no (fun e => h3 e.symm)]; rfl
end
theorem rbits_ (ar : Int) (ws : List Tk) (cw : Nat) (s : Old.Rs) (hk : s.p ≤ ws.length) (hn : ws.length ≤ 1000000) (hw : WsOK ws) : Fn Tryz.prog 75 [.ptr 0 0] [some (.blk [.int .i64 ar, .ptr 1 0, .int .i64 s.e, .int .i64 s.a]), some (.blk [.sl 2 ws.length cw, .int .i64 ((s.p : Nat) : Int)]), some (.lst 4 ws.length (fun zz => tkc (ws.getD zz tok0)))] (Rt (.int .i64 ((bitsV ws s).2)) [some (.blk [.int .i64 ar, .ptr 1 0, .int .i64 (((bitsV ws s).1).e), .int .i64 (((bitsV ws s).1).a)]), some (.blk [.sl 2 ws.length cw, .int .i64 ((((bitsV ws s).1).p : Nat) : Int)]), some (.lst 4 ws.length (fun zz => tkc (ws.getD zz tok0)))]) :=
 enterM (n := 43) (by kernel_rfl) Tryz.func75 rfl rfl rfl fun G w a h0 A => N hX 11 A rfl rfl fun A => CALL1 [1, 2] (rpeek_ ws cw s.p hk hn) A rfl rfl rfl rfl rfl rfl rfl fun A => N hX 18 A rfl rfl fun A => forkN 18 A rfl
  (fun h1 A => N hX 7 A rfl rfl fun A => RETN hX A rfl rfl rfl h0 rfl rfl rfl rfl (by rw [bits_s h1] <;> rfl) (by rw [bits_s h1] <;> rfl))
  (fun h1 A => N hX 19 A rfl rfl fun A => fork 24 A rfl
   (fun h2 A => N hX 14 A rfl rfl fun A => forkE 27 A rfl
    (fun h3 A => N hX 13 A rfl rfl fun A => forkE 34 A rfl
     (fun h4 A => absurd h4 (by decide))
     (fun h4 A => N hX 9 A rfl rfl fun A => CALL1 [1, 2] (rnext_ ws cw s.p hk hn) A rfl rfl rfl rfl rfl rfl rfl fun A => N hX 9 A rfl rfl fun A => RETN hX A rfl rfl rfl h0 rfl rfl rfl rfl (by rw [bits_y (n := 0) h1 (of_decide_eq_true (Bool.and_eq_true _ _ ▸ h2).1) (eq_of_beq (Bool.and_eq_true _ _ ▸ h2).2) (by rw [h3]; decide) (by decide)] <;> rfl) (by rw [bits_y (n := 0) h1 (of_decide_eq_true (Bool.and_eq_true _ _ ▸ h2).1) (eq_of_beq (Bool.and_eq_true _ _ ▸ h2).2) (by rw [h3]; decide) (by decide)] <;> rfl)))
    (fun h3 A => N hX 7 A rfl rfl fun A => forkE 29 A rfl
     (fun h5 A => N hX 13 A rfl rfl fun A => forkE 34 A rfl
      (fun h6 A => absurd h6 (by decide))
      (fun h6 A => N hX 9 A rfl rfl fun A => CALL1 [1, 2] (rnext_ ws cw s.p hk hn) A rfl rfl rfl rfl rfl rfl rfl fun A => N hX 9 A rfl rfl fun A => RETN hX A rfl rfl rfl h0 rfl rfl rfl rfl (by rw [bits_y (n := 1) h1 (of_decide_eq_true (Bool.and_eq_true _ _ ▸ h2).1) (eq_of_beq (Bool.and_eq_true _ _ ▸ h2).2) (by rw [h5]; decide) (by decide)] <;> rfl) (by rw [bits_y (n := 1) h1 (of_decide_eq_true (Bool.and_eq_true _ _ ▸ h2).1) (eq_of_beq (Bool.and_eq_true _ _ ▸ h2).2) (by rw [h5]; decide) (by decide)] <;> rfl)))
     (fun h5 A => N hX 7 A rfl rfl fun A => forkE 31 A rfl
      (fun h7 A => N hX 13 A rfl rfl fun A => forkE 34 A rfl
       (fun h8 A => absurd h8 (by decide))
       (fun h8 A => N hX 9 A rfl rfl fun A => CALL1 [1, 2] (rnext_ ws cw s.p hk hn) A rfl rfl rfl rfl rfl rfl rfl fun A => N hX 9 A rfl rfl fun A => RETN hX A rfl rfl rfl h0 rfl rfl rfl rfl (by rw [bits_y (n := 2) h1 (of_decide_eq_true (Bool.and_eq_true _ _ ▸ h2).1) (eq_of_beq (Bool.and_eq_true _ _ ▸ h2).2) (by rw [h7]; decide) (by decide)] <;> rfl) (by rw [bits_y (n := 2) h1 (of_decide_eq_true (Bool.and_eq_true _ _ ▸ h2).1) (eq_of_beq (Bool.and_eq_true _ _ ▸ h2).2) (by rw [h7]; decide) (by decide)] <;> rfl)))
      (fun h7 A => N hX 11 A rfl rfl fun A => forkE 34 A rfl
       (fun h9 A => N hX 4 A rfl rfl fun A => CALL1 [0, 1, 2] (roddT_ ar ws cw s hk hn hw) A rfl rfl rfl rfl rfl rfl rfl fun A => N hX 8 A rfl rfl fun A => RETN hX A rfl rfl rfl h0 rfl rfl rfl rfl (by rw [bits_n h1 (by rintro ⟨_, _, z3⟩; exact z3 (by rw [ix3_no h3 h5 h7]; decide))] <;> rfl) (by rw [bits_n h1 (by rintro ⟨_, _, z3⟩; exact z3 (by rw [ix3_no h3 h5 h7]; decide))] <;> rfl))
       (fun h9 A => absurd rfl h9)))))
   (fun h2 A => N hX 10 A rfl rfl fun A => forkE 34 A rfl
    (fun h10 A => N hX 4 A rfl rfl fun A => CALL1 [0, 1, 2] (roddT_ ar ws cw s hk hn hw) A rfl rfl rfl rfl rfl rfl rfl fun A => N hX 8 A rfl rfl fun A => RETN hX A rfl rfl rfl h0 rfl rfl rfl rfl (by rw [bits_n h1 (by rintro ⟨z1, z2, _⟩; have hz := h2; rw [decide_eq_true z1, z2] at hz; exact absurd hz (by decide))] <;> rfl) (by rw [bits_n h1 (by rintro ⟨z1, z2, _⟩; have hz := h2; rw [decide_eq_true z1, z2] at hz; exact absurd hz (by decide))] <;> rfl))
    (fun h10 A => absurd rfl h10)))
theorem rthree_ (ar : Int) (ws : List Tk) (cw : Nat) (s : Old.Rs) (i : Old.Ins) (hk : s.p ≤ ws.length) (hn : ws.length ≤ 1000000) (hw : WsOK ws) (rf : List UInt8 → Int) (hrf : ∀ q : List UInt8, Fn Tryz.prog 18 [.int .i64 ar, .str q] [] (Rt (.int .i64 (rf q)) [])) : Fn Tryz.prog 74 [.ptr 0 0, .ptr 3 1, .ptr 3 2, .ptr 3 0] [some (.blk [.int .i64 ar, .ptr 1 0, .int .i64 s.e, .int .i64 s.a]), some (.blk [.sl 2 ws.length cw, .int .i64 ((s.p : Nat) : Int)]), some (.lst 4 ws.length (fun zz => tkc (ws.getD zz tok0))), some (.blk (oiQ9 i))] (Rt (.tup []) [some (.blk [.int .i64 ar, .ptr 1 0, .int .i64 (((threeG rf ws s i).1).e), .int .i64 (((threeG rf ws s i).1).a)]), some (.blk [.sl 2 ws.length cw, .int .i64 ((((threeG rf ws s i).1).p : Nat) : Int)]), some (.lst 4 ws.length (fun zz => tkc (ws.getD zz tok0))), some (.blk (oiQ9 ((threeG rf ws s i).2)))]) :=
 enterM (n := 23) (by kernel_rfl) Tryz.func74 rfl rfl rfl fun G w a h0 A => N hX 4 A rfl rfl fun A => CALL1 [0, 1, 2] (rreg_ ar ws cw s hk hn hw rf hrf) A rfl rfl rfl rfl rfl rfl rfl fun A => N hX 7 A rfl rfl fun A => CALL1 [0, 1, 2] (rmk_ ar ws cw ((regG rf ws s).1) [44] (regG_le hk) hn hw) A rfl rfl rfl rfl rfl rfl rfl fun A => N hX 6 A rfl rfl fun A => CALL1 [0, 1, 2] (rreg_ ar ws cw (Old.markR ws [44] ((regG rf ws s).1)) (mark_le (regG_le hk)) hn hw rf hrf) A rfl rfl rfl rfl rfl rfl rfl fun A => N hX 7 A rfl rfl fun A => CALL1 [0, 1, 2] (rmk_ ar ws cw ((regG rf ws (Old.markR ws [44] ((regG rf ws s).1))).1) [44] (regG_le (mark_le (regG_le hk))) hn hw) A rfl rfl rfl rfl rfl rfl rfl fun A => N hX 5 A rfl rfl fun A => CALL1 [0, 1, 2, 3] (rmem_ ar ws cw (Old.markR ws [44] ((regG rf ws (Old.markR ws [44] ((regG rf ws s).1))).1)) (Old.Ins.mk i.op ((regG rf ws s).2) ((regG rf ws (Old.markR ws [44] ((regG rf ws s).1))).2) i.b i.imm i.loc i.off i.index i.size i.fn i.acq i.weak i.rel i.pred i.succ i.to i.zero) (mark_le (regG_le (mark_le (regG_le hk)))) hn hw rf hrf) A rfl rfl rfl rfl rfl rfl rfl fun A => N hX 1 A rfl rfl fun A => ENDN (RETN hX A rfl rfl rfl h0 rfl rfl rfl rfl rfl rfl)
def riscvR (ws : List Tk) (s : Old.Rs) (i : Old.Ins) (q : List UInt8) : (Bool × List UInt8) × Old.Rs × Old.Ins := if ((q == [108, 105]) || (q == [109, 118])) = true then if q = [108, 105] then ((true, []), ((Old.numS ws (Old.markR ws [44] ((regG regV ws s).1))).1), (Old.Ins.mk 1 ((regG regV ws s).2) i.a i.b ((Old.numS ws (Old.markR ws [44] ((regG regV ws s).1))).2) i.loc i.off i.index i.size i.fn i.acq i.weak i.rel i.pred i.succ i.to i.zero)) else ((true, []), ((regG regV ws (Old.markR ws [44] ((regG regV ws s).1))).1), (Old.Ins.mk 2 ((regG regV ws s).2) ((regG regV ws (Old.markR ws [44] ((regG regV ws s).1))).2) i.b i.imm i.loc i.off i.index i.size i.fn i.acq i.weak i.rel i.pred i.succ i.to i.zero)) else if ((aluV q).1) > 0 then if ((aluV q).2) = true then ((true, []), ((Old.numS ws (Old.markR ws [44] ((regG regV ws (Old.markR ws [44] ((regG regV ws s).1))).1))).1), (Old.Ins.mk 3 ((regG regV ws s).2) ((regG regV ws (Old.markR ws [44] ((regG regV ws s).1))).2) i.b ((Old.numS ws (Old.markR ws [44] ((regG regV ws (Old.markR ws [44] ((regG regV ws s).1))).1))).2) i.loc i.off i.index i.size ((aluV q).1) i.acq i.weak i.rel i.pred i.succ i.to i.zero)) else ((true, []), ((regG regV ws (Old.markR ws [44] ((regG regV ws (Old.markR ws [44] ((regG regV ws s).1))).1))).1), (Old.Ins.mk 3 ((regG regV ws s).2) ((regG regV ws (Old.markR ws [44] ((regG regV ws s).1))).2) ((regG regV ws (Old.markR ws [44] ((regG regV ws (Old.markR ws [44] ((regG regV ws s).1))).1))).2) i.imm i.loc i.off i.index i.size ((aluV q).1) i.acq i.weak i.rel i.pred i.succ i.to i.zero)) else if (szV q [108]) > 0 then ((true, []), ((memG regV ws (Old.markR ws [44] ((regG regV ws s).1)) (Old.Ins.mk 4 ((regG regV ws s).2) i.a i.b i.imm i.loc i.off i.index (szV q [108]) i.fn i.acq i.weak i.rel i.pred i.succ i.to i.zero)).1), ((memG regV ws (Old.markR ws [44] ((regG regV ws s).1)) (Old.Ins.mk 4 ((regG regV ws s).2) i.a i.b i.imm i.loc i.off i.index (szV q [108]) i.fn i.acq i.weak i.rel i.pred i.succ i.to i.zero)).2)) else if (szV q [115]) > 0 then ((true, []), ((memG regV ws (Old.markR ws [44] ((regG regV ws s).1)) (Old.Ins.mk 5 i.dst ((regG regV ws s).2) i.b i.imm i.loc i.off i.index (szV q [115]) i.fn i.acq i.weak i.rel i.pred i.succ i.to i.zero)).1), ((memG regV ws (Old.markR ws [44] ((regG regV ws s).1)) (Old.Ins.mk 5 i.dst ((regG regV ws s).2) i.b i.imm i.loc i.off i.index (szV q [115]) i.fn i.acq i.weak i.rel i.pred i.succ i.to i.zero)).2)) else if ((amoV q).1) > 0 then ((true, []), ((threeG regV ws s (Old.Ins.mk 6 i.dst i.a i.b i.imm i.loc i.off i.index ((amoV q).2.1) ((amoV q).1) ((amoV q).2.2.1) i.weak ((amoV q).2.2.2) i.pred i.succ i.to i.zero)).1), ((threeG regV ws s (Old.Ins.mk 6 i.dst i.a i.b i.imm i.loc i.off i.index ((amoV q).2.1) ((amoV q).1) ((amoV q).2.2.1) i.weak ((amoV q).2.2.2) i.pred i.succ i.to i.zero)).2)) else if q = [102, 101, 110, 99, 101] then ((true, []), ((bitsV ws (Old.markR ws [44] ((bitsV ws s).1))).1), (Old.Ins.mk 7 i.dst i.a i.b i.imm i.loc i.off i.index i.size i.fn i.acq i.weak i.rel ((bitsV ws s).2) ((bitsV ws (Old.markR ws [44] ((bitsV ws s).1))).2) i.to i.zero)) else if ((q == [98, 101, 113, 122]) || (q == [98, 110, 101, 122])) = true then ((true, (branG regV ws s i (q == [98, 101, 113, 122])).1), ((branG regV ws s i (q == [98, 101, 113, 122])).2.1), ((branG regV ws s i (q == [98, 101, 113, 122])).2.2)) else ((false, []), s, i)
theorem rriscv_ (ws : List Tk) (cw : Nat) (s : Old.Rs) (i : Old.Ins) (q : List UInt8) (hk : s.p ≤ ws.length) (hn : ws.length ≤ 1000000) (hw : WsOK ws) : Fn Tryz.prog 34 [.ptr 0 0, .str q, .ptr 3 0] [some (.blk [.int .i64 2, .ptr 1 0, .int .i64 s.e, .int .i64 s.a]), some (.blk [.sl 2 ws.length cw, .int .i64 ((s.p : Nat) : Int)]), some (.lst 4 ws.length (fun zz => tkc (ws.getD zz tok0))), some (.blk (oiQ9 i))] (Rt (.tup [.bool ((riscvR ws s i q).1.1), .str ((riscvR ws s i q).1.2)]) [some (.blk [.int .i64 2, .ptr 1 0, .int .i64 (((riscvR ws s i q).2.1).e), .int .i64 (((riscvR ws s i q).2.1).a)]), some (.blk [.sl 2 ws.length cw, .int .i64 ((((riscvR ws s i q).2.1).p : Nat) : Int)]), some (.lst 4 ws.length (fun zz => tkc (ws.getD zz tok0))), some (.blk (oiQ9 ((riscvR ws s i q).2.2)))]) :=
 enterM (n := 200) (by kernel_rfl) Tryz.func34 rfl rfl rfl fun G w a h0 A => N hX 9 A rfl rfl fun A => CALL1 [] (ralu_v q) A rfl rfl rfl rfl rfl rfl rfl fun A => N hX 10 A rfl rfl fun A => CALL1 [] (rsized_v q [108]) A rfl rfl rfl rfl rfl rfl rfl fun A => N hX 6 A rfl rfl fun A => CALL1 [] (rsized_v q [115]) A rfl rfl rfl rfl rfl rfl rfl fun A => N hX 6 A rfl rfl fun A => CALL1 [] (ramo_ q) A rfl rfl rfl rfl rfl rfl rfl fun A => N hX 24 A rfl rfl fun A => fork 32 A rfl
  (fun h1 A => N hX 5 A rfl rfl fun A => CALL1 [0, 1, 2] (rreg_ 2 ws cw s hk hn hw regV rregn_v) A rfl rfl rfl rfl rfl rfl rfl fun A => N hX 8 A rfl rfl fun A => CALL1 [0, 1, 2] (rmk_ 2 ws cw ((regG regV ws s).1) [44] (regG_le hk) hn hw) A rfl rfl rfl rfl rfl rfl rfl fun A => N hX 16 A rfl rfl fun A => forkE 50 A rfl
   (fun h2 A => N hX 12 A rfl rfl fun A => CALL1 [0, 1, 2] (rimm_v ws cw (Old.markR ws [44] ((regG regV ws s).1)) (mark_le (regG_le hk)) hn hw) A rfl rfl rfl rfl rfl rfl rfl fun A => N hX 13 A rfl rfl fun A => RETN hX A rfl rfl rfl h0 rfl rfl rfl rfl (by unfold riscvR; rw [if_pos h1, if_pos h2] <;> rfl) (by unfold riscvR; rw [if_pos h1, if_pos h2] <;> rfl))
   (fun h2 A => N hX 4 A rfl rfl fun A => CALL1 [0, 1, 2] (rreg_ 2 ws cw (Old.markR ws [44] ((regG regV ws s).1)) (mark_le (regG_le hk)) hn hw regV rregn_v) A rfl rfl rfl rfl rfl rfl rfl fun A => N hX 13 A rfl rfl fun A => RETN hX A rfl rfl rfl h0 rfl rfl rfl rfl (by unfold riscvR; rw [if_pos h1, if_neg (h2)] <;> rfl) (by unfold riscvR; rw [if_pos h1, if_neg (h2)] <;> rfl)))
  (fun h1 A => N hX 8 A rfl rfl fun A => forkD 64 A rfl
   (fun h3 A => N hX 22 A rfl rfl fun A => CALL1 [0, 1, 2] (rreg_ 2 ws cw s hk hn hw regV rregn_v) A rfl rfl rfl rfl rfl rfl rfl fun A => N hX 8 A rfl rfl fun A => CALL1 [0, 1, 2] (rmk_ 2 ws cw ((regG regV ws s).1) [44] (regG_le hk) hn hw) A rfl rfl rfl rfl rfl rfl rfl fun A => N hX 6 A rfl rfl fun A => CALL1 [0, 1, 2] (rreg_ 2 ws cw (Old.markR ws [44] ((regG regV ws s).1)) (mark_le (regG_le hk)) hn hw regV rregn_v) A rfl rfl rfl rfl rfl rfl rfl fun A => N hX 8 A rfl rfl fun A => CALL1 [0, 1, 2] (rmk_ 2 ws cw ((regG regV ws (Old.markR ws [44] ((regG regV ws s).1))).1) [44] (regG_le (mark_le (regG_le hk))) hn hw) A rfl rfl rfl rfl rfl rfl rfl fun A => N hX 7 A rfl rfl fun A => fork 88 A rfl
    (fun h4 A => N hX 4 A rfl rfl fun A => CALL1 [0, 1, 2] (rimm_v ws cw (Old.markR ws [44] ((regG regV ws (Old.markR ws [44] ((regG regV ws s).1))).1)) (mark_le (regG_le (mark_le (regG_le hk)))) hn hw) A rfl rfl rfl rfl rfl rfl rfl fun A => N hX 13 A rfl rfl fun A => RETN hX A rfl rfl rfl h0 rfl rfl rfl rfl (by unfold riscvR; rw [if_neg (ne_true_of_eq_false h1), if_pos h3, if_pos h4] <;> rfl) (by unfold riscvR; rw [if_neg (ne_true_of_eq_false h1), if_pos h3, if_pos h4] <;> rfl))
    (fun h4 A => N hX 4 A rfl rfl fun A => CALL1 [0, 1, 2] (rreg_ 2 ws cw (Old.markR ws [44] ((regG regV ws (Old.markR ws [44] ((regG regV ws s).1))).1)) (mark_le (regG_le (mark_le (regG_le hk)))) hn hw regV rregn_v) A rfl rfl rfl rfl rfl rfl rfl fun A => N hX 13 A rfl rfl fun A => RETN hX A rfl rfl rfl h0 rfl rfl rfl rfl (by unfold riscvR; rw [if_neg (ne_true_of_eq_false h1), if_pos h3, if_neg (ne_true_of_eq_false h4)] <;> rfl) (by unfold riscvR; rw [if_neg (ne_true_of_eq_false h1), if_pos h3, if_neg (ne_true_of_eq_false h4)] <;> rfl)))
   (fun h3 A => N hX 8 A rfl rfl fun A => forkD 99 A rfl
    (fun h5 A => N hX 22 A rfl rfl fun A => CALL1 [0, 1, 2] (rreg_ 2 ws cw s hk hn hw regV rregn_v) A rfl rfl rfl rfl rfl rfl rfl fun A => N hX 8 A rfl rfl fun A => CALL1 [0, 1, 2] (rmk_ 2 ws cw ((regG regV ws s).1) [44] (regG_le hk) hn hw) A rfl rfl rfl rfl rfl rfl rfl fun A => N hX 5 A rfl rfl fun A => CALL1 [0, 1, 2, 3] (rmem_ 2 ws cw (Old.markR ws [44] ((regG regV ws s).1)) (Old.Ins.mk 4 ((regG regV ws s).2) i.a i.b i.imm i.loc i.off i.index (szV q [108]) i.fn i.acq i.weak i.rel i.pred i.succ i.to i.zero) (mark_le (regG_le hk)) hn hw regV rregn_v) A rfl rfl rfl rfl rfl rfl rfl fun A => N hX 10 A rfl rfl fun A => RETN hX A rfl rfl rfl h0 rfl rfl rfl rfl (by unfold riscvR; rw [if_neg (ne_true_of_eq_false h1), if_neg h3, if_pos h5] <;> rfl) (by unfold riscvR; rw [if_neg (ne_true_of_eq_false h1), if_neg h3, if_pos h5] <;> rfl))
    (fun h5 A => N hX 8 A rfl rfl fun A => forkD 119 A rfl
     (fun h6 A => N hX 22 A rfl rfl fun A => CALL1 [0, 1, 2] (rreg_ 2 ws cw s hk hn hw regV rregn_v) A rfl rfl rfl rfl rfl rfl rfl fun A => N hX 8 A rfl rfl fun A => CALL1 [0, 1, 2] (rmk_ 2 ws cw ((regG regV ws s).1) [44] (regG_le hk) hn hw) A rfl rfl rfl rfl rfl rfl rfl fun A => N hX 5 A rfl rfl fun A => CALL1 [0, 1, 2, 3] (rmem_ 2 ws cw (Old.markR ws [44] ((regG regV ws s).1)) (Old.Ins.mk 5 i.dst ((regG regV ws s).2) i.b i.imm i.loc i.off i.index (szV q [115]) i.fn i.acq i.weak i.rel i.pred i.succ i.to i.zero) (mark_le (regG_le hk)) hn hw regV rregn_v) A rfl rfl rfl rfl rfl rfl rfl fun A => N hX 10 A rfl rfl fun A => RETN hX A rfl rfl rfl h0 rfl rfl rfl rfl (by unfold riscvR; rw [if_neg (ne_true_of_eq_false h1), if_neg h3, if_neg h5, if_pos h6] <;> rfl) (by unfold riscvR; rw [if_neg (ne_true_of_eq_false h1), if_neg h3, if_neg h5, if_pos h6] <;> rfl))
     (fun h6 A => N hX 8 A rfl rfl fun A => forkD 139 A rfl
      (fun h7 A => N hX 45 A rfl rfl fun A => DRAWN hX hmo [] [(8, .tup [], [some (.blk [.int .i64 2, .ptr 1 0, .int .i64 (((threeG regV ws s (Old.Ins.mk 6 i.dst i.a i.b i.imm i.loc i.off i.index ((amoV q).2.1) ((amoV q).1) ((amoV q).2.2.1) i.weak ((amoV q).2.2.2) i.pred i.succ i.to i.zero)).1).e), .int .i64 (((threeG regV ws s (Old.Ins.mk 6 i.dst i.a i.b i.imm i.loc i.off i.index ((amoV q).2.1) ((amoV q).1) ((amoV q).2.2.1) i.weak ((amoV q).2.2.2) i.pred i.succ i.to i.zero)).1).a)]), some (.blk [.sl 2 ws.length cw, .int .i64 ((((threeG regV ws s (Old.Ins.mk 6 i.dst i.a i.b i.imm i.loc i.off i.index ((amoV q).2.1) ((amoV q).1) ((amoV q).2.2.1) i.weak ((amoV q).2.2.2) i.pred i.succ i.to i.zero)).1).p : Nat) : Int)]), some (.lst 4 ws.length (fun zz => tkc (ws.getD zz tok0))), some (.blk (oiQ9 ((threeG regV ws s (Old.Ins.mk 6 i.dst i.a i.b i.imm i.loc i.off i.index ((amoV q).2.1) ((amoV q).1) ((amoV q).2.2.1) i.weak ((amoV q).2.2.2) i.pred i.succ i.to i.zero)).2)))])] A rfl rfl rfl rfl (by kernel_rfl) ⟨callE [0, 1, 2, 3] (rthree_ 2 ws cw s (Old.Ins.mk 6 i.dst i.a i.b i.imm i.loc i.off i.index ((amoV q).2.1) ((amoV q).1) ((amoV q).2.2.1) i.weak ((amoV q).2.2.2) i.pred i.succ i.to i.zero) hk hn hw regV rregn_v) rfl rfl rfl rfl rfl rfl rfl, trivial⟩ trivial fun A => N hX 9 A rfl rfl fun A => RETN hX A rfl rfl rfl h0 rfl rfl rfl rfl (by unfold riscvR; rw [if_neg (ne_true_of_eq_false h1), if_neg h3, if_neg h5, if_neg h6, if_pos h7] <;> rfl) (by unfold riscvR; rw [if_neg (ne_true_of_eq_false h1), if_neg h3, if_neg h5, if_neg h6, if_pos h7] <;> rfl))
      (fun h7 A => N hX 8 A rfl rfl fun A => forkE 170 A rfl
       (fun h8 A => N hX 13 A rfl rfl fun A => CALL1 [0, 1, 2] (rbits_ 2 ws cw s hk hn hw) A rfl rfl rfl rfl rfl rfl rfl fun A => N hX 8 A rfl rfl fun A => CALL1 [0, 1, 2] (rmk_ 2 ws cw ((bitsV ws s).1) [44] (bits_le hk) hn hw) A rfl rfl rfl rfl rfl rfl rfl fun A => N hX 5 A rfl rfl fun A => CALL1 [0, 1, 2] (rbits_ 2 ws cw (Old.markR ws [44] ((bitsV ws s).1)) (mark_le (bits_le hk)) hn hw) A rfl rfl rfl rfl rfl rfl rfl fun A => N hX 13 A rfl rfl fun A => RETN hX A rfl rfl rfl h0 rfl rfl rfl rfl (by unfold riscvR; rw [if_neg (ne_true_of_eq_false h1), if_neg h3, if_neg h5, if_neg h6, if_neg h7, if_pos h8] <;> rfl) (by unfold riscvR; rw [if_neg (ne_true_of_eq_false h1), if_neg h3, if_neg h5, if_neg h6, if_neg h7, if_pos h8] <;> rfl))
       (fun h8 A => N hX 12 A rfl rfl fun A => fork 188 A rfl
        (fun h9 A => N hX 7 A rfl rfl fun A => CALL1 [0, 1, 2, 3] (rbran_ 2 ws cw s i (q == [98, 101, 113, 122]) hk hn hw regV rregn_v) A rfl rfl rfl rfl rfl rfl rfl fun A => N hX 5 A rfl rfl fun A => RETN hX A rfl rfl rfl h0 rfl rfl rfl rfl (by unfold riscvR; rw [if_neg (ne_true_of_eq_false h1), if_neg h3, if_neg h5, if_neg h6, if_neg h7, if_neg (h8), if_pos h9] <;> rfl) (by unfold riscvR; rw [if_neg (ne_true_of_eq_false h1), if_neg h3, if_neg h5, if_neg h6, if_neg h7, if_neg (h8), if_pos h9] <;> rfl))
        (fun h9 A => N hX 8 A rfl rfl fun A => RETN hX A rfl rfl rfl h0 rfl rfl rfl rfl (by unfold riscvR; rw [if_neg (ne_true_of_eq_false h1), if_neg h3, if_neg h5, if_neg h6, if_neg h7, if_neg (h8), if_neg (ne_true_of_eq_false h9)] <;> rfl) (by unfold riscvR; rw [if_neg (ne_true_of_eq_false h1), if_neg h3, if_neg h5, if_neg h6, if_neg h7, if_neg (h8), if_neg (ne_true_of_eq_false h9)] <;> rfl))))))))
def frO (i : Old.Ins) : In := ⟨i.op, i.dst, i.a, i.b, i.imm, i.loc, i.off, i.index, i.size, i.fn, i.acq, i.weak, i.rel, i.pred, i.succ, i.to, i.zero⟩
section
variable {ws : List Tk} {s : Old.Rs} {i : Old.Ins}
theorem more_y (h : s.p < ws.length) : Old.moreR ws s = Old.failR s 25 (ws.getD s.p tok0).at_ := by unfold Old.moreR; rw [tk_get h]
theorem more_n (h : ¬ s.p < ws.length) : Old.moreR ws s = s := by unfold Old.moreR; rw [tk_non h]
theorem last_n (h : s.e ≠ 0) : Old.lastR ws s i = s := by unfold Old.lastR; rw [beq_eq_false_iff_ne.2 h]; rfl
theorem last_y (h : s.e = 0) (hr : Old.rightR (Old.asB i) 0 1 = 0) : Old.lastR ws s i = s := by unfold Old.lastR; rw [beq_iff_eq.2 h, beq_iff_eq.2 hr]; rfl
theorem last_b (hw : WsOK ws) (h : s.e = 0) (hr : Old.rightR (Old.asB i) 0 1 ≠ 0) : Old.lastR ws s i = Old.failR s 34 (atW ws 0) := by unfold Old.lastR; rw [beq_iff_eq.2 h, beq_eq_false_iff_ne.2 hr, where_at hw]; rfl
theorem asb_y (h : i.op = 9) : Old.asB i = { i with to := 1 } := by unfold Old.asB; rw [beq_iff_eq.2 h]; rfl
theorem asb_n (h : i.op ≠ 9) : Old.asB i = i := by unfold Old.asB; rw [beq_eq_false_iff_ne.2 h]; rfl
theorem out_y {l : List UInt8} (h : s.e = 0) : Old.outR s i l = (i, l, 0, 0) := by unfold Old.outR; rw [beq_iff_eq.2 h]; rfl
theorem out_n {l : List UInt8} (h : s.e ≠ 0) : Old.outR s i l = (Old.ins0, [], s.e, s.a) := by unfold Old.outR; rw [beq_eq_false_iff_ne.2 h]; rfl
theorem fin_y {r : (Bool × List UInt8) × Old.Rs × Old.Ins} (h : r.1.1 = true) : Old.finR ws r = Old.outR (Old.lastR ws (Old.moreR ws r.2.1) r.2.2) r.2.2 r.1.2 := by unfold Old.finR; rw [h]; rfl
theorem fin_n {r : (Bool × List UInt8) × Old.Rs × Old.Ins} (hw : WsOK ws) (h : r.1.1 = false) : Old.finR ws r = (Old.ins0, [], 21, atW ws 0) := by unfold Old.finR; rw [h, where_at hw]; rfl
end
theorem rblank5_   : Fn Tryz.prog 32 [] [] (Rt (.agg [.int .i64 0, .int .i64 (-1), .int .i64 (-1), .int .i64 (-1), .int .i64 0, .int .i64 0, .int .i64 0, .int .i64 (-1), .int .i64 0, .int .i64 0, .ff, .ff, .ff, .int .i64 0, .int .i64 0, .int .i64 0, .ff]) []) :=
 enterM (n := 2) (by kernel_rfl) Tryz.func32 rfl rfl rfl fun G w a h0 A => N hX 12 A rfl rfl fun A => RETN hX A rfl rfl rfl h0 rfl rfl rfl rfl rfl rfl
def parV (L : List Tk) : Old.Ins × List UInt8 × Int × Int := match L[0]? with
  | none => Old.badR L
  | some y => if y.kind == 1 then Old.finR L (riscvR L ⟨0, 0, 0 + 1⟩ Old.blank y.text) else Old.badR L
section
variable {ws : List Tk} {s : Old.Rs} {i : Old.Ins}
theorem pv_bad (h : ((!(decide (0 < ws.length))) || (!((ws.getD 0 tok0).kind == 1))) = true) : parV ws = (Old.ins0, [], (Old.oddR ws true ⟨0, 0, 0⟩).e, (Old.oddR ws true ⟨0, 0, 0⟩).a) := by
  unfold parV
  by_cases hl : 0 < ws.length
  · rw [tk_get hl]
    rw [decide_eq_true hl] at h
    simp only
    rw [if_neg]
    · rfl
    · revert h
      cases ((ws.getD 0 tok0).kind == 1) <;> decide
  · rw [tk_non hl]; rfl
theorem pv_go (h : ((!(decide (0 < ws.length))) || (!((ws.getD 0 tok0).kind == 1))) = false) : parV ws = Old.finR ws (riscvR ws ⟨0, 0, nxK ws 0⟩ Old.blank (ws.getD 0 tok0).text) := by
  unfold parV
  by_cases hl : 0 < ws.length
  · rw [tk_get hl, nxK_y hl]
    rw [decide_eq_true hl] at h
    simp only
    rw [if_pos]
    revert h
    cases ((ws.getD 0 tok0).kind == 1) <;> decide
  · rw [decide_eq_false hl] at h; cases h
end
theorem riscv_le {ws : List Tk} {s : Old.Rs} {i : Old.Ins} {q : List UInt8} (h : s.p ≤ ws.length) : (riscvR ws s i q).2.1.p ≤ ws.length := by
  unfold riscvR
  split
  · split
    · exact (num_le (mark_le (regG_le h)))
    · exact (regG_le (mark_le (regG_le h)))
  · split
    · split
      · exact (num_le (mark_le (regG_le (mark_le (regG_le h)))))
      · exact (regG_le (mark_le (regG_le (mark_le (regG_le h)))))
    · split
      · exact (memG_le (mark_le (regG_le h)))
      · split
        · exact (memG_le (mark_le (regG_le h)))
        · split
          · exact (threeG_le h)
          · split
            · exact (bits_le (mark_le (bits_le h)))
            · split
              · exact (branG_le h)
              · exact h
theorem rparsev_ (ws : List Tk) (cw : Nat) (hn : ws.length ≤ 1000000) (hw : WsOK ws) : Fn Tryz.prog 12 [.int .i64 2, .sl 0 ws.length cw] [some (.lst 4 ws.length (fun zz => tkc (ws.getD zz tok0)))] (Rt (.tup [.agg (oiQ9 ((parV ws).1)), .str ((parV ws).2.1), .int .i64 ((parV ws).2.2.1), .int .i64 ((parV ws).2.2.2)]) [some (.lst 4 ws.length (fun zz => tkc (ws.getD zz tok0)))]) :=
 enterM (n := 140) (by kernel_rfl) Tryz.func12 rfl rfl rfl fun G w a h0 A => N hX 25 A rfl rfl fun A => CALL1 [2, 0] (rpeek_ ws cw 0 (Nat.zero_le _) hn) A rfl rfl rfl rfl rfl rfl rfl fun A => N hX 14 A rfl rfl fun A => CALL1 [2, 0] (rwhere_ ws cw 0 (Nat.zero_le _) hn hw) A rfl rfl rfl rfl rfl rfl rfl fun A => N hX 15 A rfl rfl fun A => fork 43 A rfl
  (fun h1 A => N hX 4 A rfl rfl fun A => CALL1 [3, 2, 0] (roddT_ 2 ws cw (⟨0, 0, 0⟩ : Old.Rs) (Nat.zero_le _) hn hw) A rfl rfl rfl rfl rfl rfl rfl fun A => N hX 3 A rfl rfl fun A => DRAWN hX hmo [] [] A rfl rfl rfl rfl (by kernel_rfl) (effAll_nil _ _) trivial fun A => N hX 2 A rfl rfl fun A => RETN hX A rfl rfl rfl h0 rfl rfl rfl rfl (by rw [pv_bad h1] <;> rfl) rfl)
  (fun h1 A => N hX 9 A rfl rfl fun A => CALL1 [2, 0] (rnext_ ws cw 0 (Nat.zero_le _) hn) A rfl rfl rfl rfl rfl rfl rfl fun A => N hX 4 A rfl rfl fun A => CALL1 [] rblank5_ A rfl rfl rfl rfl rfl rfl rfl fun A => N hX 27 A rfl rfl fun A => forkE 62 A rfl
   (fun h2 A => absurd h2 (by decide))
   (fun h2 A => N hX 7 A rfl rfl fun A => forkE 71 A rfl
    (fun h3 A => N hX 5 A rfl rfl fun A => have A := A.asH (H' := [some (.lst 4 ws.length (fun zz => tkc (ws.getD zz tok0))), some (.blk [.int .i64 0, .int .i64 0, .int .i64 0, .int .i64 0, .int .i64 0, .int .i64 0, .int .i64 0, .int .i64 0, .int .i64 0, .int .i64 0, .ff, .ff, .ff, .int .i64 0, .int .i64 0, .int .i64 0, .ff]), some (.blk [.sl 0 ws.length cw, .int .i64 ((nxK ws 0 : Nat) : Int)]), some (.blk [.int .i64 2, .ptr 2 0, .int .i64 0, .int .i64 0]), some (.blk [.int .i64 ((ws.getD 0 tok0).kind), .str ((ws.getD 0 tok0).text), .int .i64 ((ws.getD 0 tok0).n), .int .i64 ((ws.getD 0 tok0).at_)]), some (.blk (oiQ9 Old.blank))]) rfl; CALL1 [3, 2, 0, 5] (rriscv_ ws cw (⟨0, 0, nxK ws 0⟩ : Old.Rs) Old.blank ((ws.getD 0 tok0).text) (nxK_le (Nat.zero_le _)) hn hw) A rfl rfl rfl rfl rfl rfl rfl fun A => N hX 15 A rfl rfl fun A => fork 90 A rfl
     (fun h4 A => N hX 12 A rfl rfl fun A => RETN hX A rfl rfl rfl h0 rfl rfl rfl rfl (by rw [pv_go h1, fin_n hw (by simpa using h4)] <;> rfl) rfl)
     (fun h4 A => N hX 9 A rfl rfl fun A => CALL1 [2, 0] (rpeek_ ws cw (((riscvR ws (⟨0, 0, nxK ws 0⟩ : Old.Rs) Old.blank ((ws.getD 0 tok0).text)).2.1).p) (riscv_le (nxK_le (Nat.zero_le _))) hn) A rfl rfl rfl rfl rfl rfl rfl fun A => N hX 14 A rfl rfl fun A => forkD 101 A rfl
      (fun h5 A => N hX 5 A rfl rfl fun A => CALL1 [3, 2, 0] (rfail_ 2 ws cw ((riscvR ws (⟨0, 0, nxK ws 0⟩ : Old.Rs) Old.blank ((ws.getD 0 tok0).text)).2.1) 25 ((ws.getD (((riscvR ws (⟨0, 0, nxK ws 0⟩ : Old.Rs) Old.blank ((ws.getD 0 tok0).text)).2.1).p) tok0).at_) (riscv_le (nxK_le (Nat.zero_le _))) hn hw) A rfl rfl rfl rfl rfl rfl rfl fun A => N hX 17 A rfl rfl fun A => forkE 109 A rfl
       (fun h6 A => N hX 15 A rfl rfl fun A => forkE 116 A rfl
        (fun h7 A => N hX 1 A rfl rfl fun A => CALL1 [] (fn_asX (rright_ (frO (Old.Ins.mk (((riscvR ws (⟨0, 0, nxK ws 0⟩ : Old.Rs) Old.blank ((ws.getD 0 tok0).text)).2.2).op) (((riscvR ws (⟨0, 0, nxK ws 0⟩ : Old.Rs) Old.blank ((ws.getD 0 tok0).text)).2.2).dst) (((riscvR ws (⟨0, 0, nxK ws 0⟩ : Old.Rs) Old.blank ((ws.getD 0 tok0).text)).2.2).a) (((riscvR ws (⟨0, 0, nxK ws 0⟩ : Old.Rs) Old.blank ((ws.getD 0 tok0).text)).2.2).b) (((riscvR ws (⟨0, 0, nxK ws 0⟩ : Old.Rs) Old.blank ((ws.getD 0 tok0).text)).2.2).imm) (((riscvR ws (⟨0, 0, nxK ws 0⟩ : Old.Rs) Old.blank ((ws.getD 0 tok0).text)).2.2).loc) (((riscvR ws (⟨0, 0, nxK ws 0⟩ : Old.Rs) Old.blank ((ws.getD 0 tok0).text)).2.2).off) (((riscvR ws (⟨0, 0, nxK ws 0⟩ : Old.Rs) Old.blank ((ws.getD 0 tok0).text)).2.2).index) (((riscvR ws (⟨0, 0, nxK ws 0⟩ : Old.Rs) Old.blank ((ws.getD 0 tok0).text)).2.2).size) (((riscvR ws (⟨0, 0, nxK ws 0⟩ : Old.Rs) Old.blank ((ws.getD 0 tok0).text)).2.2).fn) (((riscvR ws (⟨0, 0, nxK ws 0⟩ : Old.Rs) Old.blank ((ws.getD 0 tok0).text)).2.2).acq) (((riscvR ws (⟨0, 0, nxK ws 0⟩ : Old.Rs) Old.blank ((ws.getD 0 tok0).text)).2.2).weak) (((riscvR ws (⟨0, 0, nxK ws 0⟩ : Old.Rs) Old.blank ((ws.getD 0 tok0).text)).2.2).rel) (((riscvR ws (⟨0, 0, nxK ws 0⟩ : Old.Rs) Old.blank ((ws.getD 0 tok0).text)).2.2).pred) (((riscvR ws (⟨0, 0, nxK ws 0⟩ : Old.Rs) Old.blank ((ws.getD 0 tok0).text)).2.2).succ) 1 (((riscvR ws (⟨0, 0, nxK ws 0⟩ : Old.Rs) Old.blank ((ws.getD 0 tok0).text)).2.2).zero))) 0 1) (as_int (rright_o (frO (Old.Ins.mk (((riscvR ws (⟨0, 0, nxK ws 0⟩ : Old.Rs) Old.blank ((ws.getD 0 tok0).text)).2.2).op) (((riscvR ws (⟨0, 0, nxK ws 0⟩ : Old.Rs) Old.blank ((ws.getD 0 tok0).text)).2.2).dst) (((riscvR ws (⟨0, 0, nxK ws 0⟩ : Old.Rs) Old.blank ((ws.getD 0 tok0).text)).2.2).a) (((riscvR ws (⟨0, 0, nxK ws 0⟩ : Old.Rs) Old.blank ((ws.getD 0 tok0).text)).2.2).b) (((riscvR ws (⟨0, 0, nxK ws 0⟩ : Old.Rs) Old.blank ((ws.getD 0 tok0).text)).2.2).imm) (((riscvR ws (⟨0, 0, nxK ws 0⟩ : Old.Rs) Old.blank ((ws.getD 0 tok0).text)).2.2).loc) (((riscvR ws (⟨0, 0, nxK ws 0⟩ : Old.Rs) Old.blank ((ws.getD 0 tok0).text)).2.2).off) (((riscvR ws (⟨0, 0, nxK ws 0⟩ : Old.Rs) Old.blank ((ws.getD 0 tok0).text)).2.2).index) (((riscvR ws (⟨0, 0, nxK ws 0⟩ : Old.Rs) Old.blank ((ws.getD 0 tok0).text)).2.2).size) (((riscvR ws (⟨0, 0, nxK ws 0⟩ : Old.Rs) Old.blank ((ws.getD 0 tok0).text)).2.2).fn) (((riscvR ws (⟨0, 0, nxK ws 0⟩ : Old.Rs) Old.blank ((ws.getD 0 tok0).text)).2.2).acq) (((riscvR ws (⟨0, 0, nxK ws 0⟩ : Old.Rs) Old.blank ((ws.getD 0 tok0).text)).2.2).weak) (((riscvR ws (⟨0, 0, nxK ws 0⟩ : Old.Rs) Old.blank ((ws.getD 0 tok0).text)).2.2).rel) (((riscvR ws (⟨0, 0, nxK ws 0⟩ : Old.Rs) Old.blank ((ws.getD 0 tok0).text)).2.2).pred) (((riscvR ws (⟨0, 0, nxK ws 0⟩ : Old.Rs) Old.blank ((ws.getD 0 tok0).text)).2.2).succ) 1 (((riscvR ws (⟨0, 0, nxK ws 0⟩ : Old.Rs) Old.blank ((ws.getD 0 tok0).text)).2.2).zero))) 0 1))) A rfl rfl rfl rfl rfl rfl rfl fun A => N hX 4 A rfl rfl fun A => forkN 120 A rfl
         (fun h8 A => N hX 4 A rfl rfl fun A => CALL1 [3, 2, 0] (rfail_ 2 ws cw (Old.failR ((riscvR ws (⟨0, 0, nxK ws 0⟩ : Old.Rs) Old.blank ((ws.getD 0 tok0).text)).2.1) 25 ((ws.getD (((riscvR ws (⟨0, 0, nxK ws 0⟩ : Old.Rs) Old.blank ((ws.getD 0 tok0).text)).2.1).p) tok0).at_)) 34 (atW ws 0) (fail_le (riscv_le (nxK_le (Nat.zero_le _)))) hn hw) A rfl rfl rfl rfl rfl rfl rfl fun A => N hX 12 A rfl rfl fun A => forkN 128 A rfl
          (fun h9 A => N hX 2 A rfl rfl fun A => DRAWN hX hmo [] [] A rfl rfl rfl rfl (by kernel_rfl) (effAll_nil _ _) trivial fun A => N hX 2 A rfl rfl fun A => RETN hX A rfl rfl rfl h0 rfl rfl rfl rfl (by rw [pv_go h1, fin_y (by simpa using h4), more_y h5, last_b hw h7 (by rw [asb_y h6]; exact h8), out_n h9] <;> rfl) rfl)
          (fun h9 A => N hX 14 A rfl rfl fun A => RETN hX A rfl rfl rfl h0 rfl rfl rfl rfl (by rw [pv_go h1, fin_y (by simpa using h4), more_y h5, last_b hw h7 (by rw [asb_y h6]; exact h8), out_y h9] <;> rfl) rfl))
         (fun h8 A => N hX 13 A rfl rfl fun A => forkN 128 A rfl
          (fun h10 A => N hX 2 A rfl rfl fun A => DRAWN hX hmo [] [] A rfl rfl rfl rfl (by kernel_rfl) (effAll_nil _ _) trivial fun A => N hX 2 A rfl rfl fun A => RETN hX A rfl rfl rfl h0 rfl rfl rfl rfl (by rw [pv_go h1, fin_y (by simpa using h4), more_y h5, last_y h7 (by rw [asb_y h6]; exact h8), out_n h10] <;> rfl) rfl)
          (fun h10 A => N hX 14 A rfl rfl fun A => RETN hX A rfl rfl rfl h0 rfl rfl rfl rfl (by rw [pv_go h1, fin_y (by simpa using h4), more_y h5, last_y h7 (by rw [asb_y h6]; exact h8), out_y h10] <;> rfl) rfl)))
        (fun h7 A => N hX 19 A rfl rfl fun A => forkN 128 A rfl
         (fun h11 A => N hX 2 A rfl rfl fun A => DRAWN hX hmo [] [] A rfl rfl rfl rfl (by kernel_rfl) (effAll_nil _ _) trivial fun A => N hX 2 A rfl rfl fun A => RETN hX A rfl rfl rfl h0 rfl rfl rfl rfl (by rw [pv_go h1, fin_y (by simpa using h4), more_y h5, last_n h7, out_n h11] <;> rfl) rfl)
         (fun h11 A => N hX 14 A rfl rfl fun A => RETN hX A rfl rfl rfl h0 rfl rfl rfl rfl (by rw [pv_go h1, fin_y (by simpa using h4), more_y h5, last_n h7, out_y h11] <;> rfl) rfl)))
       (fun h6 A => N hX 12 A rfl rfl fun A => forkE 116 A rfl
        (fun h12 A => N hX 1 A rfl rfl fun A => CALL1 [] (fn_asX (rright_ (frO ((riscvR ws (⟨0, 0, nxK ws 0⟩ : Old.Rs) Old.blank ((ws.getD 0 tok0).text)).2.2)) 0 1) (as_int (rright_o (frO ((riscvR ws (⟨0, 0, nxK ws 0⟩ : Old.Rs) Old.blank ((ws.getD 0 tok0).text)).2.2)) 0 1))) A rfl rfl rfl rfl rfl rfl rfl fun A => N hX 4 A rfl rfl fun A => forkN 120 A rfl
         (fun h13 A => N hX 4 A rfl rfl fun A => CALL1 [3, 2, 0] (rfail_ 2 ws cw (Old.failR ((riscvR ws (⟨0, 0, nxK ws 0⟩ : Old.Rs) Old.blank ((ws.getD 0 tok0).text)).2.1) 25 ((ws.getD (((riscvR ws (⟨0, 0, nxK ws 0⟩ : Old.Rs) Old.blank ((ws.getD 0 tok0).text)).2.1).p) tok0).at_)) 34 (atW ws 0) (fail_le (riscv_le (nxK_le (Nat.zero_le _)))) hn hw) A rfl rfl rfl rfl rfl rfl rfl fun A => N hX 12 A rfl rfl fun A => forkN 128 A rfl
          (fun h14 A => N hX 2 A rfl rfl fun A => DRAWN hX hmo [] [] A rfl rfl rfl rfl (by kernel_rfl) (effAll_nil _ _) trivial fun A => N hX 2 A rfl rfl fun A => RETN hX A rfl rfl rfl h0 rfl rfl rfl rfl (by rw [pv_go h1, fin_y (by simpa using h4), more_y h5, last_b hw h12 (by rw [asb_n h6]; exact h13), out_n h14] <;> rfl) rfl)
          (fun h14 A => N hX 14 A rfl rfl fun A => RETN hX A rfl rfl rfl h0 rfl rfl rfl rfl (by rw [pv_go h1, fin_y (by simpa using h4), more_y h5, last_b hw h12 (by rw [asb_n h6]; exact h13), out_y h14] <;> rfl) rfl))
         (fun h13 A => N hX 13 A rfl rfl fun A => forkN 128 A rfl
          (fun h15 A => N hX 2 A rfl rfl fun A => DRAWN hX hmo [] [] A rfl rfl rfl rfl (by kernel_rfl) (effAll_nil _ _) trivial fun A => N hX 2 A rfl rfl fun A => RETN hX A rfl rfl rfl h0 rfl rfl rfl rfl (by rw [pv_go h1, fin_y (by simpa using h4), more_y h5, last_y h12 (by rw [asb_n h6]; exact h13), out_n h15] <;> rfl) rfl)
          (fun h15 A => N hX 14 A rfl rfl fun A => RETN hX A rfl rfl rfl h0 rfl rfl rfl rfl (by rw [pv_go h1, fin_y (by simpa using h4), more_y h5, last_y h12 (by rw [asb_n h6]; exact h13), out_y h15] <;> rfl) rfl)))
        (fun h12 A => N hX 19 A rfl rfl fun A => forkN 128 A rfl
         (fun h16 A => N hX 2 A rfl rfl fun A => DRAWN hX hmo [] [] A rfl rfl rfl rfl (by kernel_rfl) (effAll_nil _ _) trivial fun A => N hX 2 A rfl rfl fun A => RETN hX A rfl rfl rfl h0 rfl rfl rfl rfl (by rw [pv_go h1, fin_y (by simpa using h4), more_y h5, last_n h12, out_n h16] <;> rfl) rfl)
         (fun h16 A => N hX 14 A rfl rfl fun A => RETN hX A rfl rfl rfl h0 rfl rfl rfl rfl (by rw [pv_go h1, fin_y (by simpa using h4), more_y h5, last_n h12, out_y h16] <;> rfl) rfl))))
      (fun h5 A => N hX 18 A rfl rfl fun A => forkE 109 A rfl
       (fun h17 A => N hX 15 A rfl rfl fun A => forkE 116 A rfl
        (fun h18 A => N hX 1 A rfl rfl fun A => CALL1 [] (fn_asX (rright_ (frO (Old.Ins.mk (((riscvR ws (⟨0, 0, nxK ws 0⟩ : Old.Rs) Old.blank ((ws.getD 0 tok0).text)).2.2).op) (((riscvR ws (⟨0, 0, nxK ws 0⟩ : Old.Rs) Old.blank ((ws.getD 0 tok0).text)).2.2).dst) (((riscvR ws (⟨0, 0, nxK ws 0⟩ : Old.Rs) Old.blank ((ws.getD 0 tok0).text)).2.2).a) (((riscvR ws (⟨0, 0, nxK ws 0⟩ : Old.Rs) Old.blank ((ws.getD 0 tok0).text)).2.2).b) (((riscvR ws (⟨0, 0, nxK ws 0⟩ : Old.Rs) Old.blank ((ws.getD 0 tok0).text)).2.2).imm) (((riscvR ws (⟨0, 0, nxK ws 0⟩ : Old.Rs) Old.blank ((ws.getD 0 tok0).text)).2.2).loc) (((riscvR ws (⟨0, 0, nxK ws 0⟩ : Old.Rs) Old.blank ((ws.getD 0 tok0).text)).2.2).off) (((riscvR ws (⟨0, 0, nxK ws 0⟩ : Old.Rs) Old.blank ((ws.getD 0 tok0).text)).2.2).index) (((riscvR ws (⟨0, 0, nxK ws 0⟩ : Old.Rs) Old.blank ((ws.getD 0 tok0).text)).2.2).size) (((riscvR ws (⟨0, 0, nxK ws 0⟩ : Old.Rs) Old.blank ((ws.getD 0 tok0).text)).2.2).fn) (((riscvR ws (⟨0, 0, nxK ws 0⟩ : Old.Rs) Old.blank ((ws.getD 0 tok0).text)).2.2).acq) (((riscvR ws (⟨0, 0, nxK ws 0⟩ : Old.Rs) Old.blank ((ws.getD 0 tok0).text)).2.2).weak) (((riscvR ws (⟨0, 0, nxK ws 0⟩ : Old.Rs) Old.blank ((ws.getD 0 tok0).text)).2.2).rel) (((riscvR ws (⟨0, 0, nxK ws 0⟩ : Old.Rs) Old.blank ((ws.getD 0 tok0).text)).2.2).pred) (((riscvR ws (⟨0, 0, nxK ws 0⟩ : Old.Rs) Old.blank ((ws.getD 0 tok0).text)).2.2).succ) 1 (((riscvR ws (⟨0, 0, nxK ws 0⟩ : Old.Rs) Old.blank ((ws.getD 0 tok0).text)).2.2).zero))) 0 1) (as_int (rright_o (frO (Old.Ins.mk (((riscvR ws (⟨0, 0, nxK ws 0⟩ : Old.Rs) Old.blank ((ws.getD 0 tok0).text)).2.2).op) (((riscvR ws (⟨0, 0, nxK ws 0⟩ : Old.Rs) Old.blank ((ws.getD 0 tok0).text)).2.2).dst) (((riscvR ws (⟨0, 0, nxK ws 0⟩ : Old.Rs) Old.blank ((ws.getD 0 tok0).text)).2.2).a) (((riscvR ws (⟨0, 0, nxK ws 0⟩ : Old.Rs) Old.blank ((ws.getD 0 tok0).text)).2.2).b) (((riscvR ws (⟨0, 0, nxK ws 0⟩ : Old.Rs) Old.blank ((ws.getD 0 tok0).text)).2.2).imm) (((riscvR ws (⟨0, 0, nxK ws 0⟩ : Old.Rs) Old.blank ((ws.getD 0 tok0).text)).2.2).loc) (((riscvR ws (⟨0, 0, nxK ws 0⟩ : Old.Rs) Old.blank ((ws.getD 0 tok0).text)).2.2).off) (((riscvR ws (⟨0, 0, nxK ws 0⟩ : Old.Rs) Old.blank ((ws.getD 0 tok0).text)).2.2).index) (((riscvR ws (⟨0, 0, nxK ws 0⟩ : Old.Rs) Old.blank ((ws.getD 0 tok0).text)).2.2).size) (((riscvR ws (⟨0, 0, nxK ws 0⟩ : Old.Rs) Old.blank ((ws.getD 0 tok0).text)).2.2).fn) (((riscvR ws (⟨0, 0, nxK ws 0⟩ : Old.Rs) Old.blank ((ws.getD 0 tok0).text)).2.2).acq) (((riscvR ws (⟨0, 0, nxK ws 0⟩ : Old.Rs) Old.blank ((ws.getD 0 tok0).text)).2.2).weak) (((riscvR ws (⟨0, 0, nxK ws 0⟩ : Old.Rs) Old.blank ((ws.getD 0 tok0).text)).2.2).rel) (((riscvR ws (⟨0, 0, nxK ws 0⟩ : Old.Rs) Old.blank ((ws.getD 0 tok0).text)).2.2).pred) (((riscvR ws (⟨0, 0, nxK ws 0⟩ : Old.Rs) Old.blank ((ws.getD 0 tok0).text)).2.2).succ) 1 (((riscvR ws (⟨0, 0, nxK ws 0⟩ : Old.Rs) Old.blank ((ws.getD 0 tok0).text)).2.2).zero))) 0 1))) A rfl rfl rfl rfl rfl rfl rfl fun A => N hX 4 A rfl rfl fun A => forkN 120 A rfl
         (fun h19 A => N hX 4 A rfl rfl fun A => CALL1 [3, 2, 0] (rfail_ 2 ws cw ((riscvR ws (⟨0, 0, nxK ws 0⟩ : Old.Rs) Old.blank ((ws.getD 0 tok0).text)).2.1) 34 (atW ws 0) (riscv_le (nxK_le (Nat.zero_le _))) hn hw) A rfl rfl rfl rfl rfl rfl rfl fun A => N hX 12 A rfl rfl fun A => forkN 128 A rfl
          (fun h20 A => N hX 2 A rfl rfl fun A => DRAWN hX hmo [] [] A rfl rfl rfl rfl (by kernel_rfl) (effAll_nil _ _) trivial fun A => N hX 2 A rfl rfl fun A => RETN hX A rfl rfl rfl h0 rfl rfl rfl rfl (by rw [pv_go h1, fin_y (by simpa using h4), more_n h5, last_b hw h18 (by rw [asb_y h17]; exact h19), out_n h20] <;> rfl) rfl)
          (fun h20 A => N hX 14 A rfl rfl fun A => RETN hX A rfl rfl rfl h0 rfl rfl rfl rfl (by rw [pv_go h1, fin_y (by simpa using h4), more_n h5, last_b hw h18 (by rw [asb_y h17]; exact h19), out_y h20] <;> rfl) rfl))
         (fun h19 A => N hX 13 A rfl rfl fun A => forkN 128 A rfl
          (fun h21 A => N hX 2 A rfl rfl fun A => DRAWN hX hmo [] [] A rfl rfl rfl rfl (by kernel_rfl) (effAll_nil _ _) trivial fun A => N hX 2 A rfl rfl fun A => RETN hX A rfl rfl rfl h0 rfl rfl rfl rfl (by rw [pv_go h1, fin_y (by simpa using h4), more_n h5, last_y h18 (by rw [asb_y h17]; exact h19), out_n h21] <;> rfl) rfl)
          (fun h21 A => N hX 14 A rfl rfl fun A => RETN hX A rfl rfl rfl h0 rfl rfl rfl rfl (by rw [pv_go h1, fin_y (by simpa using h4), more_n h5, last_y h18 (by rw [asb_y h17]; exact h19), out_y h21] <;> rfl) rfl)))
        (fun h18 A => N hX 19 A rfl rfl fun A => forkN 128 A rfl
         (fun h22 A => N hX 2 A rfl rfl fun A => DRAWN hX hmo [] [] A rfl rfl rfl rfl (by kernel_rfl) (effAll_nil _ _) trivial fun A => N hX 2 A rfl rfl fun A => RETN hX A rfl rfl rfl h0 rfl rfl rfl rfl (by rw [pv_go h1, fin_y (by simpa using h4), more_n h5, last_n h18, out_n h22] <;> rfl) rfl)
         (fun h22 A => N hX 14 A rfl rfl fun A => RETN hX A rfl rfl rfl h0 rfl rfl rfl rfl (by rw [pv_go h1, fin_y (by simpa using h4), more_n h5, last_n h18, out_y h22] <;> rfl) rfl)))
       (fun h17 A => N hX 12 A rfl rfl fun A => forkE 116 A rfl
        (fun h23 A => N hX 1 A rfl rfl fun A => CALL1 [] (fn_asX (rright_ (frO ((riscvR ws (⟨0, 0, nxK ws 0⟩ : Old.Rs) Old.blank ((ws.getD 0 tok0).text)).2.2)) 0 1) (as_int (rright_o (frO ((riscvR ws (⟨0, 0, nxK ws 0⟩ : Old.Rs) Old.blank ((ws.getD 0 tok0).text)).2.2)) 0 1))) A rfl rfl rfl rfl rfl rfl rfl fun A => N hX 4 A rfl rfl fun A => forkN 120 A rfl
         (fun h24 A => N hX 4 A rfl rfl fun A => CALL1 [3, 2, 0] (rfail_ 2 ws cw ((riscvR ws (⟨0, 0, nxK ws 0⟩ : Old.Rs) Old.blank ((ws.getD 0 tok0).text)).2.1) 34 (atW ws 0) (riscv_le (nxK_le (Nat.zero_le _))) hn hw) A rfl rfl rfl rfl rfl rfl rfl fun A => N hX 12 A rfl rfl fun A => forkN 128 A rfl
          (fun h25 A => N hX 2 A rfl rfl fun A => DRAWN hX hmo [] [] A rfl rfl rfl rfl (by kernel_rfl) (effAll_nil _ _) trivial fun A => N hX 2 A rfl rfl fun A => RETN hX A rfl rfl rfl h0 rfl rfl rfl rfl (by rw [pv_go h1, fin_y (by simpa using h4), more_n h5, last_b hw h23 (by rw [asb_n h17]; exact h24), out_n h25] <;> rfl) rfl)
          (fun h25 A => N hX 14 A rfl rfl fun A => RETN hX A rfl rfl rfl h0 rfl rfl rfl rfl (by rw [pv_go h1, fin_y (by simpa using h4), more_n h5, last_b hw h23 (by rw [asb_n h17]; exact h24), out_y h25] <;> rfl) rfl))
         (fun h24 A => N hX 13 A rfl rfl fun A => forkN 128 A rfl
          (fun h26 A => N hX 2 A rfl rfl fun A => DRAWN hX hmo [] [] A rfl rfl rfl rfl (by kernel_rfl) (effAll_nil _ _) trivial fun A => N hX 2 A rfl rfl fun A => RETN hX A rfl rfl rfl h0 rfl rfl rfl rfl (by rw [pv_go h1, fin_y (by simpa using h4), more_n h5, last_y h23 (by rw [asb_n h17]; exact h24), out_n h26] <;> rfl) rfl)
          (fun h26 A => N hX 14 A rfl rfl fun A => RETN hX A rfl rfl rfl h0 rfl rfl rfl rfl (by rw [pv_go h1, fin_y (by simpa using h4), more_n h5, last_y h23 (by rw [asb_n h17]; exact h24), out_y h26] <;> rfl) rfl)))
        (fun h23 A => N hX 19 A rfl rfl fun A => forkN 128 A rfl
         (fun h27 A => N hX 2 A rfl rfl fun A => DRAWN hX hmo [] [] A rfl rfl rfl rfl (by kernel_rfl) (effAll_nil _ _) trivial fun A => N hX 2 A rfl rfl fun A => RETN hX A rfl rfl rfl h0 rfl rfl rfl rfl (by rw [pv_go h1, fin_y (by simpa using h4), more_n h5, last_n h23, out_n h27] <;> rfl) rfl)
         (fun h27 A => N hX 14 A rfl rfl fun A => RETN hX A rfl rfl rfl h0 rfl rfl rfl rfl (by rw [pv_go h1, fin_y (by simpa using h4), more_n h5, last_n h23, out_y h27] <;> rfl) rfl))))))
    (fun h3 A => absurd rfl h3)))


def r5 : List (List UInt8 × Int) := [([97, 100, 100], 1), ([115, 117, 98], 2), ([120, 111, 114], 3), ([97, 110, 100], 4), ([111, 114], 5)]
theorem r5_len : ∀ k, (r5.getD k nz).1.length ≤ 3
  | 0 => by decide
  | 1 => by decide
  | 2 => by decide
  | 3 => by decide
  | 4 => by decide
  | k + 5 => by simp [r5, List.getD]
abbrev rr1 (x : List UInt8 × Int) (b1 : Nat) : Rw := ⟨x.1, [], insF 3 x.2, some ⟨b1, 0, none⟩, [1, 2, 3], 3⟩
abbrev rr2 (x : List UInt8 × Int) (b2 : Nat) : Rw := ⟨x.1 ++ [105], [], insF 3 x.2, some ⟨b2, 0, none⟩, [1, 2, 5], 3⟩
def rcomp : List (List UInt8 × List UInt8 × In × List Int) := r5.flatMap fun x => [(x.1, [], insF 3 x.2, [1, 2, 3]), (x.1 ++ [105], [], insF 3 x.2, [1, 2, 5])]
structure RC (lo : Nat) (z : List Rw × Nat) (w : World) (ks : List Nat) : Prop where
  le : z.2 ≤ 5
  tm : z.1.map tm = rcomp.take (2 * z.2)
  rw : RowsIn lo z.1 w ks
theorem RC.len {lo : Nat} {z : List Rw × Nat} {w : World} {ks : List Nat} (h : RC lo z w ks) : z.1.length = 2 * z.2 := by
  have h1 := congrArg List.length h.tm
  rw [List.length_map, List.length_take] at h1
  have h2 : rcomp.length = 10 := by decide
  have := h.le
  omega
theorem RC.nx {lo b1 b2 : Nat} {z : List Rw × Nat} {w w1 : World} {ks ks1 : List Nat} {l : List (Nat × List SV)} (h : RC lo z w ks) (hk : (z.2 : Int) < 5) (hr : RowsIn lo z.1 w1 ks1) (hA : Acc lo [(b2, [.int .i64 1, .int .i64 2, .int .i64 5]), (b1, [.int .i64 1, .int .i64 2, .int .i64 3])] w1 ks1) : RC lo (z.1 ++ [rr1 (r5.getD ((z.2 : Int)).toNat nz) b1, rr2 (r5.getD ((z.2 : Int)).toNat nz) b2], z.2 + 1) w1 ks1 := by
  refine ⟨by have := h.le; show z.2 + 1 ≤ 5; omega, ?_, fun r hr' => ?_⟩
  · show List.map _ (z.1 ++ _) = _
    rw [List.map_append, h.tm, Int.toNat_natCast]
    have : z.2 = 0 ∨ z.2 = 1 ∨ z.2 = 2 ∨ z.2 = 3 ∨ z.2 = 4 := by omega
    rcases this with e | e | e | e | e <;> rw [e] <;> rfl
  · rcases List.mem_append.1 hr' with h1 | h1
    · exact hr r h1
    · simp only [List.mem_cons, List.mem_nil_iff, or_false] at h1
      rcases h1 with rfl | rfl
      · exact lies_of (cs := []) [1, 2, 3] hA (List.mem_cons_of_mem _ (List.mem_cons_self))
      · exact lies_of (cs := []) [1, 2, 5] hA (List.mem_cons_self)
theorem rcomp_ : FnR Tryz.prog 94 [] [] (fun x w w' => ∃ (L : List Rw) (b cp : Nat), x = .sla (some ⟨b, 0, none⟩) 10 cp ∧ (L.map tm = rcomp ∧ RowsIn w.heap.size L w' [b]) ∧ w.heap.size ≤ b ∧ Given 109 20 10 (fun zz => rwc (L.getD zz Rw.z)) b cp w') :=
 enterR (n := 37) (by kernel_rfl) Tryz.func94 rfl rfl rfl fun G w a h0 A => N hX 13 A rfl rfl fun A => have A := A.asT nz nfc 2 tyN.1 tyN.2.1 tyN.2.2 r5 0 rfl; N hX 17 A rfl rfl fun A => have A := A.nilRow 2 109 20 (fun zz => rwc (([] : List Rw).getD zz Rw.z)) rfl (fun z => ⟨_, rfl, rfl⟩); LOOPJ (fun (z : List Rw × Nat) => [(0, .sla none 0 0), (2, .sl 1 z.1.length 0), (12, .sl 0 5 5), (13, .int .i64 ((5 : Nat) : Int)), (14, .int .i64 (z.2 : Int))]) (fun (z : List Rw × Nat) => [some (.lst 2 5 (fun zz => nfc (r5.getD zz nz))), some (.row 109 20 z.1.length 0 (fun zz => rwc (z.1.getD zz Rw.z)))]) (fun z w1 ks1 => RC w.heap.size z w1 ks1) (fun z => 5 - z.2) ([], 0) (A.cut [0, 2, 12, 13, 14] rfl) ⟨by decide, rfl, fun r hr => by cases hr⟩ fun z G1 a1 w1 hJ hg A B => have hA : Acc w.heap.size [] w1 _ := Acc.nil; have hR := hJ.rw;
 N hX 6 A rfl rfl fun A => forkD 15 A rfl
   (fun h1 A => N hX 14 A rfl (ok_d (by omega) <| ok_d (by omega) <| okE_nil) fun A => N hX 4 A rfl rfl fun A => have A := sy_sayD A 20 (.agg [.int .i64 3, .int .i64 0, .int .i64 0, .int .i64 0, .int .i64 0, .int .i64 0, .int .i64 0, .int .i64 0, .int .i64 0, .int .i64 ((r5.getD (((z.2 : Int)).toNat) nz).2), .bool false, .bool false, .bool false, .int .i64 0, .int .i64 0, .int .i64 0, .bool false]) rfl (fun _ => rfl); N hX 9 A rfl rfl fun A => BSCI [.int .i64 1, .int .i64 2, .int .i64 3] (X := ⟨_, true⟩) hX RowsIn.ok B hA hR A rfl rfl rfl rfl fun b1 B hA hR A =>
 N hX 5 A rfl (ok_d (by have q := r5_len ((z.2 : Int)).toNat; (try simp only [List.length_append, List.length_cons, List.length_nil]); omega) <| okE_nil) fun A => BSCI [.int .i64 1, .int .i64 2, .int .i64 5] (X := ⟨_, true⟩) hX RowsIn.ok B hA hR A rfl rfl rfl rfl fun b2 B hA hR A =>
 N hX 2 A rfl rfl fun A => have A := A.asT Rw.z rwc 20 tyR.1 tyR.2.1 tyR.2.2 [rr1 (r5.getD (((z.2 : Int)).toNat) nz) b1, rr2 (r5.getD (((z.2 : Int)).toNat) nz) b2] 4 rfl; q_eff A rfl (aplE hX ((z.1 ++ [rr1 (r5.getD (((z.2 : Int)).toNat) nz) b1, rr2 (r5.getD (((z.2 : Int)).toNat) nz) b2]).length) (fun zz => rwc ((z.1 ++ [rr1 (r5.getD (((z.2 : Int)).toNat) nz) b1, rr2 (r5.getD (((z.2 : Int)).toNat) nz) b2]).getD zz Rw.z)) rfl rfl rfl rfl (Nat.le_refl _) (by have := hJ.len; have := hJ.le; omega) (by decide) List.length_append (fun k hk => by show rwc _ = rwc _; rw [getD_app_l hk]) (fun k hk => by show rwc _ = rwc _; rw [getD_app_r]) (fun z => ⟨_, rfl, rfl⟩) (fun k hk => ⟨_, rfl, okE_nil⟩)) fun A =>
 N hX 8 A rfl (ok_d (by omega) <| okE_nil) fun A => ⟨(z.1 ++ [rr1 (r5.getD (((z.2 : Int)).toNat) nz) b1, rr2 (r5.getD (((z.2 : Int)).toNat) nz) b2], z.2 + 1), _, (by have := h1; show _ - _ < _ - _; omega), (hJ.nx (l := []) h1 (RowsIn.ok _ _ _ _ hR A.mix fun b hb => A.keys_own b ((keys_pick (H := [some (.lst 2 5 (fun zz => nfc (r5.getD zz nz))), none, some (.blk [.str ((r5.getD (((z.2 : Int)).toNat) nz).1), .int .i64 ((r5.getD (((z.2 : Int)).toNat) nz).2)]), some (.blk [.int .i64 3, .int .i64 0, .int .i64 0, .int .i64 0, .int .i64 0, .int .i64 0, .int .i64 0, .int .i64 0, .int .i64 0, .int .i64 ((r5.getD (((z.2 : Int)).toNat) nz).2), .bool false, .bool false, .bool false, .int .i64 0, .int .i64 0, .int .i64 0, .bool false]), some (.lst 20 ([rr1 (r5.getD (((z.2 : Int)).toNat) nz) b1, rr2 (r5.getD (((z.2 : Int)).toNat) nz) b2].length) (fun zz => rwc ([rr1 (r5.getD (((z.2 : Int)).toNat) nz) b1, rr2 (r5.getD (((z.2 : Int)).toNat) nz) b2].getD zz Rw.z))), some (.row 109 20 ((z.1 ++ [rr1 (r5.getD (((z.2 : Int)).toNat) nz) b1, rr2 (r5.getD (((z.2 : Int)).toNat) nz) b2]).length) 0 (fun zz => rwc ((z.1 ++ [rr1 (r5.getD (((z.2 : Int)).toNat) nz) b1, rr2 (r5.getD (((z.2 : Int)).toNat) nz) b2]).getD zz Rw.z)))]) (m := [0, 5]) A.mem.len rfl rfl) b hb)) (hA.go A.mix fun b hb => A.keys_own b ((keys_pick (H := [some (.lst 2 5 (fun zz => nfc (r5.getD zz nz))), none, some (.blk [.str ((r5.getD (((z.2 : Int)).toNat) nz).1), .int .i64 ((r5.getD (((z.2 : Int)).toNat) nz).2)]), some (.blk [.int .i64 3, .int .i64 0, .int .i64 0, .int .i64 0, .int .i64 0, .int .i64 0, .int .i64 0, .int .i64 0, .int .i64 0, .int .i64 ((r5.getD (((z.2 : Int)).toNat) nz).2), .bool false, .bool false, .bool false, .int .i64 0, .int .i64 0, .int .i64 0, .bool false]), some (.lst 20 ([rr1 (r5.getD (((z.2 : Int)).toNat) nz) b1, rr2 (r5.getD (((z.2 : Int)).toNat) nz) b2].length) (fun zz => rwc ([rr1 (r5.getD (((z.2 : Int)).toNat) nz) b1, rr2 (r5.getD (((z.2 : Int)).toNat) nz) b2].getD zz Rw.z))), some (.row 109 20 ((z.1 ++ [rr1 (r5.getD (((z.2 : Int)).toNat) nz) b1, rr2 (r5.getD (((z.2 : Int)).toNat) nz) b2]).length) 0 (fun zz => rwc ((z.1 ++ [rr1 (r5.getD (((z.2 : Int)).toNat) nz) b1, rr2 (r5.getD (((z.2 : Int)).toNat) nz) b2]).getD zz Rw.z)))]) (m := [0, 5]) A.mem.len rfl rfl) b hb))), ((B.trans A).cut [0, 2, 12, 13, 14] rfl).mv 0 [0, 5] rfl rfl rfl rfl (by simp only [List.length_nil] at h0; omega)⟩)
   (fun h1 A => N hX 10 A rfl rfl fun A => (have e5 : z.2 = 5 := (by have := hJ.le; omega); have e : z.1.length = 10 := (by have := hJ.len; omega); match A.giveRow 1 0 (by omega) rfl rfl rfl with | ⟨b, cp, A2, hG, ho, hk⟩ => RETR (J := fun x w w' => ∃ (L : List Rw) (b cp : Nat), x = .sla (some ⟨b, 0, none⟩) 10 cp ∧ (L.map tm = rcomp ∧ RowsIn w.heap.size L w' [b]) ∧ w.heap.size ≤ b ∧ Given 109 20 10 (fun zz => rwc (L.getD zz Rw.z)) b cp w') hX (B.trans A2) (fun i e he => nil_no he) rfl rfl rfl rfl ⟨z.1, b, cp, (by show SV.sla _ z.1.length cp = _; rw [e]), ⟨(by have h2 := hJ.tm; rw [e5] at h2; exact h2), (RowsIn.ok _ _ _ _ hJ.rw A.mix fun b2 hb => by have : b2 = b := (by simpa using hb); rw [this]; exact ho)⟩, lo_of B (fun i e he => nil_no he) ho, (by rw [← e]; exact hG)⟩))
abbrev sz : List UInt8 × Bool × Bool := ([], false, false)
def sfc (x : List UInt8 × Bool × Bool) : List SV := [.str x.1, .bool x.2.1, .bool x.2.2]
theorem tyS : (∀ x, (sfc x).length = 3) ∧ (∀ x, inL 0 (sfc x) = true) ∧ (∀ x, ∃ vs, denL [] (sfc x) = some vs) := ⟨fun _ => rfl, fun _ => rfl, fun _ => ⟨_, rfl⟩⟩
def a2 : List (List UInt8 × Int) := [([97, 109, 111, 115, 119, 97, 112, 46, 42], 6), ([97, 109, 111, 97, 100, 100, 46, 42], 1)]
def s4 : List (List UInt8 × Bool × Bool) := [([], false, false), ([46, 97, 113], true, false), ([46, 114, 108], false, true), ([46, 97, 113, 46, 114, 108], true, true)]
theorem a2_len : ∀ k, (a2.getD k nz).1.length ≤ 100
  | 0 => by decide
  | 1 => by decide
  | k + 2 => by simp [a2, List.getD]
theorem s4_len : ∀ k, (s4.getD k sz).1.length ≤ 100
  | 0 => by decide
  | 1 => by decide
  | 2 => by decide
  | 3 => by decide
  | k + 4 => by simp [s4, List.getD]
def insA (x : List UInt8 × Int) (y : List UInt8 × Bool × Bool) : In := ⟨6, 0, 0, 0, 0, 0, 0, 0, 0, x.2, y.2.1, false, y.2.2, 0, 0, 0, false⟩
abbrev ra1 (x : List UInt8 × Int) (y : List UInt8 × Bool × Bool) (b1 : Nat) : Rw := ⟨x.1 ++ y.1, [], insA x y, some ⟨b1, 0, none⟩, [1, 2, 6], 3⟩
def ratom : List (List UInt8 × List UInt8 × In × List Int) := a2.flatMap fun x => s4.map fun y => (x.1 ++ y.1, [], insA x y, [1, 2, 6])
structure RA (lo n : Nat) (L : List Rw) (w : World) (ks : List Nat) : Prop where
  tm : L.map tm = ratom.take n
  rw : RowsIn lo L w ks
theorem RA.len {lo n : Nat} {L : List Rw} {w : World} {ks : List Nat} (h : RA lo n L w ks) : L.length ≤ 8 ∧ (n ≤ 8 → L.length = n) := by
  have h1 := congrArg List.length h.tm
  rw [List.length_map, List.length_take] at h1
  have h2 : ratom.length = 8 := by decide
  omega
theorem RA.nx {lo b1 k j : Nat} {L : List Rw} {w w1 : World} {ks ks1 : List Nat} (h : RA lo (4 * k + j) L w ks) (hk : k < 2) (hj : j < 4) (hr : RowsIn lo L w1 ks1) (hA : Acc lo [(b1, [.int .i64 1, .int .i64 2, .int .i64 6])] w1 ks1) : RA lo (4 * k + (j + 1)) (L ++ [ra1 (a2.getD ((k : Int)).toNat nz) (s4.getD ((j : Int)).toNat sz) b1]) w1 ks1 := by
  refine ⟨?_, fun r hr' => ?_⟩
  · rw [List.map_append, h.tm, Int.toNat_natCast, Int.toNat_natCast]
    have q1 : k = 0 ∨ k = 1 := by omega
    have q2 : j = 0 ∨ j = 1 ∨ j = 2 ∨ j = 3 := by omega
    rcases q1 with e | e <;> rcases q2 with e2 | e2 | e2 | e2 <;> rw [e, e2] <;> rfl
  · rcases List.mem_append.1 hr' with h1 | h1
    · exact hr r h1
    · simp only [List.mem_cons, List.mem_nil_iff, or_false] at h1
      subst h1
      exact lies_of (cs := []) [1, 2, 6] hA List.mem_cons_self
theorem ratom_ : FnR Tryz.prog 95 [] [] (fun x w w' => ∃ (L : List Rw) (b cp : Nat), x = .sla (some ⟨b, 0, none⟩) 8 cp ∧ (L.map tm = ratom ∧ RowsIn w.heap.size L w' [b]) ∧ w.heap.size ≤ b ∧ Given 109 20 8 (fun zz => rwc (L.getD zz Rw.z)) b cp w') :=
 enterR (n := 50) (by kernel_rfl) Tryz.func95 rfl rfl rfl fun G w a h0 A => N hX 10 A rfl rfl fun A => have A := A.asT nz nfc 2 tyN.1 tyN.2.1 tyN.2.2 a2 0 rfl; N hX 6 A rfl rfl fun A => have A := sy_sayD A 12 (.agg [.str [], .bool false, .bool false]) rfl (fun _ => rfl); N hX 1 A rfl rfl fun A => have A := sy_sayD A 13 (.agg [.str [46, 97, 113], .bool true, .bool false]) rfl (fun _ => rfl); N hX 1 A rfl rfl fun A => have A := sy_sayD A 14 (.agg [.str [46, 114, 108], .bool false, .bool true]) rfl (fun _ => rfl); N hX 1 A rfl rfl fun A => have A := sy_sayD A 15 (.agg [.str [46, 97, 113, 46, 114, 108], .bool true, .bool true]) rfl (fun _ => rfl); N hX 1 A rfl rfl fun A => have A := A.asT sz sfc 3 tyS.1 tyS.2.1 tyS.2.2 s4 1 rfl; N hX 17 A rfl rfl fun A => have A := A.nilRow 3 109 20 (fun zz => rwc (([] : List Rw).getD zz Rw.z)) rfl (fun z => ⟨_, rfl, rfl⟩); LOOPJ (fun (z : List Rw × Nat) => [(0, .sla none 0 0), (2, .sl 1 4 4), (3, .sl 2 z.1.length 0), (17, .sl 0 2 2), (18, .int .i64 ((2 : Nat) : Int)), (19, .int .i64 (z.2 : Int))]) (fun (z : List Rw × Nat) => [some (.lst 2 2 (fun zz => nfc (a2.getD zz nz))), some (.lst 3 4 (fun zz => sfc (s4.getD zz sz))), some (.row 109 20 z.1.length 0 (fun zz => rwc (z.1.getD zz Rw.z)))]) (fun z w1 ks1 => z.2 ≤ 2 ∧ RA w.heap.size (4 * z.2) z.1 w1 ks1) (fun z => 2 - z.2) ([], 0) (A.cut [0, 2, 3, 17, 18, 19] rfl) ⟨by decide, ⟨rfl, fun r hr => by cases hr⟩⟩ fun z G1 a1 w1 hJ hg A B => have hz2 := hJ.1; have hR := hJ.2.rw;
 N hX 6 A rfl rfl fun A => forkD 20 A rfl
   (fun h1 A => N hX 14 A rfl (ok_d (by omega) <| ok_d (by omega) <| okE_nil) fun A => N hX 7 A rfl rfl fun A => have hR := RowsIn.ok _ _ _ _ hR A.mix A.keys_own; LOOPJ (fun (y : List Rw × Nat) => [(0, .sla none 0 0), (2, .sl 1 4 4), (3, .sl 2 y.1.length 0), (5, .ptr 3 0), (17, .sl 0 2 2), (18, .int .i64 ((2 : Nat) : Int)), (19, .int .i64 (z.2 : Int)), (23, .sl 1 4 4), (24, .int .i64 ((4 : Nat) : Int)), (25, .int .i64 (y.2 : Int))]) (fun (y : List Rw × Nat) => [some (.lst 2 2 (fun zz => nfc (a2.getD zz nz))), some (.lst 3 4 (fun zz => sfc (s4.getD zz sz))), some (.row 109 20 y.1.length 0 (fun zz => rwc (y.1.getD zz Rw.z))), some (.blk [.str ((a2.getD (((z.2 : Int)).toNat) nz).1), .int .i64 ((a2.getD (((z.2 : Int)).toNat) nz).2)])]) (fun y w1 ks1 => y.2 ≤ 4 ∧ RA w.heap.size (4 * z.2 + y.2) y.1 w1 ks1) (fun y => 4 - y.2) (z.1, 0) ((B.trans A).cut [0, 2, 3, 5, 17, 18, 19, 23, 24, 25] rfl) ⟨Nat.zero_le 4, ⟨hJ.2.tm, hR⟩⟩ fun y G1 a1 w1 hJ hg A B => have hA : Acc w.heap.size [] w1 _ := Acc.nil; have hR := hJ.2.rw;
 N hX 6 A rfl rfl fun A => forkD 26 A rfl
     (fun h2 A => N hX 14 A rfl (ok_d (by omega) <| ok_d (by omega) <| okE_nil) fun A => N hX 8 A rfl rfl fun A => have A := sy_sayD A 35 (.agg [.int .i64 6, .int .i64 0, .int .i64 0, .int .i64 0, .int .i64 0, .int .i64 0, .int .i64 0, .int .i64 0, .int .i64 0, .int .i64 ((a2.getD (((z.2 : Int)).toNat) nz).2), .bool ((s4.getD (((y.2 : Int)).toNat) sz).2.1), .bool false, .bool ((s4.getD (((y.2 : Int)).toNat) sz).2.2), .int .i64 0, .int .i64 0, .int .i64 0, .bool false]) rfl (fun _ => rfl); N hX 12 A rfl (ok_d (by have q := a2_len ((z.2 : Int)).toNat; have q2 := s4_len ((y.2 : Int)).toNat; (try simp only [List.length_append, List.length_cons, List.length_nil]); omega) <| okE_nil) fun A => BSCI [.int .i64 1, .int .i64 2, .int .i64 6] (X := ⟨_, true⟩) hX RowsIn.ok B hA hR A rfl rfl rfl rfl fun b1 B hA hR A =>
 N hX 2 A rfl rfl fun A => have A := A.asT Rw.z rwc 20 tyR.1 tyR.2.1 tyR.2.2 [ra1 (a2.getD (((z.2 : Int)).toNat) nz) (s4.getD (((y.2 : Int)).toNat) sz) b1] 6 rfl; q_eff A rfl (aplE hX ((y.1 ++ [ra1 (a2.getD (((z.2 : Int)).toNat) nz) (s4.getD (((y.2 : Int)).toNat) sz) b1]).length) (fun zz => rwc ((y.1 ++ [ra1 (a2.getD (((z.2 : Int)).toNat) nz) (s4.getD (((y.2 : Int)).toNat) sz) b1]).getD zz Rw.z)) rfl rfl rfl rfl (Nat.le_refl _) (by have := hJ.2.len; have := hJ.1; omega) (by decide) List.length_append (fun k hk => by show rwc _ = rwc _; rw [getD_app_l hk]) (fun k hk => by show rwc _ = rwc _; rw [getD_app_r]) (fun z => ⟨_, rfl, rfl⟩) (fun k hk => ⟨_, rfl, okE_nil⟩)) fun A =>
 N hX 8 A rfl (ok_d (by omega) <| okE_nil) fun A => ⟨(y.1 ++ [ra1 (a2.getD (((z.2 : Int)).toNat) nz) (s4.getD (((y.2 : Int)).toNat) sz) b1], y.2 + 1), _, (by have := h2; show _ - _ < _ - _; omega), ⟨by have := h2; show y.2 + 1 ≤ 4; omega, hJ.2.nx (by omega) (by omega) (RowsIn.ok _ _ _ _ hR A.mix fun b hb => A.keys_own b ((keys_pick (H := [some (.lst 2 2 (fun zz => nfc (a2.getD zz nz))), some (.lst 3 4 (fun zz => sfc (s4.getD zz sz))), none, some (.blk [.str ((a2.getD (((z.2 : Int)).toNat) nz).1), .int .i64 ((a2.getD (((z.2 : Int)).toNat) nz).2)]), some (.blk [.str ((s4.getD (((y.2 : Int)).toNat) sz).1), .bool ((s4.getD (((y.2 : Int)).toNat) sz).2.1), .bool ((s4.getD (((y.2 : Int)).toNat) sz).2.2)]), some (.blk [.int .i64 6, .int .i64 0, .int .i64 0, .int .i64 0, .int .i64 0, .int .i64 0, .int .i64 0, .int .i64 0, .int .i64 0, .int .i64 ((a2.getD (((z.2 : Int)).toNat) nz).2), .bool ((s4.getD (((y.2 : Int)).toNat) sz).2.1), .bool false, .bool ((s4.getD (((y.2 : Int)).toNat) sz).2.2), .int .i64 0, .int .i64 0, .int .i64 0, .bool false]), some (.lst 20 ([ra1 (a2.getD (((z.2 : Int)).toNat) nz) (s4.getD (((y.2 : Int)).toNat) sz) b1].length) (fun zz => rwc ([ra1 (a2.getD (((z.2 : Int)).toNat) nz) (s4.getD (((y.2 : Int)).toNat) sz) b1].getD zz Rw.z))), some (.row 109 20 ((y.1 ++ [ra1 (a2.getD (((z.2 : Int)).toNat) nz) (s4.getD (((y.2 : Int)).toNat) sz) b1]).length) 0 (fun zz => rwc ((y.1 ++ [ra1 (a2.getD (((z.2 : Int)).toNat) nz) (s4.getD (((y.2 : Int)).toNat) sz) b1]).getD zz Rw.z)))]) (m := [0, 1, 7, 3]) A.mem.len rfl rfl) b hb)) (hA.go A.mix fun b hb => A.keys_own b ((keys_pick (H := [some (.lst 2 2 (fun zz => nfc (a2.getD zz nz))), some (.lst 3 4 (fun zz => sfc (s4.getD zz sz))), none, some (.blk [.str ((a2.getD (((z.2 : Int)).toNat) nz).1), .int .i64 ((a2.getD (((z.2 : Int)).toNat) nz).2)]), some (.blk [.str ((s4.getD (((y.2 : Int)).toNat) sz).1), .bool ((s4.getD (((y.2 : Int)).toNat) sz).2.1), .bool ((s4.getD (((y.2 : Int)).toNat) sz).2.2)]), some (.blk [.int .i64 6, .int .i64 0, .int .i64 0, .int .i64 0, .int .i64 0, .int .i64 0, .int .i64 0, .int .i64 0, .int .i64 0, .int .i64 ((a2.getD (((z.2 : Int)).toNat) nz).2), .bool ((s4.getD (((y.2 : Int)).toNat) sz).2.1), .bool false, .bool ((s4.getD (((y.2 : Int)).toNat) sz).2.2), .int .i64 0, .int .i64 0, .int .i64 0, .bool false]), some (.lst 20 ([ra1 (a2.getD (((z.2 : Int)).toNat) nz) (s4.getD (((y.2 : Int)).toNat) sz) b1].length) (fun zz => rwc ([ra1 (a2.getD (((z.2 : Int)).toNat) nz) (s4.getD (((y.2 : Int)).toNat) sz) b1].getD zz Rw.z))), some (.row 109 20 ((y.1 ++ [ra1 (a2.getD (((z.2 : Int)).toNat) nz) (s4.getD (((y.2 : Int)).toNat) sz) b1]).length) 0 (fun zz => rwc ((y.1 ++ [ra1 (a2.getD (((z.2 : Int)).toNat) nz) (s4.getD (((y.2 : Int)).toNat) sz) b1]).getD zz Rw.z)))]) (m := [0, 1, 7, 3]) A.mem.len rfl rfl) b hb))⟩, ((B.trans A).cut [0, 2, 3, 5, 17, 18, 19, 23, 24, 25] rfl).mv 0 [0, 1, 7, 3] rfl rfl rfl rfl (by simp only [List.length_nil] at h0; omega)⟩)
     (fun h2 A => N hX 8 A rfl (ok_d (by omega) <| okE_nil) fun A => ⟨(y.1, z.2 + 1), _, (by have := h1; show _ - _ < _ - _; omega), ⟨by have := h1; show z.2 + 1 ≤ 2; omega, ⟨(by have q := hJ.2.tm; have q1 := hJ.1; rw [show 4 * z.2 + y.2 = 4 * (z.2 + 1) by omega] at q; exact q), RowsIn.ok _ _ _ _ hJ.2.rw A.mix fun b hb => A.keys_own b ((keys_pick (H := [some (.lst 2 2 (fun zz => nfc (a2.getD zz nz))), some (.lst 3 4 (fun zz => sfc (s4.getD zz sz))), some (.row 109 20 y.1.length 0 (fun zz => rwc (y.1.getD zz Rw.z))), some (.blk [.str ((a2.getD (((z.2 : Int)).toNat) nz).1), .int .i64 ((a2.getD (((z.2 : Int)).toNat) nz).2)])]) (m := [0, 1, 2]) A.mem.len rfl rfl) b hb)⟩⟩, ((B.trans A).cut [0, 2, 3, 17, 18, 19] rfl).mv 0 [0, 1, 2] rfl rfl rfl rfl (by simp only [List.length_nil] at h0; omega)⟩))
   (fun h1 A => N hX 10 A rfl rfl fun A => (have e5 : z.2 = 2 := (by have := hJ.1; omega); have e : z.1.length = 8 := (by have := hJ.2.len; omega); match A.giveRow 2 0 (by omega) rfl rfl rfl with | ⟨b, cp, A2, hG, ho, hk⟩ => RETR (J := fun x w w' => ∃ (L : List Rw) (b cp : Nat), x = .sla (some ⟨b, 0, none⟩) 8 cp ∧ (L.map tm = ratom ∧ RowsIn w.heap.size L w' [b]) ∧ w.heap.size ≤ b ∧ Given 109 20 8 (fun zz => rwc (L.getD zz Rw.z)) b cp w') hX (B.trans A2) (fun i e he => nil_no he) rfl rfl rfl rfl ⟨z.1, b, cp, (by show SV.sla _ z.1.length cp = _; rw [e]), ⟨(by have h2 := hJ.2.tm; rw [e5] at h2; exact h2), (RowsIn.ok _ _ _ _ hJ.2.rw A.mix fun b2 hb => by have : b2 = b := (by simpa using hb); rw [this]; exact ho)⟩, lo_of B (fun i e he => nil_no he) ho, (by rw [← e]; exact hG)⟩))
end Go.Proofs.YtedlaclfhgneeaaGreatDoor
namespace Go.Proofs.YtedlaclfhgneeaaGreatDoor
open Go.Shelf Go.RowKit
set_option linter.unusedVariables false
def laysGrow_ren : Go.Shelf.Ren := ⟨fun | 4 => 136 | n => n, fun | 22 => 54 | 25 => 109 | n => n, fun | n => n⟩
theorem laysGrow : Go.Proofs.Lays8.n4 Tryz.prog laysGrow_ren := {
  mixed := by kernel_rfl
  f4 := ⟨"slices.Grow[[]belated/lang.Row,belated/lang.Row]", by decide, Tryz.func136.trans (congrArg some (by kernel_rfl))⟩
  t0 := Tryz.underlying0
  a0 := Tryz.isAgg0
  z0 := Tryz.sizeOf0
  v0 := Tryz.zeroValue0
  t3 := Tryz.underlying3
  a3 := Tryz.isAgg3
  z3 := Tryz.sizeOf3
  v3 := Tryz.zeroValue3
  t4 := Tryz.underlying4
  a4 := Tryz.isAgg4
  z4 := Tryz.sizeOf4
  v4 := Tryz.zeroValue4
  t9 := Tryz.underlying9
  a9 := Tryz.isAgg9
  z9 := Tryz.sizeOf9
  v9 := Tryz.zeroValue9
  t20 := Tryz.underlying20
  a20 := Tryz.isAgg20
  z20 := Tryz.sizeOf20
  v20 := Tryz.zeroValue20
  t22 := Tryz.underlying54
  a22 := Tryz.isAgg54
  z22 := Tryz.sizeOf54
  v22 := Tryz.zeroValue54 }
theorem rowInfo : ∃ ti z, Tryz.prog.info? 109 = some ti ∧ ti.zero = some z ∧ z.cells.size = 20 ∧ ti.size = 20 ∧ ti.bytes ≤ 100000 := by
  have h : (Tryz.prog.info? 109).map (fun ti => (ti.zero.map (fun z => z.cells.size), ti.size, Nat.ble ti.bytes 100000)) = some (some 20, 20, true) := by kernel_rfl
  cases e : Tryz.prog.info? 109 with
  | none => rw [e] at h; cases h
  | some ti =>
    rw [e] at h
    simp only [Option.map_some, Option.some.injEq, Prod.mk.injEq] at h
    obtain ⟨h1, h2, h3⟩ := h
    cases ez : ti.zero with
    | none => rw [ez] at h1; cases h1
    | some z =>
      rw [ez] at h1
      simp only [Option.map_some, Option.some.injEq] at h1
      exact ⟨ti, z, rfl, ez, h1, h2, Nat.le_of_ble_eq_true h3⟩
theorem grow_ (k : Nat) (h0 : 0 < k) (hk : k ≤ 1000000) : FnR Tryz.prog 136 [.sla none 0 0, .int .i64 k] [] (fun x w w' => ∃ (L : List Rw) (b cp : Nat), x = .sla (some ⟨b, 0, none⟩) 0 cp ∧ L = [] ∧ w.heap.size ≤ b ∧ Given 109 20 0 (fun zz => rwc (L.getD zz Rw.z)) b cp w') := by
  refine ⟨by kernel_rfl, fun G w vs hM hv => ?_⟩
  have hv' : some [Value.slice none 0 0, .int .i64 k] = some vs := hv
  cases hv'
  obtain ⟨ti, z, e1, e2, e3, e4, e5⟩ := rowInfo
  have hc := Any8.slices_Grow_grow laysGrow ti z e1 e2 (by omega) none 0 0 k [] w (Nat.le_refl _) (by omega) (by
    have : (0 + k) * ti.bytes ≤ 1000000 * 100000 := Nat.mul_le_mul (by omega) e5
    omega) (by omega) (by simp) (fun _ => rfl) (fun a ha => by cases ha)
  refine hc.mono ?_
  rintro e w' ⟨rfl, rfl⟩
  have hge := grownCap_ge w (0 + k) 0 109
  refine ⟨.sla (some ⟨w.heap.size, 0, none⟩) 0 (grownCap w (0 + k) 0 109), _, rfl, rfl, ((Grow.refl w).drew).alloc _, [], w.heap.size, _, rfl, rfl, Nat.le_refl _, fun k => ⟨_, rfl, rfl⟩, [], rfl, ?_⟩
  refine World.ownsRow_made w.drew _ _ (Nat.zero_le _) (grownCap_le_maxLen w (0 + k) 0 109 (by unfold maxLen; omega)) ?_
  show (([] : List Value).toArray ++ Builtin.zeroCells z.cells (0 + k - 0) ++ Builtin.zeroCells z.cells (grownCap w (0 + k) 0 109 - (0 + k))).size = _
  simp only [Array.size_append, List.size_toArray, List.length_nil, size_zeroCells, e3]
  omega
end Go.Proofs.YtedlaclfhgneeaaGreatDoor
namespace Go.Proofs.YtedlaclfhgneeaaGreatDoor
open Go.RowKit
set_option linter.unusedVariables false
set_option linter.unusedSimpArgs false
set_option maxRecDepth 100000
set_option maxHeartbeats 2000000
set_option simprocs false
section
variable {P : Program} {n : Nat} {ks : List Nat} {G0 : Gr} {w0 : World} {T : List (Nat × SV)} {H : Hp} {G : Gr} {a : Act} {w w' : World} {Q : Exit → Act → World → Prop} {K : List Fr} {ops : Array Oper} {o : Oper} {rest : List Oper} {c : Code}
theorem RND {q : Nat} (h : Goal P Q (.lp (Code.rounds P c (wpK P Q K) q) :: K) (.code c) a w) : Code.rounds P c (wpK P Q K) (q + 1) a w := h
theorem UNR (q : Nat) (h : Code.rounds P c (wpK P Q K) q a w) : Goal P Q K (.code (.loop c)) a w := wp_loop_rounds q h
theorem CALLROWA {β : Type} {e s m t f : Nat} {az : List SV} {F : β → Nat → List SV} {R : β → Nat → World → World → Prop} (hf : FnR P f az [] (fun x w w' => ∃ (L : β) (b cp : Nat), x = .sla (some ⟨b, 0, none⟩) m cp ∧ R L b w w' ∧ w.heap.size ≤ b ∧ Given e s m (F L) b cp w')) (A : Sy n T H ks G0 w0 G a w) (hd : o.dst = some t) (h1 : callS n ops T o = some (f, az)) (h2 : renL [] az = some az)
    (k : ∀ L b cp a' w' G', R L b w w' → w.heap.size ≤ b → (∀ k, (keys (H ++ [some (.row e s m 0 (F L))]) G').contains k = true → k < w.heap.size ∨ k = b) → Sy n ((t, .sl H.length m 0) :: extS T o.dst (.sla (some ⟨b, 0, none⟩) m cp)) (H ++ [some (.row e s m 0 (F L))]) ks G0 w0 G' a' w' → Goal P Q K (.ops ops rest) a' w') : Goal P Q K (.ops ops (o :: rest)) a w := by
  refine CALLR [] hf A h1 h2 rfl rfl rfl fun x a' w' hJ hk A' => ?_
  obtain ⟨L, b, cp, rfl, hR, hlo, hg⟩ := hJ
  have hl : look (extS T o.dst (.sla (some ⟨b, 0, none⟩) m cp)) t = some (.sla (some ⟨b, 0, none⟩) m cp) := by rw [hd]; simp [extS, look, Nat.beq_refl]
  have A2 := A'.takeRow t hg (fun i e L q1 q2 q3 => by
    have := A.mem.ent i e q1
    rw [q2] at this
    have := EntOK.lt this q3
    omega) (Nat.le_trans A.mix.size hlo) hl
  refine k L b cp a' w' _ hR hlo (fun k hk' => ?_) A2
  obtain ⟨i, e', M, q1, q2, q3, q4⟩ := mem_keys.1 hk'
  have hlen := A.mem.len
  by_cases hi : i < H.length
  · rw [List.getElem?_append_left hi] at q1
    rw [List.getElem?_append_left (by omega)] at q3
    exact .inl (hk k (mem_keys.2 ⟨i, e', M, q1, q2, q3, q4⟩))
  · right
    have hi2 : i = G.length := by
      have := (List.getElem?_eq_some_iff.1 q3).1
      simp at this
      omega
    subst hi2
    rw [List.getElem?_append_right (Nat.le_refl _)] at q3
    simp at q3
    rw [← q4, ← q3]
end
theorem ix_p {i o s m k : Nat} (j : Nat) {q : Nat} (hq : o + j * s + k = q) : ∀ G, den G (.ix (.ptr i o) s m (j : Int) k) = den G (.ptr i q) := fun G => by
  subst hq
  unfold den
  cases hG : G[i]? with
  | none => unfold den; rw [hG]
  | some p => cases p with
    | none => unfold den; rw [hG]
    | some L => unfold den; rw [hG]; simp [Nat.add_assoc]
theorem concat_ (L1 L2 L3 : List Rw) (c1 c2 c3 : Nat) (l1 : L1.length = 10) (l12 : (L1 ++ L2).length = 18) : Fn Tryz.prog 93 [.sl 0 3 3] [some (.blk [.sl 1 10 c1, .sl 2 8 c2, .sl 3 7 c3]), some (.lst 20 10 (fun zz => rwc (L1.getD zz Rw.z))), some (.lst 20 8 (fun zz => rwc (L2.getD zz Rw.z))), some (.lst 20 7 (fun zz => rwc (L3.getD zz Rw.z)))] (Rt (.sl 4 25 0) [some (.blk [.sl 1 10 c1, .sl 2 8 c2, .sl 3 7 c3]), some (.lst 20 10 (fun zz => rwc (L1.getD zz Rw.z))), some (.lst 20 8 (fun zz => rwc (L2.getD zz Rw.z))), some (.lst 20 7 (fun zz => rwc (L3.getD zz Rw.z))), some (.row 109 20 25 0 (fun zz => rwc (((L1 ++ L2) ++ L3).getD zz Rw.z)))]) :=
 enterM (n := 36) (by kernel_rfl) Tryz.func93 rfl rfl rfl fun G w a h0 A => N hX 15 A rfl rfl fun A => have A := sy_sayD A 10 (.int .i64 3) rfl (fun _ => rfl); N hX 1 A rfl rfl fun A => N hX 3 A rfl rfl fun A => UNR 4 (RND (have A := A.cut [0, 2, 3, 9, 10, 11] rfl;
 N hX 6 A rfl rfl fun A => forkD 12 A rfl
   (fun h1 A => N hX 8 A rfl (ok_d (by omega) <| okE_nil) fun A => have A := sy_sayD A 13 (.ptr 0 0) rfl (ix_p 0 rfl); N hX 7 A rfl rfl fun A => N hX 2 A rfl rfl fun A => have A := sy_sayD A 17 (.int .i64 10) rfl (fun _ => rfl); N hX 1 A rfl (ok_d (by omega) <| okE_nil) fun A => have A := sy_sayD A 18 (.int .i64 10) rfl (fun _ => rfl); N hX 6 A rfl rfl fun A => N hX 3 A rfl rfl fun A => forkD 20 A rfl
    (fun h2 A => absurd h2 (by decide))
    (fun h2 A => N hX 6 A rfl (ok_d (by omega) <| okE_nil) fun A => have A := sy_sayD A 22 (.int .i64 1) rfl (fun _ => rfl); N hX 1 A rfl rfl fun A => N hX 1 A rfl rfl fun A => RND (have A := A.cut [0, 2, 3, 9, 10, 11] rfl;
 N hX 6 A rfl rfl fun A => forkD 12 A rfl
     (fun h3 A => N hX 8 A rfl (ok_d (by omega) <| okE_nil) fun A => have A := sy_sayD A 13 (.ptr 0 1) rfl (ix_p 1 rfl); N hX 7 A rfl rfl fun A => N hX 2 A rfl rfl fun A => have A := sy_sayD A 17 (.int .i64 8) rfl (fun _ => rfl); N hX 1 A rfl (ok_d (by omega) <| okE_nil) fun A => have A := sy_sayD A 18 (.int .i64 18) rfl (fun _ => rfl); N hX 6 A rfl rfl fun A => N hX 3 A rfl rfl fun A => forkD 20 A rfl
      (fun h4 A => absurd h4 (by decide))
      (fun h4 A => N hX 6 A rfl (ok_d (by omega) <| okE_nil) fun A => have A := sy_sayD A 22 (.int .i64 2) rfl (fun _ => rfl); N hX 1 A rfl rfl fun A => N hX 1 A rfl rfl fun A => RND (have A := A.cut [0, 2, 3, 9, 10, 11] rfl;
 N hX 6 A rfl rfl fun A => forkD 12 A rfl
       (fun h5 A => N hX 8 A rfl (ok_d (by omega) <| okE_nil) fun A => have A := sy_sayD A 13 (.ptr 0 2) rfl (ix_p 2 rfl); N hX 7 A rfl rfl fun A => N hX 2 A rfl rfl fun A => have A := sy_sayD A 17 (.int .i64 7) rfl (fun _ => rfl); N hX 1 A rfl (ok_d (by omega) <| okE_nil) fun A => have A := sy_sayD A 18 (.int .i64 25) rfl (fun _ => rfl); N hX 6 A rfl rfl fun A => N hX 3 A rfl rfl fun A => forkD 20 A rfl
        (fun h6 A => absurd h6 (by decide))
        (fun h6 A => N hX 6 A rfl (ok_d (by omega) <| okE_nil) fun A => have A := sy_sayD A 22 (.int .i64 3) rfl (fun _ => rfl); N hX 1 A rfl rfl fun A => N hX 1 A rfl rfl fun A => RND (have A := A.cut [0, 2, 3, 9, 10, 11] rfl;
 N hX 6 A rfl rfl fun A => forkD 12 A rfl
         (fun h7 A => absurd h7 (by decide))
         (fun h7 A => N hX 6 A rfl rfl fun A => CALLROWA (t := 24) (F := fun (L : List Rw) zz => rwc (L.getD zz Rw.z)) (R := fun L b w w' => L = []) (grow_ 25 (by decide) (by decide)) A rfl rfl rfl fun L b1 cp1 a1 w1 G1 hR hlo hk A =>
 N hX 8 A rfl rfl fun A => have A := sy_sayD A 26 (.int .i64 3) rfl (fun _ => rfl); N hX 1 A rfl rfl fun A => N hX 3 A rfl rfl fun A => UNR 4 (RND (have A := A.cut [2, 6, 25, 26, 27] rfl;
 N hX 6 A rfl rfl fun A => forkD 28 A rfl
           (fun h8 A => N hX 8 A rfl (ok_d (by omega) <| okE_nil) fun A => have A := sy_sayD A 29 (.ptr 0 0) rfl (ix_p 0 rfl); N hX 7 A rfl rfl fun A => q_eff A rfl (aplE hX 10 (fun zz => rwc (L1.getD zz Rw.z)) rfl rfl rfl rfl (Nat.le_refl _) (by decide) (show 10 ≤ 1000000 by decide) rfl (fun k hk => absurd hk (Nat.not_lt_zero k)) (fun k hk => by show rwc (L1.getD (0 + k) Rw.z) = rwc _; rw [Nat.zero_add]) (fun z => ⟨_, rfl, rfl⟩) (fun k hk => ⟨_, rfl, okE_nil⟩)) fun A =>
 N hX 6 A rfl (ok_d (by omega) <| okE_nil) fun A => have A := sy_sayD A 34 (.int .i64 1) rfl (fun _ => rfl); N hX 1 A rfl rfl fun A => N hX 1 A rfl rfl fun A => RND (have A := A.cut [2, 6, 25, 26, 27] rfl;
 N hX 6 A rfl rfl fun A => forkD 28 A rfl
            (fun h9 A => N hX 8 A rfl (ok_d (by omega) <| okE_nil) fun A => have A := sy_sayD A 29 (.ptr 0 1) rfl (ix_p 1 rfl); N hX 7 A rfl rfl fun A => q_eff A rfl (aplE hX 18 (fun zz => rwc ((L1 ++ L2).getD zz Rw.z)) rfl rfl rfl rfl (Nat.le_refl _) (by decide) (show 8 ≤ 1000000 by decide) rfl (fun k hk => by show rwc _ = rwc _; rw [getD_app_l (by rw [l1]; exact hk)]) (fun k hk => by show rwc ((L1 ++ L2).getD (10 + k) Rw.z) = rwc _; rw [show 10 + k = L1.length + k by rw [l1], getD_app_r]) (fun z => ⟨_, rfl, rfl⟩) (fun k hk => ⟨_, rfl, okE_nil⟩)) fun A =>
 N hX 6 A rfl (ok_d (by omega) <| okE_nil) fun A => have A := sy_sayD A 34 (.int .i64 2) rfl (fun _ => rfl); N hX 1 A rfl rfl fun A => N hX 1 A rfl rfl fun A => RND (have A := A.cut [2, 6, 25, 26, 27] rfl;
 N hX 6 A rfl rfl fun A => forkD 28 A rfl
             (fun h10 A => N hX 8 A rfl (ok_d (by omega) <| okE_nil) fun A => have A := sy_sayD A 29 (.ptr 0 2) rfl (ix_p 2 rfl); N hX 7 A rfl rfl fun A => q_eff A rfl (aplE hX 25 (fun zz => rwc (((L1 ++ L2) ++ L3).getD zz Rw.z)) rfl rfl rfl rfl (Nat.le_refl _) (by decide) (show 7 ≤ 1000000 by decide) rfl (fun k hk => by show rwc _ = rwc _; rw [getD_app_l (by rw [l12]; exact hk)]) (fun k hk => by show rwc (((L1 ++ L2) ++ L3).getD (18 + k) Rw.z) = rwc _; rw [show 18 + k = (L1 ++ L2).length + k by rw [l12], getD_app_r]) (fun z => ⟨_, rfl, rfl⟩) (fun k hk => ⟨_, rfl, okE_nil⟩)) fun A =>
 N hX 6 A rfl (ok_d (by omega) <| okE_nil) fun A => have A := sy_sayD A 34 (.int .i64 3) rfl (fun _ => rfl); N hX 1 A rfl rfl fun A => N hX 1 A rfl rfl fun A => RND (have A := A.cut [2, 6, 25, 26, 27] rfl;
 N hX 6 A rfl rfl fun A => forkD 28 A rfl
              (fun h11 A => absurd h11 (by decide))
              (fun h11 A => N hX 10 A rfl rfl fun A => RET hX [7] A ⟨rfl, rfl⟩ rfl rfl rfl rfl rfl rfl rfl rfl h0)))
             (fun h10 A => absurd (by decide) h10)))
            (fun h9 A => absurd (by decide) h9)))
           (fun h8 A => absurd (by decide) h8)))))))
       (fun h5 A => absurd (by decide) h5))))
     (fun h3 A => absurd (by decide) h3))))
   (fun h1 A => absurd (by decide) h1)))
abbrev rothL (b1 b2 b3 b4 b5 b6 b7 b8 : Nat) : List (Nat × List SV) := [(b8, [.str [108, 105], .str [], .int .i64 1, .int .i64 0, .int .i64 0, .int .i64 0, .int .i64 0, .int .i64 0, .int .i64 0, .int .i64 0, .int .i64 0, .int .i64 0, .ff, .ff, .ff, .int .i64 0, .int .i64 0, .int .i64 0, .ff, .sla (some ⟨b1, 0, none⟩) 2 2, .str [109, 118], .str [], .int .i64 2, .int .i64 0, .int .i64 0, .int .i64 0, .int .i64 0, .int .i64 0, .int .i64 0, .int .i64 0, .int .i64 0, .int .i64 0, .ff, .ff, .ff, .int .i64 0, .int .i64 0, .int .i64 0, .ff, .sla (some ⟨b2, 0, none⟩) 2 2, .str [108, 42], .str [], .int .i64 4, .int .i64 0, .int .i64 0, .int .i64 0, .int .i64 0, .int .i64 0, .int .i64 0, .int .i64 0, .int .i64 0, .int .i64 0, .ff, .ff, .ff, .int .i64 0, .int .i64 0, .int .i64 0, .ff, .sla (some ⟨b3, 0, none⟩) 2 2, .str [115, 42], .str [], .int .i64 5, .int .i64 0, .int .i64 0, .int .i64 0, .int .i64 0, .int .i64 0, .int .i64 0, .int .i64 0, .int .i64 0, .int .i64 0, .ff, .ff, .ff, .int .i64 0, .int .i64 0, .int .i64 0, .ff, .sla (some ⟨b4, 0, none⟩) 2 2, .str [102, 101, 110, 99, 101], .str [], .int .i64 7, .int .i64 0, .int .i64 0, .int .i64 0, .int .i64 0, .int .i64 0, .int .i64 0, .int .i64 0, .int .i64 0, .int .i64 0, .ff, .ff, .ff, .int .i64 0, .int .i64 0, .int .i64 0, .ff, .sla (some ⟨b5, 0, none⟩) 2 2, .str [98, 101, 113, 122], .str [], .int .i64 9, .int .i64 0, .int .i64 0, .int .i64 0, .int .i64 0, .int .i64 0, .int .i64 0, .int .i64 0, .int .i64 0, .int .i64 0, .ff, .ff, .ff, .int .i64 0, .int .i64 0, .int .i64 0, .tt, .sla (some ⟨b6, 0, none⟩) 2 2, .str [98, 110, 101, 122], .str [], .int .i64 9, .int .i64 0, .int .i64 0, .int .i64 0, .int .i64 0, .int .i64 0, .int .i64 0, .int .i64 0, .int .i64 0, .int .i64 0, .ff, .ff, .ff, .int .i64 0, .int .i64 0, .int .i64 0, .ff, .sla (some ⟨b7, 0, none⟩) 2 2]), (b7, [.int .i64 2, .int .i64 7]), (b6, [.int .i64 2, .int .i64 7]), (b5, [.int .i64 8, .int .i64 9]), (b4, [.int .i64 2, .int .i64 6]), (b3, [.int .i64 1, .int .i64 6]), (b2, [.int .i64 1, .int .i64 2]), (b1, [.int .i64 1, .int .i64 5])]
theorem roth_ : FnR Tryz.prog 96 [] [] (fun x w w' => ∃ b1 b2 b3 b4 b5 b6 b7 b8 : Nat, x = .sla (some ⟨b8, 0, none⟩) 7 7 ∧ Acc w.heap.size (rothL b1 b2 b3 b4 b5 b6 b7 b8) w' []) :=
 enterR (n := 23) (by kernel_rfl) Tryz.func96 rfl rfl rfl fun G w a h0 A => have B := A; have hA : Acc w.heap.size [] w _ := Acc.nil; N hX 8 A rfl rfl fun A => BSCA [.int .i64 1, .int .i64 5] (X := ⟨_, true⟩) hX B hA A rfl rfl rfl rfl fun b1 B hA A =>
 N hX 2 A rfl rfl fun A => BSCA [.int .i64 1, .int .i64 2] (X := ⟨_, true⟩) hX B hA A rfl rfl rfl rfl fun b2 B hA A =>
 N hX 2 A rfl rfl fun A => BSCA [.int .i64 1, .int .i64 6] (X := ⟨_, true⟩) hX B hA A rfl rfl rfl rfl fun b3 B hA A =>
 N hX 2 A rfl rfl fun A => BSCA [.int .i64 2, .int .i64 6] (X := ⟨_, true⟩) hX B hA A rfl rfl rfl rfl fun b4 B hA A =>
 N hX 2 A rfl rfl fun A => BSCA [.int .i64 8, .int .i64 9] (X := ⟨_, true⟩) hX B hA A rfl rfl rfl rfl fun b5 B hA A =>
 N hX 2 A rfl rfl fun A => BSCA [.int .i64 2, .int .i64 7] (X := ⟨_, true⟩) hX B hA A rfl rfl rfl rfl fun b6 B hA A =>
 N hX 2 A rfl rfl fun A => BSCA [.int .i64 2, .int .i64 7] (X := ⟨_, true⟩) hX B hA A rfl rfl rfl rfl fun b7 B hA A =>
 N hX 1 A rfl rfl fun A => BSCA [.str [108, 105], .str [], .int .i64 1, .int .i64 0, .int .i64 0, .int .i64 0, .int .i64 0, .int .i64 0, .int .i64 0, .int .i64 0, .int .i64 0, .int .i64 0, .ff, .ff, .ff, .int .i64 0, .int .i64 0, .int .i64 0, .ff, .sla (some ⟨b1, 0, none⟩) 2 2, .str [109, 118], .str [], .int .i64 2, .int .i64 0, .int .i64 0, .int .i64 0, .int .i64 0, .int .i64 0, .int .i64 0, .int .i64 0, .int .i64 0, .int .i64 0, .ff, .ff, .ff, .int .i64 0, .int .i64 0, .int .i64 0, .ff, .sla (some ⟨b2, 0, none⟩) 2 2, .str [108, 42], .str [], .int .i64 4, .int .i64 0, .int .i64 0, .int .i64 0, .int .i64 0, .int .i64 0, .int .i64 0, .int .i64 0, .int .i64 0, .int .i64 0, .ff, .ff, .ff, .int .i64 0, .int .i64 0, .int .i64 0, .ff, .sla (some ⟨b3, 0, none⟩) 2 2, .str [115, 42], .str [], .int .i64 5, .int .i64 0, .int .i64 0, .int .i64 0, .int .i64 0, .int .i64 0, .int .i64 0, .int .i64 0, .int .i64 0, .int .i64 0, .ff, .ff, .ff, .int .i64 0, .int .i64 0, .int .i64 0, .ff, .sla (some ⟨b4, 0, none⟩) 2 2, .str [102, 101, 110, 99, 101], .str [], .int .i64 7, .int .i64 0, .int .i64 0, .int .i64 0, .int .i64 0, .int .i64 0, .int .i64 0, .int .i64 0, .int .i64 0, .int .i64 0, .ff, .ff, .ff, .int .i64 0, .int .i64 0, .int .i64 0, .ff, .sla (some ⟨b5, 0, none⟩) 2 2, .str [98, 101, 113, 122], .str [], .int .i64 9, .int .i64 0, .int .i64 0, .int .i64 0, .int .i64 0, .int .i64 0, .int .i64 0, .int .i64 0, .int .i64 0, .int .i64 0, .ff, .ff, .ff, .int .i64 0, .int .i64 0, .int .i64 0, .tt, .sla (some ⟨b6, 0, none⟩) 2 2, .str [98, 110, 101, 122], .str [], .int .i64 9, .int .i64 0, .int .i64 0, .int .i64 0, .int .i64 0, .int .i64 0, .int .i64 0, .int .i64 0, .int .i64 0, .int .i64 0, .ff, .ff, .ff, .int .i64 0, .int .i64 0, .int .i64 0, .ff, .sla (some ⟨b7, 0, none⟩) 2 2] (X := ⟨_, true⟩) hX B hA A rfl rfl rfl rfl fun b8 B hA A =>
 N hX 4 A rfl rfl fun A => RETR (J := fun x w w' => ∃ b1 b2 b3 b4 b5 b6 b7 b8 : Nat, x = .sla (some ⟨b8, 0, none⟩) 7 7 ∧ Acc w.heap.size (rothL b1 b2 b3 b4 b5 b6 b7 b8) w' []) hX (B.trans A) (fun i e he => nil_no he) rfl rfl rfl rfl ⟨b1, b2, b3, b4, b5, b6, b7, b8, rfl, (hA.now A).bare⟩
def rothR (b1 b2 b3 b4 b5 b6 b7 : Nat) : List Rw := [⟨[108, 105], [], ⟨1, 0, 0, 0, 0, 0, 0, 0, 0, 0, false, false, false, 0, 0, 0, false⟩, some ⟨b1, 0, none⟩, [1, 5], 2⟩, ⟨[109, 118], [], ⟨2, 0, 0, 0, 0, 0, 0, 0, 0, 0, false, false, false, 0, 0, 0, false⟩, some ⟨b2, 0, none⟩, [1, 2], 2⟩, ⟨[108, 42], [], ⟨4, 0, 0, 0, 0, 0, 0, 0, 0, 0, false, false, false, 0, 0, 0, false⟩, some ⟨b3, 0, none⟩, [1, 6], 2⟩, ⟨[115, 42], [], ⟨5, 0, 0, 0, 0, 0, 0, 0, 0, 0, false, false, false, 0, 0, 0, false⟩, some ⟨b4, 0, none⟩, [2, 6], 2⟩, ⟨[102, 101, 110, 99, 101], [], ⟨7, 0, 0, 0, 0, 0, 0, 0, 0, 0, false, false, false, 0, 0, 0, false⟩, some ⟨b5, 0, none⟩, [8, 9], 2⟩, ⟨[98, 101, 113, 122], [], ⟨9, 0, 0, 0, 0, 0, 0, 0, 0, 0, false, false, false, 0, 0, 0, true⟩, some ⟨b6, 0, none⟩, [2, 7], 2⟩, ⟨[98, 110, 101, 122], [], ⟨9, 0, 0, 0, 0, 0, 0, 0, 0, 0, false, false, false, 0, 0, 0, false⟩, some ⟨b7, 0, none⟩, [2, 7], 2⟩]
def rothT : List (List UInt8 × List UInt8 × In × List Int) := [([108, 105], [], ⟨1, 0, 0, 0, 0, 0, 0, 0, 0, 0, false, false, false, 0, 0, 0, false⟩, [1, 5]), ([109, 118], [], ⟨2, 0, 0, 0, 0, 0, 0, 0, 0, 0, false, false, false, 0, 0, 0, false⟩, [1, 2]), ([108, 42], [], ⟨4, 0, 0, 0, 0, 0, 0, 0, 0, 0, false, false, false, 0, 0, 0, false⟩, [1, 6]), ([115, 42], [], ⟨5, 0, 0, 0, 0, 0, 0, 0, 0, 0, false, false, false, 0, 0, 0, false⟩, [2, 6]), ([102, 101, 110, 99, 101], [], ⟨7, 0, 0, 0, 0, 0, 0, 0, 0, 0, false, false, false, 0, 0, 0, false⟩, [8, 9]), ([98, 101, 113, 122], [], ⟨9, 0, 0, 0, 0, 0, 0, 0, 0, 0, false, false, false, 0, 0, 0, true⟩, [2, 7]), ([98, 110, 101, 122], [], ⟨9, 0, 0, 0, 0, 0, 0, 0, 0, 0, false, false, false, 0, 0, 0, false⟩, [2, 7])]
def riscvT : List (List UInt8 × List UInt8 × In × List Int) := (rcomp ++ ratom) ++ rothT
theorem roth_rows {b1 b2 b3 b4 b5 b6 b7 b8 lo lo2 : Nat} {w : World} {ks : List Nat} (h : Acc lo (rothL b1 b2 b3 b4 b5 b6 b7 b8) w ks) (hlo : lo2 ≤ lo) : RowsIn lo2 (rothR b1 b2 b3 b4 b5 b6 b7) w ks := by
  intro r hr
  unfold rothR at hr
  simp only [List.mem_cons, List.mem_nil_iff, or_false] at hr
  rcases hr with rfl | rfl | rfl | rfl | rfl | rfl | rfl
  · have q := lies_of (b := b1) (cs := []) [1, 5] h (by show _ ∈ rothL b1 b2 b3 b4 b5 b6 b7 b8; unfold rothL; simp); exact ⟨q.1, fun z hz => Nat.le_trans hlo (q.2 z hz)⟩
  · have q := lies_of (b := b2) (cs := []) [1, 2] h (by show _ ∈ rothL b1 b2 b3 b4 b5 b6 b7 b8; unfold rothL; simp); exact ⟨q.1, fun z hz => Nat.le_trans hlo (q.2 z hz)⟩
  · have q := lies_of (b := b3) (cs := []) [1, 6] h (by show _ ∈ rothL b1 b2 b3 b4 b5 b6 b7 b8; unfold rothL; simp); exact ⟨q.1, fun z hz => Nat.le_trans hlo (q.2 z hz)⟩
  · have q := lies_of (b := b4) (cs := []) [2, 6] h (by show _ ∈ rothL b1 b2 b3 b4 b5 b6 b7 b8; unfold rothL; simp); exact ⟨q.1, fun z hz => Nat.le_trans hlo (q.2 z hz)⟩
  · have q := lies_of (b := b5) (cs := []) [8, 9] h (by show _ ∈ rothL b1 b2 b3 b4 b5 b6 b7 b8; unfold rothL; simp); exact ⟨q.1, fun z hz => Nat.le_trans hlo (q.2 z hz)⟩
  · have q := lies_of (b := b6) (cs := []) [2, 7] h (by show _ ∈ rothL b1 b2 b3 b4 b5 b6 b7 b8; unfold rothL; simp); exact ⟨q.1, fun z hz => Nat.le_trans hlo (q.2 z hz)⟩
  · have q := lies_of (b := b7) (cs := []) [2, 7] h (by show _ ∈ rothL b1 b2 b3 b4 b5 b6 b7 b8; unfold rothL; simp); exact ⟨q.1, fun z hz => Nat.le_trans hlo (q.2 z hz)⟩
theorem roth_den (b1 b2 b3 b4 b5 b6 b7 b8 : Nat) : denL [] ((rothR b1 b2 b3 b4 b5 b6 b7).flatMap rwc) = denL [] [.str [108, 105], .str [], .int .i64 1, .int .i64 0, .int .i64 0, .int .i64 0, .int .i64 0, .int .i64 0, .int .i64 0, .int .i64 0, .int .i64 0, .int .i64 0, .ff, .ff, .ff, .int .i64 0, .int .i64 0, .int .i64 0, .ff, .sla (some ⟨b1, 0, none⟩) 2 2, .str [109, 118], .str [], .int .i64 2, .int .i64 0, .int .i64 0, .int .i64 0, .int .i64 0, .int .i64 0, .int .i64 0, .int .i64 0, .int .i64 0, .int .i64 0, .ff, .ff, .ff, .int .i64 0, .int .i64 0, .int .i64 0, .ff, .sla (some ⟨b2, 0, none⟩) 2 2, .str [108, 42], .str [], .int .i64 4, .int .i64 0, .int .i64 0, .int .i64 0, .int .i64 0, .int .i64 0, .int .i64 0, .int .i64 0, .int .i64 0, .int .i64 0, .ff, .ff, .ff, .int .i64 0, .int .i64 0, .int .i64 0, .ff, .sla (some ⟨b3, 0, none⟩) 2 2, .str [115, 42], .str [], .int .i64 5, .int .i64 0, .int .i64 0, .int .i64 0, .int .i64 0, .int .i64 0, .int .i64 0, .int .i64 0, .int .i64 0, .int .i64 0, .ff, .ff, .ff, .int .i64 0, .int .i64 0, .int .i64 0, .ff, .sla (some ⟨b4, 0, none⟩) 2 2, .str [102, 101, 110, 99, 101], .str [], .int .i64 7, .int .i64 0, .int .i64 0, .int .i64 0, .int .i64 0, .int .i64 0, .int .i64 0, .int .i64 0, .int .i64 0, .int .i64 0, .ff, .ff, .ff, .int .i64 0, .int .i64 0, .int .i64 0, .ff, .sla (some ⟨b5, 0, none⟩) 2 2, .str [98, 101, 113, 122], .str [], .int .i64 9, .int .i64 0, .int .i64 0, .int .i64 0, .int .i64 0, .int .i64 0, .int .i64 0, .int .i64 0, .int .i64 0, .int .i64 0, .ff, .ff, .ff, .int .i64 0, .int .i64 0, .int .i64 0, .tt, .sla (some ⟨b6, 0, none⟩) 2 2, .str [98, 110, 101, 122], .str [], .int .i64 9, .int .i64 0, .int .i64 0, .int .i64 0, .int .i64 0, .int .i64 0, .int .i64 0, .int .i64 0, .int .i64 0, .int .i64 0, .ff, .ff, .ff, .int .i64 0, .int .i64 0, .int .i64 0, .ff, .sla (some ⟨b7, 0, none⟩) 2 2] := by rfl
section
variable {n : Nat} {ks : List Nat} {G0 : Gr} {w0 : World} {T : List (Nat × SV)} {H : Hp} {G : Gr} {a : Act} {w : World} {Q : Exit → Act → World → Prop} {K : List Fr} {ops : Array Oper} {o : Oper} {rest : List Oper}
theorem CALLROTH (A : Sy n T H ks G0 w0 G a w) (h1 : callS n ops T o = some (96, []))
    (k : ∀ b1 b2 b3 b4 b5 b6 b7 b8 vs a' w', denL [] ((rothR b1 b2 b3 b4 b5 b6 b7).flatMap rwc) = some vs → Lies b8 0 vs w' (keys H G) → RowsIn w.heap.size (rothR b1 b2 b3 b4 b5 b6 b7) w' (keys H G) → Sy n (extS T o.dst (.sla (some ⟨b8, 0, none⟩) 7 7)) H ks G0 w0 G a' w' → Goal Tryz.prog Q K (.ops ops rest) a' w') : Goal Tryz.prog Q K (.ops ops (o :: rest)) a w := by
  refine CALLR [] roth_ A h1 rfl rfl rfl rfl fun x a' w' hJ hk A' => ?_
  obtain ⟨b1, b2, b3, b4, b5, b6, b7, b8, rfl, hA⟩ := hJ
  have hA := acc_keys hA hk
  obtain ⟨_, vs, q1, q2⟩ := hA _ List.mem_cons_self
  exact k b1 b2 b3 b4 b5 b6 b7 b8 vs a' w' ((roth_den b1 b2 b3 b4 b5 b6 b7 b8).trans q1) q2 (roth_rows hA (Nat.le_refl _)) A'
end
theorem rregs_   : Fn Tryz.prog 45 [] [] (Rt (.agg [.str [97, 48], .str [97, 49], .str [97, 50], .str [97, 51], .str [97, 52], .str [97, 53], .str [97, 54], .str [97, 55]]) []) :=
 enterM (n := 2) (by kernel_rfl) Tryz.func45 rfl rfl rfl fun G w a h0 A => N hX 12 A rfl rfl fun A => RETN hX A rfl rfl rfl h0 rfl rfl rfl rfl rfl rfl
theorem rlang_ : FnR Tryz.prog 44 [] [] (fun x w w' => ∃ (L : List Rw) (b cp : Nat), x = .agg [.str [97, 48], .str [97, 49], .str [97, 50], .str [97, 51], .str [97, 52], .str [97, 53], .str [97, 54], .str [97, 55], .str [98], .str [104], .str [119], .str [100], .str [], .str [114], .str [119], .str [114, 119], .sla (some ⟨b, 0, none⟩) 25 cp] ∧ (L.map tm = riscvT ∧ RowsIn w.heap.size L w' [b]) ∧ w.heap.size ≤ b ∧ Given 109 20 25 (fun zz => rwc (L.getD zz Rw.z)) b cp w') :=
 enterR (n := 10) (by kernel_rfl) Tryz.func44 rfl rfl rfl fun G w a h0 A => N hX 7 A rfl rfl fun A => CALL1 [] (rregs_ ) A rfl rfl rfl rfl rfl rfl rfl fun A => N hX 2 A rfl rfl fun A => have hz := A.mix.size; CALLROW (t := 4) (F := fun (L : List Rw) zz => rwc (L.getD zz Rw.z)) (R := fun L b w w' => L.map tm = rcomp ∧ RowsIn w.heap.size L w' [b]) rcomp_ A rfl rfl fun L1 b1 cp1 a1 w1 G1 hR1 hlo hk A => have l1 : L1.length = 10 := (by have q := congrArg List.length hR1.1; rw [List.length_map] at q; exact q); have hI := (rows_keys hR1.2 hk).mono hz; have B := A; have A := B.base;
 have hz := Nat.le_trans B.mix.size A.mix.size; CALLROW (t := 5) (F := fun (L : List Rw) zz => rwc (L.getD zz Rw.z)) (R := fun L b w w' => L.map tm = ratom ∧ RowsIn w.heap.size L w' [b]) ratom_ A rfl rfl fun L2 b2 cp2 a2_ w2 G2 hR2 hlo hk A => have l2 : L2.length = 8 := (by have q := congrArg List.length hR2.1; rw [List.length_map] at q; exact q); have hI2 := (rows_keys hR2.2 hk).mono hz; have hI := (RowsIn.ok _ _ _ _ hI A.mix A.keys_own).app hI2; have l12 : (L1 ++ L2).length = 18 := (by rw [List.length_append, l1, l2]); have B := B.trans A; have A := A.base;
 have hz := Nat.le_trans B.mix.size A.mix.size; CALLROTH A rfl fun c1 c2 c3 c4 c5 c6 c7 c8 vs a3 w3 hv hL hO A => have hI := (RowsIn.ok _ _ _ _ hI A.mix A.keys_own).app (hO.mono hz); have B := B.trans A; have A := A.base; have A := A.adoptL Rw.z rwc 20 tyR.1 tyR.2.1 tyR.2.2 (rothR c1 c2 c3 c4 c5 c6 c7) hL hv 6 rfl;
 N hX 1 A rfl rfl fun A => have A := A.freeze 1 rfl; have A := A.freeze 2 rfl; CALL1 [4, 1, 2, 3] (concat_ L1 L2 (rothR c1 c2 c3 c4 c5 c6 c7) 0 0 7 l1 l12) A rfl rfl rfl rfl rfl rfl rfl fun A => match A.giveRow 5 8 (by decide) rfl rfl rfl with | ⟨b, cp, A2, hG, ho, hkb⟩ => (have h1 := RowsIn.ok _ _ _ _ hI A2.mix A2.keys_own; have h2 := RowsIn.ok _ _ _ [b] hI A2.mix (fun b2 hb => by have : b2 = b := (by simpa using hb); rw [this]; exact ho); have hbl := lo_of B (fun i e he => nil_no he) ho; have B := B.trans A2; have A := A2.base;
 N hX 5 A rfl rfl fun A => RETR (J := fun x w w' => ∃ (L : List Rw) (b cp : Nat), x = .agg [.str [97, 48], .str [97, 49], .str [97, 50], .str [97, 51], .str [97, 52], .str [97, 53], .str [97, 54], .str [97, 55], .str [98], .str [104], .str [119], .str [100], .str [], .str [114], .str [119], .str [114, 119], .sla (some ⟨b, 0, none⟩) 25 cp] ∧ (L.map tm = riscvT ∧ RowsIn w.heap.size L w' [b]) ∧ w.heap.size ≤ b ∧ Given 109 20 25 (fun zz => rwc (L.getD zz Rw.z)) b cp w') hX (B.trans A) (fun i e he => nil_no he) rfl rfl rfl rfl ⟨(L1 ++ L2) ++ (rothR c1 c2 c3 c4 c5 c6 c7), b, cp, rfl, ⟨by rw [List.map_append, List.map_append, hR1.1, hR2.1]; rfl, h1.one h2 A.mix⟩, hbl, hG.mix A.mix hkb⟩)
def riscvG : Lg := ⟨[97, 48], [97, 49], [97, 50], [97, 51], [97, 52], [97, 53], [97, 54], [97, 55], [98], [104], [119], [100], [], [114], [119], [114, 119]⟩
def riscvC : List Rw := riscvT.map rwOf
theorem riscv_pa {L : List Rw} {ws : List Tk} (hm : L.map tm = riscvT) : PaOK riscvG ws L := pa_ok hm (by decide +kernel) (by decide +kernel) (by decide +kernel) (fun k => by
  by_cases h : k < 4
  · have : k = 0 ∨ k = 1 ∨ k = 2 ∨ k = 3 := by omega
    rcases this with rfl | rfl | rfl | rfl <;> decide
  · rw [List.getD_eq_getElem?_getD, List.getElem?_eq_none (by simpa using h)]; decide)
theorem riscv_par {L : List Rw} (h : L.map tm = riscvT) (ws : List Tk) : parI riscvG ws L = parI riscvG ws riscvC ∧ parT riscvG ws L = parT riscvG ws riscvC ∧ parE riscvG ws L = parE riscvG ws riscvC ∧ parA riscvG ws L = parA riscvG ws riscvC := by
  have := cn_par (g := riscvG) (ws := ws) (L := L)
  rw [cn_tm h] at this
  exact ⟨this.1.symm, this.2.1.symm, this.2.2.1.symm, this.2.2.2.symm⟩
theorem riscv_pr {L : List Rw} {i : In} {lb : List UInt8} (h : L.map tm = riscvT) : prP riscvG L i lb = prP riscvG riscvC i lb := by
  have := cn_prP (g := riscvG) (L := L) (i := i) (lb := lb)
  rw [cn_tm h] at this
  exact this.symm
theorem riscv_lg : LgL riscvG := by
  refine ⟨⟨fun r => ?_, by decide⟩, fun k => ?_, by decide, by decide, by decide⟩
  · unfold regnm0
    split
    · exact Nat.zero_le _
    · next h =>
      have : (r).toNat = 0 ∨ (r).toNat = 1 ∨ (r).toNat = 2 ∨ (r).toNat = 3 ∨ (r).toNat = 4 ∨ (r).toNat = 5 ∨ (r).toNat = 6 ∨ (r).toNat = 7 := by
        simp only [Bool.or_eq_true, decide_eq_true_eq] at h; omega
      rcases this with e | e | e | e | e | e | e | e <;> rw [e] <;> decide
  · by_cases h : k < 4
    · have : k = 0 ∨ k = 1 ∨ k = 2 ∨ k = 3 := by omega
      rcases this with rfl | rfl | rfl | rfl <;> decide
    · rw [List.getD_eq_getElem?_getD, List.getElem?_eq_none (by simpa using h)]; decide
theorem riscv_prok {L : List Rw} {i : In} {lb : List UInt8} (hi : InR i) (hl : lb.length ≤ 100000) (hm : L.map tm = riscvT) : PrOK riscvG L i lb := pr_ok hm riscv_lg (by decide +kernel) (by decide +kernel) hi hl
theorem vparse_ (ws : List Tk) (d : Nat) (hn : ws.length ≤ 1000000) (hw : WsOK ws) (os : List (Nat × Obj)) (hM : ∀ w ks, Gl os w ks → ∃ m, w.cell? ⟨0, 0, none⟩ = some (.int .i64 m)) : FnI (Gl os) Tryz.prog 20 [.sl 0 ws.length d] [some (.lst 4 ws.length (fun zz => tkc (ws.getD zz tok0)))] (Rt (.tup [.agg (inQ9 (parI riscvG ws riscvC)), .str (parT riscvG ws riscvC), .int .i64 (parE riscvG ws riscvC), .int .i64 (parA riscvG ws riscvC)]) [some (.lst 4 ws.length (fun zz => tkc (ws.getD zz tok0)))]) :=
 enterI (n := 13) (by kernel_rfl) Tryz.func20 rfl rfl rfl fun G w a h0 hI A => N hX 10 A rfl rfl fun A => CALLAGG (t := 6) (l := [.str [97, 48], .str [97, 49], .str [97, 50], .str [97, 51], .str [97, 52], .str [97, 53], .str [97, 54], .str [97, 55], .str [98], .str [104], .str [119], .str [100], .str [], .str [114], .str [119], .str [114, 119]]) (F := fun (L : List Rw) zz => rwc (L.getD zz Rw.z)) (R := fun L b w w' => L.map tm = riscvT ∧ RowsIn w.heap.size L w' [b]) rlang_ A rfl rfl fun L b cp a1 w1 G1 hR hlo hkk A => have hl20 : L.length = 25 := (by have q := congrArg List.length hR.1; rw [List.length_map] at q; exact q.trans (by decide +kernel)); have hRI := rows_keys hR.2 hkk; have B0 := A; have A := A.base; have A := A.rowAs 2 L.length (fun zz => rwc (L.getD zz Rw.z)) rfl hl20 (fun _ _ => rfl) (fun z => ⟨_, rfl, rfl⟩); have A := A.say 6 (.agg [.str [97, 48], .str [97, 49], .str [97, 50], .str [97, 51], .str [97, 52], .str [97, 53], .str [97, 54], .str [97, 55], .str [98], .str [104], .str [119], .str [100], .str [], .str [114], .str [119], .str [114, 119], .sl 2 L.length 0]) rfl (by rw [hl20] <;> rfl); have A := A.freeze 2 rfl; have hTb := RowsIn.ok.now A hRI; have B := B0.trans A; have A := A.base; have hI2 : PrI os L _ _ := ⟨fun r hr => (hTb r hr).1, Gl.ok.now B hI⟩; N hX 1 A rfl rfl fun A => CALLI [2, 0] PrI.ok hI2 (lparse_ riscvG L 0 ws d hn hw os hM (riscv_pa hR.1)) A rfl rfl rfl rfl rfl rfl rfl fun A => N hX 11 A rfl rfl fun A => have e := riscv_par hR.1 ws; RETN hX (B.trans A) rfl rfl rfl h0 rfl rfl rfl rfl (by rw [← e.1, ← e.2.1, ← e.2.2.1, ← e.2.2.2] <;> rfl) rfl
theorem vprint_ (i : In) (lb : List UInt8) (os : List (Nat × Obj)) (hM : ∀ w ks, Gl os w ks → ∃ m, w.cell? ⟨0, 0, none⟩ = some (.int .i64 m)) (hT : ∀ w ks, Gl os w ks → Lib.TabIs Tryz.prog w "internal/strconv.uint64pow10" .u64 Lib.pow10Tab) (hE : ∀ w ks, Gl os w ks → ∃ ev, w.cell? ⟨1, 0, none⟩ = some ev ∧ (ev = .nilIface ∨ ∃ te pe, ev = .iface te pe)) (hp : ∀ L : List Rw, L.map tm = riscvT → PrOK riscvG L i lb) : FnI (Gl os) Tryz.prog 21 [.agg (inQ9 i), .str lb] [] (Rt (.tup [.str ((prP riscvG riscvC i lb).1), .int .i64 ((prP riscvG riscvC i lb).2)]) []) :=
 enterI (n := 12) (by kernel_rfl) Tryz.func21 rfl rfl rfl fun G w a h0 hI A => N hX 8 A rfl rfl fun A => any_in 8 hmo rfl A fun A => any_at (rs := [0, 1, 2]) (by kernel_rfl) (by decide) (List.forall_mem_cons.2 ⟨any_agg (t := 6) (l := [.str [97, 48], .str [97, 49], .str [97, 50], .str [97, 51], .str [97, 52], .str [97, 53], .str [97, 54], .str [97, 55], .str [98], .str [104], .str [119], .str [100], .str [], .str [114], .str [119], .str [114, 119]]) (F := fun (L : List Rw) zz => rwc (L.getD zz Rw.z)) (R := fun L b w w' => L.map tm = riscvT ∧ RowsIn w.heap.size L w' [b]) rfl rlang_ A rfl rfl fun L b cp a1 w1 G1 hR hlo hkk A => have hl20 : L.length = 25 := (by have q := congrArg List.length hR.1; rw [List.length_map] at q; exact q.trans (by decide +kernel)); have hRI := rows_keys hR.2 hkk; have B0 := A; have A := A.base; have A := A.rowAs 1 L.length (fun zz => rwc (L.getD zz Rw.z)) rfl hl20 (fun _ _ => rfl) (fun z => ⟨_, rfl, rfl⟩); have A := A.say 6 (.agg [.str [97, 48], .str [97, 49], .str [97, 50], .str [97, 51], .str [97, 52], .str [97, 53], .str [97, 54], .str [97, 55], .str [98], .str [104], .str [119], .str [100], .str [], .str [114], .str [119], .str [114, 119], .sl 1 L.length 0]) rfl (by rw [hl20] <;> rfl); have A := A.freeze 1 rfl; have hTb := RowsIn.ok.now A hRI; have B := B0.trans A; have A := A.base; have hI2 : PrI os L _ _ := ⟨fun r hr => (hTb r hr).1, Gl.ok.now B hI⟩; any_at (rs := [1, 2]) (by kernel_rfl) (by decide) (List.forall_mem_cons.2 ⟨any_eff (x := .agg (inQ9 i)) (H' := [some (.blk (inQ9 i)), some (.lst 20 L.length (fun zz => rwc (L.getD zz Rw.z)))]) rfl A rfl (eff_auto (X := ⟨_, true⟩) (out := .val _ _) hX rfl rfl) fun A => any_at (rs := [2]) (by kernel_rfl) (by decide) (List.forall_mem_cons.2 ⟨any_eff (x := .str lb) (H' := [some (.blk (inQ9 i)), some (.lst 20 L.length (fun zz => rwc (L.getD zz Rw.z)))]) rfl A rfl (eff_auto (X := ⟨_, true⟩) (out := .val _ _) hX rfl rfl) fun A => any_at (rs := [3]) (by kernel_rfl) (by decide) (List.forall_mem_cons.2 ⟨any_eff (x := .tup [.str ((prP riscvG L i lb).1), .int .i64 ((prP riscvG L i lb).2)]) (H' := [some (.blk (inQ9 i)), some (.lst 20 L.length (fun zz => rwc (L.getD zz Rw.z)))]) rfl A rfl (callIE [1] PrI.ok hI2 (lprint_ riscvG L 0 i lb os hM hT hE (hp L hR.1)) rfl rfl rfl rfl rfl rfl rfl) fun A => any_at (rs := [4, 5]) (by kernel_rfl) (by decide) (List.forall_mem_cons.2 ⟨any_eff (x := .str ((prP riscvG L i lb).1)) (H' := [some (.blk (inQ9 i)), some (.lst 20 L.length (fun zz => rwc (L.getD zz Rw.z)))]) rfl A rfl (eff_auto (X := ⟨_, true⟩) (out := .val _ _) hX rfl rfl) fun A => any_at (rs := [5]) (by kernel_rfl) (by decide) (List.forall_mem_cons.2 ⟨any_eff (x := .int .i64 ((prP riscvG L i lb).2)) (H' := [some (.blk (inQ9 i)), some (.lst 20 L.length (fun zz => rwc (L.getD zz Rw.z)))]) rfl A rfl (eff_auto (X := ⟨_, true⟩) (out := .val _ _) hX rfl rfl) fun A => any_at (rs := [6]) (by kernel_rfl) (by decide) (List.forall_mem_cons.2 ⟨any_eff (x := .str ((prP riscvG L i lb).1)) (H' := [some (.blk (inQ9 i)), some (.lst 20 L.length (fun zz => rwc (L.getD zz Rw.z)))]) rfl A rfl (eff_auto (X := ⟨_, true⟩) (out := .val _ _) hX rfl rfl) fun A => any_at (rs := [7]) (by kernel_rfl) (by decide) (List.forall_mem_cons.2 ⟨any_eff (x := .int .i64 ((prP riscvG L i lb).2)) (H' := [some (.blk (inQ9 i)), some (.lst 20 L.length (fun zz => rwc (L.getD zz Rw.z)))]) rfl A rfl (eff_auto (X := ⟨_, true⟩) (out := .val _ _) hX rfl rfl) fun A => any_end (by kernel_rfl) (N hX 2 A rfl rfl fun A => RETN hX (B.trans A) rfl rfl rfl h0 rfl rfl rfl rfl (by rw [← riscv_pr hR.1] <;> rfl) rfl),
         (List.forall_mem_nil _)⟩),
        (List.forall_mem_nil _)⟩),
       (List.forall_mem_nil _)⟩),
      (List.forall_mem_cons.2 ⟨any_eff (x := .int .i64 ((prP riscvG L i lb).2)) (H' := [some (.blk (inQ9 i)), some (.lst 20 L.length (fun zz => rwc (L.getD zz Rw.z)))]) rfl A rfl (eff_auto (X := ⟨_, true⟩) (out := .val _ _) hX rfl rfl) fun A => any_at (rs := [4]) (by kernel_rfl) (by decide) (List.forall_mem_cons.2 ⟨any_eff (x := .str ((prP riscvG L i lb).1)) (H' := [some (.blk (inQ9 i)), some (.lst 20 L.length (fun zz => rwc (L.getD zz Rw.z)))]) rfl A rfl (eff_auto (X := ⟨_, true⟩) (out := .val _ _) hX rfl rfl) fun A => any_at (rs := [6]) (by kernel_rfl) (by decide) (List.forall_mem_cons.2 ⟨any_eff (x := .str ((prP riscvG L i lb).1)) (H' := [some (.blk (inQ9 i)), some (.lst 20 L.length (fun zz => rwc (L.getD zz Rw.z)))]) rfl A rfl (eff_auto (X := ⟨_, true⟩) (out := .val _ _) hX rfl rfl) fun A => any_at (rs := [7]) (by kernel_rfl) (by decide) (List.forall_mem_cons.2 ⟨any_eff (x := .int .i64 ((prP riscvG L i lb).2)) (H' := [some (.blk (inQ9 i)), some (.lst 20 L.length (fun zz => rwc (L.getD zz Rw.z)))]) rfl A rfl (eff_auto (X := ⟨_, true⟩) (out := .val _ _) hX rfl rfl) fun A => any_end (by kernel_rfl) (N hX 2 A rfl rfl fun A => RETN hX (B.trans A) rfl rfl rfl h0 rfl rfl rfl rfl (by rw [← riscv_pr hR.1] <;> rfl) rfl),
         (List.forall_mem_nil _)⟩),
        (List.forall_mem_nil _)⟩),
       (List.forall_mem_nil _)⟩),
      (List.forall_mem_nil _)⟩)⟩),
     (List.forall_mem_nil _)⟩),
    (List.forall_mem_nil _)⟩),
   (List.forall_mem_cons.2 ⟨any_eff (x := .str lb) (H' := [some (.blk (inQ9 i)), some (.lst 20 L.length (fun zz => rwc (L.getD zz Rw.z)))]) rfl A rfl (eff_auto (X := ⟨_, true⟩) (out := .val _ _) hX rfl rfl) fun A => any_at (rs := [1]) (by kernel_rfl) (by decide) (List.forall_mem_cons.2 ⟨any_eff (x := .agg (inQ9 i)) (H' := [some (.blk (inQ9 i)), some (.lst 20 L.length (fun zz => rwc (L.getD zz Rw.z)))]) rfl A rfl (eff_auto (X := ⟨_, true⟩) (out := .val _ _) hX rfl rfl) fun A => any_at (rs := [3]) (by kernel_rfl) (by decide) (List.forall_mem_cons.2 ⟨any_eff (x := .tup [.str ((prP riscvG L i lb).1), .int .i64 ((prP riscvG L i lb).2)]) (H' := [some (.blk (inQ9 i)), some (.lst 20 L.length (fun zz => rwc (L.getD zz Rw.z)))]) rfl A rfl (callIE [1] PrI.ok hI2 (lprint_ riscvG L 0 i lb os hM hT hE (hp L hR.1)) rfl rfl rfl rfl rfl rfl rfl) fun A => any_at (rs := [4, 5]) (by kernel_rfl) (by decide) (List.forall_mem_cons.2 ⟨any_eff (x := .str ((prP riscvG L i lb).1)) (H' := [some (.blk (inQ9 i)), some (.lst 20 L.length (fun zz => rwc (L.getD zz Rw.z)))]) rfl A rfl (eff_auto (X := ⟨_, true⟩) (out := .val _ _) hX rfl rfl) fun A => any_at (rs := [5]) (by kernel_rfl) (by decide) (List.forall_mem_cons.2 ⟨any_eff (x := .int .i64 ((prP riscvG L i lb).2)) (H' := [some (.blk (inQ9 i)), some (.lst 20 L.length (fun zz => rwc (L.getD zz Rw.z)))]) rfl A rfl (eff_auto (X := ⟨_, true⟩) (out := .val _ _) hX rfl rfl) fun A => any_at (rs := [6]) (by kernel_rfl) (by decide) (List.forall_mem_cons.2 ⟨any_eff (x := .str ((prP riscvG L i lb).1)) (H' := [some (.blk (inQ9 i)), some (.lst 20 L.length (fun zz => rwc (L.getD zz Rw.z)))]) rfl A rfl (eff_auto (X := ⟨_, true⟩) (out := .val _ _) hX rfl rfl) fun A => any_at (rs := [7]) (by kernel_rfl) (by decide) (List.forall_mem_cons.2 ⟨any_eff (x := .int .i64 ((prP riscvG L i lb).2)) (H' := [some (.blk (inQ9 i)), some (.lst 20 L.length (fun zz => rwc (L.getD zz Rw.z)))]) rfl A rfl (eff_auto (X := ⟨_, true⟩) (out := .val _ _) hX rfl rfl) fun A => any_end (by kernel_rfl) (N hX 2 A rfl rfl fun A => RETN hX (B.trans A) rfl rfl rfl h0 rfl rfl rfl rfl (by rw [← riscv_pr hR.1] <;> rfl) rfl),
         (List.forall_mem_nil _)⟩),
        (List.forall_mem_nil _)⟩),
       (List.forall_mem_nil _)⟩),
      (List.forall_mem_cons.2 ⟨any_eff (x := .int .i64 ((prP riscvG L i lb).2)) (H' := [some (.blk (inQ9 i)), some (.lst 20 L.length (fun zz => rwc (L.getD zz Rw.z)))]) rfl A rfl (eff_auto (X := ⟨_, true⟩) (out := .val _ _) hX rfl rfl) fun A => any_at (rs := [4]) (by kernel_rfl) (by decide) (List.forall_mem_cons.2 ⟨any_eff (x := .str ((prP riscvG L i lb).1)) (H' := [some (.blk (inQ9 i)), some (.lst 20 L.length (fun zz => rwc (L.getD zz Rw.z)))]) rfl A rfl (eff_auto (X := ⟨_, true⟩) (out := .val _ _) hX rfl rfl) fun A => any_at (rs := [6]) (by kernel_rfl) (by decide) (List.forall_mem_cons.2 ⟨any_eff (x := .str ((prP riscvG L i lb).1)) (H' := [some (.blk (inQ9 i)), some (.lst 20 L.length (fun zz => rwc (L.getD zz Rw.z)))]) rfl A rfl (eff_auto (X := ⟨_, true⟩) (out := .val _ _) hX rfl rfl) fun A => any_at (rs := [7]) (by kernel_rfl) (by decide) (List.forall_mem_cons.2 ⟨any_eff (x := .int .i64 ((prP riscvG L i lb).2)) (H' := [some (.blk (inQ9 i)), some (.lst 20 L.length (fun zz => rwc (L.getD zz Rw.z)))]) rfl A rfl (eff_auto (X := ⟨_, true⟩) (out := .val _ _) hX rfl rfl) fun A => any_end (by kernel_rfl) (N hX 2 A rfl rfl fun A => RETN hX (B.trans A) rfl rfl rfl h0 rfl rfl rfl rfl (by rw [← riscv_pr hR.1] <;> rfl) rfl),
         (List.forall_mem_nil _)⟩),
        (List.forall_mem_nil _)⟩),
       (List.forall_mem_nil _)⟩),
      (List.forall_mem_nil _)⟩)⟩),
     (List.forall_mem_nil _)⟩),
    (List.forall_mem_nil _)⟩),
   (List.forall_mem_nil _)⟩)⟩),
  (List.forall_mem_cons.2 ⟨any_eff (x := .agg (inQ9 i)) (H' := [some (.blk (inQ9 i))]) rfl A rfl (eff_auto (X := ⟨_, true⟩) (out := .val _ _) hX rfl rfl) fun A => any_at (rs := [0, 2]) (by kernel_rfl) (by decide) (List.forall_mem_cons.2 ⟨any_agg (t := 6) (l := [.str [97, 48], .str [97, 49], .str [97, 50], .str [97, 51], .str [97, 52], .str [97, 53], .str [97, 54], .str [97, 55], .str [98], .str [104], .str [119], .str [100], .str [], .str [114], .str [119], .str [114, 119]]) (F := fun (L : List Rw) zz => rwc (L.getD zz Rw.z)) (R := fun L b w w' => L.map tm = riscvT ∧ RowsIn w.heap.size L w' [b]) rfl rlang_ A rfl rfl fun L b cp a1 w1 G1 hR hlo hkk A => have hl20 : L.length = 25 := (by have q := congrArg List.length hR.1; rw [List.length_map] at q; exact q.trans (by decide +kernel)); have hRI := rows_keys hR.2 hkk; have B0 := A; have A := A.base; have A := A.rowAs 1 L.length (fun zz => rwc (L.getD zz Rw.z)) rfl hl20 (fun _ _ => rfl) (fun z => ⟨_, rfl, rfl⟩); have A := A.say 6 (.agg [.str [97, 48], .str [97, 49], .str [97, 50], .str [97, 51], .str [97, 52], .str [97, 53], .str [97, 54], .str [97, 55], .str [98], .str [104], .str [119], .str [100], .str [], .str [114], .str [119], .str [114, 119], .sl 1 L.length 0]) rfl (by rw [hl20] <;> rfl); have A := A.freeze 1 rfl; have hTb := RowsIn.ok.now A hRI; have B := B0.trans A; have A := A.base; have hI2 : PrI os L _ _ := ⟨fun r hr => (hTb r hr).1, Gl.ok.now B hI⟩; any_at (rs := [2]) (by kernel_rfl) (by decide) (List.forall_mem_cons.2 ⟨any_eff (x := .str lb) (H' := [some (.blk (inQ9 i)), some (.lst 20 L.length (fun zz => rwc (L.getD zz Rw.z)))]) rfl A rfl (eff_auto (X := ⟨_, true⟩) (out := .val _ _) hX rfl rfl) fun A => any_at (rs := [3]) (by kernel_rfl) (by decide) (List.forall_mem_cons.2 ⟨any_eff (x := .tup [.str ((prP riscvG L i lb).1), .int .i64 ((prP riscvG L i lb).2)]) (H' := [some (.blk (inQ9 i)), some (.lst 20 L.length (fun zz => rwc (L.getD zz Rw.z)))]) rfl A rfl (callIE [1] PrI.ok hI2 (lprint_ riscvG L 0 i lb os hM hT hE (hp L hR.1)) rfl rfl rfl rfl rfl rfl rfl) fun A => any_at (rs := [4, 5]) (by kernel_rfl) (by decide) (List.forall_mem_cons.2 ⟨any_eff (x := .str ((prP riscvG L i lb).1)) (H' := [some (.blk (inQ9 i)), some (.lst 20 L.length (fun zz => rwc (L.getD zz Rw.z)))]) rfl A rfl (eff_auto (X := ⟨_, true⟩) (out := .val _ _) hX rfl rfl) fun A => any_at (rs := [5]) (by kernel_rfl) (by decide) (List.forall_mem_cons.2 ⟨any_eff (x := .int .i64 ((prP riscvG L i lb).2)) (H' := [some (.blk (inQ9 i)), some (.lst 20 L.length (fun zz => rwc (L.getD zz Rw.z)))]) rfl A rfl (eff_auto (X := ⟨_, true⟩) (out := .val _ _) hX rfl rfl) fun A => any_at (rs := [6]) (by kernel_rfl) (by decide) (List.forall_mem_cons.2 ⟨any_eff (x := .str ((prP riscvG L i lb).1)) (H' := [some (.blk (inQ9 i)), some (.lst 20 L.length (fun zz => rwc (L.getD zz Rw.z)))]) rfl A rfl (eff_auto (X := ⟨_, true⟩) (out := .val _ _) hX rfl rfl) fun A => any_at (rs := [7]) (by kernel_rfl) (by decide) (List.forall_mem_cons.2 ⟨any_eff (x := .int .i64 ((prP riscvG L i lb).2)) (H' := [some (.blk (inQ9 i)), some (.lst 20 L.length (fun zz => rwc (L.getD zz Rw.z)))]) rfl A rfl (eff_auto (X := ⟨_, true⟩) (out := .val _ _) hX rfl rfl) fun A => any_end (by kernel_rfl) (N hX 2 A rfl rfl fun A => RETN hX (B.trans A) rfl rfl rfl h0 rfl rfl rfl rfl (by rw [← riscv_pr hR.1] <;> rfl) rfl),
         (List.forall_mem_nil _)⟩),
        (List.forall_mem_nil _)⟩),
       (List.forall_mem_nil _)⟩),
      (List.forall_mem_cons.2 ⟨any_eff (x := .int .i64 ((prP riscvG L i lb).2)) (H' := [some (.blk (inQ9 i)), some (.lst 20 L.length (fun zz => rwc (L.getD zz Rw.z)))]) rfl A rfl (eff_auto (X := ⟨_, true⟩) (out := .val _ _) hX rfl rfl) fun A => any_at (rs := [4]) (by kernel_rfl) (by decide) (List.forall_mem_cons.2 ⟨any_eff (x := .str ((prP riscvG L i lb).1)) (H' := [some (.blk (inQ9 i)), some (.lst 20 L.length (fun zz => rwc (L.getD zz Rw.z)))]) rfl A rfl (eff_auto (X := ⟨_, true⟩) (out := .val _ _) hX rfl rfl) fun A => any_at (rs := [6]) (by kernel_rfl) (by decide) (List.forall_mem_cons.2 ⟨any_eff (x := .str ((prP riscvG L i lb).1)) (H' := [some (.blk (inQ9 i)), some (.lst 20 L.length (fun zz => rwc (L.getD zz Rw.z)))]) rfl A rfl (eff_auto (X := ⟨_, true⟩) (out := .val _ _) hX rfl rfl) fun A => any_at (rs := [7]) (by kernel_rfl) (by decide) (List.forall_mem_cons.2 ⟨any_eff (x := .int .i64 ((prP riscvG L i lb).2)) (H' := [some (.blk (inQ9 i)), some (.lst 20 L.length (fun zz => rwc (L.getD zz Rw.z)))]) rfl A rfl (eff_auto (X := ⟨_, true⟩) (out := .val _ _) hX rfl rfl) fun A => any_end (by kernel_rfl) (N hX 2 A rfl rfl fun A => RETN hX (B.trans A) rfl rfl rfl h0 rfl rfl rfl rfl (by rw [← riscv_pr hR.1] <;> rfl) rfl),
         (List.forall_mem_nil _)⟩),
        (List.forall_mem_nil _)⟩),
       (List.forall_mem_nil _)⟩),
      (List.forall_mem_nil _)⟩)⟩),
     (List.forall_mem_nil _)⟩),
    (List.forall_mem_nil _)⟩),
   (List.forall_mem_cons.2 ⟨any_eff (x := .str lb) (H' := [some (.blk (inQ9 i))]) rfl A rfl (eff_auto (X := ⟨_, true⟩) (out := .val _ _) hX rfl rfl) fun A => any_at (rs := [0]) (by kernel_rfl) (by decide) (List.forall_mem_cons.2 ⟨any_agg (t := 6) (l := [.str [97, 48], .str [97, 49], .str [97, 50], .str [97, 51], .str [97, 52], .str [97, 53], .str [97, 54], .str [97, 55], .str [98], .str [104], .str [119], .str [100], .str [], .str [114], .str [119], .str [114, 119]]) (F := fun (L : List Rw) zz => rwc (L.getD zz Rw.z)) (R := fun L b w w' => L.map tm = riscvT ∧ RowsIn w.heap.size L w' [b]) rfl rlang_ A rfl rfl fun L b cp a1 w1 G1 hR hlo hkk A => have hl20 : L.length = 25 := (by have q := congrArg List.length hR.1; rw [List.length_map] at q; exact q.trans (by decide +kernel)); have hRI := rows_keys hR.2 hkk; have B0 := A; have A := A.base; have A := A.rowAs 1 L.length (fun zz => rwc (L.getD zz Rw.z)) rfl hl20 (fun _ _ => rfl) (fun z => ⟨_, rfl, rfl⟩); have A := A.say 6 (.agg [.str [97, 48], .str [97, 49], .str [97, 50], .str [97, 51], .str [97, 52], .str [97, 53], .str [97, 54], .str [97, 55], .str [98], .str [104], .str [119], .str [100], .str [], .str [114], .str [119], .str [114, 119], .sl 1 L.length 0]) rfl (by rw [hl20] <;> rfl); have A := A.freeze 1 rfl; have hTb := RowsIn.ok.now A hRI; have B := B0.trans A; have A := A.base; have hI2 : PrI os L _ _ := ⟨fun r hr => (hTb r hr).1, Gl.ok.now B hI⟩; any_at (rs := [3]) (by kernel_rfl) (by decide) (List.forall_mem_cons.2 ⟨any_eff (x := .tup [.str ((prP riscvG L i lb).1), .int .i64 ((prP riscvG L i lb).2)]) (H' := [some (.blk (inQ9 i)), some (.lst 20 L.length (fun zz => rwc (L.getD zz Rw.z)))]) rfl A rfl (callIE [1] PrI.ok hI2 (lprint_ riscvG L 0 i lb os hM hT hE (hp L hR.1)) rfl rfl rfl rfl rfl rfl rfl) fun A => any_at (rs := [4, 5]) (by kernel_rfl) (by decide) (List.forall_mem_cons.2 ⟨any_eff (x := .str ((prP riscvG L i lb).1)) (H' := [some (.blk (inQ9 i)), some (.lst 20 L.length (fun zz => rwc (L.getD zz Rw.z)))]) rfl A rfl (eff_auto (X := ⟨_, true⟩) (out := .val _ _) hX rfl rfl) fun A => any_at (rs := [5]) (by kernel_rfl) (by decide) (List.forall_mem_cons.2 ⟨any_eff (x := .int .i64 ((prP riscvG L i lb).2)) (H' := [some (.blk (inQ9 i)), some (.lst 20 L.length (fun zz => rwc (L.getD zz Rw.z)))]) rfl A rfl (eff_auto (X := ⟨_, true⟩) (out := .val _ _) hX rfl rfl) fun A => any_at (rs := [6]) (by kernel_rfl) (by decide) (List.forall_mem_cons.2 ⟨any_eff (x := .str ((prP riscvG L i lb).1)) (H' := [some (.blk (inQ9 i)), some (.lst 20 L.length (fun zz => rwc (L.getD zz Rw.z)))]) rfl A rfl (eff_auto (X := ⟨_, true⟩) (out := .val _ _) hX rfl rfl) fun A => any_at (rs := [7]) (by kernel_rfl) (by decide) (List.forall_mem_cons.2 ⟨any_eff (x := .int .i64 ((prP riscvG L i lb).2)) (H' := [some (.blk (inQ9 i)), some (.lst 20 L.length (fun zz => rwc (L.getD zz Rw.z)))]) rfl A rfl (eff_auto (X := ⟨_, true⟩) (out := .val _ _) hX rfl rfl) fun A => any_end (by kernel_rfl) (N hX 2 A rfl rfl fun A => RETN hX (B.trans A) rfl rfl rfl h0 rfl rfl rfl rfl (by rw [← riscv_pr hR.1] <;> rfl) rfl),
         (List.forall_mem_nil _)⟩),
        (List.forall_mem_nil _)⟩),
       (List.forall_mem_nil _)⟩),
      (List.forall_mem_cons.2 ⟨any_eff (x := .int .i64 ((prP riscvG L i lb).2)) (H' := [some (.blk (inQ9 i)), some (.lst 20 L.length (fun zz => rwc (L.getD zz Rw.z)))]) rfl A rfl (eff_auto (X := ⟨_, true⟩) (out := .val _ _) hX rfl rfl) fun A => any_at (rs := [4]) (by kernel_rfl) (by decide) (List.forall_mem_cons.2 ⟨any_eff (x := .str ((prP riscvG L i lb).1)) (H' := [some (.blk (inQ9 i)), some (.lst 20 L.length (fun zz => rwc (L.getD zz Rw.z)))]) rfl A rfl (eff_auto (X := ⟨_, true⟩) (out := .val _ _) hX rfl rfl) fun A => any_at (rs := [6]) (by kernel_rfl) (by decide) (List.forall_mem_cons.2 ⟨any_eff (x := .str ((prP riscvG L i lb).1)) (H' := [some (.blk (inQ9 i)), some (.lst 20 L.length (fun zz => rwc (L.getD zz Rw.z)))]) rfl A rfl (eff_auto (X := ⟨_, true⟩) (out := .val _ _) hX rfl rfl) fun A => any_at (rs := [7]) (by kernel_rfl) (by decide) (List.forall_mem_cons.2 ⟨any_eff (x := .int .i64 ((prP riscvG L i lb).2)) (H' := [some (.blk (inQ9 i)), some (.lst 20 L.length (fun zz => rwc (L.getD zz Rw.z)))]) rfl A rfl (eff_auto (X := ⟨_, true⟩) (out := .val _ _) hX rfl rfl) fun A => any_end (by kernel_rfl) (N hX 2 A rfl rfl fun A => RETN hX (B.trans A) rfl rfl rfl h0 rfl rfl rfl rfl (by rw [← riscv_pr hR.1] <;> rfl) rfl),
         (List.forall_mem_nil _)⟩),
        (List.forall_mem_nil _)⟩),
       (List.forall_mem_nil _)⟩),
      (List.forall_mem_nil _)⟩)⟩),
     (List.forall_mem_nil _)⟩),
    (List.forall_mem_nil _)⟩),
   (List.forall_mem_nil _)⟩)⟩),
  (List.forall_mem_cons.2 ⟨any_eff (x := .str lb) (H' := [some (.blk (inQ9 i))]) rfl A rfl (eff_auto (X := ⟨_, true⟩) (out := .val _ _) hX rfl rfl) fun A => any_at (rs := [0, 1]) (by kernel_rfl) (by decide) (List.forall_mem_cons.2 ⟨any_agg (t := 6) (l := [.str [97, 48], .str [97, 49], .str [97, 50], .str [97, 51], .str [97, 52], .str [97, 53], .str [97, 54], .str [97, 55], .str [98], .str [104], .str [119], .str [100], .str [], .str [114], .str [119], .str [114, 119]]) (F := fun (L : List Rw) zz => rwc (L.getD zz Rw.z)) (R := fun L b w w' => L.map tm = riscvT ∧ RowsIn w.heap.size L w' [b]) rfl rlang_ A rfl rfl fun L b cp a1 w1 G1 hR hlo hkk A => have hl20 : L.length = 25 := (by have q := congrArg List.length hR.1; rw [List.length_map] at q; exact q.trans (by decide +kernel)); have hRI := rows_keys hR.2 hkk; have B0 := A; have A := A.base; have A := A.rowAs 1 L.length (fun zz => rwc (L.getD zz Rw.z)) rfl hl20 (fun _ _ => rfl) (fun z => ⟨_, rfl, rfl⟩); have A := A.say 6 (.agg [.str [97, 48], .str [97, 49], .str [97, 50], .str [97, 51], .str [97, 52], .str [97, 53], .str [97, 54], .str [97, 55], .str [98], .str [104], .str [119], .str [100], .str [], .str [114], .str [119], .str [114, 119], .sl 1 L.length 0]) rfl (by rw [hl20] <;> rfl); have A := A.freeze 1 rfl; have hTb := RowsIn.ok.now A hRI; have B := B0.trans A; have A := A.base; have hI2 : PrI os L _ _ := ⟨fun r hr => (hTb r hr).1, Gl.ok.now B hI⟩; any_at (rs := [1]) (by kernel_rfl) (by decide) (List.forall_mem_cons.2 ⟨any_eff (x := .agg (inQ9 i)) (H' := [some (.blk (inQ9 i)), some (.lst 20 L.length (fun zz => rwc (L.getD zz Rw.z)))]) rfl A rfl (eff_auto (X := ⟨_, true⟩) (out := .val _ _) hX rfl rfl) fun A => any_at (rs := [3]) (by kernel_rfl) (by decide) (List.forall_mem_cons.2 ⟨any_eff (x := .tup [.str ((prP riscvG L i lb).1), .int .i64 ((prP riscvG L i lb).2)]) (H' := [some (.blk (inQ9 i)), some (.lst 20 L.length (fun zz => rwc (L.getD zz Rw.z)))]) rfl A rfl (callIE [1] PrI.ok hI2 (lprint_ riscvG L 0 i lb os hM hT hE (hp L hR.1)) rfl rfl rfl rfl rfl rfl rfl) fun A => any_at (rs := [4, 5]) (by kernel_rfl) (by decide) (List.forall_mem_cons.2 ⟨any_eff (x := .str ((prP riscvG L i lb).1)) (H' := [some (.blk (inQ9 i)), some (.lst 20 L.length (fun zz => rwc (L.getD zz Rw.z)))]) rfl A rfl (eff_auto (X := ⟨_, true⟩) (out := .val _ _) hX rfl rfl) fun A => any_at (rs := [5]) (by kernel_rfl) (by decide) (List.forall_mem_cons.2 ⟨any_eff (x := .int .i64 ((prP riscvG L i lb).2)) (H' := [some (.blk (inQ9 i)), some (.lst 20 L.length (fun zz => rwc (L.getD zz Rw.z)))]) rfl A rfl (eff_auto (X := ⟨_, true⟩) (out := .val _ _) hX rfl rfl) fun A => any_at (rs := [6]) (by kernel_rfl) (by decide) (List.forall_mem_cons.2 ⟨any_eff (x := .str ((prP riscvG L i lb).1)) (H' := [some (.blk (inQ9 i)), some (.lst 20 L.length (fun zz => rwc (L.getD zz Rw.z)))]) rfl A rfl (eff_auto (X := ⟨_, true⟩) (out := .val _ _) hX rfl rfl) fun A => any_at (rs := [7]) (by kernel_rfl) (by decide) (List.forall_mem_cons.2 ⟨any_eff (x := .int .i64 ((prP riscvG L i lb).2)) (H' := [some (.blk (inQ9 i)), some (.lst 20 L.length (fun zz => rwc (L.getD zz Rw.z)))]) rfl A rfl (eff_auto (X := ⟨_, true⟩) (out := .val _ _) hX rfl rfl) fun A => any_end (by kernel_rfl) (N hX 2 A rfl rfl fun A => RETN hX (B.trans A) rfl rfl rfl h0 rfl rfl rfl rfl (by rw [← riscv_pr hR.1] <;> rfl) rfl),
         (List.forall_mem_nil _)⟩),
        (List.forall_mem_nil _)⟩),
       (List.forall_mem_nil _)⟩),
      (List.forall_mem_cons.2 ⟨any_eff (x := .int .i64 ((prP riscvG L i lb).2)) (H' := [some (.blk (inQ9 i)), some (.lst 20 L.length (fun zz => rwc (L.getD zz Rw.z)))]) rfl A rfl (eff_auto (X := ⟨_, true⟩) (out := .val _ _) hX rfl rfl) fun A => any_at (rs := [4]) (by kernel_rfl) (by decide) (List.forall_mem_cons.2 ⟨any_eff (x := .str ((prP riscvG L i lb).1)) (H' := [some (.blk (inQ9 i)), some (.lst 20 L.length (fun zz => rwc (L.getD zz Rw.z)))]) rfl A rfl (eff_auto (X := ⟨_, true⟩) (out := .val _ _) hX rfl rfl) fun A => any_at (rs := [6]) (by kernel_rfl) (by decide) (List.forall_mem_cons.2 ⟨any_eff (x := .str ((prP riscvG L i lb).1)) (H' := [some (.blk (inQ9 i)), some (.lst 20 L.length (fun zz => rwc (L.getD zz Rw.z)))]) rfl A rfl (eff_auto (X := ⟨_, true⟩) (out := .val _ _) hX rfl rfl) fun A => any_at (rs := [7]) (by kernel_rfl) (by decide) (List.forall_mem_cons.2 ⟨any_eff (x := .int .i64 ((prP riscvG L i lb).2)) (H' := [some (.blk (inQ9 i)), some (.lst 20 L.length (fun zz => rwc (L.getD zz Rw.z)))]) rfl A rfl (eff_auto (X := ⟨_, true⟩) (out := .val _ _) hX rfl rfl) fun A => any_end (by kernel_rfl) (N hX 2 A rfl rfl fun A => RETN hX (B.trans A) rfl rfl rfl h0 rfl rfl rfl rfl (by rw [← riscv_pr hR.1] <;> rfl) rfl),
         (List.forall_mem_nil _)⟩),
        (List.forall_mem_nil _)⟩),
       (List.forall_mem_nil _)⟩),
      (List.forall_mem_nil _)⟩)⟩),
     (List.forall_mem_nil _)⟩),
    (List.forall_mem_nil _)⟩),
   (List.forall_mem_cons.2 ⟨any_eff (x := .agg (inQ9 i)) (H' := [some (.blk (inQ9 i))]) rfl A rfl (eff_auto (X := ⟨_, true⟩) (out := .val _ _) hX rfl rfl) fun A => any_at (rs := [0]) (by kernel_rfl) (by decide) (List.forall_mem_cons.2 ⟨any_agg (t := 6) (l := [.str [97, 48], .str [97, 49], .str [97, 50], .str [97, 51], .str [97, 52], .str [97, 53], .str [97, 54], .str [97, 55], .str [98], .str [104], .str [119], .str [100], .str [], .str [114], .str [119], .str [114, 119]]) (F := fun (L : List Rw) zz => rwc (L.getD zz Rw.z)) (R := fun L b w w' => L.map tm = riscvT ∧ RowsIn w.heap.size L w' [b]) rfl rlang_ A rfl rfl fun L b cp a1 w1 G1 hR hlo hkk A => have hl20 : L.length = 25 := (by have q := congrArg List.length hR.1; rw [List.length_map] at q; exact q.trans (by decide +kernel)); have hRI := rows_keys hR.2 hkk; have B0 := A; have A := A.base; have A := A.rowAs 1 L.length (fun zz => rwc (L.getD zz Rw.z)) rfl hl20 (fun _ _ => rfl) (fun z => ⟨_, rfl, rfl⟩); have A := A.say 6 (.agg [.str [97, 48], .str [97, 49], .str [97, 50], .str [97, 51], .str [97, 52], .str [97, 53], .str [97, 54], .str [97, 55], .str [98], .str [104], .str [119], .str [100], .str [], .str [114], .str [119], .str [114, 119], .sl 1 L.length 0]) rfl (by rw [hl20] <;> rfl); have A := A.freeze 1 rfl; have hTb := RowsIn.ok.now A hRI; have B := B0.trans A; have A := A.base; have hI2 : PrI os L _ _ := ⟨fun r hr => (hTb r hr).1, Gl.ok.now B hI⟩; any_at (rs := [3]) (by kernel_rfl) (by decide) (List.forall_mem_cons.2 ⟨any_eff (x := .tup [.str ((prP riscvG L i lb).1), .int .i64 ((prP riscvG L i lb).2)]) (H' := [some (.blk (inQ9 i)), some (.lst 20 L.length (fun zz => rwc (L.getD zz Rw.z)))]) rfl A rfl (callIE [1] PrI.ok hI2 (lprint_ riscvG L 0 i lb os hM hT hE (hp L hR.1)) rfl rfl rfl rfl rfl rfl rfl) fun A => any_at (rs := [4, 5]) (by kernel_rfl) (by decide) (List.forall_mem_cons.2 ⟨any_eff (x := .str ((prP riscvG L i lb).1)) (H' := [some (.blk (inQ9 i)), some (.lst 20 L.length (fun zz => rwc (L.getD zz Rw.z)))]) rfl A rfl (eff_auto (X := ⟨_, true⟩) (out := .val _ _) hX rfl rfl) fun A => any_at (rs := [5]) (by kernel_rfl) (by decide) (List.forall_mem_cons.2 ⟨any_eff (x := .int .i64 ((prP riscvG L i lb).2)) (H' := [some (.blk (inQ9 i)), some (.lst 20 L.length (fun zz => rwc (L.getD zz Rw.z)))]) rfl A rfl (eff_auto (X := ⟨_, true⟩) (out := .val _ _) hX rfl rfl) fun A => any_at (rs := [6]) (by kernel_rfl) (by decide) (List.forall_mem_cons.2 ⟨any_eff (x := .str ((prP riscvG L i lb).1)) (H' := [some (.blk (inQ9 i)), some (.lst 20 L.length (fun zz => rwc (L.getD zz Rw.z)))]) rfl A rfl (eff_auto (X := ⟨_, true⟩) (out := .val _ _) hX rfl rfl) fun A => any_at (rs := [7]) (by kernel_rfl) (by decide) (List.forall_mem_cons.2 ⟨any_eff (x := .int .i64 ((prP riscvG L i lb).2)) (H' := [some (.blk (inQ9 i)), some (.lst 20 L.length (fun zz => rwc (L.getD zz Rw.z)))]) rfl A rfl (eff_auto (X := ⟨_, true⟩) (out := .val _ _) hX rfl rfl) fun A => any_end (by kernel_rfl) (N hX 2 A rfl rfl fun A => RETN hX (B.trans A) rfl rfl rfl h0 rfl rfl rfl rfl (by rw [← riscv_pr hR.1] <;> rfl) rfl),
         (List.forall_mem_nil _)⟩),
        (List.forall_mem_nil _)⟩),
       (List.forall_mem_nil _)⟩),
      (List.forall_mem_cons.2 ⟨any_eff (x := .int .i64 ((prP riscvG L i lb).2)) (H' := [some (.blk (inQ9 i)), some (.lst 20 L.length (fun zz => rwc (L.getD zz Rw.z)))]) rfl A rfl (eff_auto (X := ⟨_, true⟩) (out := .val _ _) hX rfl rfl) fun A => any_at (rs := [4]) (by kernel_rfl) (by decide) (List.forall_mem_cons.2 ⟨any_eff (x := .str ((prP riscvG L i lb).1)) (H' := [some (.blk (inQ9 i)), some (.lst 20 L.length (fun zz => rwc (L.getD zz Rw.z)))]) rfl A rfl (eff_auto (X := ⟨_, true⟩) (out := .val _ _) hX rfl rfl) fun A => any_at (rs := [6]) (by kernel_rfl) (by decide) (List.forall_mem_cons.2 ⟨any_eff (x := .str ((prP riscvG L i lb).1)) (H' := [some (.blk (inQ9 i)), some (.lst 20 L.length (fun zz => rwc (L.getD zz Rw.z)))]) rfl A rfl (eff_auto (X := ⟨_, true⟩) (out := .val _ _) hX rfl rfl) fun A => any_at (rs := [7]) (by kernel_rfl) (by decide) (List.forall_mem_cons.2 ⟨any_eff (x := .int .i64 ((prP riscvG L i lb).2)) (H' := [some (.blk (inQ9 i)), some (.lst 20 L.length (fun zz => rwc (L.getD zz Rw.z)))]) rfl A rfl (eff_auto (X := ⟨_, true⟩) (out := .val _ _) hX rfl rfl) fun A => any_end (by kernel_rfl) (N hX 2 A rfl rfl fun A => RETN hX (B.trans A) rfl rfl rfl h0 rfl rfl rfl rfl (by rw [← riscv_pr hR.1] <;> rfl) rfl),
         (List.forall_mem_nil _)⟩),
        (List.forall_mem_nil _)⟩),
       (List.forall_mem_nil _)⟩),
      (List.forall_mem_nil _)⟩)⟩),
     (List.forall_mem_nil _)⟩),
    (List.forall_mem_nil _)⟩),
   (List.forall_mem_nil _)⟩)⟩),
  (List.forall_mem_nil _)⟩)⟩)⟩)
end Go.Proofs.YtedlaclfhgneeaaGreatDoor
namespace Go.Proofs.YtedlaclfhgneeaaGreatDoor
open Go.RowKit
set_option linter.unusedVariables false
set_option linter.unusedSimpArgs false
def rvO : Old.Lg := ⟨[97, 48], [97, 49], [97, 50], [97, 51], [97, 52], [97, 53], [97, 54], [97, 55], [98], [104], [119], [100], [], [114], [119], [114, 119], Old.nilV, riscvC.map toR⟩
theorem no10v : ∀ r ∈ riscvC, ∀ p ∈ r.ps, p ≠ 10 := by decide +kernel
end Go.Proofs.YtedlaclfhgneeaaGreatDoor
namespace Go.Proofs.YtedlaclfhgneeaaGreatDoor.Old
set_option linter.unusedSimpArgs false
open Go.RowKit
end Go.Proofs.YtedlaclfhgneeaaGreatDoor.Old
namespace Go.Proofs.YtedlaclfhgneeaaGreatDoor
end Go.Proofs.YtedlaclfhgneeaaGreatDoor
namespace Go.Proofs.YtedlaclfhgneeaaGreatDoor
open Go.RowKit
set_option linter.unusedVariables false
set_option linter.unusedSimpArgs false
set_option maxRecDepth 100000
set_option maxHeartbeats 2000000
def toP (z : Ps) : Old.Ps := ⟨toO z.ins, z.lab, z.e, z.a, z.p⟩
def gO (g : Lg) (R : List Rw) : Old.Lg := ⟨g.r0, g.r1, g.r2, g.r3, g.r4, g.r5, g.r6, g.r7, g.l0, g.l1, g.l2, g.l3, g.im, g.f0, g.f1, g.f2, Old.nilV, R.map toR⟩
section
variable {ws : List Tk} {z : Ps} {g : Lg} {R L : List Rw} {m : List UInt8} {x : Int} {k : Nat}
theorem ref_o (hw : WsOK ws) : toP (z.wa (refA ws z.as x)) = Old.refP ws x (toP z) := by
  unfold refA refAt Old.refP
  have e1 : z.as.e = z.e := rfl
  have e2 : (toP z).e = z.e := rfl
  have e3 : (toP z).p = z.p := rfl
  have e4 : z.as.p = z.p := rfl
  rw [e1, e2, e3, e4, where_at hw]
  by_cases h : z.e = 0
  · rw [if_pos h, if_pos (beq_iff_eq.2 h)]
    by_cases hp : z.p < ws.length
    · rw [if_pos hp, decide_eq_true hp]; rfl
    · rw [if_neg hp, decide_eq_false hp]; rfl
  · rw [if_neg h, if_neg (fun e => h (eq_of_beq e))]; rfl
theorem go_p : goA z.as z.p = z.as := rfl
theorem mk_o (hw : WsOK ws) : toP (z.wa (mkA ws z.as m)) = Old.markP ws m (toP z) := by
  unfold mkA Old.markP
  have e4 : z.as.p = z.p := rfl
  have e3 : (toP z).p = z.p := rfl
  rw [e3, e4, reads_tk]
  cases hb : tkB ws z.p m with
  | true => rw [if_pos rfl, if_pos rfl, tkK_y hb]; rfl
  | false => rw [if_neg (by decide), if_neg (by decide), tkK_n hb, go_p]; exact ref_o hw
theorem kn_o (hw : WsOK ws) (ls : List (List UInt8)) : toP (z.wa (knA ws z.as ls)) = (Old.knownP ws ls (toP z)).1 ∧ knI ws z.as ls = (Old.knownP ws ls (toP z)).2 := by
  unfold knA knI Old.knownP
  have e4 : z.as.p = z.p := rfl
  have e3 : (toP z).p = z.p := rfl
  rw [e3, e4]
  by_cases hl : z.p < ws.length
  · rw [tk_get hl, idxS_L]
    simp only
    by_cases hk : (ws.getD z.p tok0).kind = 1
    · rw [if_pos hk, if_pos hk, if_pos (beq_iff_eq.2 hk)]
      by_cases hi : Old.idxL ls (ws.getD z.p tok0).text 0 < 0
      · rw [if_pos hi, if_pos hi, if_pos (decide_eq_true hi)]; exact ⟨ref_o hw, rfl⟩
      · rw [if_neg hi, if_neg hi, if_neg (by rw [decide_eq_false hi]; decide), nxK_y hl]; exact ⟨rfl, rfl⟩
    · rw [if_neg hk, if_neg hk, if_neg (fun e => hk (eq_of_beq e))]; exact ⟨ref_o hw, rfl⟩
  · rw [tk_non hl, tk_out (by omega)]
    exact ⟨ref_o hw, rfl⟩
theorem nb_o : Old.numP1 ws k = if nbB ws k = true then some (nbV ws k, nbK ws k) else none := by
  unfold Old.numP1 nbB nbV nbK
  by_cases hl : k < ws.length
  · have hm : mnB ws k = (((ws.getD k tok0).kind == 3) && ((ws.getD k tok0).text == [45])) := by unfold mnB; rw [decide_eq_true hl, Bool.true_and]
    have hn : nuB ws k = ((ws.getD k tok0).kind == 2) := by unfold nuB; rw [decide_eq_true hl, Bool.true_and]
    rw [tk_get hl]
    simp only
    by_cases h2 : ((ws.getD k tok0).kind == 2) = true
    · have h3 : mnB ws k = false := by rw [hm, eq_of_beq h2]; rfl
      rw [if_pos h2, h3, hn, h2]; rfl
    · rw [if_neg h2]
      have h2' : ((ws.getD k tok0).kind == 2) = false := by simpa using h2
      cases h3 : mnB ws k with
      | false =>
        rw [if_neg (by rw [show ((((ws.getD k tok0).kind == 3) && eqL (ws.getD k tok0).text [45])) = false from hm.symm.trans h3]; decide), hn, h2']; rfl
      | true =>
        rw [if_pos (show ((((ws.getD k tok0).kind == 3) && eqL (ws.getD k tok0).text [45])) = true from hm.symm.trans h3)]
        by_cases hl2 : k + 1 < ws.length
        · rw [tk_get hl2]
          simp only
          have hn2 : nuB ws (k + 1) = ((ws.getD (k + 1) tok0).kind == 2) := by unfold nuB; rw [decide_eq_true hl2, Bool.true_and]
          cases h4 : ((ws.getD (k + 1) tok0).kind == 2) with
          | true => rw [hn2, h4]; simp only [if_true]; rw [Int.zero_sub]
          | false => rw [hn2, h4]; rfl
        · rw [tk_non hl2]
          have hn2 : nuB ws (k + 1) = false := by unfold nuB; rw [decide_eq_false hl2]; rfl
          rw [hn2]; rfl
  · have hm : mnB ws k = false := by unfold mnB; rw [decide_eq_false hl]; rfl
    have hn : nuB ws k = false := by unfold nuB; rw [decide_eq_false hl]; rfl
    rw [tk_non hl, hm, hn]; rfl
theorem nbV_no (h : nbB ws k = false) : nbV ws k = 0 ∧ nbK ws k = k := by
  unfold nbB at h; unfold nbV nbK
  cases h3 : mnB ws k with
  | true =>
    simp only [h3, if_true] at h
    simp only [h, if_true, if_false, Bool.false_eq_true]
    exact ⟨by decide, trivial⟩
  | false =>
    simp only [h3, if_false, Bool.false_eq_true] at h
    simp [h]
theorem nbq_o : Old.nbO ws k = nbB ws k ∧ Old.nbV ws k = nbV ws k ∧ Old.nbQ ws k = nbK ws k := by
  unfold Old.nbO Old.nbV Old.nbQ
  rw [nb_o]
  cases h : nbB ws k with
  | true => exact ⟨rfl, rfl, rfl⟩
  | false => have := nbV_no h; exact ⟨rfl, this.1.symm, this.2.symm⟩
theorem num_o (hw : WsOK ws) : toP (z.wa (numA ws z.as)) = (Old.numP ws (toP z)).1 ∧ nbV ws z.p = (Old.numP ws (toP z)).2 := by
  unfold numA Old.numP
  have e4 : z.as.p = z.p := rfl
  have e3 : (toP z).p = z.p := rfl
  obtain ⟨n1, n2, n3⟩ := nbq_o (ws := ws) (k := z.p)
  rw [e3, e4, n1, n2, n3, reads_tk]
  cases h : nbB ws z.p with
  | true => rw [if_pos rfl, if_pos rfl]; exact ⟨rfl, rfl⟩
  | false =>
    have hv := nbV_no h
    rw [if_neg (by decide), if_neg (by decide), hv.1, hv.2]
    cases hb : tkB ws z.p [45] with
    | true =>
      rw [if_pos rfl, tkK_y hb]
      exact ⟨ref_o (z := ⟨z.ins, z.lab, z.e, z.a, z.p + 1⟩) hw, rfl⟩
    | false =>
      rw [if_neg (by decide), tkK_n hb, go_p]
      exact ⟨ref_o hw, rfl⟩
theorem imm_o2 (hw : WsOK ws) : toP (z.wa (immA g ws z.as)) = (Old.immP (gO g R) ws (toP z)).1 ∧ immV g ws z.as = (Old.immP (gO g R) ws (toP z)).2 := by
  unfold immA immV Old.immP
  have e1 : (gO g R).mrk = g.im := rfl
  rw [e1]
  by_cases h : g.im = []
  · rw [if_pos h, if_pos h, if_pos (Old.eqL_yes h)]; exact num_o hw
  · rw [if_neg h, if_neg h, if_neg (by rw [Old.eqL_no h]; decide), ← mk_o hw]
    exact num_o (z := z.wa (mkA ws z.as g.im)) hw
theorem ix_o (hw : WsOK ws) : toP (regI g ws z) = Old.idxP (gO g R) ws (toP z) := by
  obtain ⟨h1, h2⟩ := kn_o (z := z) hw (gO g R).regs
  unfold Old.idxP
  rw [← h1, ← h2]; rfl
theorem isn_o : Old.isNumP ws k = ((ws.getD k tok0).kind == 2) := by
  unfold Old.isNumP
  by_cases hl : k < ws.length
  · rw [tk_get hl]
  · rw [tk_non hl, tk_out (by omega)]; rfl
theorem m3_n (h : psB ws z = false) : m3 ws z = z := by unfold m3; unfold psB at h; rw [tkK_n h]
theorem off_o (hw : WsOK ws) : toP (if psB ws z = true then regI g ws (m3 ws z) else m3 ws z) = Old.offP (gO g R) ws (toP z) := by
  unfold Old.offP
  have e3 : (toP z).p = z.p := rfl
  rw [e3, reads_tk]
  cases h : psB ws z with
  | true =>
    have h' : tkB ws z.p [43] = true := h
    rw [if_pos rfl, if_pos h', ix_o (R := R) hw]
    unfold m3; rw [tkK_y h']; rfl
  | false =>
    have h' : tkB ws z.p [43] = false := h
    rw [if_neg (by decide), if_neg (by rw [h']; decide), m3_n h]
theorem numoff_o (hw : WsOK ws) : toP (if nuQ ws z = true then (if psB ws (offI ws z) = true then regI g ws (m3 ws (offI ws z)) else m3 ws (offI ws z)) else regI g ws z) = Old.numOff (gO g R) ws (toP z) := by
  unfold Old.numOff
  have e3 : (toP z).p = z.p := rfl
  rw [e3, isn_o]
  unfold nuQ
  cases h : ((ws.getD z.p tok0).kind == 2) with
  | true =>
    rw [if_pos rfl, if_pos rfl, off_o (R := R) hw]
    obtain ⟨n1, n2, n3⟩ := nbq_o (ws := ws) (k := z.p)
    rw [n2, n3]; rfl
  | false => rw [if_neg (by decide), if_neg (by decide)]; exact ix_o hw
theorem plus_o (hw : WsOK ws) : toP (if psB ws z = true then (if nuQ ws (m3 ws z) = true then (if psB ws (offI ws (m3 ws z)) = true then regI g ws (m3 ws (offI ws (m3 ws z))) else m3 ws (offI ws (m3 ws z))) else regI g ws (m3 ws z)) else m3 ws z) = Old.plusP (gO g R) ws (toP z) := by
  unfold Old.plusP
  have e3 : (toP z).p = z.p := rfl
  rw [e3, reads_tk]
  cases h : psB ws z with
  | true =>
    have h' : tkB ws z.p [43] = true := h
    rw [if_pos rfl, if_pos h', numoff_o (R := R) hw]
    have : toP (m3 ws z) = Old.atP (toP z) (z.p + 1) := by unfold m3; rw [tkK_y h']; rfl
    rw [this]
  | false =>
    have h' : tkB ws z.p [43] = false := h
    rw [if_neg (by decide), if_neg (by rw [h']; decide), m3_n h]
theorem mem0_o (hw : WsOK ws) : toP (m2 ws (m1 ws z)) = Old.mem0P ws (toP z) := by
  have h0 : toP (m1 ws z) = Old.markP ws [91] (toP z) := mk_o hw
  obtain ⟨h1, h2⟩ := kn_o (z := m1 ws z) hw Old.locsX
  unfold Old.mem0P
  rw [← h0, ← h1, ← h2]; rfl
theorem memo_o (hw : WsOK ws) : toP (memS g ws z) = Old.memP (gO g R) ws (toP z) := by
  unfold Old.memP
  rw [← mem0_o hw, ← plus_o hw]
  exact mk_o hw
theorem lab_o : toP ⟨z.ins, nmT ws z.p, z.e, z.a, nmK ws z.p⟩ = Old.labP ws (toP z) := by
  unfold Old.labP nmT nmK nmB
  have e3 : (toP z).p = z.p := rfl
  rw [e3]
  by_cases hl : z.p < ws.length
  · rw [tk_get hl, decide_eq_true hl, Bool.true_and]
    simp only
    cases h : ((ws.getD z.p tok0).kind == 1) <;> rfl
  · rw [tk_non hl, decide_eq_false hl]; rfl
theorem pt_o (hw : WsOK ws) (p : Int) (h10 : p ≠ 10) : toP (ptS g ws p z) = Old.partP (gO g R) ws p (toP z) := by
  have kr := kn_o (z := z) hw (gO g R).regs
  have kf := kn_o (z := z) hw (gO g R).fens
  have ki := imm_o2 (g := g) (R := R) (z := z) hw
  unfold ptS Old.partP Old.fenP
  simp only [beq_iff_eq]
  rw [← kr.1, ← kr.2, ← kf.1, ← kf.2, ← ki.1, ← ki.2]
  by_cases h1 : p = 1
  · rw [if_pos h1, if_pos h1]; rfl
  rw [if_neg h1, if_neg h1]
  by_cases h4 : p = 4
  · rw [if_pos h4, if_pos h4]; rfl
  rw [if_neg h4, if_neg h4]
  by_cases h2 : p = 2
  · rw [if_pos h2, if_pos h2]; rfl
  rw [if_neg h2, if_neg h2]
  by_cases h3 : p = 3
  · rw [if_pos h3, if_pos h3]; rfl
  rw [if_neg h3, if_neg h3]
  by_cases h5 : p = 5
  · rw [if_pos h5, if_pos h5]; rfl
  rw [if_neg h5, if_neg h5]
  by_cases h6 : p = 6
  · rw [if_pos h6, if_pos h6]; exact memo_o hw
  rw [if_neg h6, if_neg h6]
  by_cases h7 : p = 7
  · rw [if_pos h7, if_pos h7]; exact lab_o
  rw [if_neg h7, if_neg h7]
  by_cases h8 : p = 8
  · rw [if_pos h8, if_pos h8]; rfl
  rw [if_neg h8, if_neg h8]
  by_cases h9 : p = 9
  · rw [if_pos h9, if_pos h9]; rfl
  rw [if_neg h9, if_neg h9, if_neg h10]
theorem idxS_lt {ls : List (List UInt8)} {q : List UInt8} (h : ¬ idxS ls q < 0) : (idxS ls q).toNat < ls.length := by
  unfold idxS at h ⊢
  cases hf : (List.range ls.length).find? (fun j => q == ls.getD j []) with
  | none => rw [hf] at h; exact absurd (by decide) h
  | some j => exact List.mem_range.1 (List.mem_of_find?_eq_some hf)
theorem size_o (r : Rw) (q : List UInt8) : szP g r.nm q = Old.sizeP (gO g R) (toR r) q := by
  unfold szP Old.sizeP
  have e1 : (toR r).name = r.nm := rfl
  have e2 : Old.sizedN (gO g R) (toR r) = nms g r.nm := rfl
  rw [e1, e2, ← idxS_L]
  cases (Lib.cut r.nm [42]).2.2 with
  | false => rfl
  | true =>
    rw [if_pos rfl, if_pos rfl]
    by_cases h : idxS (nms g r.nm) q < 0
    · rw [if_pos h, if_pos (decide_eq_true h)]
    · rw [if_neg h, if_neg (by rw [decide_eq_false h]; decide)]
      have hl := idxS_lt h
      have e : idxS (nms g r.nm) q = (((idxS (nms g r.nm) q).toNat : Nat) : Int) := by omega
      rw [e, szI_k _ (show _ < 4 from hl)]
theorem fold_n (q : List UInt8) (S : Old.Ps) : ∀ (l : List Rw) (c : Int) (acc : List Rw), (l.map toR).foldl (Old.nStep (gO g R) q) (Old.setSize S c, acc.map toR) = (Old.setSize S (l.foldl (nSt g q) (c, acc)).1, (l.foldl (nSt g q) (c, acc)).2.map toR)
  | [], c, acc => rfl
  | r :: l, c, acc => by
    rw [List.map_cons, List.foldl_cons, List.foldl_cons]
    have : Old.nStep (gO g R) q (Old.setSize S c, acc.map toR) (toR r) = (Old.setSize S (nSt g q (c, acc) r).1, (nSt g q (c, acc) r).2.map toR) := by
      unfold Old.nStep nSt
      rw [← size_o]
      cases (szP g r.nm q).2 with
      | false => rfl
      | true => rw [if_pos rfl, if_pos rfl, List.map_append]; rfl
    rw [this]
    exact fold_n q S l _ _
theorem named_o (hw : WsOK ws) : toP (naS g ws R z) = (Old.namedP (gO g R) ws (toP z)).1 ∧ (naR g ws R z).map toR = (Old.namedP (gO g R) ws (toP z)).2 := by
  unfold naS naR Old.namedP
  have e3 : (toP z).p = z.p := rfl
  rw [e3]
  by_cases hl : z.p < ws.length
  · rw [tk_get hl]
    simp only
    by_cases hk : (ws.getD z.p tok0).kind = 1
    · rw [if_pos hk, if_pos hk, if_pos (beq_iff_eq.2 hk)]
      have hf := fold_n (g := g) (R := R) (ws.getD z.p tok0).text (toP z) R z.ins.sz []
      have e0 : ((Old.setSize (toP z) z.ins.sz, ([] : List Rw).map toR) : Old.Ps × List Old.Rw) = (toP z, []) := rfl
      rw [e0] at hf
      have e5 : (gO g R).rows = R.map toR := rfl
      rw [e5, hf]
      have e6 : R.foldl (nSt g (ws.getD z.p tok0).text) (z.ins.sz, []) = naZ g ws R z := by unfold naZ zK; rw [List.take_length]
      rw [e6]
      refine ⟨?_, rfl⟩
      unfold Old.noRow
      simp only [List.length_map]
      by_cases h0 : (naZ g ws R z).2.length = 0
      · rw [if_pos h0, if_pos (by rw [h0]; rfl)]
        have hr := ref_o (x := 21) (z := (⟨{ z.ins with sz := (naZ g ws R z).1 }, z.lab, z.e, z.a, z.p⟩ : Ps)) hw
        have e7 : Old.setSize (toP z) (naZ g ws R z).1 = toP ⟨{ z.ins with sz := (naZ g ws R z).1 }, z.lab, z.e, z.a, z.p⟩ := rfl
        rw [e7, ← hr]
        have hp : (refA ws z.as 21).p = z.p := refA_p
        rw [hp, nxK_y hl]
        have hp2 : (refA ws (⟨{ z.ins with sz := (naZ g ws R z).1 }, z.lab, z.e, z.a, z.p⟩ : Ps).as 21) = refA ws z.as 21 := rfl
        unfold Old.nextP Old.atP
        rw [hp2]
        unfold toP Ps.wa
        simp only [hp]
      · rw [if_neg h0, if_neg (by intro e; exact h0 (by have := eq_of_beq e; omega)), nxK_y hl]; rfl
    · rw [if_neg hk, if_neg hk, if_neg (fun e => hk (eq_of_beq e))]; exact ⟨ref_o hw, rfl⟩
  · rw [tk_non hl, tk_out (by omega)]; exact ⟨ref_o hw, rfl⟩
theorem word_o : Old.wordAt ws k = ws.getD k tok0 := by
  unfold Old.wordAt; rw [List.getD_eq_getElem?_getD]; rfl
theorem beg_o (r : Rw) (p : Int) (t : Tk) (h10 : p ≠ 10) : begQ g r p t = Old.beginsB (gO g R) p t := by
  unfold begQ Old.beginsB begI Old.beginsImmB Old.isMarkB
  have e1 : (gO g R).mrk = g.im := rfl
  rw [e1]
  simp only [beq_iff_eq]
  by_cases h5 : p = 5
  · rw [if_pos h5, if_pos h5]
    by_cases hi : g.im = []
    · rw [if_pos hi, if_pos (Old.eqL_yes hi)]; rfl
    · rw [if_neg hi, if_neg (by rw [Old.eqL_no hi]; decide)]; rfl
  · rw [if_neg h5, if_neg h5]
    by_cases h6 : p = 6
    · rw [if_pos h6, if_pos h6]; rfl
    · rw [if_neg h6, if_neg h6, if_neg h10]
theorem left_o (t : Tk) : ∀ (Q : List Rw), (∀ r ∈ Q, k < r.ps.length ∧ ∀ p ∈ r.ps, p ≠ 10) → (Q.map toR).filter (fun r => !Old.strikes (gO g R) k t r) = (lft g k t Q).map toR
  | [], _ => rfl
  | r :: Q, h => by
    obtain ⟨hk, h10⟩ := h r List.mem_cons_self
    have ih := left_o t Q (fun x hx => h x (List.mem_cons_of_mem _ hx))
    have e : Old.strikes (gO g R) k t (toR r) = stk g k t r := by
      unfold Old.strikes stk
      have e1 : (toR r).parts = r.ps := rfl
      have e2 : r.ps[k]? = some (r.ps.getD k 0) := by rw [List.getD_eq_getElem?_getD, List.getElem?_eq_getElem hk]; rfl
      rw [e1, e2]
      simp only
      rw [beg_o (R := R) r _ t (h10 _ (by rw [List.getD_eq_getElem?_getD, List.getElem?_eq_getElem hk]; exact List.getElem_mem hk))]
    unfold lft at ih ⊢
    rw [List.map_cons, List.filter_cons, List.filter_cons, e, ih]
    cases stk g k t r <;> rfl
theorem fst_no {f : Rw → Bool} {Q : List Rw} (h : ∀ r ∈ Q, f r = false) : fstX f Q = -1 := by
  unfold fstX
  have : (List.range Q.length).find? (fun j => f (Q.getD j Rw.z)) = none := by
    rw [List.find?_eq_none]
    intro j hj
    have hl := List.mem_range.1 hj
    rw [h _ (by rw [List.getD_eq_getElem?_getD, List.getElem?_eq_getElem hl]; exact List.getElem_mem hl)]
    decide
  rw [this]
theorem comma_o (hw : WsOK ws) : toP (n1 ws k z) = Old.commaP ws k (toP z) := by
  unfold n1 Old.commaP
  by_cases h : (k : Int) > 0
  · rw [if_pos h, if_pos (decide_eq_true h)]; exact mk_o hw
  · rw [if_neg h, if_neg (by rw [decide_eq_false h]; decide)]
theorem inst_o (hw : WsOK ws) {N0 : Nat} : ∀ (f F k : Nat) (Q : List Rw) (z : Ps), (∀ r ∈ Q, r.ps.length = N0 ∧ ∀ p ∈ r.ps, p ≠ 10) → N0 < f + k → f ≤ F → Old.instL (gO g R) ws F k (Q.map toR) (toP z) = (toP (inst g ws f k Q z).1, (inst g ws f k Q z).2.map toR)
  | f, F, k, [], z, h, hn, hF => by
    rw [List.map_nil, Old.inst_nil]
    have : inst g ws f k [] z = (z, []) := by cases f <;> rfl
    rw [this]; rfl
  | 0, F, k, r :: Q, z, h, hn, hF => by
    have hr := (h r List.mem_cons_self).1
    have e : inst g ws 0 k (r :: Q) z = (z, r :: Q) := rfl
    rw [e, List.map_cons]
    cases F with
    | zero => rfl
    | succ F =>
      unfold Old.instL
      simp only
      rw [if_neg]
      have : (toR r).parts.length = N0 := hr
      rw [this, decide_eq_false (by omega)]; decide
  | f + 1, F, k, r :: Q, z, h, hn, hF => by
    obtain ⟨F, rfl⟩ : ∃ F', F = F' + 1 := ⟨F - 1, by omega⟩
    have hr := (h r List.mem_cons_self).1
    have hp : (toR r).parts.length = N0 := hr
    rw [List.map_cons]
    unfold Old.instL inst
    simp only
    rw [hp]
    have hg : goB (r :: Q) k = decide ((k : Int) < (N0 : Int)) := by
      unfold goB
      have : (((r :: Q).getD (0 : Int).toNat Rw.z).ps.length) = N0 := hr
      rw [this, decide_eq_true (by simp only [List.length_cons]; omega), Bool.true_and]
    rw [hg]
    by_cases hk : (k : Int) < (N0 : Int)
    · rw [if_pos (decide_eq_true hk), if_pos (decide_eq_true hk)]
      have hall : ∀ x ∈ r :: Q, k < x.ps.length ∧ ∀ p ∈ x.ps, p ≠ 10 := fun x hx => ⟨by rw [(h x hx).1]; omega, (h x hx).2⟩
      have hL : Old.leftR (gO g R) ws k (toR r :: Q.map toR) (Old.commaP ws k (toP z)) = (nxR g ws k (r :: Q) z).map toR := by
        rw [← comma_o hw]
        unfold Old.leftR nxR
        rw [word_o]
        exact left_o _ (r :: Q) hall
      have hB : Old.begP (gO g R) ws k (toR r :: Q.map toR) (Old.commaP ws k (toP z)) = toP (beS g ws k (r :: Q) (n1 ws k z)) := by
        unfold Old.begP beS
        rw [hL, List.length_map, ← comma_o hw]
        have hm : mfV k (ws.getD (n1 ws k z).p tok0) (r :: Q) = 22 := by
          unfold mfV
          rw [fst_no (fun x hx => by
            unfold ask10
            obtain ⟨hx1, hx2⟩ := hall x hx
            exact beq_eq_false_iff_ne.2 (hx2 _ (by rw [List.getD_eq_getElem?_getD, List.getElem?_eq_getElem hx1]; exact List.getElem_mem hx1)))]
          rfl
        rw [hm]
        have hx : nxR g ws k (r :: Q) z = lft g k (ws.getD (n1 ws k z).p tok0) (r :: Q) := rfl
        rw [hx]
        by_cases h0 : (lft g k (ws.getD (n1 ws k z).p tok0) (r :: Q)).length = 0
        · rw [if_pos (by rw [h0]; rfl), if_pos h0, ref_o hw]
        · rw [if_neg (by intro e; exact h0 (by have := eq_of_beq e; omega)), if_neg h0]
      have hS : Old.part0 (gO g R) ws k ((nxR g ws k (r :: Q) z).map toR) (toP (beS g ws k (r :: Q) (n1 ws k z))) = toP (nxS g ws k (r :: Q) z) := by
        unfold nxS Old.part0
        cases hx : nxR g ws k (r :: Q) z with
        | nil => rfl
        | cons y l =>
          have hy : y ∈ r :: Q := by
            have : y ∈ nxR g ws k (r :: Q) z := by rw [hx]; exact List.mem_cons_self
            unfold nxR lft at this
            exact (List.mem_filter.1 this).1
          obtain ⟨hy1, hy2⟩ := hall y hy
          have e2 : (toR y).parts[k]? = some (y.ps.getD k 0) := by
            show y.ps[k]? = _
            rw [List.getD_eq_getElem?_getD, List.getElem?_eq_getElem hy1]; rfl
          rw [List.map_cons]
          simp only [e2]
          rw [if_pos (by simp only [List.length_cons]; omega)]
          exact (pt_o hw _ (hy2 _ (by rw [List.getD_eq_getElem?_getD, List.getElem?_eq_getElem hy1]; exact List.getElem_mem hy1))).symm
      rw [hL, hB, hS]
      exact inst_o hw f F (k + 1) _ _ (fun x hx => by
        unfold nxR lft at hx
        exact h x (List.mem_filter.1 hx).1) (by omega) (by omega)
    · rw [if_neg (by rw [decide_eq_false hk]; decide), if_neg (by rw [decide_eq_false hk]; decide)]; rfl
theorem na_sub : ∀ r ∈ naR g ws R z, r ∈ R := by
  intro r hr
  unfold naR at hr
  split at hr
  · unfold naZ zK at hr
    rw [List.take_length] at hr
    rcases nfl_sz _ _ _ hr with h | h
    · cases h
    · exact h.1
  · cases hr
theorem more_o (hw : WsOK ws) : toP (z.wa (endA ws z.as)) = Old.moreP ws (toP z) := by
  unfold endA Old.moreP
  have e4 : z.as.p = z.p := rfl
  have e3 : (toP z).p = z.p := rfl
  rw [e3, e4]
  by_cases h : z.p < ws.length
  · rw [if_pos h, if_pos (decide_eq_true (by omega))]; exact ref_o hw
  · rw [if_neg h, if_neg (by rw [decide_eq_false (by omega)]; decide)]; rfl
theorem par_o (hw : WsOK ws) (hp : PaOK g ws R) (h10 : ∀ r ∈ R, ∀ p ∈ r.ps, p ≠ 10) : (toO (parI g ws R), parT g ws R, parE g ws R, parA g ws R) = Old.parP (gO g R) ws := by
  have hI : Old.instP (gO g R) ws Old.zPs = (toP (inF g ws R Ps.z0).1, (inF g ws R Ps.z0).2.map toR) := by
    unfold Old.instP inF
    have hn := named_o (g := g) (R := R) (z := Ps.z0) hw
    have e : toP Ps.z0 = Old.zPs := rfl
    rw [e] at hn
    rw [← hn.1, ← hn.2]
    refine inst_o (N0 := inN g ws R Ps.z0) hw _ _ _ _ _ (fun r hr => ⟨?_, h10 r (na_sub r hr)⟩) (by omega) (by have := hp.k; omega)
    cases hx : naR g ws R Ps.z0 with
    | nil => rw [hx] at hr; cases hr
    | cons y l =>
      have hy : y ∈ naR g ws R Ps.z0 := by rw [hx]; exact List.mem_cons_self
      have : inN g ws R Ps.z0 = y.ps.length := by unfold inN; rw [hx]; rfl
      rw [this]; exact hp.s r hr y hy
  unfold Old.parP
  rw [hI]
  simp only
  rw [← more_o hw]
  have e1 : (toP ((inF g ws R Ps.z0).1.wa (endA ws (inF g ws R Ps.z0).1.as))).e = (paE g ws R).e := rfl
  have e2 : (toP ((inF g ws R Ps.z0).1.wa (endA ws (inF g ws R Ps.z0).1.as))).a = (paE g ws R).a := rfl
  have e3 : (toP ((inF g ws R Ps.z0).1.wa (endA ws (inF g ws R Ps.z0).1.as))).lab = (inF g ws R Ps.z0).1.lab := rfl
  have e4 : Old.withL ((inF g ws R Ps.z0).2.map toR) (toP (inF g ws R Ps.z0).1).ins = toO (inI g ws R Ps.z0) := by
    unfold inI Old.withL
    cases hx : (inF g ws R Ps.z0).2 with
    | nil => rfl
    | cons y l => rw [if_neg (by simp only [List.length_cons]; omega), List.map_cons]; exact (lay_o y _).symm
  rw [e1, e2, e3, e4, ← wrong_o, where_at hw]
  unfold parI parT parE parA
  by_cases h : (paE g ws R).e = 0
  · rw [if_neg (not_not_intro h), if_neg (not_not_intro h), if_neg (not_not_intro h), if_neg (not_not_intro h), if_pos (beq_iff_eq.2 h)]
    cases wrongI (inI g ws R Ps.z0) <;> rfl
  · rw [if_pos h, if_pos h, if_pos h, if_pos h, if_neg (fun e => h (eq_of_beq e))]; rfl
end
end Go.Proofs.YtedlaclfhgneeaaGreatDoor
namespace Go.Proofs.YtedlaclfhgneeaaGreatDoor.Old
open Go.RowKit
set_option linter.unusedVariables false
set_option linter.unusedSimpArgs false
set_option linter.unusedSectionVars false
theorem regV_kn {L : List Tk} (t : Rs) : regG regV L t = knR L regsV t := rfl
section
variable {L : List Tk} {g : Lg} {s : Rs} {i : Ins} {y : Tk}
-- offe_no
theorem offe_noV (h : plusR L s = false) : offG regV L s i = (s, i) := by unfold offG; rw [if_neg (by simp [h])]
-- offe_yes
theorem offe_yesV (h : plusR L s = true) : offG regV L s i = idxG regV L ⟨s.e, s.a, s.p + 1⟩ i := by unfold offG; rw [if_pos h]
-- meme_no
theorem meme_noV (h : plusR L s = false) : memEG regV L s i = (s, i) := by unfold memEG; rw [if_neg (by simp [h])]
-- meme_none
theorem meme_noneV (h : plusR L s = true) (hn : L.length ≤ s.p + 1) : memEG regV L s i = idxG regV L ⟨s.e, s.a, s.p + 1⟩ i := by unfold memEG; rw [if_pos h, List.getElem?_eq_none hn]
-- meme_reg
theorem meme_regV (h : plusR L s = true) (hy : L[s.p + 1]? = some y) (hk : (y.kind == 2) = false) : memEG regV L s i = idxG regV L ⟨s.e, s.a, s.p + 1⟩ i := by unfold memEG; rw [if_pos h, hy]; simp [hk]
-- meme_num
theorem meme_numV (h : plusR L s = true) (hy : L[s.p + 1]? = some y) (hk : (y.kind == 2) = true) : memEG regV L s i = offG regV L ⟨s.e, s.a, s.p + 1 + 1⟩ { i with off := y.n } := by unfold memEG; rw [if_pos h, hy]; simp [hk]
-- mem_skip
theorem mem_skipV (h : (s.e == 0) = false) : memIG regV L s i = (s, i) := by unfold memIG; rw [if_neg (by simp [h])]
-- mem_none
theorem mem_noneV (h : (s.e == 0) = true) (hn : L.length ≤ s.p) : memIG regV L s i = (oddR L true s, i) := by unfold memIG; rw [if_pos h, List.getElem?_eq_none hn]
-- mem_kind
theorem mem_kindV (h : (s.e == 0) = true) (hy : L[s.p]? = some y) (hk : (y.kind == 1) = false) : memIG regV L s i = (oddR L true s, i) := by unfold memIG; rw [if_pos h, hy]; simp [hk]
-- mem_word
theorem mem_wordV (h : (s.e == 0) = true) (hy : L[s.p]? = some y) (hf : decide (locF y.text < 0) = true) : memIG regV L s i = (oddR L true s, i) := by unfold memIG; rw [if_pos h, hy]; simp only [hf, Bool.not_true, Bool.and_false, Bool.false_eq_true, if_false]
-- mem_yes
theorem mem_yesV (h : (s.e == 0) = true) (hy : L[s.p]? = some y) (hk : (y.kind == 1) = true) (hf : decide (locF y.text < 0) = false) : memIG regV L s i = closeR L (memEG regV L ⟨s.e, s.a, s.p + 1⟩ { i with loc := locF y.text }) := by unfold memIG; rw [if_pos h, hy]; simp only [hk, hf, Bool.not_false, Bool.and_true, if_true]
-- mem_idx
theorem mem_idxV (hr : g.regs = regsV) {s : Ps} {t : Rs} {i : Ins} (h : Mem s t i) : Mem (idxP g L s) (idxG regV L t i).1 (idxG regV L t i).2 := by
  obtain ⟨h1, h2⟩ := h
  have hk := sim_known (L := L) (ls := regsV) h1
  have hkp := (known_keeps (L := L) (ls := regsV) (s := s)).1
  unfold idxP idxG
  rw [hr, regV_kn]
  refine ⟨sim_set hk.1 rfl rfl rfl, fun he => ?_⟩
  have ht : t.e = 0 := by
    cases hte : decide (t.e = 0)
    · have : t.e ≠ 0 := of_decide_eq_false hte
      rw [kn_skip this] at he; exact absurd he this
    · exact of_decide_eq_true hte
  obtain ⟨a1, a2, a3⟩ := h2 ht
  exact ⟨by show (knownP L regsV s).1.ins.loc = i.loc; rw [hkp]; exact a1, by show (knownP L regsV s).1.ins.off = i.off; rw [hkp]; exact a2, hk.2 he⟩
-- mem_off
theorem mem_offV (hr : g.regs = regsV) {s : Ps} {t : Rs} {i : Ins} (h : Mem s t i) : Mem (offP g L s) (offG regV L t i).1 (offG regV L t i).2 := by
  have hp := plusR_is (L := L) h.1
  by_cases he : t.e = 0
  · obtain ⟨hs0, hsp⟩ := sim_p h.1 he
    rw [hs0] at hp
    cases hrd : reads L [43] s.p
    · rw [hrd] at hp
      rw [offe_noV hp]; unfold offP; rw [if_neg (by simp [hrd])]; exact h
    · rw [hrd] at hp
      rw [offe_yesV hp]; unfold offP; rw [if_pos hrd]
      exact mem_idxV hr ⟨.inl ⟨hs0, he, by show s.p + 1 = t.p + 1; omega⟩, fun _ => h.2 he⟩
  · have hs : s.e ≠ 0 := (sim_ne h.1).2 he
    have : plusR L t = false := by rw [hp]; simp [hs]
    rw [offe_noV this]
    exact ⟨(off_bad hs).sim hs h.1, fun e => absurd e he⟩
-- mem_plus
theorem mem_plusV (hr : g.regs = regsV) {s : Ps} {t : Rs} {i : Ins} (h : Mem s t i) : Mem (plusP g L s) (memEG regV L t i).1 (memEG regV L t i).2 := by
  have hp := plusR_is (L := L) h.1
  by_cases he : t.e = 0
  · obtain ⟨hs0, hsp⟩ := sim_p h.1 he
    rw [hs0] at hp
    cases hrd : reads L [43] s.p
    · rw [hrd] at hp
      rw [meme_noV hp]; unfold plusP; rw [if_neg (by simp [hrd])]; exact h
    · rw [hrd] at hp
      unfold plusP; rw [if_pos hrd]
      unfold numOff
      have hs1 : Mem (atP s (s.p + 1)) ⟨t.e, t.a, t.p + 1⟩ i := ⟨.inl ⟨hs0, he, by show s.p + 1 = t.p + 1; omega⟩, fun _ => h.2 he⟩
      cases hy : L[s.p + 1]? with
      | none =>
        have hn : L.length ≤ t.p + 1 := by have : L.length ≤ s.p + 1 := by simpa using hy
                                           omega
        rw [meme_noneV hp hn, if_neg (by show ¬ isNumP L (s.p + 1) = true; unfold isNumP; rw [hy]; simp)]
        exact mem_idxV hr hs1
      | some y =>
        have hyt : L[t.p + 1]? = some y := by rw [← hsp]; exact hy
        cases hk : (y.kind == 2)
        · rw [meme_regV hp hyt hk, if_neg (by show ¬ isNumP L (s.p + 1) = true; rw [isnum_is hy, hk]; simp)]
          exact mem_idxV hr hs1
        · rw [meme_numV hp hyt hk, if_pos (by show isNumP L (s.p + 1) = true; rw [isnum_is hy, hk])]
          have e1 : numP1 L (s.p + 1) = some (y.n, s.p + 1 + 1) := by unfold numP1; rw [hy]; simp only [hk, if_true]
          have e2 : nbQ L (atP s (s.p + 1)).p = s.p + 1 + 1 := by show nbQ L (s.p + 1) = _; unfold nbQ; rw [e1]; rfl
          have e3 : nbV L (atP s (s.p + 1)).p = y.n := by show nbV L (s.p + 1) = _; unfold nbV; rw [e1]; rfl
          rw [e2, e3]
          exact mem_offV hr ⟨.inl ⟨hs0, he, by show s.p + 1 + 1 = t.p + 1 + 1; omega⟩, fun _ => ⟨(h.2 he).1, rfl, (h.2 he).2.2⟩⟩
  · have hs : s.e ≠ 0 := (sim_ne h.1).2 he
    have : plusR L t = false := by rw [hp]; simp [hs]
    rw [meme_noV this]
    exact ⟨(plus_bad hs).sim hs h.1, fun e => absurd e he⟩
-- memI_kn
theorem memi_knV {t : Rs} {i : Ins} (he : (knR L locsX t).1.e = 0) : memIG regV L t i = closeR L (memEG regV L (knR L locsX t).1 { i with loc := (knR L locsX t).2 }) := by
  have ht : t.e = 0 := by
    cases hte : decide (t.e = 0)
    · have : t.e ≠ 0 := of_decide_eq_false hte
      rw [kn_skip this] at he; exact absurd he this
    · exact of_decide_eq_true hte
  have ht0 : (t.e == 0) = true := by simpa using ht
  cases hy : L[t.p]? with
  | none => rw [kn_none ht0 (by simpa using hy)] at he; exact absurd he (by have := odd_e (L := L) (u := true) ht0; simpa using this)
  | some y =>
    cases hk : (y.kind == 1)
    · rw [kn_kind ht0 hy hk] at he; exact absurd he (by have := odd_e (L := L) (u := true) ht0; simpa using this)
    · cases hd : decide (idxL locsX y.text 0 < 0)
      · rw [kn_yes ht0 hy hk hd]; exact mem_yesV ht0 hy hk hd
      · rw [kn_word ht0 hy hd] at he; exact absurd he (by have := odd_e (L := L) (u := true) ht0; simpa using this)
-- memI_no
theorem memi_noV {t : Rs} {i : Ins} (he : (knR L locsX t).1.e ≠ 0) : memIG regV L t i = ((knR L locsX t).1, i) := by
  by_cases ht : t.e = 0
  · have ht0 : (t.e == 0) = true := by simpa using ht
    cases hy : L[t.p]? with
    | none => rw [kn_none ht0 (by simpa using hy), mem_noneV ht0 (by simpa using hy)]
    | some y =>
      cases hk : (y.kind == 1)
      · rw [kn_kind ht0 hy hk, mem_kindV ht0 hy hk]
      · cases hd : decide (idxL locsX y.text 0 < 0)
        · rw [kn_yes ht0 hy hk hd] at he; exact absurd ht he
        · rw [kn_word ht0 hy hd, mem_wordV ht0 hy hd]
  · rw [kn_skip ht, mem_skipV (by simpa using ht)]
-- sim_mem
theorem sim_memV (hr : g.regs = regsV) {s : Ps} {t : Rs} {i : Ins} (h : Sim s t) (ho : s.ins.off = i.off) (hi : i.index = -1) : Mem (memP g L s) (memG regV L t i).1 (memG regV L t i).2 := by
  have h1 := sim_mark (L := L) (m := [91]) h
  have h2 := sim_known (L := L) (ls := locsX) h1
  have hk : (mem0P L s).ins.off = s.ins.off := by
    show (knownP L locsX (markP L [91] s)).1.ins.off = s.ins.off
    rw [(known_keeps (L := L) (ls := locsX)).1, (mark_keeps (L := L)).1]
  have h3 : Sim (mem0P L s) (knR L locsX (markR L [91] t)).1 := sim_set h2.1 rfl rfl rfl
  unfold memP memG
  by_cases he : (knR L locsX (markR L [91] t)).1.e = 0
  · rw [memi_knV he]
    have h4 : Mem (mem0P L s) (knR L locsX (markR L [91] t)).1 { i with loc := (knR L locsX (markR L [91] t)).2 } := ⟨h3, fun _ => ⟨h2.2 he, by rw [hk]; exact ho, hi.symm⟩⟩
    have h5 := mem_plusV (L := L) hr h4
    unfold closeR
    refine ⟨sim_mark h5.1, fun e => ?_⟩
    rw [(mark_keeps (L := L)).1]
    refine h5.2 ?_
    by_cases hz : (memEG regV L (knR L locsX (markR L [91] t)).1 { i with loc := (knR L locsX (markR L [91] t)).2 }).1.e = 0
    · exact hz
    · have e : (markR L [93] (memEG regV L (knR L locsX (markR L [91] t)).1 { i with loc := (knR L locsX (markR L [91] t)).2 }).1).e = 0 := e
      rw [mark_skip (by simpa using hz)] at e; exact e
  · rw [memi_noV he]
    have hs : (mem0P L s).e ≠ 0 := (sim_ne h3).2 he
    have hb := (plus_bad (g := g) (L := L) hs).trans (mark_bad (L := L) (m := [93]) ((plus_bad (g := g) (L := L) hs).ne hs))
    exact ⟨hb.sim hs h3, fun e => absurd e he⟩
-- lk_offE
theorem lk_offEV {t : Rs} {i : Ins} : Lk i (offG regV L t i).2 := by unfold offG; split <;> rfl
-- lk_memE
theorem lk_memeV {t : Rs} {i : Ins} : Lk i (memEG regV L t i).2 := by
  unfold memEG; split
  · split
    · split
      · exact Lk.trans (show Lk i { i with off := _ } from rfl) lk_offEV
      · rfl
    · rfl
  · rfl
-- lk_memR
theorem lk_memrV {t : Rs} {i : Ins} : Lk i (memG regV L t i).2 := by
  unfold memG
  by_cases he : (knR L locsX (markR L [91] t)).1.e = 0
  · rw [memi_knV he]; exact Lk.trans (show Lk i { i with loc := _ } from rfl) lk_memeV
  · rw [memi_noV he]; rfl
-- memR_no
theorem memr_noV {t : Rs} {i : Ins} (h : (markR L [91] t).e ≠ 0) : (memG regV L t i).1 = markR L [91] t := by
  unfold memG; rw [memi_noV (by rw [kn_skip h]; exact h), kn_skip h]
-- no_mem
theorem no_memV (hW : WF L) {s : Ps} {t : Rs} (h : Sim s t) {i : Ins} (hb : isMarkB (wordAt L s.p) [91] = false) : Sim (refP L 22 s) (memG regV L t i).1 ∧ (memG regV L t i).1.e ≠ 0 := by
  have h1 := sim_mark (L := L) (m := [91]) h
  have hr : reads L [91] s.p = false := by rw [word_reads hW (by decide)]; exact hb
  have e1 : markP L [91] s = refP L 22 s := by unfold markP; rw [if_neg (by rw [hr]; decide)]
  rw [e1] at h1
  have hne := (sim_ne h1).1 ref_ne
  rw [memr_noV hne]; exact ⟨h1, hne⟩
-- no_reg
end
section
variable {L : List Tk} {g : Lg} {r : Rw} {f k : Nat} {s : Ps} {t t' te : Rs} {p : Int} {i : Ins} {lab : List UInt8}
theorem one_go (hp : r.parts[k]? = some p) : instL g L (f + 1) k [r] s = if beginsB g p (wordAt L (commaP L k s).p) = true then instL g L f (k + 1) [r] (partP g L p (commaP L k s)) else (refP L 22 (commaP L k s), []) := by
  have hk : k < r.parts.length := (List.getElem?_eq_some_iff.1 hp).1
  have hst : (!strikes g k (wordAt L (commaP L k s).p) r) = beginsB g p (wordAt L (commaP L k s).p) := by unfold strikes; rw [hp]; simp only [Bool.not_not]
  have hl : leftR g L k [r] (commaP L k s) = if beginsB g p (wordAt L (commaP L k s).p) = true then [r] else [] := by
    unfold leftR; simp only [List.filter_cons, List.filter_nil, hst]
  have e : instL g L (f + 1) k [r] s = if decide (((k : Nat) : Int) < ((r.parts.length : Nat) : Int)) = true then instL g L f (k + 1) (leftR g L k [r] (commaP L k s)) (part0 g L k (leftR g L k [r] (commaP L k s)) (begP g L k [r] (commaP L k s))) else (s, [r]) := rfl
  rw [e, if_pos (decide_eq_true (by omega))]
  cases hb : beginsB g p (wordAt L (commaP L k s).p)
  · rw [hb, if_neg (by decide)] at hl
    rw [beg_none' hl, hl, inst_nil, if_neg (by decide)]; rfl
  · rw [hb, if_pos rfl] at hl
    rw [begP_some hl, hl, if_pos rfl]
    show instL g L f (k + 1) [r] (match r.parts[k]? with | some p => partP g L p (commaP L k s) | none => commaP L k s) = _
    rw [hp]
theorem one_end (hp : r.parts.length = k) : instL g L (f + 1) k [r] s = (s, [r]) := by
  have e : instL g L (f + 1) k [r] s = if decide (((k : Nat) : Int) < ((r.parts.length : Nat) : Int)) = true then instL g L f (k + 1) (leftR g L k [r] (commaP L k s)) (part0 g L k (leftR g L k [r] (commaP L k s)) (begP g L k [r] (commaP L k s))) else (s, [r]) := rfl
  rw [e, if_neg (by rw [decide_eq_false (by omega)]; decide)]
theorem one_step (hp : r.parts[k]? = some p) (no : beginsB g p (wordAt L (commaP L k s).p) = false → Sim (refP L 22 (commaP L k s)) t') (hte : t'.e ≠ 0 → te = t')
    (go : Alike (instL g L f (k + 1) [r] (partP g L p (commaP L k s))) te i lab) : Alike (instL g L (f + 1) k [r] s) te i lab := by
  rw [one_go hp]
  cases hb : beginsB g p (wordAt L (commaP L k s).p)
  · rw [if_neg (by decide)]
    have h := no hb
    have hne := (sim_ne h).1 ref_ne
    rw [hte hne]
    exact ⟨h, fun e => absurd e hne⟩
  · rw [if_pos rfl]; exact go
theorem no_known {ls : List (List UInt8)} (h : Sim s t) (hb : ((wordAt L s.p).kind == 1) = false) : Sim (refP L 22 s) (knR L ls t).1 := by
  have hkn := word_kn (L := L) (ls := ls) hb
  have h1 := (sim_known (L := L) (ls := ls) h).1
  rw [hkn] at h1; exact h1
theorem no_num (hW : WF L) (h : Sim s t) (hb : (((wordAt L s.p).kind == 2) || isMarkB (wordAt L s.p) [45]) = false) : Sim (refP L 22 s) (numS L t).1 := by
  have h1 := (sim_num hW h).1
  rw [Bool.or_eq_false_iff] at hb
  have e1 : reads L [45] s.p = false := by rw [word_reads hW (by decide)]; exact hb.2
  have e2 : nbO L s.p = false := by
    unfold nbO numP1
    cases hy : L[s.p]? with
    | none => rfl
    | some y =>
      rw [word_some hy] at hb
      have h2 : ((y.kind == 3) && eqL y.text [45]) = false := hb.2
      simp only [hb.1, h2, Bool.false_eq_true, if_false]; rfl
  have e3 : (numP L s).1 = refP L 22 s := by unfold numP; rw [e2, e1]; rfl
  rw [e3] at h1; exact h1
end
end Go.Proofs.YtedlaclfhgneeaaGreatDoor.Old
namespace Go.Proofs.YtedlaclfhgneeaaGreatDoor.Old
open Go.RowKit
set_option linter.unusedVariables false
set_option linter.unusedSimpArgs false
set_option linter.unusedSectionVars false
def fensV : List (List UInt8) := [[114], [119], [114, 119]]
section
variable {L : List Tk} {r : Rw} {n p1 p2 p3 : Int} {t1 t2 t3 : Rs} {i : Ins} {lab : List UInt8}
theorem comma0 (s : Ps) : commaP L 0 s = s := rfl
theorem comma1 (s : Ps) : commaP L 1 s = markP L [44] s := rfl
theorem comma2 (s : Ps) : commaP L 2 s = markP L [44] s := rfl
abbrev sM (L : List Tk) (p1 n : Int) : Ps := markP L [44] (partP rvO L p1 (sAt n))
theorem form2 (hp : r.parts = [p1, p2])
    (no1 : beginsB rvO p1 (wordAt L 1) = false → Sim (refP L 22 (sAt n)) t1) (yes1 : Sim (partP rvO L p1 (sAt n)) t1)
    (no2 : Sim (sM L p1 n) (markR L [44] t1) → beginsB rvO p2 (wordAt L (sM L p1 n).p) = false → Sim (refP L 22 (sM L p1 n)) t2)
    (yes2 : Sim (sM L p1 n) (markR L [44] t1) → Sim (partP rvO L p2 (sM L p1 n)) t2)
    (sk : (markR L [44] t1).e ≠ 0 → t2 = markR L [44] t1)
    (hf : t2.e = 0 → withR r (partP rvO L p2 (sM L p1 n)).ins = i ∧ (partP rvO L p2 (sM L p1 n)).lab = lab) : Alike (instL rvO L 1001 0 [r] (sAt n)) t2 i lab := by
  have hM := sim_mark (L := L) (m := [44]) yes1
  refine one_step (k := 0) (f := 1000) (t' := t1) (p := p1) (by rw [hp]; rfl) (fun h => no1 h) (fun h => ?_) ?_
  · have e : markR L [44] t1 = t1 := mark_skip (by simpa using h)
    rw [e] at sk; exact sk h
  · rw [comma0]
    refine one_step (k := 1) (f := 999) (t' := t2) (p := p2) (by rw [hp]; rfl) (fun h => no2 hM h) (fun _ => rfl) ?_
    rw [comma1, one_end (f := 998) (by rw [hp]; rfl)]
    exact ⟨yes2 hM, fun e => hf e⟩
abbrev sN (L : List Tk) (p1 p2 n : Int) : Ps := markP L [44] (partP rvO L p2 (sM L p1 n))
theorem form3 (hp : r.parts = [p1, p2, p3])
    (no1 : beginsB rvO p1 (wordAt L 1) = false → Sim (refP L 22 (sAt n)) t1) (yes1 : Sim (partP rvO L p1 (sAt n)) t1)
    (no2 : Sim (sM L p1 n) (markR L [44] t1) → beginsB rvO p2 (wordAt L (sM L p1 n).p) = false → Sim (refP L 22 (sM L p1 n)) t2)
    (yes2 : Sim (sM L p1 n) (markR L [44] t1) → Sim (partP rvO L p2 (sM L p1 n)) t2)
    (sk2 : (markR L [44] t1).e ≠ 0 → t2 = markR L [44] t1)
    (no3 : Sim (sN L p1 p2 n) (markR L [44] t2) → beginsB rvO p3 (wordAt L (sN L p1 p2 n).p) = false → Sim (refP L 22 (sN L p1 p2 n)) t3)
    (yes3 : Sim (sN L p1 p2 n) (markR L [44] t2) → Sim (partP rvO L p3 (sN L p1 p2 n)) t3)
    (sk3 : (markR L [44] t2).e ≠ 0 → t3 = markR L [44] t2)
    (hf : t3.e = 0 → withR r (partP rvO L p3 (sN L p1 p2 n)).ins = i ∧ (partP rvO L p3 (sN L p1 p2 n)).lab = lab) : Alike (instL rvO L 1001 0 [r] (sAt n)) t3 i lab := by
  have hM := sim_mark (L := L) (m := [44]) yes1
  have hN := sim_mark (L := L) (m := [44]) (yes2 hM)
  have k2 : t2.e ≠ 0 → t3 = t2 := fun h => by
    have e : markR L [44] t2 = t2 := mark_skip (by simpa using h)
    rw [e] at sk3; exact sk3 h
  refine one_step (k := 0) (f := 1000) (t' := t1) (p := p1) (by rw [hp]; rfl) (fun h => no1 h) (fun h => ?_) ?_
  · have e : markR L [44] t1 = t1 := mark_skip (by simpa using h)
    rw [e] at sk2
    have e2 := sk2 h
    rw [k2 (by rw [e2]; exact h), e2]
  · rw [comma0]
    refine one_step (k := 1) (f := 999) (t' := t2) (p := p2) (by rw [hp]; rfl) (fun h => no2 hM h) k2 ?_
    rw [comma1]
    refine one_step (k := 2) (f := 998) (t' := t3) (p := p3) (by rw [hp]; rfl) (fun h => no3 hN h) (fun _ => rfl) ?_
    rw [comma2, one_end (f := 997) (by rw [hp]; rfl)]
    exact ⟨yes3 hN, fun e => hf e⟩
theorem reg1_no (h1 : p1 = 1 ∨ p1 = 2) (h : beginsB rvO p1 (wordAt L 1) = false) : Sim (refP L 22 (sAt n)) (knR L regsV tA).1 := by
  refine no_known (sim0 n) ?_
  rcases h1 with rfl | rfl <;> exact h
theorem reg1_yes (h1 : p1 = 1 ∨ p1 = 2) : Sim (partP rvO L p1 (sAt n)) (knR L regsV tA).1 := by
  have h := (sim_known (L := L) (ls := regsV) (sim0 n)).1
  rcases h1 with rfl | rfl <;> exact sim_set h rfl rfl rfl
theorem fen1_no (h : beginsB rvO 8 (wordAt L 1) = false) : Sim (refP L 22 (sAt n)) (knR L fensV tA).1 := no_known (sim0 n) h
theorem fen1_yes : Sim (partP rvO L 8 (sAt n)) (knR L fensV tA).1 := sim_set (sim_known (L := L) (ls := fensV) (sim0 n)).1 rfl rfl rfl
theorem regk_no {s : Ps} {t : Rs} (hp : p2 = 1 ∨ p2 = 2 ∨ p2 = 3) (hs : Sim s t) (h : beginsB rvO p2 (wordAt L s.p) = false) : Sim (refP L 22 s) (knR L regsV t).1 := by
  refine no_known hs ?_
  rcases hp with rfl | rfl | rfl <;> exact h
theorem regk_yes {s : Ps} {t : Rs} (hp : p2 = 1 ∨ p2 = 2 ∨ p2 = 3) (hs : Sim s t) : Sim (partP rvO L p2 s) (knR L regsV t).1 := by
  have h := (sim_known (L := L) (ls := regsV) hs).1
  rcases hp with rfl | rfl | rfl <;> exact sim_set h rfl rfl rfl
theorem kn_sk {ls : List (List UInt8)} {t : Rs} (h : t.e ≠ 0) : (knR L ls t).1 = t := by rw [kn_skip h]
theorem num_sk {t : Rs} (h : t.e ≠ 0) : (numS L t).1 = t := by unfold numS; rw [if_neg (by simpa using h)]
theorem immk_no (hW : WF L) {s : Ps} {t : Rs} (hs : Sim s t) (h : beginsB rvO 5 (wordAt L s.p) = false) : Sim (refP L 22 s) (numS L t).1 := no_num hW hs h
theorem immk_yes (hW : WF L) {s : Ps} {t : Rs} (hs : Sim s t) : Sim (partP rvO L 5 s) (numS L t).1 := sim_set (sim_num hW hs).1 rfl rfl rfl
theorem memk_no (hW : WF L) {s : Ps} {t : Rs} (hs : Sim s t) (h : beginsB rvO 6 (wordAt L s.p) = false) : Sim (refP L 22 s) (memG regV L t i).1 := (no_memV hW hs h).1
theorem memk_yes {s : Ps} {t : Rs} (hs : Sim s t) (ho : s.ins.off = i.off) (hi : i.index = -1) : Sim (partP rvO L 6 s) (memG regV L t i).1 := (sim_memV (g := rvO) rfl hs ho hi).1
theorem mem_sk {t : Rs} (h : t.e ≠ 0) : (memG regV L t i).1 = t := by
  have e : markR L [91] t = t := mark_skip (by simpa using h)
  have := memr_noV (L := L) (t := t) (i := i) (by rw [e]; exact h)
  rw [e] at this; exact this
theorem sm_ins (h1 : p1 = 1) : (sM L p1 n).ins = { zIns with size := n, dst := (knownP L regsV (sAt n)).2 } ∧ (sM L p1 n).lab = [] := by
  subst h1
  have e := known_keeps (L := L) (ls := regsV) (s := sAt n)
  refine ⟨(mark_keeps (L := L)).1.trans ?_, (mark_keeps (L := L)).2.trans ?_⟩
  · show ({ (knownP L regsV (sAt n)).1.ins with dst := (knownP L regsV (sAt n)).2 } : Ins) = _
    rw [e.1]
  · exact e.2
theorem sm_insA (h1 : p1 = 2) : (sM L p1 n).ins = { zIns with size := n, a := (knownP L regsV (sAt n)).2 } ∧ (sM L p1 n).lab = [] := by
  subst h1
  have e := known_keeps (L := L) (ls := regsV) (s := sAt n)
  refine ⟨(mark_keeps (L := L)).1.trans ?_, (mark_keeps (L := L)).2.trans ?_⟩
  · show ({ (knownP L regsV (sAt n)).1.ins with a := (knownP L regsV (sAt n)).2 } : Ins) = _
    rw [e.1]
  · exact e.2
theorem sm_insF : (sM L 8 n).ins = { zIns with size := n, pred := (knownP L fensV (sAt n)).2 + 1 } ∧ (sM L 8 n).lab = [] := by
  have e := known_keeps (L := L) (ls := fensV) (s := sAt n)
  refine ⟨(mark_keeps (L := L)).1.trans ?_, (mark_keeps (L := L)).2.trans ?_⟩
  · show ({ (knownP L fensV (sAt n)).1.ins with pred := (knownP L fensV (sAt n)).2 + 1 } : Ins) = _
    rw [e.1]
  · exact e.2
end
end Go.Proofs.YtedlaclfhgneeaaGreatDoor.Old
namespace Go.Proofs.YtedlaclfhgneeaaGreatDoor.Old
open Go.RowKit
set_option linter.unusedVariables false
set_option linter.unusedSimpArgs false
set_option linter.unusedSectionVars false
def AlV (L : List Tk) (q : List UInt8) (n : Int) (rows : List Rw) : Prop := (riscvR L tA blank q).1.1 = true ∧ Alike (instL rvO L 1001 0 rows (sAt n)) (riscvR L tA blank q).2.1 (riscvR L tA blank q).2.2 (riscvR L tA blank q).1.2
section
variable {L : List Tk} {n k : Int} {nm : List UInt8} {i : Ins}
theorem bk {t t2 : Rs} (sk : t.e ≠ 0 → t2 = t) (h : t2.e = 0) : t.e = 0 := by
  by_cases he : t.e = 0
  · exact he
  · rw [sk he] at h; exact absurd h he
abbrev t1V (L : List Tk) : Rs := (regG regV L tA).1
abbrev m1V (L : List Tk) : Rs := markR L [44] (t1V L)
theorem v1_is (h : (m1V L).e = 0) : (knownP L regsV (sAt n)).2 = (regG regV L tA).2 := (sim_known (L := L) (ls := regsV) (sim0 n)).2 (mark_stop h)
theorem simM (h1 : k = 1 ∨ k = 2) : Sim (sM L k n) (m1V L) := sim_mark (reg1_yes h1)
theorem al_li (hW : WF L) : AlV L [108, 105] 0 [(⟨[108, 105], ⟨1, 0, 0, 0, 0, 0, 0, 0, 0, 0, false, false, false, 0, 0, 0, false⟩, nilV, [1, 5]⟩ : Rw)] := by
  have e : riscvR L tA blank [108, 105] = ((true, []), (numS L (m1V L)).1, Ins.mk 1 (regG regV L tA).2 (-1) (-1) (numS L (m1V L)).2 0 0 (-1) 0 0 false false false 0 0 0 false) := rfl
  unfold AlV
  rw [e]
  refine ⟨rfl, form2 (t1 := t1V L) rfl (reg1_no (.inl rfl)) (reg1_yes (.inl rfl)) (fun h => immk_no hW h) (fun h => immk_yes hW h) (fun h => num_sk h) (fun h => ?_)⟩
  have hm : (m1V L).e = 0 := bk (fun h => num_sk h) h
  have v2 := (sim_num hW (simM (L := L) (n := 0) (.inl rfl))).2 h
  have kp := num_keeps (L := L) (s := sM L 1 0)
  have si := sm_ins (L := L) (n := 0) (p1 := 1) rfl
  constructor
  · show withR _ ({ (numP L (sM L 1 0)).1.ins with imm := (numP L (sM L 1 0)).2 } : Ins) = _
    rw [kp.1, si.1, v1_is hm, v2]; rfl
  · show (numP L (sM L 1 0)).1.lab = []
    rw [kp.2]; exact si.2
theorem al_mv : AlV L [109, 118] 0 [(⟨[109, 118], ⟨2, 0, 0, 0, 0, 0, 0, 0, 0, 0, false, false, false, 0, 0, 0, false⟩, nilV, [1, 2]⟩ : Rw)] := by
  have e : riscvR L tA blank [109, 118] = ((true, []), (regG regV L (m1V L)).1, Ins.mk 2 (regG regV L tA).2 (regG regV L (m1V L)).2 (-1) 0 0 0 (-1) 0 0 false false false 0 0 0 false) := rfl
  unfold AlV
  rw [e]
  refine ⟨rfl, form2 (t1 := t1V L) rfl (reg1_no (.inl rfl)) (reg1_yes (.inl rfl)) (fun h => regk_no (.inr (.inl rfl)) h) (fun h => regk_yes (.inr (.inl rfl)) h) (fun h => kn_sk (ls := regsV) h) (fun h => ?_)⟩
  have hm : (m1V L).e = 0 := bk (fun h => kn_sk (ls := regsV) h) h
  have v2 := (sim_known (ls := regsV) (simM (L := L) (n := 0) (.inl rfl))).2 h
  have kp := known_keeps (L := L) (ls := regsV) (s := sM L 1 0)
  have si := sm_ins (L := L) (n := 0) (p1 := 1) rfl
  constructor
  · show withR _ ({ (knownP L regsV (sM L 1 0)).1.ins with a := (knownP L regsV (sM L 1 0)).2 } : Ins) = _
    rw [kp.1, si.1, v1_is hm, v2]; rfl
  · show (knownP L regsV (sM L 1 0)).1.lab = []
    rw [kp.2]; exact si.2
abbrev t2V (L : List Tk) : Rs := (regG regV L (m1V L)).1
abbrev m2V (L : List Tk) : Rs := markR L [44] (t2V L)
theorem sn_ins : (sN L 1 2 n).ins = { zIns with size := n, dst := (knownP L regsV (sAt n)).2, a := (knownP L regsV (sM L 1 n)).2 } ∧ (sN L 1 2 n).lab = [] := by
  have kp := known_keeps (L := L) (ls := regsV) (s := sM L 1 n)
  have si := sm_ins (L := L) (n := n) (p1 := 1) rfl
  refine ⟨(mark_keeps (L := L)).1.trans ?_, (mark_keeps (L := L)).2.trans ?_⟩
  · show ({ (knownP L regsV (sM L 1 n)).1.ins with a := (knownP L regsV (sM L 1 n)).2 } : Ins) = _
    rw [kp.1, si.1]
  · show (knownP L regsV (sM L 1 n)).1.lab = []
    rw [kp.2]; exact si.2
theorem simN : Sim (sN L 1 2 n) (m2V L) := sim_mark (regk_yes (.inr (.inl rfl)) (simM (.inl rfl)))
theorem v2_is (h : (m2V L).e = 0) : (knownP L regsV (sAt n)).2 = (regG regV L tA).2 ∧ (knownP L regsV (sM L 1 n)).2 = (regG regV L (m1V L)).2 := by
  have h2 : (t2V L).e = 0 := mark_stop h
  have h1 : (m1V L).e = 0 := bk (fun h => kn_sk (ls := regsV) h) h2
  exact ⟨v1_is h1, (sim_known (ls := regsV) (simM (L := L) (n := n) (.inl rfl))).2 h2⟩
theorem al_rrr {q : List UInt8} (e : riscvR L tA blank q = ((true, []), (regG regV L (m2V L)).1, Ins.mk 3 (regG regV L tA).2 (regG regV L (m1V L)).2 (regG regV L (m2V L)).2 0 0 0 (-1) 0 k false false false 0 0 0 false)) : AlV L q 0 [(⟨nm, ⟨3, 0, 0, 0, 0, 0, 0, 0, 0, k, false, false, false, 0, 0, 0, false⟩, nilV, [1, 2, 3]⟩ : Rw)] := by
  unfold AlV
  rw [e]
  refine ⟨rfl, form3 (t1 := t1V L) (t2 := t2V L) rfl (reg1_no (.inl rfl)) (reg1_yes (.inl rfl)) (fun h => regk_no (.inr (.inl rfl)) h) (fun h => regk_yes (.inr (.inl rfl)) h) (fun h => kn_sk (ls := regsV) h) (fun h => regk_no (.inr (.inr rfl)) h) (fun h => regk_yes (.inr (.inr rfl)) h) (fun h => kn_sk (ls := regsV) h) (fun h => ?_)⟩
  have hm : (m2V L).e = 0 := bk (fun h => kn_sk (ls := regsV) h) h
  have v3 := (sim_known (ls := regsV) (simN (L := L) (n := 0))).2 h
  have kp := known_keeps (L := L) (ls := regsV) (s := sN L 1 2 0)
  have si := sn_ins (L := L) (n := 0)
  constructor
  · show withR _ ({ (knownP L regsV (sN L 1 2 0)).1.ins with b := (knownP L regsV (sN L 1 2 0)).2 } : Ins) = _
    rw [kp.1, si.1, (v2_is hm).1, (v2_is hm).2, v3]; rfl
  · show (knownP L regsV (sN L 1 2 0)).1.lab = []
    rw [kp.2]; exact si.2
theorem al_rri (hW : WF L) {q : List UInt8} (e : riscvR L tA blank q = ((true, []), (numS L (m2V L)).1, Ins.mk 3 (regG regV L tA).2 (regG regV L (m1V L)).2 (-1) (numS L (m2V L)).2 0 0 (-1) 0 k false false false 0 0 0 false)) : AlV L q 0 [(⟨nm, ⟨3, 0, 0, 0, 0, 0, 0, 0, 0, k, false, false, false, 0, 0, 0, false⟩, nilV, [1, 2, 5]⟩ : Rw)] := by
  unfold AlV
  rw [e]
  refine ⟨rfl, form3 (t1 := t1V L) (t2 := t2V L) rfl (reg1_no (.inl rfl)) (reg1_yes (.inl rfl)) (fun h => regk_no (.inr (.inl rfl)) h) (fun h => regk_yes (.inr (.inl rfl)) h) (fun h => kn_sk (ls := regsV) h) (fun h => immk_no hW h) (fun h => immk_yes hW h) (fun h => num_sk h) (fun h => ?_)⟩
  have hm : (m2V L).e = 0 := bk (fun h => num_sk h) h
  have v3 := (sim_num hW (simN (L := L) (n := 0))).2 h
  have kp := num_keeps (L := L) (s := sN L 1 2 0)
  have si := sn_ins (L := L) (n := 0)
  constructor
  · show withR _ ({ (numP L (sN L 1 2 0)).1.ins with imm := (numP L (sN L 1 2 0)).2 } : Ins) = _
    rw [kp.1, si.1, (v2_is hm).1, (v2_is hm).2, v3]; rfl
  · show (numP L (sN L 1 2 0)).1.lab = []
    rw [kp.2]; exact si.2
end
end Go.Proofs.YtedlaclfhgneeaaGreatDoor.Old
namespace Go.Proofs.YtedlaclfhgneeaaGreatDoor.Old
open Go.RowKit
set_option linter.unusedVariables false
set_option linter.unusedSimpArgs false
set_option linter.unusedSectionVars false
section
variable {L : List Tk} {n k : Int} {nm : List UInt8} {i : Ins}
theorem al_ld (hW : WF L) {q : List UInt8} (e : riscvR L tA blank q = ((true, []), (memG regV L (m1V L) (Ins.mk 4 (regG regV L tA).2 (-1) (-1) 0 0 0 (-1) n 0 false false false 0 0 0 false)).1, (memG regV L (m1V L) (Ins.mk 4 (regG regV L tA).2 (-1) (-1) 0 0 0 (-1) n 0 false false false 0 0 0 false)).2)) : AlV L q n [(⟨nm, ⟨4, 0, 0, 0, 0, 0, 0, 0, 0, 0, false, false, false, 0, 0, 0, false⟩, nilV, [1, 6]⟩ : Rw)] := by
  have si := sm_ins (L := L) (n := n) (p1 := 1) rfl
  have ho : (sM L 1 n).ins.off = 0 := by rw [si.1]; rfl
  unfold AlV
  rw [e]
  refine ⟨rfl, form2 (t1 := t1V L) rfl (reg1_no (.inl rfl)) (reg1_yes (.inl rfl)) (fun h => memk_no hW h) (fun h => memk_yes h ho rfl) (fun h => mem_sk h) (fun h => ?_)⟩
  have hm : (m1V L).e = 0 := bk (fun h => mem_sk h) h
  have vals := (sim_memV (g := rvO) rfl (simM (L := L) (n := n) (.inl rfl)) (i := Ins.mk 4 (regG regV L tA).2 (-1) (-1) 0 0 0 (-1) n 0 false false false 0 0 0 false) ho rfl).2 h
  exact ⟨lk_end (withR _) id (lk_mem (L := L) (g := rvO)).1 lk_memrV vals (fun x y w => by rw [si.1, v1_is hm]; rfl), (lk_mem (L := L) (g := rvO)).2.trans si.2⟩
theorem al_sd (hW : WF L) {q : List UInt8} (e : riscvR L tA blank q = ((true, []), (memG regV L (m1V L) (Ins.mk 5 (-1) (regG regV L tA).2 (-1) 0 0 0 (-1) n 0 false false false 0 0 0 false)).1, (memG regV L (m1V L) (Ins.mk 5 (-1) (regG regV L tA).2 (-1) 0 0 0 (-1) n 0 false false false 0 0 0 false)).2)) : AlV L q n [(⟨nm, ⟨5, 0, 0, 0, 0, 0, 0, 0, 0, 0, false, false, false, 0, 0, 0, false⟩, nilV, [2, 6]⟩ : Rw)] := by
  have si := sm_insA (L := L) (n := n) (p1 := 2) rfl
  have ho : (sM L 2 n).ins.off = 0 := by rw [si.1]; rfl
  unfold AlV
  rw [e]
  refine ⟨rfl, form2 (t1 := t1V L) rfl (reg1_no (.inr rfl)) (reg1_yes (.inr rfl)) (fun h => memk_no hW h) (fun h => memk_yes h ho rfl) (fun h => mem_sk h) (fun h => ?_)⟩
  have hm : (m1V L).e = 0 := bk (fun h => mem_sk h) h
  have vals := (sim_memV (g := rvO) rfl (simM (L := L) (n := n) (.inr rfl)) (i := Ins.mk 5 (-1) (regG regV L tA).2 (-1) 0 0 0 (-1) n 0 false false false 0 0 0 false) ho rfl).2 h
  exact ⟨lk_end (withR _) id (lk_mem (L := L) (g := rvO)).1 lk_memrV vals (fun x y w => by rw [si.1, v1_is hm]; rfl), (lk_mem (L := L) (g := rvO)).2.trans si.2⟩
theorem al_amo (hW : WF L) {ac rl : Bool} {q : List UInt8} (e : riscvR L tA blank q = ((true, []), (memG regV L (m2V L) (Ins.mk 6 (regG regV L tA).2 (regG regV L (m1V L)).2 (-1) 0 0 0 (-1) n k ac false rl 0 0 0 false)).1, (memG regV L (m2V L) (Ins.mk 6 (regG regV L tA).2 (regG regV L (m1V L)).2 (-1) 0 0 0 (-1) n k ac false rl 0 0 0 false)).2)) : AlV L q n [(⟨nm, ⟨6, 0, 0, 0, 0, 0, 0, 0, 0, k, ac, false, rl, 0, 0, 0, false⟩, nilV, [1, 2, 6]⟩ : Rw)] := by
  have si := sn_ins (L := L) (n := n)
  have ho : (sN L 1 2 n).ins.off = 0 := by rw [si.1]; rfl
  unfold AlV
  rw [e]
  refine ⟨rfl, form3 (t1 := t1V L) (t2 := t2V L) rfl (reg1_no (.inl rfl)) (reg1_yes (.inl rfl)) (fun h => regk_no (.inr (.inl rfl)) h) (fun h => regk_yes (.inr (.inl rfl)) h) (fun h => kn_sk (ls := regsV) h) (fun h => memk_no hW h) (fun h => memk_yes h ho rfl) (fun h => mem_sk h) (fun h => ?_)⟩
  have hm : (m2V L).e = 0 := bk (fun h => mem_sk h) h
  have vals := (sim_memV (g := rvO) rfl (simN (L := L) (n := n)) (i := Ins.mk 6 (regG regV L tA).2 (regG regV L (m1V L)).2 (-1) 0 0 0 (-1) n k ac false rl 0 0 0 false) ho rfl).2 h
  exact ⟨lk_end (withR _) id (lk_mem (L := L) (g := rvO)).1 lk_memrV vals (fun x y w => by rw [si.1, (v2_is hm).1, (v2_is hm).2]; rfl), (lk_mem (L := L) (g := rvO)).2.trans si.2⟩
theorem bits_kn (t : Rs) : bitsV L t = ((knR L fensV t).1, (knR L fensV t).2 + 1) := by
  unfold bitsV knR fensV
  by_cases h : (t.e == 0) = true
  · rw [if_pos h, if_pos h]
    cases L[t.p]? with
    | none => rfl
    | some y => simp only; split <;> rfl
  · rw [if_neg h, if_neg h]; rfl
theorem al_fen : AlV L [102, 101, 110, 99, 101] 0 [(⟨[102, 101, 110, 99, 101], ⟨7, 0, 0, 0, 0, 0, 0, 0, 0, 0, false, false, false, 0, 0, 0, false⟩, nilV, [8, 9]⟩ : Rw)] := by
  have e : riscvR L tA blank [102, 101, 110, 99, 101] = ((true, []), (bitsV L (markR L [44] (bitsV L tA).1)).1, Ins.mk 7 (-1) (-1) (-1) 0 0 0 (-1) 0 0 false false false (bitsV L tA).2 (bitsV L (markR L [44] (bitsV L tA).1)).2 0 false) := rfl
  rw [bits_kn tA, bits_kn (markR L [44] (knR L fensV tA).1)] at e
  unfold AlV
  rw [e]
  have hM : Sim (sM L 8 0) (markR L [44] (knR L fensV tA).1) := sim_mark fen1_yes
  refine ⟨rfl, form2 (t1 := (knR L fensV tA).1) rfl fen1_no fen1_yes (fun h hb => no_known h hb) (fun h => sim_set (sim_known (ls := fensV) h).1 rfl rfl rfl) (fun h => kn_sk (ls := fensV) h) (fun h => ?_)⟩
  have hm : (markR L [44] (knR L fensV tA).1).e = 0 := bk (fun h => kn_sk (ls := fensV) h) h
  have v1 := (sim_known (L := L) (ls := fensV) (sim0 0)).2 (mark_stop hm)
  have v2 := (sim_known (ls := fensV) hM).2 h
  have kp := known_keeps (L := L) (ls := fensV) (s := sM L 8 0)
  have si := sm_insF (L := L) (n := 0)
  constructor
  · show withR _ ({ (knownP L fensV (sM L 8 0)).1.ins with succ := (knownP L fensV (sM L 8 0)).2 + 1 } : Ins) = _
    rw [kp.1, si.1, v1, v2]; rfl
  · show (knownP L fensV (sM L 8 0)).1.lab = []
    rw [kp.2]; exact si.2
theorem al_br {q : List UInt8} {z : Bool} (e : riscvR L tA blank q = ((true, (labR L (m1V L)).2), (labR L (m1V L)).1, Ins.mk 9 (-1) (regG regV L tA).2 (-1) 0 0 0 (-1) 0 0 false false false 0 0 0 z)) : AlV L q 0 [(⟨nm, ⟨9, 0, 0, 0, 0, 0, 0, 0, 0, 0, false, false, false, 0, 0, 0, z⟩, nilV, [2, 7]⟩ : Rw)] := by
  unfold AlV
  rw [e]
  refine ⟨rfl, ?_⟩
  have si := sm_insA (L := L) (n := 0) (p1 := 2) rfl
  have hM : Sim (sM L 2 0) (m1V L) := simM (.inr rfl)
  refine one_step (k := 0) (f := 1000) (t' := t1V L) (p := 2) rfl (fun h => reg1_no (.inr rfl) h) (fun h => ?_) ?_
  · have e : m1V L = t1V L := mark_skip (by simpa using h)
    show (labR L (m1V L)).1 = _
    rw [e, lab_skip (by simpa using h)]
  · rw [comma0]
    by_cases ht : (m1V L).e = 0
    · obtain ⟨hs0, hsp⟩ := sim_p hM ht
      rw [one_go (k := 1) (f := 999) (p := 7) rfl, comma1]
      cases hb : beginsB rvO 7 (wordAt L (sM L 2 0).p)
      · rw [if_neg (by decide)]
        have hb' : ((wordAt L (sM L 2 0).p).kind == 1) = false := hb
        have e : labR L (m1V L) = (oddR L false (m1V L), []) := by
          rw [hsp] at hb'
          cases hy : L[(m1V L).p]? with
          | none => exact lab_none (by simpa using ht) (by simpa using hy)
          | some y => rw [word_some hy] at hb'; exact lab_kind (by simpa using ht) hy hb'
        rw [e]
        have h1 : Sim (refP L 22 (sM L 2 0)) (oddR L false (m1V L)) := sim_odd hs0 ht hsp (by
          rcases Nat.lt_or_ge (sM L 2 0).p L.length with hlt | hge
          · right; refine ⟨hlt, ?_⟩
            unfold oc; simp [hlt]
          · exact .inl hge)
        exact ⟨h1, fun e => absurd e ((sim_ne h1).1 ref_ne)⟩
      · rw [if_pos rfl, one_end (k := 1 + 1) (f := 998) (by rfl)]
        show Alike (labP L (sM L 2 0), _) _ _ _
        have hb' : ((wordAt L (sM L 2 0).p).kind == 1) = true := hb
        cases hy : L[(sM L 2 0).p]? with
        | none => rw [word_none (by simpa using hy)] at hb'; exact absurd hb' (by decide)
        | some y =>
          rw [word_some hy] at hb'
          have e : labR L (m1V L) = (⟨(m1V L).e, (m1V L).a, (m1V L).p + 1⟩, y.text) := lab_yes (by simpa using ht) (by rw [← hsp]; exact hy) hb'
          have e2 : labP L (sM L 2 0) = setLab (atP (sM L 2 0) ((sM L 2 0).p + 1)) y.text := by unfold labP; rw [hy]; simp only [hb', if_true]
          rw [e, e2]
          refine ⟨.inl ⟨hs0, ht, by show (sM L 2 0).p + 1 = (m1V L).p + 1; rw [hsp]⟩, fun e' => ⟨?_, rfl⟩⟩
          show withR _ (sM L 2 0).ins = _
          rw [si.1, v1_is ht]; rfl
    · have hs : (sM L 2 0).e ≠ 0 := (sim_ne hM).2 ht
      rw [lab_skip (by simpa using ht)]
      rw [one_go (k := 1) (f := 999) (p := 7) rfl, comma1]
      cases hb : beginsB rvO 7 (wordAt L (sM L 2 0).p)
      · rw [if_neg (by decide), ref_bad hs]; exact ⟨hM, fun e => absurd e ht⟩
      · rw [if_pos rfl, one_end (k := 1 + 1) (f := 998) (by rfl)]
        exact ⟨(part_bad hs).sim hs hM, fun e => absurd e ht⟩
end
end Go.Proofs.YtedlaclfhgneeaaGreatDoor.Old
namespace Go.Proofs.YtedlaclfhgneeaaGreatDoor.Old
open Go.RowKit
set_option linter.unusedVariables false
set_option linter.unusedSimpArgs false
set_option linter.unusedSectionVars false
set_option maxRecDepth 100000
section
variable {L : List Tk}
theorem par_nameV {y : Tk} (hy : L[0]? = some y) (h : (y.kind == 1) = true) : parV L = finR L (riscvR L tA blank y.text) := by unfold parV; rw [hy]; simp [h]
theorem par_alV {q : List UInt8} {n : Int} {r : Rw} {l : List Rw} {y : Tk} (hy : L[0]? = some y) (hk : (y.kind == 1) = true) (hq : y.text = q) (hf : rvO.rows.foldl (nStep rvO q) (zPs, []) = (⟨{ zIns with size := n }, [], 0, 0, 0⟩, r :: l)) (hX : AlV L q n (r :: l)) : parP rvO L = parV L := by
  have hn : namedP rvO L zPs = (sAt n, r :: l) := by
    unfold namedP
    rw [show L[zPs.p]? = some y from hy]
    simp only [hk, if_true, hq, hf]
    unfold noRow
    rw [if_neg (by simp; omega)]; rfl
  have hi : instP rvO L zPs = instL rvO L 1001 0 (r :: l) (sAt n) := by unfold instP; rw [hn]
  obtain ⟨hx1, hS, hE⟩ := hX
  rw [par_nameV hy hk, hq, fin_yes hx1]
  unfold parP
  rw [hi]
  generalize instL rvO L 1001 0 (r :: l) (sAt n) = P at *
  generalize riscvR L tA blank q = X at *
  obtain ⟨hM, hM0, hlab⟩ := sim_more (L := L) hS
  by_cases he : (moreR L X.2.1).e = 0
  · obtain ⟨h0, _⟩ := sim_p hM he
    obtain ⟨hw, hl⟩ := hE (hM0 he)
    rw [if_pos (by simpa using h0), hw, hlab, hl]
    have ha := wrong_asb X.2.2
    cases hb : wrongB X.2.2
    · rw [hb] at ha
      rw [if_neg (by decide), last_ok (by simpa using he) rfl ha, out_ok (by simpa using he)]
    · rw [hb] at ha
      have ef : failR (moreR L X.2.1) 34 (whereR L 0) = ⟨34, whereR L 0, (moreR L X.2.1).p⟩ := by unfold failR; rw [if_pos (by simpa using he)]
      rw [if_pos rfl, last_bad (by simpa using he) rfl ha, ef, out_no rfl]; rfl
  · have h0 : (moreP L P.1).e ≠ 0 := (sim_ne hM).2 he
    rw [if_neg (by simpa using h0), last_e (by simpa using he), out_no (by simpa using he)]
    rcases hM with ⟨h, _⟩ | ⟨_, h2, h3⟩
    · exact absurd h h0
    · rw [h2, h3]; rfl
theorem par_errV {s : Ps} (h : namedP rvO L zPs = (s, [])) (he : s.e ≠ 0) : parP rvO L = (zIns, [], s.e, s.a) := by
  have hi : instP rvO L zPs = (s, []) := by unfold instP; rw [h, inst_nil]
  have hm : moreP L s = s := by unfold moreP; split; exact ref_bad he; rfl
  unfold parP
  rw [hi, hm, if_neg (by simpa using he)]
theorem fold_noneV {q : List UInt8} : ∀ (l : List Rw), (∀ r ∈ l, (sizeP rvO r q).2 = false) → l.foldl (nStep rvO q) (zPs, []) = (zPs, [])
  | [], _ => rfl
  | r :: l, h => by
    rw [List.foldl_cons]
    have : nStep rvO q (zPs, []) r = (zPs, []) := by unfold nStep; rw [if_neg (by rw [h r (List.mem_cons_self ..)]; decide)]
    rw [this]; exact fold_noneV l fun r hr => h r (List.mem_cons_of_mem _ hr)
theorem sz_noV {q h : List UInt8} (hn : ∀ y ∈ tailsV, q ≠ h ++ y) : szV q h = 0 := by
  unfold szV
  split
  · next hp =>
    unfold preB at hp
    rw [Bool.and_eq_true] at hp
    have ht := eq_of_beq hp.2
    rw [idx_no]
    · rfl
    · intro y hy e
      refine hn y hy ?_
      rw [← e]
      conv => lhs; rw [← List.take_append_drop h.length q]
      rw [ht]
  · rfl
def namesV : List (List UInt8) := [[108, 105], [109, 118], [97, 100, 100], [97, 100, 100, 105], [115, 117, 98], [115, 117, 98, 105], [120, 111, 114], [120, 111, 114, 105], [97, 110, 100], [97, 110, 100, 105], [111, 114], [111, 114, 105], [108, 98], [115, 98], [108, 104], [115, 104], [108, 119], [115, 119], [108, 100], [115, 100], [97, 109, 111, 115, 119, 97, 112, 46, 98], [97, 109, 111, 115, 119, 97, 112, 46, 98, 46, 97, 113], [97, 109, 111, 115, 119, 97, 112, 46, 98, 46, 114, 108], [97, 109, 111, 115, 119, 97, 112, 46, 98, 46, 97, 113, 46, 114, 108], [97, 109, 111, 115, 119, 97, 112, 46, 104], [97, 109, 111, 115, 119, 97, 112, 46, 104, 46, 97, 113], [97, 109, 111, 115, 119, 97, 112, 46, 104, 46, 114, 108], [97, 109, 111, 115, 119, 97, 112, 46, 104, 46, 97, 113, 46, 114, 108], [97, 109, 111, 115, 119, 97, 112, 46, 119], [97, 109, 111, 115, 119, 97, 112, 46, 119, 46, 97, 113], [97, 109, 111, 115, 119, 97, 112, 46, 119, 46, 114, 108], [97, 109, 111, 115, 119, 97, 112, 46, 119, 46, 97, 113, 46, 114, 108], [97, 109, 111, 115, 119, 97, 112, 46, 100], [97, 109, 111, 115, 119, 97, 112, 46, 100, 46, 97, 113], [97, 109, 111, 115, 119, 97, 112, 46, 100, 46, 114, 108], [97, 109, 111, 115, 119, 97, 112, 46, 100, 46, 97, 113, 46, 114, 108], [97, 109, 111, 97, 100, 100, 46, 98], [97, 109, 111, 97, 100, 100, 46, 98, 46, 97, 113], [97, 109, 111, 97, 100, 100, 46, 98, 46, 114, 108], [97, 109, 111, 97, 100, 100, 46, 98, 46, 97, 113, 46, 114, 108], [97, 109, 111, 97, 100, 100, 46, 104], [97, 109, 111, 97, 100, 100, 46, 104, 46, 97, 113], [97, 109, 111, 97, 100, 100, 46, 104, 46, 114, 108], [97, 109, 111, 97, 100, 100, 46, 104, 46, 97, 113, 46, 114, 108], [97, 109, 111, 97, 100, 100, 46, 119], [97, 109, 111, 97, 100, 100, 46, 119, 46, 97, 113], [97, 109, 111, 97, 100, 100, 46, 119, 46, 114, 108], [97, 109, 111, 97, 100, 100, 46, 119, 46, 97, 113, 46, 114, 108], [97, 109, 111, 97, 100, 100, 46, 100], [97, 109, 111, 97, 100, 100, 46, 100, 46, 97, 113], [97, 109, 111, 97, 100, 100, 46, 100, 46, 114, 108], [97, 109, 111, 97, 100, 100, 46, 100, 46, 97, 113, 46, 114, 108], [102, 101, 110, 99, 101], [98, 101, 113, 122], [98, 110, 101, 122]]
theorem riscv_no {q : List UInt8} (hN : ∀ z ∈ namesV, q ≠ z) : riscvR L tA blank q = ((false, []), tA, blank) := by
  have e : ∀ z, z ∈ namesV → (q == z) = false := fun z hz => beq_eq_false_iff_ne.2 (hN z hz)
  have hs : ∀ h : List UInt8, (∀ y ∈ tailsV, h ++ y ∈ namesV) → ¬ szV q h > 0 := fun h hh => by
    rw [sz_noV fun y hy => hN _ (hh y hy)]; decide
  have hi : ∀ ls : List (List UInt8), (∀ y ∈ ls, y ∈ namesV) → idxS ls q = -1 := fun ls h => by rw [idxS_L]; exact idx_no ls 0 fun y hy => hN y (h y hy)
  have ha : ¬ (aluV q).1 > 0 := by unfold aluV; rw [hi alusV (by decide), hi alusW (by decide)]; decide
  have hm : ¬ (amoV q).1 > 0 := by unfold amoV; rw [hi amoN (by decide +kernel)]; decide
  unfold riscvR
  rw [if_neg (by rw [e _ (by decide : [108, 105] ∈ namesV), e _ (by decide : [109, 118] ∈ namesV)]; decide), if_neg ha, if_neg (hs _ (by decide)), if_neg (hs _ (by decide)), if_neg hm, if_neg (hN _ (by decide)), if_neg (by rw [e _ (by decide : [98, 101, 113, 122] ∈ namesV), e _ (by decide : [98, 110, 101, 122] ∈ namesV)]; decide)]
theorem rows_names : ∀ m ∈ rvO.rows.map (·.name), (if (Lib.cut m [42]).2.2 = true then (rvO.lets.map fun y => (Lib.cut m [42]).1 ++ y ++ (Lib.cut m [42]).2.1).all fun z => decide (z ∈ namesV) else decide (m ∈ namesV)) = true := by decide +kernel
theorem par_noV {q : List UInt8} {y : Tk} (hy : L[0]? = some y) (hk : (y.kind == 1) = true) (hq : y.text = q) (hN : ∀ z ∈ namesV, q ≠ z) : parP rvO L = parV L := by
  have e : ∀ z, z ∈ namesV → eqL q z = false := fun z hz => eqL_no (hN z hz)
  have hx := riscv_no (L := L) hN
  have hr : ∀ r ∈ rvO.rows, (sizeP rvO r q).2 = false := fun r hr => by
    have h := rows_names r.name (List.mem_map_of_mem hr)
    unfold sizeP
    split
    · next hc =>
      rw [if_pos hc] at h
      rw [if_pos ?_]
      have : idxL (sizedN rvO r) q 0 = -1 := idx_no _ 0 fun y hy => hN y (of_decide_eq_true (List.all_eq_true.1 h y hy))
      rw [this]; rfl
    · next hc =>
      rw [if_neg hc] at h
      exact e _ (of_decide_eq_true h)
  have hn : namedP rvO L zPs = (nextP (refP L 21 zPs), []) := by
    unfold namedP
    rw [show L[zPs.p]? = some y from hy]
    simp only [hk, if_true, hq, fold_noneV _ hr]
    unfold noRow; rfl
  have hlt : 0 < L.length := (List.getElem?_eq_some_iff.1 hy).1
  have hg : refP L 21 zPs = setAt (setE zPs 21) (whereR L 0) := by
    rw [ref_good rfl, if_pos (decide_eq_true (show zPs.p < L.length from hlt))]; rfl
  rw [par_errV hn (by rw [hg]; exact (by decide : (21 : Int) ≠ 0)), par_nameV hy hk, hq, fin_no (by rw [hx]), hg]; rfl
theorem par_badV (h : ∀ y, L[0]? = some y → (y.kind == 1) = false) : parP rvO L = parV L := by
  have hn : namedP rvO L zPs = (refP L 22 zPs, []) := by
    unfold namedP
    cases hy : L[zPs.p]? with
    | none => rfl
    | some y => simp only [h y hy, Bool.false_eq_true, if_false]
  have hb : parV L = badR L := by
    unfold parV
    cases hy : L[0]? with
    | none => rfl
    | some y => simp only [h y hy, Bool.false_eq_true, if_false]
  rw [par_errV hn ref_ne, hb]
  unfold badR oddR
  cases hy : L[0]? with
  | none =>
    have hl : L.length ≤ 0 := by simpa using hy
    rw [ref_good rfl, if_neg (by rw [decide_eq_false (show ¬ zPs.p < L.length from Nat.not_lt.2 hl)]; decide)]; rfl
  | some y =>
    have hlt : 0 < L.length := (List.getElem?_eq_some_iff.1 hy).1
    rw [ref_good rfl, if_pos (decide_eq_true (show zPs.p < L.length from hlt))]
    simp only [h y hy, Bool.and_false, Bool.false_eq_true, if_false]
    show (zIns, ([] : List UInt8), (22 : Int), whereR L 0) = (ins0, [], 22, y.at_)
    rw [where_some hy]; rfl
theorem pa_eqV (hW : WF L) : parP rvO L = parV L := by
  cases hy : L[0]? with
  | none => exact par_badV fun y h => by rw [hy] at h; cases h
  | some y =>
    cases hk : (y.kind == 1)
    · exact par_badV fun z h => by rw [hy] at h; cases h; exact hk
    · by_cases hN : ∀ z ∈ namesV, y.text ≠ z
      · exact par_noV hy hk rfl hN
      · obtain ⟨z, hz, hq⟩ : ∃ z, z ∈ namesV ∧ y.text = z := by
          rcases Classical.em (∃ z, z ∈ namesV ∧ y.text = z) with h | h
          · exact h
          · exact absurd (fun z hz e => h ⟨z, hz, e⟩) hN
        simp only [namesV, List.mem_cons, List.not_mem_nil, or_false] at hz
        rcases hz with rfl | rfl | rfl | rfl | rfl | rfl | rfl | rfl | rfl | rfl | rfl | rfl | rfl | rfl | rfl | rfl | rfl | rfl | rfl | rfl | rfl | rfl | rfl | rfl | rfl | rfl | rfl | rfl | rfl | rfl | rfl | rfl | rfl | rfl | rfl | rfl | rfl | rfl | rfl | rfl | rfl | rfl | rfl | rfl | rfl | rfl | rfl | rfl | rfl | rfl | rfl | rfl | rfl | rfl | rfl
        · exact par_alV (n := 0) (r := (⟨[108, 105], ⟨1, 0, 0, 0, 0, 0, 0, 0, 0, 0, false, false, false, 0, 0, 0, false⟩, nilV, [1, 5]⟩ : Rw)) (l := []) hy hk hq (by kernel_rfl) (al_li hW)
        · exact par_alV (n := 0) (r := (⟨[109, 118], ⟨2, 0, 0, 0, 0, 0, 0, 0, 0, 0, false, false, false, 0, 0, 0, false⟩, nilV, [1, 2]⟩ : Rw)) (l := []) hy hk hq (by kernel_rfl) (al_mv)
        · exact par_alV (n := 0) (r := (⟨[97, 100, 100], ⟨3, 0, 0, 0, 0, 0, 0, 0, 0, 1, false, false, false, 0, 0, 0, false⟩, nilV, [1, 2, 3]⟩ : Rw)) (l := []) hy hk hq (by kernel_rfl) (al_rrr (by kernel_rfl))
        · exact par_alV (n := 0) (r := (⟨[97, 100, 100, 105], ⟨3, 0, 0, 0, 0, 0, 0, 0, 0, 1, false, false, false, 0, 0, 0, false⟩, nilV, [1, 2, 5]⟩ : Rw)) (l := []) hy hk hq (by kernel_rfl) (al_rri hW (by kernel_rfl))
        · exact par_alV (n := 0) (r := (⟨[115, 117, 98], ⟨3, 0, 0, 0, 0, 0, 0, 0, 0, 2, false, false, false, 0, 0, 0, false⟩, nilV, [1, 2, 3]⟩ : Rw)) (l := []) hy hk hq (by kernel_rfl) (al_rrr (by kernel_rfl))
        · exact par_alV (n := 0) (r := (⟨[115, 117, 98, 105], ⟨3, 0, 0, 0, 0, 0, 0, 0, 0, 2, false, false, false, 0, 0, 0, false⟩, nilV, [1, 2, 5]⟩ : Rw)) (l := []) hy hk hq (by kernel_rfl) (al_rri hW (by kernel_rfl))
        · exact par_alV (n := 0) (r := (⟨[120, 111, 114], ⟨3, 0, 0, 0, 0, 0, 0, 0, 0, 3, false, false, false, 0, 0, 0, false⟩, nilV, [1, 2, 3]⟩ : Rw)) (l := []) hy hk hq (by kernel_rfl) (al_rrr (by kernel_rfl))
        · exact par_alV (n := 0) (r := (⟨[120, 111, 114, 105], ⟨3, 0, 0, 0, 0, 0, 0, 0, 0, 3, false, false, false, 0, 0, 0, false⟩, nilV, [1, 2, 5]⟩ : Rw)) (l := []) hy hk hq (by kernel_rfl) (al_rri hW (by kernel_rfl))
        · exact par_alV (n := 0) (r := (⟨[97, 110, 100], ⟨3, 0, 0, 0, 0, 0, 0, 0, 0, 4, false, false, false, 0, 0, 0, false⟩, nilV, [1, 2, 3]⟩ : Rw)) (l := []) hy hk hq (by kernel_rfl) (al_rrr (by kernel_rfl))
        · exact par_alV (n := 0) (r := (⟨[97, 110, 100, 105], ⟨3, 0, 0, 0, 0, 0, 0, 0, 0, 4, false, false, false, 0, 0, 0, false⟩, nilV, [1, 2, 5]⟩ : Rw)) (l := []) hy hk hq (by kernel_rfl) (al_rri hW (by kernel_rfl))
        · exact par_alV (n := 0) (r := (⟨[111, 114], ⟨3, 0, 0, 0, 0, 0, 0, 0, 0, 5, false, false, false, 0, 0, 0, false⟩, nilV, [1, 2, 3]⟩ : Rw)) (l := []) hy hk hq (by kernel_rfl) (al_rrr (by kernel_rfl))
        · exact par_alV (n := 0) (r := (⟨[111, 114, 105], ⟨3, 0, 0, 0, 0, 0, 0, 0, 0, 5, false, false, false, 0, 0, 0, false⟩, nilV, [1, 2, 5]⟩ : Rw)) (l := []) hy hk hq (by kernel_rfl) (al_rri hW (by kernel_rfl))
        · exact par_alV (n := 1) (r := (⟨[108, 42], ⟨4, 0, 0, 0, 0, 0, 0, 0, 0, 0, false, false, false, 0, 0, 0, false⟩, nilV, [1, 6]⟩ : Rw)) (l := []) hy hk hq (by kernel_rfl) (al_ld hW (by kernel_rfl))
        · exact par_alV (n := 1) (r := (⟨[115, 42], ⟨5, 0, 0, 0, 0, 0, 0, 0, 0, 0, false, false, false, 0, 0, 0, false⟩, nilV, [2, 6]⟩ : Rw)) (l := []) hy hk hq (by kernel_rfl) (al_sd hW (by kernel_rfl))
        · exact par_alV (n := 2) (r := (⟨[108, 42], ⟨4, 0, 0, 0, 0, 0, 0, 0, 0, 0, false, false, false, 0, 0, 0, false⟩, nilV, [1, 6]⟩ : Rw)) (l := []) hy hk hq (by kernel_rfl) (al_ld hW (by kernel_rfl))
        · exact par_alV (n := 2) (r := (⟨[115, 42], ⟨5, 0, 0, 0, 0, 0, 0, 0, 0, 0, false, false, false, 0, 0, 0, false⟩, nilV, [2, 6]⟩ : Rw)) (l := []) hy hk hq (by kernel_rfl) (al_sd hW (by kernel_rfl))
        · exact par_alV (n := 4) (r := (⟨[108, 42], ⟨4, 0, 0, 0, 0, 0, 0, 0, 0, 0, false, false, false, 0, 0, 0, false⟩, nilV, [1, 6]⟩ : Rw)) (l := []) hy hk hq (by kernel_rfl) (al_ld hW (by kernel_rfl))
        · exact par_alV (n := 4) (r := (⟨[115, 42], ⟨5, 0, 0, 0, 0, 0, 0, 0, 0, 0, false, false, false, 0, 0, 0, false⟩, nilV, [2, 6]⟩ : Rw)) (l := []) hy hk hq (by kernel_rfl) (al_sd hW (by kernel_rfl))
        · exact par_alV (n := 8) (r := (⟨[108, 42], ⟨4, 0, 0, 0, 0, 0, 0, 0, 0, 0, false, false, false, 0, 0, 0, false⟩, nilV, [1, 6]⟩ : Rw)) (l := []) hy hk hq (by kernel_rfl) (al_ld hW (by kernel_rfl))
        · exact par_alV (n := 8) (r := (⟨[115, 42], ⟨5, 0, 0, 0, 0, 0, 0, 0, 0, 0, false, false, false, 0, 0, 0, false⟩, nilV, [2, 6]⟩ : Rw)) (l := []) hy hk hq (by kernel_rfl) (al_sd hW (by kernel_rfl))
        · exact par_alV (n := 1) (r := (⟨[97, 109, 111, 115, 119, 97, 112, 46, 42], ⟨6, 0, 0, 0, 0, 0, 0, 0, 0, 6, false, false, false, 0, 0, 0, false⟩, nilV, [1, 2, 6]⟩ : Rw)) (l := []) hy hk hq (by kernel_rfl) (al_amo hW (by kernel_rfl))
        · exact par_alV (n := 1) (r := (⟨[97, 109, 111, 115, 119, 97, 112, 46, 42, 46, 97, 113], ⟨6, 0, 0, 0, 0, 0, 0, 0, 0, 6, true, false, false, 0, 0, 0, false⟩, nilV, [1, 2, 6]⟩ : Rw)) (l := []) hy hk hq (by kernel_rfl) (al_amo hW (by kernel_rfl))
        · exact par_alV (n := 1) (r := (⟨[97, 109, 111, 115, 119, 97, 112, 46, 42, 46, 114, 108], ⟨6, 0, 0, 0, 0, 0, 0, 0, 0, 6, false, false, true, 0, 0, 0, false⟩, nilV, [1, 2, 6]⟩ : Rw)) (l := []) hy hk hq (by kernel_rfl) (al_amo hW (by kernel_rfl))
        · exact par_alV (n := 1) (r := (⟨[97, 109, 111, 115, 119, 97, 112, 46, 42, 46, 97, 113, 46, 114, 108], ⟨6, 0, 0, 0, 0, 0, 0, 0, 0, 6, true, false, true, 0, 0, 0, false⟩, nilV, [1, 2, 6]⟩ : Rw)) (l := []) hy hk hq (by kernel_rfl) (al_amo hW (by kernel_rfl))
        · exact par_alV (n := 2) (r := (⟨[97, 109, 111, 115, 119, 97, 112, 46, 42], ⟨6, 0, 0, 0, 0, 0, 0, 0, 0, 6, false, false, false, 0, 0, 0, false⟩, nilV, [1, 2, 6]⟩ : Rw)) (l := []) hy hk hq (by kernel_rfl) (al_amo hW (by kernel_rfl))
        · exact par_alV (n := 2) (r := (⟨[97, 109, 111, 115, 119, 97, 112, 46, 42, 46, 97, 113], ⟨6, 0, 0, 0, 0, 0, 0, 0, 0, 6, true, false, false, 0, 0, 0, false⟩, nilV, [1, 2, 6]⟩ : Rw)) (l := []) hy hk hq (by kernel_rfl) (al_amo hW (by kernel_rfl))
        · exact par_alV (n := 2) (r := (⟨[97, 109, 111, 115, 119, 97, 112, 46, 42, 46, 114, 108], ⟨6, 0, 0, 0, 0, 0, 0, 0, 0, 6, false, false, true, 0, 0, 0, false⟩, nilV, [1, 2, 6]⟩ : Rw)) (l := []) hy hk hq (by kernel_rfl) (al_amo hW (by kernel_rfl))
        · exact par_alV (n := 2) (r := (⟨[97, 109, 111, 115, 119, 97, 112, 46, 42, 46, 97, 113, 46, 114, 108], ⟨6, 0, 0, 0, 0, 0, 0, 0, 0, 6, true, false, true, 0, 0, 0, false⟩, nilV, [1, 2, 6]⟩ : Rw)) (l := []) hy hk hq (by kernel_rfl) (al_amo hW (by kernel_rfl))
        · exact par_alV (n := 4) (r := (⟨[97, 109, 111, 115, 119, 97, 112, 46, 42], ⟨6, 0, 0, 0, 0, 0, 0, 0, 0, 6, false, false, false, 0, 0, 0, false⟩, nilV, [1, 2, 6]⟩ : Rw)) (l := []) hy hk hq (by kernel_rfl) (al_amo hW (by kernel_rfl))
        · exact par_alV (n := 4) (r := (⟨[97, 109, 111, 115, 119, 97, 112, 46, 42, 46, 97, 113], ⟨6, 0, 0, 0, 0, 0, 0, 0, 0, 6, true, false, false, 0, 0, 0, false⟩, nilV, [1, 2, 6]⟩ : Rw)) (l := []) hy hk hq (by kernel_rfl) (al_amo hW (by kernel_rfl))
        · exact par_alV (n := 4) (r := (⟨[97, 109, 111, 115, 119, 97, 112, 46, 42, 46, 114, 108], ⟨6, 0, 0, 0, 0, 0, 0, 0, 0, 6, false, false, true, 0, 0, 0, false⟩, nilV, [1, 2, 6]⟩ : Rw)) (l := []) hy hk hq (by kernel_rfl) (al_amo hW (by kernel_rfl))
        · exact par_alV (n := 4) (r := (⟨[97, 109, 111, 115, 119, 97, 112, 46, 42, 46, 97, 113, 46, 114, 108], ⟨6, 0, 0, 0, 0, 0, 0, 0, 0, 6, true, false, true, 0, 0, 0, false⟩, nilV, [1, 2, 6]⟩ : Rw)) (l := []) hy hk hq (by kernel_rfl) (al_amo hW (by kernel_rfl))
        · exact par_alV (n := 8) (r := (⟨[97, 109, 111, 115, 119, 97, 112, 46, 42], ⟨6, 0, 0, 0, 0, 0, 0, 0, 0, 6, false, false, false, 0, 0, 0, false⟩, nilV, [1, 2, 6]⟩ : Rw)) (l := []) hy hk hq (by kernel_rfl) (al_amo hW (by kernel_rfl))
        · exact par_alV (n := 8) (r := (⟨[97, 109, 111, 115, 119, 97, 112, 46, 42, 46, 97, 113], ⟨6, 0, 0, 0, 0, 0, 0, 0, 0, 6, true, false, false, 0, 0, 0, false⟩, nilV, [1, 2, 6]⟩ : Rw)) (l := []) hy hk hq (by kernel_rfl) (al_amo hW (by kernel_rfl))
        · exact par_alV (n := 8) (r := (⟨[97, 109, 111, 115, 119, 97, 112, 46, 42, 46, 114, 108], ⟨6, 0, 0, 0, 0, 0, 0, 0, 0, 6, false, false, true, 0, 0, 0, false⟩, nilV, [1, 2, 6]⟩ : Rw)) (l := []) hy hk hq (by kernel_rfl) (al_amo hW (by kernel_rfl))
        · exact par_alV (n := 8) (r := (⟨[97, 109, 111, 115, 119, 97, 112, 46, 42, 46, 97, 113, 46, 114, 108], ⟨6, 0, 0, 0, 0, 0, 0, 0, 0, 6, true, false, true, 0, 0, 0, false⟩, nilV, [1, 2, 6]⟩ : Rw)) (l := []) hy hk hq (by kernel_rfl) (al_amo hW (by kernel_rfl))
        · exact par_alV (n := 1) (r := (⟨[97, 109, 111, 97, 100, 100, 46, 42], ⟨6, 0, 0, 0, 0, 0, 0, 0, 0, 1, false, false, false, 0, 0, 0, false⟩, nilV, [1, 2, 6]⟩ : Rw)) (l := []) hy hk hq (by kernel_rfl) (al_amo hW (by kernel_rfl))
        · exact par_alV (n := 1) (r := (⟨[97, 109, 111, 97, 100, 100, 46, 42, 46, 97, 113], ⟨6, 0, 0, 0, 0, 0, 0, 0, 0, 1, true, false, false, 0, 0, 0, false⟩, nilV, [1, 2, 6]⟩ : Rw)) (l := []) hy hk hq (by kernel_rfl) (al_amo hW (by kernel_rfl))
        · exact par_alV (n := 1) (r := (⟨[97, 109, 111, 97, 100, 100, 46, 42, 46, 114, 108], ⟨6, 0, 0, 0, 0, 0, 0, 0, 0, 1, false, false, true, 0, 0, 0, false⟩, nilV, [1, 2, 6]⟩ : Rw)) (l := []) hy hk hq (by kernel_rfl) (al_amo hW (by kernel_rfl))
        · exact par_alV (n := 1) (r := (⟨[97, 109, 111, 97, 100, 100, 46, 42, 46, 97, 113, 46, 114, 108], ⟨6, 0, 0, 0, 0, 0, 0, 0, 0, 1, true, false, true, 0, 0, 0, false⟩, nilV, [1, 2, 6]⟩ : Rw)) (l := []) hy hk hq (by kernel_rfl) (al_amo hW (by kernel_rfl))
        · exact par_alV (n := 2) (r := (⟨[97, 109, 111, 97, 100, 100, 46, 42], ⟨6, 0, 0, 0, 0, 0, 0, 0, 0, 1, false, false, false, 0, 0, 0, false⟩, nilV, [1, 2, 6]⟩ : Rw)) (l := []) hy hk hq (by kernel_rfl) (al_amo hW (by kernel_rfl))
        · exact par_alV (n := 2) (r := (⟨[97, 109, 111, 97, 100, 100, 46, 42, 46, 97, 113], ⟨6, 0, 0, 0, 0, 0, 0, 0, 0, 1, true, false, false, 0, 0, 0, false⟩, nilV, [1, 2, 6]⟩ : Rw)) (l := []) hy hk hq (by kernel_rfl) (al_amo hW (by kernel_rfl))
        · exact par_alV (n := 2) (r := (⟨[97, 109, 111, 97, 100, 100, 46, 42, 46, 114, 108], ⟨6, 0, 0, 0, 0, 0, 0, 0, 0, 1, false, false, true, 0, 0, 0, false⟩, nilV, [1, 2, 6]⟩ : Rw)) (l := []) hy hk hq (by kernel_rfl) (al_amo hW (by kernel_rfl))
        · exact par_alV (n := 2) (r := (⟨[97, 109, 111, 97, 100, 100, 46, 42, 46, 97, 113, 46, 114, 108], ⟨6, 0, 0, 0, 0, 0, 0, 0, 0, 1, true, false, true, 0, 0, 0, false⟩, nilV, [1, 2, 6]⟩ : Rw)) (l := []) hy hk hq (by kernel_rfl) (al_amo hW (by kernel_rfl))
        · exact par_alV (n := 4) (r := (⟨[97, 109, 111, 97, 100, 100, 46, 42], ⟨6, 0, 0, 0, 0, 0, 0, 0, 0, 1, false, false, false, 0, 0, 0, false⟩, nilV, [1, 2, 6]⟩ : Rw)) (l := []) hy hk hq (by kernel_rfl) (al_amo hW (by kernel_rfl))
        · exact par_alV (n := 4) (r := (⟨[97, 109, 111, 97, 100, 100, 46, 42, 46, 97, 113], ⟨6, 0, 0, 0, 0, 0, 0, 0, 0, 1, true, false, false, 0, 0, 0, false⟩, nilV, [1, 2, 6]⟩ : Rw)) (l := []) hy hk hq (by kernel_rfl) (al_amo hW (by kernel_rfl))
        · exact par_alV (n := 4) (r := (⟨[97, 109, 111, 97, 100, 100, 46, 42, 46, 114, 108], ⟨6, 0, 0, 0, 0, 0, 0, 0, 0, 1, false, false, true, 0, 0, 0, false⟩, nilV, [1, 2, 6]⟩ : Rw)) (l := []) hy hk hq (by kernel_rfl) (al_amo hW (by kernel_rfl))
        · exact par_alV (n := 4) (r := (⟨[97, 109, 111, 97, 100, 100, 46, 42, 46, 97, 113, 46, 114, 108], ⟨6, 0, 0, 0, 0, 0, 0, 0, 0, 1, true, false, true, 0, 0, 0, false⟩, nilV, [1, 2, 6]⟩ : Rw)) (l := []) hy hk hq (by kernel_rfl) (al_amo hW (by kernel_rfl))
        · exact par_alV (n := 8) (r := (⟨[97, 109, 111, 97, 100, 100, 46, 42], ⟨6, 0, 0, 0, 0, 0, 0, 0, 0, 1, false, false, false, 0, 0, 0, false⟩, nilV, [1, 2, 6]⟩ : Rw)) (l := []) hy hk hq (by kernel_rfl) (al_amo hW (by kernel_rfl))
        · exact par_alV (n := 8) (r := (⟨[97, 109, 111, 97, 100, 100, 46, 42, 46, 97, 113], ⟨6, 0, 0, 0, 0, 0, 0, 0, 0, 1, true, false, false, 0, 0, 0, false⟩, nilV, [1, 2, 6]⟩ : Rw)) (l := []) hy hk hq (by kernel_rfl) (al_amo hW (by kernel_rfl))
        · exact par_alV (n := 8) (r := (⟨[97, 109, 111, 97, 100, 100, 46, 42, 46, 114, 108], ⟨6, 0, 0, 0, 0, 0, 0, 0, 0, 1, false, false, true, 0, 0, 0, false⟩, nilV, [1, 2, 6]⟩ : Rw)) (l := []) hy hk hq (by kernel_rfl) (al_amo hW (by kernel_rfl))
        · exact par_alV (n := 8) (r := (⟨[97, 109, 111, 97, 100, 100, 46, 42, 46, 97, 113, 46, 114, 108], ⟨6, 0, 0, 0, 0, 0, 0, 0, 0, 1, true, false, true, 0, 0, 0, false⟩, nilV, [1, 2, 6]⟩ : Rw)) (l := []) hy hk hq (by kernel_rfl) (al_amo hW (by kernel_rfl))
        · exact par_alV (n := 0) (r := (⟨[102, 101, 110, 99, 101], ⟨7, 0, 0, 0, 0, 0, 0, 0, 0, 0, false, false, false, 0, 0, 0, false⟩, nilV, [8, 9]⟩ : Rw)) (l := []) hy hk hq (by kernel_rfl) (al_fen)
        · exact par_alV (n := 0) (r := (⟨[98, 101, 113, 122], ⟨9, 0, 0, 0, 0, 0, 0, 0, 0, 0, false, false, false, 0, 0, 0, true⟩, nilV, [2, 7]⟩ : Rw)) (l := []) hy hk hq (by kernel_rfl) (al_br (by kernel_rfl))
        · exact par_alV (n := 0) (r := (⟨[98, 110, 101, 122], ⟨9, 0, 0, 0, 0, 0, 0, 0, 0, 0, false, false, false, 0, 0, 0, false⟩, nilV, [2, 7]⟩ : Rw)) (l := []) hy hk hq (by kernel_rfl) (al_br (by kernel_rfl))
end
end Go.Proofs.YtedlaclfhgneeaaGreatDoor.Old
namespace Go.Proofs.YtedlaclfhgneeaaGreatDoor
open Go.RowKit
theorem gO_v : gO riscvG riscvC = rvO := by kernel_rfl
theorem parv_ref {ws : List Tk} (hw : WsOK ws) (hf : Old.WF ws) : (toO (parI riscvG ws riscvC), parT riscvG ws riscvC, parE riscvG ws riscvC, parA riscvG ws riscvC) = parV ws := by
  rw [par_o hw (riscv_pa (show riscvC.map tm = riscvT by kernel_rfl)) no10v, gO_v]
  exact Old.pa_eqV hf
end Go.Proofs.YtedlaclfhgneeaaGreatDoor
namespace Go.Proofs.YtedlaclfhgneeaaGreatDoor
set_option linter.unusedVariables false
def skipC : Nat → List UInt8 → Nat × Bool
  | 0, _ => (0, false)
  | _ + 1, [] => (0, false)
  | n + 1, b :: r =>
    if blkB b then ((skipC n r).1 + 1, (skipC n r).2)
    else if preB (b :: r) [40, 42] then
      if endR ((b :: r).drop 2) < 0 then (0, true)
      else ((skipC n ((b :: r).drop (endR ((b :: r).drop 2)).toNat.succ.succ.succ.succ)).1 + ((endR ((b :: r).drop 2)).toNat + 4), (skipC n ((b :: r).drop (endR ((b :: r).drop 2)).toNat.succ.succ.succ.succ)).2)
    else (0, false)
theorem skip_C : ∀ (n : Nat) (l : List UInt8), l.length ≤ n → skipL l = skipC n l := by
  intro n
  induction n with
  | zero => intro l hl; obtain rfl : l = [] := List.eq_nil_of_length_eq_zero (Nat.le_zero.1 hl); rw [skip_nil]; rfl
  | succ n ih =>
    intro l hl
    match l, hl with
    | [], _ => rw [skip_nil]; rfl
    | b :: r, hl =>
      rw [skipL, skipC, ih r (by simpa using hl), ih ((b :: r).drop (endR ((b :: r).drop 2)).toNat.succ.succ.succ.succ) (by rw [List.length_drop]; omega)]
def toksC : Nat → List UInt8 → Nat → List Tk → List Tk × Int × Nat
  | 0, _, _, _ => ([], 0, 0)
  | f + 1, l, a, ws =>
    if (skipC l.length (l.drop a)).2 then ([], 24, a + (skipC l.length (l.drop a)).1)
    else if a + (skipC l.length (l.drop a)).1 = l.length then (ws, 0, 0)
    else if (firstR (l.drop (a + (skipC l.length (l.drop a)).1))).2 = 0 then
      toksC f l (a + (skipC l.length (l.drop a)).1 + (firstR (l.drop (a + (skipC l.length (l.drop a)).1))).1.text.length) (ws ++ [{ (firstR (l.drop (a + (skipC l.length (l.drop a)).1))).1 with at_ := ((a + (skipC l.length (l.drop a)).1 : Nat) : Int) }])
    else ([], (firstR (l.drop (a + (skipC l.length (l.drop a)).1))).2, a + (skipC l.length (l.drop a)).1)
theorem toks_C : ∀ (f : Nat) (l : List UInt8) (a : Nat) (ws : List Tk), toksF f l a ws = toksC f l a ws := by
  intro f
  induction f with
  | zero => intros; rfl
  | succ f ih =>
    intro l a ws
    rw [toksF, toksC, skip_C l.length (l.drop a) (by rw [List.length_drop]; omega), ih]
theorem tokens_C {l : List UInt8} (h : l.length ≤ 8192) : tokensR l = toksC (l.length + 1) l 0 [] := by rw [tokens_short h, toks_C]
end Go.Proofs.YtedlaclfhgneeaaGreatDoor
namespace Go.Proofs.YtedlaclfhgneeaaGreatDoor
open Go.RowKit
set_option linter.unusedVariables false
set_option linter.unusedSimpArgs false
set_option maxRecDepth 100000
set_option maxHeartbeats 2000000
set_option simprocs false
theorem fnI_nil {I : Amb} {P : Program} {f s : Nat} {F : Nat → List SV} {x : SV} (h : FnI I P f [.sl 0 0 0] [some (.lst s 0 F)] (Rt x [some (.lst s 0 F)])) (hF : ∀ k, ∃ vs, denL [] (F k) = some vs) (hx : ∀ G, den G x = den [] x) : FnI I P f [.sla none 0 0] [] (Rt x []) := by
  refine ⟨h.1, fun G w vs hM hI hv => ?_⟩
  have hG : G = [] := List.length_eq_zero_iff.1 hM.len.symm
  subst hG
  have hM2 : Mem [some (.lst s 0 F)] [none] w := ⟨rfl, fun i e he => by
    match i, he with
    | 0, he => cases he; exact ⟨hF, .inl rfl⟩
    | i + 1, he => set_option simprocs true in simp at he, fun i j e g L M hij hi hj he hL => by
    match i, hi with
    | 0, hi => set_option simprocs true in simp at hL
    | i + 1, hi => set_option simprocs true in simp at hi⟩
  refine Calls.mono (h.2 [none] w vs hM2 hI hv) fun e w' ⟨x', H', F', v, ⟨q1, q2⟩, r1, r2, r3, r4, r5, r6, r7⟩ => ?_
  subst q1; subst q2
  exact ⟨_, _, [], v, ⟨rfl, rfl⟩, by rw [hx] at r1 ⊢; exact r1, r2, ⟨rfl, fun i e he => by set_option simprocs true in simp at he, fun i j e g L M hij hi => by set_option simprocs true in simp at hi⟩, r4, Nat.le_refl _, fun i e he => by set_option simprocs true in simp at he, fun i e he => by set_option simprocs true in simp at he⟩
theorem ws0_ok : WsOK [] := fun t h => by cases h
theorem regnm_v (r : Int) : regnm0 [97, 48] [97, 49] [97, 50] [97, 51] [97, 52] [97, 53] [97, 54] [97, 55] r = nameV r := by
  unfold regnm0
  split
  · next h => rw [nameV_o (by revert h; simp only [Bool.or_eq_true, decide_eq_true_eq]; omega)]
  · next h =>
    have : r = 0 ∨ r = 1 ∨ r = 2 ∨ r = 3 ∨ r = 4 ∨ r = 5 ∨ r = 6 ∨ r = 7 := by
      revert h; simp only [Bool.or_eq_true, decide_eq_true_eq]; omega
    rcases this with e | e | e | e | e | e | e | e <;> subst e <;> rfl
theorem vname_ (r : Int)  : Fn Tryz.prog 22 [.int .i64 r] [] (Rt (.str (nameV r)) []) :=
 enterM (n := 6) (by kernel_rfl) Tryz.func22 rfl rfl rfl fun G w a h0 A => N hX 7 A rfl rfl fun A => CALL1 [] rregs_ A rfl rfl rfl rfl rfl rfl rfl fun A => N hX 1 A rfl rfl fun A => CALL1 [] (regnm_ [97, 48] [97, 49] [97, 50] [97, 51] [97, 52] [97, 53] [97, 54] [97, 55] r) A rfl rfl rfl rfl rfl rfl rfl fun A => N hX 4 A rfl rfl fun A => RETN hX A rfl rfl rfl h0 rfl rfl rfl rfl (by rw [← regnm_v] <;> rfl) rfl
theorem vreg_ (q : List UInt8)  : Fn Tryz.prog 23 [.str q] [] (Rt (.int .i64 (regV q)) []) :=
 enterM (n := 6) (by kernel_rfl) Tryz.func23 rfl rfl rfl fun G w a h0 A => N hX 7 A rfl rfl fun A => CALL1 [] rregs_ A rfl rfl rfl rfl rfl rfl rfl fun A => N hX 1 A rfl rfl fun A => CALL1 [] (lreg_ [97, 48] [97, 49] [97, 50] [97, 51] [97, 52] [97, 53] [97, 54] [97, 55] q) A rfl rfl rfl rfl rfl rfl rfl fun A => N hX 4 A rfl rfl fun A => RETN hX A rfl rfl rfl h0 rfl rfl rfl rfl (by unfold regV; rw [← idxS_L] <;> rfl) rfl
def txt6 : List UInt8 := [97, 109, 111, 97, 100, 100, 46, 119, 46, 97, 113, 32, 97, 48, 44, 97, 49, 44, 91, 121, 43, 52, 93]
def ws6 : List Tk := [⟨1, [97, 109, 111, 97, 100, 100, 46, 119, 46, 97, 113], 0, 0⟩, ⟨1, [97, 48], 0, 12⟩, ⟨3, [44], 0, 14⟩, ⟨1, [97, 49], 0, 15⟩, ⟨3, [44], 0, 17⟩, ⟨3, [91], 0, 18⟩, ⟨1, [121], 0, 19⟩, ⟨3, [43], 0, 20⟩, ⟨2, [52], 4, 21⟩, ⟨3, [93], 0, 22⟩]
def ins6 : In := ⟨6, 0, 1, -1, 0, 1, 4, -1, 4, 1, true, false, false, 0, 0, 0, false⟩
theorem tok6 : tokensR txt6 = (ws6, 0, 0) := by rw [tokens_C (by decide)]; kernel_rfl
theorem ws6_ok : WsOK ws6 := by unfold WsOK; decide
theorem par6I : parI riscvG ws6 riscvC = ins6 := by kernel_rfl
theorem par6T : parT riscvG ws6 riscvC = [] := by kernel_rfl
theorem par6E : parE riscvG ws6 riscvC = 0 := by kernel_rfl
theorem pav0E : parE riscvG [] riscvC = 24 := by kernel_rfl
theorem pav0A : parA riscvG [] riscvC = 0 := by kernel_rfl
theorem prt6 : prP riscvG riscvC ins6 [] = (txt6, 0) := by kernel_rfl
theorem reg3v : regV (nameV 3) = 3 := by decide +kernel
theorem ins6R : InR ins6 := ⟨by decide, by decide⟩
theorem able6_  (os : List (Nat × Obj)) (hM : ∀ w ks, Gl os w ks → ∃ m, w.cell? ⟨0, 0, none⟩ = some (.int .i64 m)) (hT : ∀ w ks, Gl os w ks → Lib.TabIs Tryz.prog w "internal/strconv.uint64pow10" .u64 Lib.pow10Tab) (hE : ∀ w ks, Gl os w ks → ∃ ev, w.cell? ⟨1, 0, none⟩ = some ev ∧ (ev = .nilIface ∨ ∃ te pe, ev = .iface te pe)) : FnI (Gl os) Tryz.prog 19 [] [] (Rt (.tt) []) :=
 enterI (n := 66) (by kernel_rfl) Tryz.func19 rfl rfl rfl fun G w a h0 hI A => N hX 7 A rfl rfl fun A => CALLI [] Gl.ok hI (tokens_ok txt6 ws6 os hM hE tok6) A rfl rfl rfl rfl rfl rfl rfl fun A => N hX 12 A rfl rfl fun A => have A := A.freeze 0 rfl; CALLI [0] Gl.ok hI (vparse_ ws6 0 (by decide) ws6_ok os hM) A rfl rfl rfl rfl rfl rfl rfl fun A => N hX 16 A rfl rfl fun A => CALLI [] Gl.ok hI (vprint_ (parI riscvG ws6 riscvC) (parT riscvG ws6 riscvC) os hM hT hE (fun L hL => riscv_prok (by rw [par6I]; exact ins6R) (by rw [par6T]; decide) hL)) A rfl rfl rfl rfl rfl rfl rfl fun A => N hX 9 A rfl rfl fun A => CALLI [] Gl.ok hI (fnI_nil (vparse_ [] 0 (by decide) ws0_ok os hM) (fun k => ⟨_, rfl⟩) (fun _ => rfl)) A rfl rfl rfl rfl rfl rfl rfl fun A => N hX 17 A rfl rfl fun A => forkE 40 A rfl
  (fun h1 A => N hX 4 A rfl rfl fun A => forkE 44 A rfl
   (fun h2 A => N hX 4 A rfl rfl fun A => forkE 48 A rfl
    (fun h3 A => N hX 5 A rfl rfl fun A => forkE 53 A rfl
     (fun h4 A => N hX 4 A rfl rfl fun A => forkE 57 A rfl
      (fun h5 A => N hX 4 A rfl rfl fun A => forkE 61 A rfl
       (fun h6 A => CALL1 [] (vname_ 3) A rfl rfl rfl rfl rfl rfl rfl fun A => CALL1 [] (vreg_ (nameV 3)) A rfl rfl rfl rfl rfl rfl rfl fun A => N hX 6 A rfl rfl fun A => RETN hX A rfl rfl rfl h0 rfl rfl rfl rfl (by rw [reg3v]; rfl) rfl)
       (fun h6 A => N hX 8 A rfl rfl fun A => RETN hX A rfl rfl rfl h0 rfl rfl rfl rfl (absurd pav0A h6) rfl))
      (fun h5 A => N hX 12 A rfl rfl fun A => RETN hX A rfl rfl rfl h0 rfl rfl rfl rfl (absurd pav0E h5) rfl))
     (fun h4 A => N hX 16 A rfl rfl fun A => RETN hX A rfl rfl rfl h0 rfl rfl rfl rfl (absurd (by rw [par6I]; rfl) h4) rfl))
    (fun h3 A => N hX 21 A rfl rfl fun A => RETN hX A rfl rfl rfl h0 rfl rfl rfl rfl (absurd (by rw [par6I, par6T, prt6]; rfl) h3) rfl))
   (fun h2 A => N hX 25 A rfl rfl fun A => RETN hX A rfl rfl rfl h0 rfl rfl rfl rfl (absurd (by rw [par6I, par6T, prt6]) h2) rfl))
  (fun h1 A => N hX 29 A rfl rfl fun A => RETN hX A rfl rfl rfl h0 rfl rfl rfl rfl (absurd par6E h1) rfl)
end Go.Proofs.YtedlaclfhgneeaaGreatDoor
