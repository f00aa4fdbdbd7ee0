/- X86Parses, part 6: the engine, contracts, theory. -/
import Derived.Test.YtedlaclfhgneeaaGreatDoorX86ParsesP5
import Derived.WalkSmall
import Derived.ProofKit
import Derived.OpenShut
import Derived.ChangeOld
namespace Go.Proofs.YtedlaclfhgneeaaGreatDoor
open Go.RowKit
set_option linter.unusedVariables false
set_option linter.unusedSimpArgs false
set_option maxRecDepth 100000
set_option maxHeartbeats 2000000
set_option simprocs false
abbrev oiQ9 (i : Old.Ins) : List SV := [.int .i64 i.op, .int .i64 i.dst, .int .i64 i.a, .int .i64 i.b, .int .i64 i.imm, .int .i64 i.loc, .int .i64 i.off, .int .i64 i.index, .int .i64 i.size, .int .i64 i.fn, .bool i.acq, .bool i.weak, .bool i.rel, .int .i64 i.pred, .int .i64 i.succ, .int .i64 i.to, .bool i.zero]
def idxG (rf : List UInt8 → Int) (L : List Tk) (s : Old.Rs) (i : Old.Ins) : Old.Rs × Old.Ins := ((regG rf L s).1, { i with index := (regG rf L s).2 })
def offG (rf : List UInt8 → Int) (L : List Tk) (s : Old.Rs) (i : Old.Ins) : Old.Rs × Old.Ins := if Old.plusR L s then idxG rf L ⟨s.e, s.a, s.p + 1⟩ i else (s, i)
def memEG (rf : List UInt8 → Int) (L : List Tk) (s : Old.Rs) (i : Old.Ins) : Old.Rs × Old.Ins := if Old.plusR L s then (match L[s.p + 1]? with
    | some y => if y.kind == 2 then offG rf L ⟨s.e, s.a, s.p + 1 + 1⟩ { i with off := y.n } else idxG rf L ⟨s.e, s.a, s.p + 1⟩ i
    | none => idxG rf L ⟨s.e, s.a, s.p + 1⟩ i) else (s, i)
def memIG (rf : List UInt8 → Int) (L : List Tk) (s : Old.Rs) (i : Old.Ins) : Old.Rs × Old.Ins := if s.e == 0 then (match L[s.p]? with
    | some y => if (y.kind == 1) && !decide (Old.locF y.text < 0) then Old.closeR L (memEG rf L ⟨s.e, s.a, s.p + 1⟩ { i with loc := Old.locF y.text }) else (Old.oddR L true s, i)
    | none => (Old.oddR L true s, i)) else (s, i)
def memG (rf : List UInt8 → Int) (L : List Tk) (s : Old.Rs) (i : Old.Ins) : Old.Rs × Old.Ins := memIG rf L (Old.markR L [91] s) i
def branG (rf : List UInt8 → Int) (L : List Tk) (s : Old.Rs) (i : Old.Ins) (z : Bool) : List UInt8 × Old.Rs × Old.Ins := ((Old.labR L (Old.markR L [44] (regG rf L s).1)).2, (Old.labR L (Old.markR L [44] (regG rf L s).1)).1, (Old.Ins.mk 9 i.dst ((regG rf L s).2) i.b i.imm i.loc i.off i.index i.size i.fn i.acq i.weak i.rel i.pred i.succ i.to z))
section
variable {ws : List Tk} {k : Nat} {m : List UInt8} {s : Old.Rs} {i : Old.Ins} {rf : List UInt8 → Int}
theorem isR_lt (h : isR ws s m = true) : s.e = 0 ∧ s.p < ws.length := by
  unfold isR at h; rw [Bool.and_eq_true, reads_tk] at h; exact ⟨eq_of_beq h.1, tk_lt h.2⟩
theorem gmem_s (h : s.e ≠ 0) : memIG rf ws s i = (s, i) := by unfold memIG; rw [if_neg (fun e => h (eq_of_beq e))]
theorem gmem_o (h : s.e = 0) (hb : (((!(decide (s.p < ws.length))) || (!((ws.getD s.p tok0).kind == 1))) || (decide (Old.locF (ws.getD s.p tok0).text < 0))) = true) : memIG rf ws s i = (Old.oddR ws true s, i) := by
  unfold memIG; rw [if_pos (beq_iff_eq.2 h)]
  by_cases hl : s.p < ws.length
  · rw [tk_get hl]
    rw [decide_eq_true hl] at hb
    simp only
    rw [if_neg]
    revert hb
    cases ((ws.getD s.p tok0).kind == 1) <;> cases decide (Old.locF (ws.getD s.p tok0).text < 0) <;> decide
  · rw [tk_non hl]
theorem gmem_o1 (h : s.e = 0) (hb : (!(decide (s.p < ws.length))) = true) : memIG rf ws s i = (Old.oddR ws true s, i) := gmem_o h (by rw [hb]; rfl)
theorem gmem_o2 (h : s.e = 0) (hb : (ws.getD s.p tok0).kind ≠ 1) : memIG rf ws s i = (Old.oddR ws true s, i) := gmem_o h (by rw [beq_eq_false_iff_ne.2 hb, Bool.not_false, Bool.or_true, Bool.true_or])
theorem gmem_o3 (h : s.e = 0) (hb : Old.locF (ws.getD s.p tok0).text < 0) : memIG rf ws s i = (Old.oddR ws true s, i) := gmem_o h (by rw [decide_eq_true hb, Bool.or_true])
theorem gmem_y (h : s.e = 0) (h1 : (!(decide (s.p < ws.length))) = false) (h2 : (ws.getD s.p tok0).kind = 1) (h3 : ¬ Old.locF (ws.getD s.p tok0).text < 0) : memIG rf ws s i = Old.closeR ws (memEG rf ws ⟨s.e, s.a, nxK ws s.p⟩ { i with loc := Old.locF (ws.getD s.p tok0).text }) := by
  have hl := nd_f h1
  unfold memIG; rw [if_pos (beq_iff_eq.2 h), tk_get hl, nxK_y hl]
  simp only
  rw [if_pos]
  rw [h2, decide_eq_false h3]; rfl
theorem meE_n (h : isR ws s [43] = false) : memEG rf ws s i = (s, i) := by unfold memEG Old.plusR; unfold isR at h; rw [if_neg (by rw [h]; decide)]
theorem meE_num (h : isR ws s [43] = true) (hb : (decide (nxK ws s.p < ws.length) && ((ws.getD (nxK ws s.p) tok0).kind == 2)) = true) : memEG rf ws s i = offG rf ws ⟨s.e, s.a, nxK ws (nxK ws s.p)⟩ { i with off := (ws.getD (nxK ws s.p) tok0).n } := by
  have hl := (isR_lt h).2
  rw [nxK_y hl] at hb ⊢
  rw [Bool.and_eq_true] at hb
  have hl2 := of_decide_eq_true hb.1
  unfold memEG Old.plusR; unfold isR at h
  rw [if_pos h, tk_get hl2, nxK_y hl2]
  simp only
  rw [if_pos hb.2]
theorem meE_reg (h : isR ws s [43] = true) (hb : (decide (nxK ws s.p < ws.length) && ((ws.getD (nxK ws s.p) tok0).kind == 2)) = false) : memEG rf ws s i = idxG rf ws ⟨s.e, s.a, nxK ws s.p⟩ i := by
  have hl := (isR_lt h).2
  rw [nxK_y hl] at hb ⊢
  unfold memEG Old.plusR; unfold isR at h
  rw [if_pos h]
  by_cases hl2 : s.p + 1 < ws.length
  · rw [decide_eq_true hl2, Bool.true_and] at hb
    rw [tk_get hl2]
    simp only
    rw [if_neg (by rw [hb]; decide)]
  · rw [tk_non hl2]
theorem off_n (h : isR ws s [43] = false) : offG rf ws s i = (s, i) := by unfold offG Old.plusR; unfold isR at h; rw [if_neg (by rw [h]; decide)]
theorem off_y (h : isR ws s [43] = true) : offG rf ws s i = idxG rf ws ⟨s.e, s.a, nxK ws s.p⟩ i := by
  rw [nxK_y (isR_lt h).2]; unfold offG Old.plusR; unfold isR at h; rw [if_pos h]
theorem idxG_le (h : s.p ≤ ws.length) : (idxG rf ws s i).1.p ≤ ws.length := regG_le h
theorem offG_le (h : s.p ≤ ws.length) : (offG rf ws s i).1.p ≤ ws.length := by
  cases hb : isR ws s [43] with
  | false => rw [off_n hb]; exact h
  | true => rw [off_y hb]; exact idxG_le (nxK_le h)
theorem meE_le (h : s.p ≤ ws.length) : (memEG rf ws s i).1.p ≤ ws.length := by
  cases hb : isR ws s [43] with
  | false => rw [meE_n hb]; exact h
  | true =>
    cases hc : (decide (nxK ws s.p < ws.length) && ((ws.getD (nxK ws s.p) tok0).kind == 2)) with
    | true => rw [meE_num hb hc]; exact offG_le (nxK_le (nxK_le h))
    | false => rw [meE_reg hb hc]; exact idxG_le (nxK_le h)
theorem memI_le (h : s.p ≤ ws.length) : (memIG rf ws s i).1.p ≤ ws.length := by
  by_cases he : s.e = 0
  · cases hb : (((!(decide (s.p < ws.length))) || (!((ws.getD s.p tok0).kind == 1))) || (decide (Old.locF (ws.getD s.p tok0).text < 0))) with
    | true => rw [gmem_o he hb]; exact odd_le h
    | false =>
      rw [Bool.or_eq_false_iff, Bool.or_eq_false_iff] at hb
      rw [gmem_y he hb.1.1 (by simpa using hb.1.2) (by simpa using hb.2)]
      exact mark_le (meE_le (nxK_le h))
  · rw [gmem_s he]; exact h
theorem memG_le (h : s.p ≤ ws.length) : (memG rf ws s i).1.p ≤ ws.length := memI_le (mark_le h)
theorem branG_le {z : Bool} (h : s.p ≤ ws.length) : (branG rf ws s i z).2.1.p ≤ ws.length := lab_le (mark_le (regG_le h))
end
theorem locN3 {q : List UInt8} (h1 : q ≠ [120]) (h2 : q ≠ [121]) (h3 : q ≠ [122]) : Old.locF q = -1 := by
  unfold Old.locF Old.locsX Old.idxL Old.idxL Old.idxL Old.idxL
  rw [Old.eqL_no (fun e => h1 e.symm), Old.eqL_no (fun e => h2 e.symm), Old.eqL_no (fun e => h3 e.symm)]; rfl
theorem rloc_ (q : List UInt8)  : Fn Tryz.prog 115 [.str q] [] (Rt (.int .i64 (Old.locF q)) []) :=
 enterM (n := 10) (by kernel_rfl) Tryz.func115 rfl rfl rfl fun G w a h0 A => N hX 18 A rfl rfl fun A => forkE 4 A rfl
  (fun h1 A => N hX 7 A rfl rfl fun A => RETN hX A rfl rfl rfl h0 rfl rfl rfl rfl (by rw [h1]; rfl) rfl)
  (fun h1 A => N hX 7 A rfl rfl fun A => forkE 6 A rfl
   (fun h2 A => N hX 7 A rfl rfl fun A => RETN hX A rfl rfl rfl h0 rfl rfl rfl rfl (by rw [h2]; rfl) rfl)
   (fun h2 A => N hX 7 A rfl rfl fun A => forkE 8 A rfl
    (fun h3 A => N hX 7 A rfl rfl fun A => RETN hX A rfl rfl rfl h0 rfl rfl rfl rfl (by rw [h3]; rfl) rfl)
    (fun h3 A => N hX 10 A rfl rfl fun A => RETN hX A rfl rfl rfl h0 rfl rfl rfl rfl (by rw [locN3 h1 h2 h3]; rfl) rfl)))
theorem rmem_ (ar : Int) (ws : List Tk) (cw : Nat) (s : Old.Rs) (i : Old.Ins) (hk : s.p ≤ ws.length) (hn : ws.length ≤ 1000000) (hw : WsOK ws) (rf : List UInt8 → Int) (hrf : ∀ q : List UInt8, Fn Tryz.prog 18 [.int .i64 ar, .str q] [] (Rt (.int .i64 (rf q)) [])) : Fn Tryz.prog 71 [.ptr 0 0, .ptr 3 0] [some (.blk [.int .i64 ar, .ptr 1 0, .int .i64 s.e, .int .i64 s.a]), some (.blk [.sl 2 ws.length cw, .int .i64 ((s.p : Nat) : Int)]), some (.lst 4 ws.length (fun zz => tkc (ws.getD zz tok0))), some (.blk (oiQ9 i))] (Rt (.tup []) [some (.blk [.int .i64 ar, .ptr 1 0, .int .i64 (((memG rf ws s i).1).e), .int .i64 (((memG rf ws s i).1).a)]), some (.blk [.sl 2 ws.length cw, .int .i64 ((((memG rf ws s i).1).p : Nat) : Int)]), some (.lst 4 ws.length (fun zz => tkc (ws.getD zz tok0))), some (.blk (oiQ9 ((memG rf ws s i).2)))]) :=
 enterM (n := 104) (by kernel_rfl) Tryz.func71 rfl rfl rfl fun G w a h0 A => N hX 3 A rfl rfl fun A => CALL1 [0, 1, 2] (rmk_ ar ws cw s [91] hk hn hw) A rfl rfl rfl rfl rfl rfl rfl fun A => N hX 8 A rfl rfl fun A => CALL1 [1, 2] (rpeek_ ws cw ((Old.markR ws [91] s).p) (mark_le hk) hn) A rfl rfl rfl rfl rfl rfl rfl fun A => N hX 17 A rfl rfl fun A => forkE 21 A rfl
  (fun h1 A => N hX 3 A rfl rfl fun A => fork 24 A rfl
   (fun h2 A => N hX 16 A rfl rfl fun A => CALL1 [0, 1, 2] (roddT_ ar ws cw (Old.markR ws [91] s) (mark_le hk) hn hw) A rfl rfl rfl rfl rfl rfl rfl fun A => N hX 10 A rfl rfl fun A => have A := sy_sayD A 42 (.tt) rfl (fun _ => congrArg (fun b => some (Value.bool b)) (show (!(((Old.oddR ws true (Old.markR ws [91] s)).e) == 0)) = true by rw [beq_eq_false_iff_ne.2 (odd_ne h1)]; rfl)); N hX 4 A rfl rfl fun A => RETN hX A rfl rfl rfl h0 rfl rfl rfl rfl rfl (by unfold memG; rw [gmem_o1 h1 h2] <;> rfl))
   (fun h2 A => N hX 5 A rfl rfl fun A => forkN 29 A rfl
    (fun h3 A => N hX 11 A rfl rfl fun A => CALL1 [0, 1, 2] (roddT_ ar ws cw (Old.markR ws [91] s) (mark_le hk) hn hw) A rfl rfl rfl rfl rfl rfl rfl fun A => N hX 10 A rfl rfl fun A => have A := sy_sayD A 42 (.tt) rfl (fun _ => congrArg (fun b => some (Value.bool b)) (show (!(((Old.oddR ws true (Old.markR ws [91] s)).e) == 0)) = true by rw [beq_eq_false_iff_ne.2 (odd_ne h1)]; rfl)); N hX 4 A rfl rfl fun A => RETN hX A rfl rfl rfl h0 rfl rfl rfl rfl rfl (by unfold memG; rw [gmem_o2 h1 h3] <;> rfl))
    (fun h3 A => N hX 2 A rfl rfl fun A => CALL1 [] (rloc_ ((ws.getD ((Old.markR ws [91] s).p) tok0).text)) A rfl rfl rfl rfl rfl rfl rfl fun A => N hX 5 A rfl rfl fun A => forkD 35 A rfl
     (fun h4 A => N hX 3 A rfl rfl fun A => CALL1 [0, 1, 2] (roddT_ ar ws cw (Old.markR ws [91] s) (mark_le hk) hn hw) A rfl rfl rfl rfl rfl rfl rfl fun A => N hX 10 A rfl rfl fun A => have A := sy_sayD A 42 (.tt) rfl (fun _ => congrArg (fun b => some (Value.bool b)) (show (!(((Old.oddR ws true (Old.markR ws [91] s)).e) == 0)) = true by rw [beq_eq_false_iff_ne.2 (odd_ne h1)]; rfl)); N hX 4 A rfl rfl fun A => RETN hX A rfl rfl rfl h0 rfl rfl rfl rfl rfl (by unfold memG; rw [gmem_o3 h1 h4] <;> rfl))
     (fun h4 A => N hX 11 A rfl rfl fun A => have A := sy_sayD A 42 (.ff) rfl (fun _ => congrArg (fun b => some (Value.bool b)) (show (!(((Old.markR ws [91] s).e) == 0)) = false by rw [beq_iff_eq.2 h1]; rfl)); N hX 11 A rfl rfl fun A => CALL1 [1, 2] (rnext_ ws cw ((Old.markR ws [91] s).p) (mark_le hk) hn) A rfl rfl rfl rfl rfl rfl rfl fun A => N hX 7 A rfl rfl fun A => CALL1 [] (rloc_ ((ws.getD ((Old.markR ws [91] s).p) tok0).text)) A rfl rfl rfl rfl rfl rfl rfl fun A => N hX 9 A rfl rfl fun A => CALL1 [0, 1, 2] (ris_ ar ws cw (⟨(Old.markR ws [91] s).e, (Old.markR ws [91] s).a, nxK ws ((Old.markR ws [91] s).p)⟩ : Old.Rs) [43] (nxK_le (mark_le hk)) hn hw) A rfl rfl rfl rfl rfl rfl rfl fun A => N hX 2 A rfl rfl fun A => fork 55 A rfl
      (fun h5 A => N hX 7 A rfl rfl fun A => CALL1 [1, 2] (rnext_ ws cw ((⟨(Old.markR ws [91] s).e, (Old.markR ws [91] s).a, nxK ws ((Old.markR ws [91] s).p)⟩ : Old.Rs).p) (nxK_le (mark_le hk)) hn) A rfl rfl rfl rfl rfl rfl rfl fun A => N hX 8 A rfl rfl fun A => CALL1 [1, 2] (rpeek_ ws cw (nxK ws ((⟨(Old.markR ws [91] s).e, (Old.markR ws [91] s).a, nxK ws ((Old.markR ws [91] s).p)⟩ : Old.Rs).p)) (nxK_le (nxK_le (mark_le hk))) hn) A rfl rfl rfl rfl rfl rfl rfl fun A => N hX 17 A rfl rfl fun A => fork 74 A rfl
       (fun h6 A => N hX 7 A rfl rfl fun A => CALL1 [1, 2] (rnext_ ws cw (nxK ws ((⟨(Old.markR ws [91] s).e, (Old.markR ws [91] s).a, nxK ws ((Old.markR ws [91] s).p)⟩ : Old.Rs).p)) (nxK_le (nxK_le (mark_le hk))) hn) A rfl rfl rfl rfl rfl rfl rfl fun A => N hX 15 A rfl rfl fun A => CALL1 [0, 1, 2] (ris_ ar ws cw (⟨(⟨(Old.markR ws [91] s).e, (Old.markR ws [91] s).a, nxK ws ((Old.markR ws [91] s).p)⟩ : Old.Rs).e, (⟨(Old.markR ws [91] s).e, (Old.markR ws [91] s).a, nxK ws ((Old.markR ws [91] s).p)⟩ : Old.Rs).a, nxK ws (nxK ws ((⟨(Old.markR ws [91] s).e, (Old.markR ws [91] s).a, nxK ws ((Old.markR ws [91] s).p)⟩ : Old.Rs).p))⟩ : Old.Rs) [43] (nxK_le (nxK_le (nxK_le (mark_le hk)))) hn hw) A rfl rfl rfl rfl rfl rfl rfl fun A => N hX 2 A rfl rfl fun A => fork 86 A rfl
        (fun h7 A => N hX 7 A rfl rfl fun A => CALL1 [1, 2] (rnext_ ws cw ((⟨(⟨(Old.markR ws [91] s).e, (Old.markR ws [91] s).a, nxK ws ((Old.markR ws [91] s).p)⟩ : Old.Rs).e, (⟨(Old.markR ws [91] s).e, (Old.markR ws [91] s).a, nxK ws ((Old.markR ws [91] s).p)⟩ : Old.Rs).a, nxK ws (nxK ws ((⟨(Old.markR ws [91] s).e, (Old.markR ws [91] s).a, nxK ws ((Old.markR ws [91] s).p)⟩ : Old.Rs).p))⟩ : Old.Rs).p) (nxK_le (nxK_le (nxK_le (mark_le hk)))) hn) A rfl rfl rfl rfl rfl rfl rfl fun A => N hX 5 A rfl rfl fun A => CALL1 [0, 1, 2] (rreg_ ar ws cw (⟨(⟨(⟨(Old.markR ws [91] s).e, (Old.markR ws [91] s).a, nxK ws ((Old.markR ws [91] s).p)⟩ : Old.Rs).e, (⟨(Old.markR ws [91] s).e, (Old.markR ws [91] s).a, nxK ws ((Old.markR ws [91] s).p)⟩ : Old.Rs).a, nxK ws (nxK ws ((⟨(Old.markR ws [91] s).e, (Old.markR ws [91] s).a, nxK ws ((Old.markR ws [91] s).p)⟩ : Old.Rs).p))⟩ : Old.Rs).e, (⟨(⟨(Old.markR ws [91] s).e, (Old.markR ws [91] s).a, nxK ws ((Old.markR ws [91] s).p)⟩ : Old.Rs).e, (⟨(Old.markR ws [91] s).e, (Old.markR ws [91] s).a, nxK ws ((Old.markR ws [91] s).p)⟩ : Old.Rs).a, nxK ws (nxK ws ((⟨(Old.markR ws [91] s).e, (Old.markR ws [91] s).a, nxK ws ((Old.markR ws [91] s).p)⟩ : Old.Rs).p))⟩ : Old.Rs).a, nxK ws ((⟨(⟨(Old.markR ws [91] s).e, (Old.markR ws [91] s).a, nxK ws ((Old.markR ws [91] s).p)⟩ : Old.Rs).e, (⟨(Old.markR ws [91] s).e, (Old.markR ws [91] s).a, nxK ws ((Old.markR ws [91] s).p)⟩ : Old.Rs).a, nxK ws (nxK ws ((⟨(Old.markR ws [91] s).e, (Old.markR ws [91] s).a, nxK ws ((Old.markR ws [91] s).p)⟩ : Old.Rs).p))⟩ : Old.Rs).p)⟩ : Old.Rs) (nxK_le (nxK_le (nxK_le (nxK_le (mark_le hk))))) hn hw rf hrf) A rfl rfl rfl rfl rfl rfl rfl fun A => N hX 7 A rfl rfl fun A => CALL1 [0, 1, 2] (rmk_ ar ws cw ((regG rf ws (⟨(⟨(⟨(Old.markR ws [91] s).e, (Old.markR ws [91] s).a, nxK ws ((Old.markR ws [91] s).p)⟩ : Old.Rs).e, (⟨(Old.markR ws [91] s).e, (Old.markR ws [91] s).a, nxK ws ((Old.markR ws [91] s).p)⟩ : Old.Rs).a, nxK ws (nxK ws ((⟨(Old.markR ws [91] s).e, (Old.markR ws [91] s).a, nxK ws ((Old.markR ws [91] s).p)⟩ : Old.Rs).p))⟩ : Old.Rs).e, (⟨(⟨(Old.markR ws [91] s).e, (Old.markR ws [91] s).a, nxK ws ((Old.markR ws [91] s).p)⟩ : Old.Rs).e, (⟨(Old.markR ws [91] s).e, (Old.markR ws [91] s).a, nxK ws ((Old.markR ws [91] s).p)⟩ : Old.Rs).a, nxK ws (nxK ws ((⟨(Old.markR ws [91] s).e, (Old.markR ws [91] s).a, nxK ws ((Old.markR ws [91] s).p)⟩ : Old.Rs).p))⟩ : Old.Rs).a, nxK ws ((⟨(⟨(Old.markR ws [91] s).e, (Old.markR ws [91] s).a, nxK ws ((Old.markR ws [91] s).p)⟩ : Old.Rs).e, (⟨(Old.markR ws [91] s).e, (Old.markR ws [91] s).a, nxK ws ((Old.markR ws [91] s).p)⟩ : Old.Rs).a, nxK ws (nxK ws ((⟨(Old.markR ws [91] s).e, (Old.markR ws [91] s).a, nxK ws ((Old.markR ws [91] s).p)⟩ : Old.Rs).p))⟩ : Old.Rs).p)⟩ : Old.Rs)).1) [93] (regG_le (nxK_le (nxK_le (nxK_le (nxK_le (mark_le hk)))))) hn hw) A rfl rfl rfl rfl rfl rfl rfl fun A => N hX 1 A rfl rfl fun A => ENDN (RETN hX A rfl rfl rfl h0 rfl rfl rfl rfl rfl (by unfold memG; rw [gmem_y h1 h2 h3 h4, meE_num h5 h6, off_y h7] <;> rfl)))
        (fun h7 A => N hX 5 A rfl rfl fun A => CALL1 [0, 1, 2] (rmk_ ar ws cw (⟨(⟨(Old.markR ws [91] s).e, (Old.markR ws [91] s).a, nxK ws ((Old.markR ws [91] s).p)⟩ : Old.Rs).e, (⟨(Old.markR ws [91] s).e, (Old.markR ws [91] s).a, nxK ws ((Old.markR ws [91] s).p)⟩ : Old.Rs).a, nxK ws (nxK ws ((⟨(Old.markR ws [91] s).e, (Old.markR ws [91] s).a, nxK ws ((Old.markR ws [91] s).p)⟩ : Old.Rs).p))⟩ : Old.Rs) [93] (nxK_le (nxK_le (nxK_le (mark_le hk)))) hn hw) A rfl rfl rfl rfl rfl rfl rfl fun A => N hX 1 A rfl rfl fun A => ENDN (RETN hX A rfl rfl rfl h0 rfl rfl rfl rfl rfl (by unfold memG; rw [gmem_y h1 h2 h3 h4, meE_num h5 h6, off_n h7] <;> rfl))))
       (fun h6 A => N hX 4 A rfl rfl fun A => CALL1 [0, 1, 2] (rreg_ ar ws cw (⟨(⟨(Old.markR ws [91] s).e, (Old.markR ws [91] s).a, nxK ws ((Old.markR ws [91] s).p)⟩ : Old.Rs).e, (⟨(Old.markR ws [91] s).e, (Old.markR ws [91] s).a, nxK ws ((Old.markR ws [91] s).p)⟩ : Old.Rs).a, nxK ws ((⟨(Old.markR ws [91] s).e, (Old.markR ws [91] s).a, nxK ws ((Old.markR ws [91] s).p)⟩ : Old.Rs).p)⟩ : Old.Rs) (nxK_le (nxK_le (mark_le hk))) hn hw rf hrf) A rfl rfl rfl rfl rfl rfl rfl fun A => N hX 7 A rfl rfl fun A => CALL1 [0, 1, 2] (rmk_ ar ws cw ((regG rf ws (⟨(⟨(Old.markR ws [91] s).e, (Old.markR ws [91] s).a, nxK ws ((Old.markR ws [91] s).p)⟩ : Old.Rs).e, (⟨(Old.markR ws [91] s).e, (Old.markR ws [91] s).a, nxK ws ((Old.markR ws [91] s).p)⟩ : Old.Rs).a, nxK ws ((⟨(Old.markR ws [91] s).e, (Old.markR ws [91] s).a, nxK ws ((Old.markR ws [91] s).p)⟩ : Old.Rs).p)⟩ : Old.Rs)).1) [93] (regG_le (nxK_le (nxK_le (mark_le hk)))) hn hw) A rfl rfl rfl rfl rfl rfl rfl fun A => N hX 1 A rfl rfl fun A => ENDN (RETN hX A rfl rfl rfl h0 rfl rfl rfl rfl rfl (by unfold memG; rw [gmem_y h1 h2 h3 h4, meE_reg h5 h6] <;> rfl))))
      (fun h5 A => N hX 5 A rfl rfl fun A => CALL1 [0, 1, 2] (rmk_ ar ws cw (⟨(Old.markR ws [91] s).e, (Old.markR ws [91] s).a, nxK ws ((Old.markR ws [91] s).p)⟩ : Old.Rs) [93] (nxK_le (mark_le hk)) hn hw) A rfl rfl rfl rfl rfl rfl rfl fun A => N hX 1 A rfl rfl fun A => ENDN (RETN hX A rfl rfl rfl h0 rfl rfl rfl rfl rfl (by unfold memG; rw [gmem_y h1 h2 h3 h4, meE_n h5] <;> rfl)))))))
  (fun h1 A => N hX 27 A rfl rfl fun A => have A := sy_sayD A 42 (.tt) rfl (fun _ => congrArg (fun b => some (Value.bool b)) (show (!(((Old.markR ws [91] s).e) == 0)) = true by rw [beq_eq_false_iff_ne.2 h1]; rfl)); N hX 4 A rfl rfl fun A => RETN hX A rfl rfl rfl h0 rfl rfl rfl rfl rfl (by unfold memG; rw [gmem_s h1] <;> rfl))
theorem rbran_ (ar : Int) (ws : List Tk) (cw : Nat) (s : Old.Rs) (i : Old.Ins) (z : Bool) (hk : s.p ≤ ws.length) (hn : ws.length ≤ 1000000) (hw : WsOK ws) (rf : List UInt8 → Int) (hrf : ∀ q : List UInt8, Fn Tryz.prog 18 [.int .i64 ar, .str q] [] (Rt (.int .i64 (rf q)) [])) : Fn Tryz.prog 72 [.ptr 0 0, .ptr 3 0, .bool z] [some (.blk [.int .i64 ar, .ptr 1 0, .int .i64 s.e, .int .i64 s.a]), some (.blk [.sl 2 ws.length cw, .int .i64 ((s.p : Nat) : Int)]), some (.lst 4 ws.length (fun zz => tkc (ws.getD zz tok0))), some (.blk (oiQ9 i))] (Rt (.str ((branG rf ws s i z).1)) [some (.blk [.int .i64 ar, .ptr 1 0, .int .i64 (((branG rf ws s i z).2.1).e), .int .i64 (((branG rf ws s i z).2.1).a)]), some (.blk [.sl 2 ws.length cw, .int .i64 ((((branG rf ws s i z).2.1).p : Nat) : Int)]), some (.lst 4 ws.length (fun zz => tkc (ws.getD zz tok0))), some (.blk (oiQ9 ((branG rf ws s i z).2.2)))]) :=
 enterM (n := 23) (by kernel_rfl) Tryz.func72 rfl rfl rfl fun G w a h0 A => N hX 26 A rfl rfl fun A => CALL1 [0, 1, 2] (rreg_ ar ws cw s hk hn hw rf hrf) A rfl rfl rfl rfl rfl rfl rfl fun A => N hX 8 A rfl rfl fun A => CALL1 [0, 1, 2] (rmk_ ar ws cw ((regG rf ws s).1) [44] (regG_le hk) hn hw) A rfl rfl rfl rfl rfl rfl rfl fun A => N hX 5 A rfl rfl fun A => CALL1 [0, 1, 2] (rlab_ ar ws cw (Old.markR ws [44] ((regG rf ws s).1)) (mark_le (regG_le hk)) hn hw) A rfl rfl rfl rfl rfl rfl rfl fun A => N hX 4 A rfl rfl fun A => RETN hX A rfl rfl rfl h0 rfl rfl rfl rfl rfl rfl
theorem risimm_x (ws : List Tk) (cw : Nat) (s : Old.Rs) (hk : s.p ≤ ws.length) (hn : ws.length ≤ 1000000) (hw : WsOK ws) : Fn Tryz.prog 68 [.ptr 0 0] [some (.blk [.int .i64 1, .ptr 1 0, .int .i64 s.e, .int .i64 s.a]), some (.blk [.sl 2 ws.length cw, .int .i64 ((s.p : Nat) : Int)]), some (.lst 4 ws.length (fun zz => tkc (ws.getD zz tok0)))] (Rt (.bool (Old.isImmR ws s)) [some (.blk [.int .i64 1, .ptr 1 0, .int .i64 s.e, .int .i64 s.a]), some (.blk [.sl 2 ws.length cw, .int .i64 ((s.p : Nat) : Int)]), some (.lst 4 ws.length (fun zz => tkc (ws.getD zz tok0)))]) :=
 enterM (n := 23) (by kernel_rfl) Tryz.func68 rfl rfl rfl fun G w a h0 A => N hX 13 A rfl rfl fun A => forkE 8 A rfl
  (fun h1 A => N hX 1 A rfl rfl fun A => CALL1 [0, 1, 2] (ris_ 1 ws cw s [36] hk hn hw) A rfl rfl rfl rfl rfl rfl rfl fun A => N hX 2 A rfl rfl fun A => fork 12 A rfl
   (fun h2 A => N hX 14 A rfl rfl fun A => RETN hX A rfl rfl rfl h0 rfl rfl rfl rfl (by have z : isR ws s [36] = true := h2; unfold isR at z; unfold Old.isImmR; rw [z]; rfl) rfl)
   (fun h2 A => N hX 6 A rfl rfl fun A => forkE 18 A rfl
    (fun h3 A => absurd h3 (by decide))
    (fun h3 A => N hX 8 A rfl rfl fun A => RETN hX A rfl rfl rfl h0 rfl rfl rfl rfl (by have z : isR ws s [36] = false := h2; unfold isR at z; unfold Old.isImmR; rw [z]; rfl) rfl)))
  (fun h1 A => absurd rfl h1)
theorem rimm_x (ws : List Tk) (cw : Nat) (s : Old.Rs) (hk : s.p ≤ ws.length) (hn : ws.length ≤ 1000000) (hw : WsOK ws) : Fn Tryz.prog 69 [.ptr 0 0] [some (.blk [.int .i64 1, .ptr 1 0, .int .i64 s.e, .int .i64 s.a]), some (.blk [.sl 2 ws.length cw, .int .i64 ((s.p : Nat) : Int)]), some (.lst 4 ws.length (fun zz => tkc (ws.getD zz tok0)))] (Rt (.int .i64 ((Old.immR ws s).2)) [some (.blk [.int .i64 1, .ptr 1 0, .int .i64 (((Old.immR ws s).1).e), .int .i64 (((Old.immR ws s).1).a)]), some (.blk [.sl 2 ws.length cw, .int .i64 ((((Old.immR ws s).1).p : Nat) : Int)]), some (.lst 4 ws.length (fun zz => tkc (ws.getD zz tok0)))]) :=
 enterM (n := 19) (by kernel_rfl) Tryz.func69 rfl rfl rfl fun G w a h0 A => N hX 15 A rfl rfl fun A => forkE 7 A rfl
  (fun h1 A => N hX 3 A rfl rfl fun A => CALL1 [0, 1, 2] (rmk_ 1 ws cw s [36] hk hn hw) A rfl rfl rfl rfl rfl rfl rfl fun A => N hX 12 A rfl rfl fun A => forkE 14 A rfl
   (fun h2 A => absurd h2 (by decide))
   (fun h2 A => N hX 6 A rfl rfl fun A => CALL1 [0, 1, 2] (rnum_ 1 ws cw (Old.markR ws [36] s) (mark_le hk) hn hw) A rfl rfl rfl rfl rfl rfl rfl fun A => N hX 4 A rfl rfl fun A => RETN hX A rfl rfl rfl h0 rfl rfl rfl rfl rfl rfl))
  (fun h1 A => absurd rfl h1)
theorem ralu_x (q : List UInt8)  : Fn Tryz.prog 64 [.int .i64 1, .str q] [] (Rt (.tup [.int .i64 (Old.aluF q), .ff]) []) :=
 enterM (n := 40) (by kernel_rfl) Tryz.func64 rfl rfl rfl fun G w a h0 A => N hX 19 A rfl rfl fun A => forkE 10 A rfl
  (fun h1 A => absurd h1 (by decide))
  (fun h1 A => N hX 10 A rfl rfl fun A => forkE 13 A rfl
   (fun h2 A => absurd h2 (by decide))
   (fun h2 A => N hX 10 A rfl rfl fun A => LOOP1 (fun (k : Nat) => [(0, .int .i64 1), (1, .str q), (4, .int .i64 0), (5, .ff), (6, .sl 0 5 5), (7, .int .i64 (k : Int))]) (fun (k : Nat) => [some (.blk [.str [65, 68, 68], .str [83, 85, 66], .str [88, 79, 82], .str [65, 78, 68], .str [79, 82]])]) (fun (k : Nat) => IxI Old.alusX q k) (fun (k : Nat) => 5 - k) 0 IxI.i0 ((A.cut [0, 1, 4, 5, 6, 7] rfl).trunc 1 rfl rfl rfl (by simp only [List.length_cons, List.length_nil] at h0; omega)) fun k hI {G a w} A => N hX 7 A rfl rfl fun A => forkD 16 A rfl
     (fun h3 A => N hX 16 A rfl (ok_d (by have := hI.le; have e : Old.alusX.length = 5 := rfl; omega) <| ok_d (by have := hI.le; have e : Old.alusX.length = 5 := rfl; omega) <| okE_nil) fun A => forkE 24 A rfl
      (fun h4 A => N hX 10 A rfl (ok_d (by have := hI.le; have e : Old.alusX.length = 5 := rfl; omega) <| okE_nil) fun A => RETN hX A rfl rfl rfl h0 rfl rfl rfl rfl (by unfold Old.aluF; rw [← idxS_L, hI.hit (by show k < 5; omega) (beq_iff_eq.2 (h4).symm)]; rfl) rfl)
      (fun h4 A => N hX 18 A rfl (ok_r <| ok_r <| ok_g (fun hg => (absurd hg Bool.false_ne_true)) <| ok_r <| ok_g (fun hg => (absurd hg Bool.false_ne_true)) <| ok_r <| ok_g (fun hg => (absurd hg Bool.false_ne_true)) <| ok_r <| ok_r <| ok_r <| okE_nil) fun A => fork 37 A rfl
       (fun h5 A => N hX 10 A rfl (ok_d (by have := hI.le; have e : Old.alusX.length = 5 := rfl; omega) <| okE_nil) fun A => RETN hX A rfl rfl rfl h0 rfl rfl rfl rfl (absurd h5 Bool.false_ne_true) rfl)
       (fun h5 A => N hX 9 A rfl (ok_d (by have := hI.le; have e : Old.alusX.length = 5 := rfl; omega) <| okE_nil) fun A => ⟨k + 1, _, (by omega), (hI.nx (by show k < 5; omega) (beq_eq_false_iff_ne.2 (fun e => h4 e.symm))), ((A.cut [0, 1, 4, 5, 6, 7] rfl).trunc 1 rfl rfl rfl (by simp only [List.length_cons, List.length_nil] at h0; omega))⟩)))
     (fun h3 A => N hX 10 A rfl rfl fun A => RETN hX A rfl rfl rfl h0 rfl rfl rfl rfl (by unfold Old.aluF; rw [← idxS_L, hI.fi (by show 5 ≤ k; omega)]; rfl) rfl)))
theorem szI_k (k : Nat) (h : k < 4) : (IntKind.wrap .i64 (1 * 2 ^ min ((k : Int)).toNat (IntKind.bits .i64))) = Old.szI (k : Int) := by
  have : k = 0 ∨ k = 1 ∨ k = 2 ∨ k = 3 := by omega
  rcases this with e | e | e | e <;> subst e <;> decide +kernel
theorem pre_n {q t : List UInt8} (h : ((decide ((q.length : Int) < (t.length : Int))) || (!((q.take ((t.length : Int)).toNat) == t))) = true) : preB q t = false := by
  unfold preB
  by_cases hl : t.length ≤ q.length
  · rw [decide_eq_true hl]
    rw [decide_eq_false (by omega : ¬ (q.length : Int) < (t.length : Int)), Int.toNat_natCast] at h
    simpa using h
  · rw [decide_eq_false hl]; rfl
theorem pre_y {q t : List UInt8} (h : ((decide ((q.length : Int) < (t.length : Int))) || (!((q.take ((t.length : Int)).toNat) == t))) = false) : preB q t = true := by
  unfold preB
  rw [Bool.or_eq_false_iff] at h
  have h1 := of_decide_eq_false h.1
  rw [decide_eq_true (by omega : t.length ≤ q.length)]
  have h2 := h.2
  rw [Int.toNat_natCast] at h2
  simpa using h2
theorem rsized_x (q : List UInt8) (t : List UInt8)  : Fn Tryz.prog 65 [.int .i64 1, .str q, .str t] [] (Rt (.int .i64 (Old.szF q t)) []) :=
 enterM (n := 44) (by kernel_rfl) Tryz.func65 rfl rfl rfl fun G w a h0 A => N hX 23 A rfl (ok_r <| ok_r <| ok_r <| ok_g (fun hg => (by have hz := nd_t hg; omega)) <| ok_r <| ok_r <| ok_r <| okE_nil) fun A => fork 21 A rfl
  (fun h1 A => N hX 7 A rfl rfl fun A => RETN hX A rfl rfl rfl h0 rfl rfl rfl rfl (by unfold Old.szF; rw [pre_n h1]; rfl) rfl)
  (fun h1 A => N hX 16 A rfl rfl fun A => forkE 24 A rfl
   (fun h2 A => absurd h2 (by decide))
   (fun h2 A => N hX 10 A rfl rfl fun A => forkE 27 A rfl
    (fun h3 A => absurd h3 (by decide))
    (fun h3 A => N hX 10 A rfl rfl fun A => LOOP1 (fun (k : Nat) => [(1, .str q), (2, .str t), (6, .int .i64 0), (7, .sl 0 4 4), (8, .int .i64 (k : Int))]) (fun (k : Nat) => [some (.blk [.str [66], .str [87], .str [76], .str [81]])]) (fun (k : Nat) => IxI Old.tailsX (q.drop ((t.length : Int)).toNat) k) (fun (k : Nat) => 4 - k) 0 IxI.i0 ((A.cut [1, 2, 6, 7, 8] rfl).trunc 1 rfl rfl rfl (by simp only [List.length_cons, List.length_nil] at h0; omega)) fun k hI {G a w} A => N hX 7 A rfl rfl fun A => forkD 30 A rfl
      (fun h4 A => N hX 6 A rfl rfl fun A => DRAWN hX hmo [] [] A rfl (ok_d (by have hp := pre_y h1; unfold preB at hp; rw [Bool.and_eq_true] at hp; have hq := of_decide_eq_true hp.1; have := hI.le; have e : Old.tailsX.length = 4 := rfl; omega) <| ok_d (by have hp := pre_y h1; unfold preB at hp; rw [Bool.and_eq_true] at hp; have hq := of_decide_eq_true hp.1; have := hI.le; have e : Old.tailsX.length = 4 := rfl; omega) <| ok_d (by have hp := pre_y h1; unfold preB at hp; rw [Bool.and_eq_true] at hp; have hq := of_decide_eq_true hp.1; have := hI.le; have e : Old.tailsX.length = 4 := rfl; omega) <| okE_nil) rfl rfl (by kernel_rfl) (effAll_nil _ _) trivial fun A => N hX 1 A rfl rfl fun A => forkE 41 A rfl
       (fun h5 A => N hX 9 A rfl (ok_d (by have hp := pre_y h1; unfold preB at hp; rw [Bool.and_eq_true] at hp; have hq := of_decide_eq_true hp.1; have := hI.le; have e : Old.tailsX.length = 4 := rfl; omega) <| okE_nil) fun A => RETN hX A rfl rfl rfl h0 rfl rfl rfl rfl (by unfold Old.szF; rw [pre_y h1, if_pos rfl, ← idxS_L, show t.length = ((t.length : Int)).toNat from rfl, hI.hit (by show k < 4; omega) (beq_iff_eq.2 h5), ← szI_k k (by omega)]; rfl) rfl)
       (fun h5 A => N hX 9 A rfl (ok_d (by have hp := pre_y h1; unfold preB at hp; rw [Bool.and_eq_true] at hp; have hq := of_decide_eq_true hp.1; have := hI.le; have e : Old.tailsX.length = 4 := rfl; omega) <| okE_nil) fun A => ⟨k + 1, _, (by omega), (hI.nx (by show k < 4; omega) (beq_eq_false_iff_ne.2 h5)), ((A.cut [1, 2, 6, 7, 8] rfl).trunc 1 rfl rfl rfl (by simp only [List.length_cons, List.length_nil] at h0; omega))⟩))
      (fun h4 A => N hX 9 A rfl rfl fun A => RETN hX A rfl rfl rfl h0 rfl rfl rfl rfl (by unfold Old.szF; rw [pre_y h1, if_pos rfl, ← idxS_L, show t.length = ((t.length : Int)).toNat from rfl, hI.fi (by show 4 ≤ k; omega)]; rfl) rfl))))
theorem xreg5_ (ws : List Tk) (cw : Nat) (s : Old.Rs) (hk : s.p ≤ ws.length) (hn : ws.length ≤ 1000000) (hw : WsOK ws) : Fn Tryz.prog 66 [.ptr 0 0] [some (.blk [.int .i64 1, .ptr 1 0, .int .i64 s.e, .int .i64 s.a]), some (.blk [.sl 2 ws.length cw, .int .i64 ((s.p : Nat) : Int)]), some (.lst 4 ws.length (fun zz => tkc (ws.getD zz tok0)))] (Rt (.int .i64 (Old.regR ws s).2) [some (.blk [.int .i64 1, .ptr 1 0, .int .i64 (((Old.regR ws s).1).e), .int .i64 (((Old.regR ws s).1).a)]), some (.blk [.sl 2 ws.length cw, .int .i64 ((((Old.regR ws s).1).p : Nat) : Int)]), some (.lst 4 ws.length (fun zz => tkc (ws.getD zz tok0)))]) := rreg_ 1 ws cw s hk hn hw Old.regF rregn_x
theorem xmem5_ (ws : List Tk) (cw : Nat) (s : Old.Rs) (i : Old.Ins) (hk : s.p ≤ ws.length) (hn : ws.length ≤ 1000000) (hw : WsOK ws) : Fn Tryz.prog 71 [.ptr 0 0, .ptr 3 0] [some (.blk [.int .i64 1, .ptr 1 0, .int .i64 s.e, .int .i64 s.a]), some (.blk [.sl 2 ws.length cw, .int .i64 ((s.p : Nat) : Int)]), some (.lst 4 ws.length (fun zz => tkc (ws.getD zz tok0))), some (.blk (oiQ9 i))] (Rt (.tup []) [some (.blk [.int .i64 1, .ptr 1 0, .int .i64 (((Old.memR ws s i).1).e), .int .i64 (((Old.memR ws s i).1).a)]), some (.blk [.sl 2 ws.length cw, .int .i64 ((((Old.memR ws s i).1).p : Nat) : Int)]), some (.lst 4 ws.length (fun zz => tkc (ws.getD zz tok0))), some (.blk (oiQ9 ((Old.memR ws s i).2)))]) := rmem_ 1 ws cw s i hk hn hw Old.regF rregn_x
theorem xbran5_ (ws : List Tk) (cw : Nat) (s : Old.Rs) (i : Old.Ins) (z : Bool) (hk : s.p ≤ ws.length) (hn : ws.length ≤ 1000000) (hw : WsOK ws) : Fn Tryz.prog 72 [.ptr 0 0, .ptr 3 0, .bool z] [some (.blk [.int .i64 1, .ptr 1 0, .int .i64 s.e, .int .i64 s.a]), some (.blk [.sl 2 ws.length cw, .int .i64 ((s.p : Nat) : Int)]), some (.lst 4 ws.length (fun zz => tkc (ws.getD zz tok0))), some (.blk (oiQ9 i))] (Rt (.str (Old.branR ws s i z).1) [some (.blk [.int .i64 1, .ptr 1 0, .int .i64 (((Old.branR ws s i z).2.1).e), .int .i64 (((Old.branR ws s i z).2.1).a)]), some (.blk [.sl 2 ws.length cw, .int .i64 ((((Old.branR ws s i z).2.1).p : Nat) : Int)]), some (.lst 4 ws.length (fun zz => tkc (ws.getD zz tok0))), some (.blk (oiQ9 ((Old.branR ws s i z).2.2)))]) := rbran_ 1 ws cw s i z hk hn hw Old.regF rregn_x
section
variable {ws : List Tk} {s : Old.Rs} {i : Old.Ins} {z : Bool}
theorem xreg_le (h : s.p ≤ ws.length) : (Old.regR ws s).1.p ≤ ws.length := regG_le (rf := Old.regF) h
theorem xmem_le (h : s.p ≤ ws.length) : (Old.memR ws s i).1.p ≤ ws.length := memG_le (rf := Old.regF) h
theorem xbran_le (h : s.p ≤ ws.length) : (Old.branR ws s i z).2.1.p ≤ ws.length := branG_le (rf := Old.regF) h
theorem szb (q t : List UInt8) : 0 ≤ Old.szF q t ∧ Old.szF q t ≤ 8 := by
  unfold Old.szF Old.szI
  (repeat' split) <;> exact ⟨by decide, by decide⟩
theorem szs (q t r : List UInt8) : IntKind.wrap .i64 (Old.szF q t + Old.szF q r) = Old.szF q t + Old.szF q r := wrap_in (by have := szb q t; have := szb q r; omega)
theorem or_n {p r : Prop} [Decidable p] [Decidable r] (h : (decide p || decide r) = false) : ¬ p ∧ ¬ r := by
  rw [Bool.or_eq_false_iff] at h; exact ⟨of_decide_eq_false h.1, of_decide_eq_false h.2⟩
theorem or_y {p r : Prop} [Decidable p] [Decidable r] (h : (decide p || decide r) = true) (hr : ¬ r) : p := by
  rw [decide_eq_false hr, Bool.or_false] at h; exact of_decide_eq_true h
theorem ximm_le (h : s.p ≤ ws.length) : (Old.immR ws s).1.p ≤ ws.length := num_le (mark_le h)
end
theorem rx86_ (ws : List Tk) (cw : Nat) (s : Old.Rs) (i : Old.Ins) (q : List UInt8) (hk : s.p ≤ ws.length) (hn : ws.length ≤ 1000000) (hw : WsOK ws) : Fn Tryz.prog 33 [.ptr 0 0, .str q, .ptr 3 0] [some (.blk [.int .i64 1, .ptr 1 0, .int .i64 s.e, .int .i64 s.a]), some (.blk [.sl 2 ws.length cw, .int .i64 ((s.p : Nat) : Int)]), some (.lst 4 ws.length (fun zz => tkc (ws.getD zz tok0))), some (.blk (oiQ9 i))] (Rt (.tup [.bool ((Old.x86R ws s i q).1.1), .str ((Old.x86R ws s i q).1.2)]) [some (.blk [.int .i64 1, .ptr 1 0, .int .i64 (((Old.x86R ws s i q).2.1).e), .int .i64 (((Old.x86R ws s i q).2.1).a)]), some (.blk [.sl 2 ws.length cw, .int .i64 ((((Old.x86R ws s i q).2.1).p : Nat) : Int)]), some (.lst 4 ws.length (fun zz => tkc (ws.getD zz tok0))), some (.blk (oiQ9 ((Old.x86R ws s i q).2.2)))]) :=
 enterM (n := 211) (by kernel_rfl) Tryz.func33 rfl rfl rfl fun G w a h0 A => N hX 9 A rfl rfl fun A => CALL1 [] (ralu_x q) A rfl rfl rfl rfl rfl rfl rfl fun A => N hX 10 A rfl rfl fun A => CALL1 [] (rsized_x q [77, 79, 86]) A rfl rfl rfl rfl rfl rfl rfl fun A => N hX 6 A rfl rfl fun A => CALL1 [] (rsized_x q [88, 67, 72, 71]) A rfl rfl rfl rfl rfl rfl rfl fun A => N hX 6 A rfl rfl fun A => CALL1 [] (rsized_x q [88, 65, 68, 68]) A rfl rfl rfl rfl rfl rfl rfl fun A => N hX 12 A rfl rfl fun A => forkE 24 A rfl
  (fun h1 A => N hX 5 A rfl rfl fun A => CALL1 [0, 1, 2] (xreg5_ ws cw s hk hn hw) A rfl rfl rfl rfl rfl rfl rfl fun A => N hX 8 A rfl rfl fun A => CALL1 [0, 1, 2] (rmk_ 1 ws cw ((Old.regR ws s).1) [44] (xreg_le hk) hn hw) A rfl rfl rfl rfl rfl rfl rfl fun A => N hX 5 A rfl rfl fun A => CALL1 [0, 1, 2] (risimm_x ws cw (Old.markR ws [44] ((Old.regR ws s).1)) (mark_le (xreg_le hk)) hn hw) A rfl rfl rfl rfl rfl rfl rfl fun A => N hX 2 A rfl rfl fun A => fork 35 A rfl
   (fun h2 A => N hX 12 A rfl rfl fun A => CALL1 [0, 1, 2] (rimm_x ws cw (Old.markR ws [44] ((Old.regR ws s).1)) (mark_le (xreg_le hk)) hn hw) A rfl rfl rfl rfl rfl rfl rfl fun A => N hX 13 A rfl rfl fun A => RETN hX A rfl rfl rfl h0 rfl rfl rfl rfl (by unfold Old.x86R; rw [if_pos (Old.eqL_yes h1), if_pos h2] <;> rfl) (by unfold Old.x86R; rw [if_pos (Old.eqL_yes h1), if_pos h2] <;> rfl))
   (fun h2 A => N hX 12 A rfl rfl fun A => CALL1 [0, 1, 2] (xreg5_ ws cw (Old.markR ws [44] ((Old.regR ws s).1)) (mark_le (xreg_le hk)) hn hw) A rfl rfl rfl rfl rfl rfl rfl fun A => N hX 13 A rfl rfl fun A => RETN hX A rfl rfl rfl h0 rfl rfl rfl rfl (by unfold Old.x86R; rw [if_pos (Old.eqL_yes h1), if_neg (ne_true_of_eq_false h2)] <;> rfl) (by unfold Old.x86R; rw [if_pos (Old.eqL_yes h1), if_neg (ne_true_of_eq_false h2)] <;> rfl)))
  (fun h1 A => N hX 8 A rfl rfl fun A => forkD 52 A rfl
   (fun h3 A => N hX 22 A rfl rfl fun A => CALL1 [0, 1, 2] (xreg5_ ws cw s hk hn hw) A rfl rfl rfl rfl rfl rfl rfl fun A => N hX 20 A rfl rfl fun A => CALL1 [0, 1, 2] (rmk_ 1 ws cw ((Old.regR ws s).1) [44] (xreg_le hk) hn hw) A rfl rfl rfl rfl rfl rfl rfl fun A => N hX 5 A rfl rfl fun A => CALL1 [0, 1, 2] (risimm_x ws cw (Old.markR ws [44] ((Old.regR ws s).1)) (mark_le (xreg_le hk)) hn hw) A rfl rfl rfl rfl rfl rfl rfl fun A => N hX 2 A rfl rfl fun A => fork 77 A rfl
    (fun h4 A => N hX 4 A rfl rfl fun A => CALL1 [0, 1, 2] (rimm_x ws cw (Old.markR ws [44] ((Old.regR ws s).1)) (mark_le (xreg_le hk)) hn hw) A rfl rfl rfl rfl rfl rfl rfl fun A => N hX 13 A rfl rfl fun A => RETN hX A rfl rfl rfl h0 rfl rfl rfl rfl (by unfold Old.x86R; rw [if_neg (by rw [Old.eqL_no h1]; decide), if_pos (decide_eq_true h3), if_pos h4] <;> rfl) (by unfold Old.x86R; rw [if_neg (by rw [Old.eqL_no h1]; decide), if_pos (decide_eq_true h3), if_pos h4] <;> rfl))
    (fun h4 A => N hX 4 A rfl rfl fun A => CALL1 [0, 1, 2] (xreg5_ ws cw (Old.markR ws [44] ((Old.regR ws s).1)) (mark_le (xreg_le hk)) hn hw) A rfl rfl rfl rfl rfl rfl rfl fun A => N hX 13 A rfl rfl fun A => RETN hX A rfl rfl rfl h0 rfl rfl rfl rfl (by unfold Old.x86R; rw [if_neg (by rw [Old.eqL_no h1]; decide), if_pos (decide_eq_true h3), if_neg (ne_true_of_eq_false h4)] <;> rfl) (by unfold Old.x86R; rw [if_neg (by rw [Old.eqL_no h1]; decide), if_pos (decide_eq_true h3), if_neg (ne_true_of_eq_false h4)] <;> rfl)))
   (fun h3 A => N hX 8 A rfl rfl fun A => forkD 88 A rfl
    (fun h5 A => N hX 13 A rfl rfl fun A => CALL1 [0, 1, 2] (ris_ 1 ws cw s [91] hk hn hw) A rfl rfl rfl rfl rfl rfl rfl fun A => N hX 2 A rfl rfl fun A => fork 96 A rfl
     (fun h6 A => N hX 13 A rfl rfl fun A => CALL1 [0, 1, 2, 3] (xmem5_ ws cw s (Old.Ins.mk 5 i.dst i.a i.b i.imm i.loc i.off i.index (Old.szF q [77, 79, 86]) i.fn i.acq i.weak i.rel i.pred i.succ i.to i.zero) hk hn hw) A rfl rfl rfl rfl rfl rfl rfl fun A => N hX 5 A rfl rfl fun A => CALL1 [0, 1, 2] (rmk_ 1 ws cw ((Old.memR ws s (Old.Ins.mk 5 i.dst i.a i.b i.imm i.loc i.off i.index (Old.szF q [77, 79, 86]) i.fn i.acq i.weak i.rel i.pred i.succ i.to i.zero)).1) [44] (xmem_le hk) hn hw) A rfl rfl rfl rfl rfl rfl rfl fun A => N hX 5 A rfl rfl fun A => CALL1 [0, 1, 2] (risimm_x ws cw (Old.markR ws [44] ((Old.memR ws s (Old.Ins.mk 5 i.dst i.a i.b i.imm i.loc i.off i.index (Old.szF q [77, 79, 86]) i.fn i.acq i.weak i.rel i.pred i.succ i.to i.zero)).1)) (mark_le (xmem_le hk)) hn hw) A rfl rfl rfl rfl rfl rfl rfl fun A => N hX 2 A rfl rfl fun A => fork 106 A rfl
      (fun h7 A => N hX 4 A rfl rfl fun A => CALL1 [0, 1, 2] (rimm_x ws cw (Old.markR ws [44] ((Old.memR ws s (Old.Ins.mk 5 i.dst i.a i.b i.imm i.loc i.off i.index (Old.szF q [77, 79, 86]) i.fn i.acq i.weak i.rel i.pred i.succ i.to i.zero)).1)) (mark_le (xmem_le hk)) hn hw) A rfl rfl rfl rfl rfl rfl rfl fun A => N hX 13 A rfl rfl fun A => RETN hX A rfl rfl rfl h0 rfl rfl rfl rfl (by unfold Old.x86R; rw [if_neg (by rw [Old.eqL_no h1]; decide), if_neg (by rw [decide_eq_false h3]; decide), if_pos (decide_eq_true h5), if_pos (show (((s).e == 0) && Old.reads ws [91] (s).p) = true from h6), if_pos h7] <;> rfl) (by unfold Old.x86R; rw [if_neg (by rw [Old.eqL_no h1]; decide), if_neg (by rw [decide_eq_false h3]; decide), if_pos (decide_eq_true h5), if_pos (show (((s).e == 0) && Old.reads ws [91] (s).p) = true from h6), if_pos h7] <;> rfl))
      (fun h7 A => N hX 4 A rfl rfl fun A => CALL1 [0, 1, 2] (xreg5_ ws cw (Old.markR ws [44] ((Old.memR ws s (Old.Ins.mk 5 i.dst i.a i.b i.imm i.loc i.off i.index (Old.szF q [77, 79, 86]) i.fn i.acq i.weak i.rel i.pred i.succ i.to i.zero)).1)) (mark_le (xmem_le hk)) hn hw) A rfl rfl rfl rfl rfl rfl rfl fun A => N hX 13 A rfl rfl fun A => RETN hX A rfl rfl rfl h0 rfl rfl rfl rfl (by unfold Old.x86R; rw [if_neg (by rw [Old.eqL_no h1]; decide), if_neg (by rw [decide_eq_false h3]; decide), if_pos (decide_eq_true h5), if_pos (show (((s).e == 0) && Old.reads ws [91] (s).p) = true from h6), if_neg (ne_true_of_eq_false h7)] <;> rfl) (by unfold Old.x86R; rw [if_neg (by rw [Old.eqL_no h1]; decide), if_neg (by rw [decide_eq_false h3]; decide), if_pos (decide_eq_true h5), if_pos (show (((s).e == 0) && Old.reads ws [91] (s).p) = true from h6), if_neg (ne_true_of_eq_false h7)] <;> rfl)))
     (fun h6 A => N hX 13 A rfl rfl fun A => CALL1 [0, 1, 2] (xreg5_ ws cw s hk hn hw) A rfl rfl rfl rfl rfl rfl rfl fun A => N hX 8 A rfl rfl fun A => CALL1 [0, 1, 2] (rmk_ 1 ws cw ((Old.regR ws s).1) [44] (xreg_le hk) hn hw) A rfl rfl rfl rfl rfl rfl rfl fun A => N hX 5 A rfl rfl fun A => CALL1 [0, 1, 2, 3] (xmem5_ ws cw (Old.markR ws [44] ((Old.regR ws s).1)) (Old.Ins.mk 4 ((Old.regR ws s).2) i.a i.b i.imm i.loc i.off i.index (Old.szF q [77, 79, 86]) i.fn i.acq i.weak i.rel i.pred i.succ i.to i.zero) (mark_le (xreg_le hk)) hn hw) A rfl rfl rfl rfl rfl rfl rfl fun A => N hX 10 A rfl rfl fun A => RETN hX A rfl rfl rfl h0 rfl rfl rfl rfl (by unfold Old.x86R; rw [if_neg (by rw [Old.eqL_no h1]; decide), if_neg (by rw [decide_eq_false h3]; decide), if_pos (decide_eq_true h5), if_neg (show ¬ (((s).e == 0) && Old.reads ws [91] (s).p) = true from ne_true_of_eq_false h6)] <;> rfl) (by unfold Old.x86R; rw [if_neg (by rw [Old.eqL_no h1]; decide), if_neg (by rw [decide_eq_false h3]; decide), if_pos (decide_eq_true h5), if_neg (show ¬ (((s).e == 0) && Old.reads ws [91] (s).p) = true from ne_true_of_eq_false h6)] <;> rfl)))
    (fun h5 A => N hX 12 A rfl rfl fun A => fork 130 A rfl
     (fun h8 A => N hX 21 A rfl (ok_d (by have b1 := szb q [88, 67, 72, 71]; have b2 := szb q [88, 65, 68, 68]; omega) <| okE_nil) fun A => N hX 30 A rfl rfl fun A => forkD 156 A rfl
      (fun h9 A => N hX 13 A rfl rfl fun A => have A := A.asH (H' := [some (.blk [.int .i64 1, .ptr 1 0, .int .i64 s.e, .int .i64 s.a]), some (.blk [.sl 2 ws.length cw, .int .i64 ((s.p : Nat) : Int)]), some (.lst 4 ws.length (fun zz => tkc (ws.getD zz tok0))), some (.blk [.int .i64 6, .int .i64 i.dst, .int .i64 i.a, .int .i64 i.b, .int .i64 i.imm, .int .i64 i.loc, .int .i64 i.off, .int .i64 i.index, .int .i64 ((Old.szF q [88, 67, 72, 71]) + (Old.szF q [88, 65, 68, 68])), .int .i64 1, .bool true, .bool i.weak, .bool true, .int .i64 i.pred, .int .i64 i.succ, .int .i64 i.to, .bool i.zero])]) rfl; CALL1 [0, 1, 2, 3] (xmem5_ ws cw s (Old.Ins.mk 6 i.dst i.a i.b i.imm i.loc i.off i.index ((Old.szF q [88, 67, 72, 71]) + (Old.szF q [88, 65, 68, 68])) 1 true i.weak true i.pred i.succ i.to i.zero) hk hn hw) A rfl rfl rfl rfl rfl rfl rfl fun A => N hX 5 A rfl rfl fun A => CALL1 [0, 1, 2] (rmk_ 1 ws cw ((Old.memR ws s (Old.Ins.mk 6 i.dst i.a i.b i.imm i.loc i.off i.index ((Old.szF q [88, 67, 72, 71]) + (Old.szF q [88, 65, 68, 68])) 1 true i.weak true i.pred i.succ i.to i.zero)).1) [44] (xmem_le hk) hn hw) A rfl rfl rfl rfl rfl rfl rfl fun A => N hX 5 A rfl rfl fun A => CALL1 [0, 1, 2] (xreg5_ ws cw (Old.markR ws [44] ((Old.memR ws s (Old.Ins.mk 6 i.dst i.a i.b i.imm i.loc i.off i.index ((Old.szF q [88, 67, 72, 71]) + (Old.szF q [88, 65, 68, 68])) 1 true i.weak true i.pred i.succ i.to i.zero)).1)) (mark_le (xmem_le hk)) hn hw) A rfl rfl rfl rfl rfl rfl rfl fun A => N hX 24 A rfl rfl fun A => RETN hX A rfl rfl rfl h0 rfl rfl rfl rfl (by by_cases hs : Old.szF q [88, 67, 72, 71] > 0; (unfold Old.x86R; rw [if_neg (by rw [Old.eqL_no h1]; decide), if_neg (by rw [decide_eq_false h3]; decide), if_neg (by rw [decide_eq_false h5]; decide), if_pos (decide_eq_true hs), if_pos (decide_eq_true h9)] <;> rfl); (unfold Old.x86R; rw [if_neg (by rw [Old.eqL_no h1]; decide), if_neg (by rw [decide_eq_false h3]; decide), if_neg (by rw [decide_eq_false h5]; decide), if_neg (by rw [decide_eq_false hs]; decide), if_pos (decide_eq_true h9)] <;> rfl)) (by by_cases hs : Old.szF q [88, 67, 72, 71] > 0; (unfold Old.x86R; rw [if_neg (by rw [Old.eqL_no h1]; decide), if_neg (by rw [decide_eq_false h3]; decide), if_neg (by rw [decide_eq_false h5]; decide), if_pos (decide_eq_true hs), if_pos (decide_eq_true h9), szs] <;> rfl); (unfold Old.x86R; rw [if_neg (by rw [Old.eqL_no h1]; decide), if_neg (by rw [decide_eq_false h3]; decide), if_neg (by rw [decide_eq_false h5]; decide), if_neg (by rw [decide_eq_false hs]; decide), if_pos (decide_eq_true h9), szs] <;> rfl)))
      (fun h9 A => N hX 5 A rfl rfl fun A => CALL1 [0, 1, 2] (xreg5_ ws cw s hk hn hw) A rfl rfl rfl rfl rfl rfl rfl fun A => N hX 8 A rfl rfl fun A => CALL1 [0, 1, 2] (rmk_ 1 ws cw ((Old.regR ws s).1) [44] (xreg_le hk) hn hw) A rfl rfl rfl rfl rfl rfl rfl fun A => N hX 5 A rfl rfl fun A => have A := A.asH (H' := [some (.blk [.int .i64 1, .ptr 1 0, .int .i64 ((Old.markR ws [44] ((Old.regR ws s).1)).e), .int .i64 ((Old.markR ws [44] ((Old.regR ws s).1)).a)]), some (.blk [.sl 2 ws.length cw, .int .i64 (((Old.markR ws [44] ((Old.regR ws s).1)).p : Nat) : Int)]), some (.lst 4 ws.length (fun zz => tkc (ws.getD zz tok0))), some (.blk [.int .i64 6, .int .i64 ((Old.regR ws s).2), .int .i64 i.a, .int .i64 i.b, .int .i64 i.imm, .int .i64 i.loc, .int .i64 i.off, .int .i64 i.index, .int .i64 ((Old.szF q [88, 67, 72, 71]) + (Old.szF q [88, 65, 68, 68])), .int .i64 6, .bool true, .bool i.weak, .bool true, .int .i64 i.pred, .int .i64 i.succ, .int .i64 i.to, .bool i.zero])]) rfl; CALL1 [0, 1, 2, 3] (xmem5_ ws cw (Old.markR ws [44] ((Old.regR ws s).1)) (Old.Ins.mk 6 ((Old.regR ws s).2) i.a i.b i.imm i.loc i.off i.index ((Old.szF q [88, 67, 72, 71]) + (Old.szF q [88, 65, 68, 68])) 6 true i.weak true i.pred i.succ i.to i.zero) (mark_le (xreg_le hk)) hn hw) A rfl rfl rfl rfl rfl rfl rfl fun A => N hX 21 A rfl rfl fun A => RETN hX A rfl rfl rfl h0 rfl rfl rfl rfl (by have hs : Old.szF q [88, 67, 72, 71] > 0 := or_y h8 h9; unfold Old.x86R; rw [if_neg (by rw [Old.eqL_no h1]; decide), if_neg (by rw [decide_eq_false h3]; decide), if_neg (by rw [decide_eq_false h5]; decide), if_pos (decide_eq_true hs), if_neg (by rw [decide_eq_false h9]; decide)] <;> rfl) (by have hs : Old.szF q [88, 67, 72, 71] > 0 := or_y h8 h9; unfold Old.x86R; rw [if_neg (by rw [Old.eqL_no h1]; decide), if_neg (by rw [decide_eq_false h3]; decide), if_neg (by rw [decide_eq_false h5]; decide), if_pos (decide_eq_true hs), if_neg (by rw [decide_eq_false h9]; decide), szs] <;> rfl)))
     (fun h8 A => N hX 8 A rfl rfl fun A => forkE 187 A rfl
      (fun h10 A => N hX 32 A rfl rfl fun A => RETN hX A rfl rfl rfl h0 rfl rfl rfl rfl (by have hz := or_n h8; unfold Old.x86R; rw [if_neg (by rw [Old.eqL_no h1]; decide), if_neg (by rw [decide_eq_false h3]; decide), if_neg (by rw [decide_eq_false h5]; decide), if_neg (by rw [decide_eq_false hz.1]; decide), if_neg (by rw [decide_eq_false hz.2]; decide), if_pos (Old.eqL_yes h10)] <;> rfl) (by have hz := or_n h8; unfold Old.x86R; rw [if_neg (by rw [Old.eqL_no h1]; decide), if_neg (by rw [decide_eq_false h3]; decide), if_neg (by rw [decide_eq_false h5]; decide), if_neg (by rw [decide_eq_false hz.1]; decide), if_neg (by rw [decide_eq_false hz.2]; decide), if_pos (Old.eqL_yes h10)] <;> rfl))
      (fun h10 A => N hX 12 A rfl rfl fun A => fork 199 A rfl
       (fun h11 A => N hX 7 A rfl rfl fun A => CALL1 [0, 1, 2, 3] (xbran5_ ws cw s i (q == [74, 90]) hk hn hw) A rfl rfl rfl rfl rfl rfl rfl fun A => N hX 5 A rfl rfl fun A => RETN hX A rfl rfl rfl h0 rfl rfl rfl rfl (by have hz := or_n h8; by_cases hj : q = [74, 90]; ((try rw [beq_iff_eq.2 hj]); unfold Old.x86R; rw [if_neg (by rw [Old.eqL_no h1]; decide), if_neg (by rw [decide_eq_false h3]; decide), if_neg (by rw [decide_eq_false h5]; decide), if_neg (by rw [decide_eq_false hz.1]; decide), if_neg (by rw [decide_eq_false hz.2]; decide), if_neg (by rw [Old.eqL_no h10]; decide), if_pos (Old.eqL_yes hj)] <;> rfl); (have hk2 : q = [74, 78, 90] := (by have hh := h11; rw [beq_eq_false_iff_ne.2 hj, Bool.false_or] at hh; exact eq_of_beq hh); (try rw [beq_eq_false_iff_ne.2 hj]); unfold Old.x86R; rw [if_neg (by rw [Old.eqL_no h1]; decide), if_neg (by rw [decide_eq_false h3]; decide), if_neg (by rw [decide_eq_false h5]; decide), if_neg (by rw [decide_eq_false hz.1]; decide), if_neg (by rw [decide_eq_false hz.2]; decide), if_neg (by rw [Old.eqL_no h10]; decide), if_neg (by rw [Old.eqL_no hj]; decide), if_pos (Old.eqL_yes hk2)] <;> rfl)) (by have hz := or_n h8; by_cases hj : q = [74, 90]; ((try rw [beq_iff_eq.2 hj]); unfold Old.x86R; rw [if_neg (by rw [Old.eqL_no h1]; decide), if_neg (by rw [decide_eq_false h3]; decide), if_neg (by rw [decide_eq_false h5]; decide), if_neg (by rw [decide_eq_false hz.1]; decide), if_neg (by rw [decide_eq_false hz.2]; decide), if_neg (by rw [Old.eqL_no h10]; decide), if_pos (Old.eqL_yes hj)] <;> rfl); (have hk2 : q = [74, 78, 90] := (by have hh := h11; rw [beq_eq_false_iff_ne.2 hj, Bool.false_or] at hh; exact eq_of_beq hh); (try rw [beq_eq_false_iff_ne.2 hj]); unfold Old.x86R; rw [if_neg (by rw [Old.eqL_no h1]; decide), if_neg (by rw [decide_eq_false h3]; decide), if_neg (by rw [decide_eq_false h5]; decide), if_neg (by rw [decide_eq_false hz.1]; decide), if_neg (by rw [decide_eq_false hz.2]; decide), if_neg (by rw [Old.eqL_no h10]; decide), if_neg (by rw [Old.eqL_no hj]; decide), if_pos (Old.eqL_yes hk2)] <;> rfl)))
       (fun h11 A => N hX 8 A rfl rfl fun A => RETN hX A rfl rfl rfl h0 rfl rfl rfl rfl (by have hz := or_n h8; have hh := h11; rw [Bool.or_eq_false_iff] at hh; unfold Old.x86R; rw [if_neg (by rw [Old.eqL_no h1]; decide), if_neg (by rw [decide_eq_false h3]; decide), if_neg (by rw [decide_eq_false h5]; decide), if_neg (by rw [decide_eq_false hz.1]; decide), if_neg (by rw [decide_eq_false hz.2]; decide), if_neg (by rw [Old.eqL_no h10]; decide), if_neg (by rw [Old.eqL_no (beq_eq_false_iff_ne.1 hh.1)]; decide), if_neg (by rw [Old.eqL_no (beq_eq_false_iff_ne.1 hh.2)]; decide)] <;> rfl) (by have hz := or_n h8; have hh := h11; rw [Bool.or_eq_false_iff] at hh; unfold Old.x86R; rw [if_neg (by rw [Old.eqL_no h1]; decide), if_neg (by rw [decide_eq_false h3]; decide), if_neg (by rw [decide_eq_false h5]; decide), if_neg (by rw [decide_eq_false hz.1]; decide), if_neg (by rw [decide_eq_false hz.2]; decide), if_neg (by rw [Old.eqL_no h10]; decide), if_neg (by rw [Old.eqL_no (beq_eq_false_iff_ne.1 hh.1)]; decide), if_neg (by rw [Old.eqL_no (beq_eq_false_iff_ne.1 hh.2)]; decide)] <;> rfl)))))))
def frO (i : Old.Ins) : In := ⟨i.op, i.dst, i.a, i.b, i.imm, i.loc, i.off, i.index, i.size, i.fn, i.acq, i.weak, i.rel, i.pred, i.succ, i.to, i.zero⟩
section
variable {ws : List Tk} {s : Old.Rs} {i : Old.Ins}
theorem pr_bad (h : ((!(decide (0 < ws.length))) || (!((ws.getD 0 tok0).kind == 1))) = true) : Old.parR ws = (Old.ins0, [], (Old.oddR ws true ⟨0, 0, 0⟩).e, (Old.oddR ws true ⟨0, 0, 0⟩).a) := by
  unfold Old.parR
  by_cases hl : 0 < ws.length
  · rw [tk_get hl]
    rw [decide_eq_true hl] at h
    simp only
    rw [if_neg]
    · rfl
    · revert h
      cases ((ws.getD 0 tok0).kind == 1) <;> decide
  · rw [tk_non hl]; rfl
theorem pr_go (h : ((!(decide (0 < ws.length))) || (!((ws.getD 0 tok0).kind == 1))) = false) : Old.parR ws = Old.finR ws (Old.x86R ws ⟨0, 0, nxK ws 0⟩ Old.blank (ws.getD 0 tok0).text) := by
  unfold Old.parR
  by_cases hl : 0 < ws.length
  · rw [tk_get hl, nxK_y hl]
    rw [decide_eq_true hl] at h
    simp only
    rw [if_pos]
    revert h
    cases ((ws.getD 0 tok0).kind == 1) <;> decide
  · rw [decide_eq_false hl] at h; cases h
theorem more_y (h : s.p < ws.length) : Old.moreR ws s = Old.failR s 25 (ws.getD s.p tok0).at_ := by unfold Old.moreR; rw [tk_get h]
theorem more_n (h : ¬ s.p < ws.length) : Old.moreR ws s = s := by unfold Old.moreR; rw [tk_non h]
theorem last_n (h : s.e ≠ 0) : Old.lastR ws s i = s := by unfold Old.lastR; rw [beq_eq_false_iff_ne.2 h]; rfl
theorem last_y (h : s.e = 0) (hr : Old.rightR (Old.asB i) 0 1 = 0) : Old.lastR ws s i = s := by unfold Old.lastR; rw [beq_iff_eq.2 h, beq_iff_eq.2 hr]; rfl
theorem last_b (hw : WsOK ws) (h : s.e = 0) (hr : Old.rightR (Old.asB i) 0 1 ≠ 0) : Old.lastR ws s i = Old.failR s 34 (atW ws 0) := by unfold Old.lastR; rw [beq_iff_eq.2 h, beq_eq_false_iff_ne.2 hr, where_at hw]; rfl
theorem asb_y (h : i.op = 9) : Old.asB i = { i with to := 1 } := by unfold Old.asB; rw [beq_iff_eq.2 h]; rfl
theorem asb_n (h : i.op ≠ 9) : Old.asB i = i := by unfold Old.asB; rw [beq_eq_false_iff_ne.2 h]; rfl
theorem out_y {l : List UInt8} (h : s.e = 0) : Old.outR s i l = (i, l, 0, 0) := by unfold Old.outR; rw [beq_iff_eq.2 h]; rfl
theorem out_n {l : List UInt8} (h : s.e ≠ 0) : Old.outR s i l = (Old.ins0, [], s.e, s.a) := by unfold Old.outR; rw [beq_eq_false_iff_ne.2 h]; rfl
theorem fin_y {r : (Bool × List UInt8) × Old.Rs × Old.Ins} (h : r.1.1 = true) : Old.finR ws r = Old.outR (Old.lastR ws (Old.moreR ws r.2.1) r.2.2) r.2.2 r.1.2 := by unfold Old.finR; rw [h]; rfl
theorem fin_n {r : (Bool × List UInt8) × Old.Rs × Old.Ins} (hw : WsOK ws) (h : r.1.1 = false) : Old.finR ws r = (Old.ins0, [], 21, atW ws 0) := by unfold Old.finR; rw [h, where_at hw]; rfl
theorem x86_le {q : List UInt8} (h : s.p ≤ ws.length) : (Old.x86R ws s i q).2.1.p ≤ ws.length := by
  unfold Old.x86R
  (repeat' split) <;> (repeat (first | exact h | apply mark_le | apply xreg_le | apply xmem_le | apply xbran_le | apply ximm_le))
end
theorem rblank5_   : Fn Tryz.prog 32 [] [] (Rt (.agg [.int .i64 0, .int .i64 (-1), .int .i64 (-1), .int .i64 (-1), .int .i64 0, .int .i64 0, .int .i64 0, .int .i64 (-1), .int .i64 0, .int .i64 0, .ff, .ff, .ff, .int .i64 0, .int .i64 0, .int .i64 0, .ff]) []) :=
 enterM (n := 2) (by kernel_rfl) Tryz.func32 rfl rfl rfl fun G w a h0 A => N hX 12 A rfl rfl fun A => RETN hX A rfl rfl rfl h0 rfl rfl rfl rfl rfl rfl
theorem rparse5_ (ws : List Tk) (cw : Nat) (hn : ws.length ≤ 1000000) (hw : WsOK ws) : Fn Tryz.prog 12 [.int .i64 1, .sl 0 ws.length cw] [some (.lst 4 ws.length (fun zz => tkc (ws.getD zz tok0)))] (Rt (.tup [.agg (oiQ9 ((Old.parR ws).1)), .str ((Old.parR ws).2.1), .int .i64 ((Old.parR ws).2.2.1), .int .i64 ((Old.parR ws).2.2.2)]) [some (.lst 4 ws.length (fun zz => tkc (ws.getD zz tok0)))]) :=
 enterM (n := 140) (by kernel_rfl) Tryz.func12 rfl rfl rfl fun G w a h0 A => N hX 25 A rfl rfl fun A => CALL1 [2, 0] (rpeek_ ws cw 0 (Nat.zero_le _) hn) A rfl rfl rfl rfl rfl rfl rfl fun A => N hX 14 A rfl rfl fun A => CALL1 [2, 0] (rwhere_ ws cw 0 (Nat.zero_le _) hn hw) A rfl rfl rfl rfl rfl rfl rfl fun A => N hX 15 A rfl rfl fun A => fork 43 A rfl
  (fun h1 A => N hX 4 A rfl rfl fun A => CALL1 [3, 2, 0] (roddT_ 1 ws cw (⟨0, 0, 0⟩ : Old.Rs) (Nat.zero_le _) hn hw) A rfl rfl rfl rfl rfl rfl rfl fun A => N hX 3 A rfl rfl fun A => DRAWN hX hmo [] [] A rfl rfl rfl rfl (by kernel_rfl) (effAll_nil _ _) trivial fun A => N hX 2 A rfl rfl fun A => RETN hX A rfl rfl rfl h0 rfl rfl rfl rfl (by rw [pr_bad h1] <;> rfl) rfl)
  (fun h1 A => N hX 9 A rfl rfl fun A => CALL1 [2, 0] (rnext_ ws cw 0 (Nat.zero_le _) hn) A rfl rfl rfl rfl rfl rfl rfl fun A => N hX 4 A rfl rfl fun A => CALL1 [] rblank5_ A rfl rfl rfl rfl rfl rfl rfl fun A => N hX 27 A rfl rfl fun A => forkE 62 A rfl
   (fun h2 A => N hX 5 A rfl rfl fun A => have A := A.asH (H' := [some (.lst 4 ws.length (fun zz => tkc (ws.getD zz tok0))), some (.blk [.int .i64 0, .int .i64 0, .int .i64 0, .int .i64 0, .int .i64 0, .int .i64 0, .int .i64 0, .int .i64 0, .int .i64 0, .int .i64 0, .ff, .ff, .ff, .int .i64 0, .int .i64 0, .int .i64 0, .ff]), some (.blk [.sl 0 ws.length cw, .int .i64 ((nxK ws 0 : Nat) : Int)]), some (.blk [.int .i64 1, .ptr 2 0, .int .i64 0, .int .i64 0]), some (.blk [.int .i64 ((ws.getD 0 tok0).kind), .str ((ws.getD 0 tok0).text), .int .i64 ((ws.getD 0 tok0).n), .int .i64 ((ws.getD 0 tok0).at_)]), some (.blk (oiQ9 Old.blank))]) rfl; CALL1 [3, 2, 0, 5] (rx86_ ws cw (⟨0, 0, nxK ws 0⟩ : Old.Rs) Old.blank ((ws.getD 0 tok0).text) (nxK_le (Nat.zero_le _)) hn hw) A rfl rfl rfl rfl rfl rfl rfl fun A => N hX 15 A rfl rfl fun A => fork 90 A rfl
    (fun h3 A => N hX 12 A rfl rfl fun A => RETN hX A rfl rfl rfl h0 rfl rfl rfl rfl (by rw [pr_go h1, fin_n hw (by simpa using h3)] <;> rfl) rfl)
    (fun h3 A => N hX 9 A rfl rfl fun A => CALL1 [2, 0] (rpeek_ ws cw (((Old.x86R ws (⟨0, 0, nxK ws 0⟩ : Old.Rs) Old.blank ((ws.getD 0 tok0).text)).2.1).p) (x86_le (nxK_le (Nat.zero_le _))) hn) A rfl rfl rfl rfl rfl rfl rfl fun A => N hX 14 A rfl rfl fun A => forkD 101 A rfl
     (fun h4 A => N hX 5 A rfl rfl fun A => CALL1 [3, 2, 0] (rfail_ 1 ws cw ((Old.x86R ws (⟨0, 0, nxK ws 0⟩ : Old.Rs) Old.blank ((ws.getD 0 tok0).text)).2.1) 25 ((ws.getD (((Old.x86R ws (⟨0, 0, nxK ws 0⟩ : Old.Rs) Old.blank ((ws.getD 0 tok0).text)).2.1).p) tok0).at_) (x86_le (nxK_le (Nat.zero_le _))) hn hw) A rfl rfl rfl rfl rfl rfl rfl fun A => N hX 17 A rfl rfl fun A => forkE 109 A rfl
      (fun h5 A => N hX 15 A rfl rfl fun A => forkE 116 A rfl
       (fun h6 A => N hX 1 A rfl rfl fun A => CALL1 [] (fn_asX (rright_ (frO (Old.Ins.mk (((Old.x86R ws (⟨0, 0, nxK ws 0⟩ : Old.Rs) Old.blank ((ws.getD 0 tok0).text)).2.2).op) (((Old.x86R ws (⟨0, 0, nxK ws 0⟩ : Old.Rs) Old.blank ((ws.getD 0 tok0).text)).2.2).dst) (((Old.x86R ws (⟨0, 0, nxK ws 0⟩ : Old.Rs) Old.blank ((ws.getD 0 tok0).text)).2.2).a) (((Old.x86R ws (⟨0, 0, nxK ws 0⟩ : Old.Rs) Old.blank ((ws.getD 0 tok0).text)).2.2).b) (((Old.x86R ws (⟨0, 0, nxK ws 0⟩ : Old.Rs) Old.blank ((ws.getD 0 tok0).text)).2.2).imm) (((Old.x86R ws (⟨0, 0, nxK ws 0⟩ : Old.Rs) Old.blank ((ws.getD 0 tok0).text)).2.2).loc) (((Old.x86R ws (⟨0, 0, nxK ws 0⟩ : Old.Rs) Old.blank ((ws.getD 0 tok0).text)).2.2).off) (((Old.x86R ws (⟨0, 0, nxK ws 0⟩ : Old.Rs) Old.blank ((ws.getD 0 tok0).text)).2.2).index) (((Old.x86R ws (⟨0, 0, nxK ws 0⟩ : Old.Rs) Old.blank ((ws.getD 0 tok0).text)).2.2).size) (((Old.x86R ws (⟨0, 0, nxK ws 0⟩ : Old.Rs) Old.blank ((ws.getD 0 tok0).text)).2.2).fn) (((Old.x86R ws (⟨0, 0, nxK ws 0⟩ : Old.Rs) Old.blank ((ws.getD 0 tok0).text)).2.2).acq) (((Old.x86R ws (⟨0, 0, nxK ws 0⟩ : Old.Rs) Old.blank ((ws.getD 0 tok0).text)).2.2).weak) (((Old.x86R ws (⟨0, 0, nxK ws 0⟩ : Old.Rs) Old.blank ((ws.getD 0 tok0).text)).2.2).rel) (((Old.x86R ws (⟨0, 0, nxK ws 0⟩ : Old.Rs) Old.blank ((ws.getD 0 tok0).text)).2.2).pred) (((Old.x86R ws (⟨0, 0, nxK ws 0⟩ : Old.Rs) Old.blank ((ws.getD 0 tok0).text)).2.2).succ) 1 (((Old.x86R ws (⟨0, 0, nxK ws 0⟩ : Old.Rs) Old.blank ((ws.getD 0 tok0).text)).2.2).zero))) 0 1) (as_int (rright_o (frO (Old.Ins.mk (((Old.x86R ws (⟨0, 0, nxK ws 0⟩ : Old.Rs) Old.blank ((ws.getD 0 tok0).text)).2.2).op) (((Old.x86R ws (⟨0, 0, nxK ws 0⟩ : Old.Rs) Old.blank ((ws.getD 0 tok0).text)).2.2).dst) (((Old.x86R ws (⟨0, 0, nxK ws 0⟩ : Old.Rs) Old.blank ((ws.getD 0 tok0).text)).2.2).a) (((Old.x86R ws (⟨0, 0, nxK ws 0⟩ : Old.Rs) Old.blank ((ws.getD 0 tok0).text)).2.2).b) (((Old.x86R ws (⟨0, 0, nxK ws 0⟩ : Old.Rs) Old.blank ((ws.getD 0 tok0).text)).2.2).imm) (((Old.x86R ws (⟨0, 0, nxK ws 0⟩ : Old.Rs) Old.blank ((ws.getD 0 tok0).text)).2.2).loc) (((Old.x86R ws (⟨0, 0, nxK ws 0⟩ : Old.Rs) Old.blank ((ws.getD 0 tok0).text)).2.2).off) (((Old.x86R ws (⟨0, 0, nxK ws 0⟩ : Old.Rs) Old.blank ((ws.getD 0 tok0).text)).2.2).index) (((Old.x86R ws (⟨0, 0, nxK ws 0⟩ : Old.Rs) Old.blank ((ws.getD 0 tok0).text)).2.2).size) (((Old.x86R ws (⟨0, 0, nxK ws 0⟩ : Old.Rs) Old.blank ((ws.getD 0 tok0).text)).2.2).fn) (((Old.x86R ws (⟨0, 0, nxK ws 0⟩ : Old.Rs) Old.blank ((ws.getD 0 tok0).text)).2.2).acq) (((Old.x86R ws (⟨0, 0, nxK ws 0⟩ : Old.Rs) Old.blank ((ws.getD 0 tok0).text)).2.2).weak) (((Old.x86R ws (⟨0, 0, nxK ws 0⟩ : Old.Rs) Old.blank ((ws.getD 0 tok0).text)).2.2).rel) (((Old.x86R ws (⟨0, 0, nxK ws 0⟩ : Old.Rs) Old.blank ((ws.getD 0 tok0).text)).2.2).pred) (((Old.x86R ws (⟨0, 0, nxK ws 0⟩ : Old.Rs) Old.blank ((ws.getD 0 tok0).text)).2.2).succ) 1 (((Old.x86R ws (⟨0, 0, nxK ws 0⟩ : Old.Rs) Old.blank ((ws.getD 0 tok0).text)).2.2).zero))) 0 1))) A rfl rfl rfl rfl rfl rfl rfl fun A => N hX 4 A rfl rfl fun A => forkN 120 A rfl
        (fun h7 A => N hX 4 A rfl rfl fun A => CALL1 [3, 2, 0] (rfail_ 1 ws cw (Old.failR ((Old.x86R ws (⟨0, 0, nxK ws 0⟩ : Old.Rs) Old.blank ((ws.getD 0 tok0).text)).2.1) 25 ((ws.getD (((Old.x86R ws (⟨0, 0, nxK ws 0⟩ : Old.Rs) Old.blank ((ws.getD 0 tok0).text)).2.1).p) tok0).at_)) 34 (atW ws 0) (fail_le (x86_le (nxK_le (Nat.zero_le _)))) hn hw) A rfl rfl rfl rfl rfl rfl rfl fun A => N hX 12 A rfl rfl fun A => forkN 128 A rfl
         (fun h8 A => N hX 2 A rfl rfl fun A => DRAWN hX hmo [] [] A rfl rfl rfl rfl (by kernel_rfl) (effAll_nil _ _) trivial fun A => N hX 2 A rfl rfl fun A => RETN hX A rfl rfl rfl h0 rfl rfl rfl rfl (by rw [pr_go h1, fin_y (by simpa using h3), more_y h4, last_b hw h6 (by rw [asb_y h5]; exact h7), out_n h8] <;> rfl) rfl)
         (fun h8 A => N hX 14 A rfl rfl fun A => RETN hX A rfl rfl rfl h0 rfl rfl rfl rfl (by rw [pr_go h1, fin_y (by simpa using h3), more_y h4, last_b hw h6 (by rw [asb_y h5]; exact h7), out_y h8] <;> rfl) rfl))
        (fun h7 A => N hX 13 A rfl rfl fun A => forkN 128 A rfl
         (fun h9 A => N hX 2 A rfl rfl fun A => DRAWN hX hmo [] [] A rfl rfl rfl rfl (by kernel_rfl) (effAll_nil _ _) trivial fun A => N hX 2 A rfl rfl fun A => RETN hX A rfl rfl rfl h0 rfl rfl rfl rfl (by rw [pr_go h1, fin_y (by simpa using h3), more_y h4, last_y h6 (by rw [asb_y h5]; exact h7), out_n h9] <;> rfl) rfl)
         (fun h9 A => N hX 14 A rfl rfl fun A => RETN hX A rfl rfl rfl h0 rfl rfl rfl rfl (by rw [pr_go h1, fin_y (by simpa using h3), more_y h4, last_y h6 (by rw [asb_y h5]; exact h7), out_y h9] <;> rfl) rfl)))
       (fun h6 A => N hX 19 A rfl rfl fun A => forkN 128 A rfl
        (fun h10 A => N hX 2 A rfl rfl fun A => DRAWN hX hmo [] [] A rfl rfl rfl rfl (by kernel_rfl) (effAll_nil _ _) trivial fun A => N hX 2 A rfl rfl fun A => RETN hX A rfl rfl rfl h0 rfl rfl rfl rfl (by rw [pr_go h1, fin_y (by simpa using h3), more_y h4, last_n h6, out_n h10] <;> rfl) rfl)
        (fun h10 A => N hX 14 A rfl rfl fun A => RETN hX A rfl rfl rfl h0 rfl rfl rfl rfl (by rw [pr_go h1, fin_y (by simpa using h3), more_y h4, last_n h6, out_y h10] <;> rfl) rfl)))
      (fun h5 A => N hX 12 A rfl rfl fun A => forkE 116 A rfl
       (fun h11 A => N hX 1 A rfl rfl fun A => CALL1 [] (fn_asX (rright_ (frO ((Old.x86R ws (⟨0, 0, nxK ws 0⟩ : Old.Rs) Old.blank ((ws.getD 0 tok0).text)).2.2)) 0 1) (as_int (rright_o (frO ((Old.x86R ws (⟨0, 0, nxK ws 0⟩ : Old.Rs) Old.blank ((ws.getD 0 tok0).text)).2.2)) 0 1))) A rfl rfl rfl rfl rfl rfl rfl fun A => N hX 4 A rfl rfl fun A => forkN 120 A rfl
        (fun h12 A => N hX 4 A rfl rfl fun A => CALL1 [3, 2, 0] (rfail_ 1 ws cw (Old.failR ((Old.x86R ws (⟨0, 0, nxK ws 0⟩ : Old.Rs) Old.blank ((ws.getD 0 tok0).text)).2.1) 25 ((ws.getD (((Old.x86R ws (⟨0, 0, nxK ws 0⟩ : Old.Rs) Old.blank ((ws.getD 0 tok0).text)).2.1).p) tok0).at_)) 34 (atW ws 0) (fail_le (x86_le (nxK_le (Nat.zero_le _)))) hn hw) A rfl rfl rfl rfl rfl rfl rfl fun A => N hX 12 A rfl rfl fun A => forkN 128 A rfl
         (fun h13 A => N hX 2 A rfl rfl fun A => DRAWN hX hmo [] [] A rfl rfl rfl rfl (by kernel_rfl) (effAll_nil _ _) trivial fun A => N hX 2 A rfl rfl fun A => RETN hX A rfl rfl rfl h0 rfl rfl rfl rfl (by rw [pr_go h1, fin_y (by simpa using h3), more_y h4, last_b hw h11 (by rw [asb_n h5]; exact h12), out_n h13] <;> rfl) rfl)
         (fun h13 A => N hX 14 A rfl rfl fun A => RETN hX A rfl rfl rfl h0 rfl rfl rfl rfl (by rw [pr_go h1, fin_y (by simpa using h3), more_y h4, last_b hw h11 (by rw [asb_n h5]; exact h12), out_y h13] <;> rfl) rfl))
        (fun h12 A => N hX 13 A rfl rfl fun A => forkN 128 A rfl
         (fun h14 A => N hX 2 A rfl rfl fun A => DRAWN hX hmo [] [] A rfl rfl rfl rfl (by kernel_rfl) (effAll_nil _ _) trivial fun A => N hX 2 A rfl rfl fun A => RETN hX A rfl rfl rfl h0 rfl rfl rfl rfl (by rw [pr_go h1, fin_y (by simpa using h3), more_y h4, last_y h11 (by rw [asb_n h5]; exact h12), out_n h14] <;> rfl) rfl)
         (fun h14 A => N hX 14 A rfl rfl fun A => RETN hX A rfl rfl rfl h0 rfl rfl rfl rfl (by rw [pr_go h1, fin_y (by simpa using h3), more_y h4, last_y h11 (by rw [asb_n h5]; exact h12), out_y h14] <;> rfl) rfl)))
       (fun h11 A => N hX 19 A rfl rfl fun A => forkN 128 A rfl
        (fun h15 A => N hX 2 A rfl rfl fun A => DRAWN hX hmo [] [] A rfl rfl rfl rfl (by kernel_rfl) (effAll_nil _ _) trivial fun A => N hX 2 A rfl rfl fun A => RETN hX A rfl rfl rfl h0 rfl rfl rfl rfl (by rw [pr_go h1, fin_y (by simpa using h3), more_y h4, last_n h11, out_n h15] <;> rfl) rfl)
        (fun h15 A => N hX 14 A rfl rfl fun A => RETN hX A rfl rfl rfl h0 rfl rfl rfl rfl (by rw [pr_go h1, fin_y (by simpa using h3), more_y h4, last_n h11, out_y h15] <;> rfl) rfl))))
     (fun h4 A => N hX 18 A rfl rfl fun A => forkE 109 A rfl
      (fun h16 A => N hX 15 A rfl rfl fun A => forkE 116 A rfl
       (fun h17 A => N hX 1 A rfl rfl fun A => CALL1 [] (fn_asX (rright_ (frO (Old.Ins.mk (((Old.x86R ws (⟨0, 0, nxK ws 0⟩ : Old.Rs) Old.blank ((ws.getD 0 tok0).text)).2.2).op) (((Old.x86R ws (⟨0, 0, nxK ws 0⟩ : Old.Rs) Old.blank ((ws.getD 0 tok0).text)).2.2).dst) (((Old.x86R ws (⟨0, 0, nxK ws 0⟩ : Old.Rs) Old.blank ((ws.getD 0 tok0).text)).2.2).a) (((Old.x86R ws (⟨0, 0, nxK ws 0⟩ : Old.Rs) Old.blank ((ws.getD 0 tok0).text)).2.2).b) (((Old.x86R ws (⟨0, 0, nxK ws 0⟩ : Old.Rs) Old.blank ((ws.getD 0 tok0).text)).2.2).imm) (((Old.x86R ws (⟨0, 0, nxK ws 0⟩ : Old.Rs) Old.blank ((ws.getD 0 tok0).text)).2.2).loc) (((Old.x86R ws (⟨0, 0, nxK ws 0⟩ : Old.Rs) Old.blank ((ws.getD 0 tok0).text)).2.2).off) (((Old.x86R ws (⟨0, 0, nxK ws 0⟩ : Old.Rs) Old.blank ((ws.getD 0 tok0).text)).2.2).index) (((Old.x86R ws (⟨0, 0, nxK ws 0⟩ : Old.Rs) Old.blank ((ws.getD 0 tok0).text)).2.2).size) (((Old.x86R ws (⟨0, 0, nxK ws 0⟩ : Old.Rs) Old.blank ((ws.getD 0 tok0).text)).2.2).fn) (((Old.x86R ws (⟨0, 0, nxK ws 0⟩ : Old.Rs) Old.blank ((ws.getD 0 tok0).text)).2.2).acq) (((Old.x86R ws (⟨0, 0, nxK ws 0⟩ : Old.Rs) Old.blank ((ws.getD 0 tok0).text)).2.2).weak) (((Old.x86R ws (⟨0, 0, nxK ws 0⟩ : Old.Rs) Old.blank ((ws.getD 0 tok0).text)).2.2).rel) (((Old.x86R ws (⟨0, 0, nxK ws 0⟩ : Old.Rs) Old.blank ((ws.getD 0 tok0).text)).2.2).pred) (((Old.x86R ws (⟨0, 0, nxK ws 0⟩ : Old.Rs) Old.blank ((ws.getD 0 tok0).text)).2.2).succ) 1 (((Old.x86R ws (⟨0, 0, nxK ws 0⟩ : Old.Rs) Old.blank ((ws.getD 0 tok0).text)).2.2).zero))) 0 1) (as_int (rright_o (frO (Old.Ins.mk (((Old.x86R ws (⟨0, 0, nxK ws 0⟩ : Old.Rs) Old.blank ((ws.getD 0 tok0).text)).2.2).op) (((Old.x86R ws (⟨0, 0, nxK ws 0⟩ : Old.Rs) Old.blank ((ws.getD 0 tok0).text)).2.2).dst) (((Old.x86R ws (⟨0, 0, nxK ws 0⟩ : Old.Rs) Old.blank ((ws.getD 0 tok0).text)).2.2).a) (((Old.x86R ws (⟨0, 0, nxK ws 0⟩ : Old.Rs) Old.blank ((ws.getD 0 tok0).text)).2.2).b) (((Old.x86R ws (⟨0, 0, nxK ws 0⟩ : Old.Rs) Old.blank ((ws.getD 0 tok0).text)).2.2).imm) (((Old.x86R ws (⟨0, 0, nxK ws 0⟩ : Old.Rs) Old.blank ((ws.getD 0 tok0).text)).2.2).loc) (((Old.x86R ws (⟨0, 0, nxK ws 0⟩ : Old.Rs) Old.blank ((ws.getD 0 tok0).text)).2.2).off) (((Old.x86R ws (⟨0, 0, nxK ws 0⟩ : Old.Rs) Old.blank ((ws.getD 0 tok0).text)).2.2).index) (((Old.x86R ws (⟨0, 0, nxK ws 0⟩ : Old.Rs) Old.blank ((ws.getD 0 tok0).text)).2.2).size) (((Old.x86R ws (⟨0, 0, nxK ws 0⟩ : Old.Rs) Old.blank ((ws.getD 0 tok0).text)).2.2).fn) (((Old.x86R ws (⟨0, 0, nxK ws 0⟩ : Old.Rs) Old.blank ((ws.getD 0 tok0).text)).2.2).acq) (((Old.x86R ws (⟨0, 0, nxK ws 0⟩ : Old.Rs) Old.blank ((ws.getD 0 tok0).text)).2.2).weak) (((Old.x86R ws (⟨0, 0, nxK ws 0⟩ : Old.Rs) Old.blank ((ws.getD 0 tok0).text)).2.2).rel) (((Old.x86R ws (⟨0, 0, nxK ws 0⟩ : Old.Rs) Old.blank ((ws.getD 0 tok0).text)).2.2).pred) (((Old.x86R ws (⟨0, 0, nxK ws 0⟩ : Old.Rs) Old.blank ((ws.getD 0 tok0).text)).2.2).succ) 1 (((Old.x86R ws (⟨0, 0, nxK ws 0⟩ : Old.Rs) Old.blank ((ws.getD 0 tok0).text)).2.2).zero))) 0 1))) A rfl rfl rfl rfl rfl rfl rfl fun A => N hX 4 A rfl rfl fun A => forkN 120 A rfl
        (fun h18 A => N hX 4 A rfl rfl fun A => CALL1 [3, 2, 0] (rfail_ 1 ws cw ((Old.x86R ws (⟨0, 0, nxK ws 0⟩ : Old.Rs) Old.blank ((ws.getD 0 tok0).text)).2.1) 34 (atW ws 0) (x86_le (nxK_le (Nat.zero_le _))) hn hw) A rfl rfl rfl rfl rfl rfl rfl fun A => N hX 12 A rfl rfl fun A => forkN 128 A rfl
         (fun h19 A => N hX 2 A rfl rfl fun A => DRAWN hX hmo [] [] A rfl rfl rfl rfl (by kernel_rfl) (effAll_nil _ _) trivial fun A => N hX 2 A rfl rfl fun A => RETN hX A rfl rfl rfl h0 rfl rfl rfl rfl (by rw [pr_go h1, fin_y (by simpa using h3), more_n h4, last_b hw h17 (by rw [asb_y h16]; exact h18), out_n h19] <;> rfl) rfl)
         (fun h19 A => N hX 14 A rfl rfl fun A => RETN hX A rfl rfl rfl h0 rfl rfl rfl rfl (by rw [pr_go h1, fin_y (by simpa using h3), more_n h4, last_b hw h17 (by rw [asb_y h16]; exact h18), out_y h19] <;> rfl) rfl))
        (fun h18 A => N hX 13 A rfl rfl fun A => forkN 128 A rfl
         (fun h20 A => N hX 2 A rfl rfl fun A => DRAWN hX hmo [] [] A rfl rfl rfl rfl (by kernel_rfl) (effAll_nil _ _) trivial fun A => N hX 2 A rfl rfl fun A => RETN hX A rfl rfl rfl h0 rfl rfl rfl rfl (by rw [pr_go h1, fin_y (by simpa using h3), more_n h4, last_y h17 (by rw [asb_y h16]; exact h18), out_n h20] <;> rfl) rfl)
         (fun h20 A => N hX 14 A rfl rfl fun A => RETN hX A rfl rfl rfl h0 rfl rfl rfl rfl (by rw [pr_go h1, fin_y (by simpa using h3), more_n h4, last_y h17 (by rw [asb_y h16]; exact h18), out_y h20] <;> rfl) rfl)))
       (fun h17 A => N hX 19 A rfl rfl fun A => forkN 128 A rfl
        (fun h21 A => N hX 2 A rfl rfl fun A => DRAWN hX hmo [] [] A rfl rfl rfl rfl (by kernel_rfl) (effAll_nil _ _) trivial fun A => N hX 2 A rfl rfl fun A => RETN hX A rfl rfl rfl h0 rfl rfl rfl rfl (by rw [pr_go h1, fin_y (by simpa using h3), more_n h4, last_n h17, out_n h21] <;> rfl) rfl)
        (fun h21 A => N hX 14 A rfl rfl fun A => RETN hX A rfl rfl rfl h0 rfl rfl rfl rfl (by rw [pr_go h1, fin_y (by simpa using h3), more_n h4, last_n h17, out_y h21] <;> rfl) rfl)))
      (fun h16 A => N hX 12 A rfl rfl fun A => forkE 116 A rfl
       (fun h22 A => N hX 1 A rfl rfl fun A => CALL1 [] (fn_asX (rright_ (frO ((Old.x86R ws (⟨0, 0, nxK ws 0⟩ : Old.Rs) Old.blank ((ws.getD 0 tok0).text)).2.2)) 0 1) (as_int (rright_o (frO ((Old.x86R ws (⟨0, 0, nxK ws 0⟩ : Old.Rs) Old.blank ((ws.getD 0 tok0).text)).2.2)) 0 1))) A rfl rfl rfl rfl rfl rfl rfl fun A => N hX 4 A rfl rfl fun A => forkN 120 A rfl
        (fun h23 A => N hX 4 A rfl rfl fun A => CALL1 [3, 2, 0] (rfail_ 1 ws cw ((Old.x86R ws (⟨0, 0, nxK ws 0⟩ : Old.Rs) Old.blank ((ws.getD 0 tok0).text)).2.1) 34 (atW ws 0) (x86_le (nxK_le (Nat.zero_le _))) hn hw) A rfl rfl rfl rfl rfl rfl rfl fun A => N hX 12 A rfl rfl fun A => forkN 128 A rfl
         (fun h24 A => N hX 2 A rfl rfl fun A => DRAWN hX hmo [] [] A rfl rfl rfl rfl (by kernel_rfl) (effAll_nil _ _) trivial fun A => N hX 2 A rfl rfl fun A => RETN hX A rfl rfl rfl h0 rfl rfl rfl rfl (by rw [pr_go h1, fin_y (by simpa using h3), more_n h4, last_b hw h22 (by rw [asb_n h16]; exact h23), out_n h24] <;> rfl) rfl)
         (fun h24 A => N hX 14 A rfl rfl fun A => RETN hX A rfl rfl rfl h0 rfl rfl rfl rfl (by rw [pr_go h1, fin_y (by simpa using h3), more_n h4, last_b hw h22 (by rw [asb_n h16]; exact h23), out_y h24] <;> rfl) rfl))
        (fun h23 A => N hX 13 A rfl rfl fun A => forkN 128 A rfl
         (fun h25 A => N hX 2 A rfl rfl fun A => DRAWN hX hmo [] [] A rfl rfl rfl rfl (by kernel_rfl) (effAll_nil _ _) trivial fun A => N hX 2 A rfl rfl fun A => RETN hX A rfl rfl rfl h0 rfl rfl rfl rfl (by rw [pr_go h1, fin_y (by simpa using h3), more_n h4, last_y h22 (by rw [asb_n h16]; exact h23), out_n h25] <;> rfl) rfl)
         (fun h25 A => N hX 14 A rfl rfl fun A => RETN hX A rfl rfl rfl h0 rfl rfl rfl rfl (by rw [pr_go h1, fin_y (by simpa using h3), more_n h4, last_y h22 (by rw [asb_n h16]; exact h23), out_y h25] <;> rfl) rfl)))
       (fun h22 A => N hX 19 A rfl rfl fun A => forkN 128 A rfl
        (fun h26 A => N hX 2 A rfl rfl fun A => DRAWN hX hmo [] [] A rfl rfl rfl rfl (by kernel_rfl) (effAll_nil _ _) trivial fun A => N hX 2 A rfl rfl fun A => RETN hX A rfl rfl rfl h0 rfl rfl rfl rfl (by rw [pr_go h1, fin_y (by simpa using h3), more_n h4, last_n h22, out_n h26] <;> rfl) rfl)
        (fun h26 A => N hX 14 A rfl rfl fun A => RETN hX A rfl rfl rfl h0 rfl rfl rfl rfl (by rw [pr_go h1, fin_y (by simpa using h3), more_n h4, last_n h22, out_y h26] <;> rfl) rfl))))))
   (fun h2 A => absurd rfl h2))
end Go.Proofs.YtedlaclfhgneeaaGreatDoor
namespace Go.Proofs.YtedlaclfhgneeaaGreatDoor
open Go.RowKit
set_option linter.unusedVariables false
set_option linter.unusedSimpArgs false
set_option maxRecDepth 100000
set_option maxHeartbeats 2000000
def toP (z : Ps) : Old.Ps := ⟨toO z.ins, z.lab, z.e, z.a, z.p⟩
def gO (g : Lg) (R : List Rw) : Old.Lg := ⟨g.r0, g.r1, g.r2, g.r3, g.r4, g.r5, g.r6, g.r7, g.l0, g.l1, g.l2, g.l3, g.im, g.f0, g.f1, g.f2, Old.nilV, R.map toR⟩
section
variable {ws : List Tk} {z : Ps} {g : Lg} {R L : List Rw} {m : List UInt8} {x : Int} {k : Nat}
theorem ref_o (hw : WsOK ws) : toP (z.wa (refA ws z.as x)) = Old.refP ws x (toP z) := by
  unfold refA refAt Old.refP
  have e1 : z.as.e = z.e := rfl
  have e2 : (toP z).e = z.e := rfl
  have e3 : (toP z).p = z.p := rfl
  have e4 : z.as.p = z.p := rfl
  rw [e1, e2, e3, e4, where_at hw]
  by_cases h : z.e = 0
  · rw [if_pos h, if_pos (beq_iff_eq.2 h)]
    by_cases hp : z.p < ws.length
    · rw [if_pos hp, decide_eq_true hp]; rfl
    · rw [if_neg hp, decide_eq_false hp]; rfl
  · rw [if_neg h, if_neg (fun e => h (eq_of_beq e))]; rfl
theorem go_p : goA z.as z.p = z.as := rfl
theorem mk_o (hw : WsOK ws) : toP (z.wa (mkA ws z.as m)) = Old.markP ws m (toP z) := by
  unfold mkA Old.markP
  have e4 : z.as.p = z.p := rfl
  have e3 : (toP z).p = z.p := rfl
  rw [e3, e4, reads_tk]
  cases hb : tkB ws z.p m with
  | true => rw [if_pos rfl, if_pos rfl, tkK_y hb]; rfl
  | false => rw [if_neg (by decide), if_neg (by decide), tkK_n hb, go_p]; exact ref_o hw
theorem kn_o (hw : WsOK ws) (ls : List (List UInt8)) : toP (z.wa (knA ws z.as ls)) = (Old.knownP ws ls (toP z)).1 ∧ knI ws z.as ls = (Old.knownP ws ls (toP z)).2 := by
  unfold knA knI Old.knownP
  have e4 : z.as.p = z.p := rfl
  have e3 : (toP z).p = z.p := rfl
  rw [e3, e4]
  by_cases hl : z.p < ws.length
  · rw [tk_get hl, idxS_L]
    simp only
    by_cases hk : (ws.getD z.p tok0).kind = 1
    · rw [if_pos hk, if_pos hk, if_pos (beq_iff_eq.2 hk)]
      by_cases hi : Old.idxL ls (ws.getD z.p tok0).text 0 < 0
      · rw [if_pos hi, if_pos hi, if_pos (decide_eq_true hi)]; exact ⟨ref_o hw, rfl⟩
      · rw [if_neg hi, if_neg hi, if_neg (by rw [decide_eq_false hi]; decide), nxK_y hl]; exact ⟨rfl, rfl⟩
    · rw [if_neg hk, if_neg hk, if_neg (fun e => hk (eq_of_beq e))]; exact ⟨ref_o hw, rfl⟩
  · rw [tk_non hl, tk_out (by omega)]
    exact ⟨ref_o hw, rfl⟩
theorem nb_o : Old.numP1 ws k = if nbB ws k = true then some (nbV ws k, nbK ws k) else none := by
  unfold Old.numP1 nbB nbV nbK
  by_cases hl : k < ws.length
  · have hm : mnB ws k = (((ws.getD k tok0).kind == 3) && ((ws.getD k tok0).text == [45])) := by unfold mnB; rw [decide_eq_true hl, Bool.true_and]
    have hn : nuB ws k = ((ws.getD k tok0).kind == 2) := by unfold nuB; rw [decide_eq_true hl, Bool.true_and]
    rw [tk_get hl]
    simp only
    by_cases h2 : ((ws.getD k tok0).kind == 2) = true
    · have h3 : mnB ws k = false := by rw [hm, eq_of_beq h2]; rfl
      rw [if_pos h2, h3, hn, h2]; rfl
    · rw [if_neg h2]
      have h2' : ((ws.getD k tok0).kind == 2) = false := by simpa using h2
      cases h3 : mnB ws k with
      | false =>
        rw [if_neg (by rw [show ((((ws.getD k tok0).kind == 3) && eqL (ws.getD k tok0).text [45])) = false from hm.symm.trans h3]; decide), hn, h2']; rfl
      | true =>
        rw [if_pos (show ((((ws.getD k tok0).kind == 3) && eqL (ws.getD k tok0).text [45])) = true from hm.symm.trans h3)]
        by_cases hl2 : k + 1 < ws.length
        · rw [tk_get hl2]
          simp only
          have hn2 : nuB ws (k + 1) = ((ws.getD (k + 1) tok0).kind == 2) := by unfold nuB; rw [decide_eq_true hl2, Bool.true_and]
          cases h4 : ((ws.getD (k + 1) tok0).kind == 2) with
          | true => rw [hn2, h4]; simp only [if_true]; rw [Int.zero_sub]
          | false => rw [hn2, h4]; rfl
        · rw [tk_non hl2]
          have hn2 : nuB ws (k + 1) = false := by unfold nuB; rw [decide_eq_false hl2]; rfl
          rw [hn2]; rfl
  · have hm : mnB ws k = false := by unfold mnB; rw [decide_eq_false hl]; rfl
    have hn : nuB ws k = false := by unfold nuB; rw [decide_eq_false hl]; rfl
    rw [tk_non hl, hm, hn]; rfl
theorem nbV_no (h : nbB ws k = false) : nbV ws k = 0 ∧ nbK ws k = k := by
  unfold nbB at h; unfold nbV nbK
  cases h3 : mnB ws k with
  | true =>
    simp only [h3, if_true] at h
    simp only [h, if_true, if_false, Bool.false_eq_true]
    exact ⟨by decide, trivial⟩
  | false =>
    simp only [h3, if_false, Bool.false_eq_true] at h
    simp [h]
theorem nbq_o : Old.nbO ws k = nbB ws k ∧ Old.nbV ws k = nbV ws k ∧ Old.nbQ ws k = nbK ws k := by
  unfold Old.nbO Old.nbV Old.nbQ
  rw [nb_o]
  cases h : nbB ws k with
  | true => exact ⟨rfl, rfl, rfl⟩
  | false => have := nbV_no h; exact ⟨rfl, this.1.symm, this.2.symm⟩
theorem num_o (hw : WsOK ws) : toP (z.wa (numA ws z.as)) = (Old.numP ws (toP z)).1 ∧ nbV ws z.p = (Old.numP ws (toP z)).2 := by
  unfold numA Old.numP
  have e4 : z.as.p = z.p := rfl
  have e3 : (toP z).p = z.p := rfl
  obtain ⟨n1, n2, n3⟩ := nbq_o (ws := ws) (k := z.p)
  rw [e3, e4, n1, n2, n3, reads_tk]
  cases h : nbB ws z.p with
  | true => rw [if_pos rfl, if_pos rfl]; exact ⟨rfl, rfl⟩
  | false =>
    have hv := nbV_no h
    rw [if_neg (by decide), if_neg (by decide), hv.1, hv.2]
    cases hb : tkB ws z.p [45] with
    | true =>
      rw [if_pos rfl, tkK_y hb]
      exact ⟨ref_o (z := ⟨z.ins, z.lab, z.e, z.a, z.p + 1⟩) hw, rfl⟩
    | false =>
      rw [if_neg (by decide), tkK_n hb, go_p]
      exact ⟨ref_o hw, rfl⟩
theorem imm_o2 (hw : WsOK ws) : toP (z.wa (immA g ws z.as)) = (Old.immP (gO g R) ws (toP z)).1 ∧ immV g ws z.as = (Old.immP (gO g R) ws (toP z)).2 := by
  unfold immA immV Old.immP
  have e1 : (gO g R).mrk = g.im := rfl
  rw [e1]
  by_cases h : g.im = []
  · rw [if_pos h, if_pos h, if_pos (Old.eqL_yes h)]; exact num_o hw
  · rw [if_neg h, if_neg h, if_neg (by rw [Old.eqL_no h]; decide), ← mk_o hw]
    exact num_o (z := z.wa (mkA ws z.as g.im)) hw
theorem ix_o (hw : WsOK ws) : toP (regI g ws z) = Old.idxP (gO g R) ws (toP z) := by
  obtain ⟨h1, h2⟩ := kn_o (z := z) hw (gO g R).regs
  unfold Old.idxP
  rw [← h1, ← h2]; rfl
theorem isn_o : Old.isNumP ws k = ((ws.getD k tok0).kind == 2) := by
  unfold Old.isNumP
  by_cases hl : k < ws.length
  · rw [tk_get hl]
  · rw [tk_non hl, tk_out (by omega)]; rfl
theorem m3_n (h : psB ws z = false) : m3 ws z = z := by unfold m3; unfold psB at h; rw [tkK_n h]
theorem off_o (hw : WsOK ws) : toP (if psB ws z = true then regI g ws (m3 ws z) else m3 ws z) = Old.offP (gO g R) ws (toP z) := by
  unfold Old.offP
  have e3 : (toP z).p = z.p := rfl
  rw [e3, reads_tk]
  cases h : psB ws z with
  | true =>
    have h' : tkB ws z.p [43] = true := h
    rw [if_pos rfl, if_pos h', ix_o (R := R) hw]
    unfold m3; rw [tkK_y h']; rfl
  | false =>
    have h' : tkB ws z.p [43] = false := h
    rw [if_neg (by decide), if_neg (by rw [h']; decide), m3_n h]
theorem numoff_o (hw : WsOK ws) : toP (if nuQ ws z = true then (if psB ws (offI ws z) = true then regI g ws (m3 ws (offI ws z)) else m3 ws (offI ws z)) else regI g ws z) = Old.numOff (gO g R) ws (toP z) := by
  unfold Old.numOff
  have e3 : (toP z).p = z.p := rfl
  rw [e3, isn_o]
  unfold nuQ
  cases h : ((ws.getD z.p tok0).kind == 2) with
  | true =>
    rw [if_pos rfl, if_pos rfl, off_o (R := R) hw]
    obtain ⟨n1, n2, n3⟩ := nbq_o (ws := ws) (k := z.p)
    rw [n2, n3]; rfl
  | false => rw [if_neg (by decide), if_neg (by decide)]; exact ix_o hw
theorem plus_o (hw : WsOK ws) : toP (if psB ws z = true then (if nuQ ws (m3 ws z) = true then (if psB ws (offI ws (m3 ws z)) = true then regI g ws (m3 ws (offI ws (m3 ws z))) else m3 ws (offI ws (m3 ws z))) else regI g ws (m3 ws z)) else m3 ws z) = Old.plusP (gO g R) ws (toP z) := by
  unfold Old.plusP
  have e3 : (toP z).p = z.p := rfl
  rw [e3, reads_tk]
  cases h : psB ws z with
  | true =>
    have h' : tkB ws z.p [43] = true := h
    rw [if_pos rfl, if_pos h', numoff_o (R := R) hw]
    have : toP (m3 ws z) = Old.atP (toP z) (z.p + 1) := by unfold m3; rw [tkK_y h']; rfl
    rw [this]
  | false =>
    have h' : tkB ws z.p [43] = false := h
    rw [if_neg (by decide), if_neg (by rw [h']; decide), m3_n h]
theorem mem0_o (hw : WsOK ws) : toP (m2 ws (m1 ws z)) = Old.mem0P ws (toP z) := by
  have h0 : toP (m1 ws z) = Old.markP ws [91] (toP z) := mk_o hw
  obtain ⟨h1, h2⟩ := kn_o (z := m1 ws z) hw Old.locsX
  unfold Old.mem0P
  rw [← h0, ← h1, ← h2]; rfl
theorem memo_o (hw : WsOK ws) : toP (memS g ws z) = Old.memP (gO g R) ws (toP z) := by
  unfold Old.memP
  rw [← mem0_o hw, ← plus_o hw]
  exact mk_o hw
theorem lab_o : toP ⟨z.ins, nmT ws z.p, z.e, z.a, nmK ws z.p⟩ = Old.labP ws (toP z) := by
  unfold Old.labP nmT nmK nmB
  have e3 : (toP z).p = z.p := rfl
  rw [e3]
  by_cases hl : z.p < ws.length
  · rw [tk_get hl, decide_eq_true hl, Bool.true_and]
    simp only
    cases h : ((ws.getD z.p tok0).kind == 1) <;> rfl
  · rw [tk_non hl, decide_eq_false hl]; rfl
theorem pt_o (hw : WsOK ws) (p : Int) (h10 : p ≠ 10) : toP (ptS g ws p z) = Old.partP (gO g R) ws p (toP z) := by
  have kr := kn_o (z := z) hw (gO g R).regs
  have kf := kn_o (z := z) hw (gO g R).fens
  have ki := imm_o2 (g := g) (R := R) (z := z) hw
  unfold ptS Old.partP Old.fenP
  simp only [beq_iff_eq]
  rw [← kr.1, ← kr.2, ← kf.1, ← kf.2, ← ki.1, ← ki.2]
  by_cases h1 : p = 1
  · rw [if_pos h1, if_pos h1]; rfl
  rw [if_neg h1, if_neg h1]
  by_cases h4 : p = 4
  · rw [if_pos h4, if_pos h4]; rfl
  rw [if_neg h4, if_neg h4]
  by_cases h2 : p = 2
  · rw [if_pos h2, if_pos h2]; rfl
  rw [if_neg h2, if_neg h2]
  by_cases h3 : p = 3
  · rw [if_pos h3, if_pos h3]; rfl
  rw [if_neg h3, if_neg h3]
  by_cases h5 : p = 5
  · rw [if_pos h5, if_pos h5]; rfl
  rw [if_neg h5, if_neg h5]
  by_cases h6 : p = 6
  · rw [if_pos h6, if_pos h6]; exact memo_o hw
  rw [if_neg h6, if_neg h6]
  by_cases h7 : p = 7
  · rw [if_pos h7, if_pos h7]; exact lab_o
  rw [if_neg h7, if_neg h7]
  by_cases h8 : p = 8
  · rw [if_pos h8, if_pos h8]; rfl
  rw [if_neg h8, if_neg h8]
  by_cases h9 : p = 9
  · rw [if_pos h9, if_pos h9]; rfl
  rw [if_neg h9, if_neg h9, if_neg h10]
theorem idxS_lt {ls : List (List UInt8)} {q : List UInt8} (h : ¬ idxS ls q < 0) : (idxS ls q).toNat < ls.length := by
  unfold idxS at h ⊢
  cases hf : (List.range ls.length).find? (fun j => q == ls.getD j []) with
  | none => rw [hf] at h; exact absurd (by decide) h
  | some j => exact List.mem_range.1 (List.mem_of_find?_eq_some hf)
theorem size_o (r : Rw) (q : List UInt8) : szP g r.nm q = Old.sizeP (gO g R) (toR r) q := by
  unfold szP Old.sizeP
  have e1 : (toR r).name = r.nm := rfl
  have e2 : Old.sizedN (gO g R) (toR r) = nms g r.nm := rfl
  rw [e1, e2, ← idxS_L]
  cases (Lib.cut r.nm [42]).2.2 with
  | false => rfl
  | true =>
    rw [if_pos rfl, if_pos rfl]
    by_cases h : idxS (nms g r.nm) q < 0
    · rw [if_pos h, if_pos (decide_eq_true h)]
    · rw [if_neg h, if_neg (by rw [decide_eq_false h]; decide)]
      have hl := idxS_lt h
      have e : idxS (nms g r.nm) q = (((idxS (nms g r.nm) q).toNat : Nat) : Int) := by omega
      rw [e, szI_k _ (show _ < 4 from hl)]
theorem fold_n (q : List UInt8) (S : Old.Ps) : ∀ (l : List Rw) (c : Int) (acc : List Rw), (l.map toR).foldl (Old.nStep (gO g R) q) (Old.setSize S c, acc.map toR) = (Old.setSize S (l.foldl (nSt g q) (c, acc)).1, (l.foldl (nSt g q) (c, acc)).2.map toR)
  | [], c, acc => rfl
  | r :: l, c, acc => by
    rw [List.map_cons, List.foldl_cons, List.foldl_cons]
    have : Old.nStep (gO g R) q (Old.setSize S c, acc.map toR) (toR r) = (Old.setSize S (nSt g q (c, acc) r).1, (nSt g q (c, acc) r).2.map toR) := by
      unfold Old.nStep nSt
      rw [← size_o]
      cases (szP g r.nm q).2 with
      | false => rfl
      | true => rw [if_pos rfl, if_pos rfl, List.map_append]; rfl
    rw [this]
    exact fold_n q S l _ _
theorem named_o (hw : WsOK ws) : toP (naS g ws R z) = (Old.namedP (gO g R) ws (toP z)).1 ∧ (naR g ws R z).map toR = (Old.namedP (gO g R) ws (toP z)).2 := by
  unfold naS naR Old.namedP
  have e3 : (toP z).p = z.p := rfl
  rw [e3]
  by_cases hl : z.p < ws.length
  · rw [tk_get hl]
    simp only
    by_cases hk : (ws.getD z.p tok0).kind = 1
    · rw [if_pos hk, if_pos hk, if_pos (beq_iff_eq.2 hk)]
      have hf := fold_n (g := g) (R := R) (ws.getD z.p tok0).text (toP z) R z.ins.sz []
      have e0 : ((Old.setSize (toP z) z.ins.sz, ([] : List Rw).map toR) : Old.Ps × List Old.Rw) = (toP z, []) := rfl
      rw [e0] at hf
      have e5 : (gO g R).rows = R.map toR := rfl
      rw [e5, hf]
      have e6 : R.foldl (nSt g (ws.getD z.p tok0).text) (z.ins.sz, []) = naZ g ws R z := by unfold naZ zK; rw [List.take_length]
      rw [e6]
      refine ⟨?_, rfl⟩
      unfold Old.noRow
      simp only [List.length_map]
      by_cases h0 : (naZ g ws R z).2.length = 0
      · rw [if_pos h0, if_pos (by rw [h0]; rfl)]
        have hr := ref_o (x := 21) (z := (⟨{ z.ins with sz := (naZ g ws R z).1 }, z.lab, z.e, z.a, z.p⟩ : Ps)) hw
        have e7 : Old.setSize (toP z) (naZ g ws R z).1 = toP ⟨{ z.ins with sz := (naZ g ws R z).1 }, z.lab, z.e, z.a, z.p⟩ := rfl
        rw [e7, ← hr]
        have hp : (refA ws z.as 21).p = z.p := refA_p
        rw [hp, nxK_y hl]
        have hp2 : (refA ws (⟨{ z.ins with sz := (naZ g ws R z).1 }, z.lab, z.e, z.a, z.p⟩ : Ps).as 21) = refA ws z.as 21 := rfl
        unfold Old.nextP Old.atP
        rw [hp2]
        unfold toP Ps.wa
        simp only [hp]
      · rw [if_neg h0, if_neg (by intro e; exact h0 (by have := eq_of_beq e; omega)), nxK_y hl]; rfl
    · rw [if_neg hk, if_neg hk, if_neg (fun e => hk (eq_of_beq e))]; exact ⟨ref_o hw, rfl⟩
  · rw [tk_non hl, tk_out (by omega)]; exact ⟨ref_o hw, rfl⟩
theorem word_o : Old.wordAt ws k = ws.getD k tok0 := by
  unfold Old.wordAt; rw [List.getD_eq_getElem?_getD]; rfl
theorem beg_o (r : Rw) (p : Int) (t : Tk) (h10 : p ≠ 10) : begQ g r p t = Old.beginsB (gO g R) p t := by
  unfold begQ Old.beginsB begI Old.beginsImmB Old.isMarkB
  have e1 : (gO g R).mrk = g.im := rfl
  rw [e1]
  simp only [beq_iff_eq]
  by_cases h5 : p = 5
  · rw [if_pos h5, if_pos h5]
    by_cases hi : g.im = []
    · rw [if_pos hi, if_pos (Old.eqL_yes hi)]; rfl
    · rw [if_neg hi, if_neg (by rw [Old.eqL_no hi]; decide)]; rfl
  · rw [if_neg h5, if_neg h5]
    by_cases h6 : p = 6
    · rw [if_pos h6, if_pos h6]; rfl
    · rw [if_neg h6, if_neg h6, if_neg h10]
theorem left_o (t : Tk) : ∀ (Q : List Rw), (∀ r ∈ Q, k < r.ps.length ∧ ∀ p ∈ r.ps, p ≠ 10) → (Q.map toR).filter (fun r => !Old.strikes (gO g R) k t r) = (lft g k t Q).map toR
  | [], _ => rfl
  | r :: Q, h => by
    obtain ⟨hk, h10⟩ := h r List.mem_cons_self
    have ih := left_o t Q (fun x hx => h x (List.mem_cons_of_mem _ hx))
    have e : Old.strikes (gO g R) k t (toR r) = stk g k t r := by
      unfold Old.strikes stk
      have e1 : (toR r).parts = r.ps := rfl
      have e2 : r.ps[k]? = some (r.ps.getD k 0) := by rw [List.getD_eq_getElem?_getD, List.getElem?_eq_getElem hk]; rfl
      rw [e1, e2]
      simp only
      rw [beg_o (R := R) r _ t (h10 _ (by rw [List.getD_eq_getElem?_getD, List.getElem?_eq_getElem hk]; exact List.getElem_mem hk))]
    unfold lft at ih ⊢
    rw [List.map_cons, List.filter_cons, List.filter_cons, e, ih]
    cases stk g k t r <;> rfl
theorem fst_no {f : Rw → Bool} {Q : List Rw} (h : ∀ r ∈ Q, f r = false) : fstX f Q = -1 := by
  unfold fstX
  have : (List.range Q.length).find? (fun j => f (Q.getD j Rw.z)) = none := by
    rw [List.find?_eq_none]
    intro j hj
    have hl := List.mem_range.1 hj
    rw [h _ (by rw [List.getD_eq_getElem?_getD, List.getElem?_eq_getElem hl]; exact List.getElem_mem hl)]
    decide
  rw [this]
theorem comma_o (hw : WsOK ws) : toP (n1 ws k z) = Old.commaP ws k (toP z) := by
  unfold n1 Old.commaP
  by_cases h : (k : Int) > 0
  · rw [if_pos h, if_pos (decide_eq_true h)]; exact mk_o hw
  · rw [if_neg h, if_neg (by rw [decide_eq_false h]; decide)]
theorem inst_o (hw : WsOK ws) {N0 : Nat} : ∀ (f F k : Nat) (Q : List Rw) (z : Ps), (∀ r ∈ Q, r.ps.length = N0 ∧ ∀ p ∈ r.ps, p ≠ 10) → N0 < f + k → f ≤ F → Old.instL (gO g R) ws F k (Q.map toR) (toP z) = (toP (inst g ws f k Q z).1, (inst g ws f k Q z).2.map toR)
  | f, F, k, [], z, h, hn, hF => by
    rw [List.map_nil, Old.inst_nil]
    have : inst g ws f k [] z = (z, []) := by cases f <;> rfl
    rw [this]; rfl
  | 0, F, k, r :: Q, z, h, hn, hF => by
    have hr := (h r List.mem_cons_self).1
    have e : inst g ws 0 k (r :: Q) z = (z, r :: Q) := rfl
    rw [e, List.map_cons]
    cases F with
    | zero => rfl
    | succ F =>
      unfold Old.instL
      simp only
      rw [if_neg]
      have : (toR r).parts.length = N0 := hr
      rw [this, decide_eq_false (by omega)]; decide
  | f + 1, F, k, r :: Q, z, h, hn, hF => by
    obtain ⟨F, rfl⟩ : ∃ F', F = F' + 1 := ⟨F - 1, by omega⟩
    have hr := (h r List.mem_cons_self).1
    have hp : (toR r).parts.length = N0 := hr
    rw [List.map_cons]
    unfold Old.instL inst
    simp only
    rw [hp]
    have hg : goB (r :: Q) k = decide ((k : Int) < (N0 : Int)) := by
      unfold goB
      have : (((r :: Q).getD (0 : Int).toNat Rw.z).ps.length) = N0 := hr
      rw [this, decide_eq_true (by simp only [List.length_cons]; omega), Bool.true_and]
    rw [hg]
    by_cases hk : (k : Int) < (N0 : Int)
    · rw [if_pos (decide_eq_true hk), if_pos (decide_eq_true hk)]
      have hall : ∀ x ∈ r :: Q, k < x.ps.length ∧ ∀ p ∈ x.ps, p ≠ 10 := fun x hx => ⟨by rw [(h x hx).1]; omega, (h x hx).2⟩
      have hL : Old.leftR (gO g R) ws k (toR r :: Q.map toR) (Old.commaP ws k (toP z)) = (nxR g ws k (r :: Q) z).map toR := by
        rw [← comma_o hw]
        unfold Old.leftR nxR
        rw [word_o]
        exact left_o _ (r :: Q) hall
      have hB : Old.begP (gO g R) ws k (toR r :: Q.map toR) (Old.commaP ws k (toP z)) = toP (beS g ws k (r :: Q) (n1 ws k z)) := by
        unfold Old.begP beS
        rw [hL, List.length_map, ← comma_o hw]
        have hm : mfV k (ws.getD (n1 ws k z).p tok0) (r :: Q) = 22 := by
          unfold mfV
          rw [fst_no (fun x hx => by
            unfold ask10
            obtain ⟨hx1, hx2⟩ := hall x hx
            exact beq_eq_false_iff_ne.2 (hx2 _ (by rw [List.getD_eq_getElem?_getD, List.getElem?_eq_getElem hx1]; exact List.getElem_mem hx1)))]
          rfl
        rw [hm]
        have hx : nxR g ws k (r :: Q) z = lft g k (ws.getD (n1 ws k z).p tok0) (r :: Q) := rfl
        rw [hx]
        by_cases h0 : (lft g k (ws.getD (n1 ws k z).p tok0) (r :: Q)).length = 0
        · rw [if_pos (by rw [h0]; rfl), if_pos h0, ref_o hw]
        · rw [if_neg (by intro e; exact h0 (by have := eq_of_beq e; omega)), if_neg h0]
      have hS : Old.part0 (gO g R) ws k ((nxR g ws k (r :: Q) z).map toR) (toP (beS g ws k (r :: Q) (n1 ws k z))) = toP (nxS g ws k (r :: Q) z) := by
        unfold nxS Old.part0
        cases hx : nxR g ws k (r :: Q) z with
        | nil => rfl
        | cons y l =>
          have hy : y ∈ r :: Q := by
            have : y ∈ nxR g ws k (r :: Q) z := by rw [hx]; exact List.mem_cons_self
            unfold nxR lft at this
            exact (List.mem_filter.1 this).1
          obtain ⟨hy1, hy2⟩ := hall y hy
          have e2 : (toR y).parts[k]? = some (y.ps.getD k 0) := by
            show y.ps[k]? = _
            rw [List.getD_eq_getElem?_getD, List.getElem?_eq_getElem hy1]; rfl
          rw [List.map_cons]
          simp only [e2]
          rw [if_pos (by simp only [List.length_cons]; omega)]
          exact (pt_o hw _ (hy2 _ (by rw [List.getD_eq_getElem?_getD, List.getElem?_eq_getElem hy1]; exact List.getElem_mem hy1))).symm
      rw [hL, hB, hS]
      exact inst_o hw f F (k + 1) _ _ (fun x hx => by
        unfold nxR lft at hx
        exact h x (List.mem_filter.1 hx).1) (by omega) (by omega)
    · rw [if_neg (by rw [decide_eq_false hk]; decide), if_neg (by rw [decide_eq_false hk]; decide)]; rfl
theorem na_sub : ∀ r ∈ naR g ws R z, r ∈ R := by
  intro r hr
  unfold naR at hr
  split at hr
  · unfold naZ zK at hr
    rw [List.take_length] at hr
    rcases nfl_sz _ _ _ hr with h | h
    · cases h
    · exact h.1
  · cases hr
theorem more_o (hw : WsOK ws) : toP (z.wa (endA ws z.as)) = Old.moreP ws (toP z) := by
  unfold endA Old.moreP
  have e4 : z.as.p = z.p := rfl
  have e3 : (toP z).p = z.p := rfl
  rw [e3, e4]
  by_cases h : z.p < ws.length
  · rw [if_pos h, if_pos (decide_eq_true (by omega))]; exact ref_o hw
  · rw [if_neg h, if_neg (by rw [decide_eq_false (by omega)]; decide)]; rfl
theorem par_o (hw : WsOK ws) (hp : PaOK g ws R) (h10 : ∀ r ∈ R, ∀ p ∈ r.ps, p ≠ 10) : (toO (parI g ws R), parT g ws R, parE g ws R, parA g ws R) = Old.parP (gO g R) ws := by
  have hI : Old.instP (gO g R) ws Old.zPs = (toP (inF g ws R Ps.z0).1, (inF g ws R Ps.z0).2.map toR) := by
    unfold Old.instP inF
    have hn := named_o (g := g) (R := R) (z := Ps.z0) hw
    have e : toP Ps.z0 = Old.zPs := rfl
    rw [e] at hn
    rw [← hn.1, ← hn.2]
    refine inst_o (N0 := inN g ws R Ps.z0) hw _ _ _ _ _ (fun r hr => ⟨?_, h10 r (na_sub r hr)⟩) (by omega) (by have := hp.k; omega)
    cases hx : naR g ws R Ps.z0 with
    | nil => rw [hx] at hr; cases hr
    | cons y l =>
      have hy : y ∈ naR g ws R Ps.z0 := by rw [hx]; exact List.mem_cons_self
      have : inN g ws R Ps.z0 = y.ps.length := by unfold inN; rw [hx]; rfl
      rw [this]; exact hp.s r hr y hy
  unfold Old.parP
  rw [hI]
  simp only
  rw [← more_o hw]
  have e1 : (toP ((inF g ws R Ps.z0).1.wa (endA ws (inF g ws R Ps.z0).1.as))).e = (paE g ws R).e := rfl
  have e2 : (toP ((inF g ws R Ps.z0).1.wa (endA ws (inF g ws R Ps.z0).1.as))).a = (paE g ws R).a := rfl
  have e3 : (toP ((inF g ws R Ps.z0).1.wa (endA ws (inF g ws R Ps.z0).1.as))).lab = (inF g ws R Ps.z0).1.lab := rfl
  have e4 : Old.withL ((inF g ws R Ps.z0).2.map toR) (toP (inF g ws R Ps.z0).1).ins = toO (inI g ws R Ps.z0) := by
    unfold inI Old.withL
    cases hx : (inF g ws R Ps.z0).2 with
    | nil => rfl
    | cons y l => rw [if_neg (by simp only [List.length_cons]; omega), List.map_cons]; exact (lay_o y _).symm
  rw [e1, e2, e3, e4, ← wrong_o, where_at hw]
  unfold parI parT parE parA
  by_cases h : (paE g ws R).e = 0
  · rw [if_neg (not_not_intro h), if_neg (not_not_intro h), if_neg (not_not_intro h), if_neg (not_not_intro h), if_pos (beq_iff_eq.2 h)]
    cases wrongI (inI g ws R Ps.z0) <;> rfl
  · rw [if_pos h, if_pos h, if_pos h, if_pos h, if_neg (fun e => h (eq_of_beq e))]; rfl
end
theorem gO_x : gO x86G x86C = Old.x86C := by kernel_rfl
theorem par_ref {ws : List Tk} (hw : WsOK ws) (hf : Old.WF ws) : (toO (parI x86G ws x86C), parT x86G ws x86C, parE x86G ws x86C, parA x86G ws x86C) = Old.parR ws := by
  rw [par_o hw (x86_pa (show x86C.map tm = x86T by kernel_rfl)) no10, gO_x]
  exact Old.pa_eq hf
end Go.Proofs.YtedlaclfhgneeaaGreatDoor
namespace Go.Proofs.YtedlaclfhgneeaaGreatDoor
set_option linter.unusedVariables false
def skipC : Nat → List UInt8 → Nat × Bool
  | 0, _ => (0, false)
  | _ + 1, [] => (0, false)
  | n + 1, b :: r =>
    if blkB b then ((skipC n r).1 + 1, (skipC n r).2)
    else if preB (b :: r) [40, 42] then
      if endR ((b :: r).drop 2) < 0 then (0, true)
      else ((skipC n ((b :: r).drop (endR ((b :: r).drop 2)).toNat.succ.succ.succ.succ)).1 + ((endR ((b :: r).drop 2)).toNat + 4), (skipC n ((b :: r).drop (endR ((b :: r).drop 2)).toNat.succ.succ.succ.succ)).2)
    else (0, false)
theorem skip_C : ∀ (n : Nat) (l : List UInt8), l.length ≤ n → skipL l = skipC n l := by
  intro n
  induction n with
  | zero => intro l hl; obtain rfl : l = [] := List.eq_nil_of_length_eq_zero (Nat.le_zero.1 hl); rw [skip_nil]; rfl
  | succ n ih =>
    intro l hl
    match l, hl with
    | [], _ => rw [skip_nil]; rfl
    | b :: r, hl =>
      rw [skipL, skipC, ih r (by simpa using hl), ih ((b :: r).drop (endR ((b :: r).drop 2)).toNat.succ.succ.succ.succ) (by rw [List.length_drop]; omega)]
def toksC : Nat → List UInt8 → Nat → List Tk → List Tk × Int × Nat
  | 0, _, _, _ => ([], 0, 0)
  | f + 1, l, a, ws =>
    if (skipC l.length (l.drop a)).2 then ([], 24, a + (skipC l.length (l.drop a)).1)
    else if a + (skipC l.length (l.drop a)).1 = l.length then (ws, 0, 0)
    else if (firstR (l.drop (a + (skipC l.length (l.drop a)).1))).2 = 0 then
      toksC f l (a + (skipC l.length (l.drop a)).1 + (firstR (l.drop (a + (skipC l.length (l.drop a)).1))).1.text.length) (ws ++ [{ (firstR (l.drop (a + (skipC l.length (l.drop a)).1))).1 with at_ := ((a + (skipC l.length (l.drop a)).1 : Nat) : Int) }])
    else ([], (firstR (l.drop (a + (skipC l.length (l.drop a)).1))).2, a + (skipC l.length (l.drop a)).1)
theorem toks_C : ∀ (f : Nat) (l : List UInt8) (a : Nat) (ws : List Tk), toksF f l a ws = toksC f l a ws := by
  intro f
  induction f with
  | zero => intros; rfl
  | succ f ih =>
    intro l a ws
    rw [toksF, toksC, skip_C l.length (l.drop a) (by rw [List.length_drop]; omega), ih]
theorem tokens_C {l : List UInt8} (h : l.length ≤ 8192) : tokensR l = toksC (l.length + 1) l 0 [] := by rw [tokens_short h, toks_C]
end Go.Proofs.YtedlaclfhgneeaaGreatDoor
namespace Go.Proofs.YtedlaclfhgneeaaGreatDoor
open Go.RowKit
set_option linter.unusedVariables false
set_option linter.unusedSimpArgs false
set_option maxRecDepth 100000
set_option maxHeartbeats 2000000
set_option simprocs false
theorem fnI_nil {I : Amb} {P : Program} {f s : Nat} {F : Nat → List SV} {x : SV} (h : FnI I P f [.sl 0 0 0] [some (.lst s 0 F)] (Rt x [some (.lst s 0 F)])) (hF : ∀ k, ∃ vs, denL [] (F k) = some vs) (hx : ∀ G, den G x = den [] x) : FnI I P f [.sla none 0 0] [] (Rt x []) := by
  refine ⟨h.1, fun G w vs hM hI hv => ?_⟩
  have hG : G = [] := List.length_eq_zero_iff.1 hM.len.symm
  subst hG
  have hM2 : Mem [some (.lst s 0 F)] [none] w := ⟨rfl, fun i e he => by
    match i, he with
    | 0, he => cases he; exact ⟨hF, .inl rfl⟩
    | i + 1, he => set_option simprocs true in simp at he, fun i j e g L M hij hi hj he hL => by
    match i, hi with
    | 0, hi => set_option simprocs true in simp at hL
    | i + 1, hi => set_option simprocs true in simp at hi⟩
  refine Calls.mono (h.2 [none] w vs hM2 hI hv) fun e w' ⟨x', H', F', v, ⟨q1, q2⟩, r1, r2, r3, r4, r5, r6, r7⟩ => ?_
  subst q1; subst q2
  exact ⟨_, _, [], v, ⟨rfl, rfl⟩, by rw [hx] at r1 ⊢; exact r1, r2, ⟨rfl, fun i e he => by set_option simprocs true in simp at he, fun i j e g L M hij hi => by set_option simprocs true in simp at hi⟩, r4, Nat.le_refl _, fun i e he => by set_option simprocs true in simp at he, fun i e he => by set_option simprocs true in simp at he⟩
def txt5 : List UInt8 := [77, 79, 86, 76, 32, 91, 120, 43, 52, 93, 44, 82, 66, 88]
def ws5 : List Tk := [⟨1, [77, 79, 86, 76], 0, 0⟩, ⟨3, [91], 0, 5⟩, ⟨1, [120], 0, 6⟩, ⟨3, [43], 0, 7⟩, ⟨2, [52], 4, 8⟩, ⟨3, [93], 0, 9⟩, ⟨3, [44], 0, 10⟩, ⟨1, [82, 66, 88], 0, 11⟩]
def ins5 : In := ⟨5, -1, 1, -1, 0, 0, 4, -1, 4, 0, false, false, false, 0, 0, 0, false⟩
theorem tok5 : tokensR txt5 = (ws5, 0, 0) := by rw [tokens_C (by decide)]; kernel_rfl
theorem ws5_ok : WsOK ws5 := by unfold WsOK; decide
theorem ws0_ok : WsOK [] := fun t h => by cases h
theorem par5I : parI x86G ws5 x86C = ins5 := by kernel_rfl
theorem par5T : parT x86G ws5 x86C = [] := by kernel_rfl
theorem par5E : parE x86G ws5 x86C = 0 := by kernel_rfl
theorem par0E : parE x86G [] x86C = 24 := by kernel_rfl
theorem par0A : parA x86G [] x86C = 0 := by kernel_rfl
theorem prt5 : prP x86G x86C ins5 [] = (txt5, 0) := by kernel_rfl
theorem reg3 : Old.regF (Old.nameF 3) = 3 := by decide +kernel
theorem ins5R : InR ins5 := ⟨by decide, by decide⟩
theorem able_  (os : List (Nat × Obj)) (hM : ∀ w ks, Gl os w ks → ∃ m, w.cell? ⟨0, 0, none⟩ = some (.int .i64 m)) (hT : ∀ w ks, Gl os w ks → Lib.TabIs Tryz.prog w "internal/strconv.uint64pow10" .u64 Lib.pow10Tab) (hE : ∀ w ks, Gl os w ks → ∃ ev, w.cell? ⟨1, 0, none⟩ = some ev ∧ (ev = .nilIface ∨ ∃ te pe, ev = .iface te pe)) : FnI (Gl os) Tryz.prog 9 [] [] (Rt (.tt) []) :=
 enterI (n := 66) (by kernel_rfl) Tryz.func9 rfl rfl rfl fun G w a h0 hI A => N hX 7 A rfl rfl fun A => CALLI [] Gl.ok hI (tokens_ok txt5 ws5 os hM hE tok5) A rfl rfl rfl rfl rfl rfl rfl fun A => N hX 12 A rfl rfl fun A => have A := A.freeze 0 rfl; CALLI [0] Gl.ok hI (xparse_ ws5 0 (by decide) ws5_ok os hM) A rfl rfl rfl rfl rfl rfl rfl fun A => N hX 16 A rfl rfl fun A => CALLI [] Gl.ok hI (xprint_ (parI x86G ws5 x86C) (parT x86G ws5 x86C) os hM hT hE (fun L hL => x86_prok (by rw [par5I]; exact ins5R) (by rw [par5T]; decide) hL)) A rfl rfl rfl rfl rfl rfl rfl fun A => N hX 9 A rfl rfl fun A => CALLI [] Gl.ok hI (fnI_nil (xparse_ [] 0 (by decide) ws0_ok os hM) (fun k => ⟨_, rfl⟩) (fun _ => rfl)) A rfl rfl rfl rfl rfl rfl rfl fun A => N hX 17 A rfl rfl fun A => forkE 40 A rfl
  (fun h1 A => N hX 4 A rfl rfl fun A => forkE 44 A rfl
   (fun h2 A => N hX 4 A rfl rfl fun A => forkE 48 A rfl
    (fun h3 A => N hX 5 A rfl rfl fun A => forkE 53 A rfl
     (fun h4 A => N hX 4 A rfl rfl fun A => forkE 57 A rfl
      (fun h5 A => N hX 4 A rfl rfl fun A => forkE 61 A rfl
       (fun h6 A => CALL1 [] (xname_ 3) A rfl rfl rfl rfl rfl rfl rfl fun A => CALL1 [] (xreg_ (Old.nameF 3)) A rfl rfl rfl rfl rfl rfl rfl fun A => N hX 6 A rfl rfl fun A => RETN hX A rfl rfl rfl h0 rfl rfl rfl rfl (by rw [reg3]; rfl) rfl)
       (fun h6 A => N hX 8 A rfl rfl fun A => RETN hX A rfl rfl rfl h0 rfl rfl rfl rfl (absurd par0A h6) rfl))
      (fun h5 A => N hX 12 A rfl rfl fun A => RETN hX A rfl rfl rfl h0 rfl rfl rfl rfl (absurd par0E h5) rfl))
     (fun h4 A => N hX 16 A rfl rfl fun A => RETN hX A rfl rfl rfl h0 rfl rfl rfl rfl (absurd (by rw [par5I]; rfl) h4) rfl))
    (fun h3 A => N hX 21 A rfl rfl fun A => RETN hX A rfl rfl rfl h0 rfl rfl rfl rfl (absurd (by rw [par5I, par5T, prt5]; rfl) h3) rfl))
   (fun h2 A => N hX 25 A rfl rfl fun A => RETN hX A rfl rfl rfl h0 rfl rfl rfl rfl (absurd (by rw [par5I, par5T, prt5]) h2) rfl))
  (fun h1 A => N hX 29 A rfl rfl fun A => RETN hX A rfl rfl rfl h0 rfl rfl rfl rfl (absurd par5E h1) rfl)
end Go.Proofs.YtedlaclfhgneeaaGreatDoor
namespace Go.Proofs.YtedlaclfhgneeaaGreatDoor
open Go.RowKit
set_option linter.unusedVariables false
set_option linter.unusedSimpArgs false
set_option maxRecDepth 100000
theorem ws_toks : ∀ (f : Nat) (l : List UInt8) (a : Nat) (ws : List Tk), a ≤ l.length → ws.length ≤ a → (∀ t ∈ ws, 0 ≤ t.at_ ∧ t.at_ ≤ (l.length : Int) ∧ t.text.length ≤ l.length) → (toksF f l a ws).1.length ≤ l.length ∧ ∀ t ∈ (toksF f l a ws).1, 0 ≤ t.at_ ∧ t.at_ ≤ (l.length : Int) ∧ t.text.length ≤ l.length
  | 0, l, a, ws, ha, hl, h => ⟨Nat.zero_le _, fun y hy => by cases hy⟩
  | f + 1, l, a, ws, ha, hl, h => by
    rw [toksF]
    split
    · exact ⟨Nat.zero_le _, fun y hy => by cases hy⟩
    · split
      · exact ⟨show ws.length ≤ l.length by omega, h⟩
      · next hne =>
        split
        · next hf =>
          have hs := skip_le (l.drop a)
          rw [List.length_drop] at hs
          have hn := first_len hf
          rw [List.length_drop] at hn
          refine ws_toks f l _ _ (by omega) (by simp only [List.length_append, List.length_cons, List.length_nil]; omega) fun y hy => ?_
          rcases List.mem_append.1 hy with hy | hy
          · exact h y hy
          · rw [List.mem_singleton] at hy
            subst hy
            exact ⟨by show 0 ≤ ((_ : Nat) : Int); omega, by show ((_ : Nat) : Int) ≤ _; omega, by show (firstR _).1.text.length ≤ _; omega⟩
        · exact ⟨Nat.zero_le _, fun y hy => by cases hy⟩
theorem ws_tokens {l : List UInt8} {ws : List Tk} (h : tokensR l = (ws, 0, 0)) : ws.length ≤ 8192 ∧ WsOK ws ∧ Old.WF ws := by
  have hf := Old.wf_tokens l
  rw [h] at hf
  by_cases hl : l.length > 8192
  · rw [tokens_long hl] at h
    have := congrArg (fun z => z.2.1) h
    exact absurd (show (2 : Int) = 0 from this) (by decide)
  · have hw := ws_toks (l.length + 1) l 0 [] (Nat.zero_le _) (Nat.zero_le _) (fun t ht => by cases ht)
    rw [← tokens_short (by omega), h] at hw
    refine ⟨by have := hw.1; simp only at this; omega, fun t ht => ?_, hf⟩
    have := hw.2 t ht
    exact ⟨this.1, by omega, by omega⟩
theorem fnI_ro {I : Amb} {P : Program} {f : Nat} {az : List SV} {H H' : Hp} {x : SV} (h : FnI I P f az H (Rt x H)) (hro : ∀ (i : Nat) (e : Ent), H[i]? = some (some e) → e.mut = false) (hw : ∀ G w, Mem H' G w → Mem H G w) (hJ : ∀ w G, I w (keys H' G) → I w (keys H G)) (hx : inS 0 x = true) : FnI I P f az H' (Rt x H') := by
  refine ⟨h.1, fun G w vs hM hI hv => Calls.mono (h.2 G w vs (hw G w hM) (hJ w G hI) hv) fun e w' hp => ?_⟩
  obtain ⟨v, F, h1, h2, _, hg⟩ := post_ro hp hro
  refine ⟨x, H', [], v, ⟨rfl, rfl⟩, ?_, h2, ?_, (Mix.refl _ w).grow hg, by rw [hM.len]; exact Nat.le_refl _, fun i e he _ => he, fun i e he hm L hL => ?_⟩
  · rw [← den_take x hx] at h1 ⊢; simpa using h1
  · rw [List.append_nil]; exact ⟨hM.len, fun i e he => (hM.ent i e he).mix hg.mix (fun _ _ _ => rfl), hM.sep⟩
  · rw [List.append_nil] at hL; exact .inl (mem_keys.2 ⟨i, e, L, he, hm, hL, rfl⟩)
theorem ro1 {s m : Nat} {f : Nat → List SV} : ∀ (i : Nat) (e : Ent), ([some (.lst s m f)] : Hp)[i]? = some (some e) → e.mut = false
  | 0, e, h => by cases h; rfl
  | i + 1, e, h => by simp at h
theorem mem_pre {s m m' : Nat} {f f' : Nat → List SV} (hm : m ≤ m') (hf : ∀ k, k < m → f' k = f k) (ht : ∀ k, ∃ vs, denL [] (f k) = some vs) (G : Gr) (w : World) (h : Mem [some (.lst s m' f')] G w) : Mem [some (.lst s m f)] G w := by
  refine ⟨h.len, fun i e he => ?_, fun i j e g L M hij hi hj he => ?_⟩
  · match i, he with
    | 0, he =>
      cases he
      obtain ⟨_, q⟩ := h.ent 0 _ rfl
      refine ⟨ht, ?_⟩
      rcases q with q | ⟨L, q1, q2, q3⟩
      · exact .inl (by omega)
      · exact .inr ⟨L, q1, q2, fun k hk => by rw [← hf k hk]; exact q3 k (by omega)⟩
    | i + 1, he => simp at he
  · match i, hi with
    | 0, hi => cases hi; cases he
    | i + 1, hi => simp at hi
theorem keys1 {s m : Nat} {f : Nat → List SV} (G : Gr) : keys [some (.lst s m f)] G = [] := by
  cases G with
  | nil => rfl
  | cons p G => cases p <;> rfl
end Go.Proofs.YtedlaclfhgneeaaGreatDoor
namespace Go.Proofs.YtedlaclfhgneeaaGreatDoor
open Go.RowKit
set_option linter.unusedVariables false
set_option linter.unusedSimpArgs false
set_option maxRecDepth 100000
set_option maxHeartbeats 2000000
set_option simprocs false
theorem xparse7_ (ws : List Tk) (hn : ws.length ≤ 1000000) (hw : WsOK ws) (os : List (Nat × Obj)) (hM : ∀ w ks, Gl os w ks → ∃ m, w.cell? ⟨0, 0, none⟩ = some (.int .i64 m)) : FnI (Gl os) Tryz.prog 11 [.sl 0 ws.length 0] [some (.lst 4 ((ws ++ [(⟨0, [], -77, 0⟩ : Tk)]).length) (fun zz => tkc ((ws ++ [(⟨0, [], -77, 0⟩ : Tk)]).getD zz tok0)))] (Rt (.tup [.agg (inQ9 (parI x86G ws x86C)), .str (parT x86G ws x86C), .int .i64 (parE x86G ws x86C), .int .i64 (parA x86G ws x86C)]) [some (.lst 4 ((ws ++ [(⟨0, [], -77, 0⟩ : Tk)]).length) (fun zz => tkc ((ws ++ [(⟨0, [], -77, 0⟩ : Tk)]).getD zz tok0)))]) :=
  fnI_ro (xparse_ ws 0 hn hw os hM) ro1 (mem_pre (by rw [List.length_append]; omega) (fun k hk => by show tkc _ = tkc _; rw [tk_app hk]) (fun k => ⟨_, rfl⟩)) (fun w G h => by rw [keys1] at h ⊢; exact h) rfl
theorem parses0_ (l : List UInt8) (os : List (Nat × Obj)) (hM : ∀ w ks, Gl os w ks → ∃ m, w.cell? ⟨0, 0, none⟩ = some (.int .i64 m)) (hT : ∀ w ks, Gl os w ks → Lib.TabIs Tryz.prog w "internal/strconv.uint64pow10" .u64 Lib.pow10Tab) (hE : ∀ w ks, Gl os w ks → ∃ ev, w.cell? ⟨1, 0, none⟩ = some ev ∧ (ev = .nilIface ∨ ∃ te pe, ev = .iface te pe)) : FnI (Gl os) Tryz.prog 3 [.str l] [] (Rt (.tt) []) :=
 enterI (n := 94) (by kernel_rfl) Tryz.func3 rfl rfl rfl fun G w a h0 hI A => N hX 8 A rfl rfl fun A => CALLI [] Gl.ok hI (able_ os hM hT hE) A rfl rfl rfl rfl rfl rfl rfl fun A => N hX 9 A rfl rfl fun A => tokSp (l := l)
  (fun ws ht => have hq := ws_tokens ht; have hn := hq.1; have hw := hq.2.1; have hf := hq.2.2; CALLI [] Gl.ok hI (tokens_ok l ws os hM hE ht) A rfl rfl rfl rfl rfl rfl rfl fun A => N hX 14 A rfl rfl fun A => have A := sy_sayD A 25 (.ff) rfl (fun _ => congrArg (fun b => some (Value.bool b)) (show (!(0 == 0)) = false by decide)); N hX 9 A rfl rfl fun A => have A := A.freeze 0 rfl; APPL hX ws.length (fun zz => tkc (ws.getD zz tok0)) A rfl rfl rfl rfl (Nat.le_refl _) (by omega) (by omega) (by omega) (fun k hk => absurd hk (Nat.not_lt_zero k)) (fun k hk => by rw [Nat.zero_add]) (fun z => ⟨_, rfl, rfl⟩) (fun k hk => ⟨_, rfl, okE_nil⟩) fun A => N hX 2 A rfl rfl fun A => APP1 hX (ws.length + 1) (fun zz => tkc ((ws ++ [(⟨0, [], -77, 0⟩ : Tk)]).getD zz tok0)) A rfl rfl rfl rfl (by omega) rfl (fun k hk => by show tkc _ = tkc _; rw [tk_app hk]) (by show tkc _ = _; rw [tk_new]; rfl) (fun z => ⟨_, rfl, rfl⟩) fun A => have A := (A.rowAs 4 ((ws ++ [(⟨0, [], -77, 0⟩ : Tk)]).length) (fun zz => tkc ((ws ++ [(⟨0, [], -77, 0⟩ : Tk)]).getD zz tok0)) rfl (by rw [List.length_append]; rfl) (fun q hq => rfl) (fun z => ⟨_, rfl, rfl⟩)).say 34 (.sl 4 ((ws ++ [(⟨0, [], -77, 0⟩ : Tk)]).length) 0) rfl (by rw [List.length_append] <;> rfl); N hX 9 A rfl (ok_d (by show 0 ≤ ((ws.length : Nat) : Int) ∧ ((ws.length : Nat) : Int) ≤ (((ws ++ [(⟨0, [], -77, 0⟩ : Tk)]).length : Nat) : Int); exact (by (try simp only [List.length_append, List.length_cons, List.length_nil]); omega)) <| okE_nil) fun A => have A := A.freeze 4 rfl; CALLI [4] Gl.ok hI (xparse7_ ws (by omega) hw os hM) A rfl rfl rfl rfl rfl rfl rfl fun A => N hX 15 A rfl rfl fun A => CALL1 [0] (rparse5_ ws 0 (by omega) hw) A rfl rfl rfl rfl rfl rfl rfl fun A => N hX 19 A rfl rfl fun A => LOOP1 (fun (i7 : Nat) => [(2, .ff), (3, .sl 0 ws.length 0), (6, .sl 4 ((ws ++ [(⟨0, [], -77, 0⟩ : Tk)]).length) 0), (7, .ptr 5 0), (8, .str (parT x86G ws x86C)), (9, .int .i64 (parE x86G ws x86C)), (10, .int .i64 (parA x86G ws x86C)), (11, .ptr 6 0), (12, .str ((Old.parR ws).2.1)), (13, .int .i64 ((Old.parR ws).2.2.1)), (14, .int .i64 ((Old.parR ws).2.2.2)), (15, .int .i64 (i7 : Int))]) (fun (i7 : Nat) => [some (.lst 4 ws.length (fun zz => tkc (ws.getD zz tok0))), none, none, some (.blk [.int .i64 0, .str [], .int .i64 (-77), .int .i64 0]), some (.lst 4 ((ws ++ [(⟨0, [], -77, 0⟩ : Tk)]).length) (fun zz => tkc ((ws ++ [(⟨0, [], -77, 0⟩ : Tk)]).getD zz tok0))), some (.blk (inQ9 (parI x86G ws x86C))), some (.blk (oiQ9 ((Old.parR ws).1)))]) (fun (i7 : Nat) => i7 ≤ ws.length) (fun (i7 : Nat) => ws.length - i7) 0 (Nat.zero_le _) ((A.cut [2, 3, 6, 7, 8, 9, 10, 11, 12, 13, 14, 15] rfl).trunc 7 rfl rfl rfl (by simp only [List.length_cons, List.length_nil] at h0; omega)) fun i7 hI {G a w} A => N hX 9 A rfl rfl fun A => forkD 55 A rfl
    (fun h1 A => N hX 6 A rfl rfl fun A => DRAWN hX hmo [] [] A rfl (ok_d (by (try simp only [List.length_append, List.length_cons, List.length_nil]); omega) <| ok_d (by (try simp only [List.length_append, List.length_cons, List.length_nil]); omega) <| ok_d (by (try simp only [List.length_append, List.length_cons, List.length_nil]); omega) <| ok_d (by (try simp only [List.length_append, List.length_cons, List.length_nil]); omega) <| okE_nil) rfl rfl (by kernel_rfl) (effAll_nil _ _) trivial fun A => N hX 1 A rfl rfl fun A => fork 66 A rfl
     (fun h2 A => N hX 7 A rfl rfl fun A => RETN hX A rfl rfl rfl h0 rfl rfl rfl rfl (absurd h2 (by rw [tk_app (ws := ws) (x := (⟨0, [], -77, 0⟩ : Tk)) (k := ((i7 : Int)).toNat) (show ((i7 : Int)).toNat < ws.length by omega)]; simp)) rfl)
     (fun h2 A => N hX 9 A rfl (ok_d (by (try simp only [List.length_append, List.length_cons, List.length_nil]); omega) <| okE_nil) fun A => ⟨i7 + 1, _, (by omega), (by omega), ((A.cut [2, 3, 6, 7, 8, 9, 10, 11, 12, 13, 14, 15] rfl).trunc 7 rfl rfl rfl (by simp only [List.length_cons, List.length_nil] at h0; omega))⟩))
    (fun h1 A => N hX 36 A rfl (ok_r <| ok_r <| ok_r <| ok_r <| ok_r <| ok_r <| ok_r <| ok_r <| ok_r <| ok_r <| ok_r <| ok_r <| ok_g (fun hg => (by (try simp only [List.length_append, List.length_cons, List.length_nil]); omega)) <| ok_r <| ok_g (fun hg => (by (try simp only [List.length_append, List.length_cons, List.length_nil]); omega)) <| ok_r <| ok_g (fun hg => (by (try simp only [List.length_append, List.length_cons, List.length_nil]); omega)) <| ok_r <| ok_r <| okE_nil) fun A => RETN hX A rfl rfl rfl h0 rfl rfl rfl rfl (by have hb : ((((((((parI x86G ws x86C).op) == (((Old.parR ws).1).op)) && ((((parI x86G ws x86C).dst) == (((Old.parR ws).1).dst)) && ((((parI x86G ws x86C).ra) == (((Old.parR ws).1).a)) && ((((parI x86G ws x86C).rb) == (((Old.parR ws).1).b)) && ((((parI x86G ws x86C).imm) == (((Old.parR ws).1).imm)) && ((((parI x86G ws x86C).loc) == (((Old.parR ws).1).loc)) && ((((parI x86G ws x86C).off) == (((Old.parR ws).1).off)) && ((((parI x86G ws x86C).ix) == (((Old.parR ws).1).index)) && ((((parI x86G ws x86C).sz) == (((Old.parR ws).1).size)) && ((((parI x86G ws x86C).fn) == (((Old.parR ws).1).fn)) && ((((parI x86G ws x86C).acq) == (((Old.parR ws).1).acq)) && ((((parI x86G ws x86C).weak) == (((Old.parR ws).1).weak)) && ((((parI x86G ws x86C).rel) == (((Old.parR ws).1).rel)) && ((((parI x86G ws x86C).pred) == (((Old.parR ws).1).pred)) && ((((parI x86G ws x86C).succ) == (((Old.parR ws).1).succ)) && ((((parI x86G ws x86C).to_) == (((Old.parR ws).1).to)) && (((parI x86G ws x86C).zero) == (((Old.parR ws).1).zero)))))))))))))))))) && ((parT x86G ws x86C) == ((Old.parR ws).2.1))) && ((parE x86G ws x86C) == ((Old.parR ws).2.2.1))) && ((parA x86G ws x86C) == ((Old.parR ws).2.2.2))) && ((((ws ++ [(⟨0, [], -77, 0⟩ : Tk)]).getD ((((ws.length : Nat) : Int)).toNat) tok0).n) == (-77))) = true := (by rw [← par_ref hw hf, show ((((ws.length : Nat) : Int)).toNat) = ws.length from rfl, tk_new]; set_option simprocs true in simp [toO]); rw [hb]; rfl) rfl))
  (fun e k he ht => CALLI [] Gl.ok hI (tokens_no l e k os hM hE ht he) A rfl rfl rfl rfl rfl rfl rfl fun A => N hX 14 A rfl rfl fun A => have A := sy_sayD A 25 (.tt) rfl (fun _ => congrArg (fun b => some (Value.bool b)) (show (!(e == 0)) = true by simpa using he)); N hX 12 A rfl rfl fun A => RETN hX A rfl rfl rfl h0 rfl rfl rfl rfl rfl rfl)
theorem parses_ (l : List UInt8) (os : List (Nat × Obj)) (hM : ∀ w ks, Gl os w ks → ∃ m, w.cell? ⟨0, 0, none⟩ = some (.int .i64 m)) (hT : ∀ w ks, Gl os w ks → Lib.TabIs Tryz.prog w "internal/strconv.uint64pow10" .u64 Lib.pow10Tab) (hE : ∀ w ks, Gl os w ks → ∃ ev, w.cell? ⟨1, 0, none⟩ = some ev ∧ (ev = .nilIface ∨ ∃ te pe, ev = .iface te pe)) (h1 : l.length ≤ 140737488355328) : FnI (Gl os) Tryz.prog 3 [.str l] [] (Rt .tt []) := parses0_ l os hM hT hE
end Go.Proofs.YtedlaclfhgneeaaGreatDoor
namespace Go.Proofs.YtedlaclfhgneeaaGreatDoor
open Go.ChangeShapes Go.WideShapes Go.ChangeAt Go.RowKit
set_option linter.unusedVariables false
set_option linter.unusedSimpArgs false
set_option maxRecDepth 100000
theorem tab_fac {W : World} (h : Lib.TabIs Tryz.prog W "internal/strconv.uint64pow10" .u64 Lib.pow10Tab) : ∃ o, W.heap[5]? = some o ∧ ∀ w : World, w.heap[5]? = some o → Lib.TabIs Tryz.prog w "internal/strconv.uint64pow10" .u64 Lib.pow10Tab := by
  have hg : Tryz.prog.globalNamed "internal/strconv.uint64pow10" = some 5 := by kernel_rfl
  cases ho : W.heap[5]? with
  | none => unfold Lib.TabIs World.var? at h; rw [hg] at h; simp [ho] at h
  | some o =>
    refine ⟨o, rfl, fun w hw => ?_⟩
    unfold Lib.TabIs World.var? at h ⊢
    rw [hg] at h ⊢
    simp only [Option.bind_some, ho, hw] at h ⊢
    exact h
theorem cell_fac {W : World} {b k : Nat} {v : Value} (h : W.cell? ⟨b, k, none⟩ = some v) : ∃ o, W.heap[b]? = some o ∧ ∀ w : World, w.heap[b]? = some o → w.cell? ⟨b, k, none⟩ = some v := by
  cases ho : W.heap[b]? with
  | none => unfold World.cell? at h; simp [ho] at h
  | some o =>
    refine ⟨o, rfl, fun w hw => ?_⟩
    unfold World.cell? at h ⊢
    simp only [ho, hw] at h ⊢
    exact h
theorem call_of {f : Nat} {args : List SV} {vs : List Value} {W : World} (hT : Lib.TabIs Tryz.prog W "internal/strconv.uint64pow10" .u64 Lib.pow10Tab) (m0 : Int) (hm : W.cell? ⟨0, 0, none⟩ = some (.int .i64 m0)) (ev : Value) (he : W.cell? ⟨1, 0, none⟩ = some ev) (hev : ev = .nilIface ∨ ∃ te pe, ev = .iface te pe) (hv : denL [] args = some vs)
    (h : ∀ os : List (Nat × Obj), (∀ w ks, Gl os w ks → ∃ m, w.cell? ⟨0, 0, none⟩ = some (.int .i64 m)) → (∀ w ks, Gl os w ks → Lib.TabIs Tryz.prog w "internal/strconv.uint64pow10" .u64 Lib.pow10Tab) → (∀ w ks, Gl os w ks → ∃ ev, w.cell? ⟨1, 0, none⟩ = some ev ∧ (ev = .nilIface ∨ ∃ te pe, ev = .iface te pe)) → FnI (Gl os) Tryz.prog f args [] (Rt .tt [])) : Calls Tryz.prog f vs.toArray W fun e W' => e = .returned (.bool true) ∧ Grow W W' := by
  obtain ⟨o5, k5, c5⟩ := tab_fac hT
  obtain ⟨o0, k0, c0⟩ := cell_fac hm
  obtain ⟨o1, k1, c1⟩ := cell_fac he
  have hG : Gl [(0, o0), (1, o1), (5, o5)] W [] := fun p hp => by
    simp only [List.mem_cons, List.not_mem_nil, or_false] at hp
    rcases hp with rfl | rfl | rfl
    · exact ⟨k0, rfl⟩
    · exact ⟨k1, rfl⟩
    · exact ⟨k5, rfl⟩
  have hf := h [(0, o0), (1, o1), (5, o5)] (fun w ks hg => ⟨m0, c0 w (hg (0, o0) (by simp)).1⟩) (fun w ks hg => c5 w (hg (5, o5) (by simp)).1) (fun w ks hg => ⟨ev, c1 w (hg (1, o1) (by simp)).1, hev⟩)
  have hM : Mem [] [] W := ⟨rfl, fun i e h => by simp at h, fun i j e f L M _ h => by simp at h⟩
  refine Calls.mono (hf.2 [] W vs hM hG hv) fun e W' hp => ?_
  obtain ⟨v, F, h1, h2, _, h4⟩ := post_ro hp (fun i e he => by simp at he)
  cases h1
  exact ⟨h2, h4⟩
end Go.Proofs.YtedlaclfhgneeaaGreatDoor
