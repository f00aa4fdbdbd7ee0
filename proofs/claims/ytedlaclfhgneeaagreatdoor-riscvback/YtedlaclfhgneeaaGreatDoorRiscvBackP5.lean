/- RiscvBack, part 5: the engine, contracts, theory. -/
import Derived.Test.YtedlaclfhgneeaaGreatDoorRiscvBackP4
import Derived.Shelf.Spec.SlicesGrow
import Derived.LoopN
import Derived.WalkSmall
import Derived.ProofKit
import Derived.OpenShut
import Derived.ChangeOld
namespace Go.Proofs.YtedlaclfhgneeaaGreatDoor
set_option linter.unusedVariables false
set_option linter.unusedSimpArgs false
set_option maxRecDepth 100000
set_option maxHeartbeats 1000000
theorem right_of {i : Old.Ins} (h : Old.rightR i 0 1 = 0) : i = Old.plainF i ∧ Old.soundB i = true := by
  unfold Old.rightR at h
  cases hs : (Old.insEq i (Old.plainF i) && Old.soundB i) with
  | false => rw [hs] at h; exact absurd (show (34 : Int) = 0 from h) (by decide)
  | true => rw [Bool.and_eq_true] at hs; exact ⟨of_decide_eq_true hs.1, hs.2⟩
theorem acc_off {i : Old.Ins} (h : Old.accB i = true) : 0 ≤ i.off ∧ i.off < 8 := by
  unfold Old.accB at h
  simp only [Bool.and_eq_true, Bool.not_eq_true'] at h
  have hm := h.2
  cases hf : Old.fitsB i.off i.size with
  | false => unfold Old.maskR at hm; rw [hf] at hm; exact absurd (show ((0 : Int) == 0) = false from hm) (by decide)
  | true =>
    obtain ⟨o, k, e1, e2, e3, e4, _⟩ := Old.fits_yes hf
    omega
section
variable {ws : List Tk} {s : Old.Rs} {i : Old.Ins} {q lb : List UInt8}
theorem num_rng2 (hW : ∀ t ∈ ws, TkW t) : -9223372036854775808 ≤ (Old.numS ws s).2 ∧ (Old.numS ws s).2 ≤ 9223372036854775807 := by
  have z : (-9223372036854775808 : Int) ≤ 0 ∧ (0 : Int) ≤ 9223372036854775807 := ⟨by decide, by decide⟩
  unfold Old.numS
  split
  · unfold Old.numE
    split
    · next y hy =>
      split
      · show -9223372036854775808 ≤ (if _ then _ else _) ∧ (if _ then _ else _) ≤ (9223372036854775807 : Int)
        split
        · exact wrap_rng _
        · exact (hW y (List.mem_of_getElem? hy)).rg
      · exact z
    · exact z
  · exact z
theorem lab_tok (h : (Old.labR ws s).1.e = 0) : ∃ t ∈ ws, t.kind = 1 ∧ t.text = (Old.labR ws s).2 := by
  unfold Old.labR at h ⊢
  split at h
  · next he =>
    rw [if_pos he]
    split at h
    · next y hy =>
      split at h
      · next hk => simp only [hy, hk, if_true]; exact ⟨y, List.mem_of_getElem? hy, eq_of_beq hk, rfl⟩
      · exact absurd h (odd_ne (eq_of_beq he))
    · exact absurd h (odd_ne (eq_of_beq he))
  · next he => exact absurd (beq_iff_eq.2 h) he
end
theorem sound_acc {j : Old.Ins} (h : Old.soundB j = true) (ho : j.op = 4 ∨ j.op = 5 ∨ j.op = 6) : Old.accB j = true := by
  unfold Old.soundB at h
  generalize Old.accB j = ab at h ⊢
  rcases ho with e | e | e
  · simp [e] at h; exact h.1.2
  · simp [e] at h; exact h.2
  · simp [e] at h; exact h.1.2
theorem ws_len {l : List UInt8} {ws : List Tk} (h : tokensR l = (ws, 0, 0)) : ∀ t ∈ ws, t.text.length ≤ l.length := by
  by_cases hl : l.length > 8192
  · rw [tokens_long hl] at h
    have := congrArg (fun z => z.2.1) h
    exact absurd (show (2 : Int) = 0 from this) (by decide)
  · have hw := ws_toks (l.length + 1) l 0 [] (Nat.zero_le _) (Nat.zero_le _) (fun t ht => by cases ht)
    rw [← tokens_short (by omega), h] at hw
    exact fun t ht => (hw.2 t ht).2.2
end Go.Proofs.YtedlaclfhgneeaaGreatDoor
namespace Go.Proofs.YtedlaclfhgneeaaGreatDoor
open Go.RowKit
set_option linter.unusedVariables false
set_option linter.unusedSimpArgs false
set_option maxRecDepth 100000
set_option maxHeartbeats 2000000
set_option simprocs false
def regsV : List (List UInt8) := [[97, 48], [97, 49], [97, 50], [97, 51], [97, 52], [97, 53], [97, 54], [97, 55]]
def nameV (r : Int) : List UInt8 := if r < 0 then [] else (regsV[r.toNat]?).getD []
def regV (q : List UInt8) : Int := Old.idxL regsV q 0
def tlV (n : Int) : List UInt8 := if n == 1 then [98] else if n == 2 then [104] else if n == 4 then [119] else if n == 8 then [100] else []
def alusV : List (List UInt8) := [[97, 100, 100], [115, 117, 98], [120, 111, 114], [97, 110, 100], [111, 114]]
def alusW : List (List UInt8) := [[97, 100, 100, 105], [115, 117, 98, 105], [120, 111, 114, 105], [97, 110, 100, 105], [111, 114, 105]]
def aluV (q : List UInt8) : Int × Bool := if idxS alusV q < 0 then (if idxS alusW q < 0 then (0, false) else (idxS alusW q + 1, true)) else (idxS alusV q + 1, false)
def tailsV : List (List UInt8) := [[98], [104], [119], [100]]
def szV (q h : List UInt8) : Int := if preB q h then Old.szI (Old.idxL tailsV (q.drop h.length) 0) else 0
def amoN : List (List UInt8) := [[97, 109, 111, 115, 119, 97, 112, 46, 98], [97, 109, 111, 115, 119, 97, 112, 46, 98, 46, 97, 113], [97, 109, 111, 115, 119, 97, 112, 46, 98, 46, 114, 108], [97, 109, 111, 115, 119, 97, 112, 46, 98, 46, 97, 113, 46, 114, 108], [97, 109, 111, 115, 119, 97, 112, 46, 104], [97, 109, 111, 115, 119, 97, 112, 46, 104, 46, 97, 113], [97, 109, 111, 115, 119, 97, 112, 46, 104, 46, 114, 108], [97, 109, 111, 115, 119, 97, 112, 46, 104, 46, 97, 113, 46, 114, 108], [97, 109, 111, 115, 119, 97, 112, 46, 119], [97, 109, 111, 115, 119, 97, 112, 46, 119, 46, 97, 113], [97, 109, 111, 115, 119, 97, 112, 46, 119, 46, 114, 108], [97, 109, 111, 115, 119, 97, 112, 46, 119, 46, 97, 113, 46, 114, 108], [97, 109, 111, 115, 119, 97, 112, 46, 100], [97, 109, 111, 115, 119, 97, 112, 46, 100, 46, 97, 113], [97, 109, 111, 115, 119, 97, 112, 46, 100, 46, 114, 108], [97, 109, 111, 115, 119, 97, 112, 46, 100, 46, 97, 113, 46, 114, 108], [97, 109, 111, 97, 100, 100, 46, 98], [97, 109, 111, 97, 100, 100, 46, 98, 46, 97, 113], [97, 109, 111, 97, 100, 100, 46, 98, 46, 114, 108], [97, 109, 111, 97, 100, 100, 46, 98, 46, 97, 113, 46, 114, 108], [97, 109, 111, 97, 100, 100, 46, 104], [97, 109, 111, 97, 100, 100, 46, 104, 46, 97, 113], [97, 109, 111, 97, 100, 100, 46, 104, 46, 114, 108], [97, 109, 111, 97, 100, 100, 46, 104, 46, 97, 113, 46, 114, 108], [97, 109, 111, 97, 100, 100, 46, 119], [97, 109, 111, 97, 100, 100, 46, 119, 46, 97, 113], [97, 109, 111, 97, 100, 100, 46, 119, 46, 114, 108], [97, 109, 111, 97, 100, 100, 46, 119, 46, 97, 113, 46, 114, 108], [97, 109, 111, 97, 100, 100, 46, 100], [97, 109, 111, 97, 100, 100, 46, 100, 46, 97, 113], [97, 109, 111, 97, 100, 100, 46, 100, 46, 114, 108], [97, 109, 111, 97, 100, 100, 46, 100, 46, 97, 113, 46, 114, 108]]
def amoA (n : Nat) : Int × Int × Bool × Bool := (if n < 16 then 6 else 1, [1, 2, 4, 8].getD (n / 4 % 4) 0, (n % 4 == 1) || (n % 4 == 3), decide (n % 4 ≥ 2))
def amoV (q : List UInt8) : Int × Int × Bool × Bool := if idxS amoN q < 0 then (0, 0, false, false) else amoA (idxS amoN q).toNat
theorem nameV_o {g : Int} (h : ((decide (g < 0)) || (decide (g > 7))) = true) : nameV g = [] := by
  unfold nameV
  simp only [Bool.or_eq_true, decide_eq_true_eq] at h
  rcases h with h | h
  · rw [if_pos h]
  · rw [if_neg (by omega), List.getElem?_eq_none (by show regsV.length ≤ _; have : regsV.length = 8 := rfl; omega)]; rfl
def bitsV (L : List Tk) (s : Old.Rs) : Old.Rs × Int := if s.e == 0 then (match L[s.p]? with
    | some y => if (y.kind == 1) && !decide (Old.idxL [[114], [119], [114, 119]] y.text 0 < 0) then (⟨s.e, s.a, s.p + 1⟩, Old.idxL [[114], [119], [114, 119]] y.text 0 + 1) else (Old.oddR L true s, 0)
    | none => (Old.oddR L true s, 0)) else (s, 0)
def threeG (rf : List UInt8 → Int) (L : List Tk) (s : Old.Rs) (i : Old.Ins) : Old.Rs × Old.Ins := memG rf L (Old.markR L [44] (regG rf L (Old.markR L [44] (regG rf L s).1)).1) { i with dst := (regG rf L s).2, a := (regG rf L (Old.markR L [44] (regG rf L s).1)).2 }
section
variable {ws : List Tk} {s : Old.Rs} {i : Old.Ins}
end
def riscvR (ws : List Tk) (s : Old.Rs) (i : Old.Ins) (q : List UInt8) : (Bool × List UInt8) × Old.Rs × Old.Ins := if ((q == [108, 105]) || (q == [109, 118])) = true then if q = [108, 105] then ((true, []), ((Old.numS ws (Old.markR ws [44] ((regG regV ws s).1))).1), (Old.Ins.mk 1 ((regG regV ws s).2) i.a i.b ((Old.numS ws (Old.markR ws [44] ((regG regV ws s).1))).2) i.loc i.off i.index i.size i.fn i.acq i.weak i.rel i.pred i.succ i.to i.zero)) else ((true, []), ((regG regV ws (Old.markR ws [44] ((regG regV ws s).1))).1), (Old.Ins.mk 2 ((regG regV ws s).2) ((regG regV ws (Old.markR ws [44] ((regG regV ws s).1))).2) i.b i.imm i.loc i.off i.index i.size i.fn i.acq i.weak i.rel i.pred i.succ i.to i.zero)) else if ((aluV q).1) > 0 then if ((aluV q).2) = true then ((true, []), ((Old.numS ws (Old.markR ws [44] ((regG regV ws (Old.markR ws [44] ((regG regV ws s).1))).1))).1), (Old.Ins.mk 3 ((regG regV ws s).2) ((regG regV ws (Old.markR ws [44] ((regG regV ws s).1))).2) i.b ((Old.numS ws (Old.markR ws [44] ((regG regV ws (Old.markR ws [44] ((regG regV ws s).1))).1))).2) i.loc i.off i.index i.size ((aluV q).1) i.acq i.weak i.rel i.pred i.succ i.to i.zero)) else ((true, []), ((regG regV ws (Old.markR ws [44] ((regG regV ws (Old.markR ws [44] ((regG regV ws s).1))).1))).1), (Old.Ins.mk 3 ((regG regV ws s).2) ((regG regV ws (Old.markR ws [44] ((regG regV ws s).1))).2) ((regG regV ws (Old.markR ws [44] ((regG regV ws (Old.markR ws [44] ((regG regV ws s).1))).1))).2) i.imm i.loc i.off i.index i.size ((aluV q).1) i.acq i.weak i.rel i.pred i.succ i.to i.zero)) else if (szV q [108]) > 0 then ((true, []), ((memG regV ws (Old.markR ws [44] ((regG regV ws s).1)) (Old.Ins.mk 4 ((regG regV ws s).2) i.a i.b i.imm i.loc i.off i.index (szV q [108]) i.fn i.acq i.weak i.rel i.pred i.succ i.to i.zero)).1), ((memG regV ws (Old.markR ws [44] ((regG regV ws s).1)) (Old.Ins.mk 4 ((regG regV ws s).2) i.a i.b i.imm i.loc i.off i.index (szV q [108]) i.fn i.acq i.weak i.rel i.pred i.succ i.to i.zero)).2)) else if (szV q [115]) > 0 then ((true, []), ((memG regV ws (Old.markR ws [44] ((regG regV ws s).1)) (Old.Ins.mk 5 i.dst ((regG regV ws s).2) i.b i.imm i.loc i.off i.index (szV q [115]) i.fn i.acq i.weak i.rel i.pred i.succ i.to i.zero)).1), ((memG regV ws (Old.markR ws [44] ((regG regV ws s).1)) (Old.Ins.mk 5 i.dst ((regG regV ws s).2) i.b i.imm i.loc i.off i.index (szV q [115]) i.fn i.acq i.weak i.rel i.pred i.succ i.to i.zero)).2)) else if ((amoV q).1) > 0 then ((true, []), ((threeG regV ws s (Old.Ins.mk 6 i.dst i.a i.b i.imm i.loc i.off i.index ((amoV q).2.1) ((amoV q).1) ((amoV q).2.2.1) i.weak ((amoV q).2.2.2) i.pred i.succ i.to i.zero)).1), ((threeG regV ws s (Old.Ins.mk 6 i.dst i.a i.b i.imm i.loc i.off i.index ((amoV q).2.1) ((amoV q).1) ((amoV q).2.2.1) i.weak ((amoV q).2.2.2) i.pred i.succ i.to i.zero)).2)) else if q = [102, 101, 110, 99, 101] then ((true, []), ((bitsV ws (Old.markR ws [44] ((bitsV ws s).1))).1), (Old.Ins.mk 7 i.dst i.a i.b i.imm i.loc i.off i.index i.size i.fn i.acq i.weak i.rel ((bitsV ws s).2) ((bitsV ws (Old.markR ws [44] ((bitsV ws s).1))).2) i.to i.zero)) else if ((q == [98, 101, 113, 122]) || (q == [98, 110, 101, 122])) = true then ((true, (branG regV ws s i (q == [98, 101, 113, 122])).1), ((branG regV ws s i (q == [98, 101, 113, 122])).2.1), ((branG regV ws s i (q == [98, 101, 113, 122])).2.2)) else ((false, []), s, i)
def parV (L : List Tk) : Old.Ins × List UInt8 × Int × Int := match L[0]? with
  | none => Old.badR L
  | some y => if y.kind == 1 then Old.finR L (riscvR L ⟨0, 0, 0 + 1⟩ Old.blank y.text) else Old.badR L
section
variable {ws : List Tk} {s : Old.Rs} {i : Old.Ins}
theorem pv_bad (h : ((!(decide (0 < ws.length))) || (!((ws.getD 0 tok0).kind == 1))) = true) : parV ws = (Old.ins0, [], (Old.oddR ws true ⟨0, 0, 0⟩).e, (Old.oddR ws true ⟨0, 0, 0⟩).a) := by
  unfold parV
  by_cases hl : 0 < ws.length
  · rw [tk_get hl]
    rw [decide_eq_true hl] at h
    simp only
    rw [if_neg]
    · rfl
    · revert h
      cases ((ws.getD 0 tok0).kind == 1) <;> decide
  · rw [tk_non hl]; rfl
theorem pv_go (h : ((!(decide (0 < ws.length))) || (!((ws.getD 0 tok0).kind == 1))) = false) : parV ws = Old.finR ws (riscvR ws ⟨0, 0, nxK ws 0⟩ Old.blank (ws.getD 0 tok0).text) := by
  unfold parV
  by_cases hl : 0 < ws.length
  · rw [tk_get hl, nxK_y hl]
    rw [decide_eq_true hl] at h
    simp only
    rw [if_pos]
    revert h
    cases ((ws.getD 0 tok0).kind == 1) <;> decide
  · rw [decide_eq_false hl] at h; cases h
end
theorem nameV_le (r : Int) : (nameV r).length ≤ 2 := by
  unfold nameV
  split
  · exact Nat.zero_le _
  · cases h : regsV[r.toNat]? with
    | none => exact Nat.zero_le _
    | some x =>
      have hm := List.mem_of_getElem? h
      have : ∀ x ∈ regsV, x.length ≤ 2 := by decide
      exact this x hm
theorem tlV_le (n : Int) : (tlV n).length ≤ 1 := by
  unfold tlV; (repeat' split) <;> decide
theorem get4_le (k : Nat) : (([[], [114], [119], [114, 119]] : List (List UInt8)).getD k []).length ≤ 2 := by
  match k with
  | 0 => decide
  | 1 => decide
  | 2 => decide
  | 3 => decide
  | k + 4 => simp [List.getD]
def vror0 (r : Int) (v : Int) : List UInt8 := if r < 0 then Lib.itoa v else nameV r
theorem vror_le (r v : Int) (hv : -9223372036854775808 ≤ v ∧ v ≤ 9223372036854775807) : (vror0 r v).length ≤ 21 := by
  have := itoa_le v hv; have := nameV_le r; unfold vror0; split <;> omega
def vmem0 (i : In) : List UInt8 := if i.off ≠ 0 then if i.ix ≥ 0 then ((((([91] ++ (Old.locN (i.loc).toNat)) ++ [43]) ++ (Lib.itoa i.off)) ++ [43]) ++ (nameV i.ix)) ++ [93] else ((([91] ++ (Old.locN (i.loc).toNat)) ++ [43]) ++ (Lib.itoa i.off)) ++ [93] else if i.ix ≥ 0 then ((([91] ++ (Old.locN (i.loc).toNat)) ++ [43]) ++ (nameV i.ix)) ++ [93] else ([91] ++ (Old.locN (i.loc).toNat)) ++ [93]
theorem vmem_le (i : In) (h : -9223372036854775808 ≤ i.off ∧ i.off ≤ 9223372036854775807) : (vmem0 i).length ≤ 40 := by
  have := itoa_le i.off h; have := nameV_le i.ix; have := locN_le i.loc.toNat
  unfold vmem0; (repeat' split) <;> simp only [List.length_append, List.length_cons, List.length_nil] <;> omega
def vbr0 (z : Bool) : List UInt8 := if z = true then [98, 101, 113, 122] else [98, 110, 101, 122]
def vfnT (v : Int) : List UInt8 := [[], [97, 100, 100], [115, 117, 98], [120, 111, 114], [97, 110, 100], [111, 114]].getD (v).toNat []
def vfen0 (i : In) : List UInt8 := if ((i.op == 8) && ((2 : Int) == 3)) = true then [73, 83, 66] else if i.op = 8 then [] else (([102, 101, 110, 99, 101, 32] ++ ([[], [114], [119], [114, 119]].getD (i.pred).toNat [])) ++ [44]) ++ ([[], [114], [119], [114, 119]].getD (i.succ).toNat [])
def vrmw0 (i : In) (ds : List UInt8) (az : List UInt8) (ts : List UInt8) (ms : List UInt8) : List UInt8 := if i.fn = 1 then if i.acq = true then if i.rel = true then (((((((([97, 109, 111, 97, 100, 100, 46] ++ ts) ++ [46, 97, 113]) ++ [46, 114, 108]) ++ [32]) ++ ds) ++ [44]) ++ az) ++ [44]) ++ ms else ((((((([97, 109, 111, 97, 100, 100, 46] ++ ts) ++ [46, 97, 113]) ++ [32]) ++ ds) ++ [44]) ++ az) ++ [44]) ++ ms else if i.rel = true then ((((((([97, 109, 111, 97, 100, 100, 46] ++ ts) ++ [46, 114, 108]) ++ [32]) ++ ds) ++ [44]) ++ az) ++ [44]) ++ ms else (((((([97, 109, 111, 97, 100, 100, 46] ++ ts) ++ [32]) ++ ds) ++ [44]) ++ az) ++ [44]) ++ ms else if i.acq = true then if i.rel = true then (((((((([97, 109, 111, 115, 119, 97, 112, 46] ++ ts) ++ [46, 97, 113]) ++ [46, 114, 108]) ++ [32]) ++ ds) ++ [44]) ++ az) ++ [44]) ++ ms else ((((((([97, 109, 111, 115, 119, 97, 112, 46] ++ ts) ++ [46, 97, 113]) ++ [32]) ++ ds) ++ [44]) ++ az) ++ [44]) ++ ms else if i.rel = true then ((((((([97, 109, 111, 115, 119, 97, 112, 46] ++ ts) ++ [46, 114, 108]) ++ [32]) ++ ds) ++ [44]) ++ az) ++ [44]) ++ ms else (((((([97, 109, 111, 115, 119, 97, 112, 46] ++ ts) ++ [32]) ++ ds) ++ [44]) ++ az) ++ [44]) ++ ms
def vacc0 (i : In) (ds : List UInt8) (az : List UInt8) : List UInt8 := if ((i.op == 4) && ((2 : Int) == 3)) = true then if i.acq = true then if i.weak = true then (((([76, 68, 65, 80, 82] ++ (tlV i.sz)) ++ [32]) ++ ds) ++ [44]) ++ (vmem0 i) else (((([76, 68, 65, 82] ++ (tlV i.sz)) ++ [32]) ++ ds) ++ [44]) ++ (vmem0 i) else if i.weak = true then (((([76, 68, 65, 80, 82] ++ (tlV i.sz)) ++ [32]) ++ ds) ++ [44]) ++ (vmem0 i) else (((([76, 68, 82] ++ (tlV i.sz)) ++ [32]) ++ ds) ++ [44]) ++ (vmem0 i) else if ((i.op == 4) && (i.acq || i.weak)) = true then [] else if ((i.op == 4) && ((2 : Int) == 2)) = true then (((([108] ++ (tlV i.sz)) ++ [32]) ++ ds) ++ [44]) ++ (vmem0 i) else if i.op = 4 then (((([77, 79, 86] ++ (tlV i.sz)) ++ [32]) ++ ds) ++ [44]) ++ (vmem0 i) else if ((i.op == 5) && ((2 : Int) == 1)) = true then if i.rel = true then [] else (((([77, 79, 86] ++ (tlV i.sz)) ++ [32]) ++ (vmem0 i)) ++ [44]) ++ (vror0 i.ra i.imm) else if ((i.op == 5) && (decide (i.ra < 0))) = true then [] else if ((i.op == 5) && ((2 : Int) == 2)) = true then if i.rel = true then [] else (((([115] ++ (tlV i.sz)) ++ [32]) ++ az) ++ [44]) ++ (vmem0 i) else if i.op = 5 then if i.rel = true then (((([83, 84, 76, 82] ++ (tlV i.sz)) ++ [32]) ++ az) ++ [44]) ++ (vmem0 i) else (((([83, 84, 82] ++ (tlV i.sz)) ++ [32]) ++ az) ++ [44]) ++ (vmem0 i) else vrmw0 i ds az (tlV i.sz) (vmem0 i)
def vtxt0 (i : In) (lb : List UInt8) : List UInt8 := if i.op = 1 then (([108, 105, 32] ++ (nameV i.dst)) ++ [44]) ++ (Lib.itoa i.imm) else if i.op = 2 then (([109, 118, 32] ++ (nameV i.dst)) ++ [44]) ++ (nameV i.ra) else if i.op = 3 then if (((2 : Int) == 2) && (decide (i.rb < 0))) = true then (((((((vfnT i.fn) ++ [105]) ++ [32]) ++ (nameV i.dst)) ++ [44]) ++ (nameV i.ra)) ++ [44]) ++ (vror0 i.rb i.imm) else ((((((vfnT i.fn) ++ [32]) ++ (nameV i.dst)) ++ [44]) ++ (nameV i.ra)) ++ [44]) ++ (vror0 i.rb i.imm) else if i.op = 9 then ((((vbr0 i.zero) ++ [32]) ++ (nameV i.ra)) ++ [44]) ++ lb else if i.op = 7 then vfen0 i else if i.op = 8 then vfen0 i else vacc0 i (nameV i.dst) (nameV i.ra)
def prV (i : In) (lb : List UInt8) : List UInt8 × Int := if i.op = 9 then (if Old.rightR (toO ({ i with to_ := 1 } : In)) 0 1 = 0 then (if vtxt0 i lb = [] then ([], 36) else if oneN lb = true then (vtxt0 i lb, 0) else ([], 37)) else ([], 34)) else (if Old.rightR (toO i) 0 1 = 0 then (if vtxt0 i lb = [] then ([], 36) else (vtxt0 i lb, 0)) else ([], 34))
def r5 : List (List UInt8 × Int) := [([97, 100, 100], 1), ([115, 117, 98], 2), ([120, 111, 114], 3), ([97, 110, 100], 4), ([111, 114], 5)]
theorem r5_len : ∀ k, (r5.getD k nz).1.length ≤ 3
  | 0 => by decide
  | 1 => by decide
  | 2 => by decide
  | 3 => by decide
  | 4 => by decide
  | k + 5 => by simp [r5, List.getD]
abbrev rr1 (x : List UInt8 × Int) (b1 : Nat) : Rw := ⟨x.1, [], insF 3 x.2, some ⟨b1, 0, none⟩, [1, 2, 3], 3⟩
abbrev rr2 (x : List UInt8 × Int) (b2 : Nat) : Rw := ⟨x.1 ++ [105], [], insF 3 x.2, some ⟨b2, 0, none⟩, [1, 2, 5], 3⟩
def rcomp : List (List UInt8 × List UInt8 × In × List Int) := r5.flatMap fun x => [(x.1, [], insF 3 x.2, [1, 2, 3]), (x.1 ++ [105], [], insF 3 x.2, [1, 2, 5])]
structure RC (lo : Nat) (z : List Rw × Nat) (w : World) (ks : List Nat) : Prop where
  le : z.2 ≤ 5
  tm : z.1.map tm = rcomp.take (2 * z.2)
  rw : RowsIn lo z.1 w ks
theorem RC.len {lo : Nat} {z : List Rw × Nat} {w : World} {ks : List Nat} (h : RC lo z w ks) : z.1.length = 2 * z.2 := by
  have h1 := congrArg List.length h.tm
  rw [List.length_map, List.length_take] at h1
  have h2 : rcomp.length = 10 := by decide
  have := h.le
  omega
theorem RC.nx {lo b1 b2 : Nat} {z : List Rw × Nat} {w w1 : World} {ks ks1 : List Nat} {l : List (Nat × List SV)} (h : RC lo z w ks) (hk : (z.2 : Int) < 5) (hr : RowsIn lo z.1 w1 ks1) (hA : Acc lo [(b2, [.int .i64 1, .int .i64 2, .int .i64 5]), (b1, [.int .i64 1, .int .i64 2, .int .i64 3])] w1 ks1) : RC lo (z.1 ++ [rr1 (r5.getD ((z.2 : Int)).toNat nz) b1, rr2 (r5.getD ((z.2 : Int)).toNat nz) b2], z.2 + 1) w1 ks1 := by
  refine ⟨by have := h.le; show z.2 + 1 ≤ 5; omega, ?_, fun r hr' => ?_⟩
  · show List.map _ (z.1 ++ _) = _
    rw [List.map_append, h.tm, Int.toNat_natCast]
    have : z.2 = 0 ∨ z.2 = 1 ∨ z.2 = 2 ∨ z.2 = 3 ∨ z.2 = 4 := by omega
    rcases this with e | e | e | e | e <;> rw [e] <;> rfl
  · rcases List.mem_append.1 hr' with h1 | h1
    · exact hr r h1
    · simp only [List.mem_cons, List.mem_nil_iff, or_false] at h1
      rcases h1 with rfl | rfl
      · exact lies_of (cs := []) [1, 2, 3] hA (List.mem_cons_of_mem _ (List.mem_cons_self))
      · exact lies_of (cs := []) [1, 2, 5] hA (List.mem_cons_self)
theorem rcomp_ : FnR Tryz.prog 94 [] [] (fun x w w' => ∃ (L : List Rw) (b cp : Nat), x = .sla (some ⟨b, 0, none⟩) 10 cp ∧ (L.map tm = rcomp ∧ RowsIn w.heap.size L w' [b]) ∧ w.heap.size ≤ b ∧ Given 109 20 10 (fun zz => rwc (L.getD zz Rw.z)) b cp w') :=
 enterR (n := 37) (by kernel_rfl) Tryz.func94 rfl rfl rfl fun G w a h0 A => N hX 13 A rfl rfl fun A => have A := A.asT nz nfc 2 tyN.1 tyN.2.1 tyN.2.2 r5 0 rfl; N hX 17 A rfl rfl fun A => have A := A.nilRow 2 109 20 (fun zz => rwc (([] : List Rw).getD zz Rw.z)) rfl (fun z => ⟨_, rfl, rfl⟩); LOOPJ (fun (z : List Rw × Nat) => [(0, .sla none 0 0), (2, .sl 1 z.1.length 0), (12, .sl 0 5 5), (13, .int .i64 ((5 : Nat) : Int)), (14, .int .i64 (z.2 : Int))]) (fun (z : List Rw × Nat) => [some (.lst 2 5 (fun zz => nfc (r5.getD zz nz))), some (.row 109 20 z.1.length 0 (fun zz => rwc (z.1.getD zz Rw.z)))]) (fun z w1 ks1 => RC w.heap.size z w1 ks1) (fun z => 5 - z.2) ([], 0) (A.cut [0, 2, 12, 13, 14] rfl) ⟨by decide, rfl, fun r hr => by cases hr⟩ fun z G1 a1 w1 hJ hg A B => have hA : Acc w.heap.size [] w1 _ := Acc.nil; have hR := hJ.rw;
 N hX 6 A rfl rfl fun A => forkD 15 A rfl
   (fun h1 A => N hX 14 A rfl (ok_d (by omega) <| ok_d (by omega) <| okE_nil) fun A => N hX 4 A rfl rfl fun A => have A := sy_sayD A 20 (.agg [.int .i64 3, .int .i64 0, .int .i64 0, .int .i64 0, .int .i64 0, .int .i64 0, .int .i64 0, .int .i64 0, .int .i64 0, .int .i64 ((r5.getD (((z.2 : Int)).toNat) nz).2), .bool false, .bool false, .bool false, .int .i64 0, .int .i64 0, .int .i64 0, .bool false]) rfl (fun _ => rfl); N hX 9 A rfl rfl fun A => BSCI [.int .i64 1, .int .i64 2, .int .i64 3] (X := ⟨_, true⟩) hX RowsIn.ok B hA hR A rfl rfl rfl rfl fun b1 B hA hR A =>
 N hX 5 A rfl (ok_d (by have q := r5_len ((z.2 : Int)).toNat; (try simp only [List.length_append, List.length_cons, List.length_nil]); omega) <| okE_nil) fun A => BSCI [.int .i64 1, .int .i64 2, .int .i64 5] (X := ⟨_, true⟩) hX RowsIn.ok B hA hR A rfl rfl rfl rfl fun b2 B hA hR A =>
 N hX 2 A rfl rfl fun A => have A := A.asT Rw.z rwc 20 tyR.1 tyR.2.1 tyR.2.2 [rr1 (r5.getD (((z.2 : Int)).toNat) nz) b1, rr2 (r5.getD (((z.2 : Int)).toNat) nz) b2] 4 rfl; q_eff A rfl (aplE hX ((z.1 ++ [rr1 (r5.getD (((z.2 : Int)).toNat) nz) b1, rr2 (r5.getD (((z.2 : Int)).toNat) nz) b2]).length) (fun zz => rwc ((z.1 ++ [rr1 (r5.getD (((z.2 : Int)).toNat) nz) b1, rr2 (r5.getD (((z.2 : Int)).toNat) nz) b2]).getD zz Rw.z)) rfl rfl rfl rfl (Nat.le_refl _) (by have := hJ.len; have := hJ.le; omega) (by decide) List.length_append (fun k hk => by show rwc _ = rwc _; rw [getD_app_l hk]) (fun k hk => by show rwc _ = rwc _; rw [getD_app_r]) (fun z => ⟨_, rfl, rfl⟩) (fun k hk => ⟨_, rfl, okE_nil⟩)) fun A =>
 N hX 8 A rfl (ok_d (by omega) <| okE_nil) fun A => ⟨(z.1 ++ [rr1 (r5.getD (((z.2 : Int)).toNat) nz) b1, rr2 (r5.getD (((z.2 : Int)).toNat) nz) b2], z.2 + 1), _, (by have := h1; show _ - _ < _ - _; omega), (hJ.nx (l := []) h1 (RowsIn.ok _ _ _ _ hR A.mix fun b hb => A.keys_own b ((keys_pick (H := [some (.lst 2 5 (fun zz => nfc (r5.getD zz nz))), none, some (.blk [.str ((r5.getD (((z.2 : Int)).toNat) nz).1), .int .i64 ((r5.getD (((z.2 : Int)).toNat) nz).2)]), some (.blk [.int .i64 3, .int .i64 0, .int .i64 0, .int .i64 0, .int .i64 0, .int .i64 0, .int .i64 0, .int .i64 0, .int .i64 0, .int .i64 ((r5.getD (((z.2 : Int)).toNat) nz).2), .bool false, .bool false, .bool false, .int .i64 0, .int .i64 0, .int .i64 0, .bool false]), some (.lst 20 ([rr1 (r5.getD (((z.2 : Int)).toNat) nz) b1, rr2 (r5.getD (((z.2 : Int)).toNat) nz) b2].length) (fun zz => rwc ([rr1 (r5.getD (((z.2 : Int)).toNat) nz) b1, rr2 (r5.getD (((z.2 : Int)).toNat) nz) b2].getD zz Rw.z))), some (.row 109 20 ((z.1 ++ [rr1 (r5.getD (((z.2 : Int)).toNat) nz) b1, rr2 (r5.getD (((z.2 : Int)).toNat) nz) b2]).length) 0 (fun zz => rwc ((z.1 ++ [rr1 (r5.getD (((z.2 : Int)).toNat) nz) b1, rr2 (r5.getD (((z.2 : Int)).toNat) nz) b2]).getD zz Rw.z)))]) (m := [0, 5]) A.mem.len rfl rfl) b hb)) (hA.go A.mix fun b hb => A.keys_own b ((keys_pick (H := [some (.lst 2 5 (fun zz => nfc (r5.getD zz nz))), none, some (.blk [.str ((r5.getD (((z.2 : Int)).toNat) nz).1), .int .i64 ((r5.getD (((z.2 : Int)).toNat) nz).2)]), some (.blk [.int .i64 3, .int .i64 0, .int .i64 0, .int .i64 0, .int .i64 0, .int .i64 0, .int .i64 0, .int .i64 0, .int .i64 0, .int .i64 ((r5.getD (((z.2 : Int)).toNat) nz).2), .bool false, .bool false, .bool false, .int .i64 0, .int .i64 0, .int .i64 0, .bool false]), some (.lst 20 ([rr1 (r5.getD (((z.2 : Int)).toNat) nz) b1, rr2 (r5.getD (((z.2 : Int)).toNat) nz) b2].length) (fun zz => rwc ([rr1 (r5.getD (((z.2 : Int)).toNat) nz) b1, rr2 (r5.getD (((z.2 : Int)).toNat) nz) b2].getD zz Rw.z))), some (.row 109 20 ((z.1 ++ [rr1 (r5.getD (((z.2 : Int)).toNat) nz) b1, rr2 (r5.getD (((z.2 : Int)).toNat) nz) b2]).length) 0 (fun zz => rwc ((z.1 ++ [rr1 (r5.getD (((z.2 : Int)).toNat) nz) b1, rr2 (r5.getD (((z.2 : Int)).toNat) nz) b2]).getD zz Rw.z)))]) (m := [0, 5]) A.mem.len rfl rfl) b hb))), ((B.trans A).cut [0, 2, 12, 13, 14] rfl).mv 0 [0, 5] rfl rfl rfl rfl (by simp only [List.length_nil] at h0; omega)⟩)
   (fun h1 A => N hX 10 A rfl rfl fun A => (have e5 : z.2 = 5 := (by have := hJ.le; omega); have e : z.1.length = 10 := (by have := hJ.len; omega); match A.giveRow 1 0 (by omega) rfl rfl rfl with | ⟨b, cp, A2, hG, ho, hk⟩ => RETR (J := fun x w w' => ∃ (L : List Rw) (b cp : Nat), x = .sla (some ⟨b, 0, none⟩) 10 cp ∧ (L.map tm = rcomp ∧ RowsIn w.heap.size L w' [b]) ∧ w.heap.size ≤ b ∧ Given 109 20 10 (fun zz => rwc (L.getD zz Rw.z)) b cp w') hX (B.trans A2) (fun i e he => nil_no he) rfl rfl rfl rfl ⟨z.1, b, cp, (by show SV.sla _ z.1.length cp = _; rw [e]), ⟨(by have h2 := hJ.tm; rw [e5] at h2; exact h2), (RowsIn.ok _ _ _ _ hJ.rw A.mix fun b2 hb => by have : b2 = b := (by simpa using hb); rw [this]; exact ho)⟩, lo_of B (fun i e he => nil_no he) ho, (by rw [← e]; exact hG)⟩))
abbrev sz : List UInt8 × Bool × Bool := ([], false, false)
def sfc (x : List UInt8 × Bool × Bool) : List SV := [.str x.1, .bool x.2.1, .bool x.2.2]
theorem tyS : (∀ x, (sfc x).length = 3) ∧ (∀ x, inL 0 (sfc x) = true) ∧ (∀ x, ∃ vs, denL [] (sfc x) = some vs) := ⟨fun _ => rfl, fun _ => rfl, fun _ => ⟨_, rfl⟩⟩
def a2 : List (List UInt8 × Int) := [([97, 109, 111, 115, 119, 97, 112, 46, 42], 6), ([97, 109, 111, 97, 100, 100, 46, 42], 1)]
def s4 : List (List UInt8 × Bool × Bool) := [([], false, false), ([46, 97, 113], true, false), ([46, 114, 108], false, true), ([46, 97, 113, 46, 114, 108], true, true)]
theorem a2_len : ∀ k, (a2.getD k nz).1.length ≤ 100
  | 0 => by decide
  | 1 => by decide
  | k + 2 => by simp [a2, List.getD]
theorem s4_len : ∀ k, (s4.getD k sz).1.length ≤ 100
  | 0 => by decide
  | 1 => by decide
  | 2 => by decide
  | 3 => by decide
  | k + 4 => by simp [s4, List.getD]
def insA (x : List UInt8 × Int) (y : List UInt8 × Bool × Bool) : In := ⟨6, 0, 0, 0, 0, 0, 0, 0, 0, x.2, y.2.1, false, y.2.2, 0, 0, 0, false⟩
abbrev ra1 (x : List UInt8 × Int) (y : List UInt8 × Bool × Bool) (b1 : Nat) : Rw := ⟨x.1 ++ y.1, [], insA x y, some ⟨b1, 0, none⟩, [1, 2, 6], 3⟩
def ratom : List (List UInt8 × List UInt8 × In × List Int) := a2.flatMap fun x => s4.map fun y => (x.1 ++ y.1, [], insA x y, [1, 2, 6])
structure RA (lo n : Nat) (L : List Rw) (w : World) (ks : List Nat) : Prop where
  tm : L.map tm = ratom.take n
  rw : RowsIn lo L w ks
theorem RA.len {lo n : Nat} {L : List Rw} {w : World} {ks : List Nat} (h : RA lo n L w ks) : L.length ≤ 8 ∧ (n ≤ 8 → L.length = n) := by
  have h1 := congrArg List.length h.tm
  rw [List.length_map, List.length_take] at h1
  have h2 : ratom.length = 8 := by decide
  omega
theorem RA.nx {lo b1 k j : Nat} {L : List Rw} {w w1 : World} {ks ks1 : List Nat} (h : RA lo (4 * k + j) L w ks) (hk : k < 2) (hj : j < 4) (hr : RowsIn lo L w1 ks1) (hA : Acc lo [(b1, [.int .i64 1, .int .i64 2, .int .i64 6])] w1 ks1) : RA lo (4 * k + (j + 1)) (L ++ [ra1 (a2.getD ((k : Int)).toNat nz) (s4.getD ((j : Int)).toNat sz) b1]) w1 ks1 := by
  refine ⟨?_, fun r hr' => ?_⟩
  · rw [List.map_append, h.tm, Int.toNat_natCast, Int.toNat_natCast]
    have q1 : k = 0 ∨ k = 1 := by omega
    have q2 : j = 0 ∨ j = 1 ∨ j = 2 ∨ j = 3 := by omega
    rcases q1 with e | e <;> rcases q2 with e2 | e2 | e2 | e2 <;> rw [e, e2] <;> rfl
  · rcases List.mem_append.1 hr' with h1 | h1
    · exact hr r h1
    · simp only [List.mem_cons, List.mem_nil_iff, or_false] at h1
      subst h1
      exact lies_of (cs := []) [1, 2, 6] hA List.mem_cons_self
theorem ratom_ : FnR Tryz.prog 95 [] [] (fun x w w' => ∃ (L : List Rw) (b cp : Nat), x = .sla (some ⟨b, 0, none⟩) 8 cp ∧ (L.map tm = ratom ∧ RowsIn w.heap.size L w' [b]) ∧ w.heap.size ≤ b ∧ Given 109 20 8 (fun zz => rwc (L.getD zz Rw.z)) b cp w') :=
 enterR (n := 50) (by kernel_rfl) Tryz.func95 rfl rfl rfl fun G w a h0 A => N hX 10 A rfl rfl fun A => have A := A.asT nz nfc 2 tyN.1 tyN.2.1 tyN.2.2 a2 0 rfl; N hX 6 A rfl rfl fun A => have A := sy_sayD A 12 (.agg [.str [], .bool false, .bool false]) rfl (fun _ => rfl); N hX 1 A rfl rfl fun A => have A := sy_sayD A 13 (.agg [.str [46, 97, 113], .bool true, .bool false]) rfl (fun _ => rfl); N hX 1 A rfl rfl fun A => have A := sy_sayD A 14 (.agg [.str [46, 114, 108], .bool false, .bool true]) rfl (fun _ => rfl); N hX 1 A rfl rfl fun A => have A := sy_sayD A 15 (.agg [.str [46, 97, 113, 46, 114, 108], .bool true, .bool true]) rfl (fun _ => rfl); N hX 1 A rfl rfl fun A => have A := A.asT sz sfc 3 tyS.1 tyS.2.1 tyS.2.2 s4 1 rfl; N hX 17 A rfl rfl fun A => have A := A.nilRow 3 109 20 (fun zz => rwc (([] : List Rw).getD zz Rw.z)) rfl (fun z => ⟨_, rfl, rfl⟩); LOOPJ (fun (z : List Rw × Nat) => [(0, .sla none 0 0), (2, .sl 1 4 4), (3, .sl 2 z.1.length 0), (17, .sl 0 2 2), (18, .int .i64 ((2 : Nat) : Int)), (19, .int .i64 (z.2 : Int))]) (fun (z : List Rw × Nat) => [some (.lst 2 2 (fun zz => nfc (a2.getD zz nz))), some (.lst 3 4 (fun zz => sfc (s4.getD zz sz))), some (.row 109 20 z.1.length 0 (fun zz => rwc (z.1.getD zz Rw.z)))]) (fun z w1 ks1 => z.2 ≤ 2 ∧ RA w.heap.size (4 * z.2) z.1 w1 ks1) (fun z => 2 - z.2) ([], 0) (A.cut [0, 2, 3, 17, 18, 19] rfl) ⟨by decide, ⟨rfl, fun r hr => by cases hr⟩⟩ fun z G1 a1 w1 hJ hg A B => have hz2 := hJ.1; have hR := hJ.2.rw;
 N hX 6 A rfl rfl fun A => forkD 20 A rfl
   (fun h1 A => N hX 14 A rfl (ok_d (by omega) <| ok_d (by omega) <| okE_nil) fun A => N hX 7 A rfl rfl fun A => have hR := RowsIn.ok _ _ _ _ hR A.mix A.keys_own; LOOPJ (fun (y : List Rw × Nat) => [(0, .sla none 0 0), (2, .sl 1 4 4), (3, .sl 2 y.1.length 0), (5, .ptr 3 0), (17, .sl 0 2 2), (18, .int .i64 ((2 : Nat) : Int)), (19, .int .i64 (z.2 : Int)), (23, .sl 1 4 4), (24, .int .i64 ((4 : Nat) : Int)), (25, .int .i64 (y.2 : Int))]) (fun (y : List Rw × Nat) => [some (.lst 2 2 (fun zz => nfc (a2.getD zz nz))), some (.lst 3 4 (fun zz => sfc (s4.getD zz sz))), some (.row 109 20 y.1.length 0 (fun zz => rwc (y.1.getD zz Rw.z))), some (.blk [.str ((a2.getD (((z.2 : Int)).toNat) nz).1), .int .i64 ((a2.getD (((z.2 : Int)).toNat) nz).2)])]) (fun y w1 ks1 => y.2 ≤ 4 ∧ RA w.heap.size (4 * z.2 + y.2) y.1 w1 ks1) (fun y => 4 - y.2) (z.1, 0) ((B.trans A).cut [0, 2, 3, 5, 17, 18, 19, 23, 24, 25] rfl) ⟨Nat.zero_le 4, ⟨hJ.2.tm, hR⟩⟩ fun y G1 a1 w1 hJ hg A B => have hA : Acc w.heap.size [] w1 _ := Acc.nil; have hR := hJ.2.rw;
 N hX 6 A rfl rfl fun A => forkD 26 A rfl
     (fun h2 A => N hX 14 A rfl (ok_d (by omega) <| ok_d (by omega) <| okE_nil) fun A => N hX 8 A rfl rfl fun A => have A := sy_sayD A 35 (.agg [.int .i64 6, .int .i64 0, .int .i64 0, .int .i64 0, .int .i64 0, .int .i64 0, .int .i64 0, .int .i64 0, .int .i64 0, .int .i64 ((a2.getD (((z.2 : Int)).toNat) nz).2), .bool ((s4.getD (((y.2 : Int)).toNat) sz).2.1), .bool false, .bool ((s4.getD (((y.2 : Int)).toNat) sz).2.2), .int .i64 0, .int .i64 0, .int .i64 0, .bool false]) rfl (fun _ => rfl); N hX 12 A rfl (ok_d (by have q := a2_len ((z.2 : Int)).toNat; have q2 := s4_len ((y.2 : Int)).toNat; (try simp only [List.length_append, List.length_cons, List.length_nil]); omega) <| okE_nil) fun A => BSCI [.int .i64 1, .int .i64 2, .int .i64 6] (X := ⟨_, true⟩) hX RowsIn.ok B hA hR A rfl rfl rfl rfl fun b1 B hA hR A =>
 N hX 2 A rfl rfl fun A => have A := A.asT Rw.z rwc 20 tyR.1 tyR.2.1 tyR.2.2 [ra1 (a2.getD (((z.2 : Int)).toNat) nz) (s4.getD (((y.2 : Int)).toNat) sz) b1] 6 rfl; q_eff A rfl (aplE hX ((y.1 ++ [ra1 (a2.getD (((z.2 : Int)).toNat) nz) (s4.getD (((y.2 : Int)).toNat) sz) b1]).length) (fun zz => rwc ((y.1 ++ [ra1 (a2.getD (((z.2 : Int)).toNat) nz) (s4.getD (((y.2 : Int)).toNat) sz) b1]).getD zz Rw.z)) rfl rfl rfl rfl (Nat.le_refl _) (by have := hJ.2.len; have := hJ.1; omega) (by decide) List.length_append (fun k hk => by show rwc _ = rwc _; rw [getD_app_l hk]) (fun k hk => by show rwc _ = rwc _; rw [getD_app_r]) (fun z => ⟨_, rfl, rfl⟩) (fun k hk => ⟨_, rfl, okE_nil⟩)) fun A =>
 N hX 8 A rfl (ok_d (by omega) <| okE_nil) fun A => ⟨(y.1 ++ [ra1 (a2.getD (((z.2 : Int)).toNat) nz) (s4.getD (((y.2 : Int)).toNat) sz) b1], y.2 + 1), _, (by have := h2; show _ - _ < _ - _; omega), ⟨by have := h2; show y.2 + 1 ≤ 4; omega, hJ.2.nx (by omega) (by omega) (RowsIn.ok _ _ _ _ hR A.mix fun b hb => A.keys_own b ((keys_pick (H := [some (.lst 2 2 (fun zz => nfc (a2.getD zz nz))), some (.lst 3 4 (fun zz => sfc (s4.getD zz sz))), none, some (.blk [.str ((a2.getD (((z.2 : Int)).toNat) nz).1), .int .i64 ((a2.getD (((z.2 : Int)).toNat) nz).2)]), some (.blk [.str ((s4.getD (((y.2 : Int)).toNat) sz).1), .bool ((s4.getD (((y.2 : Int)).toNat) sz).2.1), .bool ((s4.getD (((y.2 : Int)).toNat) sz).2.2)]), some (.blk [.int .i64 6, .int .i64 0, .int .i64 0, .int .i64 0, .int .i64 0, .int .i64 0, .int .i64 0, .int .i64 0, .int .i64 0, .int .i64 ((a2.getD (((z.2 : Int)).toNat) nz).2), .bool ((s4.getD (((y.2 : Int)).toNat) sz).2.1), .bool false, .bool ((s4.getD (((y.2 : Int)).toNat) sz).2.2), .int .i64 0, .int .i64 0, .int .i64 0, .bool false]), some (.lst 20 ([ra1 (a2.getD (((z.2 : Int)).toNat) nz) (s4.getD (((y.2 : Int)).toNat) sz) b1].length) (fun zz => rwc ([ra1 (a2.getD (((z.2 : Int)).toNat) nz) (s4.getD (((y.2 : Int)).toNat) sz) b1].getD zz Rw.z))), some (.row 109 20 ((y.1 ++ [ra1 (a2.getD (((z.2 : Int)).toNat) nz) (s4.getD (((y.2 : Int)).toNat) sz) b1]).length) 0 (fun zz => rwc ((y.1 ++ [ra1 (a2.getD (((z.2 : Int)).toNat) nz) (s4.getD (((y.2 : Int)).toNat) sz) b1]).getD zz Rw.z)))]) (m := [0, 1, 7, 3]) A.mem.len rfl rfl) b hb)) (hA.go A.mix fun b hb => A.keys_own b ((keys_pick (H := [some (.lst 2 2 (fun zz => nfc (a2.getD zz nz))), some (.lst 3 4 (fun zz => sfc (s4.getD zz sz))), none, some (.blk [.str ((a2.getD (((z.2 : Int)).toNat) nz).1), .int .i64 ((a2.getD (((z.2 : Int)).toNat) nz).2)]), some (.blk [.str ((s4.getD (((y.2 : Int)).toNat) sz).1), .bool ((s4.getD (((y.2 : Int)).toNat) sz).2.1), .bool ((s4.getD (((y.2 : Int)).toNat) sz).2.2)]), some (.blk [.int .i64 6, .int .i64 0, .int .i64 0, .int .i64 0, .int .i64 0, .int .i64 0, .int .i64 0, .int .i64 0, .int .i64 0, .int .i64 ((a2.getD (((z.2 : Int)).toNat) nz).2), .bool ((s4.getD (((y.2 : Int)).toNat) sz).2.1), .bool false, .bool ((s4.getD (((y.2 : Int)).toNat) sz).2.2), .int .i64 0, .int .i64 0, .int .i64 0, .bool false]), some (.lst 20 ([ra1 (a2.getD (((z.2 : Int)).toNat) nz) (s4.getD (((y.2 : Int)).toNat) sz) b1].length) (fun zz => rwc ([ra1 (a2.getD (((z.2 : Int)).toNat) nz) (s4.getD (((y.2 : Int)).toNat) sz) b1].getD zz Rw.z))), some (.row 109 20 ((y.1 ++ [ra1 (a2.getD (((z.2 : Int)).toNat) nz) (s4.getD (((y.2 : Int)).toNat) sz) b1]).length) 0 (fun zz => rwc ((y.1 ++ [ra1 (a2.getD (((z.2 : Int)).toNat) nz) (s4.getD (((y.2 : Int)).toNat) sz) b1]).getD zz Rw.z)))]) (m := [0, 1, 7, 3]) A.mem.len rfl rfl) b hb))⟩, ((B.trans A).cut [0, 2, 3, 5, 17, 18, 19, 23, 24, 25] rfl).mv 0 [0, 1, 7, 3] rfl rfl rfl rfl (by simp only [List.length_nil] at h0; omega)⟩)
     (fun h2 A => N hX 8 A rfl (ok_d (by omega) <| okE_nil) fun A => ⟨(y.1, z.2 + 1), _, (by have := h1; show _ - _ < _ - _; omega), ⟨by have := h1; show z.2 + 1 ≤ 2; omega, ⟨(by have q := hJ.2.tm; have q1 := hJ.1; rw [show 4 * z.2 + y.2 = 4 * (z.2 + 1) by omega] at q; exact q), RowsIn.ok _ _ _ _ hJ.2.rw A.mix fun b hb => A.keys_own b ((keys_pick (H := [some (.lst 2 2 (fun zz => nfc (a2.getD zz nz))), some (.lst 3 4 (fun zz => sfc (s4.getD zz sz))), some (.row 109 20 y.1.length 0 (fun zz => rwc (y.1.getD zz Rw.z))), some (.blk [.str ((a2.getD (((z.2 : Int)).toNat) nz).1), .int .i64 ((a2.getD (((z.2 : Int)).toNat) nz).2)])]) (m := [0, 1, 2]) A.mem.len rfl rfl) b hb)⟩⟩, ((B.trans A).cut [0, 2, 3, 17, 18, 19] rfl).mv 0 [0, 1, 2] rfl rfl rfl rfl (by simp only [List.length_nil] at h0; omega)⟩))
   (fun h1 A => N hX 10 A rfl rfl fun A => (have e5 : z.2 = 2 := (by have := hJ.1; omega); have e : z.1.length = 8 := (by have := hJ.2.len; omega); match A.giveRow 2 0 (by omega) rfl rfl rfl with | ⟨b, cp, A2, hG, ho, hk⟩ => RETR (J := fun x w w' => ∃ (L : List Rw) (b cp : Nat), x = .sla (some ⟨b, 0, none⟩) 8 cp ∧ (L.map tm = ratom ∧ RowsIn w.heap.size L w' [b]) ∧ w.heap.size ≤ b ∧ Given 109 20 8 (fun zz => rwc (L.getD zz Rw.z)) b cp w') hX (B.trans A2) (fun i e he => nil_no he) rfl rfl rfl rfl ⟨z.1, b, cp, (by show SV.sla _ z.1.length cp = _; rw [e]), ⟨(by have h2 := hJ.2.tm; rw [e5] at h2; exact h2), (RowsIn.ok _ _ _ _ hJ.2.rw A.mix fun b2 hb => by have : b2 = b := (by simpa using hb); rw [this]; exact ho)⟩, lo_of B (fun i e he => nil_no he) ho, (by rw [← e]; exact hG)⟩))
end Go.Proofs.YtedlaclfhgneeaaGreatDoor
namespace Go.Proofs.YtedlaclfhgneeaaGreatDoor
open Go.Shelf Go.RowKit
set_option linter.unusedVariables false
def laysGrow_ren : Go.Shelf.Ren := ⟨fun | 4 => 136 | n => n, fun | 22 => 54 | 25 => 109 | n => n, fun | n => n⟩
theorem laysGrow : Go.Proofs.Lays8.n4 Tryz.prog laysGrow_ren := {
  mixed := by kernel_rfl
  f4 := ⟨"slices.Grow[[]belated/lang.Row,belated/lang.Row]", by decide, Tryz.func136.trans (congrArg some (by kernel_rfl))⟩
  t0 := Tryz.underlying0
  a0 := Tryz.isAgg0
  z0 := Tryz.sizeOf0
  v0 := Tryz.zeroValue0
  t3 := Tryz.underlying3
  a3 := Tryz.isAgg3
  z3 := Tryz.sizeOf3
  v3 := Tryz.zeroValue3
  t4 := Tryz.underlying4
  a4 := Tryz.isAgg4
  z4 := Tryz.sizeOf4
  v4 := Tryz.zeroValue4
  t9 := Tryz.underlying9
  a9 := Tryz.isAgg9
  z9 := Tryz.sizeOf9
  v9 := Tryz.zeroValue9
  t20 := Tryz.underlying20
  a20 := Tryz.isAgg20
  z20 := Tryz.sizeOf20
  v20 := Tryz.zeroValue20
  t22 := Tryz.underlying54
  a22 := Tryz.isAgg54
  z22 := Tryz.sizeOf54
  v22 := Tryz.zeroValue54 }
theorem rowInfo : ∃ ti z, Tryz.prog.info? 109 = some ti ∧ ti.zero = some z ∧ z.cells.size = 20 ∧ ti.size = 20 ∧ ti.bytes ≤ 100000 := by
  have h : (Tryz.prog.info? 109).map (fun ti => (ti.zero.map (fun z => z.cells.size), ti.size, Nat.ble ti.bytes 100000)) = some (some 20, 20, true) := by kernel_rfl
  cases e : Tryz.prog.info? 109 with
  | none => rw [e] at h; cases h
  | some ti =>
    rw [e] at h
    simp only [Option.map_some, Option.some.injEq, Prod.mk.injEq] at h
    obtain ⟨h1, h2, h3⟩ := h
    cases ez : ti.zero with
    | none => rw [ez] at h1; cases h1
    | some z =>
      rw [ez] at h1
      simp only [Option.map_some, Option.some.injEq] at h1
      exact ⟨ti, z, rfl, ez, h1, h2, Nat.le_of_ble_eq_true h3⟩
theorem grow_ (k : Nat) (h0 : 0 < k) (hk : k ≤ 1000000) : FnR Tryz.prog 136 [.sla none 0 0, .int .i64 k] [] (fun x w w' => ∃ (L : List Rw) (b cp : Nat), x = .sla (some ⟨b, 0, none⟩) 0 cp ∧ L = [] ∧ w.heap.size ≤ b ∧ Given 109 20 0 (fun zz => rwc (L.getD zz Rw.z)) b cp w') := by
  refine ⟨by kernel_rfl, fun G w vs hM hv => ?_⟩
  have hv' : some [Value.slice none 0 0, .int .i64 k] = some vs := hv
  cases hv'
  obtain ⟨ti, z, e1, e2, e3, e4, e5⟩ := rowInfo
  have hc := Any8.slices_Grow_grow laysGrow ti z e1 e2 (by omega) none 0 0 k [] w (Nat.le_refl _) (by omega) (by
    have : (0 + k) * ti.bytes ≤ 1000000 * 100000 := Nat.mul_le_mul (by omega) e5
    omega) (by omega) (by simp) (fun _ => rfl) (fun a ha => by cases ha)
  refine hc.mono ?_
  rintro e w' ⟨rfl, rfl⟩
  have hge := grownCap_ge w (0 + k) 0 109
  refine ⟨.sla (some ⟨w.heap.size, 0, none⟩) 0 (grownCap w (0 + k) 0 109), _, rfl, rfl, ((Grow.refl w).drew).alloc _, [], w.heap.size, _, rfl, rfl, Nat.le_refl _, fun k => ⟨_, rfl, rfl⟩, [], rfl, ?_⟩
  refine World.ownsRow_made w.drew _ _ (Nat.zero_le _) (grownCap_le_maxLen w (0 + k) 0 109 (by unfold maxLen; omega)) ?_
  show (([] : List Value).toArray ++ Builtin.zeroCells z.cells (0 + k - 0) ++ Builtin.zeroCells z.cells (grownCap w (0 + k) 0 109 - (0 + k))).size = _
  simp only [Array.size_append, List.size_toArray, List.length_nil, size_zeroCells, e3]
  omega
end Go.Proofs.YtedlaclfhgneeaaGreatDoor
namespace Go.Proofs.YtedlaclfhgneeaaGreatDoor
open Go.RowKit
set_option linter.unusedVariables false
set_option linter.unusedSimpArgs false
set_option maxRecDepth 100000
set_option maxHeartbeats 2000000
set_option simprocs false
section
variable {P : Program} {n : Nat} {ks : List Nat} {G0 : Gr} {w0 : World} {T : List (Nat × SV)} {H : Hp} {G : Gr} {a : Act} {w w' : World} {Q : Exit → Act → World → Prop} {K : List Fr} {ops : Array Oper} {o : Oper} {rest : List Oper} {c : Code}
theorem RND {q : Nat} (h : Goal P Q (.lp (Code.rounds P c (wpK P Q K) q) :: K) (.code c) a w) : Code.rounds P c (wpK P Q K) (q + 1) a w := h
theorem UNR (q : Nat) (h : Code.rounds P c (wpK P Q K) q a w) : Goal P Q K (.code (.loop c)) a w := wp_loop_rounds q h
theorem CALLROWA {β : Type} {e s m t f : Nat} {az : List SV} {F : β → Nat → List SV} {R : β → Nat → World → World → Prop} (hf : FnR P f az [] (fun x w w' => ∃ (L : β) (b cp : Nat), x = .sla (some ⟨b, 0, none⟩) m cp ∧ R L b w w' ∧ w.heap.size ≤ b ∧ Given e s m (F L) b cp w')) (A : Sy n T H ks G0 w0 G a w) (hd : o.dst = some t) (h1 : callS n ops T o = some (f, az)) (h2 : renL [] az = some az)
    (k : ∀ L b cp a' w' G', R L b w w' → w.heap.size ≤ b → (∀ k, (keys (H ++ [some (.row e s m 0 (F L))]) G').contains k = true → k < w.heap.size ∨ k = b) → Sy n ((t, .sl H.length m 0) :: extS T o.dst (.sla (some ⟨b, 0, none⟩) m cp)) (H ++ [some (.row e s m 0 (F L))]) ks G0 w0 G' a' w' → Goal P Q K (.ops ops rest) a' w') : Goal P Q K (.ops ops (o :: rest)) a w := by
  refine CALLR [] hf A h1 h2 rfl rfl rfl fun x a' w' hJ hk A' => ?_
  obtain ⟨L, b, cp, rfl, hR, hlo, hg⟩ := hJ
  have hl : look (extS T o.dst (.sla (some ⟨b, 0, none⟩) m cp)) t = some (.sla (some ⟨b, 0, none⟩) m cp) := by rw [hd]; simp [extS, look, Nat.beq_refl]
  have A2 := A'.takeRow t hg (fun i e L q1 q2 q3 => by
    have := A.mem.ent i e q1
    rw [q2] at this
    have := EntOK.lt this q3
    omega) (Nat.le_trans A.mix.size hlo) hl
  refine k L b cp a' w' _ hR hlo (fun k hk' => ?_) A2
  obtain ⟨i, e', M, q1, q2, q3, q4⟩ := mem_keys.1 hk'
  have hlen := A.mem.len
  by_cases hi : i < H.length
  · rw [List.getElem?_append_left hi] at q1
    rw [List.getElem?_append_left (by omega)] at q3
    exact .inl (hk k (mem_keys.2 ⟨i, e', M, q1, q2, q3, q4⟩))
  · right
    have hi2 : i = G.length := by
      have := (List.getElem?_eq_some_iff.1 q3).1
      simp at this
      omega
    subst hi2
    rw [List.getElem?_append_right (Nat.le_refl _)] at q3
    simp at q3
    rw [← q4, ← q3]
end
theorem ix_p {i o s m k : Nat} (j : Nat) {q : Nat} (hq : o + j * s + k = q) : ∀ G, den G (.ix (.ptr i o) s m (j : Int) k) = den G (.ptr i q) := fun G => by
  subst hq
  unfold den
  cases hG : G[i]? with
  | none => unfold den; rw [hG]
  | some p => cases p with
    | none => unfold den; rw [hG]
    | some L => unfold den; rw [hG]; simp [Nat.add_assoc]
theorem concat_ (L1 L2 L3 : List Rw) (c1 c2 c3 : Nat) (l1 : L1.length = 10) (l12 : (L1 ++ L2).length = 18) : Fn Tryz.prog 93 [.sl 0 3 3] [some (.blk [.sl 1 10 c1, .sl 2 8 c2, .sl 3 7 c3]), some (.lst 20 10 (fun zz => rwc (L1.getD zz Rw.z))), some (.lst 20 8 (fun zz => rwc (L2.getD zz Rw.z))), some (.lst 20 7 (fun zz => rwc (L3.getD zz Rw.z)))] (Rt (.sl 4 25 0) [some (.blk [.sl 1 10 c1, .sl 2 8 c2, .sl 3 7 c3]), some (.lst 20 10 (fun zz => rwc (L1.getD zz Rw.z))), some (.lst 20 8 (fun zz => rwc (L2.getD zz Rw.z))), some (.lst 20 7 (fun zz => rwc (L3.getD zz Rw.z))), some (.row 109 20 25 0 (fun zz => rwc (((L1 ++ L2) ++ L3).getD zz Rw.z)))]) :=
 enterM (n := 36) (by kernel_rfl) Tryz.func93 rfl rfl rfl fun G w a h0 A => N hX 15 A rfl rfl fun A => have A := sy_sayD A 10 (.int .i64 3) rfl (fun _ => rfl); N hX 1 A rfl rfl fun A => N hX 3 A rfl rfl fun A => UNR 4 (RND (have A := A.cut [0, 2, 3, 9, 10, 11] rfl;
 N hX 6 A rfl rfl fun A => forkD 12 A rfl
   (fun h1 A => N hX 8 A rfl (ok_d (by omega) <| okE_nil) fun A => have A := sy_sayD A 13 (.ptr 0 0) rfl (ix_p 0 rfl); N hX 7 A rfl rfl fun A => N hX 2 A rfl rfl fun A => have A := sy_sayD A 17 (.int .i64 10) rfl (fun _ => rfl); N hX 1 A rfl (ok_d (by omega) <| okE_nil) fun A => have A := sy_sayD A 18 (.int .i64 10) rfl (fun _ => rfl); N hX 6 A rfl rfl fun A => N hX 3 A rfl rfl fun A => forkD 20 A rfl
    (fun h2 A => absurd h2 (by decide))
    (fun h2 A => N hX 6 A rfl (ok_d (by omega) <| okE_nil) fun A => have A := sy_sayD A 22 (.int .i64 1) rfl (fun _ => rfl); N hX 1 A rfl rfl fun A => N hX 1 A rfl rfl fun A => RND (have A := A.cut [0, 2, 3, 9, 10, 11] rfl;
 N hX 6 A rfl rfl fun A => forkD 12 A rfl
     (fun h3 A => N hX 8 A rfl (ok_d (by omega) <| okE_nil) fun A => have A := sy_sayD A 13 (.ptr 0 1) rfl (ix_p 1 rfl); N hX 7 A rfl rfl fun A => N hX 2 A rfl rfl fun A => have A := sy_sayD A 17 (.int .i64 8) rfl (fun _ => rfl); N hX 1 A rfl (ok_d (by omega) <| okE_nil) fun A => have A := sy_sayD A 18 (.int .i64 18) rfl (fun _ => rfl); N hX 6 A rfl rfl fun A => N hX 3 A rfl rfl fun A => forkD 20 A rfl
      (fun h4 A => absurd h4 (by decide))
      (fun h4 A => N hX 6 A rfl (ok_d (by omega) <| okE_nil) fun A => have A := sy_sayD A 22 (.int .i64 2) rfl (fun _ => rfl); N hX 1 A rfl rfl fun A => N hX 1 A rfl rfl fun A => RND (have A := A.cut [0, 2, 3, 9, 10, 11] rfl;
 N hX 6 A rfl rfl fun A => forkD 12 A rfl
       (fun h5 A => N hX 8 A rfl (ok_d (by omega) <| okE_nil) fun A => have A := sy_sayD A 13 (.ptr 0 2) rfl (ix_p 2 rfl); N hX 7 A rfl rfl fun A => N hX 2 A rfl rfl fun A => have A := sy_sayD A 17 (.int .i64 7) rfl (fun _ => rfl); N hX 1 A rfl (ok_d (by omega) <| okE_nil) fun A => have A := sy_sayD A 18 (.int .i64 25) rfl (fun _ => rfl); N hX 6 A rfl rfl fun A => N hX 3 A rfl rfl fun A => forkD 20 A rfl
        (fun h6 A => absurd h6 (by decide))
        (fun h6 A => N hX 6 A rfl (ok_d (by omega) <| okE_nil) fun A => have A := sy_sayD A 22 (.int .i64 3) rfl (fun _ => rfl); N hX 1 A rfl rfl fun A => N hX 1 A rfl rfl fun A => RND (have A := A.cut [0, 2, 3, 9, 10, 11] rfl;
 N hX 6 A rfl rfl fun A => forkD 12 A rfl
         (fun h7 A => absurd h7 (by decide))
         (fun h7 A => N hX 6 A rfl rfl fun A => CALLROWA (t := 24) (F := fun (L : List Rw) zz => rwc (L.getD zz Rw.z)) (R := fun L b w w' => L = []) (grow_ 25 (by decide) (by decide)) A rfl rfl rfl fun L b1 cp1 a1 w1 G1 hR hlo hk A =>
 N hX 8 A rfl rfl fun A => have A := sy_sayD A 26 (.int .i64 3) rfl (fun _ => rfl); N hX 1 A rfl rfl fun A => N hX 3 A rfl rfl fun A => UNR 4 (RND (have A := A.cut [2, 6, 25, 26, 27] rfl;
 N hX 6 A rfl rfl fun A => forkD 28 A rfl
           (fun h8 A => N hX 8 A rfl (ok_d (by omega) <| okE_nil) fun A => have A := sy_sayD A 29 (.ptr 0 0) rfl (ix_p 0 rfl); N hX 7 A rfl rfl fun A => q_eff A rfl (aplE hX 10 (fun zz => rwc (L1.getD zz Rw.z)) rfl rfl rfl rfl (Nat.le_refl _) (by decide) (show 10 ≤ 1000000 by decide) rfl (fun k hk => absurd hk (Nat.not_lt_zero k)) (fun k hk => by show rwc (L1.getD (0 + k) Rw.z) = rwc _; rw [Nat.zero_add]) (fun z => ⟨_, rfl, rfl⟩) (fun k hk => ⟨_, rfl, okE_nil⟩)) fun A =>
 N hX 6 A rfl (ok_d (by omega) <| okE_nil) fun A => have A := sy_sayD A 34 (.int .i64 1) rfl (fun _ => rfl); N hX 1 A rfl rfl fun A => N hX 1 A rfl rfl fun A => RND (have A := A.cut [2, 6, 25, 26, 27] rfl;
 N hX 6 A rfl rfl fun A => forkD 28 A rfl
            (fun h9 A => N hX 8 A rfl (ok_d (by omega) <| okE_nil) fun A => have A := sy_sayD A 29 (.ptr 0 1) rfl (ix_p 1 rfl); N hX 7 A rfl rfl fun A => q_eff A rfl (aplE hX 18 (fun zz => rwc ((L1 ++ L2).getD zz Rw.z)) rfl rfl rfl rfl (Nat.le_refl _) (by decide) (show 8 ≤ 1000000 by decide) rfl (fun k hk => by show rwc _ = rwc _; rw [getD_app_l (by rw [l1]; exact hk)]) (fun k hk => by show rwc ((L1 ++ L2).getD (10 + k) Rw.z) = rwc _; rw [show 10 + k = L1.length + k by rw [l1], getD_app_r]) (fun z => ⟨_, rfl, rfl⟩) (fun k hk => ⟨_, rfl, okE_nil⟩)) fun A =>
 N hX 6 A rfl (ok_d (by omega) <| okE_nil) fun A => have A := sy_sayD A 34 (.int .i64 2) rfl (fun _ => rfl); N hX 1 A rfl rfl fun A => N hX 1 A rfl rfl fun A => RND (have A := A.cut [2, 6, 25, 26, 27] rfl;
 N hX 6 A rfl rfl fun A => forkD 28 A rfl
             (fun h10 A => N hX 8 A rfl (ok_d (by omega) <| okE_nil) fun A => have A := sy_sayD A 29 (.ptr 0 2) rfl (ix_p 2 rfl); N hX 7 A rfl rfl fun A => q_eff A rfl (aplE hX 25 (fun zz => rwc (((L1 ++ L2) ++ L3).getD zz Rw.z)) rfl rfl rfl rfl (Nat.le_refl _) (by decide) (show 7 ≤ 1000000 by decide) rfl (fun k hk => by show rwc _ = rwc _; rw [getD_app_l (by rw [l12]; exact hk)]) (fun k hk => by show rwc (((L1 ++ L2) ++ L3).getD (18 + k) Rw.z) = rwc _; rw [show 18 + k = (L1 ++ L2).length + k by rw [l12], getD_app_r]) (fun z => ⟨_, rfl, rfl⟩) (fun k hk => ⟨_, rfl, okE_nil⟩)) fun A =>
 N hX 6 A rfl (ok_d (by omega) <| okE_nil) fun A => have A := sy_sayD A 34 (.int .i64 3) rfl (fun _ => rfl); N hX 1 A rfl rfl fun A => N hX 1 A rfl rfl fun A => RND (have A := A.cut [2, 6, 25, 26, 27] rfl;
 N hX 6 A rfl rfl fun A => forkD 28 A rfl
              (fun h11 A => absurd h11 (by decide))
              (fun h11 A => N hX 10 A rfl rfl fun A => RET hX [7] A ⟨rfl, rfl⟩ rfl rfl rfl rfl rfl rfl rfl rfl h0)))
             (fun h10 A => absurd (by decide) h10)))
            (fun h9 A => absurd (by decide) h9)))
           (fun h8 A => absurd (by decide) h8)))))))
       (fun h5 A => absurd (by decide) h5))))
     (fun h3 A => absurd (by decide) h3))))
   (fun h1 A => absurd (by decide) h1)))
abbrev rothL (b1 b2 b3 b4 b5 b6 b7 b8 : Nat) : List (Nat × List SV) := [(b8, [.str [108, 105], .str [], .int .i64 1, .int .i64 0, .int .i64 0, .int .i64 0, .int .i64 0, .int .i64 0, .int .i64 0, .int .i64 0, .int .i64 0, .int .i64 0, .ff, .ff, .ff, .int .i64 0, .int .i64 0, .int .i64 0, .ff, .sla (some ⟨b1, 0, none⟩) 2 2, .str [109, 118], .str [], .int .i64 2, .int .i64 0, .int .i64 0, .int .i64 0, .int .i64 0, .int .i64 0, .int .i64 0, .int .i64 0, .int .i64 0, .int .i64 0, .ff, .ff, .ff, .int .i64 0, .int .i64 0, .int .i64 0, .ff, .sla (some ⟨b2, 0, none⟩) 2 2, .str [108, 42], .str [], .int .i64 4, .int .i64 0, .int .i64 0, .int .i64 0, .int .i64 0, .int .i64 0, .int .i64 0, .int .i64 0, .int .i64 0, .int .i64 0, .ff, .ff, .ff, .int .i64 0, .int .i64 0, .int .i64 0, .ff, .sla (some ⟨b3, 0, none⟩) 2 2, .str [115, 42], .str [], .int .i64 5, .int .i64 0, .int .i64 0, .int .i64 0, .int .i64 0, .int .i64 0, .int .i64 0, .int .i64 0, .int .i64 0, .int .i64 0, .ff, .ff, .ff, .int .i64 0, .int .i64 0, .int .i64 0, .ff, .sla (some ⟨b4, 0, none⟩) 2 2, .str [102, 101, 110, 99, 101], .str [], .int .i64 7, .int .i64 0, .int .i64 0, .int .i64 0, .int .i64 0, .int .i64 0, .int .i64 0, .int .i64 0, .int .i64 0, .int .i64 0, .ff, .ff, .ff, .int .i64 0, .int .i64 0, .int .i64 0, .ff, .sla (some ⟨b5, 0, none⟩) 2 2, .str [98, 101, 113, 122], .str [], .int .i64 9, .int .i64 0, .int .i64 0, .int .i64 0, .int .i64 0, .int .i64 0, .int .i64 0, .int .i64 0, .int .i64 0, .int .i64 0, .ff, .ff, .ff, .int .i64 0, .int .i64 0, .int .i64 0, .tt, .sla (some ⟨b6, 0, none⟩) 2 2, .str [98, 110, 101, 122], .str [], .int .i64 9, .int .i64 0, .int .i64 0, .int .i64 0, .int .i64 0, .int .i64 0, .int .i64 0, .int .i64 0, .int .i64 0, .int .i64 0, .ff, .ff, .ff, .int .i64 0, .int .i64 0, .int .i64 0, .ff, .sla (some ⟨b7, 0, none⟩) 2 2]), (b7, [.int .i64 2, .int .i64 7]), (b6, [.int .i64 2, .int .i64 7]), (b5, [.int .i64 8, .int .i64 9]), (b4, [.int .i64 2, .int .i64 6]), (b3, [.int .i64 1, .int .i64 6]), (b2, [.int .i64 1, .int .i64 2]), (b1, [.int .i64 1, .int .i64 5])]
theorem roth_ : FnR Tryz.prog 96 [] [] (fun x w w' => ∃ b1 b2 b3 b4 b5 b6 b7 b8 : Nat, x = .sla (some ⟨b8, 0, none⟩) 7 7 ∧ Acc w.heap.size (rothL b1 b2 b3 b4 b5 b6 b7 b8) w' []) :=
 enterR (n := 23) (by kernel_rfl) Tryz.func96 rfl rfl rfl fun G w a h0 A => have B := A; have hA : Acc w.heap.size [] w _ := Acc.nil; N hX 8 A rfl rfl fun A => BSCA [.int .i64 1, .int .i64 5] (X := ⟨_, true⟩) hX B hA A rfl rfl rfl rfl fun b1 B hA A =>
 N hX 2 A rfl rfl fun A => BSCA [.int .i64 1, .int .i64 2] (X := ⟨_, true⟩) hX B hA A rfl rfl rfl rfl fun b2 B hA A =>
 N hX 2 A rfl rfl fun A => BSCA [.int .i64 1, .int .i64 6] (X := ⟨_, true⟩) hX B hA A rfl rfl rfl rfl fun b3 B hA A =>
 N hX 2 A rfl rfl fun A => BSCA [.int .i64 2, .int .i64 6] (X := ⟨_, true⟩) hX B hA A rfl rfl rfl rfl fun b4 B hA A =>
 N hX 2 A rfl rfl fun A => BSCA [.int .i64 8, .int .i64 9] (X := ⟨_, true⟩) hX B hA A rfl rfl rfl rfl fun b5 B hA A =>
 N hX 2 A rfl rfl fun A => BSCA [.int .i64 2, .int .i64 7] (X := ⟨_, true⟩) hX B hA A rfl rfl rfl rfl fun b6 B hA A =>
 N hX 2 A rfl rfl fun A => BSCA [.int .i64 2, .int .i64 7] (X := ⟨_, true⟩) hX B hA A rfl rfl rfl rfl fun b7 B hA A =>
 N hX 1 A rfl rfl fun A => BSCA [.str [108, 105], .str [], .int .i64 1, .int .i64 0, .int .i64 0, .int .i64 0, .int .i64 0, .int .i64 0, .int .i64 0, .int .i64 0, .int .i64 0, .int .i64 0, .ff, .ff, .ff, .int .i64 0, .int .i64 0, .int .i64 0, .ff, .sla (some ⟨b1, 0, none⟩) 2 2, .str [109, 118], .str [], .int .i64 2, .int .i64 0, .int .i64 0, .int .i64 0, .int .i64 0, .int .i64 0, .int .i64 0, .int .i64 0, .int .i64 0, .int .i64 0, .ff, .ff, .ff, .int .i64 0, .int .i64 0, .int .i64 0, .ff, .sla (some ⟨b2, 0, none⟩) 2 2, .str [108, 42], .str [], .int .i64 4, .int .i64 0, .int .i64 0, .int .i64 0, .int .i64 0, .int .i64 0, .int .i64 0, .int .i64 0, .int .i64 0, .int .i64 0, .ff, .ff, .ff, .int .i64 0, .int .i64 0, .int .i64 0, .ff, .sla (some ⟨b3, 0, none⟩) 2 2, .str [115, 42], .str [], .int .i64 5, .int .i64 0, .int .i64 0, .int .i64 0, .int .i64 0, .int .i64 0, .int .i64 0, .int .i64 0, .int .i64 0, .int .i64 0, .ff, .ff, .ff, .int .i64 0, .int .i64 0, .int .i64 0, .ff, .sla (some ⟨b4, 0, none⟩) 2 2, .str [102, 101, 110, 99, 101], .str [], .int .i64 7, .int .i64 0, .int .i64 0, .int .i64 0, .int .i64 0, .int .i64 0, .int .i64 0, .int .i64 0, .int .i64 0, .int .i64 0, .ff, .ff, .ff, .int .i64 0, .int .i64 0, .int .i64 0, .ff, .sla (some ⟨b5, 0, none⟩) 2 2, .str [98, 101, 113, 122], .str [], .int .i64 9, .int .i64 0, .int .i64 0, .int .i64 0, .int .i64 0, .int .i64 0, .int .i64 0, .int .i64 0, .int .i64 0, .int .i64 0, .ff, .ff, .ff, .int .i64 0, .int .i64 0, .int .i64 0, .tt, .sla (some ⟨b6, 0, none⟩) 2 2, .str [98, 110, 101, 122], .str [], .int .i64 9, .int .i64 0, .int .i64 0, .int .i64 0, .int .i64 0, .int .i64 0, .int .i64 0, .int .i64 0, .int .i64 0, .int .i64 0, .ff, .ff, .ff, .int .i64 0, .int .i64 0, .int .i64 0, .ff, .sla (some ⟨b7, 0, none⟩) 2 2] (X := ⟨_, true⟩) hX B hA A rfl rfl rfl rfl fun b8 B hA A =>
 N hX 4 A rfl rfl fun A => RETR (J := fun x w w' => ∃ b1 b2 b3 b4 b5 b6 b7 b8 : Nat, x = .sla (some ⟨b8, 0, none⟩) 7 7 ∧ Acc w.heap.size (rothL b1 b2 b3 b4 b5 b6 b7 b8) w' []) hX (B.trans A) (fun i e he => nil_no he) rfl rfl rfl rfl ⟨b1, b2, b3, b4, b5, b6, b7, b8, rfl, (hA.now A).bare⟩
def rothR (b1 b2 b3 b4 b5 b6 b7 : Nat) : List Rw := [⟨[108, 105], [], ⟨1, 0, 0, 0, 0, 0, 0, 0, 0, 0, false, false, false, 0, 0, 0, false⟩, some ⟨b1, 0, none⟩, [1, 5], 2⟩, ⟨[109, 118], [], ⟨2, 0, 0, 0, 0, 0, 0, 0, 0, 0, false, false, false, 0, 0, 0, false⟩, some ⟨b2, 0, none⟩, [1, 2], 2⟩, ⟨[108, 42], [], ⟨4, 0, 0, 0, 0, 0, 0, 0, 0, 0, false, false, false, 0, 0, 0, false⟩, some ⟨b3, 0, none⟩, [1, 6], 2⟩, ⟨[115, 42], [], ⟨5, 0, 0, 0, 0, 0, 0, 0, 0, 0, false, false, false, 0, 0, 0, false⟩, some ⟨b4, 0, none⟩, [2, 6], 2⟩, ⟨[102, 101, 110, 99, 101], [], ⟨7, 0, 0, 0, 0, 0, 0, 0, 0, 0, false, false, false, 0, 0, 0, false⟩, some ⟨b5, 0, none⟩, [8, 9], 2⟩, ⟨[98, 101, 113, 122], [], ⟨9, 0, 0, 0, 0, 0, 0, 0, 0, 0, false, false, false, 0, 0, 0, true⟩, some ⟨b6, 0, none⟩, [2, 7], 2⟩, ⟨[98, 110, 101, 122], [], ⟨9, 0, 0, 0, 0, 0, 0, 0, 0, 0, false, false, false, 0, 0, 0, false⟩, some ⟨b7, 0, none⟩, [2, 7], 2⟩]
def rothT : List (List UInt8 × List UInt8 × In × List Int) := [([108, 105], [], ⟨1, 0, 0, 0, 0, 0, 0, 0, 0, 0, false, false, false, 0, 0, 0, false⟩, [1, 5]), ([109, 118], [], ⟨2, 0, 0, 0, 0, 0, 0, 0, 0, 0, false, false, false, 0, 0, 0, false⟩, [1, 2]), ([108, 42], [], ⟨4, 0, 0, 0, 0, 0, 0, 0, 0, 0, false, false, false, 0, 0, 0, false⟩, [1, 6]), ([115, 42], [], ⟨5, 0, 0, 0, 0, 0, 0, 0, 0, 0, false, false, false, 0, 0, 0, false⟩, [2, 6]), ([102, 101, 110, 99, 101], [], ⟨7, 0, 0, 0, 0, 0, 0, 0, 0, 0, false, false, false, 0, 0, 0, false⟩, [8, 9]), ([98, 101, 113, 122], [], ⟨9, 0, 0, 0, 0, 0, 0, 0, 0, 0, false, false, false, 0, 0, 0, true⟩, [2, 7]), ([98, 110, 101, 122], [], ⟨9, 0, 0, 0, 0, 0, 0, 0, 0, 0, false, false, false, 0, 0, 0, false⟩, [2, 7])]
def riscvT : List (List UInt8 × List UInt8 × In × List Int) := (rcomp ++ ratom) ++ rothT
theorem roth_rows {b1 b2 b3 b4 b5 b6 b7 b8 lo lo2 : Nat} {w : World} {ks : List Nat} (h : Acc lo (rothL b1 b2 b3 b4 b5 b6 b7 b8) w ks) (hlo : lo2 ≤ lo) : RowsIn lo2 (rothR b1 b2 b3 b4 b5 b6 b7) w ks := by
  intro r hr
  unfold rothR at hr
  simp only [List.mem_cons, List.mem_nil_iff, or_false] at hr
  rcases hr with rfl | rfl | rfl | rfl | rfl | rfl | rfl
  · have q := lies_of (b := b1) (cs := []) [1, 5] h (by show _ ∈ rothL b1 b2 b3 b4 b5 b6 b7 b8; unfold rothL; simp); exact ⟨q.1, fun z hz => Nat.le_trans hlo (q.2 z hz)⟩
  · have q := lies_of (b := b2) (cs := []) [1, 2] h (by show _ ∈ rothL b1 b2 b3 b4 b5 b6 b7 b8; unfold rothL; simp); exact ⟨q.1, fun z hz => Nat.le_trans hlo (q.2 z hz)⟩
  · have q := lies_of (b := b3) (cs := []) [1, 6] h (by show _ ∈ rothL b1 b2 b3 b4 b5 b6 b7 b8; unfold rothL; simp); exact ⟨q.1, fun z hz => Nat.le_trans hlo (q.2 z hz)⟩
  · have q := lies_of (b := b4) (cs := []) [2, 6] h (by show _ ∈ rothL b1 b2 b3 b4 b5 b6 b7 b8; unfold rothL; simp); exact ⟨q.1, fun z hz => Nat.le_trans hlo (q.2 z hz)⟩
  · have q := lies_of (b := b5) (cs := []) [8, 9] h (by show _ ∈ rothL b1 b2 b3 b4 b5 b6 b7 b8; unfold rothL; simp); exact ⟨q.1, fun z hz => Nat.le_trans hlo (q.2 z hz)⟩
  · have q := lies_of (b := b6) (cs := []) [2, 7] h (by show _ ∈ rothL b1 b2 b3 b4 b5 b6 b7 b8; unfold rothL; simp); exact ⟨q.1, fun z hz => Nat.le_trans hlo (q.2 z hz)⟩
  · have q := lies_of (b := b7) (cs := []) [2, 7] h (by show _ ∈ rothL b1 b2 b3 b4 b5 b6 b7 b8; unfold rothL; simp); exact ⟨q.1, fun z hz => Nat.le_trans hlo (q.2 z hz)⟩
theorem roth_den (b1 b2 b3 b4 b5 b6 b7 b8 : Nat) : denL [] ((rothR b1 b2 b3 b4 b5 b6 b7).flatMap rwc) = denL [] [.str [108, 105], .str [], .int .i64 1, .int .i64 0, .int .i64 0, .int .i64 0, .int .i64 0, .int .i64 0, .int .i64 0, .int .i64 0, .int .i64 0, .int .i64 0, .ff, .ff, .ff, .int .i64 0, .int .i64 0, .int .i64 0, .ff, .sla (some ⟨b1, 0, none⟩) 2 2, .str [109, 118], .str [], .int .i64 2, .int .i64 0, .int .i64 0, .int .i64 0, .int .i64 0, .int .i64 0, .int .i64 0, .int .i64 0, .int .i64 0, .int .i64 0, .ff, .ff, .ff, .int .i64 0, .int .i64 0, .int .i64 0, .ff, .sla (some ⟨b2, 0, none⟩) 2 2, .str [108, 42], .str [], .int .i64 4, .int .i64 0, .int .i64 0, .int .i64 0, .int .i64 0, .int .i64 0, .int .i64 0, .int .i64 0, .int .i64 0, .int .i64 0, .ff, .ff, .ff, .int .i64 0, .int .i64 0, .int .i64 0, .ff, .sla (some ⟨b3, 0, none⟩) 2 2, .str [115, 42], .str [], .int .i64 5, .int .i64 0, .int .i64 0, .int .i64 0, .int .i64 0, .int .i64 0, .int .i64 0, .int .i64 0, .int .i64 0, .int .i64 0, .ff, .ff, .ff, .int .i64 0, .int .i64 0, .int .i64 0, .ff, .sla (some ⟨b4, 0, none⟩) 2 2, .str [102, 101, 110, 99, 101], .str [], .int .i64 7, .int .i64 0, .int .i64 0, .int .i64 0, .int .i64 0, .int .i64 0, .int .i64 0, .int .i64 0, .int .i64 0, .int .i64 0, .ff, .ff, .ff, .int .i64 0, .int .i64 0, .int .i64 0, .ff, .sla (some ⟨b5, 0, none⟩) 2 2, .str [98, 101, 113, 122], .str [], .int .i64 9, .int .i64 0, .int .i64 0, .int .i64 0, .int .i64 0, .int .i64 0, .int .i64 0, .int .i64 0, .int .i64 0, .int .i64 0, .ff, .ff, .ff, .int .i64 0, .int .i64 0, .int .i64 0, .tt, .sla (some ⟨b6, 0, none⟩) 2 2, .str [98, 110, 101, 122], .str [], .int .i64 9, .int .i64 0, .int .i64 0, .int .i64 0, .int .i64 0, .int .i64 0, .int .i64 0, .int .i64 0, .int .i64 0, .int .i64 0, .ff, .ff, .ff, .int .i64 0, .int .i64 0, .int .i64 0, .ff, .sla (some ⟨b7, 0, none⟩) 2 2] := by rfl
section
variable {n : Nat} {ks : List Nat} {G0 : Gr} {w0 : World} {T : List (Nat × SV)} {H : Hp} {G : Gr} {a : Act} {w : World} {Q : Exit → Act → World → Prop} {K : List Fr} {ops : Array Oper} {o : Oper} {rest : List Oper}
theorem CALLROTH (A : Sy n T H ks G0 w0 G a w) (h1 : callS n ops T o = some (96, []))
    (k : ∀ b1 b2 b3 b4 b5 b6 b7 b8 vs a' w', denL [] ((rothR b1 b2 b3 b4 b5 b6 b7).flatMap rwc) = some vs → Lies b8 0 vs w' (keys H G) → RowsIn w.heap.size (rothR b1 b2 b3 b4 b5 b6 b7) w' (keys H G) → Sy n (extS T o.dst (.sla (some ⟨b8, 0, none⟩) 7 7)) H ks G0 w0 G a' w' → Goal Tryz.prog Q K (.ops ops rest) a' w') : Goal Tryz.prog Q K (.ops ops (o :: rest)) a w := by
  refine CALLR [] roth_ A h1 rfl rfl rfl rfl fun x a' w' hJ hk A' => ?_
  obtain ⟨b1, b2, b3, b4, b5, b6, b7, b8, rfl, hA⟩ := hJ
  have hA := acc_keys hA hk
  obtain ⟨_, vs, q1, q2⟩ := hA _ List.mem_cons_self
  exact k b1 b2 b3 b4 b5 b6 b7 b8 vs a' w' ((roth_den b1 b2 b3 b4 b5 b6 b7 b8).trans q1) q2 (roth_rows hA (Nat.le_refl _)) A'
end
theorem rregs_   : Fn Tryz.prog 45 [] [] (Rt (.agg [.str [97, 48], .str [97, 49], .str [97, 50], .str [97, 51], .str [97, 52], .str [97, 53], .str [97, 54], .str [97, 55]]) []) :=
 enterM (n := 2) (by kernel_rfl) Tryz.func45 rfl rfl rfl fun G w a h0 A => N hX 12 A rfl rfl fun A => RETN hX A rfl rfl rfl h0 rfl rfl rfl rfl rfl rfl
theorem rlang_ : FnR Tryz.prog 44 [] [] (fun x w w' => ∃ (L : List Rw) (b cp : Nat), x = .agg [.str [97, 48], .str [97, 49], .str [97, 50], .str [97, 51], .str [97, 52], .str [97, 53], .str [97, 54], .str [97, 55], .str [98], .str [104], .str [119], .str [100], .str [], .str [114], .str [119], .str [114, 119], .sla (some ⟨b, 0, none⟩) 25 cp] ∧ (L.map tm = riscvT ∧ RowsIn w.heap.size L w' [b]) ∧ w.heap.size ≤ b ∧ Given 109 20 25 (fun zz => rwc (L.getD zz Rw.z)) b cp w') :=
 enterR (n := 10) (by kernel_rfl) Tryz.func44 rfl rfl rfl fun G w a h0 A => N hX 7 A rfl rfl fun A => CALL1 [] (rregs_ ) A rfl rfl rfl rfl rfl rfl rfl fun A => N hX 2 A rfl rfl fun A => have hz := A.mix.size; CALLROW (t := 4) (F := fun (L : List Rw) zz => rwc (L.getD zz Rw.z)) (R := fun L b w w' => L.map tm = rcomp ∧ RowsIn w.heap.size L w' [b]) rcomp_ A rfl rfl fun L1 b1 cp1 a1 w1 G1 hR1 hlo hk A => have l1 : L1.length = 10 := (by have q := congrArg List.length hR1.1; rw [List.length_map] at q; exact q); have hI := (rows_keys hR1.2 hk).mono hz; have B := A; have A := B.base;
 have hz := Nat.le_trans B.mix.size A.mix.size; CALLROW (t := 5) (F := fun (L : List Rw) zz => rwc (L.getD zz Rw.z)) (R := fun L b w w' => L.map tm = ratom ∧ RowsIn w.heap.size L w' [b]) ratom_ A rfl rfl fun L2 b2 cp2 a2_ w2 G2 hR2 hlo hk A => have l2 : L2.length = 8 := (by have q := congrArg List.length hR2.1; rw [List.length_map] at q; exact q); have hI2 := (rows_keys hR2.2 hk).mono hz; have hI := (RowsIn.ok _ _ _ _ hI A.mix A.keys_own).app hI2; have l12 : (L1 ++ L2).length = 18 := (by rw [List.length_append, l1, l2]); have B := B.trans A; have A := A.base;
 have hz := Nat.le_trans B.mix.size A.mix.size; CALLROTH A rfl fun c1 c2 c3 c4 c5 c6 c7 c8 vs a3 w3 hv hL hO A => have hI := (RowsIn.ok _ _ _ _ hI A.mix A.keys_own).app (hO.mono hz); have B := B.trans A; have A := A.base; have A := A.adoptL Rw.z rwc 20 tyR.1 tyR.2.1 tyR.2.2 (rothR c1 c2 c3 c4 c5 c6 c7) hL hv 6 rfl;
 N hX 1 A rfl rfl fun A => have A := A.freeze 1 rfl; have A := A.freeze 2 rfl; CALL1 [4, 1, 2, 3] (concat_ L1 L2 (rothR c1 c2 c3 c4 c5 c6 c7) 0 0 7 l1 l12) A rfl rfl rfl rfl rfl rfl rfl fun A => match A.giveRow 5 8 (by decide) rfl rfl rfl with | ⟨b, cp, A2, hG, ho, hkb⟩ => (have h1 := RowsIn.ok _ _ _ _ hI A2.mix A2.keys_own; have h2 := RowsIn.ok _ _ _ [b] hI A2.mix (fun b2 hb => by have : b2 = b := (by simpa using hb); rw [this]; exact ho); have hbl := lo_of B (fun i e he => nil_no he) ho; have B := B.trans A2; have A := A2.base;
 N hX 5 A rfl rfl fun A => RETR (J := fun x w w' => ∃ (L : List Rw) (b cp : Nat), x = .agg [.str [97, 48], .str [97, 49], .str [97, 50], .str [97, 51], .str [97, 52], .str [97, 53], .str [97, 54], .str [97, 55], .str [98], .str [104], .str [119], .str [100], .str [], .str [114], .str [119], .str [114, 119], .sla (some ⟨b, 0, none⟩) 25 cp] ∧ (L.map tm = riscvT ∧ RowsIn w.heap.size L w' [b]) ∧ w.heap.size ≤ b ∧ Given 109 20 25 (fun zz => rwc (L.getD zz Rw.z)) b cp w') hX (B.trans A) (fun i e he => nil_no he) rfl rfl rfl rfl ⟨(L1 ++ L2) ++ (rothR c1 c2 c3 c4 c5 c6 c7), b, cp, rfl, ⟨by rw [List.map_append, List.map_append, hR1.1, hR2.1]; rfl, h1.one h2 A.mix⟩, hbl, hG.mix A.mix hkb⟩)
def riscvG : Lg := ⟨[97, 48], [97, 49], [97, 50], [97, 51], [97, 52], [97, 53], [97, 54], [97, 55], [98], [104], [119], [100], [], [114], [119], [114, 119]⟩
def riscvC : List Rw := riscvT.map rwOf
theorem riscv_pa {L : List Rw} {ws : List Tk} (hm : L.map tm = riscvT) : PaOK riscvG ws L := pa_ok hm (by decide +kernel) (by decide +kernel) (by decide +kernel) (fun k => by
  by_cases h : k < 4
  · have : k = 0 ∨ k = 1 ∨ k = 2 ∨ k = 3 := by omega
    rcases this with rfl | rfl | rfl | rfl <;> decide
  · rw [List.getD_eq_getElem?_getD, List.getElem?_eq_none (by simpa using h)]; decide)
theorem riscv_par {L : List Rw} (h : L.map tm = riscvT) (ws : List Tk) : parI riscvG ws L = parI riscvG ws riscvC ∧ parT riscvG ws L = parT riscvG ws riscvC ∧ parE riscvG ws L = parE riscvG ws riscvC ∧ parA riscvG ws L = parA riscvG ws riscvC := by
  have := cn_par (g := riscvG) (ws := ws) (L := L)
  rw [cn_tm h] at this
  exact ⟨this.1.symm, this.2.1.symm, this.2.2.1.symm, this.2.2.2.symm⟩
theorem riscv_pr {L : List Rw} {i : In} {lb : List UInt8} (h : L.map tm = riscvT) : prP riscvG L i lb = prP riscvG riscvC i lb := by
  have := cn_prP (g := riscvG) (L := L) (i := i) (lb := lb)
  rw [cn_tm h] at this
  exact this.symm
theorem riscv_lg : LgL riscvG := by
  refine ⟨⟨fun r => ?_, by decide⟩, fun k => ?_, by decide, by decide, by decide⟩
  · unfold regnm0
    split
    · exact Nat.zero_le _
    · next h =>
      have : (r).toNat = 0 ∨ (r).toNat = 1 ∨ (r).toNat = 2 ∨ (r).toNat = 3 ∨ (r).toNat = 4 ∨ (r).toNat = 5 ∨ (r).toNat = 6 ∨ (r).toNat = 7 := by
        simp only [Bool.or_eq_true, decide_eq_true_eq] at h; omega
      rcases this with e | e | e | e | e | e | e | e <;> rw [e] <;> decide
  · by_cases h : k < 4
    · have : k = 0 ∨ k = 1 ∨ k = 2 ∨ k = 3 := by omega
      rcases this with rfl | rfl | rfl | rfl <;> decide
    · rw [List.getD_eq_getElem?_getD, List.getElem?_eq_none (by simpa using h)]; decide
theorem riscv_prok {L : List Rw} {i : In} {lb : List UInt8} (hi : InR i) (hl : lb.length ≤ 100000) (hm : L.map tm = riscvT) : PrOK riscvG L i lb := pr_ok hm riscv_lg (by decide +kernel) (by decide +kernel) hi hl
theorem vparse_ (ws : List Tk) (d : Nat) (hn : ws.length ≤ 1000000) (hw : WsOK ws) (os : List (Nat × Obj)) (hM : ∀ w ks, Gl os w ks → ∃ m, w.cell? ⟨0, 0, none⟩ = some (.int .i64 m)) : FnI (Gl os) Tryz.prog 20 [.sl 0 ws.length d] [some (.lst 4 ws.length (fun zz => tkc (ws.getD zz tok0)))] (Rt (.tup [.agg (inQ9 (parI riscvG ws riscvC)), .str (parT riscvG ws riscvC), .int .i64 (parE riscvG ws riscvC), .int .i64 (parA riscvG ws riscvC)]) [some (.lst 4 ws.length (fun zz => tkc (ws.getD zz tok0)))]) :=
 enterI (n := 13) (by kernel_rfl) Tryz.func20 rfl rfl rfl fun G w a h0 hI A => N hX 10 A rfl rfl fun A => CALLAGG (t := 6) (l := [.str [97, 48], .str [97, 49], .str [97, 50], .str [97, 51], .str [97, 52], .str [97, 53], .str [97, 54], .str [97, 55], .str [98], .str [104], .str [119], .str [100], .str [], .str [114], .str [119], .str [114, 119]]) (F := fun (L : List Rw) zz => rwc (L.getD zz Rw.z)) (R := fun L b w w' => L.map tm = riscvT ∧ RowsIn w.heap.size L w' [b]) rlang_ A rfl rfl fun L b cp a1 w1 G1 hR hlo hkk A => have hl20 : L.length = 25 := (by have q := congrArg List.length hR.1; rw [List.length_map] at q; exact q.trans (by decide +kernel)); have hRI := rows_keys hR.2 hkk; have B0 := A; have A := A.base; have A := A.rowAs 2 L.length (fun zz => rwc (L.getD zz Rw.z)) rfl hl20 (fun _ _ => rfl) (fun z => ⟨_, rfl, rfl⟩); have A := A.say 6 (.agg [.str [97, 48], .str [97, 49], .str [97, 50], .str [97, 51], .str [97, 52], .str [97, 53], .str [97, 54], .str [97, 55], .str [98], .str [104], .str [119], .str [100], .str [], .str [114], .str [119], .str [114, 119], .sl 2 L.length 0]) rfl (by rw [hl20] <;> rfl); have A := A.freeze 2 rfl; have hTb := RowsIn.ok.now A hRI; have B := B0.trans A; have A := A.base; have hI2 : PrI os L _ _ := ⟨fun r hr => (hTb r hr).1, Gl.ok.now B hI⟩; N hX 1 A rfl rfl fun A => CALLI [2, 0] PrI.ok hI2 (lparse_ riscvG L 0 ws d hn hw os hM (riscv_pa hR.1)) A rfl rfl rfl rfl rfl rfl rfl fun A => N hX 11 A rfl rfl fun A => have e := riscv_par hR.1 ws; RETN hX (B.trans A) rfl rfl rfl h0 rfl rfl rfl rfl (by rw [← e.1, ← e.2.1, ← e.2.2.1, ← e.2.2.2] <;> rfl) rfl
theorem vprint_ (i : In) (lb : List UInt8) (os : List (Nat × Obj)) (hM : ∀ w ks, Gl os w ks → ∃ m, w.cell? ⟨0, 0, none⟩ = some (.int .i64 m)) (hT : ∀ w ks, Gl os w ks → Lib.TabIs Tryz.prog w "internal/strconv.uint64pow10" .u64 Lib.pow10Tab) (hE : ∀ w ks, Gl os w ks → ∃ ev, w.cell? ⟨1, 0, none⟩ = some ev ∧ (ev = .nilIface ∨ ∃ te pe, ev = .iface te pe)) (hp : ∀ L : List Rw, L.map tm = riscvT → PrOK riscvG L i lb) : FnI (Gl os) Tryz.prog 21 [.agg (inQ9 i), .str lb] [] (Rt (.tup [.str ((prP riscvG riscvC i lb).1), .int .i64 ((prP riscvG riscvC i lb).2)]) []) :=
 enterI (n := 12) (by kernel_rfl) Tryz.func21 rfl rfl rfl fun G w a h0 hI A => N hX 8 A rfl rfl fun A => any_in 8 hmo rfl A fun A => any_at (rs := [0, 1, 2]) (by kernel_rfl) (by decide) (List.forall_mem_cons.2 ⟨any_agg (t := 6) (l := [.str [97, 48], .str [97, 49], .str [97, 50], .str [97, 51], .str [97, 52], .str [97, 53], .str [97, 54], .str [97, 55], .str [98], .str [104], .str [119], .str [100], .str [], .str [114], .str [119], .str [114, 119]]) (F := fun (L : List Rw) zz => rwc (L.getD zz Rw.z)) (R := fun L b w w' => L.map tm = riscvT ∧ RowsIn w.heap.size L w' [b]) rfl rlang_ A rfl rfl fun L b cp a1 w1 G1 hR hlo hkk A => have hl20 : L.length = 25 := (by have q := congrArg List.length hR.1; rw [List.length_map] at q; exact q.trans (by decide +kernel)); have hRI := rows_keys hR.2 hkk; have B0 := A; have A := A.base; have A := A.rowAs 1 L.length (fun zz => rwc (L.getD zz Rw.z)) rfl hl20 (fun _ _ => rfl) (fun z => ⟨_, rfl, rfl⟩); have A := A.say 6 (.agg [.str [97, 48], .str [97, 49], .str [97, 50], .str [97, 51], .str [97, 52], .str [97, 53], .str [97, 54], .str [97, 55], .str [98], .str [104], .str [119], .str [100], .str [], .str [114], .str [119], .str [114, 119], .sl 1 L.length 0]) rfl (by rw [hl20] <;> rfl); have A := A.freeze 1 rfl; have hTb := RowsIn.ok.now A hRI; have B := B0.trans A; have A := A.base; have hI2 : PrI os L _ _ := ⟨fun r hr => (hTb r hr).1, Gl.ok.now B hI⟩; any_at (rs := [1, 2]) (by kernel_rfl) (by decide) (List.forall_mem_cons.2 ⟨any_eff (x := .agg (inQ9 i)) (H' := [some (.blk (inQ9 i)), some (.lst 20 L.length (fun zz => rwc (L.getD zz Rw.z)))]) rfl A rfl (eff_auto (X := ⟨_, true⟩) (out := .val _ _) hX rfl rfl) fun A => any_at (rs := [2]) (by kernel_rfl) (by decide) (List.forall_mem_cons.2 ⟨any_eff (x := .str lb) (H' := [some (.blk (inQ9 i)), some (.lst 20 L.length (fun zz => rwc (L.getD zz Rw.z)))]) rfl A rfl (eff_auto (X := ⟨_, true⟩) (out := .val _ _) hX rfl rfl) fun A => any_at (rs := [3]) (by kernel_rfl) (by decide) (List.forall_mem_cons.2 ⟨any_eff (x := .tup [.str ((prP riscvG L i lb).1), .int .i64 ((prP riscvG L i lb).2)]) (H' := [some (.blk (inQ9 i)), some (.lst 20 L.length (fun zz => rwc (L.getD zz Rw.z)))]) rfl A rfl (callIE [1] PrI.ok hI2 (lprint_ riscvG L 0 i lb os hM hT hE (hp L hR.1)) rfl rfl rfl rfl rfl rfl rfl) fun A => any_at (rs := [4, 5]) (by kernel_rfl) (by decide) (List.forall_mem_cons.2 ⟨any_eff (x := .str ((prP riscvG L i lb).1)) (H' := [some (.blk (inQ9 i)), some (.lst 20 L.length (fun zz => rwc (L.getD zz Rw.z)))]) rfl A rfl (eff_auto (X := ⟨_, true⟩) (out := .val _ _) hX rfl rfl) fun A => any_at (rs := [5]) (by kernel_rfl) (by decide) (List.forall_mem_cons.2 ⟨any_eff (x := .int .i64 ((prP riscvG L i lb).2)) (H' := [some (.blk (inQ9 i)), some (.lst 20 L.length (fun zz => rwc (L.getD zz Rw.z)))]) rfl A rfl (eff_auto (X := ⟨_, true⟩) (out := .val _ _) hX rfl rfl) fun A => any_at (rs := [6]) (by kernel_rfl) (by decide) (List.forall_mem_cons.2 ⟨any_eff (x := .str ((prP riscvG L i lb).1)) (H' := [some (.blk (inQ9 i)), some (.lst 20 L.length (fun zz => rwc (L.getD zz Rw.z)))]) rfl A rfl (eff_auto (X := ⟨_, true⟩) (out := .val _ _) hX rfl rfl) fun A => any_at (rs := [7]) (by kernel_rfl) (by decide) (List.forall_mem_cons.2 ⟨any_eff (x := .int .i64 ((prP riscvG L i lb).2)) (H' := [some (.blk (inQ9 i)), some (.lst 20 L.length (fun zz => rwc (L.getD zz Rw.z)))]) rfl A rfl (eff_auto (X := ⟨_, true⟩) (out := .val _ _) hX rfl rfl) fun A => any_end (by kernel_rfl) (N hX 2 A rfl rfl fun A => RETN hX (B.trans A) rfl rfl rfl h0 rfl rfl rfl rfl (by rw [← riscv_pr hR.1] <;> rfl) rfl),
         (List.forall_mem_nil _)⟩),
        (List.forall_mem_nil _)⟩),
       (List.forall_mem_nil _)⟩),
      (List.forall_mem_cons.2 ⟨any_eff (x := .int .i64 ((prP riscvG L i lb).2)) (H' := [some (.blk (inQ9 i)), some (.lst 20 L.length (fun zz => rwc (L.getD zz Rw.z)))]) rfl A rfl (eff_auto (X := ⟨_, true⟩) (out := .val _ _) hX rfl rfl) fun A => any_at (rs := [4]) (by kernel_rfl) (by decide) (List.forall_mem_cons.2 ⟨any_eff (x := .str ((prP riscvG L i lb).1)) (H' := [some (.blk (inQ9 i)), some (.lst 20 L.length (fun zz => rwc (L.getD zz Rw.z)))]) rfl A rfl (eff_auto (X := ⟨_, true⟩) (out := .val _ _) hX rfl rfl) fun A => any_at (rs := [6]) (by kernel_rfl) (by decide) (List.forall_mem_cons.2 ⟨any_eff (x := .str ((prP riscvG L i lb).1)) (H' := [some (.blk (inQ9 i)), some (.lst 20 L.length (fun zz => rwc (L.getD zz Rw.z)))]) rfl A rfl (eff_auto (X := ⟨_, true⟩) (out := .val _ _) hX rfl rfl) fun A => any_at (rs := [7]) (by kernel_rfl) (by decide) (List.forall_mem_cons.2 ⟨any_eff (x := .int .i64 ((prP riscvG L i lb).2)) (H' := [some (.blk (inQ9 i)), some (.lst 20 L.length (fun zz => rwc (L.getD zz Rw.z)))]) rfl A rfl (eff_auto (X := ⟨_, true⟩) (out := .val _ _) hX rfl rfl) fun A => any_end (by kernel_rfl) (N hX 2 A rfl rfl fun A => RETN hX (B.trans A) rfl rfl rfl h0 rfl rfl rfl rfl (by rw [← riscv_pr hR.1] <;> rfl) rfl),
         (List.forall_mem_nil _)⟩),
        (List.forall_mem_nil _)⟩),
       (List.forall_mem_nil _)⟩),
      (List.forall_mem_nil _)⟩)⟩),
     (List.forall_mem_nil _)⟩),
    (List.forall_mem_nil _)⟩),
   (List.forall_mem_cons.2 ⟨any_eff (x := .str lb) (H' := [some (.blk (inQ9 i)), some (.lst 20 L.length (fun zz => rwc (L.getD zz Rw.z)))]) rfl A rfl (eff_auto (X := ⟨_, true⟩) (out := .val _ _) hX rfl rfl) fun A => any_at (rs := [1]) (by kernel_rfl) (by decide) (List.forall_mem_cons.2 ⟨any_eff (x := .agg (inQ9 i)) (H' := [some (.blk (inQ9 i)), some (.lst 20 L.length (fun zz => rwc (L.getD zz Rw.z)))]) rfl A rfl (eff_auto (X := ⟨_, true⟩) (out := .val _ _) hX rfl rfl) fun A => any_at (rs := [3]) (by kernel_rfl) (by decide) (List.forall_mem_cons.2 ⟨any_eff (x := .tup [.str ((prP riscvG L i lb).1), .int .i64 ((prP riscvG L i lb).2)]) (H' := [some (.blk (inQ9 i)), some (.lst 20 L.length (fun zz => rwc (L.getD zz Rw.z)))]) rfl A rfl (callIE [1] PrI.ok hI2 (lprint_ riscvG L 0 i lb os hM hT hE (hp L hR.1)) rfl rfl rfl rfl rfl rfl rfl) fun A => any_at (rs := [4, 5]) (by kernel_rfl) (by decide) (List.forall_mem_cons.2 ⟨any_eff (x := .str ((prP riscvG L i lb).1)) (H' := [some (.blk (inQ9 i)), some (.lst 20 L.length (fun zz => rwc (L.getD zz Rw.z)))]) rfl A rfl (eff_auto (X := ⟨_, true⟩) (out := .val _ _) hX rfl rfl) fun A => any_at (rs := [5]) (by kernel_rfl) (by decide) (List.forall_mem_cons.2 ⟨any_eff (x := .int .i64 ((prP riscvG L i lb).2)) (H' := [some (.blk (inQ9 i)), some (.lst 20 L.length (fun zz => rwc (L.getD zz Rw.z)))]) rfl A rfl (eff_auto (X := ⟨_, true⟩) (out := .val _ _) hX rfl rfl) fun A => any_at (rs := [6]) (by kernel_rfl) (by decide) (List.forall_mem_cons.2 ⟨any_eff (x := .str ((prP riscvG L i lb).1)) (H' := [some (.blk (inQ9 i)), some (.lst 20 L.length (fun zz => rwc (L.getD zz Rw.z)))]) rfl A rfl (eff_auto (X := ⟨_, true⟩) (out := .val _ _) hX rfl rfl) fun A => any_at (rs := [7]) (by kernel_rfl) (by decide) (List.forall_mem_cons.2 ⟨any_eff (x := .int .i64 ((prP riscvG L i lb).2)) (H' := [some (.blk (inQ9 i)), some (.lst 20 L.length (fun zz => rwc (L.getD zz Rw.z)))]) rfl A rfl (eff_auto (X := ⟨_, true⟩) (out := .val _ _) hX rfl rfl) fun A => any_end (by kernel_rfl) (N hX 2 A rfl rfl fun A => RETN hX (B.trans A) rfl rfl rfl h0 rfl rfl rfl rfl (by rw [← riscv_pr hR.1] <;> rfl) rfl),
         (List.forall_mem_nil _)⟩),
        (List.forall_mem_nil _)⟩),
       (List.forall_mem_nil _)⟩),
      (List.forall_mem_cons.2 ⟨any_eff (x := .int .i64 ((prP riscvG L i lb).2)) (H' := [some (.blk (inQ9 i)), some (.lst 20 L.length (fun zz => rwc (L.getD zz Rw.z)))]) rfl A rfl (eff_auto (X := ⟨_, true⟩) (out := .val _ _) hX rfl rfl) fun A => any_at (rs := [4]) (by kernel_rfl) (by decide) (List.forall_mem_cons.2 ⟨any_eff (x := .str ((prP riscvG L i lb).1)) (H' := [some (.blk (inQ9 i)), some (.lst 20 L.length (fun zz => rwc (L.getD zz Rw.z)))]) rfl A rfl (eff_auto (X := ⟨_, true⟩) (out := .val _ _) hX rfl rfl) fun A => any_at (rs := [6]) (by kernel_rfl) (by decide) (List.forall_mem_cons.2 ⟨any_eff (x := .str ((prP riscvG L i lb).1)) (H' := [some (.blk (inQ9 i)), some (.lst 20 L.length (fun zz => rwc (L.getD zz Rw.z)))]) rfl A rfl (eff_auto (X := ⟨_, true⟩) (out := .val _ _) hX rfl rfl) fun A => any_at (rs := [7]) (by kernel_rfl) (by decide) (List.forall_mem_cons.2 ⟨any_eff (x := .int .i64 ((prP riscvG L i lb).2)) (H' := [some (.blk (inQ9 i)), some (.lst 20 L.length (fun zz => rwc (L.getD zz Rw.z)))]) rfl A rfl (eff_auto (X := ⟨_, true⟩) (out := .val _ _) hX rfl rfl) fun A => any_end (by kernel_rfl) (N hX 2 A rfl rfl fun A => RETN hX (B.trans A) rfl rfl rfl h0 rfl rfl rfl rfl (by rw [← riscv_pr hR.1] <;> rfl) rfl),
         (List.forall_mem_nil _)⟩),
        (List.forall_mem_nil _)⟩),
       (List.forall_mem_nil _)⟩),
      (List.forall_mem_nil _)⟩)⟩),
     (List.forall_mem_nil _)⟩),
    (List.forall_mem_nil _)⟩),
   (List.forall_mem_nil _)⟩)⟩),
  (List.forall_mem_cons.2 ⟨any_eff (x := .agg (inQ9 i)) (H' := [some (.blk (inQ9 i))]) rfl A rfl (eff_auto (X := ⟨_, true⟩) (out := .val _ _) hX rfl rfl) fun A => any_at (rs := [0, 2]) (by kernel_rfl) (by decide) (List.forall_mem_cons.2 ⟨any_agg (t := 6) (l := [.str [97, 48], .str [97, 49], .str [97, 50], .str [97, 51], .str [97, 52], .str [97, 53], .str [97, 54], .str [97, 55], .str [98], .str [104], .str [119], .str [100], .str [], .str [114], .str [119], .str [114, 119]]) (F := fun (L : List Rw) zz => rwc (L.getD zz Rw.z)) (R := fun L b w w' => L.map tm = riscvT ∧ RowsIn w.heap.size L w' [b]) rfl rlang_ A rfl rfl fun L b cp a1 w1 G1 hR hlo hkk A => have hl20 : L.length = 25 := (by have q := congrArg List.length hR.1; rw [List.length_map] at q; exact q.trans (by decide +kernel)); have hRI := rows_keys hR.2 hkk; have B0 := A; have A := A.base; have A := A.rowAs 1 L.length (fun zz => rwc (L.getD zz Rw.z)) rfl hl20 (fun _ _ => rfl) (fun z => ⟨_, rfl, rfl⟩); have A := A.say 6 (.agg [.str [97, 48], .str [97, 49], .str [97, 50], .str [97, 51], .str [97, 52], .str [97, 53], .str [97, 54], .str [97, 55], .str [98], .str [104], .str [119], .str [100], .str [], .str [114], .str [119], .str [114, 119], .sl 1 L.length 0]) rfl (by rw [hl20] <;> rfl); have A := A.freeze 1 rfl; have hTb := RowsIn.ok.now A hRI; have B := B0.trans A; have A := A.base; have hI2 : PrI os L _ _ := ⟨fun r hr => (hTb r hr).1, Gl.ok.now B hI⟩; any_at (rs := [2]) (by kernel_rfl) (by decide) (List.forall_mem_cons.2 ⟨any_eff (x := .str lb) (H' := [some (.blk (inQ9 i)), some (.lst 20 L.length (fun zz => rwc (L.getD zz Rw.z)))]) rfl A rfl (eff_auto (X := ⟨_, true⟩) (out := .val _ _) hX rfl rfl) fun A => any_at (rs := [3]) (by kernel_rfl) (by decide) (List.forall_mem_cons.2 ⟨any_eff (x := .tup [.str ((prP riscvG L i lb).1), .int .i64 ((prP riscvG L i lb).2)]) (H' := [some (.blk (inQ9 i)), some (.lst 20 L.length (fun zz => rwc (L.getD zz Rw.z)))]) rfl A rfl (callIE [1] PrI.ok hI2 (lprint_ riscvG L 0 i lb os hM hT hE (hp L hR.1)) rfl rfl rfl rfl rfl rfl rfl) fun A => any_at (rs := [4, 5]) (by kernel_rfl) (by decide) (List.forall_mem_cons.2 ⟨any_eff (x := .str ((prP riscvG L i lb).1)) (H' := [some (.blk (inQ9 i)), some (.lst 20 L.length (fun zz => rwc (L.getD zz Rw.z)))]) rfl A rfl (eff_auto (X := ⟨_, true⟩) (out := .val _ _) hX rfl rfl) fun A => any_at (rs := [5]) (by kernel_rfl) (by decide) (List.forall_mem_cons.2 ⟨any_eff (x := .int .i64 ((prP riscvG L i lb).2)) (H' := [some (.blk (inQ9 i)), some (.lst 20 L.length (fun zz => rwc (L.getD zz Rw.z)))]) rfl A rfl (eff_auto (X := ⟨_, true⟩) (out := .val _ _) hX rfl rfl) fun A => any_at (rs := [6]) (by kernel_rfl) (by decide) (List.forall_mem_cons.2 ⟨any_eff (x := .str ((prP riscvG L i lb).1)) (H' := [some (.blk (inQ9 i)), some (.lst 20 L.length (fun zz => rwc (L.getD zz Rw.z)))]) rfl A rfl (eff_auto (X := ⟨_, true⟩) (out := .val _ _) hX rfl rfl) fun A => any_at (rs := [7]) (by kernel_rfl) (by decide) (List.forall_mem_cons.2 ⟨any_eff (x := .int .i64 ((prP riscvG L i lb).2)) (H' := [some (.blk (inQ9 i)), some (.lst 20 L.length (fun zz => rwc (L.getD zz Rw.z)))]) rfl A rfl (eff_auto (X := ⟨_, true⟩) (out := .val _ _) hX rfl rfl) fun A => any_end (by kernel_rfl) (N hX 2 A rfl rfl fun A => RETN hX (B.trans A) rfl rfl rfl h0 rfl rfl rfl rfl (by rw [← riscv_pr hR.1] <;> rfl) rfl),
         (List.forall_mem_nil _)⟩),
        (List.forall_mem_nil _)⟩),
       (List.forall_mem_nil _)⟩),
      (List.forall_mem_cons.2 ⟨any_eff (x := .int .i64 ((prP riscvG L i lb).2)) (H' := [some (.blk (inQ9 i)), some (.lst 20 L.length (fun zz => rwc (L.getD zz Rw.z)))]) rfl A rfl (eff_auto (X := ⟨_, true⟩) (out := .val _ _) hX rfl rfl) fun A => any_at (rs := [4]) (by kernel_rfl) (by decide) (List.forall_mem_cons.2 ⟨any_eff (x := .str ((prP riscvG L i lb).1)) (H' := [some (.blk (inQ9 i)), some (.lst 20 L.length (fun zz => rwc (L.getD zz Rw.z)))]) rfl A rfl (eff_auto (X := ⟨_, true⟩) (out := .val _ _) hX rfl rfl) fun A => any_at (rs := [6]) (by kernel_rfl) (by decide) (List.forall_mem_cons.2 ⟨any_eff (x := .str ((prP riscvG L i lb).1)) (H' := [some (.blk (inQ9 i)), some (.lst 20 L.length (fun zz => rwc (L.getD zz Rw.z)))]) rfl A rfl (eff_auto (X := ⟨_, true⟩) (out := .val _ _) hX rfl rfl) fun A => any_at (rs := [7]) (by kernel_rfl) (by decide) (List.forall_mem_cons.2 ⟨any_eff (x := .int .i64 ((prP riscvG L i lb).2)) (H' := [some (.blk (inQ9 i)), some (.lst 20 L.length (fun zz => rwc (L.getD zz Rw.z)))]) rfl A rfl (eff_auto (X := ⟨_, true⟩) (out := .val _ _) hX rfl rfl) fun A => any_end (by kernel_rfl) (N hX 2 A rfl rfl fun A => RETN hX (B.trans A) rfl rfl rfl h0 rfl rfl rfl rfl (by rw [← riscv_pr hR.1] <;> rfl) rfl),
         (List.forall_mem_nil _)⟩),
        (List.forall_mem_nil _)⟩),
       (List.forall_mem_nil _)⟩),
      (List.forall_mem_nil _)⟩)⟩),
     (List.forall_mem_nil _)⟩),
    (List.forall_mem_nil _)⟩),
   (List.forall_mem_cons.2 ⟨any_eff (x := .str lb) (H' := [some (.blk (inQ9 i))]) rfl A rfl (eff_auto (X := ⟨_, true⟩) (out := .val _ _) hX rfl rfl) fun A => any_at (rs := [0]) (by kernel_rfl) (by decide) (List.forall_mem_cons.2 ⟨any_agg (t := 6) (l := [.str [97, 48], .str [97, 49], .str [97, 50], .str [97, 51], .str [97, 52], .str [97, 53], .str [97, 54], .str [97, 55], .str [98], .str [104], .str [119], .str [100], .str [], .str [114], .str [119], .str [114, 119]]) (F := fun (L : List Rw) zz => rwc (L.getD zz Rw.z)) (R := fun L b w w' => L.map tm = riscvT ∧ RowsIn w.heap.size L w' [b]) rfl rlang_ A rfl rfl fun L b cp a1 w1 G1 hR hlo hkk A => have hl20 : L.length = 25 := (by have q := congrArg List.length hR.1; rw [List.length_map] at q; exact q.trans (by decide +kernel)); have hRI := rows_keys hR.2 hkk; have B0 := A; have A := A.base; have A := A.rowAs 1 L.length (fun zz => rwc (L.getD zz Rw.z)) rfl hl20 (fun _ _ => rfl) (fun z => ⟨_, rfl, rfl⟩); have A := A.say 6 (.agg [.str [97, 48], .str [97, 49], .str [97, 50], .str [97, 51], .str [97, 52], .str [97, 53], .str [97, 54], .str [97, 55], .str [98], .str [104], .str [119], .str [100], .str [], .str [114], .str [119], .str [114, 119], .sl 1 L.length 0]) rfl (by rw [hl20] <;> rfl); have A := A.freeze 1 rfl; have hTb := RowsIn.ok.now A hRI; have B := B0.trans A; have A := A.base; have hI2 : PrI os L _ _ := ⟨fun r hr => (hTb r hr).1, Gl.ok.now B hI⟩; any_at (rs := [3]) (by kernel_rfl) (by decide) (List.forall_mem_cons.2 ⟨any_eff (x := .tup [.str ((prP riscvG L i lb).1), .int .i64 ((prP riscvG L i lb).2)]) (H' := [some (.blk (inQ9 i)), some (.lst 20 L.length (fun zz => rwc (L.getD zz Rw.z)))]) rfl A rfl (callIE [1] PrI.ok hI2 (lprint_ riscvG L 0 i lb os hM hT hE (hp L hR.1)) rfl rfl rfl rfl rfl rfl rfl) fun A => any_at (rs := [4, 5]) (by kernel_rfl) (by decide) (List.forall_mem_cons.2 ⟨any_eff (x := .str ((prP riscvG L i lb).1)) (H' := [some (.blk (inQ9 i)), some (.lst 20 L.length (fun zz => rwc (L.getD zz Rw.z)))]) rfl A rfl (eff_auto (X := ⟨_, true⟩) (out := .val _ _) hX rfl rfl) fun A => any_at (rs := [5]) (by kernel_rfl) (by decide) (List.forall_mem_cons.2 ⟨any_eff (x := .int .i64 ((prP riscvG L i lb).2)) (H' := [some (.blk (inQ9 i)), some (.lst 20 L.length (fun zz => rwc (L.getD zz Rw.z)))]) rfl A rfl (eff_auto (X := ⟨_, true⟩) (out := .val _ _) hX rfl rfl) fun A => any_at (rs := [6]) (by kernel_rfl) (by decide) (List.forall_mem_cons.2 ⟨any_eff (x := .str ((prP riscvG L i lb).1)) (H' := [some (.blk (inQ9 i)), some (.lst 20 L.length (fun zz => rwc (L.getD zz Rw.z)))]) rfl A rfl (eff_auto (X := ⟨_, true⟩) (out := .val _ _) hX rfl rfl) fun A => any_at (rs := [7]) (by kernel_rfl) (by decide) (List.forall_mem_cons.2 ⟨any_eff (x := .int .i64 ((prP riscvG L i lb).2)) (H' := [some (.blk (inQ9 i)), some (.lst 20 L.length (fun zz => rwc (L.getD zz Rw.z)))]) rfl A rfl (eff_auto (X := ⟨_, true⟩) (out := .val _ _) hX rfl rfl) fun A => any_end (by kernel_rfl) (N hX 2 A rfl rfl fun A => RETN hX (B.trans A) rfl rfl rfl h0 rfl rfl rfl rfl (by rw [← riscv_pr hR.1] <;> rfl) rfl),
         (List.forall_mem_nil _)⟩),
        (List.forall_mem_nil _)⟩),
       (List.forall_mem_nil _)⟩),
      (List.forall_mem_cons.2 ⟨any_eff (x := .int .i64 ((prP riscvG L i lb).2)) (H' := [some (.blk (inQ9 i)), some (.lst 20 L.length (fun zz => rwc (L.getD zz Rw.z)))]) rfl A rfl (eff_auto (X := ⟨_, true⟩) (out := .val _ _) hX rfl rfl) fun A => any_at (rs := [4]) (by kernel_rfl) (by decide) (List.forall_mem_cons.2 ⟨any_eff (x := .str ((prP riscvG L i lb).1)) (H' := [some (.blk (inQ9 i)), some (.lst 20 L.length (fun zz => rwc (L.getD zz Rw.z)))]) rfl A rfl (eff_auto (X := ⟨_, true⟩) (out := .val _ _) hX rfl rfl) fun A => any_at (rs := [6]) (by kernel_rfl) (by decide) (List.forall_mem_cons.2 ⟨any_eff (x := .str ((prP riscvG L i lb).1)) (H' := [some (.blk (inQ9 i)), some (.lst 20 L.length (fun zz => rwc (L.getD zz Rw.z)))]) rfl A rfl (eff_auto (X := ⟨_, true⟩) (out := .val _ _) hX rfl rfl) fun A => any_at (rs := [7]) (by kernel_rfl) (by decide) (List.forall_mem_cons.2 ⟨any_eff (x := .int .i64 ((prP riscvG L i lb).2)) (H' := [some (.blk (inQ9 i)), some (.lst 20 L.length (fun zz => rwc (L.getD zz Rw.z)))]) rfl A rfl (eff_auto (X := ⟨_, true⟩) (out := .val _ _) hX rfl rfl) fun A => any_end (by kernel_rfl) (N hX 2 A rfl rfl fun A => RETN hX (B.trans A) rfl rfl rfl h0 rfl rfl rfl rfl (by rw [← riscv_pr hR.1] <;> rfl) rfl),
         (List.forall_mem_nil _)⟩),
        (List.forall_mem_nil _)⟩),
       (List.forall_mem_nil _)⟩),
      (List.forall_mem_nil _)⟩)⟩),
     (List.forall_mem_nil _)⟩),
    (List.forall_mem_nil _)⟩),
   (List.forall_mem_nil _)⟩)⟩),
  (List.forall_mem_cons.2 ⟨any_eff (x := .str lb) (H' := [some (.blk (inQ9 i))]) rfl A rfl (eff_auto (X := ⟨_, true⟩) (out := .val _ _) hX rfl rfl) fun A => any_at (rs := [0, 1]) (by kernel_rfl) (by decide) (List.forall_mem_cons.2 ⟨any_agg (t := 6) (l := [.str [97, 48], .str [97, 49], .str [97, 50], .str [97, 51], .str [97, 52], .str [97, 53], .str [97, 54], .str [97, 55], .str [98], .str [104], .str [119], .str [100], .str [], .str [114], .str [119], .str [114, 119]]) (F := fun (L : List Rw) zz => rwc (L.getD zz Rw.z)) (R := fun L b w w' => L.map tm = riscvT ∧ RowsIn w.heap.size L w' [b]) rfl rlang_ A rfl rfl fun L b cp a1 w1 G1 hR hlo hkk A => have hl20 : L.length = 25 := (by have q := congrArg List.length hR.1; rw [List.length_map] at q; exact q.trans (by decide +kernel)); have hRI := rows_keys hR.2 hkk; have B0 := A; have A := A.base; have A := A.rowAs 1 L.length (fun zz => rwc (L.getD zz Rw.z)) rfl hl20 (fun _ _ => rfl) (fun z => ⟨_, rfl, rfl⟩); have A := A.say 6 (.agg [.str [97, 48], .str [97, 49], .str [97, 50], .str [97, 51], .str [97, 52], .str [97, 53], .str [97, 54], .str [97, 55], .str [98], .str [104], .str [119], .str [100], .str [], .str [114], .str [119], .str [114, 119], .sl 1 L.length 0]) rfl (by rw [hl20] <;> rfl); have A := A.freeze 1 rfl; have hTb := RowsIn.ok.now A hRI; have B := B0.trans A; have A := A.base; have hI2 : PrI os L _ _ := ⟨fun r hr => (hTb r hr).1, Gl.ok.now B hI⟩; any_at (rs := [1]) (by kernel_rfl) (by decide) (List.forall_mem_cons.2 ⟨any_eff (x := .agg (inQ9 i)) (H' := [some (.blk (inQ9 i)), some (.lst 20 L.length (fun zz => rwc (L.getD zz Rw.z)))]) rfl A rfl (eff_auto (X := ⟨_, true⟩) (out := .val _ _) hX rfl rfl) fun A => any_at (rs := [3]) (by kernel_rfl) (by decide) (List.forall_mem_cons.2 ⟨any_eff (x := .tup [.str ((prP riscvG L i lb).1), .int .i64 ((prP riscvG L i lb).2)]) (H' := [some (.blk (inQ9 i)), some (.lst 20 L.length (fun zz => rwc (L.getD zz Rw.z)))]) rfl A rfl (callIE [1] PrI.ok hI2 (lprint_ riscvG L 0 i lb os hM hT hE (hp L hR.1)) rfl rfl rfl rfl rfl rfl rfl) fun A => any_at (rs := [4, 5]) (by kernel_rfl) (by decide) (List.forall_mem_cons.2 ⟨any_eff (x := .str ((prP riscvG L i lb).1)) (H' := [some (.blk (inQ9 i)), some (.lst 20 L.length (fun zz => rwc (L.getD zz Rw.z)))]) rfl A rfl (eff_auto (X := ⟨_, true⟩) (out := .val _ _) hX rfl rfl) fun A => any_at (rs := [5]) (by kernel_rfl) (by decide) (List.forall_mem_cons.2 ⟨any_eff (x := .int .i64 ((prP riscvG L i lb).2)) (H' := [some (.blk (inQ9 i)), some (.lst 20 L.length (fun zz => rwc (L.getD zz Rw.z)))]) rfl A rfl (eff_auto (X := ⟨_, true⟩) (out := .val _ _) hX rfl rfl) fun A => any_at (rs := [6]) (by kernel_rfl) (by decide) (List.forall_mem_cons.2 ⟨any_eff (x := .str ((prP riscvG L i lb).1)) (H' := [some (.blk (inQ9 i)), some (.lst 20 L.length (fun zz => rwc (L.getD zz Rw.z)))]) rfl A rfl (eff_auto (X := ⟨_, true⟩) (out := .val _ _) hX rfl rfl) fun A => any_at (rs := [7]) (by kernel_rfl) (by decide) (List.forall_mem_cons.2 ⟨any_eff (x := .int .i64 ((prP riscvG L i lb).2)) (H' := [some (.blk (inQ9 i)), some (.lst 20 L.length (fun zz => rwc (L.getD zz Rw.z)))]) rfl A rfl (eff_auto (X := ⟨_, true⟩) (out := .val _ _) hX rfl rfl) fun A => any_end (by kernel_rfl) (N hX 2 A rfl rfl fun A => RETN hX (B.trans A) rfl rfl rfl h0 rfl rfl rfl rfl (by rw [← riscv_pr hR.1] <;> rfl) rfl),
         (List.forall_mem_nil _)⟩),
        (List.forall_mem_nil _)⟩),
       (List.forall_mem_nil _)⟩),
      (List.forall_mem_cons.2 ⟨any_eff (x := .int .i64 ((prP riscvG L i lb).2)) (H' := [some (.blk (inQ9 i)), some (.lst 20 L.length (fun zz => rwc (L.getD zz Rw.z)))]) rfl A rfl (eff_auto (X := ⟨_, true⟩) (out := .val _ _) hX rfl rfl) fun A => any_at (rs := [4]) (by kernel_rfl) (by decide) (List.forall_mem_cons.2 ⟨any_eff (x := .str ((prP riscvG L i lb).1)) (H' := [some (.blk (inQ9 i)), some (.lst 20 L.length (fun zz => rwc (L.getD zz Rw.z)))]) rfl A rfl (eff_auto (X := ⟨_, true⟩) (out := .val _ _) hX rfl rfl) fun A => any_at (rs := [6]) (by kernel_rfl) (by decide) (List.forall_mem_cons.2 ⟨any_eff (x := .str ((prP riscvG L i lb).1)) (H' := [some (.blk (inQ9 i)), some (.lst 20 L.length (fun zz => rwc (L.getD zz Rw.z)))]) rfl A rfl (eff_auto (X := ⟨_, true⟩) (out := .val _ _) hX rfl rfl) fun A => any_at (rs := [7]) (by kernel_rfl) (by decide) (List.forall_mem_cons.2 ⟨any_eff (x := .int .i64 ((prP riscvG L i lb).2)) (H' := [some (.blk (inQ9 i)), some (.lst 20 L.length (fun zz => rwc (L.getD zz Rw.z)))]) rfl A rfl (eff_auto (X := ⟨_, true⟩) (out := .val _ _) hX rfl rfl) fun A => any_end (by kernel_rfl) (N hX 2 A rfl rfl fun A => RETN hX (B.trans A) rfl rfl rfl h0 rfl rfl rfl rfl (by rw [← riscv_pr hR.1] <;> rfl) rfl),
         (List.forall_mem_nil _)⟩),
        (List.forall_mem_nil _)⟩),
       (List.forall_mem_nil _)⟩),
      (List.forall_mem_nil _)⟩)⟩),
     (List.forall_mem_nil _)⟩),
    (List.forall_mem_nil _)⟩),
   (List.forall_mem_cons.2 ⟨any_eff (x := .agg (inQ9 i)) (H' := [some (.blk (inQ9 i))]) rfl A rfl (eff_auto (X := ⟨_, true⟩) (out := .val _ _) hX rfl rfl) fun A => any_at (rs := [0]) (by kernel_rfl) (by decide) (List.forall_mem_cons.2 ⟨any_agg (t := 6) (l := [.str [97, 48], .str [97, 49], .str [97, 50], .str [97, 51], .str [97, 52], .str [97, 53], .str [97, 54], .str [97, 55], .str [98], .str [104], .str [119], .str [100], .str [], .str [114], .str [119], .str [114, 119]]) (F := fun (L : List Rw) zz => rwc (L.getD zz Rw.z)) (R := fun L b w w' => L.map tm = riscvT ∧ RowsIn w.heap.size L w' [b]) rfl rlang_ A rfl rfl fun L b cp a1 w1 G1 hR hlo hkk A => have hl20 : L.length = 25 := (by have q := congrArg List.length hR.1; rw [List.length_map] at q; exact q.trans (by decide +kernel)); have hRI := rows_keys hR.2 hkk; have B0 := A; have A := A.base; have A := A.rowAs 1 L.length (fun zz => rwc (L.getD zz Rw.z)) rfl hl20 (fun _ _ => rfl) (fun z => ⟨_, rfl, rfl⟩); have A := A.say 6 (.agg [.str [97, 48], .str [97, 49], .str [97, 50], .str [97, 51], .str [97, 52], .str [97, 53], .str [97, 54], .str [97, 55], .str [98], .str [104], .str [119], .str [100], .str [], .str [114], .str [119], .str [114, 119], .sl 1 L.length 0]) rfl (by rw [hl20] <;> rfl); have A := A.freeze 1 rfl; have hTb := RowsIn.ok.now A hRI; have B := B0.trans A; have A := A.base; have hI2 : PrI os L _ _ := ⟨fun r hr => (hTb r hr).1, Gl.ok.now B hI⟩; any_at (rs := [3]) (by kernel_rfl) (by decide) (List.forall_mem_cons.2 ⟨any_eff (x := .tup [.str ((prP riscvG L i lb).1), .int .i64 ((prP riscvG L i lb).2)]) (H' := [some (.blk (inQ9 i)), some (.lst 20 L.length (fun zz => rwc (L.getD zz Rw.z)))]) rfl A rfl (callIE [1] PrI.ok hI2 (lprint_ riscvG L 0 i lb os hM hT hE (hp L hR.1)) rfl rfl rfl rfl rfl rfl rfl) fun A => any_at (rs := [4, 5]) (by kernel_rfl) (by decide) (List.forall_mem_cons.2 ⟨any_eff (x := .str ((prP riscvG L i lb).1)) (H' := [some (.blk (inQ9 i)), some (.lst 20 L.length (fun zz => rwc (L.getD zz Rw.z)))]) rfl A rfl (eff_auto (X := ⟨_, true⟩) (out := .val _ _) hX rfl rfl) fun A => any_at (rs := [5]) (by kernel_rfl) (by decide) (List.forall_mem_cons.2 ⟨any_eff (x := .int .i64 ((prP riscvG L i lb).2)) (H' := [some (.blk (inQ9 i)), some (.lst 20 L.length (fun zz => rwc (L.getD zz Rw.z)))]) rfl A rfl (eff_auto (X := ⟨_, true⟩) (out := .val _ _) hX rfl rfl) fun A => any_at (rs := [6]) (by kernel_rfl) (by decide) (List.forall_mem_cons.2 ⟨any_eff (x := .str ((prP riscvG L i lb).1)) (H' := [some (.blk (inQ9 i)), some (.lst 20 L.length (fun zz => rwc (L.getD zz Rw.z)))]) rfl A rfl (eff_auto (X := ⟨_, true⟩) (out := .val _ _) hX rfl rfl) fun A => any_at (rs := [7]) (by kernel_rfl) (by decide) (List.forall_mem_cons.2 ⟨any_eff (x := .int .i64 ((prP riscvG L i lb).2)) (H' := [some (.blk (inQ9 i)), some (.lst 20 L.length (fun zz => rwc (L.getD zz Rw.z)))]) rfl A rfl (eff_auto (X := ⟨_, true⟩) (out := .val _ _) hX rfl rfl) fun A => any_end (by kernel_rfl) (N hX 2 A rfl rfl fun A => RETN hX (B.trans A) rfl rfl rfl h0 rfl rfl rfl rfl (by rw [← riscv_pr hR.1] <;> rfl) rfl),
         (List.forall_mem_nil _)⟩),
        (List.forall_mem_nil _)⟩),
       (List.forall_mem_nil _)⟩),
      (List.forall_mem_cons.2 ⟨any_eff (x := .int .i64 ((prP riscvG L i lb).2)) (H' := [some (.blk (inQ9 i)), some (.lst 20 L.length (fun zz => rwc (L.getD zz Rw.z)))]) rfl A rfl (eff_auto (X := ⟨_, true⟩) (out := .val _ _) hX rfl rfl) fun A => any_at (rs := [4]) (by kernel_rfl) (by decide) (List.forall_mem_cons.2 ⟨any_eff (x := .str ((prP riscvG L i lb).1)) (H' := [some (.blk (inQ9 i)), some (.lst 20 L.length (fun zz => rwc (L.getD zz Rw.z)))]) rfl A rfl (eff_auto (X := ⟨_, true⟩) (out := .val _ _) hX rfl rfl) fun A => any_at (rs := [6]) (by kernel_rfl) (by decide) (List.forall_mem_cons.2 ⟨any_eff (x := .str ((prP riscvG L i lb).1)) (H' := [some (.blk (inQ9 i)), some (.lst 20 L.length (fun zz => rwc (L.getD zz Rw.z)))]) rfl A rfl (eff_auto (X := ⟨_, true⟩) (out := .val _ _) hX rfl rfl) fun A => any_at (rs := [7]) (by kernel_rfl) (by decide) (List.forall_mem_cons.2 ⟨any_eff (x := .int .i64 ((prP riscvG L i lb).2)) (H' := [some (.blk (inQ9 i)), some (.lst 20 L.length (fun zz => rwc (L.getD zz Rw.z)))]) rfl A rfl (eff_auto (X := ⟨_, true⟩) (out := .val _ _) hX rfl rfl) fun A => any_end (by kernel_rfl) (N hX 2 A rfl rfl fun A => RETN hX (B.trans A) rfl rfl rfl h0 rfl rfl rfl rfl (by rw [← riscv_pr hR.1] <;> rfl) rfl),
         (List.forall_mem_nil _)⟩),
        (List.forall_mem_nil _)⟩),
       (List.forall_mem_nil _)⟩),
      (List.forall_mem_nil _)⟩)⟩),
     (List.forall_mem_nil _)⟩),
    (List.forall_mem_nil _)⟩),
   (List.forall_mem_nil _)⟩)⟩),
  (List.forall_mem_nil _)⟩)⟩)⟩)
end Go.Proofs.YtedlaclfhgneeaaGreatDoor
namespace Go.Proofs.YtedlaclfhgneeaaGreatDoor
open Go.RowKit
set_option linter.unusedVariables false
set_option linter.unusedSimpArgs false
def rvO : Old.Lg := ⟨[97, 48], [97, 49], [97, 50], [97, 51], [97, 52], [97, 53], [97, 54], [97, 55], [98], [104], [119], [100], [], [114], [119], [114, 119], Old.nilV, riscvC.map toR⟩
theorem reg_v (r : Int) : regnm0 riscvG.r0 riscvG.r1 riscvG.r2 riscvG.r3 riscvG.r4 riscvG.r5 riscvG.r6 riscvG.r7 r = Old.nameL rvO r := by
  unfold regnm0 Old.nameL
  by_cases h : r < 0 ∨ r > 7
  · rw [if_pos h, if_pos (by simp only [Bool.or_eq_true, decide_eq_true_eq]; omega)]
  · rw [if_neg h, if_neg (by simp only [Bool.or_eq_true, decide_eq_true_eq]; omega), List.getD_eq_getElem?_getD]; rfl
theorem mem_v (i : In) : memT riscvG i = Old.memL rvO (toO i) i.loc.toNat := by
  unfold memT memB memA Old.memL
  rw [reg_v, loc_o]
  by_cases h1 : i.ix = -1 <;> by_cases h2 : i.off = 0 <;> simp [h1, h2, toO]
theorem opd_v (r : Rw) (p : Int) (i : In) (lb : List UInt8) (hp : p ≠ 10) : opdT riscvG r p i lb = Old.opndR rvO p (toO i) lb := by
  unfold opdT Old.opndR
  rw [reg_v, mem_v, regp_o, if_neg hp]
  simp only [beq_iff_eq, List.getD_eq_getElem?_getD]
  rfl
theorem name_v (r : Rw) (n : Int) : nameR riscvG r.nm n = Old.nameR rvO (toR r) n := by
  unfold nameR Old.nameR szK Old.letF
  by_cases h1 : n = 1
  · simp [h1]; rfl
  by_cases h2 : n = 2
  · simp [h2]; rfl
  by_cases h4 : n = 4
  · simp [h4]; rfl
  by_cases h8 : n = 8
  · simp [h8]; rfl
  simp [h1, h2, h4, h8]; rfl
theorem no10v : ∀ r ∈ riscvC, ∀ p ∈ r.ps, p ≠ 10 := by decide +kernel
theorem prO_v (i : In) (lb : List UInt8) : prP riscvG riscvC i lb = Old.prL rvO (toO i) lb := by
  have hf : Old.rowF rvO (toO i) = (riscvC.find? (rowP i)).map toR := by
    exact find_o i riscvC
  unfold prP Old.prL
  rw [wrong_o, hf, one_o]
  cases hw : Old.wrongB (toO i)
  · rw [if_neg Bool.false_ne_true, if_neg Bool.false_ne_true]
    unfold rowQ rowR
    cases hr : riscvC.find? (rowP i) with
    | none => rfl
    | some r =>
      have hm := List.mem_of_find?_eq_some hr
      have ho : opsT riscvG r i lb = (toR r).parts.map (fun p => Old.opndR rvO p (toO i) lb) := by
        unfold opsT
        exact List.map_congr_left fun p hp => opd_v r p i lb (no10v r hm p hp)
      simp only [Option.isSome_some, Option.map_some, Option.getD_some, ho, name_v]
      have e9 : (toO i).op = i.op := rfl
      have es : (toO i).size = i.sz := rfl
      have el : (toR r).parts = r.ps := rfl
      rw [e9, es, el]
      by_cases h9 : i.op = 9
      · cases hn : Old.isNm lb
        · simp [h9]
        · by_cases hl : r.ps = [] <;> simp [h9, hl]
      · by_cases hl : r.ps = [] <;> simp [h9, hl]
  · rw [if_pos rfl, if_pos rfl]
end Go.Proofs.YtedlaclfhgneeaaGreatDoor
namespace Go.Proofs.YtedlaclfhgneeaaGreatDoor.Old
set_option linter.unusedSimpArgs false
open Go.RowKit
def txtW (i : Ins) (lb : List UInt8) : List UInt8 := vtxt0 (frO i) lb
def prW (i : Ins) (lb : List UInt8) : List UInt8 × Int := if wrongB i = true then ([], 34) else if eqL (txtW i lb) [] = true then ([], 36) else if (i.op == 9) = true then (if isNm lb = true then (txtW i lb, 0) else ([], 37)) else (txtW i lb, 0)
theorem find_op (i : Ins) : ∀ l : List Rw, l.find? (fitsR i) = (l.filter fun r => r.ins.op == i.op).find? (fitsR i)
  | [] => rfl
  | r :: l => by
    rw [List.find?_cons, List.filter_cons]
    cases hf : fitsR i r
    · simp only
      rw [find_op i l]
      split
      · rw [List.find?_cons, hf]
      · rfl
    · have := (fitr_keeps hf).1
      rw [if_pos (by simp [this]), List.find?_cons, hf]
theorem rows_1 : (rvO.rows.filter fun r => r.ins.op == 1) = [(⟨[108, 105], ⟨1, 0, 0, 0, 0, 0, 0, 0, 0, 0, false, false, false, 0, 0, 0, false⟩, nilV, [1, 5]⟩ : Rw)] := by kernel_rfl
theorem fnd_1 {i : Ins} (ho : i.op = 1) : rowF rvO i = List.find? (fitsR i) [(⟨[108, 105], ⟨1, 0, 0, 0, 0, 0, 0, 0, 0, 0, false, false, false, 0, 0, 0, false⟩, nilV, [1, 5]⟩ : Rw)] := by
  unfold rowF; rw [find_op, ho, rows_1]
theorem rows_2 : (rvO.rows.filter fun r => r.ins.op == 2) = [(⟨[109, 118], ⟨2, 0, 0, 0, 0, 0, 0, 0, 0, 0, false, false, false, 0, 0, 0, false⟩, nilV, [1, 2]⟩ : Rw)] := by kernel_rfl
theorem fnd_2 {i : Ins} (ho : i.op = 2) : rowF rvO i = List.find? (fitsR i) [(⟨[109, 118], ⟨2, 0, 0, 0, 0, 0, 0, 0, 0, 0, false, false, false, 0, 0, 0, false⟩, nilV, [1, 2]⟩ : Rw)] := by
  unfold rowF; rw [find_op, ho, rows_2]
theorem rows_3 : (rvO.rows.filter fun r => r.ins.op == 3) = [(⟨[97, 100, 100], ⟨3, 0, 0, 0, 0, 0, 0, 0, 0, 1, false, false, false, 0, 0, 0, false⟩, nilV, [1, 2, 3]⟩ : Rw), (⟨[97, 100, 100, 105], ⟨3, 0, 0, 0, 0, 0, 0, 0, 0, 1, false, false, false, 0, 0, 0, false⟩, nilV, [1, 2, 5]⟩ : Rw), (⟨[115, 117, 98], ⟨3, 0, 0, 0, 0, 0, 0, 0, 0, 2, false, false, false, 0, 0, 0, false⟩, nilV, [1, 2, 3]⟩ : Rw), (⟨[115, 117, 98, 105], ⟨3, 0, 0, 0, 0, 0, 0, 0, 0, 2, false, false, false, 0, 0, 0, false⟩, nilV, [1, 2, 5]⟩ : Rw), (⟨[120, 111, 114], ⟨3, 0, 0, 0, 0, 0, 0, 0, 0, 3, false, false, false, 0, 0, 0, false⟩, nilV, [1, 2, 3]⟩ : Rw), (⟨[120, 111, 114, 105], ⟨3, 0, 0, 0, 0, 0, 0, 0, 0, 3, false, false, false, 0, 0, 0, false⟩, nilV, [1, 2, 5]⟩ : Rw), (⟨[97, 110, 100], ⟨3, 0, 0, 0, 0, 0, 0, 0, 0, 4, false, false, false, 0, 0, 0, false⟩, nilV, [1, 2, 3]⟩ : Rw), (⟨[97, 110, 100, 105], ⟨3, 0, 0, 0, 0, 0, 0, 0, 0, 4, false, false, false, 0, 0, 0, false⟩, nilV, [1, 2, 5]⟩ : Rw), (⟨[111, 114], ⟨3, 0, 0, 0, 0, 0, 0, 0, 0, 5, false, false, false, 0, 0, 0, false⟩, nilV, [1, 2, 3]⟩ : Rw), (⟨[111, 114, 105], ⟨3, 0, 0, 0, 0, 0, 0, 0, 0, 5, false, false, false, 0, 0, 0, false⟩, nilV, [1, 2, 5]⟩ : Rw)] := by kernel_rfl
theorem fnd_3 {i : Ins} (ho : i.op = 3) : rowF rvO i = List.find? (fitsR i) [(⟨[97, 100, 100], ⟨3, 0, 0, 0, 0, 0, 0, 0, 0, 1, false, false, false, 0, 0, 0, false⟩, nilV, [1, 2, 3]⟩ : Rw), (⟨[97, 100, 100, 105], ⟨3, 0, 0, 0, 0, 0, 0, 0, 0, 1, false, false, false, 0, 0, 0, false⟩, nilV, [1, 2, 5]⟩ : Rw), (⟨[115, 117, 98], ⟨3, 0, 0, 0, 0, 0, 0, 0, 0, 2, false, false, false, 0, 0, 0, false⟩, nilV, [1, 2, 3]⟩ : Rw), (⟨[115, 117, 98, 105], ⟨3, 0, 0, 0, 0, 0, 0, 0, 0, 2, false, false, false, 0, 0, 0, false⟩, nilV, [1, 2, 5]⟩ : Rw), (⟨[120, 111, 114], ⟨3, 0, 0, 0, 0, 0, 0, 0, 0, 3, false, false, false, 0, 0, 0, false⟩, nilV, [1, 2, 3]⟩ : Rw), (⟨[120, 111, 114, 105], ⟨3, 0, 0, 0, 0, 0, 0, 0, 0, 3, false, false, false, 0, 0, 0, false⟩, nilV, [1, 2, 5]⟩ : Rw), (⟨[97, 110, 100], ⟨3, 0, 0, 0, 0, 0, 0, 0, 0, 4, false, false, false, 0, 0, 0, false⟩, nilV, [1, 2, 3]⟩ : Rw), (⟨[97, 110, 100, 105], ⟨3, 0, 0, 0, 0, 0, 0, 0, 0, 4, false, false, false, 0, 0, 0, false⟩, nilV, [1, 2, 5]⟩ : Rw), (⟨[111, 114], ⟨3, 0, 0, 0, 0, 0, 0, 0, 0, 5, false, false, false, 0, 0, 0, false⟩, nilV, [1, 2, 3]⟩ : Rw), (⟨[111, 114, 105], ⟨3, 0, 0, 0, 0, 0, 0, 0, 0, 5, false, false, false, 0, 0, 0, false⟩, nilV, [1, 2, 5]⟩ : Rw)] := by
  unfold rowF; rw [find_op, ho, rows_3]
theorem rows_4 : (rvO.rows.filter fun r => r.ins.op == 4) = [(⟨[108, 42], ⟨4, 0, 0, 0, 0, 0, 0, 0, 0, 0, false, false, false, 0, 0, 0, false⟩, nilV, [1, 6]⟩ : Rw)] := by kernel_rfl
theorem fnd_4 {i : Ins} (ho : i.op = 4) : rowF rvO i = List.find? (fitsR i) [(⟨[108, 42], ⟨4, 0, 0, 0, 0, 0, 0, 0, 0, 0, false, false, false, 0, 0, 0, false⟩, nilV, [1, 6]⟩ : Rw)] := by
  unfold rowF; rw [find_op, ho, rows_4]
theorem rows_5 : (rvO.rows.filter fun r => r.ins.op == 5) = [(⟨[115, 42], ⟨5, 0, 0, 0, 0, 0, 0, 0, 0, 0, false, false, false, 0, 0, 0, false⟩, nilV, [2, 6]⟩ : Rw)] := by kernel_rfl
theorem fnd_5 {i : Ins} (ho : i.op = 5) : rowF rvO i = List.find? (fitsR i) [(⟨[115, 42], ⟨5, 0, 0, 0, 0, 0, 0, 0, 0, 0, false, false, false, 0, 0, 0, false⟩, nilV, [2, 6]⟩ : Rw)] := by
  unfold rowF; rw [find_op, ho, rows_5]
theorem rows_6 : (rvO.rows.filter fun r => r.ins.op == 6) = [(⟨[97, 109, 111, 115, 119, 97, 112, 46, 42], ⟨6, 0, 0, 0, 0, 0, 0, 0, 0, 6, false, false, false, 0, 0, 0, false⟩, nilV, [1, 2, 6]⟩ : Rw), (⟨[97, 109, 111, 115, 119, 97, 112, 46, 42, 46, 97, 113], ⟨6, 0, 0, 0, 0, 0, 0, 0, 0, 6, true, false, false, 0, 0, 0, false⟩, nilV, [1, 2, 6]⟩ : Rw), (⟨[97, 109, 111, 115, 119, 97, 112, 46, 42, 46, 114, 108], ⟨6, 0, 0, 0, 0, 0, 0, 0, 0, 6, false, false, true, 0, 0, 0, false⟩, nilV, [1, 2, 6]⟩ : Rw), (⟨[97, 109, 111, 115, 119, 97, 112, 46, 42, 46, 97, 113, 46, 114, 108], ⟨6, 0, 0, 0, 0, 0, 0, 0, 0, 6, true, false, true, 0, 0, 0, false⟩, nilV, [1, 2, 6]⟩ : Rw), (⟨[97, 109, 111, 97, 100, 100, 46, 42], ⟨6, 0, 0, 0, 0, 0, 0, 0, 0, 1, false, false, false, 0, 0, 0, false⟩, nilV, [1, 2, 6]⟩ : Rw), (⟨[97, 109, 111, 97, 100, 100, 46, 42, 46, 97, 113], ⟨6, 0, 0, 0, 0, 0, 0, 0, 0, 1, true, false, false, 0, 0, 0, false⟩, nilV, [1, 2, 6]⟩ : Rw), (⟨[97, 109, 111, 97, 100, 100, 46, 42, 46, 114, 108], ⟨6, 0, 0, 0, 0, 0, 0, 0, 0, 1, false, false, true, 0, 0, 0, false⟩, nilV, [1, 2, 6]⟩ : Rw), (⟨[97, 109, 111, 97, 100, 100, 46, 42, 46, 97, 113, 46, 114, 108], ⟨6, 0, 0, 0, 0, 0, 0, 0, 0, 1, true, false, true, 0, 0, 0, false⟩, nilV, [1, 2, 6]⟩ : Rw)] := by kernel_rfl
theorem fnd_6 {i : Ins} (ho : i.op = 6) : rowF rvO i = List.find? (fitsR i) [(⟨[97, 109, 111, 115, 119, 97, 112, 46, 42], ⟨6, 0, 0, 0, 0, 0, 0, 0, 0, 6, false, false, false, 0, 0, 0, false⟩, nilV, [1, 2, 6]⟩ : Rw), (⟨[97, 109, 111, 115, 119, 97, 112, 46, 42, 46, 97, 113], ⟨6, 0, 0, 0, 0, 0, 0, 0, 0, 6, true, false, false, 0, 0, 0, false⟩, nilV, [1, 2, 6]⟩ : Rw), (⟨[97, 109, 111, 115, 119, 97, 112, 46, 42, 46, 114, 108], ⟨6, 0, 0, 0, 0, 0, 0, 0, 0, 6, false, false, true, 0, 0, 0, false⟩, nilV, [1, 2, 6]⟩ : Rw), (⟨[97, 109, 111, 115, 119, 97, 112, 46, 42, 46, 97, 113, 46, 114, 108], ⟨6, 0, 0, 0, 0, 0, 0, 0, 0, 6, true, false, true, 0, 0, 0, false⟩, nilV, [1, 2, 6]⟩ : Rw), (⟨[97, 109, 111, 97, 100, 100, 46, 42], ⟨6, 0, 0, 0, 0, 0, 0, 0, 0, 1, false, false, false, 0, 0, 0, false⟩, nilV, [1, 2, 6]⟩ : Rw), (⟨[97, 109, 111, 97, 100, 100, 46, 42, 46, 97, 113], ⟨6, 0, 0, 0, 0, 0, 0, 0, 0, 1, true, false, false, 0, 0, 0, false⟩, nilV, [1, 2, 6]⟩ : Rw), (⟨[97, 109, 111, 97, 100, 100, 46, 42, 46, 114, 108], ⟨6, 0, 0, 0, 0, 0, 0, 0, 0, 1, false, false, true, 0, 0, 0, false⟩, nilV, [1, 2, 6]⟩ : Rw), (⟨[97, 109, 111, 97, 100, 100, 46, 42, 46, 97, 113, 46, 114, 108], ⟨6, 0, 0, 0, 0, 0, 0, 0, 0, 1, true, false, true, 0, 0, 0, false⟩, nilV, [1, 2, 6]⟩ : Rw)] := by
  unfold rowF; rw [find_op, ho, rows_6]
theorem rows_7 : (rvO.rows.filter fun r => r.ins.op == 7) = [(⟨[102, 101, 110, 99, 101], ⟨7, 0, 0, 0, 0, 0, 0, 0, 0, 0, false, false, false, 0, 0, 0, false⟩, nilV, [8, 9]⟩ : Rw)] := by kernel_rfl
theorem fnd_7 {i : Ins} (ho : i.op = 7) : rowF rvO i = List.find? (fitsR i) [(⟨[102, 101, 110, 99, 101], ⟨7, 0, 0, 0, 0, 0, 0, 0, 0, 0, false, false, false, 0, 0, 0, false⟩, nilV, [8, 9]⟩ : Rw)] := by
  unfold rowF; rw [find_op, ho, rows_7]
theorem rows_8 : (rvO.rows.filter fun r => r.ins.op == 8) = [] := by kernel_rfl
theorem fnd_8 {i : Ins} (ho : i.op = 8) : rowF rvO i = List.find? (fitsR i) [] := by
  unfold rowF; rw [find_op, ho, rows_8]
theorem rows_9 : (rvO.rows.filter fun r => r.ins.op == 9) = [(⟨[98, 101, 113, 122], ⟨9, 0, 0, 0, 0, 0, 0, 0, 0, 0, false, false, false, 0, 0, 0, true⟩, nilV, [2, 7]⟩ : Rw), (⟨[98, 110, 101, 122], ⟨9, 0, 0, 0, 0, 0, 0, 0, 0, 0, false, false, false, 0, 0, 0, false⟩, nilV, [2, 7]⟩ : Rw)] := by kernel_rfl
theorem fnd_9 {i : Ins} (ho : i.op = 9) : rowF rvO i = List.find? (fitsR i) [(⟨[98, 101, 113, 122], ⟨9, 0, 0, 0, 0, 0, 0, 0, 0, 0, false, false, false, 0, 0, 0, true⟩, nilV, [2, 7]⟩ : Rw), (⟨[98, 110, 101, 122], ⟨9, 0, 0, 0, 0, 0, 0, 0, 0, 0, false, false, false, 0, 0, 0, false⟩, nilV, [2, 7]⟩ : Rw)] := by
  unfold rowF; rw [find_op, ho, rows_9]
theorem nameL_v (r : Int) : nameL rvO r = nameV r := by
  by_cases h1 : r < 0
  · rw [nameL_neg h1]; unfold nameV; rw [if_pos h1]
  · by_cases h2 : r > 7
    · rw [nameL_big h2]; unfold nameV; rw [if_neg h1, List.getElem?_eq_none (by show 8 ≤ r.toNat; omega)]; rfl
    · unfold nameL nameV; rw [if_neg (by omega), if_neg h1]; rfl
theorem memL_v {i : Ins} (h : i.index = -1 ∨ (0 ≤ i.index ∧ i.index < 8)) : memL rvO i i.loc.toNat = vmem0 (frO i) := by
  have e1 : (frO i).ix = i.index := rfl
  have e2 : (frO i).off = i.off := rfl
  have e3 : (frO i).loc = i.loc := rfl
  unfold memL vmem0
  rw [e1, e2, e3]
  simp only [nameL_v]
  by_cases ho : i.off = 0
  · rcases h with h | h
    · simp [ho, h]
    · have a1 : ¬ i.index = -1 := by omega
      simp [ho, a1, h.1]
  · rcases h with h | h
    · simp [ho, h]
    · have a1 : ¬ i.index = -1 := by omega
      simp [ho, a1, h.1]
theorem prv_row {i : Ins} {lb : List UInt8} {r : Rw} (hw : wrongB i = false) (hr : rowF rvO i = some r) (p q : Int) (hp : r.parts = [p, q]) : prL rvO i lb = if (i.op == 9) = true then (if isNm lb = true then (nameR rvO r i.size ++ [32] ++ (opndR rvO p i lb ++ [44] ++ opndR rvO q i lb), 0) else ([], 37)) else (nameR rvO r i.size ++ [32] ++ (opndR rvO p i lb ++ [44] ++ opndR rvO q i lb), 0) := by
  unfold prL
  rw [hw, hr]
  simp only [hp, List.map_cons, List.map_nil, join2, Bool.false_eq_true, if_false]
  rfl
theorem join3 (a b c : List UInt8) : Lib.join [a, b, c] [44] = a ++ [44] ++ b ++ [44] ++ c := by simp [Lib.join, List.intercalate]
theorem prv_row3 {i : Ins} {lb : List UInt8} {r : Rw} (hw : wrongB i = false) (h9 : (i.op == 9) = false) (hr : rowF rvO i = some r) (p q s : Int) (hp : r.parts = [p, q, s]) : prL rvO i lb = (nameR rvO r i.size ++ [32] ++ (opndR rvO p i lb ++ [44] ++ opndR rvO q i lb ++ [44] ++ opndR rvO s i lb), 0) := by
  unfold prL
  rw [hw, hr]
  simp only [hp, List.map_cons, List.map_nil, join3, Bool.false_eq_true, if_false, h9]
  rfl
theorem bothV {i : Ins} {lb t : List UInt8} (hw : wrongB i = false) (ht : txtW i lb = t) (hn : t ≠ []) (hp : prL rvO i lb = if (i.op == 9) = true then (if isNm lb = true then (t, 0) else ([], 37)) else (t, 0)) : prL rvO i lb = prW i lb := by
  unfold prW
  rw [hp, hw, ht, eqL_no hn]
  simp only [Bool.false_eq_true, if_false]
theorem neitherV {i : Ins} {lb : List UInt8} (hw : wrongB i = false) (ht : txtW i lb = []) (hr : rowF rvO i = none) : prL rvO i lb = prW i lb := by
  unfold prW prL
  rw [hw, hr, ht, eqL_same]
  simp only [Bool.false_eq_true, if_false, if_true]
theorem opv_reg {p : Int} {i : Ins} {lb : List UInt8} {r : Int} (h : regP p i = (r, true)) : opndR rvO p i lb = nameV r := by
  unfold opndR; rw [h]; simp only [if_true]; exact nameL_v r
theorem opv_imm {i : Ins} {lb : List UInt8} : opndR rvO 5 i lb = Lib.itoa i.imm := rfl
theorem opv_mem {i : Ins} {lb : List UInt8} (h : i.index = -1 ∨ (0 ≤ i.index ∧ i.index < 8)) : opndR rvO 6 i lb = vmem0 (frO i) := (show opndR rvO 6 i lb = memL rvO i i.loc.toNat from rfl).trans (memL_v h)
theorem opv_lab {i : Ins} {lb : List UInt8} : opndR rvO 7 i lb = lb := rfl
theorem namev_zero (r : Rw) : nameR rvO r 0 = r.name := rfl
theorem rpl_l {n : Int} (h : n = 1 ∨ n = 2 ∨ n = 4 ∨ n = 8) (a : Ins) (v : Value) (ps : List Int) : nameR rvO ⟨[108, 42], a, v, ps⟩ n = [108] ++ tlV n ++ [] := by
  rcases h with rfl | rfl | rfl | rfl
  · exact (by decide : Lib.replace [108, 42] [42] [98] 1 = [108, 98])
  · exact (by decide : Lib.replace [108, 42] [42] [104] 1 = [108, 104])
  · exact (by decide : Lib.replace [108, 42] [42] [119] 1 = [108, 119])
  · exact (by decide : Lib.replace [108, 42] [42] [100] 1 = [108, 100])
theorem rpl_s {n : Int} (h : n = 1 ∨ n = 2 ∨ n = 4 ∨ n = 8) (a : Ins) (v : Value) (ps : List Int) : nameR rvO ⟨[115, 42], a, v, ps⟩ n = [115] ++ tlV n ++ [] := by
  rcases h with rfl | rfl | rfl | rfl
  · exact (by decide : Lib.replace [115, 42] [42] [98] 1 = [115, 98])
  · exact (by decide : Lib.replace [115, 42] [42] [104] 1 = [115, 104])
  · exact (by decide : Lib.replace [115, 42] [42] [119] 1 = [115, 119])
  · exact (by decide : Lib.replace [115, 42] [42] [100] 1 = [115, 100])
theorem rpl_a0 {n : Int} (h : n = 1 ∨ n = 2 ∨ n = 4 ∨ n = 8) (a : Ins) (v : Value) (ps : List Int) : nameR rvO ⟨[97, 109, 111, 115, 119, 97, 112, 46, 42], a, v, ps⟩ n = [97, 109, 111, 115, 119, 97, 112, 46] ++ tlV n ++ [] := by
  rcases h with rfl | rfl | rfl | rfl
  · exact (by decide : Lib.replace [97, 109, 111, 115, 119, 97, 112, 46, 42] [42] [98] 1 = [97, 109, 111, 115, 119, 97, 112, 46, 98])
  · exact (by decide : Lib.replace [97, 109, 111, 115, 119, 97, 112, 46, 42] [42] [104] 1 = [97, 109, 111, 115, 119, 97, 112, 46, 104])
  · exact (by decide : Lib.replace [97, 109, 111, 115, 119, 97, 112, 46, 42] [42] [119] 1 = [97, 109, 111, 115, 119, 97, 112, 46, 119])
  · exact (by decide : Lib.replace [97, 109, 111, 115, 119, 97, 112, 46, 42] [42] [100] 1 = [97, 109, 111, 115, 119, 97, 112, 46, 100])
theorem rpl_a1 {n : Int} (h : n = 1 ∨ n = 2 ∨ n = 4 ∨ n = 8) (a : Ins) (v : Value) (ps : List Int) : nameR rvO ⟨[97, 109, 111, 115, 119, 97, 112, 46, 42, 46, 97, 113], a, v, ps⟩ n = [97, 109, 111, 115, 119, 97, 112, 46] ++ tlV n ++ [46, 97, 113] := by
  rcases h with rfl | rfl | rfl | rfl
  · exact (by decide : Lib.replace [97, 109, 111, 115, 119, 97, 112, 46, 42, 46, 97, 113] [42] [98] 1 = [97, 109, 111, 115, 119, 97, 112, 46, 98, 46, 97, 113])
  · exact (by decide : Lib.replace [97, 109, 111, 115, 119, 97, 112, 46, 42, 46, 97, 113] [42] [104] 1 = [97, 109, 111, 115, 119, 97, 112, 46, 104, 46, 97, 113])
  · exact (by decide : Lib.replace [97, 109, 111, 115, 119, 97, 112, 46, 42, 46, 97, 113] [42] [119] 1 = [97, 109, 111, 115, 119, 97, 112, 46, 119, 46, 97, 113])
  · exact (by decide : Lib.replace [97, 109, 111, 115, 119, 97, 112, 46, 42, 46, 97, 113] [42] [100] 1 = [97, 109, 111, 115, 119, 97, 112, 46, 100, 46, 97, 113])
theorem rpl_a2 {n : Int} (h : n = 1 ∨ n = 2 ∨ n = 4 ∨ n = 8) (a : Ins) (v : Value) (ps : List Int) : nameR rvO ⟨[97, 109, 111, 115, 119, 97, 112, 46, 42, 46, 114, 108], a, v, ps⟩ n = [97, 109, 111, 115, 119, 97, 112, 46] ++ tlV n ++ [46, 114, 108] := by
  rcases h with rfl | rfl | rfl | rfl
  · exact (by decide : Lib.replace [97, 109, 111, 115, 119, 97, 112, 46, 42, 46, 114, 108] [42] [98] 1 = [97, 109, 111, 115, 119, 97, 112, 46, 98, 46, 114, 108])
  · exact (by decide : Lib.replace [97, 109, 111, 115, 119, 97, 112, 46, 42, 46, 114, 108] [42] [104] 1 = [97, 109, 111, 115, 119, 97, 112, 46, 104, 46, 114, 108])
  · exact (by decide : Lib.replace [97, 109, 111, 115, 119, 97, 112, 46, 42, 46, 114, 108] [42] [119] 1 = [97, 109, 111, 115, 119, 97, 112, 46, 119, 46, 114, 108])
  · exact (by decide : Lib.replace [97, 109, 111, 115, 119, 97, 112, 46, 42, 46, 114, 108] [42] [100] 1 = [97, 109, 111, 115, 119, 97, 112, 46, 100, 46, 114, 108])
theorem rpl_a3 {n : Int} (h : n = 1 ∨ n = 2 ∨ n = 4 ∨ n = 8) (a : Ins) (v : Value) (ps : List Int) : nameR rvO ⟨[97, 109, 111, 115, 119, 97, 112, 46, 42, 46, 97, 113, 46, 114, 108], a, v, ps⟩ n = [97, 109, 111, 115, 119, 97, 112, 46] ++ tlV n ++ [46, 97, 113, 46, 114, 108] := by
  rcases h with rfl | rfl | rfl | rfl
  · exact (by decide : Lib.replace [97, 109, 111, 115, 119, 97, 112, 46, 42, 46, 97, 113, 46, 114, 108] [42] [98] 1 = [97, 109, 111, 115, 119, 97, 112, 46, 98, 46, 97, 113, 46, 114, 108])
  · exact (by decide : Lib.replace [97, 109, 111, 115, 119, 97, 112, 46, 42, 46, 97, 113, 46, 114, 108] [42] [104] 1 = [97, 109, 111, 115, 119, 97, 112, 46, 104, 46, 97, 113, 46, 114, 108])
  · exact (by decide : Lib.replace [97, 109, 111, 115, 119, 97, 112, 46, 42, 46, 97, 113, 46, 114, 108] [42] [119] 1 = [97, 109, 111, 115, 119, 97, 112, 46, 119, 46, 97, 113, 46, 114, 108])
  · exact (by decide : Lib.replace [97, 109, 111, 115, 119, 97, 112, 46, 42, 46, 97, 113, 46, 114, 108] [42] [100] 1 = [97, 109, 111, 115, 119, 97, 112, 46, 100, 46, 97, 113, 46, 114, 108])
theorem rpl_a4 {n : Int} (h : n = 1 ∨ n = 2 ∨ n = 4 ∨ n = 8) (a : Ins) (v : Value) (ps : List Int) : nameR rvO ⟨[97, 109, 111, 97, 100, 100, 46, 42], a, v, ps⟩ n = [97, 109, 111, 97, 100, 100, 46] ++ tlV n ++ [] := by
  rcases h with rfl | rfl | rfl | rfl
  · exact (by decide : Lib.replace [97, 109, 111, 97, 100, 100, 46, 42] [42] [98] 1 = [97, 109, 111, 97, 100, 100, 46, 98])
  · exact (by decide : Lib.replace [97, 109, 111, 97, 100, 100, 46, 42] [42] [104] 1 = [97, 109, 111, 97, 100, 100, 46, 104])
  · exact (by decide : Lib.replace [97, 109, 111, 97, 100, 100, 46, 42] [42] [119] 1 = [97, 109, 111, 97, 100, 100, 46, 119])
  · exact (by decide : Lib.replace [97, 109, 111, 97, 100, 100, 46, 42] [42] [100] 1 = [97, 109, 111, 97, 100, 100, 46, 100])
theorem rpl_a5 {n : Int} (h : n = 1 ∨ n = 2 ∨ n = 4 ∨ n = 8) (a : Ins) (v : Value) (ps : List Int) : nameR rvO ⟨[97, 109, 111, 97, 100, 100, 46, 42, 46, 97, 113], a, v, ps⟩ n = [97, 109, 111, 97, 100, 100, 46] ++ tlV n ++ [46, 97, 113] := by
  rcases h with rfl | rfl | rfl | rfl
  · exact (by decide : Lib.replace [97, 109, 111, 97, 100, 100, 46, 42, 46, 97, 113] [42] [98] 1 = [97, 109, 111, 97, 100, 100, 46, 98, 46, 97, 113])
  · exact (by decide : Lib.replace [97, 109, 111, 97, 100, 100, 46, 42, 46, 97, 113] [42] [104] 1 = [97, 109, 111, 97, 100, 100, 46, 104, 46, 97, 113])
  · exact (by decide : Lib.replace [97, 109, 111, 97, 100, 100, 46, 42, 46, 97, 113] [42] [119] 1 = [97, 109, 111, 97, 100, 100, 46, 119, 46, 97, 113])
  · exact (by decide : Lib.replace [97, 109, 111, 97, 100, 100, 46, 42, 46, 97, 113] [42] [100] 1 = [97, 109, 111, 97, 100, 100, 46, 100, 46, 97, 113])
theorem rpl_a6 {n : Int} (h : n = 1 ∨ n = 2 ∨ n = 4 ∨ n = 8) (a : Ins) (v : Value) (ps : List Int) : nameR rvO ⟨[97, 109, 111, 97, 100, 100, 46, 42, 46, 114, 108], a, v, ps⟩ n = [97, 109, 111, 97, 100, 100, 46] ++ tlV n ++ [46, 114, 108] := by
  rcases h with rfl | rfl | rfl | rfl
  · exact (by decide : Lib.replace [97, 109, 111, 97, 100, 100, 46, 42, 46, 114, 108] [42] [98] 1 = [97, 109, 111, 97, 100, 100, 46, 98, 46, 114, 108])
  · exact (by decide : Lib.replace [97, 109, 111, 97, 100, 100, 46, 42, 46, 114, 108] [42] [104] 1 = [97, 109, 111, 97, 100, 100, 46, 104, 46, 114, 108])
  · exact (by decide : Lib.replace [97, 109, 111, 97, 100, 100, 46, 42, 46, 114, 108] [42] [119] 1 = [97, 109, 111, 97, 100, 100, 46, 119, 46, 114, 108])
  · exact (by decide : Lib.replace [97, 109, 111, 97, 100, 100, 46, 42, 46, 114, 108] [42] [100] 1 = [97, 109, 111, 97, 100, 100, 46, 100, 46, 114, 108])
theorem rpl_a7 {n : Int} (h : n = 1 ∨ n = 2 ∨ n = 4 ∨ n = 8) (a : Ins) (v : Value) (ps : List Int) : nameR rvO ⟨[97, 109, 111, 97, 100, 100, 46, 42, 46, 97, 113, 46, 114, 108], a, v, ps⟩ n = [97, 109, 111, 97, 100, 100, 46] ++ tlV n ++ [46, 97, 113, 46, 114, 108] := by
  rcases h with rfl | rfl | rfl | rfl
  · exact (by decide : Lib.replace [97, 109, 111, 97, 100, 100, 46, 42, 46, 97, 113, 46, 114, 108] [42] [98] 1 = [97, 109, 111, 97, 100, 100, 46, 98, 46, 97, 113, 46, 114, 108])
  · exact (by decide : Lib.replace [97, 109, 111, 97, 100, 100, 46, 42, 46, 97, 113, 46, 114, 108] [42] [104] 1 = [97, 109, 111, 97, 100, 100, 46, 104, 46, 97, 113, 46, 114, 108])
  · exact (by decide : Lib.replace [97, 109, 111, 97, 100, 100, 46, 42, 46, 97, 113, 46, 114, 108] [42] [119] 1 = [97, 109, 111, 97, 100, 100, 46, 119, 46, 97, 113, 46, 114, 108])
  · exact (by decide : Lib.replace [97, 109, 111, 97, 100, 100, 46, 42, 46, 97, 113, 46, 114, 108] [42] [100] 1 = [97, 109, 111, 97, 100, 100, 46, 100, 46, 97, 113, 46, 114, 108])
theorem prv_1 {i : Ins} {lb : List UInt8} (hw : wrongB i = false) (ho : i.op = 1) : prL rvO i lb = prW i lb := by
  obtain ⟨hp, hs⟩ := plain_of hw
  obtain ⟨op, dst, a, b, imm, loc, off, index, size, fn, acq, weak, rel, pred, succ, to, zero⟩ := i
  simp only at ho; subst ho
  simp [plainF, opB, rdB, wrB, immF] at hp
  obtain ⟨rfl, rfl, rfl, rfl, rfl, rfl, rfl, rfl, rfl, rfl, rfl, rfl, rfl, rfl⟩ := hp
  have hd := reg_rng (r := dst) (by simpa [soundB] using hs)
  have hr := fnd_1 (i := ⟨1, dst, -1, -1, imm, 0, 0, -1, 0, 0, false, false, false, 0, 0, 0, false⟩) rfl
  rw [find_take (fitr_yes rfl (by simp [showsR, lacks, regP]; omega))] at hr
  refine bothV (t := [108, 105] ++ [32] ++ nameV dst ++ [44] ++ Lib.itoa imm) hw (by simp [txtW, vtxt0, frO]) (by simp) ((prv_row hw hr 1 5 rfl).trans ?_)
  rw [namev_zero, opv_reg (r := dst) rfl, opv_imm]
  simp [List.append_assoc]
theorem prv_2 {i : Ins} {lb : List UInt8} (hw : wrongB i = false) (ho : i.op = 2) : prL rvO i lb = prW i lb := by
  obtain ⟨hp, hs⟩ := plain_of hw
  obtain ⟨op, dst, a, b, imm, loc, off, index, size, fn, acq, weak, rel, pred, succ, to, zero⟩ := i
  simp only at ho; subst ho
  simp [plainF, opB, rdB, wrB, immF] at hp
  obtain ⟨rfl, rfl, rfl, rfl, rfl, rfl, rfl, rfl, rfl, rfl, rfl, rfl, rfl, rfl⟩ := hp
  have hs2 : regB dst = true ∧ regB a = true := by simpa [soundB] using hs
  have hd := reg_rng hs2.1
  have ha := reg_rng hs2.2
  have hr := fnd_2 (i := ⟨2, dst, a, -1, 0, 0, 0, -1, 0, 0, false, false, false, 0, 0, 0, false⟩) rfl
  rw [find_take (fitr_yes rfl (by simp [showsR, lacks, regP]; omega))] at hr
  refine bothV (t := [109, 118] ++ [32] ++ nameV dst ++ [44] ++ nameV a) hw (by simp [txtW, vtxt0, frO]) (by simp) ((prv_row hw hr 1 2 rfl).trans ?_)
  rw [namev_zero, opv_reg (r := dst) rfl, opv_reg (r := a) rfl]
  simp [List.append_assoc]
theorem prv_3 {i : Ins} {lb : List UInt8} (hw : wrongB i = false) (ho : i.op = 3) : prL rvO i lb = prW i lb := by
  obtain ⟨hp, hs⟩ := plain_of hw
  obtain ⟨op, dst, a, b, imm, loc, off, index, size, fn, acq, weak, rel, pred, succ, to, zero⟩ := i
  simp only at ho; subst ho
  have hs2 : (((regB dst = true ∧ regB a = true) ∧ ronB b = true) ∧ 1 ≤ fn) ∧ fn ≤ 5 := by simpa [soundB] using hs
  have hd := reg_rng hs2.1.1.1.1
  have ha := reg_rng hs2.1.1.1.2
  have hb := ron_rng hs2.1.1.2
  have hf : fn = 1 ∨ fn = 2 ∨ fn = 3 ∨ fn = 4 ∨ fn = 5 := by omega
  by_cases hb1 : b = -1
  · subst hb1
    simp [plainF, opB, rdB, wrB, immF] at hp
    obtain ⟨rfl, rfl, rfl, rfl, rfl, rfl, rfl, rfl, rfl, rfl, rfl⟩ := hp
    rcases hf with rfl | rfl | rfl | rfl | rfl
    · have hr := fnd_3 (i := ⟨3, dst, a, -1, imm, 0, 0, -1, 0, 1, false, false, false, 0, 0, 0, false⟩) rfl
      rw [find_skip (fitr_hides (by simp [showsR, lacks, regP])), find_take (fitr_yes rfl (by simp [showsR, lacks, regP]; omega))] at hr
      refine bothV (t := [97, 100, 100, 105] ++ [32] ++ nameV dst ++ [44] ++ nameV a ++ [44] ++ Lib.itoa imm) hw (by simp [txtW, vtxt0, frO, vfnT, vror0]) (by simp) ((prv_row3 hw rfl hr 1 2 5 rfl).trans ?_)
      rw [namev_zero, opv_reg (r := dst) rfl, opv_reg (r := a) rfl, opv_imm]
      simp [List.append_assoc]
    · have hr := fnd_3 (i := ⟨3, dst, a, -1, imm, 0, 0, -1, 0, 2, false, false, false, 0, 0, 0, false⟩) rfl
      rw [find_skip (fitr_no (by simp)), find_skip (fitr_no (by simp)), find_skip (fitr_hides (by simp [showsR, lacks, regP])), find_take (fitr_yes rfl (by simp [showsR, lacks, regP]; omega))] at hr
      refine bothV (t := [115, 117, 98, 105] ++ [32] ++ nameV dst ++ [44] ++ nameV a ++ [44] ++ Lib.itoa imm) hw (by simp [txtW, vtxt0, frO, vfnT, vror0]) (by simp) ((prv_row3 hw rfl hr 1 2 5 rfl).trans ?_)
      rw [namev_zero, opv_reg (r := dst) rfl, opv_reg (r := a) rfl, opv_imm]
      simp [List.append_assoc]
    · have hr := fnd_3 (i := ⟨3, dst, a, -1, imm, 0, 0, -1, 0, 3, false, false, false, 0, 0, 0, false⟩) rfl
      rw [find_skip (fitr_no (by simp)), find_skip (fitr_no (by simp)), find_skip (fitr_no (by simp)), find_skip (fitr_no (by simp)), find_skip (fitr_hides (by simp [showsR, lacks, regP])), find_take (fitr_yes rfl (by simp [showsR, lacks, regP]; omega))] at hr
      refine bothV (t := [120, 111, 114, 105] ++ [32] ++ nameV dst ++ [44] ++ nameV a ++ [44] ++ Lib.itoa imm) hw (by simp [txtW, vtxt0, frO, vfnT, vror0]) (by simp) ((prv_row3 hw rfl hr 1 2 5 rfl).trans ?_)
      rw [namev_zero, opv_reg (r := dst) rfl, opv_reg (r := a) rfl, opv_imm]
      simp [List.append_assoc]
    · have hr := fnd_3 (i := ⟨3, dst, a, -1, imm, 0, 0, -1, 0, 4, false, false, false, 0, 0, 0, false⟩) rfl
      rw [find_skip (fitr_no (by simp)), find_skip (fitr_no (by simp)), find_skip (fitr_no (by simp)), find_skip (fitr_no (by simp)), find_skip (fitr_no (by simp)), find_skip (fitr_no (by simp)), find_skip (fitr_hides (by simp [showsR, lacks, regP])), find_take (fitr_yes rfl (by simp [showsR, lacks, regP]; omega))] at hr
      refine bothV (t := [97, 110, 100, 105] ++ [32] ++ nameV dst ++ [44] ++ nameV a ++ [44] ++ Lib.itoa imm) hw (by simp [txtW, vtxt0, frO, vfnT, vror0]) (by simp) ((prv_row3 hw rfl hr 1 2 5 rfl).trans ?_)
      rw [namev_zero, opv_reg (r := dst) rfl, opv_reg (r := a) rfl, opv_imm]
      simp [List.append_assoc]
    · have hr := fnd_3 (i := ⟨3, dst, a, -1, imm, 0, 0, -1, 0, 5, false, false, false, 0, 0, 0, false⟩) rfl
      rw [find_skip (fitr_no (by simp)), find_skip (fitr_no (by simp)), find_skip (fitr_no (by simp)), find_skip (fitr_no (by simp)), find_skip (fitr_no (by simp)), find_skip (fitr_no (by simp)), find_skip (fitr_no (by simp)), find_skip (fitr_no (by simp)), find_skip (fitr_hides (by simp [showsR, lacks, regP])), find_take (fitr_yes rfl (by simp [showsR, lacks, regP]; omega))] at hr
      refine bothV (t := [111, 114, 105] ++ [32] ++ nameV dst ++ [44] ++ nameV a ++ [44] ++ Lib.itoa imm) hw (by simp [txtW, vtxt0, frO, vfnT, vror0]) (by simp) ((prv_row3 hw rfl hr 1 2 5 rfl).trans ?_)
      rw [namev_zero, opv_reg (r := dst) rfl, opv_reg (r := a) rfl, opv_imm]
      simp [List.append_assoc]
  · have hbr : 0 ≤ b ∧ b < 8 := by rcases hb with h | h; exact absurd h hb1; exact h
    simp [plainF, opB, rdB, wrB, immF, hb1] at hp
    obtain ⟨rfl, rfl, rfl, rfl, rfl, rfl, rfl, rfl, rfl, rfl, rfl, rfl⟩ := hp
    rcases hf with rfl | rfl | rfl | rfl | rfl
    · have hr := fnd_3 (i := ⟨3, dst, a, b, 0, 0, 0, -1, 0, 1, false, false, false, 0, 0, 0, false⟩) rfl
      rw [find_take (fitr_yes rfl (by simp [showsR, lacks, regP]; omega))] at hr
      refine bothV (t := [97, 100, 100] ++ [32] ++ nameV dst ++ [44] ++ nameV a ++ [44] ++ nameV b) hw (by simp [txtW, vtxt0, frO, vfnT, vror0, show ¬ b < 0 by omega]) (by simp) ((prv_row3 hw rfl hr 1 2 3 rfl).trans ?_)
      rw [namev_zero, opv_reg (r := dst) rfl, opv_reg (r := a) rfl, opv_reg (r := b) rfl]
      simp [List.append_assoc]
    · have hr := fnd_3 (i := ⟨3, dst, a, b, 0, 0, 0, -1, 0, 2, false, false, false, 0, 0, 0, false⟩) rfl
      rw [find_skip (fitr_no (by simp)), find_skip (fitr_no (by simp)), find_take (fitr_yes rfl (by simp [showsR, lacks, regP]; omega))] at hr
      refine bothV (t := [115, 117, 98] ++ [32] ++ nameV dst ++ [44] ++ nameV a ++ [44] ++ nameV b) hw (by simp [txtW, vtxt0, frO, vfnT, vror0, show ¬ b < 0 by omega]) (by simp) ((prv_row3 hw rfl hr 1 2 3 rfl).trans ?_)
      rw [namev_zero, opv_reg (r := dst) rfl, opv_reg (r := a) rfl, opv_reg (r := b) rfl]
      simp [List.append_assoc]
    · have hr := fnd_3 (i := ⟨3, dst, a, b, 0, 0, 0, -1, 0, 3, false, false, false, 0, 0, 0, false⟩) rfl
      rw [find_skip (fitr_no (by simp)), find_skip (fitr_no (by simp)), find_skip (fitr_no (by simp)), find_skip (fitr_no (by simp)), find_take (fitr_yes rfl (by simp [showsR, lacks, regP]; omega))] at hr
      refine bothV (t := [120, 111, 114] ++ [32] ++ nameV dst ++ [44] ++ nameV a ++ [44] ++ nameV b) hw (by simp [txtW, vtxt0, frO, vfnT, vror0, show ¬ b < 0 by omega]) (by simp) ((prv_row3 hw rfl hr 1 2 3 rfl).trans ?_)
      rw [namev_zero, opv_reg (r := dst) rfl, opv_reg (r := a) rfl, opv_reg (r := b) rfl]
      simp [List.append_assoc]
    · have hr := fnd_3 (i := ⟨3, dst, a, b, 0, 0, 0, -1, 0, 4, false, false, false, 0, 0, 0, false⟩) rfl
      rw [find_skip (fitr_no (by simp)), find_skip (fitr_no (by simp)), find_skip (fitr_no (by simp)), find_skip (fitr_no (by simp)), find_skip (fitr_no (by simp)), find_skip (fitr_no (by simp)), find_take (fitr_yes rfl (by simp [showsR, lacks, regP]; omega))] at hr
      refine bothV (t := [97, 110, 100] ++ [32] ++ nameV dst ++ [44] ++ nameV a ++ [44] ++ nameV b) hw (by simp [txtW, vtxt0, frO, vfnT, vror0, show ¬ b < 0 by omega]) (by simp) ((prv_row3 hw rfl hr 1 2 3 rfl).trans ?_)
      rw [namev_zero, opv_reg (r := dst) rfl, opv_reg (r := a) rfl, opv_reg (r := b) rfl]
      simp [List.append_assoc]
    · have hr := fnd_3 (i := ⟨3, dst, a, b, 0, 0, 0, -1, 0, 5, false, false, false, 0, 0, 0, false⟩) rfl
      rw [find_skip (fitr_no (by simp)), find_skip (fitr_no (by simp)), find_skip (fitr_no (by simp)), find_skip (fitr_no (by simp)), find_skip (fitr_no (by simp)), find_skip (fitr_no (by simp)), find_skip (fitr_no (by simp)), find_skip (fitr_no (by simp)), find_take (fitr_yes rfl (by simp [showsR, lacks, regP]; omega))] at hr
      refine bothV (t := [111, 114] ++ [32] ++ nameV dst ++ [44] ++ nameV a ++ [44] ++ nameV b) hw (by simp [txtW, vtxt0, frO, vfnT, vror0, show ¬ b < 0 by omega]) (by simp) ((prv_row3 hw rfl hr 1 2 3 rfl).trans ?_)
      rw [namev_zero, opv_reg (r := dst) rfl, opv_reg (r := a) rfl, opv_reg (r := b) rfl]
      simp [List.append_assoc]
theorem prv_4 {i : Ins} {lb : List UInt8} (hw : wrongB i = false) (ho : i.op = 4) : prL rvO i lb = prW i lb := by
  obtain ⟨hp, hs⟩ := plain_of hw
  obtain ⟨op, dst, a, b, imm, loc, off, index, size, fn, acq, weak, rel, pred, succ, to, zero⟩ := i
  simp only at ho; subst ho
  simp [plainF, opB, rdB, wrB, immF] at hp
  obtain ⟨rfl, rfl, rfl, rfl, rfl, rfl, rfl, rfl, rfl⟩ := hp
  have hs2 : (regB dst = true ∧ accB ⟨4, dst, -1, -1, 0, loc, off, index, size, 0, acq, weak, false, 0, 0, 0, false⟩ = true) ∧ (acq = false ∨ weak = false) := by simpa [soundB] using hs
  have hd := reg_rng hs2.1.1
  obtain ⟨hl, hi, hz⟩ := acc_all hs2.1.2
  cases acq
  · cases weak
    · have hr := fnd_4 (i := ⟨4, dst, -1, -1, 0, loc, off, index, size, 0, false, false, false, 0, 0, 0, false⟩) rfl
      rw [find_take (fitr_yes rfl (by simp [showsR, lacks, regP]; omega))] at hr
      refine bothV (t := [108] ++ tlV size ++ [32] ++ nameV dst ++ [44] ++ vmem0 (frO ⟨4, dst, -1, -1, 0, loc, off, index, size, 0, false, false, false, 0, 0, 0, false⟩)) hw (by simp [txtW, vtxt0, frO, vacc0]) (by simp) ((prv_row hw hr 1 6 rfl).trans ?_)
      rw [rpl_l hz, opv_reg (r := dst) rfl, opv_mem hi]
      simp [List.append_assoc]
    · refine neitherV hw (by simp [txtW, vtxt0, frO, vacc0]) ?_
      rw [fnd_4 rfl, find_skip (fitr_no (by simp))]; rfl
  · refine neitherV hw (by simp [txtW, vtxt0, frO, vacc0]) ?_
    rw [fnd_4 rfl, find_skip (fitr_no (by simp))]; rfl
theorem prv_5 {i : Ins} {lb : List UInt8} (hw : wrongB i = false) (ho : i.op = 5) : prL rvO i lb = prW i lb := by
  obtain ⟨hp, hs⟩ := plain_of hw
  obtain ⟨op, dst, a, b, imm, loc, off, index, size, fn, acq, weak, rel, pred, succ, to, zero⟩ := i
  simp only at ho; subst ho
  have hs2 : ronB a = true ∧ accB ⟨5, dst, a, b, imm, loc, off, index, size, fn, acq, weak, rel, pred, succ, to, zero⟩ = true := by simpa [soundB] using hs
  have ha := ron_rng hs2.1
  obtain ⟨hl, hi, hz⟩ := acc_all hs2.2
  by_cases ha1 : a = -1
  · subst ha1
    simp [plainF, opB, rdB, wrB, immF] at hp
    obtain ⟨rfl, rfl, rfl, rfl, rfl, rfl, rfl, rfl, rfl⟩ := hp
    refine neitherV hw (by simp [txtW, vtxt0, frO, vacc0]) ?_
    rw [fnd_5 rfl, find_skip (fitr_hides (by simp [showsR, lacks, regP]))]; rfl
  · have har : 0 ≤ a ∧ a < 8 := by rcases ha with h | h; exact absurd h ha1; exact h
    simp [plainF, opB, rdB, wrB, immF, ha1] at hp
    obtain ⟨rfl, rfl, rfl, rfl, rfl, rfl, rfl, rfl, rfl, rfl⟩ := hp
    cases rel
    · have hr := fnd_5 (i := ⟨5, -1, a, -1, 0, loc, off, index, size, 0, false, false, false, 0, 0, 0, false⟩) rfl
      rw [find_take (fitr_yes rfl (by simp [showsR, lacks, regP]; omega))] at hr
      refine bothV (t := [115] ++ tlV size ++ [32] ++ nameV a ++ [44] ++ vmem0 (frO ⟨5, -1, a, -1, 0, loc, off, index, size, 0, false, false, false, 0, 0, 0, false⟩)) hw (by simp [txtW, vtxt0, frO, vacc0, show ¬ a < 0 by omega]) (by simp) ((prv_row hw hr 2 6 rfl).trans ?_)
      rw [rpl_s hz, opv_reg (r := a) rfl, opv_mem hi]
      simp [List.append_assoc]
    · refine neitherV hw (by simp [txtW, vtxt0, frO, vacc0]) ?_
      rw [fnd_5 rfl, find_skip (fitr_no (by simp))]; rfl
theorem prv_6 {i : Ins} {lb : List UInt8} (hw : wrongB i = false) (ho : i.op = 6) : prL rvO i lb = prW i lb := by
  obtain ⟨hp, hs⟩ := plain_of hw
  obtain ⟨op, dst, a, b, imm, loc, off, index, size, fn, acq, weak, rel, pred, succ, to, zero⟩ := i
  simp only at ho; subst ho
  simp [plainF, opB, rdB, wrB, immF] at hp
  obtain ⟨rfl, rfl, rfl, rfl, rfl, rfl, rfl⟩ := hp
  have hs2 : ((regB dst = true ∧ regB a = true) ∧ accB ⟨6, dst, a, -1, 0, loc, off, index, size, fn, acq, false, rel, 0, 0, 0, false⟩ = true) ∧ (fn = 6 ∨ fn = 1) := by simpa [soundB] using hs
  have hd := reg_rng hs2.1.1.1
  have ha := reg_rng hs2.1.1.2
  obtain ⟨hl, hi, hz⟩ := acc_all hs2.1.2
  rcases hs2.2 with rfl | rfl
  · cases acq <;> cases rel
    · have hr := fnd_6 (i := ⟨6, dst, a, -1, 0, loc, off, index, size, 6, false, false, false, 0, 0, 0, false⟩) rfl
      rw [find_take (fitr_yes rfl (by simp [showsR, lacks, regP]; omega))] at hr
      refine bothV (t := [97, 109, 111, 115, 119, 97, 112, 46] ++ tlV size ++ [] ++ [32] ++ nameV dst ++ [44] ++ nameV a ++ [44] ++ vmem0 (frO ⟨6, dst, a, -1, 0, loc, off, index, size, 6, false, false, false, 0, 0, 0, false⟩)) hw (by simp [txtW, vtxt0, frO, vacc0, vrmw0]) (by simp) ((prv_row3 hw rfl hr 1 2 6 rfl).trans ?_)
      rw [rpl_a0 hz, opv_reg (r := dst) rfl, opv_reg (r := a) rfl, opv_mem hi]
      simp [List.append_assoc]
    · have hr := fnd_6 (i := ⟨6, dst, a, -1, 0, loc, off, index, size, 6, false, false, true, 0, 0, 0, false⟩) rfl
      rw [find_skip (fitr_no (by simp)), find_skip (fitr_no (by simp)), find_take (fitr_yes rfl (by simp [showsR, lacks, regP]; omega))] at hr
      refine bothV (t := [97, 109, 111, 115, 119, 97, 112, 46] ++ tlV size ++ [46, 114, 108] ++ [32] ++ nameV dst ++ [44] ++ nameV a ++ [44] ++ vmem0 (frO ⟨6, dst, a, -1, 0, loc, off, index, size, 6, false, false, true, 0, 0, 0, false⟩)) hw (by simp [txtW, vtxt0, frO, vacc0, vrmw0]) (by simp) ((prv_row3 hw rfl hr 1 2 6 rfl).trans ?_)
      rw [rpl_a2 hz, opv_reg (r := dst) rfl, opv_reg (r := a) rfl, opv_mem hi]
      simp [List.append_assoc]
    · have hr := fnd_6 (i := ⟨6, dst, a, -1, 0, loc, off, index, size, 6, true, false, false, 0, 0, 0, false⟩) rfl
      rw [find_skip (fitr_no (by simp)), find_take (fitr_yes rfl (by simp [showsR, lacks, regP]; omega))] at hr
      refine bothV (t := [97, 109, 111, 115, 119, 97, 112, 46] ++ tlV size ++ [46, 97, 113] ++ [32] ++ nameV dst ++ [44] ++ nameV a ++ [44] ++ vmem0 (frO ⟨6, dst, a, -1, 0, loc, off, index, size, 6, true, false, false, 0, 0, 0, false⟩)) hw (by simp [txtW, vtxt0, frO, vacc0, vrmw0]) (by simp) ((prv_row3 hw rfl hr 1 2 6 rfl).trans ?_)
      rw [rpl_a1 hz, opv_reg (r := dst) rfl, opv_reg (r := a) rfl, opv_mem hi]
      simp [List.append_assoc]
    · have hr := fnd_6 (i := ⟨6, dst, a, -1, 0, loc, off, index, size, 6, true, false, true, 0, 0, 0, false⟩) rfl
      rw [find_skip (fitr_no (by simp)), find_skip (fitr_no (by simp)), find_skip (fitr_no (by simp)), find_take (fitr_yes rfl (by simp [showsR, lacks, regP]; omega))] at hr
      refine bothV (t := [97, 109, 111, 115, 119, 97, 112, 46] ++ tlV size ++ [46, 97, 113, 46, 114, 108] ++ [32] ++ nameV dst ++ [44] ++ nameV a ++ [44] ++ vmem0 (frO ⟨6, dst, a, -1, 0, loc, off, index, size, 6, true, false, true, 0, 0, 0, false⟩)) hw (by simp [txtW, vtxt0, frO, vacc0, vrmw0]) (by simp) ((prv_row3 hw rfl hr 1 2 6 rfl).trans ?_)
      rw [rpl_a3 hz, opv_reg (r := dst) rfl, opv_reg (r := a) rfl, opv_mem hi]
      simp [List.append_assoc]
  · cases acq <;> cases rel
    · have hr := fnd_6 (i := ⟨6, dst, a, -1, 0, loc, off, index, size, 1, false, false, false, 0, 0, 0, false⟩) rfl
      rw [find_skip (fitr_no (by simp)), find_skip (fitr_no (by simp)), find_skip (fitr_no (by simp)), find_skip (fitr_no (by simp)), find_take (fitr_yes rfl (by simp [showsR, lacks, regP]; omega))] at hr
      refine bothV (t := [97, 109, 111, 97, 100, 100, 46] ++ tlV size ++ [] ++ [32] ++ nameV dst ++ [44] ++ nameV a ++ [44] ++ vmem0 (frO ⟨6, dst, a, -1, 0, loc, off, index, size, 1, false, false, false, 0, 0, 0, false⟩)) hw (by simp [txtW, vtxt0, frO, vacc0, vrmw0]) (by simp) ((prv_row3 hw rfl hr 1 2 6 rfl).trans ?_)
      rw [rpl_a4 hz, opv_reg (r := dst) rfl, opv_reg (r := a) rfl, opv_mem hi]
      simp [List.append_assoc]
    · have hr := fnd_6 (i := ⟨6, dst, a, -1, 0, loc, off, index, size, 1, false, false, true, 0, 0, 0, false⟩) rfl
      rw [find_skip (fitr_no (by simp)), find_skip (fitr_no (by simp)), find_skip (fitr_no (by simp)), find_skip (fitr_no (by simp)), find_skip (fitr_no (by simp)), find_skip (fitr_no (by simp)), find_take (fitr_yes rfl (by simp [showsR, lacks, regP]; omega))] at hr
      refine bothV (t := [97, 109, 111, 97, 100, 100, 46] ++ tlV size ++ [46, 114, 108] ++ [32] ++ nameV dst ++ [44] ++ nameV a ++ [44] ++ vmem0 (frO ⟨6, dst, a, -1, 0, loc, off, index, size, 1, false, false, true, 0, 0, 0, false⟩)) hw (by simp [txtW, vtxt0, frO, vacc0, vrmw0]) (by simp) ((prv_row3 hw rfl hr 1 2 6 rfl).trans ?_)
      rw [rpl_a6 hz, opv_reg (r := dst) rfl, opv_reg (r := a) rfl, opv_mem hi]
      simp [List.append_assoc]
    · have hr := fnd_6 (i := ⟨6, dst, a, -1, 0, loc, off, index, size, 1, true, false, false, 0, 0, 0, false⟩) rfl
      rw [find_skip (fitr_no (by simp)), find_skip (fitr_no (by simp)), find_skip (fitr_no (by simp)), find_skip (fitr_no (by simp)), find_skip (fitr_no (by simp)), find_take (fitr_yes rfl (by simp [showsR, lacks, regP]; omega))] at hr
      refine bothV (t := [97, 109, 111, 97, 100, 100, 46] ++ tlV size ++ [46, 97, 113] ++ [32] ++ nameV dst ++ [44] ++ nameV a ++ [44] ++ vmem0 (frO ⟨6, dst, a, -1, 0, loc, off, index, size, 1, true, false, false, 0, 0, 0, false⟩)) hw (by simp [txtW, vtxt0, frO, vacc0, vrmw0]) (by simp) ((prv_row3 hw rfl hr 1 2 6 rfl).trans ?_)
      rw [rpl_a5 hz, opv_reg (r := dst) rfl, opv_reg (r := a) rfl, opv_mem hi]
      simp [List.append_assoc]
    · have hr := fnd_6 (i := ⟨6, dst, a, -1, 0, loc, off, index, size, 1, true, false, true, 0, 0, 0, false⟩) rfl
      rw [find_skip (fitr_no (by simp)), find_skip (fitr_no (by simp)), find_skip (fitr_no (by simp)), find_skip (fitr_no (by simp)), find_skip (fitr_no (by simp)), find_skip (fitr_no (by simp)), find_skip (fitr_no (by simp)), find_take (fitr_yes rfl (by simp [showsR, lacks, regP]; omega))] at hr
      refine bothV (t := [97, 109, 111, 97, 100, 100, 46] ++ tlV size ++ [46, 97, 113, 46, 114, 108] ++ [32] ++ nameV dst ++ [44] ++ nameV a ++ [44] ++ vmem0 (frO ⟨6, dst, a, -1, 0, loc, off, index, size, 1, true, false, true, 0, 0, 0, false⟩)) hw (by simp [txtW, vtxt0, frO, vacc0, vrmw0]) (by simp) ((prv_row3 hw rfl hr 1 2 6 rfl).trans ?_)
      rw [rpl_a7 hz, opv_reg (r := dst) rfl, opv_reg (r := a) rfl, opv_mem hi]
      simp [List.append_assoc]
theorem prv_7 {i : Ins} {lb : List UInt8} (hw : wrongB i = false) (ho : i.op = 7) : prL rvO i lb = prW i lb := by
  obtain ⟨hp, hs⟩ := plain_of hw
  obtain ⟨op, dst, a, b, imm, loc, off, index, size, fn, acq, weak, rel, pred, succ, to, zero⟩ := i
  simp only at ho; subst ho
  simp [plainF, opB, rdB, wrB, immF] at hp
  obtain ⟨rfl, rfl, rfl, rfl, rfl, rfl, rfl, rfl, rfl, rfl, rfl, rfl, rfl, rfl⟩ := hp
  have hs2 : (pred = 1 ∨ pred = 2 ∨ pred = 3) ∧ (succ = 1 ∨ succ = 2 ∨ succ = 3) := by
    have : fenB pred = true ∧ fenB succ = true := by simpa [soundB] using hs
    simp only [fenB, Bool.or_eq_true, beq_iff_eq] at this
    omega
  have hr := fnd_7 (i := ⟨7, -1, -1, -1, 0, 0, 0, -1, 0, 0, false, false, false, pred, succ, 0, false⟩) rfl
  rw [find_take (fitr_yes rfl rfl)] at hr
  have hx := (prv_row (lb := lb) hw hr 8 9 rfl)
  obtain ⟨h1, h2⟩ := hs2
  rcases h1 with rfl | rfl | rfl <;> rcases h2 with rfl | rfl | rfl <;> exact bothV hw rfl (by simp [txtW, vtxt0, frO, vfen0]) hx
theorem prv_8 {i : Ins} {lb : List UInt8} (hw : wrongB i = false) (ho : i.op = 8) : prL rvO i lb = prW i lb := by
  obtain ⟨hp, hs⟩ := plain_of hw
  obtain ⟨op, dst, a, b, imm, loc, off, index, size, fn, acq, weak, rel, pred, succ, to, zero⟩ := i
  simp only at ho; subst ho
  refine neitherV hw (by simp [txtW, vtxt0, frO, vfen0]) ?_
  rw [fnd_8 rfl]; rfl
theorem prv_9 {i : Ins} {lb : List UInt8} (hw : wrongB i = false) (ho : i.op = 9) : prL rvO i lb = prW i lb := by
  obtain ⟨hp, hs⟩ := plain_of hw
  obtain ⟨op, dst, a, b, imm, loc, off, index, size, fn, acq, weak, rel, pred, succ, to, zero⟩ := i
  simp only at ho; subst ho
  simp [plainF, opB, rdB, wrB, immF] at hp
  obtain ⟨rfl, rfl, rfl, rfl, rfl, rfl, rfl, rfl, rfl, rfl, rfl, rfl, rfl⟩ := hp
  have ha := reg_rng (r := a) (by simpa [soundB] using hs)
  cases zero
  · have hr := fnd_9 (i := ⟨9, -1, a, -1, 0, 0, 0, -1, 0, 0, false, false, false, 0, 0, to, false⟩) rfl
    rw [find_skip (fitr_no (by simp)), find_take (fitr_yes rfl (by simp [showsR, lacks, regP]; omega))] at hr
    refine bothV (t := [98, 110, 101, 122] ++ [32] ++ nameV a ++ [44] ++ lb) hw (by simp [txtW, vtxt0, frO, vbr0]) (by simp) ((prv_row hw hr 2 7 rfl).trans ?_)
    rw [namev_zero, opv_reg (r := a) rfl, opv_lab]
    simp [List.append_assoc]
  · have hr := fnd_9 (i := ⟨9, -1, a, -1, 0, 0, 0, -1, 0, 0, false, false, false, 0, 0, to, true⟩) rfl
    rw [find_take (fitr_yes rfl (by simp [showsR, lacks, regP]; omega))] at hr
    refine bothV (t := [98, 101, 113, 122] ++ [32] ++ nameV a ++ [44] ++ lb) hw (by simp [txtW, vtxt0, frO, vbr0]) (by simp) ((prv_row hw hr 2 7 rfl).trans ?_)
    rw [namev_zero, opv_reg (r := a) rfl, opv_lab]
    simp [List.append_assoc]
theorem prv_eq (i : Ins) (lb : List UInt8) : prL rvO i lb = prW i lb := by
  cases hw : wrongB i
  · rcases fields hw with h | h | h | h | h | h | h | h | h
    · exact prv_1 hw h
    · exact prv_2 hw h
    · exact prv_3 hw h
    · exact prv_4 hw h
    · exact prv_5 hw h
    · exact prv_6 hw h
    · exact prv_7 hw h
    · exact prv_8 hw h
    · exact prv_9 hw h
  · unfold prW prL; rw [hw]; simp only [if_true]
end Go.Proofs.YtedlaclfhgneeaaGreatDoor.Old
namespace Go.Proofs.YtedlaclfhgneeaaGreatDoor
theorem prV_is (i : In) (lb : List UInt8) : prV i lb = Old.prW (toO i) lb := by
  have h := Old.wrong_asb (toO i)
  have e : Old.txtW (toO i) lb = vtxt0 i lb := rfl
  have e9 : (toO i).op = i.op := rfl
  have eq : (eqL (vtxt0 i lb) [] = true) = (vtxt0 i lb = []) := propext ⟨eqL_eq, fun h => by rw [h]; exact eqL_same _⟩
  unfold prV Old.prW
  rw [e, e9, ← one_o]
  simp only [eq]
  by_cases ho : i.op = 9
  · have ea : Old.asB (toO i) = toO ({ i with to_ := 1 } : In) := Old.asb_yes (by rw [e9, ho]; rfl)
    rw [ea] at h
    rw [if_pos ho]
    cases hw : Old.wrongB (toO i)
    · rw [hw] at h
      have h0 : Old.rightR (toO ({ i with to_ := 1 } : In)) 0 1 = 0 := by simpa using h
      rw [if_pos h0]; simp [ho]
    · rw [hw] at h
      have h0 : ¬ Old.rightR (toO ({ i with to_ := 1 } : In)) 0 1 = 0 := by simpa using h
      rw [if_neg h0]; simp
  · have ea : Old.asB (toO i) = toO i := Old.asb_no (by rw [e9]; simpa using ho)
    rw [ea] at h
    rw [if_neg ho]
    cases hw : Old.wrongB (toO i)
    · rw [hw] at h
      have h0 : Old.rightR (toO i) 0 1 = 0 := by simpa using h
      rw [if_pos h0]; simp [ho]
    · rw [hw] at h
      have h0 : ¬ Old.rightR (toO i) 0 1 = 0 := by simpa using h
      rw [if_neg h0]; simp
theorem prv_ref (i : In) (lb : List UInt8) : prP riscvG riscvC i lb = prV i lb := (prO_v i lb).trans ((Old.prv_eq _ _).trans (prV_is i lb).symm)
end Go.Proofs.YtedlaclfhgneeaaGreatDoor
namespace Go.Proofs.YtedlaclfhgneeaaGreatDoor.Old
open Go.RowKit
set_option linter.unusedVariables false
set_option linter.unusedSimpArgs false
set_option linter.unusedSectionVars false
theorem regV_kn {L : List Tk} (t : Rs) : regG regV L t = knR L regsV t := rfl
section
variable {L : List Tk} {g : Lg} {s : Rs} {i : Ins} {y : Tk}
-- offe_no
theorem offe_noV (h : plusR L s = false) : offG regV L s i = (s, i) := by unfold offG; rw [if_neg (by simp [h])]
-- offe_yes
theorem offe_yesV (h : plusR L s = true) : offG regV L s i = idxG regV L ⟨s.e, s.a, s.p + 1⟩ i := by unfold offG; rw [if_pos h]
-- meme_no
theorem meme_noV (h : plusR L s = false) : memEG regV L s i = (s, i) := by unfold memEG; rw [if_neg (by simp [h])]
-- meme_none
theorem meme_noneV (h : plusR L s = true) (hn : L.length ≤ s.p + 1) : memEG regV L s i = idxG regV L ⟨s.e, s.a, s.p + 1⟩ i := by unfold memEG; rw [if_pos h, List.getElem?_eq_none hn]
-- meme_reg
theorem meme_regV (h : plusR L s = true) (hy : L[s.p + 1]? = some y) (hk : (y.kind == 2) = false) : memEG regV L s i = idxG regV L ⟨s.e, s.a, s.p + 1⟩ i := by unfold memEG; rw [if_pos h, hy]; simp [hk]
-- meme_num
theorem meme_numV (h : plusR L s = true) (hy : L[s.p + 1]? = some y) (hk : (y.kind == 2) = true) : memEG regV L s i = offG regV L ⟨s.e, s.a, s.p + 1 + 1⟩ { i with off := y.n } := by unfold memEG; rw [if_pos h, hy]; simp [hk]
-- mem_skip
theorem mem_skipV (h : (s.e == 0) = false) : memIG regV L s i = (s, i) := by unfold memIG; rw [if_neg (by simp [h])]
-- mem_none
theorem mem_noneV (h : (s.e == 0) = true) (hn : L.length ≤ s.p) : memIG regV L s i = (oddR L true s, i) := by unfold memIG; rw [if_pos h, List.getElem?_eq_none hn]
-- mem_kind
theorem mem_kindV (h : (s.e == 0) = true) (hy : L[s.p]? = some y) (hk : (y.kind == 1) = false) : memIG regV L s i = (oddR L true s, i) := by unfold memIG; rw [if_pos h, hy]; simp [hk]
-- mem_word
theorem mem_wordV (h : (s.e == 0) = true) (hy : L[s.p]? = some y) (hf : decide (locF y.text < 0) = true) : memIG regV L s i = (oddR L true s, i) := by unfold memIG; rw [if_pos h, hy]; simp only [hf, Bool.not_true, Bool.and_false, Bool.false_eq_true, if_false]
-- mem_yes
theorem mem_yesV (h : (s.e == 0) = true) (hy : L[s.p]? = some y) (hk : (y.kind == 1) = true) (hf : decide (locF y.text < 0) = false) : memIG regV L s i = closeR L (memEG regV L ⟨s.e, s.a, s.p + 1⟩ { i with loc := locF y.text }) := by unfold memIG; rw [if_pos h, hy]; simp only [hk, hf, Bool.not_false, Bool.and_true, if_true]
-- mem_idx
theorem mem_idxV (hr : g.regs = regsV) {s : Ps} {t : Rs} {i : Ins} (h : Mem s t i) : Mem (idxP g L s) (idxG regV L t i).1 (idxG regV L t i).2 := by
  obtain ⟨h1, h2⟩ := h
  have hk := sim_known (L := L) (ls := regsV) h1
  have hkp := (known_keeps (L := L) (ls := regsV) (s := s)).1
  unfold idxP idxG
  rw [hr, regV_kn]
  refine ⟨sim_set hk.1 rfl rfl rfl, fun he => ?_⟩
  have ht : t.e = 0 := by
    cases hte : decide (t.e = 0)
    · have : t.e ≠ 0 := of_decide_eq_false hte
      rw [kn_skip this] at he; exact absurd he this
    · exact of_decide_eq_true hte
  obtain ⟨a1, a2, a3⟩ := h2 ht
  exact ⟨by show (knownP L regsV s).1.ins.loc = i.loc; rw [hkp]; exact a1, by show (knownP L regsV s).1.ins.off = i.off; rw [hkp]; exact a2, hk.2 he⟩
-- mem_off
theorem mem_offV (hr : g.regs = regsV) {s : Ps} {t : Rs} {i : Ins} (h : Mem s t i) : Mem (offP g L s) (offG regV L t i).1 (offG regV L t i).2 := by
  have hp := plusR_is (L := L) h.1
  by_cases he : t.e = 0
  · obtain ⟨hs0, hsp⟩ := sim_p h.1 he
    rw [hs0] at hp
    cases hrd : reads L [43] s.p
    · rw [hrd] at hp
      rw [offe_noV hp]; unfold offP; rw [if_neg (by simp [hrd])]; exact h
    · rw [hrd] at hp
      rw [offe_yesV hp]; unfold offP; rw [if_pos hrd]
      exact mem_idxV hr ⟨.inl ⟨hs0, he, by show s.p + 1 = t.p + 1; omega⟩, fun _ => h.2 he⟩
  · have hs : s.e ≠ 0 := (sim_ne h.1).2 he
    have : plusR L t = false := by rw [hp]; simp [hs]
    rw [offe_noV this]
    exact ⟨(off_bad hs).sim hs h.1, fun e => absurd e he⟩
-- mem_plus
theorem mem_plusV (hr : g.regs = regsV) {s : Ps} {t : Rs} {i : Ins} (h : Mem s t i) : Mem (plusP g L s) (memEG regV L t i).1 (memEG regV L t i).2 := by
  have hp := plusR_is (L := L) h.1
  by_cases he : t.e = 0
  · obtain ⟨hs0, hsp⟩ := sim_p h.1 he
    rw [hs0] at hp
    cases hrd : reads L [43] s.p
    · rw [hrd] at hp
      rw [meme_noV hp]; unfold plusP; rw [if_neg (by simp [hrd])]; exact h
    · rw [hrd] at hp
      unfold plusP; rw [if_pos hrd]
      unfold numOff
      have hs1 : Mem (atP s (s.p + 1)) ⟨t.e, t.a, t.p + 1⟩ i := ⟨.inl ⟨hs0, he, by show s.p + 1 = t.p + 1; omega⟩, fun _ => h.2 he⟩
      cases hy : L[s.p + 1]? with
      | none =>
        have hn : L.length ≤ t.p + 1 := by have : L.length ≤ s.p + 1 := by simpa using hy
                                           omega
        rw [meme_noneV hp hn, if_neg (by show ¬ isNumP L (s.p + 1) = true; unfold isNumP; rw [hy]; simp)]
        exact mem_idxV hr hs1
      | some y =>
        have hyt : L[t.p + 1]? = some y := by rw [← hsp]; exact hy
        cases hk : (y.kind == 2)
        · rw [meme_regV hp hyt hk, if_neg (by show ¬ isNumP L (s.p + 1) = true; rw [isnum_is hy, hk]; simp)]
          exact mem_idxV hr hs1
        · rw [meme_numV hp hyt hk, if_pos (by show isNumP L (s.p + 1) = true; rw [isnum_is hy, hk])]
          have e1 : numP1 L (s.p + 1) = some (y.n, s.p + 1 + 1) := by unfold numP1; rw [hy]; simp only [hk, if_true]
          have e2 : nbQ L (atP s (s.p + 1)).p = s.p + 1 + 1 := by show nbQ L (s.p + 1) = _; unfold nbQ; rw [e1]; rfl
          have e3 : nbV L (atP s (s.p + 1)).p = y.n := by show nbV L (s.p + 1) = _; unfold nbV; rw [e1]; rfl
          rw [e2, e3]
          exact mem_offV hr ⟨.inl ⟨hs0, he, by show s.p + 1 + 1 = t.p + 1 + 1; omega⟩, fun _ => ⟨(h.2 he).1, rfl, (h.2 he).2.2⟩⟩
  · have hs : s.e ≠ 0 := (sim_ne h.1).2 he
    have : plusR L t = false := by rw [hp]; simp [hs]
    rw [meme_noV this]
    exact ⟨(plus_bad hs).sim hs h.1, fun e => absurd e he⟩
-- memI_kn
theorem memi_knV {t : Rs} {i : Ins} (he : (knR L locsX t).1.e = 0) : memIG regV L t i = closeR L (memEG regV L (knR L locsX t).1 { i with loc := (knR L locsX t).2 }) := by
  have ht : t.e = 0 := by
    cases hte : decide (t.e = 0)
    · have : t.e ≠ 0 := of_decide_eq_false hte
      rw [kn_skip this] at he; exact absurd he this
    · exact of_decide_eq_true hte
  have ht0 : (t.e == 0) = true := by simpa using ht
  cases hy : L[t.p]? with
  | none => rw [kn_none ht0 (by simpa using hy)] at he; exact absurd he (by have := odd_e (L := L) (u := true) ht0; simpa using this)
  | some y =>
    cases hk : (y.kind == 1)
    · rw [kn_kind ht0 hy hk] at he; exact absurd he (by have := odd_e (L := L) (u := true) ht0; simpa using this)
    · cases hd : decide (idxL locsX y.text 0 < 0)
      · rw [kn_yes ht0 hy hk hd]; exact mem_yesV ht0 hy hk hd
      · rw [kn_word ht0 hy hd] at he; exact absurd he (by have := odd_e (L := L) (u := true) ht0; simpa using this)
-- memI_no
theorem memi_noV {t : Rs} {i : Ins} (he : (knR L locsX t).1.e ≠ 0) : memIG regV L t i = ((knR L locsX t).1, i) := by
  by_cases ht : t.e = 0
  · have ht0 : (t.e == 0) = true := by simpa using ht
    cases hy : L[t.p]? with
    | none => rw [kn_none ht0 (by simpa using hy), mem_noneV ht0 (by simpa using hy)]
    | some y =>
      cases hk : (y.kind == 1)
      · rw [kn_kind ht0 hy hk, mem_kindV ht0 hy hk]
      · cases hd : decide (idxL locsX y.text 0 < 0)
        · rw [kn_yes ht0 hy hk hd] at he; exact absurd ht he
        · rw [kn_word ht0 hy hd, mem_wordV ht0 hy hd]
  · rw [kn_skip ht, mem_skipV (by simpa using ht)]
-- sim_mem
theorem sim_memV (hr : g.regs = regsV) {s : Ps} {t : Rs} {i : Ins} (h : Sim s t) (ho : s.ins.off = i.off) (hi : i.index = -1) : Mem (memP g L s) (memG regV L t i).1 (memG regV L t i).2 := by
  have h1 := sim_mark (L := L) (m := [91]) h
  have h2 := sim_known (L := L) (ls := locsX) h1
  have hk : (mem0P L s).ins.off = s.ins.off := by
    show (knownP L locsX (markP L [91] s)).1.ins.off = s.ins.off
    rw [(known_keeps (L := L) (ls := locsX)).1, (mark_keeps (L := L)).1]
  have h3 : Sim (mem0P L s) (knR L locsX (markR L [91] t)).1 := sim_set h2.1 rfl rfl rfl
  unfold memP memG
  by_cases he : (knR L locsX (markR L [91] t)).1.e = 0
  · rw [memi_knV he]
    have h4 : Mem (mem0P L s) (knR L locsX (markR L [91] t)).1 { i with loc := (knR L locsX (markR L [91] t)).2 } := ⟨h3, fun _ => ⟨h2.2 he, by rw [hk]; exact ho, hi.symm⟩⟩
    have h5 := mem_plusV (L := L) hr h4
    unfold closeR
    refine ⟨sim_mark h5.1, fun e => ?_⟩
    rw [(mark_keeps (L := L)).1]
    refine h5.2 ?_
    by_cases hz : (memEG regV L (knR L locsX (markR L [91] t)).1 { i with loc := (knR L locsX (markR L [91] t)).2 }).1.e = 0
    · exact hz
    · have e : (markR L [93] (memEG regV L (knR L locsX (markR L [91] t)).1 { i with loc := (knR L locsX (markR L [91] t)).2 }).1).e = 0 := e
      rw [mark_skip (by simpa using hz)] at e; exact e
  · rw [memi_noV he]
    have hs : (mem0P L s).e ≠ 0 := (sim_ne h3).2 he
    have hb := (plus_bad (g := g) (L := L) hs).trans (mark_bad (L := L) (m := [93]) ((plus_bad (g := g) (L := L) hs).ne hs))
    exact ⟨hb.sim hs h3, fun e => absurd e he⟩
-- lk_offE
theorem lk_offEV {t : Rs} {i : Ins} : Lk i (offG regV L t i).2 := by unfold offG; split <;> rfl
-- lk_memE
theorem lk_memeV {t : Rs} {i : Ins} : Lk i (memEG regV L t i).2 := by
  unfold memEG; split
  · split
    · split
      · exact Lk.trans (show Lk i { i with off := _ } from rfl) lk_offEV
      · rfl
    · rfl
  · rfl
-- lk_memR
theorem lk_memrV {t : Rs} {i : Ins} : Lk i (memG regV L t i).2 := by
  unfold memG
  by_cases he : (knR L locsX (markR L [91] t)).1.e = 0
  · rw [memi_knV he]; exact Lk.trans (show Lk i { i with loc := _ } from rfl) lk_memeV
  · rw [memi_noV he]; rfl
-- memR_no
theorem memr_noV {t : Rs} {i : Ins} (h : (markR L [91] t).e ≠ 0) : (memG regV L t i).1 = markR L [91] t := by
  unfold memG; rw [memi_noV (by rw [kn_skip h]; exact h), kn_skip h]
-- no_mem
theorem no_memV (hW : WF L) {s : Ps} {t : Rs} (h : Sim s t) {i : Ins} (hb : isMarkB (wordAt L s.p) [91] = false) : Sim (refP L 22 s) (memG regV L t i).1 ∧ (memG regV L t i).1.e ≠ 0 := by
  have h1 := sim_mark (L := L) (m := [91]) h
  have hr : reads L [91] s.p = false := by rw [word_reads hW (by decide)]; exact hb
  have e1 : markP L [91] s = refP L 22 s := by unfold markP; rw [if_neg (by rw [hr]; decide)]
  rw [e1] at h1
  have hne := (sim_ne h1).1 ref_ne
  rw [memr_noV hne]; exact ⟨h1, hne⟩
-- no_reg
end
section
variable {L : List Tk} {g : Lg} {r : Rw} {f k : Nat} {s : Ps} {t t' te : Rs} {p : Int} {i : Ins} {lab : List UInt8}
theorem one_go (hp : r.parts[k]? = some p) : instL g L (f + 1) k [r] s = if beginsB g p (wordAt L (commaP L k s).p) = true then instL g L f (k + 1) [r] (partP g L p (commaP L k s)) else (refP L 22 (commaP L k s), []) := by
  have hk : k < r.parts.length := (List.getElem?_eq_some_iff.1 hp).1
  have hst : (!strikes g k (wordAt L (commaP L k s).p) r) = beginsB g p (wordAt L (commaP L k s).p) := by unfold strikes; rw [hp]; simp only [Bool.not_not]
  have hl : leftR g L k [r] (commaP L k s) = if beginsB g p (wordAt L (commaP L k s).p) = true then [r] else [] := by
    unfold leftR; simp only [List.filter_cons, List.filter_nil, hst]
  have e : instL g L (f + 1) k [r] s = if decide (((k : Nat) : Int) < ((r.parts.length : Nat) : Int)) = true then instL g L f (k + 1) (leftR g L k [r] (commaP L k s)) (part0 g L k (leftR g L k [r] (commaP L k s)) (begP g L k [r] (commaP L k s))) else (s, [r]) := rfl
  rw [e, if_pos (decide_eq_true (by omega))]
  cases hb : beginsB g p (wordAt L (commaP L k s).p)
  · rw [hb, if_neg (by decide)] at hl
    rw [beg_none' hl, hl, inst_nil, if_neg (by decide)]; rfl
  · rw [hb, if_pos rfl] at hl
    rw [begP_some hl, hl, if_pos rfl]
    show instL g L f (k + 1) [r] (match r.parts[k]? with | some p => partP g L p (commaP L k s) | none => commaP L k s) = _
    rw [hp]
theorem one_end (hp : r.parts.length = k) : instL g L (f + 1) k [r] s = (s, [r]) := by
  have e : instL g L (f + 1) k [r] s = if decide (((k : Nat) : Int) < ((r.parts.length : Nat) : Int)) = true then instL g L f (k + 1) (leftR g L k [r] (commaP L k s)) (part0 g L k (leftR g L k [r] (commaP L k s)) (begP g L k [r] (commaP L k s))) else (s, [r]) := rfl
  rw [e, if_neg (by rw [decide_eq_false (by omega)]; decide)]
theorem one_step (hp : r.parts[k]? = some p) (no : beginsB g p (wordAt L (commaP L k s).p) = false → Sim (refP L 22 (commaP L k s)) t') (hte : t'.e ≠ 0 → te = t')
    (go : Alike (instL g L f (k + 1) [r] (partP g L p (commaP L k s))) te i lab) : Alike (instL g L (f + 1) k [r] s) te i lab := by
  rw [one_go hp]
  cases hb : beginsB g p (wordAt L (commaP L k s).p)
  · rw [if_neg (by decide)]
    have h := no hb
    have hne := (sim_ne h).1 ref_ne
    rw [hte hne]
    exact ⟨h, fun e => absurd e hne⟩
  · rw [if_pos rfl]; exact go
theorem no_known {ls : List (List UInt8)} (h : Sim s t) (hb : ((wordAt L s.p).kind == 1) = false) : Sim (refP L 22 s) (knR L ls t).1 := by
  have hkn := word_kn (L := L) (ls := ls) hb
  have h1 := (sim_known (L := L) (ls := ls) h).1
  rw [hkn] at h1; exact h1
theorem no_num (hW : WF L) (h : Sim s t) (hb : (((wordAt L s.p).kind == 2) || isMarkB (wordAt L s.p) [45]) = false) : Sim (refP L 22 s) (numS L t).1 := by
  have h1 := (sim_num hW h).1
  rw [Bool.or_eq_false_iff] at hb
  have e1 : reads L [45] s.p = false := by rw [word_reads hW (by decide)]; exact hb.2
  have e2 : nbO L s.p = false := by
    unfold nbO numP1
    cases hy : L[s.p]? with
    | none => rfl
    | some y =>
      rw [word_some hy] at hb
      have h2 : ((y.kind == 3) && eqL y.text [45]) = false := hb.2
      simp only [hb.1, h2, Bool.false_eq_true, if_false]; rfl
  have e3 : (numP L s).1 = refP L 22 s := by unfold numP; rw [e2, e1]; rfl
  rw [e3] at h1; exact h1
end
end Go.Proofs.YtedlaclfhgneeaaGreatDoor.Old
namespace Go.Proofs.YtedlaclfhgneeaaGreatDoor.Old
open Go.RowKit
set_option linter.unusedVariables false
set_option linter.unusedSimpArgs false
set_option linter.unusedSectionVars false
def fensV : List (List UInt8) := [[114], [119], [114, 119]]
section
variable {L : List Tk} {r : Rw} {n p1 p2 p3 : Int} {t1 t2 t3 : Rs} {i : Ins} {lab : List UInt8}
theorem comma0 (s : Ps) : commaP L 0 s = s := rfl
theorem comma1 (s : Ps) : commaP L 1 s = markP L [44] s := rfl
theorem comma2 (s : Ps) : commaP L 2 s = markP L [44] s := rfl
abbrev sM (L : List Tk) (p1 n : Int) : Ps := markP L [44] (partP rvO L p1 (sAt n))
theorem form2 (hp : r.parts = [p1, p2])
    (no1 : beginsB rvO p1 (wordAt L 1) = false → Sim (refP L 22 (sAt n)) t1) (yes1 : Sim (partP rvO L p1 (sAt n)) t1)
    (no2 : Sim (sM L p1 n) (markR L [44] t1) → beginsB rvO p2 (wordAt L (sM L p1 n).p) = false → Sim (refP L 22 (sM L p1 n)) t2)
    (yes2 : Sim (sM L p1 n) (markR L [44] t1) → Sim (partP rvO L p2 (sM L p1 n)) t2)
    (sk : (markR L [44] t1).e ≠ 0 → t2 = markR L [44] t1)
    (hf : t2.e = 0 → withR r (partP rvO L p2 (sM L p1 n)).ins = i ∧ (partP rvO L p2 (sM L p1 n)).lab = lab) : Alike (instL rvO L 1001 0 [r] (sAt n)) t2 i lab := by
  have hM := sim_mark (L := L) (m := [44]) yes1
  refine one_step (k := 0) (f := 1000) (t' := t1) (p := p1) (by rw [hp]; rfl) (fun h => no1 h) (fun h => ?_) ?_
  · have e : markR L [44] t1 = t1 := mark_skip (by simpa using h)
    rw [e] at sk; exact sk h
  · rw [comma0]
    refine one_step (k := 1) (f := 999) (t' := t2) (p := p2) (by rw [hp]; rfl) (fun h => no2 hM h) (fun _ => rfl) ?_
    rw [comma1, one_end (f := 998) (by rw [hp]; rfl)]
    exact ⟨yes2 hM, fun e => hf e⟩
abbrev sN (L : List Tk) (p1 p2 n : Int) : Ps := markP L [44] (partP rvO L p2 (sM L p1 n))
theorem form3 (hp : r.parts = [p1, p2, p3])
    (no1 : beginsB rvO p1 (wordAt L 1) = false → Sim (refP L 22 (sAt n)) t1) (yes1 : Sim (partP rvO L p1 (sAt n)) t1)
    (no2 : Sim (sM L p1 n) (markR L [44] t1) → beginsB rvO p2 (wordAt L (sM L p1 n).p) = false → Sim (refP L 22 (sM L p1 n)) t2)
    (yes2 : Sim (sM L p1 n) (markR L [44] t1) → Sim (partP rvO L p2 (sM L p1 n)) t2)
    (sk2 : (markR L [44] t1).e ≠ 0 → t2 = markR L [44] t1)
    (no3 : Sim (sN L p1 p2 n) (markR L [44] t2) → beginsB rvO p3 (wordAt L (sN L p1 p2 n).p) = false → Sim (refP L 22 (sN L p1 p2 n)) t3)
    (yes3 : Sim (sN L p1 p2 n) (markR L [44] t2) → Sim (partP rvO L p3 (sN L p1 p2 n)) t3)
    (sk3 : (markR L [44] t2).e ≠ 0 → t3 = markR L [44] t2)
    (hf : t3.e = 0 → withR r (partP rvO L p3 (sN L p1 p2 n)).ins = i ∧ (partP rvO L p3 (sN L p1 p2 n)).lab = lab) : Alike (instL rvO L 1001 0 [r] (sAt n)) t3 i lab := by
  have hM := sim_mark (L := L) (m := [44]) yes1
  have hN := sim_mark (L := L) (m := [44]) (yes2 hM)
  have k2 : t2.e ≠ 0 → t3 = t2 := fun h => by
    have e : markR L [44] t2 = t2 := mark_skip (by simpa using h)
    rw [e] at sk3; exact sk3 h
  refine one_step (k := 0) (f := 1000) (t' := t1) (p := p1) (by rw [hp]; rfl) (fun h => no1 h) (fun h => ?_) ?_
  · have e : markR L [44] t1 = t1 := mark_skip (by simpa using h)
    rw [e] at sk2
    have e2 := sk2 h
    rw [k2 (by rw [e2]; exact h), e2]
  · rw [comma0]
    refine one_step (k := 1) (f := 999) (t' := t2) (p := p2) (by rw [hp]; rfl) (fun h => no2 hM h) k2 ?_
    rw [comma1]
    refine one_step (k := 2) (f := 998) (t' := t3) (p := p3) (by rw [hp]; rfl) (fun h => no3 hN h) (fun _ => rfl) ?_
    rw [comma2, one_end (f := 997) (by rw [hp]; rfl)]
    exact ⟨yes3 hN, fun e => hf e⟩
theorem reg1_no (h1 : p1 = 1 ∨ p1 = 2) (h : beginsB rvO p1 (wordAt L 1) = false) : Sim (refP L 22 (sAt n)) (knR L regsV tA).1 := by
  refine no_known (sim0 n) ?_
  rcases h1 with rfl | rfl <;> exact h
theorem reg1_yes (h1 : p1 = 1 ∨ p1 = 2) : Sim (partP rvO L p1 (sAt n)) (knR L regsV tA).1 := by
  have h := (sim_known (L := L) (ls := regsV) (sim0 n)).1
  rcases h1 with rfl | rfl <;> exact sim_set h rfl rfl rfl
theorem fen1_no (h : beginsB rvO 8 (wordAt L 1) = false) : Sim (refP L 22 (sAt n)) (knR L fensV tA).1 := no_known (sim0 n) h
theorem fen1_yes : Sim (partP rvO L 8 (sAt n)) (knR L fensV tA).1 := sim_set (sim_known (L := L) (ls := fensV) (sim0 n)).1 rfl rfl rfl
theorem regk_no {s : Ps} {t : Rs} (hp : p2 = 1 ∨ p2 = 2 ∨ p2 = 3) (hs : Sim s t) (h : beginsB rvO p2 (wordAt L s.p) = false) : Sim (refP L 22 s) (knR L regsV t).1 := by
  refine no_known hs ?_
  rcases hp with rfl | rfl | rfl <;> exact h
theorem regk_yes {s : Ps} {t : Rs} (hp : p2 = 1 ∨ p2 = 2 ∨ p2 = 3) (hs : Sim s t) : Sim (partP rvO L p2 s) (knR L regsV t).1 := by
  have h := (sim_known (L := L) (ls := regsV) hs).1
  rcases hp with rfl | rfl | rfl <;> exact sim_set h rfl rfl rfl
theorem kn_sk {ls : List (List UInt8)} {t : Rs} (h : t.e ≠ 0) : (knR L ls t).1 = t := by rw [kn_skip h]
theorem num_sk {t : Rs} (h : t.e ≠ 0) : (numS L t).1 = t := by unfold numS; rw [if_neg (by simpa using h)]
theorem immk_no (hW : WF L) {s : Ps} {t : Rs} (hs : Sim s t) (h : beginsB rvO 5 (wordAt L s.p) = false) : Sim (refP L 22 s) (numS L t).1 := no_num hW hs h
theorem immk_yes (hW : WF L) {s : Ps} {t : Rs} (hs : Sim s t) : Sim (partP rvO L 5 s) (numS L t).1 := sim_set (sim_num hW hs).1 rfl rfl rfl
theorem memk_no (hW : WF L) {s : Ps} {t : Rs} (hs : Sim s t) (h : beginsB rvO 6 (wordAt L s.p) = false) : Sim (refP L 22 s) (memG regV L t i).1 := (no_memV hW hs h).1
theorem memk_yes {s : Ps} {t : Rs} (hs : Sim s t) (ho : s.ins.off = i.off) (hi : i.index = -1) : Sim (partP rvO L 6 s) (memG regV L t i).1 := (sim_memV (g := rvO) rfl hs ho hi).1
theorem mem_sk {t : Rs} (h : t.e ≠ 0) : (memG regV L t i).1 = t := by
  have e : markR L [91] t = t := mark_skip (by simpa using h)
  have := memr_noV (L := L) (t := t) (i := i) (by rw [e]; exact h)
  rw [e] at this; exact this
theorem sm_ins (h1 : p1 = 1) : (sM L p1 n).ins = { zIns with size := n, dst := (knownP L regsV (sAt n)).2 } ∧ (sM L p1 n).lab = [] := by
  subst h1
  have e := known_keeps (L := L) (ls := regsV) (s := sAt n)
  refine ⟨(mark_keeps (L := L)).1.trans ?_, (mark_keeps (L := L)).2.trans ?_⟩
  · show ({ (knownP L regsV (sAt n)).1.ins with dst := (knownP L regsV (sAt n)).2 } : Ins) = _
    rw [e.1]
  · exact e.2
theorem sm_insA (h1 : p1 = 2) : (sM L p1 n).ins = { zIns with size := n, a := (knownP L regsV (sAt n)).2 } ∧ (sM L p1 n).lab = [] := by
  subst h1
  have e := known_keeps (L := L) (ls := regsV) (s := sAt n)
  refine ⟨(mark_keeps (L := L)).1.trans ?_, (mark_keeps (L := L)).2.trans ?_⟩
  · show ({ (knownP L regsV (sAt n)).1.ins with a := (knownP L regsV (sAt n)).2 } : Ins) = _
    rw [e.1]
  · exact e.2
theorem sm_insF : (sM L 8 n).ins = { zIns with size := n, pred := (knownP L fensV (sAt n)).2 + 1 } ∧ (sM L 8 n).lab = [] := by
  have e := known_keeps (L := L) (ls := fensV) (s := sAt n)
  refine ⟨(mark_keeps (L := L)).1.trans ?_, (mark_keeps (L := L)).2.trans ?_⟩
  · show ({ (knownP L fensV (sAt n)).1.ins with pred := (knownP L fensV (sAt n)).2 + 1 } : Ins) = _
    rw [e.1]
  · exact e.2
end
end Go.Proofs.YtedlaclfhgneeaaGreatDoor.Old
namespace Go.Proofs.YtedlaclfhgneeaaGreatDoor.Old
open Go.RowKit
set_option linter.unusedVariables false
set_option linter.unusedSimpArgs false
set_option linter.unusedSectionVars false
def AlV (L : List Tk) (q : List UInt8) (n : Int) (rows : List Rw) : Prop := (riscvR L tA blank q).1.1 = true ∧ Alike (instL rvO L 1001 0 rows (sAt n)) (riscvR L tA blank q).2.1 (riscvR L tA blank q).2.2 (riscvR L tA blank q).1.2
section
variable {L : List Tk} {n k : Int} {nm : List UInt8} {i : Ins}
theorem bk {t t2 : Rs} (sk : t.e ≠ 0 → t2 = t) (h : t2.e = 0) : t.e = 0 := by
  by_cases he : t.e = 0
  · exact he
  · rw [sk he] at h; exact absurd h he
abbrev t1V (L : List Tk) : Rs := (regG regV L tA).1
abbrev m1V (L : List Tk) : Rs := markR L [44] (t1V L)
theorem v1_is (h : (m1V L).e = 0) : (knownP L regsV (sAt n)).2 = (regG regV L tA).2 := (sim_known (L := L) (ls := regsV) (sim0 n)).2 (mark_stop h)
theorem simM (h1 : k = 1 ∨ k = 2) : Sim (sM L k n) (m1V L) := sim_mark (reg1_yes h1)
theorem al_li (hW : WF L) : AlV L [108, 105] 0 [(⟨[108, 105], ⟨1, 0, 0, 0, 0, 0, 0, 0, 0, 0, false, false, false, 0, 0, 0, false⟩, nilV, [1, 5]⟩ : Rw)] := by
  have e : riscvR L tA blank [108, 105] = ((true, []), (numS L (m1V L)).1, Ins.mk 1 (regG regV L tA).2 (-1) (-1) (numS L (m1V L)).2 0 0 (-1) 0 0 false false false 0 0 0 false) := rfl
  unfold AlV
  rw [e]
  refine ⟨rfl, form2 (t1 := t1V L) rfl (reg1_no (.inl rfl)) (reg1_yes (.inl rfl)) (fun h => immk_no hW h) (fun h => immk_yes hW h) (fun h => num_sk h) (fun h => ?_)⟩
  have hm : (m1V L).e = 0 := bk (fun h => num_sk h) h
  have v2 := (sim_num hW (simM (L := L) (n := 0) (.inl rfl))).2 h
  have kp := num_keeps (L := L) (s := sM L 1 0)
  have si := sm_ins (L := L) (n := 0) (p1 := 1) rfl
  constructor
  · show withR _ ({ (numP L (sM L 1 0)).1.ins with imm := (numP L (sM L 1 0)).2 } : Ins) = _
    rw [kp.1, si.1, v1_is hm, v2]; rfl
  · show (numP L (sM L 1 0)).1.lab = []
    rw [kp.2]; exact si.2
theorem al_mv : AlV L [109, 118] 0 [(⟨[109, 118], ⟨2, 0, 0, 0, 0, 0, 0, 0, 0, 0, false, false, false, 0, 0, 0, false⟩, nilV, [1, 2]⟩ : Rw)] := by
  have e : riscvR L tA blank [109, 118] = ((true, []), (regG regV L (m1V L)).1, Ins.mk 2 (regG regV L tA).2 (regG regV L (m1V L)).2 (-1) 0 0 0 (-1) 0 0 false false false 0 0 0 false) := rfl
  unfold AlV
  rw [e]
  refine ⟨rfl, form2 (t1 := t1V L) rfl (reg1_no (.inl rfl)) (reg1_yes (.inl rfl)) (fun h => regk_no (.inr (.inl rfl)) h) (fun h => regk_yes (.inr (.inl rfl)) h) (fun h => kn_sk (ls := regsV) h) (fun h => ?_)⟩
  have hm : (m1V L).e = 0 := bk (fun h => kn_sk (ls := regsV) h) h
  have v2 := (sim_known (ls := regsV) (simM (L := L) (n := 0) (.inl rfl))).2 h
  have kp := known_keeps (L := L) (ls := regsV) (s := sM L 1 0)
  have si := sm_ins (L := L) (n := 0) (p1 := 1) rfl
  constructor
  · show withR _ ({ (knownP L regsV (sM L 1 0)).1.ins with a := (knownP L regsV (sM L 1 0)).2 } : Ins) = _
    rw [kp.1, si.1, v1_is hm, v2]; rfl
  · show (knownP L regsV (sM L 1 0)).1.lab = []
    rw [kp.2]; exact si.2
abbrev t2V (L : List Tk) : Rs := (regG regV L (m1V L)).1
abbrev m2V (L : List Tk) : Rs := markR L [44] (t2V L)
theorem sn_ins : (sN L 1 2 n).ins = { zIns with size := n, dst := (knownP L regsV (sAt n)).2, a := (knownP L regsV (sM L 1 n)).2 } ∧ (sN L 1 2 n).lab = [] := by
  have kp := known_keeps (L := L) (ls := regsV) (s := sM L 1 n)
  have si := sm_ins (L := L) (n := n) (p1 := 1) rfl
  refine ⟨(mark_keeps (L := L)).1.trans ?_, (mark_keeps (L := L)).2.trans ?_⟩
  · show ({ (knownP L regsV (sM L 1 n)).1.ins with a := (knownP L regsV (sM L 1 n)).2 } : Ins) = _
    rw [kp.1, si.1]
  · show (knownP L regsV (sM L 1 n)).1.lab = []
    rw [kp.2]; exact si.2
theorem simN : Sim (sN L 1 2 n) (m2V L) := sim_mark (regk_yes (.inr (.inl rfl)) (simM (.inl rfl)))
theorem v2_is (h : (m2V L).e = 0) : (knownP L regsV (sAt n)).2 = (regG regV L tA).2 ∧ (knownP L regsV (sM L 1 n)).2 = (regG regV L (m1V L)).2 := by
  have h2 : (t2V L).e = 0 := mark_stop h
  have h1 : (m1V L).e = 0 := bk (fun h => kn_sk (ls := regsV) h) h2
  exact ⟨v1_is h1, (sim_known (ls := regsV) (simM (L := L) (n := n) (.inl rfl))).2 h2⟩
theorem al_rrr {q : List UInt8} (e : riscvR L tA blank q = ((true, []), (regG regV L (m2V L)).1, Ins.mk 3 (regG regV L tA).2 (regG regV L (m1V L)).2 (regG regV L (m2V L)).2 0 0 0 (-1) 0 k false false false 0 0 0 false)) : AlV L q 0 [(⟨nm, ⟨3, 0, 0, 0, 0, 0, 0, 0, 0, k, false, false, false, 0, 0, 0, false⟩, nilV, [1, 2, 3]⟩ : Rw)] := by
  unfold AlV
  rw [e]
  refine ⟨rfl, form3 (t1 := t1V L) (t2 := t2V L) rfl (reg1_no (.inl rfl)) (reg1_yes (.inl rfl)) (fun h => regk_no (.inr (.inl rfl)) h) (fun h => regk_yes (.inr (.inl rfl)) h) (fun h => kn_sk (ls := regsV) h) (fun h => regk_no (.inr (.inr rfl)) h) (fun h => regk_yes (.inr (.inr rfl)) h) (fun h => kn_sk (ls := regsV) h) (fun h => ?_)⟩
  have hm : (m2V L).e = 0 := bk (fun h => kn_sk (ls := regsV) h) h
  have v3 := (sim_known (ls := regsV) (simN (L := L) (n := 0))).2 h
  have kp := known_keeps (L := L) (ls := regsV) (s := sN L 1 2 0)
  have si := sn_ins (L := L) (n := 0)
  constructor
  · show withR _ ({ (knownP L regsV (sN L 1 2 0)).1.ins with b := (knownP L regsV (sN L 1 2 0)).2 } : Ins) = _
    rw [kp.1, si.1, (v2_is hm).1, (v2_is hm).2, v3]; rfl
  · show (knownP L regsV (sN L 1 2 0)).1.lab = []
    rw [kp.2]; exact si.2
theorem al_rri (hW : WF L) {q : List UInt8} (e : riscvR L tA blank q = ((true, []), (numS L (m2V L)).1, Ins.mk 3 (regG regV L tA).2 (regG regV L (m1V L)).2 (-1) (numS L (m2V L)).2 0 0 (-1) 0 k false false false 0 0 0 false)) : AlV L q 0 [(⟨nm, ⟨3, 0, 0, 0, 0, 0, 0, 0, 0, k, false, false, false, 0, 0, 0, false⟩, nilV, [1, 2, 5]⟩ : Rw)] := by
  unfold AlV
  rw [e]
  refine ⟨rfl, form3 (t1 := t1V L) (t2 := t2V L) rfl (reg1_no (.inl rfl)) (reg1_yes (.inl rfl)) (fun h => regk_no (.inr (.inl rfl)) h) (fun h => regk_yes (.inr (.inl rfl)) h) (fun h => kn_sk (ls := regsV) h) (fun h => immk_no hW h) (fun h => immk_yes hW h) (fun h => num_sk h) (fun h => ?_)⟩
  have hm : (m2V L).e = 0 := bk (fun h => num_sk h) h
  have v3 := (sim_num hW (simN (L := L) (n := 0))).2 h
  have kp := num_keeps (L := L) (s := sN L 1 2 0)
  have si := sn_ins (L := L) (n := 0)
  constructor
  · show withR _ ({ (numP L (sN L 1 2 0)).1.ins with imm := (numP L (sN L 1 2 0)).2 } : Ins) = _
    rw [kp.1, si.1, (v2_is hm).1, (v2_is hm).2, v3]; rfl
  · show (numP L (sN L 1 2 0)).1.lab = []
    rw [kp.2]; exact si.2
end
end Go.Proofs.YtedlaclfhgneeaaGreatDoor.Old
namespace Go.Proofs.YtedlaclfhgneeaaGreatDoor.Old
open Go.RowKit
set_option linter.unusedVariables false
set_option linter.unusedSimpArgs false
set_option linter.unusedSectionVars false
section
variable {L : List Tk} {n k : Int} {nm : List UInt8} {i : Ins}
theorem al_ld (hW : WF L) {q : List UInt8} (e : riscvR L tA blank q = ((true, []), (memG regV L (m1V L) (Ins.mk 4 (regG regV L tA).2 (-1) (-1) 0 0 0 (-1) n 0 false false false 0 0 0 false)).1, (memG regV L (m1V L) (Ins.mk 4 (regG regV L tA).2 (-1) (-1) 0 0 0 (-1) n 0 false false false 0 0 0 false)).2)) : AlV L q n [(⟨nm, ⟨4, 0, 0, 0, 0, 0, 0, 0, 0, 0, false, false, false, 0, 0, 0, false⟩, nilV, [1, 6]⟩ : Rw)] := by
  have si := sm_ins (L := L) (n := n) (p1 := 1) rfl
  have ho : (sM L 1 n).ins.off = 0 := by rw [si.1]; rfl
  unfold AlV
  rw [e]
  refine ⟨rfl, form2 (t1 := t1V L) rfl (reg1_no (.inl rfl)) (reg1_yes (.inl rfl)) (fun h => memk_no hW h) (fun h => memk_yes h ho rfl) (fun h => mem_sk h) (fun h => ?_)⟩
  have hm : (m1V L).e = 0 := bk (fun h => mem_sk h) h
  have vals := (sim_memV (g := rvO) rfl (simM (L := L) (n := n) (.inl rfl)) (i := Ins.mk 4 (regG regV L tA).2 (-1) (-1) 0 0 0 (-1) n 0 false false false 0 0 0 false) ho rfl).2 h
  exact ⟨lk_end (withR _) id (lk_mem (L := L) (g := rvO)).1 lk_memrV vals (fun x y w => by rw [si.1, v1_is hm]; rfl), (lk_mem (L := L) (g := rvO)).2.trans si.2⟩
theorem al_sd (hW : WF L) {q : List UInt8} (e : riscvR L tA blank q = ((true, []), (memG regV L (m1V L) (Ins.mk 5 (-1) (regG regV L tA).2 (-1) 0 0 0 (-1) n 0 false false false 0 0 0 false)).1, (memG regV L (m1V L) (Ins.mk 5 (-1) (regG regV L tA).2 (-1) 0 0 0 (-1) n 0 false false false 0 0 0 false)).2)) : AlV L q n [(⟨nm, ⟨5, 0, 0, 0, 0, 0, 0, 0, 0, 0, false, false, false, 0, 0, 0, false⟩, nilV, [2, 6]⟩ : Rw)] := by
  have si := sm_insA (L := L) (n := n) (p1 := 2) rfl
  have ho : (sM L 2 n).ins.off = 0 := by rw [si.1]; rfl
  unfold AlV
  rw [e]
  refine ⟨rfl, form2 (t1 := t1V L) rfl (reg1_no (.inr rfl)) (reg1_yes (.inr rfl)) (fun h => memk_no hW h) (fun h => memk_yes h ho rfl) (fun h => mem_sk h) (fun h => ?_)⟩
  have hm : (m1V L).e = 0 := bk (fun h => mem_sk h) h
  have vals := (sim_memV (g := rvO) rfl (simM (L := L) (n := n) (.inr rfl)) (i := Ins.mk 5 (-1) (regG regV L tA).2 (-1) 0 0 0 (-1) n 0 false false false 0 0 0 false) ho rfl).2 h
  exact ⟨lk_end (withR _) id (lk_mem (L := L) (g := rvO)).1 lk_memrV vals (fun x y w => by rw [si.1, v1_is hm]; rfl), (lk_mem (L := L) (g := rvO)).2.trans si.2⟩
theorem al_amo (hW : WF L) {ac rl : Bool} {q : List UInt8} (e : riscvR L tA blank q = ((true, []), (memG regV L (m2V L) (Ins.mk 6 (regG regV L tA).2 (regG regV L (m1V L)).2 (-1) 0 0 0 (-1) n k ac false rl 0 0 0 false)).1, (memG regV L (m2V L) (Ins.mk 6 (regG regV L tA).2 (regG regV L (m1V L)).2 (-1) 0 0 0 (-1) n k ac false rl 0 0 0 false)).2)) : AlV L q n [(⟨nm, ⟨6, 0, 0, 0, 0, 0, 0, 0, 0, k, ac, false, rl, 0, 0, 0, false⟩, nilV, [1, 2, 6]⟩ : Rw)] := by
  have si := sn_ins (L := L) (n := n)
  have ho : (sN L 1 2 n).ins.off = 0 := by rw [si.1]; rfl
  unfold AlV
  rw [e]
  refine ⟨rfl, form3 (t1 := t1V L) (t2 := t2V L) rfl (reg1_no (.inl rfl)) (reg1_yes (.inl rfl)) (fun h => regk_no (.inr (.inl rfl)) h) (fun h => regk_yes (.inr (.inl rfl)) h) (fun h => kn_sk (ls := regsV) h) (fun h => memk_no hW h) (fun h => memk_yes h ho rfl) (fun h => mem_sk h) (fun h => ?_)⟩
  have hm : (m2V L).e = 0 := bk (fun h => mem_sk h) h
  have vals := (sim_memV (g := rvO) rfl (simN (L := L) (n := n)) (i := Ins.mk 6 (regG regV L tA).2 (regG regV L (m1V L)).2 (-1) 0 0 0 (-1) n k ac false rl 0 0 0 false) ho rfl).2 h
  exact ⟨lk_end (withR _) id (lk_mem (L := L) (g := rvO)).1 lk_memrV vals (fun x y w => by rw [si.1, (v2_is hm).1, (v2_is hm).2]; rfl), (lk_mem (L := L) (g := rvO)).2.trans si.2⟩
theorem bits_kn (t : Rs) : bitsV L t = ((knR L fensV t).1, (knR L fensV t).2 + 1) := by
  unfold bitsV knR fensV
  by_cases h : (t.e == 0) = true
  · rw [if_pos h, if_pos h]
    cases L[t.p]? with
    | none => rfl
    | some y => simp only; split <;> rfl
  · rw [if_neg h, if_neg h]; rfl
theorem al_fen : AlV L [102, 101, 110, 99, 101] 0 [(⟨[102, 101, 110, 99, 101], ⟨7, 0, 0, 0, 0, 0, 0, 0, 0, 0, false, false, false, 0, 0, 0, false⟩, nilV, [8, 9]⟩ : Rw)] := by
  have e : riscvR L tA blank [102, 101, 110, 99, 101] = ((true, []), (bitsV L (markR L [44] (bitsV L tA).1)).1, Ins.mk 7 (-1) (-1) (-1) 0 0 0 (-1) 0 0 false false false (bitsV L tA).2 (bitsV L (markR L [44] (bitsV L tA).1)).2 0 false) := rfl
  rw [bits_kn tA, bits_kn (markR L [44] (knR L fensV tA).1)] at e
  unfold AlV
  rw [e]
  have hM : Sim (sM L 8 0) (markR L [44] (knR L fensV tA).1) := sim_mark fen1_yes
  refine ⟨rfl, form2 (t1 := (knR L fensV tA).1) rfl fen1_no fen1_yes (fun h hb => no_known h hb) (fun h => sim_set (sim_known (ls := fensV) h).1 rfl rfl rfl) (fun h => kn_sk (ls := fensV) h) (fun h => ?_)⟩
  have hm : (markR L [44] (knR L fensV tA).1).e = 0 := bk (fun h => kn_sk (ls := fensV) h) h
  have v1 := (sim_known (L := L) (ls := fensV) (sim0 0)).2 (mark_stop hm)
  have v2 := (sim_known (ls := fensV) hM).2 h
  have kp := known_keeps (L := L) (ls := fensV) (s := sM L 8 0)
  have si := sm_insF (L := L) (n := 0)
  constructor
  · show withR _ ({ (knownP L fensV (sM L 8 0)).1.ins with succ := (knownP L fensV (sM L 8 0)).2 + 1 } : Ins) = _
    rw [kp.1, si.1, v1, v2]; rfl
  · show (knownP L fensV (sM L 8 0)).1.lab = []
    rw [kp.2]; exact si.2
theorem al_br {q : List UInt8} {z : Bool} (e : riscvR L tA blank q = ((true, (labR L (m1V L)).2), (labR L (m1V L)).1, Ins.mk 9 (-1) (regG regV L tA).2 (-1) 0 0 0 (-1) 0 0 false false false 0 0 0 z)) : AlV L q 0 [(⟨nm, ⟨9, 0, 0, 0, 0, 0, 0, 0, 0, 0, false, false, false, 0, 0, 0, z⟩, nilV, [2, 7]⟩ : Rw)] := by
  unfold AlV
  rw [e]
  refine ⟨rfl, ?_⟩
  have si := sm_insA (L := L) (n := 0) (p1 := 2) rfl
  have hM : Sim (sM L 2 0) (m1V L) := simM (.inr rfl)
  refine one_step (k := 0) (f := 1000) (t' := t1V L) (p := 2) rfl (fun h => reg1_no (.inr rfl) h) (fun h => ?_) ?_
  · have e : m1V L = t1V L := mark_skip (by simpa using h)
    show (labR L (m1V L)).1 = _
    rw [e, lab_skip (by simpa using h)]
  · rw [comma0]
    by_cases ht : (m1V L).e = 0
    · obtain ⟨hs0, hsp⟩ := sim_p hM ht
      rw [one_go (k := 1) (f := 999) (p := 7) rfl, comma1]
      cases hb : beginsB rvO 7 (wordAt L (sM L 2 0).p)
      · rw [if_neg (by decide)]
        have hb' : ((wordAt L (sM L 2 0).p).kind == 1) = false := hb
        have e : labR L (m1V L) = (oddR L false (m1V L), []) := by
          rw [hsp] at hb'
          cases hy : L[(m1V L).p]? with
          | none => exact lab_none (by simpa using ht) (by simpa using hy)
          | some y => rw [word_some hy] at hb'; exact lab_kind (by simpa using ht) hy hb'
        rw [e]
        have h1 : Sim (refP L 22 (sM L 2 0)) (oddR L false (m1V L)) := sim_odd hs0 ht hsp (by
          rcases Nat.lt_or_ge (sM L 2 0).p L.length with hlt | hge
          · right; refine ⟨hlt, ?_⟩
            unfold oc; simp [hlt]
          · exact .inl hge)
        exact ⟨h1, fun e => absurd e ((sim_ne h1).1 ref_ne)⟩
      · rw [if_pos rfl, one_end (k := 1 + 1) (f := 998) (by rfl)]
        show Alike (labP L (sM L 2 0), _) _ _ _
        have hb' : ((wordAt L (sM L 2 0).p).kind == 1) = true := hb
        cases hy : L[(sM L 2 0).p]? with
        | none => rw [word_none (by simpa using hy)] at hb'; exact absurd hb' (by decide)
        | some y =>
          rw [word_some hy] at hb'
          have e : labR L (m1V L) = (⟨(m1V L).e, (m1V L).a, (m1V L).p + 1⟩, y.text) := lab_yes (by simpa using ht) (by rw [← hsp]; exact hy) hb'
          have e2 : labP L (sM L 2 0) = setLab (atP (sM L 2 0) ((sM L 2 0).p + 1)) y.text := by unfold labP; rw [hy]; simp only [hb', if_true]
          rw [e, e2]
          refine ⟨.inl ⟨hs0, ht, by show (sM L 2 0).p + 1 = (m1V L).p + 1; rw [hsp]⟩, fun e' => ⟨?_, rfl⟩⟩
          show withR _ (sM L 2 0).ins = _
          rw [si.1, v1_is ht]; rfl
    · have hs : (sM L 2 0).e ≠ 0 := (sim_ne hM).2 ht
      rw [lab_skip (by simpa using ht)]
      rw [one_go (k := 1) (f := 999) (p := 7) rfl, comma1]
      cases hb : beginsB rvO 7 (wordAt L (sM L 2 0).p)
      · rw [if_neg (by decide), ref_bad hs]; exact ⟨hM, fun e => absurd e ht⟩
      · rw [if_pos rfl, one_end (k := 1 + 1) (f := 998) (by rfl)]
        exact ⟨(part_bad hs).sim hs hM, fun e => absurd e ht⟩
end
end Go.Proofs.YtedlaclfhgneeaaGreatDoor.Old
namespace Go.Proofs.YtedlaclfhgneeaaGreatDoor
set_option linter.unusedVariables false
set_option linter.unusedSimpArgs false
set_option maxRecDepth 100000
set_option maxHeartbeats 1000000
theorem vreg_cases {k : Int} (h0 : 0 ≤ k) (h8 : k < 8) : Nam (nameV k) ∧ regV (nameV k) = k := by
  have : k = 0 ∨ k = 1 ∨ k = 2 ∨ k = 3 ∨ k = 4 ∨ k = 5 ∨ k = 6 ∨ k = 7 := by omega
  rcases this with e | e | e | e | e | e | e | e <;> subst e <;> exact ⟨⟨⟨_, rfl, by decide⟩, by decide⟩, by decide⟩
theorem vrf (x : Int) (h0 : 0 ≤ x) (h8 : x < 8) : regV (nameV x) = x := (vreg_cases h0 h8).2
theorem vnf (x : Int) (h0 : 0 ≤ x) (h8 : x < 8) : Nam (nameV x) := (vreg_cases h0 h8).1
theorem memv_w (i : In) : vmem0 i = memW nameV i.loc i.off i.ix := by
  unfold vmem0 memW
  by_cases h1 : i.off = 0 <;> by_cases h2 : i.ix ≥ 0 <;> simp [h1, h2]
def fenN (k : Int) : List UInt8 := [[], [114], [119], [114, 119]].getD k.toNat []
theorem fen_cases {k : Int} (h : 1 ≤ k ∧ k ≤ 3) : Nam (fenN k) ∧ Old.idxL [[114], [119], [114, 119]] (fenN k) 0 + 1 = k := by
  have : k = 1 ∨ k = 2 ∨ k = 3 := by omega
  rcases this with e | e | e <;> subst e <;> exact ⟨⟨⟨_, rfl, by decide⟩, by decide⟩, by decide⟩
section
variable {ws : List Tk} {p : Nat} {ks : List Ky} {q lb : List UInt8} {d a b n f z : Int} {i j : Old.Ins}
theorem vregr (hd : 0 ≤ d ∧ d < 8) (h : At ws p ((1, nameV d, 0) :: ks)) : regG regV ws ⟨0, 0, p⟩ = (⟨0, 0, p + 1⟩, d) := by
  have := g_reg (rf := regV) (a := 0) h (by rw [vrf d hd.1 hd.2]; exact hd.1)
  rw [vrf d hd.1 hd.2] at this; exact this
theorem v_fen (hd : 1 ≤ d ∧ d ≤ 3) (h : At ws p ((1, fenN d, 0) :: ks)) : bitsV ws ⟨0, 0, p⟩ = (⟨0, 0, p + 1⟩, d) := by
  obtain ⟨y, y1, y2, y3, _, _⟩ := h.hd
  have e := (fen_cases hd).2
  have y2' : (y.kind == 1) = true := by rw [y2]; rfl
  have y3' : y.text = fenN d := y3
  unfold bitsV
  have hn : decide (Old.idxL [[114], [119], [114, 119]] (fenN d) 0 < 0) = false := decide_eq_false (by omega)
  simp only [y1, y2', y3', hn, e]
  rfl
theorem v_1 (hd : 0 ≤ d ∧ d < 8) (h : At ws 0 ((1, q, 0) :: (1, nameV d, 0) :: (3, [44], 0) :: ks)) : regG regV ws Old.tA = (⟨0, 0, 0 + 1 + 1⟩, d) ∧ Old.m1V ws = ⟨0, 0, 0 + 1 + 1 + 1⟩ ∧ At ws (0 + 1 + 1 + 1) ks := by
  have e1 : regG regV ws Old.tA = (⟨0, 0, 0 + 1 + 1⟩, d) := vregr hd h.tl
  refine ⟨e1, ?_, h.tl.tl.tl⟩
  show Old.markR ws [44] (regG regV ws Old.tA).1 = _
  rw [e1]; exact g_mark (a := 0) h.tl.tl
theorem v_2 (hd : 0 ≤ d ∧ d < 8) (ha : 0 ≤ a ∧ a < 8) (h : At ws 0 ((1, q, 0) :: (1, nameV d, 0) :: (3, [44], 0) :: (1, nameV a, 0) :: (3, [44], 0) :: ks)) : regG regV ws Old.tA = (⟨0, 0, 0 + 1 + 1⟩, d) ∧ regG regV ws (Old.m1V ws) = (⟨0, 0, 0 + 1 + 1 + 1 + 1⟩, a) ∧ Old.m2V ws = ⟨0, 0, 0 + 1 + 1 + 1 + 1 + 1⟩ ∧ At ws (0 + 1 + 1 + 1 + 1 + 1) ks := by
  obtain ⟨e1, e2, h3⟩ := v_1 hd h
  have e3 := vregr ha h3
  refine ⟨e1, by rw [e2]; exact e3, ?_, h3.tl.tl⟩
  show Old.markR ws [44] (regG regV ws (Old.m1V ws)).1 = _
  rw [e2, e3]; exact g_mark (a := 0) h3.tl
theorem v_mem {loc off ix : Int} (hl : 0 ≤ loc ∧ loc ≤ 2) (ho : 0 ≤ off ∧ off < 8) (hx : ix = -1 ∨ (0 ≤ ix ∧ ix < 8)) (hi : i.index = -1) (hi2 : i.off = 0) (h : At ws p (memK nameV loc off ix ++ ks)) : memG regV ws ⟨0, 0, p⟩ i = (⟨0, 0, p + (memK nameV loc off ix).length⟩, { i with loc := loc, off := off, index := ix }) ∧ At ws (p + (memK nameV loc off ix).length) ks :=
  g_mem (rf := regV) (a := 0) vrf hl ho hx hi hi2 h
theorem fin_backV {ins : Old.Ins} {P : Nat} (h0 : At ws 0 ((1, q, 0) :: ks)) (hx : riscvR ws ⟨0, 0, 0 + 1⟩ Old.blank q = ((true, lb), ⟨0, 0, P⟩, ins)) (hP : At ws P []) (hr : Old.rightR (Old.asB ins) 0 1 = 0) : parV ws = (ins, lb, 0, 0) := by
  obtain ⟨y, y1, y2, y3, _, _⟩ := h0.hd
  have y2' : (y.kind == 1) = true := by rw [y2]; rfl
  have y3' : y.text = q := y3
  have e : parV ws = Old.finR ws (riscvR ws ⟨0, 0, 0 + 1⟩ Old.blank q) := by unfold parV; simp only [y1, y2', y3', if_true]
  rw [e, hx]
  unfold Old.finR
  have hm : Old.moreR ws ⟨0, 0, P⟩ = ⟨0, 0, P⟩ := by unfold Old.moreR; simp only [hP.no]
  have hl : Old.lastR ws ⟨0, 0, P⟩ ins = ⟨0, 0, P⟩ := by unfold Old.lastR; rw [beq_iff_eq.2 hr]; rfl
  simp only [if_true, hm, hl]
  rfl
theorem v_li (hd : 0 ≤ d ∧ d < 8) (hn : -9223372036854775808 ≤ n ∧ n ≤ 9223372036854775807) (h : At ws 0 ((1, [108, 105], 0) :: (1, nameV d, 0) :: (3, [44], 0) :: (numK n ++ []))) : ∃ P, riscvR ws ⟨0, 0, 0 + 1⟩ Old.blank [108, 105] = ((true, []), ⟨0, 0, P⟩, ⟨1, d, -1, -1, n, 0, 0, -1, 0, 0, false, false, false, 0, 0, 0, false⟩) ∧ At ws P [] := by
  obtain ⟨e1, e2, h3⟩ := v_1 hd h
  have g := g_num (a := 0) hn h3
  refine ⟨_, ?_, g.2⟩
  have e : riscvR ws Old.tA Old.blank [108, 105] = ((true, []), (Old.numS ws (Old.m1V ws)).1, Old.Ins.mk 1 (regG regV ws Old.tA).2 (-1) (-1) (Old.numS ws (Old.m1V ws)).2 0 0 (-1) 0 0 false false false 0 0 0 false) := rfl
  rw [e2, g.1, e1] at e
  exact e
theorem v_mv (hd : 0 ≤ d ∧ d < 8) (ha : 0 ≤ a ∧ a < 8) (h : At ws 0 ((1, [109, 118], 0) :: (1, nameV d, 0) :: (3, [44], 0) :: (1, nameV a, 0) :: [])) : ∃ P, riscvR ws ⟨0, 0, 0 + 1⟩ Old.blank [109, 118] = ((true, []), ⟨0, 0, P⟩, ⟨2, d, a, -1, 0, 0, 0, -1, 0, 0, false, false, false, 0, 0, 0, false⟩) ∧ At ws P [] := by
  obtain ⟨e1, e2, h3⟩ := v_1 hd h
  have g := vregr ha h3
  refine ⟨_, ?_, h3.tl⟩
  have e : riscvR ws Old.tA Old.blank [109, 118] = ((true, []), (regG regV ws (Old.m1V ws)).1, Old.Ins.mk 2 (regG regV ws Old.tA).2 (regG regV ws (Old.m1V ws)).2 (-1) 0 0 0 (-1) 0 0 false false false 0 0 0 false) := rfl
  rw [e2, g, e1] at e
  exact e
theorem five (hf : 1 ≤ f ∧ f ≤ 5) : f = 1 ∨ f = 2 ∨ f = 3 ∨ f = 4 ∨ f = 5 := by omega
theorem valu_cases (hf : 1 ≤ f ∧ f ≤ 5) : Nam (vfnT f) ∧ Nam (vfnT f ++ [105]) := by
  have : f = 1 ∨ f = 2 ∨ f = 3 ∨ f = 4 ∨ f = 5 := by omega
  rcases this with e | e | e | e | e <;> subst e <;> exact ⟨⟨⟨_, rfl, by decide⟩, by decide⟩, ⟨⟨_, rfl, by decide⟩, by decide⟩⟩
theorem alr_is (hf : 1 ≤ f ∧ f ≤ 5) : riscvR ws Old.tA Old.blank (vfnT f) = ((true, []), (regG regV ws (Old.m2V ws)).1, Old.Ins.mk 3 (regG regV ws Old.tA).2 (regG regV ws (Old.m1V ws)).2 (regG regV ws (Old.m2V ws)).2 0 0 0 (-1) 0 f false false false 0 0 0 false) := by
  rcases five hf with e | e | e | e | e <;> subst e <;> kernel_rfl
theorem ali_is (hf : 1 ≤ f ∧ f ≤ 5) : riscvR ws Old.tA Old.blank (vfnT f ++ [105]) = ((true, []), (Old.numS ws (Old.m2V ws)).1, Old.Ins.mk 3 (regG regV ws Old.tA).2 (regG regV ws (Old.m1V ws)).2 (-1) (Old.numS ws (Old.m2V ws)).2 0 0 (-1) 0 f false false false 0 0 0 false) := by
  rcases five hf with e | e | e | e | e <;> subst e <;> kernel_rfl
theorem v_alr (hf : 1 ≤ f ∧ f ≤ 5) (hd : 0 ≤ d ∧ d < 8) (ha : 0 ≤ a ∧ a < 8) (hb : 0 ≤ b ∧ b < 8) (h : At ws 0 ((1, vfnT f, 0) :: (1, nameV d, 0) :: (3, [44], 0) :: (1, nameV a, 0) :: (3, [44], 0) :: (1, nameV b, 0) :: [])) : ∃ P, riscvR ws ⟨0, 0, 0 + 1⟩ Old.blank (vfnT f) = ((true, []), ⟨0, 0, P⟩, ⟨3, d, a, b, 0, 0, 0, -1, 0, f, false, false, false, 0, 0, 0, false⟩) ∧ At ws P [] := by
  obtain ⟨e1, e2, e3, h3⟩ := v_2 hd ha h
  have g := vregr hb h3
  refine ⟨_, ?_, h3.tl⟩
  have e := alr_is (ws := ws) hf
  rw [e3, g, e2, e1] at e
  exact e
theorem v_ali (hf : 1 ≤ f ∧ f ≤ 5) (hd : 0 ≤ d ∧ d < 8) (ha : 0 ≤ a ∧ a < 8) (hn : -9223372036854775808 ≤ n ∧ n ≤ 9223372036854775807) (h : At ws 0 ((1, vfnT f ++ [105], 0) :: (1, nameV d, 0) :: (3, [44], 0) :: (1, nameV a, 0) :: (3, [44], 0) :: (numK n ++ []))) : ∃ P, riscvR ws ⟨0, 0, 0 + 1⟩ Old.blank (vfnT f ++ [105]) = ((true, []), ⟨0, 0, P⟩, ⟨3, d, a, -1, n, 0, 0, -1, 0, f, false, false, false, 0, 0, 0, false⟩) ∧ At ws P [] := by
  obtain ⟨e1, e2, e3, h3⟩ := v_2 hd ha h
  have g := g_num (a := 0) hn h3
  refine ⟨_, ?_, g.2⟩
  have e := ali_is (ws := ws) hf
  rw [e3, g.1, e2, e1] at e
  exact e
theorem vsz_cases (hz : z = 1 ∨ z = 2 ∨ z = 4 ∨ z = 8) : Nam ([108] ++ tlV z) ∧ Nam ([115] ++ tlV z) := by
  rcases hz with e | e | e | e <;> subst e <;> exact ⟨⟨⟨_, rfl, by decide⟩, by decide⟩, ⟨⟨_, rfl, by decide⟩, by decide⟩⟩
theorem ld_is (hz : z = 1 ∨ z = 2 ∨ z = 4 ∨ z = 8) : riscvR ws Old.tA Old.blank ([108] ++ tlV z) = ((true, []), (memG regV ws (Old.m1V ws) (Old.Ins.mk 4 (regG regV ws Old.tA).2 (-1) (-1) 0 0 0 (-1) z 0 false false false 0 0 0 false)).1, (memG regV ws (Old.m1V ws) (Old.Ins.mk 4 (regG regV ws Old.tA).2 (-1) (-1) 0 0 0 (-1) z 0 false false false 0 0 0 false)).2) := by
  rcases hz with e | e | e | e <;> subst e <;> kernel_rfl
theorem sd_is (hz : z = 1 ∨ z = 2 ∨ z = 4 ∨ z = 8) : riscvR ws Old.tA Old.blank ([115] ++ tlV z) = ((true, []), (memG regV ws (Old.m1V ws) (Old.Ins.mk 5 (-1) (regG regV ws Old.tA).2 (-1) 0 0 0 (-1) z 0 false false false 0 0 0 false)).1, (memG regV ws (Old.m1V ws) (Old.Ins.mk 5 (-1) (regG regV ws Old.tA).2 (-1) 0 0 0 (-1) z 0 false false false 0 0 0 false)).2) := by
  rcases hz with e | e | e | e <;> subst e <;> kernel_rfl
theorem v_ld {loc off ix : Int} (hz : z = 1 ∨ z = 2 ∨ z = 4 ∨ z = 8) (hd : 0 ≤ d ∧ d < 8) (hl : 0 ≤ loc ∧ loc ≤ 2) (ho : 0 ≤ off ∧ off < 8) (hx : ix = -1 ∨ (0 ≤ ix ∧ ix < 8)) (h : At ws 0 ((1, [108] ++ tlV z, 0) :: (1, nameV d, 0) :: (3, [44], 0) :: (memK nameV loc off ix ++ []))) : ∃ P, riscvR ws ⟨0, 0, 0 + 1⟩ Old.blank ([108] ++ tlV z) = ((true, []), ⟨0, 0, P⟩, ⟨4, d, -1, -1, 0, loc, off, ix, z, 0, false, false, false, 0, 0, 0, false⟩) ∧ At ws P [] := by
  obtain ⟨e1, e2, h3⟩ := v_1 hd h
  have g := v_mem (i := ⟨4, d, -1, -1, 0, 0, 0, -1, z, 0, false, false, false, 0, 0, 0, false⟩) hl ho hx rfl rfl h3
  refine ⟨_, ?_, g.2⟩
  have e := ld_is (ws := ws) hz
  rw [e2, e1, g.1] at e
  exact e
theorem v_sd {loc off ix : Int} (hz : z = 1 ∨ z = 2 ∨ z = 4 ∨ z = 8) (hd : 0 ≤ d ∧ d < 8) (hl : 0 ≤ loc ∧ loc ≤ 2) (ho : 0 ≤ off ∧ off < 8) (hx : ix = -1 ∨ (0 ≤ ix ∧ ix < 8)) (h : At ws 0 ((1, [115] ++ tlV z, 0) :: (1, nameV d, 0) :: (3, [44], 0) :: (memK nameV loc off ix ++ []))) : ∃ P, riscvR ws ⟨0, 0, 0 + 1⟩ Old.blank ([115] ++ tlV z) = ((true, []), ⟨0, 0, P⟩, ⟨5, -1, d, -1, 0, loc, off, ix, z, 0, false, false, false, 0, 0, 0, false⟩) ∧ At ws P [] := by
  obtain ⟨e1, e2, h3⟩ := v_1 hd h
  have g := v_mem (i := ⟨5, -1, d, -1, 0, 0, 0, -1, z, 0, false, false, false, 0, 0, 0, false⟩) hl ho hx rfl rfl h3
  refine ⟨_, ?_, g.2⟩
  have e := sd_is (ws := ws) hz
  rw [e2, e1, g.1] at e
  exact e
def amoQ (f z : Int) (ac rl : Bool) : List UInt8 := (((if f = 1 then [97, 109, 111, 97, 100, 100, 46] else [97, 109, 111, 115, 119, 97, 112, 46]) ++ tlV z) ++ (if ac = true then [46, 97, 113] else [])) ++ (if rl = true then [46, 114, 108] else [])
theorem amo_cases (hf : f = 6 ∨ f = 1) (hz : z = 1 ∨ z = 2 ∨ z = 4 ∨ z = 8) (ac rl : Bool) : Nam (amoQ f z ac rl) := by
  rcases hf with e | e <;> subst e <;> rcases hz with e | e | e | e <;> subst e <;> cases ac <;> cases rl <;> exact ⟨⟨_, rfl, by decide⟩, by decide⟩
theorem amoq_is (hf : f = 6 ∨ f = 1) (hz : z = 1 ∨ z = 2 ∨ z = 4 ∨ z = 8) (ac rl : Bool) : riscvR ws Old.tA Old.blank (amoQ f z ac rl) = ((true, []), (memG regV ws (Old.m2V ws) (Old.Ins.mk 6 (regG regV ws Old.tA).2 (regG regV ws (Old.m1V ws)).2 (-1) 0 0 0 (-1) z f ac false rl 0 0 0 false)).1, (memG regV ws (Old.m2V ws) (Old.Ins.mk 6 (regG regV ws Old.tA).2 (regG regV ws (Old.m1V ws)).2 (-1) 0 0 0 (-1) z f ac false rl 0 0 0 false)).2) := by
  rcases hf with e | e <;> subst e <;> rcases hz with e | e | e | e <;> subst e <;> cases ac <;> cases rl <;> kernel_rfl
theorem v_amo {loc off ix : Int} {ac rl : Bool} (hf : f = 6 ∨ f = 1) (hz : z = 1 ∨ z = 2 ∨ z = 4 ∨ z = 8) (hd : 0 ≤ d ∧ d < 8) (ha : 0 ≤ a ∧ a < 8) (hl : 0 ≤ loc ∧ loc ≤ 2) (ho : 0 ≤ off ∧ off < 8) (hx : ix = -1 ∨ (0 ≤ ix ∧ ix < 8)) (h : At ws 0 ((1, amoQ f z ac rl, 0) :: (1, nameV d, 0) :: (3, [44], 0) :: (1, nameV a, 0) :: (3, [44], 0) :: (memK nameV loc off ix ++ []))) : ∃ P, riscvR ws ⟨0, 0, 0 + 1⟩ Old.blank (amoQ f z ac rl) = ((true, []), ⟨0, 0, P⟩, ⟨6, d, a, -1, 0, loc, off, ix, z, f, ac, false, rl, 0, 0, 0, false⟩) ∧ At ws P [] := by
  obtain ⟨e1, e2, e3, h3⟩ := v_2 hd ha h
  have g := v_mem (i := ⟨6, d, a, -1, 0, 0, 0, -1, z, f, ac, false, rl, 0, 0, 0, false⟩) hl ho hx rfl rfl h3
  refine ⟨_, ?_, g.2⟩
  have e := amoq_is (ws := ws) hf hz ac rl
  rw [e3, e2, e1, g.1] at e
  exact e
theorem v_fence (hd : 1 ≤ d ∧ d ≤ 3) (ha : 1 ≤ a ∧ a ≤ 3) (h : At ws 0 ((1, [102, 101, 110, 99, 101], 0) :: (1, fenN d, 0) :: (3, [44], 0) :: (1, fenN a, 0) :: [])) : ∃ P, riscvR ws ⟨0, 0, 0 + 1⟩ Old.blank [102, 101, 110, 99, 101] = ((true, []), ⟨0, 0, P⟩, ⟨7, -1, -1, -1, 0, 0, 0, -1, 0, 0, false, false, false, d, a, 0, false⟩) ∧ At ws P [] := by
  have e1 : bitsV ws Old.tA = (⟨0, 0, 0 + 1 + 1⟩, d) := v_fen hd h.tl
  have e2 := g_mark (a := 0) h.tl.tl
  have e3 := v_fen ha h.tl.tl.tl
  refine ⟨_, ?_, h.tl.tl.tl.tl⟩
  have e : riscvR ws Old.tA Old.blank [102, 101, 110, 99, 101] = ((true, []), (bitsV ws (Old.markR ws [44] (bitsV ws Old.tA).1)).1, Old.Ins.mk 7 (-1) (-1) (-1) 0 0 0 (-1) 0 0 false false false (bitsV ws Old.tA).2 (bitsV ws (Old.markR ws [44] (bitsV ws Old.tA).1)).2 0 false) := rfl
  rw [e1, e2, e3] at e
  exact e
theorem vbr_cases (z : Bool) : Nam (vbr0 z) := by cases z <;> exact ⟨⟨_, rfl, by decide⟩, by decide⟩
theorem br_is (z : Bool) : riscvR ws Old.tA Old.blank (vbr0 z) = ((true, (Old.labR ws (Old.m1V ws)).2), (Old.labR ws (Old.m1V ws)).1, Old.Ins.mk 9 (-1) (regG regV ws Old.tA).2 (-1) 0 0 0 (-1) 0 0 false false false 0 0 0 z) := by
  cases z <;> kernel_rfl
theorem v_bran {z : Bool} (hd : 0 ≤ d ∧ d < 8) (h : At ws 0 ((1, vbr0 z, 0) :: (1, nameV d, 0) :: (3, [44], 0) :: (1, lb, 0) :: [])) : ∃ P, riscvR ws ⟨0, 0, 0 + 1⟩ Old.blank (vbr0 z) = ((true, lb), ⟨0, 0, P⟩, ⟨9, -1, d, -1, 0, 0, 0, -1, 0, 0, false, false, false, 0, 0, 0, z⟩) ∧ At ws P [] := by
  obtain ⟨e1, e2, h3⟩ := v_1 hd h
  have g := g_lab (a := 0) h3
  refine ⟨_, ?_, h3.tl⟩
  have e := br_is (ws := ws) z
  rw [e2, e1, g] at e
  exact e
end
theorem right_w {i : Old.Ins} : Old.wrongB i = false ↔ Old.rightR (Old.asB i) 0 1 = 0 := by
  have h := Old.wrong_asb i
  cases hw : Old.wrongB i <;> rw [hw] at h
  · exact ⟨fun _ => by simpa using h, fun _ => rfl⟩
  · exact ⟨fun e => (by cases e), fun e => (by rw [e] at h; exact absurd h (by decide))⟩
theorem pr_oksV {i : Old.Ins} {lb s : List UInt8} (h : Old.prW i lb = (s, 0)) : s = Old.txtW i lb ∧ Old.txtW i lb ≠ [] ∧ Old.rightR (Old.asB i) 0 1 = 0 ∧ (i.op = 9 → Old.isNm lb = true) := by
  unfold Old.prW at h
  cases hw : Old.wrongB i with
  | true => rw [hw, if_pos rfl] at h; cases h
  | false =>
    rw [hw, if_neg (by decide)] at h
    split at h
    · cases h
    · next ht =>
      have ht' : Old.txtW i lb ≠ [] := fun e => ht (by rw [e]; rfl)
      split at h
      · next h9 =>
        split at h
        · next hn => cases h; exact ⟨rfl, ht', right_w.1 hw, fun _ => hn⟩
        · cases h
      · next h9 => cases h; exact ⟨rfl, ht', right_w.1 hw, fun e => absurd (beq_iff_eq.2 e) h9⟩
theorem ok_prV {i : Old.Ins} {lb : List UInt8} (ht : Old.txtW i lb ≠ []) (hr : Old.rightR (Old.asB i) 0 1 = 0) (hn : i.op = 9 → Old.isNm lb = true) : Old.prW i lb = (Old.txtW i lb, 0) := by
  unfold Old.prW
  have ht' : ¬ eqL (Old.txtW i lb) [] = true := fun e => ht (eqL_eq e)
  rw [right_w.2 hr, if_neg (by decide), if_neg ht']
  by_cases h9 : i.op = 9
  · rw [if_pos (beq_iff_eq.2 h9), if_pos (hn h9)]
  · rw [if_neg (fun e => h9 (eq_of_beq e))]
theorem back_kV {i : Old.Ins} {lb : List UInt8} (hr : Old.rightR (Old.asB i) 0 1 = 0) (ht : Old.txtW i lb ≠ []) (hn : i.op = 9 → Nam lb) (hm : -9223372036854775808 ≤ i.imm ∧ i.imm ≤ 9223372036854775807) :
    ∃ q ks, LexK (Old.txtW i lb) ((1, q, 0) :: ks) ∧ ∀ ws, At ws 0 ((1, q, 0) :: ks) → ∃ P, riscvR ws ⟨0, 0, 0 + 1⟩ Old.blank q = ((true, if i.op = 9 then lb else []), ⟨0, 0, P⟩, { i with to := 0 }) ∧ At ws P [] := by
  obtain ⟨hp, hs⟩ := right_of hr
  obtain ⟨op, dst, ra, rb, imm, loc, off, ix, sz, fn, acq, weak, rel, pred, succ, to, zero⟩ := i
  simp only at hm ⊢
  by_cases h1 : op = 1
  · subst h1
    have hA : Old.asB ⟨1, dst, ra, rb, imm, loc, off, ix, sz, fn, acq, weak, rel, pred, succ, to, zero⟩ = ⟨1, dst, ra, rb, imm, loc, off, ix, sz, fn, acq, weak, rel, pred, succ, to, zero⟩ := rfl
    rw [hA] at hp hs
    simp [Old.plainF, Old.opB, Old.rdB, Old.wrB] at hp
    obtain ⟨e2, e3, e5, e6, e7, e8, e9, e10, e11, e12, e13, e14, e15, e16⟩ := hp
    subst e2 e3 e5 e6 e7 e8 e9 e10 e11 e12 e13 e14 e15 e16
    have hd := Old.reg_rng hs
    refine ⟨_, _, ?_, fun ws h => v_li hd hm h⟩
    have := lk_name (w := [108, 105]) ⟨⟨_, rfl, by decide⟩, by decide⟩ (sep_cons (c := 32) (by decide)) (lk_blank (lk_name (vnf dst hd.1 hd.2) (sep_cons (c := 44) (by decide)) (lk_mark (b := 44) (by decide) (lk_num hm sep_nil lk_nil))))
    simpa [Old.txtW, vtxt0, frO] using this
  by_cases h2 : op = 2
  · subst h2
    have hA : Old.asB ⟨2, dst, ra, rb, imm, loc, off, ix, sz, fn, acq, weak, rel, pred, succ, to, zero⟩ = ⟨2, dst, ra, rb, imm, loc, off, ix, sz, fn, acq, weak, rel, pred, succ, to, zero⟩ := rfl
    rw [hA] at hp hs
    simp [Old.plainF, Old.opB, Old.rdB, Old.wrB] at hp
    obtain ⟨e3, e4, e5, e6, e7, e8, e9, e10, e11, e12, e13, e14, e15, e16⟩ := hp
    subst e3 e4 e5 e6 e7 e8 e9 e10 e11 e12 e13 e14 e15 e16
    have hs' : (Old.regB dst && Old.regB ra) = true := hs
    rw [Bool.and_eq_true] at hs'
    have hd := Old.reg_rng hs'.1
    have ha := Old.reg_rng hs'.2
    refine ⟨_, _, ?_, fun ws h => v_mv hd ha h⟩
    have := lk_name (w := [109, 118]) ⟨⟨_, rfl, by decide⟩, by decide⟩ (sep_cons (c := 32) (by decide)) (lk_blank (lk_name (vnf dst hd.1 hd.2) (sep_cons (c := 44) (by decide)) (lk_mark (b := 44) (by decide) (lk_name (vnf ra ha.1 ha.2) sep_nil lk_nil))))
    simpa [Old.txtW, vtxt0, frO] using this
  by_cases h3 : op = 3
  · subst h3
    have hA : Old.asB ⟨3, dst, ra, rb, imm, loc, off, ix, sz, fn, acq, weak, rel, pred, succ, to, zero⟩ = ⟨3, dst, ra, rb, imm, loc, off, ix, sz, fn, acq, weak, rel, pred, succ, to, zero⟩ := rfl
    rw [hA] at hp hs
    simp [Old.plainF, Old.opB, Old.rdB, Old.wrB, Old.immF] at hp
    obtain ⟨e4, e5, e6, e7, e8, e10, e11, e12, e13, e14, e15, e16⟩ := hp
    subst e5 e6 e7 e8 e10 e11 e12 e13 e14 e15 e16
    have hs' : (Old.regB dst && Old.regB ra && Old.ronB rb && decide (fn ≥ 1) && decide (fn ≤ 5)) = true := hs
    simp only [Bool.and_eq_true, decide_eq_true_eq] at hs'
    obtain ⟨⟨⟨⟨s1, s2⟩, s3⟩, s4⟩, s5⟩ := hs'
    have hd := Old.reg_rng s1
    have ha := Old.reg_rng s2
    have hb := Old.ron_rng s3
    rcases hb with hb | hb
    · subst hb
      refine ⟨_, _, ?_, fun ws h => v_ali (f := fn) ⟨s4, s5⟩ hd ha hm h⟩
      have := lk_name (valu_cases (f := fn) ⟨s4, s5⟩).2 (sep_cons (c := 32) (by decide)) (lk_blank (lk_name (vnf dst hd.1 hd.2) (sep_cons (c := 44) (by decide)) (lk_mark (b := 44) (by decide) (lk_name (vnf ra ha.1 ha.2) (sep_cons (c := 44) (by decide)) (lk_mark (b := 44) (by decide) (lk_num hm sep_nil lk_nil))))))
      simpa [Old.txtW, vtxt0, frO, vror0] using this
    · have h0 : ¬ rb < 0 := by omega
      have hi : imm = 0 := e4 (by omega)
      subst hi
      refine ⟨_, _, ?_, fun ws h => v_alr (f := fn) ⟨s4, s5⟩ hd ha hb h⟩
      have := lk_name (valu_cases (f := fn) ⟨s4, s5⟩).1 (sep_cons (c := 32) (by decide)) (lk_blank (lk_name (vnf dst hd.1 hd.2) (sep_cons (c := 44) (by decide)) (lk_mark (b := 44) (by decide) (lk_name (vnf ra ha.1 ha.2) (sep_cons (c := 44) (by decide)) (lk_mark (b := 44) (by decide) (lk_name (vnf rb hb.1 hb.2) sep_nil lk_nil))))))
      simpa [Old.txtW, vtxt0, frO, vror0, h0] using this
  by_cases h9 : op = 9
  · subst h9
    have hA : Old.asB ⟨9, dst, ra, rb, imm, loc, off, ix, sz, fn, acq, weak, rel, pred, succ, to, zero⟩ = ⟨9, dst, ra, rb, imm, loc, off, ix, sz, fn, acq, weak, rel, pred, succ, 1, zero⟩ := rfl
    rw [hA] at hp hs
    simp [Old.plainF, Old.opB, Old.rdB, Old.wrB] at hp
    obtain ⟨e2, e3, e4, e5, e6, e7, e8, e9, e10, e11, e12, e13, e14⟩ := hp
    subst e2 e3 e4 e5 e6 e7 e8 e9 e10 e11 e12 e13 e14
    have ha := Old.reg_rng (show Old.regB ra = true from hs)
    refine ⟨_, _, ?_, fun ws h => by rw [if_pos rfl]; exact v_bran (z := zero) ha h⟩
    have := lk_name (vbr_cases zero) (sep_cons (c := 32) (by decide)) (lk_blank (lk_name (vnf ra ha.1 ha.2) (sep_cons (c := 44) (by decide)) (lk_mark (b := 44) (by decide) (lk_name (hn rfl) sep_nil lk_nil))))
    simpa [Old.txtW, vtxt0, frO] using this
  by_cases h7 : op = 7
  · subst h7
    have hA : Old.asB ⟨7, dst, ra, rb, imm, loc, off, ix, sz, fn, acq, weak, rel, pred, succ, to, zero⟩ = ⟨7, dst, ra, rb, imm, loc, off, ix, sz, fn, acq, weak, rel, pred, succ, to, zero⟩ := rfl
    rw [hA] at hp hs
    simp [Old.plainF, Old.opB, Old.rdB, Old.wrB] at hp
    obtain ⟨e1, e2, e3, e4, e5, e6, e7, e8, e9, e10, e11, e12, e13, e14⟩ := hp
    subst e1 e2 e3 e4 e5 e6 e7 e8 e9 e10 e11 e12 e13 e14
    have hf : (1 ≤ pred ∧ pred ≤ 3) ∧ (1 ≤ succ ∧ succ ≤ 3) := by
      simp [Old.soundB, Old.fenB] at hs
      omega
    refine ⟨_, _, ?_, fun ws h => v_fence hf.1 hf.2 h⟩
    have := lk_name (w := [102, 101, 110, 99, 101]) ⟨⟨_, rfl, by decide⟩, by decide⟩ (sep_cons (c := 32) (by decide)) (lk_blank (lk_name (fen_cases hf.1).1 (sep_cons (c := 44) (by decide)) (lk_mark (b := 44) (by decide) (lk_name (fen_cases hf.2).1 sep_nil lk_nil))))
    simpa [Old.txtW, vtxt0, frO, vfen0, fenN] using this
  by_cases h8 : op = 8
  · subst h8
    exact absurd (by simp [Old.txtW, vtxt0, frO, vfen0]) ht
  by_cases h4 : op = 4
  · subst h4
    have hA : Old.asB ⟨4, dst, ra, rb, imm, loc, off, ix, sz, fn, acq, weak, rel, pred, succ, to, zero⟩ = ⟨4, dst, ra, rb, imm, loc, off, ix, sz, fn, acq, weak, rel, pred, succ, to, zero⟩ := rfl
    rw [hA] at hp hs
    simp [Old.plainF, Old.opB, Old.rdB, Old.wrB] at hp
    obtain ⟨e2, e3, e4, e5, e6, e7, e8, e9, e10⟩ := hp
    subst e2 e3 e4 e5 e6 e7 e8 e9 e10
    have hs' : (Old.regB dst && Old.accB ⟨4, dst, -1, -1, 0, loc, off, ix, sz, 0, acq, weak, false, 0, 0, 0, false⟩ && !(acq && weak)) = true := hs
    simp only [Bool.and_eq_true] at hs'
    have hd := Old.reg_rng hs'.1.1
    obtain ⟨q1, q2, q3⟩ := Old.acc_all hs'.1.2
    have q4 := acc_off hs'.1.2
    have hq : acq = false ∧ weak = false := by
      cases acq <;> cases weak <;> first | exact ⟨rfl, rfl⟩ | exact absurd (by simp [Old.txtW, vtxt0, frO, vacc0]) ht
    obtain ⟨rfl, rfl⟩ := hq
    refine ⟨_, _, ?_, fun ws h => v_ld q3 hd q1 q4 q2 h⟩
    have := lk_name (vsz_cases q3).1 (sep_cons (c := 32) (by decide)) (lk_blank (lk_name (vnf dst hd.1 hd.2) (sep_cons (c := 44) (by decide)) (lk_mark (b := 44) (by decide) (lk_mem vnf q1 q4 q2 lk_nil))))
    simpa [Old.txtW, vtxt0, frO, vacc0, memv_w] using this
  by_cases h5 : op = 5
  · subst h5
    have hA : Old.asB ⟨5, dst, ra, rb, imm, loc, off, ix, sz, fn, acq, weak, rel, pred, succ, to, zero⟩ = ⟨5, dst, ra, rb, imm, loc, off, ix, sz, fn, acq, weak, rel, pred, succ, to, zero⟩ := rfl
    rw [hA] at hp hs
    simp [Old.plainF, Old.opB, Old.rdB, Old.wrB, Old.immF] at hp
    obtain ⟨e1, e3, e4, e5, e6, e7, e8, e9, e10, e11⟩ := hp
    subst e1 e3 e5 e6 e7 e8 e9 e10 e11
    have hs' : (Old.ronB ra && Old.accB ⟨5, -1, ra, -1, imm, loc, off, ix, sz, 0, false, false, rel, 0, 0, 0, false⟩) = true := hs
    simp only [Bool.and_eq_true] at hs'
    have ha := Old.ron_rng hs'.1
    obtain ⟨q1, q2, q3⟩ := Old.acc_all hs'.2
    have q4 := acc_off hs'.2
    rcases ha with ha | ha
    · subst ha
      exact absurd (by simp [Old.txtW, vtxt0, frO, vacc0]) ht
    · have h0 : ¬ ra < 0 := by omega
      have hi : imm = 0 := e4 (by omega)
      subst hi
      have hq : rel = false := by
        cases rel <;> first | rfl | exact absurd (by simp [Old.txtW, vtxt0, frO, vacc0, h0]) ht
      subst hq
      refine ⟨_, _, ?_, fun ws h => v_sd q3 ha q1 q4 q2 h⟩
      have := lk_name (vsz_cases q3).2 (sep_cons (c := 32) (by decide)) (lk_blank (lk_name (vnf ra ha.1 ha.2) (sep_cons (c := 44) (by decide)) (lk_mark (b := 44) (by decide) (lk_mem vnf q1 q4 q2 lk_nil))))
      simpa [Old.txtW, vtxt0, frO, vacc0, memv_w, h0] using this
  by_cases h6 : op = 6
  · subst h6
    have hA : Old.asB ⟨6, dst, ra, rb, imm, loc, off, ix, sz, fn, acq, weak, rel, pred, succ, to, zero⟩ = ⟨6, dst, ra, rb, imm, loc, off, ix, sz, fn, acq, weak, rel, pred, succ, to, zero⟩ := rfl
    rw [hA] at hp hs
    simp [Old.plainF, Old.opB, Old.rdB, Old.wrB] at hp
    obtain ⟨e3, e4, e6, e7, e8, e9, e10⟩ := hp
    subst e3 e4 e6 e7 e8 e9 e10
    have hs' : (Old.regB dst && Old.regB ra && Old.accB ⟨6, dst, ra, -1, 0, loc, off, ix, sz, fn, acq, false, rel, 0, 0, 0, false⟩ && (fn == 6 || fn == 1)) = true := hs
    simp only [Bool.and_eq_true, Bool.or_eq_true, beq_iff_eq] at hs'
    obtain ⟨⟨⟨s1, s2⟩, s3⟩, s4⟩ := hs'
    have hd := Old.reg_rng s1
    have ha := Old.reg_rng s2
    obtain ⟨q1, q2, q3⟩ := Old.acc_all s3
    have q4 := acc_off s3
    refine ⟨_, _, ?_, fun ws h => v_amo (f := fn) (ac := acq) (rl := rel) s4 q3 hd ha q1 q4 q2 h⟩
    have := lk_name (amo_cases s4 q3 acq rel) (sep_cons (c := 32) (by decide)) (lk_blank (lk_name (vnf dst hd.1 hd.2) (sep_cons (c := 44) (by decide)) (lk_mark (b := 44) (by decide) (lk_name (vnf ra ha.1 ha.2) (sep_cons (c := 44) (by decide)) (lk_mark (b := 44) (by decide) (lk_mem vnf q1 q4 q2 lk_nil))))))
    rcases s4 with s4 | s4 <;> subst s4 <;> cases acq <;> cases rel <;> simpa [Old.txtW, vtxt0, frO, vacc0, vrmw0, memv_w, amoQ] using this
  exfalso
  have : Old.soundB (Old.asB ⟨op, dst, ra, rb, imm, loc, off, ix, sz, fn, acq, weak, rel, pred, succ, to, zero⟩) = false := by
    unfold Old.asB Old.soundB
    simp [h1, h2, h3, h4, h5, h6, h7, h8, h9]
  rw [this] at hs; cases hs
theorem back_aV {i : Old.Ins} {lb s : List UInt8} (h : Old.prW i lb = (s, 0)) (hl : s.length ≤ 8192) (hm : -9223372036854775808 ≤ i.imm ∧ i.imm ≤ 9223372036854775807) : ∃ ws, tokensR s = (ws, 0, 0) ∧ parV ws = ({ i with to := 0 }, if i.op = 9 then lb else [], 0, 0) := by
  obtain ⟨rfl, ht, hr, hn⟩ := pr_oksV h
  obtain ⟨q, ks, h1, h2⟩ := back_kV hr ht (fun e => isNm_nam (hn e)) hm
  obtain ⟨ws, w1, w2⟩ := lexK_tokens h1 hl
  have hA : At ws 0 ((1, q, 0) :: ks) := w2
  obtain ⟨P, x1, x2⟩ := h2 ws hA
  refine ⟨ws, w1, fin_backV hA x1 x2 ?_⟩
  by_cases h9 : i.op = 9
  · have : Old.asB { i with to := 0 } = Old.asB i := by unfold Old.asB; simp [h9]
    rw [this]; exact hr
  · have e1 : Old.asB { i with to := 0 } = { i with to := 0 } := by unfold Old.asB; simp [h9]
    have e2 : Old.asB i = i := by unfold Old.asB; simp [h9]
    rw [e2] at hr
    have hto : i.to = 0 := by
      have := congrArg Old.Ins.to (right_of hr).1
      rw [this]; unfold Old.plainF; simp [h9]
    rw [e1]
    have : ({ i with to := 0 } : Old.Ins) = i := by rw [← hto]
    rw [this]; exact hr
end Go.Proofs.YtedlaclfhgneeaaGreatDoor
namespace Go.Proofs.YtedlaclfhgneeaaGreatDoor.Old
open Go.RowKit
set_option linter.unusedVariables false
set_option linter.unusedSimpArgs false
set_option linter.unusedSectionVars false
set_option maxRecDepth 100000
section
variable {L : List Tk}
theorem par_nameV {y : Tk} (hy : L[0]? = some y) (h : (y.kind == 1) = true) : parV L = finR L (riscvR L tA blank y.text) := by unfold parV; rw [hy]; simp [h]
theorem par_alV {q : List UInt8} {n : Int} {r : Rw} {l : List Rw} {y : Tk} (hy : L[0]? = some y) (hk : (y.kind == 1) = true) (hq : y.text = q) (hf : rvO.rows.foldl (nStep rvO q) (zPs, []) = (⟨{ zIns with size := n }, [], 0, 0, 0⟩, r :: l)) (hX : AlV L q n (r :: l)) : parP rvO L = parV L := by
  have hn : namedP rvO L zPs = (sAt n, r :: l) := by
    unfold namedP
    rw [show L[zPs.p]? = some y from hy]
    simp only [hk, if_true, hq, hf]
    unfold noRow
    rw [if_neg (by simp; omega)]; rfl
  have hi : instP rvO L zPs = instL rvO L 1001 0 (r :: l) (sAt n) := by unfold instP; rw [hn]
  obtain ⟨hx1, hS, hE⟩ := hX
  rw [par_nameV hy hk, hq, fin_yes hx1]
  unfold parP
  rw [hi]
  generalize instL rvO L 1001 0 (r :: l) (sAt n) = P at *
  generalize riscvR L tA blank q = X at *
  obtain ⟨hM, hM0, hlab⟩ := sim_more (L := L) hS
  by_cases he : (moreR L X.2.1).e = 0
  · obtain ⟨h0, _⟩ := sim_p hM he
    obtain ⟨hw, hl⟩ := hE (hM0 he)
    rw [if_pos (by simpa using h0), hw, hlab, hl]
    have ha := wrong_asb X.2.2
    cases hb : wrongB X.2.2
    · rw [hb] at ha
      rw [if_neg (by decide), last_ok (by simpa using he) rfl ha, out_ok (by simpa using he)]
    · rw [hb] at ha
      have ef : failR (moreR L X.2.1) 34 (whereR L 0) = ⟨34, whereR L 0, (moreR L X.2.1).p⟩ := by unfold failR; rw [if_pos (by simpa using he)]
      rw [if_pos rfl, last_bad (by simpa using he) rfl ha, ef, out_no rfl]; rfl
  · have h0 : (moreP L P.1).e ≠ 0 := (sim_ne hM).2 he
    rw [if_neg (by simpa using h0), last_e (by simpa using he), out_no (by simpa using he)]
    rcases hM with ⟨h, _⟩ | ⟨_, h2, h3⟩
    · exact absurd h h0
    · rw [h2, h3]; rfl
theorem par_errV {s : Ps} (h : namedP rvO L zPs = (s, [])) (he : s.e ≠ 0) : parP rvO L = (zIns, [], s.e, s.a) := by
  have hi : instP rvO L zPs = (s, []) := by unfold instP; rw [h, inst_nil]
  have hm : moreP L s = s := by unfold moreP; split; exact ref_bad he; rfl
  unfold parP
  rw [hi, hm, if_neg (by simpa using he)]
theorem fold_noneV {q : List UInt8} : ∀ (l : List Rw), (∀ r ∈ l, (sizeP rvO r q).2 = false) → l.foldl (nStep rvO q) (zPs, []) = (zPs, [])
  | [], _ => rfl
  | r :: l, h => by
    rw [List.foldl_cons]
    have : nStep rvO q (zPs, []) r = (zPs, []) := by unfold nStep; rw [if_neg (by rw [h r (List.mem_cons_self ..)]; decide)]
    rw [this]; exact fold_noneV l fun r hr => h r (List.mem_cons_of_mem _ hr)
theorem sz_noV {q h : List UInt8} (hn : ∀ y ∈ tailsV, q ≠ h ++ y) : szV q h = 0 := by
  unfold szV
  split
  · next hp =>
    unfold preB at hp
    rw [Bool.and_eq_true] at hp
    have ht := eq_of_beq hp.2
    rw [idx_no]
    · rfl
    · intro y hy e
      refine hn y hy ?_
      rw [← e]
      conv => lhs; rw [← List.take_append_drop h.length q]
      rw [ht]
  · rfl
def namesV : List (List UInt8) := [[108, 105], [109, 118], [97, 100, 100], [97, 100, 100, 105], [115, 117, 98], [115, 117, 98, 105], [120, 111, 114], [120, 111, 114, 105], [97, 110, 100], [97, 110, 100, 105], [111, 114], [111, 114, 105], [108, 98], [115, 98], [108, 104], [115, 104], [108, 119], [115, 119], [108, 100], [115, 100], [97, 109, 111, 115, 119, 97, 112, 46, 98], [97, 109, 111, 115, 119, 97, 112, 46, 98, 46, 97, 113], [97, 109, 111, 115, 119, 97, 112, 46, 98, 46, 114, 108], [97, 109, 111, 115, 119, 97, 112, 46, 98, 46, 97, 113, 46, 114, 108], [97, 109, 111, 115, 119, 97, 112, 46, 104], [97, 109, 111, 115, 119, 97, 112, 46, 104, 46, 97, 113], [97, 109, 111, 115, 119, 97, 112, 46, 104, 46, 114, 108], [97, 109, 111, 115, 119, 97, 112, 46, 104, 46, 97, 113, 46, 114, 108], [97, 109, 111, 115, 119, 97, 112, 46, 119], [97, 109, 111, 115, 119, 97, 112, 46, 119, 46, 97, 113], [97, 109, 111, 115, 119, 97, 112, 46, 119, 46, 114, 108], [97, 109, 111, 115, 119, 97, 112, 46, 119, 46, 97, 113, 46, 114, 108], [97, 109, 111, 115, 119, 97, 112, 46, 100], [97, 109, 111, 115, 119, 97, 112, 46, 100, 46, 97, 113], [97, 109, 111, 115, 119, 97, 112, 46, 100, 46, 114, 108], [97, 109, 111, 115, 119, 97, 112, 46, 100, 46, 97, 113, 46, 114, 108], [97, 109, 111, 97, 100, 100, 46, 98], [97, 109, 111, 97, 100, 100, 46, 98, 46, 97, 113], [97, 109, 111, 97, 100, 100, 46, 98, 46, 114, 108], [97, 109, 111, 97, 100, 100, 46, 98, 46, 97, 113, 46, 114, 108], [97, 109, 111, 97, 100, 100, 46, 104], [97, 109, 111, 97, 100, 100, 46, 104, 46, 97, 113], [97, 109, 111, 97, 100, 100, 46, 104, 46, 114, 108], [97, 109, 111, 97, 100, 100, 46, 104, 46, 97, 113, 46, 114, 108], [97, 109, 111, 97, 100, 100, 46, 119], [97, 109, 111, 97, 100, 100, 46, 119, 46, 97, 113], [97, 109, 111, 97, 100, 100, 46, 119, 46, 114, 108], [97, 109, 111, 97, 100, 100, 46, 119, 46, 97, 113, 46, 114, 108], [97, 109, 111, 97, 100, 100, 46, 100], [97, 109, 111, 97, 100, 100, 46, 100, 46, 97, 113], [97, 109, 111, 97, 100, 100, 46, 100, 46, 114, 108], [97, 109, 111, 97, 100, 100, 46, 100, 46, 97, 113, 46, 114, 108], [102, 101, 110, 99, 101], [98, 101, 113, 122], [98, 110, 101, 122]]
theorem riscv_no {q : List UInt8} (hN : ∀ z ∈ namesV, q ≠ z) : riscvR L tA blank q = ((false, []), tA, blank) := by
  have e : ∀ z, z ∈ namesV → (q == z) = false := fun z hz => beq_eq_false_iff_ne.2 (hN z hz)
  have hs : ∀ h : List UInt8, (∀ y ∈ tailsV, h ++ y ∈ namesV) → ¬ szV q h > 0 := fun h hh => by
    rw [sz_noV fun y hy => hN _ (hh y hy)]; decide
  have hi : ∀ ls : List (List UInt8), (∀ y ∈ ls, y ∈ namesV) → idxS ls q = -1 := fun ls h => by rw [idxS_L]; exact idx_no ls 0 fun y hy => hN y (h y hy)
  have ha : ¬ (aluV q).1 > 0 := by unfold aluV; rw [hi alusV (by decide), hi alusW (by decide)]; decide
  have hm : ¬ (amoV q).1 > 0 := by unfold amoV; rw [hi amoN (by decide +kernel)]; decide
  unfold riscvR
  rw [if_neg (by rw [e _ (by decide : [108, 105] ∈ namesV), e _ (by decide : [109, 118] ∈ namesV)]; decide), if_neg ha, if_neg (hs _ (by decide)), if_neg (hs _ (by decide)), if_neg hm, if_neg (hN _ (by decide)), if_neg (by rw [e _ (by decide : [98, 101, 113, 122] ∈ namesV), e _ (by decide : [98, 110, 101, 122] ∈ namesV)]; decide)]
theorem rows_names : ∀ m ∈ rvO.rows.map (·.name), (if (Lib.cut m [42]).2.2 = true then (rvO.lets.map fun y => (Lib.cut m [42]).1 ++ y ++ (Lib.cut m [42]).2.1).all fun z => decide (z ∈ namesV) else decide (m ∈ namesV)) = true := by decide +kernel
theorem par_noV {q : List UInt8} {y : Tk} (hy : L[0]? = some y) (hk : (y.kind == 1) = true) (hq : y.text = q) (hN : ∀ z ∈ namesV, q ≠ z) : parP rvO L = parV L := by
  have e : ∀ z, z ∈ namesV → eqL q z = false := fun z hz => eqL_no (hN z hz)
  have hx := riscv_no (L := L) hN
  have hr : ∀ r ∈ rvO.rows, (sizeP rvO r q).2 = false := fun r hr => by
    have h := rows_names r.name (List.mem_map_of_mem hr)
    unfold sizeP
    split
    · next hc =>
      rw [if_pos hc] at h
      rw [if_pos ?_]
      have : idxL (sizedN rvO r) q 0 = -1 := idx_no _ 0 fun y hy => hN y (of_decide_eq_true (List.all_eq_true.1 h y hy))
      rw [this]; rfl
    · next hc =>
      rw [if_neg hc] at h
      exact e _ (of_decide_eq_true h)
  have hn : namedP rvO L zPs = (nextP (refP L 21 zPs), []) := by
    unfold namedP
    rw [show L[zPs.p]? = some y from hy]
    simp only [hk, if_true, hq, fold_noneV _ hr]
    unfold noRow; rfl
  have hlt : 0 < L.length := (List.getElem?_eq_some_iff.1 hy).1
  have hg : refP L 21 zPs = setAt (setE zPs 21) (whereR L 0) := by
    rw [ref_good rfl, if_pos (decide_eq_true (show zPs.p < L.length from hlt))]; rfl
  rw [par_errV hn (by rw [hg]; exact (by decide : (21 : Int) ≠ 0)), par_nameV hy hk, hq, fin_no (by rw [hx]), hg]; rfl
theorem par_badV (h : ∀ y, L[0]? = some y → (y.kind == 1) = false) : parP rvO L = parV L := by
  have hn : namedP rvO L zPs = (refP L 22 zPs, []) := by
    unfold namedP
    cases hy : L[zPs.p]? with
    | none => rfl
    | some y => simp only [h y hy, Bool.false_eq_true, if_false]
  have hb : parV L = badR L := by
    unfold parV
    cases hy : L[0]? with
    | none => rfl
    | some y => simp only [h y hy, Bool.false_eq_true, if_false]
  rw [par_errV hn ref_ne, hb]
  unfold badR oddR
  cases hy : L[0]? with
  | none =>
    have hl : L.length ≤ 0 := by simpa using hy
    rw [ref_good rfl, if_neg (by rw [decide_eq_false (show ¬ zPs.p < L.length from Nat.not_lt.2 hl)]; decide)]; rfl
  | some y =>
    have hlt : 0 < L.length := (List.getElem?_eq_some_iff.1 hy).1
    rw [ref_good rfl, if_pos (decide_eq_true (show zPs.p < L.length from hlt))]
    simp only [h y hy, Bool.and_false, Bool.false_eq_true, if_false]
    show (zIns, ([] : List UInt8), (22 : Int), whereR L 0) = (ins0, [], 22, y.at_)
    rw [where_some hy]; rfl
theorem pa_eqV (hW : WF L) : parP rvO L = parV L := by
  cases hy : L[0]? with
  | none => exact par_badV fun y h => by rw [hy] at h; cases h
  | some y =>
    cases hk : (y.kind == 1)
    · exact par_badV fun z h => by rw [hy] at h; cases h; exact hk
    · by_cases hN : ∀ z ∈ namesV, y.text ≠ z
      · exact par_noV hy hk rfl hN
      · obtain ⟨z, hz, hq⟩ : ∃ z, z ∈ namesV ∧ y.text = z := by
          rcases Classical.em (∃ z, z ∈ namesV ∧ y.text = z) with h | h
          · exact h
          · exact absurd (fun z hz e => h ⟨z, hz, e⟩) hN
        simp only [namesV, List.mem_cons, List.not_mem_nil, or_false] at hz
        rcases hz with rfl | rfl | rfl | rfl | rfl | rfl | rfl | rfl | rfl | rfl | rfl | rfl | rfl | rfl | rfl | rfl | rfl | rfl | rfl | rfl | rfl | rfl | rfl | rfl | rfl | rfl | rfl | rfl | rfl | rfl | rfl | rfl | rfl | rfl | rfl | rfl | rfl | rfl | rfl | rfl | rfl | rfl | rfl | rfl | rfl | rfl | rfl | rfl | rfl | rfl | rfl | rfl | rfl | rfl | rfl
        · exact par_alV (n := 0) (r := (⟨[108, 105], ⟨1, 0, 0, 0, 0, 0, 0, 0, 0, 0, false, false, false, 0, 0, 0, false⟩, nilV, [1, 5]⟩ : Rw)) (l := []) hy hk hq (by kernel_rfl) (al_li hW)
        · exact par_alV (n := 0) (r := (⟨[109, 118], ⟨2, 0, 0, 0, 0, 0, 0, 0, 0, 0, false, false, false, 0, 0, 0, false⟩, nilV, [1, 2]⟩ : Rw)) (l := []) hy hk hq (by kernel_rfl) (al_mv)
        · exact par_alV (n := 0) (r := (⟨[97, 100, 100], ⟨3, 0, 0, 0, 0, 0, 0, 0, 0, 1, false, false, false, 0, 0, 0, false⟩, nilV, [1, 2, 3]⟩ : Rw)) (l := []) hy hk hq (by kernel_rfl) (al_rrr (by kernel_rfl))
        · exact par_alV (n := 0) (r := (⟨[97, 100, 100, 105], ⟨3, 0, 0, 0, 0, 0, 0, 0, 0, 1, false, false, false, 0, 0, 0, false⟩, nilV, [1, 2, 5]⟩ : Rw)) (l := []) hy hk hq (by kernel_rfl) (al_rri hW (by kernel_rfl))
        · exact par_alV (n := 0) (r := (⟨[115, 117, 98], ⟨3, 0, 0, 0, 0, 0, 0, 0, 0, 2, false, false, false, 0, 0, 0, false⟩, nilV, [1, 2, 3]⟩ : Rw)) (l := []) hy hk hq (by kernel_rfl) (al_rrr (by kernel_rfl))
        · exact par_alV (n := 0) (r := (⟨[115, 117, 98, 105], ⟨3, 0, 0, 0, 0, 0, 0, 0, 0, 2, false, false, false, 0, 0, 0, false⟩, nilV, [1, 2, 5]⟩ : Rw)) (l := []) hy hk hq (by kernel_rfl) (al_rri hW (by kernel_rfl))
        · exact par_alV (n := 0) (r := (⟨[120, 111, 114], ⟨3, 0, 0, 0, 0, 0, 0, 0, 0, 3, false, false, false, 0, 0, 0, false⟩, nilV, [1, 2, 3]⟩ : Rw)) (l := []) hy hk hq (by kernel_rfl) (al_rrr (by kernel_rfl))
        · exact par_alV (n := 0) (r := (⟨[120, 111, 114, 105], ⟨3, 0, 0, 0, 0, 0, 0, 0, 0, 3, false, false, false, 0, 0, 0, false⟩, nilV, [1, 2, 5]⟩ : Rw)) (l := []) hy hk hq (by kernel_rfl) (al_rri hW (by kernel_rfl))
        · exact par_alV (n := 0) (r := (⟨[97, 110, 100], ⟨3, 0, 0, 0, 0, 0, 0, 0, 0, 4, false, false, false, 0, 0, 0, false⟩, nilV, [1, 2, 3]⟩ : Rw)) (l := []) hy hk hq (by kernel_rfl) (al_rrr (by kernel_rfl))
        · exact par_alV (n := 0) (r := (⟨[97, 110, 100, 105], ⟨3, 0, 0, 0, 0, 0, 0, 0, 0, 4, false, false, false, 0, 0, 0, false⟩, nilV, [1, 2, 5]⟩ : Rw)) (l := []) hy hk hq (by kernel_rfl) (al_rri hW (by kernel_rfl))
        · exact par_alV (n := 0) (r := (⟨[111, 114], ⟨3, 0, 0, 0, 0, 0, 0, 0, 0, 5, false, false, false, 0, 0, 0, false⟩, nilV, [1, 2, 3]⟩ : Rw)) (l := []) hy hk hq (by kernel_rfl) (al_rrr (by kernel_rfl))
        · exact par_alV (n := 0) (r := (⟨[111, 114, 105], ⟨3, 0, 0, 0, 0, 0, 0, 0, 0, 5, false, false, false, 0, 0, 0, false⟩, nilV, [1, 2, 5]⟩ : Rw)) (l := []) hy hk hq (by kernel_rfl) (al_rri hW (by kernel_rfl))
        · exact par_alV (n := 1) (r := (⟨[108, 42], ⟨4, 0, 0, 0, 0, 0, 0, 0, 0, 0, false, false, false, 0, 0, 0, false⟩, nilV, [1, 6]⟩ : Rw)) (l := []) hy hk hq (by kernel_rfl) (al_ld hW (by kernel_rfl))
        · exact par_alV (n := 1) (r := (⟨[115, 42], ⟨5, 0, 0, 0, 0, 0, 0, 0, 0, 0, false, false, false, 0, 0, 0, false⟩, nilV, [2, 6]⟩ : Rw)) (l := []) hy hk hq (by kernel_rfl) (al_sd hW (by kernel_rfl))
        · exact par_alV (n := 2) (r := (⟨[108, 42], ⟨4, 0, 0, 0, 0, 0, 0, 0, 0, 0, false, false, false, 0, 0, 0, false⟩, nilV, [1, 6]⟩ : Rw)) (l := []) hy hk hq (by kernel_rfl) (al_ld hW (by kernel_rfl))
        · exact par_alV (n := 2) (r := (⟨[115, 42], ⟨5, 0, 0, 0, 0, 0, 0, 0, 0, 0, false, false, false, 0, 0, 0, false⟩, nilV, [2, 6]⟩ : Rw)) (l := []) hy hk hq (by kernel_rfl) (al_sd hW (by kernel_rfl))
        · exact par_alV (n := 4) (r := (⟨[108, 42], ⟨4, 0, 0, 0, 0, 0, 0, 0, 0, 0, false, false, false, 0, 0, 0, false⟩, nilV, [1, 6]⟩ : Rw)) (l := []) hy hk hq (by kernel_rfl) (al_ld hW (by kernel_rfl))
        · exact par_alV (n := 4) (r := (⟨[115, 42], ⟨5, 0, 0, 0, 0, 0, 0, 0, 0, 0, false, false, false, 0, 0, 0, false⟩, nilV, [2, 6]⟩ : Rw)) (l := []) hy hk hq (by kernel_rfl) (al_sd hW (by kernel_rfl))
        · exact par_alV (n := 8) (r := (⟨[108, 42], ⟨4, 0, 0, 0, 0, 0, 0, 0, 0, 0, false, false, false, 0, 0, 0, false⟩, nilV, [1, 6]⟩ : Rw)) (l := []) hy hk hq (by kernel_rfl) (al_ld hW (by kernel_rfl))
        · exact par_alV (n := 8) (r := (⟨[115, 42], ⟨5, 0, 0, 0, 0, 0, 0, 0, 0, 0, false, false, false, 0, 0, 0, false⟩, nilV, [2, 6]⟩ : Rw)) (l := []) hy hk hq (by kernel_rfl) (al_sd hW (by kernel_rfl))
        · exact par_alV (n := 1) (r := (⟨[97, 109, 111, 115, 119, 97, 112, 46, 42], ⟨6, 0, 0, 0, 0, 0, 0, 0, 0, 6, false, false, false, 0, 0, 0, false⟩, nilV, [1, 2, 6]⟩ : Rw)) (l := []) hy hk hq (by kernel_rfl) (al_amo hW (by kernel_rfl))
        · exact par_alV (n := 1) (r := (⟨[97, 109, 111, 115, 119, 97, 112, 46, 42, 46, 97, 113], ⟨6, 0, 0, 0, 0, 0, 0, 0, 0, 6, true, false, false, 0, 0, 0, false⟩, nilV, [1, 2, 6]⟩ : Rw)) (l := []) hy hk hq (by kernel_rfl) (al_amo hW (by kernel_rfl))
        · exact par_alV (n := 1) (r := (⟨[97, 109, 111, 115, 119, 97, 112, 46, 42, 46, 114, 108], ⟨6, 0, 0, 0, 0, 0, 0, 0, 0, 6, false, false, true, 0, 0, 0, false⟩, nilV, [1, 2, 6]⟩ : Rw)) (l := []) hy hk hq (by kernel_rfl) (al_amo hW (by kernel_rfl))
        · exact par_alV (n := 1) (r := (⟨[97, 109, 111, 115, 119, 97, 112, 46, 42, 46, 97, 113, 46, 114, 108], ⟨6, 0, 0, 0, 0, 0, 0, 0, 0, 6, true, false, true, 0, 0, 0, false⟩, nilV, [1, 2, 6]⟩ : Rw)) (l := []) hy hk hq (by kernel_rfl) (al_amo hW (by kernel_rfl))
        · exact par_alV (n := 2) (r := (⟨[97, 109, 111, 115, 119, 97, 112, 46, 42], ⟨6, 0, 0, 0, 0, 0, 0, 0, 0, 6, false, false, false, 0, 0, 0, false⟩, nilV, [1, 2, 6]⟩ : Rw)) (l := []) hy hk hq (by kernel_rfl) (al_amo hW (by kernel_rfl))
        · exact par_alV (n := 2) (r := (⟨[97, 109, 111, 115, 119, 97, 112, 46, 42, 46, 97, 113], ⟨6, 0, 0, 0, 0, 0, 0, 0, 0, 6, true, false, false, 0, 0, 0, false⟩, nilV, [1, 2, 6]⟩ : Rw)) (l := []) hy hk hq (by kernel_rfl) (al_amo hW (by kernel_rfl))
        · exact par_alV (n := 2) (r := (⟨[97, 109, 111, 115, 119, 97, 112, 46, 42, 46, 114, 108], ⟨6, 0, 0, 0, 0, 0, 0, 0, 0, 6, false, false, true, 0, 0, 0, false⟩, nilV, [1, 2, 6]⟩ : Rw)) (l := []) hy hk hq (by kernel_rfl) (al_amo hW (by kernel_rfl))
        · exact par_alV (n := 2) (r := (⟨[97, 109, 111, 115, 119, 97, 112, 46, 42, 46, 97, 113, 46, 114, 108], ⟨6, 0, 0, 0, 0, 0, 0, 0, 0, 6, true, false, true, 0, 0, 0, false⟩, nilV, [1, 2, 6]⟩ : Rw)) (l := []) hy hk hq (by kernel_rfl) (al_amo hW (by kernel_rfl))
        · exact par_alV (n := 4) (r := (⟨[97, 109, 111, 115, 119, 97, 112, 46, 42], ⟨6, 0, 0, 0, 0, 0, 0, 0, 0, 6, false, false, false, 0, 0, 0, false⟩, nilV, [1, 2, 6]⟩ : Rw)) (l := []) hy hk hq (by kernel_rfl) (al_amo hW (by kernel_rfl))
        · exact par_alV (n := 4) (r := (⟨[97, 109, 111, 115, 119, 97, 112, 46, 42, 46, 97, 113], ⟨6, 0, 0, 0, 0, 0, 0, 0, 0, 6, true, false, false, 0, 0, 0, false⟩, nilV, [1, 2, 6]⟩ : Rw)) (l := []) hy hk hq (by kernel_rfl) (al_amo hW (by kernel_rfl))
        · exact par_alV (n := 4) (r := (⟨[97, 109, 111, 115, 119, 97, 112, 46, 42, 46, 114, 108], ⟨6, 0, 0, 0, 0, 0, 0, 0, 0, 6, false, false, true, 0, 0, 0, false⟩, nilV, [1, 2, 6]⟩ : Rw)) (l := []) hy hk hq (by kernel_rfl) (al_amo hW (by kernel_rfl))
        · exact par_alV (n := 4) (r := (⟨[97, 109, 111, 115, 119, 97, 112, 46, 42, 46, 97, 113, 46, 114, 108], ⟨6, 0, 0, 0, 0, 0, 0, 0, 0, 6, true, false, true, 0, 0, 0, false⟩, nilV, [1, 2, 6]⟩ : Rw)) (l := []) hy hk hq (by kernel_rfl) (al_amo hW (by kernel_rfl))
        · exact par_alV (n := 8) (r := (⟨[97, 109, 111, 115, 119, 97, 112, 46, 42], ⟨6, 0, 0, 0, 0, 0, 0, 0, 0, 6, false, false, false, 0, 0, 0, false⟩, nilV, [1, 2, 6]⟩ : Rw)) (l := []) hy hk hq (by kernel_rfl) (al_amo hW (by kernel_rfl))
        · exact par_alV (n := 8) (r := (⟨[97, 109, 111, 115, 119, 97, 112, 46, 42, 46, 97, 113], ⟨6, 0, 0, 0, 0, 0, 0, 0, 0, 6, true, false, false, 0, 0, 0, false⟩, nilV, [1, 2, 6]⟩ : Rw)) (l := []) hy hk hq (by kernel_rfl) (al_amo hW (by kernel_rfl))
        · exact par_alV (n := 8) (r := (⟨[97, 109, 111, 115, 119, 97, 112, 46, 42, 46, 114, 108], ⟨6, 0, 0, 0, 0, 0, 0, 0, 0, 6, false, false, true, 0, 0, 0, false⟩, nilV, [1, 2, 6]⟩ : Rw)) (l := []) hy hk hq (by kernel_rfl) (al_amo hW (by kernel_rfl))
        · exact par_alV (n := 8) (r := (⟨[97, 109, 111, 115, 119, 97, 112, 46, 42, 46, 97, 113, 46, 114, 108], ⟨6, 0, 0, 0, 0, 0, 0, 0, 0, 6, true, false, true, 0, 0, 0, false⟩, nilV, [1, 2, 6]⟩ : Rw)) (l := []) hy hk hq (by kernel_rfl) (al_amo hW (by kernel_rfl))
        · exact par_alV (n := 1) (r := (⟨[97, 109, 111, 97, 100, 100, 46, 42], ⟨6, 0, 0, 0, 0, 0, 0, 0, 0, 1, false, false, false, 0, 0, 0, false⟩, nilV, [1, 2, 6]⟩ : Rw)) (l := []) hy hk hq (by kernel_rfl) (al_amo hW (by kernel_rfl))
        · exact par_alV (n := 1) (r := (⟨[97, 109, 111, 97, 100, 100, 46, 42, 46, 97, 113], ⟨6, 0, 0, 0, 0, 0, 0, 0, 0, 1, true, false, false, 0, 0, 0, false⟩, nilV, [1, 2, 6]⟩ : Rw)) (l := []) hy hk hq (by kernel_rfl) (al_amo hW (by kernel_rfl))
        · exact par_alV (n := 1) (r := (⟨[97, 109, 111, 97, 100, 100, 46, 42, 46, 114, 108], ⟨6, 0, 0, 0, 0, 0, 0, 0, 0, 1, false, false, true, 0, 0, 0, false⟩, nilV, [1, 2, 6]⟩ : Rw)) (l := []) hy hk hq (by kernel_rfl) (al_amo hW (by kernel_rfl))
        · exact par_alV (n := 1) (r := (⟨[97, 109, 111, 97, 100, 100, 46, 42, 46, 97, 113, 46, 114, 108], ⟨6, 0, 0, 0, 0, 0, 0, 0, 0, 1, true, false, true, 0, 0, 0, false⟩, nilV, [1, 2, 6]⟩ : Rw)) (l := []) hy hk hq (by kernel_rfl) (al_amo hW (by kernel_rfl))
        · exact par_alV (n := 2) (r := (⟨[97, 109, 111, 97, 100, 100, 46, 42], ⟨6, 0, 0, 0, 0, 0, 0, 0, 0, 1, false, false, false, 0, 0, 0, false⟩, nilV, [1, 2, 6]⟩ : Rw)) (l := []) hy hk hq (by kernel_rfl) (al_amo hW (by kernel_rfl))
        · exact par_alV (n := 2) (r := (⟨[97, 109, 111, 97, 100, 100, 46, 42, 46, 97, 113], ⟨6, 0, 0, 0, 0, 0, 0, 0, 0, 1, true, false, false, 0, 0, 0, false⟩, nilV, [1, 2, 6]⟩ : Rw)) (l := []) hy hk hq (by kernel_rfl) (al_amo hW (by kernel_rfl))
        · exact par_alV (n := 2) (r := (⟨[97, 109, 111, 97, 100, 100, 46, 42, 46, 114, 108], ⟨6, 0, 0, 0, 0, 0, 0, 0, 0, 1, false, false, true, 0, 0, 0, false⟩, nilV, [1, 2, 6]⟩ : Rw)) (l := []) hy hk hq (by kernel_rfl) (al_amo hW (by kernel_rfl))
        · exact par_alV (n := 2) (r := (⟨[97, 109, 111, 97, 100, 100, 46, 42, 46, 97, 113, 46, 114, 108], ⟨6, 0, 0, 0, 0, 0, 0, 0, 0, 1, true, false, true, 0, 0, 0, false⟩, nilV, [1, 2, 6]⟩ : Rw)) (l := []) hy hk hq (by kernel_rfl) (al_amo hW (by kernel_rfl))
        · exact par_alV (n := 4) (r := (⟨[97, 109, 111, 97, 100, 100, 46, 42], ⟨6, 0, 0, 0, 0, 0, 0, 0, 0, 1, false, false, false, 0, 0, 0, false⟩, nilV, [1, 2, 6]⟩ : Rw)) (l := []) hy hk hq (by kernel_rfl) (al_amo hW (by kernel_rfl))
        · exact par_alV (n := 4) (r := (⟨[97, 109, 111, 97, 100, 100, 46, 42, 46, 97, 113], ⟨6, 0, 0, 0, 0, 0, 0, 0, 0, 1, true, false, false, 0, 0, 0, false⟩, nilV, [1, 2, 6]⟩ : Rw)) (l := []) hy hk hq (by kernel_rfl) (al_amo hW (by kernel_rfl))
        · exact par_alV (n := 4) (r := (⟨[97, 109, 111, 97, 100, 100, 46, 42, 46, 114, 108], ⟨6, 0, 0, 0, 0, 0, 0, 0, 0, 1, false, false, true, 0, 0, 0, false⟩, nilV, [1, 2, 6]⟩ : Rw)) (l := []) hy hk hq (by kernel_rfl) (al_amo hW (by kernel_rfl))
        · exact par_alV (n := 4) (r := (⟨[97, 109, 111, 97, 100, 100, 46, 42, 46, 97, 113, 46, 114, 108], ⟨6, 0, 0, 0, 0, 0, 0, 0, 0, 1, true, false, true, 0, 0, 0, false⟩, nilV, [1, 2, 6]⟩ : Rw)) (l := []) hy hk hq (by kernel_rfl) (al_amo hW (by kernel_rfl))
        · exact par_alV (n := 8) (r := (⟨[97, 109, 111, 97, 100, 100, 46, 42], ⟨6, 0, 0, 0, 0, 0, 0, 0, 0, 1, false, false, false, 0, 0, 0, false⟩, nilV, [1, 2, 6]⟩ : Rw)) (l := []) hy hk hq (by kernel_rfl) (al_amo hW (by kernel_rfl))
        · exact par_alV (n := 8) (r := (⟨[97, 109, 111, 97, 100, 100, 46, 42, 46, 97, 113], ⟨6, 0, 0, 0, 0, 0, 0, 0, 0, 1, true, false, false, 0, 0, 0, false⟩, nilV, [1, 2, 6]⟩ : Rw)) (l := []) hy hk hq (by kernel_rfl) (al_amo hW (by kernel_rfl))
        · exact par_alV (n := 8) (r := (⟨[97, 109, 111, 97, 100, 100, 46, 42, 46, 114, 108], ⟨6, 0, 0, 0, 0, 0, 0, 0, 0, 1, false, false, true, 0, 0, 0, false⟩, nilV, [1, 2, 6]⟩ : Rw)) (l := []) hy hk hq (by kernel_rfl) (al_amo hW (by kernel_rfl))
        · exact par_alV (n := 8) (r := (⟨[97, 109, 111, 97, 100, 100, 46, 42, 46, 97, 113, 46, 114, 108], ⟨6, 0, 0, 0, 0, 0, 0, 0, 0, 1, true, false, true, 0, 0, 0, false⟩, nilV, [1, 2, 6]⟩ : Rw)) (l := []) hy hk hq (by kernel_rfl) (al_amo hW (by kernel_rfl))
        · exact par_alV (n := 0) (r := (⟨[102, 101, 110, 99, 101], ⟨7, 0, 0, 0, 0, 0, 0, 0, 0, 0, false, false, false, 0, 0, 0, false⟩, nilV, [8, 9]⟩ : Rw)) (l := []) hy hk hq (by kernel_rfl) (al_fen)
        · exact par_alV (n := 0) (r := (⟨[98, 101, 113, 122], ⟨9, 0, 0, 0, 0, 0, 0, 0, 0, 0, false, false, false, 0, 0, 0, true⟩, nilV, [2, 7]⟩ : Rw)) (l := []) hy hk hq (by kernel_rfl) (al_br (by kernel_rfl))
        · exact par_alV (n := 0) (r := (⟨[98, 110, 101, 122], ⟨9, 0, 0, 0, 0, 0, 0, 0, 0, 0, false, false, false, 0, 0, 0, false⟩, nilV, [2, 7]⟩ : Rw)) (l := []) hy hk hq (by kernel_rfl) (al_br (by kernel_rfl))
end
end Go.Proofs.YtedlaclfhgneeaaGreatDoor.Old
namespace Go.Proofs.YtedlaclfhgneeaaGreatDoor
open Go.RowKit
theorem gO_v : gO riscvG riscvC = rvO := by kernel_rfl
theorem parv_ref {ws : List Tk} (hw : WsOK ws) (hf : Old.WF ws) : (toO (parI riscvG ws riscvC), parT riscvG ws riscvC, parE riscvG ws riscvC, parA riscvG ws riscvC) = parV ws := by
  rw [par_o hw (riscv_pa (show riscvC.map tm = riscvT by kernel_rfl)) no10v, gO_v]
  exact Old.pa_eqV hf
end Go.Proofs.YtedlaclfhgneeaaGreatDoor
namespace Go.Proofs.YtedlaclfhgneeaaGreatDoor
set_option linter.unusedVariables false
set_option linter.unusedSimpArgs false
set_option maxRecDepth 100000
theorem toO_inj {x y : In} (h : toO x = toO y) : x = y := by
  have := congrArg frO h
  exact this
theorem bool_no {x y : Bool} (h : x = true → y = false) : (x && y) = false := by cases x; rfl; exact h rfl
section
variable {i : In} {lb text : List UInt8} {ws : List Tk}
end
end Go.Proofs.YtedlaclfhgneeaaGreatDoor
namespace Go.Proofs.YtedlaclfhgneeaaGreatDoor
set_option linter.unusedVariables false
set_option linter.unusedSimpArgs false
set_option maxRecDepth 100000
set_option maxHeartbeats 1000000
section
variable {ws : List Tk} {s : Old.Rs} {i : Old.Ins} {q lb : List UInt8}
theorem memV_shape : ∃ l o x, (memG regV ws s i).2 = { i with loc := l, off := o, index := x } := by
  have hI : ∀ (s : Old.Rs) (i : Old.Ins), ∃ x, (idxG regV ws s i).2 = { i with index := x } := fun s i => ⟨_, rfl⟩
  have hO : ∀ (s : Old.Rs) (i : Old.Ins), ∃ x, (offG regV ws s i).2 = { i with index := x } := fun s i => by
    unfold offG; split
    · exact hI _ _
    · exact ⟨i.index, rfl⟩
  have hE : ∀ (s : Old.Rs) (i : Old.Ins), ∃ o x, (memEG regV ws s i).2 = { i with off := o, index := x } := fun s i => by
    unfold memEG; split
    · split
      · split
        · obtain ⟨x, e⟩ := hO ⟨s.e, s.a, s.p + 1 + 1⟩ { i with off := _ }; exact ⟨_, x, e⟩
        · obtain ⟨x, e⟩ := hI ⟨s.e, s.a, s.p + 1⟩ i; exact ⟨i.off, x, e⟩
      · obtain ⟨x, e⟩ := hI ⟨s.e, s.a, s.p + 1⟩ i; exact ⟨i.off, x, e⟩
    · exact ⟨i.off, i.index, rfl⟩
  unfold memG memIG
  split
  · split
    · split
      · obtain ⟨o, x, e⟩ := hE ⟨(Old.markR ws [91] s).e, (Old.markR ws [91] s).a, (Old.markR ws [91] s).p + 1⟩ { i with loc := _ }
        exact ⟨_, o, x, e⟩
      · exact ⟨i.loc, i.off, i.index, rfl⟩
    · exact ⟨i.loc, i.off, i.index, rfl⟩
  · exact ⟨i.loc, i.off, i.index, rfl⟩
theorem regV_ge (h : (regG regV ws s).1.e = 0) : 0 ≤ (regG regV ws s).2 := by
  unfold regG at h ⊢
  split at h
  · next he =>
    rw [if_pos he]
    split at h
    · next y hy =>
      split at h
      · next hk =>
        simp only [hy, hk, if_true]
        rw [Bool.and_eq_true] at hk
        have := hk.2
        simp only [Bool.not_eq_true', decide_eq_false_iff_not] at this
        omega
      · exact absurd h (odd_ne (eq_of_beq he))
    · exact absurd h (odd_ne (eq_of_beq he))
  · next he => exact absurd (beq_iff_eq.2 h) he
structure ShpV (ws : List Tk) (x : Old.Ins) (l : List UInt8) : Prop where
  to : x.to = 0
  tx : Old.txtW x l ≠ []
  lb : x.op = 9 → ∃ t ∈ ws, t.kind = 1 ∧ t.text = l
  no : x.op ≠ 9 → l = []
  im : -9223372036854775808 ≤ x.imm ∧ x.imm ≤ 9223372036854775807
theorem branV_shp {z : Bool} (h : (branG regV ws s Old.blank z).2.1.e = 0) : ShpV ws (branG regV ws s Old.blank z).2.2 (branG regV ws s Old.blank z).1 := by
  refine ⟨rfl, ?_, fun _ => lab_tok h, fun e => absurd rfl e, ⟨show (-9223372036854775808 : Int) ≤ 0 by decide, show (0 : Int) ≤ 9223372036854775807 by decide⟩⟩
  simp [branG, Old.txtW, vtxt0, frO]
theorem rmw_ne (i : In) (ds az ts ms : List UInt8) : vrmw0 i ds az ts ms ≠ [] := by
  unfold vrmw0
  (repeat' split) <;> simp
theorem riscv_shape (hW : ∀ t ∈ ws, TkW t) (h1 : (riscvR ws s Old.blank q).1.1 = true) (h2 : (riscvR ws s Old.blank q).2.1.e = 0) : ShpV ws (riscvR ws s Old.blank q).2.2 (riscvR ws s Old.blank q).1.2 := by
  have z : (-9223372036854775808 : Int) ≤ 0 ∧ (0 : Int) ≤ 9223372036854775807 := ⟨by decide, by decide⟩
  unfold riscvR at h1 h2 ⊢
  split at h1
  · rw [if_pos (by assumption)] at h2 ⊢
    split at h1
    · rw [if_pos (by assumption)]
      exact ⟨rfl, by simp [Old.txtW, vtxt0, frO], fun e => absurd (show (1 : Int) = 9 from e) (by decide), fun _ => rfl, num_rng2 hW⟩
    · rw [if_neg (by assumption)]
      exact ⟨rfl, by simp [Old.txtW, vtxt0, frO], fun e => absurd (show (2 : Int) = 9 from e) (by decide), fun _ => rfl, z⟩
  · rw [if_neg (by assumption)] at h2 ⊢
    split at h1
    · rw [if_pos (by assumption)] at h2 ⊢
      split at h1
      · rw [if_pos (by assumption)]
        exact ⟨rfl, by simp [Old.txtW, vtxt0, frO, Old.blank], fun e => absurd (show (3 : Int) = 9 from e) (by decide), fun _ => rfl, num_rng2 hW⟩
      · rw [if_neg (by assumption)]
        refine ⟨rfl, ?_, fun e => absurd (show (3 : Int) = 9 from e) (by decide), fun _ => rfl, z⟩
        simp [Old.txtW, vtxt0, frO]
        split <;> simp
    · rw [if_neg (by assumption)] at h2 ⊢
      split at h1
      · rw [if_pos (by assumption)]
        obtain ⟨l, o, x, e⟩ := memV_shape (ws := ws) (s := Old.markR ws [44] ((regG regV ws s).1)) (i := (Old.Ins.mk 4 ((regG regV ws s).2) Old.blank.a Old.blank.b Old.blank.imm Old.blank.loc Old.blank.off Old.blank.index (szV q [108]) Old.blank.fn Old.blank.acq Old.blank.weak Old.blank.rel Old.blank.pred Old.blank.succ Old.blank.to Old.blank.zero))
        simp only [e]
        exact ⟨rfl, by simp [Old.txtW, vtxt0, frO, vacc0, Old.blank], fun e => absurd (show (4 : Int) = 9 from e) (by decide), fun _ => rfl, z⟩
      · rw [if_neg (by assumption)] at h2 ⊢
        split at h1
        · rw [if_pos (by assumption)] at h2 ⊢
          have g0 : 0 ≤ (regG regV ws s).2 := regV_ge (Old.mark_stop (Old.bk (fun h => Old.mem_sk h) h2))
          obtain ⟨l, o, x, e⟩ := memV_shape (ws := ws) (s := Old.markR ws [44] ((regG regV ws s).1)) (i := (Old.Ins.mk 5 Old.blank.dst ((regG regV ws s).2) Old.blank.b Old.blank.imm Old.blank.loc Old.blank.off Old.blank.index (szV q [115]) Old.blank.fn Old.blank.acq Old.blank.weak Old.blank.rel Old.blank.pred Old.blank.succ Old.blank.to Old.blank.zero))
          simp only [e]
          have g1 : ¬ (regG regV ws s).2 < 0 := by omega
          exact ⟨rfl, by simp [Old.txtW, vtxt0, frO, vacc0, Old.blank, g1], fun e => absurd (show (5 : Int) = 9 from e) (by decide), fun _ => rfl, z⟩
        · rw [if_neg (by assumption)] at h2 ⊢
          split at h1
          · rw [if_pos (by assumption)]
            unfold threeG
            obtain ⟨l, o, x, e⟩ := memV_shape (ws := ws) (s := Old.markR ws [44] (regG regV ws (Old.markR ws [44] (regG regV ws s).1)).1) (i := { (Old.Ins.mk 6 Old.blank.dst Old.blank.a Old.blank.b Old.blank.imm Old.blank.loc Old.blank.off Old.blank.index ((amoV q).2.1) ((amoV q).1) ((amoV q).2.2.1) Old.blank.weak ((amoV q).2.2.2) Old.blank.pred Old.blank.succ Old.blank.to Old.blank.zero) with dst := (regG regV ws s).2, a := (regG regV ws (Old.markR ws [44] (regG regV ws s).1)).2 })
            simp only [e]
            refine ⟨rfl, ?_, fun e => absurd (show (6 : Int) = 9 from e) (by decide), fun _ => rfl, z⟩
            exact rmw_ne _ _ _ _ _
          · rw [if_neg (by assumption)] at h2 ⊢
            split at h1
            · rw [if_pos (by assumption)]
              exact ⟨rfl, by simp [Old.txtW, vtxt0, frO, vfen0], fun e => absurd (show (7 : Int) = 9 from e) (by decide), fun _ => rfl, z⟩
            · rw [if_neg (by assumption)] at h2 ⊢
              split at h1
              · rw [if_pos (by assumption)] at h2 ⊢; exact branV_shp h2
              · cases h1
end
theorem parV_shape {ws : List Tk} {x : Old.Ins} {l : List UInt8} {k : Int} (hW : ∀ t ∈ ws, TkW t) (h : parV ws = (x, l, 0, k)) : ShpV ws x l ∧ Old.rightR (Old.asB x) 0 1 = 0 ∧ k = 0 := by
  cases hb : ((!(decide (0 < ws.length))) || (!((ws.getD 0 tok0).kind == 1))) with
  | true =>
    rw [pv_bad hb] at h
    have := congrArg (fun z => z.2.2.1) h
    exact absurd this (odd_ne rfl)
  | false =>
    rw [pv_go hb] at h
    generalize hX : riscvR ws ⟨0, 0, nxK ws 0⟩ Old.blank (ws.getD 0 tok0).text = X at h
    cases h1 : X.1.1 with
    | false =>
      unfold Old.finR at h
      rw [h1] at h
      have := congrArg (fun z => z.2.2.1) h
      exact absurd (show (21 : Int) = 0 from this) (by decide)
    | true =>
      rw [fin_y h1] at h
      by_cases hl : (Old.lastR ws (Old.moreR ws X.2.1) X.2.2).e = 0
      · rw [out_y hl] at h
        injection h with hx h
        injection h with hlb h
        injection h with _ hk
        by_cases hm : (Old.moreR ws X.2.1).e = 0
        · by_cases hr : Old.rightR (Old.asB X.2.2) 0 1 = 0
          · have he : X.2.1.e = 0 := by
              unfold Old.moreR at hm
              split at hm
              · by_cases h0 : X.2.1.e = 0
                · exact h0
                · rw [fail_n h0] at hm; exact hm
              · exact hm
            rw [← hx, ← hlb]
            refine ⟨?_, hr, hk.symm⟩
            rw [← hX] at h1 he ⊢
            exact riscv_shape hW h1 he
          · unfold Old.lastR at hl
            rw [beq_iff_eq.2 hm, beq_eq_false_iff_ne.2 hr] at hl
            simp only [Bool.not_false, Bool.and_true, if_true] at hl
            rw [fail_y hm] at hl
            exact absurd (show (34 : Int) = 0 from hl) (by decide)
        · rw [last_n hm] at hl; exact absurd hl hm
      · rw [out_n hl] at h
        have := congrArg (fun z => z.2.2.1) h
        exact absurd this hl
theorem vfnT_all (v : Int) : (vfnT v).length ≤ 3 := by
  unfold vfnT
  generalize v.toNat = k
  rcases k with _ | _ | _ | _ | _ | _ | k <;> simp
theorem txtW_len {i : Old.Ins} {lb : List UInt8} (hm : -9223372036854775808 ≤ i.imm ∧ i.imm ≤ 9223372036854775807) (ho : -9223372036854775808 ≤ i.off ∧ i.off ≤ 9223372036854775807) : (Old.txtW i lb).length ≤ 150 + lb.length := by
  have a1 := nameV_le i.dst
  have a2 := nameV_le i.a
  have a3 := itoa_le i.imm hm
  have a4 := vror_le i.b i.imm hm
  have a5 := vror_le i.a i.imm hm
  have a6 : (vmem0 (frO i)).length ≤ 40 := vmem_le (frO i) ho
  have a7 := tlV_le i.size
  have a8 := vfnT_all i.fn
  have a9 : (vbr0 i.zero).length ≤ 4 := by cases i.zero <;> decide
  have b1 := get4_le i.pred.toNat
  have b2 := get4_le i.succ.toNat
  have L : ∀ (c : Prop) [Decidable c] (x y : List UInt8) (n : Nat), x.length ≤ n → y.length ≤ n → (if c then x else y).length ≤ n := fun c _ x y n hx hy => by split; exact hx; exact hy
  unfold Old.txtW vtxt0 vacc0 vrmw0 vfen0
  simp only [frO]
  have e : frO i = ⟨i.op, i.dst, i.a, i.b, i.imm, i.loc, i.off, i.index, i.size, i.fn, i.acq, i.weak, i.rel, i.pred, i.succ, i.to, i.zero⟩ := rfl
  rw [e] at a6
  (repeat' apply L) <;> (try simp only [List.length_append, List.length_cons, List.length_nil]) <;> omega
theorem back_bV {text : List UInt8} {ws : List Tk} {x : Old.Ins} {l : List UInt8} {k : Int} (ht : tokensR text = (ws, 0, 0)) (hl : text.length ≤ 8000) (h : parV ws = (x, l, 0, k)) : ∃ t ws', Old.prW x l = (t, 0) ∧ t.length ≤ 8192 ∧ tokensR t = (ws', 0, 0) ∧ parV ws' = (x, l, 0, 0) ∧ (-9223372036854775808 ≤ x.imm ∧ x.imm ≤ 9223372036854775807) ∧ (-9223372036854775808 ≤ x.off ∧ x.off ≤ 9223372036854775807) ∧ l.length ≤ 8000 := by
  have hW := tkw_tokens ht
  obtain ⟨hs, hr, _⟩ := parV_shape hW h
  have hll : l.length ≤ 8000 := by
    by_cases h9 : x.op = 9
    · obtain ⟨t, t1, _, t3⟩ := hs.lb h9
      have := ws_len ht t t1
      rw [t3] at this; omega
    · rw [hs.no h9]; exact Nat.zero_le _
  have hn : x.op = 9 → Old.isNm l = true := fun h9 => by
    obtain ⟨t, t1, t2, t3⟩ := hs.lb h9
    have := (hW t t1).nm t2
    rw [t3] at this
    exact nam_isNm this (by omega)
  have hp := ok_prV hs.tx hr hn
  have hoff : -9223372036854775808 ≤ x.off ∧ x.off ≤ 9223372036854775807 := by
    have hq := right_of hr
    have ho : (Old.asB x).off = x.off := by unfold Old.asB; split <;> rfl
    by_cases hop : Old.opB (Old.asB x) = true
    · have : Old.accB (Old.asB x) = true := by
        have hs2 := hq.2
        have hop2 : x.op = 4 ∨ x.op = 5 ∨ x.op = 6 := by
          have e : (Old.asB x).op = x.op := by unfold Old.asB; split <;> rfl
          unfold Old.opB Old.rdB Old.wrB at hop
          rw [e] at hop
          simp only [Bool.or_eq_true, beq_iff_eq] at hop
          omega
        have e : (Old.asB x).op = x.op := by unfold Old.asB; split <;> rfl
        exact sound_acc hs2 (by rw [e]; exact hop2)
      have := acc_off this
      rw [ho] at this; omega
    · have := congrArg Old.Ins.off hq.1
      have e0 : (Old.plainF (Old.asB x)).off = 0 := by unfold Old.plainF; exact if_neg hop
      rw [e0, ho] at this
      rw [this]; exact ⟨by decide, by decide⟩
  have hlen := txtW_len (lb := l) hs.im hoff
  obtain ⟨ws', w1, w2⟩ := back_aV hp (by omega) hs.im
  refine ⟨_, ws', hp, by omega, w1, ?_, hs.im, hoff, hll⟩
  rw [w2]
  have e1 : ({ x with to := 0 } : Old.Ins) = x := by rw [← hs.to]
  rw [e1]
  by_cases h9 : x.op = 9
  · rw [if_pos h9]
  · rw [if_neg h9, hs.no h9]
section
variable {i : In} {lb text : List UInt8} {ws : List Tk}
theorem pr_eqsV (h0 : (prP riscvG riscvC i lb).2 = 0) : Old.prW (toO i) lb = ((prP riscvG riscvC i lb).1, 0) := by
  rw [prv_ref] at h0 ⊢
  rw [prV_is] at h0 ⊢
  exact Prod.ext rfl h0
theorem pa_eqsV (ht : tokensR text = (ws, 0, 0)) : (toO (parI riscvG ws riscvC), parT riscvG ws riscvC, parE riscvG ws riscvC, parA riscvG ws riscvC) = parV ws := by
  obtain ⟨_, hw, hf⟩ := ws_tokens ht
  exact parv_ref hw hf
theorem bkAV (hi : InR i) (h0 : (prP riscvG riscvC i lb).2 = 0) (hl : (prP riscvG riscvC i lb).1.length ≤ 8000) (ht : tokensR (prP riscvG riscvC i lb).1 = (ws, 0, 0)) : parE riscvG ws riscvC = 0 ∧ parI riscvG ws riscvC = ({ i with to_ := 0 } : In) ∧ (i.op = 9 → parT riscvG ws riscvC = lb) := by
  obtain ⟨ws', w1, w2⟩ := back_aV (pr_eqsV h0) (by omega) hi.im
  rw [w1] at ht
  have e : ws' = ws := congrArg Prod.fst ht
  subst e
  rw [← pa_eqsV w1] at w2
  injection w2 with q1 q2
  injection q2 with q2 q3
  injection q3 with q3 q4
  refine ⟨q3, toO_inj q1, fun h9 => ?_⟩
  rw [q2]; exact if_pos h9
theorem bkNV {e : Int} {k : Nat} (hi : InR i) (h0 : (prP riscvG riscvC i lb).2 = 0) (hl : (prP riscvG riscvC i lb).1.length ≤ 8000) (ht : tokensR (prP riscvG riscvC i lb).1 = ([], e, k)) (he : e ≠ 0) : False := by
  obtain ⟨ws', w1, w2⟩ := back_aV (pr_eqsV h0) (by omega) hi.im
  rw [w1] at ht
  exact he (congrArg (fun z => z.2.1) ht).symm
theorem bkBV (ht : tokensR text = (ws, 0, 0)) (hl : text.length ≤ 8000) (h0 : parE riscvG ws riscvC = 0) : InR (parI riscvG ws riscvC) ∧ (parT riscvG ws riscvC).length ≤ 8000 ∧ (prP riscvG riscvC (parI riscvG ws riscvC) (parT riscvG ws riscvC)).2 = 0 ∧ ∃ ws', tokensR (prP riscvG riscvC (parI riscvG ws riscvC) (parT riscvG ws riscvC)).1 = (ws', 0, 0) ∧ parE riscvG ws' riscvC = 0 ∧ parI riscvG ws' riscvC = parI riscvG ws riscvC ∧ parT riscvG ws' riscvC = parT riscvG ws riscvC := by
  have hp := pa_eqsV ht
  rw [h0] at hp
  obtain ⟨t, ws', b1, b2, b3, b4, b5, b6, b7⟩ := back_bV ht hl hp.symm
  have hr := (prv_ref (parI riscvG ws riscvC) (parT riscvG ws riscvC)).trans (prV_is _ _)
  rw [b1] at hr
  have hp' := pa_eqsV b3
  rw [b4] at hp'
  injection hp' with q1 q2
  injection q2 with q2 q3
  injection q3 with q3 q4
  refine ⟨⟨b5, b6⟩, b7, by rw [hr], ws', by rw [hr]; exact b3, q3, toO_inj q1, q2⟩
end
end Go.Proofs.YtedlaclfhgneeaaGreatDoor
namespace Go.Proofs.YtedlaclfhgneeaaGreatDoor
open Go.RowKit
set_option linter.unusedVariables false
set_option linter.unusedSimpArgs false
set_option maxRecDepth 100000
set_option maxHeartbeats 2000000
set_option simprocs false
theorem regnm_v (r : Int) : regnm0 [97, 48] [97, 49] [97, 50] [97, 51] [97, 52] [97, 53] [97, 54] [97, 55] r = nameV r := by
  unfold regnm0
  split
  · next h => rw [nameV_o (by revert h; simp only [Bool.or_eq_true, decide_eq_true_eq]; omega)]
  · next h =>
    have : r = 0 ∨ r = 1 ∨ r = 2 ∨ r = 3 ∨ r = 4 ∨ r = 5 ∨ r = 6 ∨ r = 7 := by
      revert h; simp only [Bool.or_eq_true, decide_eq_true_eq]; omega
    rcases this with e | e | e | e | e | e | e | e <;> subst e <;> rfl
theorem vname_ (r : Int)  : Fn Tryz.prog 22 [.int .i64 r] [] (Rt (.str (nameV r)) []) :=
 enterM (n := 6) (by kernel_rfl) Tryz.func22 rfl rfl rfl fun G w a h0 A => N hX 7 A rfl rfl fun A => CALL1 [] rregs_ A rfl rfl rfl rfl rfl rfl rfl fun A => N hX 1 A rfl rfl fun A => CALL1 [] (regnm_ [97, 48] [97, 49] [97, 50] [97, 51] [97, 52] [97, 53] [97, 54] [97, 55] r) A rfl rfl rfl rfl rfl rfl rfl fun A => N hX 4 A rfl rfl fun A => RETN hX A rfl rfl rfl h0 rfl rfl rfl rfl (by rw [← regnm_v] <;> rfl) rfl
theorem vreg_ (q : List UInt8)  : Fn Tryz.prog 23 [.str q] [] (Rt (.int .i64 (regV q)) []) :=
 enterM (n := 6) (by kernel_rfl) Tryz.func23 rfl rfl rfl fun G w a h0 A => N hX 7 A rfl rfl fun A => CALL1 [] rregs_ A rfl rfl rfl rfl rfl rfl rfl fun A => N hX 1 A rfl rfl fun A => CALL1 [] (lreg_ [97, 48] [97, 49] [97, 50] [97, 51] [97, 52] [97, 53] [97, 54] [97, 55] q) A rfl rfl rfl rfl rfl rfl rfl fun A => N hX 4 A rfl rfl fun A => RETN hX A rfl rfl rfl h0 rfl rfl rfl rfl (by unfold regV; rw [← idxS_L] <;> rfl) rfl
def txt6 : List UInt8 := [97, 109, 111, 97, 100, 100, 46, 119, 46, 97, 113, 32, 97, 48, 44, 97, 49, 44, 91, 121, 43, 52, 93]
def ws6 : List Tk := [⟨1, [97, 109, 111, 97, 100, 100, 46, 119, 46, 97, 113], 0, 0⟩, ⟨1, [97, 48], 0, 12⟩, ⟨3, [44], 0, 14⟩, ⟨1, [97, 49], 0, 15⟩, ⟨3, [44], 0, 17⟩, ⟨3, [91], 0, 18⟩, ⟨1, [121], 0, 19⟩, ⟨3, [43], 0, 20⟩, ⟨2, [52], 4, 21⟩, ⟨3, [93], 0, 22⟩]
def ins6 : In := ⟨6, 0, 1, -1, 0, 1, 4, -1, 4, 1, true, false, false, 0, 0, 0, false⟩
theorem tok6 : tokensR txt6 = (ws6, 0, 0) := by rw [tokens_C (by decide)]; kernel_rfl
theorem ws6_ok : WsOK ws6 := by unfold WsOK; decide
theorem par6I : parI riscvG ws6 riscvC = ins6 := by kernel_rfl
theorem par6T : parT riscvG ws6 riscvC = [] := by kernel_rfl
theorem par6E : parE riscvG ws6 riscvC = 0 := by kernel_rfl
theorem pav0E : parE riscvG [] riscvC = 24 := by kernel_rfl
theorem pav0A : parA riscvG [] riscvC = 0 := by kernel_rfl
theorem prt6 : prP riscvG riscvC ins6 [] = (txt6, 0) := by kernel_rfl
theorem reg3v : regV (nameV 3) = 3 := by decide +kernel
theorem ins6R : InR ins6 := ⟨by decide, by decide⟩
theorem able6_  (os : List (Nat × Obj)) (hM : ∀ w ks, Gl os w ks → ∃ m, w.cell? ⟨0, 0, none⟩ = some (.int .i64 m)) (hT : ∀ w ks, Gl os w ks → Lib.TabIs Tryz.prog w "internal/strconv.uint64pow10" .u64 Lib.pow10Tab) (hE : ∀ w ks, Gl os w ks → ∃ ev, w.cell? ⟨1, 0, none⟩ = some ev ∧ (ev = .nilIface ∨ ∃ te pe, ev = .iface te pe)) : FnI (Gl os) Tryz.prog 19 [] [] (Rt (.tt) []) :=
 enterI (n := 66) (by kernel_rfl) Tryz.func19 rfl rfl rfl fun G w a h0 hI A => N hX 7 A rfl rfl fun A => CALLI [] Gl.ok hI (tokens_ok txt6 ws6 os hM hE tok6) A rfl rfl rfl rfl rfl rfl rfl fun A => N hX 12 A rfl rfl fun A => have A := A.freeze 0 rfl; CALLI [0] Gl.ok hI (vparse_ ws6 0 (by decide) ws6_ok os hM) A rfl rfl rfl rfl rfl rfl rfl fun A => N hX 16 A rfl rfl fun A => CALLI [] Gl.ok hI (vprint_ (parI riscvG ws6 riscvC) (parT riscvG ws6 riscvC) os hM hT hE (fun L hL => riscv_prok (by rw [par6I]; exact ins6R) (by rw [par6T]; decide) hL)) A rfl rfl rfl rfl rfl rfl rfl fun A => N hX 9 A rfl rfl fun A => CALLI [] Gl.ok hI (fnI_nil (vparse_ [] 0 (by decide) ws0_ok os hM) (fun k => ⟨_, rfl⟩) (fun _ => rfl)) A rfl rfl rfl rfl rfl rfl rfl fun A => N hX 17 A rfl rfl fun A => forkE 40 A rfl
  (fun h1 A => N hX 4 A rfl rfl fun A => forkE 44 A rfl
   (fun h2 A => N hX 4 A rfl rfl fun A => forkE 48 A rfl
    (fun h3 A => N hX 5 A rfl rfl fun A => forkE 53 A rfl
     (fun h4 A => N hX 4 A rfl rfl fun A => forkE 57 A rfl
      (fun h5 A => N hX 4 A rfl rfl fun A => forkE 61 A rfl
       (fun h6 A => CALL1 [] (vname_ 3) A rfl rfl rfl rfl rfl rfl rfl fun A => CALL1 [] (vreg_ (nameV 3)) A rfl rfl rfl rfl rfl rfl rfl fun A => N hX 6 A rfl rfl fun A => RETN hX A rfl rfl rfl h0 rfl rfl rfl rfl (by rw [reg3v]; rfl) rfl)
       (fun h6 A => N hX 8 A rfl rfl fun A => RETN hX A rfl rfl rfl h0 rfl rfl rfl rfl (absurd pav0A h6) rfl))
      (fun h5 A => N hX 12 A rfl rfl fun A => RETN hX A rfl rfl rfl h0 rfl rfl rfl rfl (absurd pav0E h5) rfl))
     (fun h4 A => N hX 16 A rfl rfl fun A => RETN hX A rfl rfl rfl h0 rfl rfl rfl rfl (absurd (by rw [par6I]; rfl) h4) rfl))
    (fun h3 A => N hX 21 A rfl rfl fun A => RETN hX A rfl rfl rfl h0 rfl rfl rfl rfl (absurd (by rw [par6I, par6T, prt6]; rfl) h3) rfl))
   (fun h2 A => N hX 25 A rfl rfl fun A => RETN hX A rfl rfl rfl h0 rfl rfl rfl rfl (absurd (by rw [par6I, par6T, prt6]) h2) rfl))
  (fun h1 A => N hX 29 A rfl rfl fun A => RETN hX A rfl rfl rfl h0 rfl rfl rfl rfl (absurd par6E h1) rfl)
theorem f_noV {x : Int} (h : ((!((0 : Int) == 0)) || (!(x == 0))) = false) : x = 0 := by
  rw [Bool.or_eq_false_iff] at h
  simpa using h.2
theorem vback0_ (i : In) (lb : List UInt8) (tx : List UInt8) (os : List (Nat × Obj)) (hM : ∀ w ks, Gl os w ks → ∃ m, w.cell? ⟨0, 0, none⟩ = some (.int .i64 m)) (hT : ∀ w ks, Gl os w ks → Lib.TabIs Tryz.prog w "internal/strconv.uint64pow10" .u64 Lib.pow10Tab) (hE : ∀ w ks, Gl os w ks → ∃ ev, w.cell? ⟨1, 0, none⟩ = some ev ∧ (ev = .nilIface ∨ ∃ te pe, ev = .iface te pe)) (hi : InR i) : FnI (Gl os) Tryz.prog 8 [.agg (inQ9 i), .str lb, .str tx] [] (Rt (.tt) []) :=
 enterI (n := 140) (by kernel_rfl) Tryz.func8 rfl rfl rfl fun G w a h0 hI A => N hX 9 A rfl rfl fun A => CALLI [] Gl.ok hI (able6_ os hM hT hE) A rfl rfl rfl rfl rfl rfl rfl fun A => N hX 19 A rfl rfl fun A => fork 41 A rfl
  (fun h1 A => N hX 7 A rfl rfl fun A => RETN hX A rfl rfl rfl h0 rfl rfl rfl rfl rfl rfl)
  (fun h1 A => N hX 7 A rfl rfl fun A => CALLI [] Gl.ok hI (vprint_ i lb os hM hT hE (fun L hL => riscv_prok hi (by have hz := or_n h1; omega) hL)) A rfl rfl rfl rfl rfl rfl rfl fun A => N hX 14 A rfl rfl fun A => forkE 49 A rfl
   (fun h2 A => N hX 4 A rfl rfl fun A => tokSp (l := (prP riscvG riscvC i lb).1)
    (fun ws1 ht1 => CALLI [] Gl.ok hI (tokens_ok ((prP riscvG riscvC i lb).1) ws1 os hM hE ht1) A rfl rfl rfl rfl rfl rfl rfl fun A => N hX 12 A rfl rfl fun A => have A := A.freeze 1 rfl; CALLI [1] Gl.ok hI (vparse_ ws1 0 (by have := (ws_tokens ht1).1; omega) (ws_tokens ht1).2.1 os hM) A rfl rfl rfl rfl rfl rfl rfl fun A => N hX 44 A rfl rfl fun A => fork 85 A rfl
     (fun h3 A => N hX 7 A rfl rfl fun A => RETN hX A rfl rfl rfl h0 rfl rfl rfl rfl (absurd h3 (ne_true_of_eq_false (bool_no fun hl => by have hl2 := of_decide_eq_true hl; have e := bkAV hi h2 (by omega) ht1; rw [e.1, e.2.1]; by_cases h9 : i.op = 9; (rw [e.2.2 h9]; set_option simprocs true in simp); (set_option simprocs true in simp [h9])))) rfl)
     (fun h3 A => N hX 6 A rfl rfl fun A => tokSp (l := tx)
      (fun ws2 ht2 => CALLI [] Gl.ok hI (tokens_ok tx ws2 os hM hE ht2) A rfl rfl rfl rfl rfl rfl rfl fun A => N hX 12 A rfl rfl fun A => have A := A.freeze 3 rfl; CALLI [3] Gl.ok hI (vparse_ ws2 0 (by have := (ws_tokens ht2).1; omega) (ws_tokens ht2).2.1 os hM) A rfl rfl rfl rfl rfl rfl rfl fun A => N hX 21 A rfl rfl fun A => N hX 2 A rfl rfl fun A => fork 104 A rfl
       (fun h4 A => N hX 7 A rfl rfl fun A => RETN hX A rfl rfl rfl h0 rfl rfl rfl rfl rfl rfl)
       (fun h4 A => N hX 7 A rfl rfl fun A => have hB := bkBV ht2 (by have hz := or_n h1; omega) (f_noV h4); CALLI [] Gl.ok hI (vprint_ (parI riscvG ws2 riscvC) (parT riscvG ws2 riscvC) os hM hT hE (fun L hL => riscv_prok hB.1 (by have := hB.2.1; omega) hL)) A rfl rfl rfl rfl rfl rfl rfl fun A => N hX 10 A rfl rfl fun A => tokSp (l := (prP riscvG riscvC (parI riscvG ws2 riscvC) (parT riscvG ws2 riscvC)).1)
        (fun ws3 ht3 => CALLI [] Gl.ok hI (tokens_ok ((prP riscvG riscvC (parI riscvG ws2 riscvC) (parT riscvG ws2 riscvC)).1) ws3 os hM hE ht3) A rfl rfl rfl rfl rfl rfl rfl fun A => N hX 12 A rfl rfl fun A => have A := A.freeze 5 rfl; CALLI [5] Gl.ok hI (vparse_ ws3 0 (by have := (ws_tokens ht3).1; omega) (ws_tokens ht3).2.1 os hM) A rfl rfl rfl rfl rfl rfl rfl fun A => N hX 34 A rfl rfl fun A => RETN hX A rfl rfl rfl h0 rfl rfl rfl rfl (by obtain ⟨_, _, z0, wz, z1, z2, z3, z4⟩ := hB; rw [z1] at ht3; have ez : wz = ws3 := congrArg Prod.fst ht3; rw [ez] at z2 z3 z4; have hb : ((((((prP riscvG riscvC (parI riscvG ws2 riscvC) (parT riscvG ws2 riscvC)).2) == 0) && ((parE riscvG ws3 riscvC) == 0)) && ((((parI riscvG ws3 riscvC).op) == ((parI riscvG ws2 riscvC).op)) && ((((parI riscvG ws3 riscvC).dst) == ((parI riscvG ws2 riscvC).dst)) && ((((parI riscvG ws3 riscvC).ra) == ((parI riscvG ws2 riscvC).ra)) && ((((parI riscvG ws3 riscvC).rb) == ((parI riscvG ws2 riscvC).rb)) && ((((parI riscvG ws3 riscvC).imm) == ((parI riscvG ws2 riscvC).imm)) && ((((parI riscvG ws3 riscvC).loc) == ((parI riscvG ws2 riscvC).loc)) && ((((parI riscvG ws3 riscvC).off) == ((parI riscvG ws2 riscvC).off)) && ((((parI riscvG ws3 riscvC).ix) == ((parI riscvG ws2 riscvC).ix)) && ((((parI riscvG ws3 riscvC).sz) == ((parI riscvG ws2 riscvC).sz)) && ((((parI riscvG ws3 riscvC).fn) == ((parI riscvG ws2 riscvC).fn)) && ((((parI riscvG ws3 riscvC).acq) == ((parI riscvG ws2 riscvC).acq)) && ((((parI riscvG ws3 riscvC).weak) == ((parI riscvG ws2 riscvC).weak)) && ((((parI riscvG ws3 riscvC).rel) == ((parI riscvG ws2 riscvC).rel)) && ((((parI riscvG ws3 riscvC).pred) == ((parI riscvG ws2 riscvC).pred)) && ((((parI riscvG ws3 riscvC).succ) == ((parI riscvG ws2 riscvC).succ)) && ((((parI riscvG ws3 riscvC).to_) == ((parI riscvG ws2 riscvC).to_)) && (((parI riscvG ws3 riscvC).zero) == ((parI riscvG ws2 riscvC).zero))))))))))))))))))) && ((parT riscvG ws3 riscvC) == (parT riscvG ws2 riscvC))) = true := (by rw [z0, z2, z3, z4]; set_option simprocs true in simp); rw [hb]; rfl) rfl)
        (fun e3 k3 he3 ht3 => CALLI [] Gl.ok hI (tokens_no ((prP riscvG riscvC (parI riscvG ws2 riscvC) (parT riscvG ws2 riscvC)).1) e3 k3 os hM hE ht3 he3) A rfl rfl rfl rfl rfl rfl rfl fun A => N hX 12 A rfl rfl fun A => CALLI [] Gl.ok hI (fnI_nil (vparse_ [] 0 (by decide) ws0_ok os hM) (fun k => ⟨_, rfl⟩) (fun _ => rfl)) A rfl rfl rfl rfl rfl rfl rfl fun A => N hX 34 A rfl rfl fun A => RETN hX A rfl rfl rfl h0 rfl rfl rfl rfl (by obtain ⟨_, _, _, wz, z1, _⟩ := hB; rw [z1] at ht3; exact absurd (congrArg (fun z => z.2.1) ht3).symm he3) rfl)))
      (fun e2 k2 he2 ht2 => CALLI [] Gl.ok hI (tokens_no tx e2 k2 os hM hE ht2 he2) A rfl rfl rfl rfl rfl rfl rfl fun A => N hX 12 A rfl rfl fun A => CALLI [] Gl.ok hI (fnI_nil (vparse_ [] 0 (by decide) ws0_ok os hM) (fun k => ⟨_, rfl⟩) (fun _ => rfl)) A rfl rfl rfl rfl rfl rfl rfl fun A => N hX 21 A rfl rfl fun A => have A := sy_sayD A 104 (.tt) rfl (fun _ => congrArg (fun b => some (Value.bool b)) (show ((!(e2 == 0)) || (!((parE riscvG [] riscvC) == 0))) = true by rw [beq_eq_false_iff_ne.2 he2]; rfl)); N hX 9 A rfl rfl fun A => RETN hX A rfl rfl rfl h0 rfl rfl rfl rfl rfl rfl)))
    (fun e1 k1 he1 ht1 => CALLI [] Gl.ok hI (tokens_no ((prP riscvG riscvC i lb).1) e1 k1 os hM hE ht1 he1) A rfl rfl rfl rfl rfl rfl rfl fun A => N hX 12 A rfl rfl fun A => CALLI [] Gl.ok hI (fnI_nil (vparse_ [] 0 (by decide) ws0_ok os hM) (fun k => ⟨_, rfl⟩) (fun _ => rfl)) A rfl rfl rfl rfl rfl rfl rfl fun A => N hX 44 A rfl rfl fun A => fork 85 A rfl
     (fun h5 A => N hX 7 A rfl rfl fun A => RETN hX A rfl rfl rfl h0 rfl rfl rfl rfl (absurd h5 (ne_true_of_eq_false (bool_no fun hl => absurd (bkNV hi h2 (by have hl2 := of_decide_eq_true hl; omega) ht1 he1) id))) rfl)
     (fun h5 A => N hX 6 A rfl rfl fun A => tokSp (l := tx)
      (fun ws4 ht4 => CALLI [] Gl.ok hI (tokens_ok tx ws4 os hM hE ht4) A rfl rfl rfl rfl rfl rfl rfl fun A => N hX 12 A rfl rfl fun A => have A := A.freeze 2 rfl; CALLI [2] Gl.ok hI (vparse_ ws4 0 (by have := (ws_tokens ht4).1; omega) (ws_tokens ht4).2.1 os hM) A rfl rfl rfl rfl rfl rfl rfl fun A => N hX 21 A rfl rfl fun A => N hX 2 A rfl rfl fun A => fork 104 A rfl
       (fun h6 A => N hX 7 A rfl rfl fun A => RETN hX A rfl rfl rfl h0 rfl rfl rfl rfl rfl rfl)
       (fun h6 A => N hX 7 A rfl rfl fun A => have hB := bkBV ht4 (by have hz := or_n h1; omega) (f_noV h6); CALLI [] Gl.ok hI (vprint_ (parI riscvG ws4 riscvC) (parT riscvG ws4 riscvC) os hM hT hE (fun L hL => riscv_prok hB.1 (by have := hB.2.1; omega) hL)) A rfl rfl rfl rfl rfl rfl rfl fun A => N hX 10 A rfl rfl fun A => tokSp (l := (prP riscvG riscvC (parI riscvG ws4 riscvC) (parT riscvG ws4 riscvC)).1)
        (fun ws5 ht5 => CALLI [] Gl.ok hI (tokens_ok ((prP riscvG riscvC (parI riscvG ws4 riscvC) (parT riscvG ws4 riscvC)).1) ws5 os hM hE ht5) A rfl rfl rfl rfl rfl rfl rfl fun A => N hX 12 A rfl rfl fun A => have A := A.freeze 4 rfl; CALLI [4] Gl.ok hI (vparse_ ws5 0 (by have := (ws_tokens ht5).1; omega) (ws_tokens ht5).2.1 os hM) A rfl rfl rfl rfl rfl rfl rfl fun A => N hX 34 A rfl rfl fun A => RETN hX A rfl rfl rfl h0 rfl rfl rfl rfl (by obtain ⟨_, _, z0, wz, z1, z2, z3, z4⟩ := hB; rw [z1] at ht5; have ez : wz = ws5 := congrArg Prod.fst ht5; rw [ez] at z2 z3 z4; have hb : ((((((prP riscvG riscvC (parI riscvG ws4 riscvC) (parT riscvG ws4 riscvC)).2) == 0) && ((parE riscvG ws5 riscvC) == 0)) && ((((parI riscvG ws5 riscvC).op) == ((parI riscvG ws4 riscvC).op)) && ((((parI riscvG ws5 riscvC).dst) == ((parI riscvG ws4 riscvC).dst)) && ((((parI riscvG ws5 riscvC).ra) == ((parI riscvG ws4 riscvC).ra)) && ((((parI riscvG ws5 riscvC).rb) == ((parI riscvG ws4 riscvC).rb)) && ((((parI riscvG ws5 riscvC).imm) == ((parI riscvG ws4 riscvC).imm)) && ((((parI riscvG ws5 riscvC).loc) == ((parI riscvG ws4 riscvC).loc)) && ((((parI riscvG ws5 riscvC).off) == ((parI riscvG ws4 riscvC).off)) && ((((parI riscvG ws5 riscvC).ix) == ((parI riscvG ws4 riscvC).ix)) && ((((parI riscvG ws5 riscvC).sz) == ((parI riscvG ws4 riscvC).sz)) && ((((parI riscvG ws5 riscvC).fn) == ((parI riscvG ws4 riscvC).fn)) && ((((parI riscvG ws5 riscvC).acq) == ((parI riscvG ws4 riscvC).acq)) && ((((parI riscvG ws5 riscvC).weak) == ((parI riscvG ws4 riscvC).weak)) && ((((parI riscvG ws5 riscvC).rel) == ((parI riscvG ws4 riscvC).rel)) && ((((parI riscvG ws5 riscvC).pred) == ((parI riscvG ws4 riscvC).pred)) && ((((parI riscvG ws5 riscvC).succ) == ((parI riscvG ws4 riscvC).succ)) && ((((parI riscvG ws5 riscvC).to_) == ((parI riscvG ws4 riscvC).to_)) && (((parI riscvG ws5 riscvC).zero) == ((parI riscvG ws4 riscvC).zero))))))))))))))))))) && ((parT riscvG ws5 riscvC) == (parT riscvG ws4 riscvC))) = true := (by rw [z0, z2, z3, z4]; set_option simprocs true in simp); rw [hb]; rfl) rfl)
        (fun e5 k5 he5 ht5 => CALLI [] Gl.ok hI (tokens_no ((prP riscvG riscvC (parI riscvG ws4 riscvC) (parT riscvG ws4 riscvC)).1) e5 k5 os hM hE ht5 he5) A rfl rfl rfl rfl rfl rfl rfl fun A => N hX 12 A rfl rfl fun A => CALLI [] Gl.ok hI (fnI_nil (vparse_ [] 0 (by decide) ws0_ok os hM) (fun k => ⟨_, rfl⟩) (fun _ => rfl)) A rfl rfl rfl rfl rfl rfl rfl fun A => N hX 34 A rfl rfl fun A => RETN hX A rfl rfl rfl h0 rfl rfl rfl rfl (by obtain ⟨_, _, _, wz, z1, _⟩ := hB; rw [z1] at ht5; exact absurd (congrArg (fun z => z.2.1) ht5).symm he5) rfl)))
      (fun e4 k4 he4 ht4 => CALLI [] Gl.ok hI (tokens_no tx e4 k4 os hM hE ht4 he4) A rfl rfl rfl rfl rfl rfl rfl fun A => N hX 12 A rfl rfl fun A => CALLI [] Gl.ok hI (fnI_nil (vparse_ [] 0 (by decide) ws0_ok os hM) (fun k => ⟨_, rfl⟩) (fun _ => rfl)) A rfl rfl rfl rfl rfl rfl rfl fun A => N hX 21 A rfl rfl fun A => have A := sy_sayD A 104 (.tt) rfl (fun _ => congrArg (fun b => some (Value.bool b)) (show ((!(e4 == 0)) || (!((parE riscvG [] riscvC) == 0))) = true by rw [beq_eq_false_iff_ne.2 he4]; rfl)); N hX 9 A rfl rfl fun A => RETN hX A rfl rfl rfl h0 rfl rfl rfl rfl rfl rfl))))
   (fun h2 A => N hX 6 A rfl rfl fun A => tokSp (l := tx)
    (fun ws6 ht6 => CALLI [] Gl.ok hI (tokens_ok tx ws6 os hM hE ht6) A rfl rfl rfl rfl rfl rfl rfl fun A => N hX 12 A rfl rfl fun A => have A := A.freeze 1 rfl; CALLI [1] Gl.ok hI (vparse_ ws6 0 (by have := (ws_tokens ht6).1; omega) (ws_tokens ht6).2.1 os hM) A rfl rfl rfl rfl rfl rfl rfl fun A => N hX 21 A rfl rfl fun A => N hX 2 A rfl rfl fun A => fork 104 A rfl
     (fun h7 A => N hX 7 A rfl rfl fun A => RETN hX A rfl rfl rfl h0 rfl rfl rfl rfl rfl rfl)
     (fun h7 A => N hX 7 A rfl rfl fun A => have hB := bkBV ht6 (by have hz := or_n h1; omega) (f_noV h7); CALLI [] Gl.ok hI (vprint_ (parI riscvG ws6 riscvC) (parT riscvG ws6 riscvC) os hM hT hE (fun L hL => riscv_prok hB.1 (by have := hB.2.1; omega) hL)) A rfl rfl rfl rfl rfl rfl rfl fun A => N hX 10 A rfl rfl fun A => tokSp (l := (prP riscvG riscvC (parI riscvG ws6 riscvC) (parT riscvG ws6 riscvC)).1)
      (fun ws7 ht7 => CALLI [] Gl.ok hI (tokens_ok ((prP riscvG riscvC (parI riscvG ws6 riscvC) (parT riscvG ws6 riscvC)).1) ws7 os hM hE ht7) A rfl rfl rfl rfl rfl rfl rfl fun A => N hX 12 A rfl rfl fun A => have A := A.freeze 3 rfl; CALLI [3] Gl.ok hI (vparse_ ws7 0 (by have := (ws_tokens ht7).1; omega) (ws_tokens ht7).2.1 os hM) A rfl rfl rfl rfl rfl rfl rfl fun A => N hX 34 A rfl rfl fun A => RETN hX A rfl rfl rfl h0 rfl rfl rfl rfl (by obtain ⟨_, _, z0, wz, z1, z2, z3, z4⟩ := hB; rw [z1] at ht7; have ez : wz = ws7 := congrArg Prod.fst ht7; rw [ez] at z2 z3 z4; have hb : ((((((prP riscvG riscvC (parI riscvG ws6 riscvC) (parT riscvG ws6 riscvC)).2) == 0) && ((parE riscvG ws7 riscvC) == 0)) && ((((parI riscvG ws7 riscvC).op) == ((parI riscvG ws6 riscvC).op)) && ((((parI riscvG ws7 riscvC).dst) == ((parI riscvG ws6 riscvC).dst)) && ((((parI riscvG ws7 riscvC).ra) == ((parI riscvG ws6 riscvC).ra)) && ((((parI riscvG ws7 riscvC).rb) == ((parI riscvG ws6 riscvC).rb)) && ((((parI riscvG ws7 riscvC).imm) == ((parI riscvG ws6 riscvC).imm)) && ((((parI riscvG ws7 riscvC).loc) == ((parI riscvG ws6 riscvC).loc)) && ((((parI riscvG ws7 riscvC).off) == ((parI riscvG ws6 riscvC).off)) && ((((parI riscvG ws7 riscvC).ix) == ((parI riscvG ws6 riscvC).ix)) && ((((parI riscvG ws7 riscvC).sz) == ((parI riscvG ws6 riscvC).sz)) && ((((parI riscvG ws7 riscvC).fn) == ((parI riscvG ws6 riscvC).fn)) && ((((parI riscvG ws7 riscvC).acq) == ((parI riscvG ws6 riscvC).acq)) && ((((parI riscvG ws7 riscvC).weak) == ((parI riscvG ws6 riscvC).weak)) && ((((parI riscvG ws7 riscvC).rel) == ((parI riscvG ws6 riscvC).rel)) && ((((parI riscvG ws7 riscvC).pred) == ((parI riscvG ws6 riscvC).pred)) && ((((parI riscvG ws7 riscvC).succ) == ((parI riscvG ws6 riscvC).succ)) && ((((parI riscvG ws7 riscvC).to_) == ((parI riscvG ws6 riscvC).to_)) && (((parI riscvG ws7 riscvC).zero) == ((parI riscvG ws6 riscvC).zero))))))))))))))))))) && ((parT riscvG ws7 riscvC) == (parT riscvG ws6 riscvC))) = true := (by rw [z0, z2, z3, z4]; set_option simprocs true in simp); rw [hb]; rfl) rfl)
      (fun e7 k7 he7 ht7 => CALLI [] Gl.ok hI (tokens_no ((prP riscvG riscvC (parI riscvG ws6 riscvC) (parT riscvG ws6 riscvC)).1) e7 k7 os hM hE ht7 he7) A rfl rfl rfl rfl rfl rfl rfl fun A => N hX 12 A rfl rfl fun A => CALLI [] Gl.ok hI (fnI_nil (vparse_ [] 0 (by decide) ws0_ok os hM) (fun k => ⟨_, rfl⟩) (fun _ => rfl)) A rfl rfl rfl rfl rfl rfl rfl fun A => N hX 34 A rfl rfl fun A => RETN hX A rfl rfl rfl h0 rfl rfl rfl rfl (by obtain ⟨_, _, _, wz, z1, _⟩ := hB; rw [z1] at ht7; exact absurd (congrArg (fun z => z.2.1) ht7).symm he7) rfl)))
    (fun e6 k6 he6 ht6 => CALLI [] Gl.ok hI (tokens_no tx e6 k6 os hM hE ht6 he6) A rfl rfl rfl rfl rfl rfl rfl fun A => N hX 12 A rfl rfl fun A => CALLI [] Gl.ok hI (fnI_nil (vparse_ [] 0 (by decide) ws0_ok os hM) (fun k => ⟨_, rfl⟩) (fun _ => rfl)) A rfl rfl rfl rfl rfl rfl rfl fun A => N hX 21 A rfl rfl fun A => have A := sy_sayD A 104 (.tt) rfl (fun _ => congrArg (fun b => some (Value.bool b)) (show ((!(e6 == 0)) || (!((parE riscvG [] riscvC) == 0))) = true by rw [beq_eq_false_iff_ne.2 he6]; rfl)); N hX 9 A rfl rfl fun A => RETN hX A rfl rfl rfl h0 rfl rfl rfl rfl rfl rfl)))
theorem vback_ (i : In) (lb tx : List UInt8) (os : List (Nat × Obj)) (hM : ∀ w ks, Gl os w ks → ∃ m, w.cell? ⟨0, 0, none⟩ = some (.int .i64 m)) (hT : ∀ w ks, Gl os w ks → Lib.TabIs Tryz.prog w "internal/strconv.uint64pow10" .u64 Lib.pow10Tab) (hE : ∀ w ks, Gl os w ks → ∃ ev, w.cell? ⟨1, 0, none⟩ = some ev ∧ (ev = .nilIface ∨ ∃ te pe, ev = .iface te pe)) (hi : InR i) (h1 : lb.length ≤ 140737488355328) (h2 : tx.length ≤ 140737488355328) : FnI (Gl os) Tryz.prog 8 [.agg (inQ9 i), .str lb, .str tx] [] (Rt .tt []) := vback0_ i lb tx os hM hT hE hi
end Go.Proofs.YtedlaclfhgneeaaGreatDoor
namespace Go.Proofs.YtedlaclfhgneeaaGreatDoor
open Go.ChangeShapes Go.WideShapes Go.ChangeAt Go.RowKit
set_option linter.unusedVariables false
set_option linter.unusedSimpArgs false
set_option maxRecDepth 100000
def insC (i : In) : Array Value := #[.int .i64 i.op, .int .i64 i.dst, .int .i64 i.ra, .int .i64 i.rb, .int .i64 i.imm, .int .i64 i.loc, .int .i64 i.off, .int .i64 i.ix, .int .i64 i.sz, .int .i64 i.fn, .bool i.acq, .bool i.weak, .bool i.rel, .int .i64 i.pred, .int .i64 i.succ, .int .i64 i.to_, .bool i.zero]
def insT (k : Nat) : Nat := if k == 10 || k == 11 || k == 12 || k == 16 then 4 else 3
def insFs (P : Program) : Option (Array Field) := match P.underlying 30 with | some (.struct fs) => some fs | _ => none
def insFB (P : Program) : Bool := match insFs P with | some fs => (List.range 17).all (fun k => match fs[k]? with | some f => f.offset == k && f.type == insT k | none => false) | none => false
theorem insFB_true : insFB Tryz.prog = true := by kernel_rfl
theorem ins_fields : ∃ fs : Array Field, Tryz.prog.underlying 30 = some (.struct fs) ∧ ∀ k, k < 17 → ∃ f, fs[k]? = some f ∧ f.offset = k ∧ f.type = insT k := by
  have h := insFB_true
  unfold insFB at h
  cases hq : insFs Tryz.prog with
  | none => simp [hq] at h
  | some fs =>
    rw [hq] at h
    refine ⟨fs, ?_, fun k hk => ?_⟩
    · unfold insFs at hq
      split at hq
      · rename_i fs' he; rw [he]; cases hq; rfl
      · cases hq
    · have h1 := List.all_eq_true.1 h k (List.mem_range.2 hk)
      cases hf : fs[k]? with
      | none => simp [hf] at h1
      | some f => rw [hf] at h1; simp only [Bool.and_eq_true, beq_iff_eq] at h1; exact ⟨f, rfl, h1.1, h1.2⟩
theorem ins_cells : Tryz.prog.cellsOf 30 = 17 := by kernel_rfl
theorem int_cells : Tryz.prog.cellsOf 3 = 1 := by kernel_rfl
theorem bool_cells : Tryz.prog.cellsOf 4 = 1 := by kernel_rfl
theorem take_one {l : List Value} {k : Nat} {v : Value} (h : (l.drop k).take 1 = [v]) : l[k]? = some v := by
  have := congrArg (fun l => l[0]?) h
  simpa using this
theorem open_ins {H : Type} {enc : TypeId × Value → H} {W : World} {base : Nat} {spare : Nat → Bool} {held : Bool} {base' : Nat} {v : Value} {d : DataW H} {ps : List MemPlace}
    (hv : Value.okWide Tryz.prog W .any base 30 v) (h : DataW.Trod enc Tryz.prog W base' spare held 30 v d ps) : ∃ i : In, v = .agg (insC i) := by
  obtain ⟨fs, hu, hfs⟩ := ins_fields
  obtain ⟨cs, rfl, hsz⟩ := okWide_struct hu hv
  rw [ins_cells] at hsz
  obtain ⟨fuel, hf⟩ := h
  obtain ⟨xs, n, _, _, _, hlen, hx⟩ := DataW.trod_struct hu hf
  have int : ∀ k, k < 17 → insT k = 3 → ∃ m : Int, cs.toList[k]? = some (.int .i64 m) := fun k hk ht => by
    obtain ⟨f, hf1, ho, hty⟩ := hfs k hk
    have h1 := hx k f hf1
    have hl := (Array.getElem?_eq_some_iff.1 hf1).1
    rw [ho, hty, ht, int_cells, List.getElem?_eq_getElem (by omega)] at h1
    obtain ⟨m, h2, _, _⟩ := DataW.trod_int Tryz.underlying3 h1
    exact ⟨m, take_one h2⟩
  have bool : ∀ k, k < 17 → insT k = 4 → ∃ b : Bool, cs.toList[k]? = some (.bool b) := fun k hk ht => by
    obtain ⟨f, hf1, ho, hty⟩ := hfs k hk
    have h1 := hx k f hf1
    have hl := (Array.getElem?_eq_some_iff.1 hf1).1
    rw [ho, hty, ht, bool_cells, List.getElem?_eq_getElem (by omega)] at h1
    obtain ⟨m, h2, _⟩ := DataW.trod_bool Tryz.underlying4 h1
    exact ⟨m, take_one h2⟩
  obtain ⟨c0, h0⟩ := int 0 (by decide) rfl
  obtain ⟨c1, h1⟩ := int 1 (by decide) rfl
  obtain ⟨c2, h2⟩ := int 2 (by decide) rfl
  obtain ⟨c3, h3⟩ := int 3 (by decide) rfl
  obtain ⟨c4, h4⟩ := int 4 (by decide) rfl
  obtain ⟨c5, h5⟩ := int 5 (by decide) rfl
  obtain ⟨c6, h6⟩ := int 6 (by decide) rfl
  obtain ⟨c7, h7⟩ := int 7 (by decide) rfl
  obtain ⟨c8, h8⟩ := int 8 (by decide) rfl
  obtain ⟨c9, h9⟩ := int 9 (by decide) rfl
  obtain ⟨c10, h10⟩ := bool 10 (by decide) rfl
  obtain ⟨c11, h11⟩ := bool 11 (by decide) rfl
  obtain ⟨c12, h12⟩ := bool 12 (by decide) rfl
  obtain ⟨c13, h13⟩ := int 13 (by decide) rfl
  obtain ⟨c14, h14⟩ := int 14 (by decide) rfl
  obtain ⟨c15, h15⟩ := int 15 (by decide) rfl
  obtain ⟨c16, h16⟩ := bool 16 (by decide) rfl
  refine ⟨⟨c0, c1, c2, c3, c4, c5, c6, c7, c8, c9, c10, c11, c12, c13, c14, c15, c16⟩, congrArg Value.agg ?_⟩
  apply Array.ext'
  apply List.ext_getElem?
  intro k
  by_cases hk : k < 17
  · have : k = 0 ∨ k = 1 ∨ k = 2 ∨ k = 3 ∨ k = 4 ∨ k = 5 ∨ k = 6 ∨ k = 7 ∨ k = 8 ∨ k = 9 ∨ k = 10 ∨ k = 11 ∨ k = 12 ∨ k = 13 ∨ k = 14 ∨ k = 15 ∨ k = 16 := by omega
    rcases this with rfl | rfl | rfl | rfl | rfl | rfl | rfl | rfl | rfl | rfl | rfl | rfl | rfl | rfl | rfl | rfl | rfl
    · exact h0
    · exact h1
    · exact h2
    · exact h3
    · exact h4
    · exact h5
    · exact h6
    · exact h7
    · exact h8
    · exact h9
    · exact h10
    · exact h11
    · exact h12
    · exact h13
    · exact h14
    · exact h15
    · exact h16
  · rw [List.getElem?_eq_none (by simp; omega), List.getElem?_eq_none (by simp [insC]; omega)]
theorem wf_rng {n : Int} (h : (Lit.int .i64 n).wf = true) : -9223372036854775808 ≤ n ∧ n ≤ 9223372036854775807 := by
  have h' : (decide ((IntKind.i64).min ≤ n) && decide (n ≤ (IntKind.i64).max)) = true := h
  rw [Bool.and_eq_true, decide_eq_true_eq, decide_eq_true_eq, show (IntKind.i64).min = -9223372036854775808 from rfl, show (IntKind.i64).max = 9223372036854775807 from rfl] at h'
  exact h'
theorem ins_rng {H : Type} {enc : TypeId × Value → H} {W : World} {spare : Nat → Bool} {held : Bool} {base' : Nat} {i : In} {d : DataW H} {ps : List MemPlace}
    (h : DataW.Trod enc Tryz.prog W base' spare held 30 (.agg (insC i)) d ps) : (-9223372036854775808 ≤ i.imm ∧ i.imm ≤ 9223372036854775807) ∧ (-9223372036854775808 ≤ i.off ∧ i.off ≤ 9223372036854775807) := by
  obtain ⟨fs, hu, hfs⟩ := ins_fields
  obtain ⟨fuel, hf⟩ := h
  obtain ⟨xs, n, _, _, _, hlen, hx⟩ := DataW.trod_struct hu hf
  have int : ∀ k, k < 17 → insT k = 3 → ∀ m : Int, (insC i).toList[k]? = some (.int .i64 m) → -9223372036854775808 ≤ m ∧ m ≤ 9223372036854775807 := fun k hk ht m hm => by
    obtain ⟨f, hf1, ho, hty⟩ := hfs k hk
    have h1 := hx k f hf1
    have hl := (Array.getElem?_eq_some_iff.1 hf1).1
    rw [ho, hty, ht, int_cells, List.getElem?_eq_getElem (by omega)] at h1
    obtain ⟨m', h2, _, hw⟩ := DataW.trod_int Tryz.underlying3 h1
    have e := take_one h2
    have e2 : (insC i).toList[k]? = some (.int .i64 m') := e
    rw [hm] at e2
    cases e2
    exact wf_rng hw
  exact ⟨int 4 (by decide) rfl i.imm rfl, int 6 (by decide) rfl i.off rfl⟩
theorem tab_fac {W : World} (h : Lib.TabIs Tryz.prog W "internal/strconv.uint64pow10" .u64 Lib.pow10Tab) : ∃ o, W.heap[5]? = some o ∧ ∀ w : World, w.heap[5]? = some o → Lib.TabIs Tryz.prog w "internal/strconv.uint64pow10" .u64 Lib.pow10Tab := by
  have hg : Tryz.prog.globalNamed "internal/strconv.uint64pow10" = some 5 := by kernel_rfl
  cases ho : W.heap[5]? with
  | none => unfold Lib.TabIs World.var? at h; rw [hg] at h; simp [ho] at h
  | some o =>
    refine ⟨o, rfl, fun w hw => ?_⟩
    unfold Lib.TabIs World.var? at h ⊢
    rw [hg] at h ⊢
    simp only [Option.bind_some, ho, hw] at h ⊢
    exact h
theorem cell_fac {W : World} {b k : Nat} {v : Value} (h : W.cell? ⟨b, k, none⟩ = some v) : ∃ o, W.heap[b]? = some o ∧ ∀ w : World, w.heap[b]? = some o → w.cell? ⟨b, k, none⟩ = some v := by
  cases ho : W.heap[b]? with
  | none => unfold World.cell? at h; simp [ho] at h
  | some o =>
    refine ⟨o, rfl, fun w hw => ?_⟩
    unfold World.cell? at h ⊢
    simp only [ho, hw] at h ⊢
    exact h
theorem call_of {f : Nat} {args : List SV} {vs : List Value} {W : World} (hT : Lib.TabIs Tryz.prog W "internal/strconv.uint64pow10" .u64 Lib.pow10Tab) (m0 : Int) (hm : W.cell? ⟨0, 0, none⟩ = some (.int .i64 m0)) (ev : Value) (he : W.cell? ⟨1, 0, none⟩ = some ev) (hev : ev = .nilIface ∨ ∃ te pe, ev = .iface te pe) (hv : denL [] args = some vs)
    (h : ∀ os : List (Nat × Obj), (∀ w ks, Gl os w ks → ∃ m, w.cell? ⟨0, 0, none⟩ = some (.int .i64 m)) → (∀ w ks, Gl os w ks → Lib.TabIs Tryz.prog w "internal/strconv.uint64pow10" .u64 Lib.pow10Tab) → (∀ w ks, Gl os w ks → ∃ ev, w.cell? ⟨1, 0, none⟩ = some ev ∧ (ev = .nilIface ∨ ∃ te pe, ev = .iface te pe)) → FnI (Gl os) Tryz.prog f args [] (Rt .tt [])) : Calls Tryz.prog f vs.toArray W fun e W' => e = .returned (.bool true) ∧ Grow W W' := by
  obtain ⟨o5, k5, c5⟩ := tab_fac hT
  obtain ⟨o0, k0, c0⟩ := cell_fac hm
  obtain ⟨o1, k1, c1⟩ := cell_fac he
  have hG : Gl [(0, o0), (1, o1), (5, o5)] W [] := fun p hp => by
    simp only [List.mem_cons, List.not_mem_nil, or_false] at hp
    rcases hp with rfl | rfl | rfl
    · exact ⟨k0, rfl⟩
    · exact ⟨k1, rfl⟩
    · exact ⟨k5, rfl⟩
  have hf := h [(0, o0), (1, o1), (5, o5)] (fun w ks hg => ⟨m0, c0 w (hg (0, o0) (by simp)).1⟩) (fun w ks hg => c5 w (hg (5, o5) (by simp)).1) (fun w ks hg => ⟨ev, c1 w (hg (1, o1) (by simp)).1, hev⟩)
  have hM : Mem [] [] W := ⟨rfl, fun i e h => by simp at h, fun i j e f L M _ h => by simp at h⟩
  refine Calls.mono (hf.2 [] W vs hM hG hv) fun e W' hp => ?_
  obtain ⟨v, F, h1, h2, _, h4⟩ := post_ro hp (fun i e he => by simp at he)
  cases h1
  exact ⟨h2, h4⟩
end Go.Proofs.YtedlaclfhgneeaaGreatDoor
