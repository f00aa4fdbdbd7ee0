/- A step of the walk, whatever the instruction. -/
import Derived.Test.YtlhompedcphnnaaW7
import Derived.Test.YtlhompedcphnnaaW8
import Derived.Test.YtlhompedcphnnaaW9
import Derived.Test.YtlhompedcphnnaaW10
namespace Go.Proofs.Ytlhompedcphnnaa
open Go.RowKit

/-- a code under way by itself -/
structure Wk where
  p : Int
  r : Nat → Int
  rds : List Int
  evs : List Ev
  path : List Int
def nextW (s : Wk) : Wk := { s with p := s.p + 1, path := s.path ++ [s.p] }
def stepW (s : Wk) (i : Ins) : Option Wk :=
  if i.op = 1 then some { nextW s with r := updR s.r i.dst.toNat i.imm } else
  if i.op = 2 then some { nextW s with r := updR s.r i.dst.toNat (s.r i.a.toNat) } else
  if i.op = 3 then some { nextW s with r := updR s.r i.dst.toNat (aluR i.fn (s.r i.a.toNat) (orR s.r i.b i.imm)) } else
  if i.op = 4 then (match s.rds with
    | [] => none
    | u :: rl => some { nextW s with rds := rl, r := updR s.r i.dst.toNat (I (getR (B u) 0 i.size)), evs := s.evs ++ [acc4 i s.r s.path.length s.p u] }) else
  if i.op = 5 then some { nextW s with evs := s.evs ++ [acc5 i s.r s.path.length s.p] } else
  if i.op = 6 then (match s.rds with
    | [] => none
    | u :: rl => some { nextW s with rds := rl, r := updR s.r i.dst.toNat (I (getR (B u) 0 i.size)), evs := s.evs ++ [acc6 i s.r i.a.toNat s.path.length s.p u] }) else
  if i.op = 9 then some { nextW s with p := brP s.r i.a.toNat i s.p } else
  some { nextW s with evs := s.evs ++ [ev0 i s.path.length s.p] }
def StepPost (Bd g : Nat) (w : World) : Option Wk → Ending → World → Prop
  | none, e, w' => e = .returned (.bool false) ∧ Below Bd w w'
  | some s, e, w' => e = .returned (.bool true) ∧ Below Bd w w' ∧ ∃ rd ev pa, WS Bd g w' s.p s.r s.rds s.evs s.path rd ev pa
theorem reg_nat {q : Int} (h : regB q = true) : ∃ d : Nat, q = (d : Int) ∧ d < 8 := by
  unfold regB at h
  simp at h
  exact ⟨q.toNat, by omega, by omega⟩
theorem acc_parts {i : Ins} (h : accB i = true) : ronB i.index = true := by unfold accB at h; simp at h; exact h.1.2
set_option linter.unusedSimpArgs false
set_option maxHeartbeats 1000000 in
theorem step_any (Bd g : Nat) (s : Wk) (rd ev pa : Value) (i : Ins) (w : World) (hB : Bd ≤ w.heap.size) (hW : WS Bd g w s.p s.r s.rds s.evs s.path rd ev pa) (hne : s.evs.length ≤ 1000) (hnp : s.path.length ≤ 1000) (hr : ∀ k, wfI (s.r k)) (hp : 0 ≤ s.p) (hp2 : s.p ≤ 1000)
    (hs : soundB i = true) (himm : wfI i.imm) (hoff : wfI i.off) (hrd : ∀ x ∈ s.rds, wfI x) : Calls Try.prog 36 #[.pointer (some ⟨g, 0, none⟩), .agg (insC i)] w (StepPost Bd g w (stepW s i)) := by
  by_cases h1 : i.op = 1
  · have hs1 := hs
    simp [soundB, h1] at hs1
    obtain ⟨d, ed, ld⟩ := reg_nat hs1
    have hC : insC i = insC ⟨1, (d : Int), i.a, i.b, i.imm, i.loc, i.off, i.index, i.size, i.fn, i.acq, i.weak, i.rel, i.pred, i.succ, i.to, i.zero⟩ := by unfold insC; simp [h1, ed]
    rw [hC]
    have := step_1 Bd g s.p s.r rd ev pa i d s.rds s.evs s.path w hB hW hne hnp hr hp hp2 ld
    simp only [stepW, h1, if_true, if_false, (show i.dst.toNat = d by omega)]
    exact this
  by_cases h2 : i.op = 2
  · have hs1 := hs
    simp [soundB, h2] at hs1
    obtain ⟨d, ed, ld⟩ := reg_nat hs1.1
    obtain ⟨k, ek, lk⟩ := reg_nat hs1.2
    have hC : insC i = insC ⟨2, (d : Int), (k : Int), i.b, i.imm, i.loc, i.off, i.index, i.size, i.fn, i.acq, i.weak, i.rel, i.pred, i.succ, i.to, i.zero⟩ := by unfold insC; simp [h2, ed, ek]
    rw [hC]
    have := step_2 Bd g s.p s.r rd ev pa i d k s.rds s.evs s.path w hB hW hne hnp hr hp hp2 ld lk
    simp only [stepW, show ¬ i.op = 1 from by omega, h2, if_true, if_false, (show i.dst.toNat = d by omega), (show i.a.toNat = k by omega)]
    exact this
  by_cases h3 : i.op = 3
  · have hs1 := hs
    simp [soundB, h3] at hs1
    obtain ⟨d, ed, ld⟩ := reg_nat hs1.1.1.1.1
    obtain ⟨k, ek, lk⟩ := reg_nat hs1.1.1.1.2
    have hC : insC i = insC ⟨3, (d : Int), (k : Int), i.b, i.imm, i.loc, i.off, i.index, i.size, i.fn, i.acq, i.weak, i.rel, i.pred, i.succ, i.to, i.zero⟩ := by unfold insC; simp [h3, ed, ek]
    rw [hC]
    have := step_3 Bd g s.p s.r rd ev pa i d k s.rds s.evs s.path w hB hW hne hnp hr hp hp2 ld lk hs1.1.1.2
    simp only [stepW, show ¬ i.op = 1 from by omega, show ¬ i.op = 2 from by omega, h3, if_true, if_false, (show i.dst.toNat = d by omega), (show i.a.toNat = k by omega)]
    exact this
  by_cases h4 : i.op = 4
  · have hs1 := hs
    simp [soundB, h4] at hs1
    obtain ⟨d, ed, ld⟩ := reg_nat hs1.1.1
    have hix := acc_parts hs1.1.2
    have hC : insC i = insC ⟨4, (d : Int), i.a, i.b, i.imm, i.loc, i.off, i.index, i.size, i.fn, i.acq, i.weak, i.rel, i.pred, i.succ, i.to, i.zero⟩ := by unfold insC; simp [h4, ed]
    rw [hC]
    cases hl : s.rds with
    | nil =>
      rw [hl] at hW
      have := step_4n Bd g s.p s.r rd ev pa i d s.evs s.path w hB hW hne hnp hr hp hp2 hix hoff ld
      simp only [stepW, show ¬ i.op = 1 from by omega, show ¬ i.op = 2 from by omega, show ¬ i.op = 3 from by omega, h4, if_true, if_false, (show i.dst.toNat = d by omega)]
      rw [hl]
      exact this
    | cons u rl =>
      rw [hl] at hW
      have hu : wfI u := hrd u (by rw [hl]; simp)
      have := step_4 Bd g s.p s.r rd ev pa i d u rl s.evs s.path w hB hW hne hnp hr hp hp2 hix hoff ld hu
      simp only [stepW, show ¬ i.op = 1 from by omega, show ¬ i.op = 2 from by omega, show ¬ i.op = 3 from by omega, h4, if_true, if_false, (show i.dst.toNat = d by omega)]
      rw [hl]
      exact this
  by_cases h5 : i.op = 5
  · have hs1 := hs
    simp [soundB, h5] at hs1
    have hix := acc_parts hs1.2
    have hC : insC i = insC ⟨5, i.dst, i.a, i.b, i.imm, i.loc, i.off, i.index, i.size, i.fn, i.acq, i.weak, i.rel, i.pred, i.succ, i.to, i.zero⟩ := by unfold insC; simp [h5]
    rw [hC]
    have := step_5 Bd g s.p s.r rd ev pa i s.rds s.evs s.path w hB hW hne hnp hr hp hp2 hix hoff hs1.1 himm
    simp only [stepW, show ¬ i.op = 1 from by omega, show ¬ i.op = 2 from by omega, show ¬ i.op = 3 from by omega, show ¬ i.op = 4 from by omega, h5, if_true, if_false]
    exact this
  by_cases h6 : i.op = 6
  · have hs1 := hs
    simp [soundB, h6] at hs1
    obtain ⟨d, ed, ld⟩ := reg_nat hs1.1.1.1
    obtain ⟨k, ek, lk⟩ := reg_nat hs1.1.1.2
    have hix := acc_parts hs1.1.2
    have hC : insC i = insC ⟨6, (d : Int), (k : Int), i.b, i.imm, i.loc, i.off, i.index, i.size, i.fn, i.acq, i.weak, i.rel, i.pred, i.succ, i.to, i.zero⟩ := by unfold insC; simp [h6, ed, ek]
    rw [hC]
    cases hl : s.rds with
    | nil =>
      rw [hl] at hW
      have := step_6n Bd g s.p s.r rd ev pa i d k s.evs s.path w hB hW hne hnp hr hp hp2 hix hoff ld
      simp only [stepW, show ¬ i.op = 1 from by omega, show ¬ i.op = 2 from by omega, show ¬ i.op = 3 from by omega, show ¬ i.op = 4 from by omega, show ¬ i.op = 5 from by omega, h6, if_true, if_false, (show i.dst.toNat = d by omega), (show i.a.toNat = k by omega)]
      rw [hl]
      exact this
    | cons u rl =>
      rw [hl] at hW
      have hu : wfI u := hrd u (by rw [hl]; simp)
      have := step_6 Bd g s.p s.r rd ev pa i d k u rl s.evs s.path w hB hW hne hnp hr hp hp2 hix hoff ld lk hu
      simp only [stepW, show ¬ i.op = 1 from by omega, show ¬ i.op = 2 from by omega, show ¬ i.op = 3 from by omega, show ¬ i.op = 4 from by omega, show ¬ i.op = 5 from by omega, h6, if_true, if_false, (show i.dst.toNat = d by omega), (show i.a.toNat = k by omega)]
      rw [hl]
      exact this
  by_cases h9 : i.op = 9
  · have hs1 := hs
    simp [soundB, h9] at hs1
    obtain ⟨k, ek, lk⟩ := reg_nat hs1
    have hC : insC i = insC ⟨9, i.dst, (k : Int), i.b, i.imm, i.loc, i.off, i.index, i.size, i.fn, i.acq, i.weak, i.rel, i.pred, i.succ, i.to, i.zero⟩ := by unfold insC; simp [h9, ek]
    rw [hC]
    have := step_9 Bd g s.p s.r rd ev pa i k s.rds s.evs s.path w hB hW hne hnp hr hp hp2 lk
    simp only [stepW, show ¬ i.op = 1 from by omega, show ¬ i.op = 2 from by omega, show ¬ i.op = 3 from by omega, show ¬ i.op = 4 from by omega, show ¬ i.op = 5 from by omega, show ¬ i.op = 6 from by omega, h9, if_true, if_false, (show i.a.toNat = k by omega)]
    exact this
  by_cases h7 : i.op = 7
  · have := step_7 Bd g s.p s.r rd ev pa i s.rds s.evs s.path w hB hW hne hnp hr hp hp2
    have he : ({ i with op := 7 } : Ins) = i := by cases i; simp at h7; simp [h7]
    rw [he] at this
    simp only [stepW, h1, h2, h3, h4, h5, h6, h9, if_false]
    exact this
  by_cases h8 : i.op = 8
  · have := step_8 Bd g s.p s.r rd ev pa i s.rds s.evs s.path w hB hW hne hnp hr hp hp2
    have he : ({ i with op := 8 } : Ins) = i := by cases i; simp at h8; simp [h8]
    rw [he] at this
    simp only [stepW, h1, h2, h3, h4, h5, h6, h9, if_false]
    exact this
  exfalso
  simp [soundB, h1, h2, h3, h4, h5, h6, h7, h8, h9] at hs
end Go.Proofs.Ytlhompedcphnnaa
