/- The document's rule for an instruction, said in two ways, is one. -/
import Derived.Test.YtlhompedcphnnaaUSpec
namespace Go.Proofs.Ytlhompedcphnnaa

theorem ieq {i j : Ins} : insEq i j = true ↔ i = j := by unfold insEq; simp
theorem right_same (i : Ins) : (insEq (bareF i) blank && fineB i) = (insEq i (plainF i) && soundB i) := by
  rw [Bool.eq_iff_iff, Bool.and_eq_true, Bool.and_eq_true, ieq, ieq]
  obtain ⟨op, dst, a, b, imm, loc, off, index, size, fn, acq, weak, rel, pred, succ, to, zero⟩ := i
  by_cases h1 : op = 1
  · subst h1; simp [bareF, plainF, blank, fineB, soundB, opB, rdB, wrB]
  by_cases h2 : op = 2
  · subst h2; simp [bareF, plainF, blank, fineB, soundB, opB, rdB, wrB]
  by_cases h3 : op = 3
  · subst h3; simp [bareF, plainF, blank, fineB, soundB, opB, rdB, wrB, immF, ronB]; grind
  by_cases h4 : op = 4
  · subst h4; simp [bareF, plainF, blank, fineB, soundB, opB, rdB, wrB, plc_acc]
  by_cases h5 : op = 5
  · subst h5; simp [bareF, plainF, blank, fineB, soundB, opB, rdB, wrB, plc_acc, immF, ronB]; grind
  by_cases h6 : op = 6
  · subst h6; simp [bareF, plainF, blank, fineB, soundB, opB, rdB, wrB, plc_acc]
  by_cases h7 : op = 7
  · subst h7; simp [bareF, plainF, blank, fineB, soundB, opB, rdB, wrB, fenB]; grind
  by_cases h8 : op = 8
  · subst h8; simp [bareF, plainF, blank, fineB, soundB, opB, rdB, wrB]
  by_cases h9 : op = 9
  · subst h9; simp [bareF, plainF, blank, fineB, soundB, opB, rdB, wrB]
  simp [fineB, soundB, h1, h2, h3, h4, h5, h6, h7, h8, h9]
end Go.Proofs.Ytlhompedcphnnaa
