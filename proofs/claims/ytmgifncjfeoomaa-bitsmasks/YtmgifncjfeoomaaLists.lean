/- Blend, Union and Meet of one mask or two that a call lays in new memory, and which bits they have. -/
import Derived.Test.YtmgifncjfeoomaaMasks
namespace Go.Proofs.Ytmgifncjfeoomaa
open Go.RowKit
theorem masks1 (w : World) (t : TypeId) (m : BitVec 64) (n : Nat) (hn : n = w.heap.size) : MasksAt (w.alloc (.cells #[.int .i64 (I m)] t)) (some ⟨n, 0, none⟩) [m] := by
  refine .inr ⟨_, _, rfl, ?_⟩
  intro j hj
  have : j = 0 := by simpa using hj
  subst this
  rw [World.cell?_alloc_at _ _ _ _ hn]; rfl
theorem masks2 (w : World) (t : TypeId) (m c : BitVec 64) (n : Nat) (hn : n = w.heap.size) : MasksAt (w.alloc (.cells #[.int .i64 (I m), .int .i64 (I c)] t)) (some ⟨n, 0, none⟩) [m, c] := by
  refine .inr ⟨_, _, rfl, ?_⟩
  intro j hj
  rw [World.cell?_alloc_at _ _ _ _ hn]
  have : j = 0 ∨ j = 1 := by simp at hj; omega
  rcases this with rfl | rfl <;> rfl
theorem blend1 (v x m : BitVec 64) (w : World) (n : Nat) (hn : n = w.heap.size) :
    Calls Try.prog 20 #[.int .i64 (I v), .int .i64 (I x), .slice (some ⟨n, 0, none⟩) 1 1] (w.alloc (.cells #[.int .i64 (I m)] 3)) fun e w' => e = .returned (.int .i64 (I (blendR v x [m]))) ∧ w' = w.alloc (.cells #[.int .i64 (I m)] 3) :=
  blend_any v x _ 1 1 [m] _ rfl (by decide) (masks1 w 3 m n hn)
theorem blend2 (v x m c : BitVec 64) (w : World) (n : Nat) (hn : n = w.heap.size) :
    Calls Try.prog 20 #[.int .i64 (I v), .int .i64 (I x), .slice (some ⟨n, 0, none⟩) 2 2] (w.alloc (.cells #[.int .i64 (I m), .int .i64 (I c)] 3)) fun e w' => e = .returned (.int .i64 (I (blendR v x [m, c]))) ∧ w' = w.alloc (.cells #[.int .i64 (I m), .int .i64 (I c)] 3) :=
  blend_any v x _ 2 2 [m, c] _ rfl (by decide) (masks2 w 3 m c n hn)
theorem union2 (m c : BitVec 64) (w : World) (n : Nat) (hn : n = w.heap.size) :
    Calls Try.prog 21 #[.slice (some ⟨n, 0, none⟩) 2 2] (w.alloc (.cells #[.int .i64 (I m), .int .i64 (I c)] 3)) fun e w' => e = .returned (.int .i64 (I (unionR [m, c]))) ∧ w' = w.alloc (.cells #[.int .i64 (I m), .int .i64 (I c)] 3) :=
  union_any _ 2 2 [m, c] _ rfl (by decide) (masks2 w 3 m c n hn)
theorem meet2 (m c : BitVec 64) (w : World) (n : Nat) (hn : n = w.heap.size) :
    Calls Try.prog 22 #[.slice (some ⟨n, 0, none⟩) 2 2] (w.alloc (.cells #[.int .i64 (I m), .int .i64 (I c)] 3)) fun e w' => e = .returned (.int .i64 (I (meetR [m, c]))) ∧ w' = w.alloc (.cells #[.int .i64 (I m), .int .i64 (I c)] 3) :=
  meet_any _ 2 2 [m, c] _ rfl (by decide) (masks2 w 3 m c n hn)
theorem union1_bits (m : BitVec 64) (j : Nat) (hj : j < 8) : (unionR [m]).getLsbD j = m.getLsbD j := by
  unfold unionR unionTo
  simp only [List.length_cons, List.length_nil, List.take, List.foldl]
  rw [BitVec.getLsbD_and, BitVec.getLsbD_or, byte255 j (by omega)]; simp [hj]
theorem union2_bits (m c : BitVec 64) (j : Nat) (hj : j < 8) : (unionR [m, c]).getLsbD j = (m.getLsbD j || c.getLsbD j) := by
  unfold unionR unionTo
  simp only [List.length_cons, List.length_nil, List.take, List.foldl]
  rw [BitVec.getLsbD_and, BitVec.getLsbD_or, BitVec.getLsbD_or, byte255 j (by omega)]; simp [hj]
theorem blend1_bits (v x m : BitVec 64) (i : Nat) (hi : i < 64) : (blendR v x [m]).getLsbD i = if m.getLsbD (i / 8) = true then x.getLsbD i else v.getLsbD i := by
  unfold blendR; rw [blend_bits _ _ _ _ hi, union1_bits _ _ (by omega)]
theorem blend2_bits (v x m c : BitVec 64) (i : Nat) (hi : i < 64) : (blendR v x [m, c]).getLsbD i = if (m.getLsbD (i / 8) || c.getLsbD (i / 8)) = true then x.getLsbD i else v.getLsbD i := by
  unfold blendR; rw [blend_bits _ _ _ _ hi, union2_bits _ _ _ (by omega)]
end Go.Proofs.Ytmgifncjfeoomaa
