/- Contracts of functions on single instructions. -/
import Derived.Test.YtlhompedcphnnaaUFacts
namespace Go.Proofs.Ytlhompedcphnnaa
open Go.RowKit
set_option linter.unusedSimpArgs false
set_option linter.unusedVariables false
set_option maxHeartbeats 4000000 in
set_option maxRecDepth 4000 in
theorem isReg_any (r : Int) (w : World) : Calls Try.prog 40 #[.int .i64 r] w fun e w' => e = .returned (.bool (regB r)) ∧ Grow w w' := by
  have b0 : Below w.heap.size w w := Below.refl _ _
  refine enter (n := 9) Try.func40 rfl rfl (Nat.le_of_ble_eq_true rfl) ?_
  intro a1 hA2
  refine wp_seq ?_
  refine wp_region_lit ?_
  refine q_step hA2 rfl (d_assign (wn rfl) (hA2.ev (v := (.bool false)) rfl) ?_)
  intro a3 hA4
  refine q_end ?_
  have hA5 : St 9 [(0, (.int .i64 r)), (2, (.bool false))] a3 := hA4.cut _ (fm_cons (hA4.get 0 _ rfl) (fm_cons (hA4.get 2 _ rfl) fm_nil))
  refine t_norm ?_
  refine wp_seq ?_
  refine join_wp (K := fun a6 w7 => St 9 [(2, (.bool ((decide (r ≥ 0)) && (decide (r < 8)))))] a6 ∧ Below w.heap.size w w7) ?_ ?_
  · skip
    refine wp_region_lit ?_
    refine q_step hA5 rfl (d_move (wn rfl) (hA5.ev (v := (.int .i64 r)) rfl) ?_)
    intro a8 hA9
    rcases Bool.eq_false_or_eq_true (decide (r ≥ 0)) with hb10 | hb10
    · skip
      have hq11 := of_decide_eq_true hb10
      refine q_step hA9 rfl (d_bin (wn rfl) (hA9.ev (v := (.int .i64 r)) rfl) (hA9.ev (v := (.int .i64 0)) rfl) (b_ge _ _ r 0 true _ hb10) ?_)
      intro a12 hA13
      refine q_step hA13 rfl (d_move (wn rfl) (hA13.ev (v := (.bool true)) rfl) ?_)
      intro a14 hA15
      refine q_step hA15 rfl (d_move (wy rfl rfl (hA15.get 5 _ rfl)) (hA15.ev (v := (.int .i64 r)) rfl) ?_)
      intro a16 hA17
      rcases Bool.eq_false_or_eq_true (decide (r < 8)) with hb18 | hb18
      · skip
        have hq19 := of_decide_eq_true hb18
        refine q_step hA17 rfl (d_bin (wy rfl rfl (hA17.get 5 _ rfl)) (hA17.ev (v := (.int .i64 r)) rfl) (hA17.ev (v := (.int .i64 8)) rfl) (b_lt _ _ r 8 true _ hb18) ?_)
        intro a20 hA21
        refine q_step hA21 rfl (d_pickT (wn rfl) (hA21.ev (v := (.bool true)) rfl) (hA21.ev (v := (.bool true)) rfl) ?_)
        intro a22 hA23
        refine q_step hA23 rfl (d_assign (wn rfl) (hA23.ev (v := (.bool true)) rfl) ?_)
        intro a24 hA25
        refine q_end ?_
        exact ⟨hA25.cut _ (fm_cons ((hA25.get 2 _ rfl).trans (congrArg Value.bool (by simp [hb10, hb18]))) fm_nil), b0⟩
      · skip
        have hq26 := of_decide_eq_false hb18
        refine q_step hA17 rfl (d_bin (wy rfl rfl (hA17.get 5 _ rfl)) (hA17.ev (v := (.int .i64 r)) rfl) (hA17.ev (v := (.int .i64 8)) rfl) (b_lt _ _ r 8 false _ hb18) ?_)
        intro a27 hA28
        refine q_step hA28 rfl (d_pickT (wn rfl) (hA28.ev (v := (.bool true)) rfl) (hA28.ev (v := (.bool false)) rfl) ?_)
        intro a29 hA30
        refine q_step hA30 rfl (d_assign (wn rfl) (hA30.ev (v := (.bool false)) rfl) ?_)
        intro a31 hA32
        refine q_end ?_
        exact ⟨hA32.cut _ (fm_cons ((hA32.get 2 _ rfl).trans (congrArg Value.bool (by simp [hb10, hb18]))) fm_nil), b0⟩
    · skip
      have hq33 := of_decide_eq_false hb10
      refine q_step hA9 rfl (d_bin (wn rfl) (hA9.ev (v := (.int .i64 r)) rfl) (hA9.ev (v := (.int .i64 0)) rfl) (b_ge _ _ r 0 false _ hb10) ?_)
      intro a34 hA35
      refine q_step hA35 rfl (d_move (wn rfl) (hA35.ev (v := (.bool false)) rfl) ?_)
      intro a36 hA37
      refine q_step hA37 rfl (does_not (wno rfl rfl (.inl (hA37.get 5 _ rfl))) ?_)
      intro a38 hA39
      refine q_step hA39 rfl (does_not (wno rfl rfl (.inl (hA39.get 5 _ rfl))) ?_)
      intro a40 hA41
      refine q_step hA41 rfl (d_pickF (wn rfl) (hA41.ev (v := (.bool false)) rfl) (hA41.ev (v := (.bool false)) rfl) ?_)
      intro a42 hA43
      refine q_step hA43 rfl (d_assign (wn rfl) (hA43.ev (v := (.bool false)) rfl) ?_)
      intro a44 hA45
      refine q_end ?_
      exact ⟨hA45.cut _ (fm_cons ((hA45.get 2 _ rfl).trans (congrArg Value.bool (by simp [hb10]))) fm_nil), b0⟩
  rintro a6 w7 ⟨hA46, b47⟩
  refine t_norm ?_
  refine wp_ret ?_
  refine ret1 rfl hA46 (v := (.bool ((decide (r ≥ 0)) && (decide (r < 8))))) rfl ?_
  exact ⟨ret_bool (by first | (simp [regB, Bool.or_assoc, Bool.and_assoc]; done) | (rw [Bool.eq_iff_iff]; simp [regB]; done) | (rw [Bool.eq_iff_iff]; simp [regB]; omega) | grind), b47⟩
set_option maxHeartbeats 4000000 in
set_option maxRecDepth 4000 in
theorem rreg_any (r : Int) (w : World) : Calls Try.prog 44 #[.int .i64 r] w fun e w' => e = .returned (.bool (regB r)) ∧ Grow w w' := by
  have b0 : Below w.heap.size w w := Below.refl _ _
  refine enter (n := 9) Try.func44 rfl rfl (Nat.le_of_ble_eq_true rfl) ?_
  intro a1 hA2
  refine wp_seq ?_
  refine wp_region_lit ?_
  refine q_step hA2 rfl (d_assign (wn rfl) (hA2.ev (v := (.bool false)) rfl) ?_)
  intro a3 hA4
  refine q_end ?_
  have hA5 : St 9 [(0, (.int .i64 r)), (2, (.bool false))] a3 := hA4.cut _ (fm_cons (hA4.get 0 _ rfl) (fm_cons (hA4.get 2 _ rfl) fm_nil))
  refine t_norm ?_
  refine wp_seq ?_
  refine join_wp (K := fun a6 w7 => St 9 [(2, (.bool ((decide (r ≥ 0)) && (decide (r < 8)))))] a6 ∧ Below w.heap.size w w7) ?_ ?_
  · skip
    refine wp_region_lit ?_
    refine q_step hA5 rfl (d_move (wn rfl) (hA5.ev (v := (.int .i64 r)) rfl) ?_)
    intro a8 hA9
    rcases Bool.eq_false_or_eq_true (decide (r ≥ 0)) with hb10 | hb10
    · skip
      have hq11 := of_decide_eq_true hb10
      refine q_step hA9 rfl (d_bin (wn rfl) (hA9.ev (v := (.int .i64 r)) rfl) (hA9.ev (v := (.int .i64 0)) rfl) (b_ge _ _ r 0 true _ hb10) ?_)
      intro a12 hA13
      refine q_step hA13 rfl (d_move (wn rfl) (hA13.ev (v := (.bool true)) rfl) ?_)
      intro a14 hA15
      refine q_step hA15 rfl (d_move (wy rfl rfl (hA15.get 5 _ rfl)) (hA15.ev (v := (.int .i64 r)) rfl) ?_)
      intro a16 hA17
      rcases Bool.eq_false_or_eq_true (decide (r < 8)) with hb18 | hb18
      · skip
        have hq19 := of_decide_eq_true hb18
        refine q_step hA17 rfl (d_bin (wy rfl rfl (hA17.get 5 _ rfl)) (hA17.ev (v := (.int .i64 r)) rfl) (hA17.ev (v := (.int .i64 8)) rfl) (b_lt _ _ r 8 true _ hb18) ?_)
        intro a20 hA21
        refine q_step hA21 rfl (d_pickT (wn rfl) (hA21.ev (v := (.bool true)) rfl) (hA21.ev (v := (.bool true)) rfl) ?_)
        intro a22 hA23
        refine q_step hA23 rfl (d_assign (wn rfl) (hA23.ev (v := (.bool true)) rfl) ?_)
        intro a24 hA25
        refine q_end ?_
        exact ⟨hA25.cut _ (fm_cons ((hA25.get 2 _ rfl).trans (congrArg Value.bool (by simp [hb10, hb18]))) fm_nil), b0⟩
      · skip
        have hq26 := of_decide_eq_false hb18
        refine q_step hA17 rfl (d_bin (wy rfl rfl (hA17.get 5 _ rfl)) (hA17.ev (v := (.int .i64 r)) rfl) (hA17.ev (v := (.int .i64 8)) rfl) (b_lt _ _ r 8 false _ hb18) ?_)
        intro a27 hA28
        refine q_step hA28 rfl (d_pickT (wn rfl) (hA28.ev (v := (.bool true)) rfl) (hA28.ev (v := (.bool false)) rfl) ?_)
        intro a29 hA30
        refine q_step hA30 rfl (d_assign (wn rfl) (hA30.ev (v := (.bool false)) rfl) ?_)
        intro a31 hA32
        refine q_end ?_
        exact ⟨hA32.cut _ (fm_cons ((hA32.get 2 _ rfl).trans (congrArg Value.bool (by simp [hb10, hb18]))) fm_nil), b0⟩
    · skip
      have hq33 := of_decide_eq_false hb10
      refine q_step hA9 rfl (d_bin (wn rfl) (hA9.ev (v := (.int .i64 r)) rfl) (hA9.ev (v := (.int .i64 0)) rfl) (b_ge _ _ r 0 false _ hb10) ?_)
      intro a34 hA35
      refine q_step hA35 rfl (d_move (wn rfl) (hA35.ev (v := (.bool false)) rfl) ?_)
      intro a36 hA37
      refine q_step hA37 rfl (does_not (wno rfl rfl (.inl (hA37.get 5 _ rfl))) ?_)
      intro a38 hA39
      refine q_step hA39 rfl (does_not (wno rfl rfl (.inl (hA39.get 5 _ rfl))) ?_)
      intro a40 hA41
      refine q_step hA41 rfl (d_pickF (wn rfl) (hA41.ev (v := (.bool false)) rfl) (hA41.ev (v := (.bool false)) rfl) ?_)
      intro a42 hA43
      refine q_step hA43 rfl (d_assign (wn rfl) (hA43.ev (v := (.bool false)) rfl) ?_)
      intro a44 hA45
      refine q_end ?_
      exact ⟨hA45.cut _ (fm_cons ((hA45.get 2 _ rfl).trans (congrArg Value.bool (by simp [hb10]))) fm_nil), b0⟩
  rintro a6 w7 ⟨hA46, b47⟩
  refine t_norm ?_
  refine wp_ret ?_
  refine ret1 rfl hA46 (v := (.bool ((decide (r ≥ 0)) && (decide (r < 8))))) rfl ?_
  exact ⟨ret_bool (by first | (simp [regB, Bool.or_assoc, Bool.and_assoc]; done) | (rw [Bool.eq_iff_iff]; simp [regB]; done) | (rw [Bool.eq_iff_iff]; simp [regB]; omega) | grind), b47⟩
set_option maxHeartbeats 4000000 in
set_option maxRecDepth 4000 in
theorem isRegOrNone_any (r : Int) (w : World) : Calls Try.prog 41 #[.int .i64 r] w fun e w' => e = .returned (.bool (ronB r)) ∧ Grow w w' := by
  have b0 : Below w.heap.size w w := Below.refl _ _
  refine enter (n := 9) Try.func41 rfl rfl (Nat.le_of_ble_eq_true rfl) ?_
  intro a1 hA2
  refine wp_seq ?_
  refine wp_region_lit ?_
  refine q_step hA2 rfl (d_assign (wn rfl) (hA2.ev (v := (.bool false)) rfl) ?_)
  intro a3 hA4
  refine q_end ?_
  have hA5 : St 9 [(0, (.int .i64 r)), (2, (.bool false))] a3 := hA4.cut _ (fm_cons (hA4.get 0 _ rfl) (fm_cons (hA4.get 2 _ rfl) fm_nil))
  refine t_norm ?_
  refine wp_seq ?_
  refine join_wp (K := fun a6 w7 => St 9 [(2, (.bool ((r == (-1)) || (regB r))))] a6 ∧ Below w.heap.size w w7) ?_ ?_
  · skip
    refine wp_region_lit ?_
    refine q_step hA5 rfl (d_move (wn rfl) (hA5.ev (v := (.int .i64 r)) rfl) ?_)
    intro a8 hA9
    rcases Bool.eq_false_or_eq_true (r == (-1)) with hb10 | hb10
    · skip
      have hq11 := eq_of_beq hb10
      refine q_step hA9 rfl (d_bin (wn rfl) (hA9.ev (v := (.int .i64 r)) rfl) (hA9.ev (v := (.int .i64 (-1))) rfl) (b_eq _ _ r (-1) true _ hb10) ?_)
      intro a12 hA13
      refine q_step hA13 rfl (d_move (wn rfl) (hA13.ev (v := (.bool true)) rfl) ?_)
      intro a14 hA15
      refine q_step hA15 rfl (does_not (wno rfl rfl (.inl (hA15.get 5 _ rfl))) ?_)
      intro a16 hA17
      refine q_step hA17 rfl (does_not (wno rfl rfl (.inl (hA17.get 5 _ rfl))) ?_)
      intro a18 hA19
      refine q_step hA19 rfl (d_pickT (wn rfl) (hA19.ev (v := (.bool true)) rfl) (hA19.ev (v := (.bool true)) rfl) ?_)
      intro a20 hA21
      refine q_step hA21 rfl (d_assign (wn rfl) (hA21.ev (v := (.bool true)) rfl) ?_)
      intro a22 hA23
      refine q_end ?_
      exact ⟨hA23.cut _ (fm_cons ((hA23.get 2 _ rfl).trans (congrArg Value.bool (by simp [hb10]))) fm_nil), b0⟩
    · skip
      have hq24 := ne_of_beq hb10
      refine q_step hA9 rfl (d_bin (wn rfl) (hA9.ev (v := (.int .i64 r)) rfl) (hA9.ev (v := (.int .i64 (-1))) rfl) (b_eq _ _ r (-1) false _ hb10) ?_)
      intro a25 hA26
      refine q_step hA26 rfl (d_move (wn rfl) (hA26.ev (v := (.bool false)) rfl) ?_)
      intro a27 hA28
      refine q_step hA28 rfl (d_move (wy rfl rfl (hA28.get 5 _ rfl)) (hA28.ev (v := (.int .i64 r)) rfl) ?_)
      intro a29 hA30
      refine q_step hA30 rfl (d_call (wy rfl rfl (hA30.get 5 _ rfl)) ent40 (map1 (hA30.ev (v := (.int .i64 r)) rfl)) (isReg_any r w) ?_)
      rintro e34 w31 ⟨he33, hG32⟩
      have b35 := below_grow b0 hG32 b0.size
      rcases Bool.eq_false_or_eq_true (regB r) with hb36 | hb36
      · skip
        refine ⟨.bool true, he33.trans (ret_bool hb36), ?_⟩
        intro a38 hA39
        refine q_step hA39 rfl (d_pickF (wn rfl) (hA39.ev (v := (.bool false)) rfl) (hA39.ev (v := (.bool true)) rfl) ?_)
        intro a40 hA41
        refine q_step hA41 rfl (d_assign (wn rfl) (hA41.ev (v := (.bool true)) rfl) ?_)
        intro a42 hA43
        refine q_end ?_
        exact ⟨hA43.cut _ (fm_cons ((hA43.get 2 _ rfl).trans (congrArg Value.bool (by simp [hb10, hb36]))) fm_nil), b35⟩
      · skip
        refine ⟨.bool false, he33.trans (ret_bool hb36), ?_⟩
        intro a45 hA46
        refine q_step hA46 rfl (d_pickF (wn rfl) (hA46.ev (v := (.bool false)) rfl) (hA46.ev (v := (.bool false)) rfl) ?_)
        intro a47 hA48
        refine q_step hA48 rfl (d_assign (wn rfl) (hA48.ev (v := (.bool false)) rfl) ?_)
        intro a49 hA50
        refine q_end ?_
        exact ⟨hA50.cut _ (fm_cons ((hA50.get 2 _ rfl).trans (congrArg Value.bool (by simp [hb10, hb36]))) fm_nil), b35⟩
  rintro a6 w7 ⟨hA51, b52⟩
  refine t_norm ?_
  refine wp_ret ?_
  refine ret1 rfl hA51 (v := (.bool ((r == (-1)) || (regB r)))) rfl ?_
  exact ⟨ret_bool (by first | (simp [ronB, Bool.or_assoc, Bool.and_assoc]; done) | (rw [Bool.eq_iff_iff]; simp [ronB]; done) | (rw [Bool.eq_iff_iff]; simp [ronB]; omega) | grind), b52⟩
set_option maxHeartbeats 4000000 in
set_option maxRecDepth 4000 in
theorem isFenced_any (r : Int) (w : World) : Calls Try.prog 43 #[.int .i64 r] w fun e w' => e = .returned (.bool (fenB r)) ∧ Grow w w' := by
  have b0 : Below w.heap.size w w := Below.refl _ _
  refine enter (n := 13) Try.func43 rfl rfl (Nat.le_of_ble_eq_true rfl) ?_
  intro a1 hA2
  refine wp_seq ?_
  refine wp_region_lit ?_
  refine q_step hA2 rfl (d_assign (wn rfl) (hA2.ev (v := (.bool false)) rfl) ?_)
  intro a3 hA4
  refine q_end ?_
  have hA5 : St 13 [(0, (.int .i64 r)), (2, (.bool false))] a3 := hA4.cut _ (fm_cons (hA4.get 0 _ rfl) (fm_cons (hA4.get 2 _ rfl) fm_nil))
  refine t_norm ?_
  refine wp_seq ?_
  refine join_wp (K := fun a6 w7 => St 13 [(2, (.bool ((r == 1) || ((r == 2) || (r == 3)))))] a6 ∧ Below w.heap.size w w7) ?_ ?_
  · skip
    refine wp_region_lit ?_
    refine q_step hA5 rfl (d_move (wn rfl) (hA5.ev (v := (.int .i64 r)) rfl) ?_)
    intro a8 hA9
    rcases Bool.eq_false_or_eq_true (r == 1) with hb10 | hb10
    · skip
      have hq11 := eq_of_beq hb10
      refine q_step hA9 rfl (d_bin (wn rfl) (hA9.ev (v := (.int .i64 r)) rfl) (hA9.ev (v := (.int .i64 1)) rfl) (b_eq _ _ r 1 true _ hb10) ?_)
      intro a12 hA13
      refine q_step hA13 rfl (d_move (wn rfl) (hA13.ev (v := (.bool true)) rfl) ?_)
      intro a14 hA15
      refine q_step hA15 rfl (does_not (wno rfl rfl (.inl (hA15.get 5 _ rfl))) ?_)
      intro a16 hA17
      refine q_step hA17 rfl (does_not (wno rfl rfl (.inl (hA17.get 5 _ rfl))) ?_)
      intro a18 hA19
      refine q_step hA19 rfl (d_pickT (wn rfl) (hA19.ev (v := (.bool true)) rfl) (hA19.ev (v := (.bool true)) rfl) ?_)
      intro a20 hA21
      refine q_step hA21 rfl (d_move (wn rfl) (hA21.ev (v := (.bool true)) rfl) ?_)
      intro a22 hA23
      refine q_step hA23 rfl (does_not (wno rfl rfl (.inl (hA23.get 9 _ rfl))) ?_)
      intro a24 hA25
      refine q_step hA25 rfl (does_not (wno rfl rfl (.inl (hA25.get 9 _ rfl))) ?_)
      intro a26 hA27
      refine q_step hA27 rfl (d_pickT (wn rfl) (hA27.ev (v := (.bool true)) rfl) (hA27.ev (v := (.bool true)) rfl) ?_)
      intro a28 hA29
      refine q_step hA29 rfl (d_assign (wn rfl) (hA29.ev (v := (.bool true)) rfl) ?_)
      intro a30 hA31
      refine q_end ?_
      exact ⟨hA31.cut _ (fm_cons ((hA31.get 2 _ rfl).trans (congrArg Value.bool (by simp [hb10]))) fm_nil), b0⟩
    · skip
      have hq32 := ne_of_beq hb10
      refine q_step hA9 rfl (d_bin (wn rfl) (hA9.ev (v := (.int .i64 r)) rfl) (hA9.ev (v := (.int .i64 1)) rfl) (b_eq _ _ r 1 false _ hb10) ?_)
      intro a33 hA34
      refine q_step hA34 rfl (d_move (wn rfl) (hA34.ev (v := (.bool false)) rfl) ?_)
      intro a35 hA36
      refine q_step hA36 rfl (d_move (wy rfl rfl (hA36.get 5 _ rfl)) (hA36.ev (v := (.int .i64 r)) rfl) ?_)
      intro a37 hA38
      rcases Bool.eq_false_or_eq_true (r == 2) with hb39 | hb39
      · skip
        have hq40 := eq_of_beq hb39
        refine q_step hA38 rfl (d_bin (wy rfl rfl (hA38.get 5 _ rfl)) (hA38.ev (v := (.int .i64 r)) rfl) (hA38.ev (v := (.int .i64 2)) rfl) (b_eq _ _ r 2 true _ hb39) ?_)
        intro a41 hA42
        refine q_step hA42 rfl (d_pickF (wn rfl) (hA42.ev (v := (.bool false)) rfl) (hA42.ev (v := (.bool true)) rfl) ?_)
        intro a43 hA44
        refine q_step hA44 rfl (d_move (wn rfl) (hA44.ev (v := (.bool true)) rfl) ?_)
        intro a45 hA46
        refine q_step hA46 rfl (does_not (wno rfl rfl (.inl (hA46.get 9 _ rfl))) ?_)
        intro a47 hA48
        refine q_step hA48 rfl (does_not (wno rfl rfl (.inl (hA48.get 9 _ rfl))) ?_)
        intro a49 hA50
        refine q_step hA50 rfl (d_pickT (wn rfl) (hA50.ev (v := (.bool true)) rfl) (hA50.ev (v := (.bool true)) rfl) ?_)
        intro a51 hA52
        refine q_step hA52 rfl (d_assign (wn rfl) (hA52.ev (v := (.bool true)) rfl) ?_)
        intro a53 hA54
        refine q_end ?_
        exact ⟨hA54.cut _ (fm_cons ((hA54.get 2 _ rfl).trans (congrArg Value.bool (by simp [hb10, hb39]))) fm_nil), b0⟩
      · skip
        have hq55 := ne_of_beq hb39
        refine q_step hA38 rfl (d_bin (wy rfl rfl (hA38.get 5 _ rfl)) (hA38.ev (v := (.int .i64 r)) rfl) (hA38.ev (v := (.int .i64 2)) rfl) (b_eq _ _ r 2 false _ hb39) ?_)
        intro a56 hA57
        refine q_step hA57 rfl (d_pickF (wn rfl) (hA57.ev (v := (.bool false)) rfl) (hA57.ev (v := (.bool false)) rfl) ?_)
        intro a58 hA59
        refine q_step hA59 rfl (d_move (wn rfl) (hA59.ev (v := (.bool false)) rfl) ?_)
        intro a60 hA61
        refine q_step hA61 rfl (d_move (wy rfl rfl (hA61.get 9 _ rfl)) (hA61.ev (v := (.int .i64 r)) rfl) ?_)
        intro a62 hA63
        rcases Bool.eq_false_or_eq_true (r == 3) with hb64 | hb64
        · skip
          have hq65 := eq_of_beq hb64
          refine q_step hA63 rfl (d_bin (wy rfl rfl (hA63.get 9 _ rfl)) (hA63.ev (v := (.int .i64 r)) rfl) (hA63.ev (v := (.int .i64 3)) rfl) (b_eq _ _ r 3 true _ hb64) ?_)
          intro a66 hA67
          refine q_step hA67 rfl (d_pickF (wn rfl) (hA67.ev (v := (.bool false)) rfl) (hA67.ev (v := (.bool true)) rfl) ?_)
          intro a68 hA69
          refine q_step hA69 rfl (d_assign (wn rfl) (hA69.ev (v := (.bool true)) rfl) ?_)
          intro a70 hA71
          refine q_end ?_
          exact ⟨hA71.cut _ (fm_cons ((hA71.get 2 _ rfl).trans (congrArg Value.bool (by simp [hb10, hb39, hb64]))) fm_nil), b0⟩
        · skip
          have hq72 := ne_of_beq hb64
          refine q_step hA63 rfl (d_bin (wy rfl rfl (hA63.get 9 _ rfl)) (hA63.ev (v := (.int .i64 r)) rfl) (hA63.ev (v := (.int .i64 3)) rfl) (b_eq _ _ r 3 false _ hb64) ?_)
          intro a73 hA74
          refine q_step hA74 rfl (d_pickF (wn rfl) (hA74.ev (v := (.bool false)) rfl) (hA74.ev (v := (.bool false)) rfl) ?_)
          intro a75 hA76
          refine q_step hA76 rfl (d_assign (wn rfl) (hA76.ev (v := (.bool false)) rfl) ?_)
          intro a77 hA78
          refine q_end ?_
          exact ⟨hA78.cut _ (fm_cons ((hA78.get 2 _ rfl).trans (congrArg Value.bool (by simp [hb10, hb39, hb64]))) fm_nil), b0⟩
  rintro a6 w7 ⟨hA79, b80⟩
  refine t_norm ?_
  refine wp_ret ?_
  refine ret1 rfl hA79 (v := (.bool ((r == 1) || ((r == 2) || (r == 3))))) rfl ?_
  exact ⟨ret_bool (by first | (simp [fenB, Bool.or_assoc, Bool.and_assoc]; done) | (rw [Bool.eq_iff_iff]; simp [fenB]; done) | (rw [Bool.eq_iff_iff]; simp [fenB]; omega) | grind), b80⟩
set_option maxHeartbeats 4000000 in
set_option maxRecDepth 4000 in
theorem reads_any (i : Ins) (w : World) : Calls Try.prog 11 #[.agg (insC i)] w fun e w' => e = .returned (.bool (rdB i)) ∧ Grow w w' := by
  have b0 : Below w.heap.size w w := Below.refl _ _
  refine enter (n := 11) Try.func11 rfl rfl (Nat.le_of_ble_eq_true rfl) ?_
  intro a1 hA2
  refine wp_seq ?_
  refine wp_region_lit ?_
  refine q_step hA2 rfl (d_box (wn rfl) (hA2.ev (v := (.agg (insC i))) rfl) ?_)
  intro g3 w4 eg5 hG6 (m7 : Blk w4 g3 (insC i) 23)
  have ge8 : w.heap.size ≤ g3 := eg5 ▸ b0.size
  have b9 := below_grow b0 hG6 b0.size
  intro a10 hA11
  refine q_step hA11 rfl (d_assign (wn rfl) (hA11.ev (v := (.bool false)) rfl) ?_)
  intro a12 hA13
  refine q_end ?_
  have hA14 : St 11 [(1, (.pointer (some ⟨g3, 0, none⟩))), (2, (.bool false))] a12 := hA13.cut _ (fm_cons (hA13.get 1 _ rfl) (fm_cons (hA13.get 2 _ rfl) fm_nil))
  refine t_norm ?_
  refine wp_seq ?_
  refine join_wp (K := fun a15 w16 => St 11 [(2, (.bool ((i.op == 4) || (i.op == 6))))] a15 ∧ Below w.heap.size w w16 ∧ Blk w16 g3 (insC i) 23) ?_ ?_
  · skip
    refine wp_region_lit ?_
    refine q_step hA14 rfl (d_fieldAddr (wn rfl) (hA14.ev (v := (.pointer (some ⟨g3, 0, none⟩))) rfl) fo23_0 ?_)
    intro a17 hA18
    refine q_step hA18 rfl (d_load (v := (.int .i64 i.op)) (wn rfl) (hA18.ev (v := (.pointer (some ⟨g3, 0, none⟩))) rfl) one3 (m7.cell rfl) ?_)
    intro a19 hA20
    rcases Bool.eq_false_or_eq_true (i.op == 4) with hb21 | hb21
    · skip
      have hq22 := eq_of_beq hb21
      refine q_step hA20 rfl (d_bin (wn rfl) (hA20.ev (v := (.int .i64 i.op)) rfl) (hA20.ev (v := (.int .i64 4)) rfl) (b_eq _ _ i.op 4 true _ hb21) ?_)
      intro a23 hA24
      refine q_step hA24 rfl (d_move (wn rfl) (hA24.ev (v := (.bool true)) rfl) ?_)
      intro a25 hA26
      refine q_step hA26 rfl (does_not (wno rfl rfl (.inl (hA26.get 6 _ rfl))) ?_)
      intro a27 hA28
      refine q_step hA28 rfl (does_not (wno rfl rfl (.inl (hA28.get 6 _ rfl))) ?_)
      intro a29 hA30
      refine q_step hA30 rfl (does_not (wno rfl rfl (.inl (hA30.get 6 _ rfl))) ?_)
      intro a31 hA32
      refine q_step hA32 rfl (d_pickT (wn rfl) (hA32.ev (v := (.bool true)) rfl) (hA32.ev (v := (.bool true)) rfl) ?_)
      intro a33 hA34
      refine q_step hA34 rfl (d_assign (wn rfl) (hA34.ev (v := (.bool true)) rfl) ?_)
      intro a35 hA36
      refine q_end ?_
      exact ⟨hA36.cut _ (fm_cons ((hA36.get 2 _ rfl).trans (congrArg Value.bool (by simp [hb21]))) fm_nil), b9, m7⟩
    · skip
      have hq37 := ne_of_beq hb21
      refine q_step hA20 rfl (d_bin (wn rfl) (hA20.ev (v := (.int .i64 i.op)) rfl) (hA20.ev (v := (.int .i64 4)) rfl) (b_eq _ _ i.op 4 false _ hb21) ?_)
      intro a38 hA39
      refine q_step hA39 rfl (d_move (wn rfl) (hA39.ev (v := (.bool false)) rfl) ?_)
      intro a40 hA41
      refine q_step hA41 rfl (d_fieldAddr (wy rfl rfl (hA41.get 6 _ rfl)) (hA41.ev (v := (.pointer (some ⟨g3, 0, none⟩))) rfl) fo23_0 ?_)
      intro a42 hA43
      refine q_step hA43 rfl (d_load (v := (.int .i64 i.op)) (wy rfl rfl (hA43.get 6 _ rfl)) (hA43.ev (v := (.pointer (some ⟨g3, 0, none⟩))) rfl) one3 (m7.cell rfl) ?_)
      intro a44 hA45
      rcases Bool.eq_false_or_eq_true (i.op == 6) with hb46 | hb46
      · skip
        have hq47 := eq_of_beq hb46
        refine q_step hA45 rfl (d_bin (wy rfl rfl (hA45.get 6 _ rfl)) (hA45.ev (v := (.int .i64 i.op)) rfl) (hA45.ev (v := (.int .i64 6)) rfl) (b_eq _ _ i.op 6 true _ hb46) ?_)
        intro a48 hA49
        refine q_step hA49 rfl (d_pickF (wn rfl) (hA49.ev (v := (.bool false)) rfl) (hA49.ev (v := (.bool true)) rfl) ?_)
        intro a50 hA51
        refine q_step hA51 rfl (d_assign (wn rfl) (hA51.ev (v := (.bool true)) rfl) ?_)
        intro a52 hA53
        refine q_end ?_
        exact ⟨hA53.cut _ (fm_cons ((hA53.get 2 _ rfl).trans (congrArg Value.bool (by simp [hb21, hb46]))) fm_nil), b9, m7⟩
      · skip
        have hq54 := ne_of_beq hb46
        refine q_step hA45 rfl (d_bin (wy rfl rfl (hA45.get 6 _ rfl)) (hA45.ev (v := (.int .i64 i.op)) rfl) (hA45.ev (v := (.int .i64 6)) rfl) (b_eq _ _ i.op 6 false _ hb46) ?_)
        intro a55 hA56
        refine q_step hA56 rfl (d_pickF (wn rfl) (hA56.ev (v := (.bool false)) rfl) (hA56.ev (v := (.bool false)) rfl) ?_)
        intro a57 hA58
        refine q_step hA58 rfl (d_assign (wn rfl) (hA58.ev (v := (.bool false)) rfl) ?_)
        intro a59 hA60
        refine q_end ?_
        exact ⟨hA60.cut _ (fm_cons ((hA60.get 2 _ rfl).trans (congrArg Value.bool (by simp [hb21, hb46]))) fm_nil), b9, m7⟩
  rintro a15 w16 ⟨hA61, b62, m63⟩
  refine t_norm ?_
  refine wp_ret ?_
  refine ret1 rfl hA61 (v := (.bool ((i.op == 4) || (i.op == 6)))) rfl ?_
  exact ⟨ret_bool (by first | (simp [rdB, Bool.or_assoc, Bool.and_assoc]; done) | (rw [Bool.eq_iff_iff]; simp [rdB]; done) | (rw [Bool.eq_iff_iff]; simp [rdB]; omega) | grind), b62⟩
set_option maxHeartbeats 4000000 in
set_option maxRecDepth 4000 in
theorem rreads_any (i : Ins) (w : World) : Calls Try.prog 12 #[.agg (insC i)] w fun e w' => e = .returned (.bool (rdB i)) ∧ Grow w w' := by
  have b0 : Below w.heap.size w w := Below.refl _ _
  refine enter (n := 11) Try.func12 rfl rfl (Nat.le_of_ble_eq_true rfl) ?_
  intro a1 hA2
  refine wp_seq ?_
  refine wp_region_lit ?_
  refine q_step hA2 rfl (d_box (wn rfl) (hA2.ev (v := (.agg (insC i))) rfl) ?_)
  intro g3 w4 eg5 hG6 (m7 : Blk w4 g3 (insC i) 23)
  have ge8 : w.heap.size ≤ g3 := eg5 ▸ b0.size
  have b9 := below_grow b0 hG6 b0.size
  intro a10 hA11
  refine q_step hA11 rfl (d_assign (wn rfl) (hA11.ev (v := (.bool false)) rfl) ?_)
  intro a12 hA13
  refine q_end ?_
  have hA14 : St 11 [(1, (.pointer (some ⟨g3, 0, none⟩))), (2, (.bool false))] a12 := hA13.cut _ (fm_cons (hA13.get 1 _ rfl) (fm_cons (hA13.get 2 _ rfl) fm_nil))
  refine t_norm ?_
  refine wp_seq ?_
  refine join_wp (K := fun a15 w16 => St 11 [(2, (.bool ((i.op == 4) || (i.op == 6))))] a15 ∧ Below w.heap.size w w16 ∧ Blk w16 g3 (insC i) 23) ?_ ?_
  · skip
    refine wp_region_lit ?_
    refine q_step hA14 rfl (d_fieldAddr (wn rfl) (hA14.ev (v := (.pointer (some ⟨g3, 0, none⟩))) rfl) fo23_0 ?_)
    intro a17 hA18
    refine q_step hA18 rfl (d_load (v := (.int .i64 i.op)) (wn rfl) (hA18.ev (v := (.pointer (some ⟨g3, 0, none⟩))) rfl) one3 (m7.cell rfl) ?_)
    intro a19 hA20
    rcases Bool.eq_false_or_eq_true (i.op == 4) with hb21 | hb21
    · skip
      have hq22 := eq_of_beq hb21
      refine q_step hA20 rfl (d_bin (wn rfl) (hA20.ev (v := (.int .i64 i.op)) rfl) (hA20.ev (v := (.int .i64 4)) rfl) (b_eq _ _ i.op 4 true _ hb21) ?_)
      intro a23 hA24
      refine q_step hA24 rfl (d_move (wn rfl) (hA24.ev (v := (.bool true)) rfl) ?_)
      intro a25 hA26
      refine q_step hA26 rfl (does_not (wno rfl rfl (.inl (hA26.get 6 _ rfl))) ?_)
      intro a27 hA28
      refine q_step hA28 rfl (does_not (wno rfl rfl (.inl (hA28.get 6 _ rfl))) ?_)
      intro a29 hA30
      refine q_step hA30 rfl (does_not (wno rfl rfl (.inl (hA30.get 6 _ rfl))) ?_)
      intro a31 hA32
      refine q_step hA32 rfl (d_pickT (wn rfl) (hA32.ev (v := (.bool true)) rfl) (hA32.ev (v := (.bool true)) rfl) ?_)
      intro a33 hA34
      refine q_step hA34 rfl (d_assign (wn rfl) (hA34.ev (v := (.bool true)) rfl) ?_)
      intro a35 hA36
      refine q_end ?_
      exact ⟨hA36.cut _ (fm_cons ((hA36.get 2 _ rfl).trans (congrArg Value.bool (by simp [hb21]))) fm_nil), b9, m7⟩
    · skip
      have hq37 := ne_of_beq hb21
      refine q_step hA20 rfl (d_bin (wn rfl) (hA20.ev (v := (.int .i64 i.op)) rfl) (hA20.ev (v := (.int .i64 4)) rfl) (b_eq _ _ i.op 4 false _ hb21) ?_)
      intro a38 hA39
      refine q_step hA39 rfl (d_move (wn rfl) (hA39.ev (v := (.bool false)) rfl) ?_)
      intro a40 hA41
      refine q_step hA41 rfl (d_fieldAddr (wy rfl rfl (hA41.get 6 _ rfl)) (hA41.ev (v := (.pointer (some ⟨g3, 0, none⟩))) rfl) fo23_0 ?_)
      intro a42 hA43
      refine q_step hA43 rfl (d_load (v := (.int .i64 i.op)) (wy rfl rfl (hA43.get 6 _ rfl)) (hA43.ev (v := (.pointer (some ⟨g3, 0, none⟩))) rfl) one3 (m7.cell rfl) ?_)
      intro a44 hA45
      rcases Bool.eq_false_or_eq_true (i.op == 6) with hb46 | hb46
      · skip
        have hq47 := eq_of_beq hb46
        refine q_step hA45 rfl (d_bin (wy rfl rfl (hA45.get 6 _ rfl)) (hA45.ev (v := (.int .i64 i.op)) rfl) (hA45.ev (v := (.int .i64 6)) rfl) (b_eq _ _ i.op 6 true _ hb46) ?_)
        intro a48 hA49
        refine q_step hA49 rfl (d_pickF (wn rfl) (hA49.ev (v := (.bool false)) rfl) (hA49.ev (v := (.bool true)) rfl) ?_)
        intro a50 hA51
        refine q_step hA51 rfl (d_assign (wn rfl) (hA51.ev (v := (.bool true)) rfl) ?_)
        intro a52 hA53
        refine q_end ?_
        exact ⟨hA53.cut _ (fm_cons ((hA53.get 2 _ rfl).trans (congrArg Value.bool (by simp [hb21, hb46]))) fm_nil), b9, m7⟩
      · skip
        have hq54 := ne_of_beq hb46
        refine q_step hA45 rfl (d_bin (wy rfl rfl (hA45.get 6 _ rfl)) (hA45.ev (v := (.int .i64 i.op)) rfl) (hA45.ev (v := (.int .i64 6)) rfl) (b_eq _ _ i.op 6 false _ hb46) ?_)
        intro a55 hA56
        refine q_step hA56 rfl (d_pickF (wn rfl) (hA56.ev (v := (.bool false)) rfl) (hA56.ev (v := (.bool false)) rfl) ?_)
        intro a57 hA58
        refine q_step hA58 rfl (d_assign (wn rfl) (hA58.ev (v := (.bool false)) rfl) ?_)
        intro a59 hA60
        refine q_end ?_
        exact ⟨hA60.cut _ (fm_cons ((hA60.get 2 _ rfl).trans (congrArg Value.bool (by simp [hb21, hb46]))) fm_nil), b9, m7⟩
  rintro a15 w16 ⟨hA61, b62, m63⟩
  refine t_norm ?_
  refine wp_ret ?_
  refine ret1 rfl hA61 (v := (.bool ((i.op == 4) || (i.op == 6)))) rfl ?_
  exact ⟨ret_bool (by first | (simp [rdB, Bool.or_assoc, Bool.and_assoc]; done) | (rw [Bool.eq_iff_iff]; simp [rdB]; done) | (rw [Bool.eq_iff_iff]; simp [rdB]; omega) | grind), b62⟩
set_option maxHeartbeats 4000000 in
set_option maxRecDepth 4000 in
theorem writes_any (i : Ins) (w : World) : Calls Try.prog 13 #[.agg (insC i)] w fun e w' => e = .returned (.bool (wrB i)) ∧ Grow w w' := by
  have b0 : Below w.heap.size w w := Below.refl _ _
  refine enter (n := 11) Try.func13 rfl rfl (Nat.le_of_ble_eq_true rfl) ?_
  intro a1 hA2
  refine wp_seq ?_
  refine wp_region_lit ?_
  refine q_step hA2 rfl (d_box (wn rfl) (hA2.ev (v := (.agg (insC i))) rfl) ?_)
  intro g3 w4 eg5 hG6 (m7 : Blk w4 g3 (insC i) 23)
  have ge8 : w.heap.size ≤ g3 := eg5 ▸ b0.size
  have b9 := below_grow b0 hG6 b0.size
  intro a10 hA11
  refine q_step hA11 rfl (d_assign (wn rfl) (hA11.ev (v := (.bool false)) rfl) ?_)
  intro a12 hA13
  refine q_end ?_
  have hA14 : St 11 [(1, (.pointer (some ⟨g3, 0, none⟩))), (2, (.bool false))] a12 := hA13.cut _ (fm_cons (hA13.get 1 _ rfl) (fm_cons (hA13.get 2 _ rfl) fm_nil))
  refine t_norm ?_
  refine wp_seq ?_
  refine join_wp (K := fun a15 w16 => St 11 [(2, (.bool ((i.op == 5) || (i.op == 6))))] a15 ∧ Below w.heap.size w w16 ∧ Blk w16 g3 (insC i) 23) ?_ ?_
  · skip
    refine wp_region_lit ?_
    refine q_step hA14 rfl (d_fieldAddr (wn rfl) (hA14.ev (v := (.pointer (some ⟨g3, 0, none⟩))) rfl) fo23_0 ?_)
    intro a17 hA18
    refine q_step hA18 rfl (d_load (v := (.int .i64 i.op)) (wn rfl) (hA18.ev (v := (.pointer (some ⟨g3, 0, none⟩))) rfl) one3 (m7.cell rfl) ?_)
    intro a19 hA20
    rcases Bool.eq_false_or_eq_true (i.op == 5) with hb21 | hb21
    · skip
      have hq22 := eq_of_beq hb21
      refine q_step hA20 rfl (d_bin (wn rfl) (hA20.ev (v := (.int .i64 i.op)) rfl) (hA20.ev (v := (.int .i64 5)) rfl) (b_eq _ _ i.op 5 true _ hb21) ?_)
      intro a23 hA24
      refine q_step hA24 rfl (d_move (wn rfl) (hA24.ev (v := (.bool true)) rfl) ?_)
      intro a25 hA26
      refine q_step hA26 rfl (does_not (wno rfl rfl (.inl (hA26.get 6 _ rfl))) ?_)
      intro a27 hA28
      refine q_step hA28 rfl (does_not (wno rfl rfl (.inl (hA28.get 6 _ rfl))) ?_)
      intro a29 hA30
      refine q_step hA30 rfl (does_not (wno rfl rfl (.inl (hA30.get 6 _ rfl))) ?_)
      intro a31 hA32
      refine q_step hA32 rfl (d_pickT (wn rfl) (hA32.ev (v := (.bool true)) rfl) (hA32.ev (v := (.bool true)) rfl) ?_)
      intro a33 hA34
      refine q_step hA34 rfl (d_assign (wn rfl) (hA34.ev (v := (.bool true)) rfl) ?_)
      intro a35 hA36
      refine q_end ?_
      exact ⟨hA36.cut _ (fm_cons ((hA36.get 2 _ rfl).trans (congrArg Value.bool (by simp [hb21]))) fm_nil), b9, m7⟩
    · skip
      have hq37 := ne_of_beq hb21
      refine q_step hA20 rfl (d_bin (wn rfl) (hA20.ev (v := (.int .i64 i.op)) rfl) (hA20.ev (v := (.int .i64 5)) rfl) (b_eq _ _ i.op 5 false _ hb21) ?_)
      intro a38 hA39
      refine q_step hA39 rfl (d_move (wn rfl) (hA39.ev (v := (.bool false)) rfl) ?_)
      intro a40 hA41
      refine q_step hA41 rfl (d_fieldAddr (wy rfl rfl (hA41.get 6 _ rfl)) (hA41.ev (v := (.pointer (some ⟨g3, 0, none⟩))) rfl) fo23_0 ?_)
      intro a42 hA43
      refine q_step hA43 rfl (d_load (v := (.int .i64 i.op)) (wy rfl rfl (hA43.get 6 _ rfl)) (hA43.ev (v := (.pointer (some ⟨g3, 0, none⟩))) rfl) one3 (m7.cell rfl) ?_)
      intro a44 hA45
      rcases Bool.eq_false_or_eq_true (i.op == 6) with hb46 | hb46
      · skip
        have hq47 := eq_of_beq hb46
        refine q_step hA45 rfl (d_bin (wy rfl rfl (hA45.get 6 _ rfl)) (hA45.ev (v := (.int .i64 i.op)) rfl) (hA45.ev (v := (.int .i64 6)) rfl) (b_eq _ _ i.op 6 true _ hb46) ?_)
        intro a48 hA49
        refine q_step hA49 rfl (d_pickF (wn rfl) (hA49.ev (v := (.bool false)) rfl) (hA49.ev (v := (.bool true)) rfl) ?_)
        intro a50 hA51
        refine q_step hA51 rfl (d_assign (wn rfl) (hA51.ev (v := (.bool true)) rfl) ?_)
        intro a52 hA53
        refine q_end ?_
        exact ⟨hA53.cut _ (fm_cons ((hA53.get 2 _ rfl).trans (congrArg Value.bool (by simp [hb21, hb46]))) fm_nil), b9, m7⟩
      · skip
        have hq54 := ne_of_beq hb46
        refine q_step hA45 rfl (d_bin (wy rfl rfl (hA45.get 6 _ rfl)) (hA45.ev (v := (.int .i64 i.op)) rfl) (hA45.ev (v := (.int .i64 6)) rfl) (b_eq _ _ i.op 6 false _ hb46) ?_)
        intro a55 hA56
        refine q_step hA56 rfl (d_pickF (wn rfl) (hA56.ev (v := (.bool false)) rfl) (hA56.ev (v := (.bool false)) rfl) ?_)
        intro a57 hA58
        refine q_step hA58 rfl (d_assign (wn rfl) (hA58.ev (v := (.bool false)) rfl) ?_)
        intro a59 hA60
        refine q_end ?_
        exact ⟨hA60.cut _ (fm_cons ((hA60.get 2 _ rfl).trans (congrArg Value.bool (by simp [hb21, hb46]))) fm_nil), b9, m7⟩
  rintro a15 w16 ⟨hA61, b62, m63⟩
  refine t_norm ?_
  refine wp_ret ?_
  refine ret1 rfl hA61 (v := (.bool ((i.op == 5) || (i.op == 6)))) rfl ?_
  exact ⟨ret_bool (by first | (simp [wrB, Bool.or_assoc, Bool.and_assoc]; done) | (rw [Bool.eq_iff_iff]; simp [wrB]; done) | (rw [Bool.eq_iff_iff]; simp [wrB]; omega) | grind), b62⟩
set_option maxHeartbeats 4000000 in
set_option maxRecDepth 4000 in
theorem rwrites_any (i : Ins) (w : World) : Calls Try.prog 14 #[.agg (insC i)] w fun e w' => e = .returned (.bool (wrB i)) ∧ Grow w w' := by
  have b0 : Below w.heap.size w w := Below.refl _ _
  refine enter (n := 11) Try.func14 rfl rfl (Nat.le_of_ble_eq_true rfl) ?_
  intro a1 hA2
  refine wp_seq ?_
  refine wp_region_lit ?_
  refine q_step hA2 rfl (d_box (wn rfl) (hA2.ev (v := (.agg (insC i))) rfl) ?_)
  intro g3 w4 eg5 hG6 (m7 : Blk w4 g3 (insC i) 23)
  have ge8 : w.heap.size ≤ g3 := eg5 ▸ b0.size
  have b9 := below_grow b0 hG6 b0.size
  intro a10 hA11
  refine q_step hA11 rfl (d_assign (wn rfl) (hA11.ev (v := (.bool false)) rfl) ?_)
  intro a12 hA13
  refine q_end ?_
  have hA14 : St 11 [(1, (.pointer (some ⟨g3, 0, none⟩))), (2, (.bool false))] a12 := hA13.cut _ (fm_cons (hA13.get 1 _ rfl) (fm_cons (hA13.get 2 _ rfl) fm_nil))
  refine t_norm ?_
  refine wp_seq ?_
  refine join_wp (K := fun a15 w16 => St 11 [(2, (.bool ((i.op == 5) || (i.op == 6))))] a15 ∧ Below w.heap.size w w16 ∧ Blk w16 g3 (insC i) 23) ?_ ?_
  · skip
    refine wp_region_lit ?_
    refine q_step hA14 rfl (d_fieldAddr (wn rfl) (hA14.ev (v := (.pointer (some ⟨g3, 0, none⟩))) rfl) fo23_0 ?_)
    intro a17 hA18
    refine q_step hA18 rfl (d_load (v := (.int .i64 i.op)) (wn rfl) (hA18.ev (v := (.pointer (some ⟨g3, 0, none⟩))) rfl) one3 (m7.cell rfl) ?_)
    intro a19 hA20
    rcases Bool.eq_false_or_eq_true (i.op == 5) with hb21 | hb21
    · skip
      have hq22 := eq_of_beq hb21
      refine q_step hA20 rfl (d_bin (wn rfl) (hA20.ev (v := (.int .i64 i.op)) rfl) (hA20.ev (v := (.int .i64 5)) rfl) (b_eq _ _ i.op 5 true _ hb21) ?_)
      intro a23 hA24
      refine q_step hA24 rfl (d_move (wn rfl) (hA24.ev (v := (.bool true)) rfl) ?_)
      intro a25 hA26
      refine q_step hA26 rfl (does_not (wno rfl rfl (.inl (hA26.get 6 _ rfl))) ?_)
      intro a27 hA28
      refine q_step hA28 rfl (does_not (wno rfl rfl (.inl (hA28.get 6 _ rfl))) ?_)
      intro a29 hA30
      refine q_step hA30 rfl (does_not (wno rfl rfl (.inl (hA30.get 6 _ rfl))) ?_)
      intro a31 hA32
      refine q_step hA32 rfl (d_pickT (wn rfl) (hA32.ev (v := (.bool true)) rfl) (hA32.ev (v := (.bool true)) rfl) ?_)
      intro a33 hA34
      refine q_step hA34 rfl (d_assign (wn rfl) (hA34.ev (v := (.bool true)) rfl) ?_)
      intro a35 hA36
      refine q_end ?_
      exact ⟨hA36.cut _ (fm_cons ((hA36.get 2 _ rfl).trans (congrArg Value.bool (by simp [hb21]))) fm_nil), b9, m7⟩
    · skip
      have hq37 := ne_of_beq hb21
      refine q_step hA20 rfl (d_bin (wn rfl) (hA20.ev (v := (.int .i64 i.op)) rfl) (hA20.ev (v := (.int .i64 5)) rfl) (b_eq _ _ i.op 5 false _ hb21) ?_)
      intro a38 hA39
      refine q_step hA39 rfl (d_move (wn rfl) (hA39.ev (v := (.bool false)) rfl) ?_)
      intro a40 hA41
      refine q_step hA41 rfl (d_fieldAddr (wy rfl rfl (hA41.get 6 _ rfl)) (hA41.ev (v := (.pointer (some ⟨g3, 0, none⟩))) rfl) fo23_0 ?_)
      intro a42 hA43
      refine q_step hA43 rfl (d_load (v := (.int .i64 i.op)) (wy rfl rfl (hA43.get 6 _ rfl)) (hA43.ev (v := (.pointer (some ⟨g3, 0, none⟩))) rfl) one3 (m7.cell rfl) ?_)
      intro a44 hA45
      rcases Bool.eq_false_or_eq_true (i.op == 6) with hb46 | hb46
      · skip
        have hq47 := eq_of_beq hb46
        refine q_step hA45 rfl (d_bin (wy rfl rfl (hA45.get 6 _ rfl)) (hA45.ev (v := (.int .i64 i.op)) rfl) (hA45.ev (v := (.int .i64 6)) rfl) (b_eq _ _ i.op 6 true _ hb46) ?_)
        intro a48 hA49
        refine q_step hA49 rfl (d_pickF (wn rfl) (hA49.ev (v := (.bool false)) rfl) (hA49.ev (v := (.bool true)) rfl) ?_)
        intro a50 hA51
        refine q_step hA51 rfl (d_assign (wn rfl) (hA51.ev (v := (.bool true)) rfl) ?_)
        intro a52 hA53
        refine q_end ?_
        exact ⟨hA53.cut _ (fm_cons ((hA53.get 2 _ rfl).trans (congrArg Value.bool (by simp [hb21, hb46]))) fm_nil), b9, m7⟩
      · skip
        have hq54 := ne_of_beq hb46
        refine q_step hA45 rfl (d_bin (wy rfl rfl (hA45.get 6 _ rfl)) (hA45.ev (v := (.int .i64 i.op)) rfl) (hA45.ev (v := (.int .i64 6)) rfl) (b_eq _ _ i.op 6 false _ hb46) ?_)
        intro a55 hA56
        refine q_step hA56 rfl (d_pickF (wn rfl) (hA56.ev (v := (.bool false)) rfl) (hA56.ev (v := (.bool false)) rfl) ?_)
        intro a57 hA58
        refine q_step hA58 rfl (d_assign (wn rfl) (hA58.ev (v := (.bool false)) rfl) ?_)
        intro a59 hA60
        refine q_end ?_
        exact ⟨hA60.cut _ (fm_cons ((hA60.get 2 _ rfl).trans (congrArg Value.bool (by simp [hb21, hb46]))) fm_nil), b9, m7⟩
  rintro a15 w16 ⟨hA61, b62, m63⟩
  refine t_norm ?_
  refine wp_ret ?_
  refine ret1 rfl hA61 (v := (.bool ((i.op == 5) || (i.op == 6)))) rfl ?_
  exact ⟨ret_bool (by first | (simp [wrB, Bool.or_assoc, Bool.and_assoc]; done) | (rw [Bool.eq_iff_iff]; simp [wrB]; done) | (rw [Bool.eq_iff_iff]; simp [wrB]; omega) | grind), b62⟩
set_option maxHeartbeats 4000000 in
set_option maxRecDepth 4000 in
theorem isOp_any (i : Ins) (w : World) : Calls Try.prog 35 #[.agg (insC i)] w fun e w' => e = .returned (.bool (opB i)) ∧ Grow w w' := by
  have b0 : Below w.heap.size w w := Below.refl _ _
  refine enter (n := 9) Try.func35 rfl rfl (Nat.le_of_ble_eq_true rfl) ?_
  intro a1 hA2
  refine wp_seq ?_
  refine wp_region_lit ?_
  refine q_step hA2 rfl (d_box (wn rfl) (hA2.ev (v := (.agg (insC i))) rfl) ?_)
  intro g3 w4 eg5 hG6 (m7 : Blk w4 g3 (insC i) 23)
  have ge8 : w.heap.size ≤ g3 := eg5 ▸ b0.size
  have b9 := below_grow b0 hG6 b0.size
  intro a10 hA11
  refine q_step hA11 rfl (d_assign (wn rfl) (hA11.ev (v := (.bool false)) rfl) ?_)
  intro a12 hA13
  refine q_end ?_
  have hA14 : St 9 [(1, (.pointer (some ⟨g3, 0, none⟩))), (2, (.bool false))] a12 := hA13.cut _ (fm_cons (hA13.get 1 _ rfl) (fm_cons (hA13.get 2 _ rfl) fm_nil))
  refine t_norm ?_
  refine wp_seq ?_
  refine join_wp (K := fun a15 w16 => St 9 [(2, (.bool ((rdB i) || (wrB i))))] a15 ∧ Below w.heap.size w w16 ∧ Blk w16 g3 (insC i) 23) ?_ ?_
  · skip
    refine wp_region_lit ?_
    refine q_step hA14 rfl (d_loadRow (cs := (insC i)) (wn rfl) (hA14.ev (v := (.pointer (some ⟨g3, 0, none⟩))) rfl) row23 m7 ?_)
    intro a17 hA18
    refine q_step hA18 rfl (d_call (wn rfl) ent11 (map1 (hA18.ev (v := (.agg (insC i))) rfl)) (reads_any i w4) ?_)
    rintro e22 w19 ⟨he21, hG20⟩
    have m23 := m7.grow hG20
    have b24 := below_grow b9 hG20 b9.size
    rcases Bool.eq_false_or_eq_true (rdB i) with hb25 | hb25
    · skip
      refine ⟨.bool true, he21.trans (ret_bool hb25), ?_⟩
      intro a27 hA28
      refine q_step hA28 rfl (d_move (wn rfl) (hA28.ev (v := (.bool true)) rfl) ?_)
      intro a29 hA30
      refine q_step hA30 rfl (does_not (wno rfl rfl (.inl (hA30.get 5 _ rfl))) ?_)
      intro a31 hA32
      refine q_step hA32 rfl (does_not (wno rfl rfl (.inl (hA32.get 5 _ rfl))) ?_)
      intro a33 hA34
      refine q_step hA34 rfl (d_pickT (wn rfl) (hA34.ev (v := (.bool true)) rfl) (hA34.ev (v := (.bool true)) rfl) ?_)
      intro a35 hA36
      refine q_step hA36 rfl (d_assign (wn rfl) (hA36.ev (v := (.bool true)) rfl) ?_)
      intro a37 hA38
      refine q_end ?_
      exact ⟨hA38.cut _ (fm_cons ((hA38.get 2 _ rfl).trans (congrArg Value.bool (by simp [hb25]))) fm_nil), b24, m23⟩
    · skip
      refine ⟨.bool false, he21.trans (ret_bool hb25), ?_⟩
      intro a40 hA41
      refine q_step hA41 rfl (d_move (wn rfl) (hA41.ev (v := (.bool false)) rfl) ?_)
      intro a42 hA43
      refine q_step hA43 rfl (d_loadRow (cs := (insC i)) (wy rfl rfl (hA43.get 5 _ rfl)) (hA43.ev (v := (.pointer (some ⟨g3, 0, none⟩))) rfl) row23 m23 ?_)
      intro a44 hA45
      refine q_step hA45 rfl (d_call (wy rfl rfl (hA45.get 5 _ rfl)) ent13 (map1 (hA45.ev (v := (.agg (insC i))) rfl)) (writes_any i w19) ?_)
      rintro e49 w46 ⟨he48, hG47⟩
      have m50 := m23.grow hG47
      have b51 := below_grow b24 hG47 b24.size
      rcases Bool.eq_false_or_eq_true (wrB i) with hb52 | hb52
      · skip
        refine ⟨.bool true, he48.trans (ret_bool hb52), ?_⟩
        intro a54 hA55
        refine q_step hA55 rfl (d_pickF (wn rfl) (hA55.ev (v := (.bool false)) rfl) (hA55.ev (v := (.bool true)) rfl) ?_)
        intro a56 hA57
        refine q_step hA57 rfl (d_assign (wn rfl) (hA57.ev (v := (.bool true)) rfl) ?_)
        intro a58 hA59
        refine q_end ?_
        exact ⟨hA59.cut _ (fm_cons ((hA59.get 2 _ rfl).trans (congrArg Value.bool (by simp [hb25, hb52]))) fm_nil), b51, m50⟩
      · skip
        refine ⟨.bool false, he48.trans (ret_bool hb52), ?_⟩
        intro a61 hA62
        refine q_step hA62 rfl (d_pickF (wn rfl) (hA62.ev (v := (.bool false)) rfl) (hA62.ev (v := (.bool false)) rfl) ?_)
        intro a63 hA64
        refine q_step hA64 rfl (d_assign (wn rfl) (hA64.ev (v := (.bool false)) rfl) ?_)
        intro a65 hA66
        refine q_end ?_
        exact ⟨hA66.cut _ (fm_cons ((hA66.get 2 _ rfl).trans (congrArg Value.bool (by simp [hb25, hb52]))) fm_nil), b51, m50⟩
  rintro a15 w16 ⟨hA67, b68, m69⟩
  refine t_norm ?_
  refine wp_ret ?_
  refine ret1 rfl hA67 (v := (.bool ((rdB i) || (wrB i)))) rfl ?_
  exact ⟨ret_bool (by first | (simp [opB, Bool.or_assoc, Bool.and_assoc]; done) | (rw [Bool.eq_iff_iff]; simp [opB]; done) | (rw [Bool.eq_iff_iff]; simp [opB]; omega) | grind), b68⟩
set_option maxHeartbeats 4000000 in
set_option maxRecDepth 4000 in
theorem memory_any (i : Ins) (w : World) : Calls Try.prog 32 #[.agg (insC i)] w fun e w' => e = .returned (.bool (opB i)) ∧ Grow w w' := by
  have b0 : Below w.heap.size w w := Below.refl _ _
  refine enter (n := 16) Try.func32 rfl rfl (Nat.le_of_ble_eq_true rfl) ?_
  intro a1 hA2
  refine wp_seq ?_
  refine wp_region_lit ?_
  refine q_step hA2 rfl (d_box (wn rfl) (hA2.ev (v := (.agg (insC i))) rfl) ?_)
  intro g3 w4 eg5 hG6 (m7 : Blk w4 g3 (insC i) 23)
  have ge8 : w.heap.size ≤ g3 := eg5 ▸ b0.size
  have b9 := below_grow b0 hG6 b0.size
  intro a10 hA11
  refine q_step hA11 rfl (d_assign (wn rfl) (hA11.ev (v := (.bool false)) rfl) ?_)
  intro a12 hA13
  refine q_end ?_
  have hA14 : St 16 [(1, (.pointer (some ⟨g3, 0, none⟩))), (2, (.bool false))] a12 := hA13.cut _ (fm_cons (hA13.get 1 _ rfl) (fm_cons (hA13.get 2 _ rfl) fm_nil))
  refine t_norm ?_
  refine wp_seq ?_
  refine join_wp (K := fun a15 w16 => St 16 [(2, (.bool ((i.op == 4) || ((i.op == 5) || (i.op == 6)))))] a15 ∧ Below w.heap.size w w16 ∧ Blk w16 g3 (insC i) 23) ?_ ?_
  · skip
    refine wp_region_lit ?_
    refine q_step hA14 rfl (d_fieldAddr (wn rfl) (hA14.ev (v := (.pointer (some ⟨g3, 0, none⟩))) rfl) fo23_0 ?_)
    intro a17 hA18
    refine q_step hA18 rfl (d_load (v := (.int .i64 i.op)) (wn rfl) (hA18.ev (v := (.pointer (some ⟨g3, 0, none⟩))) rfl) one3 (m7.cell rfl) ?_)
    intro a19 hA20
    rcases Bool.eq_false_or_eq_true (i.op == 4) with hb21 | hb21
    · skip
      have hq22 := eq_of_beq hb21
      refine q_step hA20 rfl (d_bin (wn rfl) (hA20.ev (v := (.int .i64 i.op)) rfl) (hA20.ev (v := (.int .i64 4)) rfl) (b_eq _ _ i.op 4 true _ hb21) ?_)
      intro a23 hA24
      refine q_step hA24 rfl (d_move (wn rfl) (hA24.ev (v := (.bool true)) rfl) ?_)
      intro a25 hA26
      refine q_step hA26 rfl (does_not (wno rfl rfl (.inl (hA26.get 6 _ rfl))) ?_)
      intro a27 hA28
      refine q_step hA28 rfl (does_not (wno rfl rfl (.inl (hA28.get 6 _ rfl))) ?_)
      intro a29 hA30
      refine q_step hA30 rfl (does_not (wno rfl rfl (.inl (hA30.get 6 _ rfl))) ?_)
      intro a31 hA32
      refine q_step hA32 rfl (d_pickT (wn rfl) (hA32.ev (v := (.bool true)) rfl) (hA32.ev (v := (.bool true)) rfl) ?_)
      intro a33 hA34
      refine q_step hA34 rfl (d_move (wn rfl) (hA34.ev (v := (.bool true)) rfl) ?_)
      intro a35 hA36
      refine q_step hA36 rfl (does_not (wno rfl rfl (.inl (hA36.get 11 _ rfl))) ?_)
      intro a37 hA38
      refine q_step hA38 rfl (does_not (wno rfl rfl (.inl (hA38.get 11 _ rfl))) ?_)
      intro a39 hA40
      refine q_step hA40 rfl (does_not (wno rfl rfl (.inl (hA40.get 11 _ rfl))) ?_)
      intro a41 hA42
      refine q_step hA42 rfl (d_pickT (wn rfl) (hA42.ev (v := (.bool true)) rfl) (hA42.ev (v := (.bool true)) rfl) ?_)
      intro a43 hA44
      refine q_step hA44 rfl (d_assign (wn rfl) (hA44.ev (v := (.bool true)) rfl) ?_)
      intro a45 hA46
      refine q_end ?_
      exact ⟨hA46.cut _ (fm_cons ((hA46.get 2 _ rfl).trans (congrArg Value.bool (by simp [hb21]))) fm_nil), b9, m7⟩
    · skip
      have hq47 := ne_of_beq hb21
      refine q_step hA20 rfl (d_bin (wn rfl) (hA20.ev (v := (.int .i64 i.op)) rfl) (hA20.ev (v := (.int .i64 4)) rfl) (b_eq _ _ i.op 4 false _ hb21) ?_)
      intro a48 hA49
      refine q_step hA49 rfl (d_move (wn rfl) (hA49.ev (v := (.bool false)) rfl) ?_)
      intro a50 hA51
      refine q_step hA51 rfl (d_fieldAddr (wy rfl rfl (hA51.get 6 _ rfl)) (hA51.ev (v := (.pointer (some ⟨g3, 0, none⟩))) rfl) fo23_0 ?_)
      intro a52 hA53
      refine q_step hA53 rfl (d_load (v := (.int .i64 i.op)) (wy rfl rfl (hA53.get 6 _ rfl)) (hA53.ev (v := (.pointer (some ⟨g3, 0, none⟩))) rfl) one3 (m7.cell rfl) ?_)
      intro a54 hA55
      rcases Bool.eq_false_or_eq_true (i.op == 5) with hb56 | hb56
      · skip
        have hq57 := eq_of_beq hb56
        refine q_step hA55 rfl (d_bin (wy rfl rfl (hA55.get 6 _ rfl)) (hA55.ev (v := (.int .i64 i.op)) rfl) (hA55.ev (v := (.int .i64 5)) rfl) (b_eq _ _ i.op 5 true _ hb56) ?_)
        intro a58 hA59
        refine q_step hA59 rfl (d_pickF (wn rfl) (hA59.ev (v := (.bool false)) rfl) (hA59.ev (v := (.bool true)) rfl) ?_)
        intro a60 hA61
        refine q_step hA61 rfl (d_move (wn rfl) (hA61.ev (v := (.bool true)) rfl) ?_)
        intro a62 hA63
        refine q_step hA63 rfl (does_not (wno rfl rfl (.inl (hA63.get 11 _ rfl))) ?_)
        intro a64 hA65
        refine q_step hA65 rfl (does_not (wno rfl rfl (.inl (hA65.get 11 _ rfl))) ?_)
        intro a66 hA67
        refine q_step hA67 rfl (does_not (wno rfl rfl (.inl (hA67.get 11 _ rfl))) ?_)
        intro a68 hA69
        refine q_step hA69 rfl (d_pickT (wn rfl) (hA69.ev (v := (.bool true)) rfl) (hA69.ev (v := (.bool true)) rfl) ?_)
        intro a70 hA71
        refine q_step hA71 rfl (d_assign (wn rfl) (hA71.ev (v := (.bool true)) rfl) ?_)
        intro a72 hA73
        refine q_end ?_
        exact ⟨hA73.cut _ (fm_cons ((hA73.get 2 _ rfl).trans (congrArg Value.bool (by simp [hb21, hb56]))) fm_nil), b9, m7⟩
      · skip
        have hq74 := ne_of_beq hb56
        refine q_step hA55 rfl (d_bin (wy rfl rfl (hA55.get 6 _ rfl)) (hA55.ev (v := (.int .i64 i.op)) rfl) (hA55.ev (v := (.int .i64 5)) rfl) (b_eq _ _ i.op 5 false _ hb56) ?_)
        intro a75 hA76
        refine q_step hA76 rfl (d_pickF (wn rfl) (hA76.ev (v := (.bool false)) rfl) (hA76.ev (v := (.bool false)) rfl) ?_)
        intro a77 hA78
        refine q_step hA78 rfl (d_move (wn rfl) (hA78.ev (v := (.bool false)) rfl) ?_)
        intro a79 hA80
        refine q_step hA80 rfl (d_fieldAddr (wy rfl rfl (hA80.get 11 _ rfl)) (hA80.ev (v := (.pointer (some ⟨g3, 0, none⟩))) rfl) fo23_0 ?_)
        intro a81 hA82
        refine q_step hA82 rfl (d_load (v := (.int .i64 i.op)) (wy rfl rfl (hA82.get 11 _ rfl)) (hA82.ev (v := (.pointer (some ⟨g3, 0, none⟩))) rfl) one3 (m7.cell rfl) ?_)
        intro a83 hA84
        rcases Bool.eq_false_or_eq_true (i.op == 6) with hb85 | hb85
        · skip
          have hq86 := eq_of_beq hb85
          refine q_step hA84 rfl (d_bin (wy rfl rfl (hA84.get 11 _ rfl)) (hA84.ev (v := (.int .i64 i.op)) rfl) (hA84.ev (v := (.int .i64 6)) rfl) (b_eq _ _ i.op 6 true _ hb85) ?_)
          intro a87 hA88
          refine q_step hA88 rfl (d_pickF (wn rfl) (hA88.ev (v := (.bool false)) rfl) (hA88.ev (v := (.bool true)) rfl) ?_)
          intro a89 hA90
          refine q_step hA90 rfl (d_assign (wn rfl) (hA90.ev (v := (.bool true)) rfl) ?_)
          intro a91 hA92
          refine q_end ?_
          exact ⟨hA92.cut _ (fm_cons ((hA92.get 2 _ rfl).trans (congrArg Value.bool (by simp [hb21, hb56, hb85]))) fm_nil), b9, m7⟩
        · skip
          have hq93 := ne_of_beq hb85
          refine q_step hA84 rfl (d_bin (wy rfl rfl (hA84.get 11 _ rfl)) (hA84.ev (v := (.int .i64 i.op)) rfl) (hA84.ev (v := (.int .i64 6)) rfl) (b_eq _ _ i.op 6 false _ hb85) ?_)
          intro a94 hA95
          refine q_step hA95 rfl (d_pickF (wn rfl) (hA95.ev (v := (.bool false)) rfl) (hA95.ev (v := (.bool false)) rfl) ?_)
          intro a96 hA97
          refine q_step hA97 rfl (d_assign (wn rfl) (hA97.ev (v := (.bool false)) rfl) ?_)
          intro a98 hA99
          refine q_end ?_
          exact ⟨hA99.cut _ (fm_cons ((hA99.get 2 _ rfl).trans (congrArg Value.bool (by simp [hb21, hb56, hb85]))) fm_nil), b9, m7⟩
  rintro a15 w16 ⟨hA100, b101, m102⟩
  refine t_norm ?_
  refine wp_ret ?_
  refine ret1 rfl hA100 (v := (.bool ((i.op == 4) || ((i.op == 5) || (i.op == 6))))) rfl ?_
  exact ⟨ret_bool (by first | (simp [opB, rdB, wrB, Bool.or_assoc, Bool.and_assoc]; done) | (rw [Bool.eq_iff_iff]; simp [opB, rdB, wrB]; done) | (rw [Bool.eq_iff_iff]; simp [opB, rdB, wrB]; omega) | grind), b101⟩
set_option maxHeartbeats 4000000 in
set_option maxRecDepth 4000 in
theorem isAccess_any (i : Ins) (w : World) : Calls Try.prog 42 #[.agg (insC i)] w fun e w' => e = .returned (.bool (accB i)) ∧ Grow w w' := by
  have b0 : Below w.heap.size w w := Below.refl _ _
  refine enter (n := 24) Try.func42 rfl rfl (Nat.le_of_ble_eq_true rfl) ?_
  intro a1 hA2
  refine wp_seq ?_
  refine wp_region_lit ?_
  refine q_step hA2 rfl (d_box (wn rfl) (hA2.ev (v := (.agg (insC i))) rfl) ?_)
  intro g3 w4 eg5 hG6 (m7 : Blk w4 g3 (insC i) 23)
  have ge8 : w.heap.size ≤ g3 := eg5 ▸ b0.size
  have b9 := below_grow b0 hG6 b0.size
  intro a10 hA11
  refine q_step hA11 rfl (d_assign (wn rfl) (hA11.ev (v := (.bool false)) rfl) ?_)
  intro a12 hA13
  refine q_end ?_
  have hA14 : St 24 [(1, (.pointer (some ⟨g3, 0, none⟩))), (2, (.bool false))] a12 := hA13.cut _ (fm_cons (hA13.get 1 _ rfl) (fm_cons (hA13.get 2 _ rfl) fm_nil))
  refine t_norm ?_
  refine wp_seq ?_
  refine join_wp (K := fun a15 w16 => St 24 [(2, (.bool ((decide (i.loc ≥ 0)) && ((decide (i.loc < 3)) && ((ronB i.index) && (!(maskR i.off i.size == 0)))))))] a15 ∧ Below w.heap.size w w16 ∧ Blk w16 g3 (insC i) 23) ?_ ?_
  · skip
    refine wp_region_lit ?_
    refine q_step hA14 rfl (d_fieldAddr (wn rfl) (hA14.ev (v := (.pointer (some ⟨g3, 0, none⟩))) rfl) fo23_5 ?_)
    intro a17 hA18
    refine q_step hA18 rfl (d_load (v := (.int .i64 i.loc)) (wn rfl) (hA18.ev (v := (.pointer (some ⟨g3, 5, none⟩))) rfl) one3 (m7.cell rfl) ?_)
    intro a19 hA20
    rcases Bool.eq_false_or_eq_true (decide (i.loc ≥ 0)) with hb21 | hb21
    · skip
      have hq22 := of_decide_eq_true hb21
      refine q_step hA20 rfl (d_bin (wn rfl) (hA20.ev (v := (.int .i64 i.loc)) rfl) (hA20.ev (v := (.int .i64 0)) rfl) (b_ge _ _ i.loc 0 true _ hb21) ?_)
      intro a23 hA24
      refine q_step hA24 rfl (d_move (wn rfl) (hA24.ev (v := (.bool true)) rfl) ?_)
      intro a25 hA26
      refine q_step hA26 rfl (d_fieldAddr (wy rfl rfl (hA26.get 6 _ rfl)) (hA26.ev (v := (.pointer (some ⟨g3, 0, none⟩))) rfl) fo23_5 ?_)
      intro a27 hA28
      refine q_step hA28 rfl (d_load (v := (.int .i64 i.loc)) (wy rfl rfl (hA28.get 6 _ rfl)) (hA28.ev (v := (.pointer (some ⟨g3, 5, none⟩))) rfl) one3 (m7.cell rfl) ?_)
      intro a29 hA30
      rcases Bool.eq_false_or_eq_true (decide (i.loc < 3)) with hb31 | hb31
      · skip
        have hq32 := of_decide_eq_true hb31
        refine q_step hA30 rfl (d_bin (wy rfl rfl (hA30.get 6 _ rfl)) (hA30.ev (v := (.int .i64 i.loc)) rfl) (hA30.ev (v := (.int .i64 3)) rfl) (b_lt _ _ i.loc 3 true _ hb31) ?_)
        intro a33 hA34
        refine q_step hA34 rfl (d_pickT (wn rfl) (hA34.ev (v := (.bool true)) rfl) (hA34.ev (v := (.bool true)) rfl) ?_)
        intro a35 hA36
        refine q_step hA36 rfl (d_move (wn rfl) (hA36.ev (v := (.bool true)) rfl) ?_)
        intro a37 hA38
        refine q_step hA38 rfl (d_fieldAddr (wy rfl rfl (hA38.get 11 _ rfl)) (hA38.ev (v := (.pointer (some ⟨g3, 0, none⟩))) rfl) fo23_7 ?_)
        intro a39 hA40
        refine q_step hA40 rfl (d_load (v := (.int .i64 i.index)) (wy rfl rfl (hA40.get 11 _ rfl)) (hA40.ev (v := (.pointer (some ⟨g3, 7, none⟩))) rfl) one3 (m7.cell rfl) ?_)
        intro a41 hA42
        refine q_step hA42 rfl (d_call (wy rfl rfl (hA42.get 11 _ rfl)) ent41 (map1 (hA42.ev (v := (.int .i64 i.index)) rfl)) (isRegOrNone_any i.index w4) ?_)
        rintro e46 w43 ⟨he45, hG44⟩
        have m47 := m7.grow hG44
        have b48 := below_grow b9 hG44 b9.size
        rcases Bool.eq_false_or_eq_true (ronB i.index) with hb49 | hb49
        · skip
          refine ⟨.bool true, he45.trans (ret_bool hb49), ?_⟩
          intro a51 hA52
          refine q_step hA52 rfl (d_pickT (wn rfl) (hA52.ev (v := (.bool true)) rfl) (hA52.ev (v := (.bool true)) rfl) ?_)
          intro a53 hA54
          refine q_step hA54 rfl (d_move (wn rfl) (hA54.ev (v := (.bool true)) rfl) ?_)
          intro a55 hA56
          refine q_step hA56 rfl (d_fieldAddr (wy rfl rfl (hA56.get 16 _ rfl)) (hA56.ev (v := (.pointer (some ⟨g3, 0, none⟩))) rfl) fo23_6 ?_)
          intro a57 hA58
          refine q_step hA58 rfl (d_load (v := (.int .i64 i.off)) (wy rfl rfl (hA58.get 16 _ rfl)) (hA58.ev (v := (.pointer (some ⟨g3, 6, none⟩))) rfl) one3 (m47.cell rfl) ?_)
          intro a59 hA60
          refine q_step hA60 rfl (d_fieldAddr (wy rfl rfl (hA60.get 16 _ rfl)) (hA60.ev (v := (.pointer (some ⟨g3, 0, none⟩))) rfl) fo23_8 ?_)
          intro a61 hA62
          refine q_step hA62 rfl (d_load (v := (.int .i64 i.size)) (wy rfl rfl (hA62.get 16 _ rfl)) (hA62.ev (v := (.pointer (some ⟨g3, 8, none⟩))) rfl) one3 (m47.cell rfl) ?_)
          intro a63 hA64
          refine q_step hA64 rfl (d_call (wy rfl rfl (hA64.get 16 _ rfl)) ent55 (map2 (hA64.ev (v := (.int .i64 i.off)) rfl) (hA64.ev (v := (.int .i64 i.size)) rfl)) (mask_all i.off i.size w43) ?_)
          rintro e68 w65 ⟨he67, hG660⟩
          have hG66 : Grow w43 w65 := hG660 ▸ Grow.refl _
          have m69 := m47.grow hG66
          have b70 := below_grow b48 hG66 b48.size
          refine ⟨(.int .i64 (maskR i.off i.size)), he67, ?_⟩
          intro a71 hA72
          rcases Bool.eq_false_or_eq_true (maskR i.off i.size == 0) with hb73 | hb73
          · skip
            have hq74 := eq_of_beq hb73
            refine q_step hA72 rfl (d_bin (wy rfl rfl (hA72.get 16 _ rfl)) (hA72.ev (v := (.int .i64 (maskR i.off i.size))) rfl) (hA72.ev (v := (.int .i64 0)) rfl) (b_ne _ _ (maskR i.off i.size) 0 false _ (notof hb73)) ?_)
            intro a75 hA76
            refine q_step hA76 rfl (d_pickT (wn rfl) (hA76.ev (v := (.bool true)) rfl) (hA76.ev (v := (.bool false)) rfl) ?_)
            intro a77 hA78
            refine q_step hA78 rfl (d_assign (wn rfl) (hA78.ev (v := (.bool false)) rfl) ?_)
            intro a79 hA80
            refine q_end ?_
            exact ⟨hA80.cut _ (fm_cons ((hA80.get 2 _ rfl).trans (congrArg Value.bool (by simp [hb21, hb31, hb49, hb73]))) fm_nil), b70, m69⟩
          · skip
            have hq81 := ne_of_beq hb73
            refine q_step hA72 rfl (d_bin (wy rfl rfl (hA72.get 16 _ rfl)) (hA72.ev (v := (.int .i64 (maskR i.off i.size))) rfl) (hA72.ev (v := (.int .i64 0)) rfl) (b_ne _ _ (maskR i.off i.size) 0 true _ (notof hb73)) ?_)
            intro a82 hA83
            refine q_step hA83 rfl (d_pickT (wn rfl) (hA83.ev (v := (.bool true)) rfl) (hA83.ev (v := (.bool true)) rfl) ?_)
            intro a84 hA85
            refine q_step hA85 rfl (d_assign (wn rfl) (hA85.ev (v := (.bool true)) rfl) ?_)
            intro a86 hA87
            refine q_end ?_
            exact ⟨hA87.cut _ (fm_cons ((hA87.get 2 _ rfl).trans (congrArg Value.bool (by simp [hb21, hb31, hb49, hb73]))) fm_nil), b70, m69⟩
        · skip
          refine ⟨.bool false, he45.trans (ret_bool hb49), ?_⟩
          intro a89 hA90
          refine q_step hA90 rfl (d_pickT (wn rfl) (hA90.ev (v := (.bool true)) rfl) (hA90.ev (v := (.bool false)) rfl) ?_)
          intro a91 hA92
          refine q_step hA92 rfl (d_move (wn rfl) (hA92.ev (v := (.bool false)) rfl) ?_)
          intro a93 hA94
          refine q_step hA94 rfl (does_not (wno rfl rfl (.inl (hA94.get 16 _ rfl))) ?_)
          intro a95 hA96
          refine q_step hA96 rfl (does_not (wno rfl rfl (.inl (hA96.get 16 _ rfl))) ?_)
          intro a97 hA98
          refine q_step hA98 rfl (does_not (wno rfl rfl (.inl (hA98.get 16 _ rfl))) ?_)
          intro a99 hA100
          refine q_step hA100 rfl (does_not (wno rfl rfl (.inl (hA100.get 16 _ rfl))) ?_)
          intro a101 hA102
          refine q_step hA102 rfl (does_not (wno rfl rfl (.inl (hA102.get 16 _ rfl))) ?_)
          intro a103 hA104
          refine q_step hA104 rfl (does_not (wno rfl rfl (.inl (hA104.get 16 _ rfl))) ?_)
          intro a105 hA106
          refine q_step hA106 rfl (d_pickF (wn rfl) (hA106.ev (v := (.bool false)) rfl) (hA106.ev (v := (.bool false)) rfl) ?_)
          intro a107 hA108
          refine q_step hA108 rfl (d_assign (wn rfl) (hA108.ev (v := (.bool false)) rfl) ?_)
          intro a109 hA110
          refine q_end ?_
          exact ⟨hA110.cut _ (fm_cons ((hA110.get 2 _ rfl).trans (congrArg Value.bool (by simp [hb21, hb31, hb49]))) fm_nil), b48, m47⟩
      · skip
        have hq111 := of_decide_eq_false hb31
        refine q_step hA30 rfl (d_bin (wy rfl rfl (hA30.get 6 _ rfl)) (hA30.ev (v := (.int .i64 i.loc)) rfl) (hA30.ev (v := (.int .i64 3)) rfl) (b_lt _ _ i.loc 3 false _ hb31) ?_)
        intro a112 hA113
        refine q_step hA113 rfl (d_pickT (wn rfl) (hA113.ev (v := (.bool true)) rfl) (hA113.ev (v := (.bool false)) rfl) ?_)
        intro a114 hA115
        refine q_step hA115 rfl (d_move (wn rfl) (hA115.ev (v := (.bool false)) rfl) ?_)
        intro a116 hA117
        refine q_step hA117 rfl (does_not (wno rfl rfl (.inl (hA117.get 11 _ rfl))) ?_)
        intro a118 hA119
        refine q_step hA119 rfl (does_not (wno rfl rfl (.inl (hA119.get 11 _ rfl))) ?_)
        intro a120 hA121
        refine q_step hA121 rfl (does_not (wno rfl rfl (.inl (hA121.get 11 _ rfl))) ?_)
        intro a122 hA123
        refine q_step hA123 rfl (d_pickF (wn rfl) (hA123.ev (v := (.bool false)) rfl) (hA123.ev (v := (.bool false)) rfl) ?_)
        intro a124 hA125
        refine q_step hA125 rfl (d_move (wn rfl) (hA125.ev (v := (.bool false)) rfl) ?_)
        intro a126 hA127
        refine q_step hA127 rfl (does_not (wno rfl rfl (.inl (hA127.get 16 _ rfl))) ?_)
        intro a128 hA129
        refine q_step hA129 rfl (does_not (wno rfl rfl (.inl (hA129.get 16 _ rfl))) ?_)
        intro a130 hA131
        refine q_step hA131 rfl (does_not (wno rfl rfl (.inl (hA131.get 16 _ rfl))) ?_)
        intro a132 hA133
        refine q_step hA133 rfl (does_not (wno rfl rfl (.inl (hA133.get 16 _ rfl))) ?_)
        intro a134 hA135
        refine q_step hA135 rfl (does_not (wno rfl rfl (.inl (hA135.get 16 _ rfl))) ?_)
        intro a136 hA137
        refine q_step hA137 rfl (does_not (wno rfl rfl (.inl (hA137.get 16 _ rfl))) ?_)
        intro a138 hA139
        refine q_step hA139 rfl (d_pickF (wn rfl) (hA139.ev (v := (.bool false)) rfl) (hA139.ev (v := (.bool false)) rfl) ?_)
        intro a140 hA141
        refine q_step hA141 rfl (d_assign (wn rfl) (hA141.ev (v := (.bool false)) rfl) ?_)
        intro a142 hA143
        refine q_end ?_
        exact ⟨hA143.cut _ (fm_cons ((hA143.get 2 _ rfl).trans (congrArg Value.bool (by simp [hb21, hb31]))) fm_nil), b9, m7⟩
    · skip
      have hq144 := of_decide_eq_false hb21
      refine q_step hA20 rfl (d_bin (wn rfl) (hA20.ev (v := (.int .i64 i.loc)) rfl) (hA20.ev (v := (.int .i64 0)) rfl) (b_ge _ _ i.loc 0 false _ hb21) ?_)
      intro a145 hA146
      refine q_step hA146 rfl (d_move (wn rfl) (hA146.ev (v := (.bool false)) rfl) ?_)
      intro a147 hA148
      refine q_step hA148 rfl (does_not (wno rfl rfl (.inl (hA148.get 6 _ rfl))) ?_)
      intro a149 hA150
      refine q_step hA150 rfl (does_not (wno rfl rfl (.inl (hA150.get 6 _ rfl))) ?_)
      intro a151 hA152
      refine q_step hA152 rfl (does_not (wno rfl rfl (.inl (hA152.get 6 _ rfl))) ?_)
      intro a153 hA154
      refine q_step hA154 rfl (d_pickF (wn rfl) (hA154.ev (v := (.bool false)) rfl) (hA154.ev (v := (.bool false)) rfl) ?_)
      intro a155 hA156
      refine q_step hA156 rfl (d_move (wn rfl) (hA156.ev (v := (.bool false)) rfl) ?_)
      intro a157 hA158
      refine q_step hA158 rfl (does_not (wno rfl rfl (.inl (hA158.get 11 _ rfl))) ?_)
      intro a159 hA160
      refine q_step hA160 rfl (does_not (wno rfl rfl (.inl (hA160.get 11 _ rfl))) ?_)
      intro a161 hA162
      refine q_step hA162 rfl (does_not (wno rfl rfl (.inl (hA162.get 11 _ rfl))) ?_)
      intro a163 hA164
      refine q_step hA164 rfl (d_pickF (wn rfl) (hA164.ev (v := (.bool false)) rfl) (hA164.ev (v := (.bool false)) rfl) ?_)
      intro a165 hA166
      refine q_step hA166 rfl (d_move (wn rfl) (hA166.ev (v := (.bool false)) rfl) ?_)
      intro a167 hA168
      refine q_step hA168 rfl (does_not (wno rfl rfl (.inl (hA168.get 16 _ rfl))) ?_)
      intro a169 hA170
      refine q_step hA170 rfl (does_not (wno rfl rfl (.inl (hA170.get 16 _ rfl))) ?_)
      intro a171 hA172
      refine q_step hA172 rfl (does_not (wno rfl rfl (.inl (hA172.get 16 _ rfl))) ?_)
      intro a173 hA174
      refine q_step hA174 rfl (does_not (wno rfl rfl (.inl (hA174.get 16 _ rfl))) ?_)
      intro a175 hA176
      refine q_step hA176 rfl (does_not (wno rfl rfl (.inl (hA176.get 16 _ rfl))) ?_)
      intro a177 hA178
      refine q_step hA178 rfl (does_not (wno rfl rfl (.inl (hA178.get 16 _ rfl))) ?_)
      intro a179 hA180
      refine q_step hA180 rfl (d_pickF (wn rfl) (hA180.ev (v := (.bool false)) rfl) (hA180.ev (v := (.bool false)) rfl) ?_)
      intro a181 hA182
      refine q_step hA182 rfl (d_assign (wn rfl) (hA182.ev (v := (.bool false)) rfl) ?_)
      intro a183 hA184
      refine q_end ?_
      exact ⟨hA184.cut _ (fm_cons ((hA184.get 2 _ rfl).trans (congrArg Value.bool (by simp [hb21]))) fm_nil), b9, m7⟩
  rintro a15 w16 ⟨hA185, b186, m187⟩
  refine t_norm ?_
  refine wp_ret ?_
  refine ret1 rfl hA185 (v := (.bool ((decide (i.loc ≥ 0)) && ((decide (i.loc < 3)) && ((ronB i.index) && (!(maskR i.off i.size == 0))))))) rfl ?_
  exact ⟨ret_bool (by first | (simp [accB, Bool.or_assoc, Bool.and_assoc]; done) | (rw [Bool.eq_iff_iff]; simp [accB]; done) | (rw [Bool.eq_iff_iff]; simp [accB]; omega) | grind), b186⟩
set_option maxHeartbeats 4000000 in
set_option maxRecDepth 4000 in
theorem place3_any (i : Ins) (w : World) : Calls Try.prog 45 #[.agg (insC i)] w fun e w' => e = .returned (.bool (plcB i)) ∧ Grow w w' := by
  have b0 : Below w.heap.size w w := Below.refl _ _
  refine enter (n := 29) Try.func45 rfl rfl (Nat.le_of_ble_eq_true rfl) ?_
  intro a1 hA2
  refine wp_seq ?_
  refine wp_region_lit ?_
  refine q_step hA2 rfl (d_box (wn rfl) (hA2.ev (v := (.agg (insC i))) rfl) ?_)
  intro g3 w4 eg5 hG6 (m7 : Blk w4 g3 (insC i) 23)
  have ge8 : w.heap.size ≤ g3 := eg5 ▸ b0.size
  have b9 := below_grow b0 hG6 b0.size
  intro a10 hA11
  refine q_step hA11 rfl (d_assign (wn rfl) (hA11.ev (v := (.bool false)) rfl) ?_)
  intro a12 hA13
  refine q_end ?_
  have hA14 : St 29 [(1, (.pointer (some ⟨g3, 0, none⟩))), (2, (.bool false))] a12 := hA13.cut _ (fm_cons (hA13.get 1 _ rfl) (fm_cons (hA13.get 2 _ rfl) fm_nil))
  refine t_norm ?_
  refine wp_seq ?_
  refine join_wp (K := fun a15 w16 => St 29 [(2, (.bool ((decide (i.loc ≥ 0)) && ((decide (i.loc < 3)) && (cond (maskR i.off i.size == 0) false ((i.index == (-1)) || (regB i.index)))))))] a15 ∧ Below w.heap.size w w16 ∧ Blk w16 g3 (insC i) 23) ?_ ?_
  · skip
    refine wp_region_lit ?_
    refine q_step hA14 rfl (d_fieldAddr (wn rfl) (hA14.ev (v := (.pointer (some ⟨g3, 0, none⟩))) rfl) fo23_5 ?_)
    intro a17 hA18
    refine q_step hA18 rfl (d_load (v := (.int .i64 i.loc)) (wn rfl) (hA18.ev (v := (.pointer (some ⟨g3, 5, none⟩))) rfl) one3 (m7.cell rfl) ?_)
    intro a19 hA20
    rcases Bool.eq_false_or_eq_true (decide (i.loc ≥ 0)) with hb21 | hb21
    · skip
      have hq22 := of_decide_eq_true hb21
      refine q_step hA20 rfl (d_bin (wn rfl) (hA20.ev (v := (.int .i64 i.loc)) rfl) (hA20.ev (v := (.int .i64 0)) rfl) (b_ge _ _ i.loc 0 true _ hb21) ?_)
      intro a23 hA24
      refine q_step hA24 rfl (d_move (wn rfl) (hA24.ev (v := (.bool true)) rfl) ?_)
      intro a25 hA26
      refine q_step hA26 rfl (d_fieldAddr (wy rfl rfl (hA26.get 6 _ rfl)) (hA26.ev (v := (.pointer (some ⟨g3, 0, none⟩))) rfl) fo23_5 ?_)
      intro a27 hA28
      refine q_step hA28 rfl (d_load (v := (.int .i64 i.loc)) (wy rfl rfl (hA28.get 6 _ rfl)) (hA28.ev (v := (.pointer (some ⟨g3, 5, none⟩))) rfl) one3 (m7.cell rfl) ?_)
      intro a29 hA30
      rcases Bool.eq_false_or_eq_true (decide (i.loc < 3)) with hb31 | hb31
      · skip
        have hq32 := of_decide_eq_true hb31
        refine q_step hA30 rfl (d_bin (wy rfl rfl (hA30.get 6 _ rfl)) (hA30.ev (v := (.int .i64 i.loc)) rfl) (hA30.ev (v := (.int .i64 3)) rfl) (b_lt _ _ i.loc 3 true _ hb31) ?_)
        intro a33 hA34
        refine q_step hA34 rfl (d_pickT (wn rfl) (hA34.ev (v := (.bool true)) rfl) (hA34.ev (v := (.bool true)) rfl) ?_)
        intro a35 hA36
        refine q_step hA36 rfl (d_move (wn rfl) (hA36.ev (v := (.bool true)) rfl) ?_)
        intro a37 hA38
        refine q_step hA38 rfl (d_fieldAddr (wy rfl rfl (hA38.get 11 _ rfl)) (hA38.ev (v := (.pointer (some ⟨g3, 0, none⟩))) rfl) fo23_6 ?_)
        intro a39 hA40
        refine q_step hA40 rfl (d_load (v := (.int .i64 i.off)) (wy rfl rfl (hA40.get 11 _ rfl)) (hA40.ev (v := (.pointer (some ⟨g3, 6, none⟩))) rfl) one3 (m7.cell rfl) ?_)
        intro a41 hA42
        refine q_step hA42 rfl (d_fieldAddr (wy rfl rfl (hA42.get 11 _ rfl)) (hA42.ev (v := (.pointer (some ⟨g3, 0, none⟩))) rfl) fo23_8 ?_)
        intro a43 hA44
        refine q_step hA44 rfl (d_load (v := (.int .i64 i.size)) (wy rfl rfl (hA44.get 11 _ rfl)) (hA44.ev (v := (.pointer (some ⟨g3, 8, none⟩))) rfl) one3 (m7.cell rfl) ?_)
        intro a45 hA46
        refine q_step hA46 rfl (d_call (wy rfl rfl (hA46.get 11 _ rfl)) ent56 (map2 (hA46.ev (v := (.int .i64 i.off)) rfl) (hA46.ev (v := (.int .i64 i.size)) rfl)) (rmask_all i.off i.size w4) ?_)
        rintro e50 w47 ⟨he49, hG480⟩
        have hG48 : Grow w4 w47 := hG480 ▸ Grow.refl _
        have m51 := m7.grow hG48
        have b52 := below_grow b9 hG48 b9.size
        refine ⟨(.int .i64 (maskR i.off i.size)), he49, ?_⟩
        intro a53 hA54
        rcases Bool.eq_false_or_eq_true (maskR i.off i.size == 0) with hb55 | hb55
        · skip
          have hq56 := eq_of_beq hb55
          refine q_step hA54 rfl (d_bin (wy rfl rfl (hA54.get 11 _ rfl)) (hA54.ev (v := (.int .i64 (maskR i.off i.size))) rfl) (hA54.ev (v := (.int .i64 0)) rfl) (b_ne _ _ (maskR i.off i.size) 0 false _ (notof hb55)) ?_)
          intro a57 hA58
          refine q_step hA58 rfl (d_pickT (wn rfl) (hA58.ev (v := (.bool true)) rfl) (hA58.ev (v := (.bool false)) rfl) ?_)
          intro a59 hA60
          refine q_step hA60 rfl (d_move (wn rfl) (hA60.ev (v := (.bool false)) rfl) ?_)
          intro a61 hA62
          refine q_step hA62 rfl (does_not (wno rfl rfl (.inl (hA62.get 19 _ rfl))) ?_)
          intro a63 hA64
          refine q_step hA64 rfl (does_not (wno rfl rfl (.inl (hA64.get 19 _ rfl))) ?_)
          intro a65 hA66
          refine q_step hA66 rfl (does_not (wno rfl rfl (.inl (hA66.get 19 _ rfl))) ?_)
          intro a67 hA68
          refine q_step hA68 rfl (does_not (wno rfl rfl (.inl (hA68.get 19 _ rfl))) ?_)
          intro a69 hA70
          refine q_step hA70 rfl (does_not (wno rfl rfl (.inr (hA70.get 23 _ rfl))) ?_)
          intro a71 hA72
          refine q_step hA72 rfl (does_not (wno rfl rfl (.inr (hA72.get 23 _ rfl))) ?_)
          intro a73 hA74
          refine q_step hA74 rfl (does_not (wno rfl rfl (.inr (hA74.get 23 _ rfl))) ?_)
          intro a75 hA76
          refine q_step hA76 rfl (does_not (wno rfl rfl (.inl (hA76.get 19 _ rfl))) ?_)
          intro a77 hA78
          refine q_step hA78 rfl (d_pickF (wn rfl) (hA78.ev (v := (.bool false)) rfl) (hA78.ev (v := (.bool false)) rfl) ?_)
          intro a79 hA80
          refine q_step hA80 rfl (d_assign (wn rfl) (hA80.ev (v := (.bool false)) rfl) ?_)
          intro a81 hA82
          refine q_end ?_
          exact ⟨hA82.cut _ (fm_cons ((hA82.get 2 _ rfl).trans (congrArg Value.bool (by simp [hb21, hb31, hb55]))) fm_nil), b52, m51⟩
        · skip
          have hq83 := ne_of_beq hb55
          refine q_step hA54 rfl (d_bin (wy rfl rfl (hA54.get 11 _ rfl)) (hA54.ev (v := (.int .i64 (maskR i.off i.size))) rfl) (hA54.ev (v := (.int .i64 0)) rfl) (b_ne _ _ (maskR i.off i.size) 0 true _ (notof hb55)) ?_)
          intro a84 hA85
          refine q_step hA85 rfl (d_pickT (wn rfl) (hA85.ev (v := (.bool true)) rfl) (hA85.ev (v := (.bool true)) rfl) ?_)
          intro a86 hA87
          refine q_step hA87 rfl (d_move (wn rfl) (hA87.ev (v := (.bool true)) rfl) ?_)
          intro a88 hA89
          refine q_step hA89 rfl (d_fieldAddr (wy rfl rfl (hA89.get 19 _ rfl)) (hA89.ev (v := (.pointer (some ⟨g3, 0, none⟩))) rfl) fo23_7 ?_)
          intro a90 hA91
          refine q_step hA91 rfl (d_load (v := (.int .i64 i.index)) (wy rfl rfl (hA91.get 19 _ rfl)) (hA91.ev (v := (.pointer (some ⟨g3, 7, none⟩))) rfl) one3 (m51.cell rfl) ?_)
          intro a92 hA93
          rcases Bool.eq_false_or_eq_true (i.index == (-1)) with hb94 | hb94
          · skip
            have hq95 := eq_of_beq hb94
            refine q_step hA93 rfl (d_bin (wy rfl rfl (hA93.get 19 _ rfl)) (hA93.ev (v := (.int .i64 i.index)) rfl) (hA93.ev (v := (.int .i64 (-1))) rfl) (b_eq _ _ i.index (-1) true _ hb94) ?_)
            intro a96 hA97
            refine q_step hA97 rfl (d_move (wy rfl rfl (hA97.get 19 _ rfl)) (hA97.ev (v := (.bool true)) rfl) ?_)
            intro a98 hA99
            refine q_step hA99 rfl (does_not (wno rfl rfl (.inl (hA99.get 23 _ rfl))) ?_)
            intro a100 hA101
            refine q_step hA101 rfl (does_not (wno rfl rfl (.inl (hA101.get 23 _ rfl))) ?_)
            intro a102 hA103
            refine q_step hA103 rfl (does_not (wno rfl rfl (.inl (hA103.get 23 _ rfl))) ?_)
            intro a104 hA105
            refine q_step hA105 rfl (d_pickT (wy rfl rfl (hA105.get 19 _ rfl)) (hA105.ev (v := (.bool true)) rfl) (hA105.ev (v := (.bool true)) rfl) ?_)
            intro a106 hA107
            refine q_step hA107 rfl (d_pickT (wn rfl) (hA107.ev (v := (.bool true)) rfl) (hA107.ev (v := (.bool true)) rfl) ?_)
            intro a108 hA109
            refine q_step hA109 rfl (d_assign (wn rfl) (hA109.ev (v := (.bool true)) rfl) ?_)
            intro a110 hA111
            refine q_end ?_
            exact ⟨hA111.cut _ (fm_cons ((hA111.get 2 _ rfl).trans (congrArg Value.bool (by simp [hb21, hb31, hb55, hb94]))) fm_nil), b52, m51⟩
          · skip
            have hq112 := ne_of_beq hb94
            refine q_step hA93 rfl (d_bin (wy rfl rfl (hA93.get 19 _ rfl)) (hA93.ev (v := (.int .i64 i.index)) rfl) (hA93.ev (v := (.int .i64 (-1))) rfl) (b_eq _ _ i.index (-1) false _ hb94) ?_)
            intro a113 hA114
            refine q_step hA114 rfl (d_move (wy rfl rfl (hA114.get 19 _ rfl)) (hA114.ev (v := (.bool false)) rfl) ?_)
            intro a115 hA116
            refine q_step hA116 rfl (d_fieldAddr (wy rfl rfl (hA116.get 23 _ rfl)) (hA116.ev (v := (.pointer (some ⟨g3, 0, none⟩))) rfl) fo23_7 ?_)
            intro a117 hA118
            refine q_step hA118 rfl (d_load (v := (.int .i64 i.index)) (wy rfl rfl (hA118.get 23 _ rfl)) (hA118.ev (v := (.pointer (some ⟨g3, 7, none⟩))) rfl) one3 (m51.cell rfl) ?_)
            intro a119 hA120
            refine q_step hA120 rfl (d_call (wy rfl rfl (hA120.get 23 _ rfl)) ent44 (map1 (hA120.ev (v := (.int .i64 i.index)) rfl)) (rreg_any i.index w47) ?_)
            rintro e124 w121 ⟨he123, hG122⟩
            have m125 := m51.grow hG122
            have b126 := below_grow b52 hG122 b52.size
            rcases Bool.eq_false_or_eq_true (regB i.index) with hb127 | hb127
            · skip
              refine ⟨.bool true, he123.trans (ret_bool hb127), ?_⟩
              intro a129 hA130
              refine q_step hA130 rfl (d_pickF (wy rfl rfl (hA130.get 19 _ rfl)) (hA130.ev (v := (.bool false)) rfl) (hA130.ev (v := (.bool true)) rfl) ?_)
              intro a131 hA132
              refine q_step hA132 rfl (d_pickT (wn rfl) (hA132.ev (v := (.bool true)) rfl) (hA132.ev (v := (.bool true)) rfl) ?_)
              intro a133 hA134
              refine q_step hA134 rfl (d_assign (wn rfl) (hA134.ev (v := (.bool true)) rfl) ?_)
              intro a135 hA136
              refine q_end ?_
              exact ⟨hA136.cut _ (fm_cons ((hA136.get 2 _ rfl).trans (congrArg Value.bool (by simp [hb21, hb31, hb55, hb94, hb127]))) fm_nil), b126, m125⟩
            · skip
              refine ⟨.bool false, he123.trans (ret_bool hb127), ?_⟩
              intro a138 hA139
              refine q_step hA139 rfl (d_pickF (wy rfl rfl (hA139.get 19 _ rfl)) (hA139.ev (v := (.bool false)) rfl) (hA139.ev (v := (.bool false)) rfl) ?_)
              intro a140 hA141
              refine q_step hA141 rfl (d_pickT (wn rfl) (hA141.ev (v := (.bool true)) rfl) (hA141.ev (v := (.bool false)) rfl) ?_)
              intro a142 hA143
              refine q_step hA143 rfl (d_assign (wn rfl) (hA143.ev (v := (.bool false)) rfl) ?_)
              intro a144 hA145
              refine q_end ?_
              exact ⟨hA145.cut _ (fm_cons ((hA145.get 2 _ rfl).trans (congrArg Value.bool (by simp [hb21, hb31, hb55, hb94, hb127]))) fm_nil), b126, m125⟩
      · skip
        have hq146 := of_decide_eq_false hb31
        refine q_step hA30 rfl (d_bin (wy rfl rfl (hA30.get 6 _ rfl)) (hA30.ev (v := (.int .i64 i.loc)) rfl) (hA30.ev (v := (.int .i64 3)) rfl) (b_lt _ _ i.loc 3 false _ hb31) ?_)
        intro a147 hA148
        refine q_step hA148 rfl (d_pickT (wn rfl) (hA148.ev (v := (.bool true)) rfl) (hA148.ev (v := (.bool false)) rfl) ?_)
        intro a149 hA150
        refine q_step hA150 rfl (d_move (wn rfl) (hA150.ev (v := (.bool false)) rfl) ?_)
        intro a151 hA152
        refine q_step hA152 rfl (does_not (wno rfl rfl (.inl (hA152.get 11 _ rfl))) ?_)
        intro a153 hA154
        refine q_step hA154 rfl (does_not (wno rfl rfl (.inl (hA154.get 11 _ rfl))) ?_)
        intro a155 hA156
        refine q_step hA156 rfl (does_not (wno rfl rfl (.inl (hA156.get 11 _ rfl))) ?_)
        intro a157 hA158
        refine q_step hA158 rfl (does_not (wno rfl rfl (.inl (hA158.get 11 _ rfl))) ?_)
        intro a159 hA160
        refine q_step hA160 rfl (does_not (wno rfl rfl (.inl (hA160.get 11 _ rfl))) ?_)
        intro a161 hA162
        refine q_step hA162 rfl (does_not (wno rfl rfl (.inl (hA162.get 11 _ rfl))) ?_)
        intro a163 hA164
        refine q_step hA164 rfl (d_pickF (wn rfl) (hA164.ev (v := (.bool false)) rfl) (hA164.ev (v := (.bool false)) rfl) ?_)
        intro a165 hA166
        refine q_step hA166 rfl (d_move (wn rfl) (hA166.ev (v := (.bool false)) rfl) ?_)
        intro a167 hA168
        refine q_step hA168 rfl (does_not (wno rfl rfl (.inl (hA168.get 19 _ rfl))) ?_)
        intro a169 hA170
        refine q_step hA170 rfl (does_not (wno rfl rfl (.inl (hA170.get 19 _ rfl))) ?_)
        intro a171 hA172
        refine q_step hA172 rfl (does_not (wno rfl rfl (.inl (hA172.get 19 _ rfl))) ?_)
        intro a173 hA174
        refine q_step hA174 rfl (does_not (wno rfl rfl (.inl (hA174.get 19 _ rfl))) ?_)
        intro a175 hA176
        refine q_step hA176 rfl (does_not (wno rfl rfl (.inr (hA176.get 23 _ rfl))) ?_)
        intro a177 hA178
        refine q_step hA178 rfl (does_not (wno rfl rfl (.inr (hA178.get 23 _ rfl))) ?_)
        intro a179 hA180
        refine q_step hA180 rfl (does_not (wno rfl rfl (.inr (hA180.get 23 _ rfl))) ?_)
        intro a181 hA182
        refine q_step hA182 rfl (does_not (wno rfl rfl (.inl (hA182.get 19 _ rfl))) ?_)
        intro a183 hA184
        refine q_step hA184 rfl (d_pickF (wn rfl) (hA184.ev (v := (.bool false)) rfl) (hA184.ev (v := (.bool false)) rfl) ?_)
        intro a185 hA186
        refine q_step hA186 rfl (d_assign (wn rfl) (hA186.ev (v := (.bool false)) rfl) ?_)
        intro a187 hA188
        refine q_end ?_
        exact ⟨hA188.cut _ (fm_cons ((hA188.get 2 _ rfl).trans (congrArg Value.bool (by simp [hb21, hb31]))) fm_nil), b9, m7⟩
    · skip
      have hq189 := of_decide_eq_false hb21
      refine q_step hA20 rfl (d_bin (wn rfl) (hA20.ev (v := (.int .i64 i.loc)) rfl) (hA20.ev (v := (.int .i64 0)) rfl) (b_ge _ _ i.loc 0 false _ hb21) ?_)
      intro a190 hA191
      refine q_step hA191 rfl (d_move (wn rfl) (hA191.ev (v := (.bool false)) rfl) ?_)
      intro a192 hA193
      refine q_step hA193 rfl (does_not (wno rfl rfl (.inl (hA193.get 6 _ rfl))) ?_)
      intro a194 hA195
      refine q_step hA195 rfl (does_not (wno rfl rfl (.inl (hA195.get 6 _ rfl))) ?_)
      intro a196 hA197
      refine q_step hA197 rfl (does_not (wno rfl rfl (.inl (hA197.get 6 _ rfl))) ?_)
      intro a198 hA199
      refine q_step hA199 rfl (d_pickF (wn rfl) (hA199.ev (v := (.bool false)) rfl) (hA199.ev (v := (.bool false)) rfl) ?_)
      intro a200 hA201
      refine q_step hA201 rfl (d_move (wn rfl) (hA201.ev (v := (.bool false)) rfl) ?_)
      intro a202 hA203
      refine q_step hA203 rfl (does_not (wno rfl rfl (.inl (hA203.get 11 _ rfl))) ?_)
      intro a204 hA205
      refine q_step hA205 rfl (does_not (wno rfl rfl (.inl (hA205.get 11 _ rfl))) ?_)
      intro a206 hA207
      refine q_step hA207 rfl (does_not (wno rfl rfl (.inl (hA207.get 11 _ rfl))) ?_)
      intro a208 hA209
      refine q_step hA209 rfl (does_not (wno rfl rfl (.inl (hA209.get 11 _ rfl))) ?_)
      intro a210 hA211
      refine q_step hA211 rfl (does_not (wno rfl rfl (.inl (hA211.get 11 _ rfl))) ?_)
      intro a212 hA213
      refine q_step hA213 rfl (does_not (wno rfl rfl (.inl (hA213.get 11 _ rfl))) ?_)
      intro a214 hA215
      refine q_step hA215 rfl (d_pickF (wn rfl) (hA215.ev (v := (.bool false)) rfl) (hA215.ev (v := (.bool false)) rfl) ?_)
      intro a216 hA217
      refine q_step hA217 rfl (d_move (wn rfl) (hA217.ev (v := (.bool false)) rfl) ?_)
      intro a218 hA219
      refine q_step hA219 rfl (does_not (wno rfl rfl (.inl (hA219.get 19 _ rfl))) ?_)
      intro a220 hA221
      refine q_step hA221 rfl (does_not (wno rfl rfl (.inl (hA221.get 19 _ rfl))) ?_)
      intro a222 hA223
      refine q_step hA223 rfl (does_not (wno rfl rfl (.inl (hA223.get 19 _ rfl))) ?_)
      intro a224 hA225
      refine q_step hA225 rfl (does_not (wno rfl rfl (.inl (hA225.get 19 _ rfl))) ?_)
      intro a226 hA227
      refine q_step hA227 rfl (does_not (wno rfl rfl (.inr (hA227.get 23 _ rfl))) ?_)
      intro a228 hA229
      refine q_step hA229 rfl (does_not (wno rfl rfl (.inr (hA229.get 23 _ rfl))) ?_)
      intro a230 hA231
      refine q_step hA231 rfl (does_not (wno rfl rfl (.inr (hA231.get 23 _ rfl))) ?_)
      intro a232 hA233
      refine q_step hA233 rfl (does_not (wno rfl rfl (.inl (hA233.get 19 _ rfl))) ?_)
      intro a234 hA235
      refine q_step hA235 rfl (d_pickF (wn rfl) (hA235.ev (v := (.bool false)) rfl) (hA235.ev (v := (.bool false)) rfl) ?_)
      intro a236 hA237
      refine q_step hA237 rfl (d_assign (wn rfl) (hA237.ev (v := (.bool false)) rfl) ?_)
      intro a238 hA239
      refine q_end ?_
      exact ⟨hA239.cut _ (fm_cons ((hA239.get 2 _ rfl).trans (congrArg Value.bool (by simp [hb21]))) fm_nil), b9, m7⟩
  rintro a15 w16 ⟨hA240, b241, m242⟩
  refine t_norm ?_
  refine wp_ret ?_
  refine ret1 rfl hA240 (v := (.bool ((decide (i.loc ≥ 0)) && ((decide (i.loc < 3)) && (cond (maskR i.off i.size == 0) false ((i.index == (-1)) || (regB i.index))))))) rfl ?_
  exact ⟨ret_bool (by first | (simp [plcB, Bool.or_assoc, Bool.and_assoc]; done) | (rw [Bool.eq_iff_iff]; simp [plcB]; done) | (rw [Bool.eq_iff_iff]; simp [plcB]; omega) | grind), b241⟩
set_option maxHeartbeats 4000000 in
set_option maxRecDepth 4000 in
theorem immFor_any (i : Ins) (r : Int) (w : World) : Calls Try.prog 39 #[.agg (insC i), .int .i64 r] w fun e w' => e = .returned (.int .i64 (immF i r)) ∧ Grow w w' := by
  have b0 : Below w.heap.size w w := Below.refl _ _
  refine enter (n := 9) Try.func39 rfl rfl (Nat.le_of_ble_eq_true rfl) ?_
  intro a1 hA2
  refine wp_seq ?_
  refine wp_region_lit ?_
  refine q_step hA2 rfl (d_box (wn rfl) (hA2.ev (v := (.agg (insC i))) rfl) ?_)
  intro g3 w4 eg5 hG6 (m7 : Blk w4 g3 (insC i) 23)
  have ge8 : w.heap.size ≤ g3 := eg5 ▸ b0.size
  have b9 := below_grow b0 hG6 b0.size
  intro a10 hA11
  refine q_step hA11 rfl (d_assign (wn rfl) (hA11.ev (v := (.int .i64 0)) rfl) ?_)
  intro a12 hA13
  refine q_end ?_
  have hA14 : St 9 [(1, (.int .i64 r)), (2, (.pointer (some ⟨g3, 0, none⟩))), (4, (.int .i64 0))] a12 := hA13.cut _ (fm_cons (hA13.get 1 _ rfl) (fm_cons (hA13.get 2 _ rfl) (fm_cons (hA13.get 4 _ rfl) fm_nil)))
  refine t_norm ?_
  refine wp_seq ?_
  refine wp_seq ?_
  refine wp_region_lit ?_
  refine q_step hA14 rfl (d_move (wn rfl) (hA14.ev (v := (.int .i64 r)) rfl) ?_)
  intro a15 hA16
  rcases Bool.eq_false_or_eq_true (r == (-1)) with hb17 | hb17
  · skip
    have hq18 := eq_of_beq hb17
    refine q_step hA16 rfl (d_bin (wn rfl) (hA16.ev (v := (.int .i64 r)) rfl) (hA16.ev (v := (.int .i64 (-1))) rfl) (b_ne _ _ r (-1) false _ (notof hb17)) ?_)
    intro a19 hA20
    refine q_end ?_
    have hA21 : St 9 [(2, (.pointer (some ⟨g3, 0, none⟩))), (4, (.int .i64 0)), (6, (.bool false))] a19 := hA20.cut _ (fm_cons (hA20.get 2 _ rfl) (fm_cons (hA20.get 4 _ rfl) (fm_cons (hA20.get 6 _ rfl) fm_nil)))
    refine t_norm ?_
    refine c_false hA21 rfl ?_
    refine wp_skip ?_
    refine t_norm ?_
    refine wp_seq ?_
    refine wp_region_lit ?_
    refine q_step hA21 rfl (d_fieldAddr (wn rfl) (hA21.ev (v := (.pointer (some ⟨g3, 0, none⟩))) rfl) fo23_4 ?_)
    intro a22 hA23
    refine q_step hA23 rfl (d_load (v := (.int .i64 i.imm)) (wn rfl) (hA23.ev (v := (.pointer (some ⟨g3, 4, none⟩))) rfl) one3 (m7.cell rfl) ?_)
    intro a24 hA25
    refine q_step hA25 rfl (d_assign (wn rfl) (hA25.ev (v := (.int .i64 i.imm)) rfl) ?_)
    intro a26 hA27
    refine q_end ?_
    have hA28 : St 9 [(4, (.int .i64 i.imm))] a26 := hA27.cut _ (fm_cons (hA27.get 4 _ rfl) fm_nil)
    refine t_norm ?_
    refine wp_ret ?_
    refine ret1 rfl hA28 (v := (.int .i64 i.imm)) rfl ?_
    exact ⟨ret_int (by simp [immF, eq_of_beq hb17]), b9⟩
  · skip
    have hq29 := ne_of_beq hb17
    refine q_step hA16 rfl (d_bin (wn rfl) (hA16.ev (v := (.int .i64 r)) rfl) (hA16.ev (v := (.int .i64 (-1))) rfl) (b_ne _ _ r (-1) true _ (notof hb17)) ?_)
    intro a30 hA31
    refine q_end ?_
    have hA32 : St 9 [(2, (.pointer (some ⟨g3, 0, none⟩))), (4, (.int .i64 0)), (6, (.bool true))] a30 := hA31.cut _ (fm_cons (hA31.get 2 _ rfl) (fm_cons (hA31.get 4 _ rfl) (fm_cons (hA31.get 6 _ rfl) fm_nil)))
    refine t_norm ?_
    refine c_true hA32 rfl ?_
    refine wp_seq ?_
    refine wp_region_lit ?_
    refine q_step hA32 rfl (d_assign (wn rfl) (hA32.ev (v := (.int .i64 0)) rfl) ?_)
    intro a33 hA34
    refine q_end ?_
    have hA35 : St 9 [(2, (.pointer (some ⟨g3, 0, none⟩))), (4, (.int .i64 0))] a33 := hA34.cut _ (fm_cons (hA34.get 2 _ rfl) (fm_cons (hA34.get 4 _ rfl) fm_nil))
    refine t_norm ?_
    refine wp_ret ?_
    refine t_ret ?_
    refine ret1 rfl hA35 (v := (.int .i64 0)) rfl ?_
    exact ⟨ret_int (by simp [immF, hb17]), b9⟩
end Go.Proofs.Ytlhompedcphnnaa
