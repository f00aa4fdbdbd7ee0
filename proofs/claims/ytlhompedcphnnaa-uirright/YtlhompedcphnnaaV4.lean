/- What Check returns. -/
import Derived.Test.YtlhompedcphnnaaV3
namespace Go.Proofs.Ytlhompedcphnnaa
open Go.RowKit
set_option linter.unusedSimpArgs false
set_option linter.unusedVariables false
set_option maxHeartbeats 4000000 in
set_option maxRecDepth 4000 in
theorem check_any (cs : List (List Ins)) (v : Value) (w : World) (hCs : Cs w.heap.size w v cs) (hn : cs.length ≤ 1000) (ht : totN cs ≤ 1000000) : Calls Try.prog 20 #[v] w fun e w' => e = .returned (.tuple #[.int .i64 (checkR cs).1, .int .i64 (checkR cs).2.1, .int .i64 (checkR cs).2.2]) ∧ Grow w w' := by
  obtain ⟨us, hus, hul, hin⟩ := id hCs
  have b0 : Below w.heap.size w w := Below.refl _ _
  refine enter (n := 60) Try.func20 rfl rfl (Nat.le_of_ble_eq_true rfl) ?_
  intro a1 hA2
  refine wp_seq ?_
  refine wp_region_lit ?_
  refine q_step hA2 rfl (d_assign (wn rfl) (hA2.ev (v := (.int .i64 0)) rfl) ?_)
  intro a3 hA4
  refine q_step hA4 rfl (d_assign (wn rfl) (hA4.ev (v := (.int .i64 0)) rfl) ?_)
  intro a5 hA6
  refine q_step hA6 rfl (d_assign (wn rfl) (hA6.ev (v := (.int .i64 0)) rfl) ?_)
  intro a7 hA8
  refine q_end ?_
  have hA9 : St 60 [(0, v), (2, (.int .i64 0)), (3, (.int .i64 0)), (4, (.int .i64 0))] a7 := hA8.cut _ (fm_cons (hA8.get 0 _ rfl) (fm_cons (hA8.get 2 _ rfl) (fm_cons (hA8.get 3 _ rfl) (fm_cons (hA8.get 4 _ rfl) fm_nil))))
  refine t_norm ?_
  refine wp_seq ?_
  refine wp_seq ?_
  refine wp_region_lit ?_
  refine q_step hA9 rfl (d_move (wn rfl) (hA9.ev (v := v) rfl) ?_)
  intro a10 hA11
  refine q_step hA11 rfl (d_len (n := us.length) (wn rfl) (hA11.ev (v := v) rfl) slc34 hus.form ?_)
  intro a12 hA13
  rcases Bool.eq_false_or_eq_true (decide (((us.length : Nat) : Int) < 1)) with hb14 | hb14
  · skip
    have hq15 := of_decide_eq_true hb14
    refine q_step hA13 rfl (d_bin (wn rfl) (hA13.ev (v := (.int .i64 ((us.length : Nat) : Int))) rfl) (hA13.ev (v := (.int .i64 1)) rfl) (b_lt _ _ ((us.length : Nat) : Int) 1 true _ hb14) ?_)
    intro a16 hA17
    refine q_step hA17 rfl (d_move (wn rfl) (hA17.ev (v := (.bool true)) rfl) ?_)
    intro a18 hA19
    refine q_step hA19 rfl (does_not (wno rfl rfl (.inl (hA19.get 15 _ rfl))) ?_)
    intro a20 hA21
    refine q_step hA21 rfl (does_not (wno rfl rfl (.inl (hA21.get 15 _ rfl))) ?_)
    intro a22 hA23
    refine q_step hA23 rfl (does_not (wno rfl rfl (.inl (hA23.get 15 _ rfl))) ?_)
    intro a24 hA25
    refine q_step hA25 rfl (d_pickT (wn rfl) (hA25.ev (v := (.bool true)) rfl) (hA25.ev (v := (.bool true)) rfl) ?_)
    intro a26 hA27
    refine q_end ?_
    have hA28 : St 60 [(0, v), (2, (.int .i64 0)), (3, (.int .i64 0)), (4, (.int .i64 0)), (19, (.bool true))] a26 := hA27.cut _ (fm_cons (hA27.get 0 _ rfl) (fm_cons (hA27.get 2 _ rfl) (fm_cons (hA27.get 3 _ rfl) (fm_cons (hA27.get 4 _ rfl) (fm_cons (hA27.get 19 _ rfl) fm_nil)))))
    refine t_norm ?_
    refine c_true hA28 rfl ?_
    refine wp_seq ?_
    refine wp_region_lit ?_
    refine q_step hA28 rfl (d_assign (wn rfl) (hA28.ev (v := (.int .i64 0)) rfl) ?_)
    intro a29 hA30
    refine q_step hA30 rfl (d_assign (wn rfl) (hA30.ev (v := (.int .i64 0)) rfl) ?_)
    intro a31 hA32
    refine q_step hA32 rfl (d_assign (wn rfl) (hA32.ev (v := (.int .i64 30)) rfl) ?_)
    intro a33 hA34
    refine q_end ?_
    have hA35 : St 60 [(0, v), (2, (.int .i64 0)), (3, (.int .i64 0)), (4, (.int .i64 30))] a33 := hA34.cut _ (fm_cons (hA34.get 0 _ rfl) (fm_cons (hA34.get 2 _ rfl) (fm_cons (hA34.get 3 _ rfl) (fm_cons (hA34.get 4 _ rfl) fm_nil))))
    refine t_norm ?_
    refine wp_ret ?_
    refine t_ret ?_
    refine ret3 (x := (.int .i64 0)) (y := (.int .i64 0)) (z := (.int .i64 30)) rfl hA35 rfl rfl rfl ?_
    have hr := check_threads (cs := cs) (by omega)
    exact ⟨ret_three (by rw [hr]) (by rw [hr]) (by rw [hr]), b0⟩
  · skip
    have hq36 := of_decide_eq_false hb14
    refine q_step hA13 rfl (d_bin (wn rfl) (hA13.ev (v := (.int .i64 ((us.length : Nat) : Int))) rfl) (hA13.ev (v := (.int .i64 1)) rfl) (b_lt _ _ ((us.length : Nat) : Int) 1 false _ hb14) ?_)
    intro a37 hA38
    refine q_step hA38 rfl (d_move (wn rfl) (hA38.ev (v := (.bool false)) rfl) ?_)
    intro a39 hA40
    refine q_step hA40 rfl (d_move (wy rfl rfl (hA40.get 15 _ rfl)) (hA40.ev (v := v) rfl) ?_)
    intro a41 hA42
    refine q_step hA42 rfl (d_len (n := us.length) (wy rfl rfl (hA42.get 15 _ rfl)) (hA42.ev (v := v) rfl) slc34 hus.form ?_)
    intro a43 hA44
    rcases Bool.eq_false_or_eq_true (decide (((us.length : Nat) : Int) > 3)) with hb45 | hb45
    · skip
      have hq46 := of_decide_eq_true hb45
      refine q_step hA44 rfl (d_bin (wy rfl rfl (hA44.get 15 _ rfl)) (hA44.ev (v := (.int .i64 ((us.length : Nat) : Int))) rfl) (hA44.ev (v := (.int .i64 3)) rfl) (b_gt _ _ ((us.length : Nat) : Int) 3 true _ hb45) ?_)
      intro a47 hA48
      refine q_step hA48 rfl (d_pickF (wn rfl) (hA48.ev (v := (.bool false)) rfl) (hA48.ev (v := (.bool true)) rfl) ?_)
      intro a49 hA50
      refine q_end ?_
      have hA51 : St 60 [(0, v), (2, (.int .i64 0)), (3, (.int .i64 0)), (4, (.int .i64 0)), (19, (.bool true))] a49 := hA50.cut _ (fm_cons (hA50.get 0 _ rfl) (fm_cons (hA50.get 2 _ rfl) (fm_cons (hA50.get 3 _ rfl) (fm_cons (hA50.get 4 _ rfl) (fm_cons (hA50.get 19 _ rfl) fm_nil)))))
      refine t_norm ?_
      refine c_true hA51 rfl ?_
      refine wp_seq ?_
      refine wp_region_lit ?_
      refine q_step hA51 rfl (d_assign (wn rfl) (hA51.ev (v := (.int .i64 0)) rfl) ?_)
      intro a52 hA53
      refine q_step hA53 rfl (d_assign (wn rfl) (hA53.ev (v := (.int .i64 0)) rfl) ?_)
      intro a54 hA55
      refine q_step hA55 rfl (d_assign (wn rfl) (hA55.ev (v := (.int .i64 30)) rfl) ?_)
      intro a56 hA57
      refine q_end ?_
      have hA58 : St 60 [(0, v), (2, (.int .i64 0)), (3, (.int .i64 0)), (4, (.int .i64 30))] a56 := hA57.cut _ (fm_cons (hA57.get 0 _ rfl) (fm_cons (hA57.get 2 _ rfl) (fm_cons (hA57.get 3 _ rfl) (fm_cons (hA57.get 4 _ rfl) fm_nil))))
      refine t_norm ?_
      refine wp_ret ?_
      refine t_ret ?_
      refine ret3 (x := (.int .i64 0)) (y := (.int .i64 0)) (z := (.int .i64 30)) rfl hA58 rfl rfl rfl ?_
      have hr := check_threads (cs := cs) (by omega)
      exact ⟨ret_three (by rw [hr]) (by rw [hr]) (by rw [hr]), b0⟩
    · skip
      have hq59 := of_decide_eq_false hb45
      refine q_step hA44 rfl (d_bin (wy rfl rfl (hA44.get 15 _ rfl)) (hA44.ev (v := (.int .i64 ((us.length : Nat) : Int))) rfl) (hA44.ev (v := (.int .i64 3)) rfl) (b_gt _ _ ((us.length : Nat) : Int) 3 false _ hb45) ?_)
      intro a60 hA61
      refine q_step hA61 rfl (d_pickF (wn rfl) (hA61.ev (v := (.bool false)) rfl) (hA61.ev (v := (.bool false)) rfl) ?_)
      intro a62 hA63
      refine q_end ?_
      have hA64 : St 60 [(0, v), (2, (.int .i64 0)), (3, (.int .i64 0)), (4, (.int .i64 0)), (19, (.bool false))] a62 := hA63.cut _ (fm_cons (hA63.get 0 _ rfl) (fm_cons (hA63.get 2 _ rfl) (fm_cons (hA63.get 3 _ rfl) (fm_cons (hA63.get 4 _ rfl) (fm_cons (hA63.get 19 _ rfl) fm_nil)))))
      refine t_norm ?_
      refine c_false hA64 rfl ?_
      refine wp_skip ?_
      refine t_norm ?_
      refine wp_seq ?_
      refine wp_seq ?_
      refine wp_region_lit ?_
      refine q_step hA64 rfl (d_move (wn rfl) (hA64.ev (v := v) rfl) ?_)
      intro a65 hA66
      refine q_step hA66 rfl (d_len (n := us.length) (wn rfl) (hA66.ev (v := v) rfl) slc34 hus.form ?_)
      intro a67 hA68
      refine q_step hA68 rfl (d_move (wn rfl) (hA68.ev (v := (.int .i64 0)) rfl) ?_)
      intro a69 hA70
      refine q_end ?_
      have hA71 : St 60 [(0, v), (2, (.int .i64 0)), (3, (.int .i64 0)), (4, (.int .i64 0)), (20, v), (21, (.int .i64 ((us.length : Nat) : Int))), (22, (.int .i64 0))] a69 := hA70.cut _ (fm_cons (hA70.get 0 _ rfl) (fm_cons (hA70.get 2 _ rfl) (fm_cons (hA70.get 3 _ rfl) (fm_cons (hA70.get 4 _ rfl) (fm_cons (hA70.get 20 _ rfl) (fm_cons (hA70.get 21 _ rfl) (fm_cons (hA70.get 22 _ rfl) fm_nil)))))))
      refine t_norm ?_
      refine wp_block ?_
      refine loop_by (fun m73 a74 w75 => ∃ j72 : Nat, m73 = cs.length - j72 ∧ (j72 ≤ cs.length ∧ longR cs 0 = longR (cs.drop j72) j72) ∧ St 60 [(0, v), (20, v), (21, (.int .i64 ((us.length : Nat) : Int))), (22, (.int .i64 ((j72 : Nat) : Int)))] a74 ∧ Below w.heap.size w w75) (cs.length - 0) ⟨0, rfl, ⟨by omega, rfl⟩, hA71.cut _ (fm_cons (hA71.get 0 _ rfl) (fm_cons (hA71.get 20 _ rfl) (fm_cons (hA71.get 21 _ rfl) (fm_cons ((hA71.get 22 _ rfl).trans (congrArg (Value.int .i64) (by omega))) fm_nil)))), b0⟩ ?_
      rintro m73 a74 w75 ⟨j72, hm78, hc79, hA76, b77⟩
      refine wp_seq ?_
      refine wp_region_lit ?_
      rcases Bool.eq_false_or_eq_true (decide (((j72 : Nat) : Int) < ((us.length : Nat) : Int))) with hb80 | hb80
      · skip
        have hq81 := of_decide_eq_true hb80
        refine q_step hA76 rfl (d_bin (wn rfl) (hA76.ev (v := (.int .i64 ((j72 : Nat) : Int))) rfl) (hA76.ev (v := (.int .i64 ((us.length : Nat) : Int))) rfl) (b_lt _ _ ((j72 : Nat) : Int) ((us.length : Nat) : Int) true _ hb80) ?_)
        intro a82 hA83
        refine q_end ?_
        have hA84 : St 60 [(0, v), (20, v), (21, (.int .i64 ((us.length : Nat) : Int))), (22, (.int .i64 ((j72 : Nat) : Int))), (23, (.bool true))] a82 := hA83.cut _ (fm_cons (hA83.get 0 _ rfl) (fm_cons (hA83.get 20 _ rfl) (fm_cons (hA83.get 21 _ rfl) (fm_cons (hA83.get 22 _ rfl) (fm_cons (hA83.get 23 _ rfl) fm_nil)))))
        refine t_norm ?_
        refine wp_seq ?_
        refine c_true hA84 rfl ?_
        refine wp_skip ?_
        refine t_norm ?_
        refine wp_seq ?_
        refine wp_block ?_
        refine wp_seq ?_
        refine wp_region_lit ?_
        refine q_step hA84 rfl (d_move (wn rfl) (hA84.ev (v := (.int .i64 ((j72 : Nat) : Int))) rfl) ?_)
        intro a85 hA86
        obtain ⟨y87, hy88⟩ : ∃ y87, us[j72]? = some y87 := ⟨_, List.getElem?_eq_getElem (show j72 < us.length by omega)⟩
        obtain ⟨b89, o90, lt91, hr92, hix93⟩ := (hus.below b77).at hy88
        obtain ⟨c94, hc95⟩ : ∃ c, cs[j72]? = some c := ⟨_, List.getElem?_eq_getElem (show j72 < cs.length by have := get_lt hy88; omega)⟩
        have hsl96 := hin j72 y87 c94 hy88 hc95
        have hlc94 := len_le hc95
        have hoc94 := ops_le c94
        have hbc94 := br_le c94
        refine q_step hA86 rfl (d_indexAt (j := j72) (wn rfl) (hA86.ev (v := v) rfl) (hA86.ev (v := (.int .i64 ((j72 : Nat) : Int))) rfl) slc34 hix93 (get_lt hy88) ?_)
        intro a97 hA98
        refine q_step hA98 rfl (d_load (v := y87) (wn rfl) (hA98.ev (v := (.pointer (some ⟨b89, o90, none⟩))) rfl) one35 (hr92 0 _ rfl) ?_)
        intro a99 hA100
        refine q_step hA100 rfl (d_assign (wn rfl) (hA100.ev (v := (.int .i64 ((j72 : Nat) : Int))) rfl) ?_)
        intro a101 hA102
        refine q_step hA102 rfl (d_assign (wn rfl) (hA102.ev (v := y87) rfl) ?_)
        intro a103 hA104
        refine q_end ?_
        have hA105 : St 60 [(0, v), (5, (.int .i64 ((j72 : Nat) : Int))), (6, y87), (20, v), (21, (.int .i64 ((us.length : Nat) : Int))), (22, (.int .i64 ((j72 : Nat) : Int))), (23, (.bool true)), (24, (.int .i64 ((j72 : Nat) : Int))), (25, (.pointer (some ⟨b89, o90, none⟩))), (26, y87)] a103 := hA104.cut _ (fm_cons (hA104.get 0 _ rfl) (fm_cons (hA104.get 5 _ rfl) (fm_cons (hA104.get 6 _ rfl) (fm_cons (hA104.get 20 _ rfl) (fm_cons (hA104.get 21 _ rfl) (fm_cons (hA104.get 22 _ rfl) (fm_cons (hA104.get 23 _ rfl) (fm_cons (hA104.get 24 _ rfl) (fm_cons (hA104.get 25 _ rfl) (fm_cons (hA104.get 26 _ rfl) fm_nil))))))))))
        refine t_norm ?_
        refine wp_seq ?_
        refine wp_region_lit ?_
        refine q_step hA105 rfl (d_move (wn rfl) (hA105.ev (v := y87) rfl) ?_)
        intro a106 hA107
        refine q_step hA107 rfl (d_len (n := c94.length) (wn rfl) (hA107.ev (v := y87) rfl) slc35 hsl96.form ?_)
        intro a108 hA109
        rcases Bool.eq_false_or_eq_true (decide (((c94.length : Nat) : Int) > 8)) with hb110 | hb110
        · skip
          have hq111 := of_decide_eq_true hb110
          refine q_step hA109 rfl (d_bin (wn rfl) (hA109.ev (v := (.int .i64 ((c94.length : Nat) : Int))) rfl) (hA109.ev (v := (.int .i64 8)) rfl) (b_gt _ _ ((c94.length : Nat) : Int) 8 true _ hb110) ?_)
          intro a112 hA113
          refine q_end ?_
          have hA114 : St 60 [(0, v), (5, (.int .i64 ((j72 : Nat) : Int))), (6, y87), (20, v), (21, (.int .i64 ((us.length : Nat) : Int))), (22, (.int .i64 ((j72 : Nat) : Int))), (23, (.bool true)), (24, (.int .i64 ((j72 : Nat) : Int))), (25, (.pointer (some ⟨b89, o90, none⟩))), (26, y87), (27, y87), (28, (.int .i64 ((c94.length : Nat) : Int))), (29, (.bool true))] a112 := hA113.cut _ (fm_cons (hA113.get 0 _ rfl) (fm_cons (hA113.get 5 _ rfl) (fm_cons (hA113.get 6 _ rfl) (fm_cons (hA113.get 20 _ rfl) (fm_cons (hA113.get 21 _ rfl) (fm_cons (hA113.get 22 _ rfl) (fm_cons (hA113.get 23 _ rfl) (fm_cons (hA113.get 24 _ rfl) (fm_cons (hA113.get 25 _ rfl) (fm_cons (hA113.get 26 _ rfl) (fm_cons (hA113.get 27 _ rfl) (fm_cons (hA113.get 28 _ rfl) (fm_cons (hA113.get 29 _ rfl) fm_nil)))))))))))))
          refine t_norm ?_
          refine c_true hA114 rfl ?_
          refine wp_seq ?_
          refine wp_region_lit ?_
          refine q_step hA114 rfl (d_move (wn rfl) (hA114.ev (v := (.int .i64 ((j72 : Nat) : Int))) rfl) ?_)
          intro a115 hA116
          refine q_step hA116 rfl (d_assign (wn rfl) (hA116.ev (v := (.int .i64 ((j72 : Nat) : Int))) rfl) ?_)
          intro a117 hA118
          refine q_step hA118 rfl (d_assign (wn rfl) (hA118.ev (v := (.int .i64 0)) rfl) ?_)
          intro a119 hA120
          refine q_step hA120 rfl (d_assign (wn rfl) (hA120.ev (v := (.int .i64 31)) rfl) ?_)
          intro a121 hA122
          refine q_end ?_
          have hA123 : St 60 [(0, v), (2, (.int .i64 ((j72 : Nat) : Int))), (3, (.int .i64 0)), (4, (.int .i64 31)), (5, (.int .i64 ((j72 : Nat) : Int))), (6, y87), (20, v), (21, (.int .i64 ((us.length : Nat) : Int))), (22, (.int .i64 ((j72 : Nat) : Int))), (23, (.bool true)), (24, (.int .i64 ((j72 : Nat) : Int))), (25, (.pointer (some ⟨b89, o90, none⟩))), (26, y87), (27, y87), (28, (.int .i64 ((c94.length : Nat) : Int))), (29, (.bool true)), (30, (.int .i64 ((j72 : Nat) : Int)))] a121 := hA122.cut _ (fm_cons (hA122.get 0 _ rfl) (fm_cons (hA122.get 2 _ rfl) (fm_cons (hA122.get 3 _ rfl) (fm_cons (hA122.get 4 _ rfl) (fm_cons (hA122.get 5 _ rfl) (fm_cons (hA122.get 6 _ rfl) (fm_cons (hA122.get 20 _ rfl) (fm_cons (hA122.get 21 _ rfl) (fm_cons (hA122.get 22 _ rfl) (fm_cons (hA122.get 23 _ rfl) (fm_cons (hA122.get 24 _ rfl) (fm_cons (hA122.get 25 _ rfl) (fm_cons (hA122.get 26 _ rfl) (fm_cons (hA122.get 27 _ rfl) (fm_cons (hA122.get 28 _ rfl) (fm_cons (hA122.get 29 _ rfl) (fm_cons (hA122.get 30 _ rfl) fm_nil)))))))))))))))))
          refine t_norm ?_
          refine wp_ret ?_
          refine i_ret ?_
          refine t_ret ?_
          refine t_ret ?_
          refine i_ret ?_
          refine t_ret ?_
          refine ret3 (x := (.int .i64 ((j72 : Nat) : Int))) (y := (.int .i64 0)) (z := (.int .i64 31)) rfl hA123 rfl rfl rfl ?_
          have hr := check_long (cs := cs) (by omega) (by omega) (hc79.2.trans (long_yes hc95 hb110))
          exact ⟨ret_three (by rw [hr]) (by rw [hr]) (by rw [hr]), b77⟩
        · skip
          have hq124 := of_decide_eq_false hb110
          refine q_step hA109 rfl (d_bin (wn rfl) (hA109.ev (v := (.int .i64 ((c94.length : Nat) : Int))) rfl) (hA109.ev (v := (.int .i64 8)) rfl) (b_gt _ _ ((c94.length : Nat) : Int) 8 false _ hb110) ?_)
          intro a125 hA126
          refine q_end ?_
          have hA127 : St 60 [(0, v), (5, (.int .i64 ((j72 : Nat) : Int))), (6, y87), (20, v), (21, (.int .i64 ((us.length : Nat) : Int))), (22, (.int .i64 ((j72 : Nat) : Int))), (23, (.bool true)), (24, (.int .i64 ((j72 : Nat) : Int))), (25, (.pointer (some ⟨b89, o90, none⟩))), (26, y87), (27, y87), (28, (.int .i64 ((c94.length : Nat) : Int))), (29, (.bool false))] a125 := hA126.cut _ (fm_cons (hA126.get 0 _ rfl) (fm_cons (hA126.get 5 _ rfl) (fm_cons (hA126.get 6 _ rfl) (fm_cons (hA126.get 20 _ rfl) (fm_cons (hA126.get 21 _ rfl) (fm_cons (hA126.get 22 _ rfl) (fm_cons (hA126.get 23 _ rfl) (fm_cons (hA126.get 24 _ rfl) (fm_cons (hA126.get 25 _ rfl) (fm_cons (hA126.get 26 _ rfl) (fm_cons (hA126.get 27 _ rfl) (fm_cons (hA126.get 28 _ rfl) (fm_cons (hA126.get 29 _ rfl) fm_nil)))))))))))))
          refine t_norm ?_
          refine c_false hA127 rfl ?_
          refine wp_skip ?_
          refine i_norm ?_
          refine t_norm ?_
          refine wp_region_lit ?_
          refine q_step hA127 rfl (d_bin (wn rfl) (hA127.ev (v := (.int .i64 ((j72 : Nat) : Int))) rfl) (hA127.ev (v := (.int .i64 1)) rfl) (b_add _ _ ((j72 : Nat) : Int) 1 _ (by omega) (by omega)) ?_)
          intro a128 hA129
          refine q_step hA129 rfl (d_move (wn rfl) (hA129.ev (v := (.int .i64 (((j72 : Nat) : Int) + 1))) rfl) ?_)
          intro a130 hA131
          refine q_end ?_
          have hA132 : St 60 [(0, v), (5, (.int .i64 ((j72 : Nat) : Int))), (6, y87), (20, v), (21, (.int .i64 ((us.length : Nat) : Int))), (22, (.int .i64 (((j72 : Nat) : Int) + 1))), (23, (.bool true)), (24, (.int .i64 ((j72 : Nat) : Int))), (25, (.pointer (some ⟨b89, o90, none⟩))), (26, y87), (27, y87), (28, (.int .i64 ((c94.length : Nat) : Int))), (29, (.bool false)), (31, (.int .i64 (((j72 : Nat) : Int) + 1)))] a130 := hA131.cut _ (fm_cons (hA131.get 0 _ rfl) (fm_cons (hA131.get 5 _ rfl) (fm_cons (hA131.get 6 _ rfl) (fm_cons (hA131.get 20 _ rfl) (fm_cons (hA131.get 21 _ rfl) (fm_cons (hA131.get 22 _ rfl) (fm_cons (hA131.get 23 _ rfl) (fm_cons (hA131.get 24 _ rfl) (fm_cons (hA131.get 25 _ rfl) (fm_cons (hA131.get 26 _ rfl) (fm_cons (hA131.get 27 _ rfl) (fm_cons (hA131.get 28 _ rfl) (fm_cons (hA131.get 29 _ rfl) (fm_cons (hA131.get 31 _ rfl) fm_nil))))))))))))))
          refine t_norm ?_
          exact ⟨cs.length - (j72 + 1), (by rw [hm78]; omega), j72 + 1, rfl, ⟨by have := get_lt hc95; omega, hc79.2.trans (long_at hc95 hb110)⟩, hA132.cut _ (fm_cons (hA132.get 0 _ rfl) (fm_cons (hA132.get 20 _ rfl) (fm_cons (hA132.get 21 _ rfl) (fm_cons ((hA132.get 22 _ rfl).trans (congrArg (Value.int .i64) (by omega))) fm_nil)))), b77⟩
      · skip
        have hq133 := of_decide_eq_false hb80
        refine q_step hA76 rfl (d_bin (wn rfl) (hA76.ev (v := (.int .i64 ((j72 : Nat) : Int))) rfl) (hA76.ev (v := (.int .i64 ((us.length : Nat) : Int))) rfl) (b_lt _ _ ((j72 : Nat) : Int) ((us.length : Nat) : Int) false _ hb80) ?_)
        intro a134 hA135
        refine q_end ?_
        have hA136 : St 60 [(0, v), (20, v), (21, (.int .i64 ((us.length : Nat) : Int))), (22, (.int .i64 ((j72 : Nat) : Int))), (23, (.bool false))] a134 := hA135.cut _ (fm_cons (hA135.get 0 _ rfl) (fm_cons (hA135.get 20 _ rfl) (fm_cons (hA135.get 21 _ rfl) (fm_cons (hA135.get 22 _ rfl) (fm_cons (hA135.get 23 _ rfl) fm_nil)))))
        refine t_norm ?_
        refine wp_seq ?_
        refine c_false hA136 rfl ?_
        refine wp_exit ?_
        refine t_exit ?_
        refine t_exit ?_
        refine i_here ?_
        refine t_norm ?_
        refine wp_seq ?_
        refine wp_seq ?_
        refine wp_region_lit ?_
        refine q_step hA136 rfl (d_move (wn rfl) (hA136.ev (v := v) rfl) ?_)
        intro a137 hA138
        refine q_step hA138 rfl (d_len (n := us.length) (wn rfl) (hA138.ev (v := v) rfl) slc34 hus.form ?_)
        intro a139 hA140
        refine q_step hA140 rfl (d_move (wn rfl) (hA140.ev (v := (.int .i64 0)) rfl) ?_)
        intro a141 hA142
        refine q_end ?_
        have hA143 : St 60 [(0, v), (32, v), (33, (.int .i64 ((us.length : Nat) : Int))), (34, (.int .i64 0))] a141 := hA142.cut _ (fm_cons (hA142.get 0 _ rfl) (fm_cons (hA142.get 32 _ rfl) (fm_cons (hA142.get 33 _ rfl) (fm_cons (hA142.get 34 _ rfl) fm_nil))))
        refine t_norm ?_
        refine wp_block ?_
        have hlong : longR cs 0 = none := hc79.2.trans (by rw [drop_end (by omega)]; rfl)
        refine loop_by (fun m145 a146 w147 => ∃ j144 : Nat, m145 = cs.length - j144 ∧ (j144 ≤ cs.length ∧ bad2 cs 0 = bad2 (cs.drop j144) j144) ∧ St 60 [(0, v), (32, v), (33, (.int .i64 ((us.length : Nat) : Int))), (34, (.int .i64 ((j144 : Nat) : Int)))] a146 ∧ Below w.heap.size w w147) (cs.length - 0) ⟨0, rfl, ⟨by omega, rfl⟩, hA143.cut _ (fm_cons (hA143.get 0 _ rfl) (fm_cons (hA143.get 32 _ rfl) (fm_cons (hA143.get 33 _ rfl) (fm_cons ((hA143.get 34 _ rfl).trans (congrArg (Value.int .i64) (by simp))) fm_nil)))), b77⟩ ?_
        rintro m145 a146 w147 ⟨j144, hm150, hc151, hA148, b149⟩
        have hkopsN := drop_sum_le opsN cs j144
        have hmopsN := sum_le opsN ops_le cs
        have hkbrN := drop_sum_le brN cs j144
        have hmbrN := sum_le brN br_le cs
        refine wp_seq ?_
        refine wp_region_lit ?_
        rcases Bool.eq_false_or_eq_true (decide (((j144 : Nat) : Int) < ((us.length : Nat) : Int))) with hb152 | hb152
        · skip
          have hq153 := of_decide_eq_true hb152
          refine q_step hA148 rfl (d_bin (wn rfl) (hA148.ev (v := (.int .i64 ((j144 : Nat) : Int))) rfl) (hA148.ev (v := (.int .i64 ((us.length : Nat) : Int))) rfl) (b_lt _ _ ((j144 : Nat) : Int) ((us.length : Nat) : Int) true _ hb152) ?_)
          intro a154 hA155
          refine q_end ?_
          have hA156 : St 60 [(0, v), (32, v), (33, (.int .i64 ((us.length : Nat) : Int))), (34, (.int .i64 ((j144 : Nat) : Int))), (35, (.bool true))] a154 := hA155.cut _ (fm_cons (hA155.get 0 _ rfl) (fm_cons (hA155.get 32 _ rfl) (fm_cons (hA155.get 33 _ rfl) (fm_cons (hA155.get 34 _ rfl) (fm_cons (hA155.get 35 _ rfl) fm_nil)))))
          refine t_norm ?_
          refine wp_seq ?_
          refine c_true hA156 rfl ?_
          refine wp_skip ?_
          refine t_norm ?_
          refine wp_seq ?_
          refine wp_block ?_
          refine wp_seq ?_
          refine wp_region_lit ?_
          refine q_step hA156 rfl (d_move (wn rfl) (hA156.ev (v := (.int .i64 ((j144 : Nat) : Int))) rfl) ?_)
          intro a157 hA158
          obtain ⟨y159, hy160⟩ : ∃ y159, us[j144]? = some y159 := ⟨_, List.getElem?_eq_getElem (show j144 < us.length by omega)⟩
          obtain ⟨b161, o162, lt163, hr164, hix165⟩ := (hus.below b149).at hy160
          obtain ⟨c166, hc167⟩ : ∃ c, cs[j144]? = some c := ⟨_, List.getElem?_eq_getElem (show j144 < cs.length by have := get_lt hy160; omega)⟩
          have hsl168 := hin j144 y159 c166 hy160 hc167
          have hlc166 := len_le hc167
          have hoc166 := ops_le c166
          have hbc166 := br_le c166
          refine q_step hA158 rfl (d_indexAt (j := j144) (wn rfl) (hA158.ev (v := v) rfl) (hA158.ev (v := (.int .i64 ((j144 : Nat) : Int))) rfl) slc34 hix165 (get_lt hy160) ?_)
          intro a169 hA170
          refine q_step hA170 rfl (d_load (v := y159) (wn rfl) (hA170.ev (v := (.pointer (some ⟨b161, o162, none⟩))) rfl) one35 (hr164 0 _ rfl) ?_)
          intro a171 hA172
          refine q_step hA172 rfl (d_assign (wn rfl) (hA172.ev (v := (.int .i64 ((j144 : Nat) : Int))) rfl) ?_)
          intro a173 hA174
          refine q_step hA174 rfl (d_assign (wn rfl) (hA174.ev (v := y159) rfl) ?_)
          intro a175 hA176
          refine q_end ?_
          have hA177 : St 60 [(0, v), (7, (.int .i64 ((j144 : Nat) : Int))), (8, y159), (32, v), (33, (.int .i64 ((us.length : Nat) : Int))), (34, (.int .i64 ((j144 : Nat) : Int))), (35, (.bool true)), (36, (.int .i64 ((j144 : Nat) : Int))), (37, (.pointer (some ⟨b161, o162, none⟩))), (38, y159)] a175 := hA176.cut _ (fm_cons (hA176.get 0 _ rfl) (fm_cons (hA176.get 7 _ rfl) (fm_cons (hA176.get 8 _ rfl) (fm_cons (hA176.get 32 _ rfl) (fm_cons (hA176.get 33 _ rfl) (fm_cons (hA176.get 34 _ rfl) (fm_cons (hA176.get 35 _ rfl) (fm_cons (hA176.get 36 _ rfl) (fm_cons (hA176.get 37 _ rfl) (fm_cons (hA176.get 38 _ rfl) fm_nil))))))))))
          refine t_norm ?_
          refine wp_seq ?_
          refine wp_region_lit ?_
          refine q_step hA177 rfl (d_move (wn rfl) (hA177.ev (v := y159) rfl) ?_)
          intro a178 hA179
          refine q_step hA179 rfl (d_len (n := c166.length) (wn rfl) (hA179.ev (v := y159) rfl) slc35 hsl168.form ?_)
          intro a180 hA181
          refine q_step hA181 rfl (d_move (wn rfl) (hA181.ev (v := (.int .i64 0)) rfl) ?_)
          intro a182 hA183
          refine q_end ?_
          have hA184 : St 60 [(0, v), (7, (.int .i64 ((j144 : Nat) : Int))), (8, y159), (32, v), (33, (.int .i64 ((us.length : Nat) : Int))), (34, (.int .i64 ((j144 : Nat) : Int))), (35, (.bool true)), (36, (.int .i64 ((j144 : Nat) : Int))), (37, (.pointer (some ⟨b161, o162, none⟩))), (38, y159), (39, y159), (40, (.int .i64 ((c166.length : Nat) : Int))), (41, (.int .i64 0))] a182 := hA183.cut _ (fm_cons (hA183.get 0 _ rfl) (fm_cons (hA183.get 7 _ rfl) (fm_cons (hA183.get 8 _ rfl) (fm_cons (hA183.get 32 _ rfl) (fm_cons (hA183.get 33 _ rfl) (fm_cons (hA183.get 34 _ rfl) (fm_cons (hA183.get 35 _ rfl) (fm_cons (hA183.get 36 _ rfl) (fm_cons (hA183.get 37 _ rfl) (fm_cons (hA183.get 38 _ rfl) (fm_cons (hA183.get 39 _ rfl) (fm_cons (hA183.get 40 _ rfl) (fm_cons (hA183.get 41 _ rfl) fm_nil)))))))))))))
          refine t_norm ?_
          refine wp_block ?_
          refine loop_by (fun m186 a187 w188 => ∃ k185 : Nat, m186 = c166.length - k185 ∧ (k185 ≤ c166.length ∧ bad1 c166.length c166 0 = bad1 c166.length (c166.drop k185) k185) ∧ St 60 [(0, v), (7, (.int .i64 ((j144 : Nat) : Int))), (8, y159), (32, v), (33, (.int .i64 ((us.length : Nat) : Int))), (34, (.int .i64 ((j144 : Nat) : Int))), (39, y159), (40, (.int .i64 ((c166.length : Nat) : Int))), (41, (.int .i64 ((k185 : Nat) : Int)))] a187 ∧ Below w.heap.size w w188) (c166.length - 0) ⟨0, rfl, ⟨by omega, rfl⟩, hA184.cut _ (fm_cons (hA184.get 0 _ rfl) (fm_cons (hA184.get 7 _ rfl) (fm_cons (hA184.get 8 _ rfl) (fm_cons (hA184.get 32 _ rfl) (fm_cons (hA184.get 33 _ rfl) (fm_cons (hA184.get 34 _ rfl) (fm_cons (hA184.get 39 _ rfl) (fm_cons (hA184.get 40 _ rfl) (fm_cons ((hA184.get 41 _ rfl).trans (congrArg (Value.int .i64) (by simp))) fm_nil))))))))), b149⟩ ?_
          rintro m186 a187 w188 ⟨k185, hm191, hc192, hA189, b190⟩
          refine wp_seq ?_
          refine wp_region_lit ?_
          rcases Bool.eq_false_or_eq_true (decide (((k185 : Nat) : Int) < ((c166.length : Nat) : Int))) with hb193 | hb193
          · skip
            have hq194 := of_decide_eq_true hb193
            refine q_step hA189 rfl (d_bin (wn rfl) (hA189.ev (v := (.int .i64 ((k185 : Nat) : Int))) rfl) (hA189.ev (v := (.int .i64 ((c166.length : Nat) : Int))) rfl) (b_lt _ _ ((k185 : Nat) : Int) ((c166.length : Nat) : Int) true _ hb193) ?_)
            intro a195 hA196
            refine q_end ?_
            have hA197 : St 60 [(0, v), (7, (.int .i64 ((j144 : Nat) : Int))), (8, y159), (32, v), (33, (.int .i64 ((us.length : Nat) : Int))), (34, (.int .i64 ((j144 : Nat) : Int))), (39, y159), (40, (.int .i64 ((c166.length : Nat) : Int))), (41, (.int .i64 ((k185 : Nat) : Int))), (42, (.bool true))] a195 := hA196.cut _ (fm_cons (hA196.get 0 _ rfl) (fm_cons (hA196.get 7 _ rfl) (fm_cons (hA196.get 8 _ rfl) (fm_cons (hA196.get 32 _ rfl) (fm_cons (hA196.get 33 _ rfl) (fm_cons (hA196.get 34 _ rfl) (fm_cons (hA196.get 39 _ rfl) (fm_cons (hA196.get 40 _ rfl) (fm_cons (hA196.get 41 _ rfl) (fm_cons (hA196.get 42 _ rfl) fm_nil))))))))))
            refine t_norm ?_
            refine wp_seq ?_
            refine c_true hA197 rfl ?_
            refine wp_skip ?_
            refine t_norm ?_
            refine wp_seq ?_
            refine wp_block ?_
            refine wp_seq ?_
            refine wp_region_lit ?_
            refine q_step hA197 rfl (d_move (wn rfl) (hA197.ev (v := (.int .i64 ((k185 : Nat) : Int))) rfl) ?_)
            intro a198 hA199
            obtain ⟨y200, hy201⟩ : ∃ y200, c166[k185]? = some y200 := ⟨_, List.getElem?_eq_getElem (show k185 < c166.length by omega)⟩
            obtain ⟨b202, o203, lt204, hr205, hix206⟩ := (hsl168.below b190).at hy201
            refine q_step hA199 rfl (d_indexAt (j := k185) (wn rfl) (hA199.ev (v := y159) rfl) (hA199.ev (v := (.int .i64 ((k185 : Nat) : Int))) rfl) slc35 hix206 (get_lt hy201) ?_)
            intro a207 hA208
            refine q_step hA208 rfl (d_loadMid (cs := (insC y200)) (wn rfl) (hA208.ev (v := (.pointer (some ⟨b202, o203, none⟩))) rfl) row23 hr205 ?_)
            intro a209 hA210
            refine q_step hA210 rfl (d_alloc (wn rfl) zero23 ?_)
            intro g211 w212 eg213 hG214 (m215 : Blk w212 g211 #[.int .i64 0, .int .i64 0, .int .i64 0, .int .i64 0, .int .i64 0, .int .i64 0, .int .i64 0, .int .i64 0, .int .i64 0, .int .i64 0, .bool false, .bool false, .bool false, .int .i64 0, .int .i64 0, .int .i64 0, .bool false] 23)
            have ge216 : w.heap.size ≤ g211 := eg213 ▸ b190.size
            have hr217 := range_below hr205 hG214 (Nat.lt_of_lt_of_le lt204 b190.size)
            have b218 := below_grow b190 hG214 b190.size
            intro a219 hA220
            refine q_step hA220 rfl (d_assign (wn rfl) (hA220.ev (v := (.int .i64 ((k185 : Nat) : Int))) rfl) ?_)
            intro a221 hA222
            refine q_step hA222 rfl (d_storeRow (wn rfl) (hA222.ev (v := (.pointer (some ⟨g211, 0, none⟩))) rfl) (hA222.ev (v := (.agg (insC y200))) rfl) row23 m215 rfl rfl ?_)
            intro w223 hU224 (m225 : Blk w223 g211 (insC y200) 23)
            have hr226 := range_upd hr217 hU224 (Nat.ne_of_lt (Nat.lt_of_lt_of_le lt204 ge216))
            have b227 := hU224.below b218 ge216
            intro a228 hA229
            refine q_end ?_
            have hA230 : St 60 [(0, v), (7, (.int .i64 ((j144 : Nat) : Int))), (8, y159), (9, (.int .i64 ((k185 : Nat) : Int))), (10, (.pointer (some ⟨g211, 0, none⟩))), (32, v), (33, (.int .i64 ((us.length : Nat) : Int))), (34, (.int .i64 ((j144 : Nat) : Int))), (39, y159), (40, (.int .i64 ((c166.length : Nat) : Int))), (41, (.int .i64 ((k185 : Nat) : Int))), (42, (.bool true)), (43, (.int .i64 ((k185 : Nat) : Int))), (44, (.pointer (some ⟨b202, o203, none⟩))), (45, (.agg (insC y200)))] a228 := hA229.cut _ (fm_cons (hA229.get 0 _ rfl) (fm_cons (hA229.get 7 _ rfl) (fm_cons (hA229.get 8 _ rfl) (fm_cons (hA229.get 9 _ rfl) (fm_cons (hA229.get 10 _ rfl) (fm_cons (hA229.get 32 _ rfl) (fm_cons (hA229.get 33 _ rfl) (fm_cons (hA229.get 34 _ rfl) (fm_cons (hA229.get 39 _ rfl) (fm_cons (hA229.get 40 _ rfl) (fm_cons (hA229.get 41 _ rfl) (fm_cons (hA229.get 42 _ rfl) (fm_cons (hA229.get 43 _ rfl) (fm_cons (hA229.get 44 _ rfl) (fm_cons (hA229.get 45 _ rfl) fm_nil)))))))))))))))
            refine t_norm ?_
            refine wp_seq ?_
            refine wp_region_lit ?_
            refine q_step hA230 rfl (d_loadRow (cs := (insC y200)) (wn rfl) (hA230.ev (v := (.pointer (some ⟨g211, 0, none⟩))) rfl) row23 m225 ?_)
            intro a231 hA232
            refine q_step hA232 rfl (d_move (wn rfl) (hA232.ev (v := (.int .i64 ((k185 : Nat) : Int))) rfl) ?_)
            intro a233 hA234
            refine q_step hA234 rfl (d_move (wn rfl) (hA234.ev (v := y159) rfl) ?_)
            intro a235 hA236
            refine q_step hA236 rfl (d_len (n := c166.length) (wn rfl) (hA236.ev (v := y159) rfl) slc35 hsl168.form ?_)
            intro a237 hA238
            refine q_step hA238 rfl (d_call (wn rfl) ent9 (map3 (hA238.ev (v := (.agg (insC y200))) rfl) (hA238.ev (v := (.int .i64 ((k185 : Nat) : Int))) rfl) (hA238.ev (v := (.int .i64 ((c166.length : Nat) : Int))) rfl)) (right_any y200 ((k185 : Nat) : Int) ((c166.length : Nat) : Int) w223) ?_)
            rintro e242 w239 ⟨he241, hG240⟩
            have m243 := m225.grow hG240
            have hr244 := range_below hr226 hG240 (Nat.lt_of_lt_of_le lt204 b227.size)
            have b245 := below_grow b227 hG240 b227.size
            refine ⟨(.int .i64 (rightR y200 ((k185 : Nat) : Int) ((c166.length : Nat) : Int))), he241, ?_⟩
            intro a246 hA247
            refine q_step hA247 rfl (d_assign (wn rfl) (hA247.ev (v := (.int .i64 (rightR y200 ((k185 : Nat) : Int) ((c166.length : Nat) : Int)))) rfl) ?_)
            intro a248 hA249
            refine q_end ?_
            have hA250 : St 60 [(0, v), (7, (.int .i64 ((j144 : Nat) : Int))), (8, y159), (9, (.int .i64 ((k185 : Nat) : Int))), (10, (.pointer (some ⟨g211, 0, none⟩))), (11, (.int .i64 (rightR y200 ((k185 : Nat) : Int) ((c166.length : Nat) : Int)))), (32, v), (33, (.int .i64 ((us.length : Nat) : Int))), (34, (.int .i64 ((j144 : Nat) : Int))), (39, y159), (40, (.int .i64 ((c166.length : Nat) : Int))), (41, (.int .i64 ((k185 : Nat) : Int))), (42, (.bool true)), (43, (.int .i64 ((k185 : Nat) : Int))), (44, (.pointer (some ⟨b202, o203, none⟩))), (45, (.agg (insC y200))), (46, (.agg (insC y200))), (47, (.int .i64 ((k185 : Nat) : Int))), (48, y159), (49, (.int .i64 ((c166.length : Nat) : Int))), (50, (.int .i64 (rightR y200 ((k185 : Nat) : Int) ((c166.length : Nat) : Int))))] a248 := hA249.cut _ (fm_cons (hA249.get 0 _ rfl) (fm_cons (hA249.get 7 _ rfl) (fm_cons (hA249.get 8 _ rfl) (fm_cons (hA249.get 9 _ rfl) (fm_cons (hA249.get 10 _ rfl) (fm_cons (hA249.get 11 _ rfl) (fm_cons (hA249.get 32 _ rfl) (fm_cons (hA249.get 33 _ rfl) (fm_cons (hA249.get 34 _ rfl) (fm_cons (hA249.get 39 _ rfl) (fm_cons (hA249.get 40 _ rfl) (fm_cons (hA249.get 41 _ rfl) (fm_cons (hA249.get 42 _ rfl) (fm_cons (hA249.get 43 _ rfl) (fm_cons (hA249.get 44 _ rfl) (fm_cons (hA249.get 45 _ rfl) (fm_cons (hA249.get 46 _ rfl) (fm_cons (hA249.get 47 _ rfl) (fm_cons (hA249.get 48 _ rfl) (fm_cons (hA249.get 49 _ rfl) (fm_cons (hA249.get 50 _ rfl) fm_nil)))))))))))))))))))))
            refine t_norm ?_
            refine wp_seq ?_
            refine wp_region_lit ?_
            refine q_step hA250 rfl (d_move (wn rfl) (hA250.ev (v := (.int .i64 (rightR y200 ((k185 : Nat) : Int) ((c166.length : Nat) : Int)))) rfl) ?_)
            intro a251 hA252
            rcases Bool.eq_false_or_eq_true (rightR y200 ((k185 : Nat) : Int) ((c166.length : Nat) : Int) == 0) with hb253 | hb253
            · skip
              have hq254 := eq_of_beq hb253
              refine q_step hA252 rfl (d_bin (wn rfl) (hA252.ev (v := (.int .i64 (rightR y200 ((k185 : Nat) : Int) ((c166.length : Nat) : Int)))) rfl) (hA252.ev (v := (.int .i64 0)) rfl) (b_ne _ _ (rightR y200 ((k185 : Nat) : Int) ((c166.length : Nat) : Int)) 0 false _ (notof hb253)) ?_)
              intro a255 hA256
              refine q_end ?_
              have hA257 : St 60 [(0, v), (7, (.int .i64 ((j144 : Nat) : Int))), (8, y159), (9, (.int .i64 ((k185 : Nat) : Int))), (10, (.pointer (some ⟨g211, 0, none⟩))), (11, (.int .i64 (rightR y200 ((k185 : Nat) : Int) ((c166.length : Nat) : Int)))), (32, v), (33, (.int .i64 ((us.length : Nat) : Int))), (34, (.int .i64 ((j144 : Nat) : Int))), (39, y159), (40, (.int .i64 ((c166.length : Nat) : Int))), (41, (.int .i64 ((k185 : Nat) : Int))), (42, (.bool true)), (43, (.int .i64 ((k185 : Nat) : Int))), (44, (.pointer (some ⟨b202, o203, none⟩))), (45, (.agg (insC y200))), (46, (.agg (insC y200))), (47, (.int .i64 ((k185 : Nat) : Int))), (48, y159), (49, (.int .i64 ((c166.length : Nat) : Int))), (50, (.int .i64 (rightR y200 ((k185 : Nat) : Int) ((c166.length : Nat) : Int)))), (51, (.int .i64 (rightR y200 ((k185 : Nat) : Int) ((c166.length : Nat) : Int)))), (52, (.bool false))] a255 := hA256.cut _ (fm_cons (hA256.get 0 _ rfl) (fm_cons (hA256.get 7 _ rfl) (fm_cons (hA256.get 8 _ rfl) (fm_cons (hA256.get 9 _ rfl) (fm_cons (hA256.get 10 _ rfl) (fm_cons (hA256.get 11 _ rfl) (fm_cons (hA256.get 32 _ rfl) (fm_cons (hA256.get 33 _ rfl) (fm_cons (hA256.get 34 _ rfl) (fm_cons (hA256.get 39 _ rfl) (fm_cons (hA256.get 40 _ rfl) (fm_cons (hA256.get 41 _ rfl) (fm_cons (hA256.get 42 _ rfl) (fm_cons (hA256.get 43 _ rfl) (fm_cons (hA256.get 44 _ rfl) (fm_cons (hA256.get 45 _ rfl) (fm_cons (hA256.get 46 _ rfl) (fm_cons (hA256.get 47 _ rfl) (fm_cons (hA256.get 48 _ rfl) (fm_cons (hA256.get 49 _ rfl) (fm_cons (hA256.get 50 _ rfl) (fm_cons (hA256.get 51 _ rfl) (fm_cons (hA256.get 52 _ rfl) fm_nil)))))))))))))))))))))))
              refine t_norm ?_
              refine c_false hA257 rfl ?_
              refine wp_skip ?_
              refine i_norm ?_
              refine t_norm ?_
              refine wp_region_lit ?_
              refine q_step hA257 rfl (d_bin (wn rfl) (hA257.ev (v := (.int .i64 ((k185 : Nat) : Int))) rfl) (hA257.ev (v := (.int .i64 1)) rfl) (b_add _ _ ((k185 : Nat) : Int) 1 _ (by omega) (by omega)) ?_)
              intro a258 hA259
              refine q_step hA259 rfl (d_move (wn rfl) (hA259.ev (v := (.int .i64 (((k185 : Nat) : Int) + 1))) rfl) ?_)
              intro a260 hA261
              refine q_end ?_
              have hA262 : St 60 [(0, v), (7, (.int .i64 ((j144 : Nat) : Int))), (8, y159), (9, (.int .i64 ((k185 : Nat) : Int))), (10, (.pointer (some ⟨g211, 0, none⟩))), (11, (.int .i64 (rightR y200 ((k185 : Nat) : Int) ((c166.length : Nat) : Int)))), (32, v), (33, (.int .i64 ((us.length : Nat) : Int))), (34, (.int .i64 ((j144 : Nat) : Int))), (39, y159), (40, (.int .i64 ((c166.length : Nat) : Int))), (41, (.int .i64 (((k185 : Nat) : Int) + 1))), (42, (.bool true)), (43, (.int .i64 ((k185 : Nat) : Int))), (44, (.pointer (some ⟨b202, o203, none⟩))), (45, (.agg (insC y200))), (46, (.agg (insC y200))), (47, (.int .i64 ((k185 : Nat) : Int))), (48, y159), (49, (.int .i64 ((c166.length : Nat) : Int))), (50, (.int .i64 (rightR y200 ((k185 : Nat) : Int) ((c166.length : Nat) : Int)))), (51, (.int .i64 (rightR y200 ((k185 : Nat) : Int) ((c166.length : Nat) : Int)))), (52, (.bool false)), (56, (.int .i64 (((k185 : Nat) : Int) + 1)))] a260 := hA261.cut _ (fm_cons (hA261.get 0 _ rfl) (fm_cons (hA261.get 7 _ rfl) (fm_cons (hA261.get 8 _ rfl) (fm_cons (hA261.get 9 _ rfl) (fm_cons (hA261.get 10 _ rfl) (fm_cons (hA261.get 11 _ rfl) (fm_cons (hA261.get 32 _ rfl) (fm_cons (hA261.get 33 _ rfl) (fm_cons (hA261.get 34 _ rfl) (fm_cons (hA261.get 39 _ rfl) (fm_cons (hA261.get 40 _ rfl) (fm_cons (hA261.get 41 _ rfl) (fm_cons (hA261.get 42 _ rfl) (fm_cons (hA261.get 43 _ rfl) (fm_cons (hA261.get 44 _ rfl) (fm_cons (hA261.get 45 _ rfl) (fm_cons (hA261.get 46 _ rfl) (fm_cons (hA261.get 47 _ rfl) (fm_cons (hA261.get 48 _ rfl) (fm_cons (hA261.get 49 _ rfl) (fm_cons (hA261.get 50 _ rfl) (fm_cons (hA261.get 51 _ rfl) (fm_cons (hA261.get 52 _ rfl) (fm_cons (hA261.get 56 _ rfl) fm_nil))))))))))))))))))))))))
              refine t_norm ?_
              exact ⟨c166.length - (k185 + 1), (by rw [hm191]; omega), k185 + 1, rfl, ⟨by have := get_lt hy201; omega, hc192.2.trans (bad1_at hy201 hb253)⟩, hA262.cut _ (fm_cons (hA262.get 0 _ rfl) (fm_cons (hA262.get 7 _ rfl) (fm_cons (hA262.get 8 _ rfl) (fm_cons (hA262.get 32 _ rfl) (fm_cons (hA262.get 33 _ rfl) (fm_cons (hA262.get 34 _ rfl) (fm_cons (hA262.get 39 _ rfl) (fm_cons (hA262.get 40 _ rfl) (fm_cons ((hA262.get 41 _ rfl).trans (congrArg (Value.int .i64) (by omega))) fm_nil))))))))), b245⟩
            · skip
              have hq263 := ne_of_beq hb253
              refine q_step hA252 rfl (d_bin (wn rfl) (hA252.ev (v := (.int .i64 (rightR y200 ((k185 : Nat) : Int) ((c166.length : Nat) : Int)))) rfl) (hA252.ev (v := (.int .i64 0)) rfl) (b_ne _ _ (rightR y200 ((k185 : Nat) : Int) ((c166.length : Nat) : Int)) 0 true _ (notof hb253)) ?_)
              intro a264 hA265
              refine q_end ?_
              have hA266 : St 60 [(0, v), (7, (.int .i64 ((j144 : Nat) : Int))), (8, y159), (9, (.int .i64 ((k185 : Nat) : Int))), (10, (.pointer (some ⟨g211, 0, none⟩))), (11, (.int .i64 (rightR y200 ((k185 : Nat) : Int) ((c166.length : Nat) : Int)))), (32, v), (33, (.int .i64 ((us.length : Nat) : Int))), (34, (.int .i64 ((j144 : Nat) : Int))), (39, y159), (40, (.int .i64 ((c166.length : Nat) : Int))), (41, (.int .i64 ((k185 : Nat) : Int))), (42, (.bool true)), (43, (.int .i64 ((k185 : Nat) : Int))), (44, (.pointer (some ⟨b202, o203, none⟩))), (45, (.agg (insC y200))), (46, (.agg (insC y200))), (47, (.int .i64 ((k185 : Nat) : Int))), (48, y159), (49, (.int .i64 ((c166.length : Nat) : Int))), (50, (.int .i64 (rightR y200 ((k185 : Nat) : Int) ((c166.length : Nat) : Int)))), (51, (.int .i64 (rightR y200 ((k185 : Nat) : Int) ((c166.length : Nat) : Int)))), (52, (.bool true))] a264 := hA265.cut _ (fm_cons (hA265.get 0 _ rfl) (fm_cons (hA265.get 7 _ rfl) (fm_cons (hA265.get 8 _ rfl) (fm_cons (hA265.get 9 _ rfl) (fm_cons (hA265.get 10 _ rfl) (fm_cons (hA265.get 11 _ rfl) (fm_cons (hA265.get 32 _ rfl) (fm_cons (hA265.get 33 _ rfl) (fm_cons (hA265.get 34 _ rfl) (fm_cons (hA265.get 39 _ rfl) (fm_cons (hA265.get 40 _ rfl) (fm_cons (hA265.get 41 _ rfl) (fm_cons (hA265.get 42 _ rfl) (fm_cons (hA265.get 43 _ rfl) (fm_cons (hA265.get 44 _ rfl) (fm_cons (hA265.get 45 _ rfl) (fm_cons (hA265.get 46 _ rfl) (fm_cons (hA265.get 47 _ rfl) (fm_cons (hA265.get 48 _ rfl) (fm_cons (hA265.get 49 _ rfl) (fm_cons (hA265.get 50 _ rfl) (fm_cons (hA265.get 51 _ rfl) (fm_cons (hA265.get 52 _ rfl) fm_nil)))))))))))))))))))))))
              refine t_norm ?_
              refine c_true hA266 rfl ?_
              refine wp_seq ?_
              refine wp_region_lit ?_
              refine q_step hA266 rfl (d_move (wn rfl) (hA266.ev (v := (.int .i64 ((j144 : Nat) : Int))) rfl) ?_)
              intro a267 hA268
              refine q_step hA268 rfl (d_move (wn rfl) (hA268.ev (v := (.int .i64 ((k185 : Nat) : Int))) rfl) ?_)
              intro a269 hA270
              refine q_step hA270 rfl (d_move (wn rfl) (hA270.ev (v := (.int .i64 (rightR y200 ((k185 : Nat) : Int) ((c166.length : Nat) : Int)))) rfl) ?_)
              intro a271 hA272
              refine q_step hA272 rfl (d_assign (wn rfl) (hA272.ev (v := (.int .i64 ((j144 : Nat) : Int))) rfl) ?_)
              intro a273 hA274
              refine q_step hA274 rfl (d_assign (wn rfl) (hA274.ev (v := (.int .i64 ((k185 : Nat) : Int))) rfl) ?_)
              intro a275 hA276
              refine q_step hA276 rfl (d_assign (wn rfl) (hA276.ev (v := (.int .i64 (rightR y200 ((k185 : Nat) : Int) ((c166.length : Nat) : Int)))) rfl) ?_)
              intro a277 hA278
              refine q_end ?_
              have hA279 : St 60 [(0, v), (2, (.int .i64 ((j144 : Nat) : Int))), (3, (.int .i64 ((k185 : Nat) : Int))), (4, (.int .i64 (rightR y200 ((k185 : Nat) : Int) ((c166.length : Nat) : Int)))), (7, (.int .i64 ((j144 : Nat) : Int))), (8, y159), (9, (.int .i64 ((k185 : Nat) : Int))), (10, (.pointer (some ⟨g211, 0, none⟩))), (11, (.int .i64 (rightR y200 ((k185 : Nat) : Int) ((c166.length : Nat) : Int)))), (32, v), (33, (.int .i64 ((us.length : Nat) : Int))), (34, (.int .i64 ((j144 : Nat) : Int))), (39, y159), (40, (.int .i64 ((c166.length : Nat) : Int))), (41, (.int .i64 ((k185 : Nat) : Int))), (42, (.bool true)), (43, (.int .i64 ((k185 : Nat) : Int))), (44, (.pointer (some ⟨b202, o203, none⟩))), (45, (.agg (insC y200))), (46, (.agg (insC y200))), (47, (.int .i64 ((k185 : Nat) : Int))), (48, y159), (49, (.int .i64 ((c166.length : Nat) : Int))), (50, (.int .i64 (rightR y200 ((k185 : Nat) : Int) ((c166.length : Nat) : Int)))), (51, (.int .i64 (rightR y200 ((k185 : Nat) : Int) ((c166.length : Nat) : Int)))), (52, (.bool true)), (53, (.int .i64 ((j144 : Nat) : Int))), (54, (.int .i64 ((k185 : Nat) : Int))), (55, (.int .i64 (rightR y200 ((k185 : Nat) : Int) ((c166.length : Nat) : Int))))] a277 := hA278.cut _ (fm_cons (hA278.get 0 _ rfl) (fm_cons (hA278.get 2 _ rfl) (fm_cons (hA278.get 3 _ rfl) (fm_cons (hA278.get 4 _ rfl) (fm_cons (hA278.get 7 _ rfl) (fm_cons (hA278.get 8 _ rfl) (fm_cons (hA278.get 9 _ rfl) (fm_cons (hA278.get 10 _ rfl) (fm_cons (hA278.get 11 _ rfl) (fm_cons (hA278.get 32 _ rfl) (fm_cons (hA278.get 33 _ rfl) (fm_cons (hA278.get 34 _ rfl) (fm_cons (hA278.get 39 _ rfl) (fm_cons (hA278.get 40 _ rfl) (fm_cons (hA278.get 41 _ rfl) (fm_cons (hA278.get 42 _ rfl) (fm_cons (hA278.get 43 _ rfl) (fm_cons (hA278.get 44 _ rfl) (fm_cons (hA278.get 45 _ rfl) (fm_cons (hA278.get 46 _ rfl) (fm_cons (hA278.get 47 _ rfl) (fm_cons (hA278.get 48 _ rfl) (fm_cons (hA278.get 49 _ rfl) (fm_cons (hA278.get 50 _ rfl) (fm_cons (hA278.get 51 _ rfl) (fm_cons (hA278.get 52 _ rfl) (fm_cons (hA278.get 53 _ rfl) (fm_cons (hA278.get 54 _ rfl) (fm_cons (hA278.get 55 _ rfl) fm_nil)))))))))))))))))))))))))))))
              refine t_norm ?_
              refine wp_ret ?_
              refine i_ret ?_
              refine t_ret ?_
              refine t_ret ?_
              refine i_ret ?_
              refine i_ret ?_
              refine t_ret ?_
              refine t_ret ?_
              refine i_ret ?_
              refine t_ret ?_
              refine ret3 (x := (.int .i64 ((j144 : Nat) : Int))) (y := (.int .i64 ((k185 : Nat) : Int))) (z := (.int .i64 (rightR y200 ((k185 : Nat) : Int) ((c166.length : Nat) : Int)))) rfl hA279 rfl rfl rfl ?_
              have hr := check_bad (cs := cs) (by omega) (by omega) hlong (hc151.2.trans (bad2_yes hc167 (hc192.2.trans (bad1_yes hy201 hb253))))
              exact ⟨ret_three (by rw [hr]) (by rw [hr]) (by rw [hr]), b245⟩
          · skip
            have hq280 := of_decide_eq_false hb193
            refine q_step hA189 rfl (d_bin (wn rfl) (hA189.ev (v := (.int .i64 ((k185 : Nat) : Int))) rfl) (hA189.ev (v := (.int .i64 ((c166.length : Nat) : Int))) rfl) (b_lt _ _ ((k185 : Nat) : Int) ((c166.length : Nat) : Int) false _ hb193) ?_)
            intro a281 hA282
            refine q_end ?_
            have hA283 : St 60 [(0, v), (7, (.int .i64 ((j144 : Nat) : Int))), (8, y159), (32, v), (33, (.int .i64 ((us.length : Nat) : Int))), (34, (.int .i64 ((j144 : Nat) : Int))), (39, y159), (40, (.int .i64 ((c166.length : Nat) : Int))), (41, (.int .i64 ((k185 : Nat) : Int))), (42, (.bool false))] a281 := hA282.cut _ (fm_cons (hA282.get 0 _ rfl) (fm_cons (hA282.get 7 _ rfl) (fm_cons (hA282.get 8 _ rfl) (fm_cons (hA282.get 32 _ rfl) (fm_cons (hA282.get 33 _ rfl) (fm_cons (hA282.get 34 _ rfl) (fm_cons (hA282.get 39 _ rfl) (fm_cons (hA282.get 40 _ rfl) (fm_cons (hA282.get 41 _ rfl) (fm_cons (hA282.get 42 _ rfl) fm_nil))))))))))
            refine t_norm ?_
            refine wp_seq ?_
            refine c_false hA283 rfl ?_
            refine wp_exit ?_
            refine t_exit ?_
            refine t_exit ?_
            refine i_here ?_
            refine i_norm ?_
            refine t_norm ?_
            refine wp_region_lit ?_
            refine q_step hA283 rfl (d_bin (wn rfl) (hA283.ev (v := (.int .i64 ((j144 : Nat) : Int))) rfl) (hA283.ev (v := (.int .i64 1)) rfl) (b_add _ _ ((j144 : Nat) : Int) 1 _ (by omega) (by omega)) ?_)
            intro a284 hA285
            refine q_step hA285 rfl (d_move (wn rfl) (hA285.ev (v := (.int .i64 (((j144 : Nat) : Int) + 1))) rfl) ?_)
            intro a286 hA287
            refine q_end ?_
            have hA288 : St 60 [(0, v), (7, (.int .i64 ((j144 : Nat) : Int))), (8, y159), (32, v), (33, (.int .i64 ((us.length : Nat) : Int))), (34, (.int .i64 (((j144 : Nat) : Int) + 1))), (39, y159), (40, (.int .i64 ((c166.length : Nat) : Int))), (41, (.int .i64 ((k185 : Nat) : Int))), (42, (.bool false)), (57, (.int .i64 (((j144 : Nat) : Int) + 1)))] a286 := hA287.cut _ (fm_cons (hA287.get 0 _ rfl) (fm_cons (hA287.get 7 _ rfl) (fm_cons (hA287.get 8 _ rfl) (fm_cons (hA287.get 32 _ rfl) (fm_cons (hA287.get 33 _ rfl) (fm_cons (hA287.get 34 _ rfl) (fm_cons (hA287.get 39 _ rfl) (fm_cons (hA287.get 40 _ rfl) (fm_cons (hA287.get 41 _ rfl) (fm_cons (hA287.get 42 _ rfl) (fm_cons (hA287.get 57 _ rfl) fm_nil)))))))))))
            refine t_norm ?_
            exact ⟨cs.length - (j144 + 1), (by rw [hm150]; omega), j144 + 1, rfl, ⟨by have := get_lt hc167; omega, hc151.2.trans (bad2_at hc167 (hc192.2.trans (by rw [drop_end (by omega)]; rfl)))⟩, hA288.cut _ (fm_cons (hA288.get 0 _ rfl) (fm_cons (hA288.get 32 _ rfl) (fm_cons (hA288.get 33 _ rfl) (fm_cons ((hA288.get 34 _ rfl).trans (congrArg (Value.int .i64) (by omega))) fm_nil)))), b190⟩
        · skip
          have hq289 := of_decide_eq_false hb152
          refine q_step hA148 rfl (d_bin (wn rfl) (hA148.ev (v := (.int .i64 ((j144 : Nat) : Int))) rfl) (hA148.ev (v := (.int .i64 ((us.length : Nat) : Int))) rfl) (b_lt _ _ ((j144 : Nat) : Int) ((us.length : Nat) : Int) false _ hb152) ?_)
          intro a290 hA291
          refine q_end ?_
          have hA292 : St 60 [(0, v), (32, v), (33, (.int .i64 ((us.length : Nat) : Int))), (34, (.int .i64 ((j144 : Nat) : Int))), (35, (.bool false))] a290 := hA291.cut _ (fm_cons (hA291.get 0 _ rfl) (fm_cons (hA291.get 32 _ rfl) (fm_cons (hA291.get 33 _ rfl) (fm_cons (hA291.get 34 _ rfl) (fm_cons (hA291.get 35 _ rfl) fm_nil)))))
          refine t_norm ?_
          refine wp_seq ?_
          refine c_false hA292 rfl ?_
          refine wp_exit ?_
          refine t_exit ?_
          refine t_exit ?_
          refine i_here ?_
          refine t_norm ?_
          refine wp_seq ?_
          refine wp_region_lit ?_
          refine q_step hA292 rfl (d_move (wn rfl) (hA292.ev (v := v) rfl) ?_)
          intro a293 hA294
          refine q_step hA294 rfl (d_call (wn rfl) ent33 (map1 (hA294.ev (v := v) rfl)) (checkCounts_any cs v w147 ((hCs.below b149).mono b149.size) (by omega) (by omega)) ?_)
          rintro e298 w295 ⟨he297, hG296⟩
          have b299 := below_grow b149 hG296 b149.size
          refine ⟨(.int .i64 (cntsR cs)), he297, ?_⟩
          intro a300 hA301
          refine q_step hA301 rfl (d_assign (wn rfl) (hA301.ev (v := (.int .i64 0)) rfl) ?_)
          intro a302 hA303
          refine q_step hA303 rfl (d_assign (wn rfl) (hA303.ev (v := (.int .i64 0)) rfl) ?_)
          intro a304 hA305
          refine q_step hA305 rfl (d_assign (wn rfl) (hA305.ev (v := (.int .i64 (cntsR cs))) rfl) ?_)
          intro a306 hA307
          refine q_end ?_
          have hA308 : St 60 [(2, (.int .i64 0)), (3, (.int .i64 0)), (4, (.int .i64 (cntsR cs)))] a306 := hA307.cut _ (fm_cons (hA307.get 2 _ rfl) (fm_cons (hA307.get 3 _ rfl) (fm_cons (hA307.get 4 _ rfl) fm_nil)))
          refine t_norm ?_
          refine wp_ret ?_
          refine ret3 (x := (.int .i64 0)) (y := (.int .i64 0)) (z := (.int .i64 (cntsR cs))) rfl hA308 rfl rfl rfl ?_
          have hr := check_none (cs := cs) (by omega) (by omega) hlong ((hc151.2).trans (by rw [drop_end (by omega)]; rfl))
          exact ⟨ret_three (by rw [hr]) (by rw [hr]) (by rw [hr]), b299⟩
end Go.Proofs.Ytlhompedcphnnaa
