/- What the reference for Check returns. -/
import Derived.Test.YtlhompedcphnnaaV3
namespace Go.Proofs.Ytlhompedcphnnaa
open Go.RowKit
set_option linter.unusedSimpArgs false
set_option linter.unusedVariables false
set_option maxHeartbeats 4000000 in
set_option maxRecDepth 4000 in
theorem rcheck_any (cs : List (List Ins)) (v : Value) (w : World) (hCs : Cs w.heap.size w v cs) (hn : cs.length ≤ 1000) (ht : totN cs ≤ 1000000) : Calls Try.prog 21 #[v] w fun e w' => e = .returned (.tuple #[.int .i64 (checkR cs).1, .int .i64 (checkR cs).2.1, .int .i64 (checkR cs).2.2]) ∧ Grow w w' := by
  obtain ⟨us, hus, hul, hin⟩ := id hCs
  have b0 : Below w.heap.size w w := Below.refl _ _
  refine enter (n := 84) Try.func21 rfl rfl (Nat.le_of_ble_eq_true rfl) ?_
  intro a1 hA2
  refine wp_seq ?_
  refine wp_region_lit ?_
  refine q_step hA2 rfl (d_assign (wn rfl) (hA2.ev (v := (.int .i64 0)) rfl) ?_)
  intro a3 hA4
  refine q_step hA4 rfl (d_assign (wn rfl) (hA4.ev (v := (.int .i64 0)) rfl) ?_)
  intro a5 hA6
  refine q_step hA6 rfl (d_assign (wn rfl) (hA6.ev (v := (.int .i64 0)) rfl) ?_)
  intro a7 hA8
  refine q_end ?_
  have hA9 : St 84 [(0, v), (2, (.int .i64 0)), (3, (.int .i64 0)), (4, (.int .i64 0))] a7 := hA8.cut _ (fm_cons (hA8.get 0 _ rfl) (fm_cons (hA8.get 2 _ rfl) (fm_cons (hA8.get 3 _ rfl) (fm_cons (hA8.get 4 _ rfl) fm_nil))))
  refine t_norm ?_
  refine wp_seq ?_
  refine wp_seq ?_
  refine wp_region_lit ?_
  refine q_step hA9 rfl (d_move (wn rfl) (hA9.ev (v := v) rfl) ?_)
  intro a10 hA11
  refine q_step hA11 rfl (d_len (n := us.length) (wn rfl) (hA11.ev (v := v) rfl) slc34 hus.form ?_)
  intro a12 hA13
  rcases Bool.eq_false_or_eq_true (decide (((us.length : Nat) : Int) < 1)) with hb14 | hb14
  · skip
    have hq15 := of_decide_eq_true hb14
    refine q_step hA13 rfl (d_bin (wn rfl) (hA13.ev (v := (.int .i64 ((us.length : Nat) : Int))) rfl) (hA13.ev (v := (.int .i64 1)) rfl) (b_lt _ _ ((us.length : Nat) : Int) 1 true _ hb14) ?_)
    intro a16 hA17
    refine q_step hA17 rfl (d_move (wn rfl) (hA17.ev (v := (.bool true)) rfl) ?_)
    intro a18 hA19
    refine q_step hA19 rfl (does_not (wno rfl rfl (.inl (hA19.get 14 _ rfl))) ?_)
    intro a20 hA21
    refine q_step hA21 rfl (does_not (wno rfl rfl (.inl (hA21.get 14 _ rfl))) ?_)
    intro a22 hA23
    refine q_step hA23 rfl (does_not (wno rfl rfl (.inl (hA23.get 14 _ rfl))) ?_)
    intro a24 hA25
    refine q_step hA25 rfl (d_pickT (wn rfl) (hA25.ev (v := (.bool true)) rfl) (hA25.ev (v := (.bool true)) rfl) ?_)
    intro a26 hA27
    refine q_end ?_
    have hA28 : St 84 [(0, v), (2, (.int .i64 0)), (3, (.int .i64 0)), (4, (.int .i64 0)), (18, (.bool true))] a26 := hA27.cut _ (fm_cons (hA27.get 0 _ rfl) (fm_cons (hA27.get 2 _ rfl) (fm_cons (hA27.get 3 _ rfl) (fm_cons (hA27.get 4 _ rfl) (fm_cons (hA27.get 18 _ rfl) fm_nil)))))
    refine t_norm ?_
    refine c_true hA28 rfl ?_
    refine wp_seq ?_
    refine wp_region_lit ?_
    refine q_step hA28 rfl (d_assign (wn rfl) (hA28.ev (v := (.int .i64 0)) rfl) ?_)
    intro a29 hA30
    refine q_step hA30 rfl (d_assign (wn rfl) (hA30.ev (v := (.int .i64 0)) rfl) ?_)
    intro a31 hA32
    refine q_step hA32 rfl (d_assign (wn rfl) (hA32.ev (v := (.int .i64 30)) rfl) ?_)
    intro a33 hA34
    refine q_end ?_
    have hA35 : St 84 [(0, v), (2, (.int .i64 0)), (3, (.int .i64 0)), (4, (.int .i64 30))] a33 := hA34.cut _ (fm_cons (hA34.get 0 _ rfl) (fm_cons (hA34.get 2 _ rfl) (fm_cons (hA34.get 3 _ rfl) (fm_cons (hA34.get 4 _ rfl) fm_nil))))
    refine t_norm ?_
    refine wp_ret ?_
    refine t_ret ?_
    refine ret3 (x := (.int .i64 0)) (y := (.int .i64 0)) (z := (.int .i64 30)) rfl hA35 rfl rfl rfl ?_
    have hr := check_threads (cs := cs) (by omega)
    exact ⟨ret_three (by rw [hr]) (by rw [hr]) (by rw [hr]), b0⟩
  · skip
    have hq36 := of_decide_eq_false hb14
    refine q_step hA13 rfl (d_bin (wn rfl) (hA13.ev (v := (.int .i64 ((us.length : Nat) : Int))) rfl) (hA13.ev (v := (.int .i64 1)) rfl) (b_lt _ _ ((us.length : Nat) : Int) 1 false _ hb14) ?_)
    intro a37 hA38
    refine q_step hA38 rfl (d_move (wn rfl) (hA38.ev (v := (.bool false)) rfl) ?_)
    intro a39 hA40
    refine q_step hA40 rfl (d_move (wy rfl rfl (hA40.get 14 _ rfl)) (hA40.ev (v := v) rfl) ?_)
    intro a41 hA42
    refine q_step hA42 rfl (d_len (n := us.length) (wy rfl rfl (hA42.get 14 _ rfl)) (hA42.ev (v := v) rfl) slc34 hus.form ?_)
    intro a43 hA44
    rcases Bool.eq_false_or_eq_true (decide (((us.length : Nat) : Int) > 3)) with hb45 | hb45
    · skip
      have hq46 := of_decide_eq_true hb45
      refine q_step hA44 rfl (d_bin (wy rfl rfl (hA44.get 14 _ rfl)) (hA44.ev (v := (.int .i64 ((us.length : Nat) : Int))) rfl) (hA44.ev (v := (.int .i64 3)) rfl) (b_gt _ _ ((us.length : Nat) : Int) 3 true _ hb45) ?_)
      intro a47 hA48
      refine q_step hA48 rfl (d_pickF (wn rfl) (hA48.ev (v := (.bool false)) rfl) (hA48.ev (v := (.bool true)) rfl) ?_)
      intro a49 hA50
      refine q_end ?_
      have hA51 : St 84 [(0, v), (2, (.int .i64 0)), (3, (.int .i64 0)), (4, (.int .i64 0)), (18, (.bool true))] a49 := hA50.cut _ (fm_cons (hA50.get 0 _ rfl) (fm_cons (hA50.get 2 _ rfl) (fm_cons (hA50.get 3 _ rfl) (fm_cons (hA50.get 4 _ rfl) (fm_cons (hA50.get 18 _ rfl) fm_nil)))))
      refine t_norm ?_
      refine c_true hA51 rfl ?_
      refine wp_seq ?_
      refine wp_region_lit ?_
      refine q_step hA51 rfl (d_assign (wn rfl) (hA51.ev (v := (.int .i64 0)) rfl) ?_)
      intro a52 hA53
      refine q_step hA53 rfl (d_assign (wn rfl) (hA53.ev (v := (.int .i64 0)) rfl) ?_)
      intro a54 hA55
      refine q_step hA55 rfl (d_assign (wn rfl) (hA55.ev (v := (.int .i64 30)) rfl) ?_)
      intro a56 hA57
      refine q_end ?_
      have hA58 : St 84 [(0, v), (2, (.int .i64 0)), (3, (.int .i64 0)), (4, (.int .i64 30))] a56 := hA57.cut _ (fm_cons (hA57.get 0 _ rfl) (fm_cons (hA57.get 2 _ rfl) (fm_cons (hA57.get 3 _ rfl) (fm_cons (hA57.get 4 _ rfl) fm_nil))))
      refine t_norm ?_
      refine wp_ret ?_
      refine t_ret ?_
      refine ret3 (x := (.int .i64 0)) (y := (.int .i64 0)) (z := (.int .i64 30)) rfl hA58 rfl rfl rfl ?_
      have hr := check_threads (cs := cs) (by omega)
      exact ⟨ret_three (by rw [hr]) (by rw [hr]) (by rw [hr]), b0⟩
    · skip
      have hq59 := of_decide_eq_false hb45
      refine q_step hA44 rfl (d_bin (wy rfl rfl (hA44.get 14 _ rfl)) (hA44.ev (v := (.int .i64 ((us.length : Nat) : Int))) rfl) (hA44.ev (v := (.int .i64 3)) rfl) (b_gt _ _ ((us.length : Nat) : Int) 3 false _ hb45) ?_)
      intro a60 hA61
      refine q_step hA61 rfl (d_pickF (wn rfl) (hA61.ev (v := (.bool false)) rfl) (hA61.ev (v := (.bool false)) rfl) ?_)
      intro a62 hA63
      refine q_end ?_
      have hA64 : St 84 [(0, v), (2, (.int .i64 0)), (3, (.int .i64 0)), (4, (.int .i64 0)), (18, (.bool false))] a62 := hA63.cut _ (fm_cons (hA63.get 0 _ rfl) (fm_cons (hA63.get 2 _ rfl) (fm_cons (hA63.get 3 _ rfl) (fm_cons (hA63.get 4 _ rfl) (fm_cons (hA63.get 18 _ rfl) fm_nil)))))
      refine t_norm ?_
      refine c_false hA64 rfl ?_
      refine wp_skip ?_
      refine t_norm ?_
      refine wp_seq ?_
      refine wp_region_lit ?_
      refine q_step hA64 rfl (d_assign (wn rfl) (hA64.ev (v := (.int .i64 0)) rfl) ?_)
      intro a65 hA66
      refine q_end ?_
      have hA67 : St 84 [(0, v), (2, (.int .i64 0)), (3, (.int .i64 0)), (4, (.int .i64 0)), (5, (.int .i64 0))] a65 := hA66.cut _ (fm_cons (hA66.get 0 _ rfl) (fm_cons (hA66.get 2 _ rfl) (fm_cons (hA66.get 3 _ rfl) (fm_cons (hA66.get 4 _ rfl) (fm_cons (hA66.get 5 _ rfl) fm_nil)))))
      refine t_norm ?_
      refine wp_seq ?_
      refine wp_region_lit ?_
      refine q_step hA67 rfl (d_assign (wn rfl) (hA67.ev (v := (.int .i64 0)) rfl) ?_)
      intro a68 hA69
      refine q_end ?_
      have hA70 : St 84 [(0, v), (2, (.int .i64 0)), (3, (.int .i64 0)), (4, (.int .i64 0)), (5, (.int .i64 0)), (6, (.int .i64 0))] a68 := hA69.cut _ (fm_cons (hA69.get 0 _ rfl) (fm_cons (hA69.get 2 _ rfl) (fm_cons (hA69.get 3 _ rfl) (fm_cons (hA69.get 4 _ rfl) (fm_cons (hA69.get 5 _ rfl) (fm_cons (hA69.get 6 _ rfl) fm_nil))))))
      refine t_norm ?_
      refine wp_seq ?_
      refine wp_seq ?_
      refine wp_region_lit ?_
      refine q_step hA70 rfl (d_assign (wn rfl) (hA70.ev (v := (.int .i64 0)) rfl) ?_)
      intro a71 hA72
      refine q_end ?_
      have hA73 : St 84 [(0, v), (2, (.int .i64 0)), (3, (.int .i64 0)), (4, (.int .i64 0)), (5, (.int .i64 0)), (6, (.int .i64 0)), (7, (.int .i64 0))] a71 := hA72.cut _ (fm_cons (hA72.get 0 _ rfl) (fm_cons (hA72.get 2 _ rfl) (fm_cons (hA72.get 3 _ rfl) (fm_cons (hA72.get 4 _ rfl) (fm_cons (hA72.get 5 _ rfl) (fm_cons (hA72.get 6 _ rfl) (fm_cons (hA72.get 7 _ rfl) fm_nil)))))))
      refine t_norm ?_
      refine wp_block ?_
      refine loop_by (fun m75 a76 w77 => ∃ j74 : Nat, m75 = cs.length - j74 ∧ (j74 ≤ cs.length ∧ longR cs 0 = longR (cs.drop j74) j74) ∧ St 84 [(0, v), (5, (.int .i64 0)), (6, (.int .i64 0)), (7, (.int .i64 ((j74 : Nat) : Int)))] a76 ∧ Below w.heap.size w w77) (cs.length - 0) ⟨0, rfl, ⟨by omega, rfl⟩, hA73.cut _ (fm_cons (hA73.get 0 _ rfl) (fm_cons (hA73.get 5 _ rfl) (fm_cons (hA73.get 6 _ rfl) (fm_cons ((hA73.get 7 _ rfl).trans (congrArg (Value.int .i64) (by omega))) fm_nil)))), b0⟩ ?_
      rintro m75 a76 w77 ⟨j74, hm80, hc81, hA78, b79⟩
      refine wp_seq ?_
      refine wp_seq ?_
      refine wp_region_lit ?_
      refine q_step hA78 rfl (d_move (wn rfl) (hA78.ev (v := (.int .i64 ((j74 : Nat) : Int))) rfl) ?_)
      intro a82 hA83
      refine q_step hA83 rfl (d_move (wn rfl) (hA83.ev (v := v) rfl) ?_)
      intro a84 hA85
      refine q_step hA85 rfl (d_len (n := us.length) (wn rfl) (hA85.ev (v := v) rfl) slc34 hus.form ?_)
      intro a86 hA87
      rcases Bool.eq_false_or_eq_true (decide (((j74 : Nat) : Int) < ((us.length : Nat) : Int))) with hb88 | hb88
      · skip
        have hq89 := of_decide_eq_true hb88
        refine q_step hA87 rfl (d_bin (wn rfl) (hA87.ev (v := (.int .i64 ((j74 : Nat) : Int))) rfl) (hA87.ev (v := (.int .i64 ((us.length : Nat) : Int))) rfl) (b_lt _ _ ((j74 : Nat) : Int) ((us.length : Nat) : Int) true _ hb88) ?_)
        intro a90 hA91
        refine q_end ?_
        have hA92 : St 84 [(0, v), (5, (.int .i64 0)), (6, (.int .i64 0)), (7, (.int .i64 ((j74 : Nat) : Int))), (19, (.int .i64 ((j74 : Nat) : Int))), (20, v), (21, (.int .i64 ((us.length : Nat) : Int))), (22, (.bool true))] a90 := hA91.cut _ (fm_cons (hA91.get 0 _ rfl) (fm_cons (hA91.get 5 _ rfl) (fm_cons (hA91.get 6 _ rfl) (fm_cons (hA91.get 7 _ rfl) (fm_cons (hA91.get 19 _ rfl) (fm_cons (hA91.get 20 _ rfl) (fm_cons (hA91.get 21 _ rfl) (fm_cons (hA91.get 22 _ rfl) fm_nil))))))))
        refine t_norm ?_
        refine c_true hA92 rfl ?_
        refine wp_skip ?_
        refine t_norm ?_
        refine wp_seq ?_
        refine wp_block ?_
        refine wp_seq ?_
        refine wp_region_lit ?_
        refine q_step hA92 rfl (d_move (wn rfl) (hA92.ev (v := v) rfl) ?_)
        intro a93 hA94
        refine q_step hA94 rfl (d_move (wn rfl) (hA94.ev (v := (.int .i64 ((j74 : Nat) : Int))) rfl) ?_)
        intro a95 hA96
        obtain ⟨y97, hy98⟩ : ∃ y97, us[j74]? = some y97 := ⟨_, List.getElem?_eq_getElem (show j74 < us.length by omega)⟩
        obtain ⟨b99, o100, lt101, hr102, hix103⟩ := (hus.below b79).at hy98
        obtain ⟨c104, hc105⟩ : ∃ c, cs[j74]? = some c := ⟨_, List.getElem?_eq_getElem (show j74 < cs.length by have := get_lt hy98; omega)⟩
        have hsl106 := hin j74 y97 c104 hy98 hc105
        have hlc104 := len_le hc105
        have hoc104 := ops_le c104
        have hbc104 := br_le c104
        refine q_step hA96 rfl (d_indexAt (j := j74) (wn rfl) (hA96.ev (v := v) rfl) (hA96.ev (v := (.int .i64 ((j74 : Nat) : Int))) rfl) slc34 hix103 (get_lt hy98) ?_)
        intro a107 hA108
        refine q_step hA108 rfl (d_load (v := y97) (wn rfl) (hA108.ev (v := (.pointer (some ⟨b99, o100, none⟩))) rfl) one35 (hr102 0 _ rfl) ?_)
        intro a109 hA110
        refine q_step hA110 rfl (d_len (n := c104.length) (wn rfl) (hA110.ev (v := y97) rfl) slc35 hsl106.form ?_)
        intro a111 hA112
        rcases Bool.eq_false_or_eq_true (decide (((c104.length : Nat) : Int) > 8)) with hb113 | hb113
        · skip
          have hq114 := of_decide_eq_true hb113
          refine q_step hA112 rfl (d_bin (wn rfl) (hA112.ev (v := (.int .i64 ((c104.length : Nat) : Int))) rfl) (hA112.ev (v := (.int .i64 8)) rfl) (b_gt _ _ ((c104.length : Nat) : Int) 8 true _ hb113) ?_)
          intro a115 hA116
          refine q_end ?_
          have hA117 : St 84 [(0, v), (5, (.int .i64 0)), (6, (.int .i64 0)), (7, (.int .i64 ((j74 : Nat) : Int))), (19, (.int .i64 ((j74 : Nat) : Int))), (20, v), (21, (.int .i64 ((us.length : Nat) : Int))), (22, (.bool true)), (25, v), (26, (.int .i64 ((j74 : Nat) : Int))), (27, (.pointer (some ⟨b99, o100, none⟩))), (28, y97), (29, (.int .i64 ((c104.length : Nat) : Int))), (30, (.bool true))] a115 := hA116.cut _ (fm_cons (hA116.get 0 _ rfl) (fm_cons (hA116.get 5 _ rfl) (fm_cons (hA116.get 6 _ rfl) (fm_cons (hA116.get 7 _ rfl) (fm_cons (hA116.get 19 _ rfl) (fm_cons (hA116.get 20 _ rfl) (fm_cons (hA116.get 21 _ rfl) (fm_cons (hA116.get 22 _ rfl) (fm_cons (hA116.get 25 _ rfl) (fm_cons (hA116.get 26 _ rfl) (fm_cons (hA116.get 27 _ rfl) (fm_cons (hA116.get 28 _ rfl) (fm_cons (hA116.get 29 _ rfl) (fm_cons (hA116.get 30 _ rfl) fm_nil))))))))))))))
          refine t_norm ?_
          refine c_true hA117 rfl ?_
          refine wp_seq ?_
          refine wp_region_lit ?_
          refine q_step hA117 rfl (d_move (wn rfl) (hA117.ev (v := (.int .i64 ((j74 : Nat) : Int))) rfl) ?_)
          intro a118 hA119
          refine q_step hA119 rfl (d_assign (wn rfl) (hA119.ev (v := (.int .i64 ((j74 : Nat) : Int))) rfl) ?_)
          intro a120 hA121
          refine q_step hA121 rfl (d_assign (wn rfl) (hA121.ev (v := (.int .i64 0)) rfl) ?_)
          intro a122 hA123
          refine q_step hA123 rfl (d_assign (wn rfl) (hA123.ev (v := (.int .i64 31)) rfl) ?_)
          intro a124 hA125
          refine q_end ?_
          have hA126 : St 84 [(0, v), (2, (.int .i64 ((j74 : Nat) : Int))), (3, (.int .i64 0)), (4, (.int .i64 31)), (5, (.int .i64 0)), (6, (.int .i64 0)), (7, (.int .i64 ((j74 : Nat) : Int))), (19, (.int .i64 ((j74 : Nat) : Int))), (20, v), (21, (.int .i64 ((us.length : Nat) : Int))), (22, (.bool true)), (25, v), (26, (.int .i64 ((j74 : Nat) : Int))), (27, (.pointer (some ⟨b99, o100, none⟩))), (28, y97), (29, (.int .i64 ((c104.length : Nat) : Int))), (30, (.bool true)), (31, (.int .i64 ((j74 : Nat) : Int)))] a124 := hA125.cut _ (fm_cons (hA125.get 0 _ rfl) (fm_cons (hA125.get 2 _ rfl) (fm_cons (hA125.get 3 _ rfl) (fm_cons (hA125.get 4 _ rfl) (fm_cons (hA125.get 5 _ rfl) (fm_cons (hA125.get 6 _ rfl) (fm_cons (hA125.get 7 _ rfl) (fm_cons (hA125.get 19 _ rfl) (fm_cons (hA125.get 20 _ rfl) (fm_cons (hA125.get 21 _ rfl) (fm_cons (hA125.get 22 _ rfl) (fm_cons (hA125.get 25 _ rfl) (fm_cons (hA125.get 26 _ rfl) (fm_cons (hA125.get 27 _ rfl) (fm_cons (hA125.get 28 _ rfl) (fm_cons (hA125.get 29 _ rfl) (fm_cons (hA125.get 30 _ rfl) (fm_cons (hA125.get 31 _ rfl) fm_nil))))))))))))))))))
          refine t_norm ?_
          refine wp_ret ?_
          refine i_ret ?_
          refine t_ret ?_
          refine t_ret ?_
          refine i_ret ?_
          refine t_ret ?_
          refine ret3 (x := (.int .i64 ((j74 : Nat) : Int))) (y := (.int .i64 0)) (z := (.int .i64 31)) rfl hA126 rfl rfl rfl ?_
          have hr := check_long (cs := cs) (by omega) (by omega) (hc81.2.trans (long_yes hc105 hb113))
          exact ⟨ret_three (by rw [hr]) (by rw [hr]) (by rw [hr]), b79⟩
        · skip
          have hq127 := of_decide_eq_false hb113
          refine q_step hA112 rfl (d_bin (wn rfl) (hA112.ev (v := (.int .i64 ((c104.length : Nat) : Int))) rfl) (hA112.ev (v := (.int .i64 8)) rfl) (b_gt _ _ ((c104.length : Nat) : Int) 8 false _ hb113) ?_)
          intro a128 hA129
          refine q_end ?_
          have hA130 : St 84 [(0, v), (5, (.int .i64 0)), (6, (.int .i64 0)), (7, (.int .i64 ((j74 : Nat) : Int))), (19, (.int .i64 ((j74 : Nat) : Int))), (20, v), (21, (.int .i64 ((us.length : Nat) : Int))), (22, (.bool true)), (25, v), (26, (.int .i64 ((j74 : Nat) : Int))), (27, (.pointer (some ⟨b99, o100, none⟩))), (28, y97), (29, (.int .i64 ((c104.length : Nat) : Int))), (30, (.bool false))] a128 := hA129.cut _ (fm_cons (hA129.get 0 _ rfl) (fm_cons (hA129.get 5 _ rfl) (fm_cons (hA129.get 6 _ rfl) (fm_cons (hA129.get 7 _ rfl) (fm_cons (hA129.get 19 _ rfl) (fm_cons (hA129.get 20 _ rfl) (fm_cons (hA129.get 21 _ rfl) (fm_cons (hA129.get 22 _ rfl) (fm_cons (hA129.get 25 _ rfl) (fm_cons (hA129.get 26 _ rfl) (fm_cons (hA129.get 27 _ rfl) (fm_cons (hA129.get 28 _ rfl) (fm_cons (hA129.get 29 _ rfl) (fm_cons (hA129.get 30 _ rfl) fm_nil))))))))))))))
          refine t_norm ?_
          refine c_false hA130 rfl ?_
          refine wp_skip ?_
          refine i_norm ?_
          refine t_norm ?_
          refine wp_region_lit ?_
          refine q_step hA130 rfl (d_move (wn rfl) (hA130.ev (v := (.int .i64 ((j74 : Nat) : Int))) rfl) ?_)
          intro a131 hA132
          refine q_step hA132 rfl (d_bin (wn rfl) (hA132.ev (v := (.int .i64 ((j74 : Nat) : Int))) rfl) (hA132.ev (v := (.int .i64 1)) rfl) (b_add _ _ ((j74 : Nat) : Int) 1 _ (by omega) (by omega)) ?_)
          intro a133 hA134
          refine q_step hA134 rfl (d_assign (wn rfl) (hA134.ev (v := (.int .i64 (((j74 : Nat) : Int) + 1))) rfl) ?_)
          intro a135 hA136
          refine q_end ?_
          have hA137 : St 84 [(0, v), (5, (.int .i64 0)), (6, (.int .i64 0)), (7, (.int .i64 (((j74 : Nat) : Int) + 1))), (19, (.int .i64 ((j74 : Nat) : Int))), (20, v), (21, (.int .i64 ((us.length : Nat) : Int))), (22, (.bool true)), (23, (.int .i64 ((j74 : Nat) : Int))), (24, (.int .i64 (((j74 : Nat) : Int) + 1))), (25, v), (26, (.int .i64 ((j74 : Nat) : Int))), (27, (.pointer (some ⟨b99, o100, none⟩))), (28, y97), (29, (.int .i64 ((c104.length : Nat) : Int))), (30, (.bool false))] a135 := hA136.cut _ (fm_cons (hA136.get 0 _ rfl) (fm_cons (hA136.get 5 _ rfl) (fm_cons (hA136.get 6 _ rfl) (fm_cons (hA136.get 7 _ rfl) (fm_cons (hA136.get 19 _ rfl) (fm_cons (hA136.get 20 _ rfl) (fm_cons (hA136.get 21 _ rfl) (fm_cons (hA136.get 22 _ rfl) (fm_cons (hA136.get 23 _ rfl) (fm_cons (hA136.get 24 _ rfl) (fm_cons (hA136.get 25 _ rfl) (fm_cons (hA136.get 26 _ rfl) (fm_cons (hA136.get 27 _ rfl) (fm_cons (hA136.get 28 _ rfl) (fm_cons (hA136.get 29 _ rfl) (fm_cons (hA136.get 30 _ rfl) fm_nil))))))))))))))))
          refine t_norm ?_
          exact ⟨cs.length - (j74 + 1), (by rw [hm80]; omega), j74 + 1, rfl, ⟨by have := get_lt hc105; omega, hc81.2.trans (long_at hc105 hb113)⟩, hA137.cut _ (fm_cons (hA137.get 0 _ rfl) (fm_cons (hA137.get 5 _ rfl) (fm_cons (hA137.get 6 _ rfl) (fm_cons ((hA137.get 7 _ rfl).trans (congrArg (Value.int .i64) (by omega))) fm_nil)))), b79⟩
      · skip
        have hq138 := of_decide_eq_false hb88
        refine q_step hA87 rfl (d_bin (wn rfl) (hA87.ev (v := (.int .i64 ((j74 : Nat) : Int))) rfl) (hA87.ev (v := (.int .i64 ((us.length : Nat) : Int))) rfl) (b_lt _ _ ((j74 : Nat) : Int) ((us.length : Nat) : Int) false _ hb88) ?_)
        intro a139 hA140
        refine q_end ?_
        have hA141 : St 84 [(0, v), (5, (.int .i64 0)), (6, (.int .i64 0)), (7, (.int .i64 ((j74 : Nat) : Int))), (19, (.int .i64 ((j74 : Nat) : Int))), (20, v), (21, (.int .i64 ((us.length : Nat) : Int))), (22, (.bool false))] a139 := hA140.cut _ (fm_cons (hA140.get 0 _ rfl) (fm_cons (hA140.get 5 _ rfl) (fm_cons (hA140.get 6 _ rfl) (fm_cons (hA140.get 7 _ rfl) (fm_cons (hA140.get 19 _ rfl) (fm_cons (hA140.get 20 _ rfl) (fm_cons (hA140.get 21 _ rfl) (fm_cons (hA140.get 22 _ rfl) fm_nil))))))))
        refine t_norm ?_
        refine c_false hA141 rfl ?_
        refine wp_exit ?_
        refine t_exit ?_
        refine t_exit ?_
        refine i_here ?_
        refine t_norm ?_
        refine wp_seq ?_
        refine wp_seq ?_
        refine wp_region_lit ?_
        refine q_step hA141 rfl (d_assign (wn rfl) (hA141.ev (v := (.int .i64 0)) rfl) ?_)
        intro a142 hA143
        refine q_end ?_
        have hA144 : St 84 [(0, v), (5, (.int .i64 0)), (6, (.int .i64 0)), (8, (.int .i64 0))] a142 := hA143.cut _ (fm_cons (hA143.get 0 _ rfl) (fm_cons (hA143.get 5 _ rfl) (fm_cons (hA143.get 6 _ rfl) (fm_cons (hA143.get 8 _ rfl) fm_nil))))
        refine t_norm ?_
        refine wp_block ?_
        have hlong : longR cs 0 = none := hc81.2.trans (by rw [drop_end (by omega)]; rfl)
        refine loop_by (fun m146 a147 w148 => ∃ j145 : Nat, m146 = cs.length - j145 ∧ (j145 ≤ cs.length ∧ bad2 cs 0 = bad2 (cs.drop j145) j145) ∧ St 84 [(0, v), (5, (.int .i64 (((cs.map opsN).sum - ((cs.drop j145).map opsN).sum : Nat) : Int))), (6, (.int .i64 (((cs.map brN).sum - ((cs.drop j145).map brN).sum : Nat) : Int))), (8, (.int .i64 ((j145 : Nat) : Int)))] a147 ∧ Below w.heap.size w w148) (cs.length - 0) ⟨0, rfl, ⟨by omega, rfl⟩, hA144.cut _ (fm_cons (hA144.get 0 _ rfl) (fm_cons ((hA144.get 5 _ rfl).trans (congrArg (Value.int .i64) (by simp))) (fm_cons ((hA144.get 6 _ rfl).trans (congrArg (Value.int .i64) (by simp))) (fm_cons ((hA144.get 8 _ rfl).trans (congrArg (Value.int .i64) (by simp))) fm_nil)))), b79⟩ ?_
        rintro m146 a147 w148 ⟨j145, hm151, hc152, hA149, b150⟩
        have hkopsN := drop_sum_le opsN cs j145
        have hmopsN := sum_le opsN ops_le cs
        have hkbrN := drop_sum_le brN cs j145
        have hmbrN := sum_le brN br_le cs
        refine wp_seq ?_
        refine wp_seq ?_
        refine wp_region_lit ?_
        refine q_step hA149 rfl (d_move (wn rfl) (hA149.ev (v := (.int .i64 ((j145 : Nat) : Int))) rfl) ?_)
        intro a153 hA154
        refine q_step hA154 rfl (d_move (wn rfl) (hA154.ev (v := v) rfl) ?_)
        intro a155 hA156
        refine q_step hA156 rfl (d_len (n := us.length) (wn rfl) (hA156.ev (v := v) rfl) slc34 hus.form ?_)
        intro a157 hA158
        rcases Bool.eq_false_or_eq_true (decide (((j145 : Nat) : Int) < ((us.length : Nat) : Int))) with hb159 | hb159
        · skip
          have hq160 := of_decide_eq_true hb159
          refine q_step hA158 rfl (d_bin (wn rfl) (hA158.ev (v := (.int .i64 ((j145 : Nat) : Int))) rfl) (hA158.ev (v := (.int .i64 ((us.length : Nat) : Int))) rfl) (b_lt _ _ ((j145 : Nat) : Int) ((us.length : Nat) : Int) true _ hb159) ?_)
          intro a161 hA162
          refine q_end ?_
          have hA163 : St 84 [(0, v), (5, (.int .i64 (((cs.map opsN).sum - ((cs.drop j145).map opsN).sum : Nat) : Int))), (6, (.int .i64 (((cs.map brN).sum - ((cs.drop j145).map brN).sum : Nat) : Int))), (8, (.int .i64 ((j145 : Nat) : Int))), (32, (.int .i64 ((j145 : Nat) : Int))), (33, v), (34, (.int .i64 ((us.length : Nat) : Int))), (35, (.bool true))] a161 := hA162.cut _ (fm_cons (hA162.get 0 _ rfl) (fm_cons (hA162.get 5 _ rfl) (fm_cons (hA162.get 6 _ rfl) (fm_cons (hA162.get 8 _ rfl) (fm_cons (hA162.get 32 _ rfl) (fm_cons (hA162.get 33 _ rfl) (fm_cons (hA162.get 34 _ rfl) (fm_cons (hA162.get 35 _ rfl) fm_nil))))))))
          refine t_norm ?_
          refine c_true hA163 rfl ?_
          refine wp_skip ?_
          refine t_norm ?_
          refine wp_seq ?_
          refine wp_block ?_
          refine wp_seq ?_
          refine wp_seq ?_
          refine wp_region_lit ?_
          refine q_step hA163 rfl (d_assign (wn rfl) (hA163.ev (v := (.int .i64 0)) rfl) ?_)
          intro a164 hA165
          refine q_end ?_
          have hA166 : St 84 [(0, v), (5, (.int .i64 (((cs.map opsN).sum - ((cs.drop j145).map opsN).sum : Nat) : Int))), (6, (.int .i64 (((cs.map brN).sum - ((cs.drop j145).map brN).sum : Nat) : Int))), (8, (.int .i64 ((j145 : Nat) : Int))), (9, (.int .i64 0)), (32, (.int .i64 ((j145 : Nat) : Int))), (33, v), (34, (.int .i64 ((us.length : Nat) : Int))), (35, (.bool true))] a164 := hA165.cut _ (fm_cons (hA165.get 0 _ rfl) (fm_cons (hA165.get 5 _ rfl) (fm_cons (hA165.get 6 _ rfl) (fm_cons (hA165.get 8 _ rfl) (fm_cons (hA165.get 9 _ rfl) (fm_cons (hA165.get 32 _ rfl) (fm_cons (hA165.get 33 _ rfl) (fm_cons (hA165.get 34 _ rfl) (fm_cons (hA165.get 35 _ rfl) fm_nil)))))))))
          refine t_norm ?_
          refine wp_block ?_
          obtain ⟨y167, hy168⟩ : ∃ y167, us[j145]? = some y167 := ⟨_, List.getElem?_eq_getElem (show j145 < us.length by omega)⟩
          obtain ⟨b169, o170, lt171, hr172, hix173⟩ := (hus.below b150).at hy168
          obtain ⟨c174, hc175⟩ : ∃ c, cs[j145]? = some c := ⟨_, List.getElem?_eq_getElem (show j145 < cs.length by have := get_lt hy168; omega)⟩
          have hsl176 := hin j145 y167 c174 hy168 hc175
          have hlc174 := len_le hc175
          have hoc174 := ops_le c174
          have hbc174 := br_le c174
          refine loop_by (fun m178 a179 w180 => ∃ k177 : Nat, m178 = c174.length - k177 ∧ (k177 ≤ c174.length ∧ bad1 c174.length c174 0 = bad1 c174.length (c174.drop k177) k177) ∧ St 84 [(0, v), (5, (.int .i64 (((cs.map opsN).sum - ((cs.drop j145).map opsN).sum : Nat) : Int))), (6, (.int .i64 (((cs.map brN).sum - ((cs.drop j145).map brN).sum : Nat) : Int))), (8, (.int .i64 ((j145 : Nat) : Int))), (9, (.int .i64 ((k177 : Nat) : Int)))] a179 ∧ Below w.heap.size w w180) (c174.length - 0) ⟨0, rfl, ⟨by omega, rfl⟩, hA166.cut _ (fm_cons (hA166.get 0 _ rfl) (fm_cons (hA166.get 5 _ rfl) (fm_cons (hA166.get 6 _ rfl) (fm_cons (hA166.get 8 _ rfl) (fm_cons ((hA166.get 9 _ rfl).trans (congrArg (Value.int .i64) (by simp))) fm_nil))))), b150⟩ ?_
          rintro m178 a179 w180 ⟨k177, hm183, hc184, hA181, b182⟩
          refine wp_seq ?_
          refine wp_seq ?_
          refine wp_region_lit ?_
          refine q_step hA181 rfl (d_move (wn rfl) (hA181.ev (v := (.int .i64 ((k177 : Nat) : Int))) rfl) ?_)
          intro a185 hA186
          refine q_step hA186 rfl (d_move (wn rfl) (hA186.ev (v := v) rfl) ?_)
          intro a187 hA188
          refine q_step hA188 rfl (d_move (wn rfl) (hA188.ev (v := (.int .i64 ((j145 : Nat) : Int))) rfl) ?_)
          intro a189 hA190
          obtain ⟨b191, o192, lt193, hr194, hix195⟩ := (hus.below b182).at hy168
          refine q_step hA190 rfl (d_indexAt (j := j145) (wn rfl) (hA190.ev (v := v) rfl) (hA190.ev (v := (.int .i64 ((j145 : Nat) : Int))) rfl) slc34 hix195 (get_lt hy168) ?_)
          intro a196 hA197
          refine q_step hA197 rfl (d_load (v := y167) (wn rfl) (hA197.ev (v := (.pointer (some ⟨b191, o192, none⟩))) rfl) one35 (hr194 0 _ rfl) ?_)
          intro a198 hA199
          refine q_step hA199 rfl (d_len (n := c174.length) (wn rfl) (hA199.ev (v := y167) rfl) slc35 hsl176.form ?_)
          intro a200 hA201
          rcases Bool.eq_false_or_eq_true (decide (((k177 : Nat) : Int) < ((c174.length : Nat) : Int))) with hb202 | hb202
          · skip
            have hq203 := of_decide_eq_true hb202
            refine q_step hA201 rfl (d_bin (wn rfl) (hA201.ev (v := (.int .i64 ((k177 : Nat) : Int))) rfl) (hA201.ev (v := (.int .i64 ((c174.length : Nat) : Int))) rfl) (b_lt _ _ ((k177 : Nat) : Int) ((c174.length : Nat) : Int) true _ hb202) ?_)
            intro a204 hA205
            refine q_end ?_
            have hA206 : St 84 [(0, v), (5, (.int .i64 (((cs.map opsN).sum - ((cs.drop j145).map opsN).sum : Nat) : Int))), (6, (.int .i64 (((cs.map brN).sum - ((cs.drop j145).map brN).sum : Nat) : Int))), (8, (.int .i64 ((j145 : Nat) : Int))), (9, (.int .i64 ((k177 : Nat) : Int))), (38, (.int .i64 ((k177 : Nat) : Int))), (39, v), (40, (.int .i64 ((j145 : Nat) : Int))), (41, (.pointer (some ⟨b191, o192, none⟩))), (42, y167), (43, (.int .i64 ((c174.length : Nat) : Int))), (44, (.bool true))] a204 := hA205.cut _ (fm_cons (hA205.get 0 _ rfl) (fm_cons (hA205.get 5 _ rfl) (fm_cons (hA205.get 6 _ rfl) (fm_cons (hA205.get 8 _ rfl) (fm_cons (hA205.get 9 _ rfl) (fm_cons (hA205.get 38 _ rfl) (fm_cons (hA205.get 39 _ rfl) (fm_cons (hA205.get 40 _ rfl) (fm_cons (hA205.get 41 _ rfl) (fm_cons (hA205.get 42 _ rfl) (fm_cons (hA205.get 43 _ rfl) (fm_cons (hA205.get 44 _ rfl) fm_nil))))))))))))
            refine t_norm ?_
            refine c_true hA206 rfl ?_
            refine wp_skip ?_
            refine t_norm ?_
            refine wp_seq ?_
            refine wp_block ?_
            refine wp_seq ?_
            obtain ⟨y207, hy208⟩ : ∃ y207, c174[k177]? = some y207 := ⟨_, List.getElem?_eq_getElem (show k177 < c174.length by omega)⟩
            obtain ⟨b209, o210, lt211, hr212, hix213⟩ := (hsl176.below b182).at hy208
            have hA214 : St 84 [(0, v), (5, (.int .i64 (((cs.map opsN).sum - ((cs.drop j145).map opsN).sum : Nat) : Int))), (6, (.int .i64 (((cs.map brN).sum - ((cs.drop j145).map brN).sum : Nat) : Int))), (8, (.int .i64 ((j145 : Nat) : Int))), (9, (.int .i64 ((k177 : Nat) : Int))), (38, (.int .i64 ((k177 : Nat) : Int))), (39, v), (40, (.int .i64 ((j145 : Nat) : Int))), (41, (.pointer (some ⟨b191, o192, none⟩))), (42, y167), (43, (.int .i64 ((c174.length : Nat) : Int))), (44, (.bool true))] a204 := hA206.cut _ (fm_cons (hA206.get 0 _ rfl) (fm_cons (hA206.get 5 _ rfl) (fm_cons (hA206.get 6 _ rfl) (fm_cons (hA206.get 8 _ rfl) (fm_cons (hA206.get 9 _ rfl) (fm_cons (hA206.get 38 _ rfl) (fm_cons (hA206.get 39 _ rfl) (fm_cons (hA206.get 40 _ rfl) (fm_cons (hA206.get 41 _ rfl) (fm_cons (hA206.get 42 _ rfl) (fm_cons (hA206.get 43 _ rfl) (fm_cons (hA206.get 44 _ rfl) fm_nil))))))))))))
            let M215 : Nat → Option (Array Value) := fun _ => none
            have hM215 : M215 = fun _ => none := rfl
            clear_value M215
            have hM215B : ∀ k, k < w.heap.size → M215 k = none := (fun k hk => (congrFun hM215 k))
            refine drawn (S := SM M215) (tabL [cv v, cv (.int .i64 ((j145 : Nat) : Int)), cv (.pointer (some ⟨b191, o192, none⟩)), cv y167, cv (.int .i64 ((k177 : Nat) : Int)), cv (.pointer (some ⟨b209, o210, none⟩)), cv (.agg (insC y207)), cv (.int .i64 ((k177 : Nat) : Int)), cv v, cv (.int .i64 ((j145 : Nat) : Int)), cv (.pointer (some ⟨b191, o192, none⟩)), cv y167, cv (.int .i64 ((c174.length : Nat) : Int)), cv (.int .i64 (rightR y207 ((k177 : Nat) : Int) ((c174.length : Nat) : Int))), cv (.int .i64 (rightR y207 ((k177 : Nat) : Int) ((c174.length : Nat) : Int)))]) mixedY SM.refl SM.trans SM.drew hA214 (by kernel_rfl) ?_ ?_
            · skip
              refine each_cons (fun x y hS hT hk => d_move (wn rfl) (hT.ev (v := v) rfl) ⟨SM.refl _, rfl⟩) ?_
              refine each_cons (fun x y hS hT hk => d_move (wn rfl) (hT.ev (v := (.int .i64 ((j145 : Nat) : Int))) rfl) ⟨SM.refl _, rfl⟩) ?_
              refine each_cons (fun x y hS hT hk => d_indexAt (j := j145) (wn rfl) (hk 0 rfl) (hk 1 rfl) slc34 hix195 (get_lt hy168) ⟨SM.refl _, rfl⟩) ?_
              refine each_cons (fun x y hS hT hk => d_load (v := y167) (wn rfl) (hk 2 rfl) one35 ((range_sm (w := w180.drew) hr194 hS (Nat.lt_of_lt_of_le lt193 b182.size) (hM215B _ lt193)) 0 _ rfl) ⟨SM.refl _, rfl⟩) ?_
              refine each_cons (fun x y hS hT hk => d_move (wn rfl) (hT.ev (v := (.int .i64 ((k177 : Nat) : Int))) rfl) ⟨SM.refl _, rfl⟩) ?_
              refine each_cons (fun x y hS hT hk => d_indexAt (j := k177) (wn rfl) (hk 3 rfl) (hk 4 rfl) slc35 hix213 (get_lt hy208) ⟨SM.refl _, rfl⟩) ?_
              refine each_cons (fun x y hS hT hk => d_loadMid (cs := (insC y207)) (wn rfl) (hk 5 rfl) row23 (range_sm (w := w180.drew) hr212 hS (Nat.lt_of_lt_of_le lt211 b182.size) (hM215B _ lt211)) ⟨SM.refl _, rfl⟩) ?_
              refine each_cons (fun x y hS hT hk => d_move (wn rfl) (hT.ev (v := (.int .i64 ((k177 : Nat) : Int))) rfl) ⟨SM.refl _, rfl⟩) ?_
              refine each_cons (fun x y hS hT hk => d_move (wn rfl) (hT.ev (v := v) rfl) ⟨SM.refl _, rfl⟩) ?_
              refine each_cons (fun x y hS hT hk => d_move (wn rfl) (hT.ev (v := (.int .i64 ((j145 : Nat) : Int))) rfl) ⟨SM.refl _, rfl⟩) ?_
              refine each_cons (fun x y hS hT hk => d_indexAt (j := j145) (wn rfl) (hk 8 rfl) (hk 9 rfl) slc34 hix195 (get_lt hy168) ⟨SM.refl _, rfl⟩) ?_
              refine each_cons (fun x y hS hT hk => d_load (v := y167) (wn rfl) (hk 10 rfl) one35 ((range_sm (w := w180.drew) hr194 hS (Nat.lt_of_lt_of_le lt193 b182.size) (hM215B _ lt193)) 0 _ rfl) ⟨SM.refl _, rfl⟩) ?_
              refine each_cons (fun x y hS hT hk => d_len (n := c174.length) (wn rfl) (hk 11 rfl) slc35 hsl176.form ⟨SM.refl _, rfl⟩) ?_
              refine each_cons (fun x y hS hT hk => d_call (wn rfl) ent10 (map3 (show x.eval _ = (.agg (insC y207)) from (hk 6 rfl)) (show x.eval _ = (.int .i64 ((k177 : Nat) : Int)) from (hk 7 rfl)) (show x.eval _ = (.int .i64 ((c174.length : Nat) : Int)) from (hk 12 rfl))) (rright_any y207 ((k177 : Nat) : Int) ((c174.length : Nat) : Int) y) (fun _ _ ⟨he, hG⟩ => ⟨(.int .i64 (rightR y207 ((k177 : Nat) : Int) ((c174.length : Nat) : Int))), he, SM.grow hG, rfl⟩)) ?_
              refine each_cons (fun x y hS hT hk => d_assign (wn rfl) (hk 13 rfl) ⟨SM.refl _, rfl⟩) ?_
              exact each_nil
            intro f216 a217 w218 hS219 hC220 hA221
            have hA222 : St 84 [(0, v), (5, (.int .i64 (((cs.map opsN).sum - ((cs.drop j145).map opsN).sum : Nat) : Int))), (6, (.int .i64 (((cs.map brN).sum - ((cs.drop j145).map brN).sum : Nat) : Int))), (8, (.int .i64 ((j145 : Nat) : Int))), (9, (.int .i64 ((k177 : Nat) : Int))), (10, (.int .i64 (rightR y207 ((k177 : Nat) : Int) ((c174.length : Nat) : Int)))), (38, (.int .i64 ((k177 : Nat) : Int))), (39, v), (40, (.int .i64 ((j145 : Nat) : Int))), (41, (.pointer (some ⟨b191, o192, none⟩))), (42, y167), (43, (.int .i64 ((c174.length : Nat) : Int))), (44, (.bool true)), (47, v), (48, (.int .i64 ((j145 : Nat) : Int))), (49, (.pointer (some ⟨b191, o192, none⟩))), (50, y167), (51, (.int .i64 ((k177 : Nat) : Int))), (52, (.pointer (some ⟨b209, o210, none⟩))), (53, (.agg (insC y207))), (54, (.int .i64 ((k177 : Nat) : Int))), (55, v), (56, (.int .i64 ((j145 : Nat) : Int))), (57, (.pointer (some ⟨b191, o192, none⟩))), (58, y167), (59, (.int .i64 ((c174.length : Nat) : Int))), (60, (.int .i64 (rightR y207 ((k177 : Nat) : Int) ((c174.length : Nat) : Int))))] a217 := hA221.cut _ (fm_cons (hA221.get 0 _ rfl) (fm_cons (hA221.get 5 _ rfl) (fm_cons (hA221.get 6 _ rfl) (fm_cons (hA221.get 8 _ rfl) (fm_cons (hA221.get 9 _ rfl) (fm_cons ((hA221.get 10 _ rfl).trans (hC220 14 (Nat.le_of_ble_eq_true rfl))) (fm_cons (hA221.get 38 _ rfl) (fm_cons (hA221.get 39 _ rfl) (fm_cons (hA221.get 40 _ rfl) (fm_cons (hA221.get 41 _ rfl) (fm_cons (hA221.get 42 _ rfl) (fm_cons (hA221.get 43 _ rfl) (fm_cons (hA221.get 44 _ rfl) (fm_cons ((hA221.get 47 _ rfl).trans (hC220 0 (Nat.le_of_ble_eq_true rfl))) (fm_cons ((hA221.get 48 _ rfl).trans (hC220 1 (Nat.le_of_ble_eq_true rfl))) (fm_cons ((hA221.get 49 _ rfl).trans (hC220 2 (Nat.le_of_ble_eq_true rfl))) (fm_cons ((hA221.get 50 _ rfl).trans (hC220 3 (Nat.le_of_ble_eq_true rfl))) (fm_cons ((hA221.get 51 _ rfl).trans (hC220 4 (Nat.le_of_ble_eq_true rfl))) (fm_cons ((hA221.get 52 _ rfl).trans (hC220 5 (Nat.le_of_ble_eq_true rfl))) (fm_cons ((hA221.get 53 _ rfl).trans (hC220 6 (Nat.le_of_ble_eq_true rfl))) (fm_cons ((hA221.get 54 _ rfl).trans (hC220 7 (Nat.le_of_ble_eq_true rfl))) (fm_cons ((hA221.get 55 _ rfl).trans (hC220 8 (Nat.le_of_ble_eq_true rfl))) (fm_cons ((hA221.get 56 _ rfl).trans (hC220 9 (Nat.le_of_ble_eq_true rfl))) (fm_cons ((hA221.get 57 _ rfl).trans (hC220 10 (Nat.le_of_ble_eq_true rfl))) (fm_cons ((hA221.get 58 _ rfl).trans (hC220 11 (Nat.le_of_ble_eq_true rfl))) (fm_cons ((hA221.get 59 _ rfl).trans (hC220 12 (Nat.le_of_ble_eq_true rfl))) (fm_cons ((hA221.get 60 _ rfl).trans (hC220 13 (Nat.le_of_ble_eq_true rfl))) fm_nil)))))))))))))))))))))))))))
            have b223 := hS219.below b182 b182.size hM215B
            have hr224 := range_sm hr194 hS219 (Nat.lt_of_lt_of_le lt193 b182.size) (hM215B _ lt193)
            have hr225 := range_sm hr212 hS219 (Nat.lt_of_lt_of_le lt211 b182.size) (hM215B _ lt211)
            refine t_norm ?_
            refine wp_seq ?_
            refine wp_region_lit ?_
            refine q_step hA222 rfl (d_move (wn rfl) (hA222.ev (v := (.int .i64 (rightR y207 ((k177 : Nat) : Int) ((c174.length : Nat) : Int)))) rfl) ?_)
            intro a226 hA227
            rcases Bool.eq_false_or_eq_true (rightR y207 ((k177 : Nat) : Int) ((c174.length : Nat) : Int) == 0) with hb228 | hb228
            · skip
              have hq229 := eq_of_beq hb228
              refine q_step hA227 rfl (d_bin (wn rfl) (hA227.ev (v := (.int .i64 (rightR y207 ((k177 : Nat) : Int) ((c174.length : Nat) : Int)))) rfl) (hA227.ev (v := (.int .i64 0)) rfl) (b_ne _ _ (rightR y207 ((k177 : Nat) : Int) ((c174.length : Nat) : Int)) 0 false _ (notof hb228)) ?_)
              intro a230 hA231
              refine q_end ?_
              have hA232 : St 84 [(0, v), (5, (.int .i64 (((cs.map opsN).sum - ((cs.drop j145).map opsN).sum : Nat) : Int))), (6, (.int .i64 (((cs.map brN).sum - ((cs.drop j145).map brN).sum : Nat) : Int))), (8, (.int .i64 ((j145 : Nat) : Int))), (9, (.int .i64 ((k177 : Nat) : Int))), (10, (.int .i64 (rightR y207 ((k177 : Nat) : Int) ((c174.length : Nat) : Int)))), (38, (.int .i64 ((k177 : Nat) : Int))), (39, v), (40, (.int .i64 ((j145 : Nat) : Int))), (41, (.pointer (some ⟨b191, o192, none⟩))), (42, y167), (43, (.int .i64 ((c174.length : Nat) : Int))), (44, (.bool true)), (47, v), (48, (.int .i64 ((j145 : Nat) : Int))), (49, (.pointer (some ⟨b191, o192, none⟩))), (50, y167), (51, (.int .i64 ((k177 : Nat) : Int))), (52, (.pointer (some ⟨b209, o210, none⟩))), (53, (.agg (insC y207))), (54, (.int .i64 ((k177 : Nat) : Int))), (55, v), (56, (.int .i64 ((j145 : Nat) : Int))), (57, (.pointer (some ⟨b191, o192, none⟩))), (58, y167), (59, (.int .i64 ((c174.length : Nat) : Int))), (60, (.int .i64 (rightR y207 ((k177 : Nat) : Int) ((c174.length : Nat) : Int)))), (61, (.int .i64 (rightR y207 ((k177 : Nat) : Int) ((c174.length : Nat) : Int)))), (62, (.bool false))] a230 := hA231.cut _ (fm_cons (hA231.get 0 _ rfl) (fm_cons (hA231.get 5 _ rfl) (fm_cons (hA231.get 6 _ rfl) (fm_cons (hA231.get 8 _ rfl) (fm_cons (hA231.get 9 _ rfl) (fm_cons (hA231.get 10 _ rfl) (fm_cons (hA231.get 38 _ rfl) (fm_cons (hA231.get 39 _ rfl) (fm_cons (hA231.get 40 _ rfl) (fm_cons (hA231.get 41 _ rfl) (fm_cons (hA231.get 42 _ rfl) (fm_cons (hA231.get 43 _ rfl) (fm_cons (hA231.get 44 _ rfl) (fm_cons (hA231.get 47 _ rfl) (fm_cons (hA231.get 48 _ rfl) (fm_cons (hA231.get 49 _ rfl) (fm_cons (hA231.get 50 _ rfl) (fm_cons (hA231.get 51 _ rfl) (fm_cons (hA231.get 52 _ rfl) (fm_cons (hA231.get 53 _ rfl) (fm_cons (hA231.get 54 _ rfl) (fm_cons (hA231.get 55 _ rfl) (fm_cons (hA231.get 56 _ rfl) (fm_cons (hA231.get 57 _ rfl) (fm_cons (hA231.get 58 _ rfl) (fm_cons (hA231.get 59 _ rfl) (fm_cons (hA231.get 60 _ rfl) (fm_cons (hA231.get 61 _ rfl) (fm_cons (hA231.get 62 _ rfl) fm_nil)))))))))))))))))))))))))))))
              refine t_norm ?_
              refine c_false hA232 rfl ?_
              refine wp_skip ?_
              refine i_norm ?_
              refine t_norm ?_
              refine wp_region_lit ?_
              refine q_step hA232 rfl (d_move (wn rfl) (hA232.ev (v := (.int .i64 ((k177 : Nat) : Int))) rfl) ?_)
              intro a233 hA234
              refine q_step hA234 rfl (d_bin (wn rfl) (hA234.ev (v := (.int .i64 ((k177 : Nat) : Int))) rfl) (hA234.ev (v := (.int .i64 1)) rfl) (b_add _ _ ((k177 : Nat) : Int) 1 _ (by omega) (by omega)) ?_)
              intro a235 hA236
              refine q_step hA236 rfl (d_assign (wn rfl) (hA236.ev (v := (.int .i64 (((k177 : Nat) : Int) + 1))) rfl) ?_)
              intro a237 hA238
              refine q_end ?_
              have hA239 : St 84 [(0, v), (5, (.int .i64 (((cs.map opsN).sum - ((cs.drop j145).map opsN).sum : Nat) : Int))), (6, (.int .i64 (((cs.map brN).sum - ((cs.drop j145).map brN).sum : Nat) : Int))), (8, (.int .i64 ((j145 : Nat) : Int))), (9, (.int .i64 (((k177 : Nat) : Int) + 1))), (10, (.int .i64 (rightR y207 ((k177 : Nat) : Int) ((c174.length : Nat) : Int)))), (38, (.int .i64 ((k177 : Nat) : Int))), (39, v), (40, (.int .i64 ((j145 : Nat) : Int))), (41, (.pointer (some ⟨b191, o192, none⟩))), (42, y167), (43, (.int .i64 ((c174.length : Nat) : Int))), (44, (.bool true)), (45, (.int .i64 ((k177 : Nat) : Int))), (46, (.int .i64 (((k177 : Nat) : Int) + 1))), (47, v), (48, (.int .i64 ((j145 : Nat) : Int))), (49, (.pointer (some ⟨b191, o192, none⟩))), (50, y167), (51, (.int .i64 ((k177 : Nat) : Int))), (52, (.pointer (some ⟨b209, o210, none⟩))), (53, (.agg (insC y207))), (54, (.int .i64 ((k177 : Nat) : Int))), (55, v), (56, (.int .i64 ((j145 : Nat) : Int))), (57, (.pointer (some ⟨b191, o192, none⟩))), (58, y167), (59, (.int .i64 ((c174.length : Nat) : Int))), (60, (.int .i64 (rightR y207 ((k177 : Nat) : Int) ((c174.length : Nat) : Int)))), (61, (.int .i64 (rightR y207 ((k177 : Nat) : Int) ((c174.length : Nat) : Int)))), (62, (.bool false))] a237 := hA238.cut _ (fm_cons (hA238.get 0 _ rfl) (fm_cons (hA238.get 5 _ rfl) (fm_cons (hA238.get 6 _ rfl) (fm_cons (hA238.get 8 _ rfl) (fm_cons (hA238.get 9 _ rfl) (fm_cons (hA238.get 10 _ rfl) (fm_cons (hA238.get 38 _ rfl) (fm_cons (hA238.get 39 _ rfl) (fm_cons (hA238.get 40 _ rfl) (fm_cons (hA238.get 41 _ rfl) (fm_cons (hA238.get 42 _ rfl) (fm_cons (hA238.get 43 _ rfl) (fm_cons (hA238.get 44 _ rfl) (fm_cons (hA238.get 45 _ rfl) (fm_cons (hA238.get 46 _ rfl) (fm_cons (hA238.get 47 _ rfl) (fm_cons (hA238.get 48 _ rfl) (fm_cons (hA238.get 49 _ rfl) (fm_cons (hA238.get 50 _ rfl) (fm_cons (hA238.get 51 _ rfl) (fm_cons (hA238.get 52 _ rfl) (fm_cons (hA238.get 53 _ rfl) (fm_cons (hA238.get 54 _ rfl) (fm_cons (hA238.get 55 _ rfl) (fm_cons (hA238.get 56 _ rfl) (fm_cons (hA238.get 57 _ rfl) (fm_cons (hA238.get 58 _ rfl) (fm_cons (hA238.get 59 _ rfl) (fm_cons (hA238.get 60 _ rfl) (fm_cons (hA238.get 61 _ rfl) (fm_cons (hA238.get 62 _ rfl) fm_nil)))))))))))))))))))))))))))))))
              refine t_norm ?_
              exact ⟨c174.length - (k177 + 1), (by rw [hm183]; omega), k177 + 1, rfl, ⟨by have := get_lt hy208; omega, hc184.2.trans (bad1_at hy208 hb228)⟩, hA239.cut _ (fm_cons (hA239.get 0 _ rfl) (fm_cons (hA239.get 5 _ rfl) (fm_cons (hA239.get 6 _ rfl) (fm_cons (hA239.get 8 _ rfl) (fm_cons ((hA239.get 9 _ rfl).trans (congrArg (Value.int .i64) (by omega))) fm_nil))))), b223⟩
            · skip
              have hq240 := ne_of_beq hb228
              refine q_step hA227 rfl (d_bin (wn rfl) (hA227.ev (v := (.int .i64 (rightR y207 ((k177 : Nat) : Int) ((c174.length : Nat) : Int)))) rfl) (hA227.ev (v := (.int .i64 0)) rfl) (b_ne _ _ (rightR y207 ((k177 : Nat) : Int) ((c174.length : Nat) : Int)) 0 true _ (notof hb228)) ?_)
              intro a241 hA242
              refine q_end ?_
              have hA243 : St 84 [(0, v), (5, (.int .i64 (((cs.map opsN).sum - ((cs.drop j145).map opsN).sum : Nat) : Int))), (6, (.int .i64 (((cs.map brN).sum - ((cs.drop j145).map brN).sum : Nat) : Int))), (8, (.int .i64 ((j145 : Nat) : Int))), (9, (.int .i64 ((k177 : Nat) : Int))), (10, (.int .i64 (rightR y207 ((k177 : Nat) : Int) ((c174.length : Nat) : Int)))), (38, (.int .i64 ((k177 : Nat) : Int))), (39, v), (40, (.int .i64 ((j145 : Nat) : Int))), (41, (.pointer (some ⟨b191, o192, none⟩))), (42, y167), (43, (.int .i64 ((c174.length : Nat) : Int))), (44, (.bool true)), (47, v), (48, (.int .i64 ((j145 : Nat) : Int))), (49, (.pointer (some ⟨b191, o192, none⟩))), (50, y167), (51, (.int .i64 ((k177 : Nat) : Int))), (52, (.pointer (some ⟨b209, o210, none⟩))), (53, (.agg (insC y207))), (54, (.int .i64 ((k177 : Nat) : Int))), (55, v), (56, (.int .i64 ((j145 : Nat) : Int))), (57, (.pointer (some ⟨b191, o192, none⟩))), (58, y167), (59, (.int .i64 ((c174.length : Nat) : Int))), (60, (.int .i64 (rightR y207 ((k177 : Nat) : Int) ((c174.length : Nat) : Int)))), (61, (.int .i64 (rightR y207 ((k177 : Nat) : Int) ((c174.length : Nat) : Int)))), (62, (.bool true))] a241 := hA242.cut _ (fm_cons (hA242.get 0 _ rfl) (fm_cons (hA242.get 5 _ rfl) (fm_cons (hA242.get 6 _ rfl) (fm_cons (hA242.get 8 _ rfl) (fm_cons (hA242.get 9 _ rfl) (fm_cons (hA242.get 10 _ rfl) (fm_cons (hA242.get 38 _ rfl) (fm_cons (hA242.get 39 _ rfl) (fm_cons (hA242.get 40 _ rfl) (fm_cons (hA242.get 41 _ rfl) (fm_cons (hA242.get 42 _ rfl) (fm_cons (hA242.get 43 _ rfl) (fm_cons (hA242.get 44 _ rfl) (fm_cons (hA242.get 47 _ rfl) (fm_cons (hA242.get 48 _ rfl) (fm_cons (hA242.get 49 _ rfl) (fm_cons (hA242.get 50 _ rfl) (fm_cons (hA242.get 51 _ rfl) (fm_cons (hA242.get 52 _ rfl) (fm_cons (hA242.get 53 _ rfl) (fm_cons (hA242.get 54 _ rfl) (fm_cons (hA242.get 55 _ rfl) (fm_cons (hA242.get 56 _ rfl) (fm_cons (hA242.get 57 _ rfl) (fm_cons (hA242.get 58 _ rfl) (fm_cons (hA242.get 59 _ rfl) (fm_cons (hA242.get 60 _ rfl) (fm_cons (hA242.get 61 _ rfl) (fm_cons (hA242.get 62 _ rfl) fm_nil)))))))))))))))))))))))))))))
              refine t_norm ?_
              refine c_true hA243 rfl ?_
              refine wp_seq ?_
              refine wp_region_lit ?_
              refine q_step hA243 rfl (d_move (wn rfl) (hA243.ev (v := (.int .i64 ((j145 : Nat) : Int))) rfl) ?_)
              intro a244 hA245
              refine q_step hA245 rfl (d_move (wn rfl) (hA245.ev (v := (.int .i64 ((k177 : Nat) : Int))) rfl) ?_)
              intro a246 hA247
              refine q_step hA247 rfl (d_move (wn rfl) (hA247.ev (v := (.int .i64 (rightR y207 ((k177 : Nat) : Int) ((c174.length : Nat) : Int)))) rfl) ?_)
              intro a248 hA249
              refine q_step hA249 rfl (d_assign (wn rfl) (hA249.ev (v := (.int .i64 ((j145 : Nat) : Int))) rfl) ?_)
              intro a250 hA251
              refine q_step hA251 rfl (d_assign (wn rfl) (hA251.ev (v := (.int .i64 ((k177 : Nat) : Int))) rfl) ?_)
              intro a252 hA253
              refine q_step hA253 rfl (d_assign (wn rfl) (hA253.ev (v := (.int .i64 (rightR y207 ((k177 : Nat) : Int) ((c174.length : Nat) : Int)))) rfl) ?_)
              intro a254 hA255
              refine q_end ?_
              have hA256 : St 84 [(0, v), (2, (.int .i64 ((j145 : Nat) : Int))), (3, (.int .i64 ((k177 : Nat) : Int))), (4, (.int .i64 (rightR y207 ((k177 : Nat) : Int) ((c174.length : Nat) : Int)))), (5, (.int .i64 (((cs.map opsN).sum - ((cs.drop j145).map opsN).sum : Nat) : Int))), (6, (.int .i64 (((cs.map brN).sum - ((cs.drop j145).map brN).sum : Nat) : Int))), (8, (.int .i64 ((j145 : Nat) : Int))), (9, (.int .i64 ((k177 : Nat) : Int))), (10, (.int .i64 (rightR y207 ((k177 : Nat) : Int) ((c174.length : Nat) : Int)))), (38, (.int .i64 ((k177 : Nat) : Int))), (39, v), (40, (.int .i64 ((j145 : Nat) : Int))), (41, (.pointer (some ⟨b191, o192, none⟩))), (42, y167), (43, (.int .i64 ((c174.length : Nat) : Int))), (44, (.bool true)), (47, v), (48, (.int .i64 ((j145 : Nat) : Int))), (49, (.pointer (some ⟨b191, o192, none⟩))), (50, y167), (51, (.int .i64 ((k177 : Nat) : Int))), (52, (.pointer (some ⟨b209, o210, none⟩))), (53, (.agg (insC y207))), (54, (.int .i64 ((k177 : Nat) : Int))), (55, v), (56, (.int .i64 ((j145 : Nat) : Int))), (57, (.pointer (some ⟨b191, o192, none⟩))), (58, y167), (59, (.int .i64 ((c174.length : Nat) : Int))), (60, (.int .i64 (rightR y207 ((k177 : Nat) : Int) ((c174.length : Nat) : Int)))), (61, (.int .i64 (rightR y207 ((k177 : Nat) : Int) ((c174.length : Nat) : Int)))), (62, (.bool true)), (63, (.int .i64 ((j145 : Nat) : Int))), (64, (.int .i64 ((k177 : Nat) : Int))), (65, (.int .i64 (rightR y207 ((k177 : Nat) : Int) ((c174.length : Nat) : Int))))] a254 := hA255.cut _ (fm_cons (hA255.get 0 _ rfl) (fm_cons (hA255.get 2 _ rfl) (fm_cons (hA255.get 3 _ rfl) (fm_cons (hA255.get 4 _ rfl) (fm_cons (hA255.get 5 _ rfl) (fm_cons (hA255.get 6 _ rfl) (fm_cons (hA255.get 8 _ rfl) (fm_cons (hA255.get 9 _ rfl) (fm_cons (hA255.get 10 _ rfl) (fm_cons (hA255.get 38 _ rfl) (fm_cons (hA255.get 39 _ rfl) (fm_cons (hA255.get 40 _ rfl) (fm_cons (hA255.get 41 _ rfl) (fm_cons (hA255.get 42 _ rfl) (fm_cons (hA255.get 43 _ rfl) (fm_cons (hA255.get 44 _ rfl) (fm_cons (hA255.get 47 _ rfl) (fm_cons (hA255.get 48 _ rfl) (fm_cons (hA255.get 49 _ rfl) (fm_cons (hA255.get 50 _ rfl) (fm_cons (hA255.get 51 _ rfl) (fm_cons (hA255.get 52 _ rfl) (fm_cons (hA255.get 53 _ rfl) (fm_cons (hA255.get 54 _ rfl) (fm_cons (hA255.get 55 _ rfl) (fm_cons (hA255.get 56 _ rfl) (fm_cons (hA255.get 57 _ rfl) (fm_cons (hA255.get 58 _ rfl) (fm_cons (hA255.get 59 _ rfl) (fm_cons (hA255.get 60 _ rfl) (fm_cons (hA255.get 61 _ rfl) (fm_cons (hA255.get 62 _ rfl) (fm_cons (hA255.get 63 _ rfl) (fm_cons (hA255.get 64 _ rfl) (fm_cons (hA255.get 65 _ rfl) fm_nil)))))))))))))))))))))))))))))))))))
              refine t_norm ?_
              refine wp_ret ?_
              refine i_ret ?_
              refine t_ret ?_
              refine t_ret ?_
              refine i_ret ?_
              refine t_ret ?_
              refine i_ret ?_
              refine t_ret ?_
              refine t_ret ?_
              refine i_ret ?_
              refine t_ret ?_
              refine ret3 (x := (.int .i64 ((j145 : Nat) : Int))) (y := (.int .i64 ((k177 : Nat) : Int))) (z := (.int .i64 (rightR y207 ((k177 : Nat) : Int) ((c174.length : Nat) : Int)))) rfl hA256 rfl rfl rfl ?_
              have hr := check_bad (cs := cs) (by omega) (by omega) hlong (hc152.2.trans (bad2_yes hc175 (hc184.2.trans (bad1_yes hy208 hb228))))
              exact ⟨ret_three (by rw [hr]) (by rw [hr]) (by rw [hr]), b223⟩
          · skip
            have hq257 := of_decide_eq_false hb202
            refine q_step hA201 rfl (d_bin (wn rfl) (hA201.ev (v := (.int .i64 ((k177 : Nat) : Int))) rfl) (hA201.ev (v := (.int .i64 ((c174.length : Nat) : Int))) rfl) (b_lt _ _ ((k177 : Nat) : Int) ((c174.length : Nat) : Int) false _ hb202) ?_)
            intro a258 hA259
            refine q_end ?_
            have hA260 : St 84 [(0, v), (5, (.int .i64 (((cs.map opsN).sum - ((cs.drop j145).map opsN).sum : Nat) : Int))), (6, (.int .i64 (((cs.map brN).sum - ((cs.drop j145).map brN).sum : Nat) : Int))), (8, (.int .i64 ((j145 : Nat) : Int))), (9, (.int .i64 ((k177 : Nat) : Int))), (38, (.int .i64 ((k177 : Nat) : Int))), (39, v), (40, (.int .i64 ((j145 : Nat) : Int))), (41, (.pointer (some ⟨b191, o192, none⟩))), (42, y167), (43, (.int .i64 ((c174.length : Nat) : Int))), (44, (.bool false))] a258 := hA259.cut _ (fm_cons (hA259.get 0 _ rfl) (fm_cons (hA259.get 5 _ rfl) (fm_cons (hA259.get 6 _ rfl) (fm_cons (hA259.get 8 _ rfl) (fm_cons (hA259.get 9 _ rfl) (fm_cons (hA259.get 38 _ rfl) (fm_cons (hA259.get 39 _ rfl) (fm_cons (hA259.get 40 _ rfl) (fm_cons (hA259.get 41 _ rfl) (fm_cons (hA259.get 42 _ rfl) (fm_cons (hA259.get 43 _ rfl) (fm_cons (hA259.get 44 _ rfl) fm_nil))))))))))))
            refine t_norm ?_
            refine c_false hA260 rfl ?_
            refine wp_exit ?_
            refine t_exit ?_
            refine t_exit ?_
            refine i_here ?_
            refine t_norm ?_
            refine wp_seq ?_
            refine wp_region_lit ?_
            refine q_step hA260 rfl (d_move (wn rfl) (hA260.ev (v := (.int .i64 (((cs.map opsN).sum - ((cs.drop j145).map opsN).sum : Nat) : Int))) rfl) ?_)
            intro a261 hA262
            refine q_step hA262 rfl (d_move (wn rfl) (hA262.ev (v := v) rfl) ?_)
            intro a263 hA264
            refine q_step hA264 rfl (d_move (wn rfl) (hA264.ev (v := (.int .i64 ((j145 : Nat) : Int))) rfl) ?_)
            intro a265 hA266
            refine q_step hA266 rfl (d_indexAt (j := j145) (wn rfl) (hA266.ev (v := v) rfl) (hA266.ev (v := (.int .i64 ((j145 : Nat) : Int))) rfl) slc34 hix195 (get_lt hy168) ?_)
            intro a267 hA268
            refine q_step hA268 rfl (d_load (v := y167) (wn rfl) (hA268.ev (v := (.pointer (some ⟨b191, o192, none⟩))) rfl) one35 (hr194 0 _ rfl) ?_)
            intro a269 hA270
            refine q_step hA270 rfl (d_call (wn rfl) ent23 (map1 (hA270.ev (v := y167) rfl)) (rops_any c174 y167 w180 ((hsl176.below b182).mono b182.size) (by omega)) ?_)
            rintro e274 w271 ⟨he273, hG272⟩
            have hr275 := range_below hr194 hG272 (Nat.lt_of_lt_of_le lt193 b182.size)
            have b276 := below_grow b182 hG272 b182.size
            refine ⟨(.int .i64 ((opsN c174 : Nat) : Int)), he273, ?_⟩
            intro a277 hA278
            refine q_step hA278 rfl (d_bin (wn rfl) (hA278.ev (v := (.int .i64 (((cs.map opsN).sum - ((cs.drop j145).map opsN).sum : Nat) : Int))) rfl) (hA278.ev (v := (.int .i64 ((opsN c174 : Nat) : Int))) rfl) (b_add _ _ (((cs.map opsN).sum - ((cs.drop j145).map opsN).sum : Nat) : Int) ((opsN c174 : Nat) : Int) _ (by omega) (by omega)) ?_)
            intro a279 hA280
            refine q_step hA280 rfl (d_assign (wn rfl) (hA280.ev (v := (.int .i64 ((((cs.map opsN).sum - ((cs.drop j145).map opsN).sum : Nat) : Int) + ((opsN c174 : Nat) : Int)))) rfl) ?_)
            intro a281 hA282
            refine q_end ?_
            have hA283 : St 84 [(0, v), (5, (.int .i64 ((((cs.map opsN).sum - ((cs.drop j145).map opsN).sum : Nat) : Int) + ((opsN c174 : Nat) : Int)))), (6, (.int .i64 (((cs.map brN).sum - ((cs.drop j145).map brN).sum : Nat) : Int))), (8, (.int .i64 ((j145 : Nat) : Int))), (9, (.int .i64 ((k177 : Nat) : Int))), (38, (.int .i64 ((k177 : Nat) : Int))), (39, v), (40, (.int .i64 ((j145 : Nat) : Int))), (41, (.pointer (some ⟨b191, o192, none⟩))), (42, y167), (43, (.int .i64 ((c174.length : Nat) : Int))), (44, (.bool false)), (66, (.int .i64 (((cs.map opsN).sum - ((cs.drop j145).map opsN).sum : Nat) : Int))), (67, v), (68, (.int .i64 ((j145 : Nat) : Int))), (69, (.pointer (some ⟨b191, o192, none⟩))), (70, y167), (71, (.int .i64 ((opsN c174 : Nat) : Int))), (72, (.int .i64 ((((cs.map opsN).sum - ((cs.drop j145).map opsN).sum : Nat) : Int) + ((opsN c174 : Nat) : Int))))] a281 := hA282.cut _ (fm_cons (hA282.get 0 _ rfl) (fm_cons (hA282.get 5 _ rfl) (fm_cons (hA282.get 6 _ rfl) (fm_cons (hA282.get 8 _ rfl) (fm_cons (hA282.get 9 _ rfl) (fm_cons (hA282.get 38 _ rfl) (fm_cons (hA282.get 39 _ rfl) (fm_cons (hA282.get 40 _ rfl) (fm_cons (hA282.get 41 _ rfl) (fm_cons (hA282.get 42 _ rfl) (fm_cons (hA282.get 43 _ rfl) (fm_cons (hA282.get 44 _ rfl) (fm_cons (hA282.get 66 _ rfl) (fm_cons (hA282.get 67 _ rfl) (fm_cons (hA282.get 68 _ rfl) (fm_cons (hA282.get 69 _ rfl) (fm_cons (hA282.get 70 _ rfl) (fm_cons (hA282.get 71 _ rfl) (fm_cons (hA282.get 72 _ rfl) fm_nil)))))))))))))))))))
            refine t_norm ?_
            refine wp_region_lit ?_
            refine q_step hA283 rfl (d_move (wn rfl) (hA283.ev (v := (.int .i64 (((cs.map brN).sum - ((cs.drop j145).map brN).sum : Nat) : Int))) rfl) ?_)
            intro a284 hA285
            refine q_step hA285 rfl (d_move (wn rfl) (hA285.ev (v := v) rfl) ?_)
            intro a286 hA287
            refine q_step hA287 rfl (d_move (wn rfl) (hA287.ev (v := (.int .i64 ((j145 : Nat) : Int))) rfl) ?_)
            intro a288 hA289
            refine q_step hA289 rfl (d_indexAt (j := j145) (wn rfl) (hA289.ev (v := v) rfl) (hA289.ev (v := (.int .i64 ((j145 : Nat) : Int))) rfl) slc34 hix195 (get_lt hy168) ?_)
            intro a290 hA291
            refine q_step hA291 rfl (d_load (v := y167) (wn rfl) (hA291.ev (v := (.pointer (some ⟨b191, o192, none⟩))) rfl) one35 (hr275 0 _ rfl) ?_)
            intro a292 hA293
            refine q_step hA293 rfl (d_call (wn rfl) ent25 (map1 (hA293.ev (v := y167) rfl)) (rbranches_any c174 y167 w271 ((hsl176.below b276).mono b276.size) (by omega)) ?_)
            rintro e297 w294 ⟨he296, hG295⟩
            have hr298 := range_below hr275 hG295 (Nat.lt_of_lt_of_le lt193 b276.size)
            have b299 := below_grow b276 hG295 b276.size
            refine ⟨(.int .i64 ((brN c174 : Nat) : Int)), he296, ?_⟩
            intro a300 hA301
            refine q_step hA301 rfl (d_bin (wn rfl) (hA301.ev (v := (.int .i64 (((cs.map brN).sum - ((cs.drop j145).map brN).sum : Nat) : Int))) rfl) (hA301.ev (v := (.int .i64 ((brN c174 : Nat) : Int))) rfl) (b_add _ _ (((cs.map brN).sum - ((cs.drop j145).map brN).sum : Nat) : Int) ((brN c174 : Nat) : Int) _ (by omega) (by omega)) ?_)
            intro a302 hA303
            refine q_step hA303 rfl (d_assign (wn rfl) (hA303.ev (v := (.int .i64 ((((cs.map brN).sum - ((cs.drop j145).map brN).sum : Nat) : Int) + ((brN c174 : Nat) : Int)))) rfl) ?_)
            intro a304 hA305
            refine q_end ?_
            have hA306 : St 84 [(0, v), (5, (.int .i64 ((((cs.map opsN).sum - ((cs.drop j145).map opsN).sum : Nat) : Int) + ((opsN c174 : Nat) : Int)))), (6, (.int .i64 ((((cs.map brN).sum - ((cs.drop j145).map brN).sum : Nat) : Int) + ((brN c174 : Nat) : Int)))), (8, (.int .i64 ((j145 : Nat) : Int))), (9, (.int .i64 ((k177 : Nat) : Int))), (38, (.int .i64 ((k177 : Nat) : Int))), (39, v), (40, (.int .i64 ((j145 : Nat) : Int))), (41, (.pointer (some ⟨b191, o192, none⟩))), (42, y167), (43, (.int .i64 ((c174.length : Nat) : Int))), (44, (.bool false)), (66, (.int .i64 (((cs.map opsN).sum - ((cs.drop j145).map opsN).sum : Nat) : Int))), (67, v), (68, (.int .i64 ((j145 : Nat) : Int))), (69, (.pointer (some ⟨b191, o192, none⟩))), (70, y167), (71, (.int .i64 ((opsN c174 : Nat) : Int))), (72, (.int .i64 ((((cs.map opsN).sum - ((cs.drop j145).map opsN).sum : Nat) : Int) + ((opsN c174 : Nat) : Int)))), (73, (.int .i64 (((cs.map brN).sum - ((cs.drop j145).map brN).sum : Nat) : Int))), (74, v), (75, (.int .i64 ((j145 : Nat) : Int))), (76, (.pointer (some ⟨b191, o192, none⟩))), (77, y167), (78, (.int .i64 ((brN c174 : Nat) : Int))), (79, (.int .i64 ((((cs.map brN).sum - ((cs.drop j145).map brN).sum : Nat) : Int) + ((brN c174 : Nat) : Int))))] a304 := hA305.cut _ (fm_cons (hA305.get 0 _ rfl) (fm_cons (hA305.get 5 _ rfl) (fm_cons (hA305.get 6 _ rfl) (fm_cons (hA305.get 8 _ rfl) (fm_cons (hA305.get 9 _ rfl) (fm_cons (hA305.get 38 _ rfl) (fm_cons (hA305.get 39 _ rfl) (fm_cons (hA305.get 40 _ rfl) (fm_cons (hA305.get 41 _ rfl) (fm_cons (hA305.get 42 _ rfl) (fm_cons (hA305.get 43 _ rfl) (fm_cons (hA305.get 44 _ rfl) (fm_cons (hA305.get 66 _ rfl) (fm_cons (hA305.get 67 _ rfl) (fm_cons (hA305.get 68 _ rfl) (fm_cons (hA305.get 69 _ rfl) (fm_cons (hA305.get 70 _ rfl) (fm_cons (hA305.get 71 _ rfl) (fm_cons (hA305.get 72 _ rfl) (fm_cons (hA305.get 73 _ rfl) (fm_cons (hA305.get 74 _ rfl) (fm_cons (hA305.get 75 _ rfl) (fm_cons (hA305.get 76 _ rfl) (fm_cons (hA305.get 77 _ rfl) (fm_cons (hA305.get 78 _ rfl) (fm_cons (hA305.get 79 _ rfl) fm_nil))))))))))))))))))))))))))
            refine i_norm ?_
            refine t_norm ?_
            refine wp_region_lit ?_
            refine q_step hA306 rfl (d_move (wn rfl) (hA306.ev (v := (.int .i64 ((j145 : Nat) : Int))) rfl) ?_)
            intro a307 hA308
            refine q_step hA308 rfl (d_bin (wn rfl) (hA308.ev (v := (.int .i64 ((j145 : Nat) : Int))) rfl) (hA308.ev (v := (.int .i64 1)) rfl) (b_add _ _ ((j145 : Nat) : Int) 1 _ (by omega) (by omega)) ?_)
            intro a309 hA310
            refine q_step hA310 rfl (d_assign (wn rfl) (hA310.ev (v := (.int .i64 (((j145 : Nat) : Int) + 1))) rfl) ?_)
            intro a311 hA312
            refine q_end ?_
            have hA313 : St 84 [(0, v), (5, (.int .i64 ((((cs.map opsN).sum - ((cs.drop j145).map opsN).sum : Nat) : Int) + ((opsN c174 : Nat) : Int)))), (6, (.int .i64 ((((cs.map brN).sum - ((cs.drop j145).map brN).sum : Nat) : Int) + ((brN c174 : Nat) : Int)))), (8, (.int .i64 (((j145 : Nat) : Int) + 1))), (9, (.int .i64 ((k177 : Nat) : Int))), (36, (.int .i64 ((j145 : Nat) : Int))), (37, (.int .i64 (((j145 : Nat) : Int) + 1))), (38, (.int .i64 ((k177 : Nat) : Int))), (39, v), (40, (.int .i64 ((j145 : Nat) : Int))), (41, (.pointer (some ⟨b191, o192, none⟩))), (42, y167), (43, (.int .i64 ((c174.length : Nat) : Int))), (44, (.bool false)), (66, (.int .i64 (((cs.map opsN).sum - ((cs.drop j145).map opsN).sum : Nat) : Int))), (67, v), (68, (.int .i64 ((j145 : Nat) : Int))), (69, (.pointer (some ⟨b191, o192, none⟩))), (70, y167), (71, (.int .i64 ((opsN c174 : Nat) : Int))), (72, (.int .i64 ((((cs.map opsN).sum - ((cs.drop j145).map opsN).sum : Nat) : Int) + ((opsN c174 : Nat) : Int)))), (73, (.int .i64 (((cs.map brN).sum - ((cs.drop j145).map brN).sum : Nat) : Int))), (74, v), (75, (.int .i64 ((j145 : Nat) : Int))), (76, (.pointer (some ⟨b191, o192, none⟩))), (77, y167), (78, (.int .i64 ((brN c174 : Nat) : Int))), (79, (.int .i64 ((((cs.map brN).sum - ((cs.drop j145).map brN).sum : Nat) : Int) + ((brN c174 : Nat) : Int))))] a311 := hA312.cut _ (fm_cons (hA312.get 0 _ rfl) (fm_cons (hA312.get 5 _ rfl) (fm_cons (hA312.get 6 _ rfl) (fm_cons (hA312.get 8 _ rfl) (fm_cons (hA312.get 9 _ rfl) (fm_cons (hA312.get 36 _ rfl) (fm_cons (hA312.get 37 _ rfl) (fm_cons (hA312.get 38 _ rfl) (fm_cons (hA312.get 39 _ rfl) (fm_cons (hA312.get 40 _ rfl) (fm_cons (hA312.get 41 _ rfl) (fm_cons (hA312.get 42 _ rfl) (fm_cons (hA312.get 43 _ rfl) (fm_cons (hA312.get 44 _ rfl) (fm_cons (hA312.get 66 _ rfl) (fm_cons (hA312.get 67 _ rfl) (fm_cons (hA312.get 68 _ rfl) (fm_cons (hA312.get 69 _ rfl) (fm_cons (hA312.get 70 _ rfl) (fm_cons (hA312.get 71 _ rfl) (fm_cons (hA312.get 72 _ rfl) (fm_cons (hA312.get 73 _ rfl) (fm_cons (hA312.get 74 _ rfl) (fm_cons (hA312.get 75 _ rfl) (fm_cons (hA312.get 76 _ rfl) (fm_cons (hA312.get 77 _ rfl) (fm_cons (hA312.get 78 _ rfl) (fm_cons (hA312.get 79 _ rfl) fm_nil))))))))))))))))))))))))))))
            refine t_norm ?_
            exact ⟨cs.length - (j145 + 1), (by rw [hm151]; omega), j145 + 1, rfl, ⟨by have := get_lt hc175; omega, hc152.2.trans (bad2_at hc175 (hc184.2.trans (by rw [drop_end (by omega)]; rfl)))⟩, hA313.cut _ (fm_cons (hA313.get 0 _ rfl) (fm_cons ((hA313.get 5 _ rfl).trans (congrArg (Value.int .i64) (by have h1 := sum_at opsN hc175; have h2 := drop_sum_le opsN cs j145; omega))) (fm_cons ((hA313.get 6 _ rfl).trans (congrArg (Value.int .i64) (by have h1 := sum_at brN hc175; have h2 := drop_sum_le brN cs j145; omega))) (fm_cons ((hA313.get 8 _ rfl).trans (congrArg (Value.int .i64) (by omega))) fm_nil)))), b299⟩
        · skip
          have hq314 := of_decide_eq_false hb159
          refine q_step hA158 rfl (d_bin (wn rfl) (hA158.ev (v := (.int .i64 ((j145 : Nat) : Int))) rfl) (hA158.ev (v := (.int .i64 ((us.length : Nat) : Int))) rfl) (b_lt _ _ ((j145 : Nat) : Int) ((us.length : Nat) : Int) false _ hb159) ?_)
          intro a315 hA316
          refine q_end ?_
          have hA317 : St 84 [(0, v), (5, (.int .i64 (((cs.map opsN).sum - ((cs.drop j145).map opsN).sum : Nat) : Int))), (6, (.int .i64 (((cs.map brN).sum - ((cs.drop j145).map brN).sum : Nat) : Int))), (8, (.int .i64 ((j145 : Nat) : Int))), (32, (.int .i64 ((j145 : Nat) : Int))), (33, v), (34, (.int .i64 ((us.length : Nat) : Int))), (35, (.bool false))] a315 := hA316.cut _ (fm_cons (hA316.get 0 _ rfl) (fm_cons (hA316.get 5 _ rfl) (fm_cons (hA316.get 6 _ rfl) (fm_cons (hA316.get 8 _ rfl) (fm_cons (hA316.get 32 _ rfl) (fm_cons (hA316.get 33 _ rfl) (fm_cons (hA316.get 34 _ rfl) (fm_cons (hA316.get 35 _ rfl) fm_nil))))))))
          refine t_norm ?_
          refine c_false hA317 rfl ?_
          refine wp_exit ?_
          refine t_exit ?_
          refine t_exit ?_
          refine i_here ?_
          refine t_norm ?_
          refine wp_seq ?_
          refine wp_seq ?_
          refine wp_region_lit ?_
          refine q_step hA317 rfl (d_move (wn rfl) (hA317.ev (v := (.int .i64 (((cs.map opsN).sum - ((cs.drop j145).map opsN).sum : Nat) : Int))) rfl) ?_)
          intro a318 hA319
          rcases Bool.eq_false_or_eq_true (decide ((((cs.map opsN).sum - ((cs.drop j145).map opsN).sum : Nat) : Int) > 6)) with hb320 | hb320
          · skip
            have hq321 := of_decide_eq_true hb320
            refine q_step hA319 rfl (d_bin (wn rfl) (hA319.ev (v := (.int .i64 (((cs.map opsN).sum - ((cs.drop j145).map opsN).sum : Nat) : Int))) rfl) (hA319.ev (v := (.int .i64 6)) rfl) (b_gt _ _ (((cs.map opsN).sum - ((cs.drop j145).map opsN).sum : Nat) : Int) 6 true _ hb320) ?_)
            intro a322 hA323
            refine q_end ?_
            have hA324 : St 84 [(6, (.int .i64 (((cs.map brN).sum - ((cs.drop j145).map brN).sum : Nat) : Int))), (81, (.bool true))] a322 := hA323.cut _ (fm_cons (hA323.get 6 _ rfl) (fm_cons (hA323.get 81 _ rfl) fm_nil))
            refine t_norm ?_
            refine c_true hA324 rfl ?_
            refine wp_seq ?_
            refine wp_region_lit ?_
            refine q_step hA324 rfl (d_assign (wn rfl) (hA324.ev (v := (.int .i64 0)) rfl) ?_)
            intro a325 hA326
            refine q_step hA326 rfl (d_assign (wn rfl) (hA326.ev (v := (.int .i64 0)) rfl) ?_)
            intro a327 hA328
            refine q_step hA328 rfl (d_assign (wn rfl) (hA328.ev (v := (.int .i64 32)) rfl) ?_)
            intro a329 hA330
            refine q_end ?_
            have hA331 : St 84 [(2, (.int .i64 0)), (3, (.int .i64 0)), (4, (.int .i64 32)), (6, (.int .i64 (((cs.map brN).sum - ((cs.drop j145).map brN).sum : Nat) : Int)))] a329 := hA330.cut _ (fm_cons (hA330.get 2 _ rfl) (fm_cons (hA330.get 3 _ rfl) (fm_cons (hA330.get 4 _ rfl) (fm_cons (hA330.get 6 _ rfl) fm_nil))))
            refine t_norm ?_
            refine wp_ret ?_
            refine t_ret ?_
            refine ret3 (x := (.int .i64 0)) (y := (.int .i64 0)) (z := (.int .i64 32)) rfl hA331 rfl rfl rfl ?_
            have hr := check_none (cs := cs) (by omega) (by omega) hlong ((hc152.2).trans (by rw [drop_end (by omega)]; rfl))
            have hz : cntsR cs = 32 := by have h0 := drop_end (l := cs) (j := j145) (by omega); have h1 : (cs.map opsN).sum = sumO cs := rfl; have h2 : (cs.map brN).sum = sumB cs := rfl; simp only [h0, List.map_nil, List.sum_nil, Nat.sub_zero, h1, h2] at *; simp [cntsR, hb14, hb45, hul, hb88, hb159, hb320]
            exact ⟨ret_three (by rw [hr]) (by rw [hr]) (by rw [hr]; exact hz.symm), b150⟩
          · skip
            have hq332 := of_decide_eq_false hb320
            refine q_step hA319 rfl (d_bin (wn rfl) (hA319.ev (v := (.int .i64 (((cs.map opsN).sum - ((cs.drop j145).map opsN).sum : Nat) : Int))) rfl) (hA319.ev (v := (.int .i64 6)) rfl) (b_gt _ _ (((cs.map opsN).sum - ((cs.drop j145).map opsN).sum : Nat) : Int) 6 false _ hb320) ?_)
            intro a333 hA334
            refine q_end ?_
            have hA335 : St 84 [(6, (.int .i64 (((cs.map brN).sum - ((cs.drop j145).map brN).sum : Nat) : Int))), (81, (.bool false))] a333 := hA334.cut _ (fm_cons (hA334.get 6 _ rfl) (fm_cons (hA334.get 81 _ rfl) fm_nil))
            refine t_norm ?_
            refine c_false hA335 rfl ?_
            refine wp_skip ?_
            refine t_norm ?_
            refine wp_seq ?_
            refine wp_seq ?_
            refine wp_region_lit ?_
            refine q_step hA335 rfl (d_move (wn rfl) (hA335.ev (v := (.int .i64 (((cs.map brN).sum - ((cs.drop j145).map brN).sum : Nat) : Int))) rfl) ?_)
            intro a336 hA337
            rcases Bool.eq_false_or_eq_true (decide ((((cs.map brN).sum - ((cs.drop j145).map brN).sum : Nat) : Int) > 3)) with hb338 | hb338
            · skip
              have hq339 := of_decide_eq_true hb338
              refine q_step hA337 rfl (d_bin (wn rfl) (hA337.ev (v := (.int .i64 (((cs.map brN).sum - ((cs.drop j145).map brN).sum : Nat) : Int))) rfl) (hA337.ev (v := (.int .i64 3)) rfl) (b_gt _ _ (((cs.map brN).sum - ((cs.drop j145).map brN).sum : Nat) : Int) 3 true _ hb338) ?_)
              intro a340 hA341
              refine q_end ?_
              have hA342 : St 84 [(83, (.bool true))] a340 := hA341.cut _ (fm_cons (hA341.get 83 _ rfl) fm_nil)
              refine t_norm ?_
              refine c_true hA342 rfl ?_
              refine wp_seq ?_
              refine wp_region_lit ?_
              refine q_step hA342 rfl (d_assign (wn rfl) (hA342.ev (v := (.int .i64 0)) rfl) ?_)
              intro a343 hA344
              refine q_step hA344 rfl (d_assign (wn rfl) (hA344.ev (v := (.int .i64 0)) rfl) ?_)
              intro a345 hA346
              refine q_step hA346 rfl (d_assign (wn rfl) (hA346.ev (v := (.int .i64 33)) rfl) ?_)
              intro a347 hA348
              refine q_end ?_
              have hA349 : St 84 [(2, (.int .i64 0)), (3, (.int .i64 0)), (4, (.int .i64 33))] a347 := hA348.cut _ (fm_cons (hA348.get 2 _ rfl) (fm_cons (hA348.get 3 _ rfl) (fm_cons (hA348.get 4 _ rfl) fm_nil)))
              refine t_norm ?_
              refine wp_ret ?_
              refine t_ret ?_
              refine ret3 (x := (.int .i64 0)) (y := (.int .i64 0)) (z := (.int .i64 33)) rfl hA349 rfl rfl rfl ?_
              have hr := check_none (cs := cs) (by omega) (by omega) hlong ((hc152.2).trans (by rw [drop_end (by omega)]; rfl))
              have hz : cntsR cs = 33 := by have h0 := drop_end (l := cs) (j := j145) (by omega); have h1 : (cs.map opsN).sum = sumO cs := rfl; have h2 : (cs.map brN).sum = sumB cs := rfl; simp only [h0, List.map_nil, List.sum_nil, Nat.sub_zero, h1, h2] at *; simp [cntsR, hb14, hb45, hul, hb88, hb159, hb320, hb338]
              exact ⟨ret_three (by rw [hr]) (by rw [hr]) (by rw [hr]; exact hz.symm), b150⟩
            · skip
              have hq350 := of_decide_eq_false hb338
              refine q_step hA337 rfl (d_bin (wn rfl) (hA337.ev (v := (.int .i64 (((cs.map brN).sum - ((cs.drop j145).map brN).sum : Nat) : Int))) rfl) (hA337.ev (v := (.int .i64 3)) rfl) (b_gt _ _ (((cs.map brN).sum - ((cs.drop j145).map brN).sum : Nat) : Int) 3 false _ hb338) ?_)
              intro a351 hA352
              refine q_end ?_
              have hA353 : St 84 [(83, (.bool false))] a351 := hA352.cut _ (fm_cons (hA352.get 83 _ rfl) fm_nil)
              refine t_norm ?_
              refine c_false hA353 rfl ?_
              refine wp_skip ?_
              refine t_norm ?_
              refine wp_seq ?_
              refine wp_region_lit ?_
              refine q_step hA353 rfl (d_assign (wn rfl) (hA353.ev (v := (.int .i64 0)) rfl) ?_)
              intro a354 hA355
              refine q_step hA355 rfl (d_assign (wn rfl) (hA355.ev (v := (.int .i64 0)) rfl) ?_)
              intro a356 hA357
              refine q_step hA357 rfl (d_assign (wn rfl) (hA357.ev (v := (.int .i64 0)) rfl) ?_)
              intro a358 hA359
              refine q_end ?_
              have hA360 : St 84 [(2, (.int .i64 0)), (3, (.int .i64 0)), (4, (.int .i64 0))] a358 := hA359.cut _ (fm_cons (hA359.get 2 _ rfl) (fm_cons (hA359.get 3 _ rfl) (fm_cons (hA359.get 4 _ rfl) fm_nil)))
              refine t_norm ?_
              refine wp_ret ?_
              refine ret3 (x := (.int .i64 0)) (y := (.int .i64 0)) (z := (.int .i64 0)) rfl hA360 rfl rfl rfl ?_
              have hr := check_none (cs := cs) (by omega) (by omega) hlong ((hc152.2).trans (by rw [drop_end (by omega)]; rfl))
              have hz : cntsR cs = 0 := by have h0 := drop_end (l := cs) (j := j145) (by omega); have h1 : (cs.map opsN).sum = sumO cs := rfl; have h2 : (cs.map brN).sum = sumB cs := rfl; simp only [h0, List.map_nil, List.sum_nil, Nat.sub_zero, h1, h2] at *; simp [cntsR, hb14, hb45, hul, hb88, hb159, hb320, hb338]
              exact ⟨ret_three (by rw [hr]) (by rw [hr]) (by rw [hr]; exact hz.symm), b150⟩
end Go.Proofs.Ytlhompedcphnnaa
