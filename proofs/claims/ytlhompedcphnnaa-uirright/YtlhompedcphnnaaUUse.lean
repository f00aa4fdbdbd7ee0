/- What Uses returns. -/
import Derived.Test.YtlhompedcphnnaaUUse0
namespace Go.Proofs.Ytlhompedcphnnaa
open Go.RowKit
set_option linter.unusedSimpArgs false
set_option linter.unusedVariables false
theorem arr58 : arrB Try.prog 58 3 3 1 = true := by kernel_rfl
theorem zero58 : (Try.prog.info? 58).map (fun i => (i.zero, i.size)) = some (some (.agg #[.int .i64 0, .int .i64 0, .int .i64 0]), 3) := by kernel_rfl
set_option maxHeartbeats 4000000 in
set_option maxRecDepth 4000 in
theorem uses_any (i : Ins) (w : World) : Calls Try.prog 16 #[.agg (insC i)] w fun e w' => ∃ v, e = .returned v ∧ Grow w w' ∧ w'.ownsRow w.heap.size 3 1 v (useF i).length (paE (useF i)) := by
  have b0 : Below w.heap.size w w := Below.refl _ _
  refine enter (n := 27) Try.func16 rfl rfl (Nat.le_of_ble_eq_true rfl) ?_
  intro a1 hA2
  refine wp_seq ?_
  refine wp_region_lit ?_
  refine q_step hA2 rfl (d_box (wn rfl) (hA2.ev (v := (.agg (insC i))) rfl) ?_)
  intro g3 w4 eg5 hG6 (m7 : Blk w4 g3 (insC i) 23)
  have ge8 : w.heap.size ≤ g3 := eg5 ▸ b0.size
  have b9 := below_grow b0 hG6 b0.size
  intro a10 hA11
  refine q_step hA11 rfl (d_assign (wn rfl) (hA11.ev (v := (.slice none 0 0)) rfl) ?_)
  intro a12 hA13
  refine q_end ?_
  have hA14 : St 27 [(1, (.pointer (some ⟨g3, 0, none⟩))), (2, (.slice none 0 0))] a12 := hA13.cut _ (fm_cons (hA13.get 1 _ rfl) (fm_cons (hA13.get 2 _ rfl) fm_nil))
  refine t_norm ?_
  refine wp_seq ?_
  refine wp_region_lit ?_
  refine q_step hA14 rfl (d_loadRow (cs := (insC i)) (wn rfl) (hA14.ev (v := (.pointer (some ⟨g3, 0, none⟩))) rfl) row23 m7 ?_)
  intro a15 hA16
  refine q_step hA16 rfl (d_call (wn rfl) ent28 (map1 (hA16.ev (v := (.agg (insC i))) rfl)) (plain_any i w4) ?_)
  rintro e20 w17 ⟨he19, hG18⟩
  have m21 := m7.grow hG18
  have b22 := below_grow b9 hG18 b9.size
  refine ⟨(.agg (insC (plainF i))), he19, ?_⟩
  intro a23 hA24
  refine q_step hA24 rfl (d_alloc (wn rfl) zero23 ?_)
  intro g25 w26 eg27 hG28 (m29 : Blk w26 g25 #[.int .i64 0, .int .i64 0, .int .i64 0, .int .i64 0, .int .i64 0, .int .i64 0, .int .i64 0, .int .i64 0, .int .i64 0, .int .i64 0, .bool false, .bool false, .bool false, .int .i64 0, .int .i64 0, .int .i64 0, .bool false] 23)
  have ge30 : w.heap.size ≤ g25 := eg27 ▸ b22.size
  have n31 : g3 ≠ g25 := fun h => Nat.lt_irrefl _ ((h.trans eg27) ▸ m21.lt)
  have m32 := m21.grow hG28
  have b33 := below_grow b22 hG28 b22.size
  intro a34 hA35
  refine q_step hA35 rfl (d_storeRow (wn rfl) (hA35.ev (v := (.pointer (some ⟨g25, 0, none⟩))) rfl) (hA35.ev (v := (.agg (insC (plainF i)))) rfl) row23 m29 rfl rfl ?_)
  intro w36 hU37 (m38 : Blk w36 g25 (insC (plainF i)) 23)
  have m39 := m32.upd hU37 n31
  have b40 := hU37.below b33 ge30
  intro a41 hA42
  refine q_end ?_
  have hA43 : St 27 [(2, (.slice none 0 0)), (3, (.pointer (some ⟨g25, 0, none⟩)))] a41 := hA42.cut _ (fm_cons (hA42.get 2 _ rfl) (fm_cons (hA42.get 3 _ rfl) fm_nil))
  refine t_norm ?_
  refine wp_seq ?_
  refine wp_region_lit ?_
  refine q_step hA43 rfl (d_assign (wn rfl) (hA43.ev (v := (.slice none 0 0)) rfl) ?_)
  intro a44 hA45
  refine q_end ?_
  have hA46 : St 27 [(2, (.slice none 0 0)), (3, (.pointer (some ⟨g25, 0, none⟩))), (4, (.slice none 0 0))] a44 := hA45.cut _ (fm_cons (hA45.get 2 _ rfl) (fm_cons (hA45.get 3 _ rfl) (fm_cons (hA45.get 4 _ rfl) fm_nil)))
  refine t_norm ?_
  refine wp_seq ?_
  refine wp_seq ?_
  refine wp_region_lit ?_
  refine q_step hA46 rfl (d_fieldAddr (wn rfl) (hA46.ev (v := (.pointer (some ⟨g25, 0, none⟩))) rfl) fo23_2 ?_)
  intro a47 hA48
  refine q_step hA48 rfl (d_load (v := (.int .i64 ((plainF i).a))) (wn rfl) (hA48.ev (v := (.pointer (some ⟨g25, 2, none⟩))) rfl) one3 (m38.cell rfl) ?_)
  intro a49 hA50
  refine q_step hA50 rfl (d_fieldAddr (wn rfl) (hA50.ev (v := (.pointer (some ⟨g25, 0, none⟩))) rfl) fo23_3 ?_)
  intro a51 hA52
  refine q_step hA52 rfl (d_load (v := (.int .i64 ((plainF i).b))) (wn rfl) (hA52.ev (v := (.pointer (some ⟨g25, 3, none⟩))) rfl) one3 (m38.cell rfl) ?_)
  intro a53 hA54
  refine q_step hA54 rfl (d_fieldAddr (wn rfl) (hA54.ev (v := (.pointer (some ⟨g25, 0, none⟩))) rfl) fo23_7 ?_)
  intro a55 hA56
  refine q_step hA56 rfl (d_load (v := (.int .i64 ((plainF i).index))) (wn rfl) (hA56.ev (v := (.pointer (some ⟨g25, 7, none⟩))) rfl) one3 (m38.cell rfl) ?_)
  intro a57 hA58
  refine q_step hA58 rfl (d_buildArr (cs := ((useX i).map (Value.int .i64)).toArray) (wn rfl) (bp_of (bq_cons (hA58.ev (v := (.int .i64 ((plainF i).a))) rfl) (bq_cons (hA58.ev (v := (.int .i64 ((plainF i).b))) rfl) (bq_cons (hA58.ev (v := (.int .i64 ((plainF i).index))) rfl) bq_nil)))) arr58 zero58 (by kernel_rfl) ?_)
  intro a59 hA60
  refine q_step hA60 rfl (d_move (wn rfl) (hA60.ev (v := (.int .i64 0)) rfl) ?_)
  intro a61 hA62
  refine q_end ?_
  have hA63 : St 27 [(2, (.slice none 0 0)), (4, (.slice none 0 0)), (15, (.agg (((useX i).map (Value.int .i64)).toArray))), (16, (.int .i64 0))] a61 := hA62.cut _ (fm_cons (hA62.get 2 _ rfl) (fm_cons (hA62.get 4 _ rfl) (fm_cons (hA62.get 15 _ rfl) (fm_cons (hA62.get 16 _ rfl) fm_nil))))
  refine t_norm ?_
  refine wp_block ?_
  refine loop_by (fun m a' w' => ∃ (j : Nat) (v : Value), m = 3 - j ∧ j ≤ 3 ∧ St 27 [(4, v), (15, (.agg (((useX i).map (Value.int .i64)).toArray))), (16, (.int .i64 ((j : Nat) : Int)))] a' ∧ Below w.heap.size w w' ∧ w'.ownsRow w.heap.size 3 1 v (useL (useX i) j).length (paE (useL (useX i) j))) (3 - 0) ⟨0, .slice none 0 0, rfl, Nat.zero_le _, hA63.cut _ (fm_cons (hA63.get 4 _ rfl) (fm_cons (hA63.get 15 _ rfl) (fm_cons (hA63.get 16 _ rfl) fm_nil))), b40, ⟨rfl, .inl ⟨rfl, rfl⟩⟩⟩ ?_
  rintro m64 a65 w66 ⟨j67, v68, hm69, hj70, hA71, b72, ho73⟩
  have hul := use_len (useX i) j67
  have hx3 : (useX i).length = 3 := rfl
  refine wp_seq ?_
  refine wp_region_lit ?_
  rcases Bool.eq_false_or_eq_true (decide (((j67 : Nat) : Int) < 3)) with hb74 | hb74
  · skip
    have hq75 := of_decide_eq_true hb74
    refine q_step hA71 rfl (d_bin (wn rfl) (hA71.ev (v := (.int .i64 ((j67 : Nat) : Int))) rfl) (hA71.ev (v := (.int .i64 3)) rfl) (b_lt _ _ ((j67 : Nat) : Int) 3 true _ hb74) ?_)
    intro a76 hA77
    refine q_end ?_
    have hA78 : St 27 [(4, v68), (15, (.agg (((useX i).map (Value.int .i64)).toArray))), (16, (.int .i64 ((j67 : Nat) : Int))), (17, (.bool true))] a76 := hA77.cut _ (fm_cons (hA77.get 4 _ rfl) (fm_cons (hA77.get 15 _ rfl) (fm_cons (hA77.get 16 _ rfl) (fm_cons (hA77.get 17 _ rfl) fm_nil))))
    refine t_norm ?_
    refine wp_seq ?_
    refine c_true hA78 rfl ?_
    refine wp_skip ?_
    refine t_norm ?_
    refine wp_seq ?_
    refine wp_block ?_
    refine wp_seq ?_
    refine wp_region_lit ?_
    obtain ⟨y79, hy80⟩ : ∃ y79, (useX i)[j67]? = some y79 := ⟨_, List.getElem?_eq_getElem (show j67 < (useX i).length by simp [useX]; omega)⟩
    refine q_step hA78 rfl (d_indexV (j := j67) (v := .int .i64 y79) (wn rfl) (hA78.ev (v := (.agg (((useX i).map (Value.int .i64)).toArray))) rfl) (hA78.ev (v := (.int .i64 ((j67 : Nat) : Int))) rfl) arr58 one3 (by omega) (arr_of hy80) ?_)
    intro a81 hA82
    refine q_step hA82 rfl (d_assign (wn rfl) (hA82.ev (v := (.int .i64 y79)) rfl) ?_)
    intro a83 hA84
    refine q_end ?_
    have hA85 : St 27 [(4, v68), (6, (.int .i64 y79)), (15, (.agg (((useX i).map (Value.int .i64)).toArray))), (16, (.int .i64 ((j67 : Nat) : Int))), (17, (.bool true)), (18, (.int .i64 y79))] a83 := hA84.cut _ (fm_cons (hA84.get 4 _ rfl) (fm_cons (hA84.get 6 _ rfl) (fm_cons (hA84.get 15 _ rfl) (fm_cons (hA84.get 16 _ rfl) (fm_cons (hA84.get 17 _ rfl) (fm_cons (hA84.get 18 _ rfl) fm_nil))))))
    refine t_norm ?_
    refine wp_seq ?_
    refine wp_region_lit ?_
    refine q_step hA85 rfl (d_move (wn rfl) (hA85.ev (v := (.int .i64 y79)) rfl) ?_)
    intro a86 hA87
    rcases Bool.eq_false_or_eq_true (y79 == (-1)) with hb88 | hb88
    · skip
      have hq89 := eq_of_beq hb88
      refine q_step hA87 rfl (d_bin (wn rfl) (hA87.ev (v := (.int .i64 y79)) rfl) (hA87.ev (v := (.int .i64 (-1))) rfl) (b_ne _ _ y79 (-1) false _ (notof hb88)) ?_)
      intro a90 hA91
      refine q_end ?_
      have hA92 : St 27 [(4, v68), (6, (.int .i64 y79)), (15, (.agg (((useX i).map (Value.int .i64)).toArray))), (16, (.int .i64 ((j67 : Nat) : Int))), (17, (.bool true)), (18, (.int .i64 y79)), (19, (.int .i64 y79)), (20, (.bool false))] a90 := hA91.cut _ (fm_cons (hA91.get 4 _ rfl) (fm_cons (hA91.get 6 _ rfl) (fm_cons (hA91.get 15 _ rfl) (fm_cons (hA91.get 16 _ rfl) (fm_cons (hA91.get 17 _ rfl) (fm_cons (hA91.get 18 _ rfl) (fm_cons (hA91.get 19 _ rfl) (fm_cons (hA91.get 20 _ rfl) fm_nil))))))))
      refine t_norm ?_
      refine c_false hA92 rfl ?_
      refine wp_skip ?_
      refine i_norm ?_
      refine t_norm ?_
      refine wp_region_lit ?_
      refine q_step hA92 rfl (d_bin (wn rfl) (hA92.ev (v := (.int .i64 ((j67 : Nat) : Int))) rfl) (hA92.ev (v := (.int .i64 1)) rfl) (b_add _ _ ((j67 : Nat) : Int) 1 _ (by omega) (by omega)) ?_)
      intro a93 hA94
      refine q_step hA94 rfl (d_move (wn rfl) (hA94.ev (v := (.int .i64 (((j67 : Nat) : Int) + 1))) rfl) ?_)
      intro a95 hA96
      refine q_end ?_
      have hA97 : St 27 [(4, v68), (6, (.int .i64 y79)), (15, (.agg (((useX i).map (Value.int .i64)).toArray))), (16, (.int .i64 (((j67 : Nat) : Int) + 1))), (17, (.bool true)), (18, (.int .i64 y79)), (19, (.int .i64 y79)), (20, (.bool false)), (25, (.int .i64 (((j67 : Nat) : Int) + 1)))] a95 := hA96.cut _ (fm_cons (hA96.get 4 _ rfl) (fm_cons (hA96.get 6 _ rfl) (fm_cons (hA96.get 15 _ rfl) (fm_cons (hA96.get 16 _ rfl) (fm_cons (hA96.get 17 _ rfl) (fm_cons (hA96.get 18 _ rfl) (fm_cons (hA96.get 19 _ rfl) (fm_cons (hA96.get 20 _ rfl) (fm_cons (hA96.get 25 _ rfl) fm_nil)))))))))
      refine t_norm ?_
      exact ⟨3 - (j67 + 1), (by rw [hm69]; omega), j67 + 1, v68, rfl, (by omega), hA97.cut _ (fm_cons (hA97.get 4 _ rfl) (fm_cons (hA97.get 15 _ rfl) (fm_cons ((hA97.get 16 _ rfl).trans (congrArg (Value.int .i64) (by omega))) fm_nil))), b72, (by rw [use_no hy80 hb88]; exact ho73)⟩
    · skip
      have hq98 := ne_of_beq hb88
      refine q_step hA87 rfl (d_bin (wn rfl) (hA87.ev (v := (.int .i64 y79)) rfl) (hA87.ev (v := (.int .i64 (-1))) rfl) (b_ne _ _ y79 (-1) true _ (notof hb88)) ?_)
      intro a99 hA100
      refine q_end ?_
      have hA101 : St 27 [(4, v68), (6, (.int .i64 y79)), (15, (.agg (((useX i).map (Value.int .i64)).toArray))), (16, (.int .i64 ((j67 : Nat) : Int))), (17, (.bool true)), (18, (.int .i64 y79)), (19, (.int .i64 y79)), (20, (.bool true))] a99 := hA100.cut _ (fm_cons (hA100.get 4 _ rfl) (fm_cons (hA100.get 6 _ rfl) (fm_cons (hA100.get 15 _ rfl) (fm_cons (hA100.get 16 _ rfl) (fm_cons (hA100.get 17 _ rfl) (fm_cons (hA100.get 18 _ rfl) (fm_cons (hA100.get 19 _ rfl) (fm_cons (hA100.get 20 _ rfl) fm_nil))))))))
      refine t_norm ?_
      refine c_true hA101 rfl ?_
      refine wp_region_lit ?_
      refine q_step hA101 rfl (d_move (wn rfl) (hA101.ev (v := v68) rfl) ?_)
      intro a102 hA103
      refine q_step hA103 rfl (d_move (wn rfl) (hA103.ev (v := (.int .i64 y79)) rfl) ?_)
      intro a104 hA105
      refine q_step hA105 rfl (d_slice1 (wn rfl) (hA105.ev (v := (.int .i64 y79)) rfl) elm30 rfl (by decide) ?_)
      intro g106 w107 eg108 hG109 (m110 : Blk w107 g106 #[.int .i64 y79] 3)
      have ge111 : w.heap.size ≤ g106 := eg108 ▸ b72.size
      have off112 := own_new ho73 eg108
      have b113 := below_grow b72 hG109 b72.size
      have ho114 := own_grow hG109 ho73
      intro a115 hA116
      refine q_step hA116 rfl (d_append (wn rfl) (hA116.ev (v := v68) rfl) (hA116.ev (v := (.slice (some ⟨g106, 0, none⟩) 1 1)) rfl) elm30 ho114 m110 rfl rfl (by omega) (by decide) b113.size ?_)
      intro v117 w118 ho119 hg120 hl121
      have b122 := below_by b113 hg120 b113.size (fun k hk => (own_lt ho114 k hk).1)
      intro a123 hA124
      refine q_step hA124 rfl (d_assign (wn rfl) (hA124.ev (v := v117) rfl) ?_)
      intro a125 hA126
      refine q_end ?_
      have hA127 : St 27 [(4, v117), (6, (.int .i64 y79)), (15, (.agg (((useX i).map (Value.int .i64)).toArray))), (16, (.int .i64 ((j67 : Nat) : Int))), (17, (.bool true)), (18, (.int .i64 y79)), (19, (.int .i64 y79)), (20, (.bool true)), (21, v68), (22, (.int .i64 y79)), (23, (.slice (some ⟨g106, 0, none⟩) 1 1)), (24, v117)] a125 := hA126.cut _ (fm_cons (hA126.get 4 _ rfl) (fm_cons (hA126.get 6 _ rfl) (fm_cons (hA126.get 15 _ rfl) (fm_cons (hA126.get 16 _ rfl) (fm_cons (hA126.get 17 _ rfl) (fm_cons (hA126.get 18 _ rfl) (fm_cons (hA126.get 19 _ rfl) (fm_cons (hA126.get 20 _ rfl) (fm_cons (hA126.get 21 _ rfl) (fm_cons (hA126.get 22 _ rfl) (fm_cons (hA126.get 23 _ rfl) (fm_cons (hA126.get 24 _ rfl) fm_nil))))))))))))
      refine i_norm ?_
      refine t_norm ?_
      refine wp_region_lit ?_
      refine q_step hA127 rfl (d_bin (wn rfl) (hA127.ev (v := (.int .i64 ((j67 : Nat) : Int))) rfl) (hA127.ev (v := (.int .i64 1)) rfl) (b_add _ _ ((j67 : Nat) : Int) 1 _ (by omega) (by omega)) ?_)
      intro a128 hA129
      refine q_step hA129 rfl (d_move (wn rfl) (hA129.ev (v := (.int .i64 (((j67 : Nat) : Int) + 1))) rfl) ?_)
      intro a130 hA131
      refine q_end ?_
      have hA132 : St 27 [(4, v117), (6, (.int .i64 y79)), (15, (.agg (((useX i).map (Value.int .i64)).toArray))), (16, (.int .i64 (((j67 : Nat) : Int) + 1))), (17, (.bool true)), (18, (.int .i64 y79)), (19, (.int .i64 y79)), (20, (.bool true)), (21, v68), (22, (.int .i64 y79)), (23, (.slice (some ⟨g106, 0, none⟩) 1 1)), (24, v117), (25, (.int .i64 (((j67 : Nat) : Int) + 1)))] a130 := hA131.cut _ (fm_cons (hA131.get 4 _ rfl) (fm_cons (hA131.get 6 _ rfl) (fm_cons (hA131.get 15 _ rfl) (fm_cons (hA131.get 16 _ rfl) (fm_cons (hA131.get 17 _ rfl) (fm_cons (hA131.get 18 _ rfl) (fm_cons (hA131.get 19 _ rfl) (fm_cons (hA131.get 20 _ rfl) (fm_cons (hA131.get 21 _ rfl) (fm_cons (hA131.get 22 _ rfl) (fm_cons (hA131.get 23 _ rfl) (fm_cons (hA131.get 24 _ rfl) (fm_cons (hA131.get 25 _ rfl) fm_nil)))))))))))))
      refine t_norm ?_
      exact ⟨3 - (j67 + 1), (by rw [hm69]; omega), j67 + 1, v117, rfl, (by omega), hA132.cut _ (fm_cons (hA132.get 4 _ rfl) (fm_cons (hA132.get 15 _ rfl) (fm_cons ((hA132.get 16 _ rfl).trans (congrArg (Value.int .i64) (by omega))) fm_nil))), b122, (by rw [use_yes hy80 hb88, List.length_append, ← paE_snoc]; exact ho119)⟩
  · skip
    have hq133 := of_decide_eq_false hb74
    refine q_step hA71 rfl (d_bin (wn rfl) (hA71.ev (v := (.int .i64 ((j67 : Nat) : Int))) rfl) (hA71.ev (v := (.int .i64 3)) rfl) (b_lt _ _ ((j67 : Nat) : Int) 3 false _ hb74) ?_)
    intro a134 hA135
    refine q_end ?_
    have hA136 : St 27 [(4, v68), (15, (.agg (((useX i).map (Value.int .i64)).toArray))), (16, (.int .i64 ((j67 : Nat) : Int))), (17, (.bool false))] a134 := hA135.cut _ (fm_cons (hA135.get 4 _ rfl) (fm_cons (hA135.get 15 _ rfl) (fm_cons (hA135.get 16 _ rfl) (fm_cons (hA135.get 17 _ rfl) fm_nil))))
    refine t_norm ?_
    refine wp_seq ?_
    refine c_false hA136 rfl ?_
    refine wp_exit ?_
    refine t_exit ?_
    refine t_exit ?_
    refine i_here ?_
    refine t_norm ?_
    refine wp_seq ?_
    refine wp_region_lit ?_
    refine q_step hA136 rfl (d_move (wn rfl) (hA136.ev (v := v68) rfl) ?_)
    intro a137 hA138
    refine q_step hA138 rfl (d_assign (wn rfl) (hA138.ev (v := v68) rfl) ?_)
    intro a139 hA140
    refine q_end ?_
    have hA141 : St 27 [(2, v68)] a139 := hA140.cut _ (fm_cons (hA140.get 2 _ rfl) fm_nil)
    refine t_norm ?_
    refine wp_ret ?_
    refine ret1 rfl hA141 (v := v68) rfl ?_
    obtain rfl : j67 = 3 := by omega
    exact ⟨_, rfl, b72, ho73⟩
end Go.Proofs.Ytlhompedcphnnaa
