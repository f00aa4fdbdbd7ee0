/- How many operations and branches a code has. -/
import Derived.Test.YtlhompedcphnnaaV1
namespace Go.Proofs.Ytlhompedcphnnaa
open Go.RowKit
set_option linter.unusedSimpArgs false
set_option linter.unusedVariables false
set_option maxHeartbeats 4000000 in
set_option maxRecDepth 4000 in
theorem ops_any (l : List Ins) (v : Value) (w : World) (hs : Sl insE 17 w.heap.size w v l) (hl : l.length ≤ 1000000) : Calls Try.prog 22 #[v] w fun e w' => e = .returned (.int .i64 (opsN l : Nat)) ∧ Grow w w' := by
  have b0 : Below w.heap.size w w := Below.refl _ _
  refine enter (n := 5) Try.func22 rfl rfl (Nat.le_of_ble_eq_true rfl) ?_
  intro a1 hA2
  refine wp_seq ?_
  refine wp_region_lit ?_
  refine q_step hA2 rfl (d_assign (wn rfl) (hA2.ev (v := (.int .i64 0)) rfl) ?_)
  intro a3 hA4
  refine q_end ?_
  have hA5 : St 5 [(0, v), (2, (.int .i64 0))] a3 := hA4.cut _ (fm_cons (hA4.get 0 _ rfl) (fm_cons (hA4.get 2 _ rfl) fm_nil))
  refine t_norm ?_
  refine wp_seq ?_
  refine wp_region_lit ?_
  refine q_step hA5 rfl (d_move (wn rfl) (hA5.ev (v := v) rfl) ?_)
  intro a6 hA7
  refine q_step hA7 rfl (d_call (wn rfl) ent34 (map2 (hA7.ev (v := v) rfl) (hA7.ev (v := (.func (.func 35) #[] #[])) rfl)) (count_any 35 opB l v w ent35 isOp_any ((hs.below b0).mono b0.size) (by omega)) ?_)
  rintro e11 w8 ⟨he10, hG9⟩
  have b12 := below_grow b0 hG9 b0.size
  refine ⟨(.int .i64 ((l.countP opB : Nat) : Int)), he10, ?_⟩
  intro a13 hA14
  refine q_step hA14 rfl (d_assign (wn rfl) (hA14.ev (v := (.int .i64 ((l.countP opB : Nat) : Int))) rfl) ?_)
  intro a15 hA16
  refine q_end ?_
  have hA17 : St 5 [(2, (.int .i64 ((l.countP opB : Nat) : Int)))] a15 := hA16.cut _ (fm_cons (hA16.get 2 _ rfl) fm_nil)
  refine t_norm ?_
  refine wp_ret ?_
  refine ret1 rfl hA17 (v := (.int .i64 ((l.countP opB : Nat) : Int))) rfl ?_
  exact ⟨rfl, b12⟩
set_option maxHeartbeats 4000000 in
set_option maxRecDepth 4000 in
theorem branches_any (l : List Ins) (v : Value) (w : World) (hs : Sl insE 17 w.heap.size w v l) (hl : l.length ≤ 1000000) : Calls Try.prog 24 #[v] w fun e w' => e = .returned (.int .i64 (brN l : Nat)) ∧ Grow w w' := by
  have b0 : Below w.heap.size w w := Below.refl _ _
  refine enter (n := 5) Try.func24 rfl rfl (Nat.le_of_ble_eq_true rfl) ?_
  intro a1 hA2
  refine wp_seq ?_
  refine wp_region_lit ?_
  refine q_step hA2 rfl (d_assign (wn rfl) (hA2.ev (v := (.int .i64 0)) rfl) ?_)
  intro a3 hA4
  refine q_end ?_
  have hA5 : St 5 [(0, v), (2, (.int .i64 0))] a3 := hA4.cut _ (fm_cons (hA4.get 0 _ rfl) (fm_cons (hA4.get 2 _ rfl) fm_nil))
  refine t_norm ?_
  refine wp_seq ?_
  refine wp_region_lit ?_
  refine q_step hA5 rfl (d_move (wn rfl) (hA5.ev (v := v) rfl) ?_)
  intro a6 hA7
  refine q_step hA7 rfl (d_call (wn rfl) ent34 (map2 (hA7.ev (v := v) rfl) (hA7.ev (v := (.func (.func 30) #[] #[])) rfl)) (count_any 30 (fun i => i.op == 9) l v w ent30 isBranch_any ((hs.below b0).mono b0.size) (by omega)) ?_)
  rintro e11 w8 ⟨he10, hG9⟩
  have b12 := below_grow b0 hG9 b0.size
  refine ⟨(.int .i64 ((l.countP (fun i => i.op == 9) : Nat) : Int)), he10, ?_⟩
  intro a13 hA14
  refine q_step hA14 rfl (d_assign (wn rfl) (hA14.ev (v := (.int .i64 ((l.countP (fun i => i.op == 9) : Nat) : Int))) rfl) ?_)
  intro a15 hA16
  refine q_end ?_
  have hA17 : St 5 [(2, (.int .i64 ((l.countP (fun i => i.op == 9) : Nat) : Int)))] a15 := hA16.cut _ (fm_cons (hA16.get 2 _ rfl) fm_nil)
  refine t_norm ?_
  refine wp_ret ?_
  refine ret1 rfl hA17 (v := (.int .i64 ((l.countP (fun i => i.op == 9) : Nat) : Int))) rfl ?_
  exact ⟨rfl, b12⟩
set_option maxHeartbeats 4000000 in
set_option maxRecDepth 4000 in
theorem rops_any (l : List Ins) (v : Value) (w : World) (hs : Sl insE 17 w.heap.size w v l) (hl : l.length ≤ 1000000) : Calls Try.prog 23 #[v] w fun e w' => e = .returned (.int .i64 (opsN l : Nat)) ∧ Grow w w' := by
  have b0 : Below w.heap.size w w := Below.refl _ _
  refine enter (n := 19) Try.func23 rfl rfl (Nat.le_of_ble_eq_true rfl) ?_
  intro a1 hA2
  refine wp_seq ?_
  refine wp_region_lit ?_
  refine q_step hA2 rfl (d_assign (wn rfl) (hA2.ev (v := (.int .i64 0)) rfl) ?_)
  intro a3 hA4
  refine q_end ?_
  have hA5 : St 19 [(0, v), (2, (.int .i64 0))] a3 := hA4.cut _ (fm_cons (hA4.get 0 _ rfl) (fm_cons (hA4.get 2 _ rfl) fm_nil))
  refine t_norm ?_
  refine wp_seq ?_
  refine wp_region_lit ?_
  refine q_step hA5 rfl (d_assign (wn rfl) (hA5.ev (v := (.int .i64 0)) rfl) ?_)
  intro a6 hA7
  refine q_end ?_
  have hA8 : St 19 [(0, v), (2, (.int .i64 0)), (3, (.int .i64 0))] a6 := hA7.cut _ (fm_cons (hA7.get 0 _ rfl) (fm_cons (hA7.get 2 _ rfl) (fm_cons (hA7.get 3 _ rfl) fm_nil)))
  refine t_norm ?_
  refine wp_seq ?_
  refine wp_seq ?_
  refine wp_region_lit ?_
  refine q_step hA8 rfl (d_assign (wn rfl) (hA8.ev (v := (.int .i64 0)) rfl) ?_)
  intro a9 hA10
  refine q_end ?_
  have hA11 : St 19 [(0, v), (2, (.int .i64 0)), (3, (.int .i64 0)), (4, (.int .i64 0))] a9 := hA10.cut _ (fm_cons (hA10.get 0 _ rfl) (fm_cons (hA10.get 2 _ rfl) (fm_cons (hA10.get 3 _ rfl) (fm_cons (hA10.get 4 _ rfl) fm_nil))))
  refine t_norm ?_
  refine wp_block ?_
  refine loop_by (fun m13 a14 w15 => ∃ j12 : Nat, m13 = l.length - j12 ∧ (j12 ≤ l.length) ∧ St 19 [(0, v), (3, (.int .i64 ((l.countP opB - (l.drop j12).countP opB : Nat) : Int))), (4, (.int .i64 ((j12 : Nat) : Int)))] a14 ∧ Below w.heap.size w w15) (l.length - 0) ⟨0, rfl, (by omega), hA11.cut _ (fm_cons (hA11.get 0 _ rfl) (fm_cons ((hA11.get 3 _ rfl).trans (congrArg (Value.int .i64) (by simp))) (fm_cons ((hA11.get 4 _ rfl).trans (congrArg (Value.int .i64) (by simp))) fm_nil))), b0⟩ ?_
  rintro m13 a14 w15 ⟨j12, hm18, hc19, hA16, b17⟩
  have hk1 := cnt_le opB l j12
  have hk2 := countP_drop_le opB l j12
  have hk3 := List.countP_le_length (p := opB) (l := l)
  refine wp_seq ?_
  refine wp_seq ?_
  refine wp_region_lit ?_
  refine q_step hA16 rfl (d_move (wn rfl) (hA16.ev (v := (.int .i64 ((j12 : Nat) : Int))) rfl) ?_)
  intro a20 hA21
  refine q_step hA21 rfl (d_move (wn rfl) (hA21.ev (v := v) rfl) ?_)
  intro a22 hA23
  refine q_step hA23 rfl (d_len (n := l.length) (wn rfl) (hA23.ev (v := v) rfl) slc35 hs.form ?_)
  intro a24 hA25
  rcases Bool.eq_false_or_eq_true (decide (((j12 : Nat) : Int) < ((l.length : Nat) : Int))) with hb26 | hb26
  · skip
    have hq27 := of_decide_eq_true hb26
    refine q_step hA25 rfl (d_bin (wn rfl) (hA25.ev (v := (.int .i64 ((j12 : Nat) : Int))) rfl) (hA25.ev (v := (.int .i64 ((l.length : Nat) : Int))) rfl) (b_lt _ _ ((j12 : Nat) : Int) ((l.length : Nat) : Int) true _ hb26) ?_)
    intro a28 hA29
    refine q_end ?_
    have hA30 : St 19 [(0, v), (3, (.int .i64 ((l.countP opB - (l.drop j12).countP opB : Nat) : Int))), (4, (.int .i64 ((j12 : Nat) : Int))), (5, (.int .i64 ((j12 : Nat) : Int))), (6, v), (7, (.int .i64 ((l.length : Nat) : Int))), (8, (.bool true))] a28 := hA29.cut _ (fm_cons (hA29.get 0 _ rfl) (fm_cons (hA29.get 3 _ rfl) (fm_cons (hA29.get 4 _ rfl) (fm_cons (hA29.get 5 _ rfl) (fm_cons (hA29.get 6 _ rfl) (fm_cons (hA29.get 7 _ rfl) (fm_cons (hA29.get 8 _ rfl) fm_nil)))))))
    refine t_norm ?_
    refine c_true hA30 rfl ?_
    refine wp_skip ?_
    refine t_norm ?_
    refine wp_seq ?_
    refine wp_block ?_
    refine wp_seq ?_
    refine wp_region_lit ?_
    refine q_step hA30 rfl (d_move (wn rfl) (hA30.ev (v := v) rfl) ?_)
    intro a31 hA32
    refine q_step hA32 rfl (d_move (wn rfl) (hA32.ev (v := (.int .i64 ((j12 : Nat) : Int))) rfl) ?_)
    intro a33 hA34
    obtain ⟨y35, hy36⟩ : ∃ y35, l[j12]? = some y35 := ⟨_, List.getElem?_eq_getElem (show j12 < l.length by omega)⟩
    obtain ⟨b37, o38, lt39, hr40, hix41⟩ := (hs.below b17).at hy36
    refine q_step hA34 rfl (d_indexAt (j := j12) (wn rfl) (hA34.ev (v := v) rfl) (hA34.ev (v := (.int .i64 ((j12 : Nat) : Int))) rfl) slc35 hix41 (get_lt hy36) ?_)
    intro a42 hA43
    refine q_step hA43 rfl (d_loadMid (cs := (insC y35)) (wn rfl) (hA43.ev (v := (.pointer (some ⟨b37, o38, none⟩))) rfl) row23 hr40 ?_)
    intro a44 hA45
    refine q_step hA45 rfl (d_call (wn rfl) ent32 (map1 (hA45.ev (v := (.agg (insC y35))) rfl)) (memory_any y35 w15) ?_)
    rintro e49 w46 ⟨he48, hG47⟩
    have hr50 := range_below hr40 hG47 (Nat.lt_of_lt_of_le lt39 b17.size)
    have b51 := below_grow b17 hG47 b17.size
    rcases Bool.eq_false_or_eq_true (opB y35) with hb52 | hb52
    · skip
      refine ⟨.bool true, he48.trans (ret_bool hb52), ?_⟩
      intro a54 hA55
      refine q_end ?_
      have hA56 : St 19 [(0, v), (3, (.int .i64 ((l.countP opB - (l.drop j12).countP opB : Nat) : Int))), (4, (.int .i64 ((j12 : Nat) : Int))), (5, (.int .i64 ((j12 : Nat) : Int))), (6, v), (7, (.int .i64 ((l.length : Nat) : Int))), (8, (.bool true)), (11, v), (12, (.int .i64 ((j12 : Nat) : Int))), (13, (.pointer (some ⟨b37, o38, none⟩))), (14, (.agg (insC y35))), (15, (.bool true))] a54 := hA55.cut _ (fm_cons (hA55.get 0 _ rfl) (fm_cons (hA55.get 3 _ rfl) (fm_cons (hA55.get 4 _ rfl) (fm_cons (hA55.get 5 _ rfl) (fm_cons (hA55.get 6 _ rfl) (fm_cons (hA55.get 7 _ rfl) (fm_cons (hA55.get 8 _ rfl) (fm_cons (hA55.get 11 _ rfl) (fm_cons (hA55.get 12 _ rfl) (fm_cons (hA55.get 13 _ rfl) (fm_cons (hA55.get 14 _ rfl) (fm_cons (hA55.get 15 _ rfl) fm_nil))))))))))))
      refine t_norm ?_
      refine c_true hA56 rfl ?_
      refine wp_region_lit ?_
      refine q_step hA56 rfl (d_move (wn rfl) (hA56.ev (v := (.int .i64 ((l.countP opB - (l.drop j12).countP opB : Nat) : Int))) rfl) ?_)
      intro a57 hA58
      refine q_step hA58 rfl (d_bin (wn rfl) (hA58.ev (v := (.int .i64 ((l.countP opB - (l.drop j12).countP opB : Nat) : Int))) rfl) (hA58.ev (v := (.int .i64 1)) rfl) (b_add _ _ ((l.countP opB - (l.drop j12).countP opB : Nat) : Int) 1 _ (by omega) (by omega)) ?_)
      intro a59 hA60
      refine q_step hA60 rfl (d_assign (wn rfl) (hA60.ev (v := (.int .i64 (((l.countP opB - (l.drop j12).countP opB : Nat) : Int) + 1))) rfl) ?_)
      intro a61 hA62
      refine q_end ?_
      have hA63 : St 19 [(0, v), (3, (.int .i64 (((l.countP opB - (l.drop j12).countP opB : Nat) : Int) + 1))), (4, (.int .i64 ((j12 : Nat) : Int))), (5, (.int .i64 ((j12 : Nat) : Int))), (6, v), (7, (.int .i64 ((l.length : Nat) : Int))), (8, (.bool true)), (11, v), (12, (.int .i64 ((j12 : Nat) : Int))), (13, (.pointer (some ⟨b37, o38, none⟩))), (14, (.agg (insC y35))), (15, (.bool true)), (16, (.int .i64 ((l.countP opB - (l.drop j12).countP opB : Nat) : Int))), (17, (.int .i64 (((l.countP opB - (l.drop j12).countP opB : Nat) : Int) + 1)))] a61 := hA62.cut _ (fm_cons (hA62.get 0 _ rfl) (fm_cons (hA62.get 3 _ rfl) (fm_cons (hA62.get 4 _ rfl) (fm_cons (hA62.get 5 _ rfl) (fm_cons (hA62.get 6 _ rfl) (fm_cons (hA62.get 7 _ rfl) (fm_cons (hA62.get 8 _ rfl) (fm_cons (hA62.get 11 _ rfl) (fm_cons (hA62.get 12 _ rfl) (fm_cons (hA62.get 13 _ rfl) (fm_cons (hA62.get 14 _ rfl) (fm_cons (hA62.get 15 _ rfl) (fm_cons (hA62.get 16 _ rfl) (fm_cons (hA62.get 17 _ rfl) fm_nil))))))))))))))
      refine i_norm ?_
      refine t_norm ?_
      refine wp_region_lit ?_
      refine q_step hA63 rfl (d_move (wn rfl) (hA63.ev (v := (.int .i64 ((j12 : Nat) : Int))) rfl) ?_)
      intro a64 hA65
      refine q_step hA65 rfl (d_bin (wn rfl) (hA65.ev (v := (.int .i64 ((j12 : Nat) : Int))) rfl) (hA65.ev (v := (.int .i64 1)) rfl) (b_add _ _ ((j12 : Nat) : Int) 1 _ (by omega) (by omega)) ?_)
      intro a66 hA67
      refine q_step hA67 rfl (d_assign (wn rfl) (hA67.ev (v := (.int .i64 (((j12 : Nat) : Int) + 1))) rfl) ?_)
      intro a68 hA69
      refine q_end ?_
      have hA70 : St 19 [(0, v), (3, (.int .i64 (((l.countP opB - (l.drop j12).countP opB : Nat) : Int) + 1))), (4, (.int .i64 (((j12 : Nat) : Int) + 1))), (5, (.int .i64 ((j12 : Nat) : Int))), (6, v), (7, (.int .i64 ((l.length : Nat) : Int))), (8, (.bool true)), (9, (.int .i64 ((j12 : Nat) : Int))), (10, (.int .i64 (((j12 : Nat) : Int) + 1))), (11, v), (12, (.int .i64 ((j12 : Nat) : Int))), (13, (.pointer (some ⟨b37, o38, none⟩))), (14, (.agg (insC y35))), (15, (.bool true)), (16, (.int .i64 ((l.countP opB - (l.drop j12).countP opB : Nat) : Int))), (17, (.int .i64 (((l.countP opB - (l.drop j12).countP opB : Nat) : Int) + 1)))] a68 := hA69.cut _ (fm_cons (hA69.get 0 _ rfl) (fm_cons (hA69.get 3 _ rfl) (fm_cons (hA69.get 4 _ rfl) (fm_cons (hA69.get 5 _ rfl) (fm_cons (hA69.get 6 _ rfl) (fm_cons (hA69.get 7 _ rfl) (fm_cons (hA69.get 8 _ rfl) (fm_cons (hA69.get 9 _ rfl) (fm_cons (hA69.get 10 _ rfl) (fm_cons (hA69.get 11 _ rfl) (fm_cons (hA69.get 12 _ rfl) (fm_cons (hA69.get 13 _ rfl) (fm_cons (hA69.get 14 _ rfl) (fm_cons (hA69.get 15 _ rfl) (fm_cons (hA69.get 16 _ rfl) (fm_cons (hA69.get 17 _ rfl) fm_nil))))))))))))))))
      refine t_norm ?_
      exact ⟨l.length - (j12 + 1), (by rw [hm18]; omega), j12 + 1, rfl, (by omega), hA70.cut _ (fm_cons (hA70.get 0 _ rfl) (fm_cons ((hA70.get 3 _ rfl).trans (congrArg (Value.int .i64) (by have h1 := count_at opB hy36; have h2 := countP_drop_le opB l j12; simp [hb52] at h1; omega))) (fm_cons ((hA70.get 4 _ rfl).trans (congrArg (Value.int .i64) (by omega))) fm_nil))), b51⟩
    · skip
      refine ⟨.bool false, he48.trans (ret_bool hb52), ?_⟩
      intro a72 hA73
      refine q_end ?_
      have hA74 : St 19 [(0, v), (3, (.int .i64 ((l.countP opB - (l.drop j12).countP opB : Nat) : Int))), (4, (.int .i64 ((j12 : Nat) : Int))), (5, (.int .i64 ((j12 : Nat) : Int))), (6, v), (7, (.int .i64 ((l.length : Nat) : Int))), (8, (.bool true)), (11, v), (12, (.int .i64 ((j12 : Nat) : Int))), (13, (.pointer (some ⟨b37, o38, none⟩))), (14, (.agg (insC y35))), (15, (.bool false))] a72 := hA73.cut _ (fm_cons (hA73.get 0 _ rfl) (fm_cons (hA73.get 3 _ rfl) (fm_cons (hA73.get 4 _ rfl) (fm_cons (hA73.get 5 _ rfl) (fm_cons (hA73.get 6 _ rfl) (fm_cons (hA73.get 7 _ rfl) (fm_cons (hA73.get 8 _ rfl) (fm_cons (hA73.get 11 _ rfl) (fm_cons (hA73.get 12 _ rfl) (fm_cons (hA73.get 13 _ rfl) (fm_cons (hA73.get 14 _ rfl) (fm_cons (hA73.get 15 _ rfl) fm_nil))))))))))))
      refine t_norm ?_
      refine c_false hA74 rfl ?_
      refine wp_skip ?_
      refine i_norm ?_
      refine t_norm ?_
      refine wp_region_lit ?_
      refine q_step hA74 rfl (d_move (wn rfl) (hA74.ev (v := (.int .i64 ((j12 : Nat) : Int))) rfl) ?_)
      intro a75 hA76
      refine q_step hA76 rfl (d_bin (wn rfl) (hA76.ev (v := (.int .i64 ((j12 : Nat) : Int))) rfl) (hA76.ev (v := (.int .i64 1)) rfl) (b_add _ _ ((j12 : Nat) : Int) 1 _ (by omega) (by omega)) ?_)
      intro a77 hA78
      refine q_step hA78 rfl (d_assign (wn rfl) (hA78.ev (v := (.int .i64 (((j12 : Nat) : Int) + 1))) rfl) ?_)
      intro a79 hA80
      refine q_end ?_
      have hA81 : St 19 [(0, v), (3, (.int .i64 ((l.countP opB - (l.drop j12).countP opB : Nat) : Int))), (4, (.int .i64 (((j12 : Nat) : Int) + 1))), (5, (.int .i64 ((j12 : Nat) : Int))), (6, v), (7, (.int .i64 ((l.length : Nat) : Int))), (8, (.bool true)), (9, (.int .i64 ((j12 : Nat) : Int))), (10, (.int .i64 (((j12 : Nat) : Int) + 1))), (11, v), (12, (.int .i64 ((j12 : Nat) : Int))), (13, (.pointer (some ⟨b37, o38, none⟩))), (14, (.agg (insC y35))), (15, (.bool false))] a79 := hA80.cut _ (fm_cons (hA80.get 0 _ rfl) (fm_cons (hA80.get 3 _ rfl) (fm_cons (hA80.get 4 _ rfl) (fm_cons (hA80.get 5 _ rfl) (fm_cons (hA80.get 6 _ rfl) (fm_cons (hA80.get 7 _ rfl) (fm_cons (hA80.get 8 _ rfl) (fm_cons (hA80.get 9 _ rfl) (fm_cons (hA80.get 10 _ rfl) (fm_cons (hA80.get 11 _ rfl) (fm_cons (hA80.get 12 _ rfl) (fm_cons (hA80.get 13 _ rfl) (fm_cons (hA80.get 14 _ rfl) (fm_cons (hA80.get 15 _ rfl) fm_nil))))))))))))))
      refine t_norm ?_
      exact ⟨l.length - (j12 + 1), (by rw [hm18]; omega), j12 + 1, rfl, (by omega), hA81.cut _ (fm_cons (hA81.get 0 _ rfl) (fm_cons ((hA81.get 3 _ rfl).trans (congrArg (Value.int .i64) (by have h1 := count_at opB hy36; have h2 := countP_drop_le opB l j12; simp [hb52] at h1; omega))) (fm_cons ((hA81.get 4 _ rfl).trans (congrArg (Value.int .i64) (by omega))) fm_nil))), b51⟩
  · skip
    have hq82 := of_decide_eq_false hb26
    refine q_step hA25 rfl (d_bin (wn rfl) (hA25.ev (v := (.int .i64 ((j12 : Nat) : Int))) rfl) (hA25.ev (v := (.int .i64 ((l.length : Nat) : Int))) rfl) (b_lt _ _ ((j12 : Nat) : Int) ((l.length : Nat) : Int) false _ hb26) ?_)
    intro a83 hA84
    refine q_end ?_
    have hA85 : St 19 [(0, v), (3, (.int .i64 ((l.countP opB - (l.drop j12).countP opB : Nat) : Int))), (4, (.int .i64 ((j12 : Nat) : Int))), (5, (.int .i64 ((j12 : Nat) : Int))), (6, v), (7, (.int .i64 ((l.length : Nat) : Int))), (8, (.bool false))] a83 := hA84.cut _ (fm_cons (hA84.get 0 _ rfl) (fm_cons (hA84.get 3 _ rfl) (fm_cons (hA84.get 4 _ rfl) (fm_cons (hA84.get 5 _ rfl) (fm_cons (hA84.get 6 _ rfl) (fm_cons (hA84.get 7 _ rfl) (fm_cons (hA84.get 8 _ rfl) fm_nil)))))))
    refine t_norm ?_
    refine c_false hA85 rfl ?_
    refine wp_exit ?_
    refine t_exit ?_
    refine t_exit ?_
    refine i_here ?_
    refine t_norm ?_
    refine wp_seq ?_
    refine wp_region_lit ?_
    refine q_step hA85 rfl (d_move (wn rfl) (hA85.ev (v := (.int .i64 ((l.countP opB - (l.drop j12).countP opB : Nat) : Int))) rfl) ?_)
    intro a86 hA87
    refine q_step hA87 rfl (d_assign (wn rfl) (hA87.ev (v := (.int .i64 ((l.countP opB - (l.drop j12).countP opB : Nat) : Int))) rfl) ?_)
    intro a88 hA89
    refine q_end ?_
    have hA90 : St 19 [(2, (.int .i64 ((l.countP opB - (l.drop j12).countP opB : Nat) : Int)))] a88 := hA89.cut _ (fm_cons (hA89.get 2 _ rfl) fm_nil)
    refine t_norm ?_
    refine wp_ret ?_
    refine ret1 rfl hA90 (v := (.int .i64 ((l.countP opB - (l.drop j12).countP opB : Nat) : Int))) rfl ?_
    exact ⟨ret_int (by have := drop_end (l := l) (j := j12) (by omega); simp [this, opsN, brN]), b17⟩
set_option maxHeartbeats 4000000 in
set_option maxRecDepth 4000 in
theorem rbranches_any (l : List Ins) (v : Value) (w : World) (hs : Sl insE 17 w.heap.size w v l) (hl : l.length ≤ 1000000) : Calls Try.prog 25 #[v] w fun e w' => e = .returned (.int .i64 (brN l : Nat)) ∧ Grow w w' := by
  have b0 : Below w.heap.size w w := Below.refl _ _
  refine enter (n := 20) Try.func25 rfl rfl (Nat.le_of_ble_eq_true rfl) ?_
  intro a1 hA2
  refine wp_seq ?_
  refine wp_region_lit ?_
  refine q_step hA2 rfl (d_assign (wn rfl) (hA2.ev (v := (.int .i64 0)) rfl) ?_)
  intro a3 hA4
  refine q_end ?_
  have hA5 : St 20 [(0, v), (2, (.int .i64 0))] a3 := hA4.cut _ (fm_cons (hA4.get 0 _ rfl) (fm_cons (hA4.get 2 _ rfl) fm_nil))
  refine t_norm ?_
  refine wp_seq ?_
  refine wp_region_lit ?_
  refine q_step hA5 rfl (d_assign (wn rfl) (hA5.ev (v := (.int .i64 0)) rfl) ?_)
  intro a6 hA7
  refine q_end ?_
  have hA8 : St 20 [(0, v), (2, (.int .i64 0)), (3, (.int .i64 0))] a6 := hA7.cut _ (fm_cons (hA7.get 0 _ rfl) (fm_cons (hA7.get 2 _ rfl) (fm_cons (hA7.get 3 _ rfl) fm_nil)))
  refine t_norm ?_
  refine wp_seq ?_
  refine wp_seq ?_
  refine wp_region_lit ?_
  refine q_step hA8 rfl (d_assign (wn rfl) (hA8.ev (v := (.int .i64 0)) rfl) ?_)
  intro a9 hA10
  refine q_end ?_
  have hA11 : St 20 [(0, v), (2, (.int .i64 0)), (3, (.int .i64 0)), (4, (.int .i64 0))] a9 := hA10.cut _ (fm_cons (hA10.get 0 _ rfl) (fm_cons (hA10.get 2 _ rfl) (fm_cons (hA10.get 3 _ rfl) (fm_cons (hA10.get 4 _ rfl) fm_nil))))
  refine t_norm ?_
  refine wp_block ?_
  refine loop_by (fun m13 a14 w15 => ∃ j12 : Nat, m13 = l.length - j12 ∧ (j12 ≤ l.length) ∧ St 20 [(0, v), (3, (.int .i64 ((l.countP (fun i : Ins => i.op == 9) - (l.drop j12).countP (fun i : Ins => i.op == 9) : Nat) : Int))), (4, (.int .i64 ((j12 : Nat) : Int)))] a14 ∧ Below w.heap.size w w15) (l.length - 0) ⟨0, rfl, (by omega), hA11.cut _ (fm_cons (hA11.get 0 _ rfl) (fm_cons ((hA11.get 3 _ rfl).trans (congrArg (Value.int .i64) (by simp))) (fm_cons ((hA11.get 4 _ rfl).trans (congrArg (Value.int .i64) (by simp))) fm_nil))), b0⟩ ?_
  rintro m13 a14 w15 ⟨j12, hm18, hc19, hA16, b17⟩
  have hk1 := cnt_le (fun i : Ins => i.op == 9) l j12
  have hk2 := countP_drop_le (fun i : Ins => i.op == 9) l j12
  have hk3 := List.countP_le_length (p := (fun i : Ins => i.op == 9)) (l := l)
  refine wp_seq ?_
  refine wp_seq ?_
  refine wp_region_lit ?_
  refine q_step hA16 rfl (d_move (wn rfl) (hA16.ev (v := (.int .i64 ((j12 : Nat) : Int))) rfl) ?_)
  intro a20 hA21
  refine q_step hA21 rfl (d_move (wn rfl) (hA21.ev (v := v) rfl) ?_)
  intro a22 hA23
  refine q_step hA23 rfl (d_len (n := l.length) (wn rfl) (hA23.ev (v := v) rfl) slc35 hs.form ?_)
  intro a24 hA25
  rcases Bool.eq_false_or_eq_true (decide (((j12 : Nat) : Int) < ((l.length : Nat) : Int))) with hb26 | hb26
  · skip
    have hq27 := of_decide_eq_true hb26
    refine q_step hA25 rfl (d_bin (wn rfl) (hA25.ev (v := (.int .i64 ((j12 : Nat) : Int))) rfl) (hA25.ev (v := (.int .i64 ((l.length : Nat) : Int))) rfl) (b_lt _ _ ((j12 : Nat) : Int) ((l.length : Nat) : Int) true _ hb26) ?_)
    intro a28 hA29
    refine q_end ?_
    have hA30 : St 20 [(0, v), (3, (.int .i64 ((l.countP (fun i : Ins => i.op == 9) - (l.drop j12).countP (fun i : Ins => i.op == 9) : Nat) : Int))), (4, (.int .i64 ((j12 : Nat) : Int))), (5, (.int .i64 ((j12 : Nat) : Int))), (6, v), (7, (.int .i64 ((l.length : Nat) : Int))), (8, (.bool true))] a28 := hA29.cut _ (fm_cons (hA29.get 0 _ rfl) (fm_cons (hA29.get 3 _ rfl) (fm_cons (hA29.get 4 _ rfl) (fm_cons (hA29.get 5 _ rfl) (fm_cons (hA29.get 6 _ rfl) (fm_cons (hA29.get 7 _ rfl) (fm_cons (hA29.get 8 _ rfl) fm_nil)))))))
    refine t_norm ?_
    refine c_true hA30 rfl ?_
    refine wp_skip ?_
    refine t_norm ?_
    refine wp_seq ?_
    refine wp_block ?_
    refine wp_seq ?_
    refine wp_region_lit ?_
    refine q_step hA30 rfl (d_move (wn rfl) (hA30.ev (v := v) rfl) ?_)
    intro a31 hA32
    refine q_step hA32 rfl (d_move (wn rfl) (hA32.ev (v := (.int .i64 ((j12 : Nat) : Int))) rfl) ?_)
    intro a33 hA34
    obtain ⟨y35, hy36⟩ : ∃ y35, l[j12]? = some y35 := ⟨_, List.getElem?_eq_getElem (show j12 < l.length by omega)⟩
    obtain ⟨b37, o38, lt39, hr40, hix41⟩ := (hs.below b17).at hy36
    refine q_step hA34 rfl (d_indexAt (j := j12) (wn rfl) (hA34.ev (v := v) rfl) (hA34.ev (v := (.int .i64 ((j12 : Nat) : Int))) rfl) slc35 hix41 (get_lt hy36) ?_)
    intro a42 hA43
    refine q_step hA43 rfl (d_fieldAddr (wn rfl) (hA43.ev (v := (.pointer (some ⟨b37, o38, none⟩))) rfl) fo23_0 ?_)
    intro a44 hA45
    refine q_step hA45 rfl (d_load (v := (.int .i64 y35.op)) (wn rfl) (hA45.ev (v := (.pointer (some ⟨b37, o38, none⟩))) rfl) one3 (hr40 0 _ rfl) ?_)
    intro a46 hA47
    rcases Bool.eq_false_or_eq_true (y35.op == 9) with hb48 | hb48
    · skip
      have hq49 := eq_of_beq hb48
      refine q_step hA47 rfl (d_bin (wn rfl) (hA47.ev (v := (.int .i64 y35.op)) rfl) (hA47.ev (v := (.int .i64 9)) rfl) (b_eq _ _ y35.op 9 true _ hb48) ?_)
      intro a50 hA51
      refine q_end ?_
      have hA52 : St 20 [(0, v), (3, (.int .i64 ((l.countP (fun i : Ins => i.op == 9) - (l.drop j12).countP (fun i : Ins => i.op == 9) : Nat) : Int))), (4, (.int .i64 ((j12 : Nat) : Int))), (5, (.int .i64 ((j12 : Nat) : Int))), (6, v), (7, (.int .i64 ((l.length : Nat) : Int))), (8, (.bool true)), (11, v), (12, (.int .i64 ((j12 : Nat) : Int))), (13, (.pointer (some ⟨b37, o38, none⟩))), (14, (.pointer (some ⟨b37, o38, none⟩))), (15, (.int .i64 y35.op)), (16, (.bool true))] a50 := hA51.cut _ (fm_cons (hA51.get 0 _ rfl) (fm_cons (hA51.get 3 _ rfl) (fm_cons (hA51.get 4 _ rfl) (fm_cons (hA51.get 5 _ rfl) (fm_cons (hA51.get 6 _ rfl) (fm_cons (hA51.get 7 _ rfl) (fm_cons (hA51.get 8 _ rfl) (fm_cons (hA51.get 11 _ rfl) (fm_cons (hA51.get 12 _ rfl) (fm_cons (hA51.get 13 _ rfl) (fm_cons (hA51.get 14 _ rfl) (fm_cons (hA51.get 15 _ rfl) (fm_cons (hA51.get 16 _ rfl) fm_nil)))))))))))))
      refine t_norm ?_
      refine c_true hA52 rfl ?_
      refine wp_region_lit ?_
      refine q_step hA52 rfl (d_move (wn rfl) (hA52.ev (v := (.int .i64 ((l.countP (fun i : Ins => i.op == 9) - (l.drop j12).countP (fun i : Ins => i.op == 9) : Nat) : Int))) rfl) ?_)
      intro a53 hA54
      refine q_step hA54 rfl (d_bin (wn rfl) (hA54.ev (v := (.int .i64 ((l.countP (fun i : Ins => i.op == 9) - (l.drop j12).countP (fun i : Ins => i.op == 9) : Nat) : Int))) rfl) (hA54.ev (v := (.int .i64 1)) rfl) (b_add _ _ ((l.countP (fun i : Ins => i.op == 9) - (l.drop j12).countP (fun i : Ins => i.op == 9) : Nat) : Int) 1 _ (by omega) (by omega)) ?_)
      intro a55 hA56
      refine q_step hA56 rfl (d_assign (wn rfl) (hA56.ev (v := (.int .i64 (((l.countP (fun i : Ins => i.op == 9) - (l.drop j12).countP (fun i : Ins => i.op == 9) : Nat) : Int) + 1))) rfl) ?_)
      intro a57 hA58
      refine q_end ?_
      have hA59 : St 20 [(0, v), (3, (.int .i64 (((l.countP (fun i : Ins => i.op == 9) - (l.drop j12).countP (fun i : Ins => i.op == 9) : Nat) : Int) + 1))), (4, (.int .i64 ((j12 : Nat) : Int))), (5, (.int .i64 ((j12 : Nat) : Int))), (6, v), (7, (.int .i64 ((l.length : Nat) : Int))), (8, (.bool true)), (11, v), (12, (.int .i64 ((j12 : Nat) : Int))), (13, (.pointer (some ⟨b37, o38, none⟩))), (14, (.pointer (some ⟨b37, o38, none⟩))), (15, (.int .i64 y35.op)), (16, (.bool true)), (17, (.int .i64 ((l.countP (fun i : Ins => i.op == 9) - (l.drop j12).countP (fun i : Ins => i.op == 9) : Nat) : Int))), (18, (.int .i64 (((l.countP (fun i : Ins => i.op == 9) - (l.drop j12).countP (fun i : Ins => i.op == 9) : Nat) : Int) + 1)))] a57 := hA58.cut _ (fm_cons (hA58.get 0 _ rfl) (fm_cons (hA58.get 3 _ rfl) (fm_cons (hA58.get 4 _ rfl) (fm_cons (hA58.get 5 _ rfl) (fm_cons (hA58.get 6 _ rfl) (fm_cons (hA58.get 7 _ rfl) (fm_cons (hA58.get 8 _ rfl) (fm_cons (hA58.get 11 _ rfl) (fm_cons (hA58.get 12 _ rfl) (fm_cons (hA58.get 13 _ rfl) (fm_cons (hA58.get 14 _ rfl) (fm_cons (hA58.get 15 _ rfl) (fm_cons (hA58.get 16 _ rfl) (fm_cons (hA58.get 17 _ rfl) (fm_cons (hA58.get 18 _ rfl) fm_nil)))))))))))))))
      refine i_norm ?_
      refine t_norm ?_
      refine wp_region_lit ?_
      refine q_step hA59 rfl (d_move (wn rfl) (hA59.ev (v := (.int .i64 ((j12 : Nat) : Int))) rfl) ?_)
      intro a60 hA61
      refine q_step hA61 rfl (d_bin (wn rfl) (hA61.ev (v := (.int .i64 ((j12 : Nat) : Int))) rfl) (hA61.ev (v := (.int .i64 1)) rfl) (b_add _ _ ((j12 : Nat) : Int) 1 _ (by omega) (by omega)) ?_)
      intro a62 hA63
      refine q_step hA63 rfl (d_assign (wn rfl) (hA63.ev (v := (.int .i64 (((j12 : Nat) : Int) + 1))) rfl) ?_)
      intro a64 hA65
      refine q_end ?_
      have hA66 : St 20 [(0, v), (3, (.int .i64 (((l.countP (fun i : Ins => i.op == 9) - (l.drop j12).countP (fun i : Ins => i.op == 9) : Nat) : Int) + 1))), (4, (.int .i64 (((j12 : Nat) : Int) + 1))), (5, (.int .i64 ((j12 : Nat) : Int))), (6, v), (7, (.int .i64 ((l.length : Nat) : Int))), (8, (.bool true)), (9, (.int .i64 ((j12 : Nat) : Int))), (10, (.int .i64 (((j12 : Nat) : Int) + 1))), (11, v), (12, (.int .i64 ((j12 : Nat) : Int))), (13, (.pointer (some ⟨b37, o38, none⟩))), (14, (.pointer (some ⟨b37, o38, none⟩))), (15, (.int .i64 y35.op)), (16, (.bool true)), (17, (.int .i64 ((l.countP (fun i : Ins => i.op == 9) - (l.drop j12).countP (fun i : Ins => i.op == 9) : Nat) : Int))), (18, (.int .i64 (((l.countP (fun i : Ins => i.op == 9) - (l.drop j12).countP (fun i : Ins => i.op == 9) : Nat) : Int) + 1)))] a64 := hA65.cut _ (fm_cons (hA65.get 0 _ rfl) (fm_cons (hA65.get 3 _ rfl) (fm_cons (hA65.get 4 _ rfl) (fm_cons (hA65.get 5 _ rfl) (fm_cons (hA65.get 6 _ rfl) (fm_cons (hA65.get 7 _ rfl) (fm_cons (hA65.get 8 _ rfl) (fm_cons (hA65.get 9 _ rfl) (fm_cons (hA65.get 10 _ rfl) (fm_cons (hA65.get 11 _ rfl) (fm_cons (hA65.get 12 _ rfl) (fm_cons (hA65.get 13 _ rfl) (fm_cons (hA65.get 14 _ rfl) (fm_cons (hA65.get 15 _ rfl) (fm_cons (hA65.get 16 _ rfl) (fm_cons (hA65.get 17 _ rfl) (fm_cons (hA65.get 18 _ rfl) fm_nil)))))))))))))))))
      refine t_norm ?_
      exact ⟨l.length - (j12 + 1), (by rw [hm18]; omega), j12 + 1, rfl, (by omega), hA66.cut _ (fm_cons (hA66.get 0 _ rfl) (fm_cons ((hA66.get 3 _ rfl).trans (congrArg (Value.int .i64) (by have h1 := count_at (fun i : Ins => i.op == 9) hy36; have h2 := countP_drop_le (fun i : Ins => i.op == 9) l j12; simp [hb48] at h1; omega))) (fm_cons ((hA66.get 4 _ rfl).trans (congrArg (Value.int .i64) (by omega))) fm_nil))), b17⟩
    · skip
      have hq67 := ne_of_beq hb48
      refine q_step hA47 rfl (d_bin (wn rfl) (hA47.ev (v := (.int .i64 y35.op)) rfl) (hA47.ev (v := (.int .i64 9)) rfl) (b_eq _ _ y35.op 9 false _ hb48) ?_)
      intro a68 hA69
      refine q_end ?_
      have hA70 : St 20 [(0, v), (3, (.int .i64 ((l.countP (fun i : Ins => i.op == 9) - (l.drop j12).countP (fun i : Ins => i.op == 9) : Nat) : Int))), (4, (.int .i64 ((j12 : Nat) : Int))), (5, (.int .i64 ((j12 : Nat) : Int))), (6, v), (7, (.int .i64 ((l.length : Nat) : Int))), (8, (.bool true)), (11, v), (12, (.int .i64 ((j12 : Nat) : Int))), (13, (.pointer (some ⟨b37, o38, none⟩))), (14, (.pointer (some ⟨b37, o38, none⟩))), (15, (.int .i64 y35.op)), (16, (.bool false))] a68 := hA69.cut _ (fm_cons (hA69.get 0 _ rfl) (fm_cons (hA69.get 3 _ rfl) (fm_cons (hA69.get 4 _ rfl) (fm_cons (hA69.get 5 _ rfl) (fm_cons (hA69.get 6 _ rfl) (fm_cons (hA69.get 7 _ rfl) (fm_cons (hA69.get 8 _ rfl) (fm_cons (hA69.get 11 _ rfl) (fm_cons (hA69.get 12 _ rfl) (fm_cons (hA69.get 13 _ rfl) (fm_cons (hA69.get 14 _ rfl) (fm_cons (hA69.get 15 _ rfl) (fm_cons (hA69.get 16 _ rfl) fm_nil)))))))))))))
      refine t_norm ?_
      refine c_false hA70 rfl ?_
      refine wp_skip ?_
      refine i_norm ?_
      refine t_norm ?_
      refine wp_region_lit ?_
      refine q_step hA70 rfl (d_move (wn rfl) (hA70.ev (v := (.int .i64 ((j12 : Nat) : Int))) rfl) ?_)
      intro a71 hA72
      refine q_step hA72 rfl (d_bin (wn rfl) (hA72.ev (v := (.int .i64 ((j12 : Nat) : Int))) rfl) (hA72.ev (v := (.int .i64 1)) rfl) (b_add _ _ ((j12 : Nat) : Int) 1 _ (by omega) (by omega)) ?_)
      intro a73 hA74
      refine q_step hA74 rfl (d_assign (wn rfl) (hA74.ev (v := (.int .i64 (((j12 : Nat) : Int) + 1))) rfl) ?_)
      intro a75 hA76
      refine q_end ?_
      have hA77 : St 20 [(0, v), (3, (.int .i64 ((l.countP (fun i : Ins => i.op == 9) - (l.drop j12).countP (fun i : Ins => i.op == 9) : Nat) : Int))), (4, (.int .i64 (((j12 : Nat) : Int) + 1))), (5, (.int .i64 ((j12 : Nat) : Int))), (6, v), (7, (.int .i64 ((l.length : Nat) : Int))), (8, (.bool true)), (9, (.int .i64 ((j12 : Nat) : Int))), (10, (.int .i64 (((j12 : Nat) : Int) + 1))), (11, v), (12, (.int .i64 ((j12 : Nat) : Int))), (13, (.pointer (some ⟨b37, o38, none⟩))), (14, (.pointer (some ⟨b37, o38, none⟩))), (15, (.int .i64 y35.op)), (16, (.bool false))] a75 := hA76.cut _ (fm_cons (hA76.get 0 _ rfl) (fm_cons (hA76.get 3 _ rfl) (fm_cons (hA76.get 4 _ rfl) (fm_cons (hA76.get 5 _ rfl) (fm_cons (hA76.get 6 _ rfl) (fm_cons (hA76.get 7 _ rfl) (fm_cons (hA76.get 8 _ rfl) (fm_cons (hA76.get 9 _ rfl) (fm_cons (hA76.get 10 _ rfl) (fm_cons (hA76.get 11 _ rfl) (fm_cons (hA76.get 12 _ rfl) (fm_cons (hA76.get 13 _ rfl) (fm_cons (hA76.get 14 _ rfl) (fm_cons (hA76.get 15 _ rfl) (fm_cons (hA76.get 16 _ rfl) fm_nil)))))))))))))))
      refine t_norm ?_
      exact ⟨l.length - (j12 + 1), (by rw [hm18]; omega), j12 + 1, rfl, (by omega), hA77.cut _ (fm_cons (hA77.get 0 _ rfl) (fm_cons ((hA77.get 3 _ rfl).trans (congrArg (Value.int .i64) (by have h1 := count_at (fun i : Ins => i.op == 9) hy36; have h2 := countP_drop_le (fun i : Ins => i.op == 9) l j12; simp [hb48] at h1; omega))) (fm_cons ((hA77.get 4 _ rfl).trans (congrArg (Value.int .i64) (by omega))) fm_nil))), b17⟩
  · skip
    have hq78 := of_decide_eq_false hb26
    refine q_step hA25 rfl (d_bin (wn rfl) (hA25.ev (v := (.int .i64 ((j12 : Nat) : Int))) rfl) (hA25.ev (v := (.int .i64 ((l.length : Nat) : Int))) rfl) (b_lt _ _ ((j12 : Nat) : Int) ((l.length : Nat) : Int) false _ hb26) ?_)
    intro a79 hA80
    refine q_end ?_
    have hA81 : St 20 [(0, v), (3, (.int .i64 ((l.countP (fun i : Ins => i.op == 9) - (l.drop j12).countP (fun i : Ins => i.op == 9) : Nat) : Int))), (4, (.int .i64 ((j12 : Nat) : Int))), (5, (.int .i64 ((j12 : Nat) : Int))), (6, v), (7, (.int .i64 ((l.length : Nat) : Int))), (8, (.bool false))] a79 := hA80.cut _ (fm_cons (hA80.get 0 _ rfl) (fm_cons (hA80.get 3 _ rfl) (fm_cons (hA80.get 4 _ rfl) (fm_cons (hA80.get 5 _ rfl) (fm_cons (hA80.get 6 _ rfl) (fm_cons (hA80.get 7 _ rfl) (fm_cons (hA80.get 8 _ rfl) fm_nil)))))))
    refine t_norm ?_
    refine c_false hA81 rfl ?_
    refine wp_exit ?_
    refine t_exit ?_
    refine t_exit ?_
    refine i_here ?_
    refine t_norm ?_
    refine wp_seq ?_
    refine wp_region_lit ?_
    refine q_step hA81 rfl (d_move (wn rfl) (hA81.ev (v := (.int .i64 ((l.countP (fun i : Ins => i.op == 9) - (l.drop j12).countP (fun i : Ins => i.op == 9) : Nat) : Int))) rfl) ?_)
    intro a82 hA83
    refine q_step hA83 rfl (d_assign (wn rfl) (hA83.ev (v := (.int .i64 ((l.countP (fun i : Ins => i.op == 9) - (l.drop j12).countP (fun i : Ins => i.op == 9) : Nat) : Int))) rfl) ?_)
    intro a84 hA85
    refine q_end ?_
    have hA86 : St 20 [(2, (.int .i64 ((l.countP (fun i : Ins => i.op == 9) - (l.drop j12).countP (fun i : Ins => i.op == 9) : Nat) : Int)))] a84 := hA85.cut _ (fm_cons (hA85.get 2 _ rfl) fm_nil)
    refine t_norm ?_
    refine wp_ret ?_
    refine ret1 rfl hA86 (v := (.int .i64 ((l.countP (fun i : Ins => i.op == 9) - (l.drop j12).countP (fun i : Ins => i.op == 9) : Nat) : Int))) rfl ?_
    exact ⟨ret_int (by have := drop_end (l := l) (j := j12) (by omega); simp [this, opsN, brN]), b17⟩
end Go.Proofs.Ytlhompedcphnnaa
