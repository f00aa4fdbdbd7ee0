/- How many operations and branches a code has. -/
import Derived.Test.YtlhompedcphnnaaUirChecksP2
namespace Go.Proofs.Ytlhompedcphnnaa
open Go.RowKit
set_option linter.unusedSimpArgs false
set_option linter.unusedVariables false
set_option maxHeartbeats 4000000 in
set_option maxRecDepth 4000 in
theorem ops_any (l : List Ins) (v : Value) (w : World) (hs : Sl insE 17 w.heap.size w v l) (hl : l.length ≤ 1000000) : Calls Try.prog 22 #[v] w fun e w' => e = .returned (.int .i64 (opsN l : Nat)) ∧ Grow w w' := by
 have b0 : Below w.heap.size w w := Below.refl _ _
 refine enter (n := 5) Try.func22 rfl rfl (Nat.le_of_ble_eq_true rfl) ?_
 intro a1 hA2
 refine wp_seq ?_
 refine wp_region_lit ?_
 refine q_step hA2 rfl (d_assign (wn rfl) (hA2.ev rfl) ?_)
 intro a3 hA4
 refine q_end ?_
 have hA5 : St 5 [(0, v), (2, (.int .i64 0))] a3 := hA4.cut _ (fm_cons (hA4.get 0 _ rfl) (fm_cons (hA4.get 2 _ rfl) fm_nil))
 refine t_norm ?_
 refine wp_seq ?_
 refine wp_region_lit ?_
 refine q_step hA5 rfl (d_move (wn rfl) (hA5.ev rfl) ?_)
 intro a6 hA7
 refine q_step hA7 rfl (d_call (wn rfl) ent34 (map2 (hA7.ev rfl) (hA7.ev rfl)) (count_any 35 opB l v w ent35 isOp_any ((hs.below b0).mono b0.size) (by omega)) ?_)
 rintro e11 w8 ⟨he10, hG9⟩
 have b12 := below_grow b0 hG9 b0.size
 refine ⟨(.int .i64 ((l.countP opB : Nat) : Int)), he10, ?_⟩
 intro a13 hA14
 refine q_step hA14 rfl (d_assign (wn rfl) (hA14.ev rfl) ?_)
 intro a15 hA16
 refine q_end ?_
 have hA17 : St 5 [(2, (.int .i64 ((l.countP opB : Nat) : Int)))] a15 := hA16.cut _ (fm_cons (hA16.get 2 _ rfl) fm_nil)
 refine t_norm ?_
 refine wp_ret ?_
 refine ret1 rfl hA17 (v := (.int .i64 ((l.countP opB : Nat) : Int))) rfl ?_
 exact ⟨rfl, b12⟩
set_option maxHeartbeats 4000000 in
set_option maxRecDepth 4000 in
theorem branches_any (l : List Ins) (v : Value) (w : World) (hs : Sl insE 17 w.heap.size w v l) (hl : l.length ≤ 1000000) : Calls Try.prog 24 #[v] w fun e w' => e = .returned (.int .i64 (brN l : Nat)) ∧ Grow w w' := by
 have b0 : Below w.heap.size w w := Below.refl _ _
 refine enter (n := 5) Try.func24 rfl rfl (Nat.le_of_ble_eq_true rfl) ?_
 intro a1 hA2
 refine wp_seq ?_
 refine wp_region_lit ?_
 refine q_step hA2 rfl (d_assign (wn rfl) (hA2.ev rfl) ?_)
 intro a3 hA4
 refine q_end ?_
 have hA5 : St 5 [(0, v), (2, (.int .i64 0))] a3 := hA4.cut _ (fm_cons (hA4.get 0 _ rfl) (fm_cons (hA4.get 2 _ rfl) fm_nil))
 refine t_norm ?_
 refine wp_seq ?_
 refine wp_region_lit ?_
 refine q_step hA5 rfl (d_move (wn rfl) (hA5.ev rfl) ?_)
 intro a6 hA7
 refine q_step hA7 rfl (d_call (wn rfl) ent34 (map2 (hA7.ev rfl) (hA7.ev rfl)) (count_any 30 (fun i => i.op == 9) l v w ent30 isBranch_any ((hs.below b0).mono b0.size) (by omega)) ?_)
 rintro e11 w8 ⟨he10, hG9⟩
 have b12 := below_grow b0 hG9 b0.size
 refine ⟨(.int .i64 ((l.countP (fun i => i.op == 9) : Nat) : Int)), he10, ?_⟩
 intro a13 hA14
 refine q_step hA14 rfl (d_assign (wn rfl) (hA14.ev rfl) ?_)
 intro a15 hA16
 refine q_end ?_
 have hA17 : St 5 [(2, (.int .i64 ((l.countP (fun i => i.op == 9) : Nat) : Int)))] a15 := hA16.cut _ (fm_cons (hA16.get 2 _ rfl) fm_nil)
 refine t_norm ?_
 refine wp_ret ?_
 refine ret1 rfl hA17 (v := (.int .i64 ((l.countP (fun i => i.op == 9) : Nat) : Int))) rfl ?_
 exact ⟨rfl, b12⟩
set_option maxHeartbeats 4000000 in
set_option maxRecDepth 4000 in
theorem rops_any (l : List Ins) (v : Value) (w : World) (hs : Sl insE 17 w.heap.size w v l) (hl : l.length ≤ 1000000) : Calls Try.prog 23 #[v] w fun e w' => e = .returned (.int .i64 (opsN l : Nat)) ∧ Grow w w' := by
 have b0 : Below w.heap.size w w := Below.refl _ _
 refine enter (n := 19) Try.func23 rfl rfl (Nat.le_of_ble_eq_true rfl) ?_
 intro a1 hA2
 refine wp_seq ?_
 refine wp_region_lit ?_
 refine q_step hA2 rfl (d_assign (wn rfl) (hA2.ev rfl) ?_)
 intro a3 hA4
 refine q_end ?_
 have hA5 : St 19 [(0, v), (2, (.int .i64 0))] a3 := hA4.cut _ (fm_cons (hA4.get 0 _ rfl) (fm_cons (hA4.get 2 _ rfl) fm_nil))
 refine t_norm ?_
 refine wp_seq ?_
 refine wp_region_lit ?_
 refine q_step hA5 rfl (d_assign (wn rfl) (hA5.ev rfl) ?_)
 intro a6 hA7
 refine q_end ?_
 have hA8 : St 19 [(0, v), (2, (.int .i64 0)), (3, (.int .i64 0))] a6 := hA7.cut _ (fm_cons (hA7.get 0 _ rfl) (fm_cons (hA7.get 2 _ rfl) (fm_cons (hA7.get 3 _ rfl) fm_nil)))
 refine t_norm ?_
 refine wp_seq ?_
 refine wp_seq ?_
 refine wp_region_lit ?_
 refine q_step hA8 rfl (d_assign (wn rfl) (hA8.ev rfl) ?_)
 intro a9 hA10
 refine q_end ?_
 have hA11 : St 19 [(0, v), (2, (.int .i64 0)), (3, (.int .i64 0)), (4, (.int .i64 0))] a9 := hA10.cut _ (fm_cons (hA10.get 0 _ rfl) (fm_cons (hA10.get 2 _ rfl) (fm_cons (hA10.get 3 _ rfl) (fm_cons (hA10.get 4 _ rfl) fm_nil))))
 refine t_norm ?_
 refine wp_block ?_
 refine loop_by (fun m13 a14 w15 => ∃ j12 : Nat, m13 = l.length - j12 ∧ (j12 ≤ l.length) ∧ St 19 [(0, v), (3, (.int .i64 ((l.countP opB - (l.drop j12).countP opB : Nat) : Int))), (4, (.int .i64 ((j12 : Nat) : Int)))] a14 ∧ Below w.heap.size w w15) (l.length - 0) ⟨0, rfl, (by omega), hA11.cut _ (fm_cons (hA11.get 0 _ rfl) (fm_cons ((hA11.get 3 _ rfl).trans (congrArg (Value.int .i64) (by simp))) (fm_cons ((hA11.get 4 _ rfl).trans (congrArg (Value.int .i64) (by simp))) fm_nil))), b0⟩ ?_
 rintro m13 a14 w15 ⟨j12, hm18, hc19, hA16, b17⟩
 have hk1 := cnt_le opB l j12
 have hk2 := countP_drop_le opB l j12
 have hk3 := List.countP_le_length (p := opB) (l := l)
 refine wp_seq ?_
 refine wp_seq ?_
 refine wp_region_lit ?_
 refine q_step hA16 rfl (d_move (wn rfl) (hA16.ev rfl) ?_)
 intro a20 hA21
 refine q_step hA21 rfl (d_move (wn rfl) (hA21.ev rfl) ?_)
 intro a22 hA23
 refine q_step hA23 rfl (d_len (n := l.length) (wn rfl) (hA23.ev rfl) slc35 hs.form ?_)
 intro a24 hA25
 rcases Bool.eq_false_or_eq_true (decide (((j12 : Nat) : Int) < ((l.length : Nat) : Int))) with hb26 | hb26
 ·skip
  have hq27 := of_decide_eq_true hb26
  refine q_step hA25 rfl (d_bin (wn rfl) (hA25.ev rfl) (hA25.ev rfl) (b_lt _ _ ((j12 : Nat) : Int) ((l.length : Nat) : Int) true _ hb26) ?_)
  intro a28 hA29
  refine q_end ?_
  have hA30 : St 19 [(0, v), (3, (.int .i64 ((l.countP opB - (l.drop j12).countP opB : Nat) : Int))), (4, (.int .i64 ((j12 : Nat) : Int))), (8, (.bool true))] a28 := hA29.cut _ (fm_cons (hA29.get 0 _ rfl) (fm_cons (hA29.get 3 _ rfl) (fm_cons (hA29.get 4 _ rfl) (fm_cons (hA29.get 8 _ rfl) fm_nil))))
  refine t_norm ?_
  refine c_true hA30 rfl ?_
  refine wp_skip ?_
  refine t_norm ?_
  refine wp_seq ?_
  refine wp_block ?_
  refine wp_seq ?_
  refine wp_region_lit ?_
  refine q_step hA30 rfl (d_move (wn rfl) (hA30.ev rfl) ?_)
  intro a31 hA32
  refine q_step hA32 rfl (d_move (wn rfl) (hA32.ev rfl) ?_)
  intro a33 hA34
  obtain ⟨y35, hy36⟩ : ∃ y35, l[j12]? = some y35 := ⟨_, List.getElem?_eq_getElem (show j12 < l.length by omega)⟩
  obtain ⟨b37, o38, lt39, hr40, hix41⟩ := (hs.below b17).at hy36
  refine q_step hA34 rfl (d_indexAt (j := j12) (wn rfl) (hA34.ev rfl) (hA34.ev rfl) slc35 hix41 (get_lt hy36) ?_)
  intro a42 hA43
  refine q_step hA43 rfl (d_loadMid (cs := (insC y35)) (wn rfl) (hA43.ev rfl) row23 hr40 ?_)
  intro a44 hA45
  refine q_step hA45 rfl (d_call (wn rfl) ent32 (map1 (hA45.ev rfl)) (memory_any y35 w15) ?_)
  rintro e49 w46 ⟨he48, hG47⟩
  have hr50 := range_below hr40 hG47 (Nat.lt_of_lt_of_le lt39 b17.size)
  have b51 := below_grow b17 hG47 b17.size
  rcases Bool.eq_false_or_eq_true (opB y35) with hb52 | hb52
  ·skip
   refine ⟨.bool true, he48.trans (ret_bool hb52), ?_⟩
   intro a54 hA55
   refine q_end ?_
   have hA56 : St 19 [(0, v), (3, (.int .i64 ((l.countP opB - (l.drop j12).countP opB : Nat) : Int))), (4, (.int .i64 ((j12 : Nat) : Int))), (15, (.bool true))] a54 := hA55.cut _ (fm_cons (hA55.get 0 _ rfl) (fm_cons (hA55.get 3 _ rfl) (fm_cons (hA55.get 4 _ rfl) (fm_cons (hA55.get 15 _ rfl) fm_nil))))
   refine t_norm ?_
   refine c_true hA56 rfl ?_
   refine wp_region_lit ?_
   refine q_step hA56 rfl (d_move (wn rfl) (hA56.ev rfl) ?_)
   intro a57 hA58
   refine q_step hA58 rfl (d_bin (wn rfl) (hA58.ev rfl) (hA58.ev rfl) (b_add _ _ ((l.countP opB - (l.drop j12).countP opB : Nat) : Int) 1 _ (by omega) (by omega)) ?_)
   intro a59 hA60
   refine q_step hA60 rfl (d_assign (wn rfl) (hA60.ev rfl) ?_)
   intro a61 hA62
   refine q_end ?_
   have hA63 : St 19 [(0, v), (3, (.int .i64 (((l.countP opB - (l.drop j12).countP opB : Nat) : Int) + 1))), (4, (.int .i64 ((j12 : Nat) : Int)))] a61 := hA62.cut _ (fm_cons (hA62.get 0 _ rfl) (fm_cons (hA62.get 3 _ rfl) (fm_cons (hA62.get 4 _ rfl) fm_nil)))
   refine i_norm ?_
   refine t_norm ?_
   refine wp_region_lit ?_
   refine q_step hA63 rfl (d_move (wn rfl) (hA63.ev rfl) ?_)
   intro a64 hA65
   refine q_step hA65 rfl (d_bin (wn rfl) (hA65.ev rfl) (hA65.ev rfl) (b_add _ _ ((j12 : Nat) : Int) 1 _ (by omega) (by omega)) ?_)
   intro a66 hA67
   refine q_step hA67 rfl (d_assign (wn rfl) (hA67.ev rfl) ?_)
   intro a68 hA69
   refine q_end ?_
   have hA70 : St 19 [(0, v), (3, (.int .i64 (((l.countP opB - (l.drop j12).countP opB : Nat) : Int) + 1))), (4, (.int .i64 (((j12 : Nat) : Int) + 1)))] a68 := hA69.cut _ (fm_cons (hA69.get 0 _ rfl) (fm_cons (hA69.get 3 _ rfl) (fm_cons (hA69.get 4 _ rfl) fm_nil)))
   refine t_norm ?_
   exact ⟨l.length - (j12 + 1), (by rw [hm18]; omega), j12 + 1, rfl, (by omega), hA70.cut _ (fm_cons (hA70.get 0 _ rfl) (fm_cons ((hA70.get 3 _ rfl).trans (congrArg (Value.int .i64) (by have h1 := count_at opB hy36; have h2 := countP_drop_le opB l j12; simp [hb52] at h1; omega))) (fm_cons ((hA70.get 4 _ rfl).trans (congrArg (Value.int .i64) (by omega))) fm_nil))), b51⟩
  ·skip
   refine ⟨.bool false, he48.trans (ret_bool hb52), ?_⟩
   intro a72 hA73
   refine q_end ?_
   have hA74 : St 19 [(0, v), (3, (.int .i64 ((l.countP opB - (l.drop j12).countP opB : Nat) : Int))), (4, (.int .i64 ((j12 : Nat) : Int))), (15, (.bool false))] a72 := hA73.cut _ (fm_cons (hA73.get 0 _ rfl) (fm_cons (hA73.get 3 _ rfl) (fm_cons (hA73.get 4 _ rfl) (fm_cons (hA73.get 15 _ rfl) fm_nil))))
   refine t_norm ?_
   refine c_false hA74 rfl ?_
   refine wp_skip ?_
   refine i_norm ?_
   refine t_norm ?_
   refine wp_region_lit ?_
   refine q_step hA74 rfl (d_move (wn rfl) (hA74.ev rfl) ?_)
   intro a75 hA76
   refine q_step hA76 rfl (d_bin (wn rfl) (hA76.ev rfl) (hA76.ev rfl) (b_add _ _ ((j12 : Nat) : Int) 1 _ (by omega) (by omega)) ?_)
   intro a77 hA78
   refine q_step hA78 rfl (d_assign (wn rfl) (hA78.ev rfl) ?_)
   intro a79 hA80
   refine q_end ?_
   have hA81 : St 19 [(0, v), (3, (.int .i64 ((l.countP opB - (l.drop j12).countP opB : Nat) : Int))), (4, (.int .i64 (((j12 : Nat) : Int) + 1)))] a79 := hA80.cut _ (fm_cons (hA80.get 0 _ rfl) (fm_cons (hA80.get 3 _ rfl) (fm_cons (hA80.get 4 _ rfl) fm_nil)))
   refine t_norm ?_
   exact ⟨l.length - (j12 + 1), (by rw [hm18]; omega), j12 + 1, rfl, (by omega), hA81.cut _ (fm_cons (hA81.get 0 _ rfl) (fm_cons ((hA81.get 3 _ rfl).trans (congrArg (Value.int .i64) (by have h1 := count_at opB hy36; have h2 := countP_drop_le opB l j12; simp [hb52] at h1; omega))) (fm_cons ((hA81.get 4 _ rfl).trans (congrArg (Value.int .i64) (by omega))) fm_nil))), b51⟩
 ·skip
  have hq82 := of_decide_eq_false hb26
  refine q_step hA25 rfl (d_bin (wn rfl) (hA25.ev rfl) (hA25.ev rfl) (b_lt _ _ ((j12 : Nat) : Int) ((l.length : Nat) : Int) false _ hb26) ?_)
  intro a83 hA84
  refine q_end ?_
  have hA85 : St 19 [(0, v), (3, (.int .i64 ((l.countP opB - (l.drop j12).countP opB : Nat) : Int))), (4, (.int .i64 ((j12 : Nat) : Int))), (8, (.bool false))] a83 := hA84.cut _ (fm_cons (hA84.get 0 _ rfl) (fm_cons (hA84.get 3 _ rfl) (fm_cons (hA84.get 4 _ rfl) (fm_cons (hA84.get 8 _ rfl) fm_nil))))
  refine t_norm ?_
  refine c_false hA85 rfl ?_
  refine wp_exit ?_
  refine t_exit ?_
  refine t_exit ?_
  refine i_here ?_
  refine t_norm ?_
  refine wp_seq ?_
  refine wp_region_lit ?_
  refine q_step hA85 rfl (d_move (wn rfl) (hA85.ev rfl) ?_)
  intro a86 hA87
  refine q_step hA87 rfl (d_assign (wn rfl) (hA87.ev rfl) ?_)
  intro a88 hA89
  refine q_end ?_
  have hA90 : St 19 [(2, (.int .i64 ((l.countP opB - (l.drop j12).countP opB : Nat) : Int)))] a88 := hA89.cut _ (fm_cons (hA89.get 2 _ rfl) fm_nil)
  refine t_norm ?_
  refine wp_ret ?_
  refine ret1 rfl hA90 (v := (.int .i64 ((l.countP opB - (l.drop j12).countP opB : Nat) : Int))) rfl ?_
  exact ⟨ret_int (by have := drop_end (l := l) (j := j12) (by omega); simp [this, opsN, brN]), b17⟩
set_option maxHeartbeats 4000000 in
set_option maxRecDepth 4000 in
theorem rbranches_any (l : List Ins) (v : Value) (w : World) (hs : Sl insE 17 w.heap.size w v l) (hl : l.length ≤ 1000000) : Calls Try.prog 25 #[v] w fun e w' => e = .returned (.int .i64 (brN l : Nat)) ∧ Grow w w' := by
 have b0 : Below w.heap.size w w := Below.refl _ _
 refine enter (n := 20) Try.func25 rfl rfl (Nat.le_of_ble_eq_true rfl) ?_
 intro a1 hA2
 refine wp_seq ?_
 refine wp_region_lit ?_
 refine q_step hA2 rfl (d_assign (wn rfl) (hA2.ev rfl) ?_)
 intro a3 hA4
 refine q_end ?_
 have hA5 : St 20 [(0, v), (2, (.int .i64 0))] a3 := hA4.cut _ (fm_cons (hA4.get 0 _ rfl) (fm_cons (hA4.get 2 _ rfl) fm_nil))
 refine t_norm ?_
 refine wp_seq ?_
 refine wp_region_lit ?_
 refine q_step hA5 rfl (d_assign (wn rfl) (hA5.ev rfl) ?_)
 intro a6 hA7
 refine q_end ?_
 have hA8 : St 20 [(0, v), (2, (.int .i64 0)), (3, (.int .i64 0))] a6 := hA7.cut _ (fm_cons (hA7.get 0 _ rfl) (fm_cons (hA7.get 2 _ rfl) (fm_cons (hA7.get 3 _ rfl) fm_nil)))
 refine t_norm ?_
 refine wp_seq ?_
 refine wp_seq ?_
 refine wp_region_lit ?_
 refine q_step hA8 rfl (d_assign (wn rfl) (hA8.ev rfl) ?_)
 intro a9 hA10
 refine q_end ?_
 have hA11 : St 20 [(0, v), (2, (.int .i64 0)), (3, (.int .i64 0)), (4, (.int .i64 0))] a9 := hA10.cut _ (fm_cons (hA10.get 0 _ rfl) (fm_cons (hA10.get 2 _ rfl) (fm_cons (hA10.get 3 _ rfl) (fm_cons (hA10.get 4 _ rfl) fm_nil))))
 refine t_norm ?_
 refine wp_block ?_
 refine loop_by (fun m13 a14 w15 => ∃ j12 : Nat, m13 = l.length - j12 ∧ (j12 ≤ l.length) ∧ St 20 [(0, v), (3, (.int .i64 ((l.countP (fun i : Ins => i.op == 9) - (l.drop j12).countP (fun i : Ins => i.op == 9) : Nat) : Int))), (4, (.int .i64 ((j12 : Nat) : Int)))] a14 ∧ Below w.heap.size w w15) (l.length - 0) ⟨0, rfl, (by omega), hA11.cut _ (fm_cons (hA11.get 0 _ rfl) (fm_cons ((hA11.get 3 _ rfl).trans (congrArg (Value.int .i64) (by simp))) (fm_cons ((hA11.get 4 _ rfl).trans (congrArg (Value.int .i64) (by simp))) fm_nil))), b0⟩ ?_
 rintro m13 a14 w15 ⟨j12, hm18, hc19, hA16, b17⟩
 have hk1 := cnt_le (fun i : Ins => i.op == 9) l j12
 have hk2 := countP_drop_le (fun i : Ins => i.op == 9) l j12
 have hk3 := List.countP_le_length (p := (fun i : Ins => i.op == 9)) (l := l)
 refine wp_seq ?_
 refine wp_seq ?_
 refine wp_region_lit ?_
 refine q_step hA16 rfl (d_move (wn rfl) (hA16.ev rfl) ?_)
 intro a20 hA21
 refine q_step hA21 rfl (d_move (wn rfl) (hA21.ev rfl) ?_)
 intro a22 hA23
 refine q_step hA23 rfl (d_len (n := l.length) (wn rfl) (hA23.ev rfl) slc35 hs.form ?_)
 intro a24 hA25
 rcases Bool.eq_false_or_eq_true (decide (((j12 : Nat) : Int) < ((l.length : Nat) : Int))) with hb26 | hb26
 ·skip
  have hq27 := of_decide_eq_true hb26
  refine q_step hA25 rfl (d_bin (wn rfl) (hA25.ev rfl) (hA25.ev rfl) (b_lt _ _ ((j12 : Nat) : Int) ((l.length : Nat) : Int) true _ hb26) ?_)
  intro a28 hA29
  refine q_end ?_
  have hA30 : St 20 [(0, v), (3, (.int .i64 ((l.countP (fun i : Ins => i.op == 9) - (l.drop j12).countP (fun i : Ins => i.op == 9) : Nat) : Int))), (4, (.int .i64 ((j12 : Nat) : Int))), (8, (.bool true))] a28 := hA29.cut _ (fm_cons (hA29.get 0 _ rfl) (fm_cons (hA29.get 3 _ rfl) (fm_cons (hA29.get 4 _ rfl) (fm_cons (hA29.get 8 _ rfl) fm_nil))))
  refine t_norm ?_
  refine c_true hA30 rfl ?_
  refine wp_skip ?_
  refine t_norm ?_
  refine wp_seq ?_
  refine wp_block ?_
  refine wp_seq ?_
  refine wp_region_lit ?_
  refine q_step hA30 rfl (d_move (wn rfl) (hA30.ev rfl) ?_)
  intro a31 hA32
  refine q_step hA32 rfl (d_move (wn rfl) (hA32.ev rfl) ?_)
  intro a33 hA34
  obtain ⟨y35, hy36⟩ : ∃ y35, l[j12]? = some y35 := ⟨_, List.getElem?_eq_getElem (show j12 < l.length by omega)⟩
  obtain ⟨b37, o38, lt39, hr40, hix41⟩ := (hs.below b17).at hy36
  refine q_step hA34 rfl (d_indexAt (j := j12) (wn rfl) (hA34.ev rfl) (hA34.ev rfl) slc35 hix41 (get_lt hy36) ?_)
  intro a42 hA43
  refine q_step hA43 rfl (d_fieldAddr (wn rfl) (hA43.ev rfl) fo23_0 ?_)
  intro a44 hA45
  refine q_step hA45 rfl (d_load (v := (.int .i64 y35.op)) (wn rfl) (hA45.ev rfl) one3 (hr40 0 _ rfl) ?_)
  intro a46 hA47
  rcases Bool.eq_false_or_eq_true (y35.op == 9) with hb48 | hb48
  ·skip
   have hq49 := eq_of_beq hb48
   refine q_step hA47 rfl (d_bin (wn rfl) (hA47.ev rfl) (hA47.ev rfl) (b_eq _ _ y35.op 9 true _ hb48) ?_)
   intro a50 hA51
   refine q_end ?_
   have hA52 : St 20 [(0, v), (3, (.int .i64 ((l.countP (fun i : Ins => i.op == 9) - (l.drop j12).countP (fun i : Ins => i.op == 9) : Nat) : Int))), (4, (.int .i64 ((j12 : Nat) : Int))), (16, (.bool true))] a50 := hA51.cut _ (fm_cons (hA51.get 0 _ rfl) (fm_cons (hA51.get 3 _ rfl) (fm_cons (hA51.get 4 _ rfl) (fm_cons (hA51.get 16 _ rfl) fm_nil))))
   refine t_norm ?_
   refine c_true hA52 rfl ?_
   refine wp_region_lit ?_
   refine q_step hA52 rfl (d_move (wn rfl) (hA52.ev rfl) ?_)
   intro a53 hA54
   refine q_step hA54 rfl (d_bin (wn rfl) (hA54.ev rfl) (hA54.ev rfl) (b_add _ _ ((l.countP (fun i : Ins => i.op == 9) - (l.drop j12).countP (fun i : Ins => i.op == 9) : Nat) : Int) 1 _ (by omega) (by omega)) ?_)
   intro a55 hA56
   refine q_step hA56 rfl (d_assign (wn rfl) (hA56.ev rfl) ?_)
   intro a57 hA58
   refine q_end ?_
   have hA59 : St 20 [(0, v), (3, (.int .i64 (((l.countP (fun i : Ins => i.op == 9) - (l.drop j12).countP (fun i : Ins => i.op == 9) : Nat) : Int) + 1))), (4, (.int .i64 ((j12 : Nat) : Int)))] a57 := hA58.cut _ (fm_cons (hA58.get 0 _ rfl) (fm_cons (hA58.get 3 _ rfl) (fm_cons (hA58.get 4 _ rfl) fm_nil)))
   refine i_norm ?_
   refine t_norm ?_
   refine wp_region_lit ?_
   refine q_step hA59 rfl (d_move (wn rfl) (hA59.ev rfl) ?_)
   intro a60 hA61
   refine q_step hA61 rfl (d_bin (wn rfl) (hA61.ev rfl) (hA61.ev rfl) (b_add _ _ ((j12 : Nat) : Int) 1 _ (by omega) (by omega)) ?_)
   intro a62 hA63
   refine q_step hA63 rfl (d_assign (wn rfl) (hA63.ev rfl) ?_)
   intro a64 hA65
   refine q_end ?_
   have hA66 : St 20 [(0, v), (3, (.int .i64 (((l.countP (fun i : Ins => i.op == 9) - (l.drop j12).countP (fun i : Ins => i.op == 9) : Nat) : Int) + 1))), (4, (.int .i64 (((j12 : Nat) : Int) + 1)))] a64 := hA65.cut _ (fm_cons (hA65.get 0 _ rfl) (fm_cons (hA65.get 3 _ rfl) (fm_cons (hA65.get 4 _ rfl) fm_nil)))
   refine t_norm ?_
   exact ⟨l.length - (j12 + 1), (by rw [hm18]; omega), j12 + 1, rfl, (by omega), hA66.cut _ (fm_cons (hA66.get 0 _ rfl) (fm_cons ((hA66.get 3 _ rfl).trans (congrArg (Value.int .i64) (by have h1 := count_at (fun i : Ins => i.op == 9) hy36; have h2 := countP_drop_le (fun i : Ins => i.op == 9) l j12; simp [hb48] at h1; omega))) (fm_cons ((hA66.get 4 _ rfl).trans (congrArg (Value.int .i64) (by omega))) fm_nil))), b17⟩
  ·skip
   have hq67 := ne_of_beq hb48
   refine q_step hA47 rfl (d_bin (wn rfl) (hA47.ev rfl) (hA47.ev rfl) (b_eq _ _ y35.op 9 false _ hb48) ?_)
   intro a68 hA69
   refine q_end ?_
   have hA70 : St 20 [(0, v), (3, (.int .i64 ((l.countP (fun i : Ins => i.op == 9) - (l.drop j12).countP (fun i : Ins => i.op == 9) : Nat) : Int))), (4, (.int .i64 ((j12 : Nat) : Int))), (16, (.bool false))] a68 := hA69.cut _ (fm_cons (hA69.get 0 _ rfl) (fm_cons (hA69.get 3 _ rfl) (fm_cons (hA69.get 4 _ rfl) (fm_cons (hA69.get 16 _ rfl) fm_nil))))
   refine t_norm ?_
   refine c_false hA70 rfl ?_
   refine wp_skip ?_
   refine i_norm ?_
   refine t_norm ?_
   refine wp_region_lit ?_
   refine q_step hA70 rfl (d_move (wn rfl) (hA70.ev rfl) ?_)
   intro a71 hA72
   refine q_step hA72 rfl (d_bin (wn rfl) (hA72.ev rfl) (hA72.ev rfl) (b_add _ _ ((j12 : Nat) : Int) 1 _ (by omega) (by omega)) ?_)
   intro a73 hA74
   refine q_step hA74 rfl (d_assign (wn rfl) (hA74.ev rfl) ?_)
   intro a75 hA76
   refine q_end ?_
   have hA77 : St 20 [(0, v), (3, (.int .i64 ((l.countP (fun i : Ins => i.op == 9) - (l.drop j12).countP (fun i : Ins => i.op == 9) : Nat) : Int))), (4, (.int .i64 (((j12 : Nat) : Int) + 1)))] a75 := hA76.cut _ (fm_cons (hA76.get 0 _ rfl) (fm_cons (hA76.get 3 _ rfl) (fm_cons (hA76.get 4 _ rfl) fm_nil)))
   refine t_norm ?_
   exact ⟨l.length - (j12 + 1), (by rw [hm18]; omega), j12 + 1, rfl, (by omega), hA77.cut _ (fm_cons (hA77.get 0 _ rfl) (fm_cons ((hA77.get 3 _ rfl).trans (congrArg (Value.int .i64) (by have h1 := count_at (fun i : Ins => i.op == 9) hy36; have h2 := countP_drop_le (fun i : Ins => i.op == 9) l j12; simp [hb48] at h1; omega))) (fm_cons ((hA77.get 4 _ rfl).trans (congrArg (Value.int .i64) (by omega))) fm_nil))), b17⟩
 ·skip
  have hq78 := of_decide_eq_false hb26
  refine q_step hA25 rfl (d_bin (wn rfl) (hA25.ev rfl) (hA25.ev rfl) (b_lt _ _ ((j12 : Nat) : Int) ((l.length : Nat) : Int) false _ hb26) ?_)
  intro a79 hA80
  refine q_end ?_
  have hA81 : St 20 [(0, v), (3, (.int .i64 ((l.countP (fun i : Ins => i.op == 9) - (l.drop j12).countP (fun i : Ins => i.op == 9) : Nat) : Int))), (4, (.int .i64 ((j12 : Nat) : Int))), (8, (.bool false))] a79 := hA80.cut _ (fm_cons (hA80.get 0 _ rfl) (fm_cons (hA80.get 3 _ rfl) (fm_cons (hA80.get 4 _ rfl) (fm_cons (hA80.get 8 _ rfl) fm_nil))))
  refine t_norm ?_
  refine c_false hA81 rfl ?_
  refine wp_exit ?_
  refine t_exit ?_
  refine t_exit ?_
  refine i_here ?_
  refine t_norm ?_
  refine wp_seq ?_
  refine wp_region_lit ?_
  refine q_step hA81 rfl (d_move (wn rfl) (hA81.ev rfl) ?_)
  intro a82 hA83
  refine q_step hA83 rfl (d_assign (wn rfl) (hA83.ev rfl) ?_)
  intro a84 hA85
  refine q_end ?_
  have hA86 : St 20 [(2, (.int .i64 ((l.countP (fun i : Ins => i.op == 9) - (l.drop j12).countP (fun i : Ins => i.op == 9) : Nat) : Int)))] a84 := hA85.cut _ (fm_cons (hA85.get 2 _ rfl) fm_nil)
  refine t_norm ?_
  refine wp_ret ?_
  refine ret1 rfl hA86 (v := (.int .i64 ((l.countP (fun i : Ins => i.op == 9) - (l.drop j12).countP (fun i : Ins => i.op == 9) : Nat) : Int))) rfl ?_
  exact ⟨ret_int (by have := drop_end (l := l) (j := j12) (by omega); simp [this, opsN, brN]), b17⟩
end Go.Proofs.Ytlhompedcphnnaa
/- What all codes together may have only so many of. -/
namespace Go.Proofs.Ytlhompedcphnnaa
open Go.RowKit
set_option linter.unusedSimpArgs false
set_option linter.unusedVariables false
set_option maxHeartbeats 4000000 in
set_option maxRecDepth 4000 in
theorem checkCounts_any (cs : List (List Ins)) (v : Value) (w : World) (hCs : Cs w.heap.size w v cs) (hn : cs.length ≤ 10000) (ht : totN cs ≤ 1000000) : Calls Try.prog 33 #[v] w fun e w' => e = .returned (.int .i64 (cntsR cs)) ∧ Grow w w' := by
 obtain ⟨us, hus, hul, hin⟩ := id hCs
 have b0 : Below w.heap.size w w := Below.refl _ _
 refine enter (n := 26) Try.func33 rfl rfl (Nat.le_of_ble_eq_true rfl) ?_
 intro a1 hA2
 refine wp_seq ?_
 refine wp_region_lit ?_
 refine q_step hA2 rfl (d_assign (wn rfl) (hA2.ev rfl) ?_)
 intro a3 hA4
 refine q_end ?_
 have hA5 : St 26 [(0, v), (2, (.int .i64 0))] a3 := hA4.cut _ (fm_cons (hA4.get 0 _ rfl) (fm_cons (hA4.get 2 _ rfl) fm_nil))
 refine t_norm ?_
 refine wp_seq ?_
 refine wp_region_lit ?_
 refine q_step hA5 rfl (d_assign (wn rfl) (hA5.ev rfl) ?_)
 intro a6 hA7
 refine q_step hA7 rfl (d_assign (wn rfl) (hA7.ev rfl) ?_)
 intro a8 hA9
 refine q_end ?_
 have hA10 : St 26 [(0, v), (2, (.int .i64 0)), (3, (.int .i64 0)), (4, (.int .i64 0))] a8 := hA9.cut _ (fm_cons (hA9.get 0 _ rfl) (fm_cons (hA9.get 2 _ rfl) (fm_cons (hA9.get 3 _ rfl) (fm_cons (hA9.get 4 _ rfl) fm_nil))))
 refine t_norm ?_
 refine wp_seq ?_
 refine wp_seq ?_
 refine wp_region_lit ?_
 refine q_step hA10 rfl (d_move (wn rfl) (hA10.ev rfl) ?_)
 intro a11 hA12
 refine q_step hA12 rfl (d_len (n := us.length) (wn rfl) (hA12.ev rfl) slc34 hus.form ?_)
 intro a13 hA14
 refine q_step hA14 rfl (d_move (wn rfl) (hA14.ev rfl) ?_)
 intro a15 hA16
 refine q_end ?_
 have hA17 : St 26 [(2, (.int .i64 0)), (3, (.int .i64 0)), (4, (.int .i64 0)), (7, v), (8, (.int .i64 ((us.length : Nat) : Int))), (9, (.int .i64 0))] a15 := hA16.cut _ (fm_cons (hA16.get 2 _ rfl) (fm_cons (hA16.get 3 _ rfl) (fm_cons (hA16.get 4 _ rfl) (fm_cons (hA16.get 7 _ rfl) (fm_cons (hA16.get 8 _ rfl) (fm_cons (hA16.get 9 _ rfl) fm_nil))))))
 refine t_norm ?_
 refine wp_block ?_
 refine loop_by (fun m19 a20 w21 => ∃ j18 : Nat, m19 = cs.length - j18 ∧ (j18 ≤ cs.length) ∧ St 26 [(3, (.int .i64 (((cs.map opsN).sum - ((cs.drop j18).map opsN).sum : Nat) : Int))), (4, (.int .i64 (((cs.map brN).sum - ((cs.drop j18).map brN).sum : Nat) : Int))), (7, v), (8, (.int .i64 ((us.length : Nat) : Int))), (9, (.int .i64 ((j18 : Nat) : Int)))] a20 ∧ Below w.heap.size w w21) (cs.length - 0) ⟨0, rfl, (by omega), hA17.cut _ (fm_cons ((hA17.get 3 _ rfl).trans (congrArg (Value.int .i64) (by simp))) (fm_cons ((hA17.get 4 _ rfl).trans (congrArg (Value.int .i64) (by simp))) (fm_cons (hA17.get 7 _ rfl) (fm_cons (hA17.get 8 _ rfl) (fm_cons ((hA17.get 9 _ rfl).trans (congrArg (Value.int .i64) (by simp))) fm_nil))))), b0⟩ ?_
 rintro m19 a20 w21 ⟨j18, hm24, hc25, hA22, b23⟩
 have hkopsN := drop_sum_le opsN cs j18
 have hmopsN := sum_le opsN ops_le cs
 have hkbrN := drop_sum_le brN cs j18
 have hmbrN := sum_le brN br_le cs
 refine wp_seq ?_
 refine wp_region_lit ?_
 rcases Bool.eq_false_or_eq_true (decide (((j18 : Nat) : Int) < ((us.length : Nat) : Int))) with hb26 | hb26
 ·skip
  have hq27 := of_decide_eq_true hb26
  refine q_step hA22 rfl (d_bin (wn rfl) (hA22.ev rfl) (hA22.ev rfl) (b_lt _ _ ((j18 : Nat) : Int) ((us.length : Nat) : Int) true _ hb26) ?_)
  intro a28 hA29
  refine q_end ?_
  have hA30 : St 26 [(3, (.int .i64 (((cs.map opsN).sum - ((cs.drop j18).map opsN).sum : Nat) : Int))), (4, (.int .i64 (((cs.map brN).sum - ((cs.drop j18).map brN).sum : Nat) : Int))), (7, v), (8, (.int .i64 ((us.length : Nat) : Int))), (9, (.int .i64 ((j18 : Nat) : Int))), (10, (.bool true))] a28 := hA29.cut _ (fm_cons (hA29.get 3 _ rfl) (fm_cons (hA29.get 4 _ rfl) (fm_cons (hA29.get 7 _ rfl) (fm_cons (hA29.get 8 _ rfl) (fm_cons (hA29.get 9 _ rfl) (fm_cons (hA29.get 10 _ rfl) fm_nil))))))
  refine t_norm ?_
  refine wp_seq ?_
  refine c_true hA30 rfl ?_
  refine wp_skip ?_
  refine t_norm ?_
  refine wp_seq ?_
  refine wp_block ?_
  refine wp_seq ?_
  refine wp_region_lit ?_
  obtain ⟨y31, hy32⟩ : ∃ y31, us[j18]? = some y31 := ⟨_, List.getElem?_eq_getElem (show j18 < us.length by omega)⟩
  obtain ⟨b33, o34, lt35, hr36, hix37⟩ := (hus.below b23).at hy32
  obtain ⟨c38, hc39⟩ : ∃ c, cs[j18]? = some c := ⟨_, List.getElem?_eq_getElem (show j18 < cs.length by have := get_lt hy32; omega)⟩
  have hsl40 := hin j18 y31 c38 hy32 hc39
  have hlc38 := len_le hc39
  have hoc38 := ops_le c38
  have hbc38 := br_le c38
  refine q_step hA30 rfl (d_indexAt (j := j18) (wn rfl) (hA30.ev rfl) (hA30.ev rfl) slc34 hix37 (get_lt hy32) ?_)
  intro a41 hA42
  refine q_step hA42 rfl (d_load (v := y31) (wn rfl) (hA42.ev rfl) one35 (hr36 0 _ rfl) ?_)
  intro a43 hA44
  refine q_step hA44 rfl (d_assign (wn rfl) (hA44.ev rfl) ?_)
  intro a45 hA46
  refine q_end ?_
  have hA47 : St 26 [(3, (.int .i64 (((cs.map opsN).sum - ((cs.drop j18).map opsN).sum : Nat) : Int))), (4, (.int .i64 (((cs.map brN).sum - ((cs.drop j18).map brN).sum : Nat) : Int))), (6, y31), (7, v), (8, (.int .i64 ((us.length : Nat) : Int))), (9, (.int .i64 ((j18 : Nat) : Int)))] a45 := hA46.cut _ (fm_cons (hA46.get 3 _ rfl) (fm_cons (hA46.get 4 _ rfl) (fm_cons (hA46.get 6 _ rfl) (fm_cons (hA46.get 7 _ rfl) (fm_cons (hA46.get 8 _ rfl) (fm_cons (hA46.get 9 _ rfl) fm_nil))))))
  refine t_norm ?_
  refine wp_seq ?_
  refine wp_region_lit ?_
  refine q_step hA47 rfl (d_move (wn rfl) (hA47.ev rfl) ?_)
  intro a48 hA49
  refine q_step hA49 rfl (d_move (wn rfl) (hA49.ev rfl) ?_)
  intro a50 hA51
  refine q_step hA51 rfl (d_call (wn rfl) ent22 (map1 (hA51.ev rfl)) (ops_any c38 y31 w21 ((hsl40.below b23).mono b23.size) (by omega)) ?_)
  rintro e55 w52 ⟨he54, hG53⟩
  have b56 := below_grow b23 hG53 b23.size
  refine ⟨(.int .i64 ((opsN c38 : Nat) : Int)), he54, ?_⟩
  intro a57 hA58
  refine q_step hA58 rfl (d_bin (wn rfl) (hA58.ev rfl) (hA58.ev rfl) (b_add _ _ (((cs.map opsN).sum - ((cs.drop j18).map opsN).sum : Nat) : Int) ((opsN c38 : Nat) : Int) _ (by omega) (by omega)) ?_)
  intro a59 hA60
  refine q_step hA60 rfl (d_assign (wn rfl) (hA60.ev rfl) ?_)
  intro a61 hA62
  refine q_end ?_
  have hA63 : St 26 [(3, (.int .i64 ((((cs.map opsN).sum - ((cs.drop j18).map opsN).sum : Nat) : Int) + ((opsN c38 : Nat) : Int)))), (4, (.int .i64 (((cs.map brN).sum - ((cs.drop j18).map brN).sum : Nat) : Int))), (6, y31), (7, v), (8, (.int .i64 ((us.length : Nat) : Int))), (9, (.int .i64 ((j18 : Nat) : Int)))] a61 := hA62.cut _ (fm_cons (hA62.get 3 _ rfl) (fm_cons (hA62.get 4 _ rfl) (fm_cons (hA62.get 6 _ rfl) (fm_cons (hA62.get 7 _ rfl) (fm_cons (hA62.get 8 _ rfl) (fm_cons (hA62.get 9 _ rfl) fm_nil))))))
  refine t_norm ?_
  refine wp_region_lit ?_
  refine q_step hA63 rfl (d_move (wn rfl) (hA63.ev rfl) ?_)
  intro a64 hA65
  refine q_step hA65 rfl (d_move (wn rfl) (hA65.ev rfl) ?_)
  intro a66 hA67
  refine q_step hA67 rfl (d_call (wn rfl) ent24 (map1 (hA67.ev rfl)) (branches_any c38 y31 w52 ((hsl40.below b56).mono b56.size) (by omega)) ?_)
  rintro e71 w68 ⟨he70, hG69⟩
  have b72 := below_grow b56 hG69 b56.size
  refine ⟨(.int .i64 ((brN c38 : Nat) : Int)), he70, ?_⟩
  intro a73 hA74
  refine q_step hA74 rfl (d_bin (wn rfl) (hA74.ev rfl) (hA74.ev rfl) (b_add _ _ (((cs.map brN).sum - ((cs.drop j18).map brN).sum : Nat) : Int) ((brN c38 : Nat) : Int) _ (by omega) (by omega)) ?_)
  intro a75 hA76
  refine q_step hA76 rfl (d_assign (wn rfl) (hA76.ev rfl) ?_)
  intro a77 hA78
  refine q_end ?_
  have hA79 : St 26 [(3, (.int .i64 ((((cs.map opsN).sum - ((cs.drop j18).map opsN).sum : Nat) : Int) + ((opsN c38 : Nat) : Int)))), (4, (.int .i64 ((((cs.map brN).sum - ((cs.drop j18).map brN).sum : Nat) : Int) + ((brN c38 : Nat) : Int)))), (7, v), (8, (.int .i64 ((us.length : Nat) : Int))), (9, (.int .i64 ((j18 : Nat) : Int)))] a77 := hA78.cut _ (fm_cons (hA78.get 3 _ rfl) (fm_cons (hA78.get 4 _ rfl) (fm_cons (hA78.get 7 _ rfl) (fm_cons (hA78.get 8 _ rfl) (fm_cons (hA78.get 9 _ rfl) fm_nil)))))
  refine i_norm ?_
  refine t_norm ?_
  refine wp_region_lit ?_
  refine q_step hA79 rfl (d_bin (wn rfl) (hA79.ev rfl) (hA79.ev rfl) (b_add _ _ ((j18 : Nat) : Int) 1 _ (by omega) (by omega)) ?_)
  intro a80 hA81
  refine q_step hA81 rfl (d_move (wn rfl) (hA81.ev rfl) ?_)
  intro a82 hA83
  refine q_end ?_
  have hA84 : St 26 [(3, (.int .i64 ((((cs.map opsN).sum - ((cs.drop j18).map opsN).sum : Nat) : Int) + ((opsN c38 : Nat) : Int)))), (4, (.int .i64 ((((cs.map brN).sum - ((cs.drop j18).map brN).sum : Nat) : Int) + ((brN c38 : Nat) : Int)))), (7, v), (8, (.int .i64 ((us.length : Nat) : Int))), (9, (.int .i64 (((j18 : Nat) : Int) + 1)))] a82 := hA83.cut _ (fm_cons (hA83.get 3 _ rfl) (fm_cons (hA83.get 4 _ rfl) (fm_cons (hA83.get 7 _ rfl) (fm_cons (hA83.get 8 _ rfl) (fm_cons (hA83.get 9 _ rfl) fm_nil)))))
  refine t_norm ?_
  exact ⟨cs.length - (j18 + 1), (by rw [hm24]; omega), j18 + 1, rfl, (by omega), hA84.cut _ (fm_cons ((hA84.get 3 _ rfl).trans (congrArg (Value.int .i64) (by have h1 := sum_at opsN hc39; have h2 := drop_sum_le opsN cs j18; omega))) (fm_cons ((hA84.get 4 _ rfl).trans (congrArg (Value.int .i64) (by have h1 := sum_at brN hc39; have h2 := drop_sum_le brN cs j18; omega))) (fm_cons (hA84.get 7 _ rfl) (fm_cons (hA84.get 8 _ rfl) (fm_cons ((hA84.get 9 _ rfl).trans (congrArg (Value.int .i64) (by omega))) fm_nil))))), b72⟩
 ·skip
  have hq85 := of_decide_eq_false hb26
  refine q_step hA22 rfl (d_bin (wn rfl) (hA22.ev rfl) (hA22.ev rfl) (b_lt _ _ ((j18 : Nat) : Int) ((us.length : Nat) : Int) false _ hb26) ?_)
  intro a86 hA87
  refine q_end ?_
  have hA88 : St 26 [(3, (.int .i64 (((cs.map opsN).sum - ((cs.drop j18).map opsN).sum : Nat) : Int))), (4, (.int .i64 (((cs.map brN).sum - ((cs.drop j18).map brN).sum : Nat) : Int))), (7, v), (8, (.int .i64 ((us.length : Nat) : Int))), (9, (.int .i64 ((j18 : Nat) : Int))), (10, (.bool false))] a86 := hA87.cut _ (fm_cons (hA87.get 3 _ rfl) (fm_cons (hA87.get 4 _ rfl) (fm_cons (hA87.get 7 _ rfl) (fm_cons (hA87.get 8 _ rfl) (fm_cons (hA87.get 9 _ rfl) (fm_cons (hA87.get 10 _ rfl) fm_nil))))))
  refine t_norm ?_
  refine wp_seq ?_
  refine c_false hA88 rfl ?_
  refine wp_exit ?_
  refine t_exit ?_
  refine t_exit ?_
  refine i_here ?_
  refine t_norm ?_
  refine wp_seq ?_
  refine wp_seq ?_
  refine wp_region_lit ?_
  refine q_step hA88 rfl (d_move (wn rfl) (hA88.ev rfl) ?_)
  intro a89 hA90
  rcases Bool.eq_false_or_eq_true (decide ((((cs.map opsN).sum - ((cs.drop j18).map opsN).sum : Nat) : Int) > 6)) with hb91 | hb91
  ·skip
   have hq92 := of_decide_eq_true hb91
   refine q_step hA90 rfl (d_bin (wn rfl) (hA90.ev rfl) (hA90.ev rfl) (b_gt _ _ (((cs.map opsN).sum - ((cs.drop j18).map opsN).sum : Nat) : Int) 6 true _ hb91) ?_)
   intro a93 hA94
   refine q_end ?_
   have hA95 : St 26 [(4, (.int .i64 (((cs.map brN).sum - ((cs.drop j18).map brN).sum : Nat) : Int))), (23, (.bool true))] a93 := hA94.cut _ (fm_cons (hA94.get 4 _ rfl) (fm_cons (hA94.get 23 _ rfl) fm_nil))
   refine t_norm ?_
   refine c_true hA95 rfl ?_
   refine wp_seq ?_
   refine wp_region_lit ?_
   refine q_step hA95 rfl (d_assign (wn rfl) (hA95.ev rfl) ?_)
   intro a96 hA97
   refine q_end ?_
   have hA98 : St 26 [(2, (.int .i64 32)), (4, (.int .i64 (((cs.map brN).sum - ((cs.drop j18).map brN).sum : Nat) : Int)))] a96 := hA97.cut _ (fm_cons (hA97.get 2 _ rfl) (fm_cons (hA97.get 4 _ rfl) fm_nil))
   refine t_norm ?_
   refine wp_ret ?_
   refine t_ret ?_
   refine ret1 rfl hA98 (v := (.int .i64 32)) rfl ?_
   exact ⟨ret_int (by have h0 := drop_end (l := cs) (j := j18) (by omega); have h1 : (cs.map opsN).sum = sumO cs := rfl; have h2 : (cs.map brN).sum = sumB cs := rfl; simp only [h0, List.map_nil, List.sum_nil, Nat.sub_zero, h1, h2] at *; simp [cntsR, hb26, hb91]), b23⟩
  ·skip
   have hq99 := of_decide_eq_false hb91
   refine q_step hA90 rfl (d_bin (wn rfl) (hA90.ev rfl) (hA90.ev rfl) (b_gt _ _ (((cs.map opsN).sum - ((cs.drop j18).map opsN).sum : Nat) : Int) 6 false _ hb91) ?_)
   intro a100 hA101
   refine q_end ?_
   have hA102 : St 26 [(4, (.int .i64 (((cs.map brN).sum - ((cs.drop j18).map brN).sum : Nat) : Int))), (23, (.bool false))] a100 := hA101.cut _ (fm_cons (hA101.get 4 _ rfl) (fm_cons (hA101.get 23 _ rfl) fm_nil))
   refine t_norm ?_
   refine c_false hA102 rfl ?_
   refine wp_skip ?_
   refine t_norm ?_
   refine wp_seq ?_
   refine wp_seq ?_
   refine wp_region_lit ?_
   refine q_step hA102 rfl (d_move (wn rfl) (hA102.ev rfl) ?_)
   intro a103 hA104
   rcases Bool.eq_false_or_eq_true (decide ((((cs.map brN).sum - ((cs.drop j18).map brN).sum : Nat) : Int) > 3)) with hb105 | hb105
   ·skip
    have hq106 := of_decide_eq_true hb105
    refine q_step hA104 rfl (d_bin (wn rfl) (hA104.ev rfl) (hA104.ev rfl) (b_gt _ _ (((cs.map brN).sum - ((cs.drop j18).map brN).sum : Nat) : Int) 3 true _ hb105) ?_)
    intro a107 hA108
    refine q_end ?_
    have hA109 : St 26 [(25, (.bool true))] a107 := hA108.cut _ (fm_cons (hA108.get 25 _ rfl) fm_nil)
    refine t_norm ?_
    refine c_true hA109 rfl ?_
    refine wp_seq ?_
    refine wp_region_lit ?_
    refine q_step hA109 rfl (d_assign (wn rfl) (hA109.ev rfl) ?_)
    intro a110 hA111
    refine q_end ?_
    have hA112 : St 26 [(2, (.int .i64 33))] a110 := hA111.cut _ (fm_cons (hA111.get 2 _ rfl) fm_nil)
    refine t_norm ?_
    refine wp_ret ?_
    refine t_ret ?_
    refine ret1 rfl hA112 (v := (.int .i64 33)) rfl ?_
    exact ⟨ret_int (by have h0 := drop_end (l := cs) (j := j18) (by omega); have h1 : (cs.map opsN).sum = sumO cs := rfl; have h2 : (cs.map brN).sum = sumB cs := rfl; simp only [h0, List.map_nil, List.sum_nil, Nat.sub_zero, h1, h2] at *; simp [cntsR, hb26, hb91, hb105]), b23⟩
   ·skip
    have hq113 := of_decide_eq_false hb105
    refine q_step hA104 rfl (d_bin (wn rfl) (hA104.ev rfl) (hA104.ev rfl) (b_gt _ _ (((cs.map brN).sum - ((cs.drop j18).map brN).sum : Nat) : Int) 3 false _ hb105) ?_)
    intro a114 hA115
    refine q_end ?_
    have hA116 : St 26 [(25, (.bool false))] a114 := hA115.cut _ (fm_cons (hA115.get 25 _ rfl) fm_nil)
    refine t_norm ?_
    refine c_false hA116 rfl ?_
    refine wp_skip ?_
    refine t_norm ?_
    refine wp_seq ?_
    refine wp_region_lit ?_
    refine q_step hA116 rfl (d_assign (wn rfl) (hA116.ev rfl) ?_)
    intro a117 hA118
    refine q_end ?_
    have hA119 : St 26 [(2, (.int .i64 0))] a117 := hA118.cut _ (fm_cons (hA118.get 2 _ rfl) fm_nil)
    refine t_norm ?_
    refine wp_ret ?_
    refine ret1 rfl hA119 (v := (.int .i64 0)) rfl ?_
    exact ⟨ret_int (by have h0 := drop_end (l := cs) (j := j18) (by omega); have h1 : (cs.map opsN).sum = sumO cs := rfl; have h2 : (cs.map brN).sum = sumB cs := rfl; simp only [h0, List.map_nil, List.sum_nil, Nat.sub_zero, h1, h2] at *; simp [cntsR, hb26, hb91, hb105]), b23⟩
end Go.Proofs.Ytlhompedcphnnaa
/- What Check returns. -/
namespace Go.Proofs.Ytlhompedcphnnaa
open Go.RowKit
set_option linter.unusedSimpArgs false
set_option linter.unusedVariables false
set_option maxHeartbeats 4000000 in
set_option maxRecDepth 4000 in
theorem check_any (cs : List (List Ins)) (v : Value) (w : World) (hCs : Cs w.heap.size w v cs) (hn : cs.length ≤ 10000) (ht : totN cs ≤ 1000000) : Calls Try.prog 20 #[v] w fun e w' => e = .returned (.tuple #[.int .i64 (checkR cs).1, .int .i64 (checkR cs).2.1, .int .i64 (checkR cs).2.2]) ∧ Grow w w' := by
 obtain ⟨us, hus, hul, hin⟩ := id hCs
 have b0 : Below w.heap.size w w := Below.refl _ _
 refine enter (n := 60) Try.func20 rfl rfl (Nat.le_of_ble_eq_true rfl) ?_
 intro a1 hA2
 refine wp_seq ?_
 refine wp_region_lit ?_
 refine q_step hA2 rfl (d_assign (wn rfl) (hA2.ev rfl) ?_)
 intro a3 hA4
 refine q_step hA4 rfl (d_assign (wn rfl) (hA4.ev rfl) ?_)
 intro a5 hA6
 refine q_step hA6 rfl (d_assign (wn rfl) (hA6.ev rfl) ?_)
 intro a7 hA8
 refine q_end ?_
 have hA9 : St 60 [(0, v), (2, (.int .i64 0)), (3, (.int .i64 0)), (4, (.int .i64 0))] a7 := hA8.cut _ (fm_cons (hA8.get 0 _ rfl) (fm_cons (hA8.get 2 _ rfl) (fm_cons (hA8.get 3 _ rfl) (fm_cons (hA8.get 4 _ rfl) fm_nil))))
 refine t_norm ?_
 refine wp_seq ?_
 refine wp_seq ?_
 refine wp_region_lit ?_
 refine q_step hA9 rfl (d_move (wn rfl) (hA9.ev rfl) ?_)
 intro a10 hA11
 refine q_step hA11 rfl (d_len (n := us.length) (wn rfl) (hA11.ev rfl) slc34 hus.form ?_)
 intro a12 hA13
 rcases Bool.eq_false_or_eq_true (decide (((us.length : Nat) : Int) < 1)) with hb14 | hb14
 ·skip
  have hq15 := of_decide_eq_true hb14
  refine q_step hA13 rfl (d_bin (wn rfl) (hA13.ev rfl) (hA13.ev rfl) (b_lt _ _ ((us.length : Nat) : Int) 1 true _ hb14) ?_)
  intro a16 hA17
  refine q_step hA17 rfl (d_move (wn rfl) (hA17.ev rfl) ?_)
  intro a18 hA19
  refine q_step hA19 rfl (does_not (wno rfl rfl (.inl (hA19.get 15 _ rfl))) ?_)
  intro a20 hA21
  refine q_step hA21 rfl (does_not (wno rfl rfl (.inl (hA21.get 15 _ rfl))) ?_)
  intro a22 hA23
  refine q_step hA23 rfl (does_not (wno rfl rfl (.inl (hA23.get 15 _ rfl))) ?_)
  intro a24 hA25
  refine q_step hA25 rfl (d_pickT (wn rfl) (hA25.ev rfl) (hA25.ev rfl) ?_)
  intro a26 hA27
  refine q_end ?_
  have hA28 : St 60 [(0, v), (2, (.int .i64 0)), (3, (.int .i64 0)), (4, (.int .i64 0)), (19, (.bool true))] a26 := hA27.cut _ (fm_cons (hA27.get 0 _ rfl) (fm_cons (hA27.get 2 _ rfl) (fm_cons (hA27.get 3 _ rfl) (fm_cons (hA27.get 4 _ rfl) (fm_cons (hA27.get 19 _ rfl) fm_nil)))))
  refine t_norm ?_
  refine c_true hA28 rfl ?_
  refine wp_seq ?_
  refine wp_region_lit ?_
  refine q_step hA28 rfl (d_assign (wn rfl) (hA28.ev rfl) ?_)
  intro a29 hA30
  refine q_step hA30 rfl (d_assign (wn rfl) (hA30.ev rfl) ?_)
  intro a31 hA32
  refine q_step hA32 rfl (d_assign (wn rfl) (hA32.ev rfl) ?_)
  intro a33 hA34
  refine q_end ?_
  have hA35 : St 60 [(0, v), (2, (.int .i64 0)), (3, (.int .i64 0)), (4, (.int .i64 30))] a33 := hA34.cut _ (fm_cons (hA34.get 0 _ rfl) (fm_cons (hA34.get 2 _ rfl) (fm_cons (hA34.get 3 _ rfl) (fm_cons (hA34.get 4 _ rfl) fm_nil))))
  refine t_norm ?_
  refine wp_ret ?_
  refine t_ret ?_
  refine ret3 (x := (.int .i64 0)) (y := (.int .i64 0)) (z := (.int .i64 30)) rfl hA35 rfl rfl rfl ?_
  have hr := check_threads (cs := cs) (by omega)
  exact ⟨ret_three (by rw [hr]) (by rw [hr]) (by rw [hr]), b0⟩
 ·skip
  have hq36 := of_decide_eq_false hb14
  refine q_step hA13 rfl (d_bin (wn rfl) (hA13.ev rfl) (hA13.ev rfl) (b_lt _ _ ((us.length : Nat) : Int) 1 false _ hb14) ?_)
  intro a37 hA38
  refine q_step hA38 rfl (d_move (wn rfl) (hA38.ev rfl) ?_)
  intro a39 hA40
  refine q_step hA40 rfl (d_move (wy rfl rfl (hA40.get 15 _ rfl)) (hA40.ev rfl) ?_)
  intro a41 hA42
  refine q_step hA42 rfl (d_len (n := us.length) (wy rfl rfl (hA42.get 15 _ rfl)) (hA42.ev rfl) slc34 hus.form ?_)
  intro a43 hA44
  rcases Bool.eq_false_or_eq_true (decide (((us.length : Nat) : Int) > 3)) with hb45 | hb45
  ·skip
   have hq46 := of_decide_eq_true hb45
   refine q_step hA44 rfl (d_bin (wy rfl rfl (hA44.get 15 _ rfl)) (hA44.ev rfl) (hA44.ev rfl) (b_gt _ _ ((us.length : Nat) : Int) 3 true _ hb45) ?_)
   intro a47 hA48
   refine q_step hA48 rfl (d_pickF (wn rfl) (hA48.ev rfl) (hA48.ev rfl) ?_)
   intro a49 hA50
   refine q_end ?_
   have hA51 : St 60 [(0, v), (2, (.int .i64 0)), (3, (.int .i64 0)), (4, (.int .i64 0)), (19, (.bool true))] a49 := hA50.cut _ (fm_cons (hA50.get 0 _ rfl) (fm_cons (hA50.get 2 _ rfl) (fm_cons (hA50.get 3 _ rfl) (fm_cons (hA50.get 4 _ rfl) (fm_cons (hA50.get 19 _ rfl) fm_nil)))))
   refine t_norm ?_
   refine c_true hA51 rfl ?_
   refine wp_seq ?_
   refine wp_region_lit ?_
   refine q_step hA51 rfl (d_assign (wn rfl) (hA51.ev rfl) ?_)
   intro a52 hA53
   refine q_step hA53 rfl (d_assign (wn rfl) (hA53.ev rfl) ?_)
   intro a54 hA55
   refine q_step hA55 rfl (d_assign (wn rfl) (hA55.ev rfl) ?_)
   intro a56 hA57
   refine q_end ?_
   have hA58 : St 60 [(0, v), (2, (.int .i64 0)), (3, (.int .i64 0)), (4, (.int .i64 30))] a56 := hA57.cut _ (fm_cons (hA57.get 0 _ rfl) (fm_cons (hA57.get 2 _ rfl) (fm_cons (hA57.get 3 _ rfl) (fm_cons (hA57.get 4 _ rfl) fm_nil))))
   refine t_norm ?_
   refine wp_ret ?_
   refine t_ret ?_
   refine ret3 (x := (.int .i64 0)) (y := (.int .i64 0)) (z := (.int .i64 30)) rfl hA58 rfl rfl rfl ?_
   have hr := check_threads (cs := cs) (by omega)
   exact ⟨ret_three (by rw [hr]) (by rw [hr]) (by rw [hr]), b0⟩
  ·skip
   have hq59 := of_decide_eq_false hb45
   refine q_step hA44 rfl (d_bin (wy rfl rfl (hA44.get 15 _ rfl)) (hA44.ev rfl) (hA44.ev rfl) (b_gt _ _ ((us.length : Nat) : Int) 3 false _ hb45) ?_)
   intro a60 hA61
   refine q_step hA61 rfl (d_pickF (wn rfl) (hA61.ev rfl) (hA61.ev rfl) ?_)
   intro a62 hA63
   refine q_end ?_
   have hA64 : St 60 [(0, v), (2, (.int .i64 0)), (3, (.int .i64 0)), (4, (.int .i64 0)), (19, (.bool false))] a62 := hA63.cut _ (fm_cons (hA63.get 0 _ rfl) (fm_cons (hA63.get 2 _ rfl) (fm_cons (hA63.get 3 _ rfl) (fm_cons (hA63.get 4 _ rfl) (fm_cons (hA63.get 19 _ rfl) fm_nil)))))
   refine t_norm ?_
   refine c_false hA64 rfl ?_
   refine wp_skip ?_
   refine t_norm ?_
   refine wp_seq ?_
   refine wp_seq ?_
   refine wp_region_lit ?_
   refine q_step hA64 rfl (d_move (wn rfl) (hA64.ev rfl) ?_)
   intro a65 hA66
   refine q_step hA66 rfl (d_len (n := us.length) (wn rfl) (hA66.ev rfl) slc34 hus.form ?_)
   intro a67 hA68
   refine q_step hA68 rfl (d_move (wn rfl) (hA68.ev rfl) ?_)
   intro a69 hA70
   refine q_end ?_
   have hA71 : St 60 [(0, v), (2, (.int .i64 0)), (3, (.int .i64 0)), (4, (.int .i64 0)), (20, v), (21, (.int .i64 ((us.length : Nat) : Int))), (22, (.int .i64 0))] a69 := hA70.cut _ (fm_cons (hA70.get 0 _ rfl) (fm_cons (hA70.get 2 _ rfl) (fm_cons (hA70.get 3 _ rfl) (fm_cons (hA70.get 4 _ rfl) (fm_cons (hA70.get 20 _ rfl) (fm_cons (hA70.get 21 _ rfl) (fm_cons (hA70.get 22 _ rfl) fm_nil)))))))
   refine t_norm ?_
   refine wp_block ?_
   refine loop_by (fun m73 a74 w75 => ∃ j72 : Nat, m73 = cs.length - j72 ∧ (j72 ≤ cs.length ∧ longR cs 0 = longR (cs.drop j72) j72) ∧ St 60 [(0, v), (20, v), (21, (.int .i64 ((us.length : Nat) : Int))), (22, (.int .i64 ((j72 : Nat) : Int)))] a74 ∧ Below w.heap.size w w75) (cs.length - 0) ⟨0, rfl, ⟨by omega, rfl⟩, hA71.cut _ (fm_cons (hA71.get 0 _ rfl) (fm_cons (hA71.get 20 _ rfl) (fm_cons (hA71.get 21 _ rfl) (fm_cons ((hA71.get 22 _ rfl).trans (congrArg (Value.int .i64) (by omega))) fm_nil)))), b0⟩ ?_
   rintro m73 a74 w75 ⟨j72, hm78, hc79, hA76, b77⟩
   refine wp_seq ?_
   refine wp_region_lit ?_
   rcases Bool.eq_false_or_eq_true (decide (((j72 : Nat) : Int) < ((us.length : Nat) : Int))) with hb80 | hb80
   ·skip
    have hq81 := of_decide_eq_true hb80
    refine q_step hA76 rfl (d_bin (wn rfl) (hA76.ev rfl) (hA76.ev rfl) (b_lt _ _ ((j72 : Nat) : Int) ((us.length : Nat) : Int) true _ hb80) ?_)
    intro a82 hA83
    refine q_end ?_
    have hA84 : St 60 [(0, v), (20, v), (21, (.int .i64 ((us.length : Nat) : Int))), (22, (.int .i64 ((j72 : Nat) : Int))), (23, (.bool true))] a82 := hA83.cut _ (fm_cons (hA83.get 0 _ rfl) (fm_cons (hA83.get 20 _ rfl) (fm_cons (hA83.get 21 _ rfl) (fm_cons (hA83.get 22 _ rfl) (fm_cons (hA83.get 23 _ rfl) fm_nil)))))
    refine t_norm ?_
    refine wp_seq ?_
    refine c_true hA84 rfl ?_
    refine wp_skip ?_
    refine t_norm ?_
    refine wp_seq ?_
    refine wp_block ?_
    refine wp_seq ?_
    refine wp_region_lit ?_
    refine q_step hA84 rfl (d_move (wn rfl) (hA84.ev rfl) ?_)
    intro a85 hA86
    obtain ⟨y87, hy88⟩ : ∃ y87, us[j72]? = some y87 := ⟨_, List.getElem?_eq_getElem (show j72 < us.length by omega)⟩
    obtain ⟨b89, o90, lt91, hr92, hix93⟩ := (hus.below b77).at hy88
    obtain ⟨c94, hc95⟩ : ∃ c, cs[j72]? = some c := ⟨_, List.getElem?_eq_getElem (show j72 < cs.length by have := get_lt hy88; omega)⟩
    have hsl96 := hin j72 y87 c94 hy88 hc95
    have hlc94 := len_le hc95
    have hoc94 := ops_le c94
    have hbc94 := br_le c94
    refine q_step hA86 rfl (d_indexAt (j := j72) (wn rfl) (hA86.ev rfl) (hA86.ev rfl) slc34 hix93 (get_lt hy88) ?_)
    intro a97 hA98
    refine q_step hA98 rfl (d_load (v := y87) (wn rfl) (hA98.ev rfl) one35 (hr92 0 _ rfl) ?_)
    intro a99 hA100
    refine q_step hA100 rfl (d_assign (wn rfl) (hA100.ev rfl) ?_)
    intro a101 hA102
    refine q_step hA102 rfl (d_assign (wn rfl) (hA102.ev rfl) ?_)
    intro a103 hA104
    refine q_end ?_
    have hA105 : St 60 [(0, v), (5, (.int .i64 ((j72 : Nat) : Int))), (6, y87), (20, v), (21, (.int .i64 ((us.length : Nat) : Int))), (22, (.int .i64 ((j72 : Nat) : Int)))] a103 := hA104.cut _ (fm_cons (hA104.get 0 _ rfl) (fm_cons (hA104.get 5 _ rfl) (fm_cons (hA104.get 6 _ rfl) (fm_cons (hA104.get 20 _ rfl) (fm_cons (hA104.get 21 _ rfl) (fm_cons (hA104.get 22 _ rfl) fm_nil))))))
    refine t_norm ?_
    refine wp_seq ?_
    refine wp_region_lit ?_
    refine q_step hA105 rfl (d_move (wn rfl) (hA105.ev rfl) ?_)
    intro a106 hA107
    refine q_step hA107 rfl (d_len (n := c94.length) (wn rfl) (hA107.ev rfl) slc35 hsl96.form ?_)
    intro a108 hA109
    rcases Bool.eq_false_or_eq_true (decide (((c94.length : Nat) : Int) > 8)) with hb110 | hb110
    ·skip
     have hq111 := of_decide_eq_true hb110
     refine q_step hA109 rfl (d_bin (wn rfl) (hA109.ev rfl) (hA109.ev rfl) (b_gt _ _ ((c94.length : Nat) : Int) 8 true _ hb110) ?_)
     intro a112 hA113
     refine q_end ?_
     have hA114 : St 60 [(0, v), (5, (.int .i64 ((j72 : Nat) : Int))), (20, v), (21, (.int .i64 ((us.length : Nat) : Int))), (22, (.int .i64 ((j72 : Nat) : Int))), (29, (.bool true))] a112 := hA113.cut _ (fm_cons (hA113.get 0 _ rfl) (fm_cons (hA113.get 5 _ rfl) (fm_cons (hA113.get 20 _ rfl) (fm_cons (hA113.get 21 _ rfl) (fm_cons (hA113.get 22 _ rfl) (fm_cons (hA113.get 29 _ rfl) fm_nil))))))
     refine t_norm ?_
     refine c_true hA114 rfl ?_
     refine wp_seq ?_
     refine wp_region_lit ?_
     refine q_step hA114 rfl (d_move (wn rfl) (hA114.ev rfl) ?_)
     intro a115 hA116
     refine q_step hA116 rfl (d_assign (wn rfl) (hA116.ev rfl) ?_)
     intro a117 hA118
     refine q_step hA118 rfl (d_assign (wn rfl) (hA118.ev rfl) ?_)
     intro a119 hA120
     refine q_step hA120 rfl (d_assign (wn rfl) (hA120.ev rfl) ?_)
     intro a121 hA122
     refine q_end ?_
     have hA123 : St 60 [(0, v), (2, (.int .i64 ((j72 : Nat) : Int))), (3, (.int .i64 0)), (4, (.int .i64 31)), (20, v), (21, (.int .i64 ((us.length : Nat) : Int))), (22, (.int .i64 ((j72 : Nat) : Int)))] a121 := hA122.cut _ (fm_cons (hA122.get 0 _ rfl) (fm_cons (hA122.get 2 _ rfl) (fm_cons (hA122.get 3 _ rfl) (fm_cons (hA122.get 4 _ rfl) (fm_cons (hA122.get 20 _ rfl) (fm_cons (hA122.get 21 _ rfl) (fm_cons (hA122.get 22 _ rfl) fm_nil)))))))
     refine t_norm ?_
     refine wp_ret ?_
     refine i_ret ?_
     refine t_ret ?_
     refine t_ret ?_
     refine i_ret ?_
     refine t_ret ?_
     refine ret3 (x := (.int .i64 ((j72 : Nat) : Int))) (y := (.int .i64 0)) (z := (.int .i64 31)) rfl hA123 rfl rfl rfl ?_
     have hr := check_long (cs := cs) (by omega) (by omega) (hc79.2.trans (long_yes hc95 hb110))
     exact ⟨ret_three (by rw [hr]) (by rw [hr]) (by rw [hr]), b77⟩
    ·skip
     have hq124 := of_decide_eq_false hb110
     refine q_step hA109 rfl (d_bin (wn rfl) (hA109.ev rfl) (hA109.ev rfl) (b_gt _ _ ((c94.length : Nat) : Int) 8 false _ hb110) ?_)
     intro a125 hA126
     refine q_end ?_
     have hA127 : St 60 [(0, v), (5, (.int .i64 ((j72 : Nat) : Int))), (20, v), (21, (.int .i64 ((us.length : Nat) : Int))), (22, (.int .i64 ((j72 : Nat) : Int))), (29, (.bool false))] a125 := hA126.cut _ (fm_cons (hA126.get 0 _ rfl) (fm_cons (hA126.get 5 _ rfl) (fm_cons (hA126.get 20 _ rfl) (fm_cons (hA126.get 21 _ rfl) (fm_cons (hA126.get 22 _ rfl) (fm_cons (hA126.get 29 _ rfl) fm_nil))))))
     refine t_norm ?_
     refine c_false hA127 rfl ?_
     refine wp_skip ?_
     refine i_norm ?_
     refine t_norm ?_
     refine wp_region_lit ?_
     refine q_step hA127 rfl (d_bin (wn rfl) (hA127.ev rfl) (hA127.ev rfl) (b_add _ _ ((j72 : Nat) : Int) 1 _ (by omega) (by omega)) ?_)
     intro a128 hA129
     refine q_step hA129 rfl (d_move (wn rfl) (hA129.ev rfl) ?_)
     intro a130 hA131
     refine q_end ?_
     have hA132 : St 60 [(0, v), (20, v), (21, (.int .i64 ((us.length : Nat) : Int))), (22, (.int .i64 (((j72 : Nat) : Int) + 1)))] a130 := hA131.cut _ (fm_cons (hA131.get 0 _ rfl) (fm_cons (hA131.get 20 _ rfl) (fm_cons (hA131.get 21 _ rfl) (fm_cons (hA131.get 22 _ rfl) fm_nil))))
     refine t_norm ?_
     exact ⟨cs.length - (j72 + 1), (by rw [hm78]; omega), j72 + 1, rfl, ⟨by have := get_lt hc95; omega, hc79.2.trans (long_at hc95 hb110)⟩, hA132.cut _ (fm_cons (hA132.get 0 _ rfl) (fm_cons (hA132.get 20 _ rfl) (fm_cons (hA132.get 21 _ rfl) (fm_cons ((hA132.get 22 _ rfl).trans (congrArg (Value.int .i64) (by omega))) fm_nil)))), b77⟩
   ·skip
    have hq133 := of_decide_eq_false hb80
    refine q_step hA76 rfl (d_bin (wn rfl) (hA76.ev rfl) (hA76.ev rfl) (b_lt _ _ ((j72 : Nat) : Int) ((us.length : Nat) : Int) false _ hb80) ?_)
    intro a134 hA135
    refine q_end ?_
    have hA136 : St 60 [(0, v), (20, v), (21, (.int .i64 ((us.length : Nat) : Int))), (22, (.int .i64 ((j72 : Nat) : Int))), (23, (.bool false))] a134 := hA135.cut _ (fm_cons (hA135.get 0 _ rfl) (fm_cons (hA135.get 20 _ rfl) (fm_cons (hA135.get 21 _ rfl) (fm_cons (hA135.get 22 _ rfl) (fm_cons (hA135.get 23 _ rfl) fm_nil)))))
    refine t_norm ?_
    refine wp_seq ?_
    refine c_false hA136 rfl ?_
    refine wp_exit ?_
    refine t_exit ?_
    refine t_exit ?_
    refine i_here ?_
    refine t_norm ?_
    refine wp_seq ?_
    refine wp_seq ?_
    refine wp_region_lit ?_
    refine q_step hA136 rfl (d_move (wn rfl) (hA136.ev rfl) ?_)
    intro a137 hA138
    refine q_step hA138 rfl (d_len (n := us.length) (wn rfl) (hA138.ev rfl) slc34 hus.form ?_)
    intro a139 hA140
    refine q_step hA140 rfl (d_move (wn rfl) (hA140.ev rfl) ?_)
    intro a141 hA142
    refine q_end ?_
    have hA143 : St 60 [(0, v), (32, v), (33, (.int .i64 ((us.length : Nat) : Int))), (34, (.int .i64 0))] a141 := hA142.cut _ (fm_cons (hA142.get 0 _ rfl) (fm_cons (hA142.get 32 _ rfl) (fm_cons (hA142.get 33 _ rfl) (fm_cons (hA142.get 34 _ rfl) fm_nil))))
    refine t_norm ?_
    refine wp_block ?_
    have hlong : longR cs 0 = none := hc79.2.trans (by rw [drop_end (by omega)]; rfl)
    refine loop_by (fun m145 a146 w147 => ∃ j144 : Nat, m145 = cs.length - j144 ∧ (j144 ≤ cs.length ∧ bad2 cs 0 = bad2 (cs.drop j144) j144) ∧ St 60 [(0, v), (32, v), (33, (.int .i64 ((us.length : Nat) : Int))), (34, (.int .i64 ((j144 : Nat) : Int)))] a146 ∧ Below w.heap.size w w147) (cs.length - 0) ⟨0, rfl, ⟨by omega, rfl⟩, hA143.cut _ (fm_cons (hA143.get 0 _ rfl) (fm_cons (hA143.get 32 _ rfl) (fm_cons (hA143.get 33 _ rfl) (fm_cons ((hA143.get 34 _ rfl).trans (congrArg (Value.int .i64) (by simp))) fm_nil)))), b77⟩ ?_
    rintro m145 a146 w147 ⟨j144, hm150, hc151, hA148, b149⟩
    have hkopsN := drop_sum_le opsN cs j144
    have hmopsN := sum_le opsN ops_le cs
    have hkbrN := drop_sum_le brN cs j144
    have hmbrN := sum_le brN br_le cs
    refine wp_seq ?_
    refine wp_region_lit ?_
    rcases Bool.eq_false_or_eq_true (decide (((j144 : Nat) : Int) < ((us.length : Nat) : Int))) with hb152 | hb152
    ·skip
     have hq153 := of_decide_eq_true hb152
     refine q_step hA148 rfl (d_bin (wn rfl) (hA148.ev rfl) (hA148.ev rfl) (b_lt _ _ ((j144 : Nat) : Int) ((us.length : Nat) : Int) true _ hb152) ?_)
     intro a154 hA155
     refine q_end ?_
     have hA156 : St 60 [(0, v), (32, v), (33, (.int .i64 ((us.length : Nat) : Int))), (34, (.int .i64 ((j144 : Nat) : Int))), (35, (.bool true))] a154 := hA155.cut _ (fm_cons (hA155.get 0 _ rfl) (fm_cons (hA155.get 32 _ rfl) (fm_cons (hA155.get 33 _ rfl) (fm_cons (hA155.get 34 _ rfl) (fm_cons (hA155.get 35 _ rfl) fm_nil)))))
     refine t_norm ?_
     refine wp_seq ?_
     refine c_true hA156 rfl ?_
     refine wp_skip ?_
     refine t_norm ?_
     refine wp_seq ?_
     refine wp_block ?_
     refine wp_seq ?_
     refine wp_region_lit ?_
     refine q_step hA156 rfl (d_move (wn rfl) (hA156.ev rfl) ?_)
     intro a157 hA158
     obtain ⟨y159, hy160⟩ : ∃ y159, us[j144]? = some y159 := ⟨_, List.getElem?_eq_getElem (show j144 < us.length by omega)⟩
     obtain ⟨b161, o162, lt163, hr164, hix165⟩ := (hus.below b149).at hy160
     obtain ⟨c166, hc167⟩ : ∃ c, cs[j144]? = some c := ⟨_, List.getElem?_eq_getElem (show j144 < cs.length by have := get_lt hy160; omega)⟩
     have hsl168 := hin j144 y159 c166 hy160 hc167
     have hlc166 := len_le hc167
     have hoc166 := ops_le c166
     have hbc166 := br_le c166
     refine q_step hA158 rfl (d_indexAt (j := j144) (wn rfl) (hA158.ev rfl) (hA158.ev rfl) slc34 hix165 (get_lt hy160) ?_)
     intro a169 hA170
     refine q_step hA170 rfl (d_load (v := y159) (wn rfl) (hA170.ev rfl) one35 (hr164 0 _ rfl) ?_)
     intro a171 hA172
     refine q_step hA172 rfl (d_assign (wn rfl) (hA172.ev rfl) ?_)
     intro a173 hA174
     refine q_step hA174 rfl (d_assign (wn rfl) (hA174.ev rfl) ?_)
     intro a175 hA176
     refine q_end ?_
     have hA177 : St 60 [(0, v), (7, (.int .i64 ((j144 : Nat) : Int))), (8, y159), (32, v), (33, (.int .i64 ((us.length : Nat) : Int))), (34, (.int .i64 ((j144 : Nat) : Int)))] a175 := hA176.cut _ (fm_cons (hA176.get 0 _ rfl) (fm_cons (hA176.get 7 _ rfl) (fm_cons (hA176.get 8 _ rfl) (fm_cons (hA176.get 32 _ rfl) (fm_cons (hA176.get 33 _ rfl) (fm_cons (hA176.get 34 _ rfl) fm_nil))))))
     refine t_norm ?_
     refine wp_seq ?_
     refine wp_region_lit ?_
     refine q_step hA177 rfl (d_move (wn rfl) (hA177.ev rfl) ?_)
     intro a178 hA179
     refine q_step hA179 rfl (d_len (n := c166.length) (wn rfl) (hA179.ev rfl) slc35 hsl168.form ?_)
     intro a180 hA181
     refine q_step hA181 rfl (d_move (wn rfl) (hA181.ev rfl) ?_)
     intro a182 hA183
     refine q_end ?_
     have hA184 : St 60 [(0, v), (7, (.int .i64 ((j144 : Nat) : Int))), (8, y159), (32, v), (33, (.int .i64 ((us.length : Nat) : Int))), (34, (.int .i64 ((j144 : Nat) : Int))), (39, y159), (40, (.int .i64 ((c166.length : Nat) : Int))), (41, (.int .i64 0))] a182 := hA183.cut _ (fm_cons (hA183.get 0 _ rfl) (fm_cons (hA183.get 7 _ rfl) (fm_cons (hA183.get 8 _ rfl) (fm_cons (hA183.get 32 _ rfl) (fm_cons (hA183.get 33 _ rfl) (fm_cons (hA183.get 34 _ rfl) (fm_cons (hA183.get 39 _ rfl) (fm_cons (hA183.get 40 _ rfl) (fm_cons (hA183.get 41 _ rfl) fm_nil)))))))))
     refine t_norm ?_
     refine wp_block ?_
     refine loop_by (fun m186 a187 w188 => ∃ k185 : Nat, m186 = c166.length - k185 ∧ (k185 ≤ c166.length ∧ bad1 c166.length c166 0 = bad1 c166.length (c166.drop k185) k185) ∧ St 60 [(0, v), (7, (.int .i64 ((j144 : Nat) : Int))), (8, y159), (32, v), (33, (.int .i64 ((us.length : Nat) : Int))), (34, (.int .i64 ((j144 : Nat) : Int))), (39, y159), (40, (.int .i64 ((c166.length : Nat) : Int))), (41, (.int .i64 ((k185 : Nat) : Int)))] a187 ∧ Below w.heap.size w w188) (c166.length - 0) ⟨0, rfl, ⟨by omega, rfl⟩, hA184.cut _ (fm_cons (hA184.get 0 _ rfl) (fm_cons (hA184.get 7 _ rfl) (fm_cons (hA184.get 8 _ rfl) (fm_cons (hA184.get 32 _ rfl) (fm_cons (hA184.get 33 _ rfl) (fm_cons (hA184.get 34 _ rfl) (fm_cons (hA184.get 39 _ rfl) (fm_cons (hA184.get 40 _ rfl) (fm_cons ((hA184.get 41 _ rfl).trans (congrArg (Value.int .i64) (by simp))) fm_nil))))))))), b149⟩ ?_
     rintro m186 a187 w188 ⟨k185, hm191, hc192, hA189, b190⟩
     refine wp_seq ?_
     refine wp_region_lit ?_
     rcases Bool.eq_false_or_eq_true (decide (((k185 : Nat) : Int) < ((c166.length : Nat) : Int))) with hb193 | hb193
     ·skip
      have hq194 := of_decide_eq_true hb193
      refine q_step hA189 rfl (d_bin (wn rfl) (hA189.ev rfl) (hA189.ev rfl) (b_lt _ _ ((k185 : Nat) : Int) ((c166.length : Nat) : Int) true _ hb193) ?_)
      intro a195 hA196
      refine q_end ?_
      have hA197 : St 60 [(0, v), (7, (.int .i64 ((j144 : Nat) : Int))), (8, y159), (32, v), (33, (.int .i64 ((us.length : Nat) : Int))), (34, (.int .i64 ((j144 : Nat) : Int))), (39, y159), (40, (.int .i64 ((c166.length : Nat) : Int))), (41, (.int .i64 ((k185 : Nat) : Int))), (42, (.bool true))] a195 := hA196.cut _ (fm_cons (hA196.get 0 _ rfl) (fm_cons (hA196.get 7 _ rfl) (fm_cons (hA196.get 8 _ rfl) (fm_cons (hA196.get 32 _ rfl) (fm_cons (hA196.get 33 _ rfl) (fm_cons (hA196.get 34 _ rfl) (fm_cons (hA196.get 39 _ rfl) (fm_cons (hA196.get 40 _ rfl) (fm_cons (hA196.get 41 _ rfl) (fm_cons (hA196.get 42 _ rfl) fm_nil))))))))))
      refine t_norm ?_
      refine wp_seq ?_
      refine c_true hA197 rfl ?_
      refine wp_skip ?_
      refine t_norm ?_
      refine wp_seq ?_
      refine wp_block ?_
      refine wp_seq ?_
      refine wp_region_lit ?_
      refine q_step hA197 rfl (d_move (wn rfl) (hA197.ev rfl) ?_)
      intro a198 hA199
      obtain ⟨y200, hy201⟩ : ∃ y200, c166[k185]? = some y200 := ⟨_, List.getElem?_eq_getElem (show k185 < c166.length by omega)⟩
      obtain ⟨b202, o203, lt204, hr205, hix206⟩ := (hsl168.below b190).at hy201
      refine q_step hA199 rfl (d_indexAt (j := k185) (wn rfl) (hA199.ev rfl) (hA199.ev rfl) slc35 hix206 (get_lt hy201) ?_)
      intro a207 hA208
      refine q_step hA208 rfl (d_loadMid (cs := (insC y200)) (wn rfl) (hA208.ev rfl) row23 hr205 ?_)
      intro a209 hA210
      refine q_step hA210 rfl (d_alloc (wn rfl) zero23 ?_)
      intro g211 w212 eg213 hG214 (m215 : Blk w212 g211 #[.int .i64 0, .int .i64 0, .int .i64 0, .int .i64 0, .int .i64 0, .int .i64 0, .int .i64 0, .int .i64 0, .int .i64 0, .int .i64 0, .bool false, .bool false, .bool false, .int .i64 0, .int .i64 0, .int .i64 0, .bool false] 23)
      have ge216 : w.heap.size ≤ g211 := eg213 ▸ b190.size
      have hr217 := range_below hr205 hG214 (Nat.lt_of_lt_of_le lt204 b190.size)
      have b218 := below_grow b190 hG214 b190.size
      intro a219 hA220
      refine q_step hA220 rfl (d_assign (wn rfl) (hA220.ev rfl) ?_)
      intro a221 hA222
      refine q_step hA222 rfl (d_storeRow (wn rfl) (hA222.ev rfl) (hA222.ev rfl) row23 m215 rfl rfl ?_)
      intro w223 hU224 (m225 : Blk w223 g211 (insC y200) 23)
      have hr226 := range_upd hr217 hU224 (Nat.ne_of_lt (Nat.lt_of_lt_of_le lt204 ge216))
      have b227 := hU224.below b218 ge216
      intro a228 hA229
      refine q_end ?_
      have hA230 : St 60 [(0, v), (7, (.int .i64 ((j144 : Nat) : Int))), (8, y159), (9, (.int .i64 ((k185 : Nat) : Int))), (10, (.pointer (some ⟨g211, 0, none⟩))), (32, v), (33, (.int .i64 ((us.length : Nat) : Int))), (34, (.int .i64 ((j144 : Nat) : Int))), (39, y159), (40, (.int .i64 ((c166.length : Nat) : Int))), (41, (.int .i64 ((k185 : Nat) : Int)))] a228 := hA229.cut _ (fm_cons (hA229.get 0 _ rfl) (fm_cons (hA229.get 7 _ rfl) (fm_cons (hA229.get 8 _ rfl) (fm_cons (hA229.get 9 _ rfl) (fm_cons (hA229.get 10 _ rfl) (fm_cons (hA229.get 32 _ rfl) (fm_cons (hA229.get 33 _ rfl) (fm_cons (hA229.get 34 _ rfl) (fm_cons (hA229.get 39 _ rfl) (fm_cons (hA229.get 40 _ rfl) (fm_cons (hA229.get 41 _ rfl) fm_nil)))))))))))
      refine t_norm ?_
      refine wp_seq ?_
      refine wp_region_lit ?_
      refine q_step hA230 rfl (d_loadRow (cs := (insC y200)) (wn rfl) (hA230.ev rfl) row23 m225 ?_)
      intro a231 hA232
      refine q_step hA232 rfl (d_move (wn rfl) (hA232.ev rfl) ?_)
      intro a233 hA234
      refine q_step hA234 rfl (d_move (wn rfl) (hA234.ev rfl) ?_)
      intro a235 hA236
      refine q_step hA236 rfl (d_len (n := c166.length) (wn rfl) (hA236.ev rfl) slc35 hsl168.form ?_)
      intro a237 hA238
      refine q_step hA238 rfl (d_call (wn rfl) ent9 (map3 (hA238.ev rfl) (hA238.ev rfl) (hA238.ev rfl)) (right_any y200 ((k185 : Nat) : Int) ((c166.length : Nat) : Int) w223) ?_)
      rintro e242 w239 ⟨he241, hG240⟩
      have m243 := m225.grow hG240
      have b244 := below_grow b227 hG240 b227.size
      refine ⟨(.int .i64 (rightR y200 ((k185 : Nat) : Int) ((c166.length : Nat) : Int))), he241, ?_⟩
      intro a245 hA246
      refine q_step hA246 rfl (d_assign (wn rfl) (hA246.ev rfl) ?_)
      intro a247 hA248
      refine q_end ?_
      have hA249 : St 60 [(0, v), (7, (.int .i64 ((j144 : Nat) : Int))), (8, y159), (9, (.int .i64 ((k185 : Nat) : Int))), (11, (.int .i64 (rightR y200 ((k185 : Nat) : Int) ((c166.length : Nat) : Int)))), (32, v), (33, (.int .i64 ((us.length : Nat) : Int))), (34, (.int .i64 ((j144 : Nat) : Int))), (39, y159), (40, (.int .i64 ((c166.length : Nat) : Int))), (41, (.int .i64 ((k185 : Nat) : Int)))] a247 := hA248.cut _ (fm_cons (hA248.get 0 _ rfl) (fm_cons (hA248.get 7 _ rfl) (fm_cons (hA248.get 8 _ rfl) (fm_cons (hA248.get 9 _ rfl) (fm_cons (hA248.get 11 _ rfl) (fm_cons (hA248.get 32 _ rfl) (fm_cons (hA248.get 33 _ rfl) (fm_cons (hA248.get 34 _ rfl) (fm_cons (hA248.get 39 _ rfl) (fm_cons (hA248.get 40 _ rfl) (fm_cons (hA248.get 41 _ rfl) fm_nil)))))))))))
      refine t_norm ?_
      refine wp_seq ?_
      refine wp_region_lit ?_
      refine q_step hA249 rfl (d_move (wn rfl) (hA249.ev rfl) ?_)
      intro a250 hA251
      rcases Bool.eq_false_or_eq_true (rightR y200 ((k185 : Nat) : Int) ((c166.length : Nat) : Int) == 0) with hb252 | hb252
      ·skip
       have hq253 := eq_of_beq hb252
       refine q_step hA251 rfl (d_bin (wn rfl) (hA251.ev rfl) (hA251.ev rfl) (b_ne _ _ (rightR y200 ((k185 : Nat) : Int) ((c166.length : Nat) : Int)) 0 false _ (notof hb252)) ?_)
       intro a254 hA255
       refine q_end ?_
       have hA256 : St 60 [(0, v), (7, (.int .i64 ((j144 : Nat) : Int))), (8, y159), (9, (.int .i64 ((k185 : Nat) : Int))), (11, (.int .i64 (rightR y200 ((k185 : Nat) : Int) ((c166.length : Nat) : Int)))), (32, v), (33, (.int .i64 ((us.length : Nat) : Int))), (34, (.int .i64 ((j144 : Nat) : Int))), (39, y159), (40, (.int .i64 ((c166.length : Nat) : Int))), (41, (.int .i64 ((k185 : Nat) : Int))), (52, (.bool false))] a254 := hA255.cut _ (fm_cons (hA255.get 0 _ rfl) (fm_cons (hA255.get 7 _ rfl) (fm_cons (hA255.get 8 _ rfl) (fm_cons (hA255.get 9 _ rfl) (fm_cons (hA255.get 11 _ rfl) (fm_cons (hA255.get 32 _ rfl) (fm_cons (hA255.get 33 _ rfl) (fm_cons (hA255.get 34 _ rfl) (fm_cons (hA255.get 39 _ rfl) (fm_cons (hA255.get 40 _ rfl) (fm_cons (hA255.get 41 _ rfl) (fm_cons (hA255.get 52 _ rfl) fm_nil))))))))))))
       refine t_norm ?_
       refine c_false hA256 rfl ?_
       refine wp_skip ?_
       refine i_norm ?_
       refine t_norm ?_
       refine wp_region_lit ?_
       refine q_step hA256 rfl (d_bin (wn rfl) (hA256.ev rfl) (hA256.ev rfl) (b_add _ _ ((k185 : Nat) : Int) 1 _ (by omega) (by omega)) ?_)
       intro a257 hA258
       refine q_step hA258 rfl (d_move (wn rfl) (hA258.ev rfl) ?_)
       intro a259 hA260
       refine q_end ?_
       have hA261 : St 60 [(0, v), (7, (.int .i64 ((j144 : Nat) : Int))), (8, y159), (32, v), (33, (.int .i64 ((us.length : Nat) : Int))), (34, (.int .i64 ((j144 : Nat) : Int))), (39, y159), (40, (.int .i64 ((c166.length : Nat) : Int))), (41, (.int .i64 (((k185 : Nat) : Int) + 1)))] a259 := hA260.cut _ (fm_cons (hA260.get 0 _ rfl) (fm_cons (hA260.get 7 _ rfl) (fm_cons (hA260.get 8 _ rfl) (fm_cons (hA260.get 32 _ rfl) (fm_cons (hA260.get 33 _ rfl) (fm_cons (hA260.get 34 _ rfl) (fm_cons (hA260.get 39 _ rfl) (fm_cons (hA260.get 40 _ rfl) (fm_cons (hA260.get 41 _ rfl) fm_nil)))))))))
       refine t_norm ?_
       exact ⟨c166.length - (k185 + 1), (by rw [hm191]; omega), k185 + 1, rfl, ⟨by have := get_lt hy201; omega, hc192.2.trans (bad1_at hy201 hb252)⟩, hA261.cut _ (fm_cons (hA261.get 0 _ rfl) (fm_cons (hA261.get 7 _ rfl) (fm_cons (hA261.get 8 _ rfl) (fm_cons (hA261.get 32 _ rfl) (fm_cons (hA261.get 33 _ rfl) (fm_cons (hA261.get 34 _ rfl) (fm_cons (hA261.get 39 _ rfl) (fm_cons (hA261.get 40 _ rfl) (fm_cons ((hA261.get 41 _ rfl).trans (congrArg (Value.int .i64) (by omega))) fm_nil))))))))), b244⟩
      ·skip
       have hq262 := ne_of_beq hb252
       refine q_step hA251 rfl (d_bin (wn rfl) (hA251.ev rfl) (hA251.ev rfl) (b_ne _ _ (rightR y200 ((k185 : Nat) : Int) ((c166.length : Nat) : Int)) 0 true _ (notof hb252)) ?_)
       intro a263 hA264
       refine q_end ?_
       have hA265 : St 60 [(0, v), (7, (.int .i64 ((j144 : Nat) : Int))), (8, y159), (9, (.int .i64 ((k185 : Nat) : Int))), (11, (.int .i64 (rightR y200 ((k185 : Nat) : Int) ((c166.length : Nat) : Int)))), (32, v), (33, (.int .i64 ((us.length : Nat) : Int))), (34, (.int .i64 ((j144 : Nat) : Int))), (39, y159), (40, (.int .i64 ((c166.length : Nat) : Int))), (41, (.int .i64 ((k185 : Nat) : Int))), (52, (.bool true))] a263 := hA264.cut _ (fm_cons (hA264.get 0 _ rfl) (fm_cons (hA264.get 7 _ rfl) (fm_cons (hA264.get 8 _ rfl) (fm_cons (hA264.get 9 _ rfl) (fm_cons (hA264.get 11 _ rfl) (fm_cons (hA264.get 32 _ rfl) (fm_cons (hA264.get 33 _ rfl) (fm_cons (hA264.get 34 _ rfl) (fm_cons (hA264.get 39 _ rfl) (fm_cons (hA264.get 40 _ rfl) (fm_cons (hA264.get 41 _ rfl) (fm_cons (hA264.get 52 _ rfl) fm_nil))))))))))))
       refine t_norm ?_
       refine c_true hA265 rfl ?_
       refine wp_seq ?_
       refine wp_region_lit ?_
       refine q_step hA265 rfl (d_move (wn rfl) (hA265.ev rfl) ?_)
       intro a266 hA267
       refine q_step hA267 rfl (d_move (wn rfl) (hA267.ev rfl) ?_)
       intro a268 hA269
       refine q_step hA269 rfl (d_move (wn rfl) (hA269.ev rfl) ?_)
       intro a270 hA271
       refine q_step hA271 rfl (d_assign (wn rfl) (hA271.ev rfl) ?_)
       intro a272 hA273
       refine q_step hA273 rfl (d_assign (wn rfl) (hA273.ev rfl) ?_)
       intro a274 hA275
       refine q_step hA275 rfl (d_assign (wn rfl) (hA275.ev rfl) ?_)
       intro a276 hA277
       refine q_end ?_
       have hA278 : St 60 [(0, v), (2, (.int .i64 ((j144 : Nat) : Int))), (3, (.int .i64 ((k185 : Nat) : Int))), (4, (.int .i64 (rightR y200 ((k185 : Nat) : Int) ((c166.length : Nat) : Int)))), (7, (.int .i64 ((j144 : Nat) : Int))), (8, y159), (32, v), (33, (.int .i64 ((us.length : Nat) : Int))), (34, (.int .i64 ((j144 : Nat) : Int))), (39, y159), (40, (.int .i64 ((c166.length : Nat) : Int))), (41, (.int .i64 ((k185 : Nat) : Int)))] a276 := hA277.cut _ (fm_cons (hA277.get 0 _ rfl) (fm_cons (hA277.get 2 _ rfl) (fm_cons (hA277.get 3 _ rfl) (fm_cons (hA277.get 4 _ rfl) (fm_cons (hA277.get 7 _ rfl) (fm_cons (hA277.get 8 _ rfl) (fm_cons (hA277.get 32 _ rfl) (fm_cons (hA277.get 33 _ rfl) (fm_cons (hA277.get 34 _ rfl) (fm_cons (hA277.get 39 _ rfl) (fm_cons (hA277.get 40 _ rfl) (fm_cons (hA277.get 41 _ rfl) fm_nil))))))))))))
       refine t_norm ?_
       refine wp_ret ?_
       refine i_ret ?_
       refine t_ret ?_
       refine t_ret ?_
       refine i_ret ?_
       refine i_ret ?_
       refine t_ret ?_
       refine t_ret ?_
       refine i_ret ?_
       refine t_ret ?_
       refine ret3 (x := (.int .i64 ((j144 : Nat) : Int))) (y := (.int .i64 ((k185 : Nat) : Int))) (z := (.int .i64 (rightR y200 ((k185 : Nat) : Int) ((c166.length : Nat) : Int)))) rfl hA278 rfl rfl rfl ?_
       have hr := check_bad (cs := cs) (by omega) (by omega) hlong (hc151.2.trans (bad2_yes hc167 (hc192.2.trans (bad1_yes hy201 hb252))))
       exact ⟨ret_three (by rw [hr]) (by rw [hr]) (by rw [hr]), b244⟩
     ·skip
      have hq279 := of_decide_eq_false hb193
      refine q_step hA189 rfl (d_bin (wn rfl) (hA189.ev rfl) (hA189.ev rfl) (b_lt _ _ ((k185 : Nat) : Int) ((c166.length : Nat) : Int) false _ hb193) ?_)
      intro a280 hA281
      refine q_end ?_
      have hA282 : St 60 [(0, v), (7, (.int .i64 ((j144 : Nat) : Int))), (8, y159), (32, v), (33, (.int .i64 ((us.length : Nat) : Int))), (34, (.int .i64 ((j144 : Nat) : Int))), (39, y159), (40, (.int .i64 ((c166.length : Nat) : Int))), (41, (.int .i64 ((k185 : Nat) : Int))), (42, (.bool false))] a280 := hA281.cut _ (fm_cons (hA281.get 0 _ rfl) (fm_cons (hA281.get 7 _ rfl) (fm_cons (hA281.get 8 _ rfl) (fm_cons (hA281.get 32 _ rfl) (fm_cons (hA281.get 33 _ rfl) (fm_cons (hA281.get 34 _ rfl) (fm_cons (hA281.get 39 _ rfl) (fm_cons (hA281.get 40 _ rfl) (fm_cons (hA281.get 41 _ rfl) (fm_cons (hA281.get 42 _ rfl) fm_nil))))))))))
      refine t_norm ?_
      refine wp_seq ?_
      refine c_false hA282 rfl ?_
      refine wp_exit ?_
      refine t_exit ?_
      refine t_exit ?_
      refine i_here ?_
      refine i_norm ?_
      refine t_norm ?_
      refine wp_region_lit ?_
      refine q_step hA282 rfl (d_bin (wn rfl) (hA282.ev rfl) (hA282.ev rfl) (b_add _ _ ((j144 : Nat) : Int) 1 _ (by omega) (by omega)) ?_)
      intro a283 hA284
      refine q_step hA284 rfl (d_move (wn rfl) (hA284.ev rfl) ?_)
      intro a285 hA286
      refine q_end ?_
      have hA287 : St 60 [(0, v), (32, v), (33, (.int .i64 ((us.length : Nat) : Int))), (34, (.int .i64 (((j144 : Nat) : Int) + 1)))] a285 := hA286.cut _ (fm_cons (hA286.get 0 _ rfl) (fm_cons (hA286.get 32 _ rfl) (fm_cons (hA286.get 33 _ rfl) (fm_cons (hA286.get 34 _ rfl) fm_nil))))
      refine t_norm ?_
      exact ⟨cs.length - (j144 + 1), (by rw [hm150]; omega), j144 + 1, rfl, ⟨by have := get_lt hc167; omega, hc151.2.trans (bad2_at hc167 (hc192.2.trans (by rw [drop_end (by omega)]; rfl)))⟩, hA287.cut _ (fm_cons (hA287.get 0 _ rfl) (fm_cons (hA287.get 32 _ rfl) (fm_cons (hA287.get 33 _ rfl) (fm_cons ((hA287.get 34 _ rfl).trans (congrArg (Value.int .i64) (by omega))) fm_nil)))), b190⟩
    ·skip
     have hq288 := of_decide_eq_false hb152
     refine q_step hA148 rfl (d_bin (wn rfl) (hA148.ev rfl) (hA148.ev rfl) (b_lt _ _ ((j144 : Nat) : Int) ((us.length : Nat) : Int) false _ hb152) ?_)
     intro a289 hA290
     refine q_end ?_
     have hA291 : St 60 [(0, v), (32, v), (33, (.int .i64 ((us.length : Nat) : Int))), (34, (.int .i64 ((j144 : Nat) : Int))), (35, (.bool false))] a289 := hA290.cut _ (fm_cons (hA290.get 0 _ rfl) (fm_cons (hA290.get 32 _ rfl) (fm_cons (hA290.get 33 _ rfl) (fm_cons (hA290.get 34 _ rfl) (fm_cons (hA290.get 35 _ rfl) fm_nil)))))
     refine t_norm ?_
     refine wp_seq ?_
     refine c_false hA291 rfl ?_
     refine wp_exit ?_
     refine t_exit ?_
     refine t_exit ?_
     refine i_here ?_
     refine t_norm ?_
     refine wp_seq ?_
     refine wp_region_lit ?_
     refine q_step hA291 rfl (d_move (wn rfl) (hA291.ev rfl) ?_)
     intro a292 hA293
     refine q_step hA293 rfl (d_call (wn rfl) ent33 (map1 (hA293.ev rfl)) (checkCounts_any cs v w147 ((hCs.below b149).mono b149.size) (by omega) (by omega)) ?_)
     rintro e297 w294 ⟨he296, hG295⟩
     have b298 := below_grow b149 hG295 b149.size
     refine ⟨(.int .i64 (cntsR cs)), he296, ?_⟩
     intro a299 hA300
     refine q_step hA300 rfl (d_assign (wn rfl) (hA300.ev rfl) ?_)
     intro a301 hA302
     refine q_step hA302 rfl (d_assign (wn rfl) (hA302.ev rfl) ?_)
     intro a303 hA304
     refine q_step hA304 rfl (d_assign (wn rfl) (hA304.ev rfl) ?_)
     intro a305 hA306
     refine q_end ?_
     have hA307 : St 60 [(2, (.int .i64 0)), (3, (.int .i64 0)), (4, (.int .i64 (cntsR cs)))] a305 := hA306.cut _ (fm_cons (hA306.get 2 _ rfl) (fm_cons (hA306.get 3 _ rfl) (fm_cons (hA306.get 4 _ rfl) fm_nil)))
     refine t_norm ?_
     refine wp_ret ?_
     refine ret3 (x := (.int .i64 0)) (y := (.int .i64 0)) (z := (.int .i64 (cntsR cs))) rfl hA307 rfl rfl rfl ?_
     have hr := check_none (cs := cs) (by omega) (by omega) hlong ((hc151.2).trans (by rw [drop_end (by omega)]; rfl))
     exact ⟨ret_three (by rw [hr]) (by rw [hr]) (by rw [hr]), b298⟩
end Go.Proofs.Ytlhompedcphnnaa
/- The law on regions that draw their order and end with one store that waits for all else; one operation that turns memory for good (an append) may come late, with nothing but plain operations behind it. -/
namespace Go.Proofs.Ytlhompedcphnnaa
open Go.RowKit

/-- what is known behind operation y's wait -/
def Ahead (ops : Array Oper) (S : World → World → Prop) (tab : Nat → Cl S) (pure : Nat → Option Value) (W : Value → World → Prop) (w : World) (len : Nat) (a' : Act) (w' : World) : Option Nat → Prop
  | none => S w w' ∧ ∀ j, j < len → (tab j).P (valOf ops a' j) w'
  | some x => (∀ j v, j < len → j ≠ x → pure j = some v → valOf ops a' j = v) ∧ W (valOf ops a' x) w'
section
variable {P : Program} {l : List Oper} {y : Oper} {Q : Exit → Act → World → Prop} {S : World → World → Prop} {n : Nat} {T : List (Nat × Value)} {w : World}
/-- each of a list is waited for, by the operation or by one that stands ahead in the list -/
def covB (l : List Oper) (o : Oper) : List Nat → List Nat → Bool
  | [], _ => true
  | j :: c, acc => (waits o j || acc.any fun m => match l[m]? with | some p => waits p j | none => false) && covB l o c (j :: acc)
theorem cov {o : Oper} {L : Nat → Prop} (ho : ∀ j, waits o j = true → L j) (hcl : ∀ m p, l[m]? = some p → L m → ∀ j, waits p j = true → L j) : ∀ (c acc : List Nat), (∀ m ∈ acc, L m) → covB l o c acc = true → ∀ j ∈ c, L j
  | [], _, _, _ => fun j hj => by cases hj
  | j :: c, acc, ha, h => by
    unfold covB at h
    rw [Bool.and_eq_true, Bool.or_eq_true] at h
    have hj : L j := by
      rcases h.1 with h1 | h1
      · exact ho j h1
      · rw [List.any_eq_true] at h1
        obtain ⟨m, hm, h2⟩ := h1
        cases hp : l[m]? with
        | none => simp [hp] at h2
        | some p => simp only [hp] at h2; exact hcl m p hp (ha m hm) j h2
    exact List.forall_mem_cons.2 ⟨hj, cov ho hcl c (j :: acc) (List.forall_mem_cons.2 ⟨hj, ha⟩) h.2⟩
/-- the last operation waits for all others; the late one for all that are not plain -/
def lateB (l : List Oper) (y : Oper) (xi : Option Nat) (pb : Nat → Bool) (cy cx : List Nat) : Bool :=
  y.dst.isNone && (y.after.toList.all fun e => !Region.binds .any e || decide (e.on < l.length)) && (covB l y cy [] && (List.range l.length).all fun j => cy.contains j) &&
  match xi with
  | none => true
  | some x => decide (x < l.length) && !pb x && (match l[x]? with | some o => covB l o cx [] | none => false) && ((List.range l.length).all fun i => i == x || pb i || cx.contains i)
theorem late_spec {xi : Option Nat} {pb : Nat → Bool} {cy cx : List Nat} (h : lateB l y xi pb cy cx = true) : y.dst = none ∧ (∀ e ∈ y.after, Region.binds .any e = true → e.on < l.length) ∧ (covB l y cy [] = true ∧ ∀ j, j < l.length → j ∈ cy) ∧
    ∀ x, xi = some x → x < l.length ∧ pb x = false ∧ (∀ o, l[x]? = some o → covB l o cx [] = true) ∧ ∀ i, i < l.length → i ≠ x → pb i = false → i ∈ cx := by
  unfold lateB at h
  rw [Bool.and_eq_true, Bool.and_eq_true, Bool.and_eq_true, Bool.and_eq_true] at h
  obtain ⟨⟨⟨h1, h2⟩, h3, h3'⟩, h4⟩ := h
  refine ⟨by simpa using h1, fun e he hb => by have := (List.all_eq_true.1 h2) e (by simpa using he); simpa [hb] using this, ⟨h3, fun j hj => by simpa using (List.all_eq_true.1 h3') j (by simpa using hj)⟩, fun x hx => ?_⟩
  subst hx
  simp only [Bool.and_eq_true, decide_eq_true_eq, Bool.not_eq_true'] at h4
  obtain ⟨⟨⟨h5, h5'⟩, h6⟩, h7⟩ := h4
  refine ⟨h5, h5', fun o ho => by simpa [ho] using h6, fun i hi hne hp => ?_⟩
  have := (List.all_eq_true.1 h7) i (by simpa using hi)
  simp only [hp, Bool.or_false, Bool.or_eq_true, beq_iff_eq] at this
  simpa using this.resolve_left hne
theorem late_any {cy cx : List Nat} (tab : Nat → Cl S) (xi : Option Nat) (pure : Nat → Option Value) (W : Value → World → Prop) (hrefl : ∀ w, S w w) (htrans : ∀ a b c, S a b → S b c → S a c) (hfit : fitB l.toArray n T = true) (hlate : lateB l y xi (fun i => (pure i).isSome) cy cx = true)
    (hcv : ∀ i v u w', pure i = some v → ((tab i).P u w' ↔ u = v))
    (hop : ∀ i o, l[i]? = some o → xi ≠ some i → pure i = none → Obl P (l ++ [y]).toArray S n T tab w i o)
    (hpu : ∀ i o v, l[i]? = some o → xi ≠ some i → pure i = some v → ∀ a' w', St n T a' → (∀ j u, waits o j = true → pure j = some u → valOf (l ++ [y]).toArray a' j = u) → (xi = none → ∀ j, waits o j = true → (tab j).P (valOf (l ++ [y]).toArray a' j) w') → Does P (l ++ [y]).toArray o a' w' fun v' w'' => w'' = w' ∧ seenV o v' = v)
    (hxo : ∀ x o, xi = some x → l[x]? = some o → ∀ a' w', S w w' → St n T a' → (∀ j, waits o j = true → (tab j).P (valOf (l ++ [y]).toArray a' j) w') → Does P (l ++ [y]).toArray o a' w' fun v w'' => W (seenV o v) w'')
    (hyo : ∀ a' w', St n T a' → Ahead (l ++ [y]).toArray S tab pure W w l.length a' w' xi → Does P (l ++ [y]).toArray y a' w' fun _ w'' => Q .normal a' w'') :
    ∀ (fuel : Nat) (listed : Array Bool) (a' : Act) (w' : World), listed.size = l.length + 1 → listed.getD l.length true = false → ((List.range (l.length + 1)).filter fun i => !listed.getD i true).length ≤ fuel → St n T a' → (∀ m p, l[m]? = some p → listed.getD m false = true → ∀ j, waits p j = true → listed.getD j false = true) →
      ((∀ x, xi = some x → listed.getD x false = false) → S w w' ∧ ∀ i, i < l.length → listed.getD i false = true → (tab i).P (valOf (l ++ [y]).toArray a' i) w') →
      (∀ x, xi = some x → listed.getD x false = true → W (valOf (l ++ [y]).toArray a' x) w' ∧ ∀ i, i < l.length → i ≠ x → (pure i = none → listed.getD i false = true) ∧ ∀ v, pure i = some v → listed.getD i false = true → valOf (l ++ [y]).toArray a' i = v) →
      wpAny P .any (l ++ [y]).toArray Q fuel listed a' w' := by
  obtain ⟨hyd, hyg, hyw, hxs⟩ := late_spec hlate
  have hat : ∀ i, i < l.length → (l ++ [y]).toArray[i]? = l[i]? := fun i hi => by simp [List.getElem?_append_left hi]
  have hlast : (l ++ [y]).toArray[l.length]? = some y := by simp
  have hdl : ∀ i, i < l.length → dstOf (l ++ [y]).toArray i = dstOf l.toArray i := fun i hi => by unfold dstOf; rw [hat i hi]; simp
  have hwl : ∀ i o, l[i]? = some o → ∀ j, waits o j = true → j < i := fun i o ho j hj => by
    obtain ⟨_, hfe⟩ := fit_spec hfit (show l.toArray[i]? = some o by simpa using ho)
    unfold waits at hj
    rw [List.any_eq_true] at hj
    obtain ⟨e, he, hb⟩ := hj
    simp only [Bool.and_eq_true, beq_iff_eq] at hb
    have := hfe e (by simpa using he) hb.1
    omega
  intro fuel
  induction fuel with
  | zero =>
    intro listed a' w' hls hlun hf
    exfalso
    have hnil : ((List.range (l.length + 1)).filter fun i => !listed.getD i true) = [] := List.eq_nil_of_length_eq_zero (by omega)
    rw [List.filter_eq_nil_iff] at hnil
    have := hnil l.length (by simp)
    rw [hlun] at this; simp at this
  | succ fuel ih =>
    intro listed a' w' hls hlun hf hT hclo hpre hpost
    refine ⟨fun hr => ?_, fun i hi => ?_⟩
    · exfalso
      have all : ∀ i, i < l.length + 1 → listed.getD i false = true := by
        intro i
        induction i using Nat.strongRecOn with
        | _ i ihi =>
          intro hi
          cases hl : listed.getD i false with
          | true => rfl
          | false =>
            exfalso
            have hli : i < listed.size := by omega
            have hmem : i ∈ Region.ready .any (l ++ [y]).toArray listed := by
              rw [mem_ready]
              refine ⟨by simpa [hli] using hl, ?_⟩
              rcases Nat.lt_or_ge i l.length with h1 | h1
              · refine ⟨l[i], by rw [hat i h1]; simp [h1], fun e he hb => ?_⟩
                have hlt := (fit_spec hfit (show l.toArray[i]? = some l[i] by simp [h1])).2 e he hb
                exact ihi e.on hlt (by omega)
              · have hie : i = l.length := by omega
                subst hie
                refine ⟨y, hlast, fun e he hb => ?_⟩
                have hlt := hyg e he hb
                exact ihi e.on hlt (by omega)
            rw [hr] at hmem; cases hmem
      have h1 := all l.length (by omega)
      have hll : l.length < listed.size := by omega
      simp [hll] at h1 hlun
      rw [h1] at hlun; cases hlun
    · obtain ⟨hun, o, hoi, hall⟩ := mem_ready.1 hi
      have hil : i < l.length + 1 := by have := (Array.getElem?_eq_some_iff.1 hoi).1; simpa using this
      have hlw : ∀ j, waits o j = true → listed.getD j false = true := fun j hj => by
        unfold waits at hj
        rw [List.any_eq_true] at hj
        obtain ⟨e, he, hb⟩ := hj
        simp only [Bool.and_eq_true, beq_iff_eq] at hb
        rw [← hb.2]; exact hall e (by simpa using he) hb.1
      have hunf : listed.getD i false = false := by
        have : i < listed.size := by omega
        simpa [this] using hun
      rcases Nat.lt_or_ge i l.length with hlt | hge
      · have hoi' : l[i]? = some o := by rw [← hat i hlt]; exact hoi
        obtain ⟨hfd, hfe⟩ := fit_spec hfit (show l.toArray[i]? = some o by simpa using hoi')
        have hdi : dstOf (l ++ [y]).toArray i = o.dst := by unfold dstOf; rw [hoi]; rfl
        have vi : ∀ v, valOf (l ++ [y]).toArray (a'.put o.dst v) i = seenV o v := fun v => by
          unfold valOf seenV
          rw [hdi]
          cases hd : o.dst with
          | none => rfl
          | some d =>
            have hdl' : d < a'.tmps.size := by rw [hT.size]; exact (hfd d hd).1
            simp [Act.put, hdl']
        have vj : ∀ v j, j < l.length → j ≠ i → valOf (l ++ [y]).toArray (a'.put o.dst v) j = valOf (l ++ [y]).toArray a' j := fun v j hj hne => by
          unfold valOf
          rw [hdl j hj]
          cases hdj : dstOf l.toArray j with
          | none => rfl
          | some d' =>
            cases hd : o.dst with
            | none => rfl
            | some d =>
              have hnd : d ≠ d' := fun e => by subst e; exact hne ((hfd d hd).2.1 j (by simpa using hj) hdj)
              simp [Act.put, Array.getD_eq_getD_getElem?, Array.getElem?_setIfInBounds_ne hnd]
        have hTp : ∀ v, St n T (a'.put o.dst v) := fun v => by
          cases hd : o.dst with
          | none => exact hT
          | some d =>
            obtain ⟨hdn, _, hTd⟩ := hfd d hd
            have hp := hT.put hdn v
            refine ⟨hp.size, hp.defers, fun t u hu => hp.get t u ?_⟩
            have hne : t ≠ d := hTd (t, u) (lookup_mem hu)
            rw [List.lookup_cons]
            have : (t == d) = false := by simpa using hne
            simp only [this]; exact hu
        have go : ∀ v w2, ((∀ x, xi = some x → (listed.setIfInBounds i true).getD x false = false) → S w w2 ∧ ∀ k, k < l.length → (listed.setIfInBounds i true).getD k false = true → (tab k).P (valOf (l ++ [y]).toArray (a'.put o.dst v) k) w2) →
            (∀ x, xi = some x → (listed.setIfInBounds i true).getD x false = true → W (valOf (l ++ [y]).toArray (a'.put o.dst v) x) w2 ∧ ∀ k, k < l.length → k ≠ x → (pure k = none → (listed.setIfInBounds i true).getD k false = true) ∧ ∀ u, pure k = some u → (listed.setIfInBounds i true).getD k false = true → valOf (l ++ [y]).toArray (a'.put o.dst v) k = u) →
            wpAny P .any (l ++ [y]).toArray Q fuel (listed.setIfInBounds i true) (a'.put o.dst v) w2 := fun v w2 h1 h2 => by
          have hcl2 : ∀ m p, l[m]? = some p → (listed.setIfInBounds i true).getD m false = true → ∀ j, waits p j = true → (listed.setIfInBounds i true).getD j false = true := fun m p hp hm j hj => by
            have hj' : listed.getD j false = true := by
              by_cases hmi : m = i
              · subst hmi; rw [hoi'] at hp; cases hp; exact hlw j hj
              · exact hclo m p hp (by rwa [set_ne false (Ne.symm hmi)] at hm) j hj
            by_cases hji : j = i
            · subst hji; rw [hunf] at hj'; cases hj'
            · rw [set_ne false (Ne.symm hji)]; exact hj'
          refine ih _ _ _ (by simpa using hls) (by rw [set_ne true (by omega)]; exact hlun) ?_ (hTp v) hcl2 h1 h2
          have hlt' : i < listed.size := by omega
          have : ((List.range (l.length + 1)).filter fun k => !(listed.setIfInBounds i true).getD k true).length < ((List.range (l.length + 1)).filter fun k => !listed.getD k true).length := by
            have hsub : ((List.range (l.length + 1)).filter fun k => !(listed.setIfInBounds i true).getD k true) = ((List.range (l.length + 1)).filter fun k => !listed.getD k true).filter (fun k => k != i) := by
              rw [List.filter_filter]
              apply List.filter_congr
              intro k _
              by_cases hk : k = i
              · subst hk; simp [hlt']
              · rw [set_ne true (Ne.symm hk)]; simp [hk]
            rw [hsub]
            refine List.length_filter_lt_length_iff_exists.2 ⟨i, ?_, by simp⟩
            simp only [List.mem_filter, List.mem_range]
            exact ⟨hil, by rw [hun]; rfl⟩
          omega
        have hseti : (listed.setIfInBounds i true).getD i false = true := by
          have : i < listed.size := by omega
          simp [this]
        have hset : ∀ k, k ≠ i → (listed.setIfInBounds i true).getD k false = listed.getD k false := fun k hk => set_ne false (Ne.symm hk)
        have run : ∀ (K : Value → World → Prop), Does P (l ++ [y]).toArray o a' w' K → (∀ v w2, K v w2 → wpAny P .any (l ++ [y]).toArray Q fuel (listed.setIfInBounds i true) (a'.put o.dst v) w2) → wpOp P (l ++ [y]).toArray Q i (wpAny P .any (l ++ [y]).toArray Q fuel (listed.setIfInBounds i true)) a' w' := fun K hD hk => by
          unfold wpOp
          rcases hD with ⟨hw, h⟩ | ⟨hw, h⟩
          · simp only [hoi, hw, if_true]
            refine .inl (Oper.wp_mono (fun a2 w2 h => ?_) (h Q))
            obtain ⟨v, rfl, hv⟩ := h
            exact hk v w2 hv
          · simp only [hoi, hw, Bool.false_eq_true, if_false]
            exact hk undef w' h
        by_cases hxi : xi = some i
        · have hnot : ∀ x, xi = some x → listed.getD x false = false := fun x hx => by rw [hxi] at hx; cases hx; exact hunf
          obtain ⟨hS, hcl⟩ := hpre hnot
          obtain ⟨_, _, hx1, hx2⟩ := hxs i hxi
          have hxc := cov (L := fun j => listed.getD j false = true) hlw hclo cx [] (fun _ h => by cases h) (hx1 o hoi')
          refine run _ (hxo i o hxi hoi' a' w' hS hT fun j hj => hcl j (by have := hwl i o hoi' j hj; omega) (hlw j hj)) fun v w2 hv => go v w2 (fun h => ?_) fun x hx hlx => ?_
          · have := h i hxi; rw [hseti] at this; cases this
          · rw [hxi] at hx; cases hx
            refine ⟨by rw [vi]; exact hv, fun k hk hne => ⟨fun hp => ?_, fun u hu hlk => ?_⟩⟩
            · rw [hset k hne]; exact hxc k (hx2 k hk hne (by simp [hp]))
            · rw [hset k hne] at hlk
              rw [vj v k hk hne]
              exact (hcv k u _ w' hu).1 (hcl k hk hlk)
        · by_cases hL : ∃ x, xi = some x ∧ listed.getD x false = true
          · obtain ⟨x, hx, hlx⟩ := hL
            obtain ⟨hW, hall2⟩ := hpost x hx hlx
            have hix : i ≠ x := fun e => hxi (by rw [hx, e])
            obtain ⟨hxl, hxp, _, _⟩ := hxs x hx
            cases hp : pure i with
            | none => have := (hall2 i hlt hix).1 hp; rw [hunf] at this; cases this
            | some v0 =>
              refine run _ (hpu i o v0 hoi' hxi hp a' w' hT (fun j u hj hu => ?_) (fun h => by rw [hx] at h; cases h)) fun v w2 hv => ?_
              · have hjl : j < l.length := by have := hwl i o hoi' j hj; omega
                have hjx : j ≠ x := fun e => by subst e; simp [hu] at hxp
                exact (hall2 j hjl hjx).2 u hu (hlw j hj)
              · obtain ⟨rfl, hv⟩ := hv
                refine go v w2 (fun h => ?_) fun x' hx' hlx' => ?_
                · have := h x hx; rw [hset x (Ne.symm hix), hlx] at this; cases this
                · rw [hx] at hx'; cases hx'
                  refine ⟨by rw [vj v x hxl (Ne.symm hix)]; exact hW, fun k hk hne => ⟨fun hpk => ?_, fun u hu hlk => ?_⟩⟩
                  · by_cases hki : k = i
                    · subst hki; exact hseti
                    · rw [hset k hki]; exact (hall2 k hk hne).1 hpk
                  · by_cases hki : k = i
                    · subst hki; rw [hp] at hu; cases hu; rw [vi]; exact hv
                    · rw [hset k hki] at hlk; rw [vj v k hk hki]; exact (hall2 k hk hne).2 u hu hlk
          · have hnot : ∀ x, xi = some x → listed.getD x false = false := fun x hx => by
              cases h : listed.getD x false with
              | false => rfl
              | true => exact absurd ⟨x, hx, h⟩ hL
            obtain ⟨hS, hcl⟩ := hpre hnot
            have hclw : ∀ j, waits o j = true → (tab j).P (valOf (l ++ [y]).toArray a' j) w' := fun j hj => hcl j (by have := hwl i o hoi' j hj; omega) (hlw j hj)
            have fin : ∀ v w2, S w' w2 → (tab i).P (seenV o v) w2 → wpAny P .any (l ++ [y]).toArray Q fuel (listed.setIfInBounds i true) (a'.put o.dst v) w2 := fun v w2 hS2 hv => by
              refine go v w2 (fun _ => ⟨htrans _ _ _ hS hS2, fun k hk hlk => ?_⟩) fun x hx hlx => ?_
              · by_cases hki : k = i
                · subst hki; rw [vi]; exact hv
                · rw [hset k hki] at hlk; rw [vj v k hk hki]; exact (tab k).st _ _ _ hS2 (hcl k hk hlk)
              · have hne : x ≠ i := fun e => hxi (by rw [hx, e])
                rw [hset x hne, hnot x hx] at hlx; cases hlx
            cases hp : pure i with
            | none => exact run _ (hop i o hoi' hxi hp a' w' hS hT hclw) fun v w2 hv => fin v w2 hv.1 hv.2
            | some v0 =>
              refine run _ (hpu i o v0 hoi' hxi hp a' w' hT (fun j u hj hu => (hcv j u _ w' hu).1 (hclw j hj)) (fun _ => hclw)) fun v w2 hv => ?_
              obtain ⟨rfl, hv⟩ := hv
              exact fin v w2 (hrefl _) ((hcv i v0 _ w2 hp).2 hv)
      · have hie : i = l.length := by omega
        subst hie
        rw [hlast] at hoi
        cases hoi
        have hallj : ∀ j, j < l.length → listed.getD j false = true := fun j hj => cov (L := fun j => listed.getD j false = true) hlw hclo cy [] (fun _ h => by cases h) hyw.1 j (hyw.2 j hj)
        have hah : Ahead (l ++ [y]).toArray S tab pure W w l.length a' w' xi := by
          cases hx : xi with
          | none =>
            obtain ⟨hS, hcl⟩ := hpre (fun x h => by rw [hx] at h; cases h)
            exact ⟨hS, fun j hj => hcl j hj (hallj j hj)⟩
          | some x =>
            obtain ⟨hxl, _, _, _⟩ := hxs x hx
            obtain ⟨hW, hall2⟩ := hpost x hx (hallj x hxl)
            exact ⟨fun j v hj hne hp => (hall2 j hj hne).2 v hp (hallj j hj), hW⟩
        have hready : Region.ready .any (l ++ [y]).toArray (listed.setIfInBounds l.length true) = [] := by
          unfold Region.ready
          rw [List.filter_eq_nil_iff]
          intro j hj
          have hj' : j < l.length + 1 := by simpa using hj
          have hlj : (listed.setIfInBounds l.length true).getD j true = true := by
            by_cases h1 : j = l.length
            · subst h1
              have : l.length < listed.size := by omega
              simp [this]
            · rw [set_ne true (Ne.symm h1)]
              have h2 := hallj j (by omega)
              have : j < listed.size := by omega
              simpa [this] using h2
          rw [hlj]; simp
        have done : ∀ w2, Q .normal a' w2 → wpAny P .any (l ++ [y]).toArray Q fuel (listed.setIfInBounds l.length true) a' w2 := fun w2 hq => by
          cases fuel with
          | zero => exact ⟨hready, hq⟩
          | succ fuel => exact ⟨fun _ => hq, fun j hj => by rw [hready] at hj; cases hj⟩
        unfold wpOp
        rcases hyo a' w' hT hah with ⟨hw, h⟩ | ⟨hw, h⟩
        · simp only [hlast, hw, if_true]
          refine .inl (Oper.wp_mono (fun a2 w2 h => ?_) (h Q))
          obtain ⟨v, rfl, hv⟩ := h
          rw [hyd]; exact done w2 hv
        · simp only [hlast, hw, Bool.false_eq_true, if_false]
          rw [hyd]; exact done w' h
/-- THE LAW. -/
def lastO : List Oper → Option Oper
  | [] => none
  | [x] => some x
  | _ :: x :: xs => lastO (x :: xs)
theorem lastO_spec : ∀ (L : List Oper) (y : Oper), lastO L = some y → L = L.dropLast ++ [y]
  | [], y, h => by simp [lastO] at h
  | [x], y, h => by simp [lastO] at h; subst h; rfl
  | x :: z :: xs, y, h => by
    have := lastO_spec (z :: xs) y (by simpa [lastO] using h)
    rw [List.dropLast_cons_cons, List.cons_append, ← this]
/-- what is owed for operation i: of three kinds -/
def OblL (P : Program) (ops : Array Oper) (S : World → World → Prop) (n : Nat) (T : List (Nat × Value)) (tab : Nat → Cl S) (xi : Option Nat) (pure : Nat → Option Value) (W : Value → World → Prop) (w : World) (i : Nat) (o : Oper) : Prop :=
  (xi ≠ some i ∧ pure i = none ∧ Obl P ops S n T tab w i o) ∨
  (xi ≠ some i ∧ ∃ v, pure i = some v ∧ ∀ a' w', St n T a' → (∀ j u, waits o j = true → pure j = some u → valOf ops a' j = u) → (xi = none → ∀ j, waits o j = true → (tab j).P (valOf ops a' j) w') → Does P ops o a' w' fun v' w'' => w'' = w' ∧ seenV o v' = v) ∨
  (xi = some i ∧ ∀ a' w', S w w' → St n T a' → (∀ j, waits o j = true → (tab j).P (valOf ops a' j) w') → Does P ops o a' w' fun v w'' => W (seenV o v) w'')
def EachD (P : Program) (ops : Array Oper) (S : World → World → Prop) (n : Nat) (T : List (Nat × Value)) (tab : Nat → Cl S) (xi : Option Nat) (pure : Nat → Option Value) (W : Value → World → Prop) (w : World) (k : Nat) (L : List Oper) : Prop :=
  ∀ i o, L.dropLast[i]? = some o → OblL P ops S n T tab xi pure W w (k + i) o
theorem eachD_one {ops : Array Oper} {tab : Nat → Cl S} {xi : Option Nat} {pure : Nat → Option Value} {W : Value → World → Prop} {k : Nat} {o : Oper} : EachD P ops S n T tab xi pure W w k [o] := fun i p h => by simp at h
theorem eachD_cons {ops : Array Oper} {tab : Nat → Cl S} {xi : Option Nat} {pure : Nat → Option Value} {W : Value → World → Prop} {k : Nat} {o p : Oper} {L : List Oper} (h : OblL P ops S n T tab xi pure W w k o) (ht : EachD P ops S n T tab xi pure W w (k + 1) (p :: L)) : EachD P ops S n T tab xi pure W w k (o :: p :: L) := fun i q hq => by
  rw [List.dropLast_cons_cons] at hq
  cases i with
  | zero => simp at hq; subst hq; exact h
  | succ i => have := ht i q (by simpa using hq); rwa [show k + 1 + i = k + (i + 1) by omega] at this
theorem drawnL {id : Nat} {L : List Oper} {a : Act} (hy : lastO L = some y) (tab : Nat → Cl S) (xi : Option Nat) (pure : Nat → Option Value) (W : Value → World → Prop) (cy cx : List Nat) (hm : P.follows .mixedOrders = true) (hrefl : ∀ w, S w w) (htrans : ∀ a b c, S a b → S b c → S a c) (hA : St n T a)
    (hfit : fitB L.dropLast.toArray n T = true) (hlate : lateB L.dropLast y xi (fun i => (pure i).isSome) cy cx = true) (hcv : ∀ i v u w', pure i = some v → ((tab i).P u w' ↔ u = v))
    (hop : EachD P L.toArray S n T tab xi pure W w.drew 0 L)
    (hyo : ∀ a' w', St n T a' → Ahead L.toArray S tab pure W w.drew (L.length - 1) a' w' xi → Does P L.toArray y a' w' fun _ w'' => Q .normal a' w'') : (Code.region id L.toArray true).wp P Q a w := by
  have hL := lastO_spec L y hy
  have hl : L.dropLast.length = L.length - 1 := by simp
  generalize hD : L.dropLast = D at *
  have hops : L.toArray = (D ++ [y]).toArray := by rw [hL]
  rw [hops] at hop hyo ⊢
  rw [← hl] at hyo
  have hop' : ∀ i o, D[i]? = some o → OblL P (D ++ [y]).toArray S n T tab xi pure W w.drew i o := fun i o h => by
    have := hop i o (by rw [hD]; exact h)
    rwa [Nat.zero_add] at this
  refine wp_region_any hm ?_
  refine late_any (w := w.drew) tab xi pure W hrefl htrans hfit hlate hcv (fun i o h h1 h2 => ?_) (fun i o v h h1 h2 => ?_) (fun x o h h1 => ?_) hyo _ _ _ _ (by simp) (by simp) ?_ hA (fun m p _ h => ?_) (fun _ => ⟨hrefl _, fun i _ hi => ?_⟩) (fun x _ hx => ?_)
  · rcases hop' i o h with ⟨_, _, h3⟩ | ⟨_, v, h3, _⟩ | ⟨h3, _⟩
    · exact h3
    · rw [h2] at h3; cases h3
    · exact absurd h3 h1
  · rcases hop' i o h with ⟨_, h3, _⟩ | ⟨_, v', h3, h4⟩ | ⟨h3, _⟩
    · rw [h2] at h3; cases h3
    · rw [h2] at h3; cases h3; exact h4
    · exact absurd h3 h1
  · rcases hop' x o h1 with ⟨h3, _⟩ | ⟨h3, _⟩ | ⟨_, h4⟩
    · exact absurd h h3
    · exact absurd h h3
    · exact h4
  · exact Nat.le_trans (List.length_filter_le _ _) (by simp)
  · exfalso
    simp [Array.getD_eq_getD_getElem?, Array.getElem?_replicate] at h; split at h <;> simp at h
  · exfalso
    simp [Array.getD_eq_getD_getElem?, Array.getElem?_replicate] at hi; split at hi <;> simp at hi
  · exfalso
    simp [Array.getD_eq_getD_getElem?, Array.getElem?_replicate] at hx; split at hx <;> simp at hx
end
end Go.Proofs.Ytlhompedcphnnaa
/- Slices that are made and appended to, for the engine. -/
namespace Go.Proofs.Ytlhompedcphnnaa
open Go.RowKit

section
variable {P : Program} {ops : Array Oper} {a : Act} {w : World} {K : Value → World → Prop} {d : Option Tmp} {ty : TypeId} {pos : String} {af : Array Edge} {gd : Option (Nat × Bool)} {v : Value}
theorem d_indexArrP {t n e s g o j p : Nat} {x ix : Operand} (hw : Region.wanted { dst := d, op := .indexAddr t x ix, type := ty, pos := pos, after := af, guard := gd } (yielded ops a.tmps) = true) (hx : a.eval x = .pointer (some ⟨g, o, none⟩)) (hi : a.eval ix = .int .i64 (j : Int))
    (ht : arrB P t n e s = true) (hj : j < n) (hp : o + j * s = p) (h : K (.pointer (some ⟨g, p, none⟩)) w) : Does P ops { dst := d, op := .indexAddr t x ix, type := ty, pos := pos, after := af, guard := gd } a w K := by
  subst hp; exact d_indexArr hw hx hi ht hj h
/-- of a type: its zero, its cells, its bytes -/
def elemB (P : Program) (t e s by_ : Nat) : Bool := sliceB P t e s && (match P.info? e with | some i => (match i.zero with | some z => z.cells.size == s | none => false) && i.bytes == by_ | none => false) && decide (0 < s)
theorem elem_facts {t e s by_ : Nat} (h : elemB P t e s by_ = true) : ∃ i z, P.underlying t = some (.slice e) ∧ P.info? e = some i ∧ i.zero = some z ∧ i.size = s ∧ i.bytes = by_ ∧ z.cells.size = s ∧ 0 < s := by
  unfold elemB at h
  rw [Bool.and_eq_true, Bool.and_eq_true, decide_eq_true_eq] at h
  obtain ⟨⟨h1, h2⟩, h3⟩ := h
  obtain ⟨h4, h5⟩ := slice_facts h1
  cases hq : P.info? e with
  | none => simp [hq] at h2
  | some i =>
    cases hz : i.zero with
    | none => simp [hq, hz] at h2
    | some z => simp [hq, hz] at h2 h5; exact ⟨i, z, h4, rfl, hz, h5, h2.2, h2.1, h3⟩
/-- one element laid into a new slice -/
theorem d_slice1 {t e s by_ : Nat} {x : Operand} (hw : Region.wanted { dst := d, op := .buildSlice t 1 #[(0, x)], type := ty, pos := pos, after := af, guard := gd } (yielded ops a.tmps) = true) (hx : a.eval x = v) (ht : elemB P t e s by_ = true) (hs : v.cells.size = s) (hsm : s ≤ 1000)
    (h : ∀ g w', g = w.heap.size → Grow w w' → Blk w' g v.cells e → K (.slice (some ⟨g, 0, none⟩) 1 1) w') : Does P ops { dst := d, op := .buildSlice t 1 #[(0, x)], type := ty, pos := pos, after := af, guard := gd } a w K := by
  obtain ⟨i, z, hu, hi, hz, hsz, _, hzs, h0⟩ := elem_facts ht
  refine does_val (w' := w.alloc (.cells v.cells e)) hw ?_ (h _ _ rfl ((Grow.refl _).alloc _) (heap_alloc_last w _))
  have hfill : Instr.fill (fun j => some (j * i.size, i.size)) ((Array.range (1 * i.size)).map (z.cells[· % z.cells.size]!)) [(0, v)] = some v.cells := by
    simp only [Instr.fill, hsz, Nat.zero_mul, Nat.one_mul, Array.size_map, Array.size_range]
    rw [if_neg (by simp [hs])]
    congr 1
    have key : ∀ (c : List Value) (k : Nat) (Z : Array Value), k + c.length = Z.size → ((c.zipIdx k).foldl (fun cs (x : Value × Nat) => cs.setIfInBounds (0 + x.2) x.1) Z).toList = Z.toList.take k ++ c := by
      intro c
      induction c with
      | nil => intro k Z hk; simp at hk ⊢; rw [List.take_of_length_le (by simp; omega)]
      | cons u c ih =>
        intro k Z hk
        simp only [List.length_cons] at hk
        rw [List.zipIdx_cons, List.foldl_cons, ih (k + 1) _ (by simp; omega)]
        simp only [Nat.zero_add, Array.toList_setIfInBounds]
        have hk' : k < Z.toList.length := by simp; omega
        rw [List.take_add_one, List.getElem?_set_self hk']
        simp [List.take_set_of_le]
    have hz2 := key v.cells.toList 0 ((Array.range s).map (z.cells[· % z.cells.size]!)) (by simp [hs])
    apply Array.ext'
    rw [← Array.foldl_toList, Array.toList_zipIdx]
    simpa using hz2
  have := run_buildSlice (P := P) w t e 1 #[(0, v)] v.cells i z hu hi hz (by rw [hsz]; omega) (by rw [hsz]; omega) (by simpa using hfill)
  unfold execOp
  simp only [Sem.run_bind, List.map_toArray, List.map_cons, List.map_nil, hx, this, Result.andThen_ok, Sem.run_pure]
theorem d_append {t e s by_ B n gb : Nat} {x y : Operand} {xs : List Value} {cs : Array Value} (hw : Region.wanted { dst := d, op := .call { callee := .builtin .append, args := #[x, y], argTypes := #[t, t] }, type := ty, pos := pos, after := af, guard := gd } (yielded ops a.tmps) = true) (hx : a.eval x = v) (hy : a.eval y = .slice (some ⟨gb, 0, none⟩) 1 1)
    (ht : elemB P t e s by_ = true) (hown : w.ownsRow B e s v n xs) (hb : Blk w gb cs e) (hcs : cs.size = s) (h1 : cs.toList.all (·.oneCell') = true) (hn : n ≤ 1000000) (hby : by_ ≤ 10000) (hB : B ≤ w.heap.size)
    (h : ∀ v' w', w'.ownsRow B e s v' (n + 1) (xs ++ cs.toList) → w.grownBy w' v.ownBlock → (v'.ownBlock = v.ownBlock ∨ v'.ownBlock = some w.heap.size) → K v' w') :
    Does P ops { dst := d, op := .call { callee := .builtin .append, args := #[x, y], argTypes := #[t, t] }, type := ty, pos := pos, after := af, guard := gd } a w K := by
  obtain ⟨i, z, hu, hi, hz, hsz, hbz, hzs, h0⟩ := elem_facts ht
  have hmul : (n + 1) * by_ ≤ 1000001 * 10000 := Nat.mul_le_mul (by omega) hby
  obtain ⟨v', w', hr, h2, h3, _, h5⟩ := run_append_own_at (P := P) w B t ty e i z s by_ hu hi hz hsz hbz hzs h0 v n xs hown ⟨gb, 0, none⟩ 1 1 cs.toList (by simp [hcs])
    (fun j u hj => by rw [Addr.add_mid, Nat.zero_add]; exact hb.cell (by simpa using hj)) (fun u hu => (List.all_eq_true.1 h1) u hu) (by simp only [maxLen]; omega) (by omega) hB
  refine does_val hw ?_ (h v' w' h2 h3 h5)
  unfold execOp
  simp only [resolve, invoke, builtin, Sem.run_bind, Sem.run_pure, Result.andThen_ok, List.map_toArray, List.map_cons, List.map_nil, hx, hy, hr]
end
theorem own_lt {w : World} {b : Nat} {e : TypeId} {s n : Nat} {v : Value} {xs : List Value} (h : w.ownsRow b e s v n xs) : ∀ k, v.ownBlock = some k → b ≤ k ∧ k < w.heap.size := by
  intro k hk
  rcases h.2 with ⟨rfl, _⟩ | ⟨g, cap, cur, rfl, hb, hg, _⟩
  · simp [Value.ownBlock] at hk
  · simp [Value.ownBlock] at hk; subst hk; exact ⟨hb, (Array.getElem?_eq_some_iff.1 hg).1⟩
/-- plain operations' values, and claims of the others -/
def tabQ {S : World → World → Prop} (pl : List (Option Value)) (L : List (Cl S)) (i : Nat) : Cl S := match (pl[i]?).getD none with | some v => cv v | none => (L[i]?).getD cfree
theorem tabQ_cv {S : World → World → Prop} (pl : List (Option Value)) (L : List (Cl S)) : ∀ i v u w', (pl[i]?).getD none = some v → ((tabQ pl L i).P u w' ↔ u = v) := fun i v u w' h => by
  unfold tabQ; rw [h]; exact Iff.rfl
/-- a slice of one element in new memory -/
def cs1 (M : Nat → Option (Array Value)) (hM : ∀ k, M k = none) (cs : Array Value) (e : TypeId) : Cl (SM M) :=
  ⟨fun v w => ∃ g, v = .slice (some ⟨g, 0, none⟩) 1 1 ∧ Blk w g cs e, fun _ _ _ hS ⟨g, h1, h2⟩ => ⟨g, h1, h2.sm hS (hM g)⟩⟩
theorem own_form {w : World} {b : Nat} {e : TypeId} {s n : Nat} {v : Value} {xs : List Value} (h : w.ownsRow b e s v n xs) : ∃ ao cap, v = .slice ao n cap := by
  rcases h.2 with ⟨rfl, rfl⟩ | ⟨g, cap, cur, rfl, _⟩
  · exact ⟨none, 0, rfl⟩
  · exact ⟨_, cap, rfl⟩
theorem own_new {w : World} {b g : Nat} {e : TypeId} {s n : Nat} {v : Value} {xs : List Value} (h : w.ownsRow b e s v n xs) (hg : g = w.heap.size) : v.ownBlock ≠ some g := fun hk => by
  have := (own_lt h _ hk).2; omega
theorem own_grow {w w' : World} {b : Nat} {e : TypeId} {s n : Nat} {v : Value} {xs : List Value} (hg : Grow w w') (h : w.ownsRow b e s v n xs) : w'.ownsRow b e s v n xs := by
  obtain ⟨h1, h2⟩ := h
  refine ⟨h1, ?_⟩
  rcases h2 with h2 | ⟨g, cap, cur, hv, hb, hgg, h3⟩
  · exact .inl h2
  · exact .inr ⟨g, cap, cur, hv, hb, by rw [hg.block g (Array.getElem?_eq_some_iff.1 hgg).1]; exact hgg, h3⟩
theorem own_sm {M : Nat → Option (Array Value)} {w w' : World} {b : Nat} {e : TypeId} {s n : Nat} {v : Value} {xs : List Value} (h : w.ownsRow b e s v n xs) (hS : SM M w w') (hM : ∀ k, M k = none) : w'.ownsRow b e s v n xs := by
  obtain ⟨h1, h2⟩ := h
  refine ⟨h1, ?_⟩
  rcases h2 with h2 | ⟨g, cap, cur, hv, hb, hgg, h3⟩
  · exact .inl h2
  · exact .inr ⟨g, cap, cur, hv, hb, by rw [hS.block g (Array.getElem?_eq_some_iff.1 hgg).1 (hM g)]; exact hgg, h3⟩
theorem own_keep {w w' : World} {b : Nat} {e : TypeId} {s n : Nat} {v : Value} {xs : List Value} (h : w.ownsRow b e s v n xs) (hk : ∀ k, v.ownBlock = some k → w'.heap[k]? = w.heap[k]?) : w'.ownsRow b e s v n xs := by
  obtain ⟨h1, h2⟩ := h
  refine ⟨h1, ?_⟩
  rcases h2 with h2 | ⟨g, cap, cur, hv, hb, hgg, h3⟩
  · exact .inl h2
  · exact .inr ⟨g, cap, cur, hv, hb, by rw [hk g (by rw [hv]; rfl)]; exact hgg, h3⟩
theorem own_upd {w w' : World} {b g : Nat} {e : TypeId} {s n : Nat} {v : Value} {xs : List Value} (h : w.ownsRow b e s v n xs) (hu : Upd g w w') (hne : v.ownBlock ≠ some g) : w'.ownsRow b e s v n xs :=
  own_keep h fun k hk => hu.block k (fun e => hne (by rw [← e]; exact hk))
theorem own_by {w w' : World} {b : Nat} {e : TypeId} {s n : Nat} {v u : Value} {xs : List Value} (h : w.ownsRow b e s v n xs) (hg : w.grownBy w' u.ownBlock) (hap : ∀ k, v.ownBlock = some k → u.ownBlock ≠ some k) : w'.ownsRow b e s v n xs :=
  own_keep h fun k hk => hg.block k (own_lt h k hk).2 (fun e => hap k hk e.symm)
theorem Blk.by {w w' : World} {g : Nat} {cs : Array Value} {t : TypeId} {u : Value} (h : Blk w g cs t) (hg : w.grownBy w' u.ownBlock) (hne : u.ownBlock ≠ some g) : Blk w' g cs t := by
  unfold Blk; rw [hg.block g h.lt (fun e => hne e.symm)]; exact h
theorem below_by {B : Nat} {a w w' : World} {u : Value} (h : Below B a w) (hg : w.grownBy w' u.ownBlock) (hB : B ≤ w.heap.size) (hr : ∀ k, u.ownBlock = some k → B ≤ k) : Below B a w' := h.grown hg hB hr
theorem lies_ne {w : World} {v v' : Value} {g : Nat} (hl : v'.ownBlock = v.ownBlock ∨ v'.ownBlock = some w.heap.size) (h : v.ownBlock ≠ some g) (hg : g < w.heap.size) : v'.ownBlock ≠ some g := by
  rcases hl with hl | hl
  · rw [hl]; exact h
  · rw [hl]; intro e; cases e; omega
theorem lies_ap {w : World} {b : Nat} {e : TypeId} {s n : Nat} {v v' u : Value} {xs : List Value} (hl : v'.ownBlock = v.ownBlock ∨ v'.ownBlock = some w.heap.size) (h : ∀ k, u.ownBlock = some k → v.ownBlock ≠ some k) (hu : w.ownsRow b e s u n xs) : ∀ k, u.ownBlock = some k → v'.ownBlock ≠ some k := fun k hk => by
  rcases hl with hl | hl
  · rw [hl]; exact h k hk
  · rw [hl]; intro e; cases e; have := (own_lt hu _ hk).2; omega
end Go.Proofs.Ytlhompedcphnnaa
/- A code's run by itself: the walk in memory, its events. -/
namespace Go.Proofs.Ytlhompedcphnnaa
open Go.RowKit

structure Ev where
  thread : Int
  pos : Int
  at_ : Int
  op : Int
  loc : Int
  mask : Int
  reads : Bool
  writes : Bool
  old : Int
  new_ : Int
  acq : Bool
  weak : Bool
  rel : Bool
  pred : Int
  succ : Int
  deriving DecidableEq
def evC (e : Ev) : Array Value := #[.int .i64 e.thread, .int .i64 e.pos, .int .i64 e.at_, .int .i64 e.op, .int .i64 e.loc, .int .i64 e.mask, .bool e.reads, .bool e.writes, .int .i64 e.old, .int .i64 e.new_, .bool e.acq, .bool e.weak, .bool e.rel, .int .i64 e.pred, .int .i64 e.succ]
def walkC (p : Int) (r : Nat → Int) (rd ev pa : Value) : Array Value := #[.int .i64 p, .int .i64 (r 0), .int .i64 (r 1), .int .i64 (r 2), .int .i64 (r 3), .int .i64 (r 4), .int .i64 (r 5), .int .i64 (r 6), .int .i64 (r 7), rd, ev, pa]
def regsC (r : Nat → Int) : Array Value := #[.int .i64 (r 0), .int .i64 (r 1), .int .i64 (r 2), .int .i64 (r 3), .int .i64 (r 4), .int .i64 (r 5), .int .i64 (r 6), .int .i64 (r 7)]
def updR (r : Nat → Int) (j : Nat) (x : Int) : Nat → Int := fun k => if k = j then x else r k
theorem walk_get {p : Int} {r : Nat → Int} {rd ev pa : Value} : ∀ {j : Nat}, j < 8 → (walkC p r rd ev pa)[1 + j]? = some (.int .i64 (r j))
  | 0, _ | 1, _ | 2, _ | 3, _ | 4, _ | 5, _ | 6, _ | 7, _ => rfl
theorem walk_set {p : Int} {r : Nat → Int} {rd ev pa : Value} {x : Int} : ∀ {j : Nat}, j < 8 → (walkC p r rd ev pa).setIfInBounds (1 + j) (.int .i64 x) = walkC p (updR r j x) rd ev pa
  | 0, _ | 1, _ | 2, _ | 3, _ | 4, _ | 5, _ | 6, _ | 7, _ => by simp [walkC, updR]
theorem walk_size {p : Int} {r : Nat → Int} {rd ev pa : Value} : (walkC p r rd ev pa).size = 12 := rfl
def orR (r : Nat → Int) (q : Int) (x : Int) : Int := if q == -1 then x else r q.toNat
def ev0 (i : Ins) (n p : Int) : Ev := ⟨0, n, p, i.op, 0, 0, rdB i, wrB i, 0, 0, i.acq, i.weak, i.rel, i.pred, i.succ⟩
end Go.Proofs.Ytlhompedcphnnaa
/- Closed facts on the types and functions of the program. -/
namespace Go.Proofs.Ytlhompedcphnnaa
open Go.RowKit
set_option linter.unusedSimpArgs false
set_option linter.unusedVariables false
theorem arr43 : arrB Try.prog 43 8 3 1 = true := by kernel_rfl
theorem elm30 : elemB Try.prog 30 3 1 8 = true := by kernel_rfl
theorem elm44 : elemB Try.prog 44 52 15 96 = true := by kernel_rfl
theorem ent46 : ((Try.prog.funcs[46]?).map fun fn => (fn.name == "runtime.NumGoroutine", fn.body.isNone)) = some (false, false) := by kernel_rfl
theorem ent47 : ((Try.prog.funcs[47]?).map fun fn => (fn.name == "runtime.NumGoroutine", fn.body.isNone)) = some (false, false) := by kernel_rfl
theorem ent48 : ((Try.prog.funcs[48]?).map fun fn => (fn.name == "runtime.NumGoroutine", fn.body.isNone)) = some (false, false) := by kernel_rfl
theorem ent49 : ((Try.prog.funcs[49]?).map fun fn => (fn.name == "runtime.NumGoroutine", fn.body.isNone)) = some (false, false) := by kernel_rfl
theorem ent57 : ((Try.prog.funcs[57]?).map fun fn => (fn.name == "runtime.NumGoroutine", fn.body.isNone)) = some (false, false) := by kernel_rfl
theorem ent58 : ((Try.prog.funcs[58]?).map fun fn => (fn.name == "runtime.NumGoroutine", fn.body.isNone)) = some (false, false) := by kernel_rfl
theorem ent59 : ((Try.prog.funcs[59]?).map fun fn => (fn.name == "runtime.NumGoroutine", fn.body.isNone)) = some (false, false) := by kernel_rfl
theorem ent67 : ((Try.prog.funcs[67]?).map fun fn => (fn.name == "runtime.NumGoroutine", fn.body.isNone)) = some (false, false) := by kernel_rfl
theorem fo52_4 : fieldOff Try.prog 52 4 = some 4 := by kernel_rfl
theorem fo52_5 : fieldOff Try.prog 52 5 = some 6 := by kernel_rfl
theorem fo52_6 : fieldOff Try.prog 52 6 = some 7 := by kernel_rfl
theorem fo52_7 : fieldOff Try.prog 52 7 = some 8 := by kernel_rfl
theorem fo52_8 : fieldOff Try.prog 52 8 = some 9 := by kernel_rfl
theorem fo62_0 : fieldOff Try.prog 62 0 = some 0 := by kernel_rfl
theorem fo62_1 : fieldOff Try.prog 62 1 = some 1 := by kernel_rfl
theorem fo62_2 : fieldOff Try.prog 62 2 = some 9 := by kernel_rfl
theorem fo62_3 : fieldOff Try.prog 62 3 = some 10 := by kernel_rfl
theorem fo62_4 : fieldOff Try.prog 62 4 = some 11 := by kernel_rfl
theorem one30 : oneB Try.prog 30 = true := by kernel_rfl
theorem one44 : oneB Try.prog 44 = true := by kernel_rfl
theorem places50 : placesOf Try.prog 50 = some [(0, 1), (1, 1)] := by kernel_rfl
theorem places52 : placesOf Try.prog 52 = some [(0, 1), (1, 1), (2, 1), (3, 1), (4, 2), (6, 1), (7, 1), (8, 1), (9, 1), (10, 1), (11, 1), (12, 1), (13, 1), (14, 1)] := by kernel_rfl
theorem row50 : rowB Try.prog 50 2 = true := by kernel_rfl
theorem row52 : rowB Try.prog 52 15 = true := by kernel_rfl
theorem slc30 : sliceB Try.prog 30 3 1 = true := by kernel_rfl
theorem zero50 : (Try.prog.info? 50).map (fun i => (i.zero, i.size)) = some (some (.agg #[.int .i64 0, .int .i64 0]), 2) := by kernel_rfl
theorem zero52 : (Try.prog.info? 52).map (fun i => (i.zero, i.size)) = some (some (.agg #[.int .i64 0, .int .i64 0, .int .i64 0, .int .i64 0, .int .i64 0, .int .i64 0, .bool false, .bool false, .int .i64 0, .int .i64 0, .bool false, .bool false, .bool false, .int .i64 0, .int .i64 0]), 15) := by kernel_rfl
end Go.Proofs.Ytlhompedcphnnaa
/- What a register holds. -/
namespace Go.Proofs.Ytlhompedcphnnaa
open Go.RowKit
set_option linter.unusedSimpArgs false
set_option linter.unusedVariables false
set_option maxHeartbeats 4000000 in
set_option maxRecDepth 4000 in
theorem regOr_none (g : Nat) (p : Int) (r : Nat → Int) (rd ev pa : Value) (x : Int) (w : World) (hb : Blk w g (walkC p r rd ev pa) 62) : Calls Try.prog 47 #[.pointer (some ⟨g, 0, none⟩), .int .i64 (-1), .int .i64 x] w fun e w' => e = .returned (.int .i64 x) ∧ Grow w w' := by
 have b0 : Below w.heap.size w w := Below.refl _ _
 refine enter (n := 16) Try.func47 rfl rfl (Nat.le_of_ble_eq_true rfl) ?_
 intro a1 hA2
 refine wp_seq ?_
 refine wp_region_lit ?_
 refine q_step hA2 rfl (d_assign (wn rfl) (hA2.ev rfl) ?_)
 intro a3 hA4
 refine q_end ?_
 have hA5 : St 16 [(0, (.pointer (some ⟨g, 0, none⟩))), (1, (.int .i64 (-1))), (2, (.int .i64 x)), (6, (.int .i64 0))] a3 := hA4.cut _ (fm_cons (hA4.get 0 _ rfl) (fm_cons (hA4.get 1 _ rfl) (fm_cons (hA4.get 2 _ rfl) (fm_cons (hA4.get 6 _ rfl) fm_nil))))
 refine t_norm ?_
 refine wp_seq ?_
 refine wp_seq ?_
 refine wp_region_lit ?_
 refine q_step hA5 rfl (d_move (wn rfl) (hA5.ev rfl) ?_)
 intro a6 hA7
 refine q_step hA7 rfl (d_bin (wn rfl) (hA7.ev rfl) (hA7.ev rfl) (b_eq _ _ (-1) (-1) true _ rfl) ?_)
 intro a8 hA9
 refine q_end ?_
 have hA10 : St 16 [(0, (.pointer (some ⟨g, 0, none⟩))), (1, (.int .i64 (-1))), (2, (.int .i64 x)), (6, (.int .i64 0)), (8, (.bool true))] a8 := hA9.cut _ (fm_cons (hA9.get 0 _ rfl) (fm_cons (hA9.get 1 _ rfl) (fm_cons (hA9.get 2 _ rfl) (fm_cons (hA9.get 6 _ rfl) (fm_cons (hA9.get 8 _ rfl) fm_nil)))))
 refine t_norm ?_
 refine c_true hA10 rfl ?_
 refine wp_seq ?_
 refine wp_region_lit ?_
 refine q_step hA10 rfl (d_move (wn rfl) (hA10.ev rfl) ?_)
 intro a11 hA12
 refine q_step hA12 rfl (d_assign (wn rfl) (hA12.ev rfl) ?_)
 intro a13 hA14
 refine q_end ?_
 have hA15 : St 16 [(0, (.pointer (some ⟨g, 0, none⟩))), (1, (.int .i64 (-1))), (6, (.int .i64 x))] a13 := hA14.cut _ (fm_cons (hA14.get 0 _ rfl) (fm_cons (hA14.get 1 _ rfl) (fm_cons (hA14.get 6 _ rfl) fm_nil)))
 refine t_norm ?_
 refine wp_ret ?_
 refine t_ret ?_
 refine ret1 rfl hA15 (v := (.int .i64 x)) rfl ?_
 exact ⟨rfl, b0⟩
set_option maxHeartbeats 4000000 in
set_option maxRecDepth 4000 in
theorem regOr_reg (g : Nat) (p : Int) (r : Nat → Int) (rd ev pa : Value) (j : Nat) (x : Int) (w : World) (hb : Blk w g (walkC p r rd ev pa) 62) (hj : j < 8) : Calls Try.prog 47 #[.pointer (some ⟨g, 0, none⟩), .int .i64 ((j : Nat) : Int), .int .i64 x] w fun e w' => e = .returned (.int .i64 (r j)) ∧ Grow w w' := by
 have b0 : Below w.heap.size w w := Below.refl _ _
 refine enter (n := 16) Try.func47 rfl rfl (Nat.le_of_ble_eq_true rfl) ?_
 intro a1 hA2
 refine wp_seq ?_
 refine wp_region_lit ?_
 refine q_step hA2 rfl (d_assign (wn rfl) (hA2.ev rfl) ?_)
 intro a3 hA4
 refine q_end ?_
 have hA5 : St 16 [(0, (.pointer (some ⟨g, 0, none⟩))), (1, (.int .i64 ((j : Nat) : Int))), (2, (.int .i64 x)), (6, (.int .i64 0))] a3 := hA4.cut _ (fm_cons (hA4.get 0 _ rfl) (fm_cons (hA4.get 1 _ rfl) (fm_cons (hA4.get 2 _ rfl) (fm_cons (hA4.get 6 _ rfl) fm_nil))))
 refine t_norm ?_
 refine wp_seq ?_
 refine wp_seq ?_
 refine wp_region_lit ?_
 refine q_step hA5 rfl (d_move (wn rfl) (hA5.ev rfl) ?_)
 intro a6 hA7
 refine q_step hA7 rfl (d_bin (wn rfl) (hA7.ev rfl) (hA7.ev rfl) (b_eq _ _ ((j : Nat) : Int) (-1) false _ (by simp)) ?_)
 intro a8 hA9
 refine q_end ?_
 have hA10 : St 16 [(0, (.pointer (some ⟨g, 0, none⟩))), (1, (.int .i64 ((j : Nat) : Int))), (2, (.int .i64 x)), (6, (.int .i64 0)), (8, (.bool false))] a8 := hA9.cut _ (fm_cons (hA9.get 0 _ rfl) (fm_cons (hA9.get 1 _ rfl) (fm_cons (hA9.get 2 _ rfl) (fm_cons (hA9.get 6 _ rfl) (fm_cons (hA9.get 8 _ rfl) fm_nil)))))
 refine t_norm ?_
 refine c_false hA10 rfl ?_
 refine wp_skip ?_
 refine t_norm ?_
 refine wp_seq ?_
 refine wp_region_lit ?_
 refine q_step hA10 rfl (d_move (wn rfl) (hA10.ev rfl) ?_)
 intro a11 hA12
 refine q_step hA12 rfl (d_move (wn rfl) (hA12.ev rfl) ?_)
 intro a13 hA14
 refine q_step hA14 rfl (d_nilCheck (wn rfl) (hA14.ev rfl) ?_)
 intro a15 hA16
 refine q_step hA16 rfl (d_fieldAddr (wn rfl) (hA16.ev rfl) fo62_1 ?_)
 intro a17 hA18
 refine q_step hA18 rfl (d_indexArrP (j := j) (p := 1 + j) (wn rfl) (hA18.ev rfl) (hA18.ev rfl) arr43 (by omega) (by omega) ?_)
 intro a19 hA20
 refine q_step hA20 rfl (d_load (v := (.int .i64 (r j))) (wn rfl) (hA20.ev rfl) one3 (hb.cell (walk_get (by omega))) ?_)
 intro a21 hA22
 refine q_step hA22 rfl (d_assign (wn rfl) (hA22.ev rfl) ?_)
 intro a23 hA24
 refine q_end ?_
 have hA25 : St 16 [(6, (.int .i64 (r j)))] a23 := hA24.cut _ (fm_cons (hA24.get 6 _ rfl) fm_nil)
 refine t_norm ?_
 refine wp_ret ?_
 refine ret1 rfl hA25 (v := (.int .i64 (r j))) rfl ?_
 exact ⟨rfl, b0⟩
end Go.Proofs.Ytlhompedcphnnaa
/- The event of an instruction. -/
namespace Go.Proofs.Ytlhompedcphnnaa
open Go.RowKit
set_option linter.unusedSimpArgs false
set_option linter.unusedVariables false
set_option maxHeartbeats 4000000 in
set_option maxRecDepth 4000 in
theorem event_any (g : Nat) (p : Int) (r : Nat → Int) (rd ev pa : Value) (i : Ins) (np Bd : Nat) (xp : List Value) (w : World) (hb : Blk w g (walkC p r rd ev pa) 62) (hpa : w.ownsRow Bd 3 1 pa np xp) : Calls Try.prog 49 #[.pointer (some ⟨g, 0, none⟩), .agg (insC i)] w fun e w' => e = .returned (.agg (evC (ev0 i np p))) ∧ Grow w w' := by
 have b0 : Below w.heap.size w w := Below.refl _ _
 refine enter (n := 31) Try.func49 rfl rfl (Nat.le_of_ble_eq_true rfl) ?_
 intro a1 hA2
 refine wp_seq ?_
 refine wp_region_lit ?_
 refine q_step hA2 rfl (d_box (wn rfl) (hA2.ev rfl) ?_)
 intro g3 w4 eg5 hG6 (m7 : Blk w4 g3 (insC i) 23)
 have ge8 : w.heap.size ≤ g3 := eg5 ▸ b0.size
 have n9 : g ≠ g3 := fun h => Nat.lt_irrefl _ ((h.trans eg5) ▸ hb.lt)
 have off10 := own_new hpa eg5
 have m11 := hb.grow hG6
 have b12 := below_grow b0 hG6 b0.size
 have ho13 := own_grow hG6 hpa
 intro a14 hA15
 refine q_step hA15 rfl (d_alloc (wn rfl) zero52 ?_)
 intro g16 w17 eg18 hG19 (m20 : Blk w17 g16 #[.int .i64 0, .int .i64 0, .int .i64 0, .int .i64 0, .int .i64 0, .int .i64 0, .bool false, .bool false, .int .i64 0, .int .i64 0, .bool false, .bool false, .bool false, .int .i64 0, .int .i64 0] 52)
 have ge21 : w.heap.size ≤ g16 := eg18 ▸ b12.size
 have n22 : g ≠ g16 := fun h => Nat.lt_irrefl _ ((h.trans eg18) ▸ m11.lt)
 have n23 : g3 ≠ g16 := fun h => Nat.lt_irrefl _ ((h.trans eg18) ▸ m7.lt)
 have off24 := own_new ho13 eg18
 have m25 := m11.grow hG19
 have m26 := m7.grow hG19
 have b27 := below_grow b12 hG19 b12.size
 have ho28 := own_grow hG19 ho13
 intro a29 hA30
 refine q_end ?_
 have hA31 : St 31 [(0, (.pointer (some ⟨g, 0, none⟩))), (3, (.pointer (some ⟨g3, 0, none⟩))), (4, (.pointer (some ⟨g16, 0, none⟩)))] a29 := hA30.cut _ (fm_cons (hA30.get 0 _ rfl) (fm_cons (hA30.get 3 _ rfl) (fm_cons (hA30.get 4 _ rfl) fm_nil)))
 refine t_norm ?_
 refine wp_seq ?_
 have hA32 : St 31 [(0, (.pointer (some ⟨g, 0, none⟩))), (3, (.pointer (some ⟨g3, 0, none⟩))), (4, (.pointer (some ⟨g16, 0, none⟩)))] a29 := hA31.cut _ (fm_cons (hA31.get 0 _ rfl) (fm_cons (hA31.get 3 _ rfl) (fm_cons (hA31.get 4 _ rfl) fm_nil)))
 let M33 : Nat → Option (Array Value) := fun _ => none
 have hM33 : M33 = fun _ => none := rfl
 clear_value M33
 have hM33A : ∀ k, M33 k = none := fun k => congrFun hM33 k
 have hM33B : ∀ k, k < w.heap.size → M33 k = none := fun k _ => hM33A k
 refine drawnL (S := SM M33) rfl (tabL [cv (.pointer (some ⟨g, 0, none⟩)), cv (.pointer (some ⟨g, 0, none⟩)), cv (.pointer (some ⟨g, 11, none⟩)), cv pa, cv (.int .i64 ((np : Nat) : Int)), cv (.pointer (some ⟨g, 0, none⟩)), cv (.pointer (some ⟨g, 0, none⟩)), cv (.pointer (some ⟨g, 0, none⟩)), cv (.int .i64 p), cv (.pointer (some ⟨g3, 0, none⟩)), cv (.int .i64 i.op), cv (.agg (insC i)), cv (.bool (rdB i)), cv (.agg (insC i)), cv (.bool (wrB i)), cv (.pointer (some ⟨g3, 10, none⟩)), cv (.bool i.acq), cv (.pointer (some ⟨g3, 11, none⟩)), cv (.bool i.weak), cv (.pointer (some ⟨g3, 12, none⟩)), cv (.bool i.rel), cv (.pointer (some ⟨g3, 13, none⟩)), cv (.int .i64 i.pred), cv (.pointer (some ⟨g3, 14, none⟩)), cv (.int .i64 i.succ), cv (.agg #[.int .i64 0, .int .i64 ((np : Nat) : Int), .int .i64 p, .int .i64 i.op, .int .i64 0, .int .i64 0, .bool (rdB i), .bool (wrB i), .int .i64 0, .int .i64 0, .bool i.acq, .bool i.weak, .bool i.rel, .int .i64 i.pred, .int .i64 i.succ])]) none (fun _ => none) (fun _ _ => True) [25, 14, 0, 1, 2, 3, 4, 5, 6, 7, 8, 9, 10, 11, 12, 13, 15, 16, 17, 18, 19, 20, 21, 22, 23, 24] [] mixedY SM.refl SM.trans hA32 (by kernel_rfl) (by kernel_rfl) (fun i v u w h => by cases h) ?_ ?_
 ·skip
  refine eachD_cons (.inl ⟨nofun, rfl, fun x y hS hT hk => d_move (wn rfl) (hT.ev rfl) ⟨SM.refl _, rfl⟩⟩) ?_
  refine eachD_cons (.inl ⟨nofun, rfl, fun x y hS hT hk => d_nilCheck (wn rfl) (hk 0 rfl) ⟨SM.refl _, rfl⟩⟩) ?_
  refine eachD_cons (.inl ⟨nofun, rfl, fun x y hS hT hk => d_fieldAddr (wn rfl) (hk 1 rfl) fo62_4 ⟨SM.refl _, rfl⟩⟩) ?_
  refine eachD_cons (.inl ⟨nofun, rfl, fun x y hS hT hk => d_load (v := pa) (wn rfl) (hk 2 rfl) one30 ((Blk.sm (w := w17.drew) m25 hS (hM33A _)).cell rfl) ⟨SM.refl _, rfl⟩⟩) ?_
  refine eachD_cons (.inl ⟨nofun, rfl, fun x y hS hT hk => d_len (n := np) (wn rfl) (hk 3 rfl) slc30 (own_form ho28) ⟨SM.refl _, rfl⟩⟩) ?_
  refine eachD_cons (.inl ⟨nofun, rfl, fun x y hS hT hk => d_move (wn rfl) (hT.ev rfl) ⟨SM.refl _, rfl⟩⟩) ?_
  refine eachD_cons (.inl ⟨nofun, rfl, fun x y hS hT hk => d_nilCheck (wn rfl) (hk 5 rfl) ⟨SM.refl _, rfl⟩⟩) ?_
  refine eachD_cons (.inl ⟨nofun, rfl, fun x y hS hT hk => d_fieldAddr (wn rfl) (hk 6 rfl) fo62_0 ⟨SM.refl _, rfl⟩⟩) ?_
  refine eachD_cons (.inl ⟨nofun, rfl, fun x y hS hT hk => d_load (v := (.int .i64 p)) (wn rfl) (hk 7 rfl) one3 ((Blk.sm (w := w17.drew) m25 hS (hM33A _)).cell rfl) ⟨SM.refl _, rfl⟩⟩) ?_
  refine eachD_cons (.inl ⟨nofun, rfl, fun x y hS hT hk => d_fieldAddr (wn rfl) (hT.ev rfl) fo23_0 ⟨SM.refl _, rfl⟩⟩) ?_
  refine eachD_cons (.inl ⟨nofun, rfl, fun x y hS hT hk => d_load (v := (.int .i64 i.op)) (wn rfl) (hk 9 rfl) one3 ((Blk.sm (w := w17.drew) m26 hS (hM33A _)).cell rfl) ⟨SM.refl _, rfl⟩⟩) ?_
  refine eachD_cons (.inl ⟨nofun, rfl, fun x y hS hT hk => d_loadRow (cs := (insC i)) (wn rfl) (hT.ev rfl) row23 (Blk.sm (w := w17.drew) m26 hS (hM33A _)) ⟨SM.refl _, rfl⟩⟩) ?_
  refine eachD_cons (.inl ⟨nofun, rfl, fun x y hS hT hk => d_call (wn rfl) ent11 (map1 (show x.eval _ = (.agg (insC i)) from (hk 11 rfl))) (reads_any i y) (fun _ _ ⟨he, hG⟩ => ⟨(.bool (rdB i)), he, SM.grow hG, rfl⟩)⟩) ?_
  refine eachD_cons (.inl ⟨nofun, rfl, fun x y hS hT hk => d_loadRow (cs := (insC i)) (wn rfl) (hT.ev rfl) row23 (Blk.sm (w := w17.drew) m26 hS (hM33A _)) ⟨SM.refl _, rfl⟩⟩) ?_
  refine eachD_cons (.inl ⟨nofun, rfl, fun x y hS hT hk => d_call (wn rfl) ent13 (map1 (show x.eval _ = (.agg (insC i)) from (hk 13 rfl))) (writes_any i y) (fun _ _ ⟨he, hG⟩ => ⟨(.bool (wrB i)), he, SM.grow hG, rfl⟩)⟩) ?_
  refine eachD_cons (.inl ⟨nofun, rfl, fun x y hS hT hk => d_fieldAddr (wn rfl) (hT.ev rfl) fo23_10 ⟨SM.refl _, rfl⟩⟩) ?_
  refine eachD_cons (.inl ⟨nofun, rfl, fun x y hS hT hk => d_load (v := (.bool i.acq)) (wn rfl) (hk 15 rfl) one4 ((Blk.sm (w := w17.drew) m26 hS (hM33A _)).cell rfl) ⟨SM.refl _, rfl⟩⟩) ?_
  refine eachD_cons (.inl ⟨nofun, rfl, fun x y hS hT hk => d_fieldAddr (wn rfl) (hT.ev rfl) fo23_11 ⟨SM.refl _, rfl⟩⟩) ?_
  refine eachD_cons (.inl ⟨nofun, rfl, fun x y hS hT hk => d_load (v := (.bool i.weak)) (wn rfl) (hk 17 rfl) one4 ((Blk.sm (w := w17.drew) m26 hS (hM33A _)).cell rfl) ⟨SM.refl _, rfl⟩⟩) ?_
  refine eachD_cons (.inl ⟨nofun, rfl, fun x y hS hT hk => d_fieldAddr (wn rfl) (hT.ev rfl) fo23_12 ⟨SM.refl _, rfl⟩⟩) ?_
  refine eachD_cons (.inl ⟨nofun, rfl, fun x y hS hT hk => d_load (v := (.bool i.rel)) (wn rfl) (hk 19 rfl) one4 ((Blk.sm (w := w17.drew) m26 hS (hM33A _)).cell rfl) ⟨SM.refl _, rfl⟩⟩) ?_
  refine eachD_cons (.inl ⟨nofun, rfl, fun x y hS hT hk => d_fieldAddr (wn rfl) (hT.ev rfl) fo23_13 ⟨SM.refl _, rfl⟩⟩) ?_
  refine eachD_cons (.inl ⟨nofun, rfl, fun x y hS hT hk => d_load (v := (.int .i64 i.pred)) (wn rfl) (hk 21 rfl) one3 ((Blk.sm (w := w17.drew) m26 hS (hM33A _)).cell rfl) ⟨SM.refl _, rfl⟩⟩) ?_
  refine eachD_cons (.inl ⟨nofun, rfl, fun x y hS hT hk => d_fieldAddr (wn rfl) (hT.ev rfl) fo23_14 ⟨SM.refl _, rfl⟩⟩) ?_
  refine eachD_cons (.inl ⟨nofun, rfl, fun x y hS hT hk => d_load (v := (.int .i64 i.succ)) (wn rfl) (hk 23 rfl) one3 ((Blk.sm (w := w17.drew) m26 hS (hM33A _)).cell rfl) ⟨SM.refl _, rfl⟩⟩) ?_
  refine eachD_cons (.inl ⟨nofun, rfl, fun x y hS hT hk => d_build (cs := #[.int .i64 0, .int .i64 ((np : Nat) : Int), .int .i64 p, .int .i64 i.op, .int .i64 0, .int .i64 0, .bool (rdB i), .bool (wrB i), .int .i64 0, .int .i64 0, .bool i.acq, .bool i.weak, .bool i.rel, .int .i64 i.pred, .int .i64 i.succ]) (wn rfl) (bp_of (bq_cons (show x.eval _ = (.int .i64 ((np : Nat) : Int)) from (hk 4 rfl)) (bq_cons (show x.eval _ = (.int .i64 p) from (hk 8 rfl)) (bq_cons (show x.eval _ = (.int .i64 i.op) from (hk 10 rfl)) (bq_cons (show x.eval _ = (.bool (rdB i)) from (hk 12 rfl)) (bq_cons (show x.eval _ = (.bool (wrB i)) from (hk 14 rfl)) (bq_cons (show x.eval _ = (.bool i.acq) from (hk 16 rfl)) (bq_cons (show x.eval _ = (.bool i.weak) from (hk 18 rfl)) (bq_cons (show x.eval _ = (.bool i.rel) from (hk 20 rfl)) (bq_cons (show x.eval _ = (.int .i64 i.pred) from (hk 22 rfl)) (bq_cons (show x.eval _ = (.int .i64 i.succ) from (hk 24 rfl)) bq_nil))))))))))) zero52 places52 (by kernel_rfl) ⟨SM.refl _, rfl⟩⟩) ?_
  exact eachD_one
 rintro a34 w35 hA36 ⟨hS38, hC39⟩
 have hA40 : St 31 [(4, (.pointer (some ⟨g16, 0, none⟩))), (30, (.agg #[.int .i64 0, .int .i64 ((np : Nat) : Int), .int .i64 p, .int .i64 i.op, .int .i64 0, .int .i64 0, .bool (rdB i), .bool (wrB i), .int .i64 0, .int .i64 0, .bool i.acq, .bool i.weak, .bool i.rel, .int .i64 i.pred, .int .i64 i.succ]))] a34 := hA36.cut _ (fm_cons (hA36.get 4 _ rfl) (fm_cons (hC39 25 (Nat.le_of_ble_eq_true rfl)) fm_nil))
 have hG41 : Grow w17 w35 := Grow.trans ((Grow.refl _).drew) (SM.grown (by rw [hM33] at hS38; exact hS38))
 have m42 := m25.grow hG41
 have m43 := m26.grow hG41
 have m44 := m20.grow hG41
 have b45 := below_grow b27 hG41 b27.size
 have ho46 := own_grow hG41 ho28
 refine d_storeRow (wn rfl) (hA40.ev rfl) (hA40.ev rfl) row52 m44 rfl rfl ?_
 intro w47 hU48 (m49 : Blk w47 g16 #[.int .i64 0, .int .i64 ((np : Nat) : Int), .int .i64 p, .int .i64 i.op, .int .i64 0, .int .i64 0, .bool (rdB i), .bool (wrB i), .int .i64 0, .int .i64 0, .bool i.acq, .bool i.weak, .bool i.rel, .int .i64 i.pred, .int .i64 i.succ] 52)
 have m50 := m42.upd hU48 n22
 have m51 := m43.upd hU48 n23
 have b52 := hU48.below b45 ge21
 have ho53 := own_upd ho46 hU48 off24
 have hA54 : St 31 [(4, (.pointer (some ⟨g16, 0, none⟩)))] a34 := hA40.cut _ (fm_cons (hA40.get 4 _ rfl) fm_nil)
 refine t_norm ?_
 refine wp_ret ?_
 refine retRow (g := g16) (cs := #[.int .i64 0, .int .i64 ((np : Nat) : Int), .int .i64 p, .int .i64 i.op, .int .i64 0, .int .i64 0, .bool (rdB i), .bool (wrB i), .int .i64 0, .int .i64 0, .bool i.acq, .bool i.weak, .bool i.rel, .int .i64 i.pred, .int .i64 i.succ]) rfl hA54 rfl m49 row52 ?_
 exact ⟨rfl, b52⟩
end Go.Proofs.Ytlhompedcphnnaa
/- More on the walk in memory: numbers in range, a slice's tail, two cells stored at once. -/
namespace Go.Proofs.Ytlhompedcphnnaa
open Go.RowKit

def wfI (x : Int) : Prop := x = I (B x)
theorem wf_I (b : BitVec 64) : wfI (I b) := by unfold wfI; rw [B_I]
theorem wf_or {r : Nat → Int} {q x : Int} (hr : ∀ k, wfI (r k)) (hx : wfI x) : wfI (orR r q x) := by 
  unfold orR
  split
  · exact hx
  · exact hr _
theorem wf_0 : wfI 0 := by unfold wfI; rw [show (0 : Int) = I 0#64 from I_zero.symm, B_I]
theorem wf_upd {r : Nat → Int} {j : Nat} {x : Int} (hr : ∀ k, wfI (r k)) (hx : wfI x) : ∀ k, wfI (updR r j x k) := fun k => by 
  unfold updR
  split
  · exact hx
  · exact hr _
theorem place_w (off i n : Int) (w : World) (h1 : wfI off) (h2 : wfI i) : Calls Try.prog 57 #[.int .i64 off, .int .i64 i, .int .i64 n] w fun e w' => e = .returned (.int .i64 (placeR (B off) (B i) n)) ∧ w' = w := by
  have := place_all (B off) (B i) n w; rwa [← h1, ← h2] at this
theorem rplace_w (off i n : Int) (w : World) (h1 : wfI off) (h2 : wfI i) : Calls Try.prog 68 #[.int .i64 off, .int .i64 i, .int .i64 n] w fun e w' => e = .returned (.int .i64 (placeR (B off) (B i) n)) ∧ w' = w := by
  have := rplace_all (B off) (B i) n w; rwa [← h1, ← h2] at this
theorem get_w (x off n : Int) (w : World) (h : wfI x) : Calls Try.prog 58 #[.int .i64 x, .int .i64 off, .int .i64 n] w fun e w' => e = .returned (.int .i64 (I (getR (B x) off n))) ∧ ∃ q, w' = w.drewN q := get_int (B x) x off n h w
theorem rget_w (x off n : Int) (w : World) (h : wfI x) : Calls Try.prog 52 #[.int .i64 x, .int .i64 off, .int .i64 n] w fun e w' => e = .returned (.int .i64 (I (getR (B x) off n))) ∧ w' = w := rget_int (B x) x off n h w
theorem rmw_w (fn old a n : Int) (w : World) (h1 : wfI old) (h2 : wfI a) : Calls Try.prog 67 #[.int .i64 fn, .int .i64 old, .int .i64 a, .int .i64 n] w fun e w' => e = .returned (.int .i64 (I (rmwR fn (B old) (B a) n))) ∧ ∃ q, w' = w.drewN q := by
  have := rmw_any fn (B old) (B a) n w; rwa [← h1, ← h2] at this
theorem rrmw_w (fn old a n : Int) (w : World) (h1 : wfI old) (h2 : wfI a) : Calls Try.prog 54 #[.int .i64 fn, .int .i64 old, .int .i64 a, .int .i64 n] w fun e w' => e = .returned (.int .i64 (I (rmwR fn (B old) (B a) n))) ∧ w' = w := by
  have := rrmw_any fn (B old) (B a) n w; rwa [← h1, ← h2] at this
theorem regOr_any (g : Nat) (p : Int) (r : Nat → Int) (rd ev pa : Value) (q x : Int) (w : World) (hb : Blk w g (walkC p r rd ev pa) 62) (hq : ronB q = true) : Calls Try.prog 47 #[.pointer (some ⟨g, 0, none⟩), .int .i64 q, .int .i64 x] w fun e w' => e = .returned (.int .i64 (orR r q x)) ∧ Grow w w' := by
  by_cases h : q = -1
  · subst h; have := regOr_none g p r rd ev pa x w hb; simpa [orR] using this
  · have h2 : 0 ≤ q ∧ q < 8 := by unfold ronB regB at hq; simp [h] at hq; omega
    obtain ⟨j, rfl⟩ := Int.eq_ofNat_of_zero_le h2.1
    have := regOr_reg g p r rd ev pa j x w hb (by omega)
    have e : orR r (j : Int) x = r j := by unfold orR; simp
    rw [e]; exact this
def intE (x : Int) : List Value := [.int .i64 x]
section
variable {P : Program} {ops : Array Oper} {a : Act} {w : World} {K : Value → World → Prop} {d : Option Tmp} {ty : TypeId} {pos : String} {af : Array Edge} {gd : Option (Nat × Bool)} {v : Value}
theorem d_tail {α : Type} {enc : α → List Value} {t e s B' : Nat} {x : Operand} {y : α} {l : List α} (hw : Region.wanted { dst := d, op := .slice t x (some (.const (.int .i64 1))) none none, type := ty, pos := pos, after := af, guard := gd } (yielded ops a.tmps) = true) (hx : a.eval x = v) (ht : sliceB P t e s = true) (hs : Sl enc s B' w v (y :: l))
    (h : ∀ v', (∀ w', Sl enc s B' w' v (y :: l) → Sl enc s B' w' v' l) → K v' w) : Does P ops { dst := d, op := .slice t x (some (.const (.int .i64 1))) none none, type := ty, pos := pos, after := af, guard := gd } a w K := by
  obtain ⟨ao, cap, hv, hlc, _⟩ := hs
  obtain ⟨hu, hz⟩ := slice_facts ht
  simp only [List.length_cons] at hv hlc
  refine does_val (v := .slice (if cap = 1 then ao else ao.map (·.add (1 * s))) l.length (cap - 1)) hw ?_ (h _ fun w' hs' => ?_)
  · have hsb : (Instr.sliceBounds true (l.length + 1) cap (some (.int .i64 1)) none none).run P w = .ok (1, l.length + 1, cap) w := by
      simp [Instr.sliceBounds, run_sliceBound (P := P) w .i64 1 (l.length + 1) .sliceB (by omega) (by omega)]
    have hev : a.eval (.const (.int .i64 1)) = .int .i64 1 := rfl
    unfold execOp
    simp only [hx, hv, hev, Option.map_some, Option.map_none, Instr.sliceAt, Instr.slice, Sem.run_bind, run_underlying hu, hsb, Result.andThen_ok, run_size hz, Sem.run_pure]
    rfl
  · obtain ⟨ao', cap', hv', _, he'⟩ := hs'
    simp only [List.length_cons] at hv'
    rw [hv] at hv'
    injection hv' with e1 _ e3
    subst e1; subst e3
    refine ⟨_, cap - 1, rfl, by omega, fun j z hz' => ?_⟩
    obtain ⟨b, o, hao, hb, hr⟩ := he' (j + 1) z (by simpa using hz')
    have hj := get_lt hz'
    refine ⟨b, o + s, ?_, hb, by rw [show o + s + j * s = o + (j + 1) * s by rw [Nat.add_mul, Nat.one_mul]; omega]; exact hr⟩
    rw [if_neg (by omega), hao]
    simp [Addr.add_mid]
theorem Blk.set2 {g k : Nat} {cs : Array Value} {t : TypeId} (h : Blk w g cs t) (u v : Value) : Blk ((w.setCell ⟨g, k, none⟩ u).setCell ⟨g, k + 1, none⟩ v) g ((cs.setIfInBounds k u).setIfInBounds (k + 1) v) t := (h.set u).set v
theorem Upd.trans {g : Nat} {a b c : World} (h : Upd g a b) (k : Upd g b c) : Upd g a c := ⟨k.os.trans h.os, k.tape.trans h.tape, k.output.trans h.output, k.size.trans h.size, fun j hj => (k.block j hj).trans (h.block j hj)⟩
theorem d_store2 {t t' : TypeId} {x y : Operand} {g k : Nat} {cs : Array Value} {u0 u1 : Value} (hw : Region.wanted { dst := d, op := .store t x y, type := ty, pos := pos, after := af, guard := gd } (yielded ops a.tmps) = true) (hx : a.eval x = .pointer (some ⟨g, k, none⟩)) (hy : a.eval y = .agg #[u0, u1])
    (h1 : rowB P t 2 = true) (ho : u0.oneCell' = true) (ho1 : u1.oneCell' = true) (hb : Blk w g cs t') (hk : k + 1 < cs.size) (h : ∀ w', Upd g w w' → Blk w' g ((cs.setIfInBounds k u0).setIfInBounds (k + 1) u1) t' → K undef w') :
    Does P ops { dst := d, op := .store t x y, type := ty, pos := pos, after := af, guard := gd } a w K := by
  have hth : w.there g k 2 := fun j hj => ⟨by rw [hb.cell (v := cs[k + j]) (by simp)]; rfl, hb.frozen _⟩
  have hr := run_storeAt_mid (P := P) w g k t #[u0, u1] hth (row_facts h1).2 (by simp [ho, ho1])
  refine does_unit (w' := (w.setCell ⟨g, k, none⟩ u0).setCell ⟨g, k + 1, none⟩ u1) hw ?_ (h _ ((upd_setCell w g k u0).trans (upd_setCell _ g (k + 1) u1)) (hb.set2 u0 u1))
  unfold execOp
  simp only [hx, hy, Sem.run_bind, hr, Result.andThen_ok, Sem.run_pure]
  rfl
end
theorem Sl.via {α : Type} {enc : α → List Value} {s B' : Nat} {a b c : World} {v : Value} {l : List α} (h : Sl enc s B' b v l) (hb : Below B' a b) (hc : Below B' a c) : Sl enc s B' c v l := by
  obtain ⟨ao, cap, hv, hlc, he⟩ := h
  refine ⟨ao, cap, hv, hlc, fun j x hx => ?_⟩
  obtain ⟨b', o, h1, h2, h3⟩ := he j x hx
  exact ⟨b', o, h1, h2, fun k u hu => by rw [hc.cell (p := ⟨b', _, none⟩) h2, ← hb.cell (p := ⟨b', _, none⟩) h2]; exact h3 k u hu⟩
def evE (l : List Ev) : List Value := l.flatMap fun e => (evC e).toList
def paE (l : List Int) : List Value := l.map fun x => Value.int .i64 x
theorem evE_snoc (l : List Ev) (e : Ev) : evE l ++ (evC e).toList = evE (l ++ [e]) := by simp [evE]
theorem paE_snoc (l : List Int) (x : Int) : paE l ++ [Value.int .i64 x] = paE (l ++ [x]) := by simp [paE]
def spanM (i : Ins) (r : Nat → Int) : Int := maskR (placeR (B i.off) (B (orR r i.index 0)) i.size) i.size
def acc5 (i : Ins) (r : Nat → Int) (n p : Int) : Ev := ⟨0, n, p, 5, i.loc, spanM i r, false, true, 0, I (getR (B (orR r i.a i.imm)) 0 i.size), i.acq, i.weak, i.rel, i.pred, i.succ⟩
def acc4 (i : Ins) (r : Nat → Int) (n p x : Int) : Ev := ⟨0, n, p, 4, i.loc, spanM i r, true, false, I (getR (B x) 0 i.size), 0, i.acq, i.weak, i.rel, i.pred, i.succ⟩
def acc6 (i : Ins) (r : Nat → Int) (k : Nat) (n p x : Int) : Ev := ⟨0, n, p, 6, i.loc, spanM i r, true, true, I (getR (B x) 0 i.size), I (rmwR i.fn (B (I (getR (B x) 0 i.size))) (B (r k)) i.size), i.acq, i.weak, i.rel, i.pred, i.succ⟩
theorem one_slice {v : Value} {n : Nat} (h : ∃ ao cap, v = .slice ao n cap) : v.oneCell' = true := by obtain ⟨_, _, rfl⟩ := h; rfl
def brP (r : Nat → Int) (k : Nat) (i : Ins) (p : Int) : Int := if (r k == 0) = i.zero then i.to else p + 1
theorem b_eqb {P : Program} {t : TypeId} (x y : Operand) (a b r : Bool) (w : World) (ht : P.underlying t = some .bool) (h : (a == b) = r) : (eqGuard .eql t x y (.bool a) (.bool b)).run P w = .ok () w ∧ (binOp .eql t (.bool a) (.bool b)).run P w = .ok (.bool r) w := by
  subst h; exact ⟨by simp [eqGuard], run_eql_bool w t a b ht⟩
/-- a walk under way in memory: its struct in block g, its rows in memory from B on, what it reads below B -/
structure WS (B g : Nat) (w : World) (p : Int) (r : Nat → Int) (rds : List Int) (evs : List Ev) (path : List Int) (rd ev pa : Value) : Prop where
  hb : Blk w g (walkC p r rd ev pa) 62
  hge : B ≤ g
  hrd : Sl intE 1 B w rd rds
  hev : w.ownsRow B 52 15 ev evs.length (evE evs)
  hpa : w.ownsRow B 3 1 pa path.length (paE path)
  oe : ev.ownBlock ≠ some g
  op : pa.ownBlock ≠ some g
  ap : ∀ k, pa.ownBlock = some k → ev.ownBlock ≠ some k
end Go.Proofs.Ytlhompedcphnnaa
/- What a write writes. -/
namespace Go.Proofs.Ytlhompedcphnnaa
open Go.RowKit
set_option linter.unusedSimpArgs false
set_option linter.unusedVariables false
set_option maxHeartbeats 4000000 in
set_option maxRecDepth 4000 in
theorem written_5 (g : Nat) (p : Int) (r : Nat → Int) (rd ev pa : Value) (i : Ins) (o : Int) (w : World) (hb : Blk w g (walkC p r rd ev pa) 62) (hr : ∀ k, wfI (r k)) (ha : ronB i.a = true) (himm : wfI i.imm) : Calls Try.prog 59 #[.pointer (some ⟨g, 0, none⟩), .agg (insC ⟨5, i.dst, i.a, i.b, i.imm, i.loc, i.off, i.index, i.size, i.fn, i.acq, i.weak, i.rel, i.pred, i.succ, i.to, i.zero⟩), .int .i64 o] w fun e w' => e = .returned (.int .i64 (I (getR (B (orR r i.a i.imm)) 0 i.size))) ∧ Grow w w' := by
 have b0 : Below w.heap.size w w := Below.refl _ _
 refine enter (n := 32) Try.func59 rfl rfl (Nat.le_of_ble_eq_true rfl) ?_
 intro a1 hA2
 refine wp_seq ?_
 refine wp_region_lit ?_
 refine q_step hA2 rfl (d_box (wn rfl) (hA2.ev rfl) ?_)
 intro g3 w4 eg5 hG6 (m7 : Blk w4 g3 (insC ⟨5, i.dst, i.a, i.b, i.imm, i.loc, i.off, i.index, i.size, i.fn, i.acq, i.weak, i.rel, i.pred, i.succ, i.to, i.zero⟩) 23)
 have ge8 : w.heap.size ≤ g3 := eg5 ▸ b0.size
 have n9 : g ≠ g3 := fun h => Nat.lt_irrefl _ ((h.trans eg5) ▸ hb.lt)
 have m10 := hb.grow hG6
 have b11 := below_grow b0 hG6 b0.size
 intro a12 hA13
 refine q_step hA13 rfl (d_assign (wn rfl) (hA13.ev rfl) ?_)
 intro a14 hA15
 refine q_end ?_
 have hA16 : St 32 [(0, (.pointer (some ⟨g, 0, none⟩))), (2, (.int .i64 o)), (4, (.pointer (some ⟨g3, 0, none⟩))), (6, (.int .i64 0))] a14 := hA15.cut _ (fm_cons (hA15.get 0 _ rfl) (fm_cons (hA15.get 2 _ rfl) (fm_cons (hA15.get 4 _ rfl) (fm_cons (hA15.get 6 _ rfl) fm_nil))))
 refine t_norm ?_
 refine wp_seq ?_
 refine wp_seq ?_
 refine wp_region_lit ?_
 refine q_step hA16 rfl (d_fieldAddr (wn rfl) (hA16.ev rfl) fo23_0 ?_)
 intro a17 hA18
 refine q_step hA18 rfl (d_load (v := (.int .i64 5)) (wn rfl) (hA18.ev rfl) one3 (m7.cell rfl) ?_)
 intro a19 hA20
 refine q_step hA20 rfl (d_bin (wn rfl) (hA20.ev rfl) (hA20.ev rfl) (b_eq _ _ 5 6 false _ rfl) ?_)
 intro a21 hA22
 refine q_end ?_
 have hA23 : St 32 [(0, (.pointer (some ⟨g, 0, none⟩))), (2, (.int .i64 o)), (4, (.pointer (some ⟨g3, 0, none⟩))), (6, (.int .i64 0)), (9, (.bool false))] a21 := hA22.cut _ (fm_cons (hA22.get 0 _ rfl) (fm_cons (hA22.get 2 _ rfl) (fm_cons (hA22.get 4 _ rfl) (fm_cons (hA22.get 6 _ rfl) (fm_cons (hA22.get 9 _ rfl) fm_nil)))))
 refine t_norm ?_
 refine c_false hA23 rfl ?_
 refine wp_skip ?_
 refine t_norm ?_
 refine wp_seq ?_
 have hA24 : St 32 [(0, (.pointer (some ⟨g, 0, none⟩))), (4, (.pointer (some ⟨g3, 0, none⟩)))] a21 := hA23.cut _ (fm_cons (hA23.get 0 _ rfl) (fm_cons (hA23.get 4 _ rfl) fm_nil))
 let M25 : Nat → Option (Array Value) := fun _ => none
 have hM25 : M25 = fun _ => none := rfl
 clear_value M25
 have hM26 : M25 g = none := (congrFun hM25 g)
 have hM27 : M25 g3 = none := (congrFun hM25 g3)
 have hM25B : ∀ k, k < w.heap.size → M25 k = none := (fun k hk => (congrFun hM25 k))
 refine drawn (S := SM M25) (tabL [cv (.pointer (some ⟨g, 0, none⟩)), cv (.pointer (some ⟨g3, 2, none⟩)), cv (.int .i64 i.a), cv (.pointer (some ⟨g3, 4, none⟩)), cv (.int .i64 i.imm), cv (.int .i64 (orR r i.a i.imm)), cv (.pointer (some ⟨g3, 8, none⟩)), cv (.int .i64 i.size), cv (.int .i64 (I (getR (B (orR r i.a i.imm)) 0 i.size))), cv (.int .i64 (I (getR (B (orR r i.a i.imm)) 0 i.size)))]) mixedY SM.refl SM.trans SM.drew hA24 (by kernel_rfl) ?_ ?_
 ·skip
  refine each_cons (fun x y hS hT hk => d_move (wn rfl) (hT.ev rfl) ⟨SM.refl _, rfl⟩) ?_
  refine each_cons (fun x y hS hT hk => d_fieldAddr (wn rfl) (hT.ev rfl) fo23_2 ⟨SM.refl _, rfl⟩) ?_
  refine each_cons (fun x y hS hT hk => d_load (v := (.int .i64 i.a)) (wn rfl) (hk 1 rfl) one3 ((Blk.sm (w := w4.drew) m7 hS hM27).cell rfl) ⟨SM.refl _, rfl⟩) ?_
  refine each_cons (fun x y hS hT hk => d_fieldAddr (wn rfl) (hT.ev rfl) fo23_4 ⟨SM.refl _, rfl⟩) ?_
  refine each_cons (fun x y hS hT hk => d_load (v := (.int .i64 i.imm)) (wn rfl) (hk 3 rfl) one3 ((Blk.sm (w := w4.drew) m7 hS hM27).cell rfl) ⟨SM.refl _, rfl⟩) ?_
  refine each_cons (fun x y hS hT hk => d_call (wn rfl) ent47 (map3 (show x.eval _ = (.pointer (some ⟨g, 0, none⟩)) from (hk 0 rfl)) (show x.eval _ = (.int .i64 i.a) from (hk 2 rfl)) (show x.eval _ = (.int .i64 i.imm) from (hk 4 rfl))) (regOr_any g p r rd ev pa i.a i.imm y (Blk.sm (w := w4.drew) m10 hS hM26) ha) (fun _ _ ⟨he, hG⟩ => ⟨(.int .i64 (orR r i.a i.imm)), he, SM.grow hG, rfl⟩)) ?_
  refine each_cons (fun x y hS hT hk => d_fieldAddr (wn rfl) (hT.ev rfl) fo23_8 ⟨SM.refl _, rfl⟩) ?_
  refine each_cons (fun x y hS hT hk => d_load (v := (.int .i64 i.size)) (wn rfl) (hk 6 rfl) one3 ((Blk.sm (w := w4.drew) m7 hS hM27).cell rfl) ⟨SM.refl _, rfl⟩) ?_
  refine each_cons (fun x y hS hT hk => d_call (wn rfl) ent58 (map3 (show x.eval _ = (.int .i64 (orR r i.a i.imm)) from (hk 5 rfl)) (show x.eval _ = (.int .i64 0) from (hT.ev rfl)) (show x.eval _ = (.int .i64 i.size) from (hk 7 rfl))) (get_w (orR r i.a i.imm) 0 i.size y (wf_or hr himm)) (fun _ _ ⟨he, q, hw⟩ => ⟨(.int .i64 (I (getR (B (orR r i.a i.imm)) 0 i.size))), he, hw ▸ SM.grow ((Grow.refl _).drewN q), rfl⟩)) ?_
  refine each_cons (fun x y hS hT hk => d_assign (wn rfl) (hk 8 rfl) ⟨SM.refl _, rfl⟩) ?_
  exact each_nil
 intro f28 a29 w30 hS31 hC32 hA33
 have hA34 : St 32 [(6, (.int .i64 (I (getR (B (orR r i.a i.imm)) 0 i.size))))] a29 := hA33.cut _ (fm_cons ((hA33.get 6 _ rfl).trans (hC32 9 (Nat.le_of_ble_eq_true rfl))) fm_nil)
 have m35 := m10.sm hS31 hM26
 have m36 := m7.sm hS31 hM27
 have b37 := hS31.below b11 b11.size hM25B
 refine t_norm ?_
 refine wp_ret ?_
 refine ret1 rfl hA34 (v := (.int .i64 (I (getR (B (orR r i.a i.imm)) 0 i.size)))) rfl ?_
 exact ⟨rfl, b37⟩
set_option maxHeartbeats 4000000 in
set_option maxRecDepth 4000 in
theorem written_6 (g : Nat) (p : Int) (r : Nat → Int) (rd ev pa : Value) (i : Ins) (k : Nat) (o : Int) (w : World) (hb : Blk w g (walkC p r rd ev pa) 62) (hr : ∀ k, wfI (r k)) (ho : wfI o) (hk : k < 8) : Calls Try.prog 59 #[.pointer (some ⟨g, 0, none⟩), .agg (insC ⟨6, i.dst, ((k : Nat) : Int), i.b, i.imm, i.loc, i.off, i.index, i.size, i.fn, i.acq, i.weak, i.rel, i.pred, i.succ, i.to, i.zero⟩), .int .i64 o] w fun e w' => e = .returned (.int .i64 (I (rmwR i.fn (B o) (B (r k)) i.size))) ∧ Grow w w' := by
 have b0 : Below w.heap.size w w := Below.refl _ _
 refine enter (n := 32) Try.func59 rfl rfl (Nat.le_of_ble_eq_true rfl) ?_
 intro a1 hA2
 refine wp_seq ?_
 refine wp_region_lit ?_
 refine q_step hA2 rfl (d_box (wn rfl) (hA2.ev rfl) ?_)
 intro g3 w4 eg5 hG6 (m7 : Blk w4 g3 (insC ⟨6, i.dst, ((k : Nat) : Int), i.b, i.imm, i.loc, i.off, i.index, i.size, i.fn, i.acq, i.weak, i.rel, i.pred, i.succ, i.to, i.zero⟩) 23)
 have ge8 : w.heap.size ≤ g3 := eg5 ▸ b0.size
 have n9 : g ≠ g3 := fun h => Nat.lt_irrefl _ ((h.trans eg5) ▸ hb.lt)
 have m10 := hb.grow hG6
 have b11 := below_grow b0 hG6 b0.size
 intro a12 hA13
 refine q_step hA13 rfl (d_assign (wn rfl) (hA13.ev rfl) ?_)
 intro a14 hA15
 refine q_end ?_
 have hA16 : St 32 [(0, (.pointer (some ⟨g, 0, none⟩))), (2, (.int .i64 o)), (4, (.pointer (some ⟨g3, 0, none⟩))), (6, (.int .i64 0))] a14 := hA15.cut _ (fm_cons (hA15.get 0 _ rfl) (fm_cons (hA15.get 2 _ rfl) (fm_cons (hA15.get 4 _ rfl) (fm_cons (hA15.get 6 _ rfl) fm_nil))))
 refine t_norm ?_
 refine wp_seq ?_
 refine wp_seq ?_
 refine wp_region_lit ?_
 refine q_step hA16 rfl (d_fieldAddr (wn rfl) (hA16.ev rfl) fo23_0 ?_)
 intro a17 hA18
 refine q_step hA18 rfl (d_load (v := (.int .i64 6)) (wn rfl) (hA18.ev rfl) one3 (m7.cell rfl) ?_)
 intro a19 hA20
 refine q_step hA20 rfl (d_bin (wn rfl) (hA20.ev rfl) (hA20.ev rfl) (b_eq _ _ 6 6 true _ rfl) ?_)
 intro a21 hA22
 refine q_end ?_
 have hA23 : St 32 [(0, (.pointer (some ⟨g, 0, none⟩))), (2, (.int .i64 o)), (4, (.pointer (some ⟨g3, 0, none⟩))), (6, (.int .i64 0)), (9, (.bool true))] a21 := hA22.cut _ (fm_cons (hA22.get 0 _ rfl) (fm_cons (hA22.get 2 _ rfl) (fm_cons (hA22.get 4 _ rfl) (fm_cons (hA22.get 6 _ rfl) (fm_cons (hA22.get 9 _ rfl) fm_nil)))))
 refine t_norm ?_
 refine c_true hA23 rfl ?_
 refine wp_seq ?_
 have hA24 : St 32 [(0, (.pointer (some ⟨g, 0, none⟩))), (2, (.int .i64 o)), (4, (.pointer (some ⟨g3, 0, none⟩)))] a21 := hA23.cut _ (fm_cons (hA23.get 0 _ rfl) (fm_cons (hA23.get 2 _ rfl) (fm_cons (hA23.get 4 _ rfl) fm_nil)))
 let M25 : Nat → Option (Array Value) := fun _ => none
 have hM25 : M25 = fun _ => none := rfl
 clear_value M25
 have hM26 : M25 g = none := (congrFun hM25 g)
 have hM27 : M25 g3 = none := (congrFun hM25 g3)
 have hM25B : ∀ k, k < w.heap.size → M25 k = none := (fun k hk => (congrFun hM25 k))
 refine drawn (S := SM M25) (tabL [cv (.pointer (some ⟨g3, 9, none⟩)), cv (.int .i64 i.fn), cv (.int .i64 o), cv (.pointer (some ⟨g, 0, none⟩)), cv (.pointer (some ⟨g3, 2, none⟩)), cv (.int .i64 ((k : Nat) : Int)), cv (.pointer (some ⟨g, 0, none⟩)), cv (.pointer (some ⟨g, 1, none⟩)), cv (.pointer (some ⟨g, 1 + k, none⟩)), cv (.int .i64 (r k)), cv (.pointer (some ⟨g3, 8, none⟩)), cv (.int .i64 i.size), cv (.int .i64 (I (rmwR i.fn (B o) (B (r k)) i.size))), cv (.int .i64 (I (rmwR i.fn (B o) (B (r k)) i.size)))]) mixedY SM.refl SM.trans SM.drew hA24 (by kernel_rfl) ?_ ?_
 ·skip
  refine each_cons (fun x y hS hT hk => d_fieldAddr (wn rfl) (hT.ev rfl) fo23_9 ⟨SM.refl _, rfl⟩) ?_
  refine each_cons (fun x y hS hT hk => d_load (v := (.int .i64 i.fn)) (wn rfl) (hk 0 rfl) one3 ((Blk.sm (w := w4.drew) m7 hS hM27).cell rfl) ⟨SM.refl _, rfl⟩) ?_
  refine each_cons (fun x y hS hT hk => d_move (wn rfl) (hT.ev rfl) ⟨SM.refl _, rfl⟩) ?_
  refine each_cons (fun x y hS hT hk => d_move (wn rfl) (hT.ev rfl) ⟨SM.refl _, rfl⟩) ?_
  refine each_cons (fun x y hS hT hk => d_fieldAddr (wn rfl) (hT.ev rfl) fo23_2 ⟨SM.refl _, rfl⟩) ?_
  refine each_cons (fun x y hS hT hk => d_load (v := (.int .i64 ((k : Nat) : Int))) (wn rfl) (hk 4 rfl) one3 ((Blk.sm (w := w4.drew) m7 hS hM27).cell rfl) ⟨SM.refl _, rfl⟩) ?_
  refine each_cons (fun x y hS hT hk => d_nilCheck (wn rfl) (hk 3 rfl) ⟨SM.refl _, rfl⟩) ?_
  refine each_cons (fun x y hS hT hk => d_fieldAddr (wn rfl) (hk 6 rfl) fo62_1 ⟨SM.refl _, rfl⟩) ?_
  refine each_cons (fun x y hS hT hk => d_indexArrP (j := k) (p := 1 + k) (wn rfl) (hk 7 rfl) (hk 5 rfl) arr43 (by omega) (by omega) ⟨SM.refl _, rfl⟩) ?_
  refine each_cons (fun x y hS hT hk => d_load (v := (.int .i64 (r k))) (wn rfl) (hk 8 rfl) one3 ((Blk.sm (w := w4.drew) m10 hS hM26).cell (walk_get (by omega))) ⟨SM.refl _, rfl⟩) ?_
  refine each_cons (fun x y hS hT hk => d_fieldAddr (wn rfl) (hT.ev rfl) fo23_8 ⟨SM.refl _, rfl⟩) ?_
  refine each_cons (fun x y hS hT hk => d_load (v := (.int .i64 i.size)) (wn rfl) (hk 10 rfl) one3 ((Blk.sm (w := w4.drew) m7 hS hM27).cell rfl) ⟨SM.refl _, rfl⟩) ?_
  refine each_cons (fun x y hS hT hk => d_call (wn rfl) ent67 (map4 (show x.eval _ = (.int .i64 i.fn) from (hk 1 rfl)) (show x.eval _ = (.int .i64 o) from (hk 2 rfl)) (show x.eval _ = (.int .i64 (r k)) from (hk 9 rfl)) (show x.eval _ = (.int .i64 i.size) from (hk 11 rfl))) (rmw_w i.fn o (r k) i.size y ho (hr k)) (fun _ _ ⟨he, q, hw⟩ => ⟨(.int .i64 (I (rmwR i.fn (B o) (B (r k)) i.size))), he, hw ▸ SM.grow ((Grow.refl _).drewN q), rfl⟩)) ?_
  refine each_cons (fun x y hS hT hk => d_assign (wn rfl) (hk 12 rfl) ⟨SM.refl _, rfl⟩) ?_
  exact each_nil
 intro f28 a29 w30 hS31 hC32 hA33
 have hA34 : St 32 [(0, (.pointer (some ⟨g, 0, none⟩))), (4, (.pointer (some ⟨g3, 0, none⟩))), (6, (.int .i64 (I (rmwR i.fn (B o) (B (r k)) i.size))))] a29 := hA33.cut _ (fm_cons (hA33.get 0 _ rfl) (fm_cons (hA33.get 4 _ rfl) (fm_cons ((hA33.get 6 _ rfl).trans (hC32 13 (Nat.le_of_ble_eq_true rfl))) fm_nil)))
 have m35 := m10.sm hS31 hM26
 have m36 := m7.sm hS31 hM27
 have b37 := hS31.below b11 b11.size hM25B
 refine t_norm ?_
 refine wp_ret ?_
 refine t_ret ?_
 refine ret1 rfl hA34 (v := (.int .i64 (I (rmwR i.fn (B o) (B (r k)) i.size)))) rfl ?_
 exact ⟨rfl, b37⟩
end Go.Proofs.Ytlhompedcphnnaa
/- A step of the walk. -/
namespace Go.Proofs.Ytlhompedcphnnaa
open Go.RowKit
set_option linter.unusedSimpArgs false
set_option linter.unusedVariables false
set_option maxHeartbeats 4000000 in
set_option maxRecDepth 4000 in
theorem step_1 (Bd g : Nat) (p : Int) (r : Nat → Int) (rd ev pa : Value) (i : Ins) (d : Nat) (rds : List Int) (evs : List Ev) (path : List Int) (w : World) (hB : Bd ≤ w.heap.size) (hW : WS Bd g w p r rds evs path rd ev pa) (hne : evs.length ≤ 1000) (hnp : path.length ≤ 1000) (hr : ∀ k, wfI (r k)) (hp : 0 ≤ p) (hp2 : p ≤ 1000) (hd : d < 8) : Calls Try.prog 36 #[.pointer (some ⟨g, 0, none⟩), .agg (insC ⟨1, ((d : Nat) : Int), i.a, i.b, i.imm, i.loc, i.off, i.index, i.size, i.fn, i.acq, i.weak, i.rel, i.pred, i.succ, i.to, i.zero⟩)] w fun e w' => e = .returned (.bool true) ∧ Below Bd w w' ∧ ∃ rd' ev' pa', WS Bd g w' (p + 1) (updR r d i.imm) rds evs (path ++ [p]) rd' ev' pa' := by
 obtain ⟨hb, hge, hrd, hev, hpa, oe, op_, ap⟩ := hW
 have ap2 : ∀ k, ev.ownBlock = some k → pa.ownBlock ≠ some k := fun k h1 h2 => ap k h2 h1
 have b0 : Below Bd w w := Below.refl _ _
 refine enter (n := 117) Try.func36 rfl rfl (Nat.le_of_ble_eq_true rfl) ?_
 intro a1 hA2
 refine wp_seq ?_
 refine wp_region_lit ?_
 refine q_step hA2 rfl (d_box (wn rfl) (hA2.ev rfl) ?_)
 intro g3 w4 eg5 hG6 (m7 : Blk w4 g3 (insC ⟨1, ((d : Nat) : Int), i.a, i.b, i.imm, i.loc, i.off, i.index, i.size, i.fn, i.acq, i.weak, i.rel, i.pred, i.succ, i.to, i.zero⟩) 23)
 have ge8 : Bd ≤ g3 := eg5 ▸ (Nat.le_trans hB b0.size)
 have n9 : g ≠ g3 := fun h => Nat.lt_irrefl _ ((h.trans eg5) ▸ hb.lt)
 have off10 := own_new hev eg5
 have off11 := own_new hpa eg5
 have m12 := hb.grow hG6
 have b13 := below_grow b0 hG6 (Nat.le_trans hB b0.size)
 have ho14 := own_grow hG6 hev
 have ho15 := own_grow hG6 hpa
 intro a16 hA17
 refine q_step hA17 rfl (d_assign (wn rfl) (hA17.ev rfl) ?_)
 intro a18 hA19
 refine q_end ?_
 have hA20 : St 117 [(0, (.pointer (some ⟨g, 0, none⟩))), (3, (.pointer (some ⟨g3, 0, none⟩))), (4, (.bool false))] a18 := hA19.cut _ (fm_cons (hA19.get 0 _ rfl) (fm_cons (hA19.get 3 _ rfl) (fm_cons (hA19.get 4 _ rfl) fm_nil)))
 refine t_norm ?_
 refine wp_seq ?_
 refine wp_region_lit ?_
 refine q_step hA20 rfl (d_move (wn rfl) (hA20.ev rfl) ?_)
 intro a21 hA22
 refine q_step hA22 rfl (d_nilCheck (wn rfl) (hA22.ev rfl) ?_)
 intro a23 hA24
 refine q_step hA24 rfl (d_fieldAddr (wn rfl) (hA24.ev rfl) fo62_0 ?_)
 intro a25 hA26
 refine q_step hA26 rfl (d_load (v := (.int .i64 p)) (wn rfl) (hA26.ev rfl) one3 (m12.cell rfl) ?_)
 intro a27 hA28
 refine q_step hA28 rfl (d_bin (wn rfl) (hA28.ev rfl) (hA28.ev rfl) (b_add _ _ p 1 _ (by omega) (by omega)) ?_)
 intro a29 hA30
 refine q_step hA30 rfl (d_assign (wn rfl) (hA30.ev rfl) ?_)
 intro a31 hA32
 refine q_end ?_
 have hA33 : St 117 [(0, (.pointer (some ⟨g, 0, none⟩))), (3, (.pointer (some ⟨g3, 0, none⟩))), (4, (.bool false)), (5, (.int .i64 (p + 1)))] a31 := hA32.cut _ (fm_cons (hA32.get 0 _ rfl) (fm_cons (hA32.get 3 _ rfl) (fm_cons (hA32.get 4 _ rfl) (fm_cons (hA32.get 5 _ rfl) fm_nil))))
 refine t_norm ?_
 refine wp_seq ?_
 refine wp_seq ?_
 refine wp_region_lit ?_
 refine q_step hA33 rfl (d_fieldAddr (wn rfl) (hA33.ev rfl) fo23_0 ?_)
 intro a34 hA35
 refine q_step hA35 rfl (d_load (v := (.int .i64 1)) (wn rfl) (hA35.ev rfl) one3 (m7.cell rfl) ?_)
 intro a36 hA37
 refine q_end ?_
 have hA38 : St 117 [(0, (.pointer (some ⟨g, 0, none⟩))), (3, (.pointer (some ⟨g3, 0, none⟩))), (4, (.bool false)), (5, (.int .i64 (p + 1))), (12, (.int .i64 1))] a36 := hA37.cut _ (fm_cons (hA37.get 0 _ rfl) (fm_cons (hA37.get 3 _ rfl) (fm_cons (hA37.get 4 _ rfl) (fm_cons (hA37.get 5 _ rfl) (fm_cons (hA37.get 12 _ rfl) fm_nil)))))
 refine t_norm ?_
 refine wp_block ?_
 refine wp_seq ?_
 refine wp_region_lit ?_
 refine q_step hA38 rfl (d_bin (wn rfl) (hA38.ev rfl) (hA38.ev rfl) (b_eq _ _ 1 1 true _ rfl) ?_)
 intro a39 hA40
 refine q_step hA40 rfl (d_assign (wn rfl) (hA40.ev rfl) ?_)
 intro a41 hA42
 refine q_end ?_
 have hA43 : St 117 [(0, (.pointer (some ⟨g, 0, none⟩))), (3, (.pointer (some ⟨g3, 0, none⟩))), (4, (.bool false)), (5, (.int .i64 (p + 1))), (12, (.int .i64 1)), (13, (.bool true))] a41 := hA42.cut _ (fm_cons (hA42.get 0 _ rfl) (fm_cons (hA42.get 3 _ rfl) (fm_cons (hA42.get 4 _ rfl) (fm_cons (hA42.get 5 _ rfl) (fm_cons (hA42.get 12 _ rfl) (fm_cons (hA42.get 13 _ rfl) fm_nil))))))
 refine t_norm ?_
 refine c_true hA43 rfl ?_
 have hA44 : St 117 [(0, (.pointer (some ⟨g, 0, none⟩))), (3, (.pointer (some ⟨g3, 0, none⟩))), (4, (.bool false)), (5, (.int .i64 (p + 1)))] a41 := hA43.cut _ (fm_cons (hA43.get 0 _ rfl) (fm_cons (hA43.get 3 _ rfl) (fm_cons (hA43.get 4 _ rfl) (fm_cons (hA43.get 5 _ rfl) fm_nil))))
 let M45 : Nat → Option (Array Value) := fun _ => none
 have hM45 : M45 = fun _ => none := rfl
 clear_value M45
 have hM45A : ∀ k, M45 k = none := fun k => congrFun hM45 k
 have hM45B : ∀ k, k < Bd → M45 k = none := fun k _ => hM45A k
 refine drawnL (S := SM M45) rfl (tabL [cv (.pointer (some ⟨g, 0, none⟩)), cv (.pointer (some ⟨g3, 1, none⟩)), cv (.int .i64 ((d : Nat) : Int)), cv (.pointer (some ⟨g3, 4, none⟩)), cv (.int .i64 i.imm), cv (.pointer (some ⟨g, 0, none⟩)), cv (.pointer (some ⟨g, 1, none⟩)), cv (.pointer (some ⟨g, 1 + d, none⟩))]) none (fun _ => none) (fun _ _ => True) [7, 4, 0, 1, 2, 3, 6, 5] [] mixedY SM.refl SM.trans hA44 (by kernel_rfl) (by kernel_rfl) (fun i v u w h => by cases h) ?_ ?_
 ·skip
  refine eachD_cons (.inl ⟨nofun, rfl, fun x y hS hT hk => d_move (wn rfl) (hT.ev rfl) ⟨SM.refl _, rfl⟩⟩) ?_
  refine eachD_cons (.inl ⟨nofun, rfl, fun x y hS hT hk => d_fieldAddr (wn rfl) (hT.ev rfl) fo23_1 ⟨SM.refl _, rfl⟩⟩) ?_
  refine eachD_cons (.inl ⟨nofun, rfl, fun x y hS hT hk => d_load (v := (.int .i64 ((d : Nat) : Int))) (wn rfl) (hk 1 rfl) one3 ((Blk.sm (w := w4.drew) m7 hS (hM45A _)).cell rfl) ⟨SM.refl _, rfl⟩⟩) ?_
  refine eachD_cons (.inl ⟨nofun, rfl, fun x y hS hT hk => d_fieldAddr (wn rfl) (hT.ev rfl) fo23_4 ⟨SM.refl _, rfl⟩⟩) ?_
  refine eachD_cons (.inl ⟨nofun, rfl, fun x y hS hT hk => d_load (v := (.int .i64 i.imm)) (wn rfl) (hk 3 rfl) one3 ((Blk.sm (w := w4.drew) m7 hS (hM45A _)).cell rfl) ⟨SM.refl _, rfl⟩⟩) ?_
  refine eachD_cons (.inl ⟨nofun, rfl, fun x y hS hT hk => d_nilCheck (wn rfl) (hk 0 rfl) ⟨SM.refl _, rfl⟩⟩) ?_
  refine eachD_cons (.inl ⟨nofun, rfl, fun x y hS hT hk => d_fieldAddr (wn rfl) (hk 5 rfl) fo62_1 ⟨SM.refl _, rfl⟩⟩) ?_
  refine eachD_cons (.inl ⟨nofun, rfl, fun x y hS hT hk => d_indexArrP (j := d) (p := 1 + d) (wn rfl) (hk 6 rfl) (hk 2 rfl) arr43 (by omega) (by omega) ⟨SM.refl _, rfl⟩⟩) ?_
  exact eachD_one
 rintro a46 w47 hA48 ⟨hS50, hC51⟩
 have hA52 : St 117 [(0, (.pointer (some ⟨g, 0, none⟩))), (4, (.bool false)), (5, (.int .i64 (p + 1))), (19, (.int .i64 i.imm)), (22, (.pointer (some ⟨g, 1 + d, none⟩)))] a46 := hA48.cut _ (fm_cons (hA48.get 0 _ rfl) (fm_cons (hA48.get 4 _ rfl) (fm_cons (hA48.get 5 _ rfl) (fm_cons (hC51 4 (Nat.le_of_ble_eq_true rfl)) (fm_cons (hC51 7 (Nat.le_of_ble_eq_true rfl)) fm_nil)))))
 have hG53 : Grow w4 w47 := Grow.trans ((Grow.refl _).drew) (SM.grown (by rw [hM45] at hS50; exact hS50))
 have m54 := m12.grow hG53
 have m55 := m7.grow hG53
 have b56 := below_grow b13 hG53 (Nat.le_trans hB b13.size)
 have ho57 := own_grow hG53 ho14
 have ho58 := own_grow hG53 ho15
 refine d_store (v := (.int .i64 i.imm)) (wn rfl) (hA52.ev rfl) (hA52.ev rfl) one3 rfl m54 (by rw [walk_size]; omega) ?_
 intro w59 hU60 m61
 rw [walk_set (by omega)] at m61
 have m62 := m55.upd hU60 (Ne.symm n9)
 have b63 := hU60.below b56 hge
 have ho64 := own_upd ho57 hU60 oe
 have ho65 := own_upd ho58 hU60 op_
 have hA66 : St 117 [(0, (.pointer (some ⟨g, 0, none⟩))), (4, (.bool false)), (5, (.int .i64 (p + 1)))] a46 := hA52.cut _ (fm_cons (hA52.get 0 _ rfl) (fm_cons (hA52.get 4 _ rfl) (fm_cons (hA52.get 5 _ rfl) fm_nil)))
 refine i_norm ?_
 refine t_norm ?_
 refine wp_seq ?_
 have hA67 : St 117 [(0, (.pointer (some ⟨g, 0, none⟩))), (4, (.bool false)), (5, (.int .i64 (p + 1)))] a46 := hA66.cut _ (fm_cons (hA66.get 0 _ rfl) (fm_cons (hA66.get 4 _ rfl) (fm_cons (hA66.get 5 _ rfl) fm_nil)))
 let M68 : Nat → Option (Array Value) := fun _ => none
 have hM68 : M68 = fun _ => none := rfl
 clear_value M68
 have hM68A : ∀ k, M68 k = none := fun k => congrFun hM68 k
 have hM68B : ∀ k, k < Bd → M68 k = none := fun k _ => hM68A k
 refine drawnL (S := SM M68) rfl (tabQ [some (.pointer (some ⟨g, 0, none⟩)), some (.pointer (some ⟨g, 0, none⟩)), some (.pointer (some ⟨g, 0, none⟩)), some (.pointer (some ⟨g, 11, none⟩)), none, some (.pointer (some ⟨g, 0, none⟩)), some (.pointer (some ⟨g, 0, none⟩)), some (.pointer (some ⟨g, 0, none⟩)), none, none, none, some (.pointer (some ⟨g, 0, none⟩)), some (.pointer (some ⟨g, 11, none⟩))] [cv (.pointer (some ⟨g, 0, none⟩)), cv (.pointer (some ⟨g, 0, none⟩)), cv (.pointer (some ⟨g, 0, none⟩)), cv (.pointer (some ⟨g, 11, none⟩)), cv pa, cv (.pointer (some ⟨g, 0, none⟩)), cv (.pointer (some ⟨g, 0, none⟩)), cv (.pointer (some ⟨g, 0, none⟩)), cv (.int .i64 p), cs1 M68 hM68A #[.int .i64 p] 3, cfree, cv (.pointer (some ⟨g, 0, none⟩)), cv (.pointer (some ⟨g, 11, none⟩))]) (some 10) (fun i => (([some (.pointer (some ⟨g, 0, none⟩)), some (.pointer (some ⟨g, 0, none⟩)), some (.pointer (some ⟨g, 0, none⟩)), some (.pointer (some ⟨g, 11, none⟩)), none, some (.pointer (some ⟨g, 0, none⟩)), some (.pointer (some ⟨g, 0, none⟩)), some (.pointer (some ⟨g, 0, none⟩)), none, none, none, some (.pointer (some ⟨g, 0, none⟩)), some (.pointer (some ⟨g, 11, none⟩))] : List (Option Value))[i]?).getD none) (fun v' w' => w'.ownsRow Bd 3 1 v' (path.length + 1) ((paE path) ++ (#[.int .i64 p] : Array Value).toList) ∧ Below Bd w w' ∧ Blk w' g (walkC p (updR r d i.imm) rd ev pa) 62 ∧ Blk w' g3 (insC ⟨1, ((d : Nat) : Int), i.a, i.b, i.imm, i.loc, i.off, i.index, i.size, i.fn, i.acq, i.weak, i.rel, i.pred, i.succ, i.to, i.zero⟩) 23 ∧ w'.ownsRow Bd 52 15 ev evs.length (evE evs) ∧ v'.ownBlock ≠ some g ∧ v'.ownBlock ≠ some g3 ∧ ∀ k, ev.ownBlock = some k → v'.ownBlock ≠ some k) [12, 10, 0, 1, 2, 3, 4, 5, 6, 7, 8, 9, 11] [4, 9, 3, 8, 2, 7, 1, 6, 5] mixedY SM.refl SM.trans hA67 (by kernel_rfl) (by kernel_rfl) (tabQ_cv _ _) ?_ ?_
 ·skip
  refine eachD_cons (.inr (.inl ⟨by decide, _, rfl, fun x y hT hk hk0 => d_move (wn rfl) (hT.ev rfl) ⟨rfl, rfl⟩⟩)) ?_
  refine eachD_cons (.inr (.inl ⟨by decide, _, rfl, fun x y hT hk hk0 => d_move (wn rfl) (hT.ev rfl) ⟨rfl, rfl⟩⟩)) ?_
  refine eachD_cons (.inr (.inl ⟨by decide, _, rfl, fun x y hT hk hk0 => d_nilCheck (wn rfl) (hk 1 _ rfl rfl) ⟨rfl, rfl⟩⟩)) ?_
  refine eachD_cons (.inr (.inl ⟨by decide, _, rfl, fun x y hT hk hk0 => d_fieldAddr (wn rfl) (hk 2 _ rfl rfl) fo62_4 ⟨rfl, rfl⟩⟩)) ?_
  refine eachD_cons (.inl ⟨by decide, rfl, fun x y hS hT hk => d_load (v := pa) (wn rfl) (hk 3 rfl) one30 ((Blk.sm (w := w59.drew) m61 hS (hM68A _)).cell rfl) ⟨SM.refl _, rfl⟩⟩) ?_
  refine eachD_cons (.inr (.inl ⟨by decide, _, rfl, fun x y hT hk hk0 => d_move (wn rfl) (hT.ev rfl) ⟨rfl, rfl⟩⟩)) ?_
  refine eachD_cons (.inr (.inl ⟨by decide, _, rfl, fun x y hT hk hk0 => d_nilCheck (wn rfl) (hk 5 _ rfl rfl) ⟨rfl, rfl⟩⟩)) ?_
  refine eachD_cons (.inr (.inl ⟨by decide, _, rfl, fun x y hT hk hk0 => d_fieldAddr (wn rfl) (hk 6 _ rfl rfl) fo62_0 ⟨rfl, rfl⟩⟩)) ?_
  refine eachD_cons (.inl ⟨by decide, rfl, fun x y hS hT hk => d_load (v := (.int .i64 p)) (wn rfl) (hk 7 rfl) one3 ((Blk.sm (w := w59.drew) m61 hS (hM68A _)).cell rfl) ⟨SM.refl _, rfl⟩⟩) ?_
  refine eachD_cons (.inl ⟨by decide, rfl, fun x y hS hT hk => d_slice1 (wn rfl) (show x.eval _ = (.int .i64 p) from (hk 8 rfl)) elm30 rfl (by decide) (fun g w' _ hG hb => ⟨SM.grow hG, g, rfl, hb⟩)⟩) ?_
  refine eachD_cons (.inr (.inr ⟨rfl, fun x y hS hT hk => ?_⟩)) ?_
  ·skip
   obtain ⟨gb, hvb, hbb⟩ := hk 9 rfl
   have hG : Grow w59 y := Grow.trans ((Grow.refl _).drew) (SM.grown (by rw [hM68] at hS; exact hS))
   have hR := own_grow hG ho65
   have hO := own_grow hG ho64
   have hBl := below_grow b63 hG (Nat.le_trans hB b63.size)
   refine d_append (wn rfl) (show x.eval _ = pa from (hk 4 rfl)) hvb elm30 hR hbb rfl rfl (by omega) (by decide) (Nat.le_trans hB hBl.size) ?_
   intro v' w' h1 h2 h3
   exact ⟨h1, below_by hBl h2 (Nat.le_trans hB hBl.size) (fun k hk => (own_lt hR k hk).1), (m61.grow hG).by h2 op_, (m62.grow hG).by h2 off11, own_by hO h2 ap2, lies_ne h3 op_ (m61.grow hG).lt, lies_ne h3 off11 (m62.grow hG).lt, lies_ap h3 ap2 hO⟩
  refine eachD_cons (.inr (.inl ⟨by decide, _, rfl, fun x y hT hk hk0 => d_nilCheck (wn rfl) (hk 0 _ rfl rfl) ⟨rfl, rfl⟩⟩)) ?_
  refine eachD_cons (.inr (.inl ⟨by decide, _, rfl, fun x y hT hk hk0 => d_fieldAddr (wn rfl) (hk 11 _ rfl rfl) fo62_4 ⟨rfl, rfl⟩⟩)) ?_
  exact eachD_one
 rintro a69 w70 hA71 ⟨hP73, hW74⟩
 obtain ⟨v75, hv76⟩ : ∃ v', v' = (a69.tmps.getD 110 undef) := ⟨_, rfl⟩
 have hW77 : (fun v' w' => w'.ownsRow Bd 3 1 v' (path.length + 1) ((paE path) ++ (#[.int .i64 p] : Array Value).toList) ∧ Below Bd w w' ∧ Blk w' g (walkC p (updR r d i.imm) rd ev pa) 62 ∧ Blk w' g3 (insC ⟨1, ((d : Nat) : Int), i.a, i.b, i.imm, i.loc, i.off, i.index, i.size, i.fn, i.acq, i.weak, i.rel, i.pred, i.succ, i.to, i.zero⟩) 23 ∧ w'.ownsRow Bd 52 15 ev evs.length (evE evs) ∧ v'.ownBlock ≠ some g ∧ v'.ownBlock ≠ some g3 ∧ ∀ k, ev.ownBlock = some k → v'.ownBlock ≠ some k) v75 w70 := by rw [hv76]; exact hW74
 obtain ⟨ho78, b79, m80, m81, ho82, off83, off84, ap85⟩ := hW77
 have ap86 : ∀ k, v75.ownBlock = some k → ev.ownBlock ≠ some k := fun k h1 h2 => ap85 k h2 h1
 have hA87 : St 117 [(0, (.pointer (some ⟨g, 0, none⟩))), (4, (.bool false)), (5, (.int .i64 (p + 1))), (110, v75), (112, (.pointer (some ⟨g, 11, none⟩)))] a69 := hA71.cut _ (fm_cons (hA71.get 0 _ rfl) (fm_cons (hA71.get 4 _ rfl) (fm_cons (hA71.get 5 _ rfl) (fm_cons hv76.symm (fm_cons (hP73 12 _ (Nat.le_of_ble_eq_true rfl) (by decide) rfl) fm_nil)))))
 refine d_store (v := v75) (wn rfl) (hA87.ev rfl) (hA87.ev rfl) one30 (one_slice (own_form ho78)) m80 (Nat.le_of_ble_eq_true rfl) ?_
 intro w88 hU89 (m90 : Blk w88 g (walkC p (updR r d i.imm) rd ev v75) 62)
 have m91 := m81.upd hU89 (Ne.symm n9)
 have b92 := hU89.below b79 hge
 have ho93 := own_upd ho82 hU89 oe
 have ho94 := own_upd ho78 hU89 off83
 have hA95 : St 117 [(0, (.pointer (some ⟨g, 0, none⟩))), (4, (.bool false)), (5, (.int .i64 (p + 1)))] a69 := hA87.cut _ (fm_cons (hA87.get 0 _ rfl) (fm_cons (hA87.get 4 _ rfl) (fm_cons (hA87.get 5 _ rfl) fm_nil)))
 refine t_norm ?_
 refine wp_seq ?_
 refine wp_region_lit ?_
 refine q_step hA95 rfl (d_move (wn rfl) (hA95.ev rfl) ?_)
 intro a96 hA97
 refine q_step hA97 rfl (d_move (wn rfl) (hA97.ev rfl) ?_)
 intro a98 hA99
 refine q_step hA99 rfl (d_nilCheck (wn rfl) (hA99.ev rfl) ?_)
 intro a100 hA101
 refine q_step hA101 rfl (d_fieldAddr (wn rfl) (hA101.ev rfl) fo62_0 ?_)
 intro a102 hA103
 refine q_step hA103 rfl (d_store (v := (.int .i64 (p + 1))) (wn rfl) (hA103.ev rfl) (hA103.ev rfl) one3 rfl m90 (Nat.le_of_ble_eq_true rfl) ?_)
 intro w104 hU105 (m106 : Blk w104 g (walkC (p + 1) (updR r d i.imm) rd ev v75) 62)
 have m107 := m91.upd hU105 (Ne.symm n9)
 have b108 := hU105.below b92 hge
 have ho109 := own_upd ho93 hU105 oe
 have ho110 := own_upd ho94 hU105 off83
 intro a111 hA112
 refine q_end ?_
 have hA113 : St 117 [(4, (.bool false))] a111 := hA112.cut _ (fm_cons (hA112.get 4 _ rfl) fm_nil)
 refine t_norm ?_
 refine wp_seq ?_
 refine wp_region_lit ?_
 refine q_step hA113 rfl (d_assign (wn rfl) (hA113.ev rfl) ?_)
 intro a114 hA115
 refine q_end ?_
 have hA116 : St 117 [(4, (.bool true))] a114 := hA115.cut _ (fm_cons (hA115.get 4 _ rfl) fm_nil)
 refine t_norm ?_
 refine wp_ret ?_
 refine ret1 rfl hA116 (v := (.bool true)) rfl ?_
 exact ⟨rfl, b108, rd, ev, v75, m106, hge, (hrd.below b108), ho109, (by rw [List.length_append, ← paE_snoc]; exact ho110), oe, off83, ap86⟩
set_option maxHeartbeats 4000000 in
set_option maxRecDepth 4000 in
theorem step_2 (Bd g : Nat) (p : Int) (r : Nat → Int) (rd ev pa : Value) (i : Ins) (d k : Nat) (rds : List Int) (evs : List Ev) (path : List Int) (w : World) (hB : Bd ≤ w.heap.size) (hW : WS Bd g w p r rds evs path rd ev pa) (hne : evs.length ≤ 1000) (hnp : path.length ≤ 1000) (hr : ∀ k, wfI (r k)) (hp : 0 ≤ p) (hp2 : p ≤ 1000) (hd : d < 8) (hk : k < 8) : Calls Try.prog 36 #[.pointer (some ⟨g, 0, none⟩), .agg (insC ⟨2, ((d : Nat) : Int), ((k : Nat) : Int), i.b, i.imm, i.loc, i.off, i.index, i.size, i.fn, i.acq, i.weak, i.rel, i.pred, i.succ, i.to, i.zero⟩)] w fun e w' => e = .returned (.bool true) ∧ Below Bd w w' ∧ ∃ rd' ev' pa', WS Bd g w' (p + 1) (updR r d (r k)) rds evs (path ++ [p]) rd' ev' pa' := by
 obtain ⟨hb, hge, hrd, hev, hpa, oe, op_, ap⟩ := hW
 have ap2 : ∀ k, ev.ownBlock = some k → pa.ownBlock ≠ some k := fun k h1 h2 => ap k h2 h1
 have b0 : Below Bd w w := Below.refl _ _
 refine enter (n := 117) Try.func36 rfl rfl (Nat.le_of_ble_eq_true rfl) ?_
 intro a1 hA2
 refine wp_seq ?_
 refine wp_region_lit ?_
 refine q_step hA2 rfl (d_box (wn rfl) (hA2.ev rfl) ?_)
 intro g3 w4 eg5 hG6 (m7 : Blk w4 g3 (insC ⟨2, ((d : Nat) : Int), ((k : Nat) : Int), i.b, i.imm, i.loc, i.off, i.index, i.size, i.fn, i.acq, i.weak, i.rel, i.pred, i.succ, i.to, i.zero⟩) 23)
 have ge8 : Bd ≤ g3 := eg5 ▸ (Nat.le_trans hB b0.size)
 have n9 : g ≠ g3 := fun h => Nat.lt_irrefl _ ((h.trans eg5) ▸ hb.lt)
 have off10 := own_new hev eg5
 have off11 := own_new hpa eg5
 have m12 := hb.grow hG6
 have b13 := below_grow b0 hG6 (Nat.le_trans hB b0.size)
 have ho14 := own_grow hG6 hev
 have ho15 := own_grow hG6 hpa
 intro a16 hA17
 refine q_step hA17 rfl (d_assign (wn rfl) (hA17.ev rfl) ?_)
 intro a18 hA19
 refine q_end ?_
 have hA20 : St 117 [(0, (.pointer (some ⟨g, 0, none⟩))), (3, (.pointer (some ⟨g3, 0, none⟩))), (4, (.bool false))] a18 := hA19.cut _ (fm_cons (hA19.get 0 _ rfl) (fm_cons (hA19.get 3 _ rfl) (fm_cons (hA19.get 4 _ rfl) fm_nil)))
 refine t_norm ?_
 refine wp_seq ?_
 refine wp_region_lit ?_
 refine q_step hA20 rfl (d_move (wn rfl) (hA20.ev rfl) ?_)
 intro a21 hA22
 refine q_step hA22 rfl (d_nilCheck (wn rfl) (hA22.ev rfl) ?_)
 intro a23 hA24
 refine q_step hA24 rfl (d_fieldAddr (wn rfl) (hA24.ev rfl) fo62_0 ?_)
 intro a25 hA26
 refine q_step hA26 rfl (d_load (v := (.int .i64 p)) (wn rfl) (hA26.ev rfl) one3 (m12.cell rfl) ?_)
 intro a27 hA28
 refine q_step hA28 rfl (d_bin (wn rfl) (hA28.ev rfl) (hA28.ev rfl) (b_add _ _ p 1 _ (by omega) (by omega)) ?_)
 intro a29 hA30
 refine q_step hA30 rfl (d_assign (wn rfl) (hA30.ev rfl) ?_)
 intro a31 hA32
 refine q_end ?_
 have hA33 : St 117 [(0, (.pointer (some ⟨g, 0, none⟩))), (3, (.pointer (some ⟨g3, 0, none⟩))), (4, (.bool false)), (5, (.int .i64 (p + 1)))] a31 := hA32.cut _ (fm_cons (hA32.get 0 _ rfl) (fm_cons (hA32.get 3 _ rfl) (fm_cons (hA32.get 4 _ rfl) (fm_cons (hA32.get 5 _ rfl) fm_nil))))
 refine t_norm ?_
 refine wp_seq ?_
 refine wp_seq ?_
 refine wp_region_lit ?_
 refine q_step hA33 rfl (d_fieldAddr (wn rfl) (hA33.ev rfl) fo23_0 ?_)
 intro a34 hA35
 refine q_step hA35 rfl (d_load (v := (.int .i64 2)) (wn rfl) (hA35.ev rfl) one3 (m7.cell rfl) ?_)
 intro a36 hA37
 refine q_end ?_
 have hA38 : St 117 [(0, (.pointer (some ⟨g, 0, none⟩))), (3, (.pointer (some ⟨g3, 0, none⟩))), (4, (.bool false)), (5, (.int .i64 (p + 1))), (12, (.int .i64 2))] a36 := hA37.cut _ (fm_cons (hA37.get 0 _ rfl) (fm_cons (hA37.get 3 _ rfl) (fm_cons (hA37.get 4 _ rfl) (fm_cons (hA37.get 5 _ rfl) (fm_cons (hA37.get 12 _ rfl) fm_nil)))))
 refine t_norm ?_
 refine wp_block ?_
 refine wp_seq ?_
 refine wp_region_lit ?_
 refine q_step hA38 rfl (d_bin (wn rfl) (hA38.ev rfl) (hA38.ev rfl) (b_eq _ _ 2 1 false _ rfl) ?_)
 intro a39 hA40
 refine q_step hA40 rfl (d_assign (wn rfl) (hA40.ev rfl) ?_)
 intro a41 hA42
 refine q_end ?_
 have hA43 : St 117 [(0, (.pointer (some ⟨g, 0, none⟩))), (3, (.pointer (some ⟨g3, 0, none⟩))), (4, (.bool false)), (5, (.int .i64 (p + 1))), (12, (.int .i64 2)), (13, (.bool false))] a41 := hA42.cut _ (fm_cons (hA42.get 0 _ rfl) (fm_cons (hA42.get 3 _ rfl) (fm_cons (hA42.get 4 _ rfl) (fm_cons (hA42.get 5 _ rfl) (fm_cons (hA42.get 12 _ rfl) (fm_cons (hA42.get 13 _ rfl) fm_nil))))))
 refine t_norm ?_
 refine c_false hA43 rfl ?_
 refine wp_seq ?_
 refine wp_region_lit ?_
 refine q_step hA43 rfl (d_bin (wn rfl) (hA43.ev rfl) (hA43.ev rfl) (b_eq _ _ 2 2 true _ rfl) ?_)
 intro a44 hA45
 refine q_step hA45 rfl (d_assign (wn rfl) (hA45.ev rfl) ?_)
 intro a46 hA47
 refine q_end ?_
 have hA48 : St 117 [(0, (.pointer (some ⟨g, 0, none⟩))), (3, (.pointer (some ⟨g3, 0, none⟩))), (4, (.bool false)), (5, (.int .i64 (p + 1))), (12, (.int .i64 2)), (23, (.bool true))] a46 := hA47.cut _ (fm_cons (hA47.get 0 _ rfl) (fm_cons (hA47.get 3 _ rfl) (fm_cons (hA47.get 4 _ rfl) (fm_cons (hA47.get 5 _ rfl) (fm_cons (hA47.get 12 _ rfl) (fm_cons (hA47.get 23 _ rfl) fm_nil))))))
 refine t_norm ?_
 refine c_true hA48 rfl ?_
 have hA49 : St 117 [(0, (.pointer (some ⟨g, 0, none⟩))), (3, (.pointer (some ⟨g3, 0, none⟩))), (4, (.bool false)), (5, (.int .i64 (p + 1)))] a46 := hA48.cut _ (fm_cons (hA48.get 0 _ rfl) (fm_cons (hA48.get 3 _ rfl) (fm_cons (hA48.get 4 _ rfl) (fm_cons (hA48.get 5 _ rfl) fm_nil))))
 let M50 : Nat → Option (Array Value) := fun _ => none
 have hM50 : M50 = fun _ => none := rfl
 clear_value M50
 have hM50A : ∀ k, M50 k = none := fun k => congrFun hM50 k
 have hM50B : ∀ k, k < Bd → M50 k = none := fun k _ => hM50A k
 refine drawnL (S := SM M50) rfl (tabL [cv (.pointer (some ⟨g, 0, none⟩)), cv (.pointer (some ⟨g3, 1, none⟩)), cv (.int .i64 ((d : Nat) : Int)), cv (.pointer (some ⟨g, 0, none⟩)), cv (.pointer (some ⟨g3, 2, none⟩)), cv (.int .i64 ((k : Nat) : Int)), cv (.pointer (some ⟨g, 0, none⟩)), cv (.pointer (some ⟨g, 1, none⟩)), cv (.pointer (some ⟨g, 1 + k, none⟩)), cv (.int .i64 (r k)), cv (.pointer (some ⟨g, 0, none⟩)), cv (.pointer (some ⟨g, 1, none⟩)), cv (.pointer (some ⟨g, 1 + d, none⟩))]) none (fun _ => none) (fun _ _ => True) [12, 9, 0, 1, 2, 3, 4, 5, 6, 7, 8, 11, 10] [] mixedY SM.refl SM.trans hA49 (by kernel_rfl) (by kernel_rfl) (fun i v u w h => by cases h) ?_ ?_
 ·skip
  refine eachD_cons (.inl ⟨nofun, rfl, fun x y hS hT hk => d_move (wn rfl) (hT.ev rfl) ⟨SM.refl _, rfl⟩⟩) ?_
  refine eachD_cons (.inl ⟨nofun, rfl, fun x y hS hT hk => d_fieldAddr (wn rfl) (hT.ev rfl) fo23_1 ⟨SM.refl _, rfl⟩⟩) ?_
  refine eachD_cons (.inl ⟨nofun, rfl, fun x y hS hT hk => d_load (v := (.int .i64 ((d : Nat) : Int))) (wn rfl) (hk 1 rfl) one3 ((Blk.sm (w := w4.drew) m7 hS (hM50A _)).cell rfl) ⟨SM.refl _, rfl⟩⟩) ?_
  refine eachD_cons (.inl ⟨nofun, rfl, fun x y hS hT hk => d_move (wn rfl) (hT.ev rfl) ⟨SM.refl _, rfl⟩⟩) ?_
  refine eachD_cons (.inl ⟨nofun, rfl, fun x y hS hT hk => d_fieldAddr (wn rfl) (hT.ev rfl) fo23_2 ⟨SM.refl _, rfl⟩⟩) ?_
  refine eachD_cons (.inl ⟨nofun, rfl, fun x y hS hT hk => d_load (v := (.int .i64 ((k : Nat) : Int))) (wn rfl) (hk 4 rfl) one3 ((Blk.sm (w := w4.drew) m7 hS (hM50A _)).cell rfl) ⟨SM.refl _, rfl⟩⟩) ?_
  refine eachD_cons (.inl ⟨nofun, rfl, fun x y hS hT hk => d_nilCheck (wn rfl) (hk 3 rfl) ⟨SM.refl _, rfl⟩⟩) ?_
  refine eachD_cons (.inl ⟨nofun, rfl, fun x y hS hT hk => d_fieldAddr (wn rfl) (hk 6 rfl) fo62_1 ⟨SM.refl _, rfl⟩⟩) ?_
  refine eachD_cons (.inl ⟨nofun, rfl, fun x y hS hT hk => d_indexArrP (j := k) (p := 1 + k) (wn rfl) (hk 7 rfl) (hk 5 rfl) arr43 (by omega) (by omega) ⟨SM.refl _, rfl⟩⟩) ?_
  refine eachD_cons (.inl ⟨nofun, rfl, fun x y hS hT hk => d_load (v := (.int .i64 (r k))) (wn rfl) (hk 8 rfl) one3 ((Blk.sm (w := w4.drew) m12 hS (hM50A _)).cell (walk_get (by omega))) ⟨SM.refl _, rfl⟩⟩) ?_
  refine eachD_cons (.inl ⟨nofun, rfl, fun x y hS hT hk => d_nilCheck (wn rfl) (hk 0 rfl) ⟨SM.refl _, rfl⟩⟩) ?_
  refine eachD_cons (.inl ⟨nofun, rfl, fun x y hS hT hk => d_fieldAddr (wn rfl) (hk 10 rfl) fo62_1 ⟨SM.refl _, rfl⟩⟩) ?_
  refine eachD_cons (.inl ⟨nofun, rfl, fun x y hS hT hk => d_indexArrP (j := d) (p := 1 + d) (wn rfl) (hk 11 rfl) (hk 2 rfl) arr43 (by omega) (by omega) ⟨SM.refl _, rfl⟩⟩) ?_
  exact eachD_one
 rintro a51 w52 hA53 ⟨hS55, hC56⟩
 have hA57 : St 117 [(0, (.pointer (some ⟨g, 0, none⟩))), (4, (.bool false)), (5, (.int .i64 (p + 1))), (34, (.int .i64 (r k))), (37, (.pointer (some ⟨g, 1 + d, none⟩)))] a51 := hA53.cut _ (fm_cons (hA53.get 0 _ rfl) (fm_cons (hA53.get 4 _ rfl) (fm_cons (hA53.get 5 _ rfl) (fm_cons (hC56 9 (Nat.le_of_ble_eq_true rfl)) (fm_cons (hC56 12 (Nat.le_of_ble_eq_true rfl)) fm_nil)))))
 have hG58 : Grow w4 w52 := Grow.trans ((Grow.refl _).drew) (SM.grown (by rw [hM50] at hS55; exact hS55))
 have m59 := m12.grow hG58
 have m60 := m7.grow hG58
 have b61 := below_grow b13 hG58 (Nat.le_trans hB b13.size)
 have ho62 := own_grow hG58 ho14
 have ho63 := own_grow hG58 ho15
 refine d_store (v := (.int .i64 (r k))) (wn rfl) (hA57.ev rfl) (hA57.ev rfl) one3 rfl m59 (by rw [walk_size]; omega) ?_
 intro w64 hU65 m66
 rw [walk_set (by omega)] at m66
 have m67 := m60.upd hU65 (Ne.symm n9)
 have b68 := hU65.below b61 hge
 have ho69 := own_upd ho62 hU65 oe
 have ho70 := own_upd ho63 hU65 op_
 have hA71 : St 117 [(0, (.pointer (some ⟨g, 0, none⟩))), (4, (.bool false)), (5, (.int .i64 (p + 1)))] a51 := hA57.cut _ (fm_cons (hA57.get 0 _ rfl) (fm_cons (hA57.get 4 _ rfl) (fm_cons (hA57.get 5 _ rfl) fm_nil)))
 refine i_norm ?_
 refine t_norm ?_
 refine wp_seq ?_
 have hA72 : St 117 [(0, (.pointer (some ⟨g, 0, none⟩))), (4, (.bool false)), (5, (.int .i64 (p + 1)))] a51 := hA71.cut _ (fm_cons (hA71.get 0 _ rfl) (fm_cons (hA71.get 4 _ rfl) (fm_cons (hA71.get 5 _ rfl) fm_nil)))
 let M73 : Nat → Option (Array Value) := fun _ => none
 have hM73 : M73 = fun _ => none := rfl
 clear_value M73
 have hM73A : ∀ k, M73 k = none := fun k => congrFun hM73 k
 have hM73B : ∀ k, k < Bd → M73 k = none := fun k _ => hM73A k
 refine drawnL (S := SM M73) rfl (tabQ [some (.pointer (some ⟨g, 0, none⟩)), some (.pointer (some ⟨g, 0, none⟩)), some (.pointer (some ⟨g, 0, none⟩)), some (.pointer (some ⟨g, 11, none⟩)), none, some (.pointer (some ⟨g, 0, none⟩)), some (.pointer (some ⟨g, 0, none⟩)), some (.pointer (some ⟨g, 0, none⟩)), none, none, none, some (.pointer (some ⟨g, 0, none⟩)), some (.pointer (some ⟨g, 11, none⟩))] [cv (.pointer (some ⟨g, 0, none⟩)), cv (.pointer (some ⟨g, 0, none⟩)), cv (.pointer (some ⟨g, 0, none⟩)), cv (.pointer (some ⟨g, 11, none⟩)), cv pa, cv (.pointer (some ⟨g, 0, none⟩)), cv (.pointer (some ⟨g, 0, none⟩)), cv (.pointer (some ⟨g, 0, none⟩)), cv (.int .i64 p), cs1 M73 hM73A #[.int .i64 p] 3, cfree, cv (.pointer (some ⟨g, 0, none⟩)), cv (.pointer (some ⟨g, 11, none⟩))]) (some 10) (fun i => (([some (.pointer (some ⟨g, 0, none⟩)), some (.pointer (some ⟨g, 0, none⟩)), some (.pointer (some ⟨g, 0, none⟩)), some (.pointer (some ⟨g, 11, none⟩)), none, some (.pointer (some ⟨g, 0, none⟩)), some (.pointer (some ⟨g, 0, none⟩)), some (.pointer (some ⟨g, 0, none⟩)), none, none, none, some (.pointer (some ⟨g, 0, none⟩)), some (.pointer (some ⟨g, 11, none⟩))] : List (Option Value))[i]?).getD none) (fun v' w' => w'.ownsRow Bd 3 1 v' (path.length + 1) ((paE path) ++ (#[.int .i64 p] : Array Value).toList) ∧ Below Bd w w' ∧ Blk w' g (walkC p (updR r d (r k)) rd ev pa) 62 ∧ Blk w' g3 (insC ⟨2, ((d : Nat) : Int), ((k : Nat) : Int), i.b, i.imm, i.loc, i.off, i.index, i.size, i.fn, i.acq, i.weak, i.rel, i.pred, i.succ, i.to, i.zero⟩) 23 ∧ w'.ownsRow Bd 52 15 ev evs.length (evE evs) ∧ v'.ownBlock ≠ some g ∧ v'.ownBlock ≠ some g3 ∧ ∀ k, ev.ownBlock = some k → v'.ownBlock ≠ some k) [12, 10, 0, 1, 2, 3, 4, 5, 6, 7, 8, 9, 11] [4, 9, 3, 8, 2, 7, 1, 6, 5] mixedY SM.refl SM.trans hA72 (by kernel_rfl) (by kernel_rfl) (tabQ_cv _ _) ?_ ?_
 ·skip
  refine eachD_cons (.inr (.inl ⟨by decide, _, rfl, fun x y hT hk hk0 => d_move (wn rfl) (hT.ev rfl) ⟨rfl, rfl⟩⟩)) ?_
  refine eachD_cons (.inr (.inl ⟨by decide, _, rfl, fun x y hT hk hk0 => d_move (wn rfl) (hT.ev rfl) ⟨rfl, rfl⟩⟩)) ?_
  refine eachD_cons (.inr (.inl ⟨by decide, _, rfl, fun x y hT hk hk0 => d_nilCheck (wn rfl) (hk 1 _ rfl rfl) ⟨rfl, rfl⟩⟩)) ?_
  refine eachD_cons (.inr (.inl ⟨by decide, _, rfl, fun x y hT hk hk0 => d_fieldAddr (wn rfl) (hk 2 _ rfl rfl) fo62_4 ⟨rfl, rfl⟩⟩)) ?_
  refine eachD_cons (.inl ⟨by decide, rfl, fun x y hS hT hk => d_load (v := pa) (wn rfl) (hk 3 rfl) one30 ((Blk.sm (w := w64.drew) m66 hS (hM73A _)).cell rfl) ⟨SM.refl _, rfl⟩⟩) ?_
  refine eachD_cons (.inr (.inl ⟨by decide, _, rfl, fun x y hT hk hk0 => d_move (wn rfl) (hT.ev rfl) ⟨rfl, rfl⟩⟩)) ?_
  refine eachD_cons (.inr (.inl ⟨by decide, _, rfl, fun x y hT hk hk0 => d_nilCheck (wn rfl) (hk 5 _ rfl rfl) ⟨rfl, rfl⟩⟩)) ?_
  refine eachD_cons (.inr (.inl ⟨by decide, _, rfl, fun x y hT hk hk0 => d_fieldAddr (wn rfl) (hk 6 _ rfl rfl) fo62_0 ⟨rfl, rfl⟩⟩)) ?_
  refine eachD_cons (.inl ⟨by decide, rfl, fun x y hS hT hk => d_load (v := (.int .i64 p)) (wn rfl) (hk 7 rfl) one3 ((Blk.sm (w := w64.drew) m66 hS (hM73A _)).cell rfl) ⟨SM.refl _, rfl⟩⟩) ?_
  refine eachD_cons (.inl ⟨by decide, rfl, fun x y hS hT hk => d_slice1 (wn rfl) (show x.eval _ = (.int .i64 p) from (hk 8 rfl)) elm30 rfl (by decide) (fun g w' _ hG hb => ⟨SM.grow hG, g, rfl, hb⟩)⟩) ?_
  refine eachD_cons (.inr (.inr ⟨rfl, fun x y hS hT hk => ?_⟩)) ?_
  ·skip
   obtain ⟨gb, hvb, hbb⟩ := hk 9 rfl
   have hG : Grow w64 y := Grow.trans ((Grow.refl _).drew) (SM.grown (by rw [hM73] at hS; exact hS))
   have hR := own_grow hG ho70
   have hO := own_grow hG ho69
   have hBl := below_grow b68 hG (Nat.le_trans hB b68.size)
   refine d_append (wn rfl) (show x.eval _ = pa from (hk 4 rfl)) hvb elm30 hR hbb rfl rfl (by omega) (by decide) (Nat.le_trans hB hBl.size) ?_
   intro v' w' h1 h2 h3
   exact ⟨h1, below_by hBl h2 (Nat.le_trans hB hBl.size) (fun k hk => (own_lt hR k hk).1), (m66.grow hG).by h2 op_, (m67.grow hG).by h2 off11, own_by hO h2 ap2, lies_ne h3 op_ (m66.grow hG).lt, lies_ne h3 off11 (m67.grow hG).lt, lies_ap h3 ap2 hO⟩
  refine eachD_cons (.inr (.inl ⟨by decide, _, rfl, fun x y hT hk hk0 => d_nilCheck (wn rfl) (hk 0 _ rfl rfl) ⟨rfl, rfl⟩⟩)) ?_
  refine eachD_cons (.inr (.inl ⟨by decide, _, rfl, fun x y hT hk hk0 => d_fieldAddr (wn rfl) (hk 11 _ rfl rfl) fo62_4 ⟨rfl, rfl⟩⟩)) ?_
  exact eachD_one
 rintro a74 w75 hA76 ⟨hP78, hW79⟩
 obtain ⟨v80, hv81⟩ : ∃ v', v' = (a74.tmps.getD 110 undef) := ⟨_, rfl⟩
 have hW82 : (fun v' w' => w'.ownsRow Bd 3 1 v' (path.length + 1) ((paE path) ++ (#[.int .i64 p] : Array Value).toList) ∧ Below Bd w w' ∧ Blk w' g (walkC p (updR r d (r k)) rd ev pa) 62 ∧ Blk w' g3 (insC ⟨2, ((d : Nat) : Int), ((k : Nat) : Int), i.b, i.imm, i.loc, i.off, i.index, i.size, i.fn, i.acq, i.weak, i.rel, i.pred, i.succ, i.to, i.zero⟩) 23 ∧ w'.ownsRow Bd 52 15 ev evs.length (evE evs) ∧ v'.ownBlock ≠ some g ∧ v'.ownBlock ≠ some g3 ∧ ∀ k, ev.ownBlock = some k → v'.ownBlock ≠ some k) v80 w75 := by rw [hv81]; exact hW79
 obtain ⟨ho83, b84, m85, m86, ho87, off88, off89, ap90⟩ := hW82
 have ap91 : ∀ k, v80.ownBlock = some k → ev.ownBlock ≠ some k := fun k h1 h2 => ap90 k h2 h1
 have hA92 : St 117 [(0, (.pointer (some ⟨g, 0, none⟩))), (4, (.bool false)), (5, (.int .i64 (p + 1))), (110, v80), (112, (.pointer (some ⟨g, 11, none⟩)))] a74 := hA76.cut _ (fm_cons (hA76.get 0 _ rfl) (fm_cons (hA76.get 4 _ rfl) (fm_cons (hA76.get 5 _ rfl) (fm_cons hv81.symm (fm_cons (hP78 12 _ (Nat.le_of_ble_eq_true rfl) (by decide) rfl) fm_nil)))))
 refine d_store (v := v80) (wn rfl) (hA92.ev rfl) (hA92.ev rfl) one30 (one_slice (own_form ho83)) m85 (Nat.le_of_ble_eq_true rfl) ?_
 intro w93 hU94 (m95 : Blk w93 g (walkC p (updR r d (r k)) rd ev v80) 62)
 have m96 := m86.upd hU94 (Ne.symm n9)
 have b97 := hU94.below b84 hge
 have ho98 := own_upd ho87 hU94 oe
 have ho99 := own_upd ho83 hU94 off88
 have hA100 : St 117 [(0, (.pointer (some ⟨g, 0, none⟩))), (4, (.bool false)), (5, (.int .i64 (p + 1)))] a74 := hA92.cut _ (fm_cons (hA92.get 0 _ rfl) (fm_cons (hA92.get 4 _ rfl) (fm_cons (hA92.get 5 _ rfl) fm_nil)))
 refine t_norm ?_
 refine wp_seq ?_
 refine wp_region_lit ?_
 refine q_step hA100 rfl (d_move (wn rfl) (hA100.ev rfl) ?_)
 intro a101 hA102
 refine q_step hA102 rfl (d_move (wn rfl) (hA102.ev rfl) ?_)
 intro a103 hA104
 refine q_step hA104 rfl (d_nilCheck (wn rfl) (hA104.ev rfl) ?_)
 intro a105 hA106
 refine q_step hA106 rfl (d_fieldAddr (wn rfl) (hA106.ev rfl) fo62_0 ?_)
 intro a107 hA108
 refine q_step hA108 rfl (d_store (v := (.int .i64 (p + 1))) (wn rfl) (hA108.ev rfl) (hA108.ev rfl) one3 rfl m95 (Nat.le_of_ble_eq_true rfl) ?_)
 intro w109 hU110 (m111 : Blk w109 g (walkC (p + 1) (updR r d (r k)) rd ev v80) 62)
 have m112 := m96.upd hU110 (Ne.symm n9)
 have b113 := hU110.below b97 hge
 have ho114 := own_upd ho98 hU110 oe
 have ho115 := own_upd ho99 hU110 off88
 intro a116 hA117
 refine q_end ?_
 have hA118 : St 117 [(4, (.bool false))] a116 := hA117.cut _ (fm_cons (hA117.get 4 _ rfl) fm_nil)
 refine t_norm ?_
 refine wp_seq ?_
 refine wp_region_lit ?_
 refine q_step hA118 rfl (d_assign (wn rfl) (hA118.ev rfl) ?_)
 intro a119 hA120
 refine q_end ?_
 have hA121 : St 117 [(4, (.bool true))] a119 := hA120.cut _ (fm_cons (hA120.get 4 _ rfl) fm_nil)
 refine t_norm ?_
 refine wp_ret ?_
 refine ret1 rfl hA121 (v := (.bool true)) rfl ?_
 exact ⟨rfl, b113, rd, ev, v80, m111, hge, (hrd.below b113), ho114, (by rw [List.length_append, ← paE_snoc]; exact ho115), oe, off88, ap91⟩
end Go.Proofs.Ytlhompedcphnnaa
