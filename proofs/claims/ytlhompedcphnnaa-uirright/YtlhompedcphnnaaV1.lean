/- How many instructions of a code are of a kind. -/
import Derived.Test.YtlhompedcphnnaaUFacts2
namespace Go.Proofs.Ytlhompedcphnnaa
open Go.RowKit
set_option linter.unusedSimpArgs false
set_option linter.unusedVariables false
set_option maxHeartbeats 4000000 in
set_option maxRecDepth 4000 in
theorem count_any (f : Nat) (p : Ins → Bool) (l : List Ins) (v : Value) (w : World) (hent : ((Try.prog.funcs[f]?).map fun fn => (fn.name == "runtime.NumGoroutine", fn.body.isNone)) = some (false, false)) (hcon : ∀ i w, Calls Try.prog f #[.agg (insC i)] w fun e w' => e = .returned (.bool (p i)) ∧ Grow w w') (hs : Sl insE 17 w.heap.size w v l) (hl : l.length ≤ 1000000) : Calls Try.prog 34 #[v, .func (.func f) #[] #[]] w fun e w' => e = .returned (.int .i64 (l.countP p : Nat)) ∧ Grow w w' := by
  have b0 : Below w.heap.size w w := Below.refl _ _
  refine enter (n := 21) Try.func34 rfl rfl (Nat.le_of_ble_eq_true rfl) ?_
  intro a1 hA2
  refine wp_seq ?_
  refine wp_region_lit ?_
  refine q_step hA2 rfl (d_assign (wn rfl) (hA2.ev (v := (.int .i64 0)) rfl) ?_)
  intro a3 hA4
  refine q_end ?_
  have hA5 : St 21 [(0, v), (1, (.func (.func f) #[] #[])), (4, (.int .i64 0))] a3 := hA4.cut _ (fm_cons (hA4.get 0 _ rfl) (fm_cons (hA4.get 1 _ rfl) (fm_cons (hA4.get 4 _ rfl) fm_nil)))
  refine t_norm ?_
  refine wp_seq ?_
  refine wp_region_lit ?_
  refine q_step hA5 rfl (d_assign (wn rfl) (hA5.ev (v := (.int .i64 0)) rfl) ?_)
  intro a6 hA7
  refine q_end ?_
  have hA8 : St 21 [(0, v), (1, (.func (.func f) #[] #[])), (4, (.int .i64 0)), (5, (.int .i64 0))] a6 := hA7.cut _ (fm_cons (hA7.get 0 _ rfl) (fm_cons (hA7.get 1 _ rfl) (fm_cons (hA7.get 4 _ rfl) (fm_cons (hA7.get 5 _ rfl) fm_nil))))
  refine t_norm ?_
  refine wp_seq ?_
  refine wp_seq ?_
  refine wp_region_lit ?_
  refine q_step hA8 rfl (d_move (wn rfl) (hA8.ev (v := v) rfl) ?_)
  intro a9 hA10
  refine q_step hA10 rfl (d_len (n := l.length) (wn rfl) (hA10.ev (v := v) rfl) slc35 hs.form ?_)
  intro a11 hA12
  refine q_step hA12 rfl (d_move (wn rfl) (hA12.ev (v := (.int .i64 0)) rfl) ?_)
  intro a13 hA14
  refine q_end ?_
  have hA15 : St 21 [(1, (.func (.func f) #[] #[])), (4, (.int .i64 0)), (5, (.int .i64 0)), (8, v), (9, (.int .i64 ((l.length : Nat) : Int))), (10, (.int .i64 0))] a13 := hA14.cut _ (fm_cons (hA14.get 1 _ rfl) (fm_cons (hA14.get 4 _ rfl) (fm_cons (hA14.get 5 _ rfl) (fm_cons (hA14.get 8 _ rfl) (fm_cons (hA14.get 9 _ rfl) (fm_cons (hA14.get 10 _ rfl) fm_nil))))))
  refine t_norm ?_
  refine wp_block ?_
  refine loop_by (fun m17 a18 w19 => ∃ j16 : Nat, m17 = l.length - j16 ∧ (j16 ≤ l.length) ∧ St 21 [(1, (.func (.func f) #[] #[])), (5, (.int .i64 ((l.countP p - (l.drop j16).countP p : Nat) : Int))), (8, v), (9, (.int .i64 ((l.length : Nat) : Int))), (10, (.int .i64 ((j16 : Nat) : Int)))] a18 ∧ Below w.heap.size w w19) (l.length - 0) ⟨0, rfl, (by omega), hA15.cut _ (fm_cons (hA15.get 1 _ rfl) (fm_cons ((hA15.get 5 _ rfl).trans (congrArg (Value.int .i64) (by simp))) (fm_cons (hA15.get 8 _ rfl) (fm_cons (hA15.get 9 _ rfl) (fm_cons ((hA15.get 10 _ rfl).trans (congrArg (Value.int .i64) (by simp))) fm_nil))))), b0⟩ ?_
  rintro m17 a18 w19 ⟨j16, hm22, hc23, hA20, b21⟩
  have hk1 := cnt_le p l j16
  have hk2 := countP_drop_le p l j16
  have hk3 := List.countP_le_length (p := p) (l := l)
  refine wp_seq ?_
  refine wp_region_lit ?_
  rcases Bool.eq_false_or_eq_true (decide (((j16 : Nat) : Int) < ((l.length : Nat) : Int))) with hb24 | hb24
  · skip
    have hq25 := of_decide_eq_true hb24
    refine q_step hA20 rfl (d_bin (wn rfl) (hA20.ev (v := (.int .i64 ((j16 : Nat) : Int))) rfl) (hA20.ev (v := (.int .i64 ((l.length : Nat) : Int))) rfl) (b_lt _ _ ((j16 : Nat) : Int) ((l.length : Nat) : Int) true _ hb24) ?_)
    intro a26 hA27
    refine q_end ?_
    have hA28 : St 21 [(1, (.func (.func f) #[] #[])), (5, (.int .i64 ((l.countP p - (l.drop j16).countP p : Nat) : Int))), (8, v), (9, (.int .i64 ((l.length : Nat) : Int))), (10, (.int .i64 ((j16 : Nat) : Int))), (11, (.bool true))] a26 := hA27.cut _ (fm_cons (hA27.get 1 _ rfl) (fm_cons (hA27.get 5 _ rfl) (fm_cons (hA27.get 8 _ rfl) (fm_cons (hA27.get 9 _ rfl) (fm_cons (hA27.get 10 _ rfl) (fm_cons (hA27.get 11 _ rfl) fm_nil))))))
    refine t_norm ?_
    refine wp_seq ?_
    refine c_true hA28 rfl ?_
    refine wp_skip ?_
    refine t_norm ?_
    refine wp_seq ?_
    refine wp_block ?_
    refine wp_seq ?_
    refine wp_region_lit ?_
    obtain ⟨y29, hy30⟩ : ∃ y29, l[j16]? = some y29 := ⟨_, List.getElem?_eq_getElem (show j16 < l.length by omega)⟩
    obtain ⟨b31, o32, lt33, hr34, hix35⟩ := (hs.below b21).at hy30
    refine q_step hA28 rfl (d_indexAt (j := j16) (wn rfl) (hA28.ev (v := v) rfl) (hA28.ev (v := (.int .i64 ((j16 : Nat) : Int))) rfl) slc35 hix35 (get_lt hy30) ?_)
    intro a36 hA37
    refine q_step hA37 rfl (d_loadMid (cs := (insC y29)) (wn rfl) (hA37.ev (v := (.pointer (some ⟨b31, o32, none⟩))) rfl) row23 hr34 ?_)
    intro a38 hA39
    refine q_step hA39 rfl (d_alloc (wn rfl) zero23 ?_)
    intro g40 w41 eg42 hG43 (m44 : Blk w41 g40 #[.int .i64 0, .int .i64 0, .int .i64 0, .int .i64 0, .int .i64 0, .int .i64 0, .int .i64 0, .int .i64 0, .int .i64 0, .int .i64 0, .bool false, .bool false, .bool false, .int .i64 0, .int .i64 0, .int .i64 0, .bool false] 23)
    have ge45 : w.heap.size ≤ g40 := eg42 ▸ b21.size
    have hr46 := range_below hr34 hG43 (Nat.lt_of_lt_of_le lt33 b21.size)
    have b47 := below_grow b21 hG43 b21.size
    intro a48 hA49
    refine q_step hA49 rfl (d_storeRow (wn rfl) (hA49.ev (v := (.pointer (some ⟨g40, 0, none⟩))) rfl) (hA49.ev (v := (.agg (insC y29))) rfl) row23 m44 rfl rfl ?_)
    intro w50 hU51 (m52 : Blk w50 g40 (insC y29) 23)
    have hr53 := range_upd hr46 hU51 (Nat.ne_of_lt (Nat.lt_of_lt_of_le lt33 ge45))
    have b54 := hU51.below b47 ge45
    intro a55 hA56
    refine q_end ?_
    have hA57 : St 21 [(1, (.func (.func f) #[] #[])), (5, (.int .i64 ((l.countP p - (l.drop j16).countP p : Nat) : Int))), (7, (.pointer (some ⟨g40, 0, none⟩))), (8, v), (9, (.int .i64 ((l.length : Nat) : Int))), (10, (.int .i64 ((j16 : Nat) : Int))), (11, (.bool true)), (12, (.pointer (some ⟨b31, o32, none⟩))), (13, (.agg (insC y29)))] a55 := hA56.cut _ (fm_cons (hA56.get 1 _ rfl) (fm_cons (hA56.get 5 _ rfl) (fm_cons (hA56.get 7 _ rfl) (fm_cons (hA56.get 8 _ rfl) (fm_cons (hA56.get 9 _ rfl) (fm_cons (hA56.get 10 _ rfl) (fm_cons (hA56.get 11 _ rfl) (fm_cons (hA56.get 12 _ rfl) (fm_cons (hA56.get 13 _ rfl) fm_nil)))))))))
    refine t_norm ?_
    refine wp_seq ?_
    refine wp_region_lit ?_
    refine q_step hA57 rfl (d_move (wn rfl) (hA57.ev (v := (.func (.func f) #[] #[])) rfl) ?_)
    intro a58 hA59
    refine q_step hA59 rfl (d_loadRow (cs := (insC y29)) (wn rfl) (hA59.ev (v := (.pointer (some ⟨g40, 0, none⟩))) rfl) row23 m52 ?_)
    intro a60 hA61
    refine q_step hA61 rfl (d_callv (f := f) (wn rfl) (hA61.ev (v := (.func (.func f) #[] #[])) rfl) hent (map1 (hA61.ev (v := (.agg (insC y29))) rfl)) (hcon y29 w50) ?_)
    rintro e65 w62 ⟨he64, hG63⟩
    have m66 := m52.grow hG63
    have hr67 := range_below hr53 hG63 (Nat.lt_of_lt_of_le lt33 b54.size)
    have b68 := below_grow b54 hG63 b54.size
    rcases Bool.eq_false_or_eq_true (p y29) with hb69 | hb69
    · skip
      refine ⟨.bool true, he64.trans (ret_bool hb69), ?_⟩
      intro a71 hA72
      refine q_end ?_
      have hA73 : St 21 [(1, (.func (.func f) #[] #[])), (5, (.int .i64 ((l.countP p - (l.drop j16).countP p : Nat) : Int))), (7, (.pointer (some ⟨g40, 0, none⟩))), (8, v), (9, (.int .i64 ((l.length : Nat) : Int))), (10, (.int .i64 ((j16 : Nat) : Int))), (11, (.bool true)), (12, (.pointer (some ⟨b31, o32, none⟩))), (13, (.agg (insC y29))), (14, (.func (.func f) #[] #[])), (15, (.agg (insC y29))), (16, (.bool true))] a71 := hA72.cut _ (fm_cons (hA72.get 1 _ rfl) (fm_cons (hA72.get 5 _ rfl) (fm_cons (hA72.get 7 _ rfl) (fm_cons (hA72.get 8 _ rfl) (fm_cons (hA72.get 9 _ rfl) (fm_cons (hA72.get 10 _ rfl) (fm_cons (hA72.get 11 _ rfl) (fm_cons (hA72.get 12 _ rfl) (fm_cons (hA72.get 13 _ rfl) (fm_cons (hA72.get 14 _ rfl) (fm_cons (hA72.get 15 _ rfl) (fm_cons (hA72.get 16 _ rfl) fm_nil))))))))))))
      refine t_norm ?_
      refine c_true hA73 rfl ?_
      refine wp_region_lit ?_
      refine q_step hA73 rfl (d_move (wn rfl) (hA73.ev (v := (.int .i64 ((l.countP p - (l.drop j16).countP p : Nat) : Int))) rfl) ?_)
      intro a74 hA75
      refine q_step hA75 rfl (d_bin (wn rfl) (hA75.ev (v := (.int .i64 ((l.countP p - (l.drop j16).countP p : Nat) : Int))) rfl) (hA75.ev (v := (.int .i64 1)) rfl) (b_add _ _ ((l.countP p - (l.drop j16).countP p : Nat) : Int) 1 _ (by omega) (by omega)) ?_)
      intro a76 hA77
      refine q_step hA77 rfl (d_assign (wn rfl) (hA77.ev (v := (.int .i64 (((l.countP p - (l.drop j16).countP p : Nat) : Int) + 1))) rfl) ?_)
      intro a78 hA79
      refine q_end ?_
      have hA80 : St 21 [(1, (.func (.func f) #[] #[])), (5, (.int .i64 (((l.countP p - (l.drop j16).countP p : Nat) : Int) + 1))), (7, (.pointer (some ⟨g40, 0, none⟩))), (8, v), (9, (.int .i64 ((l.length : Nat) : Int))), (10, (.int .i64 ((j16 : Nat) : Int))), (11, (.bool true)), (12, (.pointer (some ⟨b31, o32, none⟩))), (13, (.agg (insC y29))), (14, (.func (.func f) #[] #[])), (15, (.agg (insC y29))), (16, (.bool true)), (17, (.int .i64 ((l.countP p - (l.drop j16).countP p : Nat) : Int))), (18, (.int .i64 (((l.countP p - (l.drop j16).countP p : Nat) : Int) + 1)))] a78 := hA79.cut _ (fm_cons (hA79.get 1 _ rfl) (fm_cons (hA79.get 5 _ rfl) (fm_cons (hA79.get 7 _ rfl) (fm_cons (hA79.get 8 _ rfl) (fm_cons (hA79.get 9 _ rfl) (fm_cons (hA79.get 10 _ rfl) (fm_cons (hA79.get 11 _ rfl) (fm_cons (hA79.get 12 _ rfl) (fm_cons (hA79.get 13 _ rfl) (fm_cons (hA79.get 14 _ rfl) (fm_cons (hA79.get 15 _ rfl) (fm_cons (hA79.get 16 _ rfl) (fm_cons (hA79.get 17 _ rfl) (fm_cons (hA79.get 18 _ rfl) fm_nil))))))))))))))
      refine i_norm ?_
      refine t_norm ?_
      refine wp_region_lit ?_
      refine q_step hA80 rfl (d_bin (wn rfl) (hA80.ev (v := (.int .i64 ((j16 : Nat) : Int))) rfl) (hA80.ev (v := (.int .i64 1)) rfl) (b_add _ _ ((j16 : Nat) : Int) 1 _ (by omega) (by omega)) ?_)
      intro a81 hA82
      refine q_step hA82 rfl (d_move (wn rfl) (hA82.ev (v := (.int .i64 (((j16 : Nat) : Int) + 1))) rfl) ?_)
      intro a83 hA84
      refine q_end ?_
      have hA85 : St 21 [(1, (.func (.func f) #[] #[])), (5, (.int .i64 (((l.countP p - (l.drop j16).countP p : Nat) : Int) + 1))), (7, (.pointer (some ⟨g40, 0, none⟩))), (8, v), (9, (.int .i64 ((l.length : Nat) : Int))), (10, (.int .i64 (((j16 : Nat) : Int) + 1))), (11, (.bool true)), (12, (.pointer (some ⟨b31, o32, none⟩))), (13, (.agg (insC y29))), (14, (.func (.func f) #[] #[])), (15, (.agg (insC y29))), (16, (.bool true)), (17, (.int .i64 ((l.countP p - (l.drop j16).countP p : Nat) : Int))), (18, (.int .i64 (((l.countP p - (l.drop j16).countP p : Nat) : Int) + 1))), (19, (.int .i64 (((j16 : Nat) : Int) + 1)))] a83 := hA84.cut _ (fm_cons (hA84.get 1 _ rfl) (fm_cons (hA84.get 5 _ rfl) (fm_cons (hA84.get 7 _ rfl) (fm_cons (hA84.get 8 _ rfl) (fm_cons (hA84.get 9 _ rfl) (fm_cons (hA84.get 10 _ rfl) (fm_cons (hA84.get 11 _ rfl) (fm_cons (hA84.get 12 _ rfl) (fm_cons (hA84.get 13 _ rfl) (fm_cons (hA84.get 14 _ rfl) (fm_cons (hA84.get 15 _ rfl) (fm_cons (hA84.get 16 _ rfl) (fm_cons (hA84.get 17 _ rfl) (fm_cons (hA84.get 18 _ rfl) (fm_cons (hA84.get 19 _ rfl) fm_nil)))))))))))))))
      refine t_norm ?_
      exact ⟨l.length - (j16 + 1), (by rw [hm22]; omega), j16 + 1, rfl, (by omega), hA85.cut _ (fm_cons (hA85.get 1 _ rfl) (fm_cons ((hA85.get 5 _ rfl).trans (congrArg (Value.int .i64) (by have h1 := count_at p hy30; have h2 := countP_drop_le p l j16; simp [hb69] at h1; omega))) (fm_cons (hA85.get 8 _ rfl) (fm_cons (hA85.get 9 _ rfl) (fm_cons ((hA85.get 10 _ rfl).trans (congrArg (Value.int .i64) (by omega))) fm_nil))))), b68⟩
    · skip
      refine ⟨.bool false, he64.trans (ret_bool hb69), ?_⟩
      intro a87 hA88
      refine q_end ?_
      have hA89 : St 21 [(1, (.func (.func f) #[] #[])), (5, (.int .i64 ((l.countP p - (l.drop j16).countP p : Nat) : Int))), (7, (.pointer (some ⟨g40, 0, none⟩))), (8, v), (9, (.int .i64 ((l.length : Nat) : Int))), (10, (.int .i64 ((j16 : Nat) : Int))), (11, (.bool true)), (12, (.pointer (some ⟨b31, o32, none⟩))), (13, (.agg (insC y29))), (14, (.func (.func f) #[] #[])), (15, (.agg (insC y29))), (16, (.bool false))] a87 := hA88.cut _ (fm_cons (hA88.get 1 _ rfl) (fm_cons (hA88.get 5 _ rfl) (fm_cons (hA88.get 7 _ rfl) (fm_cons (hA88.get 8 _ rfl) (fm_cons (hA88.get 9 _ rfl) (fm_cons (hA88.get 10 _ rfl) (fm_cons (hA88.get 11 _ rfl) (fm_cons (hA88.get 12 _ rfl) (fm_cons (hA88.get 13 _ rfl) (fm_cons (hA88.get 14 _ rfl) (fm_cons (hA88.get 15 _ rfl) (fm_cons (hA88.get 16 _ rfl) fm_nil))))))))))))
      refine t_norm ?_
      refine c_false hA89 rfl ?_
      refine wp_skip ?_
      refine i_norm ?_
      refine t_norm ?_
      refine wp_region_lit ?_
      refine q_step hA89 rfl (d_bin (wn rfl) (hA89.ev (v := (.int .i64 ((j16 : Nat) : Int))) rfl) (hA89.ev (v := (.int .i64 1)) rfl) (b_add _ _ ((j16 : Nat) : Int) 1 _ (by omega) (by omega)) ?_)
      intro a90 hA91
      refine q_step hA91 rfl (d_move (wn rfl) (hA91.ev (v := (.int .i64 (((j16 : Nat) : Int) + 1))) rfl) ?_)
      intro a92 hA93
      refine q_end ?_
      have hA94 : St 21 [(1, (.func (.func f) #[] #[])), (5, (.int .i64 ((l.countP p - (l.drop j16).countP p : Nat) : Int))), (7, (.pointer (some ⟨g40, 0, none⟩))), (8, v), (9, (.int .i64 ((l.length : Nat) : Int))), (10, (.int .i64 (((j16 : Nat) : Int) + 1))), (11, (.bool true)), (12, (.pointer (some ⟨b31, o32, none⟩))), (13, (.agg (insC y29))), (14, (.func (.func f) #[] #[])), (15, (.agg (insC y29))), (16, (.bool false)), (19, (.int .i64 (((j16 : Nat) : Int) + 1)))] a92 := hA93.cut _ (fm_cons (hA93.get 1 _ rfl) (fm_cons (hA93.get 5 _ rfl) (fm_cons (hA93.get 7 _ rfl) (fm_cons (hA93.get 8 _ rfl) (fm_cons (hA93.get 9 _ rfl) (fm_cons (hA93.get 10 _ rfl) (fm_cons (hA93.get 11 _ rfl) (fm_cons (hA93.get 12 _ rfl) (fm_cons (hA93.get 13 _ rfl) (fm_cons (hA93.get 14 _ rfl) (fm_cons (hA93.get 15 _ rfl) (fm_cons (hA93.get 16 _ rfl) (fm_cons (hA93.get 19 _ rfl) fm_nil)))))))))))))
      refine t_norm ?_
      exact ⟨l.length - (j16 + 1), (by rw [hm22]; omega), j16 + 1, rfl, (by omega), hA94.cut _ (fm_cons (hA94.get 1 _ rfl) (fm_cons ((hA94.get 5 _ rfl).trans (congrArg (Value.int .i64) (by have h1 := count_at p hy30; have h2 := countP_drop_le p l j16; simp [hb69] at h1; omega))) (fm_cons (hA94.get 8 _ rfl) (fm_cons (hA94.get 9 _ rfl) (fm_cons ((hA94.get 10 _ rfl).trans (congrArg (Value.int .i64) (by omega))) fm_nil))))), b68⟩
  · skip
    have hq95 := of_decide_eq_false hb24
    refine q_step hA20 rfl (d_bin (wn rfl) (hA20.ev (v := (.int .i64 ((j16 : Nat) : Int))) rfl) (hA20.ev (v := (.int .i64 ((l.length : Nat) : Int))) rfl) (b_lt _ _ ((j16 : Nat) : Int) ((l.length : Nat) : Int) false _ hb24) ?_)
    intro a96 hA97
    refine q_end ?_
    have hA98 : St 21 [(1, (.func (.func f) #[] #[])), (5, (.int .i64 ((l.countP p - (l.drop j16).countP p : Nat) : Int))), (8, v), (9, (.int .i64 ((l.length : Nat) : Int))), (10, (.int .i64 ((j16 : Nat) : Int))), (11, (.bool false))] a96 := hA97.cut _ (fm_cons (hA97.get 1 _ rfl) (fm_cons (hA97.get 5 _ rfl) (fm_cons (hA97.get 8 _ rfl) (fm_cons (hA97.get 9 _ rfl) (fm_cons (hA97.get 10 _ rfl) (fm_cons (hA97.get 11 _ rfl) fm_nil))))))
    refine t_norm ?_
    refine wp_seq ?_
    refine c_false hA98 rfl ?_
    refine wp_exit ?_
    refine t_exit ?_
    refine t_exit ?_
    refine i_here ?_
    refine t_norm ?_
    refine wp_seq ?_
    refine wp_region_lit ?_
    refine q_step hA98 rfl (d_move (wn rfl) (hA98.ev (v := (.int .i64 ((l.countP p - (l.drop j16).countP p : Nat) : Int))) rfl) ?_)
    intro a99 hA100
    refine q_step hA100 rfl (d_assign (wn rfl) (hA100.ev (v := (.int .i64 ((l.countP p - (l.drop j16).countP p : Nat) : Int))) rfl) ?_)
    intro a101 hA102
    refine q_end ?_
    have hA103 : St 21 [(4, (.int .i64 ((l.countP p - (l.drop j16).countP p : Nat) : Int)))] a101 := hA102.cut _ (fm_cons (hA102.get 4 _ rfl) fm_nil)
    refine t_norm ?_
    refine wp_ret ?_
    refine ret1 rfl hA103 (v := (.int .i64 ((l.countP p - (l.drop j16).countP p : Nat) : Int))) rfl ?_
    exact ⟨ret_int (by have := drop_end (l := l) (j := j16) (by omega); simp [this, opsN, brN]), b21⟩
end Go.Proofs.Ytlhompedcphnnaa
