/- What all codes together may have only so many of. -/
import Derived.Test.YtlhompedcphnnaaV2
namespace Go.Proofs.Ytlhompedcphnnaa
open Go.RowKit
set_option linter.unusedSimpArgs false
set_option linter.unusedVariables false
set_option maxHeartbeats 4000000 in
set_option maxRecDepth 4000 in
theorem checkCounts_any (cs : List (List Ins)) (v : Value) (w : World) (hCs : Cs w.heap.size w v cs) (hn : cs.length ≤ 1000) (ht : totN cs ≤ 1000000) : Calls Try.prog 33 #[v] w fun e w' => e = .returned (.int .i64 (cntsR cs)) ∧ Grow w w' := by
  obtain ⟨us, hus, hul, hin⟩ := id hCs
  have b0 : Below w.heap.size w w := Below.refl _ _
  refine enter (n := 26) Try.func33 rfl rfl (Nat.le_of_ble_eq_true rfl) ?_
  intro a1 hA2
  refine wp_seq ?_
  refine wp_region_lit ?_
  refine q_step hA2 rfl (d_assign (wn rfl) (hA2.ev (v := (.int .i64 0)) rfl) ?_)
  intro a3 hA4
  refine q_end ?_
  have hA5 : St 26 [(0, v), (2, (.int .i64 0))] a3 := hA4.cut _ (fm_cons (hA4.get 0 _ rfl) (fm_cons (hA4.get 2 _ rfl) fm_nil))
  refine t_norm ?_
  refine wp_seq ?_
  refine wp_region_lit ?_
  refine q_step hA5 rfl (d_assign (wn rfl) (hA5.ev (v := (.int .i64 0)) rfl) ?_)
  intro a6 hA7
  refine q_step hA7 rfl (d_assign (wn rfl) (hA7.ev (v := (.int .i64 0)) rfl) ?_)
  intro a8 hA9
  refine q_end ?_
  have hA10 : St 26 [(0, v), (2, (.int .i64 0)), (3, (.int .i64 0)), (4, (.int .i64 0))] a8 := hA9.cut _ (fm_cons (hA9.get 0 _ rfl) (fm_cons (hA9.get 2 _ rfl) (fm_cons (hA9.get 3 _ rfl) (fm_cons (hA9.get 4 _ rfl) fm_nil))))
  refine t_norm ?_
  refine wp_seq ?_
  refine wp_seq ?_
  refine wp_region_lit ?_
  refine q_step hA10 rfl (d_move (wn rfl) (hA10.ev (v := v) rfl) ?_)
  intro a11 hA12
  refine q_step hA12 rfl (d_len (n := us.length) (wn rfl) (hA12.ev (v := v) rfl) slc34 hus.form ?_)
  intro a13 hA14
  refine q_step hA14 rfl (d_move (wn rfl) (hA14.ev (v := (.int .i64 0)) rfl) ?_)
  intro a15 hA16
  refine q_end ?_
  have hA17 : St 26 [(2, (.int .i64 0)), (3, (.int .i64 0)), (4, (.int .i64 0)), (7, v), (8, (.int .i64 ((us.length : Nat) : Int))), (9, (.int .i64 0))] a15 := hA16.cut _ (fm_cons (hA16.get 2 _ rfl) (fm_cons (hA16.get 3 _ rfl) (fm_cons (hA16.get 4 _ rfl) (fm_cons (hA16.get 7 _ rfl) (fm_cons (hA16.get 8 _ rfl) (fm_cons (hA16.get 9 _ rfl) fm_nil))))))
  refine t_norm ?_
  refine wp_block ?_
  refine loop_by (fun m19 a20 w21 => ∃ j18 : Nat, m19 = cs.length - j18 ∧ (j18 ≤ cs.length) ∧ St 26 [(3, (.int .i64 (((cs.map opsN).sum - ((cs.drop j18).map opsN).sum : Nat) : Int))), (4, (.int .i64 (((cs.map brN).sum - ((cs.drop j18).map brN).sum : Nat) : Int))), (7, v), (8, (.int .i64 ((us.length : Nat) : Int))), (9, (.int .i64 ((j18 : Nat) : Int)))] a20 ∧ Below w.heap.size w w21) (cs.length - 0) ⟨0, rfl, (by omega), hA17.cut _ (fm_cons ((hA17.get 3 _ rfl).trans (congrArg (Value.int .i64) (by simp))) (fm_cons ((hA17.get 4 _ rfl).trans (congrArg (Value.int .i64) (by simp))) (fm_cons (hA17.get 7 _ rfl) (fm_cons (hA17.get 8 _ rfl) (fm_cons ((hA17.get 9 _ rfl).trans (congrArg (Value.int .i64) (by simp))) fm_nil))))), b0⟩ ?_
  rintro m19 a20 w21 ⟨j18, hm24, hc25, hA22, b23⟩
  have hkopsN := drop_sum_le opsN cs j18
  have hmopsN := sum_le opsN ops_le cs
  have hkbrN := drop_sum_le brN cs j18
  have hmbrN := sum_le brN br_le cs
  refine wp_seq ?_
  refine wp_region_lit ?_
  rcases Bool.eq_false_or_eq_true (decide (((j18 : Nat) : Int) < ((us.length : Nat) : Int))) with hb26 | hb26
  · skip
    have hq27 := of_decide_eq_true hb26
    refine q_step hA22 rfl (d_bin (wn rfl) (hA22.ev (v := (.int .i64 ((j18 : Nat) : Int))) rfl) (hA22.ev (v := (.int .i64 ((us.length : Nat) : Int))) rfl) (b_lt _ _ ((j18 : Nat) : Int) ((us.length : Nat) : Int) true _ hb26) ?_)
    intro a28 hA29
    refine q_end ?_
    have hA30 : St 26 [(3, (.int .i64 (((cs.map opsN).sum - ((cs.drop j18).map opsN).sum : Nat) : Int))), (4, (.int .i64 (((cs.map brN).sum - ((cs.drop j18).map brN).sum : Nat) : Int))), (7, v), (8, (.int .i64 ((us.length : Nat) : Int))), (9, (.int .i64 ((j18 : Nat) : Int))), (10, (.bool true))] a28 := hA29.cut _ (fm_cons (hA29.get 3 _ rfl) (fm_cons (hA29.get 4 _ rfl) (fm_cons (hA29.get 7 _ rfl) (fm_cons (hA29.get 8 _ rfl) (fm_cons (hA29.get 9 _ rfl) (fm_cons (hA29.get 10 _ rfl) fm_nil))))))
    refine t_norm ?_
    refine wp_seq ?_
    refine c_true hA30 rfl ?_
    refine wp_skip ?_
    refine t_norm ?_
    refine wp_seq ?_
    refine wp_block ?_
    refine wp_seq ?_
    refine wp_region_lit ?_
    obtain ⟨y31, hy32⟩ : ∃ y31, us[j18]? = some y31 := ⟨_, List.getElem?_eq_getElem (show j18 < us.length by omega)⟩
    obtain ⟨b33, o34, lt35, hr36, hix37⟩ := (hus.below b23).at hy32
    obtain ⟨c38, hc39⟩ : ∃ c, cs[j18]? = some c := ⟨_, List.getElem?_eq_getElem (show j18 < cs.length by have := get_lt hy32; omega)⟩
    have hsl40 := hin j18 y31 c38 hy32 hc39
    have hlc38 := len_le hc39
    have hoc38 := ops_le c38
    have hbc38 := br_le c38
    refine q_step hA30 rfl (d_indexAt (j := j18) (wn rfl) (hA30.ev (v := v) rfl) (hA30.ev (v := (.int .i64 ((j18 : Nat) : Int))) rfl) slc34 hix37 (get_lt hy32) ?_)
    intro a41 hA42
    refine q_step hA42 rfl (d_load (v := y31) (wn rfl) (hA42.ev (v := (.pointer (some ⟨b33, o34, none⟩))) rfl) one35 (hr36 0 _ rfl) ?_)
    intro a43 hA44
    refine q_step hA44 rfl (d_assign (wn rfl) (hA44.ev (v := y31) rfl) ?_)
    intro a45 hA46
    refine q_end ?_
    have hA47 : St 26 [(3, (.int .i64 (((cs.map opsN).sum - ((cs.drop j18).map opsN).sum : Nat) : Int))), (4, (.int .i64 (((cs.map brN).sum - ((cs.drop j18).map brN).sum : Nat) : Int))), (6, y31), (7, v), (8, (.int .i64 ((us.length : Nat) : Int))), (9, (.int .i64 ((j18 : Nat) : Int))), (10, (.bool true)), (11, (.pointer (some ⟨b33, o34, none⟩))), (12, y31)] a45 := hA46.cut _ (fm_cons (hA46.get 3 _ rfl) (fm_cons (hA46.get 4 _ rfl) (fm_cons (hA46.get 6 _ rfl) (fm_cons (hA46.get 7 _ rfl) (fm_cons (hA46.get 8 _ rfl) (fm_cons (hA46.get 9 _ rfl) (fm_cons (hA46.get 10 _ rfl) (fm_cons (hA46.get 11 _ rfl) (fm_cons (hA46.get 12 _ rfl) fm_nil)))))))))
    refine t_norm ?_
    refine wp_seq ?_
    refine wp_region_lit ?_
    refine q_step hA47 rfl (d_move (wn rfl) (hA47.ev (v := (.int .i64 (((cs.map opsN).sum - ((cs.drop j18).map opsN).sum : Nat) : Int))) rfl) ?_)
    intro a48 hA49
    refine q_step hA49 rfl (d_move (wn rfl) (hA49.ev (v := y31) rfl) ?_)
    intro a50 hA51
    refine q_step hA51 rfl (d_call (wn rfl) ent22 (map1 (hA51.ev (v := y31) rfl)) (ops_any c38 y31 w21 ((hsl40.below b23).mono b23.size) (by omega)) ?_)
    rintro e55 w52 ⟨he54, hG53⟩
    have hr56 := range_below hr36 hG53 (Nat.lt_of_lt_of_le lt35 b23.size)
    have b57 := below_grow b23 hG53 b23.size
    refine ⟨(.int .i64 ((opsN c38 : Nat) : Int)), he54, ?_⟩
    intro a58 hA59
    refine q_step hA59 rfl (d_bin (wn rfl) (hA59.ev (v := (.int .i64 (((cs.map opsN).sum - ((cs.drop j18).map opsN).sum : Nat) : Int))) rfl) (hA59.ev (v := (.int .i64 ((opsN c38 : Nat) : Int))) rfl) (b_add _ _ (((cs.map opsN).sum - ((cs.drop j18).map opsN).sum : Nat) : Int) ((opsN c38 : Nat) : Int) _ (by omega) (by omega)) ?_)
    intro a60 hA61
    refine q_step hA61 rfl (d_assign (wn rfl) (hA61.ev (v := (.int .i64 ((((cs.map opsN).sum - ((cs.drop j18).map opsN).sum : Nat) : Int) + ((opsN c38 : Nat) : Int)))) rfl) ?_)
    intro a62 hA63
    refine q_end ?_
    have hA64 : St 26 [(3, (.int .i64 ((((cs.map opsN).sum - ((cs.drop j18).map opsN).sum : Nat) : Int) + ((opsN c38 : Nat) : Int)))), (4, (.int .i64 (((cs.map brN).sum - ((cs.drop j18).map brN).sum : Nat) : Int))), (6, y31), (7, v), (8, (.int .i64 ((us.length : Nat) : Int))), (9, (.int .i64 ((j18 : Nat) : Int))), (10, (.bool true)), (11, (.pointer (some ⟨b33, o34, none⟩))), (12, y31), (13, (.int .i64 (((cs.map opsN).sum - ((cs.drop j18).map opsN).sum : Nat) : Int))), (14, y31), (15, (.int .i64 ((opsN c38 : Nat) : Int))), (16, (.int .i64 ((((cs.map opsN).sum - ((cs.drop j18).map opsN).sum : Nat) : Int) + ((opsN c38 : Nat) : Int))))] a62 := hA63.cut _ (fm_cons (hA63.get 3 _ rfl) (fm_cons (hA63.get 4 _ rfl) (fm_cons (hA63.get 6 _ rfl) (fm_cons (hA63.get 7 _ rfl) (fm_cons (hA63.get 8 _ rfl) (fm_cons (hA63.get 9 _ rfl) (fm_cons (hA63.get 10 _ rfl) (fm_cons (hA63.get 11 _ rfl) (fm_cons (hA63.get 12 _ rfl) (fm_cons (hA63.get 13 _ rfl) (fm_cons (hA63.get 14 _ rfl) (fm_cons (hA63.get 15 _ rfl) (fm_cons (hA63.get 16 _ rfl) fm_nil)))))))))))))
    refine t_norm ?_
    refine wp_region_lit ?_
    refine q_step hA64 rfl (d_move (wn rfl) (hA64.ev (v := (.int .i64 (((cs.map brN).sum - ((cs.drop j18).map brN).sum : Nat) : Int))) rfl) ?_)
    intro a65 hA66
    refine q_step hA66 rfl (d_move (wn rfl) (hA66.ev (v := y31) rfl) ?_)
    intro a67 hA68
    refine q_step hA68 rfl (d_call (wn rfl) ent24 (map1 (hA68.ev (v := y31) rfl)) (branches_any c38 y31 w52 ((hsl40.below b57).mono b57.size) (by omega)) ?_)
    rintro e72 w69 ⟨he71, hG70⟩
    have hr73 := range_below hr56 hG70 (Nat.lt_of_lt_of_le lt35 b57.size)
    have b74 := below_grow b57 hG70 b57.size
    refine ⟨(.int .i64 ((brN c38 : Nat) : Int)), he71, ?_⟩
    intro a75 hA76
    refine q_step hA76 rfl (d_bin (wn rfl) (hA76.ev (v := (.int .i64 (((cs.map brN).sum - ((cs.drop j18).map brN).sum : Nat) : Int))) rfl) (hA76.ev (v := (.int .i64 ((brN c38 : Nat) : Int))) rfl) (b_add _ _ (((cs.map brN).sum - ((cs.drop j18).map brN).sum : Nat) : Int) ((brN c38 : Nat) : Int) _ (by omega) (by omega)) ?_)
    intro a77 hA78
    refine q_step hA78 rfl (d_assign (wn rfl) (hA78.ev (v := (.int .i64 ((((cs.map brN).sum - ((cs.drop j18).map brN).sum : Nat) : Int) + ((brN c38 : Nat) : Int)))) rfl) ?_)
    intro a79 hA80
    refine q_end ?_
    have hA81 : St 26 [(3, (.int .i64 ((((cs.map opsN).sum - ((cs.drop j18).map opsN).sum : Nat) : Int) + ((opsN c38 : Nat) : Int)))), (4, (.int .i64 ((((cs.map brN).sum - ((cs.drop j18).map brN).sum : Nat) : Int) + ((brN c38 : Nat) : Int)))), (6, y31), (7, v), (8, (.int .i64 ((us.length : Nat) : Int))), (9, (.int .i64 ((j18 : Nat) : Int))), (10, (.bool true)), (11, (.pointer (some ⟨b33, o34, none⟩))), (12, y31), (13, (.int .i64 (((cs.map opsN).sum - ((cs.drop j18).map opsN).sum : Nat) : Int))), (14, y31), (15, (.int .i64 ((opsN c38 : Nat) : Int))), (16, (.int .i64 ((((cs.map opsN).sum - ((cs.drop j18).map opsN).sum : Nat) : Int) + ((opsN c38 : Nat) : Int)))), (17, (.int .i64 (((cs.map brN).sum - ((cs.drop j18).map brN).sum : Nat) : Int))), (18, y31), (19, (.int .i64 ((brN c38 : Nat) : Int))), (20, (.int .i64 ((((cs.map brN).sum - ((cs.drop j18).map brN).sum : Nat) : Int) + ((brN c38 : Nat) : Int))))] a79 := hA80.cut _ (fm_cons (hA80.get 3 _ rfl) (fm_cons (hA80.get 4 _ rfl) (fm_cons (hA80.get 6 _ rfl) (fm_cons (hA80.get 7 _ rfl) (fm_cons (hA80.get 8 _ rfl) (fm_cons (hA80.get 9 _ rfl) (fm_cons (hA80.get 10 _ rfl) (fm_cons (hA80.get 11 _ rfl) (fm_cons (hA80.get 12 _ rfl) (fm_cons (hA80.get 13 _ rfl) (fm_cons (hA80.get 14 _ rfl) (fm_cons (hA80.get 15 _ rfl) (fm_cons (hA80.get 16 _ rfl) (fm_cons (hA80.get 17 _ rfl) (fm_cons (hA80.get 18 _ rfl) (fm_cons (hA80.get 19 _ rfl) (fm_cons (hA80.get 20 _ rfl) fm_nil)))))))))))))))))
    refine i_norm ?_
    refine t_norm ?_
    refine wp_region_lit ?_
    refine q_step hA81 rfl (d_bin (wn rfl) (hA81.ev (v := (.int .i64 ((j18 : Nat) : Int))) rfl) (hA81.ev (v := (.int .i64 1)) rfl) (b_add _ _ ((j18 : Nat) : Int) 1 _ (by omega) (by omega)) ?_)
    intro a82 hA83
    refine q_step hA83 rfl (d_move (wn rfl) (hA83.ev (v := (.int .i64 (((j18 : Nat) : Int) + 1))) rfl) ?_)
    intro a84 hA85
    refine q_end ?_
    have hA86 : St 26 [(3, (.int .i64 ((((cs.map opsN).sum - ((cs.drop j18).map opsN).sum : Nat) : Int) + ((opsN c38 : Nat) : Int)))), (4, (.int .i64 ((((cs.map brN).sum - ((cs.drop j18).map brN).sum : Nat) : Int) + ((brN c38 : Nat) : Int)))), (6, y31), (7, v), (8, (.int .i64 ((us.length : Nat) : Int))), (9, (.int .i64 (((j18 : Nat) : Int) + 1))), (10, (.bool true)), (11, (.pointer (some ⟨b33, o34, none⟩))), (12, y31), (13, (.int .i64 (((cs.map opsN).sum - ((cs.drop j18).map opsN).sum : Nat) : Int))), (14, y31), (15, (.int .i64 ((opsN c38 : Nat) : Int))), (16, (.int .i64 ((((cs.map opsN).sum - ((cs.drop j18).map opsN).sum : Nat) : Int) + ((opsN c38 : Nat) : Int)))), (17, (.int .i64 (((cs.map brN).sum - ((cs.drop j18).map brN).sum : Nat) : Int))), (18, y31), (19, (.int .i64 ((brN c38 : Nat) : Int))), (20, (.int .i64 ((((cs.map brN).sum - ((cs.drop j18).map brN).sum : Nat) : Int) + ((brN c38 : Nat) : Int)))), (21, (.int .i64 (((j18 : Nat) : Int) + 1)))] a84 := hA85.cut _ (fm_cons (hA85.get 3 _ rfl) (fm_cons (hA85.get 4 _ rfl) (fm_cons (hA85.get 6 _ rfl) (fm_cons (hA85.get 7 _ rfl) (fm_cons (hA85.get 8 _ rfl) (fm_cons (hA85.get 9 _ rfl) (fm_cons (hA85.get 10 _ rfl) (fm_cons (hA85.get 11 _ rfl) (fm_cons (hA85.get 12 _ rfl) (fm_cons (hA85.get 13 _ rfl) (fm_cons (hA85.get 14 _ rfl) (fm_cons (hA85.get 15 _ rfl) (fm_cons (hA85.get 16 _ rfl) (fm_cons (hA85.get 17 _ rfl) (fm_cons (hA85.get 18 _ rfl) (fm_cons (hA85.get 19 _ rfl) (fm_cons (hA85.get 20 _ rfl) (fm_cons (hA85.get 21 _ rfl) fm_nil))))))))))))))))))
    refine t_norm ?_
    exact ⟨cs.length - (j18 + 1), (by rw [hm24]; omega), j18 + 1, rfl, (by omega), hA86.cut _ (fm_cons ((hA86.get 3 _ rfl).trans (congrArg (Value.int .i64) (by have h1 := sum_at opsN hc39; have h2 := drop_sum_le opsN cs j18; omega))) (fm_cons ((hA86.get 4 _ rfl).trans (congrArg (Value.int .i64) (by have h1 := sum_at brN hc39; have h2 := drop_sum_le brN cs j18; omega))) (fm_cons (hA86.get 7 _ rfl) (fm_cons (hA86.get 8 _ rfl) (fm_cons ((hA86.get 9 _ rfl).trans (congrArg (Value.int .i64) (by omega))) fm_nil))))), b74⟩
  · skip
    have hq87 := of_decide_eq_false hb26
    refine q_step hA22 rfl (d_bin (wn rfl) (hA22.ev (v := (.int .i64 ((j18 : Nat) : Int))) rfl) (hA22.ev (v := (.int .i64 ((us.length : Nat) : Int))) rfl) (b_lt _ _ ((j18 : Nat) : Int) ((us.length : Nat) : Int) false _ hb26) ?_)
    intro a88 hA89
    refine q_end ?_
    have hA90 : St 26 [(3, (.int .i64 (((cs.map opsN).sum - ((cs.drop j18).map opsN).sum : Nat) : Int))), (4, (.int .i64 (((cs.map brN).sum - ((cs.drop j18).map brN).sum : Nat) : Int))), (7, v), (8, (.int .i64 ((us.length : Nat) : Int))), (9, (.int .i64 ((j18 : Nat) : Int))), (10, (.bool false))] a88 := hA89.cut _ (fm_cons (hA89.get 3 _ rfl) (fm_cons (hA89.get 4 _ rfl) (fm_cons (hA89.get 7 _ rfl) (fm_cons (hA89.get 8 _ rfl) (fm_cons (hA89.get 9 _ rfl) (fm_cons (hA89.get 10 _ rfl) fm_nil))))))
    refine t_norm ?_
    refine wp_seq ?_
    refine c_false hA90 rfl ?_
    refine wp_exit ?_
    refine t_exit ?_
    refine t_exit ?_
    refine i_here ?_
    refine t_norm ?_
    refine wp_seq ?_
    refine wp_seq ?_
    refine wp_region_lit ?_
    refine q_step hA90 rfl (d_move (wn rfl) (hA90.ev (v := (.int .i64 (((cs.map opsN).sum - ((cs.drop j18).map opsN).sum : Nat) : Int))) rfl) ?_)
    intro a91 hA92
    rcases Bool.eq_false_or_eq_true (decide ((((cs.map opsN).sum - ((cs.drop j18).map opsN).sum : Nat) : Int) > 6)) with hb93 | hb93
    · skip
      have hq94 := of_decide_eq_true hb93
      refine q_step hA92 rfl (d_bin (wn rfl) (hA92.ev (v := (.int .i64 (((cs.map opsN).sum - ((cs.drop j18).map opsN).sum : Nat) : Int))) rfl) (hA92.ev (v := (.int .i64 6)) rfl) (b_gt _ _ (((cs.map opsN).sum - ((cs.drop j18).map opsN).sum : Nat) : Int) 6 true _ hb93) ?_)
      intro a95 hA96
      refine q_end ?_
      have hA97 : St 26 [(4, (.int .i64 (((cs.map brN).sum - ((cs.drop j18).map brN).sum : Nat) : Int))), (23, (.bool true))] a95 := hA96.cut _ (fm_cons (hA96.get 4 _ rfl) (fm_cons (hA96.get 23 _ rfl) fm_nil))
      refine t_norm ?_
      refine c_true hA97 rfl ?_
      refine wp_seq ?_
      refine wp_region_lit ?_
      refine q_step hA97 rfl (d_assign (wn rfl) (hA97.ev (v := (.int .i64 32)) rfl) ?_)
      intro a98 hA99
      refine q_end ?_
      have hA100 : St 26 [(2, (.int .i64 32)), (4, (.int .i64 (((cs.map brN).sum - ((cs.drop j18).map brN).sum : Nat) : Int)))] a98 := hA99.cut _ (fm_cons (hA99.get 2 _ rfl) (fm_cons (hA99.get 4 _ rfl) fm_nil))
      refine t_norm ?_
      refine wp_ret ?_
      refine t_ret ?_
      refine ret1 rfl hA100 (v := (.int .i64 32)) rfl ?_
      exact ⟨ret_int (by have h0 := drop_end (l := cs) (j := j18) (by omega); have h1 : (cs.map opsN).sum = sumO cs := rfl; have h2 : (cs.map brN).sum = sumB cs := rfl; simp only [h0, List.map_nil, List.sum_nil, Nat.sub_zero, h1, h2] at *; simp [cntsR, hb26, hb93]), b23⟩
    · skip
      have hq101 := of_decide_eq_false hb93
      refine q_step hA92 rfl (d_bin (wn rfl) (hA92.ev (v := (.int .i64 (((cs.map opsN).sum - ((cs.drop j18).map opsN).sum : Nat) : Int))) rfl) (hA92.ev (v := (.int .i64 6)) rfl) (b_gt _ _ (((cs.map opsN).sum - ((cs.drop j18).map opsN).sum : Nat) : Int) 6 false _ hb93) ?_)
      intro a102 hA103
      refine q_end ?_
      have hA104 : St 26 [(4, (.int .i64 (((cs.map brN).sum - ((cs.drop j18).map brN).sum : Nat) : Int))), (23, (.bool false))] a102 := hA103.cut _ (fm_cons (hA103.get 4 _ rfl) (fm_cons (hA103.get 23 _ rfl) fm_nil))
      refine t_norm ?_
      refine c_false hA104 rfl ?_
      refine wp_skip ?_
      refine t_norm ?_
      refine wp_seq ?_
      refine wp_seq ?_
      refine wp_region_lit ?_
      refine q_step hA104 rfl (d_move (wn rfl) (hA104.ev (v := (.int .i64 (((cs.map brN).sum - ((cs.drop j18).map brN).sum : Nat) : Int))) rfl) ?_)
      intro a105 hA106
      rcases Bool.eq_false_or_eq_true (decide ((((cs.map brN).sum - ((cs.drop j18).map brN).sum : Nat) : Int) > 3)) with hb107 | hb107
      · skip
        have hq108 := of_decide_eq_true hb107
        refine q_step hA106 rfl (d_bin (wn rfl) (hA106.ev (v := (.int .i64 (((cs.map brN).sum - ((cs.drop j18).map brN).sum : Nat) : Int))) rfl) (hA106.ev (v := (.int .i64 3)) rfl) (b_gt _ _ (((cs.map brN).sum - ((cs.drop j18).map brN).sum : Nat) : Int) 3 true _ hb107) ?_)
        intro a109 hA110
        refine q_end ?_
        have hA111 : St 26 [(25, (.bool true))] a109 := hA110.cut _ (fm_cons (hA110.get 25 _ rfl) fm_nil)
        refine t_norm ?_
        refine c_true hA111 rfl ?_
        refine wp_seq ?_
        refine wp_region_lit ?_
        refine q_step hA111 rfl (d_assign (wn rfl) (hA111.ev (v := (.int .i64 33)) rfl) ?_)
        intro a112 hA113
        refine q_end ?_
        have hA114 : St 26 [(2, (.int .i64 33))] a112 := hA113.cut _ (fm_cons (hA113.get 2 _ rfl) fm_nil)
        refine t_norm ?_
        refine wp_ret ?_
        refine t_ret ?_
        refine ret1 rfl hA114 (v := (.int .i64 33)) rfl ?_
        exact ⟨ret_int (by have h0 := drop_end (l := cs) (j := j18) (by omega); have h1 : (cs.map opsN).sum = sumO cs := rfl; have h2 : (cs.map brN).sum = sumB cs := rfl; simp only [h0, List.map_nil, List.sum_nil, Nat.sub_zero, h1, h2] at *; simp [cntsR, hb26, hb93, hb107]), b23⟩
      · skip
        have hq115 := of_decide_eq_false hb107
        refine q_step hA106 rfl (d_bin (wn rfl) (hA106.ev (v := (.int .i64 (((cs.map brN).sum - ((cs.drop j18).map brN).sum : Nat) : Int))) rfl) (hA106.ev (v := (.int .i64 3)) rfl) (b_gt _ _ (((cs.map brN).sum - ((cs.drop j18).map brN).sum : Nat) : Int) 3 false _ hb107) ?_)
        intro a116 hA117
        refine q_end ?_
        have hA118 : St 26 [(25, (.bool false))] a116 := hA117.cut _ (fm_cons (hA117.get 25 _ rfl) fm_nil)
        refine t_norm ?_
        refine c_false hA118 rfl ?_
        refine wp_skip ?_
        refine t_norm ?_
        refine wp_seq ?_
        refine wp_region_lit ?_
        refine q_step hA118 rfl (d_assign (wn rfl) (hA118.ev (v := (.int .i64 0)) rfl) ?_)
        intro a119 hA120
        refine q_end ?_
        have hA121 : St 26 [(2, (.int .i64 0))] a119 := hA120.cut _ (fm_cons (hA120.get 2 _ rfl) fm_nil)
        refine t_norm ?_
        refine wp_ret ?_
        refine ret1 rfl hA121 (v := (.int .i64 0)) rfl ?_
        exact ⟨ret_int (by have h0 := drop_end (l := cs) (j := j18) (by omega); have h1 : (cs.map opsN).sum = sumO cs := rfl; have h2 : (cs.map brN).sum = sumB cs := rfl; simp only [h0, List.map_nil, List.sum_nil, Nat.sub_zero, h1, h2] at *; simp [cntsR, hb26, hb93, hb107]), b23⟩
end Go.Proofs.Ytlhompedcphnnaa
