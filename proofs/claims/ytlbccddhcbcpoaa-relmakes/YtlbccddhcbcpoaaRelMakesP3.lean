/- What the reference's Seq returns. -/
import Derived.Test.YtlbccddhcbcpoaaRelMakesP2
import Derived.Deep.Slices
namespace Go.Proofs.Ytlbccddhcbcpoaa.En
open Go.RowKit
set_option linter.unusedSimpArgs false
set_option linter.unusedVariables false
theorem ent16 : ((Try.prog.funcs[16]?).map fun fn => (fn.name == "runtime.NumGoroutine", fn.body.isNone)) = some (false, false) := by kernel_rfl
theorem ent54 : ((Try.prog.funcs[54]?).map fun fn => (fn.name == "runtime.NumGoroutine", fn.body.isNone)) = some (false, false) := by kernel_rfl
theorem slc38 : sliceB Try.prog 38 28 32 = true := by kernel_rfl
attribute [local irreducible] cells row U one upd nil evB fst inn part seq2 sqs met uni twoI mtI idr allB aft tcs tabR unI updt relR
set_option maxHeartbeats 4000000 in
set_option maxRecDepth 4000 in
theorem rseq_any (rs : List Rl) (v : Value) (w : World) (hrs : Sl relE 32 w.heap.size w v rs) (hl : rs.length ≤ 1000000) : Calls Try.prog 24 #[v] w fun e w' => e = .returned (.agg (cells (sqs rs))) ∧ Grow w w' := by
  have b0 : Below w.heap.size w w := Below.refl _ _
  refine enter (n := 19) Try.func24 rfl rfl (Nat.le_of_ble_eq_true rfl) ?_
  intro a1 hA2
  refine wp_seq ?_
  refine wp_region_lit ?_
  refine q_step hA2 rfl (d_alloc (wn rfl) zero28 ?_)
  intro g3 w4 eg5 hG6 (m7 : Blk w4 g3 (cells nil) 28)
  have ge8 : w.heap.size ≤ g3 := eg5 ▸ b0.size
  have b9 := below_grow b0 hG6 b0.size
  intro a10 hA11
  refine q_end ?_
  refine t_norm ?_
  refine wp_seq ?_
  refine wp_region_lit ?_
  refine q_step hA11 rfl (d_call (wn rfl) ent16 (map1 (hA11.ev (v := (.int .u32 4294967295)) rfl)) (rid_all w4) ?_)
  rintro e15 w12 ⟨he14, hG13⟩
  have m16 := m7.grow hG13
  have b17 := below_grow b9 hG13 b9.size
  refine ⟨(.agg (cells (idr allS))), he14, ?_⟩
  intro a18 hA19
  refine q_step hA19 rfl (d_alloc (wn rfl) zero28 ?_)
  intro g20 w21 eg22 hG23 (m24 : Blk w21 g20 (cells nil) 28)
  have ge25 : w.heap.size ≤ g20 := eg22 ▸ b17.size
  have n26 : g3 ≠ g20 := fun h => Nat.lt_irrefl _ ((h.trans eg22) ▸ m16.lt)
  have m27 := m16.grow hG23
  have b28 := below_grow b17 hG23 b17.size
  intro a29 hA30
  refine q_step hA30 rfl (d_storeRow (wn rfl) (hA30.ev (v := (.pointer (some ⟨g20, 0, none⟩))) rfl) (hA30.ev (v := (.agg (cells (idr allS)))) rfl) (row28c _) m24 (by rw [cells_size, cells_size]) (cells_oneL _) ?_)
  intro w31 hU32 (m33 : Blk w31 g20 (cells (idr allS)) 28)
  have m34 := m27.upd hU32 n26
  have b35 := hU32.below b28 ge25
  intro a36 hA37
  refine q_end ?_
  refine t_norm ?_
  refine wp_seq ?_
  refine wp_seq ?_
  refine wp_region_lit ?_
  refine q_step hA37 rfl (d_assign (wn rfl) (hA37.ev (v := (.int .i64 0)) rfl) ?_)
  intro a38 hA39
  refine q_end ?_
  refine t_norm ?_
  refine wp_block ?_
  have m40 : Blk w31 g20 (cells (sqs (rs.take 0))) 28 := by rw [sqs_zero]; exact m33
  refine loop_by (fun m42 a43 w44 => ∃ j41 : Nat, m42 = rs.length - j41 ∧ (j41 ≤ rs.length) ∧ St 19 [(0, v), (2, (.pointer (some ⟨g3, 0, none⟩))), (3, (.pointer (some ⟨g20, 0, none⟩))), (4, (.int .i64 ((j41 : Nat) : Int)))] a43 ∧ Below w.heap.size w w44 ∧ Blk w44 g3 (cells nil) 28 ∧ Blk w44 g20 (cells (sqs (rs.take j41))) 28) (rs.length - 0) ⟨0, rfl, (by omega), hA39.cut _ (fm_cons (hA39.get 0 _ rfl) (fm_cons (hA39.get 2 _ rfl) (fm_cons (hA39.get 3 _ rfl) (fm_cons ((hA39.get 4 _ rfl).trans (congrArg (Value.int .i64) (by omega))) fm_nil)))), b35, m34, m40⟩ ?_
  rintro m42 a43 w44 ⟨j41, hm47, hc48, hA45, b46, m49, m50⟩
  refine wp_seq ?_
  refine wp_seq ?_
  refine wp_region_lit ?_
  refine q_step hA45 rfl (d_move (wn rfl) (hA45.ev (v := (.int .i64 ((j41 : Nat) : Int))) rfl) ?_)
  intro a51 hA52
  refine q_step hA52 rfl (d_move (wn rfl) (hA52.ev (v := v) rfl) ?_)
  intro a53 hA54
  refine q_step hA54 rfl (d_len (n := rs.length) (wn rfl) (hA54.ev (v := v) rfl) slc38 hrs.form ?_)
  intro a55 hA56
  rcases Bool.eq_false_or_eq_true (decide (((j41 : Nat) : Int) < ((rs.length : Nat) : Int))) with hb57 | hb57
  · skip
    have hq58 := of_decide_eq_true hb57
    refine q_step hA56 rfl (d_bin (wn rfl) (hA56.ev (v := (.int .i64 ((j41 : Nat) : Int))) rfl) (hA56.ev (v := (.int .i64 ((rs.length : Nat) : Int))) rfl) (b_lt _ _ ((j41 : Nat) : Int) ((rs.length : Nat) : Int) true _ hb57) ?_)
    intro a59 hA60
    refine q_end ?_
    refine t_norm ?_
    refine c_true hA60 rfl ?_
    refine wp_skip ?_
    refine t_norm ?_
    refine wp_seq ?_
    refine wp_block ?_
    have bD61 := below_grow b46 ((Grow.refl w44).drew) b46.size
    obtain ⟨y62, hy63⟩ : ∃ y62, rs[j41]? = some y62 := ⟨_, List.getElem?_eq_getElem (show j41 < rs.length by omega)⟩
    obtain ⟨b64, o65, lt66, hr67, hix68⟩ := (hrs.below b46).at hy63
    have hA69 : St 19 [(0, v), (2, (.pointer (some ⟨g3, 0, none⟩))), (3, (.pointer (some ⟨g20, 0, none⟩))), (4, (.int .i64 ((j41 : Nat) : Int)))] a59 := hA60.cut _ (fm_cons (hA60.get 0 _ rfl) (fm_cons (hA60.get 2 _ rfl) (fm_cons (hA60.get 3 _ rfl) (fm_cons (hA60.get 4 _ rfl) fm_nil))))
    let M70 : Nat → Option (Array Value) := fun _ => none
    have hM70 : M70 = fun _ => none := rfl
    clear_value M70
    have hM70A : ∀ k, M70 k = none := fun k => congrFun hM70 k
    have hM70B : ∀ k, k < w.heap.size → M70 k = none := fun k _ => hM70A k
    refine drawnL (S := SM M70) rfl (tabL [cv (.agg (cells (sqs (rs.take j41)))), cv v, cv (.int .i64 ((j41 : Nat) : Int)), cv (.pointer (some ⟨b64, o65, none⟩)), cv (.agg (cells y62)), cv (.agg (cells (seq2 (sqs (rs.take j41)) y62)))]) none (fun _ => none) (fun _ _ => True) [5, 0, 1, 2, 3, 4] [] mixedY SM.refl SM.trans hA69 (by kernel_rfl) (by kernel_rfl) (fun i v u w h => by cases h) ?_ ?_
    · skip
      refine eachD_cons (.inl ⟨nofun, rfl, fun x y hS hT hk => d_loadRow (cs := (cells (sqs (rs.take j41)))) (wn rfl) (hT.ev (v := (.pointer (some ⟨g20, 0, none⟩))) rfl) (row28c _) (Blk.sm (w := w44.drew) m50 hS (hM70A _)) ⟨SM.refl _, rfl⟩⟩) ?_
      refine eachD_cons (.inl ⟨nofun, rfl, fun x y hS hT hk => d_move (wn rfl) (hT.ev (v := v) rfl) ⟨SM.refl _, rfl⟩⟩) ?_
      refine eachD_cons (.inl ⟨nofun, rfl, fun x y hS hT hk => d_move (wn rfl) (hT.ev (v := (.int .i64 ((j41 : Nat) : Int))) rfl) ⟨SM.refl _, rfl⟩⟩) ?_
      refine eachD_cons (.inl ⟨nofun, rfl, fun x y hS hT hk => d_indexAt (j := j41) (wn rfl) (hk 1 rfl) (hk 2 rfl) slc38 hix68 (get_lt hy63) ⟨SM.refl _, rfl⟩⟩) ?_
      refine eachD_cons (.inl ⟨nofun, rfl, fun x y hS hT hk => d_loadMid (cs := (cells y62)) (wn rfl) (hk 3 rfl) (row28c _) (range_sm (w := w44.drew) hr67 hS (Nat.lt_of_lt_of_le lt66 b46.size) (hM70B _ lt66)) ⟨SM.refl _, rfl⟩⟩) ?_
      refine eachD_cons (.inl ⟨nofun, rfl, fun x y hS hT hk => d_call (wn rfl) ent54 (map2 (show x.eval _ = (.agg (cells (sqs (rs.take j41)))) from (hk 0 rfl)) (show x.eval _ = (.agg (cells y62)) from (hk 4 rfl))) (rtwo_any (sqs (rs.take j41)) y62 y) (fun _ _ ⟨he, hG⟩ => ⟨(.agg (cells (seq2 (sqs (rs.take j41)) y62))), he, SM.grow hG, rfl⟩)⟩) ?_
      exact eachD_one
    rintro a71 w72 hA73 ⟨hS75, hC76⟩
    have hA77 : St 19 [(0, v), (2, (.pointer (some ⟨g3, 0, none⟩))), (3, (.pointer (some ⟨g20, 0, none⟩))), (4, (.int .i64 ((j41 : Nat) : Int))), (17, (.agg (cells (seq2 (sqs (rs.take j41)) y62))))] a71 := hA73.cut _ (fm_cons (hA73.get 0 _ rfl) (fm_cons (hA73.get 2 _ rfl) (fm_cons (hA73.get 3 _ rfl) (fm_cons (hA73.get 4 _ rfl) (fm_cons (hC76 5 (Nat.le_of_ble_eq_true rfl)) fm_nil)))))
    have hG78 : Grow w44 w72 := Grow.trans ((Grow.refl _).drew) (SM.grown (by rw [hM70] at hS75; exact hS75))
    have m79 := m49.grow hG78
    have m80 := m50.grow hG78
    have hr81 := range_below hr67 hG78 (Nat.lt_of_lt_of_le lt66 b46.size)
    have b82 := below_grow b46 hG78 b46.size
    refine d_storeRow (wn rfl) (hA77.ev (v := (.pointer (some ⟨g20, 0, none⟩))) rfl) (hA77.ev (v := (.agg (cells (seq2 (sqs (rs.take j41)) y62)))) rfl) (row28c _) m80 (by rw [cells_size, cells_size]) (cells_oneL _) ?_
    intro w83 hU84 (m85 : Blk w83 g20 (cells (seq2 (sqs (rs.take j41)) y62)) 28)
    have m86 := m79.upd hU84 n26
    have hr87 := range_upd hr81 hU84 (Nat.ne_of_lt (Nat.lt_of_lt_of_le lt66 ge25))
    have b88 := hU84.below b82 ge25
    refine i_norm ?_
    refine t_norm ?_
    refine wp_region_lit ?_
    refine q_step hA77 rfl (d_move (wn rfl) (hA77.ev (v := (.int .i64 ((j41 : Nat) : Int))) rfl) ?_)
    intro a89 hA90
    refine q_step hA90 rfl (d_bin (wn rfl) (hA90.ev (v := (.int .i64 ((j41 : Nat) : Int))) rfl) (hA90.ev (v := (.int .i64 1)) rfl) (b_add _ _ ((j41 : Nat) : Int) 1 _ (by omega) (by omega)) ?_)
    intro a91 hA92
    refine q_step hA92 rfl (d_assign (wn rfl) (hA92.ev (v := (.int .i64 (((j41 : Nat) : Int) + 1))) rfl) ?_)
    intro a93 hA94
    refine q_end ?_
    refine t_norm ?_
    have m95 : Blk w83 g20 (cells (sqs (rs.take (j41 + 1)))) 28 := by rw [sqs_take hy63]; exact m85
    exact ⟨rs.length - (j41 + 1), (by rw [hm47]; omega), j41 + 1, rfl, (by omega), hA94.cut _ (fm_cons (hA94.get 0 _ rfl) (fm_cons (hA94.get 2 _ rfl) (fm_cons (hA94.get 3 _ rfl) (fm_cons ((hA94.get 4 _ rfl).trans (congrArg (Value.int .i64) (by omega))) fm_nil)))), b88, m86, m95⟩
  · skip
    have hq96 := of_decide_eq_false hb57
    refine q_step hA56 rfl (d_bin (wn rfl) (hA56.ev (v := (.int .i64 ((j41 : Nat) : Int))) rfl) (hA56.ev (v := (.int .i64 ((rs.length : Nat) : Int))) rfl) (b_lt _ _ ((j41 : Nat) : Int) ((rs.length : Nat) : Int) false _ hb57) ?_)
    intro a97 hA98
    refine q_end ?_
    refine t_norm ?_
    refine c_false hA98 rfl ?_
    refine wp_exit ?_
    refine t_exit ?_
    refine t_exit ?_
    refine i_here ?_
    refine t_norm ?_
    refine wp_seq ?_
    refine wp_region_lit ?_
    refine q_step hA98 rfl (d_loadRow (cs := (cells (sqs (rs.take j41)))) (wn rfl) (hA98.ev (v := (.pointer (some ⟨g20, 0, none⟩))) rfl) (row28c _) m50 ?_)
    intro a99 hA100
    refine q_step hA100 rfl (d_storeRow (wn rfl) (hA100.ev (v := (.pointer (some ⟨g3, 0, none⟩))) rfl) (hA100.ev (v := (.agg (cells (sqs (rs.take j41))))) rfl) (row28c _) m49 (by rw [cells_size, cells_size]) (cells_oneL _) ?_)
    intro w101 hU102 (m103 : Blk w101 g3 (cells (sqs (rs.take j41))) 28)
    have m104 := m50.upd hU102 (Ne.symm n26)
    have b105 := hU102.below b46 ge8
    intro a106 hA107
    refine q_end ?_
    refine t_norm ?_
    refine wp_ret ?_
    refine retRow (g := g3) (cs := (cells (sqs (rs.take j41)))) rfl hA107 rfl m103 (row28c _) ?_
    exact ⟨by rw [List.take_of_length_le (show rs.length ≤ j41 by omega)], b105⟩
end Go.Proofs.Ytlbccddhcbcpoaa.En
/- What the reference's Meet returns. -/
namespace Go.Proofs.Ytlbccddhcbcpoaa.En
open Go.RowKit
set_option linter.unusedSimpArgs false
set_option linter.unusedVariables false

attribute [local irreducible] cells row U one upd nil evB fst inn part seq2 sqs met uni twoI mtI idr allB aft tcs tabR unI updt relR
set_option maxHeartbeats 4000000 in
set_option maxRecDepth 4000 in
theorem rmet_any (rs : List Rl) (v : Value) (w : World) (hrs : Sl relE 32 w.heap.size w v rs) (hl : rs.length ≤ 1000000) : Calls Try.prog 23 #[v] w fun e w' => e = .returned (.agg (cells (met rs))) ∧ Grow w w' := by
  have b0 : Below w.heap.size w w := Below.refl _ _
  refine enter (n := 45) Try.func23 rfl rfl (Nat.le_of_ble_eq_true rfl) ?_
  intro a1 hA2
  refine wp_seq ?_
  refine wp_region_lit ?_
  refine q_step hA2 rfl (d_alloc (wn rfl) zero28 ?_)
  intro g3 w4 eg5 hG6 (m7 : Blk w4 g3 (cells nil) 28)
  have ge8 : w.heap.size ≤ g3 := eg5 ▸ b0.size
  have b9 := below_grow b0 hG6 b0.size
  intro a10 hA11
  refine q_end ?_
  refine t_norm ?_
  refine wp_seq ?_
  refine wp_region_lit ?_
  refine q_step hA11 rfl (d_alloc (wn rfl) zero28 ?_)
  intro g12 w13 eg14 hG15 (m16 : Blk w13 g12 (cells nil) 28)
  have ge17 : w.heap.size ≤ g12 := eg14 ▸ b9.size
  have n18 : g3 ≠ g12 := fun h => Nat.lt_irrefl _ ((h.trans eg14) ▸ m7.lt)
  have m19 := m7.grow hG15
  have b20 := below_grow b9 hG15 b9.size
  intro a21 hA22
  refine q_end ?_
  refine t_norm ?_
  refine wp_seq ?_
  refine wp_seq ?_
  refine wp_region_lit ?_
  refine q_step hA22 rfl (d_assign (wn rfl) (hA22.ev (v := (.int .i64 0)) rfl) ?_)
  intro a23 hA24
  refine q_end ?_
  refine t_norm ?_
  refine wp_block ?_
  have m25 : Blk w13 g12 (cells (part 0 (met rs) nil)) 28 := by rw [part_zero]; exact m16
  refine loop_by (fun m27 a28 w29 => ∃ a26 : Nat, m27 = 32 - a26 ∧ (a26 ≤ 32) ∧ St 45 [(0, v), (2, (.pointer (some ⟨g3, 0, none⟩))), (3, (.pointer (some ⟨g12, 0, none⟩))), (4, (.int .i64 ((a26 : Nat) : Int)))] a28 ∧ Below w.heap.size w w29 ∧ Blk w29 g3 (cells nil) 28 ∧ Blk w29 g12 (cells (part a26 (met rs) nil)) 28) (32 - 0) ⟨0, rfl, (by omega), hA24.cut _ (fm_cons (hA24.get 0 _ rfl) (fm_cons (hA24.get 2 _ rfl) (fm_cons (hA24.get 3 _ rfl) (fm_cons ((hA24.get 4 _ rfl).trans (congrArg (Value.int .i64) (by omega))) fm_nil)))), b20, m19, m25⟩ ?_
  rintro m27 a28 w29 ⟨a26, hm32, hc33, hA30, b31, m34, m35⟩
  refine wp_seq ?_
  refine wp_seq ?_
  refine wp_region_lit ?_
  refine q_step hA30 rfl (d_move (wn rfl) (hA30.ev (v := (.int .i64 ((a26 : Nat) : Int))) rfl) ?_)
  intro a36 hA37
  rcases Bool.eq_false_or_eq_true (decide (((a26 : Nat) : Int) < 32)) with hb38 | hb38
  · skip
    have hq39 := of_decide_eq_true hb38
    refine q_step hA37 rfl (d_bin (wn rfl) (hA37.ev (v := (.int .i64 ((a26 : Nat) : Int))) rfl) (hA37.ev (v := (.int .i64 32)) rfl) (b_lt _ _ ((a26 : Nat) : Int) 32 true _ hb38) ?_)
    intro a40 hA41
    refine q_end ?_
    refine t_norm ?_
    refine c_true hA41 rfl ?_
    refine wp_skip ?_
    refine t_norm ?_
    refine wp_seq ?_
    refine wp_block ?_
    refine wp_seq ?_
    refine wp_region_lit ?_
    refine q_step hA41 rfl (d_assign (wn rfl) (hA41.ev (v := (.int .i64 0)) rfl) ?_)
    intro a42 hA43
    refine q_end ?_
    refine t_norm ?_
    refine wp_block ?_
    have m44 : Blk w29 g12 (cells (mtI rs a26 0)) 28 := by rw [mt0]; exact m35
    refine loop_by (fun m46 a47 w48 => ∃ b45 : Nat, m46 = 32 - b45 ∧ (b45 ≤ 32) ∧ St 45 [(0, v), (2, (.pointer (some ⟨g3, 0, none⟩))), (3, (.pointer (some ⟨g12, 0, none⟩))), (4, (.int .i64 ((a26 : Nat) : Int))), (5, (.int .i64 ((b45 : Nat) : Int)))] a47 ∧ Below w.heap.size w w48 ∧ Blk w48 g3 (cells nil) 28 ∧ Blk w48 g12 (cells (mtI rs a26 b45)) 28) (32 - 0) ⟨0, rfl, (by omega), hA43.cut _ (fm_cons (hA43.get 0 _ rfl) (fm_cons (hA43.get 2 _ rfl) (fm_cons (hA43.get 3 _ rfl) (fm_cons (hA43.get 4 _ rfl) (fm_cons ((hA43.get 5 _ rfl).trans (congrArg (Value.int .i64) (by omega))) fm_nil))))), b31, m34, m44⟩ ?_
    rintro m46 a47 w48 ⟨b45, hm51, hc52, hA49, b50, m53, m54⟩
    refine wp_seq ?_
    refine wp_seq ?_
    refine wp_region_lit ?_
    refine q_step hA49 rfl (d_move (wn rfl) (hA49.ev (v := (.int .i64 ((b45 : Nat) : Int))) rfl) ?_)
    intro a55 hA56
    rcases Bool.eq_false_or_eq_true (decide (((b45 : Nat) : Int) < 32)) with hb57 | hb57
    · skip
      have hq58 := of_decide_eq_true hb57
      refine q_step hA56 rfl (d_bin (wn rfl) (hA56.ev (v := (.int .i64 ((b45 : Nat) : Int))) rfl) (hA56.ev (v := (.int .i64 32)) rfl) (b_lt _ _ ((b45 : Nat) : Int) 32 true _ hb57) ?_)
      intro a59 hA60
      refine q_end ?_
      refine t_norm ?_
      refine c_true hA60 rfl ?_
      refine wp_skip ?_
      refine t_norm ?_
      refine wp_seq ?_
      refine wp_block ?_
      refine wp_seq ?_
      refine wp_region_lit ?_
      refine q_step hA60 rfl (d_assign (wn rfl) (hA60.ev (v := (.bool true)) rfl) ?_)
      intro a61 hA62
      refine q_end ?_
      refine t_norm ?_
      refine wp_seq ?_
      refine wp_seq ?_
      refine wp_region_lit ?_
      refine q_step hA62 rfl (d_assign (wn rfl) (hA62.ev (v := (.int .i64 0)) rfl) ?_)
      intro a63 hA64
      refine q_end ?_
      refine t_norm ?_
      refine wp_block ?_
      refine loop_by (fun m66 a67 w68 => ∃ i65 : Nat, m66 = rs.length - i65 ∧ (i65 ≤ rs.length) ∧ St 45 [(0, v), (2, (.pointer (some ⟨g3, 0, none⟩))), (3, (.pointer (some ⟨g12, 0, none⟩))), (4, (.int .i64 ((a26 : Nat) : Int))), (5, (.int .i64 ((b45 : Nat) : Int))), (6, (.bool (allB rs a26 b45 i65))), (7, (.int .i64 ((i65 : Nat) : Int)))] a67 ∧ Below w.heap.size w w68 ∧ Blk w68 g3 (cells nil) 28 ∧ Blk w68 g12 (cells (mtI rs a26 b45)) 28) (rs.length - 0) ⟨0, rfl, (by omega), hA64.cut _ (fm_cons (hA64.get 0 _ rfl) (fm_cons (hA64.get 2 _ rfl) (fm_cons (hA64.get 3 _ rfl) (fm_cons (hA64.get 4 _ rfl) (fm_cons (hA64.get 5 _ rfl) (fm_cons ((hA64.get 6 _ rfl).trans (congrArg Value.bool (allB_zero rs a26 b45))) (fm_cons ((hA64.get 7 _ rfl).trans (congrArg (Value.int .i64) (by omega))) fm_nil))))))), b50, m53, m54⟩ ?_
      rintro m66 a67 w68 ⟨i65, hm71, hc72, hA69, b70, m73, m74⟩
      refine wp_seq ?_
      refine wp_seq ?_
      refine wp_region_lit ?_
      refine q_step hA69 rfl (d_move (wn rfl) (hA69.ev (v := (.int .i64 ((i65 : Nat) : Int))) rfl) ?_)
      intro a75 hA76
      refine q_step hA76 rfl (d_move (wn rfl) (hA76.ev (v := v) rfl) ?_)
      intro a77 hA78
      refine q_step hA78 rfl (d_len (n := rs.length) (wn rfl) (hA78.ev (v := v) rfl) slc38 hrs.form ?_)
      intro a79 hA80
      rcases Bool.eq_false_or_eq_true (decide (((i65 : Nat) : Int) < ((rs.length : Nat) : Int))) with hb81 | hb81
      · skip
        have hq82 := of_decide_eq_true hb81
        refine q_step hA80 rfl (d_bin (wn rfl) (hA80.ev (v := (.int .i64 ((i65 : Nat) : Int))) rfl) (hA80.ev (v := (.int .i64 ((rs.length : Nat) : Int))) rfl) (b_lt _ _ ((i65 : Nat) : Int) ((rs.length : Nat) : Int) true _ hb81) ?_)
        intro a83 hA84
        refine q_end ?_
        refine t_norm ?_
        refine c_true hA84 rfl ?_
        refine wp_skip ?_
        refine t_norm ?_
        refine wp_seq ?_
        refine wp_block ?_
        refine wp_region_lit ?_
        refine q_step hA84 rfl (d_move (wn rfl) (hA84.ev (v := (.bool (allB rs a26 b45 i65))) rfl) ?_)
        intro a85 hA86
        refine q_step hA86 rfl (d_move (wn rfl) (hA86.ev (v := (.bool (allB rs a26 b45 i65))) rfl) ?_)
        intro a87 hA88
        rcases Bool.eq_false_or_eq_true (allB rs a26 b45 i65) with hb89 | hb89
        · skip
          have hA91 := hA88.shadow (t := 23) rfl hb89
          refine q_step hA91 rfl (d_move (wy rfl rfl (hA91.get 23 _ rfl)) (hA91.ev (v := v) rfl) ?_)
          intro a92 hA93
          refine q_step hA93 rfl (d_move (wy rfl rfl (hA93.get 23 _ rfl)) (hA93.ev (v := (.int .i64 ((i65 : Nat) : Int))) rfl) ?_)
          intro a94 hA95
          refine q_step hA95 rfl (d_move (wy rfl rfl (hA95.get 23 _ rfl)) (hA95.ev (v := (.int .i64 ((a26 : Nat) : Int))) rfl) ?_)
          intro a96 hA97
          obtain ⟨y98, hy99⟩ : ∃ y98, rs[i65]? = some y98 := ⟨_, List.getElem?_eq_getElem (show i65 < rs.length by omega)⟩
          obtain ⟨b100, o101, lt102, hr103, hix104⟩ := (hrs.below b70).at hy99
          refine q_step hA97 rfl (d_indexAt (j := i65) (wy rfl rfl (hA97.get 23 _ rfl)) (hA97.ev (v := v) rfl) (hA97.ev (v := (.int .i64 ((i65 : Nat) : Int))) rfl) slc38 hix104 (get_lt hy99) ?_)
          intro a105 hA106
          refine q_step hA106 rfl (d_indexArrP (j := a26) (p := o101 + a26) (wy rfl rfl (hA106.get 23 _ rfl)) (hA106.ev (v := (.pointer (some ⟨b100, o101, none⟩))) rfl) (hA106.ev (v := (.int .i64 ((a26 : Nat) : Int))) rfl) arr28 (by omega) (by omega) ?_)
          intro a107 hA108
          refine q_step hA108 rfl (d_load (v := (.int .u32 (U (row y98 a26)))) (wy rfl rfl (hA108.get 23 _ rfl)) (hA108.ev (v := (.pointer (some ⟨b100, o101 + a26, none⟩))) rfl) one25 (hr103 a26 _ (relE_at (by omega))) ?_)
          intro a109 hA110
          refine q_step hA110 rfl (d_move (wy rfl rfl (hA110.get 23 _ rfl)) (hA110.ev (v := (.int .i64 ((b45 : Nat) : Int))) rfl) ?_)
          intro a111 hA112
          refine q_step hA112 rfl (d_bin (wy rfl rfl (hA112.get 23 _ rfl)) (hA112.ev (v := (.int .u32 (U (row y98 a26)))) rfl) (hA112.ev (v := (.int .i64 ((b45 : Nat) : Int))) rfl) (b_shr _ _ (row y98 a26) b45 _ (by omega)) ?_)
          intro a113 hA114
          refine q_step hA114 rfl (d_bin (wy rfl rfl (hA114.get 23 _ rfl)) (hA114.ev (v := (.int .u32 (U ((row y98 a26) >>> b45)))) rfl) (hA114.ev (v := (.int .u32 1)) rfl) (b_and1 _ _ ((row y98 a26) >>> b45) _) ?_)
          intro a115 hA116
          rcases Bool.eq_false_or_eq_true (inn (row y98 a26) b45) with hb117 | hb117
          · skip
            refine q_step hA116 rfl (d_bin (wy rfl rfl (hA116.get 23 _ rfl)) (hA116.ev (v := (.int .u32 (U (((row y98 a26) >>> b45) &&& 1#32)))) rfl) (hA116.ev (v := (.int .u32 1)) rfl) (b_eq _ _ (U (((row y98 a26) >>> b45) &&& 1#32)) 1 true _ ((in_bit (row y98 a26) b45).trans hb117)) ?_)
            intro a119 hA120
            refine q_step hA120 rfl (d_pickT (wn rfl) (hA120.ev (v := (.bool true)) rfl) (hA120.ev (v := (.bool true)) rfl) ?_)
            intro a121 hA122
            refine q_step hA122 rfl (d_assign (wn rfl) (hA122.ev (v := (.bool true)) rfl) ?_)
            intro a123 hA124
            refine q_end ?_
            refine i_norm ?_
            refine t_norm ?_
            refine wp_region_lit ?_
            refine q_step hA124 rfl (d_move (wn rfl) (hA124.ev (v := (.int .i64 ((i65 : Nat) : Int))) rfl) ?_)
            intro a125 hA126
            refine q_step hA126 rfl (d_bin (wn rfl) (hA126.ev (v := (.int .i64 ((i65 : Nat) : Int))) rfl) (hA126.ev (v := (.int .i64 1)) rfl) (b_add _ _ ((i65 : Nat) : Int) 1 _ (by omega) (by omega)) ?_)
            intro a127 hA128
            refine q_step hA128 rfl (d_assign (wn rfl) (hA128.ev (v := (.int .i64 (((i65 : Nat) : Int) + 1))) rfl) ?_)
            intro a129 hA130
            refine q_end ?_
            refine t_norm ?_
            exact ⟨rs.length - (i65 + 1), (by rw [hm71]; omega), i65 + 1, rfl, (by omega), hA130.cut _ (fm_cons (hA130.get 0 _ rfl) (fm_cons (hA130.get 2 _ rfl) (fm_cons (hA130.get 3 _ rfl) (fm_cons (hA130.get 4 _ rfl) (fm_cons (hA130.get 5 _ rfl) (fm_cons ((hA130.get 6 _ rfl).trans (congrArg Value.bool (by first | (rw [allB_at hy99]; done) | (rw [allB_at hy99]; simp [hb89, hb117])))) (fm_cons ((hA130.get 7 _ rfl).trans (congrArg (Value.int .i64) (by omega))) fm_nil))))))), b70, m73, m74⟩
          · skip
            refine q_step hA116 rfl (d_bin (wy rfl rfl (hA116.get 23 _ rfl)) (hA116.ev (v := (.int .u32 (U (((row y98 a26) >>> b45) &&& 1#32)))) rfl) (hA116.ev (v := (.int .u32 1)) rfl) (b_eq _ _ (U (((row y98 a26) >>> b45) &&& 1#32)) 1 false _ ((in_bit (row y98 a26) b45).trans hb117)) ?_)
            intro a132 hA133
            refine q_step hA133 rfl (d_pickT (wn rfl) (hA133.ev (v := (.bool true)) rfl) (hA133.ev (v := (.bool false)) rfl) ?_)
            intro a134 hA135
            refine q_step hA135 rfl (d_assign (wn rfl) (hA135.ev (v := (.bool false)) rfl) ?_)
            intro a136 hA137
            refine q_end ?_
            refine i_norm ?_
            refine t_norm ?_
            refine wp_region_lit ?_
            refine q_step hA137 rfl (d_move (wn rfl) (hA137.ev (v := (.int .i64 ((i65 : Nat) : Int))) rfl) ?_)
            intro a138 hA139
            refine q_step hA139 rfl (d_bin (wn rfl) (hA139.ev (v := (.int .i64 ((i65 : Nat) : Int))) rfl) (hA139.ev (v := (.int .i64 1)) rfl) (b_add _ _ ((i65 : Nat) : Int) 1 _ (by omega) (by omega)) ?_)
            intro a140 hA141
            refine q_step hA141 rfl (d_assign (wn rfl) (hA141.ev (v := (.int .i64 (((i65 : Nat) : Int) + 1))) rfl) ?_)
            intro a142 hA143
            refine q_end ?_
            refine t_norm ?_
            exact ⟨rs.length - (i65 + 1), (by rw [hm71]; omega), i65 + 1, rfl, (by omega), hA143.cut _ (fm_cons (hA143.get 0 _ rfl) (fm_cons (hA143.get 2 _ rfl) (fm_cons (hA143.get 3 _ rfl) (fm_cons (hA143.get 4 _ rfl) (fm_cons (hA143.get 5 _ rfl) (fm_cons ((hA143.get 6 _ rfl).trans (congrArg Value.bool (by first | (rw [allB_at hy99]; done) | (rw [allB_at hy99]; simp [hb89, hb117])))) (fm_cons ((hA143.get 7 _ rfl).trans (congrArg (Value.int .i64) (by omega))) fm_nil))))))), b70, m73, m74⟩
        · skip
          have hA145 := hA88.shadow (t := 23) rfl hb89
          refine q_step hA145 rfl (does_not (wno rfl rfl (.inl (hA145.get 23 _ rfl))) ?_)
          intro a146 hA147
          refine q_step hA147 rfl (does_not (wno rfl rfl (.inl (hA147.get 23 _ rfl))) ?_)
          intro a148 hA149
          refine q_step hA149 rfl (does_not (wno rfl rfl (.inl (hA149.get 23 _ rfl))) ?_)
          intro a150 hA151
          refine q_step hA151 rfl (does_not (wno rfl rfl (.inl (hA151.get 23 _ rfl))) ?_)
          intro a152 hA153
          refine q_step hA153 rfl (does_not (wno rfl rfl (.inl (hA153.get 23 _ rfl))) ?_)
          intro a154 hA155
          refine q_step hA155 rfl (does_not (wno rfl rfl (.inl (hA155.get 23 _ rfl))) ?_)
          intro a156 hA157
          refine q_step hA157 rfl (does_not (wno rfl rfl (.inl (hA157.get 23 _ rfl))) ?_)
          intro a158 hA159
          refine q_step hA159 rfl (does_not (wno rfl rfl (.inl (hA159.get 23 _ rfl))) ?_)
          intro a160 hA161
          refine q_step hA161 rfl (does_not (wno rfl rfl (.inl (hA161.get 23 _ rfl))) ?_)
          intro a162 hA163
          refine q_step hA163 rfl (does_not (wno rfl rfl (.inl (hA163.get 23 _ rfl))) ?_)
          intro a164 hA165
          refine q_step hA165 rfl (d_pickF (wn rfl) (hA165.ev (v := (.bool false)) rfl) (hA165.ev (v := (.bool false)) rfl) ?_)
          intro a166 hA167
          refine q_step hA167 rfl (d_assign (wn rfl) (hA167.ev (v := (.bool false)) rfl) ?_)
          intro a168 hA169
          refine q_end ?_
          refine i_norm ?_
          refine t_norm ?_
          refine wp_region_lit ?_
          refine q_step hA169 rfl (d_move (wn rfl) (hA169.ev (v := (.int .i64 ((i65 : Nat) : Int))) rfl) ?_)
          intro a170 hA171
          refine q_step hA171 rfl (d_bin (wn rfl) (hA171.ev (v := (.int .i64 ((i65 : Nat) : Int))) rfl) (hA171.ev (v := (.int .i64 1)) rfl) (b_add _ _ ((i65 : Nat) : Int) 1 _ (by omega) (by omega)) ?_)
          intro a172 hA173
          refine q_step hA173 rfl (d_assign (wn rfl) (hA173.ev (v := (.int .i64 (((i65 : Nat) : Int) + 1))) rfl) ?_)
          intro a174 hA175
          refine q_end ?_
          refine t_norm ?_
          exact ⟨rs.length - (i65 + 1), (by rw [hm71]; omega), i65 + 1, rfl, (by omega), hA175.cut _ (fm_cons (hA175.get 0 _ rfl) (fm_cons (hA175.get 2 _ rfl) (fm_cons (hA175.get 3 _ rfl) (fm_cons (hA175.get 4 _ rfl) (fm_cons (hA175.get 5 _ rfl) (fm_cons ((hA175.get 6 _ rfl).trans (congrArg Value.bool (by obtain ⟨z, hz⟩ : ∃ z, rs[i65]? = some z := ⟨_, List.getElem?_eq_getElem (show i65 < rs.length by omega)⟩; rw [allB_at hz]; simp [hb89]))) (fm_cons ((hA175.get 7 _ rfl).trans (congrArg (Value.int .i64) (by omega))) fm_nil))))))), b70, m73, m74⟩
      · skip
        have hq177 := of_decide_eq_false hb81
        refine q_step hA80 rfl (d_bin (wn rfl) (hA80.ev (v := (.int .i64 ((i65 : Nat) : Int))) rfl) (hA80.ev (v := (.int .i64 ((rs.length : Nat) : Int))) rfl) (b_lt _ _ ((i65 : Nat) : Int) ((rs.length : Nat) : Int) false _ hb81) ?_)
        intro a178 hA179
        refine q_end ?_
        refine t_norm ?_
        refine c_false hA179 rfl ?_
        refine wp_exit ?_
        refine t_exit ?_
        refine t_exit ?_
        refine i_here ?_
        refine t_norm ?_
        refine wp_seq ?_
        refine wp_region_lit ?_
        refine q_step hA179 rfl (d_move (wn rfl) (hA179.ev (v := (.bool (allB rs a26 b45 i65))) rfl) ?_)
        intro a180 hA181
        refine q_end ?_
        refine t_norm ?_
        rcases Bool.eq_false_or_eq_true (allB rs a26 b45 i65) with hb182 | hb182
        · skip
          have hA184 := hA181.shadow (t := 35) rfl hb182
          refine c_true hA184 rfl ?_
          have bD185 := below_grow b70 ((Grow.refl w68).drew) b70.size
          have hA186 : St 45 [(0, v), (2, (.pointer (some ⟨g3, 0, none⟩))), (3, (.pointer (some ⟨g12, 0, none⟩))), (4, (.int .i64 ((a26 : Nat) : Int))), (5, (.int .i64 ((b45 : Nat) : Int)))] a180 := hA184.cut _ (fm_cons (hA184.get 0 _ rfl) (fm_cons (hA184.get 2 _ rfl) (fm_cons (hA184.get 3 _ rfl) (fm_cons (hA184.get 4 _ rfl) (fm_cons (hA184.get 5 _ rfl) fm_nil)))))
          let M187 : Nat → Option (Array Value) := fun _ => none
          have hM187 : M187 = fun _ => none := rfl
          clear_value M187
          have hM187A : ∀ k, M187 k = none := fun k => congrFun hM187 k
          have hM187B : ∀ k, k < w.heap.size → M187 k = none := fun k _ => hM187A k
          refine drawnL (S := SM M187) rfl (tabL [cv (.int .i64 ((a26 : Nat) : Int)), cv (.int .i64 ((a26 : Nat) : Int)), cv (.pointer (some ⟨g12, a26, none⟩)), cv (.int .u32 (U (row (mtI rs a26 b45) a26))), cv (.int .i64 ((b45 : Nat) : Int)), cv (.int .u32 (U (one b45))), cv (.int .u32 (U ((row (mtI rs a26 b45) a26) ||| (one b45)))), cv (.pointer (some ⟨g12, a26, none⟩))]) none (fun _ => none) (fun _ _ => True) [7, 6, 0, 1, 2, 3, 4, 5] [] mixedY SM.refl SM.trans hA186 (by kernel_rfl) (by kernel_rfl) (fun i v u w h => by cases h) ?_ ?_
          · skip
            refine eachD_cons (.inl ⟨nofun, rfl, fun x y hS hT hk => d_move (wn rfl) (hT.ev (v := (.int .i64 ((a26 : Nat) : Int))) rfl) ⟨SM.refl _, rfl⟩⟩) ?_
            refine eachD_cons (.inl ⟨nofun, rfl, fun x y hS hT hk => d_move (wn rfl) (hT.ev (v := (.int .i64 ((a26 : Nat) : Int))) rfl) ⟨SM.refl _, rfl⟩⟩) ?_
            refine eachD_cons (.inl ⟨nofun, rfl, fun x y hS hT hk => d_indexArrP (j := a26) (p := a26) (wn rfl) (hT.ev (v := (.pointer (some ⟨g12, 0, none⟩))) rfl) (hk 1 rfl) arr28 (by omega) (by omega) ⟨SM.refl _, rfl⟩⟩) ?_
            refine eachD_cons (.inl ⟨nofun, rfl, fun x y hS hT hk => d_load (v := (.int .u32 (U (row (mtI rs a26 b45) a26)))) (wn rfl) (hk 2 rfl) one25 ((Blk.sm (w := w68.drew) m74 hS (hM187A _)).cell (cell32 (by omega))) ⟨SM.refl _, rfl⟩⟩) ?_
            refine eachD_cons (.inl ⟨nofun, rfl, fun x y hS hT hk => d_move (wn rfl) (hT.ev (v := (.int .i64 ((b45 : Nat) : Int))) rfl) ⟨SM.refl _, rfl⟩⟩) ?_
            refine eachD_cons (.inl ⟨nofun, rfl, fun x y hS hT hk => d_bin (wn rfl) (hT.ev (v := (.int .u32 1)) rfl) (hk 4 rfl) (b_shl _ _ b45 _ (by omega)) ⟨SM.refl _, rfl⟩⟩) ?_
            refine eachD_cons (.inl ⟨nofun, rfl, fun x y hS hT hk => d_bin (wn rfl) (hk 3 rfl) (hk 5 rfl) (b_or32 _ _ (row (mtI rs a26 b45) a26) (one b45) _) ⟨SM.refl _, rfl⟩⟩) ?_
            refine eachD_cons (.inl ⟨nofun, rfl, fun x y hS hT hk => d_indexArrP (j := a26) (p := a26) (wn rfl) (hT.ev (v := (.pointer (some ⟨g12, 0, none⟩))) rfl) (hk 0 rfl) arr28 (by omega) (by omega) ⟨SM.refl _, rfl⟩⟩) ?_
            exact eachD_one
          rintro a188 w189 hA190 ⟨hS192, hC193⟩
          have hA194 : St 45 [(0, v), (2, (.pointer (some ⟨g3, 0, none⟩))), (3, (.pointer (some ⟨g12, 0, none⟩))), (4, (.int .i64 ((a26 : Nat) : Int))), (5, (.int .i64 ((b45 : Nat) : Int))), (42, (.int .u32 (U ((row (mtI rs a26 b45) a26) ||| (one b45))))), (43, (.pointer (some ⟨g12, a26, none⟩)))] a188 := hA190.cut _ (fm_cons (hA190.get 0 _ rfl) (fm_cons (hA190.get 2 _ rfl) (fm_cons (hA190.get 3 _ rfl) (fm_cons (hA190.get 4 _ rfl) (fm_cons (hA190.get 5 _ rfl) (fm_cons (hC193 6 (Nat.le_of_ble_eq_true rfl)) (fm_cons (hC193 7 (Nat.le_of_ble_eq_true rfl)) fm_nil)))))))
          have hG195 : Grow w68 w189 := Grow.trans ((Grow.refl _).drew) (SM.grown (by rw [hM187] at hS192; exact hS192))
          have m196 := m73.grow hG195
          have m197 := m74.grow hG195
          have b198 := below_grow b70 hG195 b70.size
          refine d_store (v := (.int .u32 (U ((row (mtI rs a26 b45) a26) ||| (one b45))))) (wn rfl) (hA194.ev (v := (.pointer (some ⟨g12, a26, none⟩))) rfl) (hA194.ev (v := (.int .u32 (U ((row (mtI rs a26 b45) a26) ||| (one b45))))) rfl) one25 rfl m197 (by rw [cells_size]; omega) ?_
          intro w199 hU200 m201
          rw [cells_set] at m201
          have m202 := m196.upd hU200 n18
          have b203 := hU200.below b198 ge17
          refine i_norm ?_
          refine t_norm ?_
          refine wp_region_lit ?_
          refine q_step hA194 rfl (d_move (wn rfl) (hA194.ev (v := (.int .i64 ((b45 : Nat) : Int))) rfl) ?_)
          intro a204 hA205
          refine q_step hA205 rfl (d_bin (wn rfl) (hA205.ev (v := (.int .i64 ((b45 : Nat) : Int))) rfl) (hA205.ev (v := (.int .i64 1)) rfl) (b_add _ _ ((b45 : Nat) : Int) 1 _ (by omega) (by omega)) ?_)
          intro a206 hA207
          refine q_step hA207 rfl (d_assign (wn rfl) (hA207.ev (v := (.int .i64 (((b45 : Nat) : Int) + 1))) rfl) ?_)
          intro a208 hA209
          refine q_end ?_
          refine t_norm ?_
          have hal210 := (allB_all (rs := rs) (a := a26) (b := b45) (j := i65) (by omega) (by omega) (by omega)).symm.trans hb182
          have m211 : Blk w199 g12 (cells (mtI rs a26 (b45 + 1))) 28 := by rw [← mtY (by omega) (by omega) hal210]; exact m201
          exact ⟨32 - (b45 + 1), (by rw [hm51]; omega), b45 + 1, rfl, (by omega), hA209.cut _ (fm_cons (hA209.get 0 _ rfl) (fm_cons (hA209.get 2 _ rfl) (fm_cons (hA209.get 3 _ rfl) (fm_cons (hA209.get 4 _ rfl) (fm_cons ((hA209.get 5 _ rfl).trans (congrArg (Value.int .i64) (by omega))) fm_nil))))), b203, m202, m211⟩
        · skip
          have hA213 := hA181.shadow (t := 35) rfl hb182
          refine c_false hA213 rfl ?_
          refine wp_skip ?_
          refine i_norm ?_
          refine t_norm ?_
          refine wp_region_lit ?_
          refine q_step hA213 rfl (d_move (wn rfl) (hA213.ev (v := (.int .i64 ((b45 : Nat) : Int))) rfl) ?_)
          intro a214 hA215
          refine q_step hA215 rfl (d_bin (wn rfl) (hA215.ev (v := (.int .i64 ((b45 : Nat) : Int))) rfl) (hA215.ev (v := (.int .i64 1)) rfl) (b_add _ _ ((b45 : Nat) : Int) 1 _ (by omega) (by omega)) ?_)
          intro a216 hA217
          refine q_step hA217 rfl (d_assign (wn rfl) (hA217.ev (v := (.int .i64 (((b45 : Nat) : Int) + 1))) rfl) ?_)
          intro a218 hA219
          refine q_end ?_
          refine t_norm ?_
          have hal220 := (allB_all (rs := rs) (a := a26) (b := b45) (j := i65) (by omega) (by omega) (by omega)).symm.trans hb182
          have m221 : Blk w68 g12 (cells (mtI rs a26 (b45 + 1))) 28 := by rw [mtN hal220]; exact m74
          exact ⟨32 - (b45 + 1), (by rw [hm51]; omega), b45 + 1, rfl, (by omega), hA219.cut _ (fm_cons (hA219.get 0 _ rfl) (fm_cons (hA219.get 2 _ rfl) (fm_cons (hA219.get 3 _ rfl) (fm_cons (hA219.get 4 _ rfl) (fm_cons ((hA219.get 5 _ rfl).trans (congrArg (Value.int .i64) (by omega))) fm_nil))))), b70, m73, m221⟩
    · skip
      have hq222 := of_decide_eq_false hb57
      refine q_step hA56 rfl (d_bin (wn rfl) (hA56.ev (v := (.int .i64 ((b45 : Nat) : Int))) rfl) (hA56.ev (v := (.int .i64 32)) rfl) (b_lt _ _ ((b45 : Nat) : Int) 32 false _ hb57) ?_)
      intro a223 hA224
      refine q_end ?_
      refine t_norm ?_
      refine c_false hA224 rfl ?_
      refine wp_exit ?_
      refine t_exit ?_
      refine t_exit ?_
      refine i_here ?_
      refine i_norm ?_
      refine t_norm ?_
      refine wp_region_lit ?_
      refine q_step hA224 rfl (d_move (wn rfl) (hA224.ev (v := (.int .i64 ((a26 : Nat) : Int))) rfl) ?_)
      intro a225 hA226
      refine q_step hA226 rfl (d_bin (wn rfl) (hA226.ev (v := (.int .i64 ((a26 : Nat) : Int))) rfl) (hA226.ev (v := (.int .i64 1)) rfl) (b_add _ _ ((a26 : Nat) : Int) 1 _ (by omega) (by omega)) ?_)
      intro a227 hA228
      refine q_step hA228 rfl (d_assign (wn rfl) (hA228.ev (v := (.int .i64 (((a26 : Nat) : Int) + 1))) rfl) ?_)
      intro a229 hA230
      refine q_end ?_
      refine t_norm ?_
      have m231 : Blk w48 g12 (cells (part (a26 + 1) (met rs) nil)) 28 := by rw [← mtE, ← show b45 = 32 by omega]; exact m54
      exact ⟨32 - (a26 + 1), (by rw [hm32]; omega), a26 + 1, rfl, (by omega), hA230.cut _ (fm_cons (hA230.get 0 _ rfl) (fm_cons (hA230.get 2 _ rfl) (fm_cons (hA230.get 3 _ rfl) (fm_cons ((hA230.get 4 _ rfl).trans (congrArg (Value.int .i64) (by omega))) fm_nil)))), b50, m53, m231⟩
  · skip
    have hq232 := of_decide_eq_false hb38
    refine q_step hA37 rfl (d_bin (wn rfl) (hA37.ev (v := (.int .i64 ((a26 : Nat) : Int))) rfl) (hA37.ev (v := (.int .i64 32)) rfl) (b_lt _ _ ((a26 : Nat) : Int) 32 false _ hb38) ?_)
    intro a233 hA234
    refine q_end ?_
    refine t_norm ?_
    refine c_false hA234 rfl ?_
    refine wp_exit ?_
    refine t_exit ?_
    refine t_exit ?_
    refine i_here ?_
    refine t_norm ?_
    refine wp_seq ?_
    refine wp_region_lit ?_
    refine q_step hA234 rfl (d_loadRow (cs := (cells (part a26 (met rs) nil))) (wn rfl) (hA234.ev (v := (.pointer (some ⟨g12, 0, none⟩))) rfl) (row28c _) m35 ?_)
    intro a235 hA236
    refine q_step hA236 rfl (d_storeRow (wn rfl) (hA236.ev (v := (.pointer (some ⟨g3, 0, none⟩))) rfl) (hA236.ev (v := (.agg (cells (part a26 (met rs) nil)))) rfl) (row28c _) m34 (by rw [cells_size, cells_size]) (cells_oneL _) ?_)
    intro w237 hU238 (m239 : Blk w237 g3 (cells (part a26 (met rs) nil)) 28)
    have m240 := m35.upd hU238 (Ne.symm n18)
    have b241 := hU238.below b31 ge8
    intro a242 hA243
    refine q_end ?_
    refine t_norm ?_
    refine wp_ret ?_
    refine retRow (g := g3) (cs := (cells (part a26 (met rs) nil))) rfl hA243 rfl m239 (row28c _) ?_
    exact ⟨by rw [show a26 = 32 by omega, part_full], b241⟩
end Go.Proofs.Ytlbccddhcbcpoaa.En
/- What the reference's Union returns. -/
namespace Go.Proofs.Ytlbccddhcbcpoaa.En
open Go.RowKit
set_option linter.unusedSimpArgs false
set_option linter.unusedVariables false
theorem arr58 : arrB Try.prog 58 32 4 1 = true := by kernel_rfl
theorem arr60 : arrB Try.prog 60 32 58 32 = true := by kernel_rfl
theorem ent52 : ((Try.prog.funcs[52]?).map fun fn => (fn.name == "runtime.NumGoroutine", fn.body.isNone)) = some (false, false) := by kernel_rfl
theorem ent53 : ((Try.prog.funcs[53]?).map fun fn => (fn.name == "runtime.NumGoroutine", fn.body.isNone)) = some (false, false) := by kernel_rfl
theorem one4 : oneB Try.prog 4 = true := by kernel_rfl
attribute [local irreducible] cells row U one upd nil evB fst inn part seq2 sqs met uni twoI mtI idr allB aft tcs tabR unI updt relR
set_option maxHeartbeats 4000000 in
set_option maxRecDepth 4000 in
theorem runi_any (rs : List Rl) (v : Value) (w : World) (hrs : Sl relE 32 w.heap.size w v rs) (hl : rs.length ≤ 1000000) : Calls Try.prog 22 #[v] w fun e w' => e = .returned (.agg (cells (uni rs))) ∧ Grow w w' := by
  have b0 : Below w.heap.size w w := Below.refl _ _
  refine enter (n := 45) Try.func22 rfl rfl (Nat.le_of_ble_eq_true rfl) ?_
  intro a1 hA2
  refine wp_seq ?_
  refine wp_region_lit ?_
  refine q_step hA2 rfl (d_alloc (wn rfl) zero28 ?_)
  intro g3 w4 eg5 hG6 (m7 : Blk w4 g3 (cells nil) 28)
  have ge8 : w.heap.size ≤ g3 := eg5 ▸ b0.size
  have b9 := below_grow b0 hG6 b0.size
  intro a10 hA11
  refine q_end ?_
  refine t_norm ?_
  refine wp_seq ?_
  refine wp_region_lit ?_
  refine q_step hA11 rfl (d_alloc (wn rfl) zero60 ?_)
  intro g12 w13 eg14 hG15 (m16 : Blk w13 g12 (tcs fun _ _ => false) 60)
  have ge17 : w.heap.size ≤ g12 := eg14 ▸ b9.size
  have n18 : g3 ≠ g12 := fun h => Nat.lt_irrefl _ ((h.trans eg14) ▸ m7.lt)
  have m19 := m7.grow hG15
  have b20 := below_grow b9 hG15 b9.size
  intro a21 hA22
  refine q_end ?_
  refine t_norm ?_
  refine wp_seq ?_
  refine wp_seq ?_
  refine wp_region_lit ?_
  refine q_step hA22 rfl (d_assign (wn rfl) (hA22.ev (v := (.int .i64 0)) rfl) ?_)
  intro a23 hA24
  refine q_end ?_
  refine t_norm ?_
  refine wp_block ?_
  have m25 : Blk w13 g12 (tcs (tabR (uni (rs.take 0)))) 60 := by rw [← tab0]; exact m16
  refine loop_by (fun m27 a28 w29 => ∃ j26 : Nat, m27 = rs.length - j26 ∧ (j26 ≤ rs.length) ∧ St 45 [(0, v), (2, (.pointer (some ⟨g3, 0, none⟩))), (3, (.pointer (some ⟨g12, 0, none⟩))), (4, (.int .i64 ((j26 : Nat) : Int)))] a28 ∧ Below w.heap.size w w29 ∧ Blk w29 g3 (cells nil) 28 ∧ Blk w29 g12 (tcs (tabR (uni (rs.take j26)))) 60) (rs.length - 0) ⟨0, rfl, (by omega), hA24.cut _ (fm_cons (hA24.get 0 _ rfl) (fm_cons (hA24.get 2 _ rfl) (fm_cons (hA24.get 3 _ rfl) (fm_cons ((hA24.get 4 _ rfl).trans (congrArg (Value.int .i64) (by omega))) fm_nil)))), b20, m19, m25⟩ ?_
  rintro m27 a28 w29 ⟨j26, hm32, hc33, hA30, b31, m34, m35⟩
  refine wp_seq ?_
  refine wp_seq ?_
  refine wp_region_lit ?_
  refine q_step hA30 rfl (d_move (wn rfl) (hA30.ev (v := (.int .i64 ((j26 : Nat) : Int))) rfl) ?_)
  intro a36 hA37
  refine q_step hA37 rfl (d_move (wn rfl) (hA37.ev (v := v) rfl) ?_)
  intro a38 hA39
  refine q_step hA39 rfl (d_len (n := rs.length) (wn rfl) (hA39.ev (v := v) rfl) slc38 hrs.form ?_)
  intro a40 hA41
  rcases Bool.eq_false_or_eq_true (decide (((j26 : Nat) : Int) < ((rs.length : Nat) : Int))) with hb42 | hb42
  · skip
    have hq43 := of_decide_eq_true hb42
    refine q_step hA41 rfl (d_bin (wn rfl) (hA41.ev (v := (.int .i64 ((j26 : Nat) : Int))) rfl) (hA41.ev (v := (.int .i64 ((rs.length : Nat) : Int))) rfl) (b_lt _ _ ((j26 : Nat) : Int) ((rs.length : Nat) : Int) true _ hb42) ?_)
    intro a44 hA45
    refine q_end ?_
    refine t_norm ?_
    refine c_true hA45 rfl ?_
    refine wp_skip ?_
    refine t_norm ?_
    refine wp_seq ?_
    refine wp_block ?_
    refine wp_seq ?_
    refine wp_region_lit ?_
    refine q_step hA45 rfl (d_move (wn rfl) (hA45.ev (v := v) rfl) ?_)
    intro a46 hA47
    refine q_step hA47 rfl (d_move (wn rfl) (hA47.ev (v := (.int .i64 ((j26 : Nat) : Int))) rfl) ?_)
    intro a48 hA49
    obtain ⟨y50, hy51⟩ : ∃ y50, rs[j26]? = some y50 := ⟨_, List.getElem?_eq_getElem (show j26 < rs.length by omega)⟩
    obtain ⟨b52, o53, lt54, hr55, hix56⟩ := (hrs.below b31).at hy51
    refine q_step hA49 rfl (d_indexAt (j := j26) (wn rfl) (hA49.ev (v := v) rfl) (hA49.ev (v := (.int .i64 ((j26 : Nat) : Int))) rfl) slc38 hix56 (get_lt hy51) ?_)
    intro a57 hA58
    refine q_step hA58 rfl (d_loadMid (cs := (cells y50)) (wn rfl) (hA58.ev (v := (.pointer (some ⟨b52, o53, none⟩))) rfl) (row28c _) hr55 ?_)
    intro a59 hA60
    refine q_step hA60 rfl (d_call (wn rfl) ent52 (map1 (hA60.ev (v := (.agg (cells y50))) rfl)) (of_any y50 w29) ?_)
    rintro e64 w61 ⟨he63, hG62⟩
    have m65 := m34.grow hG62
    have m66 := m35.grow hG62
    have hr67 := range_below hr55 hG62 (Nat.lt_of_lt_of_le lt54 b31.size)
    have b68 := below_grow b31 hG62 b31.size
    refine ⟨(.agg (tcs (tabR y50))), he63, ?_⟩
    intro a69 hA70
    refine q_step hA70 rfl (d_alloc (wn rfl) zero60 ?_)
    intro g71 w72 eg73 hG74 (m75 : Blk w72 g71 (tcs fun _ _ => false) 60)
    have ge76 : w.heap.size ≤ g71 := eg73 ▸ b68.size
    have n77 : g3 ≠ g71 := fun h => Nat.lt_irrefl _ ((h.trans eg73) ▸ m65.lt)
    have n78 : g12 ≠ g71 := fun h => Nat.lt_irrefl _ ((h.trans eg73) ▸ m66.lt)
    have m79 := m65.grow hG74
    have m80 := m66.grow hG74
    have hr81 := range_below hr67 hG74 (Nat.lt_of_lt_of_le lt54 b68.size)
    have b82 := below_grow b68 hG74 b68.size
    intro a83 hA84
    refine q_step hA84 rfl (d_storeRow (wn rfl) (hA84.ev (v := (.pointer (some ⟨g71, 0, none⟩))) rfl) (hA84.ev (v := (.agg (tcs (tabR y50)))) rfl) (row60c _) m75 (by rw [tcs_size, tcs_size]) (tcs_oneL _) ?_)
    intro w85 hU86 (m87 : Blk w85 g71 (tcs (tabR y50)) 60)
    have m88 := m79.upd hU86 n77
    have m89 := m80.upd hU86 n78
    have hr90 := range_upd hr81 hU86 (Nat.ne_of_lt (Nat.lt_of_lt_of_le lt54 ge76))
    have b91 := hU86.below b82 ge76
    intro a92 hA93
    refine q_end ?_
    refine t_norm ?_
    refine wp_seq ?_
    refine wp_region_lit ?_
    refine q_step hA93 rfl (d_assign (wn rfl) (hA93.ev (v := (.int .i64 0)) rfl) ?_)
    intro a94 hA95
    refine q_end ?_
    refine t_norm ?_
    refine wp_block ?_
    have m96 : Blk w85 g12 (tcs (unI (tabR (uni (rs.take j26))) (tabR y50) 0 0)) 60 := by rw [← un0]; exact m89
    refine loop_by (fun m98 a99 w100 => ∃ a97 : Nat, m98 = 32 - a97 ∧ (a97 ≤ 32) ∧ St 45 [(0, v), (2, (.pointer (some ⟨g3, 0, none⟩))), (3, (.pointer (some ⟨g12, 0, none⟩))), (4, (.int .i64 ((j26 : Nat) : Int))), (5, (.pointer (some ⟨g71, 0, none⟩))), (6, (.int .i64 ((a97 : Nat) : Int)))] a99 ∧ Below w.heap.size w w100 ∧ Blk w100 g3 (cells nil) 28 ∧ Blk w100 g12 (tcs (unI (tabR (uni (rs.take j26))) (tabR y50) a97 0)) 60 ∧ Blk w100 g71 (tcs (tabR y50)) 60) (32 - 0) ⟨0, rfl, (by omega), hA95.cut _ (fm_cons (hA95.get 0 _ rfl) (fm_cons (hA95.get 2 _ rfl) (fm_cons (hA95.get 3 _ rfl) (fm_cons (hA95.get 4 _ rfl) (fm_cons (hA95.get 5 _ rfl) (fm_cons ((hA95.get 6 _ rfl).trans (congrArg (Value.int .i64) (by omega))) fm_nil)))))), b91, m88, m96, m87⟩ ?_
    rintro m98 a99 w100 ⟨a97, hm103, hc104, hA101, b102, m105, m106, m107⟩
    refine wp_seq ?_
    refine wp_seq ?_
    refine wp_region_lit ?_
    refine q_step hA101 rfl (d_move (wn rfl) (hA101.ev (v := (.int .i64 ((a97 : Nat) : Int))) rfl) ?_)
    intro a108 hA109
    rcases Bool.eq_false_or_eq_true (decide (((a97 : Nat) : Int) < 32)) with hb110 | hb110
    · skip
      have hq111 := of_decide_eq_true hb110
      refine q_step hA109 rfl (d_bin (wn rfl) (hA109.ev (v := (.int .i64 ((a97 : Nat) : Int))) rfl) (hA109.ev (v := (.int .i64 32)) rfl) (b_lt _ _ ((a97 : Nat) : Int) 32 true _ hb110) ?_)
      intro a112 hA113
      refine q_end ?_
      refine t_norm ?_
      refine c_true hA113 rfl ?_
      refine wp_skip ?_
      refine t_norm ?_
      refine wp_seq ?_
      refine wp_block ?_
      refine wp_seq ?_
      refine wp_region_lit ?_
      refine q_step hA113 rfl (d_assign (wn rfl) (hA113.ev (v := (.int .i64 0)) rfl) ?_)
      intro a114 hA115
      refine q_end ?_
      refine t_norm ?_
      refine wp_block ?_
      refine loop_by (fun m117 a118 w119 => ∃ b116 : Nat, m117 = 32 - b116 ∧ (b116 ≤ 32) ∧ St 45 [(0, v), (2, (.pointer (some ⟨g3, 0, none⟩))), (3, (.pointer (some ⟨g12, 0, none⟩))), (4, (.int .i64 ((j26 : Nat) : Int))), (5, (.pointer (some ⟨g71, 0, none⟩))), (6, (.int .i64 ((a97 : Nat) : Int))), (7, (.int .i64 ((b116 : Nat) : Int)))] a118 ∧ Below w.heap.size w w119 ∧ Blk w119 g3 (cells nil) 28 ∧ Blk w119 g12 (tcs (unI (tabR (uni (rs.take j26))) (tabR y50) a97 b116)) 60 ∧ Blk w119 g71 (tcs (tabR y50)) 60) (32 - 0) ⟨0, rfl, (by omega), hA115.cut _ (fm_cons (hA115.get 0 _ rfl) (fm_cons (hA115.get 2 _ rfl) (fm_cons (hA115.get 3 _ rfl) (fm_cons (hA115.get 4 _ rfl) (fm_cons (hA115.get 5 _ rfl) (fm_cons (hA115.get 6 _ rfl) (fm_cons ((hA115.get 7 _ rfl).trans (congrArg (Value.int .i64) (by omega))) fm_nil))))))), b102, m105, m106, m107⟩ ?_
      rintro m117 a118 w119 ⟨b116, hm122, hc123, hA120, b121, m124, m125, m126⟩
      refine wp_seq ?_
      refine wp_seq ?_
      refine wp_region_lit ?_
      refine q_step hA120 rfl (d_move (wn rfl) (hA120.ev (v := (.int .i64 ((b116 : Nat) : Int))) rfl) ?_)
      intro a127 hA128
      rcases Bool.eq_false_or_eq_true (decide (((b116 : Nat) : Int) < 32)) with hb129 | hb129
      · skip
        have hq130 := of_decide_eq_true hb129
        refine q_step hA128 rfl (d_bin (wn rfl) (hA128.ev (v := (.int .i64 ((b116 : Nat) : Int))) rfl) (hA128.ev (v := (.int .i64 32)) rfl) (b_lt _ _ ((b116 : Nat) : Int) 32 true _ hb129) ?_)
        intro a131 hA132
        refine q_end ?_
        refine t_norm ?_
        refine c_true hA132 rfl ?_
        refine wp_skip ?_
        refine t_norm ?_
        refine wp_seq ?_
        refine wp_block ?_
        have bD133 := below_grow b121 ((Grow.refl w119).drew) b121.size
        rcases Bool.eq_false_or_eq_true ((unI (tabR (uni (rs.take j26))) (tabR y50) a97 b116) a97 b116) with hb134 | hb134
        · skip
          have bD136 := below_grow b121 ((Grow.refl w119).drew) b121.size
          have hA137 : St 45 [(0, v), (2, (.pointer (some ⟨g3, 0, none⟩))), (3, (.pointer (some ⟨g12, 0, none⟩))), (4, (.int .i64 ((j26 : Nat) : Int))), (5, (.pointer (some ⟨g71, 0, none⟩))), (6, (.int .i64 ((a97 : Nat) : Int))), (7, (.int .i64 ((b116 : Nat) : Int)))] a131 := hA132.cut _ (fm_cons (hA132.get 0 _ rfl) (fm_cons (hA132.get 2 _ rfl) (fm_cons (hA132.get 3 _ rfl) (fm_cons (hA132.get 4 _ rfl) (fm_cons (hA132.get 5 _ rfl) (fm_cons (hA132.get 6 _ rfl) (fm_cons (hA132.get 7 _ rfl) fm_nil)))))))
          let M138 : Nat → Option (Array Value) := fun _ => none
          have hM138 : M138 = fun _ => none := rfl
          clear_value M138
          have hM138A : ∀ k, M138 k = none := fun k => congrFun hM138 k
          have hM138B : ∀ k, k < w.heap.size → M138 k = none := fun k _ => hM138A k
          refine drawnL (S := SM M138) rfl (tabL [cv (.int .i64 ((a97 : Nat) : Int)), cv (.int .i64 ((b116 : Nat) : Int)), cv (.int .i64 ((a97 : Nat) : Int)), cv (.int .i64 ((b116 : Nat) : Int)), cv (.pointer (some ⟨g12, a97 * 32, none⟩)), cv (.pointer (some ⟨g12, a97 * 32 + b116, none⟩)), cv (.bool true), cv (.bool true), cv undef, cv undef, cv undef, cv undef, cv undef, cv (.bool true), cv (.pointer (some ⟨g12, a97 * 32, none⟩)), cv (.pointer (some ⟨g12, a97 * 32 + b116, none⟩))]) none (fun _ => none) (fun _ _ => True) [15, 13, 7, 0, 1, 2, 3, 4, 5, 6, 8, 9, 10, 11, 12, 14] [] mixedY SM.refl SM.trans hA137 (by kernel_rfl) (by kernel_rfl) (fun i v u w h => by cases h) ?_ ?_
          · skip
            refine eachD_cons (.inl ⟨nofun, rfl, fun x y hS hT hk => d_move (wn rfl) (hT.ev (v := (.int .i64 ((a97 : Nat) : Int))) rfl) ⟨SM.refl _, rfl⟩⟩) ?_
            refine eachD_cons (.inl ⟨nofun, rfl, fun x y hS hT hk => d_move (wn rfl) (hT.ev (v := (.int .i64 ((b116 : Nat) : Int))) rfl) ⟨SM.refl _, rfl⟩⟩) ?_
            refine eachD_cons (.inl ⟨nofun, rfl, fun x y hS hT hk => d_move (wn rfl) (hT.ev (v := (.int .i64 ((a97 : Nat) : Int))) rfl) ⟨SM.refl _, rfl⟩⟩) ?_
            refine eachD_cons (.inl ⟨nofun, rfl, fun x y hS hT hk => d_move (wn rfl) (hT.ev (v := (.int .i64 ((b116 : Nat) : Int))) rfl) ⟨SM.refl _, rfl⟩⟩) ?_
            refine eachD_cons (.inl ⟨nofun, rfl, fun x y hS hT hk => d_indexArrP (j := a97) (p := a97 * 32) (wn rfl) (hT.ev (v := (.pointer (some ⟨g12, 0, none⟩))) rfl) (hk 2 rfl) arr60 (by omega) (by omega) ⟨SM.refl _, rfl⟩⟩) ?_
            refine eachD_cons (.inl ⟨nofun, rfl, fun x y hS hT hk => d_indexArrP (j := b116) (p := a97 * 32 + b116) (wn rfl) (hk 4 rfl) (hk 3 rfl) arr58 (by omega) (by omega) ⟨SM.refl _, rfl⟩⟩) ?_
            refine eachD_cons (.inl ⟨nofun, rfl, fun x y hS hT hk => d_load (v := (.bool true)) (wn rfl) (hk 5 rfl) one4 ((Blk.sm (w := w119.drew) m125 hS (hM138A _)).cell ((tcell (by omega) (by omega)).trans (congrArg (fun b => some (Value.bool b)) hb134))) ⟨SM.refl _, rfl⟩⟩) ?_
            refine eachD_cons (.inl ⟨nofun, rfl, fun x y hS hT hk => d_move (wn rfl) (hk 6 rfl) ⟨SM.refl _, rfl⟩⟩) ?_
            refine eachD_cons (.inl ⟨nofun, rfl, fun x y hS hT hk => does_not (wno rfl rfl (.inl (hk 7 rfl))) ⟨SM.refl _, rfl⟩⟩) ?_
            refine eachD_cons (.inl ⟨nofun, rfl, fun x y hS hT hk => does_not (wno rfl rfl (.inl (hk 7 rfl))) ⟨SM.refl _, rfl⟩⟩) ?_
            refine eachD_cons (.inl ⟨nofun, rfl, fun x y hS hT hk => does_not (wno rfl rfl (.inl (hk 7 rfl))) ⟨SM.refl _, rfl⟩⟩) ?_
            refine eachD_cons (.inl ⟨nofun, rfl, fun x y hS hT hk => does_not (wno rfl rfl (.inl (hk 7 rfl))) ⟨SM.refl _, rfl⟩⟩) ?_
            refine eachD_cons (.inl ⟨nofun, rfl, fun x y hS hT hk => does_not (wno rfl rfl (.inl (hk 7 rfl))) ⟨SM.refl _, rfl⟩⟩) ?_
            refine eachD_cons (.inl ⟨nofun, rfl, fun x y hS hT hk => d_pickT (wn rfl) (hk 7 rfl) (hT.ev (v := (.bool true)) rfl) ⟨SM.refl _, rfl⟩⟩) ?_
            refine eachD_cons (.inl ⟨nofun, rfl, fun x y hS hT hk => d_indexArrP (j := a97) (p := a97 * 32) (wn rfl) (hT.ev (v := (.pointer (some ⟨g12, 0, none⟩))) rfl) (hk 0 rfl) arr60 (by omega) (by omega) ⟨SM.refl _, rfl⟩⟩) ?_
            refine eachD_cons (.inl ⟨nofun, rfl, fun x y hS hT hk => d_indexArrP (j := b116) (p := a97 * 32 + b116) (wn rfl) (hk 14 rfl) (hk 1 rfl) arr58 (by omega) (by omega) ⟨SM.refl _, rfl⟩⟩) ?_
            exact eachD_one
          rintro a139 w140 hA141 ⟨hS143, hC144⟩
          have hA145 : St 45 [(0, v), (2, (.pointer (some ⟨g3, 0, none⟩))), (3, (.pointer (some ⟨g12, 0, none⟩))), (4, (.int .i64 ((j26 : Nat) : Int))), (5, (.pointer (some ⟨g71, 0, none⟩))), (6, (.int .i64 ((a97 : Nat) : Int))), (7, (.int .i64 ((b116 : Nat) : Int))), (40, (.bool true)), (42, (.pointer (some ⟨g12, a97 * 32 + b116, none⟩)))] a139 := hA141.cut _ (fm_cons (hA141.get 0 _ rfl) (fm_cons (hA141.get 2 _ rfl) (fm_cons (hA141.get 3 _ rfl) (fm_cons (hA141.get 4 _ rfl) (fm_cons (hA141.get 5 _ rfl) (fm_cons (hA141.get 6 _ rfl) (fm_cons (hA141.get 7 _ rfl) (fm_cons (hC144 13 (Nat.le_of_ble_eq_true rfl)) (fm_cons (hC144 15 (Nat.le_of_ble_eq_true rfl)) fm_nil)))))))))
          have hG146 : Grow w119 w140 := Grow.trans ((Grow.refl _).drew) (SM.grown (by rw [hM138] at hS143; exact hS143))
          have m147 := m124.grow hG146
          have m148 := m125.grow hG146
          have m149 := m126.grow hG146
          have b150 := below_grow b121 hG146 b121.size
          refine d_store (v := (.bool true)) (wn rfl) (hA145.ev (v := (.pointer (some ⟨g12, a97 * 32 + b116, none⟩))) rfl) (hA145.ev (v := (.bool true)) rfl) one4 rfl m148 (by rw [tcs_size]; omega) ?_
          intro w151 hU152 m153
          rw [tcs_set _ _ _ (by omega)] at m153
          have m154 := m147.upd hU152 n18
          have m155 := m149.upd hU152 (Ne.symm n78)
          have b156 := hU152.below b150 ge17
          refine i_norm ?_
          refine t_norm ?_
          refine wp_region_lit ?_
          refine q_step hA145 rfl (d_move (wn rfl) (hA145.ev (v := (.int .i64 ((b116 : Nat) : Int))) rfl) ?_)
          intro a157 hA158
          refine q_step hA158 rfl (d_bin (wn rfl) (hA158.ev (v := (.int .i64 ((b116 : Nat) : Int))) rfl) (hA158.ev (v := (.int .i64 1)) rfl) (b_add _ _ ((b116 : Nat) : Int) 1 _ (by omega) (by omega)) ?_)
          intro a159 hA160
          refine q_step hA160 rfl (d_assign (wn rfl) (hA160.ev (v := (.int .i64 (((b116 : Nat) : Int) + 1))) rfl) ?_)
          intro a161 hA162
          refine q_end ?_
          refine t_norm ?_
          have m163 : Blk w151 g12 (tcs (unI (tabR (uni (rs.take j26))) (tabR y50) a97 (b116 + 1))) 60 := by rw [← unS (v := true) (by simp [hb134])]; exact m153
          exact ⟨32 - (b116 + 1), (by rw [hm122]; omega), b116 + 1, rfl, (by omega), hA162.cut _ (fm_cons (hA162.get 0 _ rfl) (fm_cons (hA162.get 2 _ rfl) (fm_cons (hA162.get 3 _ rfl) (fm_cons (hA162.get 4 _ rfl) (fm_cons (hA162.get 5 _ rfl) (fm_cons (hA162.get 6 _ rfl) (fm_cons ((hA162.get 7 _ rfl).trans (congrArg (Value.int .i64) (by omega))) fm_nil))))))), b156, m154, m163, m155⟩
        · skip
          have bD165 := below_grow b121 ((Grow.refl w119).drew) b121.size
          have hA166 : St 45 [(0, v), (2, (.pointer (some ⟨g3, 0, none⟩))), (3, (.pointer (some ⟨g12, 0, none⟩))), (4, (.int .i64 ((j26 : Nat) : Int))), (5, (.pointer (some ⟨g71, 0, none⟩))), (6, (.int .i64 ((a97 : Nat) : Int))), (7, (.int .i64 ((b116 : Nat) : Int)))] a131 := hA132.cut _ (fm_cons (hA132.get 0 _ rfl) (fm_cons (hA132.get 2 _ rfl) (fm_cons (hA132.get 3 _ rfl) (fm_cons (hA132.get 4 _ rfl) (fm_cons (hA132.get 5 _ rfl) (fm_cons (hA132.get 6 _ rfl) (fm_cons (hA132.get 7 _ rfl) fm_nil)))))))
          let M167 : Nat → Option (Array Value) := fun _ => none
          have hM167 : M167 = fun _ => none := rfl
          clear_value M167
          have hM167A : ∀ k, M167 k = none := fun k => congrFun hM167 k
          have hM167B : ∀ k, k < w.heap.size → M167 k = none := fun k _ => hM167A k
          refine drawnL (S := SM M167) rfl (tabL [cv (.int .i64 ((a97 : Nat) : Int)), cv (.int .i64 ((b116 : Nat) : Int)), cv (.int .i64 ((a97 : Nat) : Int)), cv (.int .i64 ((b116 : Nat) : Int)), cv (.pointer (some ⟨g12, a97 * 32, none⟩)), cv (.pointer (some ⟨g12, a97 * 32 + b116, none⟩)), cv (.bool false), cv (.bool false), cv (.int .i64 ((a97 : Nat) : Int)), cv (.int .i64 ((b116 : Nat) : Int)), cv (.pointer (some ⟨g71, a97 * 32, none⟩)), cv (.pointer (some ⟨g71, a97 * 32 + b116, none⟩)), cv (.bool ((tabR y50) a97 b116)), cv (.bool ((tabR y50) a97 b116)), cv (.pointer (some ⟨g12, a97 * 32, none⟩)), cv (.pointer (some ⟨g12, a97 * 32 + b116, none⟩))]) none (fun _ => none) (fun _ _ => True) [15, 13, 7, 0, 1, 2, 3, 4, 5, 6, 8, 9, 10, 11, 12, 14] [] mixedY SM.refl SM.trans hA166 (by kernel_rfl) (by kernel_rfl) (fun i v u w h => by cases h) ?_ ?_
          · skip
            refine eachD_cons (.inl ⟨nofun, rfl, fun x y hS hT hk => d_move (wn rfl) (hT.ev (v := (.int .i64 ((a97 : Nat) : Int))) rfl) ⟨SM.refl _, rfl⟩⟩) ?_
            refine eachD_cons (.inl ⟨nofun, rfl, fun x y hS hT hk => d_move (wn rfl) (hT.ev (v := (.int .i64 ((b116 : Nat) : Int))) rfl) ⟨SM.refl _, rfl⟩⟩) ?_
            refine eachD_cons (.inl ⟨nofun, rfl, fun x y hS hT hk => d_move (wn rfl) (hT.ev (v := (.int .i64 ((a97 : Nat) : Int))) rfl) ⟨SM.refl _, rfl⟩⟩) ?_
            refine eachD_cons (.inl ⟨nofun, rfl, fun x y hS hT hk => d_move (wn rfl) (hT.ev (v := (.int .i64 ((b116 : Nat) : Int))) rfl) ⟨SM.refl _, rfl⟩⟩) ?_
            refine eachD_cons (.inl ⟨nofun, rfl, fun x y hS hT hk => d_indexArrP (j := a97) (p := a97 * 32) (wn rfl) (hT.ev (v := (.pointer (some ⟨g12, 0, none⟩))) rfl) (hk 2 rfl) arr60 (by omega) (by omega) ⟨SM.refl _, rfl⟩⟩) ?_
            refine eachD_cons (.inl ⟨nofun, rfl, fun x y hS hT hk => d_indexArrP (j := b116) (p := a97 * 32 + b116) (wn rfl) (hk 4 rfl) (hk 3 rfl) arr58 (by omega) (by omega) ⟨SM.refl _, rfl⟩⟩) ?_
            refine eachD_cons (.inl ⟨nofun, rfl, fun x y hS hT hk => d_load (v := (.bool false)) (wn rfl) (hk 5 rfl) one4 ((Blk.sm (w := w119.drew) m125 hS (hM167A _)).cell ((tcell (by omega) (by omega)).trans (congrArg (fun b => some (Value.bool b)) hb134))) ⟨SM.refl _, rfl⟩⟩) ?_
            refine eachD_cons (.inl ⟨nofun, rfl, fun x y hS hT hk => d_move (wn rfl) (hk 6 rfl) ⟨SM.refl _, rfl⟩⟩) ?_
            refine eachD_cons (.inl ⟨nofun, rfl, fun x y hS hT hk => d_move (wy rfl rfl (hk 7 rfl)) (hT.ev (v := (.int .i64 ((a97 : Nat) : Int))) rfl) ⟨SM.refl _, rfl⟩⟩) ?_
            refine eachD_cons (.inl ⟨nofun, rfl, fun x y hS hT hk => d_move (wy rfl rfl (hk 7 rfl)) (hT.ev (v := (.int .i64 ((b116 : Nat) : Int))) rfl) ⟨SM.refl _, rfl⟩⟩) ?_
            refine eachD_cons (.inl ⟨nofun, rfl, fun x y hS hT hk => d_indexArrP (j := a97) (p := a97 * 32) (wy rfl rfl (hk 7 rfl)) (hT.ev (v := (.pointer (some ⟨g71, 0, none⟩))) rfl) (hk 8 rfl) arr60 (by omega) (by omega) ⟨SM.refl _, rfl⟩⟩) ?_
            refine eachD_cons (.inl ⟨nofun, rfl, fun x y hS hT hk => d_indexArrP (j := b116) (p := a97 * 32 + b116) (wy rfl rfl (hk 7 rfl)) (hk 10 rfl) (hk 9 rfl) arr58 (by omega) (by omega) ⟨SM.refl _, rfl⟩⟩) ?_
            refine eachD_cons (.inl ⟨nofun, rfl, fun x y hS hT hk => d_load (v := (.bool ((tabR y50) a97 b116))) (wy rfl rfl (hk 7 rfl)) (hk 11 rfl) one4 ((Blk.sm (w := w119.drew) m126 hS (hM167A _)).cell (tcell (by omega) (by omega))) ⟨SM.refl _, rfl⟩⟩) ?_
            refine eachD_cons (.inl ⟨nofun, rfl, fun x y hS hT hk => d_pickF (wn rfl) (hk 7 rfl) (hk 12 rfl) ⟨SM.refl _, rfl⟩⟩) ?_
            refine eachD_cons (.inl ⟨nofun, rfl, fun x y hS hT hk => d_indexArrP (j := a97) (p := a97 * 32) (wn rfl) (hT.ev (v := (.pointer (some ⟨g12, 0, none⟩))) rfl) (hk 0 rfl) arr60 (by omega) (by omega) ⟨SM.refl _, rfl⟩⟩) ?_
            refine eachD_cons (.inl ⟨nofun, rfl, fun x y hS hT hk => d_indexArrP (j := b116) (p := a97 * 32 + b116) (wn rfl) (hk 14 rfl) (hk 1 rfl) arr58 (by omega) (by omega) ⟨SM.refl _, rfl⟩⟩) ?_
            exact eachD_one
          rintro a168 w169 hA170 ⟨hS172, hC173⟩
          have hA174 : St 45 [(0, v), (2, (.pointer (some ⟨g3, 0, none⟩))), (3, (.pointer (some ⟨g12, 0, none⟩))), (4, (.int .i64 ((j26 : Nat) : Int))), (5, (.pointer (some ⟨g71, 0, none⟩))), (6, (.int .i64 ((a97 : Nat) : Int))), (7, (.int .i64 ((b116 : Nat) : Int))), (40, (.bool ((tabR y50) a97 b116))), (42, (.pointer (some ⟨g12, a97 * 32 + b116, none⟩)))] a168 := hA170.cut _ (fm_cons (hA170.get 0 _ rfl) (fm_cons (hA170.get 2 _ rfl) (fm_cons (hA170.get 3 _ rfl) (fm_cons (hA170.get 4 _ rfl) (fm_cons (hA170.get 5 _ rfl) (fm_cons (hA170.get 6 _ rfl) (fm_cons (hA170.get 7 _ rfl) (fm_cons (hC173 13 (Nat.le_of_ble_eq_true rfl)) (fm_cons (hC173 15 (Nat.le_of_ble_eq_true rfl)) fm_nil)))))))))
          have hG175 : Grow w119 w169 := Grow.trans ((Grow.refl _).drew) (SM.grown (by rw [hM167] at hS172; exact hS172))
          have m176 := m124.grow hG175
          have m177 := m125.grow hG175
          have m178 := m126.grow hG175
          have b179 := below_grow b121 hG175 b121.size
          refine d_store (v := (.bool ((tabR y50) a97 b116))) (wn rfl) (hA174.ev (v := (.pointer (some ⟨g12, a97 * 32 + b116, none⟩))) rfl) (hA174.ev (v := (.bool ((tabR y50) a97 b116))) rfl) one4 rfl m177 (by rw [tcs_size]; omega) ?_
          intro w180 hU181 m182
          rw [tcs_set _ _ _ (by omega)] at m182
          have m183 := m176.upd hU181 n18
          have m184 := m178.upd hU181 (Ne.symm n78)
          have b185 := hU181.below b179 ge17
          refine i_norm ?_
          refine t_norm ?_
          refine wp_region_lit ?_
          refine q_step hA174 rfl (d_move (wn rfl) (hA174.ev (v := (.int .i64 ((b116 : Nat) : Int))) rfl) ?_)
          intro a186 hA187
          refine q_step hA187 rfl (d_bin (wn rfl) (hA187.ev (v := (.int .i64 ((b116 : Nat) : Int))) rfl) (hA187.ev (v := (.int .i64 1)) rfl) (b_add _ _ ((b116 : Nat) : Int) 1 _ (by omega) (by omega)) ?_)
          intro a188 hA189
          refine q_step hA189 rfl (d_assign (wn rfl) (hA189.ev (v := (.int .i64 (((b116 : Nat) : Int) + 1))) rfl) ?_)
          intro a190 hA191
          refine q_end ?_
          refine t_norm ?_
          have m192 : Blk w180 g12 (tcs (unI (tabR (uni (rs.take j26))) (tabR y50) a97 (b116 + 1))) 60 := by rw [← unS (v := ((tabR y50) a97 b116)) (by simp [hb134])]; exact m182
          exact ⟨32 - (b116 + 1), (by rw [hm122]; omega), b116 + 1, rfl, (by omega), hA191.cut _ (fm_cons (hA191.get 0 _ rfl) (fm_cons (hA191.get 2 _ rfl) (fm_cons (hA191.get 3 _ rfl) (fm_cons (hA191.get 4 _ rfl) (fm_cons (hA191.get 5 _ rfl) (fm_cons (hA191.get 6 _ rfl) (fm_cons ((hA191.get 7 _ rfl).trans (congrArg (Value.int .i64) (by omega))) fm_nil))))))), b185, m183, m192, m184⟩
      · skip
        have hq193 := of_decide_eq_false hb129
        refine q_step hA128 rfl (d_bin (wn rfl) (hA128.ev (v := (.int .i64 ((b116 : Nat) : Int))) rfl) (hA128.ev (v := (.int .i64 32)) rfl) (b_lt _ _ ((b116 : Nat) : Int) 32 false _ hb129) ?_)
        intro a194 hA195
        refine q_end ?_
        refine t_norm ?_
        refine c_false hA195 rfl ?_
        refine wp_exit ?_
        refine t_exit ?_
        refine t_exit ?_
        refine i_here ?_
        refine i_norm ?_
        refine t_norm ?_
        refine wp_region_lit ?_
        refine q_step hA195 rfl (d_move (wn rfl) (hA195.ev (v := (.int .i64 ((a97 : Nat) : Int))) rfl) ?_)
        intro a196 hA197
        refine q_step hA197 rfl (d_bin (wn rfl) (hA197.ev (v := (.int .i64 ((a97 : Nat) : Int))) rfl) (hA197.ev (v := (.int .i64 1)) rfl) (b_add _ _ ((a97 : Nat) : Int) 1 _ (by omega) (by omega)) ?_)
        intro a198 hA199
        refine q_step hA199 rfl (d_assign (wn rfl) (hA199.ev (v := (.int .i64 (((a97 : Nat) : Int) + 1))) rfl) ?_)
        intro a200 hA201
        refine q_end ?_
        refine t_norm ?_
        have m202 : Blk w119 g12 (tcs (unI (tabR (uni (rs.take j26))) (tabR y50) (a97 + 1) 0)) 60 := by rw [← unR, ← show b116 = 32 by omega]; exact m125
        exact ⟨32 - (a97 + 1), (by rw [hm103]; omega), a97 + 1, rfl, (by omega), hA201.cut _ (fm_cons (hA201.get 0 _ rfl) (fm_cons (hA201.get 2 _ rfl) (fm_cons (hA201.get 3 _ rfl) (fm_cons (hA201.get 4 _ rfl) (fm_cons (hA201.get 5 _ rfl) (fm_cons ((hA201.get 6 _ rfl).trans (congrArg (Value.int .i64) (by omega))) fm_nil)))))), b121, m124, m202, m126⟩
    · skip
      have hq203 := of_decide_eq_false hb110
      refine q_step hA109 rfl (d_bin (wn rfl) (hA109.ev (v := (.int .i64 ((a97 : Nat) : Int))) rfl) (hA109.ev (v := (.int .i64 32)) rfl) (b_lt _ _ ((a97 : Nat) : Int) 32 false _ hb110) ?_)
      intro a204 hA205
      refine q_end ?_
      refine t_norm ?_
      refine c_false hA205 rfl ?_
      refine wp_exit ?_
      refine t_exit ?_
      refine t_exit ?_
      refine i_here ?_
      refine i_norm ?_
      refine t_norm ?_
      refine wp_region_lit ?_
      refine q_step hA205 rfl (d_move (wn rfl) (hA205.ev (v := (.int .i64 ((j26 : Nat) : Int))) rfl) ?_)
      intro a206 hA207
      refine q_step hA207 rfl (d_bin (wn rfl) (hA207.ev (v := (.int .i64 ((j26 : Nat) : Int))) rfl) (hA207.ev (v := (.int .i64 1)) rfl) (b_add _ _ ((j26 : Nat) : Int) 1 _ (by omega) (by omega)) ?_)
      intro a208 hA209
      refine q_step hA209 rfl (d_assign (wn rfl) (hA209.ev (v := (.int .i64 (((j26 : Nat) : Int) + 1))) rfl) ?_)
      intro a210 hA211
      refine q_end ?_
      refine t_norm ?_
      have m212 : Blk w100 g12 (tcs (tabR (uni (rs.take (j26 + 1))))) 60 := by rw [← unE hy51, ← show a97 = 32 by omega]; exact m106
      exact ⟨rs.length - (j26 + 1), (by rw [hm32]; omega), j26 + 1, rfl, (by omega), hA211.cut _ (fm_cons (hA211.get 0 _ rfl) (fm_cons (hA211.get 2 _ rfl) (fm_cons (hA211.get 3 _ rfl) (fm_cons ((hA211.get 4 _ rfl).trans (congrArg (Value.int .i64) (by omega))) fm_nil)))), b102, m105, m212⟩
  · skip
    have hq213 := of_decide_eq_false hb42
    refine q_step hA41 rfl (d_bin (wn rfl) (hA41.ev (v := (.int .i64 ((j26 : Nat) : Int))) rfl) (hA41.ev (v := (.int .i64 ((rs.length : Nat) : Int))) rfl) (b_lt _ _ ((j26 : Nat) : Int) ((rs.length : Nat) : Int) false _ hb42) ?_)
    intro a214 hA215
    refine q_end ?_
    refine t_norm ?_
    refine c_false hA215 rfl ?_
    refine wp_exit ?_
    refine t_exit ?_
    refine t_exit ?_
    refine i_here ?_
    refine t_norm ?_
    refine wp_seq ?_
    refine wp_region_lit ?_
    refine q_step hA215 rfl (d_loadRow (cs := (tcs (tabR (uni (rs.take j26))))) (wn rfl) (hA215.ev (v := (.pointer (some ⟨g12, 0, none⟩))) rfl) (row60c _) m35 ?_)
    intro a216 hA217
    refine q_step hA217 rfl (d_call (wn rfl) ent53 (map1 (hA217.ev (v := (.agg (tcs (tabR (uni (rs.take j26)))))) rfl)) (rel_any (tabR (uni (rs.take j26))) w29) ?_)
    rintro e221 w218 ⟨he220, hG219⟩
    have m222 := m34.grow hG219
    have m223 := m35.grow hG219
    have b224 := below_grow b31 hG219 b31.size
    refine ⟨(.agg (cells (relR (tabR (uni (rs.take j26)))))), he220, ?_⟩
    intro a225 hA226
    refine q_step hA226 rfl (d_storeRow (wn rfl) (hA226.ev (v := (.pointer (some ⟨g3, 0, none⟩))) rfl) (hA226.ev (v := (.agg (cells (relR (tabR (uni (rs.take j26))))))) rfl) (row28c _) m222 (by rw [cells_size, cells_size]) (cells_oneL _) ?_)
    intro w227 hU228 (m229 : Blk w227 g3 (cells (relR (tabR (uni (rs.take j26))))) 28)
    have m230 := m223.upd hU228 (Ne.symm n18)
    have b231 := hU228.below b224 ge8
    intro a232 hA233
    refine q_end ?_
    refine t_norm ?_
    refine wp_ret ?_
    refine retRow (g := g3) (cs := (cells (relR (tabR (uni (rs.take j26)))))) rfl hA233 rfl m229 (row28c _) ?_
    exact ⟨by rw [relR_tabR, List.take_of_length_le (show rs.length ≤ j26 by omega)], b231⟩
end Go.Proofs.Ytlbccddhcbcpoaa.En
/- Regions that draw their order and end with a row of operations, each of which waits for all ahead of it. -/
namespace Go.Proofs.Ytlbccddhcbcpoaa.En
open Go.RowKit

def SeqD (P : Program) (ops : Array Oper) : List Oper → Act → World → (Act → World → Prop) → Prop
  | [], a, w, Q => Q a w
  | o :: os, a, w, Q => Does P ops o a w fun v w' => SeqD P ops os (a.put o.dst v) w' Q
/-- what an operation waits for, and what those wait for -/
def clos (ops : Array Oper) : Nat → Nat → List Nat
  | 0, _ => []
  | f + 1, i => match ops[i]? with
    | some o => o.after.toList.flatMap fun e => if Region.binds .any e = true then e.on :: clos ops f e.on else []
    | none => []
def tailB (ops : Array Oper) (m fuel : Nat) : Bool := (List.range ops.size).all fun i => decide (i < m) || (List.range i).all fun j => (clos ops fuel i).contains j
theorem clos_listed {ops : Array Oper} {listed : Array Bool} (dc : ∀ i o, ops[i]? = some o → listed.getD i false = true → ∀ e ∈ o.after, Region.binds .any e = true → listed.getD e.on false = true) :
    ∀ (f i : Nat) o, ops[i]? = some o → (∀ e ∈ o.after, Region.binds .any e = true → listed.getD e.on false = true) → ∀ j ∈ clos ops f i, listed.getD j false = true
  | 0, _, _, _, _, j, hj => by simp [clos] at hj
  | f + 1, i, o, ho, he, j, hj => by
    unfold clos at hj
    simp only [ho] at hj
    obtain ⟨e, hem, hj⟩ := List.mem_flatMap.1 hj
    split at hj
    · rename_i hb
      have hl := he e (by simpa using hem) hb
      rcases List.mem_cons.1 hj with rfl | hj
      · exact hl
      · cases hq : ops[e.on]? with
        | none => cases f with
          | zero => simp [clos] at hj
          | succ f => unfold clos at hj; simp [hq] at hj
        | some o' => exact clos_listed dc f e.on o' hq (dc e.on o' hq hl) j hj
    · simp at hj
/-- a pointer's block -/
def blkOf : Value → Option Nat
  | .pointer (some p) => some p.block
  | _ => none
def OblA (P : Program) (ops : Array Oper) (S : World → World → Prop) (n : Nat) (T : List (Nat × Value)) (tab : Nat → Cl S) (al : List Nat) (w : World) (i : Nat) (o : Oper) : Prop :=
  ∀ a' w', S w w' → St n T a' → (∀ j, waits o j = true → (tab j).P (valOf ops a' j) w') → Does P ops o a' w' fun v w'' => S w' w'' ∧ (tab i).P (seenV o v) w'' ∧ (al.contains i = true → ∃ g, blkOf (seenV o v) = some g ∧ w'.heap.size ≤ g)
section
variable {P : Program} {l ys : List Oper} {Q : Exit → Act → World → Prop} {S : World → World → Prop} {n fu : Nat} {T : List (Nat × Value)} {w : World}
theorem tail_ready {listed : Array Bool} {i : Nat} (ht : tailB (l ++ ys).toArray l.length fu = true) (_hls : listed.size = (l ++ ys).length) (dc : ∀ i o, (l ++ ys).toArray[i]? = some o → listed.getD i false = true → ∀ e ∈ o.after, Region.binds .any e = true → listed.getD e.on false = true)
    (hi : i ∈ Region.ready .any (l ++ ys).toArray listed) (hil : l.length ≤ i) : ∀ j, j < i → listed.getD j false = true := by
  obtain ⟨hun, o, hoi, hall⟩ := mem_ready.1 hi
  have hlt := (Array.getElem?_eq_some_iff.1 hoi).1
  unfold tailB at ht
  have h1 := List.all_eq_true.1 ht i (by simpa using hlt)
  rw [Bool.or_eq_true] at h1
  rcases h1 with h1 | h1
  · have := of_decide_eq_true h1; omega
  · intro j hj
    have h2 := List.all_eq_true.1 h1 j (by simpa using hj)
    exact clos_listed dc fu i o hoi hall j (by simpa using h2)
theorem tail_seq (ht : tailB (l ++ ys).toArray l.length fu = true) (hfit : fitB (l ++ ys).toArray n T = true) :
    ∀ (zs : List Oper) (k : Nat) (fuel : Nat) (listed : Array Bool) (a' : Act) (w' : World), ys.drop k = zs → k ≤ ys.length → listed.size = (l ++ ys).length → (∀ i, listed.getD i false = true ↔ i < l.length + k) → zs.length ≤ fuel →
      SeqD P (l ++ ys).toArray zs a' w' (fun a w => Q .normal a w) → wpAny P .any (l ++ ys).toArray Q fuel listed a' w'
  | [], k, fuel, listed, a', w', hz, hk, hls, hli, _, h => by
    have hkl : k = ys.length := by
      have := congrArg List.length hz; simp at this; omega
    have hr : Region.ready .any (l ++ ys).toArray listed = [] := by
      rw [List.eq_nil_iff_forall_not_mem]
      intro i hi
      obtain ⟨hun, o, hoi, _⟩ := mem_ready.1 hi
      have hlt := (Array.getElem?_eq_some_iff.1 hoi).1
      have h1 := (hli i).2 (by simp at hlt; omega)
      have hls' : i < listed.size := by simp at hlt; rw [hls]; simp; omega
      simp [Array.getD_eq_getD_getElem?, hls'] at hun h1
      rw [h1] at hun; cases hun
    cases fuel with
    | zero => exact ⟨hr, h⟩
    | succ fuel => exact ⟨fun _ => h, fun i hi => by rw [hr] at hi; cases hi⟩
  | o :: os, k, 0, listed, a', w', hz, hk, hls, hli, hf, h => by simp at hf
  | o :: os, k, fuel + 1, listed, a', w', hz, hk, hls, hli, hf, h => by
    have hkl : k < ys.length := by
      have := congrArg List.length hz; simp at this; omega
    have hyk : ys[k]? = some o := by
      have := congrArg (fun l => l[0]?) hz; simpa using this
    have hok : (l ++ ys).toArray[l.length + k]? = some o := by
      simp [List.getElem?_append_right (show l.length ≤ l.length + k by omega), hyk]
    have dc : ∀ i o, (l ++ ys).toArray[i]? = some o → listed.getD i false = true → ∀ e ∈ o.after, Region.binds .any e = true → listed.getD e.on false = true := fun i o ho hl e he hb => by
      have := (fit_spec hfit ho).2 e he hb
      have h2 := (hli i).1 hl
      exact (hli _).2 (by omega)
    refine ⟨fun hr => ?_, fun i hi => ?_⟩
    · exfalso
      have : l.length + k ∈ Region.ready .any (l ++ ys).toArray listed := by
        rw [mem_ready]
        have hli' : l.length + k < listed.size := by rw [hls]; simp; omega
        have hno : listed.getD (l.length + k) false ≠ true := fun hh => by have := (hli _).1 hh; omega
        refine ⟨by simp [Array.getD_eq_getD_getElem?, hli'] at hno ⊢; exact hno, o, hok, fun e he hb => ?_⟩
        have := (fit_spec hfit hok).2 e he hb
        exact (hli _).2 (by omega)
      rw [hr] at this; cases this
    · have hie : i = l.length + k := by
        obtain ⟨hun, o', hoi, hall⟩ := mem_ready.1 hi
        have hlt := (Array.getElem?_eq_some_iff.1 hoi).1
        have hge : l.length + k ≤ i := by
          by_cases hc : i < l.length + k
          · have h1 := (hli i).2 hc
            have hls' : i < listed.size := by rw [hls]; simp at hlt ⊢; omega
            simp [Array.getD_eq_getD_getElem?, hls'] at hun h1
            rw [h1] at hun; cases hun
          · omega
        by_cases hc : i = l.length + k
        · exact hc
        · have := tail_ready ht hls dc hi (by omega) (l.length + k) (by omega)
          have := (hli _).1 this
          omega
      subst hie
      unfold wpOp
      have next : ∀ v w2, SeqD P (l ++ ys).toArray os (a'.put o.dst v) w2 (fun a w => Q .normal a w) → wpAny P .any (l ++ ys).toArray Q fuel (listed.setIfInBounds (l.length + k) true) (a'.put o.dst v) w2 := fun v w2 hs => by
        refine tail_seq ht hfit os (k + 1) fuel _ _ _ ?_ (by omega) (by simpa using hls) (fun i => ?_) (by simp at hf; omega) hs
        · rw [← List.drop_drop, hz]; rfl
        · by_cases hc : i = l.length + k
          · subst hc
            have hli' : l.length + k < listed.size := by rw [hls]; simp; omega
            simp [Array.getD_eq_getD_getElem?, hli']
          · rw [set_ne false (Ne.symm hc), hli i]; omega
      rcases h with ⟨hw, h⟩ | ⟨hw, h⟩
      · simp only [hok, hw, if_true]
        refine .inl (Oper.wp_mono (fun a2 w2 hh => ?_) (h Q))
        obtain ⟨v, rfl, hs⟩ := hh
        exact next v w2 hs
      · simp only [hok, hw, Bool.false_eq_true, if_false]
        exact next undef w' h
theorem drawn_anyT (tab : Nat → Cl S) (al : List Nat) (hal : ∀ i, al.contains i = true → ∀ v w, (tab i).P v w → ∃ g, blkOf v = some g ∧ g < w.heap.size) (hall_ : ∀ i, al.contains i = true → i < l.length) (htrans : ∀ a b c, S a b → S b c → S a c) (hfit : fitB (l ++ ys).toArray n T = true) (ht : tailB (l ++ ys).toArray l.length fu = true)
    (hop : ∀ i o, l[i]? = some o → OblA P (l ++ ys).toArray S n T tab al w i o)
    (hend : ∀ f a' w', S w w' → (∀ i, i < l.length → (tab i).P (f i) w') → (∀ i j, al.contains i = true → al.contains j = true → i ≠ j → blkOf (f i) ≠ blkOf (f j)) → St n (puts l f 0 ++ T) a' → SeqD P (l ++ ys).toArray ys a' w' (fun a w => Q .normal a w)) :
    ∀ (fuel : Nat) (listed : Array Bool) (a' : Act) (w' : World), listed.size = (l ++ ys).length → ((List.range (l ++ ys).length).filter fun i => !listed.getD i true).length ≤ fuel → S w w' → St n T a' →
      (∀ i, i < l.length → listed.getD i false = true → (tab i).P (valOf (l ++ ys).toArray a' i) w') → (∀ i j, al.contains i = true → al.contains j = true → i ≠ j → listed.getD i false = true → listed.getD j false = true → blkOf (valOf (l ++ ys).toArray a' i) ≠ blkOf (valOf (l ++ ys).toArray a' j)) → (∀ i, l.length ≤ i → listed.getD i false = false) →
      (∀ i o, (l ++ ys).toArray[i]? = some o → listed.getD i false = true → ∀ e ∈ o.after, Region.binds .any e = true → listed.getD e.on false = true) → wpAny P .any (l ++ ys).toArray Q fuel listed a' w' := by
  have last : ∀ (fuel : Nat) (listed : Array Bool) (a' : Act) (w' : World), listed.size = (l ++ ys).length → ((List.range (l ++ ys).length).filter fun i => !listed.getD i true).length ≤ fuel → (∀ i, i < l.length → listed.getD i false = true) → (∀ i, l.length ≤ i → listed.getD i false = false) → S w w' → St n T a' →
      (∀ i, i < l.length → listed.getD i false = true → (tab i).P (valOf (l ++ ys).toArray a' i) w') → (∀ i j, al.contains i = true → al.contains j = true → i ≠ j → listed.getD i false = true → listed.getD j false = true → blkOf (valOf (l ++ ys).toArray a' i) ≠ blkOf (valOf (l ++ ys).toArray a' j)) → wpAny P .any (l ++ ys).toArray Q fuel listed a' w' := by
    intro fuel listed a' w' hls hf all hno hS hT hin hdi
    refine tail_seq ht hfit ys 0 fuel listed a' w' rfl (Nat.zero_le _) hls (fun i => ⟨fun h => ?_, fun h => all i (by omega)⟩) ?_ (hend (valOf (l ++ ys).toArray a') a' w' hS (fun i hi => hin i hi (all i hi)) (fun i j hi hj hne => hdi i j hi hj hne (all i (hall_ i hi)) (all j (hall_ j hj))) ⟨hT.size, hT.defers, fun t v hv => ?_⟩)
    · by_cases hc : l.length ≤ i
      · rw [hno i hc] at h; cases h
      · omega
    · refine Nat.le_trans ?_ hf
      have hsub : ((List.range ys.length).map (l.length + ·)).Sublist ((List.range (l ++ ys).length).filter fun i => !listed.getD i true) := by
        rw [List.length_append, List.range_add, List.filter_append]
        refine List.Sublist.trans ?_ (List.sublist_append_right _ _)
        rw [List.filter_eq_self.2 ?_]
        · exact List.Sublist.refl _
        · intro i hi
          obtain ⟨k, hk, rfl⟩ := List.mem_map.1 hi
          have h1 := hno (l.length + k) (by omega)
          have hli' : l.length + k < listed.size := by rw [hls]; simp at hk ⊢; omega
          simp [Array.getD_eq_getD_getElem?, hli'] at h1 ⊢
          exact h1
      have := hsub.length_le
      simpa using this
    · rcases puts_look (valOf (l ++ ys).toArray a') T l 0 hv with ⟨i, o, h1, h2, h3⟩ | h
      · have hil := (List.getElem?_eq_some_iff.1 h1).1
        have hd : dstOf (l ++ ys).toArray i = some t := by simp [dstOf, List.getElem?_append_left hil, h1, h2]
        rw [h3, Nat.zero_add]; unfold valOf; rw [hd]
      · exact hT.get t v h
  intro fuel
  induction fuel with
  | zero =>
    intro listed a' w' hls hf hS hT hin hdi hno dc
    refine last 0 listed a' w' hls hf (fun i hi => ?_) hno hS hT hin hdi
    have hnil : ((List.range (l ++ ys).length).filter fun i => !listed.getD i true) = [] := List.eq_nil_of_length_eq_zero (by omega)
    rw [List.filter_eq_nil_iff] at hnil
    have := hnil i (by simp; omega)
    have hli' : i < listed.size := by rw [hls]; simp; omega
    simp [Array.getD_eq_getD_getElem?, hli'] at this ⊢
    exact this
  | succ fuel ih =>
    intro listed a' w' hls hf hS hT hin hdi hno dc
    by_cases hall : ∀ i, i < l.length → listed.getD i false = true
    · exact last (fuel + 1) listed a' w' hls hf hall hno hS hT hin hdi
    have hlt : ∀ i, i ∈ Region.ready .any (l ++ ys).toArray listed → i < l.length := fun i hi => by
      by_cases hc : l.length ≤ i
      · exact absurd (fun j hj => tail_ready ht hls dc hi hc j (by omega)) hall
      · omega
    refine ⟨fun hr => ?_, fun i hi => ?_⟩
    · exfalso
      refine hall fun i => ?_
      induction i using Nat.strongRecOn with
      | _ i ihi =>
        intro hi
        cases hl : listed.getD i false with
        | true => rfl
        | false =>
          exfalso
          have : i ∈ Region.ready .any (l ++ ys).toArray listed := by
            rw [mem_ready]
            have hli : i < listed.size := by rw [hls]; simp; omega
            have hoi : (l ++ ys).toArray[i]? = some l[i] := by simp [List.getElem?_append_left hi, hi]
            refine ⟨by simpa [hli] using hl, l[i], hoi, fun e he hb => ?_⟩
            have hlt := (fit_spec hfit hoi).2 e he hb
            exact ihi e.on hlt (by omega)
          rw [hr] at this; cases this
    · have hil := hlt i hi
      obtain ⟨hun, o, hoi, hallw⟩ := mem_ready.1 hi
      have hoi' : l[i]? = some o := by simpa [List.getElem?_append_left hil] using hoi
      obtain ⟨hfd, hfe⟩ := fit_spec hfit hoi
      have hk : ∀ j, waits o j = true → (tab j).P (valOf (l ++ ys).toArray a' j) w' := fun j hj => by
        unfold waits at hj
        rw [List.any_eq_true] at hj
        obtain ⟨e, he', hb⟩ := hj
        have he : e ∈ o.after := by simpa using he'
        simp only [Bool.and_eq_true, beq_iff_eq] at hb
        have := hfe e he hb.1
        rw [← hb.2]
        exact hin e.on (by omega) (hallw e he hb.1)
      have hils : i < listed.size := by rw [hls]; simp; omega
      have same : ∀ (v : Value) (j : Nat), j < l.length → j ≠ i → valOf (l ++ ys).toArray (a'.put o.dst v) j = valOf (l ++ ys).toArray a' j := fun v j hj hji => by
        unfold valOf
        cases hdj : dstOf (l ++ ys).toArray j with
        | none => rfl
        | some d' =>
          cases hd : o.dst with
          | none => rfl
          | some d =>
            have hne : d ≠ d' := fun e => by subst e; exact hji ((hfd d hd).2.1 j (by simp; omega) hdj)
            simp [Act.put, Array.getD_eq_getD_getElem?, Array.getElem?_setIfInBounds_ne hne]
      have own : ∀ (v : Value), valOf (l ++ ys).toArray (a'.put o.dst v) i = seenV o v := fun v => by
        cases hd : o.dst with
        | none =>
          have hdi : dstOf (l ++ ys).toArray i = none := by simp [dstOf, List.getElem?_append_left hil, hoi', hd]
          unfold valOf seenV; rw [hdi, hd]
        | some d =>
          have hdi : dstOf (l ++ ys).toArray i = some d := by simp [dstOf, List.getElem?_append_left hil, hoi', hd]
          have hdl : d < a'.tmps.size := by rw [hT.size]; exact (hfd d hd).1
          unfold valOf seenV; rw [hdi, hd]; simp [Act.put, hdl]
      have go : ∀ (v : Value) (w2 : World), S w' w2 → (tab i).P (seenV o v) w2 → (al.contains i = true → ∃ g, blkOf (seenV o v) = some g ∧ w'.heap.size ≤ g) → wpAny P .any (l ++ ys).toArray Q fuel (listed.setIfInBounds i true) (a'.put o.dst v) w2 := by
        intro v w2 hS2 hv hnew
        have fresh : ∀ j, al.contains i = true → al.contains j = true → j ≠ i → listed.getD j false = true → blkOf (seenV o v) ≠ blkOf (valOf (l ++ ys).toArray a' j) := fun j hi hj hne hl => by
          obtain ⟨g, h1, h2⟩ := hnew hi
          obtain ⟨g', h3, h4⟩ := hal j hj _ _ (hin j (hall_ j hj) hl)
          rw [h1, h3]
          intro e; cases e; omega
        have hT2 : St n T (a'.put o.dst v) := by
          cases hd : o.dst with
          | none => exact hT
          | some d =>
            obtain ⟨hdn, _, hTd⟩ := hfd d hd
            have hp := hT.put hdn v
            refine ⟨hp.size, hp.defers, fun t u hu => hp.get t u ?_⟩
            have hne : t ≠ d := hTd (t, u) (lookup_mem hu)
            rw [List.lookup_cons]
            have : (t == d) = false := by simpa using hne
            simp only [this]; exact hu
        refine ih _ _ _ (by simpa using hls) ?_ (htrans _ _ _ hS hS2) hT2 (fun j hj hlj => ?_) (fun j k hj hk' hne hlj hlk => ?_) (fun j hj => ?_) (fun j o' ho' hlj e he hb => ?_)
        · have : ((List.range (l ++ ys).length).filter fun k => !(listed.setIfInBounds i true).getD k true).length < ((List.range (l ++ ys).length).filter fun k => !listed.getD k true).length := by
            have hsub : ((List.range (l ++ ys).length).filter fun k => !(listed.setIfInBounds i true).getD k true) = ((List.range (l ++ ys).length).filter fun k => !listed.getD k true).filter (fun k => k != i) := by
              rw [List.filter_filter]
              apply List.filter_congr
              intro k _
              by_cases hk : k = i
              · subst hk; simp [hils]
              · rw [set_ne true (Ne.symm hk)]; simp [hk]
            rw [hsub]
            refine List.length_filter_lt_length_iff_exists.2 ⟨i, ?_, by simp⟩
            simp only [List.mem_filter, List.mem_range]
            exact ⟨by simp; omega, by rw [hun]; rfl⟩
          omega
        · by_cases hji : j = i
          · subst hji; rw [own]; exact hv
          · have h1 := hin j hj (by rwa [set_ne false (Ne.symm hji)] at hlj)
            rw [same v j hj hji]; exact (tab j).st _ _ _ hS2 h1
        · by_cases hji : j = i
          · subst hji
            rw [own, same v k (hall_ k hk') (Ne.symm hne)]
            exact fresh k hj hk' (Ne.symm hne) (by rwa [set_ne false hne] at hlk)
          · by_cases hki : k = i
            · subst hki
              rw [own, same v j (hall_ j hj) hji]
              exact Ne.symm (fresh j hk' hj hji (by rwa [set_ne false (Ne.symm hji)] at hlj))
            · rw [same v j (hall_ j hj) hji, same v k (hall_ k hk') hki]
              exact hdi j k hj hk' hne (by rwa [set_ne false (Ne.symm hji)] at hlj) (by rwa [set_ne false (Ne.symm hki)] at hlk)
        · rw [set_ne false (by omega)]; exact hno j hj
        · by_cases hji : j = i
          · subst hji
            rw [hoi] at ho'
            cases ho'
            have h1 := hfe e he hb
            rw [set_ne false (by omega)]
            exact hallw e he hb
          · rw [set_ne false (Ne.symm hji)] at hlj
            have h1 := dc j o' ho' hlj e he hb
            by_cases hei : e.on = i
            · rw [hei]; simp [Array.getD_eq_getD_getElem?, hils]
            · rw [set_ne false (Ne.symm hei)]; exact h1
      unfold wpOp
      rcases hop i o hoi' a' w' hS hT hk with ⟨hw, h⟩ | ⟨hw, h⟩
      · simp only [hoi, hw, if_true]
        refine .inl (Oper.wp_mono (fun a2 w2 h => ?_) (h Q))
        obtain ⟨v, rfl, hS2, hv, hg⟩ := h
        exact go v w2 hS2 hv hg
      · simp only [hoi, hw, Bool.false_eq_true, if_false]
        exact go undef w' h.1 h.2.1 h.2.2
def EachsA (P : Program) (ops : Array Oper) (S : World → World → Prop) (n : Nat) (T : List (Nat × Value)) (tab : Nat → Cl S) (al : List Nat) (w : World) (k : Nat) (l : List Oper) : Prop := ∀ i o, l[i]? = some o → OblA P ops S n T tab al w (k + i) o
theorem eachA_nil {ops : Array Oper} {tab : Nat → Cl S} {k : Nat} {al : List Nat} : EachsA P ops S n T tab al w k [] := fun i o h => by simp at h
theorem eachA_made {ops : Array Oper} {tab : Nat → Cl S} {k : Nat} {al : List Nat} {o : Oper} {os : List Oper} (h : OblA P ops S n T tab al w k o) (ht : EachsA P ops S n T tab al w (k + 1) os) : EachsA P ops S n T tab al w k (o :: os) := fun i p hp => by
  cases i with
  | zero => simp at hp; subst hp; exact h
  | succ i => have := ht i p (by simpa using hp); rwa [show k + 1 + i = k + (i + 1) by omega] at this
theorem eachA_cons {ops : Array Oper} {tab : Nat → Cl S} {k : Nat} {al : List Nat} {o : Oper} {os : List Oper} (hne : al.contains k = false) (h : Obl P ops S n T tab w k o) (ht : EachsA P ops S n T tab al w (k + 1) os) : EachsA P ops S n T tab al w k (o :: os) :=
  eachA_made (fun a' w' h1 h2 h3 => does_mono (h a' w' h1 h2 h3) fun _ _ hh => ⟨hh.1, hh.2, fun e => by rw [hne] at e; cases e⟩) ht
/-- THE LAW. -/
theorem drawnT {id : Nat} {a : Act} (l ys : List Oper) (fu : Nat) (tab : Nat → Cl S) (al : List Nat) (hal : ∀ i, al.contains i = true → ∀ v w, (tab i).P v w → ∃ g, blkOf v = some g ∧ g < w.heap.size) (hall_ : ∀ i, al.contains i = true → i < l.length) (hm : P.follows .mixedOrders = true) (hrefl : ∀ w, S w w) (htrans : ∀ a b c, S a b → S b c → S a c) (hdrew : ∀ w : World, S w w.drew) (hA : St n T a) (hfit : fitB (l ++ ys).toArray n T = true) (ht : tailB (l ++ ys).toArray l.length fu = true)
    (hop : EachsA P (l ++ ys).toArray S n T tab al w.drew 0 l)
    (hend : ∀ f a' w', S w w' → (∀ i, i < l.length → (tab i).P (f i) w') → (∀ i j, al.contains i = true → al.contains j = true → i ≠ j → blkOf (f i) ≠ blkOf (f j)) → St n (puts l f 0 ++ T) a' → SeqD P (l ++ ys).toArray ys a' w' (fun a w => Q .normal a w)) : (Code.region id (l ++ ys).toArray true).wp P Q a w := by
  refine wp_region_any hm ?_
  refine drawn_anyT (w := w.drew) tab al hal hall_ htrans hfit ht (fun i o h => by have := hop i o h; rwa [Nat.zero_add] at this) (fun f a' w' hS => hend f a' w' (htrans _ _ _ (hdrew w) hS)) _ _ _ _ (by simp) ?_ (hrefl _) hA (fun i _ hi => ?_) (fun i j _ _ _ hi => ?_) (fun i _ => ?_) (fun i o _ hi => ?_)
  · refine Nat.le_trans (List.length_filter_le _ _) (by simp)
  · exfalso
    simp [Array.getD_eq_getD_getElem?, Array.getElem?_replicate] at hi; split at hi <;> simp at hi
  · exfalso
    simp [Array.getD_eq_getD_getElem?, Array.getElem?_replicate] at hi; split at hi <;> simp at hi
  · simp [Array.getD_eq_getD_getElem?, Array.getElem?_replicate]; split <;> simp
  · exfalso
    simp [Array.getD_eq_getD_getElem?, Array.getElem?_replicate] at hi; split at hi <;> simp at hi
end
end Go.Proofs.Ytlbccddhcbcpoaa.En
/- A copy with one relation more behind it; a slice's beginning; blocks that are made. -/
namespace Go.Proofs.Ytlbccddhcbcpoaa.En
set_option linter.unusedSimpArgs false
set_option linter.unusedVariables false
open Go.RowKit

def sev : Rl := upd nil 0 7#32
theorem sev_fill : Instr.fill (fun i => some (i * 1, 1)) (Value.agg (cells nil)).cells [(0, .int .u32 7)] = some (cells sev) := by kernel_rfl
section
variable {P : Program} {ops : Array Oper} {a : Act} {w : World} {K : Value → World → Prop} {d : Option Tmp} {ty : TypeId} {pos : String} {af : Array Edge} {gd : Option (Nat × Bool)} {v : Value}
theorem d_buildArr {t n e s m : Nat} {parts : Array (Nat × Operand)} {vs : List (Nat × Value)} {z : Value} {cs : Array Value} (hw : Region.wanted { dst := d, op := .build t parts, type := ty, pos := pos, after := af, guard := gd } (yielded ops a.tmps) = true)
    (hx : (parts.map fun x => (x.1, a.eval x.2)).toList = vs) (ht : arrB P t n e s = true) (hi : (P.info? t).map (fun i => (i.zero, i.size)) = some (some z, m)) (hf : Instr.fill (fun i => some (i * s, s)) z.cells vs = some cs) (h : K (.agg cs) w) :
    Does P ops { dst := d, op := .build t parts, type := ty, pos := pos, after := af, guard := gd } a w K :=
  does_val hw (by
    have hz := (zero_of_info hi).1 w
    have hf' : Instr.fill (fun i => some (i * s, s)) z.cells (parts.map fun x => (x.1, a.eval x.2)).toList = some cs := by rw [hx]; exact hf
    unfold execOp
    simp only [Sem.run_bind, Instr.build, hz, Result.andThen_ok, run_underlying (arr_facts ht).1, run_size (arr_facts ht).2, hf', Sem.run_pure]) h
theorem d_head {t e s : Nat} {x y : Operand} {g len cap n : Nat} (hw : Region.wanted { dst := d, op := .slice t x none (some y) none, type := ty, pos := pos, after := af, guard := gd } (yielded ops a.tmps) = true) (hx : a.eval x = .slice (some ⟨g, 0, none⟩) len cap) (hy : a.eval y = .int .i64 (n : Int)) (ht : sliceB P t e s = true) (hn : n ≤ cap) (h : K (.slice (some ⟨g, 0, none⟩) n cap) w) :
    Does P ops { dst := d, op := .slice t x none (some y) none, type := ty, pos := pos, after := af, guard := gd } a w K := by
  obtain ⟨hu, hz⟩ := slice_facts ht
  refine does_val hw ?_ h
  have hsb : (Instr.sliceBounds true len cap none (some (.int .i64 (n : Int))) none).run P w = .ok (0, n, cap) w := by
    simp [Instr.sliceBounds, run_sliceBound (P := P) w .i64 n cap .sliceAcap (by omega) (by omega)]
  unfold execOp
  simp only [hx, hy, Option.map_some, Option.map_none, Instr.sliceAt, Instr.slice, Sem.run_bind, run_underlying hu, hsb, Result.andThen_ok, run_size hz, Sem.run_pure]
  simp [Addr.add_mid]
end
theorem own_some {w : World} {b e s n : Nat} {v : Value} {xs : List Value} (h : w.ownsRow b e s v n xs) (hn : 0 < n) : ∃ g cap, v = .slice (some ⟨g, 0, none⟩) n cap ∧ n ≤ cap := by
  rcases h.2 with ⟨_, h2⟩ | ⟨g, cap, cur, hv, _, _, hc, _⟩
  · omega
  · exact ⟨g, cap, hv, hc⟩
theorem sn_row {w : World} {b g cap : Nat} {rs : List Rl} {r : Rl} (h : w.ownsRow b 28 32 (.slice (some ⟨g, 0, none⟩) (rs.length + 1) cap) (rs.length + 1) ((rs ++ [r]).flatMap relE)) : Sn w (.slice (some ⟨g, 0, none⟩) rs.length cap) rs := by
  have h' : w.ownsRow b 28 32 (.slice (some ⟨g, 0, none⟩) (rs.length + 1) cap) (rs ++ [r]).length ((rs ++ [r]).flatMap relE) := by rw [List.length_append]; exact h
  obtain ⟨ao, cap', hv, _, hs⟩ := own_gen relE_len h'
  have hg : g < w.heap.size := by
    rcases h.2 with ⟨h2, _⟩ | ⟨g', cap2, cur, hv2, _, hgg, _⟩
    · simp at h2
    · simp at hv2
      obtain ⟨rfl, _⟩ := hv2
      exact (Array.getElem?_eq_some_iff.1 hgg).1
  refine ⟨g, 0, cap, rfl, hg, fun j x hx => ?_⟩
  obtain ⟨b', o', h1, _, h3⟩ := hs j x (by rw [List.getElem?_append_left (get_lt hx)]; exact hx)
  simp at hv
  rw [← hv.1] at h1
  simp at h1
  obtain ⟨rfl, rfl⟩ := h1
  exact h3
theorem flat_snoc (rs : List Rl) (r : Rl) : rs.flatMap relE ++ (cells r).toList = (rs ++ [r]).flatMap relE := by simp [relE]
def cBlk (M : Nat → Option (Array Value)) (hM : ∀ k, M k = none) (B0 : Nat) (Z : Array Value) (t : TypeId) : Cl (SM M) :=
  ⟨fun v w => ∃ g, v = .pointer (some ⟨g, 0, none⟩) ∧ B0 ≤ g ∧ Blk w g Z t, fun _ _ _ hS ⟨g, h1, h2, h3⟩ => ⟨g, h1, h2, h3.sm hS (hM g)⟩⟩
theorem cBlk_lt {M : Nat → Option (Array Value)} {hM : ∀ k, M k = none} {B0 : Nat} {Z : Array Value} {t : TypeId} {v : Value} {w : World} (h : (cBlk M hM B0 Z t).P v w) : ∃ g, blkOf v = some g ∧ g < w.heap.size := by
  obtain ⟨g, rfl, _, hb⟩ := h
  exact ⟨g, rfl, hb.lt⟩
theorem el_snoc {rs : List Rl} {r x y : Rl} {j : Nat} (h : (rs ++ [r])[j]? = some x) (k : rs[j]? = some y) : x = y := by
  rw [List.getElem?_append_left (get_lt k), k] at h; exact (Option.some.inj h).symm
theorem el_last {rs : List Rl} {r x : Rl} (h : (rs ++ [r])[rs.length]? = some x) : x = r := by
  simp at h; exact h.symm
end Go.Proofs.Ytlbccddhcbcpoaa.En
/- A row's bound, set lower. -/
namespace Go.Proofs.Ytlbccddhcbcpoaa.En
set_option linter.unusedVariables false
open Go.RowKit

theorem own_base {w : World} {b b' e s n : Nat} {v : Value} {xs : List Value} (h : w.ownsRow b e s v n xs) (hb : b' ≤ b) : w.ownsRow b' e s v n xs := by
  obtain ⟨h1, h2⟩ := h
  refine ⟨h1, ?_⟩
  rcases h2 with h2 | ⟨g, cap, cur, hv, hg, h3⟩
  · exact .inl h2
  · exact .inr ⟨g, cap, cur, hv, Nat.le_trans hb hg, h3⟩
theorem seqD_end {P : Program} {ops : Array Oper} {a : Act} {w : World} {X : Act → World → Prop} (h : X a w) : SeqD P ops [] a w X := h
end Go.Proofs.Ytlbccddhcbcpoaa.En
/- RelMakes returns true. -/
namespace Go.Proofs.Ytlbccddhcbcpoaa.En
open Go.RowKit
set_option linter.unusedSimpArgs false
set_option linter.unusedVariables false
theorem elm38 : elemB Try.prog 38 28 32 128 = true := by kernel_rfl
theorem ent19 : ((Try.prog.funcs[19]?).map fun fn => (fn.name == "runtime.NumGoroutine", fn.body.isNone)) = some (false, false) := by kernel_rfl
theorem ent20 : ((Try.prog.funcs[20]?).map fun fn => (fn.name == "runtime.NumGoroutine", fn.body.isNone)) = some (false, false) := by kernel_rfl
theorem ent21 : ((Try.prog.funcs[21]?).map fun fn => (fn.name == "runtime.NumGoroutine", fn.body.isNone)) = some (false, false) := by kernel_rfl
theorem ent22 : ((Try.prog.funcs[22]?).map fun fn => (fn.name == "runtime.NumGoroutine", fn.body.isNone)) = some (false, false) := by kernel_rfl
theorem ent23 : ((Try.prog.funcs[23]?).map fun fn => (fn.name == "runtime.NumGoroutine", fn.body.isNone)) = some (false, false) := by kernel_rfl
theorem ent24 : ((Try.prog.funcs[24]?).map fun fn => (fn.name == "runtime.NumGoroutine", fn.body.isNone)) = some (false, false) := by kernel_rfl
theorem ent9 : ((Try.prog.funcs[9]?).map fun fn => (fn.name == "runtime.NumGoroutine", fn.body.isNone)) = some (false, false) := by kernel_rfl
attribute [local irreducible] cells row U one upd nil evB fst inn part seq2 sqs met uni idr aft sev eqB
set_option maxHeartbeats 4000000 in
set_option maxRecDepth 4000 in
theorem makes_law (rs : List Rl) (ao : Option Addr) (cap : Nat) (w : World) (hrs : Sl relE 32 w.heap.size w (.slice ao rs.length cap) rs) : Calls Try.prog 4 #[.slice ao rs.length cap] w fun e w' => e = .returned (.bool true) ∧ Grow w w' := by
  have b0 : Below w.heap.size w w := Below.refl _ _
  refine enter (n := 74) Try.func4 rfl rfl (Nat.le_of_ble_eq_true rfl) ?_
  intro a1 hA2
  refine wp_seq ?_
  refine wp_region_lit ?_
  refine q_step hA2 rfl (d_assign (wn rfl) (hA2.ev (v := (.bool false)) rfl) ?_)
  intro a3 hA4
  refine q_end ?_
  refine t_norm ?_
  refine wp_seq ?_
  refine wp_seq ?_
  refine wp_region_lit ?_
  refine q_step hA4 rfl (d_call (wn rfl) ent9 (map0) (able_any w) ?_)
  rintro e8 w5 ⟨he7, hG6⟩
  have b9 := below_grow b0 hG6 b0.size
  refine ⟨(.bool true), he7, ?_⟩
  intro a10 hA11
  refine q_step hA11 rfl (d_not (wn rfl) (hA11.ev (v := (.bool true)) rfl) ?_)
  intro a12 hA13
  refine q_end ?_
  refine t_norm ?_
  refine c_false hA13 rfl ?_
  refine wp_skip ?_
  refine t_norm ?_
  refine wp_seq ?_
  refine wp_seq ?_
  refine wp_region_lit ?_
  refine q_step hA13 rfl (d_move (wn rfl) (hA13.ev (v := (.slice ao rs.length cap)) rfl) ?_)
  intro a14 hA15
  refine q_step hA15 rfl (d_len (n := rs.length) (wn rfl) (hA15.ev (v := (.slice ao rs.length cap)) rfl) slc38 hrs.form ?_)
  intro a16 hA17
  rcases Bool.eq_false_or_eq_true (decide (((rs.length : Nat) : Int) > 300)) with hb18 | hb18
  · skip
    have hq19 := of_decide_eq_true hb18
    refine q_step hA17 rfl (d_bin (wn rfl) (hA17.ev (v := (.int .i64 ((rs.length : Nat) : Int))) rfl) (hA17.ev (v := (.int .i64 300)) rfl) (b_gt _ _ ((rs.length : Nat) : Int) 300 true _ hb18) ?_)
    intro a20 hA21
    refine q_end ?_
    refine t_norm ?_
    refine c_true hA21 rfl ?_
    refine wp_seq ?_
    refine wp_region_lit ?_
    refine q_step hA21 rfl (d_assign (wn rfl) (hA21.ev (v := (.bool true)) rfl) ?_)
    intro a22 hA23
    refine q_end ?_
    refine t_norm ?_
    refine wp_ret ?_
    refine t_ret ?_
    refine ret1 rfl hA23 (v := (.bool true)) rfl ?_
    exact ⟨rfl, b9⟩
  · skip
    have hq24 := of_decide_eq_false hb18
    refine q_step hA17 rfl (d_bin (wn rfl) (hA17.ev (v := (.int .i64 ((rs.length : Nat) : Int))) rfl) (hA17.ev (v := (.int .i64 300)) rfl) (b_gt _ _ ((rs.length : Nat) : Int) 300 false _ hb18) ?_)
    intro a25 hA26
    refine q_end ?_
    refine t_norm ?_
    refine c_false hA26 rfl ?_
    refine wp_skip ?_
    refine t_norm ?_
    refine wp_seq ?_
    refine wp_region_lit ?_
    refine q_step hA26 rfl (d_none (wn rfl) elm38 ?_)
    intro g27 w28 eg29 hG30 (m31 : Blk w28 g27 #[] 28)
    have ge32 : w.heap.size ≤ g27 := eg29 ▸ b9.size
    have b33 := below_grow b9 hG30 b9.size
    intro a34 hA35
    refine q_step hA35 rfl (d_move (wn rfl) (hA35.ev (v := (.slice ao rs.length cap)) rfl) ?_)
    intro a36 hA37
    refine q_step hA37 rfl (d_copy (wn rfl) (hA37.ev (v := (.slice (some ⟨g27, 0, none⟩) 0 0)) rfl) m31 (hA37.ev (v := (.slice ao rs.length cap)) rfl) elm38 (hrs.below b33) relE_len relE_one (by omega) (by decide) ?_)
    intro v38 w39 hG40 ho41
    have m42 := m31.grow hG40
    have b43 := below_grow b33 hG40 b33.size
    have ho44 := own_base ho41 ge32
    intro a45 hA46
    refine q_step hA46 rfl (d_buildArr (wn rfl) (bp_of (bq_cons (hA46.ev (v := (.int .u32 7)) rfl) bq_nil)) arr28 zero28 sev_fill ?_)
    intro a47 hA48
    refine q_step hA48 rfl (d_slice1 (wn rfl) (hA48.ev (v := (.agg (cells sev))) rfl) elm38 (cells_size _) (by decide) ?_)
    intro g49 w50 eg51 hG52 (m53 : Blk w50 g49 (cells sev) 28)
    have ge54 : w.heap.size ≤ g49 := eg51 ▸ b43.size
    have off55 := own_new ho44 eg51
    have b56 := below_grow b43 hG52 b43.size
    have ho57 := own_grow hG52 ho44
    intro a58 hA59
    refine q_step hA59 rfl (d_append (wn rfl) (hA59.ev (v := v38) rfl) (hA59.ev (v := (.slice (some ⟨g49, 0, none⟩) 1 1)) rfl) elm38 ho57 m53 (cells_size _) (cells_oneL _) (by omega) (by decide) b56.size ?_)
    intro v60 w61 ho62 hg63 hl64
    have b65 := below_by b56 hg63 b56.size (fun k hk => (own_lt ho57 k hk).1)
    rw [flat_snoc] at ho62
    obtain ⟨g66, cap67, rfl, hc68⟩ := own_some ho62 (by omega)
    intro a69 hA70
    refine q_step hA70 rfl (d_assign (wn rfl) (hA70.ev (v := (.slice (some ⟨g66, 0, none⟩) (rs.length + 1) cap67)) rfl) ?_)
    intro a71 hA72
    refine q_end ?_
    refine t_norm ?_
    refine wp_seq ?_
    have hA73 : St 74 [(0, (.slice ao rs.length cap)), (3, (.slice (some ⟨g66, 0, none⟩) (rs.length + 1) cap67))] a71 := hA72.cut _ (fm_cons (hA72.get 0 _ rfl) (fm_cons (hA72.get 3 _ rfl) fm_nil))
    let M74 : Nat → Option (Array Value) := fun _ => none
    have hM74 : M74 = fun _ => none := rfl
    clear_value M74
    have hM74A : ∀ k, M74 k = none := fun k => congrFun hM74 k
    refine drawnT (S := SM M74) [_, _, _, _, _, _, _, _, _, _, _, _, _, _, _, _, _, _] [_, _, _] 8 (tabL [cv (.slice (some ⟨g66, 0, none⟩) (rs.length + 1) cap67), cv (.slice ao rs.length cap), cv (.int .i64 ((rs.length : Nat) : Int)), cv (.slice (some ⟨g66, 0, none⟩) rs.length cap67), cv (.agg (cells (uni rs))), cv (.slice (some ⟨g66, 0, none⟩) (rs.length + 1) cap67), cv (.slice ao rs.length cap), cv (.int .i64 ((rs.length : Nat) : Int)), cv (.slice (some ⟨g66, 0, none⟩) rs.length cap67), cv (.agg (cells (met rs))), cv (.slice (some ⟨g66, 0, none⟩) (rs.length + 1) cap67), cv (.slice ao rs.length cap), cv (.int .i64 ((rs.length : Nat) : Int)), cv (.slice (some ⟨g66, 0, none⟩) rs.length cap67), cv (.agg (cells (sqs rs))), cBlk M74 hM74A w61.heap.size (cells nil) 28, cBlk M74 hM74A w61.heap.size (cells nil) 28, cBlk M74 hM74A w61.heap.size (cells nil) 28]) [15, 16, 17] ?_ ?_ mixedY SM.refl SM.trans SM.drew hA73 (by kernel_rfl) (by kernel_rfl) ?_ ?_
    · skip
      intro i hi v w hp
      have hi' : i = 15 ∨ i = 16 ∨ i = 17 := by simpa using hi
      rcases hi' with rfl | rfl | rfl <;> exact cBlk_lt (hM := hM74A) hp
    · skip
      intro i hi
      have hi' : i = 15 ∨ i = 16 ∨ i = 17 := by simpa using hi
      show i < 18
      omega
    · skip
      refine eachA_cons rfl (fun x y hS hT hk => d_move (wn rfl) (hT.ev (v := (.slice (some ⟨g66, 0, none⟩) (rs.length + 1) cap67)) rfl) ⟨SM.refl _, rfl⟩) ?_
      refine eachA_cons rfl (fun x y hS hT hk => d_move (wn rfl) (hT.ev (v := (.slice ao rs.length cap)) rfl) ⟨SM.refl _, rfl⟩) ?_
      refine eachA_cons rfl (fun x y hS hT hk => d_len (n := rs.length) (wn rfl) (hk 1 rfl) slc38 hrs.form ⟨SM.refl _, rfl⟩) ?_
      refine eachA_cons rfl (fun x y hS hT hk => d_head (n := rs.length) (wn rfl) (hk 0 rfl) (hk 2 rfl) slc38 (by omega) ⟨SM.refl _, rfl⟩) ?_
      refine eachA_cons rfl (fun x y hS hT hk => d_call (wn rfl) ent19 (map1 (show x.eval _ = (.slice (some ⟨g66, 0, none⟩) rs.length cap67) from hk 3 rfl)) (uni_any rs _ y (sn_row (own_sm (w := w61.drew) ho62 hS hM74A)) (by omega)) (fun _ _ ⟨he, hG⟩ => ⟨(.agg (cells (uni rs))), he, SM.grow hG, rfl⟩)) ?_
      refine eachA_cons rfl (fun x y hS hT hk => d_move (wn rfl) (hT.ev (v := (.slice (some ⟨g66, 0, none⟩) (rs.length + 1) cap67)) rfl) ⟨SM.refl _, rfl⟩) ?_
      refine eachA_cons rfl (fun x y hS hT hk => d_move (wn rfl) (hT.ev (v := (.slice ao rs.length cap)) rfl) ⟨SM.refl _, rfl⟩) ?_
      refine eachA_cons rfl (fun x y hS hT hk => d_len (n := rs.length) (wn rfl) (hk 6 rfl) slc38 hrs.form ⟨SM.refl _, rfl⟩) ?_
      refine eachA_cons rfl (fun x y hS hT hk => d_head (n := rs.length) (wn rfl) (hk 5 rfl) (hk 7 rfl) slc38 (by omega) ⟨SM.refl _, rfl⟩) ?_
      refine eachA_cons rfl (fun x y hS hT hk => d_call (wn rfl) ent20 (map1 (show x.eval _ = (.slice (some ⟨g66, 0, none⟩) rs.length cap67) from hk 8 rfl)) (met_any rs _ y (sn_row (own_sm (w := w61.drew) ho62 hS hM74A)) (by omega)) (fun _ _ ⟨he, hG⟩ => ⟨(.agg (cells (met rs))), he, SM.grow hG, rfl⟩)) ?_
      refine eachA_cons rfl (fun x y hS hT hk => d_move (wn rfl) (hT.ev (v := (.slice (some ⟨g66, 0, none⟩) (rs.length + 1) cap67)) rfl) ⟨SM.refl _, rfl⟩) ?_
      refine eachA_cons rfl (fun x y hS hT hk => d_move (wn rfl) (hT.ev (v := (.slice ao rs.length cap)) rfl) ⟨SM.refl _, rfl⟩) ?_
      refine eachA_cons rfl (fun x y hS hT hk => d_len (n := rs.length) (wn rfl) (hk 11 rfl) slc38 hrs.form ⟨SM.refl _, rfl⟩) ?_
      refine eachA_cons rfl (fun x y hS hT hk => d_head (n := rs.length) (wn rfl) (hk 10 rfl) (hk 12 rfl) slc38 (by omega) ⟨SM.refl _, rfl⟩) ?_
      refine eachA_cons rfl (fun x y hS hT hk => d_call (wn rfl) ent21 (map1 (show x.eval _ = (.slice (some ⟨g66, 0, none⟩) rs.length cap67) from hk 13 rfl)) (seq_any rs _ y (sn_row (own_sm (w := w61.drew) ho62 hS hM74A)) (by omega)) (fun _ _ ⟨he, hG⟩ => ⟨(.agg (cells (sqs rs))), he, SM.grow hG, rfl⟩)) ?_
      refine eachA_made (fun x y hS hT hk => d_alloc (wn rfl) zero28 (fun g w' eg hG hb => ⟨SM.grow hG, ⟨g, rfl, eg ▸ hS.size, hb⟩, fun _ => ⟨g, rfl, Nat.le_of_eq eg.symm⟩⟩)) ?_
      refine eachA_made (fun x y hS hT hk => d_alloc (wn rfl) zero28 (fun g w' eg hG hb => ⟨SM.grow hG, ⟨g, rfl, eg ▸ hS.size, hb⟩, fun _ => ⟨g, rfl, Nat.le_of_eq eg.symm⟩⟩)) ?_
      refine eachA_made (fun x y hS hT hk => d_alloc (wn rfl) zero28 (fun g w' eg hG hb => ⟨SM.grow hG, ⟨g, rfl, eg ▸ hS.size, hb⟩, fun _ => ⟨g, rfl, Nat.le_of_eq eg.symm⟩⟩)) ?_
      exact eachA_nil
    intro f75 a76 w77 hS78 hC79 hD80 hA81
    obtain ⟨g82, hg83, hge84, m85⟩ := hC79 15 (Nat.le_of_ble_eq_true rfl)
    obtain ⟨g86, hg87, hge88, m89⟩ := hC79 16 (Nat.le_of_ble_eq_true rfl)
    obtain ⟨g90, hg91, hge92, m93⟩ := hC79 17 (Nat.le_of_ble_eq_true rfl)
    have n94 : g82 ≠ g86 := fun e => hD80 15 16 rfl rfl (by decide) (by rw [hg83, hg87, e])
    have n95 : g82 ≠ g90 := fun e => hD80 15 17 rfl rfl (by decide) (by rw [hg83, hg91, e])
    have n96 : g86 ≠ g90 := fun e => hD80 16 17 rfl rfl (by decide) (by rw [hg87, hg91, e])
    have b97 := hS78.below b65 b65.size (fun k _ => hM74A k)
    have ho98 := own_sm ho62 hS78 hM74A
    have hA99 : St 74 [(0, (.slice ao rs.length cap)), (3, (.slice (some ⟨g66, 0, none⟩) (rs.length + 1) cap67)), (4, (.pointer (some ⟨g82, 0, none⟩))), (5, (.pointer (some ⟨g86, 0, none⟩))), (6, (.pointer (some ⟨g90, 0, none⟩))), (23, (.agg (cells (uni rs)))), (28, (.agg (cells (met rs)))), (33, (.agg (cells (sqs rs))))] a76 := hA81.cut _ (fm_cons (hA81.get 0 _ rfl) (fm_cons (hA81.get 3 _ rfl) (fm_cons ((hA81.get 4 _ rfl).trans (hg83)) (fm_cons ((hA81.get 5 _ rfl).trans (hg87)) (fm_cons ((hA81.get 6 _ rfl).trans (hg91)) (fm_cons ((hA81.get 23 _ rfl).trans (hC79 4 (Nat.le_of_ble_eq_true rfl))) (fm_cons ((hA81.get 28 _ rfl).trans (hC79 9 (Nat.le_of_ble_eq_true rfl))) (fm_cons ((hA81.get 33 _ rfl).trans (hC79 14 (Nat.le_of_ble_eq_true rfl))) fm_nil))))))))
    have ge100 := Nat.le_trans (show w.heap.size ≤ w61.heap.size from b65.size) hge84
    have ge101 := Nat.le_trans (show w.heap.size ≤ w61.heap.size from b65.size) hge88
    have ge102 := Nat.le_trans (show w.heap.size ≤ w61.heap.size from b65.size) hge92
    have off103 : ((.slice (some ⟨g66, 0, none⟩) (rs.length + 1) cap67) : Value).ownBlock ≠ some g82 := fun e => Nat.lt_irrefl _ (Nat.lt_of_lt_of_le (own_lt ho62 _ e).2 hge84)
    have off104 : ((.slice (some ⟨g66, 0, none⟩) (rs.length + 1) cap67) : Value).ownBlock ≠ some g86 := fun e => Nat.lt_irrefl _ (Nat.lt_of_lt_of_le (own_lt ho62 _ e).2 hge88)
    have off105 : ((.slice (some ⟨g66, 0, none⟩) (rs.length + 1) cap67) : Value).ownBlock ≠ some g90 := fun e => Nat.lt_irrefl _ (Nat.lt_of_lt_of_le (own_lt ho62 _ e).2 hge92)
    refine d_storeRow (wn rfl) (hA99.ev (v := (.pointer (some ⟨g82, 0, none⟩))) rfl) (hA99.ev (v := (.agg (cells (uni rs)))) rfl) (row28c _) m85 (by rw [cells_size, cells_size]) (cells_oneL _) ?_
    intro w106 hU107 (m108 : Blk w106 g82 (cells (uni rs)) 28)
    have m109 := m89.upd hU107 (Ne.symm n94)
    have m110 := m93.upd hU107 (Ne.symm n95)
    have b111 := hU107.below b97 ge100
    have ho112 := own_upd ho98 hU107 off103
    refine d_storeRow (wn rfl) (hA99.ev (v := (.pointer (some ⟨g86, 0, none⟩))) rfl) (hA99.ev (v := (.agg (cells (met rs)))) rfl) (row28c _) m109 (by rw [cells_size, cells_size]) (cells_oneL _) ?_
    intro w113 hU114 (m115 : Blk w113 g86 (cells (met rs)) 28)
    have m116 := m108.upd hU114 n94
    have m117 := m110.upd hU114 (Ne.symm n96)
    have b118 := hU114.below b111 ge101
    have ho119 := own_upd ho112 hU114 off104
    refine d_storeRow (wn rfl) (hA99.ev (v := (.pointer (some ⟨g90, 0, none⟩))) rfl) (hA99.ev (v := (.agg (cells (sqs rs)))) rfl) (row28c _) m117 (by rw [cells_size, cells_size]) (cells_oneL _) ?_
    intro w120 hU121 (m122 : Blk w120 g90 (cells (sqs rs)) 28)
    have m123 := m116.upd hU121 n95
    have m124 := m115.upd hU121 n96
    have b125 := hU121.below b118 ge102
    have ho126 := own_upd ho119 hU121 off105
    refine seqD_end (a := a76) ?_
    have hA127 : St 74 [(0, (.slice ao rs.length cap)), (3, (.slice (some ⟨g66, 0, none⟩) (rs.length + 1) cap67)), (4, (.pointer (some ⟨g82, 0, none⟩))), (5, (.pointer (some ⟨g86, 0, none⟩))), (6, (.pointer (some ⟨g90, 0, none⟩)))] a76 := hA99.cut _ (fm_cons (hA99.get 0 _ rfl) (fm_cons (hA99.get 3 _ rfl) (fm_cons (hA99.get 4 _ rfl) (fm_cons (hA99.get 5 _ rfl) (fm_cons (hA99.get 6 _ rfl) fm_nil)))))
    refine t_norm ?_
    refine wp_seq ?_
    refine wp_seq ?_
    refine wp_region_lit ?_
    refine q_step hA127 rfl (d_assign (wn rfl) (hA127.ev (v := (.int .i64 0)) rfl) ?_)
    intro a128 hA129
    refine q_end ?_
    refine t_norm ?_
    refine wp_block ?_
    have hs130 := (hrs.below b125).mono b125.size
    have hs131 : Sl relE 32 w120.heap.size w120 (.slice (some ⟨g66, 0, none⟩) (rs.length + 1) cap67) (rs ++ [sev]) := own_gen relE_len (by rw [List.length_append]; exact ho126)
    have b132 : Below w120.heap.size w120 w120 := Below.refl _ _
    refine loop_by (fun m134 a135 w136 => ∃ j133 : Nat, m134 = rs.length - j133 ∧ (j133 ≤ rs.length) ∧ St 74 [(0, (.slice ao rs.length cap)), (3, (.slice (some ⟨g66, 0, none⟩) (rs.length + 1) cap67)), (4, (.pointer (some ⟨g82, 0, none⟩))), (5, (.pointer (some ⟨g86, 0, none⟩))), (6, (.pointer (some ⟨g90, 0, none⟩))), (7, (.int .i64 ((j133 : Nat) : Int)))] a135 ∧ Below w120.heap.size w120 w136 ∧ Blk w136 g82 (cells (uni rs)) 28 ∧ Blk w136 g86 (cells (met rs)) 28 ∧ Blk w136 g90 (cells (sqs rs)) 28) (rs.length - 0) ⟨0, rfl, (by omega), hA129.cut _ (fm_cons (hA129.get 0 _ rfl) (fm_cons (hA129.get 3 _ rfl) (fm_cons (hA129.get 4 _ rfl) (fm_cons (hA129.get 5 _ rfl) (fm_cons (hA129.get 6 _ rfl) (fm_cons ((hA129.get 7 _ rfl).trans (congrArg (Value.int .i64) (by omega))) fm_nil)))))), b132, m123, m124, m122⟩ ?_
    rintro m134 a135 w136 ⟨j133, hm139, hc140, hA137, b138, m141, m142, m143⟩
    refine wp_seq ?_
    refine wp_seq ?_
    refine wp_region_lit ?_
    refine q_step hA137 rfl (d_move (wn rfl) (hA137.ev (v := (.int .i64 ((j133 : Nat) : Int))) rfl) ?_)
    intro a144 hA145
    refine q_step hA145 rfl (d_move (wn rfl) (hA145.ev (v := (.slice ao rs.length cap)) rfl) ?_)
    intro a146 hA147
    refine q_step hA147 rfl (d_len (n := rs.length) (wn rfl) (hA147.ev (v := (.slice ao rs.length cap)) rfl) slc38 hs130.form ?_)
    intro a148 hA149
    rcases Bool.eq_false_or_eq_true (decide (((j133 : Nat) : Int) < ((rs.length : Nat) : Int))) with hb150 | hb150
    · skip
      have hq151 := of_decide_eq_true hb150
      refine q_step hA149 rfl (d_bin (wn rfl) (hA149.ev (v := (.int .i64 ((j133 : Nat) : Int))) rfl) (hA149.ev (v := (.int .i64 ((rs.length : Nat) : Int))) rfl) (b_lt _ _ ((j133 : Nat) : Int) ((rs.length : Nat) : Int) true _ hb150) ?_)
      intro a152 hA153
      refine q_end ?_
      refine t_norm ?_
      refine c_true hA153 rfl ?_
      refine wp_skip ?_
      refine t_norm ?_
      refine wp_seq ?_
      refine wp_block ?_
      refine wp_seq ?_
      have bD154 := below_grow b138 ((Grow.refl w136).drew) b138.size
      obtain ⟨y155, hy156⟩ : ∃ y155, (rs ++ [sev])[j133]? = some y155 := ⟨_, List.getElem?_eq_getElem (show j133 < (rs ++ [sev]).length by simp <;> omega)⟩
      obtain ⟨b157, o158, lt159, hr160, hix161⟩ := (hs131.below b138).at hy156
      obtain ⟨y162, hy163⟩ : ∃ y162, rs[j133]? = some y162 := ⟨_, List.getElem?_eq_getElem (show j133 < rs.length by omega)⟩
      obtain ⟨b164, o165, lt166, hr167, hix168⟩ := (hs130.below b138).at hy163
      have hA169 : St 74 [(0, (.slice ao rs.length cap)), (3, (.slice (some ⟨g66, 0, none⟩) (rs.length + 1) cap67)), (4, (.pointer (some ⟨g82, 0, none⟩))), (5, (.pointer (some ⟨g86, 0, none⟩))), (6, (.pointer (some ⟨g90, 0, none⟩))), (7, (.int .i64 ((j133 : Nat) : Int)))] a152 := hA153.cut _ (fm_cons (hA153.get 0 _ rfl) (fm_cons (hA153.get 3 _ rfl) (fm_cons (hA153.get 4 _ rfl) (fm_cons (hA153.get 5 _ rfl) (fm_cons (hA153.get 6 _ rfl) (fm_cons (hA153.get 7 _ rfl) fm_nil))))))
      let M170 : Nat → Option (Array Value) := fun _ => none
      have hM170 : M170 = fun _ => none := rfl
      clear_value M170
      have hM171 : M170 g82 = none := (congrFun hM170 g82)
      have hM172 : M170 g86 = none := (congrFun hM170 g86)
      have hM173 : M170 g90 = none := (congrFun hM170 g90)
      have hM170B : ∀ k, k < w120.heap.size → M170 k = none := (fun k hk => (congrFun hM170 k))
      refine drawn (S := SM M170) (tabL [cv (.slice (some ⟨g66, 0, none⟩) (rs.length + 1) cap67), cv (.int .i64 ((j133 : Nat) : Int)), cv (.pointer (some ⟨b157, o158, none⟩)), cv (.agg (cells y155)), cv (.slice ao rs.length cap), cv (.int .i64 ((j133 : Nat) : Int)), cv (.pointer (some ⟨b164, o165, none⟩)), cv (.agg (cells y162)), cv (.bool false)]) mixedY SM.refl SM.trans SM.drew hA169 (by kernel_rfl) ?_ ?_
      · skip
        have bD174 := below_grow b138 ((Grow.refl w136).drew) b138.size
        refine each_cons (fun x y hS hT hk => d_move (wn rfl) (hT.ev (v := (.slice (some ⟨g66, 0, none⟩) (rs.length + 1) cap67)) rfl) ⟨SM.refl _, rfl⟩) ?_
        refine each_cons (fun x y hS hT hk => d_move (wn rfl) (hT.ev (v := (.int .i64 ((j133 : Nat) : Int))) rfl) ⟨SM.refl _, rfl⟩) ?_
        refine each_cons (fun x y hS hT hk => d_indexAt (j := j133) (wn rfl) (hk 0 rfl) (hk 1 rfl) slc38 hix161 (get_lt hy156) ⟨SM.refl _, rfl⟩) ?_
        refine each_cons (fun x y hS hT hk => d_loadMid (cs := (cells y155)) (wn rfl) (hk 2 rfl) (row28c _) (range_sm (w := w136.drew) hr160 hS (Nat.lt_of_lt_of_le lt159 b138.size) (hM170B _ lt159)) ⟨SM.refl _, rfl⟩) ?_
        refine each_cons (fun x y hS hT hk => d_move (wn rfl) (hT.ev (v := (.slice ao rs.length cap)) rfl) ⟨SM.refl _, rfl⟩) ?_
        refine each_cons (fun x y hS hT hk => d_move (wn rfl) (hT.ev (v := (.int .i64 ((j133 : Nat) : Int))) rfl) ⟨SM.refl _, rfl⟩) ?_
        refine each_cons (fun x y hS hT hk => d_indexAt (j := j133) (wn rfl) (hk 4 rfl) (hk 5 rfl) slc38 hix168 (get_lt hy163) ⟨SM.refl _, rfl⟩) ?_
        refine each_cons (fun x y hS hT hk => d_loadMid (cs := (cells y162)) (wn rfl) (hk 6 rfl) (row28c _) (range_sm (w := w136.drew) hr167 hS (Nat.lt_of_lt_of_le lt166 b138.size) (hM170B _ lt166)) ⟨SM.refl _, rfl⟩) ?_
        refine each_cons (fun x y hS hT hk => d_bin (u := .agg (cells y155)) (v := .agg (cells y162)) (wn rfl) (hk 3 rfl) (hk 7 rfl) (ne_rels y155 y162 _ _ _ false (notof (eqB_of (el_snoc hy156 hy163)))) ⟨SM.refl _, rfl⟩) ?_
        exact each_nil
      intro f175 a176 w177 hS178 hC179 hA180
      have hA181 : St 74 [(0, (.slice ao rs.length cap)), (3, (.slice (some ⟨g66, 0, none⟩) (rs.length + 1) cap67)), (4, (.pointer (some ⟨g82, 0, none⟩))), (5, (.pointer (some ⟨g86, 0, none⟩))), (6, (.pointer (some ⟨g90, 0, none⟩))), (7, (.int .i64 ((j133 : Nat) : Int))), (48, (.bool false))] a176 := hA180.cut _ (fm_cons (hA180.get 0 _ rfl) (fm_cons (hA180.get 3 _ rfl) (fm_cons (hA180.get 4 _ rfl) (fm_cons (hA180.get 5 _ rfl) (fm_cons (hA180.get 6 _ rfl) (fm_cons (hA180.get 7 _ rfl) (fm_cons ((hA180.get 48 _ rfl).trans (hC179 8 (Nat.le_of_ble_eq_true rfl))) fm_nil)))))))
      have m182 := m141.sm hS178 hM171
      have m183 := m142.sm hS178 hM172
      have m184 := m143.sm hS178 hM173
      have b185 := hS178.below b138 b138.size hM170B
      have hr186 := range_sm hr160 hS178 (Nat.lt_of_lt_of_le lt159 b138.size) (hM170B _ lt159)
      have hr187 := range_sm hr167 hS178 (Nat.lt_of_lt_of_le lt166 b138.size) (hM170B _ lt166)
      refine t_norm ?_
      refine c_false hA181 rfl ?_
      refine wp_skip ?_
      refine i_norm ?_
      refine t_norm ?_
      refine wp_region_lit ?_
      refine q_step hA181 rfl (d_move (wn rfl) (hA181.ev (v := (.int .i64 ((j133 : Nat) : Int))) rfl) ?_)
      intro a188 hA189
      refine q_step hA189 rfl (d_bin (wn rfl) (hA189.ev (v := (.int .i64 ((j133 : Nat) : Int))) rfl) (hA189.ev (v := (.int .i64 1)) rfl) (b_add _ _ ((j133 : Nat) : Int) 1 _ (by omega) (by omega)) ?_)
      intro a190 hA191
      refine q_step hA191 rfl (d_assign (wn rfl) (hA191.ev (v := (.int .i64 (((j133 : Nat) : Int) + 1))) rfl) ?_)
      intro a192 hA193
      refine q_end ?_
      refine t_norm ?_
      exact ⟨rs.length - (j133 + 1), (by rw [hm139]; omega), j133 + 1, rfl, (by omega), hA193.cut _ (fm_cons (hA193.get 0 _ rfl) (fm_cons (hA193.get 3 _ rfl) (fm_cons (hA193.get 4 _ rfl) (fm_cons (hA193.get 5 _ rfl) (fm_cons (hA193.get 6 _ rfl) (fm_cons ((hA193.get 7 _ rfl).trans (congrArg (Value.int .i64) (by omega))) fm_nil)))))), b185, m182, m183, m184⟩
    · skip
      have hq194 := of_decide_eq_false hb150
      refine q_step hA149 rfl (d_bin (wn rfl) (hA149.ev (v := (.int .i64 ((j133 : Nat) : Int))) rfl) (hA149.ev (v := (.int .i64 ((rs.length : Nat) : Int))) rfl) (b_lt _ _ ((j133 : Nat) : Int) ((rs.length : Nat) : Int) false _ hb150) ?_)
      intro a195 hA196
      refine q_end ?_
      refine t_norm ?_
      refine c_false hA196 rfl ?_
      refine wp_exit ?_
      refine t_exit ?_
      refine t_exit ?_
      refine i_here ?_
      refine t_norm ?_
      refine wp_seq ?_
      have bD197 := below_grow b138 ((Grow.refl w136).drew) b138.size
      obtain ⟨y198, hy199⟩ : ∃ y198, (rs ++ [sev])[rs.length]? = some y198 := ⟨_, List.getElem?_eq_getElem (show rs.length < (rs ++ [sev]).length by simp <;> omega)⟩
      obtain ⟨b200, o201, lt202, hr203, hix204⟩ := (hs131.below b138).at hy199
      have hA205 : St 74 [(0, (.slice ao rs.length cap)), (3, (.slice (some ⟨g66, 0, none⟩) (rs.length + 1) cap67)), (4, (.pointer (some ⟨g82, 0, none⟩))), (5, (.pointer (some ⟨g86, 0, none⟩))), (6, (.pointer (some ⟨g90, 0, none⟩)))] a195 := hA196.cut _ (fm_cons (hA196.get 0 _ rfl) (fm_cons (hA196.get 3 _ rfl) (fm_cons (hA196.get 4 _ rfl) (fm_cons (hA196.get 5 _ rfl) (fm_cons (hA196.get 6 _ rfl) fm_nil)))))
      let M206 : Nat → Option (Array Value) := fun _ => none
      have hM206 : M206 = fun _ => none := rfl
      clear_value M206
      have hM207 : M206 g82 = none := (congrFun hM206 g82)
      have hM208 : M206 g86 = none := (congrFun hM206 g86)
      have hM209 : M206 g90 = none := (congrFun hM206 g90)
      have hM206B : ∀ k, k < w120.heap.size → M206 k = none := (fun k hk => (congrFun hM206 k))
      refine drawn (S := SM M206) (tabL [cv (.agg (cells (uni rs))), cv (.slice ao rs.length cap), cv (.agg (cells (uni rs))), cv (.bool true), cv (.bool true), cv (.agg (cells (met rs))), cv (.slice ao rs.length cap), cv (.agg (cells (met rs))), cv (.bool true), cv (.bool true), cv (.bool true), cv (.agg (cells (sqs rs))), cv (.slice ao rs.length cap), cv (.agg (cells (sqs rs))), cv (.bool true), cv (.bool true), cv (.bool true), cv (.slice (some ⟨g66, 0, none⟩) (rs.length + 1) cap67), cv (.slice ao rs.length cap), cv (.int .i64 ((rs.length : Nat) : Int)), cv (.pointer (some ⟨b200, o201, none⟩)), cv (.agg (cells y198)), cv (.agg (cells sev)), cv (.bool true), cv (.bool true), cv (.bool true)]) mixedY SM.refl SM.trans SM.drew hA205 (by kernel_rfl) ?_ ?_
      · skip
        have bD210 := below_grow b138 ((Grow.refl w136).drew) b138.size
        refine each_cons (fun x y hS hT hk => d_loadRow (cs := (cells (uni rs))) (wn rfl) (hT.ev (v := (.pointer (some ⟨g82, 0, none⟩))) rfl) (row28c _) (Blk.sm (w := w136.drew) m141 hS hM207) ⟨SM.refl _, rfl⟩) ?_
        refine each_cons (fun x y hS hT hk => d_move (wn rfl) (hT.ev (v := (.slice ao rs.length cap)) rfl) ⟨SM.refl _, rfl⟩) ?_
        refine each_cons (fun x y hS hT hk => d_call (wn rfl) ent22 (map1 (show x.eval _ = (.slice ao rs.length cap) from (hk 1 rfl))) (runi_any rs (.slice ao rs.length cap) y ((hs130.below (hS.below bD197 b138.size hM206B)).mono (Nat.le_trans b138.size hS.size)) (by omega)) (fun _ _ ⟨he, hG⟩ => ⟨(.agg (cells (uni rs))), he, SM.grow hG, rfl⟩)) ?_
        refine each_cons (fun x y hS hT hk => d_bin (u := .agg (cells (uni rs))) (v := .agg (cells (uni rs))) (wn rfl) (hk 0 rfl) (hk 2 rfl) (eq_rels (uni rs) (uni rs) _ _ _ true (eqB_same (uni rs))) ⟨SM.refl _, rfl⟩) ?_
        refine each_cons (fun x y hS hT hk => d_move (wn rfl) (hk 3 rfl) ⟨SM.refl _, rfl⟩) ?_
        refine each_cons (fun x y hS hT hk => d_loadRow (cs := (cells (met rs))) (wy rfl rfl (hk 4 rfl)) (hT.ev (v := (.pointer (some ⟨g86, 0, none⟩))) rfl) (row28c _) (Blk.sm (w := w136.drew) m142 hS hM208) ⟨SM.refl _, rfl⟩) ?_
        refine each_cons (fun x y hS hT hk => d_move (wy rfl rfl (hk 4 rfl)) (hT.ev (v := (.slice ao rs.length cap)) rfl) ⟨SM.refl _, rfl⟩) ?_
        refine each_cons (fun x y hS hT hk => d_call (wy rfl rfl (hk 4 rfl)) ent23 (map1 (show x.eval _ = (.slice ao rs.length cap) from (hk 6 rfl))) (rmet_any rs (.slice ao rs.length cap) y ((hs130.below (hS.below bD197 b138.size hM206B)).mono (Nat.le_trans b138.size hS.size)) (by omega)) (fun _ _ ⟨he, hG⟩ => ⟨(.agg (cells (met rs))), he, SM.grow hG, rfl⟩)) ?_
        refine each_cons (fun x y hS hT hk => d_bin (u := .agg (cells (met rs))) (v := .agg (cells (met rs))) (wy rfl rfl (hk 4 rfl)) (hk 5 rfl) (hk 7 rfl) (eq_rels (met rs) (met rs) _ _ _ true (eqB_same (met rs))) ⟨SM.refl _, rfl⟩) ?_
        refine each_cons (fun x y hS hT hk => d_pickT (wn rfl) (hk 4 rfl) (hk 8 rfl) ⟨SM.refl _, rfl⟩) ?_
        refine each_cons (fun x y hS hT hk => d_move (wn rfl) (hk 9 rfl) ⟨SM.refl _, rfl⟩) ?_
        refine each_cons (fun x y hS hT hk => d_loadRow (cs := (cells (sqs rs))) (wy rfl rfl (hk 10 rfl)) (hT.ev (v := (.pointer (some ⟨g90, 0, none⟩))) rfl) (row28c _) (Blk.sm (w := w136.drew) m143 hS hM209) ⟨SM.refl _, rfl⟩) ?_
        refine each_cons (fun x y hS hT hk => d_move (wy rfl rfl (hk 10 rfl)) (hT.ev (v := (.slice ao rs.length cap)) rfl) ⟨SM.refl _, rfl⟩) ?_
        refine each_cons (fun x y hS hT hk => d_call (wy rfl rfl (hk 10 rfl)) ent24 (map1 (show x.eval _ = (.slice ao rs.length cap) from (hk 12 rfl))) (rseq_any rs (.slice ao rs.length cap) y ((hs130.below (hS.below bD197 b138.size hM206B)).mono (Nat.le_trans b138.size hS.size)) (by omega)) (fun _ _ ⟨he, hG⟩ => ⟨(.agg (cells (sqs rs))), he, SM.grow hG, rfl⟩)) ?_
        refine each_cons (fun x y hS hT hk => d_bin (u := .agg (cells (sqs rs))) (v := .agg (cells (sqs rs))) (wy rfl rfl (hk 10 rfl)) (hk 11 rfl) (hk 13 rfl) (eq_rels (sqs rs) (sqs rs) _ _ _ true (eqB_same (sqs rs))) ⟨SM.refl _, rfl⟩) ?_
        refine each_cons (fun x y hS hT hk => d_pickT (wn rfl) (hk 10 rfl) (hk 14 rfl) ⟨SM.refl _, rfl⟩) ?_
        refine each_cons (fun x y hS hT hk => d_move (wn rfl) (hk 15 rfl) ⟨SM.refl _, rfl⟩) ?_
        refine each_cons (fun x y hS hT hk => d_move (wy rfl rfl (hk 16 rfl)) (hT.ev (v := (.slice (some ⟨g66, 0, none⟩) (rs.length + 1) cap67)) rfl) ⟨SM.refl _, rfl⟩) ?_
        refine each_cons (fun x y hS hT hk => d_move (wy rfl rfl (hk 16 rfl)) (hT.ev (v := (.slice ao rs.length cap)) rfl) ⟨SM.refl _, rfl⟩) ?_
        refine each_cons (fun x y hS hT hk => d_len (n := rs.length) (wy rfl rfl (hk 16 rfl)) (hk 18 rfl) slc38 hs130.form ⟨SM.refl _, rfl⟩) ?_
        refine each_cons (fun x y hS hT hk => d_indexAt (j := rs.length) (wy rfl rfl (hk 16 rfl)) (hk 17 rfl) (hk 19 rfl) slc38 hix204 (get_lt hy199) ⟨SM.refl _, rfl⟩) ?_
        refine each_cons (fun x y hS hT hk => d_loadMid (cs := (cells y198)) (wy rfl rfl (hk 16 rfl)) (hk 20 rfl) (row28c _) (range_sm (w := w136.drew) hr203 hS (Nat.lt_of_lt_of_le lt202 b138.size) (hM206B _ lt202)) ⟨SM.refl _, rfl⟩) ?_
        refine each_cons (fun x y hS hT hk => d_buildArr (wy rfl rfl (hk 16 rfl)) (bp_of (bq_cons (show x.eval _ = .int .u32 7 from (hT.ev (v := (.int .u32 7)) rfl)) bq_nil)) arr28 zero28 sev_fill ⟨SM.refl _, rfl⟩) ?_
        refine each_cons (fun x y hS hT hk => d_bin (u := .agg (cells y198)) (v := .agg (cells sev)) (wy rfl rfl (hk 16 rfl)) (hk 21 rfl) (hk 22 rfl) (eq_rels y198 sev _ _ _ true (eqB_of (el_last hy199))) ⟨SM.refl _, rfl⟩) ?_
        refine each_cons (fun x y hS hT hk => d_pickT (wn rfl) (hk 16 rfl) (hk 23 rfl) ⟨SM.refl _, rfl⟩) ?_
        refine each_cons (fun x y hS hT hk => d_assign (wn rfl) (hk 24 rfl) ⟨SM.refl _, rfl⟩) ?_
        exact each_nil
      intro f211 a212 w213 hS214 hC215 hA216
      have hA217 : St 74 [(2, (.bool true))] a212 := hA216.cut _ (fm_cons ((hA216.get 2 _ rfl).trans (hC215 25 (Nat.le_of_ble_eq_true rfl))) fm_nil)
      have m218 := m141.sm hS214 hM207
      have m219 := m142.sm hS214 hM208
      have m220 := m143.sm hS214 hM209
      have b221 := hS214.below b138 b138.size hM206B
      have hr222 := range_sm hr203 hS214 (Nat.lt_of_lt_of_le lt202 b138.size) (hM206B _ lt202)
      refine t_norm ?_
      refine wp_ret ?_
      refine ret1 rfl hA217 (v := (.bool true)) rfl ?_
      exact ⟨rfl, Grow.trans b125 b221⟩
end Go.Proofs.Ytlbccddhcbcpoaa.En
/- How slices of numbers, of pairs and of relations that are handed in are read. -/
namespace Go.Proofs.Ytlbccddhcbcpoaa.En
set_option linter.unusedSimpArgs false
set_option linter.unusedVariables false
open Go.ChangeShapes Go.WideShapes Go.ChangeAt Go.RowKit Go.Deep

section
variable {H : Type} {enc : TypeId × Value → H} {W : World} {base : Nat} {spare : Nat → Bool} {held : Bool} {base' : Nat}
theorem open_list {α : Type} [Inhabited α] {en : α → List Value} {Q : α → Prop} {t e s : Nat} {v : Value} {d : DataW H} {ps : List MemPlace} (ht : Try.prog.underlying t = some (.slice e)) (hc : Try.prog.cellsOf e = s) (h0 : 0 < s)
    (hel : ∀ cs n x, DataW.trod enc Try.prog W base' spare held n e cs = some x → cs.length = s → ∃ y : α, cs = en y ∧ Q y)
    (hv : Value.okWide Try.prog W .any base t v) (h : DataW.Trod enc Try.prog W base' spare held t v d ps) :
    ∃ (ao : Option Addr) (l : List α) (cap : Nat), v = .slice ao l.length cap ∧ l.length ≤ maxLen ∧ Sl en s W.heap.size W v l ∧ ∀ y ∈ l, Q y := by
  obtain ⟨a0, len0, cap0, rfl⟩ := okWide_slice ht hv
  obtain ⟨fuel, hf⟩ := h
  rcases open_slice ht hf with ⟨hcs, _⟩ | ⟨a, len, cap, m, n, D, Pl, hcs, hb, hl, hm, hmm, _, hx⟩
  · simp [Value.cells] at hcs
    obtain ⟨rfl, rfl, rfl⟩ := hcs
    exact ⟨none, [], 0, rfl, by simp, Sl.nil, fun y hy => by cases hy⟩
  · simp [Value.cells] at hcs
    obtain ⟨rfl, rfl, rfl⟩ := hcs
    have hlm : len0 ≤ m := by rw [hmm]; split <;> omega
    rw [hc] at hx
    obtain ⟨Y, hY⟩ := choose_lt (α := α) (n := len0) (p := fun i y => Q y ∧ (en y).length = s ∧ ∀ k, k < s → W.cell? ((a.add (i * s)).add k) = (en y)[k]?) (fun i hi => by
      obtain ⟨cs', h1, h2⟩ := hx i (by omega)
      obtain ⟨_, hlen, hcell⟩ := World.cells?_some h1
      obtain ⟨y, rfl, hq⟩ := hel cs' n _ h2 hlen
      exact ⟨y, hq, hlen, hcell⟩)
    have hlen : ((List.range len0).map Y).length = len0 := by simp
    refine ⟨some a, (List.range len0).map Y, cap0, by rw [hlen], by rw [hlen]; omega, ⟨some a, cap0, by rw [hlen], by rw [hlen]; exact hl, fun j x hj => ?_⟩, fun y hy => ?_⟩
    · have hjl : j < len0 := by have := (List.getElem?_eq_some_iff.1 hj).1; simpa using this
      have hxe : x = Y j := by simp [hjl] at hj; exact hj.symm
      subst hxe
      obtain ⟨_, hyl, hcell⟩ := hY j hjl
      obtain ⟨b, o, spot⟩ := a
      obtain ⟨_, hy0, hcell0⟩ := hY 0 (by omega)
      have h00 := hcell0 0 h0
      rw [List.getElem?_eq_getElem (by omega)] at h00
      have hspot : spot = none := by simpa [Addr.add] using World.cell?_spot h00
      subst hspot
      refine ⟨b, o, rfl, ?_, fun k u hu => ?_⟩
      · have := World.block_lt_of_cell? W _ h00
        rw [Addr.add_mid, Addr.add_mid] at this
        exact this
      · have hk : k < s := by have := (List.getElem?_eq_some_iff.1 hu).1; omega
        have := hcell k hk
        rw [hu, Addr.add_mid, Addr.add_mid] at this
        exact this
    · obtain ⟨i, hi, rfl⟩ := List.mem_map.1 hy
      exact (hY i (by simpa using hi)).1
theorem int_cells : Try.prog.cellsOf 3 = 1 := by kernel_rfl
theorem take_one {l : List Value} {k : Nat} {v : Value} (h : (l.drop k).take 1 = [v]) : l[k]? = some v := by
  have := congrArg (fun l => l[0]?) h
  simpa using this
theorem open_intL (cs : List Value) (n : Nat) (x : DataW H × List MemPlace) (h : DataW.trod enc Try.prog W base' spare held n 3 cs = some x) (_ : cs.length = 1) : ∃ y : Int, cs = intE y ∧ True := by
  obtain ⟨m, h2, _, h3⟩ := DataW.trod_int Try.underlying3 h
  exact ⟨m, h2, trivial⟩
theorem und_pair : Try.prog.underlying 29 = some (.array 2 3) := by kernel_rfl
theorem open_pairL (cs : List Value) (n : Nat) (x : DataW H × List MemPlace) (hf : DataW.trod enc Try.prog W base' spare held n 29 cs = some x) (hl : cs.length = 2) : ∃ y : Int × Int, cs = pairE y ∧ True := by
  obtain ⟨xs, m, _, _, _, hxl, hx⟩ := DataW.trod_array und_pair hf
  have each : ∀ i, i < 2 → ∃ z : Int, cs[i]? = some (.int .i64 z) := fun i hi => by
    have h1 := hx i hi
    rw [int_cells] at h1
    have hxi : i < xs.length := by omega
    rw [List.getElem?_eq_getElem hxi] at h1
    obtain ⟨n, h2, _, _⟩ := DataW.trod_int Try.underlying3 h1
    refine ⟨n, take_one ?_⟩
    rw [Nat.mul_one] at h2
    exact h2
  obtain ⟨a, ha⟩ := each 0 (by omega)
  obtain ⟨b, hb⟩ := each 1 (by omega)
  refine ⟨(a, b), ?_, trivial⟩
  match cs, hl, ha, hb with
  | [u, v], _, ha, hb => simp at ha hb; subst ha; subst hb; rfl
end
end Go.Proofs.Ytlbccddhcbcpoaa.En
/- How a slice of relations that is handed in is read. -/
namespace Go.Proofs.Ytlbccddhcbcpoaa.En
set_option linter.unusedSimpArgs false
set_option linter.unusedVariables false
open Go.ChangeShapes Go.WideShapes Go.ChangeAt Go.RowKit Go.Deep

section
variable {H : Type} {enc : TypeId × Value → H} {W : World} {base : Nat} {spare : Nat → Bool} {held : Bool} {base' : Nat}
theorem open_relL (cs : List Value) (n : Nat) (x : DataW H × List MemPlace) (hf : DataW.trod enc Try.prog W base' spare held n 28 cs = some x) (hl : cs.length = 32) : ∃ r : Rl, cs = relE r ∧ True := by
  obtain ⟨xs, m, _, _, _, hxl, hx⟩ := DataW.trod_array und_rel hf
  obtain ⟨r, hr⟩ := rel_of_cells cs.toArray (by simpa using hl) (fun i hi => by
    have h1 := hx i hi
    rw [cells_of_set] at h1
    have hxi : i < xs.length := by omega
    rw [List.getElem?_eq_getElem hxi] at h1
    obtain ⟨n, h2, _, hwf⟩ := DataW.trod_int Try.underlying25 h1
    obtain ⟨x, rfl⟩ := U_of_wf hwf
    refine ⟨x, ?_⟩
    rw [Nat.mul_one] at h2
    have h3 := take_one h2
    simpa using h3)
  refine ⟨r, ?_, trivial⟩
  unfold relE
  rw [← hr]
end
end Go.Proofs.Ytlbccddhcbcpoaa.En
