/- able returns true. -/
import Derived.Test.YtlhompedcphnnaaUAble1
namespace Go.Proofs.Ytlhompedcphnnaa
open Go.RowKit
set_option linter.unusedSimpArgs false
set_option linter.unusedVariables false
theorem elm35 : elemB Try.prog 35 23 17 120 = true := by kernel_rfl
theorem ent18 : ((Try.prog.funcs[18]?).map fun fn => (fn.name == "runtime.NumGoroutine", fn.body.isNone)) = some (false, false) := by kernel_rfl
theorem ent26 : ((Try.prog.funcs[26]?).map fun fn => (fn.name == "runtime.NumGoroutine", fn.body.isNone)) = some (false, false) := by kernel_rfl
theorem fo50_1 : fieldOff Try.prog 50 1 = some 1 := by kernel_rfl
theorem slc44 : sliceB Try.prog 44 52 15 = true := by kernel_rfl
theorem able_wf : ∀ i ∈ [cI, sI], wfI i.imm ∧ wfI i.off := by
  intro i hi
  have h5 : wfI 5 := by unfold wfI; decide +kernel
  simp at hi
  rcases hi with rfl | rfl
  · exact ⟨h5, wf_0⟩
  · exact ⟨wf_0, wf_0⟩
set_option maxHeartbeats 8000000 in
set_option maxRecDepth 4000 in
theorem able_any (w : World) : Calls Try.prog 8 #[] w fun e w' => e = .returned (.bool true) ∧ Grow w w' := by
  have b0 : Below w.heap.size w w := Below.refl _ _
  refine enter (n := 74) Try.func8 rfl rfl (Nat.le_of_ble_eq_true rfl) ?_
  intro a1 hA2
  refine wp_seq ?_
  refine wp_region_lit ?_
  refine q_step hA2 rfl (d_assign (wn rfl) (hA2.ev (v := (.bool false)) rfl) ?_)
  intro a3 hA4
  refine q_end ?_
  have hA5 : St 74 [(0, (.bool false))] a3 := hA4.cut _ (fm_cons (hA4.get 0 _ rfl) fm_nil)
  refine t_norm ?_
  refine wp_seq ?_
  refine wp_region_lit ?_
  refine q_step hA5 rfl (d_build (cs := #[.int .i64 1, .int .i64 1, .int .i64 (-1), .int .i64 (-1), .int .i64 5, .int .i64 0, .int .i64 0, .int .i64 (-1), .int .i64 0, .int .i64 0, .bool false, .bool false, .bool false, .int .i64 0, .int .i64 0, .int .i64 0, .bool false]) (wn rfl) (bp_of (bq_cons (hA5.ev (v := (.int .i64 1)) rfl) (bq_cons (hA5.ev (v := (.int .i64 1)) rfl) (bq_cons (hA5.ev (v := (.int .i64 (-1))) rfl) (bq_cons (hA5.ev (v := (.int .i64 (-1))) rfl) (bq_cons (hA5.ev (v := (.int .i64 5)) rfl) (bq_cons (hA5.ev (v := (.int .i64 (-1))) rfl) bq_nil))))))) zero23 places23 (by kernel_rfl) ?_)
  intro a6 hA7
  refine q_step hA7 rfl (d_build (cs := #[.int .i64 5, .int .i64 (-1), .int .i64 1, .int .i64 (-1), .int .i64 0, .int .i64 0, .int .i64 0, .int .i64 (-1), .int .i64 8, .int .i64 0, .bool false, .bool false, .bool false, .int .i64 0, .int .i64 0, .int .i64 0, .bool false]) (wn rfl) (bp_of (bq_cons (hA7.ev (v := (.int .i64 5)) rfl) (bq_cons (hA7.ev (v := (.int .i64 (-1))) rfl) (bq_cons (hA7.ev (v := (.int .i64 1)) rfl) (bq_cons (hA7.ev (v := (.int .i64 (-1))) rfl) (bq_cons (hA7.ev (v := (.int .i64 (-1))) rfl) (bq_cons (hA7.ev (v := (.int .i64 8)) rfl) bq_nil))))))) zero23 places23 (by kernel_rfl) ?_)
  intro a8 hA9
  refine q_step hA9 rfl (d_sliceK (cs := two cI sI) (wn rfl) (bp_of (bq_cons (hA9.ev (v := (.agg #[.int .i64 1, .int .i64 1, .int .i64 (-1), .int .i64 (-1), .int .i64 5, .int .i64 0, .int .i64 0, .int .i64 (-1), .int .i64 0, .int .i64 0, .bool false, .bool false, .bool false, .int .i64 0, .int .i64 0, .int .i64 0, .bool false])) rfl) (bq_cons (hA9.ev (v := (.agg #[.int .i64 5, .int .i64 (-1), .int .i64 1, .int .i64 (-1), .int .i64 0, .int .i64 0, .int .i64 0, .int .i64 (-1), .int .i64 8, .int .i64 0, .bool false, .bool false, .bool false, .int .i64 0, .int .i64 0, .int .i64 0, .bool false])) rfl) bq_nil))) elm35 (by decide) (by decide) (by kernel_rfl) ?_)
  intro g10 w11 eg12 hG13 (m14 : Blk w11 g10 (two cI sI) 23)
  have ge15 : w.heap.size ≤ g10 := eg12 ▸ b0.size
  have b16 := below_grow b0 hG13 b0.size
  intro a17 hA18
  refine q_step hA18 rfl (d_assign (wn rfl) (hA18.ev (v := (.slice (some ⟨g10, 0, none⟩) 2 2)) rfl) ?_)
  intro a19 hA20
  refine q_end ?_
  have hA21 : St 74 [(0, (.bool false)), (1, (.slice (some ⟨g10, 0, none⟩) 2 2))] a19 := hA20.cut _ (fm_cons (hA20.get 0 _ rfl) (fm_cons (hA20.get 1 _ rfl) fm_nil))
  refine t_norm ?_
  refine wp_seq ?_
  refine wp_region_lit ?_
  refine q_step hA21 rfl (d_move (wn rfl) (hA21.ev (v := (.slice (some ⟨g10, 0, none⟩) 2 2)) rfl) ?_)
  intro a22 hA23
  refine q_step hA23 rfl (d_buildZ (wn rfl) arr43 zero43 ?_)
  intro a24 hA25
  refine q_step hA25 rfl (d_call (wn rfl) ent26 (map3 (hA25.ev (v := (.slice (some ⟨g10, 0, none⟩) 2 2)) rfl) (hA25.ev (v := (.agg (regsC fun _ => 0))) rfl) (hA25.ev (v := (.slice none 0 0)) rfl)) (local_any [cI, sI] [] (some ⟨g10, 0, none⟩) none 2 0 (fun _ => 0) w11 (sl_two m14) Sl.nil (by decide) (fun _ => wf_0) able_wf (fun z h => by cases h)) ?_)
  rintro e29 w26 ⟨hG27, hp34⟩
  rw [if_pos able_check] at hp34
  have hrun : runW [cI, sI] [cI, sI].length ⟨((0 : Nat) : Int), fun _ => 0, [], [], []⟩ = some s1 := able_run
  rw [hrun] at hp34
  obtain ⟨ev30, pa31, he28, hev32, hpa33⟩ := hp34
  have m35 := m14.grow hG27
  have b36 := below_grow b16 hG27 b16.size
  refine ⟨(.tuple #[(.agg (regsC s1.r)), ev30, pa31, (.int .i64 0)]), he28, ?_⟩
  intro a37 hA38
  refine q_step hA38 rfl (d_move (wn rfl) (hA38.ev (v := (.tuple #[(.agg (regsC s1.r)), ev30, pa31, (.int .i64 0)])) rfl) ?_)
  intro a39 hA40
  refine q_step hA40 rfl (d_extract (v := (.agg (regsC s1.r))) (wn rfl) (hA40.ev (v := (.tuple #[(.agg (regsC s1.r)), ev30, pa31, (.int .i64 0)])) rfl) rfl ?_)
  intro a41 hA42
  refine q_step hA42 rfl (d_extract (v := ev30) (wn rfl) (hA42.ev (v := (.tuple #[(.agg (regsC s1.r)), ev30, pa31, (.int .i64 0)])) rfl) rfl ?_)
  intro a43 hA44
  refine q_step hA44 rfl (d_extract (v := pa31) (wn rfl) (hA44.ev (v := (.tuple #[(.agg (regsC s1.r)), ev30, pa31, (.int .i64 0)])) rfl) rfl ?_)
  intro a45 hA46
  refine q_step hA46 rfl (d_extract (v := (.int .i64 0)) (wn rfl) (hA46.ev (v := (.tuple #[(.agg (regsC s1.r)), ev30, pa31, (.int .i64 0)])) rfl) rfl ?_)
  intro a47 hA48
  refine q_step hA48 rfl (d_alloc (wn rfl) zero43 ?_)
  intro g49 w50 eg51 hG52 (m53 : Blk w50 g49 #[.int .i64 0, .int .i64 0, .int .i64 0, .int .i64 0, .int .i64 0, .int .i64 0, .int .i64 0, .int .i64 0] 43)
  have ge54 : w.heap.size ≤ g49 := eg51 ▸ b36.size
  have n55 : g10 ≠ g49 := fun h => Nat.lt_irrefl _ ((h.trans eg51) ▸ m35.lt)
  have off56 := own_new hev32 eg51
  have off57 := own_new hpa33 eg51
  have m58 := m35.grow hG52
  have b59 := below_grow b36 hG52 b36.size
  have ho60 := own_grow hG52 hev32
  have ho61 := own_grow hG52 hpa33
  intro a62 hA63
  refine q_step hA63 rfl (d_storeRow (wn rfl) (hA63.ev (v := (.pointer (some ⟨g49, 0, none⟩))) rfl) (hA63.ev (v := (.agg (regsC s1.r))) rfl) row43 m53 rfl rfl ?_)
  intro w64 hU65 (m66 : Blk w64 g49 (regsC s1.r) 43)
  have m67 := m58.upd hU65 n55
  have b68 := hU65.below b59 ge54
  have ho69 := own_upd ho60 hU65 off56
  have ho70 := own_upd ho61 hU65 off57
  intro a71 hA72
  refine q_step hA72 rfl (d_assign (wn rfl) (hA72.ev (v := ev30) rfl) ?_)
  intro a73 hA74
  refine q_step hA74 rfl (d_assign (wn rfl) (hA74.ev (v := pa31) rfl) ?_)
  intro a75 hA76
  refine q_step hA76 rfl (d_assign (wn rfl) (hA76.ev (v := (.int .i64 0)) rfl) ?_)
  intro a77 hA78
  refine q_end ?_
  have hA79 : St 74 [(0, (.bool false)), (1, (.slice (some ⟨g10, 0, none⟩) 2 2)), (2, (.pointer (some ⟨g49, 0, none⟩))), (3, ev30), (4, pa31), (5, (.int .i64 0))] a77 := hA78.cut _ (fm_cons (hA78.get 0 _ rfl) (fm_cons (hA78.get 1 _ rfl) (fm_cons (hA78.get 2 _ rfl) (fm_cons (hA78.get 3 _ rfl) (fm_cons (hA78.get 4 _ rfl) (fm_cons (hA78.get 5 _ rfl) fm_nil))))))
  refine t_norm ?_
  refine wp_seq ?_
  refine wp_region_lit ?_
  refine q_step hA79 rfl (d_call (wn rfl) ent20 (map1 (hA79.ev (v := (.slice none 0 0)) rfl)) (check_any [] (.slice none 0 0) w64 (cs_nil _ _) (by decide) (by decide)) ?_)
  rintro e83 w80 ⟨he82, hG81⟩
  have m84 := m67.grow hG81
  have m85 := m66.grow hG81
  have b86 := below_grow b68 hG81 b68.size
  have ho87 := own_grow hG81 ho69
  have ho88 := own_grow hG81 ho70
  refine ⟨(.tuple #[(.int .i64 ((checkR []).1)), (.int .i64 ((checkR []).2.1)), (.int .i64 ((checkR []).2.2))]), he82, ?_⟩
  intro a89 hA90
  refine q_step hA90 rfl (d_move (wn rfl) (hA90.ev (v := (.tuple #[(.int .i64 ((checkR []).1)), (.int .i64 ((checkR []).2.1)), (.int .i64 ((checkR []).2.2))])) rfl) ?_)
  intro a91 hA92
  refine q_step hA92 rfl (d_extract (v := (.int .i64 ((checkR []).1))) (wn rfl) (hA92.ev (v := (.tuple #[(.int .i64 ((checkR []).1)), (.int .i64 ((checkR []).2.1)), (.int .i64 ((checkR []).2.2))])) rfl) rfl ?_)
  intro a93 hA94
  refine q_step hA94 rfl (d_extract (v := (.int .i64 ((checkR []).2.1))) (wn rfl) (hA94.ev (v := (.tuple #[(.int .i64 ((checkR []).1)), (.int .i64 ((checkR []).2.1)), (.int .i64 ((checkR []).2.2))])) rfl) rfl ?_)
  intro a95 hA96
  refine q_step hA96 rfl (d_extract (v := (.int .i64 ((checkR []).2.2))) (wn rfl) (hA96.ev (v := (.tuple #[(.int .i64 ((checkR []).1)), (.int .i64 ((checkR []).2.1)), (.int .i64 ((checkR []).2.2))])) rfl) rfl ?_)
  intro a97 hA98
  refine q_step hA98 rfl (d_assign (wn rfl) (hA98.ev (v := (.int .i64 ((checkR []).1))) rfl) ?_)
  intro a99 hA100
  refine q_step hA100 rfl (d_assign (wn rfl) (hA100.ev (v := (.int .i64 ((checkR []).2.1))) rfl) ?_)
  intro a101 hA102
  refine q_step hA102 rfl (d_assign (wn rfl) (hA102.ev (v := (.int .i64 ((checkR []).2.2))) rfl) ?_)
  intro a103 hA104
  refine q_end ?_
  have hA105 : St 74 [(0, (.bool false)), (1, (.slice (some ⟨g10, 0, none⟩) 2 2)), (2, (.pointer (some ⟨g49, 0, none⟩))), (3, ev30), (4, pa31), (5, (.int .i64 0)), (8, (.int .i64 ((checkR []).2.2)))] a103 := hA104.cut _ (fm_cons (hA104.get 0 _ rfl) (fm_cons (hA104.get 1 _ rfl) (fm_cons (hA104.get 2 _ rfl) (fm_cons (hA104.get 3 _ rfl) (fm_cons (hA104.get 4 _ rfl) (fm_cons (hA104.get 5 _ rfl) (fm_cons (hA104.get 8 _ rfl) fm_nil)))))))
  refine t_norm ?_
  refine wp_seq ?_
  refine wp_region_lit ?_
  refine q_step hA105 rfl (d_move (wn rfl) (hA105.ev (v := (.int .i64 0)) rfl) ?_)
  intro a106 hA107
  refine q_step hA107 rfl (d_bin (wn rfl) (hA107.ev (v := (.int .i64 0)) rfl) (hA107.ev (v := (.int .i64 0)) rfl) (b_eq _ _ 0 0 true _ rfl) ?_)
  intro a108 hA109
  refine q_step hA109 rfl (d_move (wn rfl) (hA109.ev (v := (.bool true)) rfl) ?_)
  intro a110 hA111
  refine q_step hA111 rfl (d_indexArrP (j := 1) (p := 1) (wy rfl rfl (hA111.get 27 _ rfl)) (hA111.ev (v := (.pointer (some ⟨g49, 0, none⟩))) rfl) (hA111.ev (v := (.int .i64 1)) rfl) arr43 (by decide) (by decide) ?_)
  intro a112 hA113
  refine q_step hA113 rfl (d_load (v := (.int .i64 (s1.r 1))) (wy rfl rfl (hA113.get 27 _ rfl)) (hA113.ev (v := (.pointer (some ⟨g49, 1, none⟩))) rfl) one3 (m85.cell rfl) ?_)
  intro a114 hA115
  refine q_step hA115 rfl (d_bin (wy rfl rfl (hA115.get 27 _ rfl)) (hA115.ev (v := (.int .i64 (s1.r 1))) rfl) (hA115.ev (v := (.int .i64 5)) rfl) (b_eq _ _ (s1.r 1) 5 true _ able_r) ?_)
  intro a116 hA117
  refine q_step hA117 rfl (d_pickT (wn rfl) (hA117.ev (v := (.bool true)) rfl) (hA117.ev (v := (.bool true)) rfl) ?_)
  intro a118 hA119
  refine q_step hA119 rfl (d_move (wn rfl) (hA119.ev (v := (.bool true)) rfl) ?_)
  intro a120 hA121
  refine q_step hA121 rfl (d_move (wy rfl rfl (hA121.get 32 _ rfl)) (hA121.ev (v := ev30) rfl) ?_)
  intro a122 hA123
  refine q_step hA123 rfl (d_len (n := s1.evs.length) (wy rfl rfl (hA123.get 32 _ rfl)) (hA123.ev (v := ev30) rfl) slc44 (own_form ho87) ?_)
  intro a124 hA125
  refine q_step hA125 rfl (d_bin (wy rfl rfl (hA125.get 32 _ rfl)) (hA125.ev (v := (.int .i64 ((s1.evs.length : Nat) : Int))) rfl) (hA125.ev (v := (.int .i64 1)) rfl) (b_eq _ _ ((s1.evs.length : Nat) : Int) 1 true _ able_e1) ?_)
  intro a126 hA127
  refine q_step hA127 rfl (d_pickT (wn rfl) (hA127.ev (v := (.bool true)) rfl) (hA127.ev (v := (.bool true)) rfl) ?_)
  intro a128 hA129
  refine q_step hA129 rfl (d_move (wn rfl) (hA129.ev (v := (.bool true)) rfl) ?_)
  intro a130 hA131
  refine q_step hA131 rfl (d_move (wy rfl rfl (hA131.get 37 _ rfl)) (hA131.ev (v := ev30) rfl) ?_)
  intro a132 hA133
  obtain ⟨y134, hy135⟩ : ∃ y134, s1.evs[0]? = some y134 := ⟨_, List.getElem?_eq_getElem (show 0 < s1.evs.length by rw [able_e]; decide)⟩
  obtain ⟨b136, o137, lt138, hr139, hix140⟩ := (own_sl ho87).at hy135
  refine q_step hA133 rfl (d_indexAt (j := 0) (wy rfl rfl (hA133.get 37 _ rfl)) (hA133.ev (v := ev30) rfl) (hA133.ev (v := (.int .i64 0)) rfl) slc44 hix140 (get_lt hy135) ?_)
  intro a141 hA142
  refine q_step hA142 rfl (d_fieldAddr (wy rfl rfl (hA142.get 37 _ rfl)) (hA142.ev (v := (.pointer (some ⟨b136, o137, none⟩))) rfl) fo52_8 ?_)
  intro a143 hA144
  refine q_step hA144 rfl (d_load (v := (.int .i64 y134.new_)) (wy rfl rfl (hA144.get 37 _ rfl)) (hA144.ev (v := (.pointer (some ⟨b136, o137 + 9, none⟩))) rfl) one3 (hr139 9 _ rfl) ?_)
  intro a145 hA146
  refine q_step hA146 rfl (d_bin (wy rfl rfl (hA146.get 37 _ rfl)) (hA146.ev (v := (.int .i64 y134.new_)) rfl) (hA146.ev (v := (.int .i64 5)) rfl) (b_eq _ _ y134.new_ 5 true _ (by have h := able_ev; rw [hy135] at h; simp at h; simp [h])) ?_)
  intro a147 hA148
  refine q_step hA148 rfl (d_pickT (wn rfl) (hA148.ev (v := (.bool true)) rfl) (hA148.ev (v := (.bool true)) rfl) ?_)
  intro a149 hA150
  refine q_step hA150 rfl (d_move (wn rfl) (hA150.ev (v := (.bool true)) rfl) ?_)
  intro a151 hA152
  refine q_step hA152 rfl (d_move (wy rfl rfl (hA152.get 44 _ rfl)) (hA152.ev (v := ev30) rfl) ?_)
  intro a153 hA154
  refine q_step hA154 rfl (d_indexAt (j := 0) (wy rfl rfl (hA154.get 44 _ rfl)) (hA154.ev (v := ev30) rfl) (hA154.ev (v := (.int .i64 0)) rfl) slc44 hix140 (get_lt hy135) ?_)
  intro a155 hA156
  refine q_step hA156 rfl (d_fieldAddr (wy rfl rfl (hA156.get 44 _ rfl)) (hA156.ev (v := (.pointer (some ⟨b136, o137, none⟩))) rfl) fo52_4 ?_)
  intro a157 hA158
  refine q_step hA158 rfl (d_fieldAddr (wy rfl rfl (hA158.get 44 _ rfl)) (hA158.ev (v := (.pointer (some ⟨b136, o137 + 4, none⟩))) rfl) fo50_1 ?_)
  intro a159 hA160
  refine q_step hA160 rfl (d_load (v := (.int .i64 y134.mask)) (wy rfl rfl (hA160.get 44 _ rfl)) (hA160.ev (v := (.pointer (some ⟨b136, o137 + 5, none⟩))) rfl) one3 (hr139 5 _ rfl) ?_)
  intro a161 hA162
  refine q_step hA162 rfl (d_bin (wy rfl rfl (hA162.get 44 _ rfl)) (hA162.ev (v := (.int .i64 y134.mask)) rfl) (hA162.ev (v := (.int .i64 255)) rfl) (b_eq _ _ y134.mask 255 true _ (by have h := able_ev; rw [hy135] at h; simp at h; simp [h])) ?_)
  intro a163 hA164
  refine q_step hA164 rfl (d_pickT (wn rfl) (hA164.ev (v := (.bool true)) rfl) (hA164.ev (v := (.bool true)) rfl) ?_)
  intro a165 hA166
  refine q_step hA166 rfl (d_move (wn rfl) (hA166.ev (v := (.bool true)) rfl) ?_)
  intro a167 hA168
  refine q_step hA168 rfl (d_move (wy rfl rfl (hA168.get 52 _ rfl)) (hA168.ev (v := pa31) rfl) ?_)
  intro a169 hA170
  refine q_step hA170 rfl (d_len (n := s1.path.length) (wy rfl rfl (hA170.get 52 _ rfl)) (hA170.ev (v := pa31) rfl) slc30 (own_form ho88) ?_)
  intro a171 hA172
  refine q_step hA172 rfl (d_bin (wy rfl rfl (hA172.get 52 _ rfl)) (hA172.ev (v := (.int .i64 ((s1.path.length : Nat) : Int))) rfl) (hA172.ev (v := (.int .i64 2)) rfl) (b_eq _ _ ((s1.path.length : Nat) : Int) 2 true _ able_p1) ?_)
  intro a173 hA174
  refine q_step hA174 rfl (d_pickT (wn rfl) (hA174.ev (v := (.bool true)) rfl) (hA174.ev (v := (.bool true)) rfl) ?_)
  intro a175 hA176
  refine q_step hA176 rfl (d_move (wn rfl) (hA176.ev (v := (.bool true)) rfl) ?_)
  intro a177 hA178
  refine q_step hA178 rfl (d_move (wy rfl rfl (hA178.get 57 _ rfl)) (hA178.ev (v := (.int .i64 ((checkR []).2.2))) rfl) ?_)
  intro a179 hA180
  refine q_step hA180 rfl (d_bin (wy rfl rfl (hA180.get 57 _ rfl)) (hA180.ev (v := (.int .i64 ((checkR []).2.2))) rfl) (hA180.ev (v := (.int .i64 0)) rfl) (b_ne _ _ ((checkR []).2.2) 0 true _ (notof able_n1)) ?_)
  intro a181 hA182
  refine q_step hA182 rfl (d_pickT (wn rfl) (hA182.ev (v := (.bool true)) rfl) (hA182.ev (v := (.bool true)) rfl) ?_)
  intro a183 hA184
  refine q_step hA184 rfl (d_move (wn rfl) (hA184.ev (v := (.bool true)) rfl) ?_)
  intro a185 hA186
  refine q_step hA186 rfl (d_move (wy rfl rfl (hA186.get 61 _ rfl)) (hA186.ev (v := (.slice (some ⟨g10, 0, none⟩) 2 2)) rfl) ?_)
  intro a187 hA188
  refine q_step hA188 rfl (d_indexAt (n := 2) (j := 1) (b := g10) (o := 17) (wy rfl rfl (hA188.get 61 _ rfl)) (hA188.ev (v := (.slice (some ⟨g10, 0, none⟩) 2 2)) rfl) (hA188.ev (v := (.int .i64 1)) rfl) slc35 ⟨0, 2, rfl, rfl⟩ (by decide) ?_)
  intro a189 hA190
  refine q_step hA190 rfl (d_loadMid (cs := (insC sI)) (wy rfl rfl (hA190.get 61 _ rfl)) (hA190.ev (v := (.pointer (some ⟨g10, 17, none⟩))) rfl) row23 (two_range m84).2 ?_)
  intro a191 hA192
  refine q_step hA192 rfl (d_call (wy rfl rfl (hA192.get 61 _ rfl)) ent13 (map1 (hA192.ev (v := (.agg (insC sI))) rfl)) (writes_any sI w80) ?_)
  rintro e196 w193 ⟨he195, hG194⟩
  have m197 := m84.grow hG194
  have m198 := m85.grow hG194
  have hr199 := range_below hr139 hG194 lt138
  have lt200 := Nat.lt_of_lt_of_le lt138 hG194.size
  have b201 := below_grow b86 hG194 b86.size
  have ho202 := own_grow hG194 ho87
  have ho203 := own_grow hG194 ho88
  refine ⟨(.bool (wrB sI)), he195, ?_⟩
  intro a204 hA205
  refine q_step hA205 rfl (d_pickT (wn rfl) (hA205.ev (v := (.bool true)) rfl) (hA205.ev (v := (.bool (wrB sI))) rfl) ?_)
  intro a206 hA207
  refine q_step hA207 rfl (d_move (wn rfl) (hA207.ev (v := (.bool (wrB sI))) rfl) ?_)
  intro a208 hA209
  have hA210 : St 74 [(0, (.bool false)), (1, (.slice (some ⟨g10, 0, none⟩) 2 2)), (2, (.pointer (some ⟨g49, 0, none⟩))), (3, ev30), (4, pa31), (5, (.int .i64 0)), (8, (.int .i64 ((checkR []).2.2))), (25, (.int .i64 0)), (26, (.bool true)), (27, (.bool true)), (28, (.pointer (some ⟨g49, 1, none⟩))), (29, (.int .i64 (s1.r 1))), (30, (.bool true)), (31, (.bool true)), (32, (.bool true)), (33, ev30), (34, (.int .i64 ((s1.evs.length : Nat) : Int))), (35, (.bool true)), (36, (.bool true)), (37, (.bool true)), (38, ev30), (39, (.pointer (some ⟨b136, o137, none⟩))), (40, (.pointer (some ⟨b136, o137 + 9, none⟩))), (41, (.int .i64 y134.new_)), (42, (.bool true)), (43, (.bool true)), (44, (.bool true)), (45, ev30), (46, (.pointer (some ⟨b136, o137, none⟩))), (47, (.pointer (some ⟨b136, o137 + 4, none⟩))), (48, (.pointer (some ⟨b136, o137 + 5, none⟩))), (49, (.int .i64 y134.mask)), (50, (.bool true)), (51, (.bool true)), (52, (.bool true)), (53, pa31), (54, (.int .i64 ((s1.path.length : Nat) : Int))), (55, (.bool true)), (56, (.bool true)), (57, (.bool true)), (58, (.int .i64 ((checkR []).2.2))), (59, (.bool true)), (60, (.bool true)), (61, (.bool true)), (62, (.slice (some ⟨g10, 0, none⟩) 2 2)), (63, (.pointer (some ⟨g10, 17, none⟩))), (64, (.agg (insC sI))), (65, (.bool (wrB sI))), (66, (.bool (wrB sI))), (67, (.bool true))] a208 := hA209.cut _ (fm_cons (hA209.get 0 _ rfl) (fm_cons (hA209.get 1 _ rfl) (fm_cons (hA209.get 2 _ rfl) (fm_cons (hA209.get 3 _ rfl) (fm_cons (hA209.get 4 _ rfl) (fm_cons (hA209.get 5 _ rfl) (fm_cons (hA209.get 8 _ rfl) (fm_cons (hA209.get 25 _ rfl) (fm_cons (hA209.get 26 _ rfl) (fm_cons (hA209.get 27 _ rfl) (fm_cons (hA209.get 28 _ rfl) (fm_cons (hA209.get 29 _ rfl) (fm_cons (hA209.get 30 _ rfl) (fm_cons (hA209.get 31 _ rfl) (fm_cons (hA209.get 32 _ rfl) (fm_cons (hA209.get 33 _ rfl) (fm_cons (hA209.get 34 _ rfl) (fm_cons (hA209.get 35 _ rfl) (fm_cons (hA209.get 36 _ rfl) (fm_cons (hA209.get 37 _ rfl) (fm_cons (hA209.get 38 _ rfl) (fm_cons (hA209.get 39 _ rfl) (fm_cons (hA209.get 40 _ rfl) (fm_cons (hA209.get 41 _ rfl) (fm_cons (hA209.get 42 _ rfl) (fm_cons (hA209.get 43 _ rfl) (fm_cons (hA209.get 44 _ rfl) (fm_cons (hA209.get 45 _ rfl) (fm_cons (hA209.get 46 _ rfl) (fm_cons (hA209.get 47 _ rfl) (fm_cons (hA209.get 48 _ rfl) (fm_cons (hA209.get 49 _ rfl) (fm_cons (hA209.get 50 _ rfl) (fm_cons (hA209.get 51 _ rfl) (fm_cons (hA209.get 52 _ rfl) (fm_cons (hA209.get 53 _ rfl) (fm_cons (hA209.get 54 _ rfl) (fm_cons (hA209.get 55 _ rfl) (fm_cons (hA209.get 56 _ rfl) (fm_cons (hA209.get 57 _ rfl) (fm_cons (hA209.get 58 _ rfl) (fm_cons (hA209.get 59 _ rfl) (fm_cons (hA209.get 60 _ rfl) (fm_cons (hA209.get 61 _ rfl) (fm_cons (hA209.get 62 _ rfl) (fm_cons (hA209.get 63 _ rfl) (fm_cons (hA209.get 64 _ rfl) (fm_cons (hA209.get 65 _ rfl) (fm_cons (hA209.get 66 _ rfl) (fm_cons ((hA209.get 67 _ rfl).trans (congrArg Value.bool able_w)) fm_nil))))))))))))))))))))))))))))))))))))))))))))))))))
  refine q_step hA210 rfl (d_move (wy rfl rfl (hA210.get 67 _ rfl)) (hA210.ev (v := (.slice (some ⟨g10, 0, none⟩) 2 2)) rfl) ?_)
  intro a211 hA212
  refine q_step hA212 rfl (d_indexAt (n := 2) (j := 0) (b := g10) (o := 0) (wy rfl rfl (hA212.get 67 _ rfl)) (hA212.ev (v := (.slice (some ⟨g10, 0, none⟩) 2 2)) rfl) (hA212.ev (v := (.int .i64 0)) rfl) slc35 ⟨0, 2, rfl, rfl⟩ (by decide) ?_)
  intro a213 hA214
  refine q_step hA214 rfl (d_loadMid (cs := (insC cI)) (wy rfl rfl (hA214.get 67 _ rfl)) (hA214.ev (v := (.pointer (some ⟨g10, 0, none⟩))) rfl) row23 (two_range m197).1 ?_)
  intro a215 hA216
  refine q_step hA216 rfl (d_call (wy rfl rfl (hA216.get 67 _ rfl)) ent18 (map1 (hA216.ev (v := (.agg (insC cI))) rfl)) (gives_any cI w193) ?_)
  rintro e220 w217 ⟨he219, hG218⟩
  have m221 := m197.grow hG218
  have m222 := m198.grow hG218
  have hr223 := range_below hr199 hG218 lt200
  have lt224 := Nat.lt_of_lt_of_le lt200 hG218.size
  have b225 := below_grow b201 hG218 b201.size
  have ho226 := own_grow hG218 ho202
  have ho227 := own_grow hG218 ho203
  refine ⟨(.int .i64 (givesF cI)), he219, ?_⟩
  intro a228 hA229
  refine q_step hA229 rfl (d_bin (wy rfl rfl (hA229.get 67 _ rfl)) (hA229.ev (v := (.int .i64 (givesF cI))) rfl) (hA229.ev (v := (.int .i64 1)) rfl) (b_eq _ _ (givesF cI) 1 true _ able_g) ?_)
  intro a230 hA231
  refine q_step hA231 rfl (d_pickT (wn rfl) (hA231.ev (v := (.bool true)) rfl) (hA231.ev (v := (.bool true)) rfl) ?_)
  intro a232 hA233
  refine q_step hA233 rfl (d_assign (wn rfl) (hA233.ev (v := (.bool true)) rfl) ?_)
  intro a234 hA235
  refine q_end ?_
  have hA236 : St 74 [(0, (.bool true))] a234 := hA235.cut _ (fm_cons (hA235.get 0 _ rfl) fm_nil)
  refine t_norm ?_
  refine wp_ret ?_
  refine ret1 rfl hA236 (v := (.bool true)) rfl ?_
  exact ⟨rfl, b225⟩
end Go.Proofs.Ytlhompedcphnnaa
