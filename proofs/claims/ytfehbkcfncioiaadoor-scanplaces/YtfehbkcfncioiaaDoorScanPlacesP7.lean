/- ScanPlaces returns true. -/
import Derived.Test.YtfehbkcfncioiaaDoorScanPlacesP6
namespace Go.Proofs.YtfehbkcfncioiaaDoor
open Go.RowKit
set_option linter.unusedSimpArgs false
set_option linter.unusedVariables false
theorem ent7 : ((Tryd.prog.funcs[7]?).map fun fn => (fn.name == "runtime.NumGoroutine", fn.body.isNone)) = some (false, false) := by kernel_rfl
set_option maxHeartbeats 4000000 in
set_option maxRecDepth 4000 in
theorem scanPlaces_law (l : List UInt8) (w : World) (hlm : l.length ≤ 9223372036854775807) (m0 : Int) (hm : w.cell? ⟨0, 0, none⟩ = some (.int .i64 m0)) (ev : Value) (hev1 : w.cell? ⟨1, 0, none⟩ = some ev) (hev2 : ev = .nilIface ∨ ∃ te pe, ev = .iface te pe) : Calls Tryd.prog 6 #[.string (S l)] w fun e w' => e = .returned (.bool true) ∧ Grow w w' := by
  have b0 : Below w.heap.size w w := Below.refl _ _
  refine enter (n := 127) Tryd.func6 rfl rfl (Nat.le_of_ble_eq_true rfl) ?_
  intro a1 hA2
  refine wp_seq ?_
  refine wp_region_lit ?_
  refine q_step hA2 rfl (d_assign (wn rfl) (hA2.ev (v := (.bool false)) rfl) ?_)
  intro a3 hA4
  refine q_end ?_
  refine t_norm ?_
  refine wp_seq ?_
  refine wp_seq ?_
  refine wp_region_lit ?_
  refine q_step hA4 rfl (d_call (wn rfl) ent7 (map0) (able_any w m0 (cell_keep hm b0) ev (cell_keep hev1 b0) hev2) ?_)
  rintro e8 w5 ⟨he7, hG6⟩
  have b9 := below_grow b0 hG6 b0.size
  refine ⟨(.bool true), he7, ?_⟩
  intro a10 hA11
  refine q_step hA11 rfl (d_not (wn rfl) (hA11.ev (v := (.bool true)) rfl) ?_)
  intro a12 hA13
  refine q_end ?_
  refine t_norm ?_
  refine c_false hA13 rfl ?_
  refine wp_skip ?_
  refine t_norm ?_
  refine wp_seq ?_
  refine wp_seq ?_
  refine wp_region_lit ?_
  refine q_step hA13 rfl (d_move (wn rfl) (hA13.ev (v := (.string (S l))) rfl) ?_)
  intro a14 hA15
  refine q_step hA15 rfl (d_slen (wn rfl) (hA15.ev (v := (.string (S l))) rfl) str9 ?_)
  intro a16 hA17
  rcases Bool.eq_false_or_eq_true (decide (((l.length : Nat) : Int) > 8192)) with hb18 | hb18
  · skip
    have hq19 := of_decide_eq_true hb18
    refine q_step hA17 rfl (d_bin (wn rfl) (hA17.ev (v := (.int .i64 ((l.length : Nat) : Int))) rfl) (hA17.ev (v := (.int .i64 8192)) rfl) (b_gt _ _ ((l.length : Nat) : Int) 8192 true _ hb18) ?_)
    intro a20 hA21
    refine q_end ?_
    refine t_norm ?_
    refine c_true hA21 rfl ?_
    refine wp_seq ?_
    refine wp_region_lit ?_
    refine q_step hA21 rfl (d_move (wn rfl) (hA21.ev (v := (.string (S l))) rfl) ?_)
    intro a22 hA23
    refine q_step hA23 rfl (d_call (wn rfl) ent8 (map1 (hA23.ev (v := (.string (S l))) rfl)) (tokens_any l w5 (by omega) m0 (cell_keep hm b9) ev (cell_keep hev1 b9) hev2) ?_)
    rintro e27 w24 ⟨v28, he26, ho29, hG25⟩
    have b31 := below_grow b9 hG25 b9.size
    have hS30 := own_gen tokE_len ho29
    have b32 : Below w24.heap.size w24 w24 := Below.refl _ _
    refine ⟨(.tuple #[v28, (.int .i64 ((tokensR l).2.1)), (.int .i64 (((tokensR l).2.2 : Nat) : Int))]), he26, ?_⟩
    intro a33 hA34
    refine q_step hA34 rfl (d_move (wn rfl) (hA34.ev (v := (.tuple #[v28, (.int .i64 ((tokensR l).2.1)), (.int .i64 (((tokensR l).2.2 : Nat) : Int))])) rfl) ?_)
    intro a35 hA36
    refine q_step hA36 rfl (d_extract (v := v28) (wn rfl) (hA36.ev (v := (.tuple #[v28, (.int .i64 ((tokensR l).2.1)), (.int .i64 (((tokensR l).2.2 : Nat) : Int))])) rfl) rfl ?_)
    intro a37 hA38
    refine q_step hA38 rfl (d_extract (v := (.int .i64 ((tokensR l).2.1))) (wn rfl) (hA38.ev (v := (.tuple #[v28, (.int .i64 ((tokensR l).2.1)), (.int .i64 (((tokensR l).2.2 : Nat) : Int))])) rfl) rfl ?_)
    intro a39 hA40
    refine q_step hA40 rfl (d_extract (v := (.int .i64 (((tokensR l).2.2 : Nat) : Int))) (wn rfl) (hA40.ev (v := (.tuple #[v28, (.int .i64 ((tokensR l).2.1)), (.int .i64 (((tokensR l).2.2 : Nat) : Int))])) rfl) rfl ?_)
    intro a41 hA42
    refine q_step hA42 rfl (d_assign (wn rfl) (hA42.ev (v := v28) rfl) ?_)
    intro a43 hA44
    refine q_step hA44 rfl (d_assign (wn rfl) (hA44.ev (v := (.int .i64 ((tokensR l).2.1))) rfl) ?_)
    intro a45 hA46
    refine q_step hA46 rfl (d_assign (wn rfl) (hA46.ev (v := (.int .i64 (((tokensR l).2.2 : Nat) : Int))) rfl) ?_)
    intro a47 hA48
    refine q_end ?_
    refine t_norm ?_
    refine wp_seq ?_
    refine wp_region_lit ?_
    refine q_step hA48 rfl (d_move (wn rfl) (hA48.ev (v := v28) rfl) ?_)
    intro a49 hA50
    refine q_step hA50 rfl (d_len (n := ((tokensR l).1).length) (wn rfl) (hA50.ev (v := v28) rfl) slc23 hS30.form ?_)
    intro a51 hA52
    refine q_step hA52 rfl (d_bin (wn rfl) (hA52.ev (v := (.int .i64 ((((tokensR l).1).length : Nat) : Int))) rfl) (hA52.ev (v := (.int .i64 0)) rfl) (b_eq _ _ ((((tokensR l).1).length : Nat) : Int) 0 true _ (beq_iff_eq.2 (by rw [tokens_long (by omega)] <;> rfl))) ?_)
    intro a53 hA54
    refine q_step hA54 rfl (d_move (wn rfl) (hA54.ev (v := (.bool true)) rfl) ?_)
    intro a55 hA56
    refine q_step hA56 rfl (d_move (wy rfl rfl (hA56.get 29 _ rfl)) (hA56.ev (v := (.int .i64 ((tokensR l).2.1))) rfl) ?_)
    intro a57 hA58
    refine q_step hA58 rfl (d_bin (wy rfl rfl (hA58.get 29 _ rfl)) (hA58.ev (v := (.int .i64 ((tokensR l).2.1))) rfl) (hA58.ev (v := (.int .i64 2)) rfl) (b_eq _ _ ((tokensR l).2.1) 2 true _ (beq_iff_eq.2 (by rw [tokens_long (by omega)] <;> rfl))) ?_)
    intro a59 hA60
    refine q_step hA60 rfl (d_pickT (wn rfl) (hA60.ev (v := (.bool true)) rfl) (hA60.ev (v := (.bool true)) rfl) ?_)
    intro a61 hA62
    refine q_step hA62 rfl (d_move (wn rfl) (hA62.ev (v := (.bool true)) rfl) ?_)
    intro a63 hA64
    refine q_step hA64 rfl (d_move (wy rfl rfl (hA64.get 33 _ rfl)) (hA64.ev (v := (.int .i64 (((tokensR l).2.2 : Nat) : Int))) rfl) ?_)
    intro a65 hA66
    refine q_step hA66 rfl (d_bin (wy rfl rfl (hA66.get 33 _ rfl)) (hA66.ev (v := (.int .i64 (((tokensR l).2.2 : Nat) : Int))) rfl) (hA66.ev (v := (.int .i64 0)) rfl) (b_eq _ _ (((tokensR l).2.2 : Nat) : Int) 0 true _ (beq_iff_eq.2 (by rw [tokens_long (by omega)] <;> rfl))) ?_)
    intro a67 hA68
    refine q_step hA68 rfl (d_pickT (wn rfl) (hA68.ev (v := (.bool true)) rfl) (hA68.ev (v := (.bool true)) rfl) ?_)
    intro a69 hA70
    refine q_step hA70 rfl (d_assign (wn rfl) (hA70.ev (v := (.bool true)) rfl) ?_)
    intro a71 hA72
    refine q_end ?_
    refine t_norm ?_
    refine wp_ret ?_
    refine t_ret ?_
    refine ret1 rfl hA72 (v := (.bool true)) rfl ?_
    exact ⟨rfl, (Grow.trans b31 b32)⟩
  · skip
    have hq73 := of_decide_eq_false hb18
    refine q_step hA17 rfl (d_bin (wn rfl) (hA17.ev (v := (.int .i64 ((l.length : Nat) : Int))) rfl) (hA17.ev (v := (.int .i64 8192)) rfl) (b_gt _ _ ((l.length : Nat) : Int) 8192 false _ hb18) ?_)
    intro a74 hA75
    refine q_end ?_
    refine t_norm ?_
    refine c_false hA75 rfl ?_
    refine wp_skip ?_
    refine t_norm ?_
    refine wp_seq ?_
    refine wp_region_lit ?_
    refine q_step hA75 rfl (d_move (wn rfl) (hA75.ev (v := (.string (S l))) rfl) ?_)
    intro a76 hA77
    refine q_step hA77 rfl (d_call (wn rfl) ent8 (map1 (hA77.ev (v := (.string (S l))) rfl)) (tokens_any l w5 (by omega) m0 (cell_keep hm b9) ev (cell_keep hev1 b9) hev2) ?_)
    rintro e81 w78 ⟨v82, he80, ho83, hG79⟩
    have b85 := below_grow b9 hG79 b9.size
    have hS84 := own_gen tokE_len ho83
    have b86 : Below w78.heap.size w78 w78 := Below.refl _ _
    refine ⟨(.tuple #[v82, (.int .i64 ((tokensR l).2.1)), (.int .i64 (((tokensR l).2.2 : Nat) : Int))]), he80, ?_⟩
    intro a87 hA88
    have htl := tokens_lie (l := l) (by omega)
    have htn := tokens_len l
    refine q_step hA88 rfl (d_move (wn rfl) (hA88.ev (v := (.tuple #[v82, (.int .i64 ((tokensR l).2.1)), (.int .i64 (((tokensR l).2.2 : Nat) : Int))])) rfl) ?_)
    intro a89 hA90
    refine q_step hA90 rfl (d_extract (v := v82) (wn rfl) (hA90.ev (v := (.tuple #[v82, (.int .i64 ((tokensR l).2.1)), (.int .i64 (((tokensR l).2.2 : Nat) : Int))])) rfl) rfl ?_)
    intro a91 hA92
    refine q_step hA92 rfl (d_extract (v := (.int .i64 ((tokensR l).2.1))) (wn rfl) (hA92.ev (v := (.tuple #[v82, (.int .i64 ((tokensR l).2.1)), (.int .i64 (((tokensR l).2.2 : Nat) : Int))])) rfl) rfl ?_)
    intro a93 hA94
    refine q_step hA94 rfl (d_extract (v := (.int .i64 (((tokensR l).2.2 : Nat) : Int))) (wn rfl) (hA94.ev (v := (.tuple #[v82, (.int .i64 ((tokensR l).2.1)), (.int .i64 (((tokensR l).2.2 : Nat) : Int))])) rfl) rfl ?_)
    intro a95 hA96
    refine q_step hA96 rfl (d_assign (wn rfl) (hA96.ev (v := v82) rfl) ?_)
    intro a97 hA98
    refine q_step hA98 rfl (d_assign (wn rfl) (hA98.ev (v := (.int .i64 ((tokensR l).2.1))) rfl) ?_)
    intro a99 hA100
    refine q_step hA100 rfl (d_assign (wn rfl) (hA100.ev (v := (.int .i64 (((tokensR l).2.2 : Nat) : Int))) rfl) ?_)
    intro a101 hA102
    refine q_end ?_
    refine t_norm ?_
    refine wp_seq ?_
    refine wp_seq ?_
    refine wp_region_lit ?_
    refine q_step hA102 rfl (d_move (wn rfl) (hA102.ev (v := (.int .i64 ((tokensR l).2.1))) rfl) ?_)
    intro a103 hA104
    rcases Bool.eq_false_or_eq_true ((tokensR l).2.1 == 0) with hb105 | hb105
    · skip
      have hq106 := eq_of_beq hb105
      refine q_step hA104 rfl (d_bin (wn rfl) (hA104.ev (v := (.int .i64 ((tokensR l).2.1))) rfl) (hA104.ev (v := (.int .i64 0)) rfl) (b_ne _ _ ((tokensR l).2.1) 0 false _ (notof hb105)) ?_)
      intro a107 hA108
      refine q_end ?_
      refine t_norm ?_
      refine c_false hA108 rfl ?_
      refine wp_skip ?_
      refine t_norm ?_
      refine wp_seq ?_
      refine wp_region_lit ?_
      refine q_step hA108 rfl (d_assign (wn rfl) (hA108.ev (v := (.int .i64 0)) rfl) ?_)
      intro a109 hA110
      refine q_end ?_
      refine t_norm ?_
      refine wp_seq ?_
      refine wp_seq ?_
      refine wp_region_lit ?_
      refine q_step hA110 rfl (d_assign (wn rfl) (hA110.ev (v := (.int .i64 0)) rfl) ?_)
      intro a111 hA112
      refine q_end ?_
      refine t_norm ?_
      refine wp_block ?_
      have hl0 : lies l 0 (tokensR l).1 := by rcases htl with ⟨_, h⟩ | ⟨h, _⟩ <;> first | exact h | exact absurd (eq_of_beq hb105) h
      refine loop_by (fun m115 a116 w117 => ∃ j113 : Nat, ∃ en114 : Nat, m115 = (tokensR l).1.length - j113 ∧ (j113 ≤ (tokensR l).1.length ∧ en114 ≤ l.length ∧ lies l en114 (List.drop j113 (tokensR l).1)) ∧ St 127 [(0, (.string (S l))), (6, v82), (9, (.int .i64 ((en114 : Nat) : Int))), (10, (.int .i64 ((j113 : Nat) : Int)))] a116 ∧ Below w78.heap.size w78 w117) ((tokensR l).1.length - 0) ⟨0, 0, rfl, ⟨by omega, by omega, by rw [List.drop_zero]; exact hl0⟩, hA112.cut _ (fm_cons (hA112.get 0 _ rfl) (fm_cons (hA112.get 6 _ rfl) (fm_cons ((hA112.get 9 _ rfl).trans (congrArg (Value.int .i64) (by omega))) (fm_cons ((hA112.get 10 _ rfl).trans (congrArg (Value.int .i64) (by omega))) fm_nil)))), b86⟩ ?_
      rintro m115 a116 w117 ⟨j113, en114, hm120, hc121, hA118, b119⟩
      obtain ⟨hj1, hj2, hlie⟩ := hc121
      refine wp_seq ?_
      refine wp_seq ?_
      refine wp_region_lit ?_
      refine q_step hA118 rfl (d_move (wn rfl) (hA118.ev (v := (.int .i64 ((j113 : Nat) : Int))) rfl) ?_)
      intro a122 hA123
      refine q_step hA123 rfl (d_move (wn rfl) (hA123.ev (v := v82) rfl) ?_)
      intro a124 hA125
      refine q_step hA125 rfl (d_len (n := ((tokensR l).1).length) (wn rfl) (hA125.ev (v := v82) rfl) slc23 hS84.form ?_)
      intro a126 hA127
      rcases Bool.eq_false_or_eq_true (decide (((j113 : Nat) : Int) < ((((tokensR l).1).length : Nat) : Int))) with hb128 | hb128
      · skip
        have hq129 := of_decide_eq_true hb128
        refine q_step hA127 rfl (d_bin (wn rfl) (hA127.ev (v := (.int .i64 ((j113 : Nat) : Int))) rfl) (hA127.ev (v := (.int .i64 ((((tokensR l).1).length : Nat) : Int))) rfl) (b_lt _ _ ((j113 : Nat) : Int) ((((tokensR l).1).length : Nat) : Int) true _ hb128) ?_)
        intro a130 hA131
        refine q_end ?_
        refine t_norm ?_
        refine c_true hA131 rfl ?_
        refine wp_skip ?_
        refine t_norm ?_
        refine wp_seq ?_
        refine wp_block ?_
        refine wp_seq ?_
        refine wp_region_lit ?_
        refine q_step hA131 rfl (d_move (wn rfl) (hA131.ev (v := v82) rfl) ?_)
        intro a132 hA133
        refine q_step hA133 rfl (d_move (wn rfl) (hA133.ev (v := (.int .i64 ((j113 : Nat) : Int))) rfl) ?_)
        intro a134 hA135
        obtain ⟨y136, hy137⟩ : ∃ y136, ((tokensR l).1)[j113]? = some y136 := ⟨_, List.getElem?_eq_getElem (show j113 < ((tokensR l).1).length by omega)⟩
        obtain ⟨b138, o139, lt140, hr141, hix142⟩ := (hS84.below b119).at hy137
        obtain ⟨n143, ea144, eb145, ec146, ed147, ee148, ef149, eg150⟩ := lies_at hlie hy137
        obtain ⟨ky151, ty152, zy153, ay154⟩ := y136
        dsimp only at ea144 ec146 ed147 ee148 eg150
        subst ea144
        refine q_step hA135 rfl (d_indexAt (j := j113) (wn rfl) (hA135.ev (v := v82) rfl) (hA135.ev (v := (.int .i64 ((j113 : Nat) : Int))) rfl) slc23 hix142 (get_lt hy137) ?_)
        intro a155 hA156
        refine q_step hA156 rfl (d_loadMid (cs := (tokC (Tk.mk ky151 ty152 zy153 ((n143 : Nat) : Int)))) (wn rfl) (hA156.ev (v := (.pointer (some ⟨b138, o139, none⟩))) rfl) row33 hr141 ?_)
        intro a157 hA158
        refine q_step hA158 rfl (d_alloc (wn rfl) zero33 ?_)
        intro g159 w160 eg161 hG162 (m163 : Blk w160 g159 #[.int .i64 0, .string (S []), .int .i64 0, .int .i64 0] 33)
        have ge164 : w78.heap.size ≤ g159 := eg161 ▸ b119.size
        have hr165 := range_below hr141 hG162 (Nat.lt_of_lt_of_le lt140 b119.size)
        have b166 := below_grow b119 hG162 b119.size
        intro a167 hA168
        refine q_step hA168 rfl (d_storeRow (wn rfl) (hA168.ev (v := (.pointer (some ⟨g159, 0, none⟩))) rfl) (hA168.ev (v := (.agg (tokC (Tk.mk ky151 ty152 zy153 ((n143 : Nat) : Int))))) rfl) row33 m163 rfl rfl ?_)
        intro w169 hU170 (m171 : Blk w169 g159 (tokC (Tk.mk ky151 ty152 zy153 ((n143 : Nat) : Int))) 33)
        have hr172 := range_upd hr165 hU170 (Nat.ne_of_lt (Nat.lt_of_lt_of_le lt140 ge164))
        have b173 := hU170.below b166 ge164
        intro a174 hA175
        refine q_end ?_
        refine t_norm ?_
        refine wp_seq ?_
        refine wp_seq ?_
        have hA176 : St 127 [(0, (.string (S l))), (6, v82), (9, (.int .i64 ((en114 : Nat) : Int))), (10, (.int .i64 ((j113 : Nat) : Int))), (11, (.pointer (some ⟨g159, 0, none⟩)))] a174 := hA175.cut _ (fm_cons (hA175.get 0 _ rfl) (fm_cons (hA175.get 6 _ rfl) (fm_cons (hA175.get 9 _ rfl) (fm_cons (hA175.get 10 _ rfl) (fm_cons (hA175.get 11 _ rfl) fm_nil)))))
        let M177 : Nat → Option (Array Value) := fun _ => none
        have hM177 : M177 = fun _ => none := rfl
        clear_value M177
        have hM178 : M177 g159 = none := (congrFun hM177 g159)
        have hM177B : ∀ k, k < w78.heap.size → M177 k = none := (fun k hk => (congrFun hM177 k))
        refine drawn (S := SM M177) (tabL [cv (.pointer (some ⟨g159, 3, none⟩)), cv (.int .i64 ((n143 : Nat) : Int)), cv (.int .i64 ((en114 : Nat) : Int)), cv (.bool false), cv (.bool false), cv (.pointer (some ⟨g159, 3, none⟩)), cv (.int .i64 ((n143 : Nat) : Int)), cv (.pointer (some ⟨g159, 1, none⟩)), cv (.string (S ty152)), cv (.int .i64 ((ty152.length : Nat) : Int)), cv (.int .i64 ((n143 + ty152.length : Nat) : Int)), cv (.string (S l)), cv (.int .i64 ((l.length : Nat) : Int)), cv (.bool false), cv (.bool false), cv (.bool false), cv (.string (S l)), cv (.pointer (some ⟨g159, 3, none⟩)), cv (.int .i64 ((n143 : Nat) : Int)), cv (.pointer (some ⟨g159, 3, none⟩)), cv (.int .i64 ((n143 : Nat) : Int)), cv (.pointer (some ⟨g159, 1, none⟩)), cv (.string (S ty152)), cv (.int .i64 ((ty152.length : Nat) : Int)), cv (.int .i64 ((n143 + ty152.length : Nat) : Int)), cv (.string (S (List.drop n143 (List.take (n143 + ty152.length) l)))), cv (.pointer (some ⟨g159, 1, none⟩)), cv (.string (S ty152)), cv (.bool false), cv (.bool false), cv (.bool false), cv (.pointer (some ⟨g159, 1, none⟩)), cv (.string (S ty152)), cv (.int .i64 ((ty152.length : Nat) : Int)), cv (.bool false), cv (.bool false)]) mixedY SM.refl SM.trans SM.drew hA176 (by kernel_rfl) ?_ ?_
        · skip
          refine each_cons (fun x y hS hT hk => d_fieldAddr (wn rfl) (hT.ev (v := (.pointer (some ⟨g159, 0, none⟩))) rfl) fo33_3 ⟨SM.refl _, rfl⟩) ?_
          refine each_cons (fun x y hS hT hk => d_load (v := (.int .i64 ((n143 : Nat) : Int))) (wn rfl) (hk 0 rfl) one3 ((Blk.sm (w := w169.drew) m171 hS hM178).cell rfl) ⟨SM.refl _, rfl⟩) ?_
          refine each_cons (fun x y hS hT hk => d_move (wn rfl) (hT.ev (v := (.int .i64 ((en114 : Nat) : Int))) rfl) ⟨SM.refl _, rfl⟩) ?_
          refine each_cons (fun x y hS hT hk => d_bin (wn rfl) (hk 1 rfl) (hk 2 rfl) (b_lt _ _ ((n143 : Nat) : Int) ((en114 : Nat) : Int) false _ (decide_eq_false (by omega))) ⟨SM.refl _, rfl⟩) ?_
          refine each_cons (fun x y hS hT hk => d_move (wn rfl) (hk 3 rfl) ⟨SM.refl _, rfl⟩) ?_
          refine each_cons (fun x y hS hT hk => d_fieldAddr (wy rfl rfl (hk 4 rfl)) (hT.ev (v := (.pointer (some ⟨g159, 0, none⟩))) rfl) fo33_3 ⟨SM.refl _, rfl⟩) ?_
          refine each_cons (fun x y hS hT hk => d_load (v := (.int .i64 ((n143 : Nat) : Int))) (wy rfl rfl (hk 4 rfl)) (hk 5 rfl) one3 ((Blk.sm (w := w169.drew) m171 hS hM178).cell rfl) ⟨SM.refl _, rfl⟩) ?_
          refine each_cons (fun x y hS hT hk => d_fieldAddr (wy rfl rfl (hk 4 rfl)) (hT.ev (v := (.pointer (some ⟨g159, 0, none⟩))) rfl) fo33_1 ⟨SM.refl _, rfl⟩) ?_
          refine each_cons (fun x y hS hT hk => d_load (v := (.string (S ty152))) (wy rfl rfl (hk 4 rfl)) (hk 7 rfl) one9 ((Blk.sm (w := w169.drew) m171 hS hM178).cell rfl) ⟨SM.refl _, rfl⟩) ?_
          refine each_cons (fun x y hS hT hk => d_slen (l := ty152) (wy rfl rfl (hk 4 rfl)) (hk 8 rfl) str9 ⟨SM.refl _, rfl⟩) ?_
          refine each_cons (fun x y hS hT hk => d_bin (u := (.int .i64 ((n143 : Nat) : Int))) (v := (.int .i64 ((ty152.length : Nat) : Int))) (wy rfl rfl (hk 4 rfl)) (hk 6 rfl) (hk 9 rfl) (b_addE (n143 + ty152.length) (by omega) (by omega)) ⟨SM.refl _, rfl⟩) ?_
          refine each_cons (fun x y hS hT hk => d_move (wy rfl rfl (hk 4 rfl)) (hT.ev (v := (.string (S l))) rfl) ⟨SM.refl _, rfl⟩) ?_
          refine each_cons (fun x y hS hT hk => d_slen (l := l) (wy rfl rfl (hk 4 rfl)) (hk 11 rfl) str9 ⟨SM.refl _, rfl⟩) ?_
          refine each_cons (fun x y hS hT hk => d_bin (wy rfl rfl (hk 4 rfl)) (hk 10 rfl) (hk 12 rfl) (b_gt _ _ ((n143 + ty152.length : Nat) : Int) ((l.length : Nat) : Int) false _ (decide_eq_false (by omega))) ⟨SM.refl _, rfl⟩) ?_
          refine each_cons (fun x y hS hT hk => d_pickF (wn rfl) (hk 4 rfl) (hk 13 rfl) ⟨SM.refl _, rfl⟩) ?_
          refine each_cons (fun x y hS hT hk => d_move (wn rfl) (hk 14 rfl) ⟨SM.refl _, rfl⟩) ?_
          refine each_cons (fun x y hS hT hk => d_move (wy rfl rfl (hk 15 rfl)) (hT.ev (v := (.string (S l))) rfl) ⟨SM.refl _, rfl⟩) ?_
          refine each_cons (fun x y hS hT hk => d_fieldAddr (wy rfl rfl (hk 15 rfl)) (hT.ev (v := (.pointer (some ⟨g159, 0, none⟩))) rfl) fo33_3 ⟨SM.refl _, rfl⟩) ?_
          refine each_cons (fun x y hS hT hk => d_load (v := (.int .i64 ((n143 : Nat) : Int))) (wy rfl rfl (hk 15 rfl)) (hk 17 rfl) one3 ((Blk.sm (w := w169.drew) m171 hS hM178).cell rfl) ⟨SM.refl _, rfl⟩) ?_
          refine each_cons (fun x y hS hT hk => d_fieldAddr (wy rfl rfl (hk 15 rfl)) (hT.ev (v := (.pointer (some ⟨g159, 0, none⟩))) rfl) fo33_3 ⟨SM.refl _, rfl⟩) ?_
          refine each_cons (fun x y hS hT hk => d_load (v := (.int .i64 ((n143 : Nat) : Int))) (wy rfl rfl (hk 15 rfl)) (hk 19 rfl) one3 ((Blk.sm (w := w169.drew) m171 hS hM178).cell rfl) ⟨SM.refl _, rfl⟩) ?_
          refine each_cons (fun x y hS hT hk => d_fieldAddr (wy rfl rfl (hk 15 rfl)) (hT.ev (v := (.pointer (some ⟨g159, 0, none⟩))) rfl) fo33_1 ⟨SM.refl _, rfl⟩) ?_
          refine each_cons (fun x y hS hT hk => d_load (v := (.string (S ty152))) (wy rfl rfl (hk 15 rfl)) (hk 21 rfl) one9 ((Blk.sm (w := w169.drew) m171 hS hM178).cell rfl) ⟨SM.refl _, rfl⟩) ?_
          refine each_cons (fun x y hS hT hk => d_slen (l := ty152) (wy rfl rfl (hk 15 rfl)) (hk 22 rfl) str9 ⟨SM.refl _, rfl⟩) ?_
          refine each_cons (fun x y hS hT hk => d_bin (u := (.int .i64 ((n143 : Nat) : Int))) (v := (.int .i64 ((ty152.length : Nat) : Int))) (wy rfl rfl (hk 15 rfl)) (hk 20 rfl) (hk 23 rfl) (b_addE (n143 + ty152.length) (by omega) (by omega)) ⟨SM.refl _, rfl⟩) ?_
          refine each_cons (fun x y hS hT hk => d_spart (m := n143) (n := n143 + ty152.length) (wy rfl rfl (hk 15 rfl)) (hk 16 rfl) (hk 18 rfl) (hk 24 rfl) str9 (by omega) (by omega) ⟨SM.refl _, rfl⟩) ?_
          refine each_cons (fun x y hS hT hk => d_fieldAddr (wy rfl rfl (hk 15 rfl)) (hT.ev (v := (.pointer (some ⟨g159, 0, none⟩))) rfl) fo33_1 ⟨SM.refl _, rfl⟩) ?_
          refine each_cons (fun x y hS hT hk => d_load (v := (.string (S ty152))) (wy rfl rfl (hk 15 rfl)) (hk 26 rfl) one9 ((Blk.sm (w := w169.drew) m171 hS hM178).cell rfl) ⟨SM.refl _, rfl⟩) ?_
          refine each_cons (fun x y hS hT hk => d_bin (u := (.string (S (List.drop n143 (List.take (n143 + ty152.length) l))))) (v := (.string (S ty152))) (wy rfl rfl (hk 15 rfl)) (hk 25 rfl) (hk 27 rfl) (b_sne (l := List.drop n143 (List.take (n143 + ty152.length) l)) (m := ty152) (r := false) (notof (eqL_of ed147))) ⟨SM.refl _, rfl⟩) ?_
          refine each_cons (fun x y hS hT hk => d_pickF (wn rfl) (hk 15 rfl) (hk 28 rfl) ⟨SM.refl _, rfl⟩) ?_
          refine each_cons (fun x y hS hT hk => d_move (wn rfl) (hk 29 rfl) ⟨SM.refl _, rfl⟩) ?_
          refine each_cons (fun x y hS hT hk => d_fieldAddr (wy rfl rfl (hk 30 rfl)) (hT.ev (v := (.pointer (some ⟨g159, 0, none⟩))) rfl) fo33_1 ⟨SM.refl _, rfl⟩) ?_
          refine each_cons (fun x y hS hT hk => d_load (v := (.string (S ty152))) (wy rfl rfl (hk 30 rfl)) (hk 31 rfl) one9 ((Blk.sm (w := w169.drew) m171 hS hM178).cell rfl) ⟨SM.refl _, rfl⟩) ?_
          refine each_cons (fun x y hS hT hk => d_slen (l := ty152) (wy rfl rfl (hk 30 rfl)) (hk 32 rfl) str9 ⟨SM.refl _, rfl⟩) ?_
          refine each_cons (fun x y hS hT hk => d_bin (wy rfl rfl (hk 30 rfl)) (hk 33 rfl) (hT.ev (v := (.int .i64 0)) rfl) (b_eq _ _ ((ty152.length : Nat) : Int) 0 false _ (beq_eq_false_iff_ne.2 (by omega))) ⟨SM.refl _, rfl⟩) ?_
          refine each_cons (fun x y hS hT hk => d_pickF (wn rfl) (hk 30 rfl) (hk 34 rfl) ⟨SM.refl _, rfl⟩) ?_
          exact each_nil
        intro f179 a180 w181 hS182 hC183 hA184
        have hA185 : St 127 [(0, (.string (S l))), (6, v82), (9, (.int .i64 ((en114 : Nat) : Int))), (10, (.int .i64 ((j113 : Nat) : Int))), (11, (.pointer (some ⟨g159, 0, none⟩))), (103, (.bool false))] a180 := hA184.cut _ (fm_cons (hA184.get 0 _ rfl) (fm_cons (hA184.get 6 _ rfl) (fm_cons (hA184.get 9 _ rfl) (fm_cons (hA184.get 10 _ rfl) (fm_cons (hA184.get 11 _ rfl) (fm_cons ((hA184.get 103 _ rfl).trans (hC183 35 (Nat.le_of_ble_eq_true rfl))) fm_nil))))))
        have m186 := m171.sm hS182 hM178
        have b187 := hS182.below b173 b173.size hM177B
        have hr188 := range_sm hr172 hS182 (Nat.lt_of_lt_of_le lt140 b173.size) (hM177B _ lt140)
        refine t_norm ?_
        refine c_false hA185 rfl ?_
        refine wp_skip ?_
        refine t_norm ?_
        refine wp_seq ?_
        refine wp_region_lit ?_
        refine q_step hA185 rfl (d_move (wn rfl) (hA185.ev (v := (.string (S l))) rfl) ?_)
        intro a189 hA190
        refine q_step hA190 rfl (d_move (wn rfl) (hA190.ev (v := (.int .i64 ((en114 : Nat) : Int))) rfl) ?_)
        intro a191 hA192
        refine q_step hA192 rfl (d_fieldAddr (wn rfl) (hA192.ev (v := (.pointer (some ⟨g159, 0, none⟩))) rfl) fo33_3 ?_)
        intro a193 hA194
        refine q_step hA194 rfl (d_load (v := (.int .i64 ((n143 : Nat) : Int))) (wn rfl) (hA194.ev (v := (.pointer (some ⟨g159, 3, none⟩))) rfl) one3 (m186.cell rfl) ?_)
        intro a195 hA196
        refine q_step hA196 rfl (d_spart (m := en114) (n := n143) (wn rfl) (hA196.ev (v := (.string (S l))) rfl) (hA196.ev (v := (.int .i64 ((en114 : Nat) : Int))) rfl) (hA196.ev (v := (.int .i64 ((n143 : Nat) : Int))) rfl) str9 (by omega) (by omega) ?_)
        intro a197 hA198
        refine q_step hA198 rfl (d_call (wn rfl) ent8 (map1 (hA198.ev (v := (.string (S (List.drop en114 (List.take n143 l))))) rfl)) (tokens_any (List.drop en114 (List.take n143 l)) w181 (by rw [List.length_drop, List.length_take]; omega) m0 (cell_keep hm (Grow.trans b85 b187)) ev (cell_keep hev1 (Grow.trans b85 b187)) hev2) ?_)
        rintro e202 w199 ⟨v203, he201, ho204, hG200⟩
        have m206 := m186.grow hG200
        have b207 := below_grow b187 hG200 b187.size
        rw [ef149] at ho204 he201
        have hS205 := own_gen tokE_len ho204
        refine ⟨(.tuple #[v203, (.int .i64 0), (.int .i64 0)]), he201, ?_⟩
        intro a208 hA209
        refine q_step hA209 rfl (d_move (wn rfl) (hA209.ev (v := (.tuple #[v203, (.int .i64 0), (.int .i64 0)])) rfl) ?_)
        intro a210 hA211
        refine q_step hA211 rfl (d_extract (v := v203) (wn rfl) (hA211.ev (v := (.tuple #[v203, (.int .i64 0), (.int .i64 0)])) rfl) rfl ?_)
        intro a212 hA213
        refine q_step hA213 rfl (d_extract (v := (.int .i64 0)) (wn rfl) (hA213.ev (v := (.tuple #[v203, (.int .i64 0), (.int .i64 0)])) rfl) rfl ?_)
        intro a214 hA215
        refine q_step hA215 rfl (d_extract (v := (.int .i64 0)) (wn rfl) (hA215.ev (v := (.tuple #[v203, (.int .i64 0), (.int .i64 0)])) rfl) rfl ?_)
        intro a216 hA217
        refine q_step hA217 rfl (d_assign (wn rfl) (hA217.ev (v := v203) rfl) ?_)
        intro a218 hA219
        refine q_step hA219 rfl (d_assign (wn rfl) (hA219.ev (v := (.int .i64 0)) rfl) ?_)
        intro a220 hA221
        refine q_step hA221 rfl (d_assign (wn rfl) (hA221.ev (v := (.int .i64 0)) rfl) ?_)
        intro a222 hA223
        refine q_end ?_
        refine t_norm ?_
        refine wp_seq ?_
        refine wp_seq ?_
        refine wp_region_lit ?_
        refine q_step hA223 rfl (d_move (wn rfl) (hA223.ev (v := (.int .i64 0)) rfl) ?_)
        intro a224 hA225
        refine q_step hA225 rfl (d_bin (wn rfl) (hA225.ev (v := (.int .i64 0)) rfl) (hA225.ev (v := (.int .i64 0)) rfl) (b_ne _ _ 0 0 false _ (notof rfl)) ?_)
        intro a226 hA227
        refine q_step hA227 rfl (d_move (wn rfl) (hA227.ev (v := (.bool false)) rfl) ?_)
        intro a228 hA229
        refine q_step hA229 rfl (d_move (wy rfl rfl (hA229.get 116 _ rfl)) (hA229.ev (v := v203) rfl) ?_)
        intro a230 hA231
        refine q_step hA231 rfl (d_len (n := 0) (wy rfl rfl (hA231.get 116 _ rfl)) (hA231.ev (v := v203) rfl) slc23 hS205.form ?_)
        intro a232 hA233
        refine q_step hA233 rfl (d_bin (wy rfl rfl (hA233.get 116 _ rfl)) (hA233.ev (v := (.int .i64 0)) rfl) (hA233.ev (v := (.int .i64 0)) rfl) (b_ne _ _ 0 0 false _ (notof rfl)) ?_)
        intro a234 hA235
        refine q_step hA235 rfl (d_pickF (wn rfl) (hA235.ev (v := (.bool false)) rfl) (hA235.ev (v := (.bool false)) rfl) ?_)
        intro a236 hA237
        refine q_end ?_
        refine t_norm ?_
        refine c_false hA237 rfl ?_
        refine wp_skip ?_
        refine t_norm ?_
        refine wp_region_lit ?_
        refine q_step hA237 rfl (d_fieldAddr (wn rfl) (hA237.ev (v := (.pointer (some ⟨g159, 0, none⟩))) rfl) fo33_3 ?_)
        intro a238 hA239
        refine q_step hA239 rfl (d_load (v := (.int .i64 ((n143 : Nat) : Int))) (wn rfl) (hA239.ev (v := (.pointer (some ⟨g159, 3, none⟩))) rfl) one3 (m206.cell rfl) ?_)
        intro a240 hA241
        refine q_step hA241 rfl (d_fieldAddr (wn rfl) (hA241.ev (v := (.pointer (some ⟨g159, 0, none⟩))) rfl) fo33_1 ?_)
        intro a242 hA243
        refine q_step hA243 rfl (d_load (v := (.string (S ty152))) (wn rfl) (hA243.ev (v := (.pointer (some ⟨g159, 1, none⟩))) rfl) one9 (m206.cell rfl) ?_)
        intro a244 hA245
        refine q_step hA245 rfl (d_slen (wn rfl) (hA245.ev (v := (.string (S ty152))) rfl) str9 ?_)
        intro a246 hA247
        refine q_step hA247 rfl (d_bin (wn rfl) (hA247.ev (v := (.int .i64 ((n143 : Nat) : Int))) rfl) (hA247.ev (v := (.int .i64 ((ty152.length : Nat) : Int))) rfl) (b_addE (n143 + ty152.length) (by omega) (by omega)) ?_)
        intro a248 hA249
        refine q_step hA249 rfl (d_assign (wn rfl) (hA249.ev (v := (.int .i64 ((n143 + ty152.length : Nat) : Int))) rfl) ?_)
        intro a250 hA251
        refine q_end ?_
        refine i_norm ?_
        refine t_norm ?_
        refine wp_region_lit ?_
        refine q_step hA251 rfl (d_move (wn rfl) (hA251.ev (v := (.int .i64 ((j113 : Nat) : Int))) rfl) ?_)
        intro a252 hA253
        refine q_step hA253 rfl (d_bin (wn rfl) (hA253.ev (v := (.int .i64 ((j113 : Nat) : Int))) rfl) (hA253.ev (v := (.int .i64 1)) rfl) (b_addE (j113 + 1) (by omega) (by omega)) ?_)
        intro a254 hA255
        refine q_step hA255 rfl (d_assign (wn rfl) (hA255.ev (v := (.int .i64 ((j113 + 1 : Nat) : Int))) rfl) ?_)
        intro a256 hA257
        refine q_end ?_
        refine t_norm ?_
        exact ⟨(tokensR l).1.length - (j113 + 1), (by rw [hm120]; omega), j113 + 1, n143 + ty152.length, rfl, ⟨by omega, by omega, eg150⟩, hA257.cut _ (fm_cons (hA257.get 0 _ rfl) (fm_cons (hA257.get 6 _ rfl) (fm_cons (hA257.get 9 _ rfl) (fm_cons (hA257.get 10 _ rfl) fm_nil)))), b207⟩
      · skip
        have hq258 := of_decide_eq_false hb128
        refine q_step hA127 rfl (d_bin (wn rfl) (hA127.ev (v := (.int .i64 ((j113 : Nat) : Int))) rfl) (hA127.ev (v := (.int .i64 ((((tokensR l).1).length : Nat) : Int))) rfl) (b_lt _ _ ((j113 : Nat) : Int) ((((tokensR l).1).length : Nat) : Int) false _ hb128) ?_)
        intro a259 hA260
        refine q_end ?_
        refine t_norm ?_
        refine c_false hA260 rfl ?_
        refine wp_exit ?_
        refine t_exit ?_
        refine t_exit ?_
        refine i_here ?_
        refine t_norm ?_
        refine wp_seq ?_
        refine wp_region_lit ?_
        refine q_step hA260 rfl (d_assign (wn rfl) (hA260.ev (v := (.bool true)) rfl) ?_)
        intro a261 hA262
        refine q_end ?_
        refine t_norm ?_
        refine wp_ret ?_
        refine ret1 rfl hA262 (v := (.bool true)) rfl ?_
        exact ⟨rfl, (Grow.trans b85 b119)⟩
    · skip
      have hq263 := ne_of_beq hb105
      refine q_step hA104 rfl (d_bin (wn rfl) (hA104.ev (v := (.int .i64 ((tokensR l).2.1))) rfl) (hA104.ev (v := (.int .i64 0)) rfl) (b_ne _ _ ((tokensR l).2.1) 0 true _ (notof hb105)) ?_)
      intro a264 hA265
      refine q_end ?_
      refine t_norm ?_
      refine c_true hA265 rfl ?_
      refine wp_seq ?_
      refine wp_region_lit ?_
      refine q_step hA265 rfl (d_move (wn rfl) (hA265.ev (v := (.int .i64 (((tokensR l).2.2 : Nat) : Int))) rfl) ?_)
      intro a266 hA267
      refine q_step hA267 rfl (d_bin (wn rfl) (hA267.ev (v := (.int .i64 (((tokensR l).2.2 : Nat) : Int))) rfl) (hA267.ev (v := (.int .i64 0)) rfl) (b_ge _ _ (((tokensR l).2.2 : Nat) : Int) 0 true _ (decide_eq_true (by omega))) ?_)
      intro a268 hA269
      refine q_step hA269 rfl (d_move (wn rfl) (hA269.ev (v := (.bool true)) rfl) ?_)
      intro a270 hA271
      refine q_step hA271 rfl (d_move (wy rfl rfl (hA271.get 47 _ rfl)) (hA271.ev (v := (.int .i64 (((tokensR l).2.2 : Nat) : Int))) rfl) ?_)
      intro a272 hA273
      refine q_step hA273 rfl (d_move (wy rfl rfl (hA273.get 47 _ rfl)) (hA273.ev (v := (.string (S l))) rfl) ?_)
      intro a274 hA275
      refine q_step hA275 rfl (d_slen (wy rfl rfl (hA275.get 47 _ rfl)) (hA275.ev (v := (.string (S l))) rfl) str9 ?_)
      intro a276 hA277
      refine q_step hA277 rfl (d_bin (wy rfl rfl (hA277.get 47 _ rfl)) (hA277.ev (v := (.int .i64 (((tokensR l).2.2 : Nat) : Int))) rfl) (hA277.ev (v := (.int .i64 ((l.length : Nat) : Int))) rfl) (b_lt _ _ (((tokensR l).2.2 : Nat) : Int) ((l.length : Nat) : Int) true _ (decide_eq_true (by rcases htl with ⟨h, _⟩ | ⟨_, h, h2⟩ <;> first | exact absurd h (ne_of_beq hb105) | omega))) ?_)
      intro a278 hA279
      refine q_step hA279 rfl (d_pickT (wn rfl) (hA279.ev (v := (.bool true)) rfl) (hA279.ev (v := (.bool true)) rfl) ?_)
      intro a280 hA281
      refine q_step hA281 rfl (d_move (wn rfl) (hA281.ev (v := (.bool true)) rfl) ?_)
      intro a282 hA283
      refine q_step hA283 rfl (d_move (wy rfl rfl (hA283.get 53 _ rfl)) (hA283.ev (v := v82) rfl) ?_)
      intro a284 hA285
      refine q_step hA285 rfl (d_len (n := ((tokensR l).1).length) (wy rfl rfl (hA285.get 53 _ rfl)) (hA285.ev (v := v82) rfl) slc23 hS84.form ?_)
      intro a286 hA287
      refine q_step hA287 rfl (d_bin (wy rfl rfl (hA287.get 53 _ rfl)) (hA287.ev (v := (.int .i64 ((((tokensR l).1).length : Nat) : Int))) rfl) (hA287.ev (v := (.int .i64 0)) rfl) (b_eq _ _ ((((tokensR l).1).length : Nat) : Int) 0 true _ (beq_iff_eq.2 (by rcases htl with ⟨h, _⟩ | ⟨_, h, h2⟩ <;> first | exact absurd h (ne_of_beq hb105) | (rw [h] <;> rfl)))) ?_)
      intro a288 hA289
      refine q_step hA289 rfl (d_pickT (wn rfl) (hA289.ev (v := (.bool true)) rfl) (hA289.ev (v := (.bool true)) rfl) ?_)
      intro a290 hA291
      refine q_step hA291 rfl (d_assign (wn rfl) (hA291.ev (v := (.bool true)) rfl) ?_)
      intro a292 hA293
      refine q_end ?_
      refine t_norm ?_
      refine wp_ret ?_
      refine t_ret ?_
      refine ret1 rfl hA293 (v := (.bool true)) rfl ?_
      exact ⟨rfl, (Grow.trans b85 b86)⟩
end Go.Proofs.YtfehbkcfncioiaaDoor
