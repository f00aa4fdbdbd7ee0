/- The words of a text: the reference's Tokens. -/
import Derived.Test.YtfehbkcfncioiaaDoorScanPlacesP5
namespace Go.Proofs.YtfehbkcfncioiaaDoor
open Go.RowKit
set_option linter.unusedSimpArgs false
set_option linter.unusedVariables false
theorem ent27 : ((Tryd.prog.funcs[27]?).map fun fn => (fn.name == "runtime.NumGoroutine", fn.body.isNone)) = some (false, false) := by kernel_rfl
theorem ent29 : ((Tryd.prog.funcs[29]?).map fun fn => (fn.name == "runtime.NumGoroutine", fn.body.isNone)) = some (false, false) := by kernel_rfl
theorem ent30 : ((Tryd.prog.funcs[30]?).map fun fn => (fn.name == "runtime.NumGoroutine", fn.body.isNone)) = some (false, false) := by kernel_rfl
theorem ent32 : ((Tryd.prog.funcs[32]?).map fun fn => (fn.name == "runtime.NumGoroutine", fn.body.isNone)) = some (false, false) := by kernel_rfl
theorem fo33_0 : fieldOff Tryd.prog 33 0 = some 0 := by kernel_rfl
theorem fo33_2 : fieldOff Tryd.prog 33 2 = some 2 := by kernel_rfl
theorem rvalue_or (l : List UInt8) (w : World) (hl : l.length ≤ 8192) : Calls Tryd.prog 30 #[.string (S l)] w fun e w' => ((∃ n : Int, numR l = some n ∧ e = .returned (.tuple #[.int .i64 n, .bool true])) ∨ (numR l = none ∧ e = .returned (.tuple #[.int .i64 0, .bool false]))) ∧ Grow w w' := by
  refine (rvalue_any l w hl).mono fun e w' ⟨he, hG⟩ => ⟨?_, hG⟩
  cases hv : numR l with
  | none => exact .inr ⟨rfl, by rw [he, hv]; rfl⟩
  | some n => exact .inl ⟨n, rfl, by rw [he, hv]; rfl⟩
set_option maxHeartbeats 4000000 in
set_option maxRecDepth 4000 in
theorem rtokens_any (l : List UInt8) (w : World) (hlm : l.length ≤ 9223372036854775807) : Calls Tryd.prog 9 #[.string (S l)] w fun e w' => ∃ v, e = .returned (.tuple #[v, .int .i64 (tokensR l).2.1, .int .i64 (((tokensR l).2.2 : Nat) : Int)]) ∧ w'.ownsRow w.heap.size 33 4 v (tokensR l).1.length ((tokensR l).1.flatMap tokE) ∧ Below w.heap.size w w' := by
  have b0 : Below w.heap.size w w := Below.refl _ _
  refine enter (n := 112) Tryd.func9 rfl rfl (Nat.le_of_ble_eq_true rfl) ?_
  intro a1 hA2
  refine wp_seq ?_
  refine wp_region_lit ?_
  refine q_step hA2 rfl (d_assign (wn rfl) (hA2.ev (v := (.slice none 0 0)) rfl) ?_)
  intro a3 hA4
  refine q_step hA4 rfl (d_assign (wn rfl) (hA4.ev (v := (.int .i64 0)) rfl) ?_)
  intro a5 hA6
  refine q_step hA6 rfl (d_assign (wn rfl) (hA6.ev (v := (.int .i64 0)) rfl) ?_)
  intro a7 hA8
  refine q_end ?_
  refine t_norm ?_
  refine wp_seq ?_
  refine wp_seq ?_
  refine wp_region_lit ?_
  refine q_step hA8 rfl (d_move (wn rfl) (hA8.ev (v := (.string (S l))) rfl) ?_)
  intro a9 hA10
  refine q_step hA10 rfl (d_slen (wn rfl) (hA10.ev (v := (.string (S l))) rfl) str9 ?_)
  intro a11 hA12
  rcases Bool.eq_false_or_eq_true (decide (((l.length : Nat) : Int) > 8192)) with hb13 | hb13
  · skip
    have hq14 := of_decide_eq_true hb13
    refine q_step hA12 rfl (d_bin (wn rfl) (hA12.ev (v := (.int .i64 ((l.length : Nat) : Int))) rfl) (hA12.ev (v := (.int .i64 8192)) rfl) (b_gt _ _ ((l.length : Nat) : Int) 8192 true _ hb13) ?_)
    intro a15 hA16
    refine q_end ?_
    refine t_norm ?_
    refine c_true hA16 rfl ?_
    refine wp_seq ?_
    refine wp_region_lit ?_
    refine q_step hA16 rfl (d_assign (wn rfl) (hA16.ev (v := (.slice none 0 0)) rfl) ?_)
    intro a17 hA18
    refine q_step hA18 rfl (d_assign (wn rfl) (hA18.ev (v := (.int .i64 2)) rfl) ?_)
    intro a19 hA20
    refine q_step hA20 rfl (d_assign (wn rfl) (hA20.ev (v := (.int .i64 0)) rfl) ?_)
    intro a21 hA22
    refine q_end ?_
    refine t_norm ?_
    refine wp_ret ?_
    refine t_ret ?_
    refine ret3 (x := (.slice none 0 0)) (y := (.int .i64 2)) (z := (.int .i64 0)) rfl hA22 rfl rfl rfl ?_
    exact ⟨_, by rw [tokens_long (by omega)] <;> rfl, by rw [tokens_long (by omega)]; exact ⟨rfl, .inl ⟨rfl, rfl⟩⟩, b0⟩
  · skip
    have hq23 := of_decide_eq_false hb13
    refine q_step hA12 rfl (d_bin (wn rfl) (hA12.ev (v := (.int .i64 ((l.length : Nat) : Int))) rfl) (hA12.ev (v := (.int .i64 8192)) rfl) (b_gt _ _ ((l.length : Nat) : Int) 8192 false _ hb13) ?_)
    intro a24 hA25
    refine q_end ?_
    refine t_norm ?_
    refine c_false hA25 rfl ?_
    refine wp_skip ?_
    refine t_norm ?_
    refine wp_seq ?_
    refine wp_region_lit ?_
    refine q_step hA25 rfl (d_assign (wn rfl) (hA25.ev (v := (.slice none 0 0)) rfl) ?_)
    intro a26 hA27
    refine q_end ?_
    refine t_norm ?_
    refine wp_seq ?_
    refine wp_region_lit ?_
    refine q_step hA27 rfl (d_assign (wn rfl) (hA27.ev (v := (.int .i64 0)) rfl) ?_)
    intro a28 hA29
    refine q_end ?_
    refine t_norm ?_
    refine wp_block ?_
    refine loop_by (fun m a' w' => ∃ (f j : Nat) (ws : List Tk) (v : Value), m = l.length - j ∧ (j ≤ l.length ∧ l.length - j < f ∧ ws.length ≤ j) ∧ toksF f l j ws = tokensR l ∧ St 112 [(0, (.string (S l))), (2, (.slice none 0 0)), (3, (.int .i64 0)), (4, (.int .i64 0)), (5, v), (6, (.int .i64 ((j : Nat) : Int)))] a' ∧ Below w.heap.size w w' ∧ w'.ownsRow w.heap.size 33 4 v ws.length (ws.flatMap tokE)) (l.length - 0) ⟨l.length + 1, 0, [], .slice none 0 0, rfl, ⟨by omega, by omega, by simp⟩, (tokens_short (by omega)).symm, hA29.cut _ (fm_cons (hA29.get 0 _ rfl) (fm_cons (hA29.get 2 _ rfl) (fm_cons (hA29.get 3 _ rfl) (fm_cons (hA29.get 4 _ rfl) (fm_cons (hA29.get 5 _ rfl) (fm_cons (hA29.get 6 _ rfl) fm_nil)))))), b0, ⟨rfl, .inl ⟨rfl, rfl⟩⟩⟩ ?_
    rintro m30 a31 w32 ⟨f33, j34, ws35, v36, hm37, ⟨hj1, hj2, hj3⟩, htk, hA38, b39, ho40⟩
    obtain ⟨f', rfl⟩ : ∃ f', f33 = f' + 1 := ⟨f33 - 1, by omega⟩
    refine wp_block ?_
    refine wp_seq ?_
    refine wp_region_lit ?_
    refine q_step hA38 rfl (d_move (wn rfl) (hA38.ev (v := (.string (S l))) rfl) ?_)
    intro a41 hA42
    refine q_step hA42 rfl (d_move (wn rfl) (hA42.ev (v := (.int .i64 ((j34 : Nat) : Int))) rfl) ?_)
    intro a43 hA44
    refine q_step hA44 rfl (d_call (wn rfl) ent27 (map2 (hA44.ev (v := (.string (S l))) rfl) (hA44.ev (v := (.int .i64 ((j34 : Nat) : Int))) rfl)) (rblank_any l j34 w32 (by omega) (by omega)) ?_)
    rintro e48 w45 ⟨he47, hG46⟩
    rcases Bool.eq_false_or_eq_true ((skipL (List.drop j34 l)).2) with hk49 | hk49
    · skip
      have b50 := below_grow b39 hG46 b39.size
      have ho51 := own_grow hG46 ho40
      have hsl := skip_le (List.drop j34 l)
      rw [List.length_drop] at hsl
      refine ⟨(.tuple #[(.int .i64 ((j34 + (skipL (List.drop j34 l)).1 : Nat) : Int)), (.int .i64 24)]), he47.trans (by rw [hk49]; rfl), ?_⟩
      intro a52 hA53
      refine q_step hA53 rfl (d_move (wn rfl) (hA53.ev (v := (.tuple #[(.int .i64 ((j34 + (skipL (List.drop j34 l)).1 : Nat) : Int)), (.int .i64 24)])) rfl) ?_)
      intro a54 hA55
      refine q_step hA55 rfl (d_extract (v := (.int .i64 ((j34 + (skipL (List.drop j34 l)).1 : Nat) : Int))) (wn rfl) (hA55.ev (v := (.tuple #[(.int .i64 ((j34 + (skipL (List.drop j34 l)).1 : Nat) : Int)), (.int .i64 24)])) rfl) rfl ?_)
      intro a56 hA57
      refine q_step hA57 rfl (d_extract (v := (.int .i64 24)) (wn rfl) (hA57.ev (v := (.tuple #[(.int .i64 ((j34 + (skipL (List.drop j34 l)).1 : Nat) : Int)), (.int .i64 24)])) rfl) rfl ?_)
      intro a58 hA59
      refine q_step hA59 rfl (d_assign (wn rfl) (hA59.ev (v := (.int .i64 ((j34 + (skipL (List.drop j34 l)).1 : Nat) : Int))) rfl) ?_)
      intro a60 hA61
      refine q_step hA61 rfl (d_assign (wn rfl) (hA61.ev (v := (.int .i64 24)) rfl) ?_)
      intro a62 hA63
      refine q_end ?_
      refine t_norm ?_
      refine wp_seq ?_
      refine wp_seq ?_
      refine wp_region_lit ?_
      refine q_step hA63 rfl (d_move (wn rfl) (hA63.ev (v := (.int .i64 24)) rfl) ?_)
      intro a64 hA65
      refine q_step hA65 rfl (d_bin (wn rfl) (hA65.ev (v := (.int .i64 24)) rfl) (hA65.ev (v := (.int .i64 0)) rfl) (b_ne _ _ 24 0 true _ (notof rfl)) ?_)
      intro a66 hA67
      refine q_end ?_
      refine t_norm ?_
      refine c_true hA67 rfl ?_
      refine wp_seq ?_
      refine wp_region_lit ?_
      refine q_step hA67 rfl (d_move (wn rfl) (hA67.ev (v := (.int .i64 24)) rfl) ?_)
      intro a68 hA69
      refine q_step hA69 rfl (d_move (wn rfl) (hA69.ev (v := (.int .i64 ((j34 + (skipL (List.drop j34 l)).1 : Nat) : Int))) rfl) ?_)
      intro a70 hA71
      refine q_step hA71 rfl (d_assign (wn rfl) (hA71.ev (v := (.slice none 0 0)) rfl) ?_)
      intro a72 hA73
      refine q_step hA73 rfl (d_assign (wn rfl) (hA73.ev (v := (.int .i64 24)) rfl) ?_)
      intro a74 hA75
      refine q_step hA75 rfl (d_assign (wn rfl) (hA75.ev (v := (.int .i64 ((j34 + (skipL (List.drop j34 l)).1 : Nat) : Int))) rfl) ?_)
      intro a76 hA77
      refine q_end ?_
      refine t_norm ?_
      refine wp_ret ?_
      refine t_ret ?_
      refine i_ret ?_
      refine t_ret ?_
      refine i_ret ?_
      refine ret3 (x := (.slice none 0 0)) (y := (.int .i64 24)) (z := (.int .i64 ((j34 + (skipL (List.drop j34 l)).1 : Nat) : Int))) rfl hA77 rfl rfl rfl ?_
      rw [tf_rem hk49] at htk
      exact ⟨_, by rw [← htk] <;> rfl, by rw [← htk]; exact ⟨rfl, .inl ⟨rfl, rfl⟩⟩, b50⟩
    · skip
      have b78 := below_grow b39 hG46 b39.size
      have ho79 := own_grow hG46 ho40
      have hsl := skip_le (List.drop j34 l)
      rw [List.length_drop] at hsl
      refine ⟨(.tuple #[(.int .i64 ((j34 + (skipL (List.drop j34 l)).1 : Nat) : Int)), (.int .i64 0)]), he47.trans (by rw [hk49]; rfl), ?_⟩
      intro a80 hA81
      refine q_step hA81 rfl (d_move (wn rfl) (hA81.ev (v := (.tuple #[(.int .i64 ((j34 + (skipL (List.drop j34 l)).1 : Nat) : Int)), (.int .i64 0)])) rfl) ?_)
      intro a82 hA83
      refine q_step hA83 rfl (d_extract (v := (.int .i64 ((j34 + (skipL (List.drop j34 l)).1 : Nat) : Int))) (wn rfl) (hA83.ev (v := (.tuple #[(.int .i64 ((j34 + (skipL (List.drop j34 l)).1 : Nat) : Int)), (.int .i64 0)])) rfl) rfl ?_)
      intro a84 hA85
      refine q_step hA85 rfl (d_extract (v := (.int .i64 0)) (wn rfl) (hA85.ev (v := (.tuple #[(.int .i64 ((j34 + (skipL (List.drop j34 l)).1 : Nat) : Int)), (.int .i64 0)])) rfl) rfl ?_)
      intro a86 hA87
      refine q_step hA87 rfl (d_assign (wn rfl) (hA87.ev (v := (.int .i64 ((j34 + (skipL (List.drop j34 l)).1 : Nat) : Int))) rfl) ?_)
      intro a88 hA89
      refine q_step hA89 rfl (d_assign (wn rfl) (hA89.ev (v := (.int .i64 0)) rfl) ?_)
      intro a90 hA91
      refine q_end ?_
      refine t_norm ?_
      refine wp_seq ?_
      refine wp_seq ?_
      refine wp_region_lit ?_
      refine q_step hA91 rfl (d_move (wn rfl) (hA91.ev (v := (.int .i64 0)) rfl) ?_)
      intro a92 hA93
      refine q_step hA93 rfl (d_bin (wn rfl) (hA93.ev (v := (.int .i64 0)) rfl) (hA93.ev (v := (.int .i64 0)) rfl) (b_ne _ _ 0 0 false _ (notof rfl)) ?_)
      intro a94 hA95
      refine q_end ?_
      refine t_norm ?_
      refine c_false hA95 rfl ?_
      refine wp_skip ?_
      refine t_norm ?_
      refine wp_seq ?_
      refine wp_region_lit ?_
      refine q_step hA95 rfl (d_move (wn rfl) (hA95.ev (v := (.int .i64 ((j34 + (skipL (List.drop j34 l)).1 : Nat) : Int))) rfl) ?_)
      intro a96 hA97
      refine q_step hA97 rfl (d_assign (wn rfl) (hA97.ev (v := (.int .i64 ((j34 + (skipL (List.drop j34 l)).1 : Nat) : Int))) rfl) ?_)
      intro a98 hA99
      refine q_end ?_
      refine t_norm ?_
      refine wp_seq ?_
      refine wp_seq ?_
      refine wp_region_lit ?_
      refine q_step hA99 rfl (d_move (wn rfl) (hA99.ev (v := (.int .i64 ((j34 + (skipL (List.drop j34 l)).1 : Nat) : Int))) rfl) ?_)
      intro a100 hA101
      refine q_step hA101 rfl (d_move (wn rfl) (hA101.ev (v := (.string (S l))) rfl) ?_)
      intro a102 hA103
      refine q_step hA103 rfl (d_slen (wn rfl) (hA103.ev (v := (.string (S l))) rfl) str9 ?_)
      intro a104 hA105
      rcases Bool.eq_false_or_eq_true (decide (((j34 + (skipL (List.drop j34 l)).1 : Nat) : Int) ≥ ((l.length : Nat) : Int))) with hb106 | hb106
      · skip
        have hq107 := of_decide_eq_true hb106
        refine q_step hA105 rfl (d_bin (wn rfl) (hA105.ev (v := (.int .i64 ((j34 + (skipL (List.drop j34 l)).1 : Nat) : Int))) rfl) (hA105.ev (v := (.int .i64 ((l.length : Nat) : Int))) rfl) (b_ge _ _ ((j34 + (skipL (List.drop j34 l)).1 : Nat) : Int) ((l.length : Nat) : Int) true _ hb106) ?_)
        intro a108 hA109
        refine q_end ?_
        refine t_norm ?_
        refine c_true hA109 rfl ?_
        refine wp_seq ?_
        refine wp_region_lit ?_
        refine q_step hA109 rfl (d_move (wn rfl) (hA109.ev (v := v36) rfl) ?_)
        intro a110 hA111
        refine q_step hA111 rfl (d_assign (wn rfl) (hA111.ev (v := v36) rfl) ?_)
        intro a112 hA113
        refine q_step hA113 rfl (d_assign (wn rfl) (hA113.ev (v := (.int .i64 0)) rfl) ?_)
        intro a114 hA115
        refine q_step hA115 rfl (d_assign (wn rfl) (hA115.ev (v := (.int .i64 0)) rfl) ?_)
        intro a116 hA117
        refine q_end ?_
        refine t_norm ?_
        refine wp_ret ?_
        refine t_ret ?_
        refine i_ret ?_
        refine t_ret ?_
        refine i_ret ?_
        refine ret3 (x := v36) (y := (.int .i64 0)) (z := (.int .i64 0)) rfl hA117 rfl rfl rfl ?_
        rw [tf_end hk49 (by omega)] at htk
        exact ⟨_, by rw [← htk] <;> rfl, by rw [← htk]; exact ho79, b78⟩
      · skip
        have hq118 := of_decide_eq_false hb106
        refine q_step hA105 rfl (d_bin (wn rfl) (hA105.ev (v := (.int .i64 ((j34 + (skipL (List.drop j34 l)).1 : Nat) : Int))) rfl) (hA105.ev (v := (.int .i64 ((l.length : Nat) : Int))) rfl) (b_ge _ _ ((j34 + (skipL (List.drop j34 l)).1 : Nat) : Int) ((l.length : Nat) : Int) false _ hb106) ?_)
        intro a119 hA120
        refine q_end ?_
        refine t_norm ?_
        refine c_false hA120 rfl ?_
        refine wp_skip ?_
        refine t_norm ?_
        refine wp_seq ?_
        refine wp_region_lit ?_
        refine q_step hA120 rfl (d_move (wn rfl) (hA120.ev (v := (.string (S l))) rfl) ?_)
        intro a121 hA122
        refine q_step hA122 rfl (d_move (wn rfl) (hA122.ev (v := (.int .i64 ((j34 + (skipL (List.drop j34 l)).1 : Nat) : Int))) rfl) ?_)
        intro a123 hA124
        obtain ⟨y125, hy126⟩ : ∃ y125, l[j34 + (skipL (List.drop j34 l)).1]? = some y125 := ⟨_, List.getElem?_eq_getElem (show j34 + (skipL (List.drop j34 l)).1 < l.length by omega)⟩
        refine q_step hA124 rfl (d_sat (j := j34 + (skipL (List.drop j34 l)).1) (wn rfl) (hA124.ev (v := (.string (S l))) rfl) (hA124.ev (v := (.int .i64 ((j34 + (skipL (List.drop j34 l)).1 : Nat) : Int))) rfl) str9 hy126 ?_)
        intro a127 hA128
        refine q_step hA128 rfl (d_assign (wn rfl) (hA128.ev (v := (.int .u8 ((y125.toNat : Nat) : Int))) rfl) ?_)
        intro a129 hA130
        have hpos : rn numB (List.drop (j34 + (skipL (List.drop j34 l)).1) l) = 0 ∨ 0 < rn numB (List.drop (j34 + (skipL (List.drop j34 l)).1) l) := by omega
        refine q_end ?_
        refine t_norm ?_
        refine wp_seq ?_
        refine wp_region_lit ?_
        refine q_step hA130 rfl (d_move (wn rfl) (hA130.ev (v := (.int .i64 ((j34 + (skipL (List.drop j34 l)).1 : Nat) : Int))) rfl) ?_)
        intro a131 hA132
        refine q_step hA132 rfl (d_build (cs := #[.int .i64 0, .string (S []), .int .i64 0, .int .i64 ((j34 + (skipL (List.drop j34 l)).1 : Nat) : Int)]) (wn rfl) (bp_of (bq_cons (hA132.ev (v := (.int .i64 ((j34 + (skipL (List.drop j34 l)).1 : Nat) : Int))) rfl) bq_nil)) zero33 places33 (by kernel_rfl) ?_)
        intro a133 hA134
        refine q_step hA134 rfl (d_alloc (wn rfl) zero33 ?_)
        intro g135 w136 eg137 hG138 (m139 : Blk w136 g135 #[.int .i64 0, .string (S []), .int .i64 0, .int .i64 0] 33)
        have ge140 : w.heap.size ≤ g135 := eg137 ▸ b78.size
        have off141 := own_new ho79 eg137
        have b142 := below_grow b78 hG138 b78.size
        have ho143 := own_grow hG138 ho79
        intro a144 hA145
        refine q_step hA145 rfl (d_storeRow (wn rfl) (hA145.ev (v := (.pointer (some ⟨g135, 0, none⟩))) rfl) (hA145.ev (v := (.agg #[.int .i64 0, .string (S []), .int .i64 0, .int .i64 ((j34 + (skipL (List.drop j34 l)).1 : Nat) : Int)])) rfl) row33 m139 rfl rfl ?_)
        intro w146 hU147 (m148 : Blk w146 g135 #[.int .i64 0, .string (S []), .int .i64 0, .int .i64 ((j34 + (skipL (List.drop j34 l)).1 : Nat) : Int)] 33)
        have b149 := hU147.below b142 ge140
        have ho150 := own_upd ho143 hU147 off141
        intro a151 hA152
        refine q_end ?_
        refine t_norm ?_
        refine wp_seq ?_
        refine wp_region_lit ?_
        refine q_step hA152 rfl (d_move (wn rfl) (hA152.ev (v := (.int .i64 ((j34 + (skipL (List.drop j34 l)).1 : Nat) : Int))) rfl) ?_)
        intro a153 hA154
        refine q_step hA154 rfl (d_bin (wn rfl) (hA154.ev (v := (.int .i64 ((j34 + (skipL (List.drop j34 l)).1 : Nat) : Int))) rfl) (hA154.ev (v := (.int .i64 1)) rfl) (b_addE (j34 + (skipL (List.drop j34 l)).1 + 1) (by omega) (by omega)) ?_)
        intro a155 hA156
        refine q_step hA156 rfl (d_assign (wn rfl) (hA156.ev (v := (.int .i64 ((j34 + (skipL (List.drop j34 l)).1 + 1 : Nat) : Int))) rfl) ?_)
        intro a157 hA158
        refine q_end ?_
        refine t_norm ?_
        refine wp_seq ?_
        refine wp_block ?_
        refine wp_seq ?_
        refine wp_region_lit ?_
        refine q_step hA158 rfl (d_move (wn rfl) (hA158.ev (v := (.int .u8 ((y125.toNat : Nat) : Int))) rfl) ?_)
        intro a159 hA160
        refine q_step hA160 rfl (d_call (wn rfl) ent28 (map1 (hA160.ev (v := (.int .u8 ((y125.toNat : Nat) : Int))) rfl)) (rdigit_any y125 w146) ?_)
        rintro e164 w161 ⟨he163, hG162⟩
        have m165 := m148.grow hG162
        have b166 := below_grow b149 hG162 b149.size
        have ho167 := own_grow hG162 ho150
        rcases Bool.eq_false_or_eq_true (digB y125) with hb168 | hb168
        · skip
          have hq169 := of_decide_eq_true hb168
          refine ⟨.bool true, he163.trans (ret_bool hb168), ?_⟩
          intro a170 hA171
          refine q_step hA171 rfl (d_assign (wn rfl) (hA171.ev (v := (.bool true)) rfl) ?_)
          intro a172 hA173
          refine q_end ?_
          refine t_norm ?_
          refine c_true hA173 rfl ?_
          refine wp_seq ?_
          refine wp_region_lit ?_
          refine q_step hA173 rfl (d_move (wn rfl) (hA173.ev (v := (.string (S l))) rfl) ?_)
          intro a174 hA175
          refine q_step hA175 rfl (d_move (wn rfl) (hA175.ev (v := (.int .i64 ((j34 + (skipL (List.drop j34 l)).1 : Nat) : Int))) rfl) ?_)
          intro a176 hA177
          have hrn := rn_le numB (List.drop (j34 + (skipL (List.drop j34 l)).1) l)
          rw [List.length_drop] at hrn
          refine q_step hA177 rfl (d_call (wn rfl) ent29 (map3 (hA177.ev (v := (.string (S l))) rfl) (hA177.ev (v := (.int .i64 ((j34 + (skipL (List.drop j34 l)).1 : Nat) : Int))) rfl) (hA177.ev (v := (.bool false)) rfl)) (rrun_false l (j34 + (skipL (List.drop j34 l)).1) w161 (by omega) (by omega)) ?_)
          rintro e181 w178 ⟨he180, hG179⟩
          have m182 := m165.grow hG179
          have b183 := below_grow b166 hG179 b166.size
          have ho184 := own_grow hG179 ho167
          refine ⟨(.int .i64 ((j34 + (skipL (List.drop j34 l)).1 + rn numB (List.drop (j34 + (skipL (List.drop j34 l)).1) l) : Nat) : Int)), he180, ?_⟩
          intro a185 hA186
          refine q_step hA186 rfl (d_assign (wn rfl) (hA186.ev (v := (.int .i64 ((j34 + (skipL (List.drop j34 l)).1 + rn numB (List.drop (j34 + (skipL (List.drop j34 l)).1) l) : Nat) : Int))) rfl) ?_)
          intro a187 hA188
          have hps := rn_pos (p := numB) (at_zero hy126) (by unfold numB; rw [hb168, Bool.or_true])
          refine q_end ?_
          refine t_norm ?_
          refine wp_seq ?_
          refine wp_region_lit ?_
          refine q_step hA188 rfl (d_move (wn rfl) (hA188.ev (v := (.string (S l))) rfl) ?_)
          intro a189 hA190
          refine q_step hA190 rfl (d_move (wn rfl) (hA190.ev (v := (.int .i64 ((j34 + (skipL (List.drop j34 l)).1 : Nat) : Int))) rfl) ?_)
          intro a191 hA192
          refine q_step hA192 rfl (d_move (wn rfl) (hA192.ev (v := (.int .i64 ((j34 + (skipL (List.drop j34 l)).1 + rn numB (List.drop (j34 + (skipL (List.drop j34 l)).1) l) : Nat) : Int))) rfl) ?_)
          intro a193 hA194
          refine q_step hA194 rfl (d_spart2 (m := j34 + (skipL (List.drop j34 l)).1) (n := rn numB (List.drop (j34 + (skipL (List.drop j34 l)).1) l)) (wn rfl) (hA194.ev (v := (.string (S l))) rfl) (hA194.ev (v := (.int .i64 ((j34 + (skipL (List.drop j34 l)).1 : Nat) : Int))) rfl) (hA194.ev (v := (.int .i64 ((j34 + (skipL (List.drop j34 l)).1 + rn numB (List.drop (j34 + (skipL (List.drop j34 l)).1) l) : Nat) : Int))) rfl) str9 (by omega) ?_)
          intro a195 hA196
          refine q_step hA196 rfl (d_call (wn rfl) ent30 (map1 (hA196.ev (v := (.string (S (List.take (rn numB (List.drop (j34 + (skipL (List.drop j34 l)).1) l)) (List.drop (j34 + (skipL (List.drop j34 l)).1) l))))) rfl)) (rvalue_or (List.take (rn numB (List.drop (j34 + (skipL (List.drop j34 l)).1) l)) (List.drop (j34 + (skipL (List.drop j34 l)).1) l)) w178 (by rw [List.length_take, List.length_drop]; omega)) ?_)
          rintro e200 w197 ⟨⟨n201, hv202, he199⟩ | ⟨hv202, he199⟩, hG198⟩
          · skip
            have m203 := m182.grow hG198
            have b204 := below_grow b183 hG198 b183.size
            have ho205 := own_grow hG198 ho184
            refine ⟨(.tuple #[(.int .i64 n201), (.bool true)]), he199, ?_⟩
            intro a206 hA207
            refine q_step hA207 rfl (d_move (wn rfl) (hA207.ev (v := (.tuple #[(.int .i64 n201), (.bool true)])) rfl) ?_)
            intro a208 hA209
            refine q_step hA209 rfl (d_extract (v := (.int .i64 n201)) (wn rfl) (hA209.ev (v := (.tuple #[(.int .i64 n201), (.bool true)])) rfl) rfl ?_)
            intro a210 hA211
            refine q_step hA211 rfl (d_extract (v := (.bool true)) (wn rfl) (hA211.ev (v := (.tuple #[(.int .i64 n201), (.bool true)])) rfl) rfl ?_)
            intro a212 hA213
            refine q_step hA213 rfl (d_assign (wn rfl) (hA213.ev (v := (.int .i64 n201)) rfl) ?_)
            intro a214 hA215
            refine q_step hA215 rfl (d_assign (wn rfl) (hA215.ev (v := (.bool true)) rfl) ?_)
            intro a216 hA217
            refine q_end ?_
            have hA218 : St 112 [(0, (.string (S l))), (2, (.slice none 0 0)), (3, (.int .i64 0)), (4, (.int .i64 0)), (5, v36), (6, (.int .i64 ((j34 + (skipL (List.drop j34 l)).1 : Nat) : Int))), (10, (.pointer (some ⟨g135, 0, none⟩))), (11, (.int .i64 ((j34 + (skipL (List.drop j34 l)).1 + rn numB (List.drop (j34 + (skipL (List.drop j34 l)).1) l) : Nat) : Int))), (12, (.int .i64 n201)), (13, (.bool true))] a216 := hA217.cut _ (fm_cons (hA217.get 0 _ rfl) (fm_cons (hA217.get 2 _ rfl) (fm_cons (hA217.get 3 _ rfl) (fm_cons (hA217.get 4 _ rfl) (fm_cons (hA217.get 5 _ rfl) (fm_cons (hA217.get 6 _ rfl) (fm_cons (hA217.get 10 _ rfl) (fm_cons (hA217.get 11 _ rfl) (fm_cons (hA217.get 12 _ rfl) (fm_cons (hA217.get 13 _ rfl) fm_nil))))))))))
            refine t_norm ?_
            refine wp_seq ?_
            refine wp_seq ?_
            refine wp_region_lit ?_
            refine q_step hA218 rfl (d_move (wn rfl) (hA218.ev (v := (.bool true)) rfl) ?_)
            intro a219 hA220
            refine q_step hA220 rfl (d_not (wn rfl) (hA220.ev (v := (.bool true)) rfl) ?_)
            intro a221 hA222
            refine q_end ?_
            refine t_norm ?_
            refine c_false hA222 rfl ?_
            refine wp_skip ?_
            refine t_norm ?_
            refine wp_seq ?_
            refine wp_region_lit ?_
            refine q_step hA222 rfl (d_fieldAddr (wn rfl) (hA222.ev (v := (.pointer (some ⟨g135, 0, none⟩))) rfl) fo33_0 ?_)
            intro a223 hA224
            refine q_step hA224 rfl (d_store (wn rfl) (hA224.ev (v := (.pointer (some ⟨g135, 0, none⟩))) rfl) (hA224.ev (v := (.int .i64 2)) rfl) one3 rfl m203 (Nat.le_of_ble_eq_true rfl) ?_)
            intro w225 hU226 (m227 : Blk w225 g135 #[.int .i64 2, .string (S []), .int .i64 0, .int .i64 ((j34 + (skipL (List.drop j34 l)).1 : Nat) : Int)] 33)
            have b228 := hU226.below b204 ge140
            have ho229 := own_upd ho205 hU226 off141
            intro a230 hA231
            refine q_end ?_
            refine t_norm ?_
            refine wp_region_lit ?_
            refine q_step hA231 rfl (d_move (wn rfl) (hA231.ev (v := (.int .i64 n201)) rfl) ?_)
            intro a232 hA233
            refine q_step hA233 rfl (d_fieldAddr (wn rfl) (hA233.ev (v := (.pointer (some ⟨g135, 0, none⟩))) rfl) fo33_2 ?_)
            intro a234 hA235
            refine q_step hA235 rfl (d_store (wn rfl) (hA235.ev (v := (.pointer (some ⟨g135, 2, none⟩))) rfl) (hA235.ev (v := (.int .i64 n201)) rfl) one3 rfl m227 (Nat.le_of_ble_eq_true rfl) ?_)
            intro w236 hU237 (m238 : Blk w236 g135 #[.int .i64 2, .string (S []), .int .i64 n201, .int .i64 ((j34 + (skipL (List.drop j34 l)).1 : Nat) : Int)] 33)
            have b239 := hU237.below b228 ge140
            have ho240 := own_upd ho229 hU237 off141
            intro a241 hA242
            refine q_end ?_
            refine i_norm ?_
            refine t_norm ?_
            refine wp_seq ?_
            refine wp_region_lit ?_
            refine q_step hA242 rfl (d_move (wn rfl) (hA242.ev (v := (.string (S l))) rfl) ?_)
            intro a243 hA244
            refine q_step hA244 rfl (d_move (wn rfl) (hA244.ev (v := (.int .i64 ((j34 + (skipL (List.drop j34 l)).1 : Nat) : Int))) rfl) ?_)
            intro a245 hA246
            refine q_step hA246 rfl (d_move (wn rfl) (hA246.ev (v := (.int .i64 ((j34 + (skipL (List.drop j34 l)).1 + rn numB (List.drop (j34 + (skipL (List.drop j34 l)).1) l) : Nat) : Int))) rfl) ?_)
            intro a247 hA248
            refine q_step hA248 rfl (d_spart2 (m := j34 + (skipL (List.drop j34 l)).1) (n := rn numB (List.drop (j34 + (skipL (List.drop j34 l)).1) l)) (wn rfl) (hA248.ev (v := (.string (S l))) rfl) (hA248.ev (v := (.int .i64 ((j34 + (skipL (List.drop j34 l)).1 : Nat) : Int))) rfl) (hA248.ev (v := (.int .i64 ((j34 + (skipL (List.drop j34 l)).1 + rn numB (List.drop (j34 + (skipL (List.drop j34 l)).1) l) : Nat) : Int))) rfl) str9 (by omega) ?_)
            intro a249 hA250
            refine q_step hA250 rfl (d_fieldAddr (wn rfl) (hA250.ev (v := (.pointer (some ⟨g135, 0, none⟩))) rfl) fo33_1 ?_)
            intro a251 hA252
            refine q_step hA252 rfl (d_store (wn rfl) (hA252.ev (v := (.pointer (some ⟨g135, 1, none⟩))) rfl) (hA252.ev (v := (.string (S (List.take (rn numB (List.drop (j34 + (skipL (List.drop j34 l)).1) l)) (List.drop (j34 + (skipL (List.drop j34 l)).1) l))))) rfl) one9 rfl m238 (Nat.le_of_ble_eq_true rfl) ?_)
            intro w253 hU254 (m255 : Blk w253 g135 #[.int .i64 2, .string (S (List.take (rn numB (List.drop (j34 + (skipL (List.drop j34 l)).1) l)) (List.drop (j34 + (skipL (List.drop j34 l)).1) l))), .int .i64 n201, .int .i64 ((j34 + (skipL (List.drop j34 l)).1 : Nat) : Int)] 33)
            have b256 := hU254.below b239 ge140
            have ho257 := own_upd ho240 hU254 off141
            intro a258 hA259
            refine q_end ?_
            refine t_norm ?_
            refine wp_seq ?_
            refine wp_region_lit ?_
            refine q_step hA259 rfl (d_move (wn rfl) (hA259.ev (v := v36) rfl) ?_)
            intro a260 hA261
            refine q_step hA261 rfl (d_loadRow (cs := #[.int .i64 2, .string (S (List.take (rn numB (List.drop (j34 + (skipL (List.drop j34 l)).1) l)) (List.drop (j34 + (skipL (List.drop j34 l)).1) l))), .int .i64 n201, .int .i64 ((j34 + (skipL (List.drop j34 l)).1 : Nat) : Int)]) (wn rfl) (hA261.ev (v := (.pointer (some ⟨g135, 0, none⟩))) rfl) row33 m255 ?_)
            intro a262 hA263
            refine q_step hA263 rfl (d_slice1 (wn rfl) (hA263.ev (v := (.agg #[.int .i64 2, .string (S (List.take (rn numB (List.drop (j34 + (skipL (List.drop j34 l)).1) l)) (List.drop (j34 + (skipL (List.drop j34 l)).1) l))), .int .i64 n201, .int .i64 ((j34 + (skipL (List.drop j34 l)).1 : Nat) : Int)])) rfl) elm23 rfl (by decide) ?_)
            intro g264 w265 eg266 hG267 (m268 : Blk w265 g264 #[.int .i64 2, .string (S (List.take (rn numB (List.drop (j34 + (skipL (List.drop j34 l)).1) l)) (List.drop (j34 + (skipL (List.drop j34 l)).1) l))), .int .i64 n201, .int .i64 ((j34 + (skipL (List.drop j34 l)).1 : Nat) : Int)] 33)
            have ge269 : w.heap.size ≤ g264 := eg266 ▸ b256.size
            have n270 : g135 ≠ g264 := fun h => Nat.lt_irrefl _ ((h.trans eg266) ▸ m255.lt)
            have off271 := own_new ho257 eg266
            have m272 := m255.grow hG267
            have b273 := below_grow b256 hG267 b256.size
            have ho274 := own_grow hG267 ho257
            intro a275 hA276
            refine q_step hA276 rfl (d_append (wn rfl) (hA276.ev (v := v36) rfl) (hA276.ev (v := (.slice (some ⟨g264, 0, none⟩) 1 1)) rfl) elm23 ho274 m268 rfl rfl (by omega) (by decide) b273.size ?_)
            intro v277 w278 ho279 hg280 hl281
            have b282 := below_by b273 hg280 b273.size (fun k hk => (own_lt ho274 k hk).1)
            have m283 := m272.by hg280 off141
            have off284 := lies_ne hl281 off141 m272.lt
            intro a285 hA286
            refine q_step hA286 rfl (d_assign (wn rfl) (hA286.ev (v := v277) rfl) ?_)
            intro a287 hA288
            refine q_end ?_
            refine t_norm ?_
            refine wp_region_lit ?_
            refine q_step hA288 rfl (d_move (wn rfl) (hA288.ev (v := (.int .i64 ((j34 + (skipL (List.drop j34 l)).1 + rn numB (List.drop (j34 + (skipL (List.drop j34 l)).1) l) : Nat) : Int))) rfl) ?_)
            intro a289 hA290
            refine q_step hA290 rfl (d_assign (wn rfl) (hA290.ev (v := (.int .i64 ((j34 + (skipL (List.drop j34 l)).1 + rn numB (List.drop (j34 + (skipL (List.drop j34 l)).1) l) : Nat) : Int))) rfl) ?_)
            intro a291 hA292
            refine q_end ?_
            refine i_norm ?_
            refine t_norm ?_
            have hF := first_num (at_zero hy126) hb168 hv202
            have hgo := tf_go (f := f') (ws := ws35) hk49 (by omega) (by rw [hF])
            rw [hF] at hgo
            rw [hgo] at htk
            have hlen : (List.take (rn numB (List.drop (j34 + (skipL (List.drop j34 l)).1) l)) (List.drop (j34 + (skipL (List.drop j34 l)).1) l)).length = rn numB (List.drop (j34 + (skipL (List.drop j34 l)).1) l) := by rw [List.length_take, List.length_drop]; omega
            exact ⟨l.length - (j34 + (skipL (List.drop j34 l)).1 + (List.take (rn numB (List.drop (j34 + (skipL (List.drop j34 l)).1) l)) (List.drop (j34 + (skipL (List.drop j34 l)).1) l)).length), (by rw [hm37]; omega), f', j34 + (skipL (List.drop j34 l)).1 + (List.take (rn numB (List.drop (j34 + (skipL (List.drop j34 l)).1) l)) (List.drop (j34 + (skipL (List.drop j34 l)).1) l)).length, ws35 ++ [(⟨2, List.take (rn numB (List.drop (j34 + (skipL (List.drop j34 l)).1) l)) (List.drop (j34 + (skipL (List.drop j34 l)).1) l), n201, ((j34 + (skipL (List.drop j34 l)).1 : Nat) : Int)⟩ : Tk)], v277, rfl, ⟨by omega, by omega, by rw [List.length_append, List.length_singleton]; omega⟩, htk, hA292.cut _ (fm_cons (hA292.get 0 _ rfl) (fm_cons (hA292.get 2 _ rfl) (fm_cons (hA292.get 3 _ rfl) (fm_cons (hA292.get 4 _ rfl) (fm_cons (hA292.get 5 _ rfl) (fm_cons ((hA292.get 6 _ rfl).trans (congrArg (Value.int .i64) (by omega))) fm_nil)))))), b282, by rw [List.length_append, List.length_singleton, ← flat_tok]; exact ho279⟩
          · skip
            have m293 := m182.grow hG198
            have b294 := below_grow b183 hG198 b183.size
            have ho295 := own_grow hG198 ho184
            refine ⟨(.tuple #[(.int .i64 0), (.bool false)]), he199, ?_⟩
            intro a296 hA297
            refine q_step hA297 rfl (d_move (wn rfl) (hA297.ev (v := (.tuple #[(.int .i64 0), (.bool false)])) rfl) ?_)
            intro a298 hA299
            refine q_step hA299 rfl (d_extract (v := (.int .i64 0)) (wn rfl) (hA299.ev (v := (.tuple #[(.int .i64 0), (.bool false)])) rfl) rfl ?_)
            intro a300 hA301
            refine q_step hA301 rfl (d_extract (v := (.bool false)) (wn rfl) (hA301.ev (v := (.tuple #[(.int .i64 0), (.bool false)])) rfl) rfl ?_)
            intro a302 hA303
            refine q_step hA303 rfl (d_assign (wn rfl) (hA303.ev (v := (.int .i64 0)) rfl) ?_)
            intro a304 hA305
            refine q_step hA305 rfl (d_assign (wn rfl) (hA305.ev (v := (.bool false)) rfl) ?_)
            intro a306 hA307
            refine q_end ?_
            have hA308 : St 112 [(0, (.string (S l))), (2, (.slice none 0 0)), (3, (.int .i64 0)), (4, (.int .i64 0)), (5, v36), (6, (.int .i64 ((j34 + (skipL (List.drop j34 l)).1 : Nat) : Int))), (10, (.pointer (some ⟨g135, 0, none⟩))), (11, (.int .i64 ((j34 + (skipL (List.drop j34 l)).1 + rn numB (List.drop (j34 + (skipL (List.drop j34 l)).1) l) : Nat) : Int))), (12, (.int .i64 0)), (13, (.bool false))] a306 := hA307.cut _ (fm_cons (hA307.get 0 _ rfl) (fm_cons (hA307.get 2 _ rfl) (fm_cons (hA307.get 3 _ rfl) (fm_cons (hA307.get 4 _ rfl) (fm_cons (hA307.get 5 _ rfl) (fm_cons (hA307.get 6 _ rfl) (fm_cons (hA307.get 10 _ rfl) (fm_cons (hA307.get 11 _ rfl) (fm_cons (hA307.get 12 _ rfl) (fm_cons (hA307.get 13 _ rfl) fm_nil))))))))))
            refine t_norm ?_
            refine wp_seq ?_
            refine wp_seq ?_
            refine wp_region_lit ?_
            refine q_step hA308 rfl (d_move (wn rfl) (hA308.ev (v := (.bool false)) rfl) ?_)
            intro a309 hA310
            refine q_step hA310 rfl (d_not (wn rfl) (hA310.ev (v := (.bool false)) rfl) ?_)
            intro a311 hA312
            refine q_end ?_
            refine t_norm ?_
            refine c_true hA312 rfl ?_
            refine wp_seq ?_
            refine wp_region_lit ?_
            refine q_step hA312 rfl (d_move (wn rfl) (hA312.ev (v := (.int .i64 ((j34 + (skipL (List.drop j34 l)).1 : Nat) : Int))) rfl) ?_)
            intro a313 hA314
            refine q_step hA314 rfl (d_assign (wn rfl) (hA314.ev (v := (.slice none 0 0)) rfl) ?_)
            intro a315 hA316
            refine q_step hA316 rfl (d_assign (wn rfl) (hA316.ev (v := (.int .i64 23)) rfl) ?_)
            intro a317 hA318
            refine q_step hA318 rfl (d_assign (wn rfl) (hA318.ev (v := (.int .i64 ((j34 + (skipL (List.drop j34 l)).1 : Nat) : Int))) rfl) ?_)
            intro a319 hA320
            refine q_end ?_
            refine t_norm ?_
            refine wp_ret ?_
            refine t_ret ?_
            refine i_ret ?_
            refine t_ret ?_
            refine i_ret ?_
            refine t_ret ?_
            refine i_ret ?_
            refine ret3 (x := (.slice none 0 0)) (y := (.int .i64 23)) (z := (.int .i64 ((j34 + (skipL (List.drop j34 l)).1 : Nat) : Int))) rfl hA320 rfl rfl rfl ?_
            have hF := first_bad (at_zero hy126) hb168 hv202
            rw [tf_bad hk49 (by omega) (by rw [hF]; decide), hF] at htk
            exact ⟨_, by rw [← htk] <;> rfl, by rw [← htk]; exact ⟨rfl, .inl ⟨rfl, rfl⟩⟩, b294⟩
        · skip
          have hq321 := of_decide_eq_false hb168
          refine ⟨.bool false, he163.trans (ret_bool hb168), ?_⟩
          intro a322 hA323
          refine q_step hA323 rfl (d_assign (wn rfl) (hA323.ev (v := (.bool false)) rfl) ?_)
          intro a324 hA325
          refine q_end ?_
          refine t_norm ?_
          refine c_false hA325 rfl ?_
          refine wp_seq ?_
          refine wp_region_lit ?_
          refine q_step hA325 rfl (d_move (wn rfl) (hA325.ev (v := (.int .u8 ((y125.toNat : Nat) : Int))) rfl) ?_)
          intro a326 hA327
          refine q_step hA327 rfl (d_call (wn rfl) ent31 (map1 (hA327.ev (v := (.int .u8 ((y125.toNat : Nat) : Int))) rfl)) (rletter_any y125 w161) ?_)
          rintro e331 w328 ⟨he330, hG329⟩
          have m332 := m165.grow hG329
          have b333 := below_grow b166 hG329 b166.size
          have ho334 := own_grow hG329 ho167
          rcases Bool.eq_false_or_eq_true (letB y125) with hb335 | hb335
          · skip
            have hq336 := of_decide_eq_true hb335
            refine ⟨.bool true, he330.trans (ret_bool hb335), ?_⟩
            intro a337 hA338
            refine q_step hA338 rfl (d_move (wn rfl) (hA338.ev (v := (.bool true)) rfl) ?_)
            intro a339 hA340
            refine q_step hA340 rfl (does_not (wno rfl rfl (.inl (hA340.get 64 _ rfl))) ?_)
            intro a341 hA342
            refine q_step hA342 rfl (does_not (wno rfl rfl (.inl (hA342.get 64 _ rfl))) ?_)
            intro a343 hA344
            refine q_step hA344 rfl (d_pickT (wn rfl) (hA344.ev (v := (.bool true)) rfl) (hA344.ev (v := (.bool true)) rfl) ?_)
            intro a345 hA346
            refine q_step hA346 rfl (d_assign (wn rfl) (hA346.ev (v := (.bool true)) rfl) ?_)
            intro a347 hA348
            refine q_end ?_
            refine t_norm ?_
            refine c_true hA348 rfl ?_
            refine wp_seq ?_
            refine wp_region_lit ?_
            refine q_step hA348 rfl (d_move (wn rfl) (hA348.ev (v := (.string (S l))) rfl) ?_)
            intro a349 hA350
            refine q_step hA350 rfl (d_move (wn rfl) (hA350.ev (v := (.int .i64 ((j34 + (skipL (List.drop j34 l)).1 : Nat) : Int))) rfl) ?_)
            intro a351 hA352
            have hrn := rn_le namB (List.drop (j34 + (skipL (List.drop j34 l)).1) l)
            rw [List.length_drop] at hrn
            refine q_step hA352 rfl (d_call (wn rfl) ent29 (map3 (hA352.ev (v := (.string (S l))) rfl) (hA352.ev (v := (.int .i64 ((j34 + (skipL (List.drop j34 l)).1 : Nat) : Int))) rfl) (hA352.ev (v := (.bool true)) rfl)) (rrun_true l (j34 + (skipL (List.drop j34 l)).1) w328 (by omega) (by omega)) ?_)
            rintro e356 w353 ⟨he355, hG354⟩
            have m357 := m332.grow hG354
            have b358 := below_grow b333 hG354 b333.size
            have ho359 := own_grow hG354 ho334
            refine ⟨(.int .i64 ((j34 + (skipL (List.drop j34 l)).1 + rn namB (List.drop (j34 + (skipL (List.drop j34 l)).1) l) : Nat) : Int)), he355, ?_⟩
            intro a360 hA361
            refine q_step hA361 rfl (d_assign (wn rfl) (hA361.ev (v := (.int .i64 ((j34 + (skipL (List.drop j34 l)).1 + rn namB (List.drop (j34 + (skipL (List.drop j34 l)).1) l) : Nat) : Int))) rfl) ?_)
            intro a362 hA363
            have hps := rn_pos (p := namB) (at_zero hy126) (by unfold namB; rw [nbg_let hb335, Bool.true_or])
            refine q_end ?_
            refine t_norm ?_
            refine wp_region_lit ?_
            refine q_step hA363 rfl (d_fieldAddr (wn rfl) (hA363.ev (v := (.pointer (some ⟨g135, 0, none⟩))) rfl) fo33_0 ?_)
            intro a364 hA365
            refine q_step hA365 rfl (d_store (wn rfl) (hA365.ev (v := (.pointer (some ⟨g135, 0, none⟩))) rfl) (hA365.ev (v := (.int .i64 1)) rfl) one3 rfl m357 (Nat.le_of_ble_eq_true rfl) ?_)
            intro w366 hU367 (m368 : Blk w366 g135 #[.int .i64 1, .string (S []), .int .i64 0, .int .i64 ((j34 + (skipL (List.drop j34 l)).1 : Nat) : Int)] 33)
            have b369 := hU367.below b358 ge140
            have ho370 := own_upd ho359 hU367 off141
            intro a371 hA372
            refine q_end ?_
            refine i_norm ?_
            refine t_norm ?_
            refine wp_seq ?_
            refine wp_region_lit ?_
            refine q_step hA372 rfl (d_move (wn rfl) (hA372.ev (v := (.string (S l))) rfl) ?_)
            intro a373 hA374
            refine q_step hA374 rfl (d_move (wn rfl) (hA374.ev (v := (.int .i64 ((j34 + (skipL (List.drop j34 l)).1 : Nat) : Int))) rfl) ?_)
            intro a375 hA376
            refine q_step hA376 rfl (d_move (wn rfl) (hA376.ev (v := (.int .i64 ((j34 + (skipL (List.drop j34 l)).1 + rn namB (List.drop (j34 + (skipL (List.drop j34 l)).1) l) : Nat) : Int))) rfl) ?_)
            intro a377 hA378
            refine q_step hA378 rfl (d_spart2 (m := j34 + (skipL (List.drop j34 l)).1) (n := rn namB (List.drop (j34 + (skipL (List.drop j34 l)).1) l)) (wn rfl) (hA378.ev (v := (.string (S l))) rfl) (hA378.ev (v := (.int .i64 ((j34 + (skipL (List.drop j34 l)).1 : Nat) : Int))) rfl) (hA378.ev (v := (.int .i64 ((j34 + (skipL (List.drop j34 l)).1 + rn namB (List.drop (j34 + (skipL (List.drop j34 l)).1) l) : Nat) : Int))) rfl) str9 (by omega) ?_)
            intro a379 hA380
            refine q_step hA380 rfl (d_fieldAddr (wn rfl) (hA380.ev (v := (.pointer (some ⟨g135, 0, none⟩))) rfl) fo33_1 ?_)
            intro a381 hA382
            refine q_step hA382 rfl (d_store (wn rfl) (hA382.ev (v := (.pointer (some ⟨g135, 1, none⟩))) rfl) (hA382.ev (v := (.string (S (List.take (rn namB (List.drop (j34 + (skipL (List.drop j34 l)).1) l)) (List.drop (j34 + (skipL (List.drop j34 l)).1) l))))) rfl) one9 rfl m368 (Nat.le_of_ble_eq_true rfl) ?_)
            intro w383 hU384 (m385 : Blk w383 g135 #[.int .i64 1, .string (S (List.take (rn namB (List.drop (j34 + (skipL (List.drop j34 l)).1) l)) (List.drop (j34 + (skipL (List.drop j34 l)).1) l))), .int .i64 0, .int .i64 ((j34 + (skipL (List.drop j34 l)).1 : Nat) : Int)] 33)
            have b386 := hU384.below b369 ge140
            have ho387 := own_upd ho370 hU384 off141
            intro a388 hA389
            refine q_end ?_
            have hA390 : St 112 [(0, (.string (S l))), (2, (.slice none 0 0)), (3, (.int .i64 0)), (4, (.int .i64 0)), (5, v36), (6, (.int .i64 ((j34 + (skipL (List.drop j34 l)).1 : Nat) : Int))), (10, (.pointer (some ⟨g135, 0, none⟩))), (11, (.int .i64 ((j34 + (skipL (List.drop j34 l)).1 + rn namB (List.drop (j34 + (skipL (List.drop j34 l)).1) l) : Nat) : Int)))] a388 := hA389.cut _ (fm_cons (hA389.get 0 _ rfl) (fm_cons (hA389.get 2 _ rfl) (fm_cons (hA389.get 3 _ rfl) (fm_cons (hA389.get 4 _ rfl) (fm_cons (hA389.get 5 _ rfl) (fm_cons (hA389.get 6 _ rfl) (fm_cons (hA389.get 10 _ rfl) (fm_cons (hA389.get 11 _ rfl) fm_nil))))))))
            refine t_norm ?_
            refine wp_seq ?_
            refine wp_region_lit ?_
            refine q_step hA390 rfl (d_move (wn rfl) (hA390.ev (v := v36) rfl) ?_)
            intro a391 hA392
            refine q_step hA392 rfl (d_loadRow (cs := #[.int .i64 1, .string (S (List.take (rn namB (List.drop (j34 + (skipL (List.drop j34 l)).1) l)) (List.drop (j34 + (skipL (List.drop j34 l)).1) l))), .int .i64 0, .int .i64 ((j34 + (skipL (List.drop j34 l)).1 : Nat) : Int)]) (wn rfl) (hA392.ev (v := (.pointer (some ⟨g135, 0, none⟩))) rfl) row33 m385 ?_)
            intro a393 hA394
            refine q_step hA394 rfl (d_slice1 (wn rfl) (hA394.ev (v := (.agg #[.int .i64 1, .string (S (List.take (rn namB (List.drop (j34 + (skipL (List.drop j34 l)).1) l)) (List.drop (j34 + (skipL (List.drop j34 l)).1) l))), .int .i64 0, .int .i64 ((j34 + (skipL (List.drop j34 l)).1 : Nat) : Int)])) rfl) elm23 rfl (by decide) ?_)
            intro g395 w396 eg397 hG398 (m399 : Blk w396 g395 #[.int .i64 1, .string (S (List.take (rn namB (List.drop (j34 + (skipL (List.drop j34 l)).1) l)) (List.drop (j34 + (skipL (List.drop j34 l)).1) l))), .int .i64 0, .int .i64 ((j34 + (skipL (List.drop j34 l)).1 : Nat) : Int)] 33)
            have ge400 : w.heap.size ≤ g395 := eg397 ▸ b386.size
            have n401 : g135 ≠ g395 := fun h => Nat.lt_irrefl _ ((h.trans eg397) ▸ m385.lt)
            have off402 := own_new ho387 eg397
            have m403 := m385.grow hG398
            have b404 := below_grow b386 hG398 b386.size
            have ho405 := own_grow hG398 ho387
            intro a406 hA407
            refine q_step hA407 rfl (d_append (wn rfl) (hA407.ev (v := v36) rfl) (hA407.ev (v := (.slice (some ⟨g395, 0, none⟩) 1 1)) rfl) elm23 ho405 m399 rfl rfl (by omega) (by decide) b404.size ?_)
            intro v408 w409 ho410 hg411 hl412
            have b413 := below_by b404 hg411 b404.size (fun k hk => (own_lt ho405 k hk).1)
            have m414 := m403.by hg411 off141
            have off415 := lies_ne hl412 off141 m403.lt
            intro a416 hA417
            refine q_step hA417 rfl (d_assign (wn rfl) (hA417.ev (v := v408) rfl) ?_)
            intro a418 hA419
            refine q_end ?_
            refine t_norm ?_
            refine wp_region_lit ?_
            refine q_step hA419 rfl (d_move (wn rfl) (hA419.ev (v := (.int .i64 ((j34 + (skipL (List.drop j34 l)).1 + rn namB (List.drop (j34 + (skipL (List.drop j34 l)).1) l) : Nat) : Int))) rfl) ?_)
            intro a420 hA421
            refine q_step hA421 rfl (d_assign (wn rfl) (hA421.ev (v := (.int .i64 ((j34 + (skipL (List.drop j34 l)).1 + rn namB (List.drop (j34 + (skipL (List.drop j34 l)).1) l) : Nat) : Int))) rfl) ?_)
            intro a422 hA423
            refine q_end ?_
            refine i_norm ?_
            refine t_norm ?_
            have hF := first_name (at_zero hy126) hb168 (nbg_let hb335)
            have hgo := tf_go (f := f') (ws := ws35) hk49 (by omega) (by rw [hF])
            rw [hF] at hgo
            rw [hgo] at htk
            have hlen : (List.take (rn namB (List.drop (j34 + (skipL (List.drop j34 l)).1) l)) (List.drop (j34 + (skipL (List.drop j34 l)).1) l)).length = rn namB (List.drop (j34 + (skipL (List.drop j34 l)).1) l) := by rw [List.length_take, List.length_drop]; omega
            exact ⟨l.length - (j34 + (skipL (List.drop j34 l)).1 + (List.take (rn namB (List.drop (j34 + (skipL (List.drop j34 l)).1) l)) (List.drop (j34 + (skipL (List.drop j34 l)).1) l)).length), (by rw [hm37]; omega), f', j34 + (skipL (List.drop j34 l)).1 + (List.take (rn namB (List.drop (j34 + (skipL (List.drop j34 l)).1) l)) (List.drop (j34 + (skipL (List.drop j34 l)).1) l)).length, ws35 ++ [(⟨1, List.take (rn namB (List.drop (j34 + (skipL (List.drop j34 l)).1) l)) (List.drop (j34 + (skipL (List.drop j34 l)).1) l), 0, ((j34 + (skipL (List.drop j34 l)).1 : Nat) : Int)⟩ : Tk)], v408, rfl, ⟨by omega, by omega, by rw [List.length_append, List.length_singleton]; omega⟩, htk, hA423.cut _ (fm_cons (hA423.get 0 _ rfl) (fm_cons (hA423.get 2 _ rfl) (fm_cons (hA423.get 3 _ rfl) (fm_cons (hA423.get 4 _ rfl) (fm_cons (hA423.get 5 _ rfl) (fm_cons ((hA423.get 6 _ rfl).trans (congrArg (Value.int .i64) (by omega))) fm_nil)))))), b413, by rw [List.length_append, List.length_singleton, ← flat_tok]; exact ho410⟩
          · skip
            have hq424 := of_decide_eq_false hb335
            refine ⟨.bool false, he330.trans (ret_bool hb335), ?_⟩
            intro a425 hA426
            refine q_step hA426 rfl (d_move (wn rfl) (hA426.ev (v := (.bool false)) rfl) ?_)
            intro a427 hA428
            refine q_step hA428 rfl (d_move (wy rfl rfl (hA428.get 64 _ rfl)) (hA428.ev (v := (.int .u8 ((y125.toNat : Nat) : Int))) rfl) ?_)
            intro a429 hA430
            rcases Bool.eq_false_or_eq_true (((y125.toNat : Nat) : Int) == 95) with hb431 | hb431
            · skip
              have hq432 := eq_of_beq hb431
              refine q_step hA430 rfl (d_bin (wy rfl rfl (hA430.get 64 _ rfl)) (hA430.ev (v := (.int .u8 ((y125.toNat : Nat) : Int))) rfl) (hA430.ev (v := (.int .u8 95)) rfl) (b_eq _ _ ((y125.toNat : Nat) : Int) 95 true _ hb431) ?_)
              intro a433 hA434
              refine q_step hA434 rfl (d_pickF (wn rfl) (hA434.ev (v := (.bool false)) rfl) (hA434.ev (v := (.bool true)) rfl) ?_)
              intro a435 hA436
              refine q_step hA436 rfl (d_assign (wn rfl) (hA436.ev (v := (.bool true)) rfl) ?_)
              intro a437 hA438
              refine q_end ?_
              refine t_norm ?_
              refine c_true hA438 rfl ?_
              refine wp_seq ?_
              refine wp_region_lit ?_
              refine q_step hA438 rfl (d_move (wn rfl) (hA438.ev (v := (.string (S l))) rfl) ?_)
              intro a439 hA440
              refine q_step hA440 rfl (d_move (wn rfl) (hA440.ev (v := (.int .i64 ((j34 + (skipL (List.drop j34 l)).1 : Nat) : Int))) rfl) ?_)
              intro a441 hA442
              have hrn := rn_le namB (List.drop (j34 + (skipL (List.drop j34 l)).1) l)
              rw [List.length_drop] at hrn
              refine q_step hA442 rfl (d_call (wn rfl) ent29 (map3 (hA442.ev (v := (.string (S l))) rfl) (hA442.ev (v := (.int .i64 ((j34 + (skipL (List.drop j34 l)).1 : Nat) : Int))) rfl) (hA442.ev (v := (.bool true)) rfl)) (rrun_true l (j34 + (skipL (List.drop j34 l)).1) w328 (by omega) (by omega)) ?_)
              rintro e446 w443 ⟨he445, hG444⟩
              have m447 := m332.grow hG444
              have b448 := below_grow b333 hG444 b333.size
              have ho449 := own_grow hG444 ho334
              refine ⟨(.int .i64 ((j34 + (skipL (List.drop j34 l)).1 + rn namB (List.drop (j34 + (skipL (List.drop j34 l)).1) l) : Nat) : Int)), he445, ?_⟩
              intro a450 hA451
              refine q_step hA451 rfl (d_assign (wn rfl) (hA451.ev (v := (.int .i64 ((j34 + (skipL (List.drop j34 l)).1 + rn namB (List.drop (j34 + (skipL (List.drop j34 l)).1) l) : Nat) : Int))) rfl) ?_)
              intro a452 hA453
              have hps := rn_pos (p := namB) (at_zero hy126) (by unfold namB; rw [nbg_us (by omega), Bool.true_or])
              refine q_end ?_
              refine t_norm ?_
              refine wp_region_lit ?_
              refine q_step hA453 rfl (d_fieldAddr (wn rfl) (hA453.ev (v := (.pointer (some ⟨g135, 0, none⟩))) rfl) fo33_0 ?_)
              intro a454 hA455
              refine q_step hA455 rfl (d_store (wn rfl) (hA455.ev (v := (.pointer (some ⟨g135, 0, none⟩))) rfl) (hA455.ev (v := (.int .i64 1)) rfl) one3 rfl m447 (Nat.le_of_ble_eq_true rfl) ?_)
              intro w456 hU457 (m458 : Blk w456 g135 #[.int .i64 1, .string (S []), .int .i64 0, .int .i64 ((j34 + (skipL (List.drop j34 l)).1 : Nat) : Int)] 33)
              have b459 := hU457.below b448 ge140
              have ho460 := own_upd ho449 hU457 off141
              intro a461 hA462
              refine q_end ?_
              refine i_norm ?_
              refine t_norm ?_
              refine wp_seq ?_
              refine wp_region_lit ?_
              refine q_step hA462 rfl (d_move (wn rfl) (hA462.ev (v := (.string (S l))) rfl) ?_)
              intro a463 hA464
              refine q_step hA464 rfl (d_move (wn rfl) (hA464.ev (v := (.int .i64 ((j34 + (skipL (List.drop j34 l)).1 : Nat) : Int))) rfl) ?_)
              intro a465 hA466
              refine q_step hA466 rfl (d_move (wn rfl) (hA466.ev (v := (.int .i64 ((j34 + (skipL (List.drop j34 l)).1 + rn namB (List.drop (j34 + (skipL (List.drop j34 l)).1) l) : Nat) : Int))) rfl) ?_)
              intro a467 hA468
              refine q_step hA468 rfl (d_spart2 (m := j34 + (skipL (List.drop j34 l)).1) (n := rn namB (List.drop (j34 + (skipL (List.drop j34 l)).1) l)) (wn rfl) (hA468.ev (v := (.string (S l))) rfl) (hA468.ev (v := (.int .i64 ((j34 + (skipL (List.drop j34 l)).1 : Nat) : Int))) rfl) (hA468.ev (v := (.int .i64 ((j34 + (skipL (List.drop j34 l)).1 + rn namB (List.drop (j34 + (skipL (List.drop j34 l)).1) l) : Nat) : Int))) rfl) str9 (by omega) ?_)
              intro a469 hA470
              refine q_step hA470 rfl (d_fieldAddr (wn rfl) (hA470.ev (v := (.pointer (some ⟨g135, 0, none⟩))) rfl) fo33_1 ?_)
              intro a471 hA472
              refine q_step hA472 rfl (d_store (wn rfl) (hA472.ev (v := (.pointer (some ⟨g135, 1, none⟩))) rfl) (hA472.ev (v := (.string (S (List.take (rn namB (List.drop (j34 + (skipL (List.drop j34 l)).1) l)) (List.drop (j34 + (skipL (List.drop j34 l)).1) l))))) rfl) one9 rfl m458 (Nat.le_of_ble_eq_true rfl) ?_)
              intro w473 hU474 (m475 : Blk w473 g135 #[.int .i64 1, .string (S (List.take (rn namB (List.drop (j34 + (skipL (List.drop j34 l)).1) l)) (List.drop (j34 + (skipL (List.drop j34 l)).1) l))), .int .i64 0, .int .i64 ((j34 + (skipL (List.drop j34 l)).1 : Nat) : Int)] 33)
              have b476 := hU474.below b459 ge140
              have ho477 := own_upd ho460 hU474 off141
              intro a478 hA479
              refine q_end ?_
              have hA480 : St 112 [(0, (.string (S l))), (2, (.slice none 0 0)), (3, (.int .i64 0)), (4, (.int .i64 0)), (5, v36), (6, (.int .i64 ((j34 + (skipL (List.drop j34 l)).1 : Nat) : Int))), (10, (.pointer (some ⟨g135, 0, none⟩))), (11, (.int .i64 ((j34 + (skipL (List.drop j34 l)).1 + rn namB (List.drop (j34 + (skipL (List.drop j34 l)).1) l) : Nat) : Int)))] a478 := hA479.cut _ (fm_cons (hA479.get 0 _ rfl) (fm_cons (hA479.get 2 _ rfl) (fm_cons (hA479.get 3 _ rfl) (fm_cons (hA479.get 4 _ rfl) (fm_cons (hA479.get 5 _ rfl) (fm_cons (hA479.get 6 _ rfl) (fm_cons (hA479.get 10 _ rfl) (fm_cons (hA479.get 11 _ rfl) fm_nil))))))))
              refine t_norm ?_
              refine wp_seq ?_
              refine wp_region_lit ?_
              refine q_step hA480 rfl (d_move (wn rfl) (hA480.ev (v := v36) rfl) ?_)
              intro a481 hA482
              refine q_step hA482 rfl (d_loadRow (cs := #[.int .i64 1, .string (S (List.take (rn namB (List.drop (j34 + (skipL (List.drop j34 l)).1) l)) (List.drop (j34 + (skipL (List.drop j34 l)).1) l))), .int .i64 0, .int .i64 ((j34 + (skipL (List.drop j34 l)).1 : Nat) : Int)]) (wn rfl) (hA482.ev (v := (.pointer (some ⟨g135, 0, none⟩))) rfl) row33 m475 ?_)
              intro a483 hA484
              refine q_step hA484 rfl (d_slice1 (wn rfl) (hA484.ev (v := (.agg #[.int .i64 1, .string (S (List.take (rn namB (List.drop (j34 + (skipL (List.drop j34 l)).1) l)) (List.drop (j34 + (skipL (List.drop j34 l)).1) l))), .int .i64 0, .int .i64 ((j34 + (skipL (List.drop j34 l)).1 : Nat) : Int)])) rfl) elm23 rfl (by decide) ?_)
              intro g485 w486 eg487 hG488 (m489 : Blk w486 g485 #[.int .i64 1, .string (S (List.take (rn namB (List.drop (j34 + (skipL (List.drop j34 l)).1) l)) (List.drop (j34 + (skipL (List.drop j34 l)).1) l))), .int .i64 0, .int .i64 ((j34 + (skipL (List.drop j34 l)).1 : Nat) : Int)] 33)
              have ge490 : w.heap.size ≤ g485 := eg487 ▸ b476.size
              have n491 : g135 ≠ g485 := fun h => Nat.lt_irrefl _ ((h.trans eg487) ▸ m475.lt)
              have off492 := own_new ho477 eg487
              have m493 := m475.grow hG488
              have b494 := below_grow b476 hG488 b476.size
              have ho495 := own_grow hG488 ho477
              intro a496 hA497
              refine q_step hA497 rfl (d_append (wn rfl) (hA497.ev (v := v36) rfl) (hA497.ev (v := (.slice (some ⟨g485, 0, none⟩) 1 1)) rfl) elm23 ho495 m489 rfl rfl (by omega) (by decide) b494.size ?_)
              intro v498 w499 ho500 hg501 hl502
              have b503 := below_by b494 hg501 b494.size (fun k hk => (own_lt ho495 k hk).1)
              have m504 := m493.by hg501 off141
              have off505 := lies_ne hl502 off141 m493.lt
              intro a506 hA507
              refine q_step hA507 rfl (d_assign (wn rfl) (hA507.ev (v := v498) rfl) ?_)
              intro a508 hA509
              refine q_end ?_
              refine t_norm ?_
              refine wp_region_lit ?_
              refine q_step hA509 rfl (d_move (wn rfl) (hA509.ev (v := (.int .i64 ((j34 + (skipL (List.drop j34 l)).1 + rn namB (List.drop (j34 + (skipL (List.drop j34 l)).1) l) : Nat) : Int))) rfl) ?_)
              intro a510 hA511
              refine q_step hA511 rfl (d_assign (wn rfl) (hA511.ev (v := (.int .i64 ((j34 + (skipL (List.drop j34 l)).1 + rn namB (List.drop (j34 + (skipL (List.drop j34 l)).1) l) : Nat) : Int))) rfl) ?_)
              intro a512 hA513
              refine q_end ?_
              refine i_norm ?_
              refine t_norm ?_
              have hF := first_name (at_zero hy126) hb168 (nbg_us (eq_of_beq hb431))
              have hgo := tf_go (f := f') (ws := ws35) hk49 (by omega) (by rw [hF])
              rw [hF] at hgo
              rw [hgo] at htk
              have hlen : (List.take (rn namB (List.drop (j34 + (skipL (List.drop j34 l)).1) l)) (List.drop (j34 + (skipL (List.drop j34 l)).1) l)).length = rn namB (List.drop (j34 + (skipL (List.drop j34 l)).1) l) := by rw [List.length_take, List.length_drop]; omega
              exact ⟨l.length - (j34 + (skipL (List.drop j34 l)).1 + (List.take (rn namB (List.drop (j34 + (skipL (List.drop j34 l)).1) l)) (List.drop (j34 + (skipL (List.drop j34 l)).1) l)).length), (by rw [hm37]; omega), f', j34 + (skipL (List.drop j34 l)).1 + (List.take (rn namB (List.drop (j34 + (skipL (List.drop j34 l)).1) l)) (List.drop (j34 + (skipL (List.drop j34 l)).1) l)).length, ws35 ++ [(⟨1, List.take (rn namB (List.drop (j34 + (skipL (List.drop j34 l)).1) l)) (List.drop (j34 + (skipL (List.drop j34 l)).1) l), 0, ((j34 + (skipL (List.drop j34 l)).1 : Nat) : Int)⟩ : Tk)], v498, rfl, ⟨by omega, by omega, by rw [List.length_append, List.length_singleton]; omega⟩, htk, hA513.cut _ (fm_cons (hA513.get 0 _ rfl) (fm_cons (hA513.get 2 _ rfl) (fm_cons (hA513.get 3 _ rfl) (fm_cons (hA513.get 4 _ rfl) (fm_cons (hA513.get 5 _ rfl) (fm_cons ((hA513.get 6 _ rfl).trans (congrArg (Value.int .i64) (by omega))) fm_nil)))))), b503, by rw [List.length_append, List.length_singleton, ← flat_tok]; exact ho500⟩
            · skip
              have hq514 := ne_of_beq hb431
              refine q_step hA430 rfl (d_bin (wy rfl rfl (hA430.get 64 _ rfl)) (hA430.ev (v := (.int .u8 ((y125.toNat : Nat) : Int))) rfl) (hA430.ev (v := (.int .u8 95)) rfl) (b_eq _ _ ((y125.toNat : Nat) : Int) 95 false _ hb431) ?_)
              intro a515 hA516
              refine q_step hA516 rfl (d_pickF (wn rfl) (hA516.ev (v := (.bool false)) rfl) (hA516.ev (v := (.bool false)) rfl) ?_)
              intro a517 hA518
              refine q_step hA518 rfl (d_assign (wn rfl) (hA518.ev (v := (.bool false)) rfl) ?_)
              intro a519 hA520
              refine q_end ?_
              refine t_norm ?_
              refine c_false hA520 rfl ?_
              refine wp_seq ?_
              refine wp_region_lit ?_
              refine q_step hA520 rfl (d_move (wn rfl) (hA520.ev (v := (.int .u8 ((y125.toNat : Nat) : Int))) rfl) ?_)
              intro a521 hA522
              refine q_step hA522 rfl (d_call (wn rfl) ent32 (map1 (hA522.ev (v := (.int .u8 ((y125.toNat : Nat) : Int))) rfl)) (rmark_any y125 w328) ?_)
              rintro e526 w523 ⟨he525, hG524⟩
              have m527 := m332.grow hG524
              have b528 := below_grow b333 hG524 b333.size
              have ho529 := own_grow hG524 ho334
              rcases Bool.eq_false_or_eq_true (mrkB y125) with hb530 | hb530
              · skip
                refine ⟨.bool true, he525.trans (ret_bool hb530), ?_⟩
                intro a532 hA533
                refine q_step hA533 rfl (d_assign (wn rfl) (hA533.ev (v := (.bool true)) rfl) ?_)
                intro a534 hA535
                refine q_end ?_
                refine t_norm ?_
                refine c_true hA535 rfl ?_
                refine wp_seq ?_
                refine wp_seq ?_
                refine wp_region_lit ?_
                refine q_step hA535 rfl (d_move (wn rfl) (hA535.ev (v := (.int .i64 ((j34 + (skipL (List.drop j34 l)).1 + 1 : Nat) : Int))) rfl) ?_)
                intro a536 hA537
                refine q_step hA537 rfl (d_move (wn rfl) (hA537.ev (v := (.string (S l))) rfl) ?_)
                intro a538 hA539
                refine q_step hA539 rfl (d_slen (wn rfl) (hA539.ev (v := (.string (S l))) rfl) str9 ?_)
                intro a540 hA541
                rcases Bool.eq_false_or_eq_true (decide (((j34 + (skipL (List.drop j34 l)).1 + 1 : Nat) : Int) < ((l.length : Nat) : Int))) with hb542 | hb542
                · skip
                  have hq543 := of_decide_eq_true hb542
                  refine q_step hA541 rfl (d_bin (wn rfl) (hA541.ev (v := (.int .i64 ((j34 + (skipL (List.drop j34 l)).1 + 1 : Nat) : Int))) rfl) (hA541.ev (v := (.int .i64 ((l.length : Nat) : Int))) rfl) (b_lt _ _ ((j34 + (skipL (List.drop j34 l)).1 + 1 : Nat) : Int) ((l.length : Nat) : Int) true _ hb542) ?_)
                  intro a544 hA545
                  refine q_step hA545 rfl (d_move (wn rfl) (hA545.ev (v := (.bool true)) rfl) ?_)
                  intro a546 hA547
                  refine q_step hA547 rfl (d_move (wy rfl rfl (hA547.get 79 _ rfl)) (hA547.ev (v := (.int .u8 ((y125.toNat : Nat) : Int))) rfl) ?_)
                  intro a548 hA549
                  rcases Bool.eq_false_or_eq_true (((y125.toNat : Nat) : Int) == 47) with hb550 | hb550
                  · skip
                    have hq551 := eq_of_beq hb550
                    refine q_step hA549 rfl (d_bin (wy rfl rfl (hA549.get 79 _ rfl)) (hA549.ev (v := (.int .u8 ((y125.toNat : Nat) : Int))) rfl) (hA549.ev (v := (.int .u8 47)) rfl) (b_eq _ _ ((y125.toNat : Nat) : Int) 47 true _ hb550) ?_)
                    intro a552 hA553
                    refine q_step hA553 rfl (d_move (wy rfl rfl (hA553.get 79 _ rfl)) (hA553.ev (v := (.bool true)) rfl) ?_)
                    intro a554 hA555
                    refine q_step hA555 rfl (d_move (wy rfl rfl (hA555.get 82 _ rfl)) (hA555.ev (v := (.string (S l))) rfl) ?_)
                    intro a556 hA557
                    refine q_step hA557 rfl (d_move (wy rfl rfl (hA557.get 82 _ rfl)) (hA557.ev (v := (.int .i64 ((j34 + (skipL (List.drop j34 l)).1 + 1 : Nat) : Int))) rfl) ?_)
                    intro a558 hA559
                    obtain ⟨y560, hy561⟩ : ∃ y560, l[j34 + (skipL (List.drop j34 l)).1 + 1]? = some y560 := ⟨_, List.getElem?_eq_getElem (show j34 + (skipL (List.drop j34 l)).1 + 1 < l.length by omega)⟩
                    refine q_step hA559 rfl (d_sat (j := j34 + (skipL (List.drop j34 l)).1 + 1) (wy rfl rfl (hA559.get 82 _ rfl)) (hA559.ev (v := (.string (S l))) rfl) (hA559.ev (v := (.int .i64 ((j34 + (skipL (List.drop j34 l)).1 + 1 : Nat) : Int))) rfl) str9 hy561 ?_)
                    intro a562 hA563
                    rcases Bool.eq_false_or_eq_true (((y560.toNat : Nat) : Int) == 92) with hb564 | hb564
                    · skip
                      have hq565 := eq_of_beq hb564
                      refine q_step hA563 rfl (d_bin (wy rfl rfl (hA563.get 82 _ rfl)) (hA563.ev (v := (.int .u8 ((y560.toNat : Nat) : Int))) rfl) (hA563.ev (v := (.int .u8 92)) rfl) (b_eq _ _ ((y560.toNat : Nat) : Int) 92 true _ hb564) ?_)
                      intro a566 hA567
                      refine q_step hA567 rfl (d_pickT (wy rfl rfl (hA567.get 79 _ rfl)) (hA567.ev (v := (.bool true)) rfl) (hA567.ev (v := (.bool true)) rfl) ?_)
                      intro a568 hA569
                      refine q_step hA569 rfl (d_move (wy rfl rfl (hA569.get 79 _ rfl)) (hA569.ev (v := (.bool true)) rfl) ?_)
                      intro a570 hA571
                      refine q_step hA571 rfl (does_not (wno rfl rfl (.inl (hA571.get 88 _ rfl))) ?_)
                      intro a572 hA573
                      refine q_step hA573 rfl (does_not (wno rfl rfl (.inl (hA573.get 88 _ rfl))) ?_)
                      intro a574 hA575
                      refine q_step hA575 rfl (does_not (wno rfl rfl (.inl (hA575.get 88 _ rfl))) ?_)
                      intro a576 hA577
                      refine q_step hA577 rfl (does_not (wno rfl rfl (.inr (hA577.get 91 _ rfl))) ?_)
                      intro a578 hA579
                      refine q_step hA579 rfl (does_not (wno rfl rfl (.inr (hA579.get 91 _ rfl))) ?_)
                      intro a580 hA581
                      refine q_step hA581 rfl (does_not (wno rfl rfl (.inr (hA581.get 91 _ rfl))) ?_)
                      intro a582 hA583
                      refine q_step hA583 rfl (does_not (wno rfl rfl (.inr (hA583.get 91 _ rfl))) ?_)
                      intro a584 hA585
                      refine q_step hA585 rfl (does_not (wno rfl rfl (.inl (hA585.get 88 _ rfl))) ?_)
                      intro a586 hA587
                      refine q_step hA587 rfl (d_pickT (wy rfl rfl (hA587.get 79 _ rfl)) (hA587.ev (v := (.bool true)) rfl) (hA587.ev (v := (.bool true)) rfl) ?_)
                      intro a588 hA589
                      refine q_step hA589 rfl (d_pickT (wn rfl) (hA589.ev (v := (.bool true)) rfl) (hA589.ev (v := (.bool true)) rfl) ?_)
                      intro a590 hA591
                      refine q_end ?_
                      have hA592 : St 112 [(0, (.string (S l))), (2, (.slice none 0 0)), (3, (.int .i64 0)), (4, (.int .i64 0)), (5, v36), (6, (.int .i64 ((j34 + (skipL (List.drop j34 l)).1 : Nat) : Int))), (10, (.pointer (some ⟨g135, 0, none⟩))), (11, (.int .i64 ((j34 + (skipL (List.drop j34 l)).1 + 1 : Nat) : Int))), (98, (.bool true))] a590 := hA591.cut _ (fm_cons (hA591.get 0 _ rfl) (fm_cons (hA591.get 2 _ rfl) (fm_cons (hA591.get 3 _ rfl) (fm_cons (hA591.get 4 _ rfl) (fm_cons (hA591.get 5 _ rfl) (fm_cons (hA591.get 6 _ rfl) (fm_cons (hA591.get 10 _ rfl) (fm_cons (hA591.get 11 _ rfl) (fm_cons (hA591.get 98 _ rfl) fm_nil)))))))))
                      refine t_norm ?_
                      refine c_true hA592 rfl ?_
                      refine wp_region_lit ?_
                      refine q_step hA592 rfl (d_move (wn rfl) (hA592.ev (v := (.int .i64 ((j34 + (skipL (List.drop j34 l)).1 + 1 : Nat) : Int))) rfl) ?_)
                      intro a593 hA594
                      refine q_step hA594 rfl (d_bin (wn rfl) (hA594.ev (v := (.int .i64 ((j34 + (skipL (List.drop j34 l)).1 + 1 : Nat) : Int))) rfl) (hA594.ev (v := (.int .i64 1)) rfl) (b_addE (j34 + (skipL (List.drop j34 l)).1 + 1 + 1) (by omega) (by omega)) ?_)
                      intro a595 hA596
                      refine q_step hA596 rfl (d_assign (wn rfl) (hA596.ev (v := (.int .i64 ((j34 + (skipL (List.drop j34 l)).1 + 1 + 1 : Nat) : Int))) rfl) ?_)
                      intro a597 hA598
                      refine q_end ?_
                      refine t_norm ?_
                      refine wp_region_lit ?_
                      refine q_step hA598 rfl (d_fieldAddr (wn rfl) (hA598.ev (v := (.pointer (some ⟨g135, 0, none⟩))) rfl) fo33_0 ?_)
                      intro a599 hA600
                      refine q_step hA600 rfl (d_store (wn rfl) (hA600.ev (v := (.pointer (some ⟨g135, 0, none⟩))) rfl) (hA600.ev (v := (.int .i64 3)) rfl) one3 rfl m527 (Nat.le_of_ble_eq_true rfl) ?_)
                      intro w601 hU602 (m603 : Blk w601 g135 #[.int .i64 3, .string (S []), .int .i64 0, .int .i64 ((j34 + (skipL (List.drop j34 l)).1 : Nat) : Int)] 33)
                      have b604 := hU602.below b528 ge140
                      have ho605 := own_upd ho529 hU602 off141
                      intro a606 hA607
                      refine q_end ?_
                      refine i_norm ?_
                      refine t_norm ?_
                      refine wp_seq ?_
                      refine wp_region_lit ?_
                      refine q_step hA607 rfl (d_move (wn rfl) (hA607.ev (v := (.string (S l))) rfl) ?_)
                      intro a608 hA609
                      refine q_step hA609 rfl (d_move (wn rfl) (hA609.ev (v := (.int .i64 ((j34 + (skipL (List.drop j34 l)).1 : Nat) : Int))) rfl) ?_)
                      intro a610 hA611
                      refine q_step hA611 rfl (d_move (wn rfl) (hA611.ev (v := (.int .i64 ((j34 + (skipL (List.drop j34 l)).1 + 1 + 1 : Nat) : Int))) rfl) ?_)
                      intro a612 hA613
                      refine q_step hA613 rfl (d_spart2 (m := j34 + (skipL (List.drop j34 l)).1) (n := 2) (wn rfl) (hA613.ev (v := (.string (S l))) rfl) (hA613.ev (v := (.int .i64 ((j34 + (skipL (List.drop j34 l)).1 : Nat) : Int))) rfl) ((hA613.ev (v := (.int .i64 ((j34 + (skipL (List.drop j34 l)).1 + 1 + 1 : Nat) : Int))) rfl).trans (congrArg (Value.int .i64) (by omega))) str9 (by omega) ?_)
                      intro a614 hA615
                      refine q_step hA615 rfl (d_fieldAddr (wn rfl) (hA615.ev (v := (.pointer (some ⟨g135, 0, none⟩))) rfl) fo33_1 ?_)
                      intro a616 hA617
                      refine q_step hA617 rfl (d_store (wn rfl) (hA617.ev (v := (.pointer (some ⟨g135, 1, none⟩))) rfl) (hA617.ev (v := (.string (S (List.take 2 (List.drop (j34 + (skipL (List.drop j34 l)).1) l))))) rfl) one9 rfl m603 (Nat.le_of_ble_eq_true rfl) ?_)
                      intro w618 hU619 (m620 : Blk w618 g135 #[.int .i64 3, .string (S (List.take 2 (List.drop (j34 + (skipL (List.drop j34 l)).1) l))), .int .i64 0, .int .i64 ((j34 + (skipL (List.drop j34 l)).1 : Nat) : Int)] 33)
                      have b621 := hU619.below b604 ge140
                      have ho622 := own_upd ho605 hU619 off141
                      intro a623 hA624
                      refine q_end ?_
                      refine t_norm ?_
                      refine wp_seq ?_
                      refine wp_region_lit ?_
                      refine q_step hA624 rfl (d_move (wn rfl) (hA624.ev (v := v36) rfl) ?_)
                      intro a625 hA626
                      refine q_step hA626 rfl (d_loadRow (cs := #[.int .i64 3, .string (S (List.take 2 (List.drop (j34 + (skipL (List.drop j34 l)).1) l))), .int .i64 0, .int .i64 ((j34 + (skipL (List.drop j34 l)).1 : Nat) : Int)]) (wn rfl) (hA626.ev (v := (.pointer (some ⟨g135, 0, none⟩))) rfl) row33 m620 ?_)
                      intro a627 hA628
                      refine q_step hA628 rfl (d_slice1 (wn rfl) (hA628.ev (v := (.agg #[.int .i64 3, .string (S (List.take 2 (List.drop (j34 + (skipL (List.drop j34 l)).1) l))), .int .i64 0, .int .i64 ((j34 + (skipL (List.drop j34 l)).1 : Nat) : Int)])) rfl) elm23 rfl (by decide) ?_)
                      intro g629 w630 eg631 hG632 (m633 : Blk w630 g629 #[.int .i64 3, .string (S (List.take 2 (List.drop (j34 + (skipL (List.drop j34 l)).1) l))), .int .i64 0, .int .i64 ((j34 + (skipL (List.drop j34 l)).1 : Nat) : Int)] 33)
                      have ge634 : w.heap.size ≤ g629 := eg631 ▸ b621.size
                      have n635 : g135 ≠ g629 := fun h => Nat.lt_irrefl _ ((h.trans eg631) ▸ m620.lt)
                      have off636 := own_new ho622 eg631
                      have m637 := m620.grow hG632
                      have b638 := below_grow b621 hG632 b621.size
                      have ho639 := own_grow hG632 ho622
                      intro a640 hA641
                      refine q_step hA641 rfl (d_append (wn rfl) (hA641.ev (v := v36) rfl) (hA641.ev (v := (.slice (some ⟨g629, 0, none⟩) 1 1)) rfl) elm23 ho639 m633 rfl rfl (by omega) (by decide) b638.size ?_)
                      intro v642 w643 ho644 hg645 hl646
                      have b647 := below_by b638 hg645 b638.size (fun k hk => (own_lt ho639 k hk).1)
                      have m648 := m637.by hg645 off141
                      have off649 := lies_ne hl646 off141 m637.lt
                      intro a650 hA651
                      refine q_step hA651 rfl (d_assign (wn rfl) (hA651.ev (v := v642) rfl) ?_)
                      intro a652 hA653
                      refine q_end ?_
                      refine t_norm ?_
                      refine wp_region_lit ?_
                      refine q_step hA653 rfl (d_move (wn rfl) (hA653.ev (v := (.int .i64 ((j34 + (skipL (List.drop j34 l)).1 + 1 + 1 : Nat) : Int))) rfl) ?_)
                      intro a654 hA655
                      refine q_step hA655 rfl (d_assign (wn rfl) (hA655.ev (v := (.int .i64 ((j34 + (skipL (List.drop j34 l)).1 + 1 + 1 : Nat) : Int))) rfl) ?_)
                      intro a656 hA657
                      refine q_end ?_
                      refine i_norm ?_
                      refine t_norm ?_
                      have hmk := mkN_two_b hy126 hy561 (by omega)
                      have hF := first_mark (at_zero hy126) hb168 (nbg_no hb335 (ne_of_beq hb431)) (by omega)
                      rw [hmk] at hF
                      have hgo := tf_go (f := f') (ws := ws35) hk49 (by omega) (by rw [hF])
                      rw [hF] at hgo
                      rw [hgo] at htk
                      have hlen : (List.take 2 (List.drop (j34 + (skipL (List.drop j34 l)).1) l)).length = 2 := by rw [List.length_take, List.length_drop]; omega
                      exact ⟨l.length - (j34 + (skipL (List.drop j34 l)).1 + (List.take 2 (List.drop (j34 + (skipL (List.drop j34 l)).1) l)).length), (by rw [hm37]; omega), f', j34 + (skipL (List.drop j34 l)).1 + (List.take 2 (List.drop (j34 + (skipL (List.drop j34 l)).1) l)).length, ws35 ++ [(⟨3, List.take 2 (List.drop (j34 + (skipL (List.drop j34 l)).1) l), 0, ((j34 + (skipL (List.drop j34 l)).1 : Nat) : Int)⟩ : Tk)], v642, rfl, ⟨by omega, by omega, by rw [List.length_append, List.length_singleton]; omega⟩, htk, hA657.cut _ (fm_cons (hA657.get 0 _ rfl) (fm_cons (hA657.get 2 _ rfl) (fm_cons (hA657.get 3 _ rfl) (fm_cons (hA657.get 4 _ rfl) (fm_cons (hA657.get 5 _ rfl) (fm_cons ((hA657.get 6 _ rfl).trans (congrArg (Value.int .i64) (by omega))) fm_nil)))))), b647, by rw [List.length_append, List.length_singleton, ← flat_tok]; exact ho644⟩
                    · skip
                      have hq658 := ne_of_beq hb564
                      refine q_step hA563 rfl (d_bin (wy rfl rfl (hA563.get 82 _ rfl)) (hA563.ev (v := (.int .u8 ((y560.toNat : Nat) : Int))) rfl) (hA563.ev (v := (.int .u8 92)) rfl) (b_eq _ _ ((y560.toNat : Nat) : Int) 92 false _ hb564) ?_)
                      intro a659 hA660
                      refine q_step hA660 rfl (d_pickT (wy rfl rfl (hA660.get 79 _ rfl)) (hA660.ev (v := (.bool true)) rfl) (hA660.ev (v := (.bool false)) rfl) ?_)
                      intro a661 hA662
                      refine q_step hA662 rfl (d_move (wy rfl rfl (hA662.get 79 _ rfl)) (hA662.ev (v := (.bool false)) rfl) ?_)
                      intro a663 hA664
                      refine q_step hA664 rfl (d_move (wy rfl rfl (hA664.get 88 _ rfl)) (hA664.ev (v := (.int .u8 ((y125.toNat : Nat) : Int))) rfl) ?_)
                      intro a665 hA666
                      rcases Bool.eq_false_or_eq_true (((y125.toNat : Nat) : Int) == 92) with hb667 | hb667
                      · skip
                        have hq668 := eq_of_beq hb667
                        refine q_step hA666 rfl (d_bin (wy rfl rfl (hA666.get 88 _ rfl)) (hA666.ev (v := (.int .u8 ((y125.toNat : Nat) : Int))) rfl) (hA666.ev (v := (.int .u8 92)) rfl) (b_eq _ _ ((y125.toNat : Nat) : Int) 92 true _ hb667) ?_)
                        intro a669 hA670
                        refine q_step hA670 rfl (d_move (wy rfl rfl (hA670.get 88 _ rfl)) (hA670.ev (v := (.bool true)) rfl) ?_)
                        intro a671 hA672
                        refine q_step hA672 rfl (d_move (wy rfl rfl (hA672.get 91 _ rfl)) (hA672.ev (v := (.string (S l))) rfl) ?_)
                        intro a673 hA674
                        refine q_step hA674 rfl (d_move (wy rfl rfl (hA674.get 91 _ rfl)) (hA674.ev (v := (.int .i64 ((j34 + (skipL (List.drop j34 l)).1 + 1 : Nat) : Int))) rfl) ?_)
                        intro a675 hA676
                        refine q_step hA676 rfl (d_sat (j := j34 + (skipL (List.drop j34 l)).1 + 1) (wy rfl rfl (hA676.get 91 _ rfl)) (hA676.ev (v := (.string (S l))) rfl) (hA676.ev (v := (.int .i64 ((j34 + (skipL (List.drop j34 l)).1 + 1 : Nat) : Int))) rfl) str9 hy561 ?_)
                        intro a677 hA678
                        rcases Bool.eq_false_or_eq_true (((y560.toNat : Nat) : Int) == 47) with hb679 | hb679
                        · skip
                          have hq680 := eq_of_beq hb679
                          refine q_step hA678 rfl (d_bin (wy rfl rfl (hA678.get 91 _ rfl)) (hA678.ev (v := (.int .u8 ((y560.toNat : Nat) : Int))) rfl) (hA678.ev (v := (.int .u8 47)) rfl) (b_eq _ _ ((y560.toNat : Nat) : Int) 47 true _ hb679) ?_)
                          intro a681 hA682
                          refine q_step hA682 rfl (d_pickT (wy rfl rfl (hA682.get 88 _ rfl)) (hA682.ev (v := (.bool true)) rfl) (hA682.ev (v := (.bool true)) rfl) ?_)
                          intro a683 hA684
                          refine q_step hA684 rfl (d_pickF (wy rfl rfl (hA684.get 79 _ rfl)) (hA684.ev (v := (.bool false)) rfl) (hA684.ev (v := (.bool true)) rfl) ?_)
                          intro a685 hA686
                          refine q_step hA686 rfl (d_pickT (wn rfl) (hA686.ev (v := (.bool true)) rfl) (hA686.ev (v := (.bool true)) rfl) ?_)
                          intro a687 hA688
                          refine q_end ?_
                          have hA689 : St 112 [(0, (.string (S l))), (2, (.slice none 0 0)), (3, (.int .i64 0)), (4, (.int .i64 0)), (5, v36), (6, (.int .i64 ((j34 + (skipL (List.drop j34 l)).1 : Nat) : Int))), (10, (.pointer (some ⟨g135, 0, none⟩))), (11, (.int .i64 ((j34 + (skipL (List.drop j34 l)).1 + 1 : Nat) : Int))), (98, (.bool true))] a687 := hA688.cut _ (fm_cons (hA688.get 0 _ rfl) (fm_cons (hA688.get 2 _ rfl) (fm_cons (hA688.get 3 _ rfl) (fm_cons (hA688.get 4 _ rfl) (fm_cons (hA688.get 5 _ rfl) (fm_cons (hA688.get 6 _ rfl) (fm_cons (hA688.get 10 _ rfl) (fm_cons (hA688.get 11 _ rfl) (fm_cons (hA688.get 98 _ rfl) fm_nil)))))))))
                          refine t_norm ?_
                          refine c_true hA689 rfl ?_
                          refine wp_region_lit ?_
                          refine q_step hA689 rfl (d_move (wn rfl) (hA689.ev (v := (.int .i64 ((j34 + (skipL (List.drop j34 l)).1 + 1 : Nat) : Int))) rfl) ?_)
                          intro a690 hA691
                          refine q_step hA691 rfl (d_bin (wn rfl) (hA691.ev (v := (.int .i64 ((j34 + (skipL (List.drop j34 l)).1 + 1 : Nat) : Int))) rfl) (hA691.ev (v := (.int .i64 1)) rfl) (b_addE (j34 + (skipL (List.drop j34 l)).1 + 1 + 1) (by omega) (by omega)) ?_)
                          intro a692 hA693
                          refine q_step hA693 rfl (d_assign (wn rfl) (hA693.ev (v := (.int .i64 ((j34 + (skipL (List.drop j34 l)).1 + 1 + 1 : Nat) : Int))) rfl) ?_)
                          intro a694 hA695
                          refine q_end ?_
                          refine t_norm ?_
                          refine wp_region_lit ?_
                          refine q_step hA695 rfl (d_fieldAddr (wn rfl) (hA695.ev (v := (.pointer (some ⟨g135, 0, none⟩))) rfl) fo33_0 ?_)
                          intro a696 hA697
                          refine q_step hA697 rfl (d_store (wn rfl) (hA697.ev (v := (.pointer (some ⟨g135, 0, none⟩))) rfl) (hA697.ev (v := (.int .i64 3)) rfl) one3 rfl m527 (Nat.le_of_ble_eq_true rfl) ?_)
                          intro w698 hU699 (m700 : Blk w698 g135 #[.int .i64 3, .string (S []), .int .i64 0, .int .i64 ((j34 + (skipL (List.drop j34 l)).1 : Nat) : Int)] 33)
                          have b701 := hU699.below b528 ge140
                          have ho702 := own_upd ho529 hU699 off141
                          intro a703 hA704
                          refine q_end ?_
                          refine i_norm ?_
                          refine t_norm ?_
                          refine wp_seq ?_
                          refine wp_region_lit ?_
                          refine q_step hA704 rfl (d_move (wn rfl) (hA704.ev (v := (.string (S l))) rfl) ?_)
                          intro a705 hA706
                          refine q_step hA706 rfl (d_move (wn rfl) (hA706.ev (v := (.int .i64 ((j34 + (skipL (List.drop j34 l)).1 : Nat) : Int))) rfl) ?_)
                          intro a707 hA708
                          refine q_step hA708 rfl (d_move (wn rfl) (hA708.ev (v := (.int .i64 ((j34 + (skipL (List.drop j34 l)).1 + 1 + 1 : Nat) : Int))) rfl) ?_)
                          intro a709 hA710
                          refine q_step hA710 rfl (d_spart2 (m := j34 + (skipL (List.drop j34 l)).1) (n := 2) (wn rfl) (hA710.ev (v := (.string (S l))) rfl) (hA710.ev (v := (.int .i64 ((j34 + (skipL (List.drop j34 l)).1 : Nat) : Int))) rfl) ((hA710.ev (v := (.int .i64 ((j34 + (skipL (List.drop j34 l)).1 + 1 + 1 : Nat) : Int))) rfl).trans (congrArg (Value.int .i64) (by omega))) str9 (by omega) ?_)
                          intro a711 hA712
                          refine q_step hA712 rfl (d_fieldAddr (wn rfl) (hA712.ev (v := (.pointer (some ⟨g135, 0, none⟩))) rfl) fo33_1 ?_)
                          intro a713 hA714
                          refine q_step hA714 rfl (d_store (wn rfl) (hA714.ev (v := (.pointer (some ⟨g135, 1, none⟩))) rfl) (hA714.ev (v := (.string (S (List.take 2 (List.drop (j34 + (skipL (List.drop j34 l)).1) l))))) rfl) one9 rfl m700 (Nat.le_of_ble_eq_true rfl) ?_)
                          intro w715 hU716 (m717 : Blk w715 g135 #[.int .i64 3, .string (S (List.take 2 (List.drop (j34 + (skipL (List.drop j34 l)).1) l))), .int .i64 0, .int .i64 ((j34 + (skipL (List.drop j34 l)).1 : Nat) : Int)] 33)
                          have b718 := hU716.below b701 ge140
                          have ho719 := own_upd ho702 hU716 off141
                          intro a720 hA721
                          refine q_end ?_
                          refine t_norm ?_
                          refine wp_seq ?_
                          refine wp_region_lit ?_
                          refine q_step hA721 rfl (d_move (wn rfl) (hA721.ev (v := v36) rfl) ?_)
                          intro a722 hA723
                          refine q_step hA723 rfl (d_loadRow (cs := #[.int .i64 3, .string (S (List.take 2 (List.drop (j34 + (skipL (List.drop j34 l)).1) l))), .int .i64 0, .int .i64 ((j34 + (skipL (List.drop j34 l)).1 : Nat) : Int)]) (wn rfl) (hA723.ev (v := (.pointer (some ⟨g135, 0, none⟩))) rfl) row33 m717 ?_)
                          intro a724 hA725
                          refine q_step hA725 rfl (d_slice1 (wn rfl) (hA725.ev (v := (.agg #[.int .i64 3, .string (S (List.take 2 (List.drop (j34 + (skipL (List.drop j34 l)).1) l))), .int .i64 0, .int .i64 ((j34 + (skipL (List.drop j34 l)).1 : Nat) : Int)])) rfl) elm23 rfl (by decide) ?_)
                          intro g726 w727 eg728 hG729 (m730 : Blk w727 g726 #[.int .i64 3, .string (S (List.take 2 (List.drop (j34 + (skipL (List.drop j34 l)).1) l))), .int .i64 0, .int .i64 ((j34 + (skipL (List.drop j34 l)).1 : Nat) : Int)] 33)
                          have ge731 : w.heap.size ≤ g726 := eg728 ▸ b718.size
                          have n732 : g135 ≠ g726 := fun h => Nat.lt_irrefl _ ((h.trans eg728) ▸ m717.lt)
                          have off733 := own_new ho719 eg728
                          have m734 := m717.grow hG729
                          have b735 := below_grow b718 hG729 b718.size
                          have ho736 := own_grow hG729 ho719
                          intro a737 hA738
                          refine q_step hA738 rfl (d_append (wn rfl) (hA738.ev (v := v36) rfl) (hA738.ev (v := (.slice (some ⟨g726, 0, none⟩) 1 1)) rfl) elm23 ho736 m730 rfl rfl (by omega) (by decide) b735.size ?_)
                          intro v739 w740 ho741 hg742 hl743
                          have b744 := below_by b735 hg742 b735.size (fun k hk => (own_lt ho736 k hk).1)
                          have m745 := m734.by hg742 off141
                          have off746 := lies_ne hl743 off141 m734.lt
                          intro a747 hA748
                          refine q_step hA748 rfl (d_assign (wn rfl) (hA748.ev (v := v739) rfl) ?_)
                          intro a749 hA750
                          refine q_end ?_
                          refine t_norm ?_
                          refine wp_region_lit ?_
                          refine q_step hA750 rfl (d_move (wn rfl) (hA750.ev (v := (.int .i64 ((j34 + (skipL (List.drop j34 l)).1 + 1 + 1 : Nat) : Int))) rfl) ?_)
                          intro a751 hA752
                          refine q_step hA752 rfl (d_assign (wn rfl) (hA752.ev (v := (.int .i64 ((j34 + (skipL (List.drop j34 l)).1 + 1 + 1 : Nat) : Int))) rfl) ?_)
                          intro a753 hA754
                          refine q_end ?_
                          refine i_norm ?_
                          refine t_norm ?_
                          have hmk := mkN_two_b hy126 hy561 (by omega)
                          have hF := first_mark (at_zero hy126) hb168 (nbg_no hb335 (ne_of_beq hb431)) (by omega)
                          rw [hmk] at hF
                          have hgo := tf_go (f := f') (ws := ws35) hk49 (by omega) (by rw [hF])
                          rw [hF] at hgo
                          rw [hgo] at htk
                          have hlen : (List.take 2 (List.drop (j34 + (skipL (List.drop j34 l)).1) l)).length = 2 := by rw [List.length_take, List.length_drop]; omega
                          exact ⟨l.length - (j34 + (skipL (List.drop j34 l)).1 + (List.take 2 (List.drop (j34 + (skipL (List.drop j34 l)).1) l)).length), (by rw [hm37]; omega), f', j34 + (skipL (List.drop j34 l)).1 + (List.take 2 (List.drop (j34 + (skipL (List.drop j34 l)).1) l)).length, ws35 ++ [(⟨3, List.take 2 (List.drop (j34 + (skipL (List.drop j34 l)).1) l), 0, ((j34 + (skipL (List.drop j34 l)).1 : Nat) : Int)⟩ : Tk)], v739, rfl, ⟨by omega, by omega, by rw [List.length_append, List.length_singleton]; omega⟩, htk, hA754.cut _ (fm_cons (hA754.get 0 _ rfl) (fm_cons (hA754.get 2 _ rfl) (fm_cons (hA754.get 3 _ rfl) (fm_cons (hA754.get 4 _ rfl) (fm_cons (hA754.get 5 _ rfl) (fm_cons ((hA754.get 6 _ rfl).trans (congrArg (Value.int .i64) (by omega))) fm_nil)))))), b744, by rw [List.length_append, List.length_singleton, ← flat_tok]; exact ho741⟩
                        · skip
                          have hq755 := ne_of_beq hb679
                          refine q_step hA678 rfl (d_bin (wy rfl rfl (hA678.get 91 _ rfl)) (hA678.ev (v := (.int .u8 ((y560.toNat : Nat) : Int))) rfl) (hA678.ev (v := (.int .u8 47)) rfl) (b_eq _ _ ((y560.toNat : Nat) : Int) 47 false _ hb679) ?_)
                          intro a756 hA757
                          refine q_step hA757 rfl (d_pickT (wy rfl rfl (hA757.get 88 _ rfl)) (hA757.ev (v := (.bool true)) rfl) (hA757.ev (v := (.bool false)) rfl) ?_)
                          intro a758 hA759
                          refine q_step hA759 rfl (d_pickF (wy rfl rfl (hA759.get 79 _ rfl)) (hA759.ev (v := (.bool false)) rfl) (hA759.ev (v := (.bool false)) rfl) ?_)
                          intro a760 hA761
                          refine q_step hA761 rfl (d_pickT (wn rfl) (hA761.ev (v := (.bool true)) rfl) (hA761.ev (v := (.bool false)) rfl) ?_)
                          intro a762 hA763
                          refine q_end ?_
                          have hA764 : St 112 [(0, (.string (S l))), (2, (.slice none 0 0)), (3, (.int .i64 0)), (4, (.int .i64 0)), (5, v36), (6, (.int .i64 ((j34 + (skipL (List.drop j34 l)).1 : Nat) : Int))), (10, (.pointer (some ⟨g135, 0, none⟩))), (11, (.int .i64 ((j34 + (skipL (List.drop j34 l)).1 + 1 : Nat) : Int))), (98, (.bool false))] a762 := hA763.cut _ (fm_cons (hA763.get 0 _ rfl) (fm_cons (hA763.get 2 _ rfl) (fm_cons (hA763.get 3 _ rfl) (fm_cons (hA763.get 4 _ rfl) (fm_cons (hA763.get 5 _ rfl) (fm_cons (hA763.get 6 _ rfl) (fm_cons (hA763.get 10 _ rfl) (fm_cons (hA763.get 11 _ rfl) (fm_cons (hA763.get 98 _ rfl) fm_nil)))))))))
                          refine t_norm ?_
                          refine c_false hA764 rfl ?_
                          refine wp_skip ?_
                          refine t_norm ?_
                          refine wp_region_lit ?_
                          refine q_step hA764 rfl (d_fieldAddr (wn rfl) (hA764.ev (v := (.pointer (some ⟨g135, 0, none⟩))) rfl) fo33_0 ?_)
                          intro a765 hA766
                          refine q_step hA766 rfl (d_store (wn rfl) (hA766.ev (v := (.pointer (some ⟨g135, 0, none⟩))) rfl) (hA766.ev (v := (.int .i64 3)) rfl) one3 rfl m527 (Nat.le_of_ble_eq_true rfl) ?_)
                          intro w767 hU768 (m769 : Blk w767 g135 #[.int .i64 3, .string (S []), .int .i64 0, .int .i64 ((j34 + (skipL (List.drop j34 l)).1 : Nat) : Int)] 33)
                          have b770 := hU768.below b528 ge140
                          have ho771 := own_upd ho529 hU768 off141
                          intro a772 hA773
                          refine q_end ?_
                          refine i_norm ?_
                          refine t_norm ?_
                          refine wp_seq ?_
                          refine wp_region_lit ?_
                          refine q_step hA773 rfl (d_move (wn rfl) (hA773.ev (v := (.string (S l))) rfl) ?_)
                          intro a774 hA775
                          refine q_step hA775 rfl (d_move (wn rfl) (hA775.ev (v := (.int .i64 ((j34 + (skipL (List.drop j34 l)).1 : Nat) : Int))) rfl) ?_)
                          intro a776 hA777
                          refine q_step hA777 rfl (d_move (wn rfl) (hA777.ev (v := (.int .i64 ((j34 + (skipL (List.drop j34 l)).1 + 1 : Nat) : Int))) rfl) ?_)
                          intro a778 hA779
                          refine q_step hA779 rfl (d_spart2 (m := j34 + (skipL (List.drop j34 l)).1) (n := 1) (wn rfl) (hA779.ev (v := (.string (S l))) rfl) (hA779.ev (v := (.int .i64 ((j34 + (skipL (List.drop j34 l)).1 : Nat) : Int))) rfl) (hA779.ev (v := (.int .i64 ((j34 + (skipL (List.drop j34 l)).1 + 1 : Nat) : Int))) rfl) str9 (by omega) ?_)
                          intro a780 hA781
                          refine q_step hA781 rfl (d_fieldAddr (wn rfl) (hA781.ev (v := (.pointer (some ⟨g135, 0, none⟩))) rfl) fo33_1 ?_)
                          intro a782 hA783
                          refine q_step hA783 rfl (d_store (wn rfl) (hA783.ev (v := (.pointer (some ⟨g135, 1, none⟩))) rfl) (hA783.ev (v := (.string (S (List.take 1 (List.drop (j34 + (skipL (List.drop j34 l)).1) l))))) rfl) one9 rfl m769 (Nat.le_of_ble_eq_true rfl) ?_)
                          intro w784 hU785 (m786 : Blk w784 g135 #[.int .i64 3, .string (S (List.take 1 (List.drop (j34 + (skipL (List.drop j34 l)).1) l))), .int .i64 0, .int .i64 ((j34 + (skipL (List.drop j34 l)).1 : Nat) : Int)] 33)
                          have b787 := hU785.below b770 ge140
                          have ho788 := own_upd ho771 hU785 off141
                          intro a789 hA790
                          refine q_end ?_
                          refine t_norm ?_
                          refine wp_seq ?_
                          refine wp_region_lit ?_
                          refine q_step hA790 rfl (d_move (wn rfl) (hA790.ev (v := v36) rfl) ?_)
                          intro a791 hA792
                          refine q_step hA792 rfl (d_loadRow (cs := #[.int .i64 3, .string (S (List.take 1 (List.drop (j34 + (skipL (List.drop j34 l)).1) l))), .int .i64 0, .int .i64 ((j34 + (skipL (List.drop j34 l)).1 : Nat) : Int)]) (wn rfl) (hA792.ev (v := (.pointer (some ⟨g135, 0, none⟩))) rfl) row33 m786 ?_)
                          intro a793 hA794
                          refine q_step hA794 rfl (d_slice1 (wn rfl) (hA794.ev (v := (.agg #[.int .i64 3, .string (S (List.take 1 (List.drop (j34 + (skipL (List.drop j34 l)).1) l))), .int .i64 0, .int .i64 ((j34 + (skipL (List.drop j34 l)).1 : Nat) : Int)])) rfl) elm23 rfl (by decide) ?_)
                          intro g795 w796 eg797 hG798 (m799 : Blk w796 g795 #[.int .i64 3, .string (S (List.take 1 (List.drop (j34 + (skipL (List.drop j34 l)).1) l))), .int .i64 0, .int .i64 ((j34 + (skipL (List.drop j34 l)).1 : Nat) : Int)] 33)
                          have ge800 : w.heap.size ≤ g795 := eg797 ▸ b787.size
                          have n801 : g135 ≠ g795 := fun h => Nat.lt_irrefl _ ((h.trans eg797) ▸ m786.lt)
                          have off802 := own_new ho788 eg797
                          have m803 := m786.grow hG798
                          have b804 := below_grow b787 hG798 b787.size
                          have ho805 := own_grow hG798 ho788
                          intro a806 hA807
                          refine q_step hA807 rfl (d_append (wn rfl) (hA807.ev (v := v36) rfl) (hA807.ev (v := (.slice (some ⟨g795, 0, none⟩) 1 1)) rfl) elm23 ho805 m799 rfl rfl (by omega) (by decide) b804.size ?_)
                          intro v808 w809 ho810 hg811 hl812
                          have b813 := below_by b804 hg811 b804.size (fun k hk => (own_lt ho805 k hk).1)
                          have m814 := m803.by hg811 off141
                          have off815 := lies_ne hl812 off141 m803.lt
                          intro a816 hA817
                          refine q_step hA817 rfl (d_assign (wn rfl) (hA817.ev (v := v808) rfl) ?_)
                          intro a818 hA819
                          refine q_end ?_
                          refine t_norm ?_
                          refine wp_region_lit ?_
                          refine q_step hA819 rfl (d_move (wn rfl) (hA819.ev (v := (.int .i64 ((j34 + (skipL (List.drop j34 l)).1 + 1 : Nat) : Int))) rfl) ?_)
                          intro a820 hA821
                          refine q_step hA821 rfl (d_assign (wn rfl) (hA821.ev (v := (.int .i64 ((j34 + (skipL (List.drop j34 l)).1 + 1 : Nat) : Int))) rfl) ?_)
                          intro a822 hA823
                          refine q_end ?_
                          refine i_norm ?_
                          refine t_norm ?_
                          have hmk := mkN_one_b hy126 hy561 (by omega) hb530
                          have hF := first_mark (at_zero hy126) hb168 (nbg_no hb335 (ne_of_beq hb431)) (by omega)
                          rw [hmk] at hF
                          have hgo := tf_go (f := f') (ws := ws35) hk49 (by omega) (by rw [hF])
                          rw [hF] at hgo
                          rw [hgo] at htk
                          have hlen : (List.take 1 (List.drop (j34 + (skipL (List.drop j34 l)).1) l)).length = 1 := by rw [List.length_take, List.length_drop]; omega
                          exact ⟨l.length - (j34 + (skipL (List.drop j34 l)).1 + (List.take 1 (List.drop (j34 + (skipL (List.drop j34 l)).1) l)).length), (by rw [hm37]; omega), f', j34 + (skipL (List.drop j34 l)).1 + (List.take 1 (List.drop (j34 + (skipL (List.drop j34 l)).1) l)).length, ws35 ++ [(⟨3, List.take 1 (List.drop (j34 + (skipL (List.drop j34 l)).1) l), 0, ((j34 + (skipL (List.drop j34 l)).1 : Nat) : Int)⟩ : Tk)], v808, rfl, ⟨by omega, by omega, by rw [List.length_append, List.length_singleton]; omega⟩, htk, hA823.cut _ (fm_cons (hA823.get 0 _ rfl) (fm_cons (hA823.get 2 _ rfl) (fm_cons (hA823.get 3 _ rfl) (fm_cons (hA823.get 4 _ rfl) (fm_cons (hA823.get 5 _ rfl) (fm_cons ((hA823.get 6 _ rfl).trans (congrArg (Value.int .i64) (by omega))) fm_nil)))))), b813, by rw [List.length_append, List.length_singleton, ← flat_tok]; exact ho810⟩
                      · skip
                        have hq824 := ne_of_beq hb667
                        refine q_step hA666 rfl (d_bin (wy rfl rfl (hA666.get 88 _ rfl)) (hA666.ev (v := (.int .u8 ((y125.toNat : Nat) : Int))) rfl) (hA666.ev (v := (.int .u8 92)) rfl) (b_eq _ _ ((y125.toNat : Nat) : Int) 92 false _ hb667) ?_)
                        intro a825 hA826
                        refine q_step hA826 rfl (d_move (wy rfl rfl (hA826.get 88 _ rfl)) (hA826.ev (v := (.bool false)) rfl) ?_)
                        intro a827 hA828
                        refine q_step hA828 rfl (does_not (wno rfl rfl (.inl (hA828.get 91 _ rfl))) ?_)
                        intro a829 hA830
                        refine q_step hA830 rfl (does_not (wno rfl rfl (.inl (hA830.get 91 _ rfl))) ?_)
                        intro a831 hA832
                        refine q_step hA832 rfl (does_not (wno rfl rfl (.inl (hA832.get 91 _ rfl))) ?_)
                        intro a833 hA834
                        refine q_step hA834 rfl (does_not (wno rfl rfl (.inl (hA834.get 91 _ rfl))) ?_)
                        intro a835 hA836
                        refine q_step hA836 rfl (d_pickF (wy rfl rfl (hA836.get 88 _ rfl)) (hA836.ev (v := (.bool false)) rfl) (hA836.ev (v := (.bool false)) rfl) ?_)
                        intro a837 hA838
                        refine q_step hA838 rfl (d_pickF (wy rfl rfl (hA838.get 79 _ rfl)) (hA838.ev (v := (.bool false)) rfl) (hA838.ev (v := (.bool false)) rfl) ?_)
                        intro a839 hA840
                        refine q_step hA840 rfl (d_pickT (wn rfl) (hA840.ev (v := (.bool true)) rfl) (hA840.ev (v := (.bool false)) rfl) ?_)
                        intro a841 hA842
                        refine q_end ?_
                        have hA843 : St 112 [(0, (.string (S l))), (2, (.slice none 0 0)), (3, (.int .i64 0)), (4, (.int .i64 0)), (5, v36), (6, (.int .i64 ((j34 + (skipL (List.drop j34 l)).1 : Nat) : Int))), (10, (.pointer (some ⟨g135, 0, none⟩))), (11, (.int .i64 ((j34 + (skipL (List.drop j34 l)).1 + 1 : Nat) : Int))), (98, (.bool false))] a841 := hA842.cut _ (fm_cons (hA842.get 0 _ rfl) (fm_cons (hA842.get 2 _ rfl) (fm_cons (hA842.get 3 _ rfl) (fm_cons (hA842.get 4 _ rfl) (fm_cons (hA842.get 5 _ rfl) (fm_cons (hA842.get 6 _ rfl) (fm_cons (hA842.get 10 _ rfl) (fm_cons (hA842.get 11 _ rfl) (fm_cons (hA842.get 98 _ rfl) fm_nil)))))))))
                        refine t_norm ?_
                        refine c_false hA843 rfl ?_
                        refine wp_skip ?_
                        refine t_norm ?_
                        refine wp_region_lit ?_
                        refine q_step hA843 rfl (d_fieldAddr (wn rfl) (hA843.ev (v := (.pointer (some ⟨g135, 0, none⟩))) rfl) fo33_0 ?_)
                        intro a844 hA845
                        refine q_step hA845 rfl (d_store (wn rfl) (hA845.ev (v := (.pointer (some ⟨g135, 0, none⟩))) rfl) (hA845.ev (v := (.int .i64 3)) rfl) one3 rfl m527 (Nat.le_of_ble_eq_true rfl) ?_)
                        intro w846 hU847 (m848 : Blk w846 g135 #[.int .i64 3, .string (S []), .int .i64 0, .int .i64 ((j34 + (skipL (List.drop j34 l)).1 : Nat) : Int)] 33)
                        have b849 := hU847.below b528 ge140
                        have ho850 := own_upd ho529 hU847 off141
                        intro a851 hA852
                        refine q_end ?_
                        refine i_norm ?_
                        refine t_norm ?_
                        refine wp_seq ?_
                        refine wp_region_lit ?_
                        refine q_step hA852 rfl (d_move (wn rfl) (hA852.ev (v := (.string (S l))) rfl) ?_)
                        intro a853 hA854
                        refine q_step hA854 rfl (d_move (wn rfl) (hA854.ev (v := (.int .i64 ((j34 + (skipL (List.drop j34 l)).1 : Nat) : Int))) rfl) ?_)
                        intro a855 hA856
                        refine q_step hA856 rfl (d_move (wn rfl) (hA856.ev (v := (.int .i64 ((j34 + (skipL (List.drop j34 l)).1 + 1 : Nat) : Int))) rfl) ?_)
                        intro a857 hA858
                        refine q_step hA858 rfl (d_spart2 (m := j34 + (skipL (List.drop j34 l)).1) (n := 1) (wn rfl) (hA858.ev (v := (.string (S l))) rfl) (hA858.ev (v := (.int .i64 ((j34 + (skipL (List.drop j34 l)).1 : Nat) : Int))) rfl) (hA858.ev (v := (.int .i64 ((j34 + (skipL (List.drop j34 l)).1 + 1 : Nat) : Int))) rfl) str9 (by omega) ?_)
                        intro a859 hA860
                        refine q_step hA860 rfl (d_fieldAddr (wn rfl) (hA860.ev (v := (.pointer (some ⟨g135, 0, none⟩))) rfl) fo33_1 ?_)
                        intro a861 hA862
                        refine q_step hA862 rfl (d_store (wn rfl) (hA862.ev (v := (.pointer (some ⟨g135, 1, none⟩))) rfl) (hA862.ev (v := (.string (S (List.take 1 (List.drop (j34 + (skipL (List.drop j34 l)).1) l))))) rfl) one9 rfl m848 (Nat.le_of_ble_eq_true rfl) ?_)
                        intro w863 hU864 (m865 : Blk w863 g135 #[.int .i64 3, .string (S (List.take 1 (List.drop (j34 + (skipL (List.drop j34 l)).1) l))), .int .i64 0, .int .i64 ((j34 + (skipL (List.drop j34 l)).1 : Nat) : Int)] 33)
                        have b866 := hU864.below b849 ge140
                        have ho867 := own_upd ho850 hU864 off141
                        intro a868 hA869
                        refine q_end ?_
                        refine t_norm ?_
                        refine wp_seq ?_
                        refine wp_region_lit ?_
                        refine q_step hA869 rfl (d_move (wn rfl) (hA869.ev (v := v36) rfl) ?_)
                        intro a870 hA871
                        refine q_step hA871 rfl (d_loadRow (cs := #[.int .i64 3, .string (S (List.take 1 (List.drop (j34 + (skipL (List.drop j34 l)).1) l))), .int .i64 0, .int .i64 ((j34 + (skipL (List.drop j34 l)).1 : Nat) : Int)]) (wn rfl) (hA871.ev (v := (.pointer (some ⟨g135, 0, none⟩))) rfl) row33 m865 ?_)
                        intro a872 hA873
                        refine q_step hA873 rfl (d_slice1 (wn rfl) (hA873.ev (v := (.agg #[.int .i64 3, .string (S (List.take 1 (List.drop (j34 + (skipL (List.drop j34 l)).1) l))), .int .i64 0, .int .i64 ((j34 + (skipL (List.drop j34 l)).1 : Nat) : Int)])) rfl) elm23 rfl (by decide) ?_)
                        intro g874 w875 eg876 hG877 (m878 : Blk w875 g874 #[.int .i64 3, .string (S (List.take 1 (List.drop (j34 + (skipL (List.drop j34 l)).1) l))), .int .i64 0, .int .i64 ((j34 + (skipL (List.drop j34 l)).1 : Nat) : Int)] 33)
                        have ge879 : w.heap.size ≤ g874 := eg876 ▸ b866.size
                        have n880 : g135 ≠ g874 := fun h => Nat.lt_irrefl _ ((h.trans eg876) ▸ m865.lt)
                        have off881 := own_new ho867 eg876
                        have m882 := m865.grow hG877
                        have b883 := below_grow b866 hG877 b866.size
                        have ho884 := own_grow hG877 ho867
                        intro a885 hA886
                        refine q_step hA886 rfl (d_append (wn rfl) (hA886.ev (v := v36) rfl) (hA886.ev (v := (.slice (some ⟨g874, 0, none⟩) 1 1)) rfl) elm23 ho884 m878 rfl rfl (by omega) (by decide) b883.size ?_)
                        intro v887 w888 ho889 hg890 hl891
                        have b892 := below_by b883 hg890 b883.size (fun k hk => (own_lt ho884 k hk).1)
                        have m893 := m882.by hg890 off141
                        have off894 := lies_ne hl891 off141 m882.lt
                        intro a895 hA896
                        refine q_step hA896 rfl (d_assign (wn rfl) (hA896.ev (v := v887) rfl) ?_)
                        intro a897 hA898
                        refine q_end ?_
                        refine t_norm ?_
                        refine wp_region_lit ?_
                        refine q_step hA898 rfl (d_move (wn rfl) (hA898.ev (v := (.int .i64 ((j34 + (skipL (List.drop j34 l)).1 + 1 : Nat) : Int))) rfl) ?_)
                        intro a899 hA900
                        refine q_step hA900 rfl (d_assign (wn rfl) (hA900.ev (v := (.int .i64 ((j34 + (skipL (List.drop j34 l)).1 + 1 : Nat) : Int))) rfl) ?_)
                        intro a901 hA902
                        refine q_end ?_
                        refine i_norm ?_
                        refine t_norm ?_
                        have hmk := mkN_one_b hy126 hy561 (by omega) hb530
                        have hF := first_mark (at_zero hy126) hb168 (nbg_no hb335 (ne_of_beq hb431)) (by omega)
                        rw [hmk] at hF
                        have hgo := tf_go (f := f') (ws := ws35) hk49 (by omega) (by rw [hF])
                        rw [hF] at hgo
                        rw [hgo] at htk
                        have hlen : (List.take 1 (List.drop (j34 + (skipL (List.drop j34 l)).1) l)).length = 1 := by rw [List.length_take, List.length_drop]; omega
                        exact ⟨l.length - (j34 + (skipL (List.drop j34 l)).1 + (List.take 1 (List.drop (j34 + (skipL (List.drop j34 l)).1) l)).length), (by rw [hm37]; omega), f', j34 + (skipL (List.drop j34 l)).1 + (List.take 1 (List.drop (j34 + (skipL (List.drop j34 l)).1) l)).length, ws35 ++ [(⟨3, List.take 1 (List.drop (j34 + (skipL (List.drop j34 l)).1) l), 0, ((j34 + (skipL (List.drop j34 l)).1 : Nat) : Int)⟩ : Tk)], v887, rfl, ⟨by omega, by omega, by rw [List.length_append, List.length_singleton]; omega⟩, htk, hA902.cut _ (fm_cons (hA902.get 0 _ rfl) (fm_cons (hA902.get 2 _ rfl) (fm_cons (hA902.get 3 _ rfl) (fm_cons (hA902.get 4 _ rfl) (fm_cons (hA902.get 5 _ rfl) (fm_cons ((hA902.get 6 _ rfl).trans (congrArg (Value.int .i64) (by omega))) fm_nil)))))), b892, by rw [List.length_append, List.length_singleton, ← flat_tok]; exact ho889⟩
                  · skip
                    have hq903 := ne_of_beq hb550
                    refine q_step hA549 rfl (d_bin (wy rfl rfl (hA549.get 79 _ rfl)) (hA549.ev (v := (.int .u8 ((y125.toNat : Nat) : Int))) rfl) (hA549.ev (v := (.int .u8 47)) rfl) (b_eq _ _ ((y125.toNat : Nat) : Int) 47 false _ hb550) ?_)
                    intro a904 hA905
                    refine q_step hA905 rfl (d_move (wy rfl rfl (hA905.get 79 _ rfl)) (hA905.ev (v := (.bool false)) rfl) ?_)
                    intro a906 hA907
                    refine q_step hA907 rfl (does_not (wno rfl rfl (.inl (hA907.get 82 _ rfl))) ?_)
                    intro a908 hA909
                    refine q_step hA909 rfl (does_not (wno rfl rfl (.inl (hA909.get 82 _ rfl))) ?_)
                    intro a910 hA911
                    refine q_step hA911 rfl (does_not (wno rfl rfl (.inl (hA911.get 82 _ rfl))) ?_)
                    intro a912 hA913
                    refine q_step hA913 rfl (does_not (wno rfl rfl (.inl (hA913.get 82 _ rfl))) ?_)
                    intro a914 hA915
                    refine q_step hA915 rfl (d_pickF (wy rfl rfl (hA915.get 79 _ rfl)) (hA915.ev (v := (.bool false)) rfl) (hA915.ev (v := (.bool false)) rfl) ?_)
                    intro a916 hA917
                    refine q_step hA917 rfl (d_move (wy rfl rfl (hA917.get 79 _ rfl)) (hA917.ev (v := (.bool false)) rfl) ?_)
                    intro a918 hA919
                    refine q_step hA919 rfl (d_move (wy rfl rfl (hA919.get 88 _ rfl)) (hA919.ev (v := (.int .u8 ((y125.toNat : Nat) : Int))) rfl) ?_)
                    intro a920 hA921
                    rcases Bool.eq_false_or_eq_true (((y125.toNat : Nat) : Int) == 92) with hb922 | hb922
                    · skip
                      have hq923 := eq_of_beq hb922
                      refine q_step hA921 rfl (d_bin (wy rfl rfl (hA921.get 88 _ rfl)) (hA921.ev (v := (.int .u8 ((y125.toNat : Nat) : Int))) rfl) (hA921.ev (v := (.int .u8 92)) rfl) (b_eq _ _ ((y125.toNat : Nat) : Int) 92 true _ hb922) ?_)
                      intro a924 hA925
                      refine q_step hA925 rfl (d_move (wy rfl rfl (hA925.get 88 _ rfl)) (hA925.ev (v := (.bool true)) rfl) ?_)
                      intro a926 hA927
                      refine q_step hA927 rfl (d_move (wy rfl rfl (hA927.get 91 _ rfl)) (hA927.ev (v := (.string (S l))) rfl) ?_)
                      intro a928 hA929
                      refine q_step hA929 rfl (d_move (wy rfl rfl (hA929.get 91 _ rfl)) (hA929.ev (v := (.int .i64 ((j34 + (skipL (List.drop j34 l)).1 + 1 : Nat) : Int))) rfl) ?_)
                      intro a930 hA931
                      obtain ⟨y932, hy933⟩ : ∃ y932, l[j34 + (skipL (List.drop j34 l)).1 + 1]? = some y932 := ⟨_, List.getElem?_eq_getElem (show j34 + (skipL (List.drop j34 l)).1 + 1 < l.length by omega)⟩
                      refine q_step hA931 rfl (d_sat (j := j34 + (skipL (List.drop j34 l)).1 + 1) (wy rfl rfl (hA931.get 91 _ rfl)) (hA931.ev (v := (.string (S l))) rfl) (hA931.ev (v := (.int .i64 ((j34 + (skipL (List.drop j34 l)).1 + 1 : Nat) : Int))) rfl) str9 hy933 ?_)
                      intro a934 hA935
                      rcases Bool.eq_false_or_eq_true (((y932.toNat : Nat) : Int) == 47) with hb936 | hb936
                      · skip
                        have hq937 := eq_of_beq hb936
                        refine q_step hA935 rfl (d_bin (wy rfl rfl (hA935.get 91 _ rfl)) (hA935.ev (v := (.int .u8 ((y932.toNat : Nat) : Int))) rfl) (hA935.ev (v := (.int .u8 47)) rfl) (b_eq _ _ ((y932.toNat : Nat) : Int) 47 true _ hb936) ?_)
                        intro a938 hA939
                        refine q_step hA939 rfl (d_pickT (wy rfl rfl (hA939.get 88 _ rfl)) (hA939.ev (v := (.bool true)) rfl) (hA939.ev (v := (.bool true)) rfl) ?_)
                        intro a940 hA941
                        refine q_step hA941 rfl (d_pickF (wy rfl rfl (hA941.get 79 _ rfl)) (hA941.ev (v := (.bool false)) rfl) (hA941.ev (v := (.bool true)) rfl) ?_)
                        intro a942 hA943
                        refine q_step hA943 rfl (d_pickT (wn rfl) (hA943.ev (v := (.bool true)) rfl) (hA943.ev (v := (.bool true)) rfl) ?_)
                        intro a944 hA945
                        refine q_end ?_
                        have hA946 : St 112 [(0, (.string (S l))), (2, (.slice none 0 0)), (3, (.int .i64 0)), (4, (.int .i64 0)), (5, v36), (6, (.int .i64 ((j34 + (skipL (List.drop j34 l)).1 : Nat) : Int))), (10, (.pointer (some ⟨g135, 0, none⟩))), (11, (.int .i64 ((j34 + (skipL (List.drop j34 l)).1 + 1 : Nat) : Int))), (98, (.bool true))] a944 := hA945.cut _ (fm_cons (hA945.get 0 _ rfl) (fm_cons (hA945.get 2 _ rfl) (fm_cons (hA945.get 3 _ rfl) (fm_cons (hA945.get 4 _ rfl) (fm_cons (hA945.get 5 _ rfl) (fm_cons (hA945.get 6 _ rfl) (fm_cons (hA945.get 10 _ rfl) (fm_cons (hA945.get 11 _ rfl) (fm_cons (hA945.get 98 _ rfl) fm_nil)))))))))
                        refine t_norm ?_
                        refine c_true hA946 rfl ?_
                        refine wp_region_lit ?_
                        refine q_step hA946 rfl (d_move (wn rfl) (hA946.ev (v := (.int .i64 ((j34 + (skipL (List.drop j34 l)).1 + 1 : Nat) : Int))) rfl) ?_)
                        intro a947 hA948
                        refine q_step hA948 rfl (d_bin (wn rfl) (hA948.ev (v := (.int .i64 ((j34 + (skipL (List.drop j34 l)).1 + 1 : Nat) : Int))) rfl) (hA948.ev (v := (.int .i64 1)) rfl) (b_addE (j34 + (skipL (List.drop j34 l)).1 + 1 + 1) (by omega) (by omega)) ?_)
                        intro a949 hA950
                        refine q_step hA950 rfl (d_assign (wn rfl) (hA950.ev (v := (.int .i64 ((j34 + (skipL (List.drop j34 l)).1 + 1 + 1 : Nat) : Int))) rfl) ?_)
                        intro a951 hA952
                        refine q_end ?_
                        refine t_norm ?_
                        refine wp_region_lit ?_
                        refine q_step hA952 rfl (d_fieldAddr (wn rfl) (hA952.ev (v := (.pointer (some ⟨g135, 0, none⟩))) rfl) fo33_0 ?_)
                        intro a953 hA954
                        refine q_step hA954 rfl (d_store (wn rfl) (hA954.ev (v := (.pointer (some ⟨g135, 0, none⟩))) rfl) (hA954.ev (v := (.int .i64 3)) rfl) one3 rfl m527 (Nat.le_of_ble_eq_true rfl) ?_)
                        intro w955 hU956 (m957 : Blk w955 g135 #[.int .i64 3, .string (S []), .int .i64 0, .int .i64 ((j34 + (skipL (List.drop j34 l)).1 : Nat) : Int)] 33)
                        have b958 := hU956.below b528 ge140
                        have ho959 := own_upd ho529 hU956 off141
                        intro a960 hA961
                        refine q_end ?_
                        refine i_norm ?_
                        refine t_norm ?_
                        refine wp_seq ?_
                        refine wp_region_lit ?_
                        refine q_step hA961 rfl (d_move (wn rfl) (hA961.ev (v := (.string (S l))) rfl) ?_)
                        intro a962 hA963
                        refine q_step hA963 rfl (d_move (wn rfl) (hA963.ev (v := (.int .i64 ((j34 + (skipL (List.drop j34 l)).1 : Nat) : Int))) rfl) ?_)
                        intro a964 hA965
                        refine q_step hA965 rfl (d_move (wn rfl) (hA965.ev (v := (.int .i64 ((j34 + (skipL (List.drop j34 l)).1 + 1 + 1 : Nat) : Int))) rfl) ?_)
                        intro a966 hA967
                        refine q_step hA967 rfl (d_spart2 (m := j34 + (skipL (List.drop j34 l)).1) (n := 2) (wn rfl) (hA967.ev (v := (.string (S l))) rfl) (hA967.ev (v := (.int .i64 ((j34 + (skipL (List.drop j34 l)).1 : Nat) : Int))) rfl) ((hA967.ev (v := (.int .i64 ((j34 + (skipL (List.drop j34 l)).1 + 1 + 1 : Nat) : Int))) rfl).trans (congrArg (Value.int .i64) (by omega))) str9 (by omega) ?_)
                        intro a968 hA969
                        refine q_step hA969 rfl (d_fieldAddr (wn rfl) (hA969.ev (v := (.pointer (some ⟨g135, 0, none⟩))) rfl) fo33_1 ?_)
                        intro a970 hA971
                        refine q_step hA971 rfl (d_store (wn rfl) (hA971.ev (v := (.pointer (some ⟨g135, 1, none⟩))) rfl) (hA971.ev (v := (.string (S (List.take 2 (List.drop (j34 + (skipL (List.drop j34 l)).1) l))))) rfl) one9 rfl m957 (Nat.le_of_ble_eq_true rfl) ?_)
                        intro w972 hU973 (m974 : Blk w972 g135 #[.int .i64 3, .string (S (List.take 2 (List.drop (j34 + (skipL (List.drop j34 l)).1) l))), .int .i64 0, .int .i64 ((j34 + (skipL (List.drop j34 l)).1 : Nat) : Int)] 33)
                        have b975 := hU973.below b958 ge140
                        have ho976 := own_upd ho959 hU973 off141
                        intro a977 hA978
                        refine q_end ?_
                        refine t_norm ?_
                        refine wp_seq ?_
                        refine wp_region_lit ?_
                        refine q_step hA978 rfl (d_move (wn rfl) (hA978.ev (v := v36) rfl) ?_)
                        intro a979 hA980
                        refine q_step hA980 rfl (d_loadRow (cs := #[.int .i64 3, .string (S (List.take 2 (List.drop (j34 + (skipL (List.drop j34 l)).1) l))), .int .i64 0, .int .i64 ((j34 + (skipL (List.drop j34 l)).1 : Nat) : Int)]) (wn rfl) (hA980.ev (v := (.pointer (some ⟨g135, 0, none⟩))) rfl) row33 m974 ?_)
                        intro a981 hA982
                        refine q_step hA982 rfl (d_slice1 (wn rfl) (hA982.ev (v := (.agg #[.int .i64 3, .string (S (List.take 2 (List.drop (j34 + (skipL (List.drop j34 l)).1) l))), .int .i64 0, .int .i64 ((j34 + (skipL (List.drop j34 l)).1 : Nat) : Int)])) rfl) elm23 rfl (by decide) ?_)
                        intro g983 w984 eg985 hG986 (m987 : Blk w984 g983 #[.int .i64 3, .string (S (List.take 2 (List.drop (j34 + (skipL (List.drop j34 l)).1) l))), .int .i64 0, .int .i64 ((j34 + (skipL (List.drop j34 l)).1 : Nat) : Int)] 33)
                        have ge988 : w.heap.size ≤ g983 := eg985 ▸ b975.size
                        have n989 : g135 ≠ g983 := fun h => Nat.lt_irrefl _ ((h.trans eg985) ▸ m974.lt)
                        have off990 := own_new ho976 eg985
                        have m991 := m974.grow hG986
                        have b992 := below_grow b975 hG986 b975.size
                        have ho993 := own_grow hG986 ho976
                        intro a994 hA995
                        refine q_step hA995 rfl (d_append (wn rfl) (hA995.ev (v := v36) rfl) (hA995.ev (v := (.slice (some ⟨g983, 0, none⟩) 1 1)) rfl) elm23 ho993 m987 rfl rfl (by omega) (by decide) b992.size ?_)
                        intro v996 w997 ho998 hg999 hl1000
                        have b1001 := below_by b992 hg999 b992.size (fun k hk => (own_lt ho993 k hk).1)
                        have m1002 := m991.by hg999 off141
                        have off1003 := lies_ne hl1000 off141 m991.lt
                        intro a1004 hA1005
                        refine q_step hA1005 rfl (d_assign (wn rfl) (hA1005.ev (v := v996) rfl) ?_)
                        intro a1006 hA1007
                        refine q_end ?_
                        refine t_norm ?_
                        refine wp_region_lit ?_
                        refine q_step hA1007 rfl (d_move (wn rfl) (hA1007.ev (v := (.int .i64 ((j34 + (skipL (List.drop j34 l)).1 + 1 + 1 : Nat) : Int))) rfl) ?_)
                        intro a1008 hA1009
                        refine q_step hA1009 rfl (d_assign (wn rfl) (hA1009.ev (v := (.int .i64 ((j34 + (skipL (List.drop j34 l)).1 + 1 + 1 : Nat) : Int))) rfl) ?_)
                        intro a1010 hA1011
                        refine q_end ?_
                        refine i_norm ?_
                        refine t_norm ?_
                        have hmk := mkN_two_b hy126 hy933 (by omega)
                        have hF := first_mark (at_zero hy126) hb168 (nbg_no hb335 (ne_of_beq hb431)) (by omega)
                        rw [hmk] at hF
                        have hgo := tf_go (f := f') (ws := ws35) hk49 (by omega) (by rw [hF])
                        rw [hF] at hgo
                        rw [hgo] at htk
                        have hlen : (List.take 2 (List.drop (j34 + (skipL (List.drop j34 l)).1) l)).length = 2 := by rw [List.length_take, List.length_drop]; omega
                        exact ⟨l.length - (j34 + (skipL (List.drop j34 l)).1 + (List.take 2 (List.drop (j34 + (skipL (List.drop j34 l)).1) l)).length), (by rw [hm37]; omega), f', j34 + (skipL (List.drop j34 l)).1 + (List.take 2 (List.drop (j34 + (skipL (List.drop j34 l)).1) l)).length, ws35 ++ [(⟨3, List.take 2 (List.drop (j34 + (skipL (List.drop j34 l)).1) l), 0, ((j34 + (skipL (List.drop j34 l)).1 : Nat) : Int)⟩ : Tk)], v996, rfl, ⟨by omega, by omega, by rw [List.length_append, List.length_singleton]; omega⟩, htk, hA1011.cut _ (fm_cons (hA1011.get 0 _ rfl) (fm_cons (hA1011.get 2 _ rfl) (fm_cons (hA1011.get 3 _ rfl) (fm_cons (hA1011.get 4 _ rfl) (fm_cons (hA1011.get 5 _ rfl) (fm_cons ((hA1011.get 6 _ rfl).trans (congrArg (Value.int .i64) (by omega))) fm_nil)))))), b1001, by rw [List.length_append, List.length_singleton, ← flat_tok]; exact ho998⟩
                      · skip
                        have hq1012 := ne_of_beq hb936
                        refine q_step hA935 rfl (d_bin (wy rfl rfl (hA935.get 91 _ rfl)) (hA935.ev (v := (.int .u8 ((y932.toNat : Nat) : Int))) rfl) (hA935.ev (v := (.int .u8 47)) rfl) (b_eq _ _ ((y932.toNat : Nat) : Int) 47 false _ hb936) ?_)
                        intro a1013 hA1014
                        refine q_step hA1014 rfl (d_pickT (wy rfl rfl (hA1014.get 88 _ rfl)) (hA1014.ev (v := (.bool true)) rfl) (hA1014.ev (v := (.bool false)) rfl) ?_)
                        intro a1015 hA1016
                        refine q_step hA1016 rfl (d_pickF (wy rfl rfl (hA1016.get 79 _ rfl)) (hA1016.ev (v := (.bool false)) rfl) (hA1016.ev (v := (.bool false)) rfl) ?_)
                        intro a1017 hA1018
                        refine q_step hA1018 rfl (d_pickT (wn rfl) (hA1018.ev (v := (.bool true)) rfl) (hA1018.ev (v := (.bool false)) rfl) ?_)
                        intro a1019 hA1020
                        refine q_end ?_
                        have hA1021 : St 112 [(0, (.string (S l))), (2, (.slice none 0 0)), (3, (.int .i64 0)), (4, (.int .i64 0)), (5, v36), (6, (.int .i64 ((j34 + (skipL (List.drop j34 l)).1 : Nat) : Int))), (10, (.pointer (some ⟨g135, 0, none⟩))), (11, (.int .i64 ((j34 + (skipL (List.drop j34 l)).1 + 1 : Nat) : Int))), (98, (.bool false))] a1019 := hA1020.cut _ (fm_cons (hA1020.get 0 _ rfl) (fm_cons (hA1020.get 2 _ rfl) (fm_cons (hA1020.get 3 _ rfl) (fm_cons (hA1020.get 4 _ rfl) (fm_cons (hA1020.get 5 _ rfl) (fm_cons (hA1020.get 6 _ rfl) (fm_cons (hA1020.get 10 _ rfl) (fm_cons (hA1020.get 11 _ rfl) (fm_cons (hA1020.get 98 _ rfl) fm_nil)))))))))
                        refine t_norm ?_
                        refine c_false hA1021 rfl ?_
                        refine wp_skip ?_
                        refine t_norm ?_
                        refine wp_region_lit ?_
                        refine q_step hA1021 rfl (d_fieldAddr (wn rfl) (hA1021.ev (v := (.pointer (some ⟨g135, 0, none⟩))) rfl) fo33_0 ?_)
                        intro a1022 hA1023
                        refine q_step hA1023 rfl (d_store (wn rfl) (hA1023.ev (v := (.pointer (some ⟨g135, 0, none⟩))) rfl) (hA1023.ev (v := (.int .i64 3)) rfl) one3 rfl m527 (Nat.le_of_ble_eq_true rfl) ?_)
                        intro w1024 hU1025 (m1026 : Blk w1024 g135 #[.int .i64 3, .string (S []), .int .i64 0, .int .i64 ((j34 + (skipL (List.drop j34 l)).1 : Nat) : Int)] 33)
                        have b1027 := hU1025.below b528 ge140
                        have ho1028 := own_upd ho529 hU1025 off141
                        intro a1029 hA1030
                        refine q_end ?_
                        refine i_norm ?_
                        refine t_norm ?_
                        refine wp_seq ?_
                        refine wp_region_lit ?_
                        refine q_step hA1030 rfl (d_move (wn rfl) (hA1030.ev (v := (.string (S l))) rfl) ?_)
                        intro a1031 hA1032
                        refine q_step hA1032 rfl (d_move (wn rfl) (hA1032.ev (v := (.int .i64 ((j34 + (skipL (List.drop j34 l)).1 : Nat) : Int))) rfl) ?_)
                        intro a1033 hA1034
                        refine q_step hA1034 rfl (d_move (wn rfl) (hA1034.ev (v := (.int .i64 ((j34 + (skipL (List.drop j34 l)).1 + 1 : Nat) : Int))) rfl) ?_)
                        intro a1035 hA1036
                        refine q_step hA1036 rfl (d_spart2 (m := j34 + (skipL (List.drop j34 l)).1) (n := 1) (wn rfl) (hA1036.ev (v := (.string (S l))) rfl) (hA1036.ev (v := (.int .i64 ((j34 + (skipL (List.drop j34 l)).1 : Nat) : Int))) rfl) (hA1036.ev (v := (.int .i64 ((j34 + (skipL (List.drop j34 l)).1 + 1 : Nat) : Int))) rfl) str9 (by omega) ?_)
                        intro a1037 hA1038
                        refine q_step hA1038 rfl (d_fieldAddr (wn rfl) (hA1038.ev (v := (.pointer (some ⟨g135, 0, none⟩))) rfl) fo33_1 ?_)
                        intro a1039 hA1040
                        refine q_step hA1040 rfl (d_store (wn rfl) (hA1040.ev (v := (.pointer (some ⟨g135, 1, none⟩))) rfl) (hA1040.ev (v := (.string (S (List.take 1 (List.drop (j34 + (skipL (List.drop j34 l)).1) l))))) rfl) one9 rfl m1026 (Nat.le_of_ble_eq_true rfl) ?_)
                        intro w1041 hU1042 (m1043 : Blk w1041 g135 #[.int .i64 3, .string (S (List.take 1 (List.drop (j34 + (skipL (List.drop j34 l)).1) l))), .int .i64 0, .int .i64 ((j34 + (skipL (List.drop j34 l)).1 : Nat) : Int)] 33)
                        have b1044 := hU1042.below b1027 ge140
                        have ho1045 := own_upd ho1028 hU1042 off141
                        intro a1046 hA1047
                        refine q_end ?_
                        refine t_norm ?_
                        refine wp_seq ?_
                        refine wp_region_lit ?_
                        refine q_step hA1047 rfl (d_move (wn rfl) (hA1047.ev (v := v36) rfl) ?_)
                        intro a1048 hA1049
                        refine q_step hA1049 rfl (d_loadRow (cs := #[.int .i64 3, .string (S (List.take 1 (List.drop (j34 + (skipL (List.drop j34 l)).1) l))), .int .i64 0, .int .i64 ((j34 + (skipL (List.drop j34 l)).1 : Nat) : Int)]) (wn rfl) (hA1049.ev (v := (.pointer (some ⟨g135, 0, none⟩))) rfl) row33 m1043 ?_)
                        intro a1050 hA1051
                        refine q_step hA1051 rfl (d_slice1 (wn rfl) (hA1051.ev (v := (.agg #[.int .i64 3, .string (S (List.take 1 (List.drop (j34 + (skipL (List.drop j34 l)).1) l))), .int .i64 0, .int .i64 ((j34 + (skipL (List.drop j34 l)).1 : Nat) : Int)])) rfl) elm23 rfl (by decide) ?_)
                        intro g1052 w1053 eg1054 hG1055 (m1056 : Blk w1053 g1052 #[.int .i64 3, .string (S (List.take 1 (List.drop (j34 + (skipL (List.drop j34 l)).1) l))), .int .i64 0, .int .i64 ((j34 + (skipL (List.drop j34 l)).1 : Nat) : Int)] 33)
                        have ge1057 : w.heap.size ≤ g1052 := eg1054 ▸ b1044.size
                        have n1058 : g135 ≠ g1052 := fun h => Nat.lt_irrefl _ ((h.trans eg1054) ▸ m1043.lt)
                        have off1059 := own_new ho1045 eg1054
                        have m1060 := m1043.grow hG1055
                        have b1061 := below_grow b1044 hG1055 b1044.size
                        have ho1062 := own_grow hG1055 ho1045
                        intro a1063 hA1064
                        refine q_step hA1064 rfl (d_append (wn rfl) (hA1064.ev (v := v36) rfl) (hA1064.ev (v := (.slice (some ⟨g1052, 0, none⟩) 1 1)) rfl) elm23 ho1062 m1056 rfl rfl (by omega) (by decide) b1061.size ?_)
                        intro v1065 w1066 ho1067 hg1068 hl1069
                        have b1070 := below_by b1061 hg1068 b1061.size (fun k hk => (own_lt ho1062 k hk).1)
                        have m1071 := m1060.by hg1068 off141
                        have off1072 := lies_ne hl1069 off141 m1060.lt
                        intro a1073 hA1074
                        refine q_step hA1074 rfl (d_assign (wn rfl) (hA1074.ev (v := v1065) rfl) ?_)
                        intro a1075 hA1076
                        refine q_end ?_
                        refine t_norm ?_
                        refine wp_region_lit ?_
                        refine q_step hA1076 rfl (d_move (wn rfl) (hA1076.ev (v := (.int .i64 ((j34 + (skipL (List.drop j34 l)).1 + 1 : Nat) : Int))) rfl) ?_)
                        intro a1077 hA1078
                        refine q_step hA1078 rfl (d_assign (wn rfl) (hA1078.ev (v := (.int .i64 ((j34 + (skipL (List.drop j34 l)).1 + 1 : Nat) : Int))) rfl) ?_)
                        intro a1079 hA1080
                        refine q_end ?_
                        refine i_norm ?_
                        refine t_norm ?_
                        have hmk := mkN_one_b hy126 hy933 (by omega) hb530
                        have hF := first_mark (at_zero hy126) hb168 (nbg_no hb335 (ne_of_beq hb431)) (by omega)
                        rw [hmk] at hF
                        have hgo := tf_go (f := f') (ws := ws35) hk49 (by omega) (by rw [hF])
                        rw [hF] at hgo
                        rw [hgo] at htk
                        have hlen : (List.take 1 (List.drop (j34 + (skipL (List.drop j34 l)).1) l)).length = 1 := by rw [List.length_take, List.length_drop]; omega
                        exact ⟨l.length - (j34 + (skipL (List.drop j34 l)).1 + (List.take 1 (List.drop (j34 + (skipL (List.drop j34 l)).1) l)).length), (by rw [hm37]; omega), f', j34 + (skipL (List.drop j34 l)).1 + (List.take 1 (List.drop (j34 + (skipL (List.drop j34 l)).1) l)).length, ws35 ++ [(⟨3, List.take 1 (List.drop (j34 + (skipL (List.drop j34 l)).1) l), 0, ((j34 + (skipL (List.drop j34 l)).1 : Nat) : Int)⟩ : Tk)], v1065, rfl, ⟨by omega, by omega, by rw [List.length_append, List.length_singleton]; omega⟩, htk, hA1080.cut _ (fm_cons (hA1080.get 0 _ rfl) (fm_cons (hA1080.get 2 _ rfl) (fm_cons (hA1080.get 3 _ rfl) (fm_cons (hA1080.get 4 _ rfl) (fm_cons (hA1080.get 5 _ rfl) (fm_cons ((hA1080.get 6 _ rfl).trans (congrArg (Value.int .i64) (by omega))) fm_nil)))))), b1070, by rw [List.length_append, List.length_singleton, ← flat_tok]; exact ho1067⟩
                    · skip
                      have hq1081 := ne_of_beq hb922
                      refine q_step hA921 rfl (d_bin (wy rfl rfl (hA921.get 88 _ rfl)) (hA921.ev (v := (.int .u8 ((y125.toNat : Nat) : Int))) rfl) (hA921.ev (v := (.int .u8 92)) rfl) (b_eq _ _ ((y125.toNat : Nat) : Int) 92 false _ hb922) ?_)
                      intro a1082 hA1083
                      refine q_step hA1083 rfl (d_move (wy rfl rfl (hA1083.get 88 _ rfl)) (hA1083.ev (v := (.bool false)) rfl) ?_)
                      intro a1084 hA1085
                      refine q_step hA1085 rfl (does_not (wno rfl rfl (.inl (hA1085.get 91 _ rfl))) ?_)
                      intro a1086 hA1087
                      refine q_step hA1087 rfl (does_not (wno rfl rfl (.inl (hA1087.get 91 _ rfl))) ?_)
                      intro a1088 hA1089
                      refine q_step hA1089 rfl (does_not (wno rfl rfl (.inl (hA1089.get 91 _ rfl))) ?_)
                      intro a1090 hA1091
                      refine q_step hA1091 rfl (does_not (wno rfl rfl (.inl (hA1091.get 91 _ rfl))) ?_)
                      intro a1092 hA1093
                      refine q_step hA1093 rfl (d_pickF (wy rfl rfl (hA1093.get 88 _ rfl)) (hA1093.ev (v := (.bool false)) rfl) (hA1093.ev (v := (.bool false)) rfl) ?_)
                      intro a1094 hA1095
                      refine q_step hA1095 rfl (d_pickF (wy rfl rfl (hA1095.get 79 _ rfl)) (hA1095.ev (v := (.bool false)) rfl) (hA1095.ev (v := (.bool false)) rfl) ?_)
                      intro a1096 hA1097
                      refine q_step hA1097 rfl (d_pickT (wn rfl) (hA1097.ev (v := (.bool true)) rfl) (hA1097.ev (v := (.bool false)) rfl) ?_)
                      intro a1098 hA1099
                      refine q_end ?_
                      have hA1100 : St 112 [(0, (.string (S l))), (2, (.slice none 0 0)), (3, (.int .i64 0)), (4, (.int .i64 0)), (5, v36), (6, (.int .i64 ((j34 + (skipL (List.drop j34 l)).1 : Nat) : Int))), (10, (.pointer (some ⟨g135, 0, none⟩))), (11, (.int .i64 ((j34 + (skipL (List.drop j34 l)).1 + 1 : Nat) : Int))), (98, (.bool false))] a1098 := hA1099.cut _ (fm_cons (hA1099.get 0 _ rfl) (fm_cons (hA1099.get 2 _ rfl) (fm_cons (hA1099.get 3 _ rfl) (fm_cons (hA1099.get 4 _ rfl) (fm_cons (hA1099.get 5 _ rfl) (fm_cons (hA1099.get 6 _ rfl) (fm_cons (hA1099.get 10 _ rfl) (fm_cons (hA1099.get 11 _ rfl) (fm_cons (hA1099.get 98 _ rfl) fm_nil)))))))))
                      refine t_norm ?_
                      refine c_false hA1100 rfl ?_
                      refine wp_skip ?_
                      refine t_norm ?_
                      refine wp_region_lit ?_
                      refine q_step hA1100 rfl (d_fieldAddr (wn rfl) (hA1100.ev (v := (.pointer (some ⟨g135, 0, none⟩))) rfl) fo33_0 ?_)
                      intro a1101 hA1102
                      refine q_step hA1102 rfl (d_store (wn rfl) (hA1102.ev (v := (.pointer (some ⟨g135, 0, none⟩))) rfl) (hA1102.ev (v := (.int .i64 3)) rfl) one3 rfl m527 (Nat.le_of_ble_eq_true rfl) ?_)
                      intro w1103 hU1104 (m1105 : Blk w1103 g135 #[.int .i64 3, .string (S []), .int .i64 0, .int .i64 ((j34 + (skipL (List.drop j34 l)).1 : Nat) : Int)] 33)
                      have b1106 := hU1104.below b528 ge140
                      have ho1107 := own_upd ho529 hU1104 off141
                      intro a1108 hA1109
                      refine q_end ?_
                      refine i_norm ?_
                      refine t_norm ?_
                      refine wp_seq ?_
                      refine wp_region_lit ?_
                      refine q_step hA1109 rfl (d_move (wn rfl) (hA1109.ev (v := (.string (S l))) rfl) ?_)
                      intro a1110 hA1111
                      refine q_step hA1111 rfl (d_move (wn rfl) (hA1111.ev (v := (.int .i64 ((j34 + (skipL (List.drop j34 l)).1 : Nat) : Int))) rfl) ?_)
                      intro a1112 hA1113
                      refine q_step hA1113 rfl (d_move (wn rfl) (hA1113.ev (v := (.int .i64 ((j34 + (skipL (List.drop j34 l)).1 + 1 : Nat) : Int))) rfl) ?_)
                      intro a1114 hA1115
                      refine q_step hA1115 rfl (d_spart2 (m := j34 + (skipL (List.drop j34 l)).1) (n := 1) (wn rfl) (hA1115.ev (v := (.string (S l))) rfl) (hA1115.ev (v := (.int .i64 ((j34 + (skipL (List.drop j34 l)).1 : Nat) : Int))) rfl) (hA1115.ev (v := (.int .i64 ((j34 + (skipL (List.drop j34 l)).1 + 1 : Nat) : Int))) rfl) str9 (by omega) ?_)
                      intro a1116 hA1117
                      refine q_step hA1117 rfl (d_fieldAddr (wn rfl) (hA1117.ev (v := (.pointer (some ⟨g135, 0, none⟩))) rfl) fo33_1 ?_)
                      intro a1118 hA1119
                      refine q_step hA1119 rfl (d_store (wn rfl) (hA1119.ev (v := (.pointer (some ⟨g135, 1, none⟩))) rfl) (hA1119.ev (v := (.string (S (List.take 1 (List.drop (j34 + (skipL (List.drop j34 l)).1) l))))) rfl) one9 rfl m1105 (Nat.le_of_ble_eq_true rfl) ?_)
                      intro w1120 hU1121 (m1122 : Blk w1120 g135 #[.int .i64 3, .string (S (List.take 1 (List.drop (j34 + (skipL (List.drop j34 l)).1) l))), .int .i64 0, .int .i64 ((j34 + (skipL (List.drop j34 l)).1 : Nat) : Int)] 33)
                      have b1123 := hU1121.below b1106 ge140
                      have ho1124 := own_upd ho1107 hU1121 off141
                      intro a1125 hA1126
                      refine q_end ?_
                      refine t_norm ?_
                      refine wp_seq ?_
                      refine wp_region_lit ?_
                      refine q_step hA1126 rfl (d_move (wn rfl) (hA1126.ev (v := v36) rfl) ?_)
                      intro a1127 hA1128
                      refine q_step hA1128 rfl (d_loadRow (cs := #[.int .i64 3, .string (S (List.take 1 (List.drop (j34 + (skipL (List.drop j34 l)).1) l))), .int .i64 0, .int .i64 ((j34 + (skipL (List.drop j34 l)).1 : Nat) : Int)]) (wn rfl) (hA1128.ev (v := (.pointer (some ⟨g135, 0, none⟩))) rfl) row33 m1122 ?_)
                      intro a1129 hA1130
                      refine q_step hA1130 rfl (d_slice1 (wn rfl) (hA1130.ev (v := (.agg #[.int .i64 3, .string (S (List.take 1 (List.drop (j34 + (skipL (List.drop j34 l)).1) l))), .int .i64 0, .int .i64 ((j34 + (skipL (List.drop j34 l)).1 : Nat) : Int)])) rfl) elm23 rfl (by decide) ?_)
                      intro g1131 w1132 eg1133 hG1134 (m1135 : Blk w1132 g1131 #[.int .i64 3, .string (S (List.take 1 (List.drop (j34 + (skipL (List.drop j34 l)).1) l))), .int .i64 0, .int .i64 ((j34 + (skipL (List.drop j34 l)).1 : Nat) : Int)] 33)
                      have ge1136 : w.heap.size ≤ g1131 := eg1133 ▸ b1123.size
                      have n1137 : g135 ≠ g1131 := fun h => Nat.lt_irrefl _ ((h.trans eg1133) ▸ m1122.lt)
                      have off1138 := own_new ho1124 eg1133
                      have m1139 := m1122.grow hG1134
                      have b1140 := below_grow b1123 hG1134 b1123.size
                      have ho1141 := own_grow hG1134 ho1124
                      intro a1142 hA1143
                      refine q_step hA1143 rfl (d_append (wn rfl) (hA1143.ev (v := v36) rfl) (hA1143.ev (v := (.slice (some ⟨g1131, 0, none⟩) 1 1)) rfl) elm23 ho1141 m1135 rfl rfl (by omega) (by decide) b1140.size ?_)
                      intro v1144 w1145 ho1146 hg1147 hl1148
                      have b1149 := below_by b1140 hg1147 b1140.size (fun k hk => (own_lt ho1141 k hk).1)
                      have m1150 := m1139.by hg1147 off141
                      have off1151 := lies_ne hl1148 off141 m1139.lt
                      intro a1152 hA1153
                      refine q_step hA1153 rfl (d_assign (wn rfl) (hA1153.ev (v := v1144) rfl) ?_)
                      intro a1154 hA1155
                      refine q_end ?_
                      refine t_norm ?_
                      refine wp_region_lit ?_
                      refine q_step hA1155 rfl (d_move (wn rfl) (hA1155.ev (v := (.int .i64 ((j34 + (skipL (List.drop j34 l)).1 + 1 : Nat) : Int))) rfl) ?_)
                      intro a1156 hA1157
                      refine q_step hA1157 rfl (d_assign (wn rfl) (hA1157.ev (v := (.int .i64 ((j34 + (skipL (List.drop j34 l)).1 + 1 : Nat) : Int))) rfl) ?_)
                      intro a1158 hA1159
                      refine q_end ?_
                      refine i_norm ?_
                      refine t_norm ?_
                      obtain ⟨y1160, hy1161⟩ : ∃ y1160, l[j34 + (skipL (List.drop j34 l)).1 + 1]? = some y1160 := ⟨_, List.getElem?_eq_getElem (show j34 + (skipL (List.drop j34 l)).1 + 1 < l.length by omega)⟩
                      have hmk := mkN_one_b hy126 hy1161 (by omega) hb530
                      have hF := first_mark (at_zero hy126) hb168 (nbg_no hb335 (ne_of_beq hb431)) (by omega)
                      rw [hmk] at hF
                      have hgo := tf_go (f := f') (ws := ws35) hk49 (by omega) (by rw [hF])
                      rw [hF] at hgo
                      rw [hgo] at htk
                      have hlen : (List.take 1 (List.drop (j34 + (skipL (List.drop j34 l)).1) l)).length = 1 := by rw [List.length_take, List.length_drop]; omega
                      exact ⟨l.length - (j34 + (skipL (List.drop j34 l)).1 + (List.take 1 (List.drop (j34 + (skipL (List.drop j34 l)).1) l)).length), (by rw [hm37]; omega), f', j34 + (skipL (List.drop j34 l)).1 + (List.take 1 (List.drop (j34 + (skipL (List.drop j34 l)).1) l)).length, ws35 ++ [(⟨3, List.take 1 (List.drop (j34 + (skipL (List.drop j34 l)).1) l), 0, ((j34 + (skipL (List.drop j34 l)).1 : Nat) : Int)⟩ : Tk)], v1144, rfl, ⟨by omega, by omega, by rw [List.length_append, List.length_singleton]; omega⟩, htk, hA1159.cut _ (fm_cons (hA1159.get 0 _ rfl) (fm_cons (hA1159.get 2 _ rfl) (fm_cons (hA1159.get 3 _ rfl) (fm_cons (hA1159.get 4 _ rfl) (fm_cons (hA1159.get 5 _ rfl) (fm_cons ((hA1159.get 6 _ rfl).trans (congrArg (Value.int .i64) (by omega))) fm_nil)))))), b1149, by rw [List.length_append, List.length_singleton, ← flat_tok]; exact ho1146⟩
                · skip
                  have hq1162 := of_decide_eq_false hb542
                  refine q_step hA541 rfl (d_bin (wn rfl) (hA541.ev (v := (.int .i64 ((j34 + (skipL (List.drop j34 l)).1 + 1 : Nat) : Int))) rfl) (hA541.ev (v := (.int .i64 ((l.length : Nat) : Int))) rfl) (b_lt _ _ ((j34 + (skipL (List.drop j34 l)).1 + 1 : Nat) : Int) ((l.length : Nat) : Int) false _ hb542) ?_)
                  intro a1163 hA1164
                  refine q_step hA1164 rfl (d_move (wn rfl) (hA1164.ev (v := (.bool false)) rfl) ?_)
                  intro a1165 hA1166
                  refine q_step hA1166 rfl (does_not (wno rfl rfl (.inl (hA1166.get 79 _ rfl))) ?_)
                  intro a1167 hA1168
                  refine q_step hA1168 rfl (does_not (wno rfl rfl (.inl (hA1168.get 79 _ rfl))) ?_)
                  intro a1169 hA1170
                  refine q_step hA1170 rfl (does_not (wno rfl rfl (.inl (hA1170.get 79 _ rfl))) ?_)
                  intro a1171 hA1172
                  refine q_step hA1172 rfl (does_not (wno rfl rfl (.inr (hA1172.get 82 _ rfl))) ?_)
                  intro a1173 hA1174
                  refine q_step hA1174 rfl (does_not (wno rfl rfl (.inr (hA1174.get 82 _ rfl))) ?_)
                  intro a1175 hA1176
                  refine q_step hA1176 rfl (does_not (wno rfl rfl (.inr (hA1176.get 82 _ rfl))) ?_)
                  intro a1177 hA1178
                  refine q_step hA1178 rfl (does_not (wno rfl rfl (.inr (hA1178.get 82 _ rfl))) ?_)
                  intro a1179 hA1180
                  refine q_step hA1180 rfl (does_not (wno rfl rfl (.inl (hA1180.get 79 _ rfl))) ?_)
                  intro a1181 hA1182
                  refine q_step hA1182 rfl (does_not (wno rfl rfl (.inl (hA1182.get 79 _ rfl))) ?_)
                  intro a1183 hA1184
                  refine q_step hA1184 rfl (does_not (wno rfl rfl (.inr (hA1184.get 88 _ rfl))) ?_)
                  intro a1185 hA1186
                  refine q_step hA1186 rfl (does_not (wno rfl rfl (.inr (hA1186.get 88 _ rfl))) ?_)
                  intro a1187 hA1188
                  refine q_step hA1188 rfl (does_not (wno rfl rfl (.inr (hA1188.get 88 _ rfl))) ?_)
                  intro a1189 hA1190
                  refine q_step hA1190 rfl (does_not (wno rfl rfl (.inr (hA1190.get 91 _ rfl))) ?_)
                  intro a1191 hA1192
                  refine q_step hA1192 rfl (does_not (wno rfl rfl (.inr (hA1192.get 91 _ rfl))) ?_)
                  intro a1193 hA1194
                  refine q_step hA1194 rfl (does_not (wno rfl rfl (.inr (hA1194.get 91 _ rfl))) ?_)
                  intro a1195 hA1196
                  refine q_step hA1196 rfl (does_not (wno rfl rfl (.inr (hA1196.get 91 _ rfl))) ?_)
                  intro a1197 hA1198
                  refine q_step hA1198 rfl (does_not (wno rfl rfl (.inr (hA1198.get 88 _ rfl))) ?_)
                  intro a1199 hA1200
                  refine q_step hA1200 rfl (does_not (wno rfl rfl (.inl (hA1200.get 79 _ rfl))) ?_)
                  intro a1201 hA1202
                  refine q_step hA1202 rfl (d_pickF (wn rfl) (hA1202.ev (v := (.bool false)) rfl) (hA1202.ev (v := (.bool false)) rfl) ?_)
                  intro a1203 hA1204
                  refine q_end ?_
                  have hA1205 : St 112 [(0, (.string (S l))), (2, (.slice none 0 0)), (3, (.int .i64 0)), (4, (.int .i64 0)), (5, v36), (6, (.int .i64 ((j34 + (skipL (List.drop j34 l)).1 : Nat) : Int))), (10, (.pointer (some ⟨g135, 0, none⟩))), (11, (.int .i64 ((j34 + (skipL (List.drop j34 l)).1 + 1 : Nat) : Int))), (98, (.bool false))] a1203 := hA1204.cut _ (fm_cons (hA1204.get 0 _ rfl) (fm_cons (hA1204.get 2 _ rfl) (fm_cons (hA1204.get 3 _ rfl) (fm_cons (hA1204.get 4 _ rfl) (fm_cons (hA1204.get 5 _ rfl) (fm_cons (hA1204.get 6 _ rfl) (fm_cons (hA1204.get 10 _ rfl) (fm_cons (hA1204.get 11 _ rfl) (fm_cons (hA1204.get 98 _ rfl) fm_nil)))))))))
                  refine t_norm ?_
                  refine c_false hA1205 rfl ?_
                  refine wp_skip ?_
                  refine t_norm ?_
                  refine wp_region_lit ?_
                  refine q_step hA1205 rfl (d_fieldAddr (wn rfl) (hA1205.ev (v := (.pointer (some ⟨g135, 0, none⟩))) rfl) fo33_0 ?_)
                  intro a1206 hA1207
                  refine q_step hA1207 rfl (d_store (wn rfl) (hA1207.ev (v := (.pointer (some ⟨g135, 0, none⟩))) rfl) (hA1207.ev (v := (.int .i64 3)) rfl) one3 rfl m527 (Nat.le_of_ble_eq_true rfl) ?_)
                  intro w1208 hU1209 (m1210 : Blk w1208 g135 #[.int .i64 3, .string (S []), .int .i64 0, .int .i64 ((j34 + (skipL (List.drop j34 l)).1 : Nat) : Int)] 33)
                  have b1211 := hU1209.below b528 ge140
                  have ho1212 := own_upd ho529 hU1209 off141
                  intro a1213 hA1214
                  refine q_end ?_
                  refine i_norm ?_
                  refine t_norm ?_
                  refine wp_seq ?_
                  refine wp_region_lit ?_
                  refine q_step hA1214 rfl (d_move (wn rfl) (hA1214.ev (v := (.string (S l))) rfl) ?_)
                  intro a1215 hA1216
                  refine q_step hA1216 rfl (d_move (wn rfl) (hA1216.ev (v := (.int .i64 ((j34 + (skipL (List.drop j34 l)).1 : Nat) : Int))) rfl) ?_)
                  intro a1217 hA1218
                  refine q_step hA1218 rfl (d_move (wn rfl) (hA1218.ev (v := (.int .i64 ((j34 + (skipL (List.drop j34 l)).1 + 1 : Nat) : Int))) rfl) ?_)
                  intro a1219 hA1220
                  refine q_step hA1220 rfl (d_spart2 (m := j34 + (skipL (List.drop j34 l)).1) (n := 1) (wn rfl) (hA1220.ev (v := (.string (S l))) rfl) (hA1220.ev (v := (.int .i64 ((j34 + (skipL (List.drop j34 l)).1 : Nat) : Int))) rfl) (hA1220.ev (v := (.int .i64 ((j34 + (skipL (List.drop j34 l)).1 + 1 : Nat) : Int))) rfl) str9 (by omega) ?_)
                  intro a1221 hA1222
                  refine q_step hA1222 rfl (d_fieldAddr (wn rfl) (hA1222.ev (v := (.pointer (some ⟨g135, 0, none⟩))) rfl) fo33_1 ?_)
                  intro a1223 hA1224
                  refine q_step hA1224 rfl (d_store (wn rfl) (hA1224.ev (v := (.pointer (some ⟨g135, 1, none⟩))) rfl) (hA1224.ev (v := (.string (S (List.take 1 (List.drop (j34 + (skipL (List.drop j34 l)).1) l))))) rfl) one9 rfl m1210 (Nat.le_of_ble_eq_true rfl) ?_)
                  intro w1225 hU1226 (m1227 : Blk w1225 g135 #[.int .i64 3, .string (S (List.take 1 (List.drop (j34 + (skipL (List.drop j34 l)).1) l))), .int .i64 0, .int .i64 ((j34 + (skipL (List.drop j34 l)).1 : Nat) : Int)] 33)
                  have b1228 := hU1226.below b1211 ge140
                  have ho1229 := own_upd ho1212 hU1226 off141
                  intro a1230 hA1231
                  refine q_end ?_
                  refine t_norm ?_
                  refine wp_seq ?_
                  refine wp_region_lit ?_
                  refine q_step hA1231 rfl (d_move (wn rfl) (hA1231.ev (v := v36) rfl) ?_)
                  intro a1232 hA1233
                  refine q_step hA1233 rfl (d_loadRow (cs := #[.int .i64 3, .string (S (List.take 1 (List.drop (j34 + (skipL (List.drop j34 l)).1) l))), .int .i64 0, .int .i64 ((j34 + (skipL (List.drop j34 l)).1 : Nat) : Int)]) (wn rfl) (hA1233.ev (v := (.pointer (some ⟨g135, 0, none⟩))) rfl) row33 m1227 ?_)
                  intro a1234 hA1235
                  refine q_step hA1235 rfl (d_slice1 (wn rfl) (hA1235.ev (v := (.agg #[.int .i64 3, .string (S (List.take 1 (List.drop (j34 + (skipL (List.drop j34 l)).1) l))), .int .i64 0, .int .i64 ((j34 + (skipL (List.drop j34 l)).1 : Nat) : Int)])) rfl) elm23 rfl (by decide) ?_)
                  intro g1236 w1237 eg1238 hG1239 (m1240 : Blk w1237 g1236 #[.int .i64 3, .string (S (List.take 1 (List.drop (j34 + (skipL (List.drop j34 l)).1) l))), .int .i64 0, .int .i64 ((j34 + (skipL (List.drop j34 l)).1 : Nat) : Int)] 33)
                  have ge1241 : w.heap.size ≤ g1236 := eg1238 ▸ b1228.size
                  have n1242 : g135 ≠ g1236 := fun h => Nat.lt_irrefl _ ((h.trans eg1238) ▸ m1227.lt)
                  have off1243 := own_new ho1229 eg1238
                  have m1244 := m1227.grow hG1239
                  have b1245 := below_grow b1228 hG1239 b1228.size
                  have ho1246 := own_grow hG1239 ho1229
                  intro a1247 hA1248
                  refine q_step hA1248 rfl (d_append (wn rfl) (hA1248.ev (v := v36) rfl) (hA1248.ev (v := (.slice (some ⟨g1236, 0, none⟩) 1 1)) rfl) elm23 ho1246 m1240 rfl rfl (by omega) (by decide) b1245.size ?_)
                  intro v1249 w1250 ho1251 hg1252 hl1253
                  have b1254 := below_by b1245 hg1252 b1245.size (fun k hk => (own_lt ho1246 k hk).1)
                  have m1255 := m1244.by hg1252 off141
                  have off1256 := lies_ne hl1253 off141 m1244.lt
                  intro a1257 hA1258
                  refine q_step hA1258 rfl (d_assign (wn rfl) (hA1258.ev (v := v1249) rfl) ?_)
                  intro a1259 hA1260
                  refine q_end ?_
                  refine t_norm ?_
                  refine wp_region_lit ?_
                  refine q_step hA1260 rfl (d_move (wn rfl) (hA1260.ev (v := (.int .i64 ((j34 + (skipL (List.drop j34 l)).1 + 1 : Nat) : Int))) rfl) ?_)
                  intro a1261 hA1262
                  refine q_step hA1262 rfl (d_assign (wn rfl) (hA1262.ev (v := (.int .i64 ((j34 + (skipL (List.drop j34 l)).1 + 1 : Nat) : Int))) rfl) ?_)
                  intro a1263 hA1264
                  refine q_end ?_
                  refine i_norm ?_
                  refine t_norm ?_
                  have hmk := mkN_last_b hy126 (by omega) hb530
                  have hF := first_mark (at_zero hy126) hb168 (nbg_no hb335 (ne_of_beq hb431)) (by omega)
                  rw [hmk] at hF
                  have hgo := tf_go (f := f') (ws := ws35) hk49 (by omega) (by rw [hF])
                  rw [hF] at hgo
                  rw [hgo] at htk
                  have hlen : (List.take 1 (List.drop (j34 + (skipL (List.drop j34 l)).1) l)).length = 1 := by rw [List.length_take, List.length_drop]; omega
                  exact ⟨l.length - (j34 + (skipL (List.drop j34 l)).1 + (List.take 1 (List.drop (j34 + (skipL (List.drop j34 l)).1) l)).length), (by rw [hm37]; omega), f', j34 + (skipL (List.drop j34 l)).1 + (List.take 1 (List.drop (j34 + (skipL (List.drop j34 l)).1) l)).length, ws35 ++ [(⟨3, List.take 1 (List.drop (j34 + (skipL (List.drop j34 l)).1) l), 0, ((j34 + (skipL (List.drop j34 l)).1 : Nat) : Int)⟩ : Tk)], v1249, rfl, ⟨by omega, by omega, by rw [List.length_append, List.length_singleton]; omega⟩, htk, hA1264.cut _ (fm_cons (hA1264.get 0 _ rfl) (fm_cons (hA1264.get 2 _ rfl) (fm_cons (hA1264.get 3 _ rfl) (fm_cons (hA1264.get 4 _ rfl) (fm_cons (hA1264.get 5 _ rfl) (fm_cons ((hA1264.get 6 _ rfl).trans (congrArg (Value.int .i64) (by omega))) fm_nil)))))), b1254, by rw [List.length_append, List.length_singleton, ← flat_tok]; exact ho1251⟩
              · skip
                refine ⟨.bool false, he525.trans (ret_bool hb530), ?_⟩
                intro a1266 hA1267
                refine q_step hA1267 rfl (d_assign (wn rfl) (hA1267.ev (v := (.bool false)) rfl) ?_)
                intro a1268 hA1269
                refine q_end ?_
                refine t_norm ?_
                refine c_false hA1269 rfl ?_
                refine wp_seq ?_
                refine wp_region_lit ?_
                refine q_step hA1269 rfl (d_move (wn rfl) (hA1269.ev (v := (.int .i64 ((j34 + (skipL (List.drop j34 l)).1 : Nat) : Int))) rfl) ?_)
                intro a1270 hA1271
                refine q_step hA1271 rfl (d_assign (wn rfl) (hA1271.ev (v := (.slice none 0 0)) rfl) ?_)
                intro a1272 hA1273
                refine q_step hA1273 rfl (d_assign (wn rfl) (hA1273.ev (v := (.int .i64 20)) rfl) ?_)
                intro a1274 hA1275
                refine q_step hA1275 rfl (d_assign (wn rfl) (hA1275.ev (v := (.int .i64 ((j34 + (skipL (List.drop j34 l)).1 : Nat) : Int))) rfl) ?_)
                intro a1276 hA1277
                refine q_end ?_
                refine t_norm ?_
                refine wp_ret ?_
                refine i_ret ?_
                refine t_ret ?_
                refine i_ret ?_
                refine t_ret ?_
                refine i_ret ?_
                refine ret3 (x := (.slice none 0 0)) (y := (.int .i64 20)) (z := (.int .i64 ((j34 + (skipL (List.drop j34 l)).1 : Nat) : Int))) rfl hA1277 rfl rfl rfl ?_
                have hmk := mkN_none_b hy126 hb530
                have hF := first_byte (at_zero hy126) hb168 (nbg_no hb335 (ne_of_beq hb431)) (by omega)
                rw [tf_bad hk49 (by omega) (by rw [hF]; decide), hF] at htk
                exact ⟨_, by rw [← htk] <;> rfl, by rw [← htk]; exact ⟨rfl, .inl ⟨rfl, rfl⟩⟩, b528⟩
end Go.Proofs.YtfehbkcfncioiaaDoor
/- Two words compared. -/
namespace Go.Proofs.YtfehbkcfncioiaaDoor
set_option linter.unusedVariables false
set_option linter.unusedSimpArgs false
open Go.RowKit

def eqT (s r : Tk) : Bool := s.kind == r.kind && (s.text == r.text && (s.n == r.n && s.at_ == r.at_))
theorem eqT_same (s : Tk) : eqT s s = true := by unfold eqT; simp
theorem eqT_eq {s r : Tk} (h : eqT s r = true) : s = r := by
  unfold eqT at h; simp at h; cases s; cases r; simp_all
/-- a struct of a number, a text, two numbers -/
def tokB (P : Program) (t : TypeId) : Bool :=
  match P.underlying t with
  | some (.struct fs) => !(P.stoodInHeld t) && !(P.eqGuardType P.depth t) && (match fs.toList with
    | [a, b, c, d] => (a.name != "_" && b.name != "_" && c.name != "_" && d.name != "_") && (kindB P a.type .i64 && strB P b.type && kindB P c.type .i64 && kindB P d.type .i64) && (a.offset == 0 && b.offset == 1 && c.offset == 2 && d.offset == 3)
    | _ => false)
  | _ => false
theorem noagg_int {P : Program} {t : TypeId} {k : IntKind} (h : kindB P t k = true) (w : World) : (isAgg t).run P w = .ok false w := by simp [isAgg, run_underlying (kind_fact h)]
theorem noagg_str {P : Program} {t : TypeId} (h : strB P t = true) (w : World) : (isAgg t).run P w = .ok false w := by simp [isAgg, run_underlying (str_fact h)]
theorem tok_cmp {P : Program} {t : TypeId} (h : tokB P t = true) (s r : Tk) (w : World) (x y : Operand) :
    ((eqGuard .eql t x y (.agg (tokC s)) (.agg (tokC r))).run P w = .ok () w ∧ (binOp .eql t (.agg (tokC s)) (.agg (tokC r))).run P w = .ok (.bool (eqT s r)) w) ∧
    ((eqGuard .neq t x y (.agg (tokC s)) (.agg (tokC r))).run P w = .ok () w ∧ (binOp .neq t (.agg (tokC s)) (.agg (tokC r))).run P w = .ok (.bool (!eqT s r)) w) := by
  unfold tokB at h
  split at h
  · rename_i fs hu
    rw [Bool.and_eq_true, Bool.and_eq_true] at h
    obtain ⟨⟨h1, h2⟩, h3⟩ := h
    have hf : P.fieldsOf t = fs := by unfold Program.fieldsOf; rw [hu]
    have h1' : P.stoodInHeld t = false := by simpa using h1
    have h2' : P.eqGuardType P.depth t = false := by simpa using h2
    split at h3
    · rename_i a b c d hl
      simp only [Bool.and_eq_true, beq_iff_eq, bne_iff_ne] at h3
      obtain ⟨⟨⟨⟨⟨n1, n2⟩, n3⟩, n4⟩, ⟨⟨k1, k2⟩, k3⟩, k4⟩, ⟨⟨o1, o2⟩, o3⟩, o4⟩ := h3
      have he : (Op.equalIn 10000 t (.agg (tokC s)) (.agg (tokC r))).run P w = .ok (eqT s r) w := by
        rw [run_equalIn_struct w 9999 t _ _ (by rw [hf]; exact hu) h1', hf, hl]
        have p0 : ∀ q : Tk, (part a.type (tokC q) a.offset).run P w = .ok (.int .i64 q.kind) w := fun q => part_one w (noagg_int k1 w) (by rw [o1]; rfl)
        have p1 : ∀ q : Tk, (part b.type (tokC q) b.offset).run P w = .ok (.string (S q.text)) w := fun q => part_one w (noagg_str k2 w) (by rw [o2]; rfl)
        have p2 : ∀ q : Tk, (part c.type (tokC q) c.offset).run P w = .ok (.int .i64 q.n) w := fun q => part_one w (noagg_int k3 w) (by rw [o3]; rfl)
        have p3 : ∀ q : Tk, (part d.type (tokC q) d.offset).run P w = .ok (.int .i64 q.at_) w := fun q => part_one w (noagg_int k4 w) (by rw [o4]; rfl)
        have e0 := run_equalIn_int w 9998 a.type .i64 .i64 s.kind r.kind (kind_fact k1)
        have e1 := run_equalIn_string w 9998 b.type (S s.text) (S r.text) (str_fact k2)
        have e2 := run_equalIn_int w 9998 c.type .i64 .i64 s.n r.n (kind_fact k3)
        have e3 := run_equalIn_int w 9998 d.type .i64 .i64 s.at_ r.at_ (kind_fact k4)
        rw [S_list, S_list] at e1
        simp only [Op.eqFields, ne_eq, n1, n2, n3, n4, not_false_eq_true, if_true, Sem.run_bind, p0, p1, p2, p3, Result.andThen_ok, e0]
        unfold eqT
        cases s.kind == r.kind
        · simp
        · simp only [Bool.not_true, Bool.false_eq_true, if_false, Sem.run_bind, p1, p2, p3, Result.andThen_ok, e1, Bool.true_and]
          cases s.text == r.text
          · simp
          · simp only [Bool.not_true, Bool.false_eq_true, if_false, Sem.run_bind, p1, p2, p3, Result.andThen_ok, e2, Bool.true_and]
            cases s.n == r.n
            · simp
            · simp only [Bool.not_true, Bool.false_eq_true, if_false, Sem.run_bind, p1, p2, p3, Result.andThen_ok, e3, Bool.true_and]
              cases s.at_ == r.at_ <;> simp
      refine ⟨⟨run_eqGuard_agg w _ t x y _ _ h2', ?_⟩, run_eqGuard_agg w _ t x y _ _ h2', ?_⟩
      · rw [run_eql_struct, he]; rfl
      · rw [run_neq_struct, he]; rfl
    · cases h3
  · cases h
theorem tok33 : tokB Tryd.prog 33 = true := by kernel_rfl
theorem tok_ne_same (t : Tk) {w : World} {x y : Operand} : (eqGuard .neq 33 x y (.agg (tokC t)) (.agg (tokC t))).run Tryd.prog w = .ok () w ∧ (binOp .neq 33 (.agg (tokC t)) (.agg (tokC t))).run Tryd.prog w = .ok (.bool false) w := by
  have h := (tok_cmp tok33 t t w x y).2
  rw [eqT_same] at h; exact h
end Go.Proofs.YtfehbkcfncioiaaDoor
/- Two rows of the same words: the law's own tokens. -/
namespace Go.Proofs.YtfehbkcfncioiaaDoor
open Go.RowKit
set_option linter.unusedSimpArgs false
set_option linter.unusedVariables false
theorem mixedY : Tryd.prog.follows .mixedOrders = true := by kernel_rfl
theorem slc23 : sliceB Tryd.prog 23 33 4 = true := by kernel_rfl
set_option maxHeartbeats 4000000 in
set_option maxRecDepth 4000 in
theorem ltokens_any (L : List Tk) (v1 v2 : Value) (w : World) (hl : L.length ≤ 10000) (h1 : Sl tokE 4 w.heap.size w v1 L) (h2 : Sl tokE 4 w.heap.size w v2 L) : Calls Tryd.prog 10 #[v1, v2] w fun e w' => e = .returned (.bool true) ∧ Grow w w' := by
  have b0 : Below w.heap.size w w := Below.refl _ _
  refine enter (n := 26) Tryd.func10 rfl rfl (Nat.le_of_ble_eq_true rfl) ?_
  intro a1 hA2
  refine wp_seq ?_
  refine wp_region_lit ?_
  refine q_step hA2 rfl (d_assign (wn rfl) (hA2.ev (v := (.bool false)) rfl) ?_)
  intro a3 hA4
  refine q_end ?_
  refine t_norm ?_
  refine wp_seq ?_
  refine wp_seq ?_
  refine wp_region_lit ?_
  refine q_step hA4 rfl (d_move (wn rfl) (hA4.ev (v := v1) rfl) ?_)
  intro a5 hA6
  refine q_step hA6 rfl (d_len (n := L.length) (wn rfl) (hA6.ev (v := v1) rfl) slc23 h1.form ?_)
  intro a7 hA8
  refine q_step hA8 rfl (d_move (wn rfl) (hA8.ev (v := v2) rfl) ?_)
  intro a9 hA10
  refine q_step hA10 rfl (d_len (n := L.length) (wn rfl) (hA10.ev (v := v2) rfl) slc23 h2.form ?_)
  intro a11 hA12
  refine q_step hA12 rfl (d_bin (wn rfl) (hA12.ev (v := (.int .i64 ((L.length : Nat) : Int))) rfl) (hA12.ev (v := (.int .i64 ((L.length : Nat) : Int))) rfl) (b_ne _ _ ((L.length : Nat) : Int) ((L.length : Nat) : Int) false _ (notof (beq_self_eq_true _))) ?_)
  intro a13 hA14
  refine q_end ?_
  refine t_norm ?_
  refine c_false hA14 rfl ?_
  refine wp_skip ?_
  refine t_norm ?_
  refine wp_seq ?_
  refine wp_seq ?_
  refine wp_region_lit ?_
  refine q_step hA14 rfl (d_assign (wn rfl) (hA14.ev (v := (.int .i64 0)) rfl) ?_)
  intro a15 hA16
  refine q_end ?_
  refine t_norm ?_
  refine wp_block ?_
  refine loop_by (fun m18 a19 w20 => ∃ j17 : Nat, m18 = L.length - j17 ∧ (j17 ≤ L.length) ∧ St 26 [(0, v1), (1, v2), (4, (.bool false)), (5, (.int .i64 ((j17 : Nat) : Int)))] a19 ∧ Below w.heap.size w w20) (L.length - 0) ⟨0, rfl, (by omega), hA16.cut _ (fm_cons (hA16.get 0 _ rfl) (fm_cons (hA16.get 1 _ rfl) (fm_cons (hA16.get 4 _ rfl) (fm_cons ((hA16.get 5 _ rfl).trans (congrArg (Value.int .i64) (by omega))) fm_nil)))), b0⟩ ?_
  rintro m18 a19 w20 ⟨j17, hm23, hc24, hA21, b22⟩
  refine wp_seq ?_
  refine wp_seq ?_
  refine wp_region_lit ?_
  refine q_step hA21 rfl (d_move (wn rfl) (hA21.ev (v := (.int .i64 ((j17 : Nat) : Int))) rfl) ?_)
  intro a25 hA26
  refine q_step hA26 rfl (d_move (wn rfl) (hA26.ev (v := v1) rfl) ?_)
  intro a27 hA28
  refine q_step hA28 rfl (d_len (n := L.length) (wn rfl) (hA28.ev (v := v1) rfl) slc23 h1.form ?_)
  intro a29 hA30
  rcases Bool.eq_false_or_eq_true (decide (((j17 : Nat) : Int) < ((L.length : Nat) : Int))) with hb31 | hb31
  · skip
    have hq32 := of_decide_eq_true hb31
    refine q_step hA30 rfl (d_bin (wn rfl) (hA30.ev (v := (.int .i64 ((j17 : Nat) : Int))) rfl) (hA30.ev (v := (.int .i64 ((L.length : Nat) : Int))) rfl) (b_lt _ _ ((j17 : Nat) : Int) ((L.length : Nat) : Int) true _ hb31) ?_)
    intro a33 hA34
    refine q_end ?_
    refine t_norm ?_
    refine c_true hA34 rfl ?_
    refine wp_skip ?_
    refine t_norm ?_
    refine wp_seq ?_
    refine wp_block ?_
    refine wp_seq ?_
    obtain ⟨y35, hy36⟩ : ∃ y35, L[j17]? = some y35 := ⟨_, List.getElem?_eq_getElem (show j17 < L.length by omega)⟩
    obtain ⟨b37, o38, lt39, hr40, hix41⟩ := (h1.below b22).at hy36
    obtain ⟨b42, o43, lt44, hr45, hix46⟩ := (h2.below b22).at hy36
    have hA47 : St 26 [(0, v1), (1, v2), (4, (.bool false)), (5, (.int .i64 ((j17 : Nat) : Int)))] a33 := hA34.cut _ (fm_cons (hA34.get 0 _ rfl) (fm_cons (hA34.get 1 _ rfl) (fm_cons (hA34.get 4 _ rfl) (fm_cons (hA34.get 5 _ rfl) fm_nil))))
    let M48 : Nat → Option (Array Value) := fun _ => none
    have hM48 : M48 = fun _ => none := rfl
    clear_value M48
    have hM48B : ∀ k, k < w.heap.size → M48 k = none := (fun k hk => (congrFun hM48 k))
    refine drawn (S := SM M48) (tabL [cv v1, cv (.int .i64 ((j17 : Nat) : Int)), cv (.pointer (some ⟨b37, o38, none⟩)), cv (.agg (tokC y35)), cv v2, cv (.int .i64 ((j17 : Nat) : Int)), cv (.pointer (some ⟨b42, o43, none⟩)), cv (.agg (tokC y35)), cv (.bool false)]) mixedY SM.refl SM.trans SM.drew hA47 (by kernel_rfl) ?_ ?_
    · skip
      refine each_cons (fun x y hS hT hk => d_move (wn rfl) (hT.ev (v := v1) rfl) ⟨SM.refl _, rfl⟩) ?_
      refine each_cons (fun x y hS hT hk => d_move (wn rfl) (hT.ev (v := (.int .i64 ((j17 : Nat) : Int))) rfl) ⟨SM.refl _, rfl⟩) ?_
      refine each_cons (fun x y hS hT hk => d_indexAt (j := j17) (wn rfl) (hk 0 rfl) (hk 1 rfl) slc23 hix41 (get_lt hy36) ⟨SM.refl _, rfl⟩) ?_
      refine each_cons (fun x y hS hT hk => d_loadMid (cs := (tokC y35)) (wn rfl) (hk 2 rfl) row33 (range_sm (w := w20.drew) hr40 hS (Nat.lt_of_lt_of_le lt39 b22.size) (hM48B _ lt39)) ⟨SM.refl _, rfl⟩) ?_
      refine each_cons (fun x y hS hT hk => d_move (wn rfl) (hT.ev (v := v2) rfl) ⟨SM.refl _, rfl⟩) ?_
      refine each_cons (fun x y hS hT hk => d_move (wn rfl) (hT.ev (v := (.int .i64 ((j17 : Nat) : Int))) rfl) ⟨SM.refl _, rfl⟩) ?_
      refine each_cons (fun x y hS hT hk => d_indexAt (j := j17) (wn rfl) (hk 4 rfl) (hk 5 rfl) slc23 hix46 (get_lt hy36) ⟨SM.refl _, rfl⟩) ?_
      refine each_cons (fun x y hS hT hk => d_loadMid (cs := (tokC y35)) (wn rfl) (hk 6 rfl) row33 (range_sm (w := w20.drew) hr45 hS (Nat.lt_of_lt_of_le lt44 b22.size) (hM48B _ lt44)) ⟨SM.refl _, rfl⟩) ?_
      refine each_cons (fun x y hS hT hk => d_bin (u := .agg (tokC y35)) (v := .agg (tokC y35)) (wn rfl) (hk 3 rfl) (hk 7 rfl) (tok_ne_same y35) ⟨SM.refl _, rfl⟩) ?_
      exact each_nil
    intro f49 a50 w51 hS52 hC53 hA54
    have hA55 : St 26 [(0, v1), (1, v2), (4, (.bool false)), (5, (.int .i64 ((j17 : Nat) : Int))), (25, (.bool false))] a50 := hA54.cut _ (fm_cons (hA54.get 0 _ rfl) (fm_cons (hA54.get 1 _ rfl) (fm_cons (hA54.get 4 _ rfl) (fm_cons (hA54.get 5 _ rfl) (fm_cons ((hA54.get 25 _ rfl).trans (hC53 8 (Nat.le_of_ble_eq_true rfl))) fm_nil)))))
    have b56 := hS52.below b22 b22.size hM48B
    have hr57 := range_sm hr40 hS52 (Nat.lt_of_lt_of_le lt39 b22.size) (hM48B _ lt39)
    have hr58 := range_sm hr45 hS52 (Nat.lt_of_lt_of_le lt44 b22.size) (hM48B _ lt44)
    refine t_norm ?_
    refine c_false hA55 rfl ?_
    refine wp_skip ?_
    refine i_norm ?_
    refine t_norm ?_
    refine wp_region_lit ?_
    refine q_step hA55 rfl (d_move (wn rfl) (hA55.ev (v := (.int .i64 ((j17 : Nat) : Int))) rfl) ?_)
    intro a59 hA60
    refine q_step hA60 rfl (d_bin (wn rfl) (hA60.ev (v := (.int .i64 ((j17 : Nat) : Int))) rfl) (hA60.ev (v := (.int .i64 1)) rfl) (b_addE (j17 + 1) (by omega) (by omega)) ?_)
    intro a61 hA62
    refine q_step hA62 rfl (d_assign (wn rfl) (hA62.ev (v := (.int .i64 ((j17 + 1 : Nat) : Int))) rfl) ?_)
    intro a63 hA64
    refine q_end ?_
    refine t_norm ?_
    exact ⟨L.length - (j17 + 1), (by rw [hm23]; omega), j17 + 1, rfl, (by omega), hA64.cut _ (fm_cons (hA64.get 0 _ rfl) (fm_cons (hA64.get 1 _ rfl) (fm_cons (hA64.get 4 _ rfl) (fm_cons (hA64.get 5 _ rfl) fm_nil)))), b56⟩
  · skip
    have hq65 := of_decide_eq_false hb31
    refine q_step hA30 rfl (d_bin (wn rfl) (hA30.ev (v := (.int .i64 ((j17 : Nat) : Int))) rfl) (hA30.ev (v := (.int .i64 ((L.length : Nat) : Int))) rfl) (b_lt _ _ ((j17 : Nat) : Int) ((L.length : Nat) : Int) false _ hb31) ?_)
    intro a66 hA67
    refine q_end ?_
    refine t_norm ?_
    refine c_false hA67 rfl ?_
    refine wp_exit ?_
    refine t_exit ?_
    refine t_exit ?_
    refine i_here ?_
    refine t_norm ?_
    refine wp_seq ?_
    refine wp_region_lit ?_
    refine q_step hA67 rfl (d_assign (wn rfl) (hA67.ev (v := (.bool true)) rfl) ?_)
    intro a68 hA69
    refine q_end ?_
    refine t_norm ?_
    refine wp_ret ?_
    refine ret1 rfl hA69 (v := (.bool true)) rfl ?_
    exact ⟨rfl, b22⟩
end Go.Proofs.YtfehbkcfncioiaaDoor
/- Words of texts that are written out. -/
namespace Go.Proofs.YtfehbkcfncioiaaDoor
set_option linter.unusedVariables false

def skipC : Nat → List UInt8 → Nat × Bool
  | 0, _ => (0, false)
  | _ + 1, [] => (0, false)
  | n + 1, b :: r =>
    if blkB b then ((skipC n r).1 + 1, (skipC n r).2)
    else if preB (b :: r) [40, 42] then
      if endR ((b :: r).drop 2) < 0 then (0, true)
      else ((skipC n ((b :: r).drop (endR ((b :: r).drop 2)).toNat.succ.succ.succ.succ)).1 + ((endR ((b :: r).drop 2)).toNat + 4), (skipC n ((b :: r).drop (endR ((b :: r).drop 2)).toNat.succ.succ.succ.succ)).2)
    else (0, false)
theorem skip_C : ∀ (n : Nat) (l : List UInt8), l.length ≤ n → skipL l = skipC n l := by
  intro n
  induction n with
  | zero => intro l hl; obtain rfl : l = [] := List.eq_nil_of_length_eq_zero (Nat.le_zero.1 hl); rw [skip_nil]; rfl
  | succ n ih =>
    intro l hl
    match l, hl with
    | [], _ => rw [skip_nil]; rfl
    | b :: r, hl =>
      rw [skipL, skipC, ih r (by simpa using hl), ih ((b :: r).drop (endR ((b :: r).drop 2)).toNat.succ.succ.succ.succ) (by rw [List.length_drop]; omega)]
def toksC : Nat → List UInt8 → Nat → List Tk → List Tk × Int × Nat
  | 0, _, _, _ => ([], 0, 0)
  | f + 1, l, a, ws =>
    if (skipC l.length (l.drop a)).2 then ([], 24, a + (skipC l.length (l.drop a)).1)
    else if a + (skipC l.length (l.drop a)).1 = l.length then (ws, 0, 0)
    else if (firstR (l.drop (a + (skipC l.length (l.drop a)).1))).2 = 0 then
      toksC f l (a + (skipC l.length (l.drop a)).1 + (firstR (l.drop (a + (skipC l.length (l.drop a)).1))).1.text.length) (ws ++ [{ (firstR (l.drop (a + (skipC l.length (l.drop a)).1))).1 with at_ := ((a + (skipC l.length (l.drop a)).1 : Nat) : Int) }])
    else ([], (firstR (l.drop (a + (skipC l.length (l.drop a)).1))).2, a + (skipC l.length (l.drop a)).1)
theorem toks_C : ∀ (f : Nat) (l : List UInt8) (a : Nat) (ws : List Tk), toksF f l a ws = toksC f l a ws := by
  intro f
  induction f with
  | zero => intros; rfl
  | succ f ih =>
    intro l a ws
    rw [toksF, toksC, skip_C l.length (l.drop a) (by rw [List.length_drop]; omega), ih]
theorem tokens_C {l : List UInt8} (h : l.length ≤ 8192) : tokensR l = toksC (l.length + 1) l 0 [] := by rw [tokens_short h, toks_C]
def txt1 : List UInt8 := [77, 79, 86, 32, 91, 120, 93, 44, 36, 48, 120, 49, 48, 32, 40, 42, 32, 97, 32, 42, 41]
def txt2 : List UInt8 := [97, 64]
theorem txt1_is : ((tokensR txt1).2.1 = 0 ∧ (tokensR txt1).2.2 = 0) ∧ (tokensR txt1).1.length = 7 ∧ ((tokensR txt1).1[6]?).map Tk.n = some 16 := by
  rw [tokens_C (by decide)]
  exact ⟨⟨by kernel_rfl, by kernel_rfl⟩, by kernel_rfl, by kernel_rfl⟩
theorem txt2_is : (tokensR txt2).2.1 = 20 ∧ (tokensR txt2).2.2 = 1 := by
  rw [tokens_C (by decide)]
  exact ⟨by kernel_rfl, by kernel_rfl⟩
theorem tokE_len (t : Tk) : (tokE t).length = 4 := rfl
theorem tokE_one (t : Tk) : ∀ u ∈ tokE t, u.oneCell' = true := List.all_eq_true.1 rfl
end Go.Proofs.YtfehbkcfncioiaaDoor
/- What is compared with nil. -/
namespace Go.Proofs.YtfehbkcfncioiaaDoor
set_option linter.unusedVariables false
open Go.RowKit
def ptrB (P : Program) (t : TypeId) : Bool := match P.underlying t with | some (.pointer _) => true | _ => false
theorem ptr_fact {P : Program} {t : TypeId} (h : ptrB P t = true) : ∃ e, P.underlying t = some (.pointer e) := by
  unfold ptrB at h; split at h
  · next e hk => exact ⟨e, hk⟩
  · cases h
theorem slcToks : sliceB Tryd.prog 23 33 4 = true := by kernel_rfl
theorem b_slnil {w : World} {x y : Operand} : (eqGuard .eql 23 x y (.slice none 0 0) (.slice none 0 0)).run Tryd.prog w = .ok () w ∧ (binOp .eql 23 (.slice none 0 0) (.slice none 0 0)).run Tryd.prog w = .ok (.bool true) w := by
  refine ⟨rfl, ?_⟩
  have h : (Op.equalIn 10000 23 (.slice none 0 0) (.slice none 0 0)).run Tryd.prog w = .ok true w := by
    rw [Op.equalIn]; simp [run_underlying (slice_facts slcToks).1]
  show (do pure (Value.bool (← Op.equal 23 (.slice none 0 0) (.slice none 0 0))) : Sem Value).run Tryd.prog w = _
  simp only [Op.equal, Op.maxDepth, Sem.run_bind, h, Result.andThen_ok, Sem.run_pure]
theorem b_ptnil {P : Program} {t : TypeId} {w : World} {x y : Operand} {g o : Nat} (ht : ptrB P t = true) : (eqGuard .neq t x y (.pointer (some ⟨g, o, none⟩)) (.pointer none)).run P w = .ok () w ∧ (binOp .neq t (.pointer (some ⟨g, o, none⟩)) (.pointer none)).run P w = .ok (.bool true) w := by
  obtain ⟨e, he⟩ := ptr_fact ht
  refine ⟨rfl, ?_⟩
  have h : (Op.equalIn 10000 t (.pointer (some ⟨g, o, none⟩)) (.pointer none)).run P w = .ok false w := by
    rw [Op.equalIn]; simp [run_underlying he]
  show (do pure (Value.bool (!(← Op.equal t (.pointer (some ⟨g, o, none⟩)) (.pointer none)))) : Sem Value).run P w = _
  simp only [Op.equal, Op.maxDepth, Sem.run_bind, h, Result.andThen_ok, Sem.run_pure, Bool.not_false]
end Go.Proofs.YtfehbkcfncioiaaDoor
/- A cursor over nothing. -/
namespace Go.Proofs.YtfehbkcfncioiaaDoor
open Go.RowKit
set_option linter.unusedSimpArgs false
set_option linter.unusedVariables false
theorem ent33 : ((Tryd.prog.funcs[33]?).map fun fn => (fn.name == "runtime.NumGoroutine", fn.body.isNone)) = some (false, false) := by kernel_rfl
theorem fo63_0 : fieldOff Tryd.prog 63 0 = some 0 := by kernel_rfl
theorem fo63_1 : fieldOff Tryd.prog 63 1 = some 1 := by kernel_rfl
theorem one23 : oneB Tryd.prog 23 = true := by kernel_rfl
theorem places63 : placesOf Tryd.prog 63 = some [(0, 1), (1, 1)] := by kernel_rfl
theorem zero63 : (Tryd.prog.info? 63).map (fun i => (i.zero, i.size)) = some (some (.agg #[.slice none 0 0, .int .i64 0]), 2) := by kernel_rfl
set_option maxHeartbeats 4000000 in
set_option maxRecDepth 4000 in
theorem clone_nil  (w : World) : Calls Tryd.prog 33 #[.slice none 0 0] w fun e w' => e = .returned (.slice none 0 0) ∧ Grow w w' := by
  have b0 : Below w.heap.size w w := Below.refl _ _
  refine enter (n := 8) Tryd.func33 rfl rfl (Nat.le_of_ble_eq_true rfl) ?_
  intro a1 hA2
  refine wp_seq ?_
  refine wp_region_lit ?_
  refine q_step hA2 rfl (d_assign (wn rfl) (hA2.ev (v := (.slice none 0 0)) rfl) ?_)
  intro a3 hA4
  refine q_end ?_
  refine t_norm ?_
  refine wp_seq ?_
  refine wp_seq ?_
  refine wp_region_lit ?_
  refine q_step hA4 rfl (d_move (wn rfl) (hA4.ev (v := (.slice none 0 0)) rfl) ?_)
  intro a5 hA6
  refine q_step hA6 rfl (d_bin (wn rfl) (hA6.ev (v := (.slice none 0 0)) rfl) (hA6.ev (v := (.slice none 0 0)) rfl) b_slnil ?_)
  intro a7 hA8
  refine q_end ?_
  refine t_norm ?_
  refine c_true hA8 rfl ?_
  refine wp_seq ?_
  refine wp_region_lit ?_
  refine q_step hA8 rfl (d_assign (wn rfl) (hA8.ev (v := (.slice none 0 0)) rfl) ?_)
  intro a9 hA10
  refine q_end ?_
  refine t_norm ?_
  refine wp_ret ?_
  refine t_ret ?_
  refine ret1 rfl hA10 (v := (.slice none 0 0)) rfl ?_
  exact ⟨rfl, b0⟩
set_option maxHeartbeats 4000000 in
set_option maxRecDepth 4000 in
theorem new_nil  (w : World) : Calls Tryd.prog 11 #[.slice none 0 0] w fun e w' => ∃ g, e = .returned (.pointer (some ⟨g, 0, none⟩)) ∧ w.heap.size ≤ g ∧ Blk w' g #[.slice none 0 0, .int .i64 0] 63 ∧ Below w.heap.size w w' := by
  have b0 : Below w.heap.size w w := Below.refl _ _
  refine enter (n := 7) Tryd.func11 rfl rfl (Nat.le_of_ble_eq_true rfl) ?_
  intro a1 hA2
  refine wp_seq ?_
  refine wp_region_lit ?_
  refine q_step hA2 rfl (d_assign (wn rfl) (hA2.ev (v := (.pointer none)) rfl) ?_)
  intro a3 hA4
  refine q_end ?_
  refine t_norm ?_
  refine wp_seq ?_
  refine wp_region_lit ?_
  refine q_step hA4 rfl (d_move (wn rfl) (hA4.ev (v := (.slice none 0 0)) rfl) ?_)
  intro a5 hA6
  refine q_step hA6 rfl (d_call (wn rfl) ent33 (map1 (hA6.ev (v := (.slice none 0 0)) rfl)) (clone_nil w) ?_)
  rintro e10 w7 ⟨he9, hG8⟩
  have b11 := below_grow b0 hG8 b0.size
  refine ⟨(.slice none 0 0), he9, ?_⟩
  intro a12 hA13
  refine q_step hA13 rfl (d_build (cs := #[.slice none 0 0, .int .i64 0]) (wn rfl) (bp_of (bq_cons (hA13.ev (v := (.slice none 0 0)) rfl) bq_nil)) zero63 places63 (by kernel_rfl) ?_)
  intro a14 hA15
  refine q_step hA15 rfl (d_box (wn rfl) (hA15.ev (v := (.agg #[.slice none 0 0, .int .i64 0])) rfl) ?_)
  intro g16 w17 eg18 hG19 (m20 : Blk w17 g16 #[.slice none 0 0, .int .i64 0] 63)
  have ge21 : w.heap.size ≤ g16 := eg18 ▸ b11.size
  have b22 := below_grow b11 hG19 b11.size
  intro a23 hA24
  refine q_step hA24 rfl (d_assign (wn rfl) (hA24.ev (v := (.pointer (some ⟨g16, 0, none⟩))) rfl) ?_)
  intro a25 hA26
  refine q_end ?_
  refine t_norm ?_
  refine wp_ret ?_
  refine ret1 rfl hA26 (v := (.pointer (some ⟨g16, 0, none⟩))) rfl ?_
  exact ⟨g16, rfl, ge21, m20, b22⟩
set_option maxHeartbeats 4000000 in
set_option maxRecDepth 4000 in
theorem left_nil (g : Nat) (w : World) (hb : Blk w g #[.slice none 0 0, .int .i64 0] 63) : Calls Tryd.prog 24 #[.pointer (some ⟨g, 0, none⟩)] w fun e w' => e = .returned (.int .i64 0) ∧ Grow w w' := by
  have b0 : Below w.heap.size w w := Below.refl _ _
  refine enter (n := 13) Tryd.func24 rfl rfl (Nat.le_of_ble_eq_true rfl) ?_
  intro a1 hA2
  refine wp_seq ?_
  refine wp_region_lit ?_
  refine q_step hA2 rfl (d_assign (wn rfl) (hA2.ev (v := (.int .i64 0)) rfl) ?_)
  intro a3 hA4
  refine q_end ?_
  refine t_norm ?_
  refine wp_seq ?_
  have hA5 : St 13 [(0, (.pointer (some ⟨g, 0, none⟩)))] a3 := hA4.cut _ (fm_cons (hA4.get 0 _ rfl) fm_nil)
  let M6 : Nat → Option (Array Value) := fun _ => none
  have hM6 : M6 = fun _ => none := rfl
  clear_value M6
  have hM7 : M6 g = none := (congrFun hM6 g)
  have hM6B : ∀ k, k < w.heap.size → M6 k = none := (fun k hk => (congrFun hM6 k))
  refine drawn (S := SM M6) (tabL [cv (.pointer (some ⟨g, 0, none⟩)), cv (.pointer (some ⟨g, 0, none⟩)), cv (.pointer (some ⟨g, 0, none⟩)), cv (.slice none 0 0), cv (.int .i64 0), cv (.pointer (some ⟨g, 0, none⟩)), cv (.pointer (some ⟨g, 0, none⟩)), cv (.pointer (some ⟨g, 1, none⟩)), cv (.int .i64 0), cv (.int .i64 0), cv (.int .i64 0)]) mixedY SM.refl SM.trans SM.drew hA5 (by kernel_rfl) ?_ ?_
  · skip
    refine each_cons (fun x y hS hT hk => d_move (wn rfl) (hT.ev (v := (.pointer (some ⟨g, 0, none⟩))) rfl) ⟨SM.refl _, rfl⟩) ?_
    refine each_cons (fun x y hS hT hk => d_nilCheck (wn rfl) (hk 0 rfl) ⟨SM.refl _, rfl⟩) ?_
    refine each_cons (fun x y hS hT hk => d_fieldAddr (wn rfl) (hk 1 rfl) fo63_0 ⟨SM.refl _, rfl⟩) ?_
    refine each_cons (fun x y hS hT hk => d_load (v := (.slice none 0 0)) (wn rfl) (hk 2 rfl) one23 ((Blk.sm (w := w.drew) hb hS hM7).cell rfl) ⟨SM.refl _, rfl⟩) ?_
    refine each_cons (fun x y hS hT hk => d_len (n := 0) (wn rfl) (hk 3 rfl) slc23 ⟨none, 0, rfl⟩ ⟨SM.refl _, rfl⟩) ?_
    refine each_cons (fun x y hS hT hk => d_move (wn rfl) (hT.ev (v := (.pointer (some ⟨g, 0, none⟩))) rfl) ⟨SM.refl _, rfl⟩) ?_
    refine each_cons (fun x y hS hT hk => d_nilCheck (wn rfl) (hk 5 rfl) ⟨SM.refl _, rfl⟩) ?_
    refine each_cons (fun x y hS hT hk => d_fieldAddr (wn rfl) (hk 6 rfl) fo63_1 ⟨SM.refl _, rfl⟩) ?_
    refine each_cons (fun x y hS hT hk => d_load (v := (.int .i64 0)) (wn rfl) (hk 7 rfl) one3 ((Blk.sm (w := w.drew) hb hS hM7).cell rfl) ⟨SM.refl _, rfl⟩) ?_
    refine each_cons (fun x y hS hT hk => d_bin (u := .int .i64 0) (v := .int .i64 0) (wn rfl) (hk 4 rfl) (hk 8 rfl) (b_sub _ _ 0 0 _ (by omega) (by omega)) ⟨SM.refl _, rfl⟩) ?_
    refine each_cons (fun x y hS hT hk => d_assign (wn rfl) (hk 9 rfl) ⟨SM.refl _, rfl⟩) ?_
    exact each_nil
  intro f8 a9 w10 hS11 hC12 hA13
  have hA14 : St 13 [(2, (.int .i64 0))] a9 := hA13.cut _ (fm_cons ((hA13.get 2 _ rfl).trans (hC12 10 (Nat.le_of_ble_eq_true rfl))) fm_nil)
  have m15 := hb.sm hS11 hM7
  have b16 := hS11.below b0 b0.size hM6B
  refine t_norm ?_
  refine wp_ret ?_
  refine ret1 rfl hA14 (v := (.int .i64 0)) rfl ?_
  exact ⟨rfl, b16⟩
end Go.Proofs.YtfehbkcfncioiaaDoor
/- The seventh word of the first constant text. -/
namespace Go.Proofs.YtfehbkcfncioiaaDoor
theorem txt_n {y : Tk} (h : (tokensR txt1).1[6]? = some y) : y.n = 16 := by
  have := txt1_is.2.2
  rw [h] at this; simpa using this
end Go.Proofs.YtfehbkcfncioiaaDoor
/- The law's own able. -/
namespace Go.Proofs.YtfehbkcfncioiaaDoor
open Go.RowKit
set_option linter.unusedSimpArgs false
set_option linter.unusedVariables false
theorem ent11 : ((Tryd.prog.funcs[11]?).map fun fn => (fn.name == "runtime.NumGoroutine", fn.body.isNone)) = some (false, false) := by kernel_rfl
theorem ent24 : ((Tryd.prog.funcs[24]?).map fun fn => (fn.name == "runtime.NumGoroutine", fn.body.isNone)) = some (false, false) := by kernel_rfl
theorem ent8 : ((Tryd.prog.funcs[8]?).map fun fn => (fn.name == "runtime.NumGoroutine", fn.body.isNone)) = some (false, false) := by kernel_rfl
theorem ptr34 : ptrB Tryd.prog 34 = true := by kernel_rfl
set_option maxHeartbeats 4000000 in
set_option maxRecDepth 4000 in
theorem able_any  (w : World) (m0 : Int) (hm : w.cell? ⟨0, 0, none⟩ = some (.int .i64 m0)) (ev : Value) (hev1 : w.cell? ⟨1, 0, none⟩ = some ev) (hev2 : ev = .nilIface ∨ ∃ te pe, ev = .iface te pe) : Calls Tryd.prog 7 #[] w fun e w' => e = .returned (.bool true) ∧ Grow w w' := by
  have b0 : Below w.heap.size w w := Below.refl _ _
  refine enter (n := 50) Tryd.func7 rfl rfl (Nat.le_of_ble_eq_true rfl) ?_
  intro a1 hA2
  refine wp_seq ?_
  refine wp_region_lit ?_
  refine q_step hA2 rfl (d_assign (wn rfl) (hA2.ev (v := (.bool false)) rfl) ?_)
  intro a3 hA4
  refine q_end ?_
  refine t_norm ?_
  refine wp_seq ?_
  refine wp_region_lit ?_
  refine q_step hA4 rfl (d_call (wn rfl) ent8 (map1 (hA4.ev (v := (.string (S txt1))) rfl)) (tokens_any txt1 w (by decide) m0 (cell_keep hm b0) ev (cell_keep hev1 b0) hev2) ?_)
  rintro e8 w5 ⟨v9, he7, ho10, hG6⟩
  have b12 := below_grow b0 hG6 b0.size
  have hS11 := own_gen tokE_len ho10
  have b13 : Below w5.heap.size w5 w5 := Below.refl _ _
  refine ⟨(.tuple #[v9, (.int .i64 0), (.int .i64 0)]), he7.trans (by rw [txt1_is.1.1, txt1_is.1.2] <;> rfl), ?_⟩
  intro a14 hA15
  refine q_step hA15 rfl (d_move (wn rfl) (hA15.ev (v := (.tuple #[v9, (.int .i64 0), (.int .i64 0)])) rfl) ?_)
  intro a16 hA17
  refine q_step hA17 rfl (d_extract (v := v9) (wn rfl) (hA17.ev (v := (.tuple #[v9, (.int .i64 0), (.int .i64 0)])) rfl) rfl ?_)
  intro a18 hA19
  refine q_step hA19 rfl (d_extract (v := (.int .i64 0)) (wn rfl) (hA19.ev (v := (.tuple #[v9, (.int .i64 0), (.int .i64 0)])) rfl) rfl ?_)
  intro a20 hA21
  refine q_step hA21 rfl (d_extract (v := (.int .i64 0)) (wn rfl) (hA21.ev (v := (.tuple #[v9, (.int .i64 0), (.int .i64 0)])) rfl) rfl ?_)
  intro a22 hA23
  refine q_step hA23 rfl (d_assign (wn rfl) (hA23.ev (v := v9) rfl) ?_)
  intro a24 hA25
  refine q_step hA25 rfl (d_assign (wn rfl) (hA25.ev (v := (.int .i64 0)) rfl) ?_)
  intro a26 hA27
  refine q_step hA27 rfl (d_assign (wn rfl) (hA27.ev (v := (.int .i64 0)) rfl) ?_)
  intro a28 hA29
  refine q_end ?_
  refine t_norm ?_
  refine wp_seq ?_
  refine wp_region_lit ?_
  refine q_step hA29 rfl (d_call (wn rfl) ent8 (map1 (hA29.ev (v := (.string (S txt2))) rfl)) (tokens_any txt2 w5 (by decide) m0 (cell_keep hm (Grow.trans b12 b13)) ev (cell_keep hev1 (Grow.trans b12 b13)) hev2) ?_)
  rintro e33 w30 ⟨v34, he32, ho35, hG31⟩
  have b37 := below_grow b13 hG31 b13.size
  have hS36 := own_gen tokE_len ho35
  refine ⟨(.tuple #[v34, (.int .i64 20), (.int .i64 1)]), he32.trans (by rw [txt2_is.1, txt2_is.2] <;> rfl), ?_⟩
  intro a38 hA39
  refine q_step hA39 rfl (d_move (wn rfl) (hA39.ev (v := (.tuple #[v34, (.int .i64 20), (.int .i64 1)])) rfl) ?_)
  intro a40 hA41
  refine q_step hA41 rfl (d_extract (v := v34) (wn rfl) (hA41.ev (v := (.tuple #[v34, (.int .i64 20), (.int .i64 1)])) rfl) rfl ?_)
  intro a42 hA43
  refine q_step hA43 rfl (d_extract (v := (.int .i64 20)) (wn rfl) (hA43.ev (v := (.tuple #[v34, (.int .i64 20), (.int .i64 1)])) rfl) rfl ?_)
  intro a44 hA45
  refine q_step hA45 rfl (d_extract (v := (.int .i64 1)) (wn rfl) (hA45.ev (v := (.tuple #[v34, (.int .i64 20), (.int .i64 1)])) rfl) rfl ?_)
  intro a46 hA47
  refine q_step hA47 rfl (d_assign (wn rfl) (hA47.ev (v := v34) rfl) ?_)
  intro a48 hA49
  refine q_step hA49 rfl (d_assign (wn rfl) (hA49.ev (v := (.int .i64 20)) rfl) ?_)
  intro a50 hA51
  refine q_step hA51 rfl (d_assign (wn rfl) (hA51.ev (v := (.int .i64 1)) rfl) ?_)
  intro a52 hA53
  refine q_end ?_
  refine t_norm ?_
  refine wp_seq ?_
  refine wp_region_lit ?_
  refine q_step hA53 rfl (d_call (wn rfl) ent11 (map1 (hA53.ev (v := (.slice none 0 0)) rfl)) (new_nil w30) ?_)
  rintro e57 w54 ⟨g58, he56, hge59, m60, hG55⟩
  have b61 := below_grow b37 hG55 b37.size
  refine ⟨(.pointer (some ⟨g58, 0, none⟩)), he56, ?_⟩
  intro a62 hA63
  refine q_step hA63 rfl (d_assign (wn rfl) (hA63.ev (v := (.pointer (some ⟨g58, 0, none⟩))) rfl) ?_)
  intro a64 hA65
  refine q_end ?_
  refine t_norm ?_
  refine wp_seq ?_
  refine wp_region_lit ?_
  refine q_step hA65 rfl (d_move (wn rfl) (hA65.ev (v := (.int .i64 0)) rfl) ?_)
  intro a66 hA67
  refine q_step hA67 rfl (d_bin (wn rfl) (hA67.ev (v := (.int .i64 0)) rfl) (hA67.ev (v := (.int .i64 0)) rfl) (b_eq _ _ 0 0 true _ rfl) ?_)
  intro a68 hA69
  refine q_step hA69 rfl (d_move (wn rfl) (hA69.ev (v := (.bool true)) rfl) ?_)
  intro a70 hA71
  refine q_step hA71 rfl (d_move (wy rfl rfl (hA71.get 21 _ rfl)) (hA71.ev (v := v9) rfl) ?_)
  intro a72 hA73
  refine q_step hA73 rfl (d_len (n := ((tokensR txt1).1).length) (wy rfl rfl (hA73.get 21 _ rfl)) (hA73.ev (v := v9) rfl) slc23 hS11.form ?_)
  intro a74 hA75
  refine q_step hA75 rfl (d_bin (wy rfl rfl (hA75.get 21 _ rfl)) (hA75.ev (v := (.int .i64 ((((tokensR txt1).1).length : Nat) : Int))) rfl) (hA75.ev (v := (.int .i64 7)) rfl) (b_eq _ _ ((((tokensR txt1).1).length : Nat) : Int) 7 true _ (beq_iff_eq.2 (by rw [txt1_is.2.1]; rfl))) ?_)
  intro a76 hA77
  refine q_step hA77 rfl (d_pickT (wn rfl) (hA77.ev (v := (.bool true)) rfl) (hA77.ev (v := (.bool true)) rfl) ?_)
  intro a78 hA79
  refine q_step hA79 rfl (d_move (wn rfl) (hA79.ev (v := (.bool true)) rfl) ?_)
  intro a80 hA81
  refine q_step hA81 rfl (d_move (wy rfl rfl (hA81.get 26 _ rfl)) (hA81.ev (v := v9) rfl) ?_)
  intro a82 hA83
  obtain ⟨y84, hy85⟩ : ∃ y84, ((tokensR txt1).1)[6]? = some y84 := ⟨_, List.getElem?_eq_getElem (show 6 < ((tokensR txt1).1).length by rw [txt1_is.2.1]; decide)⟩
  obtain ⟨b86, o87, lt88, hr89, hix90⟩ := (hS11.below b61).at hy85
  refine q_step hA83 rfl (d_indexAt (j := 6) (wy rfl rfl (hA83.get 26 _ rfl)) (hA83.ev (v := v9) rfl) (hA83.ev (v := (.int .i64 6)) rfl) slc23 hix90 (get_lt hy85) ?_)
  intro a91 hA92
  refine q_step hA92 rfl (d_fieldAddr (wy rfl rfl (hA92.get 26 _ rfl)) (hA92.ev (v := (.pointer (some ⟨b86, o87, none⟩))) rfl) fo33_2 ?_)
  intro a93 hA94
  refine q_step hA94 rfl (d_load (v := (.int .i64 y84.n)) (wy rfl rfl (hA94.get 26 _ rfl)) (hA94.ev (v := (.pointer (some ⟨b86, o87 + 2, none⟩))) rfl) one3 (hr89 2 _ rfl) ?_)
  intro a95 hA96
  refine q_step hA96 rfl (d_bin (wy rfl rfl (hA96.get 26 _ rfl)) (hA96.ev (v := (.int .i64 y84.n)) rfl) (hA96.ev (v := (.int .i64 16)) rfl) (b_eq _ _ y84.n 16 true _ (beq_iff_eq.2 (txt_n hy85))) ?_)
  intro a97 hA98
  refine q_step hA98 rfl (d_pickT (wn rfl) (hA98.ev (v := (.bool true)) rfl) (hA98.ev (v := (.bool true)) rfl) ?_)
  intro a99 hA100
  refine q_step hA100 rfl (d_move (wn rfl) (hA100.ev (v := (.bool true)) rfl) ?_)
  intro a101 hA102
  refine q_step hA102 rfl (d_move (wy rfl rfl (hA102.get 33 _ rfl)) (hA102.ev (v := (.int .i64 20)) rfl) ?_)
  intro a103 hA104
  refine q_step hA104 rfl (d_bin (wy rfl rfl (hA104.get 33 _ rfl)) (hA104.ev (v := (.int .i64 20)) rfl) (hA104.ev (v := (.int .i64 20)) rfl) (b_eq _ _ 20 20 true _ rfl) ?_)
  intro a105 hA106
  refine q_step hA106 rfl (d_pickT (wn rfl) (hA106.ev (v := (.bool true)) rfl) (hA106.ev (v := (.bool true)) rfl) ?_)
  intro a107 hA108
  refine q_step hA108 rfl (d_move (wn rfl) (hA108.ev (v := (.bool true)) rfl) ?_)
  intro a109 hA110
  refine q_step hA110 rfl (d_move (wy rfl rfl (hA110.get 37 _ rfl)) (hA110.ev (v := (.int .i64 1)) rfl) ?_)
  intro a111 hA112
  refine q_step hA112 rfl (d_bin (wy rfl rfl (hA112.get 37 _ rfl)) (hA112.ev (v := (.int .i64 1)) rfl) (hA112.ev (v := (.int .i64 1)) rfl) (b_eq _ _ 1 1 true _ rfl) ?_)
  intro a113 hA114
  refine q_step hA114 rfl (d_pickT (wn rfl) (hA114.ev (v := (.bool true)) rfl) (hA114.ev (v := (.bool true)) rfl) ?_)
  intro a115 hA116
  refine q_step hA116 rfl (d_move (wn rfl) (hA116.ev (v := (.bool true)) rfl) ?_)
  intro a117 hA118
  refine q_step hA118 rfl (d_move (wy rfl rfl (hA118.get 41 _ rfl)) (hA118.ev (v := (.pointer (some ⟨g58, 0, none⟩))) rfl) ?_)
  intro a119 hA120
  refine q_step hA120 rfl (d_bin (wy rfl rfl (hA120.get 41 _ rfl)) (hA120.ev (v := (.pointer (some ⟨g58, 0, none⟩))) rfl) (hA120.ev (v := (.pointer none)) rfl) (b_ptnil ptr34) ?_)
  intro a121 hA122
  refine q_step hA122 rfl (d_pickT (wn rfl) (hA122.ev (v := (.bool true)) rfl) (hA122.ev (v := (.bool true)) rfl) ?_)
  intro a123 hA124
  refine q_step hA124 rfl (d_move (wn rfl) (hA124.ev (v := (.bool true)) rfl) ?_)
  intro a125 hA126
  refine q_step hA126 rfl (d_move (wy rfl rfl (hA126.get 45 _ rfl)) (hA126.ev (v := (.pointer (some ⟨g58, 0, none⟩))) rfl) ?_)
  intro a127 hA128
  refine q_step hA128 rfl (d_call (wy rfl rfl (hA128.get 45 _ rfl)) ent24 (map1 (hA128.ev (v := (.pointer (some ⟨g58, 0, none⟩))) rfl)) (left_nil g58 w54 m60) ?_)
  rintro e132 w129 ⟨he131, hG130⟩
  have m133 := m60.grow hG130
  have hr134 := range_below hr89 hG130 (Nat.lt_of_lt_of_le lt88 b61.size)
  have b135 := below_grow b61 hG130 b61.size
  refine ⟨(.int .i64 0), he131, ?_⟩
  intro a136 hA137
  refine q_step hA137 rfl (d_bin (wy rfl rfl (hA137.get 45 _ rfl)) (hA137.ev (v := (.int .i64 0)) rfl) (hA137.ev (v := (.int .i64 0)) rfl) (b_eq _ _ 0 0 true _ rfl) ?_)
  intro a138 hA139
  refine q_step hA139 rfl (d_pickT (wn rfl) (hA139.ev (v := (.bool true)) rfl) (hA139.ev (v := (.bool true)) rfl) ?_)
  intro a140 hA141
  refine q_step hA141 rfl (d_assign (wn rfl) (hA141.ev (v := (.bool true)) rfl) ?_)
  intro a142 hA143
  refine q_end ?_
  have hA144 : St 50 [(0, (.bool true))] a142 := hA143.cut _ (fm_cons (hA143.get 0 _ rfl) fm_nil)
  refine t_norm ?_
  refine wp_ret ?_
  refine ret1 rfl hA144 (v := (.bool true)) rfl ?_
  exact ⟨rfl, (Grow.trans b12 b135)⟩
end Go.Proofs.YtfehbkcfncioiaaDoor
/- How many words there are, at most. -/
namespace Go.Proofs.YtfehbkcfncioiaaDoor
theorem toksF_len : ∀ (f : Nat) (l : List UInt8) (a : Nat) (ws : List Tk), (toksF f l a ws).1.length ≤ ws.length + f := by
  intro f
  induction f with
  | zero => intro l a ws; simp [toksF]
  | succ f ih =>
    intro l a ws
    rw [toksF]
    split
    · simp
    · split
      · simp
      · split
        · refine Nat.le_trans (ih _ _ _) ?_
          rw [List.length_append, List.length_singleton]; omega
        · simp
theorem tokens_len (l : List UInt8) : (tokensR l).1.length ≤ 10000 := by
  by_cases h : l.length > 8192
  · rw [tokens_long h]; simp
  · rw [tokens_short (by omega)]
    have := toksF_len (l.length + 1) l 0 []
    simp only [List.length_nil] at this
    omega
end Go.Proofs.YtfehbkcfncioiaaDoor
/- Where words lie; what lies between them. -/
namespace Go.Proofs.YtfehbkcfncioiaaDoor
set_option linter.unusedVariables false
set_option linter.unusedSimpArgs false

theorem eqL_of {l m : List UInt8} (h : l = m) : eqL l m = true := by rw [h]; exact eqL_same _
theorem endR_take {l : List UInt8} {k : Nat} (h : 0 ≤ endR l) (hk : (endR l).toNat + 2 ≤ k) : endR (l.take k) = endR l := by
  induction l generalizing k with
  | nil => rw [endR_nil] at h; omega
  | cons b l ih =>
    obtain ⟨k, rfl⟩ : ∃ j, k = j + 1 := ⟨k - 1, by omega⟩
    rw [List.take_succ_cons, endR_cons, endR_cons]
    rw [endR_cons] at h hk
    by_cases hp : List.isPrefixOf [42, 41] (b :: l) = true
    · rw [if_pos hp] at hk ⊢
      match l, hp with
      | [], hp => simp at hp
      | c :: l, hp =>
        obtain ⟨k, rfl⟩ : ∃ j, k = j + 1 := ⟨k - 1, by simp at hk; omega⟩
        rw [List.take_succ_cons, if_pos (by simpa [List.isPrefixOf] using hp)]
    · rw [if_neg hp] at h hk ⊢
      have hge := endR_ge l
      by_cases h1 : endR l = -1
      · simp [h1] at h
      · have h2 : (endR l == -1) = false := by simp [h1]
        rw [h2] at h hk ⊢
        simp only [Bool.false_eq_true, if_false] at h hk ⊢
        have h3 := ih (k := k) (by omega) (by omega)
        rw [h3, h2]
        simp only [Bool.false_eq_true, if_false]
        rw [if_neg]
        intro hq
        apply hp
        match l, k, hq with
        | [], k, hq => simp at hq
        | c :: l, 0, hq => simp at hq
        | c :: l, k + 1, hq => rw [List.take_succ_cons] at hq; simpa [List.isPrefixOf] using hq
theorem skip_kinds (b : UInt8) (r : List UInt8) : (blkB b = true ∧ skipL (b :: r) = ((skipL r).1 + 1, (skipL r).2)) ∨
    (blkB b = false ∧ preB (b :: r) [40, 42] = true ∧ endR ((b :: r).drop 2) < 0 ∧ skipL (b :: r) = (0, true)) ∨
    (blkB b = false ∧ preB (b :: r) [40, 42] = true ∧ ¬ endR ((b :: r).drop 2) < 0 ∧ skipL (b :: r) = ((skipL ((b :: r).drop ((endR ((b :: r).drop 2)).toNat + 4))).1 + ((endR ((b :: r).drop 2)).toNat + 4), (skipL ((b :: r).drop ((endR ((b :: r).drop 2)).toNat + 4))).2)) ∨
    (blkB b = false ∧ preB (b :: r) [40, 42] = false ∧ skipL (b :: r) = (0, false)) := by
  have h0 : (b :: r)[0]? = some b := rfl
  rcases Bool.eq_false_or_eq_true (blkB b) with h1 | h1
  · have e := skip_blank h0 h1
    rw [List.drop_zero] at e
    exact .inl ⟨h1, by rw [e]; rfl⟩
  · rcases Bool.eq_false_or_eq_true (preB (b :: r) [40, 42]) with h2 | h2
    · by_cases h3 : endR ((b :: r).drop 2) < 0
      · have e := skip_open (n := 0) h0 h1 (by rw [List.drop_zero]; exact h2) (by rw [Nat.zero_add]; exact h3)
        rw [List.drop_zero] at e
        exact .inr (.inl ⟨h1, h2, h3, e⟩)
      · have e := skip_remark (n := 0) h0 h1 (by rw [List.drop_zero]; exact h2) (by rw [Nat.zero_add]; exact h3)
        rw [List.drop_zero] at e
        simp only [Nat.zero_add] at e
        have e2 : 2 + (endR ((b :: r).drop 2)).toNat + 2 = (endR ((b :: r).drop 2)).toNat + 4 := by omega
        rw [e2] at e
        exact .inr (.inr (.inl ⟨h1, h2, h3, e⟩))
    · have e := skip_word (n := 0) h0 h1 (by rw [List.drop_zero]; exact h2)
      rw [List.drop_zero] at e
      exact .inr (.inr (.inr ⟨h1, h2, e⟩))
theorem pre_take {l : List UInt8} {k : Nat} (h : preB l [40, 42] = true) (hk : 2 ≤ k) : preB (l.take k) [40, 42] = true := by
  have hl := pre_len h
  unfold preB at h ⊢
  rw [Bool.and_eq_true] at h ⊢
  refine ⟨decide_eq_true ?_, ?_⟩
  · rw [List.length_take]; simp only [List.length_cons, List.length_nil] at hl ⊢; omega
  · rw [List.take_take]
    have : min ([40, 42] : List UInt8).length k = ([40, 42] : List UInt8).length := by simp only [List.length_cons, List.length_nil]; omega
    rw [this]; exact h.2
theorem skip_take : ∀ (n : Nat) (m : List UInt8), m.length ≤ n → (skipL m).2 = false → skipL (m.take (skipL m).1) = ((skipL m).1, false) := by
  intro n
  induction n with
  | zero => intro m hm _; obtain rfl : m = [] := List.eq_nil_of_length_eq_zero (Nat.le_zero.1 hm); rw [skip_nil]; simp [skip_nil]
  | succ n ih =>
    intro m hm h2
    match m, hm, h2 with
    | [], _, _ => rw [skip_nil]; simp [skip_nil]
    | b :: r, hm, h2 =>
      rcases skip_kinds b r with ⟨h1, e⟩ | ⟨h1, hp, he, e⟩ | ⟨h1, hp, he, e⟩ | ⟨h1, hp, e⟩
      · rw [e] at h2 ⊢
        have i1 := ih r (by simpa using hm) h2
        simp only [List.take_succ_cons]
        have e3 := skip_blank (l := b :: r.take (skipL r).1) (n := 0) (b := b) rfl h1
        rw [List.drop_zero] at e3
        rw [e3]
        simp only [List.drop_succ_cons, List.drop_zero, i1]
      · rw [e] at h2; simp at h2
      · rw [e] at h2 ⊢
        simp only at h2 ⊢
        generalize hj : (endR ((b :: r).drop 2)).toNat = j at *
        have h4 := endR_le ((b :: r).drop 2)
        rw [hj, List.length_drop] at h4
        have h4' : j + 2 ≤ (b :: r).length - 2 := by rcases h4 with h4 | h4 <;> omega
        have i1 := ih ((b :: r).drop (j + 4)) (by rw [List.length_drop]; omega) h2
        generalize hk : (skipL ((b :: r).drop (j + 4))).1 = k at *
        have g0 : ((b :: r).take (k + (j + 4)))[0]? = some b := by rw [show k + (j + 4) = (k + (j + 3)) + 1 from rfl, List.take_succ_cons]; rfl
        have g1 : ((b :: r).take (k + (j + 4))).drop 2 = ((b :: r).drop 2).take (k + (j + 2)) := by rw [List.drop_take]; congr 1
        have g2 : endR (((b :: r).take (k + (j + 4))).drop 2) = endR ((b :: r).drop 2) := by rw [g1]; exact endR_take (by omega) (by omega)
        have e3 := skip_remark (l := (b :: r).take (k + (j + 4))) (n := 0) g0 h1 (by rw [List.drop_zero]; exact pre_take hp (by omega)) (by rw [Nat.zero_add, g2]; exact he)
        rw [List.drop_zero] at e3
        rw [e3]
        simp only [Nat.zero_add, g2, hj]
        have g3 : ((b :: r).take (k + (j + 4))).drop (2 + j + 2) = ((b :: r).drop (j + 4)).take k := by
          rw [List.drop_take]
          have : k + (j + 4) - (2 + j + 2) = k := by omega
          rw [this]; congr 2; omega
        rw [g3, i1]
      · rw [e]; simp [skip_nil]
theorem skip_open_lt : ∀ (n : Nat) (m : List UInt8), m.length ≤ n → (skipL m).2 = true → (skipL m).1 < m.length := by
  intro n
  induction n with
  | zero => intro m hm h; obtain rfl : m = [] := List.eq_nil_of_length_eq_zero (Nat.le_zero.1 hm); rw [skip_nil] at h; simp at h
  | succ n ih =>
    intro m hm h2
    match m, hm, h2 with
    | [], _, h2 => rw [skip_nil] at h2; simp at h2
    | b :: r, hm, h2 =>
      rcases skip_kinds b r with ⟨h1, e⟩ | ⟨h1, hp, he, e⟩ | ⟨h1, hp, he, e⟩ | ⟨h1, hp, e⟩
      · rw [e] at h2 ⊢
        have i1 := ih r (by simpa using hm) h2
        simp only [List.length_cons]; omega
      · rw [e]; simp
      · rw [e] at h2 ⊢
        simp only at h2 ⊢
        have i1 := ih ((b :: r).drop ((endR ((b :: r).drop 2)).toNat + 4)) (by rw [List.length_drop]; omega) h2
        rw [List.length_drop] at i1
        omega
      · rw [e] at h2; simp at h2
theorem first_text {l : List UInt8} (h : (firstR l).2 = 0) : (firstR l).1.text = l.take (firstR l).1.text.length := by
  have tk : ∀ k : Nat, l.take k = l.take (l.take k).length := by
    intro k; rw [List.length_take]
    by_cases hk : k ≤ l.length
    · rw [Nat.min_eq_left hk]
    · rw [Nat.min_eq_right (by omega), List.take_of_length_le (by omega), List.take_length]
  cases hb : l[0]? with
  | none => unfold firstR at h; simp [hb] at h
  | some b =>
    rcases Bool.eq_false_or_eq_true (digB b) with h1 | h1
    · cases hn : numR (l.take (rn numB l)) with
      | none => rw [first_bad hb h1 hn] at h; simp at h
      | some n => rw [first_num hb h1 hn]; exact tk _
    · rcases Bool.eq_false_or_eq_true (nbgB b) with h2 | h2
      · rw [first_name hb h1 h2]; exact tk _
      · by_cases h3 : mkN l > 0
        · rw [first_mark hb h1 h2 h3]; exact tk _
        · rw [first_byte hb h1 h2 h3] at h; simp at h
/-- what lies ahead of a word is cut into no words -/
theorem tokens_gap {l : List UInt8} {a : Nat} (hl : l.length ≤ 8192) (h : (skipL (l.drop a)).2 = false) : tokensR ((l.take (a + (skipL (l.drop a)).1)).drop a) = ([], 0, 0) := by
  have e : (l.take (a + (skipL (l.drop a)).1)).drop a = (l.drop a).take (skipL (l.drop a)).1 := by
    rw [List.drop_take]; congr 1; omega
  have h1 := skip_take (l.drop a).length (l.drop a) (Nat.le_refl _) h
  have h2 := skip_le (l.drop a)
  rw [e]
  have h3 : ((l.drop a).take (skipL (l.drop a)).1).length = (skipL (l.drop a)).1 := by rw [List.length_take]; omega
  have h4 : (l.drop a).length ≤ l.length := by rw [List.length_drop]; omega
  rw [tokens_short (by rw [h3]; omega)]
  refine tf_end ?_ ?_
  · rw [List.drop_zero, h1]
  · rw [List.drop_zero, h1, h3]; simp
/-- words that lie where they say, from a place on -/
def lies (l : List UInt8) : Nat → List Tk → Prop
  | _, [] => True
  | a, t :: ts => ∃ n : Nat, t.at_ = (n : Int) ∧ a ≤ n ∧ n + t.text.length ≤ l.length ∧ (l.take (n + t.text.length)).drop n = t.text ∧ 0 < t.text.length ∧ tokensR ((l.take n).drop a) = ([], 0, 0) ∧ (firstR (l.drop n)).2 = 0 ∧ t = { (firstR (l.drop n)).1 with at_ := (n : Int) } ∧ lies l (n + t.text.length) ts
theorem toksF_lies : ∀ (f : Nat) (l : List UInt8) (a : Nat) (ws : List Tk), l.length ≤ 8192 → a ≤ l.length → l.length < a + f →
    ((toksF f l a ws).2.1 = 0 ∧ ∃ ts, (toksF f l a ws).1 = ws ++ ts ∧ lies l a ts) ∨ ((toksF f l a ws).2.1 ≠ 0 ∧ (toksF f l a ws).1 = [] ∧ (toksF f l a ws).2.2 < l.length) := by
  intro f
  induction f with
  | zero => intro l a ws _ h1 h2; omega
  | succ f ih =>
    intro l a ws hl h1 h2
    have h3 := skip_le (l.drop a)
    rw [List.length_drop] at h3
    rcases Bool.eq_false_or_eq_true (skipL (l.drop a)).2 with hr | hr
    · right
      rw [tf_rem hr]
      have := skip_open_lt _ (l.drop a) (Nat.le_refl _) hr
      rw [List.length_drop] at this
      exact ⟨by simp, rfl, by simp only; omega⟩
    · by_cases he : a + (skipL (l.drop a)).1 = l.length
      · left; rw [tf_end hr he]; exact ⟨rfl, [], by simp, trivial⟩
      · by_cases hf : (firstR (l.drop (a + (skipL (l.drop a)).1))).2 = 0
        · rw [tf_go hr he hf]
          have hg := tokens_gap hl hr
          have g1 := first_len hf
          have g2 := first_text hf
          generalize hn : a + (skipL (l.drop a)).1 = n at *
          rw [List.length_drop] at g1
          rcases ih l (n + (firstR (l.drop n)).1.text.length) (ws ++ [{ (firstR (l.drop n)).1 with at_ := (n : Int) }]) hl (by omega) (by omega) with ⟨i1, ts, i2, i3⟩ | i1
          · left
            refine ⟨i1, { (firstR (l.drop n)).1 with at_ := (n : Int) } :: ts, by rw [i2]; simp, n, rfl, by omega, by simp only; omega, ?_, g1.1, hg, hf, rfl, i3⟩
            simp only
            rw [List.drop_take]
            have : n + (firstR (l.drop n)).1.text.length - n = (firstR (l.drop n)).1.text.length := by omega
            rw [this]; exact g2.symm
          · exact .inr i1
        · right
          rw [tf_bad hr he hf]
          exact ⟨hf, rfl, by simp only; omega⟩
theorem tokens_lie {l : List UInt8} (hl : l.length ≤ 8192) : ((tokensR l).2.1 = 0 ∧ lies l 0 (tokensR l).1) ∨ ((tokensR l).2.1 ≠ 0 ∧ (tokensR l).1 = [] ∧ (tokensR l).2.2 < l.length) := by
  rw [tokens_short hl]
  rcases toksF_lies (l.length + 1) l 0 [] hl (Nat.zero_le _) (by omega) with ⟨h, ts, e, h2⟩ | h
  · exact .inl ⟨h, by rw [e]; exact h2⟩
  · exact .inr h
theorem lies_at {l : List UInt8} {a j : Nat} {ws : List Tk} {y : Tk} (h : lies l a (ws.drop j)) (hy : ws[j]? = some y) : ∃ n : Nat, y.at_ = (n : Int) ∧ a ≤ n ∧ n + y.text.length ≤ l.length ∧ (l.take (n + y.text.length)).drop n = y.text ∧ 0 < y.text.length ∧ tokensR ((l.take n).drop a) = ([], 0, 0) ∧ lies l (n + y.text.length) (ws.drop (j + 1)) := by
  obtain ⟨h1, h2⟩ := List.getElem?_eq_some_iff.1 hy
  rw [List.drop_eq_getElem_cons h1, h2] at h
  obtain ⟨n, e1, e2, e3, e4, e5, e6, _, _, e7⟩ := h
  exact ⟨n, e1, e2, e3, e4, e5, e6, e7⟩
end Go.Proofs.YtfehbkcfncioiaaDoor
