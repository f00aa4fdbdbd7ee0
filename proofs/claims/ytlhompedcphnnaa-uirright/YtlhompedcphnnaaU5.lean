/- Contracts of functions on single instructions. -/
import Derived.Test.YtlhompedcphnnaaU2
import Derived.Test.YtlhompedcphnnaaU3
import Derived.Test.YtlhompedcphnnaaU4
import Derived.Test.YtlhompedcphnnaaUMath
namespace Go.Proofs.Ytlhompedcphnnaa
open Go.RowKit
set_option linter.unusedSimpArgs false
set_option linter.unusedVariables false
set_option maxHeartbeats 4000000 in
set_option maxRecDepth 4000 in
theorem right_any (i : Ins) (p q : Int) (w : World) : Calls Try.prog 9 #[.agg (insC i), .int .i64 p, .int .i64 q] w fun e w' => e = .returned (.int .i64 (rightR i p q)) ∧ Grow w w' := by
  have b0 : Below w.heap.size w w := Below.refl _ _
  refine enter (n := 30) Try.func9 rfl rfl (Nat.le_of_ble_eq_true rfl) ?_
  intro a1 hA2
  refine wp_seq ?_
  refine wp_region_lit ?_
  refine q_step hA2 rfl (d_box (wn rfl) (hA2.ev (v := (.agg (insC i))) rfl) ?_)
  intro g3 w4 eg5 hG6 (m7 : Blk w4 g3 (insC i) 23)
  have ge8 : w.heap.size ≤ g3 := eg5 ▸ b0.size
  have b9 := below_grow b0 hG6 b0.size
  intro a10 hA11
  refine q_step hA11 rfl (d_assign (wn rfl) (hA11.ev (v := (.int .i64 0)) rfl) ?_)
  intro a12 hA13
  refine q_end ?_
  have hA14 : St 30 [(1, (.int .i64 p)), (2, (.int .i64 q)), (3, (.pointer (some ⟨g3, 0, none⟩))), (6, (.int .i64 0))] a12 := hA13.cut _ (fm_cons (hA13.get 1 _ rfl) (fm_cons (hA13.get 2 _ rfl) (fm_cons (hA13.get 3 _ rfl) (fm_cons (hA13.get 6 _ rfl) fm_nil))))
  refine t_norm ?_
  refine wp_seq ?_
  refine wp_seq ?_
  rcases Bool.eq_false_or_eq_true (insEq i (plainF i)) with hb15 | hb15
  · skip
    rcases Bool.eq_false_or_eq_true (soundB i) with hb17 | hb17
    · skip
      have hA19 : St 30 [(1, (.int .i64 p)), (2, (.int .i64 q)), (3, (.pointer (some ⟨g3, 0, none⟩))), (6, (.int .i64 0))] a12 := hA14.cut _ (fm_cons (hA14.get 1 _ rfl) (fm_cons (hA14.get 2 _ rfl) (fm_cons (hA14.get 3 _ rfl) (fm_cons (hA14.get 6 _ rfl) fm_nil))))
      let M20 : Nat → Option (Array Value) := fun _ => none
      have hM20 : M20 = fun _ => none := rfl
      clear_value M20
      have hM21 : M20 g3 = none := (congrFun hM20 g3)
      have hM20B : ∀ k, k < w.heap.size → M20 k = none := (fun k hk => (congrFun hM20 k))
      refine drawn (S := SM M20) (tabL [cv (.agg (insC i)), cv (.agg (insC i)), cv (.agg (insC (plainF i))), cv (.bool false), cv (.bool false), cv (.agg (insC i)), cv (.bool true), cv (.bool false), cv (.bool false)]) mixedY SM.refl SM.trans SM.drew hA19 (by kernel_rfl) ?_ ?_
      · skip
        refine each_cons (fun x y hS hT hk => d_loadRow (cs := (insC i)) (wn rfl) (hT.ev (v := (.pointer (some ⟨g3, 0, none⟩))) rfl) row23 (Blk.sm (w := w4.drew) m7 hS hM21) ⟨SM.refl _, rfl⟩) ?_
        refine each_cons (fun x y hS hT hk => d_loadRow (cs := (insC i)) (wn rfl) (hT.ev (v := (.pointer (some ⟨g3, 0, none⟩))) rfl) row23 (Blk.sm (w := w4.drew) m7 hS hM21) ⟨SM.refl _, rfl⟩) ?_
        refine each_cons (fun x y hS hT hk => d_call (wn rfl) ent28 (map1 (show x.eval _ = (.agg (insC i)) from (hk 1 rfl))) (plain_any i y) (fun _ _ ⟨he, hG⟩ => ⟨(.agg (insC (plainF i))), he, SM.grow hG, rfl⟩)) ?_
        refine each_cons (fun x y hS hT hk => d_bin (u := .agg (insC i)) (v := .agg (insC (plainF i))) (wn rfl) (hk 0 rfl) (hk 2 rfl) (ne_ins i (plainF i) _ _ _ false (notof hb15)) ⟨SM.refl _, rfl⟩) ?_
        refine each_cons (fun x y hS hT hk => d_move (wn rfl) (hk 3 rfl) ⟨SM.refl _, rfl⟩) ?_
        refine each_cons (fun x y hS hT hk => d_loadRow (cs := (insC i)) (wy rfl rfl (hk 4 rfl)) (hT.ev (v := (.pointer (some ⟨g3, 0, none⟩))) rfl) row23 (Blk.sm (w := w4.drew) m7 hS hM21) ⟨SM.refl _, rfl⟩) ?_
        refine each_cons (fun x y hS hT hk => d_call (wy rfl rfl (hk 4 rfl)) ent29 (map1 (show x.eval _ = (.agg (insC i)) from (hk 5 rfl))) (sound_any i y) (fun _ _ ⟨he, hG⟩ => ⟨(.bool true), (he.trans (ret_bool hb17)), SM.grow hG, rfl⟩)) ?_
        refine each_cons (fun x y hS hT hk => d_not (wy rfl rfl (hk 4 rfl)) (hk 6 rfl) ⟨SM.refl _, rfl⟩) ?_
        refine each_cons (fun x y hS hT hk => d_pickF (wn rfl) (hk 4 rfl) (hk 7 rfl) ⟨SM.refl _, rfl⟩) ?_
        exact each_nil
      intro f22 a23 w24 hS25 hC26 hA27
      have hA28 : St 30 [(1, (.int .i64 p)), (2, (.int .i64 q)), (3, (.pointer (some ⟨g3, 0, none⟩))), (6, (.int .i64 0)), (15, (.bool false))] a23 := hA27.cut _ (fm_cons (hA27.get 1 _ rfl) (fm_cons (hA27.get 2 _ rfl) (fm_cons (hA27.get 3 _ rfl) (fm_cons (hA27.get 6 _ rfl) (fm_cons ((hA27.get 15 _ rfl).trans (hC26 8 (Nat.le_of_ble_eq_true rfl))) fm_nil)))))
      have m29 := m7.sm hS25 hM21
      have b30 := hS25.below b9 b9.size hM20B
      refine t_norm ?_
      refine c_false hA28 rfl ?_
      refine wp_skip ?_
      refine t_norm ?_
      refine wp_seq ?_
      refine wp_seq ?_
      refine wp_region_lit ?_
      refine q_step hA28 rfl (d_loadRow (cs := (insC i)) (wn rfl) (hA28.ev (v := (.pointer (some ⟨g3, 0, none⟩))) rfl) row23 m29 ?_)
      intro a31 hA32
      refine q_step hA32 rfl (d_call (wn rfl) ent30 (map1 (hA32.ev (v := (.agg (insC i))) rfl)) (isBranch_any i w24) ?_)
      rintro e36 w33 ⟨he35, hG34⟩
      have m37 := m29.grow hG34
      have b38 := below_grow b30 hG34 b30.size
      rcases Bool.eq_false_or_eq_true (i.op == 9) with hb39 | hb39
      · skip
        have hq40 := eq_of_beq hb39
        refine ⟨.bool true, he35.trans (ret_bool hb39), ?_⟩
        intro a41 hA42
        refine q_step hA42 rfl (d_move (wn rfl) (hA42.ev (v := (.bool true)) rfl) ?_)
        intro a43 hA44
        refine q_step hA44 rfl (d_fieldAddr (wy rfl rfl (hA44.get 18 _ rfl)) (hA44.ev (v := (.pointer (some ⟨g3, 0, none⟩))) rfl) fo23_15 ?_)
        intro a45 hA46
        refine q_step hA46 rfl (d_load (v := (.int .i64 i.to)) (wy rfl rfl (hA46.get 18 _ rfl)) (hA46.ev (v := (.pointer (some ⟨g3, 15, none⟩))) rfl) one3 (m37.cell rfl) ?_)
        intro a47 hA48
        refine q_step hA48 rfl (d_move (wy rfl rfl (hA48.get 18 _ rfl)) (hA48.ev (v := (.int .i64 p)) rfl) ?_)
        intro a49 hA50
        rcases Bool.eq_false_or_eq_true (decide (i.to ≤ p)) with hb51 | hb51
        · skip
          have hq52 := of_decide_eq_true hb51
          refine q_step hA50 rfl (d_bin (wy rfl rfl (hA50.get 18 _ rfl)) (hA50.ev (v := (.int .i64 i.to)) rfl) (hA50.ev (v := (.int .i64 p)) rfl) (b_le _ _ i.to p true _ hb51) ?_)
          intro a53 hA54
          refine q_step hA54 rfl (d_move (wy rfl rfl (hA54.get 18 _ rfl)) (hA54.ev (v := (.bool true)) rfl) ?_)
          intro a55 hA56
          refine q_step hA56 rfl (does_not (wno rfl rfl (.inl (hA56.get 23 _ rfl))) ?_)
          intro a57 hA58
          refine q_step hA58 rfl (does_not (wno rfl rfl (.inl (hA58.get 23 _ rfl))) ?_)
          intro a59 hA60
          refine q_step hA60 rfl (does_not (wno rfl rfl (.inl (hA60.get 23 _ rfl))) ?_)
          intro a61 hA62
          refine q_step hA62 rfl (does_not (wno rfl rfl (.inl (hA62.get 23 _ rfl))) ?_)
          intro a63 hA64
          refine q_step hA64 rfl (d_pickT (wy rfl rfl (hA64.get 18 _ rfl)) (hA64.ev (v := (.bool true)) rfl) (hA64.ev (v := (.bool true)) rfl) ?_)
          intro a65 hA66
          refine q_step hA66 rfl (d_pickT (wn rfl) (hA66.ev (v := (.bool true)) rfl) (hA66.ev (v := (.bool true)) rfl) ?_)
          intro a67 hA68
          refine q_end ?_
          have hA69 : St 30 [(6, (.int .i64 0)), (29, (.bool true))] a67 := hA68.cut _ (fm_cons (hA68.get 6 _ rfl) (fm_cons (hA68.get 29 _ rfl) fm_nil))
          refine t_norm ?_
          refine c_true hA69 rfl ?_
          refine wp_seq ?_
          refine wp_region_lit ?_
          refine q_step hA69 rfl (d_assign (wn rfl) (hA69.ev (v := (.int .i64 35)) rfl) ?_)
          intro a70 hA71
          refine q_end ?_
          have hA72 : St 30 [(6, (.int .i64 35))] a70 := hA71.cut _ (fm_cons (hA71.get 6 _ rfl) fm_nil)
          refine t_norm ?_
          refine wp_ret ?_
          refine t_ret ?_
          refine ret1 rfl hA72 (v := (.int .i64 35)) rfl ?_
          exact ⟨ret_int (by simp [rightR, hb15, hb17, eq_of_beq hb39, hb51]), b38⟩
        · skip
          have hq73 := of_decide_eq_false hb51
          refine q_step hA50 rfl (d_bin (wy rfl rfl (hA50.get 18 _ rfl)) (hA50.ev (v := (.int .i64 i.to)) rfl) (hA50.ev (v := (.int .i64 p)) rfl) (b_le _ _ i.to p false _ hb51) ?_)
          intro a74 hA75
          refine q_step hA75 rfl (d_move (wy rfl rfl (hA75.get 18 _ rfl)) (hA75.ev (v := (.bool false)) rfl) ?_)
          intro a76 hA77
          refine q_step hA77 rfl (d_fieldAddr (wy rfl rfl (hA77.get 23 _ rfl)) (hA77.ev (v := (.pointer (some ⟨g3, 0, none⟩))) rfl) fo23_15 ?_)
          intro a78 hA79
          refine q_step hA79 rfl (d_load (v := (.int .i64 i.to)) (wy rfl rfl (hA79.get 23 _ rfl)) (hA79.ev (v := (.pointer (some ⟨g3, 15, none⟩))) rfl) one3 (m37.cell rfl) ?_)
          intro a80 hA81
          refine q_step hA81 rfl (d_move (wy rfl rfl (hA81.get 23 _ rfl)) (hA81.ev (v := (.int .i64 q)) rfl) ?_)
          intro a82 hA83
          rcases Bool.eq_false_or_eq_true (decide (i.to > q)) with hb84 | hb84
          · skip
            have hq85 := of_decide_eq_true hb84
            refine q_step hA83 rfl (d_bin (wy rfl rfl (hA83.get 23 _ rfl)) (hA83.ev (v := (.int .i64 i.to)) rfl) (hA83.ev (v := (.int .i64 q)) rfl) (b_gt _ _ i.to q true _ hb84) ?_)
            intro a86 hA87
            refine q_step hA87 rfl (d_pickF (wy rfl rfl (hA87.get 18 _ rfl)) (hA87.ev (v := (.bool false)) rfl) (hA87.ev (v := (.bool true)) rfl) ?_)
            intro a88 hA89
            refine q_step hA89 rfl (d_pickT (wn rfl) (hA89.ev (v := (.bool true)) rfl) (hA89.ev (v := (.bool true)) rfl) ?_)
            intro a90 hA91
            refine q_end ?_
            have hA92 : St 30 [(6, (.int .i64 0)), (29, (.bool true))] a90 := hA91.cut _ (fm_cons (hA91.get 6 _ rfl) (fm_cons (hA91.get 29 _ rfl) fm_nil))
            refine t_norm ?_
            refine c_true hA92 rfl ?_
            refine wp_seq ?_
            refine wp_region_lit ?_
            refine q_step hA92 rfl (d_assign (wn rfl) (hA92.ev (v := (.int .i64 35)) rfl) ?_)
            intro a93 hA94
            refine q_end ?_
            have hA95 : St 30 [(6, (.int .i64 35))] a93 := hA94.cut _ (fm_cons (hA94.get 6 _ rfl) fm_nil)
            refine t_norm ?_
            refine wp_ret ?_
            refine t_ret ?_
            refine ret1 rfl hA95 (v := (.int .i64 35)) rfl ?_
            exact ⟨ret_int (by simp [rightR, hb15, hb17, eq_of_beq hb39, hb51, hb84]), b38⟩
          · skip
            have hq96 := of_decide_eq_false hb84
            refine q_step hA83 rfl (d_bin (wy rfl rfl (hA83.get 23 _ rfl)) (hA83.ev (v := (.int .i64 i.to)) rfl) (hA83.ev (v := (.int .i64 q)) rfl) (b_gt _ _ i.to q false _ hb84) ?_)
            intro a97 hA98
            refine q_step hA98 rfl (d_pickF (wy rfl rfl (hA98.get 18 _ rfl)) (hA98.ev (v := (.bool false)) rfl) (hA98.ev (v := (.bool false)) rfl) ?_)
            intro a99 hA100
            refine q_step hA100 rfl (d_pickT (wn rfl) (hA100.ev (v := (.bool true)) rfl) (hA100.ev (v := (.bool false)) rfl) ?_)
            intro a101 hA102
            refine q_end ?_
            have hA103 : St 30 [(6, (.int .i64 0)), (29, (.bool false))] a101 := hA102.cut _ (fm_cons (hA102.get 6 _ rfl) (fm_cons (hA102.get 29 _ rfl) fm_nil))
            refine t_norm ?_
            refine c_false hA103 rfl ?_
            refine wp_skip ?_
            refine t_norm ?_
            refine wp_seq ?_
            refine wp_region_lit ?_
            refine q_step hA103 rfl (d_assign (wn rfl) (hA103.ev (v := (.int .i64 0)) rfl) ?_)
            intro a104 hA105
            refine q_end ?_
            have hA106 : St 30 [(6, (.int .i64 0))] a104 := hA105.cut _ (fm_cons (hA105.get 6 _ rfl) fm_nil)
            refine t_norm ?_
            refine wp_ret ?_
            refine ret1 rfl hA106 (v := (.int .i64 0)) rfl ?_
            exact ⟨ret_int (by simp [rightR, hb15, hb17, eq_of_beq hb39, hb51, hb84]), b38⟩
      · skip
        have hq107 := ne_of_beq hb39
        refine ⟨.bool false, he35.trans (ret_bool hb39), ?_⟩
        intro a108 hA109
        refine q_step hA109 rfl (d_move (wn rfl) (hA109.ev (v := (.bool false)) rfl) ?_)
        intro a110 hA111
        refine q_step hA111 rfl (does_not (wno rfl rfl (.inl (hA111.get 18 _ rfl))) ?_)
        intro a112 hA113
        refine q_step hA113 rfl (does_not (wno rfl rfl (.inl (hA113.get 18 _ rfl))) ?_)
        intro a114 hA115
        refine q_step hA115 rfl (does_not (wno rfl rfl (.inl (hA115.get 18 _ rfl))) ?_)
        intro a116 hA117
        refine q_step hA117 rfl (does_not (wno rfl rfl (.inl (hA117.get 18 _ rfl))) ?_)
        intro a118 hA119
        refine q_step hA119 rfl (does_not (wno rfl rfl (.inl (hA119.get 18 _ rfl))) ?_)
        intro a120 hA121
        refine q_step hA121 rfl (does_not (wno rfl rfl (.inr (hA121.get 23 _ rfl))) ?_)
        intro a122 hA123
        refine q_step hA123 rfl (does_not (wno rfl rfl (.inr (hA123.get 23 _ rfl))) ?_)
        intro a124 hA125
        refine q_step hA125 rfl (does_not (wno rfl rfl (.inr (hA125.get 23 _ rfl))) ?_)
        intro a126 hA127
        refine q_step hA127 rfl (does_not (wno rfl rfl (.inr (hA127.get 23 _ rfl))) ?_)
        intro a128 hA129
        refine q_step hA129 rfl (does_not (wno rfl rfl (.inl (hA129.get 18 _ rfl))) ?_)
        intro a130 hA131
        refine q_step hA131 rfl (d_pickF (wn rfl) (hA131.ev (v := (.bool false)) rfl) (hA131.ev (v := (.bool false)) rfl) ?_)
        intro a132 hA133
        refine q_end ?_
        have hA134 : St 30 [(6, (.int .i64 0)), (29, (.bool false))] a132 := hA133.cut _ (fm_cons (hA133.get 6 _ rfl) (fm_cons (hA133.get 29 _ rfl) fm_nil))
        refine t_norm ?_
        refine c_false hA134 rfl ?_
        refine wp_skip ?_
        refine t_norm ?_
        refine wp_seq ?_
        refine wp_region_lit ?_
        refine q_step hA134 rfl (d_assign (wn rfl) (hA134.ev (v := (.int .i64 0)) rfl) ?_)
        intro a135 hA136
        refine q_end ?_
        have hA137 : St 30 [(6, (.int .i64 0))] a135 := hA136.cut _ (fm_cons (hA136.get 6 _ rfl) fm_nil)
        refine t_norm ?_
        refine wp_ret ?_
        refine ret1 rfl hA137 (v := (.int .i64 0)) rfl ?_
        exact ⟨ret_int (by simp [rightR, hb15, hb17, hb39]), b38⟩
    · skip
      have hA139 : St 30 [(1, (.int .i64 p)), (2, (.int .i64 q)), (3, (.pointer (some ⟨g3, 0, none⟩))), (6, (.int .i64 0))] a12 := hA14.cut _ (fm_cons (hA14.get 1 _ rfl) (fm_cons (hA14.get 2 _ rfl) (fm_cons (hA14.get 3 _ rfl) (fm_cons (hA14.get 6 _ rfl) fm_nil))))
      let M140 : Nat → Option (Array Value) := fun _ => none
      have hM140 : M140 = fun _ => none := rfl
      clear_value M140
      have hM141 : M140 g3 = none := (congrFun hM140 g3)
      have hM140B : ∀ k, k < w.heap.size → M140 k = none := (fun k hk => (congrFun hM140 k))
      refine drawn (S := SM M140) (tabL [cv (.agg (insC i)), cv (.agg (insC i)), cv (.agg (insC (plainF i))), cv (.bool false), cv (.bool false), cv (.agg (insC i)), cv (.bool false), cv (.bool true), cv (.bool true)]) mixedY SM.refl SM.trans SM.drew hA139 (by kernel_rfl) ?_ ?_
      · skip
        refine each_cons (fun x y hS hT hk => d_loadRow (cs := (insC i)) (wn rfl) (hT.ev (v := (.pointer (some ⟨g3, 0, none⟩))) rfl) row23 (Blk.sm (w := w4.drew) m7 hS hM141) ⟨SM.refl _, rfl⟩) ?_
        refine each_cons (fun x y hS hT hk => d_loadRow (cs := (insC i)) (wn rfl) (hT.ev (v := (.pointer (some ⟨g3, 0, none⟩))) rfl) row23 (Blk.sm (w := w4.drew) m7 hS hM141) ⟨SM.refl _, rfl⟩) ?_
        refine each_cons (fun x y hS hT hk => d_call (wn rfl) ent28 (map1 (show x.eval _ = (.agg (insC i)) from (hk 1 rfl))) (plain_any i y) (fun _ _ ⟨he, hG⟩ => ⟨(.agg (insC (plainF i))), he, SM.grow hG, rfl⟩)) ?_
        refine each_cons (fun x y hS hT hk => d_bin (u := .agg (insC i)) (v := .agg (insC (plainF i))) (wn rfl) (hk 0 rfl) (hk 2 rfl) (ne_ins i (plainF i) _ _ _ false (notof hb15)) ⟨SM.refl _, rfl⟩) ?_
        refine each_cons (fun x y hS hT hk => d_move (wn rfl) (hk 3 rfl) ⟨SM.refl _, rfl⟩) ?_
        refine each_cons (fun x y hS hT hk => d_loadRow (cs := (insC i)) (wy rfl rfl (hk 4 rfl)) (hT.ev (v := (.pointer (some ⟨g3, 0, none⟩))) rfl) row23 (Blk.sm (w := w4.drew) m7 hS hM141) ⟨SM.refl _, rfl⟩) ?_
        refine each_cons (fun x y hS hT hk => d_call (wy rfl rfl (hk 4 rfl)) ent29 (map1 (show x.eval _ = (.agg (insC i)) from (hk 5 rfl))) (sound_any i y) (fun _ _ ⟨he, hG⟩ => ⟨(.bool false), (he.trans (ret_bool hb17)), SM.grow hG, rfl⟩)) ?_
        refine each_cons (fun x y hS hT hk => d_not (wy rfl rfl (hk 4 rfl)) (hk 6 rfl) ⟨SM.refl _, rfl⟩) ?_
        refine each_cons (fun x y hS hT hk => d_pickF (wn rfl) (hk 4 rfl) (hk 7 rfl) ⟨SM.refl _, rfl⟩) ?_
        exact each_nil
      intro f142 a143 w144 hS145 hC146 hA147
      have hA148 : St 30 [(1, (.int .i64 p)), (2, (.int .i64 q)), (3, (.pointer (some ⟨g3, 0, none⟩))), (6, (.int .i64 0)), (15, (.bool true))] a143 := hA147.cut _ (fm_cons (hA147.get 1 _ rfl) (fm_cons (hA147.get 2 _ rfl) (fm_cons (hA147.get 3 _ rfl) (fm_cons (hA147.get 6 _ rfl) (fm_cons ((hA147.get 15 _ rfl).trans (hC146 8 (Nat.le_of_ble_eq_true rfl))) fm_nil)))))
      have m149 := m7.sm hS145 hM141
      have b150 := hS145.below b9 b9.size hM140B
      refine t_norm ?_
      refine c_true hA148 rfl ?_
      refine wp_seq ?_
      refine wp_region_lit ?_
      refine q_step hA148 rfl (d_assign (wn rfl) (hA148.ev (v := (.int .i64 34)) rfl) ?_)
      intro a151 hA152
      refine q_end ?_
      have hA153 : St 30 [(1, (.int .i64 p)), (2, (.int .i64 q)), (3, (.pointer (some ⟨g3, 0, none⟩))), (6, (.int .i64 34))] a151 := hA152.cut _ (fm_cons (hA152.get 1 _ rfl) (fm_cons (hA152.get 2 _ rfl) (fm_cons (hA152.get 3 _ rfl) (fm_cons (hA152.get 6 _ rfl) fm_nil))))
      refine t_norm ?_
      refine wp_ret ?_
      refine t_ret ?_
      refine ret1 rfl hA153 (v := (.int .i64 34)) rfl ?_
      exact ⟨ret_int (by simp [rightR, hb15, hb17]), b150⟩
  · skip
    have hA155 : St 30 [(1, (.int .i64 p)), (2, (.int .i64 q)), (3, (.pointer (some ⟨g3, 0, none⟩))), (6, (.int .i64 0))] a12 := hA14.cut _ (fm_cons (hA14.get 1 _ rfl) (fm_cons (hA14.get 2 _ rfl) (fm_cons (hA14.get 3 _ rfl) (fm_cons (hA14.get 6 _ rfl) fm_nil))))
    let M156 : Nat → Option (Array Value) := fun _ => none
    have hM156 : M156 = fun _ => none := rfl
    clear_value M156
    have hM157 : M156 g3 = none := (congrFun hM156 g3)
    have hM156B : ∀ k, k < w.heap.size → M156 k = none := (fun k hk => (congrFun hM156 k))
    refine drawn (S := SM M156) (tabL [cv (.agg (insC i)), cv (.agg (insC i)), cv (.agg (insC (plainF i))), cv (.bool true), cv (.bool true), cv undef, cv undef, cv undef, cv (.bool true)]) mixedY SM.refl SM.trans SM.drew hA155 (by kernel_rfl) ?_ ?_
    · skip
      refine each_cons (fun x y hS hT hk => d_loadRow (cs := (insC i)) (wn rfl) (hT.ev (v := (.pointer (some ⟨g3, 0, none⟩))) rfl) row23 (Blk.sm (w := w4.drew) m7 hS hM157) ⟨SM.refl _, rfl⟩) ?_
      refine each_cons (fun x y hS hT hk => d_loadRow (cs := (insC i)) (wn rfl) (hT.ev (v := (.pointer (some ⟨g3, 0, none⟩))) rfl) row23 (Blk.sm (w := w4.drew) m7 hS hM157) ⟨SM.refl _, rfl⟩) ?_
      refine each_cons (fun x y hS hT hk => d_call (wn rfl) ent28 (map1 (show x.eval _ = (.agg (insC i)) from (hk 1 rfl))) (plain_any i y) (fun _ _ ⟨he, hG⟩ => ⟨(.agg (insC (plainF i))), he, SM.grow hG, rfl⟩)) ?_
      refine each_cons (fun x y hS hT hk => d_bin (u := .agg (insC i)) (v := .agg (insC (plainF i))) (wn rfl) (hk 0 rfl) (hk 2 rfl) (ne_ins i (plainF i) _ _ _ true (notof hb15)) ⟨SM.refl _, rfl⟩) ?_
      refine each_cons (fun x y hS hT hk => d_move (wn rfl) (hk 3 rfl) ⟨SM.refl _, rfl⟩) ?_
      refine each_cons (fun x y hS hT hk => does_not (wno rfl rfl (.inl (hk 4 rfl))) ⟨SM.refl _, rfl⟩) ?_
      refine each_cons (fun x y hS hT hk => does_not (wno rfl rfl (.inl (hk 4 rfl))) ⟨SM.refl _, rfl⟩) ?_
      refine each_cons (fun x y hS hT hk => does_not (wno rfl rfl (.inl (hk 4 rfl))) ⟨SM.refl _, rfl⟩) ?_
      refine each_cons (fun x y hS hT hk => d_pickT (wn rfl) (hk 4 rfl) (hT.ev (v := (.bool true)) rfl) ⟨SM.refl _, rfl⟩) ?_
      exact each_nil
    intro f158 a159 w160 hS161 hC162 hA163
    have hA164 : St 30 [(1, (.int .i64 p)), (2, (.int .i64 q)), (3, (.pointer (some ⟨g3, 0, none⟩))), (6, (.int .i64 0)), (15, (.bool true))] a159 := hA163.cut _ (fm_cons (hA163.get 1 _ rfl) (fm_cons (hA163.get 2 _ rfl) (fm_cons (hA163.get 3 _ rfl) (fm_cons (hA163.get 6 _ rfl) (fm_cons ((hA163.get 15 _ rfl).trans (hC162 8 (Nat.le_of_ble_eq_true rfl))) fm_nil)))))
    have m165 := m7.sm hS161 hM157
    have b166 := hS161.below b9 b9.size hM156B
    refine t_norm ?_
    refine c_true hA164 rfl ?_
    refine wp_seq ?_
    refine wp_region_lit ?_
    refine q_step hA164 rfl (d_assign (wn rfl) (hA164.ev (v := (.int .i64 34)) rfl) ?_)
    intro a167 hA168
    refine q_end ?_
    have hA169 : St 30 [(1, (.int .i64 p)), (2, (.int .i64 q)), (3, (.pointer (some ⟨g3, 0, none⟩))), (6, (.int .i64 34))] a167 := hA168.cut _ (fm_cons (hA168.get 1 _ rfl) (fm_cons (hA168.get 2 _ rfl) (fm_cons (hA168.get 3 _ rfl) (fm_cons (hA168.get 6 _ rfl) fm_nil))))
    refine t_norm ?_
    refine wp_ret ?_
    refine t_ret ?_
    refine ret1 rfl hA169 (v := (.int .i64 34)) rfl ?_
    exact ⟨ret_int (by simp [rightR, hb15]), b166⟩
set_option maxHeartbeats 4000000 in
set_option maxRecDepth 4000 in
theorem rgives_any (i : Ins) (w : World) : Calls Try.prog 19 #[.agg (insC i)] w fun e w' => e = .returned (.int .i64 (givesF i)) ∧ Grow w w' := by
  have b0 : Below w.heap.size w w := Below.refl _ _
  refine enter (n := 13) Try.func19 rfl rfl (Nat.le_of_ble_eq_true rfl) ?_
  intro a1 hA2
  refine wp_seq ?_
  refine wp_region_lit ?_
  refine q_step hA2 rfl (d_box (wn rfl) (hA2.ev (v := (.agg (insC i))) rfl) ?_)
  intro g3 w4 eg5 hG6 (m7 : Blk w4 g3 (insC i) 23)
  have ge8 : w.heap.size ≤ g3 := eg5 ▸ b0.size
  have b9 := below_grow b0 hG6 b0.size
  intro a10 hA11
  refine q_step hA11 rfl (d_assign (wn rfl) (hA11.ev (v := (.int .i64 0)) rfl) ?_)
  intro a12 hA13
  refine q_end ?_
  have hA14 : St 13 [(1, (.pointer (some ⟨g3, 0, none⟩))), (2, (.int .i64 0))] a12 := hA13.cut _ (fm_cons (hA13.get 1 _ rfl) (fm_cons (hA13.get 2 _ rfl) fm_nil))
  refine t_norm ?_
  refine wp_seq ?_
  refine wp_seq ?_
  refine wp_region_lit ?_
  refine q_step hA14 rfl (d_fieldAddr (wn rfl) (hA14.ev (v := (.pointer (some ⟨g3, 0, none⟩))) rfl) fo23_0 ?_)
  intro a15 hA16
  refine q_step hA16 rfl (d_load (v := (.int .i64 i.op)) (wn rfl) (hA16.ev (v := (.pointer (some ⟨g3, 0, none⟩))) rfl) one3 (m7.cell rfl) ?_)
  intro a17 hA18
  refine q_end ?_
  have hA19 : St 13 [(1, (.pointer (some ⟨g3, 0, none⟩))), (2, (.int .i64 0)), (4, (.int .i64 i.op))] a17 := hA18.cut _ (fm_cons (hA18.get 1 _ rfl) (fm_cons (hA18.get 2 _ rfl) (fm_cons (hA18.get 4 _ rfl) fm_nil)))
  refine t_norm ?_
  refine wp_block ?_
  refine wp_seq ?_
  refine wp_seq ?_
  refine wp_region_lit ?_
  rcases Bool.eq_false_or_eq_true (i.op == 1) with hb20 | hb20
  · skip
    have hq21 := eq_of_beq hb20
    refine q_step hA19 rfl (d_bin (wn rfl) (hA19.ev (v := (.int .i64 i.op)) rfl) (hA19.ev (v := (.int .i64 1)) rfl) (b_eq _ _ i.op 1 true _ hb20) ?_)
    intro a22 hA23
    refine q_step hA23 rfl (d_assign (wn rfl) (hA23.ev (v := (.bool true)) rfl) ?_)
    intro a24 hA25
    refine q_end ?_
    have hA26 : St 13 [(1, (.pointer (some ⟨g3, 0, none⟩))), (2, (.int .i64 0)), (4, (.int .i64 i.op)), (5, (.bool true))] a24 := hA25.cut _ (fm_cons (hA25.get 1 _ rfl) (fm_cons (hA25.get 2 _ rfl) (fm_cons (hA25.get 4 _ rfl) (fm_cons (hA25.get 5 _ rfl) fm_nil))))
    refine t_norm ?_
    refine c_true hA26 rfl ?_
    refine wp_skip ?_
    refine t_norm ?_
    refine c_true hA26 rfl ?_
    refine wp_seq ?_
    refine wp_region_lit ?_
    refine q_step hA26 rfl (d_fieldAddr (wn rfl) (hA26.ev (v := (.pointer (some ⟨g3, 0, none⟩))) rfl) fo23_1 ?_)
    intro a27 hA28
    refine q_step hA28 rfl (d_load (v := (.int .i64 i.dst)) (wn rfl) (hA28.ev (v := (.pointer (some ⟨g3, 1, none⟩))) rfl) one3 (m7.cell rfl) ?_)
    intro a29 hA30
    refine q_step hA30 rfl (d_assign (wn rfl) (hA30.ev (v := (.int .i64 i.dst)) rfl) ?_)
    intro a31 hA32
    refine q_end ?_
    have hA33 : St 13 [(2, (.int .i64 i.dst))] a31 := hA32.cut _ (fm_cons (hA32.get 2 _ rfl) fm_nil)
    refine t_norm ?_
    refine wp_ret ?_
    refine i_ret ?_
    refine t_ret ?_
    refine ret1 rfl hA33 (v := (.int .i64 i.dst)) rfl ?_
    exact ⟨ret_int (by simp [givesF, plainF, eq_of_beq hb20]), b9⟩
  · skip
    have hq34 := ne_of_beq hb20
    refine q_step hA19 rfl (d_bin (wn rfl) (hA19.ev (v := (.int .i64 i.op)) rfl) (hA19.ev (v := (.int .i64 1)) rfl) (b_eq _ _ i.op 1 false _ hb20) ?_)
    intro a35 hA36
    refine q_step hA36 rfl (d_assign (wn rfl) (hA36.ev (v := (.bool false)) rfl) ?_)
    intro a37 hA38
    refine q_end ?_
    have hA39 : St 13 [(1, (.pointer (some ⟨g3, 0, none⟩))), (2, (.int .i64 0)), (4, (.int .i64 i.op)), (5, (.bool false))] a37 := hA38.cut _ (fm_cons (hA38.get 1 _ rfl) (fm_cons (hA38.get 2 _ rfl) (fm_cons (hA38.get 4 _ rfl) (fm_cons (hA38.get 5 _ rfl) fm_nil))))
    refine t_norm ?_
    refine c_false hA39 rfl ?_
    refine wp_seq ?_
    refine wp_region_lit ?_
    rcases Bool.eq_false_or_eq_true (i.op == 2) with hb40 | hb40
    · skip
      have hq41 := eq_of_beq hb40
      refine q_step hA39 rfl (d_bin (wn rfl) (hA39.ev (v := (.int .i64 i.op)) rfl) (hA39.ev (v := (.int .i64 2)) rfl) (b_eq _ _ i.op 2 true _ hb40) ?_)
      intro a42 hA43
      refine q_step hA43 rfl (d_assign (wn rfl) (hA43.ev (v := (.bool true)) rfl) ?_)
      intro a44 hA45
      refine q_end ?_
      have hA46 : St 13 [(1, (.pointer (some ⟨g3, 0, none⟩))), (2, (.int .i64 0)), (4, (.int .i64 i.op)), (5, (.bool true))] a44 := hA45.cut _ (fm_cons (hA45.get 1 _ rfl) (fm_cons (hA45.get 2 _ rfl) (fm_cons (hA45.get 4 _ rfl) (fm_cons (hA45.get 5 _ rfl) fm_nil))))
      refine t_norm ?_
      refine c_true hA46 rfl ?_
      refine wp_skip ?_
      refine t_norm ?_
      refine c_true hA46 rfl ?_
      refine wp_seq ?_
      refine wp_region_lit ?_
      refine q_step hA46 rfl (d_fieldAddr (wn rfl) (hA46.ev (v := (.pointer (some ⟨g3, 0, none⟩))) rfl) fo23_1 ?_)
      intro a47 hA48
      refine q_step hA48 rfl (d_load (v := (.int .i64 i.dst)) (wn rfl) (hA48.ev (v := (.pointer (some ⟨g3, 1, none⟩))) rfl) one3 (m7.cell rfl) ?_)
      intro a49 hA50
      refine q_step hA50 rfl (d_assign (wn rfl) (hA50.ev (v := (.int .i64 i.dst)) rfl) ?_)
      intro a51 hA52
      refine q_end ?_
      have hA53 : St 13 [(2, (.int .i64 i.dst))] a51 := hA52.cut _ (fm_cons (hA52.get 2 _ rfl) fm_nil)
      refine t_norm ?_
      refine wp_ret ?_
      refine i_ret ?_
      refine t_ret ?_
      refine ret1 rfl hA53 (v := (.int .i64 i.dst)) rfl ?_
      exact ⟨ret_int (by simp [givesF, plainF, hb20, eq_of_beq hb40]), b9⟩
    · skip
      have hq54 := ne_of_beq hb40
      refine q_step hA39 rfl (d_bin (wn rfl) (hA39.ev (v := (.int .i64 i.op)) rfl) (hA39.ev (v := (.int .i64 2)) rfl) (b_eq _ _ i.op 2 false _ hb40) ?_)
      intro a55 hA56
      refine q_step hA56 rfl (d_assign (wn rfl) (hA56.ev (v := (.bool false)) rfl) ?_)
      intro a57 hA58
      refine q_end ?_
      have hA59 : St 13 [(1, (.pointer (some ⟨g3, 0, none⟩))), (2, (.int .i64 0)), (4, (.int .i64 i.op)), (5, (.bool false))] a57 := hA58.cut _ (fm_cons (hA58.get 1 _ rfl) (fm_cons (hA58.get 2 _ rfl) (fm_cons (hA58.get 4 _ rfl) (fm_cons (hA58.get 5 _ rfl) fm_nil))))
      refine t_norm ?_
      refine c_false hA59 rfl ?_
      refine wp_seq ?_
      refine wp_region_lit ?_
      rcases Bool.eq_false_or_eq_true (i.op == 3) with hb60 | hb60
      · skip
        have hq61 := eq_of_beq hb60
        refine q_step hA59 rfl (d_bin (wn rfl) (hA59.ev (v := (.int .i64 i.op)) rfl) (hA59.ev (v := (.int .i64 3)) rfl) (b_eq _ _ i.op 3 true _ hb60) ?_)
        intro a62 hA63
        refine q_step hA63 rfl (d_assign (wn rfl) (hA63.ev (v := (.bool true)) rfl) ?_)
        intro a64 hA65
        refine q_end ?_
        have hA66 : St 13 [(1, (.pointer (some ⟨g3, 0, none⟩))), (2, (.int .i64 0)), (4, (.int .i64 i.op)), (5, (.bool true))] a64 := hA65.cut _ (fm_cons (hA65.get 1 _ rfl) (fm_cons (hA65.get 2 _ rfl) (fm_cons (hA65.get 4 _ rfl) (fm_cons (hA65.get 5 _ rfl) fm_nil))))
        refine t_norm ?_
        refine c_true hA66 rfl ?_
        refine wp_skip ?_
        refine t_norm ?_
        refine c_true hA66 rfl ?_
        refine wp_seq ?_
        refine wp_region_lit ?_
        refine q_step hA66 rfl (d_fieldAddr (wn rfl) (hA66.ev (v := (.pointer (some ⟨g3, 0, none⟩))) rfl) fo23_1 ?_)
        intro a67 hA68
        refine q_step hA68 rfl (d_load (v := (.int .i64 i.dst)) (wn rfl) (hA68.ev (v := (.pointer (some ⟨g3, 1, none⟩))) rfl) one3 (m7.cell rfl) ?_)
        intro a69 hA70
        refine q_step hA70 rfl (d_assign (wn rfl) (hA70.ev (v := (.int .i64 i.dst)) rfl) ?_)
        intro a71 hA72
        refine q_end ?_
        have hA73 : St 13 [(2, (.int .i64 i.dst))] a71 := hA72.cut _ (fm_cons (hA72.get 2 _ rfl) fm_nil)
        refine t_norm ?_
        refine wp_ret ?_
        refine i_ret ?_
        refine t_ret ?_
        refine ret1 rfl hA73 (v := (.int .i64 i.dst)) rfl ?_
        exact ⟨ret_int (by simp [givesF, plainF, hb20, hb40, eq_of_beq hb60]), b9⟩
      · skip
        have hq74 := ne_of_beq hb60
        refine q_step hA59 rfl (d_bin (wn rfl) (hA59.ev (v := (.int .i64 i.op)) rfl) (hA59.ev (v := (.int .i64 3)) rfl) (b_eq _ _ i.op 3 false _ hb60) ?_)
        intro a75 hA76
        refine q_step hA76 rfl (d_assign (wn rfl) (hA76.ev (v := (.bool false)) rfl) ?_)
        intro a77 hA78
        refine q_end ?_
        have hA79 : St 13 [(1, (.pointer (some ⟨g3, 0, none⟩))), (2, (.int .i64 0)), (4, (.int .i64 i.op)), (5, (.bool false))] a77 := hA78.cut _ (fm_cons (hA78.get 1 _ rfl) (fm_cons (hA78.get 2 _ rfl) (fm_cons (hA78.get 4 _ rfl) (fm_cons (hA78.get 5 _ rfl) fm_nil))))
        refine t_norm ?_
        refine c_false hA79 rfl ?_
        refine wp_seq ?_
        refine wp_region_lit ?_
        rcases Bool.eq_false_or_eq_true (i.op == 4) with hb80 | hb80
        · skip
          have hq81 := eq_of_beq hb80
          refine q_step hA79 rfl (d_bin (wn rfl) (hA79.ev (v := (.int .i64 i.op)) rfl) (hA79.ev (v := (.int .i64 4)) rfl) (b_eq _ _ i.op 4 true _ hb80) ?_)
          intro a82 hA83
          refine q_step hA83 rfl (d_assign (wn rfl) (hA83.ev (v := (.bool true)) rfl) ?_)
          intro a84 hA85
          refine q_end ?_
          have hA86 : St 13 [(1, (.pointer (some ⟨g3, 0, none⟩))), (2, (.int .i64 0)), (4, (.int .i64 i.op)), (5, (.bool true))] a84 := hA85.cut _ (fm_cons (hA85.get 1 _ rfl) (fm_cons (hA85.get 2 _ rfl) (fm_cons (hA85.get 4 _ rfl) (fm_cons (hA85.get 5 _ rfl) fm_nil))))
          refine t_norm ?_
          refine c_true hA86 rfl ?_
          refine wp_skip ?_
          refine t_norm ?_
          refine c_true hA86 rfl ?_
          refine wp_seq ?_
          refine wp_region_lit ?_
          refine q_step hA86 rfl (d_fieldAddr (wn rfl) (hA86.ev (v := (.pointer (some ⟨g3, 0, none⟩))) rfl) fo23_1 ?_)
          intro a87 hA88
          refine q_step hA88 rfl (d_load (v := (.int .i64 i.dst)) (wn rfl) (hA88.ev (v := (.pointer (some ⟨g3, 1, none⟩))) rfl) one3 (m7.cell rfl) ?_)
          intro a89 hA90
          refine q_step hA90 rfl (d_assign (wn rfl) (hA90.ev (v := (.int .i64 i.dst)) rfl) ?_)
          intro a91 hA92
          refine q_end ?_
          have hA93 : St 13 [(2, (.int .i64 i.dst))] a91 := hA92.cut _ (fm_cons (hA92.get 2 _ rfl) fm_nil)
          refine t_norm ?_
          refine wp_ret ?_
          refine i_ret ?_
          refine t_ret ?_
          refine ret1 rfl hA93 (v := (.int .i64 i.dst)) rfl ?_
          exact ⟨ret_int (by simp [givesF, plainF, hb20, hb40, hb60, eq_of_beq hb80]), b9⟩
        · skip
          have hq94 := ne_of_beq hb80
          refine q_step hA79 rfl (d_bin (wn rfl) (hA79.ev (v := (.int .i64 i.op)) rfl) (hA79.ev (v := (.int .i64 4)) rfl) (b_eq _ _ i.op 4 false _ hb80) ?_)
          intro a95 hA96
          refine q_step hA96 rfl (d_assign (wn rfl) (hA96.ev (v := (.bool false)) rfl) ?_)
          intro a97 hA98
          refine q_end ?_
          have hA99 : St 13 [(1, (.pointer (some ⟨g3, 0, none⟩))), (2, (.int .i64 0)), (4, (.int .i64 i.op)), (5, (.bool false))] a97 := hA98.cut _ (fm_cons (hA98.get 1 _ rfl) (fm_cons (hA98.get 2 _ rfl) (fm_cons (hA98.get 4 _ rfl) (fm_cons (hA98.get 5 _ rfl) fm_nil))))
          refine t_norm ?_
          refine c_false hA99 rfl ?_
          refine wp_region_lit ?_
          rcases Bool.eq_false_or_eq_true (i.op == 6) with hb100 | hb100
          · skip
            have hq101 := eq_of_beq hb100
            refine q_step hA99 rfl (d_bin (wn rfl) (hA99.ev (v := (.int .i64 i.op)) rfl) (hA99.ev (v := (.int .i64 6)) rfl) (b_eq _ _ i.op 6 true _ hb100) ?_)
            intro a102 hA103
            refine q_step hA103 rfl (d_assign (wn rfl) (hA103.ev (v := (.bool true)) rfl) ?_)
            intro a104 hA105
            refine q_end ?_
            have hA106 : St 13 [(1, (.pointer (some ⟨g3, 0, none⟩))), (2, (.int .i64 0)), (5, (.bool true))] a104 := hA105.cut _ (fm_cons (hA105.get 1 _ rfl) (fm_cons (hA105.get 2 _ rfl) (fm_cons (hA105.get 5 _ rfl) fm_nil)))
            refine t_norm ?_
            refine c_true hA106 rfl ?_
            refine wp_seq ?_
            refine wp_region_lit ?_
            refine q_step hA106 rfl (d_fieldAddr (wn rfl) (hA106.ev (v := (.pointer (some ⟨g3, 0, none⟩))) rfl) fo23_1 ?_)
            intro a107 hA108
            refine q_step hA108 rfl (d_load (v := (.int .i64 i.dst)) (wn rfl) (hA108.ev (v := (.pointer (some ⟨g3, 1, none⟩))) rfl) one3 (m7.cell rfl) ?_)
            intro a109 hA110
            refine q_step hA110 rfl (d_assign (wn rfl) (hA110.ev (v := (.int .i64 i.dst)) rfl) ?_)
            intro a111 hA112
            refine q_end ?_
            have hA113 : St 13 [(2, (.int .i64 i.dst))] a111 := hA112.cut _ (fm_cons (hA112.get 2 _ rfl) fm_nil)
            refine t_norm ?_
            refine wp_ret ?_
            refine i_ret ?_
            refine t_ret ?_
            refine ret1 rfl hA113 (v := (.int .i64 i.dst)) rfl ?_
            exact ⟨ret_int (by simp [givesF, plainF, hb20, hb40, hb60, hb80, eq_of_beq hb100]), b9⟩
          · skip
            have hq114 := ne_of_beq hb100
            refine q_step hA99 rfl (d_bin (wn rfl) (hA99.ev (v := (.int .i64 i.op)) rfl) (hA99.ev (v := (.int .i64 6)) rfl) (b_eq _ _ i.op 6 false _ hb100) ?_)
            intro a115 hA116
            refine q_step hA116 rfl (d_assign (wn rfl) (hA116.ev (v := (.bool false)) rfl) ?_)
            intro a117 hA118
            refine q_end ?_
            have hA119 : St 13 [(1, (.pointer (some ⟨g3, 0, none⟩))), (2, (.int .i64 0)), (5, (.bool false))] a117 := hA118.cut _ (fm_cons (hA118.get 1 _ rfl) (fm_cons (hA118.get 2 _ rfl) (fm_cons (hA118.get 5 _ rfl) fm_nil)))
            refine t_norm ?_
            refine c_false hA119 rfl ?_
            refine wp_skip ?_
            refine i_norm ?_
            refine t_norm ?_
            refine wp_seq ?_
            refine wp_region_lit ?_
            refine q_step hA119 rfl (d_assign (wn rfl) (hA119.ev (v := (.int .i64 (-1))) rfl) ?_)
            intro a120 hA121
            refine q_end ?_
            have hA122 : St 13 [(2, (.int .i64 (-1)))] a120 := hA121.cut _ (fm_cons (hA121.get 2 _ rfl) fm_nil)
            refine t_norm ?_
            refine wp_ret ?_
            refine ret1 rfl hA122 (v := (.int .i64 (-1))) rfl ?_
            exact ⟨ret_int (by simp [givesF, plainF, hb20, hb40, hb60, hb80, hb100]), b9⟩
set_option maxHeartbeats 4000000 in
set_option maxRecDepth 4000 in
theorem gives_any (i : Ins) (w : World) : Calls Try.prog 18 #[.agg (insC i)] w fun e w' => e = .returned (.int .i64 (givesF i)) ∧ Grow w w' := by
  have b0 : Below w.heap.size w w := Below.refl _ _
  refine enter (n := 6) Try.func18 rfl rfl (Nat.le_of_ble_eq_true rfl) ?_
  intro a1 hA2
  refine wp_seq ?_
  refine wp_region_lit ?_
  refine q_step hA2 rfl (d_box (wn rfl) (hA2.ev (v := (.agg (insC i))) rfl) ?_)
  intro g3 w4 eg5 hG6 (m7 : Blk w4 g3 (insC i) 23)
  have ge8 : w.heap.size ≤ g3 := eg5 ▸ b0.size
  have b9 := below_grow b0 hG6 b0.size
  intro a10 hA11
  refine q_step hA11 rfl (d_assign (wn rfl) (hA11.ev (v := (.int .i64 0)) rfl) ?_)
  intro a12 hA13
  refine q_end ?_
  have hA14 : St 6 [(1, (.pointer (some ⟨g3, 0, none⟩))), (2, (.int .i64 0))] a12 := hA13.cut _ (fm_cons (hA13.get 1 _ rfl) (fm_cons (hA13.get 2 _ rfl) fm_nil))
  refine t_norm ?_
  refine wp_seq ?_
  refine wp_region_lit ?_
  refine q_step hA14 rfl (d_loadRow (cs := (insC i)) (wn rfl) (hA14.ev (v := (.pointer (some ⟨g3, 0, none⟩))) rfl) row23 m7 ?_)
  intro a15 hA16
  refine q_step hA16 rfl (d_call (wn rfl) ent28 (map1 (hA16.ev (v := (.agg (insC i))) rfl)) (plain_any i w4) ?_)
  rintro e20 w17 ⟨he19, hG18⟩
  have m21 := m7.grow hG18
  have b22 := below_grow b9 hG18 b9.size
  refine ⟨(.agg (insC (plainF i))), he19, ?_⟩
  intro a23 hA24
  refine q_step hA24 rfl (d_field (v := (.int .i64 ((plainF i).dst))) (wn rfl) (hA24.ev (v := (.agg (insC (plainF i)))) rfl) fi23_1 one3 rfl ?_)
  intro a25 hA26
  refine q_step hA26 rfl (d_assign (wn rfl) (hA26.ev (v := (.int .i64 ((plainF i).dst))) rfl) ?_)
  intro a27 hA28
  refine q_end ?_
  have hA29 : St 6 [(2, (.int .i64 ((plainF i).dst)))] a27 := hA28.cut _ (fm_cons (hA28.get 2 _ rfl) fm_nil)
  refine t_norm ?_
  refine wp_ret ?_
  refine ret1 rfl hA29 (v := (.int .i64 ((plainF i).dst))) rfl ?_
  exact ⟨ret_int (by simp [givesF, ]), b22⟩
set_option maxHeartbeats 4000000 in
set_option maxRecDepth 4000 in
theorem rright_any (i : Ins) (p q : Int) (w : World) : Calls Try.prog 10 #[.agg (insC i), .int .i64 p, .int .i64 q] w fun e w' => e = .returned (.int .i64 (rightR i p q)) ∧ Grow w w' := by
  have b0 : Below w.heap.size w w := Below.refl _ _
  refine enter (n := 36) Try.func10 rfl rfl (Nat.le_of_ble_eq_true rfl) ?_
  intro a1 hA2
  refine wp_seq ?_
  refine wp_region_lit ?_
  refine q_step hA2 rfl (d_box (wn rfl) (hA2.ev (v := (.agg (insC i))) rfl) ?_)
  intro g3 w4 eg5 hG6 (m7 : Blk w4 g3 (insC i) 23)
  have ge8 : w.heap.size ≤ g3 := eg5 ▸ b0.size
  have b9 := below_grow b0 hG6 b0.size
  intro a10 hA11
  refine q_step hA11 rfl (d_assign (wn rfl) (hA11.ev (v := (.int .i64 0)) rfl) ?_)
  intro a12 hA13
  refine q_end ?_
  have hA14 : St 36 [(1, (.int .i64 p)), (2, (.int .i64 q)), (3, (.pointer (some ⟨g3, 0, none⟩))), (6, (.int .i64 0))] a12 := hA13.cut _ (fm_cons (hA13.get 1 _ rfl) (fm_cons (hA13.get 2 _ rfl) (fm_cons (hA13.get 3 _ rfl) (fm_cons (hA13.get 6 _ rfl) fm_nil))))
  refine t_norm ?_
  refine wp_seq ?_
  refine wp_region_lit ?_
  refine q_step hA14 rfl (d_loadRow (cs := (insC i)) (wn rfl) (hA14.ev (v := (.pointer (some ⟨g3, 0, none⟩))) rfl) row23 m7 ?_)
  intro a15 hA16
  refine q_step hA16 rfl (d_call (wn rfl) ent31 (map1 (hA16.ev (v := (.agg (insC i))) rfl)) (bare_any i w4) ?_)
  rintro e20 w17 ⟨he19, hG18⟩
  have m21 := m7.grow hG18
  have b22 := below_grow b9 hG18 b9.size
  refine ⟨(.tuple #[(.agg (insC (bareF i))), (.bool (fineB i))]), he19, ?_⟩
  intro a23 hA24
  refine q_step hA24 rfl (d_move (wn rfl) (hA24.ev (v := (.tuple #[(.agg (insC (bareF i))), (.bool (fineB i))])) rfl) ?_)
  intro a25 hA26
  refine q_step hA26 rfl (d_extract (v := (.agg (insC (bareF i)))) (wn rfl) (hA26.ev (v := (.tuple #[(.agg (insC (bareF i))), (.bool (fineB i))])) rfl) rfl ?_)
  intro a27 hA28
  refine q_step hA28 rfl (d_extract (v := (.bool (fineB i))) (wn rfl) (hA28.ev (v := (.tuple #[(.agg (insC (bareF i))), (.bool (fineB i))])) rfl) rfl ?_)
  intro a29 hA30
  refine q_step hA30 rfl (d_alloc (wn rfl) zero23 ?_)
  intro g31 w32 eg33 hG34 (m35 : Blk w32 g31 #[.int .i64 0, .int .i64 0, .int .i64 0, .int .i64 0, .int .i64 0, .int .i64 0, .int .i64 0, .int .i64 0, .int .i64 0, .int .i64 0, .bool false, .bool false, .bool false, .int .i64 0, .int .i64 0, .int .i64 0, .bool false] 23)
  have ge36 : w.heap.size ≤ g31 := eg33 ▸ b22.size
  have n37 : g3 ≠ g31 := fun h => Nat.lt_irrefl _ ((h.trans eg33) ▸ m21.lt)
  have m38 := m21.grow hG34
  have b39 := below_grow b22 hG34 b22.size
  intro a40 hA41
  refine q_step hA41 rfl (d_storeRow (wn rfl) (hA41.ev (v := (.pointer (some ⟨g31, 0, none⟩))) rfl) (hA41.ev (v := (.agg (insC (bareF i)))) rfl) row23 m35 rfl rfl ?_)
  intro w42 hU43 (m44 : Blk w42 g31 (insC (bareF i)) 23)
  have m45 := m38.upd hU43 n37
  have b46 := hU43.below b39 ge36
  intro a47 hA48
  refine q_step hA48 rfl (d_assign (wn rfl) (hA48.ev (v := (.bool (fineB i))) rfl) ?_)
  intro a49 hA50
  refine q_end ?_
  have hA51 : St 36 [(1, (.int .i64 p)), (2, (.int .i64 q)), (3, (.pointer (some ⟨g3, 0, none⟩))), (6, (.int .i64 0)), (7, (.pointer (some ⟨g31, 0, none⟩))), (8, (.bool (fineB i)))] a49 := hA50.cut _ (fm_cons (hA50.get 1 _ rfl) (fm_cons (hA50.get 2 _ rfl) (fm_cons (hA50.get 3 _ rfl) (fm_cons (hA50.get 6 _ rfl) (fm_cons (hA50.get 7 _ rfl) (fm_cons (hA50.get 8 _ rfl) fm_nil))))))
  refine t_norm ?_
  refine wp_seq ?_
  refine wp_seq ?_
  refine wp_region_lit ?_
  refine q_step hA51 rfl (d_move (wn rfl) (hA51.ev (v := (.bool (fineB i))) rfl) ?_)
  intro a52 hA53
  rcases Bool.eq_false_or_eq_true (fineB i) with hb54 | hb54
  · skip
    have hA56 : St 36 [(1, (.int .i64 p)), (2, (.int .i64 q)), (3, (.pointer (some ⟨g3, 0, none⟩))), (6, (.int .i64 0)), (7, (.pointer (some ⟨g31, 0, none⟩))), (8, (.bool (fineB i))), (14, (.bool true))] a52 := hA53.cut _ (fm_cons (hA53.get 1 _ rfl) (fm_cons (hA53.get 2 _ rfl) (fm_cons (hA53.get 3 _ rfl) (fm_cons (hA53.get 6 _ rfl) (fm_cons (hA53.get 7 _ rfl) (fm_cons (hA53.get 8 _ rfl) (fm_cons ((hA53.get 14 _ rfl).trans (congrArg Value.bool hb54)) fm_nil)))))))
    refine q_step hA56 rfl (d_not (wn rfl) (hA56.ev (v := (.bool true)) rfl) ?_)
    intro a57 hA58
    refine q_step hA58 rfl (d_move (wn rfl) (hA58.ev (v := (.bool false)) rfl) ?_)
    intro a59 hA60
    refine q_step hA60 rfl (d_loadRow (cs := (insC (bareF i))) (wy rfl rfl (hA60.get 16 _ rfl)) (hA60.ev (v := (.pointer (some ⟨g31, 0, none⟩))) rfl) row23 m44 ?_)
    intro a61 hA62
    refine q_step hA62 rfl (d_build (cs := #[.int .i64 0, .int .i64 (-1), .int .i64 (-1), .int .i64 (-1), .int .i64 0, .int .i64 0, .int .i64 0, .int .i64 (-1), .int .i64 0, .int .i64 0, .bool false, .bool false, .bool false, .int .i64 0, .int .i64 0, .int .i64 0, .bool false]) (wy rfl rfl (hA62.get 16 _ rfl)) (bp_of (bq_cons (hA62.ev (v := (.int .i64 (-1))) rfl) (bq_cons (hA62.ev (v := (.int .i64 (-1))) rfl) (bq_cons (hA62.ev (v := (.int .i64 (-1))) rfl) (bq_cons (hA62.ev (v := (.int .i64 (-1))) rfl) bq_nil))))) zero23 places23 (by kernel_rfl) ?_)
    intro a63 hA64
    rcases Bool.eq_false_or_eq_true (insEq (bareF i) blank) with hb65 | hb65
    · skip
      refine q_step hA64 rfl (d_bin (u := .agg (insC (bareF i))) (v := .agg (insC blank)) (wy rfl rfl (hA64.get 16 _ rfl)) (hA64.ev (v := (.agg (insC (bareF i)))) rfl) (hA64.ev (v := (.agg #[.int .i64 0, .int .i64 (-1), .int .i64 (-1), .int .i64 (-1), .int .i64 0, .int .i64 0, .int .i64 0, .int .i64 (-1), .int .i64 0, .int .i64 0, .bool false, .bool false, .bool false, .int .i64 0, .int .i64 0, .int .i64 0, .bool false])) rfl) (ne_ins (bareF i) blank _ _ _ false (notof hb65)) ?_)
      intro a67 hA68
      refine q_step hA68 rfl (d_pickF (wn rfl) (hA68.ev (v := (.bool false)) rfl) (hA68.ev (v := (.bool false)) rfl) ?_)
      intro a69 hA70
      refine q_end ?_
      have hA71 : St 36 [(1, (.int .i64 p)), (2, (.int .i64 q)), (3, (.pointer (some ⟨g3, 0, none⟩))), (6, (.int .i64 0)), (20, (.bool false))] a69 := hA70.cut _ (fm_cons (hA70.get 1 _ rfl) (fm_cons (hA70.get 2 _ rfl) (fm_cons (hA70.get 3 _ rfl) (fm_cons (hA70.get 6 _ rfl) (fm_cons (hA70.get 20 _ rfl) fm_nil)))))
      refine t_norm ?_
      refine c_false hA71 rfl ?_
      refine wp_skip ?_
      refine t_norm ?_
      refine wp_seq ?_
      refine wp_seq ?_
      refine wp_region_lit ?_
      refine q_step hA71 rfl (d_fieldAddr (wn rfl) (hA71.ev (v := (.pointer (some ⟨g3, 0, none⟩))) rfl) fo23_0 ?_)
      intro a72 hA73
      refine q_step hA73 rfl (d_load (v := (.int .i64 i.op)) (wn rfl) (hA73.ev (v := (.pointer (some ⟨g3, 0, none⟩))) rfl) one3 (m45.cell rfl) ?_)
      intro a74 hA75
      rcases Bool.eq_false_or_eq_true (i.op == 9) with hb76 | hb76
      · skip
        have hq77 := eq_of_beq hb76
        refine q_step hA75 rfl (d_bin (wn rfl) (hA75.ev (v := (.int .i64 i.op)) rfl) (hA75.ev (v := (.int .i64 9)) rfl) (b_eq _ _ i.op 9 true _ hb76) ?_)
        intro a78 hA79
        refine q_step hA79 rfl (d_move (wn rfl) (hA79.ev (v := (.bool true)) rfl) ?_)
        intro a80 hA81
        refine q_step hA81 rfl (d_fieldAddr (wy rfl rfl (hA81.get 24 _ rfl)) (hA81.ev (v := (.pointer (some ⟨g3, 0, none⟩))) rfl) fo23_15 ?_)
        intro a82 hA83
        refine q_step hA83 rfl (d_load (v := (.int .i64 i.to)) (wy rfl rfl (hA83.get 24 _ rfl)) (hA83.ev (v := (.pointer (some ⟨g3, 15, none⟩))) rfl) one3 (m45.cell rfl) ?_)
        intro a84 hA85
        refine q_step hA85 rfl (d_move (wy rfl rfl (hA85.get 24 _ rfl)) (hA85.ev (v := (.int .i64 p)) rfl) ?_)
        intro a86 hA87
        rcases Bool.eq_false_or_eq_true (decide (i.to ≤ p)) with hb88 | hb88
        · skip
          have hq89 := of_decide_eq_true hb88
          refine q_step hA87 rfl (d_bin (wy rfl rfl (hA87.get 24 _ rfl)) (hA87.ev (v := (.int .i64 i.to)) rfl) (hA87.ev (v := (.int .i64 p)) rfl) (b_le _ _ i.to p true _ hb88) ?_)
          intro a90 hA91
          refine q_step hA91 rfl (d_move (wy rfl rfl (hA91.get 24 _ rfl)) (hA91.ev (v := (.bool true)) rfl) ?_)
          intro a92 hA93
          refine q_step hA93 rfl (does_not (wno rfl rfl (.inl (hA93.get 29 _ rfl))) ?_)
          intro a94 hA95
          refine q_step hA95 rfl (does_not (wno rfl rfl (.inl (hA95.get 29 _ rfl))) ?_)
          intro a96 hA97
          refine q_step hA97 rfl (does_not (wno rfl rfl (.inl (hA97.get 29 _ rfl))) ?_)
          intro a98 hA99
          refine q_step hA99 rfl (does_not (wno rfl rfl (.inl (hA99.get 29 _ rfl))) ?_)
          intro a100 hA101
          refine q_step hA101 rfl (d_pickT (wy rfl rfl (hA101.get 24 _ rfl)) (hA101.ev (v := (.bool true)) rfl) (hA101.ev (v := (.bool true)) rfl) ?_)
          intro a102 hA103
          refine q_step hA103 rfl (d_pickT (wn rfl) (hA103.ev (v := (.bool true)) rfl) (hA103.ev (v := (.bool true)) rfl) ?_)
          intro a104 hA105
          refine q_end ?_
          have hA106 : St 36 [(6, (.int .i64 0)), (35, (.bool true))] a104 := hA105.cut _ (fm_cons (hA105.get 6 _ rfl) (fm_cons (hA105.get 35 _ rfl) fm_nil))
          refine t_norm ?_
          refine c_true hA106 rfl ?_
          refine wp_seq ?_
          refine wp_region_lit ?_
          refine q_step hA106 rfl (d_assign (wn rfl) (hA106.ev (v := (.int .i64 35)) rfl) ?_)
          intro a107 hA108
          refine q_end ?_
          have hA109 : St 36 [(6, (.int .i64 35))] a107 := hA108.cut _ (fm_cons (hA108.get 6 _ rfl) fm_nil)
          refine t_norm ?_
          refine wp_ret ?_
          refine t_ret ?_
          refine ret1 rfl hA109 (v := (.int .i64 35)) rfl ?_
          exact ⟨ret_int (by simp [rightR, ← right_same, hb54, hb65, eq_of_beq hb76, hb88]), b46⟩
        · skip
          have hq110 := of_decide_eq_false hb88
          refine q_step hA87 rfl (d_bin (wy rfl rfl (hA87.get 24 _ rfl)) (hA87.ev (v := (.int .i64 i.to)) rfl) (hA87.ev (v := (.int .i64 p)) rfl) (b_le _ _ i.to p false _ hb88) ?_)
          intro a111 hA112
          refine q_step hA112 rfl (d_move (wy rfl rfl (hA112.get 24 _ rfl)) (hA112.ev (v := (.bool false)) rfl) ?_)
          intro a113 hA114
          refine q_step hA114 rfl (d_fieldAddr (wy rfl rfl (hA114.get 29 _ rfl)) (hA114.ev (v := (.pointer (some ⟨g3, 0, none⟩))) rfl) fo23_15 ?_)
          intro a115 hA116
          refine q_step hA116 rfl (d_load (v := (.int .i64 i.to)) (wy rfl rfl (hA116.get 29 _ rfl)) (hA116.ev (v := (.pointer (some ⟨g3, 15, none⟩))) rfl) one3 (m45.cell rfl) ?_)
          intro a117 hA118
          refine q_step hA118 rfl (d_move (wy rfl rfl (hA118.get 29 _ rfl)) (hA118.ev (v := (.int .i64 q)) rfl) ?_)
          intro a119 hA120
          rcases Bool.eq_false_or_eq_true (decide (i.to > q)) with hb121 | hb121
          · skip
            have hq122 := of_decide_eq_true hb121
            refine q_step hA120 rfl (d_bin (wy rfl rfl (hA120.get 29 _ rfl)) (hA120.ev (v := (.int .i64 i.to)) rfl) (hA120.ev (v := (.int .i64 q)) rfl) (b_gt _ _ i.to q true _ hb121) ?_)
            intro a123 hA124
            refine q_step hA124 rfl (d_pickF (wy rfl rfl (hA124.get 24 _ rfl)) (hA124.ev (v := (.bool false)) rfl) (hA124.ev (v := (.bool true)) rfl) ?_)
            intro a125 hA126
            refine q_step hA126 rfl (d_pickT (wn rfl) (hA126.ev (v := (.bool true)) rfl) (hA126.ev (v := (.bool true)) rfl) ?_)
            intro a127 hA128
            refine q_end ?_
            have hA129 : St 36 [(6, (.int .i64 0)), (35, (.bool true))] a127 := hA128.cut _ (fm_cons (hA128.get 6 _ rfl) (fm_cons (hA128.get 35 _ rfl) fm_nil))
            refine t_norm ?_
            refine c_true hA129 rfl ?_
            refine wp_seq ?_
            refine wp_region_lit ?_
            refine q_step hA129 rfl (d_assign (wn rfl) (hA129.ev (v := (.int .i64 35)) rfl) ?_)
            intro a130 hA131
            refine q_end ?_
            have hA132 : St 36 [(6, (.int .i64 35))] a130 := hA131.cut _ (fm_cons (hA131.get 6 _ rfl) fm_nil)
            refine t_norm ?_
            refine wp_ret ?_
            refine t_ret ?_
            refine ret1 rfl hA132 (v := (.int .i64 35)) rfl ?_
            exact ⟨ret_int (by simp [rightR, ← right_same, hb54, hb65, eq_of_beq hb76, hb88, hb121]), b46⟩
          · skip
            have hq133 := of_decide_eq_false hb121
            refine q_step hA120 rfl (d_bin (wy rfl rfl (hA120.get 29 _ rfl)) (hA120.ev (v := (.int .i64 i.to)) rfl) (hA120.ev (v := (.int .i64 q)) rfl) (b_gt _ _ i.to q false _ hb121) ?_)
            intro a134 hA135
            refine q_step hA135 rfl (d_pickF (wy rfl rfl (hA135.get 24 _ rfl)) (hA135.ev (v := (.bool false)) rfl) (hA135.ev (v := (.bool false)) rfl) ?_)
            intro a136 hA137
            refine q_step hA137 rfl (d_pickT (wn rfl) (hA137.ev (v := (.bool true)) rfl) (hA137.ev (v := (.bool false)) rfl) ?_)
            intro a138 hA139
            refine q_end ?_
            have hA140 : St 36 [(6, (.int .i64 0)), (35, (.bool false))] a138 := hA139.cut _ (fm_cons (hA139.get 6 _ rfl) (fm_cons (hA139.get 35 _ rfl) fm_nil))
            refine t_norm ?_
            refine c_false hA140 rfl ?_
            refine wp_skip ?_
            refine t_norm ?_
            refine wp_seq ?_
            refine wp_region_lit ?_
            refine q_step hA140 rfl (d_assign (wn rfl) (hA140.ev (v := (.int .i64 0)) rfl) ?_)
            intro a141 hA142
            refine q_end ?_
            have hA143 : St 36 [(6, (.int .i64 0))] a141 := hA142.cut _ (fm_cons (hA142.get 6 _ rfl) fm_nil)
            refine t_norm ?_
            refine wp_ret ?_
            refine ret1 rfl hA143 (v := (.int .i64 0)) rfl ?_
            exact ⟨ret_int (by simp [rightR, ← right_same, hb54, hb65, eq_of_beq hb76, hb88, hb121]), b46⟩
      · skip
        have hq144 := ne_of_beq hb76
        refine q_step hA75 rfl (d_bin (wn rfl) (hA75.ev (v := (.int .i64 i.op)) rfl) (hA75.ev (v := (.int .i64 9)) rfl) (b_eq _ _ i.op 9 false _ hb76) ?_)
        intro a145 hA146
        refine q_step hA146 rfl (d_move (wn rfl) (hA146.ev (v := (.bool false)) rfl) ?_)
        intro a147 hA148
        refine q_step hA148 rfl (does_not (wno rfl rfl (.inl (hA148.get 24 _ rfl))) ?_)
        intro a149 hA150
        refine q_step hA150 rfl (does_not (wno rfl rfl (.inl (hA150.get 24 _ rfl))) ?_)
        intro a151 hA152
        refine q_step hA152 rfl (does_not (wno rfl rfl (.inl (hA152.get 24 _ rfl))) ?_)
        intro a153 hA154
        refine q_step hA154 rfl (does_not (wno rfl rfl (.inl (hA154.get 24 _ rfl))) ?_)
        intro a155 hA156
        refine q_step hA156 rfl (does_not (wno rfl rfl (.inl (hA156.get 24 _ rfl))) ?_)
        intro a157 hA158
        refine q_step hA158 rfl (does_not (wno rfl rfl (.inr (hA158.get 29 _ rfl))) ?_)
        intro a159 hA160
        refine q_step hA160 rfl (does_not (wno rfl rfl (.inr (hA160.get 29 _ rfl))) ?_)
        intro a161 hA162
        refine q_step hA162 rfl (does_not (wno rfl rfl (.inr (hA162.get 29 _ rfl))) ?_)
        intro a163 hA164
        refine q_step hA164 rfl (does_not (wno rfl rfl (.inr (hA164.get 29 _ rfl))) ?_)
        intro a165 hA166
        refine q_step hA166 rfl (does_not (wno rfl rfl (.inl (hA166.get 24 _ rfl))) ?_)
        intro a167 hA168
        refine q_step hA168 rfl (d_pickF (wn rfl) (hA168.ev (v := (.bool false)) rfl) (hA168.ev (v := (.bool false)) rfl) ?_)
        intro a169 hA170
        refine q_end ?_
        have hA171 : St 36 [(6, (.int .i64 0)), (35, (.bool false))] a169 := hA170.cut _ (fm_cons (hA170.get 6 _ rfl) (fm_cons (hA170.get 35 _ rfl) fm_nil))
        refine t_norm ?_
        refine c_false hA171 rfl ?_
        refine wp_skip ?_
        refine t_norm ?_
        refine wp_seq ?_
        refine wp_region_lit ?_
        refine q_step hA171 rfl (d_assign (wn rfl) (hA171.ev (v := (.int .i64 0)) rfl) ?_)
        intro a172 hA173
        refine q_end ?_
        have hA174 : St 36 [(6, (.int .i64 0))] a172 := hA173.cut _ (fm_cons (hA173.get 6 _ rfl) fm_nil)
        refine t_norm ?_
        refine wp_ret ?_
        refine ret1 rfl hA174 (v := (.int .i64 0)) rfl ?_
        exact ⟨ret_int (by simp [rightR, ← right_same, hb54, hb65, hb76]), b46⟩
    · skip
      refine q_step hA64 rfl (d_bin (u := .agg (insC (bareF i))) (v := .agg (insC blank)) (wy rfl rfl (hA64.get 16 _ rfl)) (hA64.ev (v := (.agg (insC (bareF i)))) rfl) (hA64.ev (v := (.agg #[.int .i64 0, .int .i64 (-1), .int .i64 (-1), .int .i64 (-1), .int .i64 0, .int .i64 0, .int .i64 0, .int .i64 (-1), .int .i64 0, .int .i64 0, .bool false, .bool false, .bool false, .int .i64 0, .int .i64 0, .int .i64 0, .bool false])) rfl) (ne_ins (bareF i) blank _ _ _ true (notof hb65)) ?_)
      intro a176 hA177
      refine q_step hA177 rfl (d_pickF (wn rfl) (hA177.ev (v := (.bool false)) rfl) (hA177.ev (v := (.bool true)) rfl) ?_)
      intro a178 hA179
      refine q_end ?_
      have hA180 : St 36 [(1, (.int .i64 p)), (2, (.int .i64 q)), (3, (.pointer (some ⟨g3, 0, none⟩))), (6, (.int .i64 0)), (20, (.bool true))] a178 := hA179.cut _ (fm_cons (hA179.get 1 _ rfl) (fm_cons (hA179.get 2 _ rfl) (fm_cons (hA179.get 3 _ rfl) (fm_cons (hA179.get 6 _ rfl) (fm_cons (hA179.get 20 _ rfl) fm_nil)))))
      refine t_norm ?_
      refine c_true hA180 rfl ?_
      refine wp_seq ?_
      refine wp_region_lit ?_
      refine q_step hA180 rfl (d_assign (wn rfl) (hA180.ev (v := (.int .i64 34)) rfl) ?_)
      intro a181 hA182
      refine q_end ?_
      have hA183 : St 36 [(1, (.int .i64 p)), (2, (.int .i64 q)), (3, (.pointer (some ⟨g3, 0, none⟩))), (6, (.int .i64 34))] a181 := hA182.cut _ (fm_cons (hA182.get 1 _ rfl) (fm_cons (hA182.get 2 _ rfl) (fm_cons (hA182.get 3 _ rfl) (fm_cons (hA182.get 6 _ rfl) fm_nil))))
      refine t_norm ?_
      refine wp_ret ?_
      refine t_ret ?_
      refine ret1 rfl hA183 (v := (.int .i64 34)) rfl ?_
      exact ⟨ret_int (by simp [rightR, ← right_same, hb54, hb65]), b46⟩
  · skip
    have hA185 : St 36 [(1, (.int .i64 p)), (2, (.int .i64 q)), (3, (.pointer (some ⟨g3, 0, none⟩))), (6, (.int .i64 0)), (7, (.pointer (some ⟨g31, 0, none⟩))), (8, (.bool (fineB i))), (14, (.bool false))] a52 := hA53.cut _ (fm_cons (hA53.get 1 _ rfl) (fm_cons (hA53.get 2 _ rfl) (fm_cons (hA53.get 3 _ rfl) (fm_cons (hA53.get 6 _ rfl) (fm_cons (hA53.get 7 _ rfl) (fm_cons (hA53.get 8 _ rfl) (fm_cons ((hA53.get 14 _ rfl).trans (congrArg Value.bool hb54)) fm_nil)))))))
    refine q_step hA185 rfl (d_not (wn rfl) (hA185.ev (v := (.bool false)) rfl) ?_)
    intro a186 hA187
    refine q_step hA187 rfl (d_move (wn rfl) (hA187.ev (v := (.bool true)) rfl) ?_)
    intro a188 hA189
    refine q_step hA189 rfl (does_not (wno rfl rfl (.inl (hA189.get 16 _ rfl))) ?_)
    intro a190 hA191
    refine q_step hA191 rfl (does_not (wno rfl rfl (.inl (hA191.get 16 _ rfl))) ?_)
    intro a192 hA193
    refine q_step hA193 rfl (does_not (wno rfl rfl (.inl (hA193.get 16 _ rfl))) ?_)
    intro a194 hA195
    refine q_step hA195 rfl (d_pickT (wn rfl) (hA195.ev (v := (.bool true)) rfl) (hA195.ev (v := (.bool true)) rfl) ?_)
    intro a196 hA197
    refine q_end ?_
    have hA198 : St 36 [(1, (.int .i64 p)), (2, (.int .i64 q)), (3, (.pointer (some ⟨g3, 0, none⟩))), (6, (.int .i64 0)), (20, (.bool true))] a196 := hA197.cut _ (fm_cons (hA197.get 1 _ rfl) (fm_cons (hA197.get 2 _ rfl) (fm_cons (hA197.get 3 _ rfl) (fm_cons (hA197.get 6 _ rfl) (fm_cons (hA197.get 20 _ rfl) fm_nil)))))
    refine t_norm ?_
    refine c_true hA198 rfl ?_
    refine wp_seq ?_
    refine wp_region_lit ?_
    refine q_step hA198 rfl (d_assign (wn rfl) (hA198.ev (v := (.int .i64 34)) rfl) ?_)
    intro a199 hA200
    refine q_end ?_
    have hA201 : St 36 [(1, (.int .i64 p)), (2, (.int .i64 q)), (3, (.pointer (some ⟨g3, 0, none⟩))), (6, (.int .i64 34))] a199 := hA200.cut _ (fm_cons (hA200.get 1 _ rfl) (fm_cons (hA200.get 2 _ rfl) (fm_cons (hA200.get 3 _ rfl) (fm_cons (hA200.get 6 _ rfl) fm_nil))))
    refine t_norm ?_
    refine wp_ret ?_
    refine t_ret ?_
    refine ret1 rfl hA201 (v := (.int .i64 34)) rfl ?_
    exact ⟨ret_int (by simp [rightR, ← right_same, hb54]), b46⟩
end Go.Proofs.Ytlhompedcphnnaa
