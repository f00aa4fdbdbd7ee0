/- ints tells whether two rows of numbers are the same. -/
import Derived.Test.YtlhompedcphnnaaUInts0
namespace Go.Proofs.Ytlhompedcphnnaa
open Go.RowKit
set_option linter.unusedSimpArgs false
set_option linter.unusedVariables false

set_option maxHeartbeats 4000000 in
set_option maxRecDepth 4000 in
theorem ints_any (l m : List Int) (va vb : Value) (w : World) (hsa : Sl intE 1 w.heap.size w va l) (hsb : Sl intE 1 w.heap.size w vb m) (hll : l.length ≤ 1000000) : Calls Try.prog 15 #[va, vb] w fun e w' => e = .returned (.bool (decide (l = m))) ∧ Grow w w' := by
  have b0 : Below w.heap.size w w := Below.refl _ _
  refine enter (n := 26) Try.func15 rfl rfl (Nat.le_of_ble_eq_true rfl) ?_
  intro a1 hA2
  refine wp_seq ?_
  refine wp_region_lit ?_
  refine q_step hA2 rfl (d_assign (wn rfl) (hA2.ev (v := (.bool false)) rfl) ?_)
  intro a3 hA4
  refine q_end ?_
  have hA5 : St 26 [(0, va), (1, vb), (4, (.bool false))] a3 := hA4.cut _ (fm_cons (hA4.get 0 _ rfl) (fm_cons (hA4.get 1 _ rfl) (fm_cons (hA4.get 4 _ rfl) fm_nil)))
  refine t_norm ?_
  refine wp_seq ?_
  refine wp_seq ?_
  refine wp_region_lit ?_
  refine q_step hA5 rfl (d_move (wn rfl) (hA5.ev (v := va) rfl) ?_)
  intro a6 hA7
  refine q_step hA7 rfl (d_len (n := l.length) (wn rfl) (hA7.ev (v := va) rfl) slc30 hsa.form ?_)
  intro a8 hA9
  refine q_step hA9 rfl (d_move (wn rfl) (hA9.ev (v := vb) rfl) ?_)
  intro a10 hA11
  refine q_step hA11 rfl (d_len (n := m.length) (wn rfl) (hA11.ev (v := vb) rfl) slc30 hsb.form ?_)
  intro a12 hA13
  rcases Bool.eq_false_or_eq_true (((l.length : Nat) : Int) == ((m.length : Nat) : Int)) with hb14 | hb14
  · skip
    have hq15 := eq_of_beq hb14
    refine q_step hA13 rfl (d_bin (wn rfl) (hA13.ev (v := (.int .i64 ((l.length : Nat) : Int))) rfl) (hA13.ev (v := (.int .i64 ((m.length : Nat) : Int))) rfl) (b_ne _ _ ((l.length : Nat) : Int) ((m.length : Nat) : Int) false _ (notof hb14)) ?_)
    intro a16 hA17
    refine q_end ?_
    have hA18 : St 26 [(0, va), (1, vb), (4, (.bool false)), (10, (.bool false))] a16 := hA17.cut _ (fm_cons (hA17.get 0 _ rfl) (fm_cons (hA17.get 1 _ rfl) (fm_cons (hA17.get 4 _ rfl) (fm_cons (hA17.get 10 _ rfl) fm_nil))))
    refine t_norm ?_
    refine c_false hA18 rfl ?_
    refine wp_skip ?_
    refine t_norm ?_
    refine wp_seq ?_
    refine wp_seq ?_
    refine wp_region_lit ?_
    refine q_step hA18 rfl (d_assign (wn rfl) (hA18.ev (v := (.int .i64 0)) rfl) ?_)
    intro a19 hA20
    refine q_end ?_
    have hA21 : St 26 [(0, va), (1, vb), (4, (.bool false)), (5, (.int .i64 0))] a19 := hA20.cut _ (fm_cons (hA20.get 0 _ rfl) (fm_cons (hA20.get 1 _ rfl) (fm_cons (hA20.get 4 _ rfl) (fm_cons (hA20.get 5 _ rfl) fm_nil))))
    refine t_norm ?_
    refine wp_block ?_
    refine loop_by (fun m23 a24 w25 => ∃ j22 : Nat, m23 = l.length - j22 ∧ (j22 ≤ l.length ∧ l.take (j22) = m.take (j22)) ∧ St 26 [(0, va), (1, vb), (5, (.int .i64 ((j22 : Nat) : Int)))] a24 ∧ Below w.heap.size w w25) (l.length - 0) ⟨0, rfl, ⟨Nat.zero_le _, rfl⟩, hA21.cut _ (fm_cons (hA21.get 0 _ rfl) (fm_cons (hA21.get 1 _ rfl) (fm_cons ((hA21.get 5 _ rfl).trans (congrArg (Value.int .i64) (by omega))) fm_nil))), b0⟩ ?_
    rintro m23 a24 w25 ⟨j22, hm28, hc29, hA26, b27⟩
    refine wp_seq ?_
    refine wp_seq ?_
    refine wp_region_lit ?_
    refine q_step hA26 rfl (d_move (wn rfl) (hA26.ev (v := (.int .i64 ((j22 : Nat) : Int))) rfl) ?_)
    intro a30 hA31
    refine q_step hA31 rfl (d_move (wn rfl) (hA31.ev (v := va) rfl) ?_)
    intro a32 hA33
    refine q_step hA33 rfl (d_len (n := l.length) (wn rfl) (hA33.ev (v := va) rfl) slc30 hsa.form ?_)
    intro a34 hA35
    rcases Bool.eq_false_or_eq_true (decide (((j22 : Nat) : Int) < ((l.length : Nat) : Int))) with hb36 | hb36
    · skip
      have hq37 := of_decide_eq_true hb36
      refine q_step hA35 rfl (d_bin (wn rfl) (hA35.ev (v := (.int .i64 ((j22 : Nat) : Int))) rfl) (hA35.ev (v := (.int .i64 ((l.length : Nat) : Int))) rfl) (b_lt _ _ ((j22 : Nat) : Int) ((l.length : Nat) : Int) true _ hb36) ?_)
      intro a38 hA39
      refine q_end ?_
      have hA40 : St 26 [(0, va), (1, vb), (5, (.int .i64 ((j22 : Nat) : Int))), (11, (.int .i64 ((j22 : Nat) : Int))), (12, va), (13, (.int .i64 ((l.length : Nat) : Int))), (14, (.bool true))] a38 := hA39.cut _ (fm_cons (hA39.get 0 _ rfl) (fm_cons (hA39.get 1 _ rfl) (fm_cons (hA39.get 5 _ rfl) (fm_cons (hA39.get 11 _ rfl) (fm_cons (hA39.get 12 _ rfl) (fm_cons (hA39.get 13 _ rfl) (fm_cons (hA39.get 14 _ rfl) fm_nil)))))))
      refine t_norm ?_
      refine c_true hA40 rfl ?_
      refine wp_skip ?_
      refine t_norm ?_
      refine wp_seq ?_
      refine wp_block ?_
      refine wp_seq ?_
      obtain ⟨y41, hy42⟩ : ∃ y41, l[j22]? = some y41 := ⟨_, List.getElem?_eq_getElem (show j22 < l.length by omega)⟩
      obtain ⟨b43, o44, lt45, hr46, hix47⟩ := (hsa.below b27).at hy42
      obtain ⟨y48, hy49⟩ : ∃ y48, m[j22]? = some y48 := ⟨_, List.getElem?_eq_getElem (show j22 < m.length by omega)⟩
      obtain ⟨b50, o51, lt52, hr53, hix54⟩ := (hsb.below b27).at hy49
      rcases Bool.eq_false_or_eq_true (y41 == y48) with hb55 | hb55
      · skip
        have hq56 := eq_of_beq hb55
        have hA57 : St 26 [(0, va), (1, vb), (5, (.int .i64 ((j22 : Nat) : Int))), (11, (.int .i64 ((j22 : Nat) : Int))), (12, va), (13, (.int .i64 ((l.length : Nat) : Int))), (14, (.bool true))] a38 := hA40.cut _ (fm_cons (hA40.get 0 _ rfl) (fm_cons (hA40.get 1 _ rfl) (fm_cons (hA40.get 5 _ rfl) (fm_cons (hA40.get 11 _ rfl) (fm_cons (hA40.get 12 _ rfl) (fm_cons (hA40.get 13 _ rfl) (fm_cons (hA40.get 14 _ rfl) fm_nil)))))))
        let M58 : Nat → Option (Array Value) := fun _ => none
        have hM58 : M58 = fun _ => none := rfl
        clear_value M58
        have hM58B : ∀ k, k < w.heap.size → M58 k = none := (fun k hk => (congrFun hM58 k))
        refine drawn (S := SM M58) (tabL [cv va, cv (.int .i64 ((j22 : Nat) : Int)), cv (.pointer (some ⟨b43, o44, none⟩)), cv (.int .i64 y41), cv vb, cv (.int .i64 ((j22 : Nat) : Int)), cv (.pointer (some ⟨b50, o51, none⟩)), cv (.int .i64 y48), cv (.bool false)]) mixedY SM.refl SM.trans SM.drew hA57 (by kernel_rfl) ?_ ?_
        · skip
          refine each_cons (fun x y hS hT hk => d_move (wn rfl) (hT.ev (v := va) rfl) ⟨SM.refl _, rfl⟩) ?_
          refine each_cons (fun x y hS hT hk => d_move (wn rfl) (hT.ev (v := (.int .i64 ((j22 : Nat) : Int))) rfl) ⟨SM.refl _, rfl⟩) ?_
          refine each_cons (fun x y hS hT hk => d_indexAt (j := j22) (wn rfl) (hk 0 rfl) (hk 1 rfl) slc30 hix47 (get_lt hy42) ⟨SM.refl _, rfl⟩) ?_
          refine each_cons (fun x y hS hT hk => d_load (v := (.int .i64 y41)) (wn rfl) (hk 2 rfl) one3 ((range_sm (w := w25.drew) hr46 hS (Nat.lt_of_lt_of_le lt45 b27.size) (hM58B _ lt45)) 0 _ rfl) ⟨SM.refl _, rfl⟩) ?_
          refine each_cons (fun x y hS hT hk => d_move (wn rfl) (hT.ev (v := vb) rfl) ⟨SM.refl _, rfl⟩) ?_
          refine each_cons (fun x y hS hT hk => d_move (wn rfl) (hT.ev (v := (.int .i64 ((j22 : Nat) : Int))) rfl) ⟨SM.refl _, rfl⟩) ?_
          refine each_cons (fun x y hS hT hk => d_indexAt (j := j22) (wn rfl) (hk 4 rfl) (hk 5 rfl) slc30 hix54 (get_lt hy49) ⟨SM.refl _, rfl⟩) ?_
          refine each_cons (fun x y hS hT hk => d_load (v := (.int .i64 y48)) (wn rfl) (hk 6 rfl) one3 ((range_sm (w := w25.drew) hr53 hS (Nat.lt_of_lt_of_le lt52 b27.size) (hM58B _ lt52)) 0 _ rfl) ⟨SM.refl _, rfl⟩) ?_
          refine each_cons (fun x y hS hT hk => d_bin (wn rfl) (hk 3 rfl) (hk 7 rfl) (b_ne _ _ y41 y48 false _ (notof hb55)) ⟨SM.refl _, rfl⟩) ?_
          exact each_nil
        intro f59 a60 w61 hS62 hC63 hA64
        have hA65 : St 26 [(0, va), (1, vb), (5, (.int .i64 ((j22 : Nat) : Int))), (11, (.int .i64 ((j22 : Nat) : Int))), (12, va), (13, (.int .i64 ((l.length : Nat) : Int))), (14, (.bool true)), (17, va), (18, (.int .i64 ((j22 : Nat) : Int))), (19, (.pointer (some ⟨b43, o44, none⟩))), (20, (.int .i64 y41)), (21, vb), (22, (.int .i64 ((j22 : Nat) : Int))), (23, (.pointer (some ⟨b50, o51, none⟩))), (24, (.int .i64 y48)), (25, (.bool false))] a60 := hA64.cut _ (fm_cons (hA64.get 0 _ rfl) (fm_cons (hA64.get 1 _ rfl) (fm_cons (hA64.get 5 _ rfl) (fm_cons (hA64.get 11 _ rfl) (fm_cons (hA64.get 12 _ rfl) (fm_cons (hA64.get 13 _ rfl) (fm_cons (hA64.get 14 _ rfl) (fm_cons ((hA64.get 17 _ rfl).trans (hC63 0 (Nat.le_of_ble_eq_true rfl))) (fm_cons ((hA64.get 18 _ rfl).trans (hC63 1 (Nat.le_of_ble_eq_true rfl))) (fm_cons ((hA64.get 19 _ rfl).trans (hC63 2 (Nat.le_of_ble_eq_true rfl))) (fm_cons ((hA64.get 20 _ rfl).trans (hC63 3 (Nat.le_of_ble_eq_true rfl))) (fm_cons ((hA64.get 21 _ rfl).trans (hC63 4 (Nat.le_of_ble_eq_true rfl))) (fm_cons ((hA64.get 22 _ rfl).trans (hC63 5 (Nat.le_of_ble_eq_true rfl))) (fm_cons ((hA64.get 23 _ rfl).trans (hC63 6 (Nat.le_of_ble_eq_true rfl))) (fm_cons ((hA64.get 24 _ rfl).trans (hC63 7 (Nat.le_of_ble_eq_true rfl))) (fm_cons ((hA64.get 25 _ rfl).trans (hC63 8 (Nat.le_of_ble_eq_true rfl))) fm_nil))))))))))))))))
        have b66 := hS62.below b27 b27.size hM58B
        have hr67 := range_sm hr46 hS62 (Nat.lt_of_lt_of_le lt45 b27.size) (hM58B _ lt45)
        have hr68 := range_sm hr53 hS62 (Nat.lt_of_lt_of_le lt52 b27.size) (hM58B _ lt52)
        refine t_norm ?_
        refine c_false hA65 rfl ?_
        refine wp_skip ?_
        refine i_norm ?_
        refine t_norm ?_
        refine wp_region_lit ?_
        refine q_step hA65 rfl (d_move (wn rfl) (hA65.ev (v := (.int .i64 ((j22 : Nat) : Int))) rfl) ?_)
        intro a69 hA70
        refine q_step hA70 rfl (d_bin (wn rfl) (hA70.ev (v := (.int .i64 ((j22 : Nat) : Int))) rfl) (hA70.ev (v := (.int .i64 1)) rfl) (b_add _ _ ((j22 : Nat) : Int) 1 _ (by omega) (by omega)) ?_)
        intro a71 hA72
        refine q_step hA72 rfl (d_assign (wn rfl) (hA72.ev (v := (.int .i64 (((j22 : Nat) : Int) + 1))) rfl) ?_)
        intro a73 hA74
        refine q_end ?_
        have hA75 : St 26 [(0, va), (1, vb), (5, (.int .i64 (((j22 : Nat) : Int) + 1))), (11, (.int .i64 ((j22 : Nat) : Int))), (12, va), (13, (.int .i64 ((l.length : Nat) : Int))), (14, (.bool true)), (15, (.int .i64 ((j22 : Nat) : Int))), (16, (.int .i64 (((j22 : Nat) : Int) + 1))), (17, va), (18, (.int .i64 ((j22 : Nat) : Int))), (19, (.pointer (some ⟨b43, o44, none⟩))), (20, (.int .i64 y41)), (21, vb), (22, (.int .i64 ((j22 : Nat) : Int))), (23, (.pointer (some ⟨b50, o51, none⟩))), (24, (.int .i64 y48)), (25, (.bool false))] a73 := hA74.cut _ (fm_cons (hA74.get 0 _ rfl) (fm_cons (hA74.get 1 _ rfl) (fm_cons (hA74.get 5 _ rfl) (fm_cons (hA74.get 11 _ rfl) (fm_cons (hA74.get 12 _ rfl) (fm_cons (hA74.get 13 _ rfl) (fm_cons (hA74.get 14 _ rfl) (fm_cons (hA74.get 15 _ rfl) (fm_cons (hA74.get 16 _ rfl) (fm_cons (hA74.get 17 _ rfl) (fm_cons (hA74.get 18 _ rfl) (fm_cons (hA74.get 19 _ rfl) (fm_cons (hA74.get 20 _ rfl) (fm_cons (hA74.get 21 _ rfl) (fm_cons (hA74.get 22 _ rfl) (fm_cons (hA74.get 23 _ rfl) (fm_cons (hA74.get 24 _ rfl) (fm_cons (hA74.get 25 _ rfl) fm_nil))))))))))))))))))
        refine t_norm ?_
        exact ⟨l.length - (j22 + 1), (by rw [hm28]; omega), j22 + 1, rfl, ⟨by have := get_lt hy42; omega, take_more hc29.2 hy42 hy49 (eq_of_beq hb55)⟩, hA75.cut _ (fm_cons (hA75.get 0 _ rfl) (fm_cons (hA75.get 1 _ rfl) (fm_cons ((hA75.get 5 _ rfl).trans (congrArg (Value.int .i64) (by omega))) fm_nil))), b66⟩
      · skip
        have hq76 := ne_of_beq hb55
        have hA77 : St 26 [(0, va), (1, vb), (5, (.int .i64 ((j22 : Nat) : Int))), (11, (.int .i64 ((j22 : Nat) : Int))), (12, va), (13, (.int .i64 ((l.length : Nat) : Int))), (14, (.bool true))] a38 := hA40.cut _ (fm_cons (hA40.get 0 _ rfl) (fm_cons (hA40.get 1 _ rfl) (fm_cons (hA40.get 5 _ rfl) (fm_cons (hA40.get 11 _ rfl) (fm_cons (hA40.get 12 _ rfl) (fm_cons (hA40.get 13 _ rfl) (fm_cons (hA40.get 14 _ rfl) fm_nil)))))))
        let M78 : Nat → Option (Array Value) := fun _ => none
        have hM78 : M78 = fun _ => none := rfl
        clear_value M78
        have hM78B : ∀ k, k < w.heap.size → M78 k = none := (fun k hk => (congrFun hM78 k))
        refine drawn (S := SM M78) (tabL [cv va, cv (.int .i64 ((j22 : Nat) : Int)), cv (.pointer (some ⟨b43, o44, none⟩)), cv (.int .i64 y41), cv vb, cv (.int .i64 ((j22 : Nat) : Int)), cv (.pointer (some ⟨b50, o51, none⟩)), cv (.int .i64 y48), cv (.bool true)]) mixedY SM.refl SM.trans SM.drew hA77 (by kernel_rfl) ?_ ?_
        · skip
          refine each_cons (fun x y hS hT hk => d_move (wn rfl) (hT.ev (v := va) rfl) ⟨SM.refl _, rfl⟩) ?_
          refine each_cons (fun x y hS hT hk => d_move (wn rfl) (hT.ev (v := (.int .i64 ((j22 : Nat) : Int))) rfl) ⟨SM.refl _, rfl⟩) ?_
          refine each_cons (fun x y hS hT hk => d_indexAt (j := j22) (wn rfl) (hk 0 rfl) (hk 1 rfl) slc30 hix47 (get_lt hy42) ⟨SM.refl _, rfl⟩) ?_
          refine each_cons (fun x y hS hT hk => d_load (v := (.int .i64 y41)) (wn rfl) (hk 2 rfl) one3 ((range_sm (w := w25.drew) hr46 hS (Nat.lt_of_lt_of_le lt45 b27.size) (hM78B _ lt45)) 0 _ rfl) ⟨SM.refl _, rfl⟩) ?_
          refine each_cons (fun x y hS hT hk => d_move (wn rfl) (hT.ev (v := vb) rfl) ⟨SM.refl _, rfl⟩) ?_
          refine each_cons (fun x y hS hT hk => d_move (wn rfl) (hT.ev (v := (.int .i64 ((j22 : Nat) : Int))) rfl) ⟨SM.refl _, rfl⟩) ?_
          refine each_cons (fun x y hS hT hk => d_indexAt (j := j22) (wn rfl) (hk 4 rfl) (hk 5 rfl) slc30 hix54 (get_lt hy49) ⟨SM.refl _, rfl⟩) ?_
          refine each_cons (fun x y hS hT hk => d_load (v := (.int .i64 y48)) (wn rfl) (hk 6 rfl) one3 ((range_sm (w := w25.drew) hr53 hS (Nat.lt_of_lt_of_le lt52 b27.size) (hM78B _ lt52)) 0 _ rfl) ⟨SM.refl _, rfl⟩) ?_
          refine each_cons (fun x y hS hT hk => d_bin (wn rfl) (hk 3 rfl) (hk 7 rfl) (b_ne _ _ y41 y48 true _ (notof hb55)) ⟨SM.refl _, rfl⟩) ?_
          exact each_nil
        intro f79 a80 w81 hS82 hC83 hA84
        have hA85 : St 26 [(0, va), (1, vb), (5, (.int .i64 ((j22 : Nat) : Int))), (11, (.int .i64 ((j22 : Nat) : Int))), (12, va), (13, (.int .i64 ((l.length : Nat) : Int))), (14, (.bool true)), (17, va), (18, (.int .i64 ((j22 : Nat) : Int))), (19, (.pointer (some ⟨b43, o44, none⟩))), (20, (.int .i64 y41)), (21, vb), (22, (.int .i64 ((j22 : Nat) : Int))), (23, (.pointer (some ⟨b50, o51, none⟩))), (24, (.int .i64 y48)), (25, (.bool true))] a80 := hA84.cut _ (fm_cons (hA84.get 0 _ rfl) (fm_cons (hA84.get 1 _ rfl) (fm_cons (hA84.get 5 _ rfl) (fm_cons (hA84.get 11 _ rfl) (fm_cons (hA84.get 12 _ rfl) (fm_cons (hA84.get 13 _ rfl) (fm_cons (hA84.get 14 _ rfl) (fm_cons ((hA84.get 17 _ rfl).trans (hC83 0 (Nat.le_of_ble_eq_true rfl))) (fm_cons ((hA84.get 18 _ rfl).trans (hC83 1 (Nat.le_of_ble_eq_true rfl))) (fm_cons ((hA84.get 19 _ rfl).trans (hC83 2 (Nat.le_of_ble_eq_true rfl))) (fm_cons ((hA84.get 20 _ rfl).trans (hC83 3 (Nat.le_of_ble_eq_true rfl))) (fm_cons ((hA84.get 21 _ rfl).trans (hC83 4 (Nat.le_of_ble_eq_true rfl))) (fm_cons ((hA84.get 22 _ rfl).trans (hC83 5 (Nat.le_of_ble_eq_true rfl))) (fm_cons ((hA84.get 23 _ rfl).trans (hC83 6 (Nat.le_of_ble_eq_true rfl))) (fm_cons ((hA84.get 24 _ rfl).trans (hC83 7 (Nat.le_of_ble_eq_true rfl))) (fm_cons ((hA84.get 25 _ rfl).trans (hC83 8 (Nat.le_of_ble_eq_true rfl))) fm_nil))))))))))))))))
        have b86 := hS82.below b27 b27.size hM78B
        have hr87 := range_sm hr46 hS82 (Nat.lt_of_lt_of_le lt45 b27.size) (hM78B _ lt45)
        have hr88 := range_sm hr53 hS82 (Nat.lt_of_lt_of_le lt52 b27.size) (hM78B _ lt52)
        refine t_norm ?_
        refine c_true hA85 rfl ?_
        refine wp_seq ?_
        refine wp_region_lit ?_
        refine q_step hA85 rfl (d_assign (wn rfl) (hA85.ev (v := (.bool false)) rfl) ?_)
        intro a89 hA90
        refine q_end ?_
        have hA91 : St 26 [(0, va), (1, vb), (4, (.bool false)), (5, (.int .i64 ((j22 : Nat) : Int))), (11, (.int .i64 ((j22 : Nat) : Int))), (12, va), (13, (.int .i64 ((l.length : Nat) : Int))), (14, (.bool true)), (17, va), (18, (.int .i64 ((j22 : Nat) : Int))), (19, (.pointer (some ⟨b43, o44, none⟩))), (20, (.int .i64 y41)), (21, vb), (22, (.int .i64 ((j22 : Nat) : Int))), (23, (.pointer (some ⟨b50, o51, none⟩))), (24, (.int .i64 y48)), (25, (.bool true))] a89 := hA90.cut _ (fm_cons (hA90.get 0 _ rfl) (fm_cons (hA90.get 1 _ rfl) (fm_cons (hA90.get 4 _ rfl) (fm_cons (hA90.get 5 _ rfl) (fm_cons (hA90.get 11 _ rfl) (fm_cons (hA90.get 12 _ rfl) (fm_cons (hA90.get 13 _ rfl) (fm_cons (hA90.get 14 _ rfl) (fm_cons (hA90.get 17 _ rfl) (fm_cons (hA90.get 18 _ rfl) (fm_cons (hA90.get 19 _ rfl) (fm_cons (hA90.get 20 _ rfl) (fm_cons (hA90.get 21 _ rfl) (fm_cons (hA90.get 22 _ rfl) (fm_cons (hA90.get 23 _ rfl) (fm_cons (hA90.get 24 _ rfl) (fm_cons (hA90.get 25 _ rfl) fm_nil)))))))))))))))))
        refine t_norm ?_
        refine wp_ret ?_
        refine i_ret ?_
        refine t_ret ?_
        refine t_ret ?_
        refine i_ret ?_
        refine t_ret ?_
        refine ret1 rfl hA91 (v := (.bool false)) rfl ?_
        exact ⟨ret_bool (eq_no_at hy42 hy49 (ne_of_beq hb55)).symm, b86⟩
    · skip
      have hq92 := of_decide_eq_false hb36
      refine q_step hA35 rfl (d_bin (wn rfl) (hA35.ev (v := (.int .i64 ((j22 : Nat) : Int))) rfl) (hA35.ev (v := (.int .i64 ((l.length : Nat) : Int))) rfl) (b_lt _ _ ((j22 : Nat) : Int) ((l.length : Nat) : Int) false _ hb36) ?_)
      intro a93 hA94
      refine q_end ?_
      have hA95 : St 26 [(0, va), (1, vb), (5, (.int .i64 ((j22 : Nat) : Int))), (11, (.int .i64 ((j22 : Nat) : Int))), (12, va), (13, (.int .i64 ((l.length : Nat) : Int))), (14, (.bool false))] a93 := hA94.cut _ (fm_cons (hA94.get 0 _ rfl) (fm_cons (hA94.get 1 _ rfl) (fm_cons (hA94.get 5 _ rfl) (fm_cons (hA94.get 11 _ rfl) (fm_cons (hA94.get 12 _ rfl) (fm_cons (hA94.get 13 _ rfl) (fm_cons (hA94.get 14 _ rfl) fm_nil)))))))
      refine t_norm ?_
      refine c_false hA95 rfl ?_
      refine wp_exit ?_
      refine t_exit ?_
      refine t_exit ?_
      refine i_here ?_
      refine t_norm ?_
      refine wp_seq ?_
      refine wp_region_lit ?_
      refine q_step hA95 rfl (d_assign (wn rfl) (hA95.ev (v := (.bool true)) rfl) ?_)
      intro a96 hA97
      refine q_end ?_
      have hA98 : St 26 [(4, (.bool true))] a96 := hA97.cut _ (fm_cons (hA97.get 4 _ rfl) fm_nil)
      refine t_norm ?_
      refine wp_ret ?_
      refine ret1 rfl hA98 (v := (.bool true)) rfl ?_
      exact ⟨ret_bool (by rw [eq_comm, decide_eq_true_iff]; exact take_all hc29.2 (by omega) (by omega)), b27⟩
  · skip
    have hq99 := ne_of_beq hb14
    refine q_step hA13 rfl (d_bin (wn rfl) (hA13.ev (v := (.int .i64 ((l.length : Nat) : Int))) rfl) (hA13.ev (v := (.int .i64 ((m.length : Nat) : Int))) rfl) (b_ne _ _ ((l.length : Nat) : Int) ((m.length : Nat) : Int) true _ (notof hb14)) ?_)
    intro a100 hA101
    refine q_end ?_
    have hA102 : St 26 [(0, va), (1, vb), (4, (.bool false)), (10, (.bool true))] a100 := hA101.cut _ (fm_cons (hA101.get 0 _ rfl) (fm_cons (hA101.get 1 _ rfl) (fm_cons (hA101.get 4 _ rfl) (fm_cons (hA101.get 10 _ rfl) fm_nil))))
    refine t_norm ?_
    refine c_true hA102 rfl ?_
    refine wp_seq ?_
    refine wp_region_lit ?_
    refine q_step hA102 rfl (d_assign (wn rfl) (hA102.ev (v := (.bool false)) rfl) ?_)
    intro a103 hA104
    refine q_end ?_
    have hA105 : St 26 [(0, va), (1, vb), (4, (.bool false))] a103 := hA104.cut _ (fm_cons (hA104.get 0 _ rfl) (fm_cons (hA104.get 1 _ rfl) (fm_cons (hA104.get 4 _ rfl) fm_nil)))
    refine t_norm ?_
    refine wp_ret ?_
    refine t_ret ?_
    refine ret1 rfl hA105 (v := (.bool false)) rfl ?_
    exact ⟨ret_bool (eq_no_len (ne_of_beq hb14)).symm, b0⟩
end Go.Proofs.Ytlhompedcphnnaa
