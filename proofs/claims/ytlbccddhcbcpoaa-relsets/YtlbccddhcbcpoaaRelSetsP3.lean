/- RelSets returns true. -/
import Derived.Test.YtlbccddhcbcpoaaRelSetsP2
import Derived.Deep.Slices
namespace Go.Proofs.Ytlbccddhcbcpoaa.En
open Go.RowKit
set_option linter.unusedSimpArgs false
set_option linter.unusedVariables false
theorem arr29 : arrB Try.prog 29 2 3 1 = true := by kernel_rfl
theorem elm22 : elemB Try.prog 22 3 1 8 = true := by kernel_rfl
theorem elm23 : elemB Try.prog 23 29 2 16 = true := by kernel_rfl
theorem ent10 : ((Try.prog.funcs[10]?).map fun fn => (fn.name == "runtime.NumGoroutine", fn.body.isNone)) = some (false, false) := by kernel_rfl
theorem ent11 : ((Try.prog.funcs[11]?).map fun fn => (fn.name == "runtime.NumGoroutine", fn.body.isNone)) = some (false, false) := by kernel_rfl
theorem ent12 : ((Try.prog.funcs[12]?).map fun fn => (fn.name == "runtime.NumGoroutine", fn.body.isNone)) = some (false, false) := by kernel_rfl
theorem ent13 : ((Try.prog.funcs[13]?).map fun fn => (fn.name == "runtime.NumGoroutine", fn.body.isNone)) = some (false, false) := by kernel_rfl
theorem ent14 : ((Try.prog.funcs[14]?).map fun fn => (fn.name == "runtime.NumGoroutine", fn.body.isNone)) = some (false, false) := by kernel_rfl
theorem ent15 : ((Try.prog.funcs[15]?).map fun fn => (fn.name == "runtime.NumGoroutine", fn.body.isNone)) = some (false, false) := by kernel_rfl
theorem ent16 : ((Try.prog.funcs[16]?).map fun fn => (fn.name == "runtime.NumGoroutine", fn.body.isNone)) = some (false, false) := by kernel_rfl
theorem ent17 : ((Try.prog.funcs[17]?).map fun fn => (fn.name == "runtime.NumGoroutine", fn.body.isNone)) = some (false, false) := by kernel_rfl
theorem ent18 : ((Try.prog.funcs[18]?).map fun fn => (fn.name == "runtime.NumGoroutine", fn.body.isNone)) = some (false, false) := by kernel_rfl
theorem ent9 : ((Try.prog.funcs[9]?).map fun fn => (fn.name == "runtime.NumGoroutine", fn.body.isNone)) = some (false, false) := by kernel_rfl
theorem mixedY : Try.prog.follows .mixedOrders = true := by kernel_rfl
theorem one3 : oneB Try.prog 3 = true := by kernel_rfl
theorem slc22 : sliceB Try.prog 22 3 1 = true := by kernel_rfl
theorem slc23 : sliceB Try.prog 23 29 2 = true := by kernel_rfl
attribute [local irreducible] cells row U one upd nil evB evs pairT fst lst nums idr crs inn
set_option maxHeartbeats 4000000 in
set_option maxRecDepth 4000 in
theorem sets_law (es : List Int) (ps : List (Int × Int)) (ao ao2 : Option Addr) (cap cap2 : Nat) (n : Int) (sa sb : BitVec 32) (w : World) (hes : Sl intE 1 w.heap.size w (.slice ao es.length cap) es) (hps : Sl pairE 2 w.heap.size w (.slice ao2 ps.length cap2) ps) : Calls Try.prog 3 #[.slice ao es.length cap, .int .i64 n, .slice ao2 ps.length cap2, .int .u32 (U sa), .int .u32 (U sb)] w fun e w' => e = .returned (.bool true) ∧ Grow w w' := by
  have b0 : Below w.heap.size w w := Below.refl _ _
  refine enter (n := 161) Try.func3 rfl rfl (Nat.le_of_ble_eq_true rfl) ?_
  intro a1 hA2
  refine wp_seq ?_
  refine wp_region_lit ?_
  refine q_step hA2 rfl (d_assign (wn rfl) (hA2.ev (v := (.bool false)) rfl) ?_)
  intro a3 hA4
  refine q_end ?_
  refine t_norm ?_
  refine wp_seq ?_
  refine wp_seq ?_
  refine wp_region_lit ?_
  refine q_step hA4 rfl (d_call (wn rfl) ent9 (map0) (able_any w) ?_)
  rintro e8 w5 ⟨he7, hG6⟩
  have b9 := below_grow b0 hG6 b0.size
  refine ⟨(.bool true), he7, ?_⟩
  intro a10 hA11
  refine q_step hA11 rfl (d_not (wn rfl) (hA11.ev (v := (.bool true)) rfl) ?_)
  intro a12 hA13
  refine q_end ?_
  refine t_norm ?_
  refine c_false hA13 rfl ?_
  refine wp_skip ?_
  refine t_norm ?_
  refine wp_seq ?_
  refine wp_seq ?_
  refine wp_region_lit ?_
  refine q_step hA13 rfl (d_move (wn rfl) (hA13.ev (v := (.slice ao es.length cap)) rfl) ?_)
  intro a14 hA15
  refine q_step hA15 rfl (d_len (n := es.length) (wn rfl) (hA15.ev (v := (.slice ao es.length cap)) rfl) slc22 hes.form ?_)
  intro a16 hA17
  rcases Bool.eq_false_or_eq_true (decide (((es.length : Nat) : Int) > 300)) with hb18 | hb18
  · skip
    have hq19 := of_decide_eq_true hb18
    refine q_step hA17 rfl (d_bin (wn rfl) (hA17.ev (v := (.int .i64 ((es.length : Nat) : Int))) rfl) (hA17.ev (v := (.int .i64 300)) rfl) (b_gt _ _ ((es.length : Nat) : Int) 300 true _ hb18) ?_)
    intro a20 hA21
    refine q_step hA21 rfl (d_move (wn rfl) (hA21.ev (v := (.bool true)) rfl) ?_)
    intro a22 hA23
    refine q_step hA23 rfl (does_not (wno rfl rfl (.inl (hA23.get 26 _ rfl))) ?_)
    intro a24 hA25
    refine q_step hA25 rfl (does_not (wno rfl rfl (.inl (hA25.get 26 _ rfl))) ?_)
    intro a26 hA27
    refine q_step hA27 rfl (does_not (wno rfl rfl (.inl (hA27.get 26 _ rfl))) ?_)
    intro a28 hA29
    refine q_step hA29 rfl (d_pickT (wn rfl) (hA29.ev (v := (.bool true)) rfl) (hA29.ev (v := (.bool true)) rfl) ?_)
    intro a30 hA31
    refine q_end ?_
    refine t_norm ?_
    refine c_true hA31 rfl ?_
    refine wp_seq ?_
    refine wp_region_lit ?_
    refine q_step hA31 rfl (d_assign (wn rfl) (hA31.ev (v := (.bool true)) rfl) ?_)
    intro a32 hA33
    refine q_end ?_
    refine t_norm ?_
    refine wp_ret ?_
    refine t_ret ?_
    refine ret1 rfl hA33 (v := (.bool true)) rfl ?_
    exact ⟨rfl, b9⟩
  · skip
    have hq34 := of_decide_eq_false hb18
    refine q_step hA17 rfl (d_bin (wn rfl) (hA17.ev (v := (.int .i64 ((es.length : Nat) : Int))) rfl) (hA17.ev (v := (.int .i64 300)) rfl) (b_gt _ _ ((es.length : Nat) : Int) 300 false _ hb18) ?_)
    intro a35 hA36
    refine q_step hA36 rfl (d_move (wn rfl) (hA36.ev (v := (.bool false)) rfl) ?_)
    intro a37 hA38
    refine q_step hA38 rfl (d_move (wy rfl rfl (hA38.get 26 _ rfl)) (hA38.ev (v := (.slice ao2 ps.length cap2)) rfl) ?_)
    intro a39 hA40
    refine q_step hA40 rfl (d_len (n := ps.length) (wy rfl rfl (hA40.get 26 _ rfl)) (hA40.ev (v := (.slice ao2 ps.length cap2)) rfl) slc23 hps.form ?_)
    intro a41 hA42
    rcases Bool.eq_false_or_eq_true (decide (((ps.length : Nat) : Int) > 300)) with hb43 | hb43
    · skip
      have hq44 := of_decide_eq_true hb43
      refine q_step hA42 rfl (d_bin (wy rfl rfl (hA42.get 26 _ rfl)) (hA42.ev (v := (.int .i64 ((ps.length : Nat) : Int))) rfl) (hA42.ev (v := (.int .i64 300)) rfl) (b_gt _ _ ((ps.length : Nat) : Int) 300 true _ hb43) ?_)
      intro a45 hA46
      refine q_step hA46 rfl (d_pickF (wn rfl) (hA46.ev (v := (.bool false)) rfl) (hA46.ev (v := (.bool true)) rfl) ?_)
      intro a47 hA48
      refine q_end ?_
      refine t_norm ?_
      refine c_true hA48 rfl ?_
      refine wp_seq ?_
      refine wp_region_lit ?_
      refine q_step hA48 rfl (d_assign (wn rfl) (hA48.ev (v := (.bool true)) rfl) ?_)
      intro a49 hA50
      refine q_end ?_
      refine t_norm ?_
      refine wp_ret ?_
      refine t_ret ?_
      refine ret1 rfl hA50 (v := (.bool true)) rfl ?_
      exact ⟨rfl, b9⟩
    · skip
      have hq51 := of_decide_eq_false hb43
      refine q_step hA42 rfl (d_bin (wy rfl rfl (hA42.get 26 _ rfl)) (hA42.ev (v := (.int .i64 ((ps.length : Nat) : Int))) rfl) (hA42.ev (v := (.int .i64 300)) rfl) (b_gt _ _ ((ps.length : Nat) : Int) 300 false _ hb43) ?_)
      intro a52 hA53
      refine q_step hA53 rfl (d_pickF (wn rfl) (hA53.ev (v := (.bool false)) rfl) (hA53.ev (v := (.bool false)) rfl) ?_)
      intro a54 hA55
      refine q_end ?_
      refine t_norm ?_
      refine c_false hA55 rfl ?_
      refine wp_skip ?_
      refine t_norm ?_
      refine wp_seq ?_
      refine wp_region_lit ?_
      refine q_step hA55 rfl (d_assign (wn rfl) (hA55.ev (v := (.int .u32 0)) rfl) ?_)
      intro a56 hA57
      refine q_end ?_
      refine t_norm ?_
      refine wp_seq ?_
      refine wp_seq ?_
      refine wp_region_lit ?_
      refine q_step hA57 rfl (d_assign (wn rfl) (hA57.ev (v := (.int .i64 0)) rfl) ?_)
      intro a58 hA59
      refine q_end ?_
      refine t_norm ?_
      refine wp_block ?_
      refine loop_by (fun m61 a62 w63 => ∃ j60 : Nat, m61 = es.length - j60 ∧ (j60 ≤ es.length) ∧ St 161 [(0, (.slice ao es.length cap)), (1, (.int .i64 n)), (2, (.slice ao2 ps.length cap2)), (3, (.int .u32 (U sa))), (4, (.int .u32 (U sb))), (11, (.int .u32 (U (evs (es.take j60))))), (12, (.int .i64 ((j60 : Nat) : Int)))] a62 ∧ Below w.heap.size w w63) (es.length - 0) ⟨0, rfl, (by omega), hA59.cut _ (fm_cons (hA59.get 0 _ rfl) (fm_cons (hA59.get 1 _ rfl) (fm_cons (hA59.get 2 _ rfl) (fm_cons (hA59.get 3 _ rfl) (fm_cons (hA59.get 4 _ rfl) (fm_cons ((hA59.get 11 _ rfl).trans (congrArg (Value.int .u32) (evs0 es))) (fm_cons ((hA59.get 12 _ rfl).trans (congrArg (Value.int .i64) (by omega))) fm_nil))))))), b9⟩ ?_
      rintro m61 a62 w63 ⟨j60, hm66, hc67, hA64, b65⟩
      refine wp_seq ?_
      refine wp_seq ?_
      refine wp_region_lit ?_
      refine q_step hA64 rfl (d_move (wn rfl) (hA64.ev (v := (.int .i64 ((j60 : Nat) : Int))) rfl) ?_)
      intro a68 hA69
      refine q_step hA69 rfl (d_move (wn rfl) (hA69.ev (v := (.slice ao es.length cap)) rfl) ?_)
      intro a70 hA71
      refine q_step hA71 rfl (d_len (n := es.length) (wn rfl) (hA71.ev (v := (.slice ao es.length cap)) rfl) slc22 hes.form ?_)
      intro a72 hA73
      rcases Bool.eq_false_or_eq_true (decide (((j60 : Nat) : Int) < ((es.length : Nat) : Int))) with hb74 | hb74
      · skip
        have hq75 := of_decide_eq_true hb74
        refine q_step hA73 rfl (d_bin (wn rfl) (hA73.ev (v := (.int .i64 ((j60 : Nat) : Int))) rfl) (hA73.ev (v := (.int .i64 ((es.length : Nat) : Int))) rfl) (b_lt _ _ ((j60 : Nat) : Int) ((es.length : Nat) : Int) true _ hb74) ?_)
        intro a76 hA77
        refine q_end ?_
        refine t_norm ?_
        refine c_true hA77 rfl ?_
        refine wp_skip ?_
        refine t_norm ?_
        refine wp_seq ?_
        refine wp_block ?_
        refine wp_seq ?_
        refine wp_region_lit ?_
        refine q_step hA77 rfl (d_move (wn rfl) (hA77.ev (v := (.slice ao es.length cap)) rfl) ?_)
        intro a78 hA79
        refine q_step hA79 rfl (d_move (wn rfl) (hA79.ev (v := (.int .i64 ((j60 : Nat) : Int))) rfl) ?_)
        intro a80 hA81
        obtain ⟨y82, hy83⟩ : ∃ y82, es[j60]? = some y82 := ⟨_, List.getElem?_eq_getElem (show j60 < es.length by omega)⟩
        obtain ⟨b84, o85, lt86, hr87, hix88⟩ := (hes.below b65).at hy83
        refine q_step hA81 rfl (d_indexAt (j := j60) (wn rfl) (hA81.ev (v := (.slice ao es.length cap)) rfl) (hA81.ev (v := (.int .i64 ((j60 : Nat) : Int))) rfl) slc22 hix88 (get_lt hy83) ?_)
        intro a89 hA90
        refine q_step hA90 rfl (d_load (v := (.int .i64 y82)) (wn rfl) (hA90.ev (v := (.pointer (some ⟨b84, o85, none⟩))) rfl) one3 (hr87 0 _ rfl) ?_)
        intro a91 hA92
        rcases Bool.eq_false_or_eq_true (decide (y82 ≥ 0)) with hb93 | hb93
        · skip
          have hq94 := of_decide_eq_true hb93
          refine q_step hA92 rfl (d_bin (wn rfl) (hA92.ev (v := (.int .i64 y82)) rfl) (hA92.ev (v := (.int .i64 0)) rfl) (b_ge _ _ y82 0 true _ hb93) ?_)
          intro a95 hA96
          refine q_step hA96 rfl (d_move (wn rfl) (hA96.ev (v := (.bool true)) rfl) ?_)
          intro a97 hA98
          refine q_step hA98 rfl (d_move (wy rfl rfl (hA98.get 42 _ rfl)) (hA98.ev (v := (.slice ao es.length cap)) rfl) ?_)
          intro a99 hA100
          refine q_step hA100 rfl (d_move (wy rfl rfl (hA100.get 42 _ rfl)) (hA100.ev (v := (.int .i64 ((j60 : Nat) : Int))) rfl) ?_)
          intro a101 hA102
          refine q_step hA102 rfl (d_indexAt (j := j60) (wy rfl rfl (hA102.get 42 _ rfl)) (hA102.ev (v := (.slice ao es.length cap)) rfl) (hA102.ev (v := (.int .i64 ((j60 : Nat) : Int))) rfl) slc22 hix88 (get_lt hy83) ?_)
          intro a103 hA104
          refine q_step hA104 rfl (d_load (v := (.int .i64 y82)) (wy rfl rfl (hA104.get 42 _ rfl)) (hA104.ev (v := (.pointer (some ⟨b84, o85, none⟩))) rfl) one3 (hr87 0 _ rfl) ?_)
          intro a105 hA106
          rcases Bool.eq_false_or_eq_true (decide (y82 < 32)) with hb107 | hb107
          · skip
            have hq108 := of_decide_eq_true hb107
            refine q_step hA106 rfl (d_bin (wy rfl rfl (hA106.get 42 _ rfl)) (hA106.ev (v := (.int .i64 y82)) rfl) (hA106.ev (v := (.int .i64 32)) rfl) (b_lt _ _ y82 32 true _ hb107) ?_)
            intro a109 hA110
            refine q_step hA110 rfl (d_pickT (wn rfl) (hA110.ev (v := (.bool true)) rfl) (hA110.ev (v := (.bool true)) rfl) ?_)
            intro a111 hA112
            refine q_end ?_
            refine t_norm ?_
            refine c_true hA112 rfl ?_
            refine wp_region_lit ?_
            refine q_step hA112 rfl (d_move (wn rfl) (hA112.ev (v := (.int .u32 (U (evs (es.take j60))))) rfl) ?_)
            intro a113 hA114
            refine q_step hA114 rfl (d_move (wn rfl) (hA114.ev (v := (.slice ao es.length cap)) rfl) ?_)
            intro a115 hA116
            refine q_step hA116 rfl (d_move (wn rfl) (hA116.ev (v := (.int .i64 ((j60 : Nat) : Int))) rfl) ?_)
            intro a117 hA118
            refine q_step hA118 rfl (d_indexAt (j := j60) (wn rfl) (hA118.ev (v := (.slice ao es.length cap)) rfl) (hA118.ev (v := (.int .i64 ((j60 : Nat) : Int))) rfl) slc22 hix88 (get_lt hy83) ?_)
            intro a119 hA120
            refine q_step hA120 rfl (d_load (v := (.int .i64 y82)) (wn rfl) (hA120.ev (v := (.pointer (some ⟨b84, o85, none⟩))) rfl) one3 (hr87 0 _ rfl) ?_)
            intro a121 hA122
            obtain ⟨e123, he124, hl125⟩ : ∃ e : Nat, y82 = (e : Int) ∧ e < 32 := ⟨y82.toNat, by omega, by omega⟩
            refine q_step hA122 rfl (d_bin (wn rfl) (hA122.ev (v := (.int .u32 1)) rfl) ((hA122.ev (v := (.int .i64 y82)) rfl).trans (congrArg (Value.int .i64) he124)) (b_shl _ _ e123 _ (by omega)) ?_)
            intro a126 hA127
            refine q_step hA127 rfl (d_bin (wn rfl) (hA127.ev (v := (.int .u32 (U (evs (es.take j60))))) rfl) (hA127.ev (v := (.int .u32 (U (one e123)))) rfl) (b_or32 _ _ (evs (es.take j60)) (one e123) _) ?_)
            intro a128 hA129
            refine q_step hA129 rfl (d_assign (wn rfl) (hA129.ev (v := (.int .u32 (U ((evs (es.take j60)) ||| (one e123))))) rfl) ?_)
            intro a130 hA131
            refine q_end ?_
            refine i_norm ?_
            refine t_norm ?_
            refine wp_region_lit ?_
            refine q_step hA131 rfl (d_move (wn rfl) (hA131.ev (v := (.int .i64 ((j60 : Nat) : Int))) rfl) ?_)
            intro a132 hA133
            refine q_step hA133 rfl (d_bin (wn rfl) (hA133.ev (v := (.int .i64 ((j60 : Nat) : Int))) rfl) (hA133.ev (v := (.int .i64 1)) rfl) (b_add _ _ ((j60 : Nat) : Int) 1 _ (by omega) (by omega)) ?_)
            intro a134 hA135
            refine q_step hA135 rfl (d_assign (wn rfl) (hA135.ev (v := (.int .i64 (((j60 : Nat) : Int) + 1))) rfl) ?_)
            intro a136 hA137
            refine q_end ?_
            refine t_norm ?_
            exact ⟨es.length - (j60 + 1), (by rw [hm66]; omega), j60 + 1, rfl, (by omega), hA137.cut _ (fm_cons (hA137.get 0 _ rfl) (fm_cons (hA137.get 1 _ rfl) (fm_cons (hA137.get 2 _ rfl) (fm_cons (hA137.get 3 _ rfl) (fm_cons (hA137.get 4 _ rfl) (fm_cons ((hA137.get 11 _ rfl).trans (congrArg (Value.int .u32) (by rw [evs_take hy83, he124, evS_yes (evB_nat (by omega))]))) (fm_cons ((hA137.get 12 _ rfl).trans (congrArg (Value.int .i64) (by omega))) fm_nil))))))), b65⟩
          · skip
            have hq138 := of_decide_eq_false hb107
            refine q_step hA106 rfl (d_bin (wy rfl rfl (hA106.get 42 _ rfl)) (hA106.ev (v := (.int .i64 y82)) rfl) (hA106.ev (v := (.int .i64 32)) rfl) (b_lt _ _ y82 32 false _ hb107) ?_)
            intro a139 hA140
            refine q_step hA140 rfl (d_pickT (wn rfl) (hA140.ev (v := (.bool true)) rfl) (hA140.ev (v := (.bool false)) rfl) ?_)
            intro a141 hA142
            refine q_end ?_
            refine t_norm ?_
            refine c_false hA142 rfl ?_
            refine wp_skip ?_
            refine i_norm ?_
            refine t_norm ?_
            refine wp_region_lit ?_
            refine q_step hA142 rfl (d_move (wn rfl) (hA142.ev (v := (.int .i64 ((j60 : Nat) : Int))) rfl) ?_)
            intro a143 hA144
            refine q_step hA144 rfl (d_bin (wn rfl) (hA144.ev (v := (.int .i64 ((j60 : Nat) : Int))) rfl) (hA144.ev (v := (.int .i64 1)) rfl) (b_add _ _ ((j60 : Nat) : Int) 1 _ (by omega) (by omega)) ?_)
            intro a145 hA146
            refine q_step hA146 rfl (d_assign (wn rfl) (hA146.ev (v := (.int .i64 (((j60 : Nat) : Int) + 1))) rfl) ?_)
            intro a147 hA148
            refine q_end ?_
            refine t_norm ?_
            exact ⟨es.length - (j60 + 1), (by rw [hm66]; omega), j60 + 1, rfl, (by omega), hA148.cut _ (fm_cons (hA148.get 0 _ rfl) (fm_cons (hA148.get 1 _ rfl) (fm_cons (hA148.get 2 _ rfl) (fm_cons (hA148.get 3 _ rfl) (fm_cons (hA148.get 4 _ rfl) (fm_cons ((hA148.get 11 _ rfl).trans (congrArg (Value.int .u32) (by rw [evs_take hy83, evS_no (evB_no (by omega))]))) (fm_cons ((hA148.get 12 _ rfl).trans (congrArg (Value.int .i64) (by omega))) fm_nil))))))), b65⟩
        · skip
          have hq149 := of_decide_eq_false hb93
          refine q_step hA92 rfl (d_bin (wn rfl) (hA92.ev (v := (.int .i64 y82)) rfl) (hA92.ev (v := (.int .i64 0)) rfl) (b_ge _ _ y82 0 false _ hb93) ?_)
          intro a150 hA151
          refine q_step hA151 rfl (d_move (wn rfl) (hA151.ev (v := (.bool false)) rfl) ?_)
          intro a152 hA153
          refine q_step hA153 rfl (does_not (wno rfl rfl (.inl (hA153.get 42 _ rfl))) ?_)
          intro a154 hA155
          refine q_step hA155 rfl (does_not (wno rfl rfl (.inl (hA155.get 42 _ rfl))) ?_)
          intro a156 hA157
          refine q_step hA157 rfl (does_not (wno rfl rfl (.inl (hA157.get 42 _ rfl))) ?_)
          intro a158 hA159
          refine q_step hA159 rfl (does_not (wno rfl rfl (.inl (hA159.get 42 _ rfl))) ?_)
          intro a160 hA161
          refine q_step hA161 rfl (does_not (wno rfl rfl (.inl (hA161.get 42 _ rfl))) ?_)
          intro a162 hA163
          refine q_step hA163 rfl (d_pickF (wn rfl) (hA163.ev (v := (.bool false)) rfl) (hA163.ev (v := (.bool false)) rfl) ?_)
          intro a164 hA165
          refine q_end ?_
          refine t_norm ?_
          refine c_false hA165 rfl ?_
          refine wp_skip ?_
          refine i_norm ?_
          refine t_norm ?_
          refine wp_region_lit ?_
          refine q_step hA165 rfl (d_move (wn rfl) (hA165.ev (v := (.int .i64 ((j60 : Nat) : Int))) rfl) ?_)
          intro a166 hA167
          refine q_step hA167 rfl (d_bin (wn rfl) (hA167.ev (v := (.int .i64 ((j60 : Nat) : Int))) rfl) (hA167.ev (v := (.int .i64 1)) rfl) (b_add _ _ ((j60 : Nat) : Int) 1 _ (by omega) (by omega)) ?_)
          intro a168 hA169
          refine q_step hA169 rfl (d_assign (wn rfl) (hA169.ev (v := (.int .i64 (((j60 : Nat) : Int) + 1))) rfl) ?_)
          intro a170 hA171
          refine q_end ?_
          refine t_norm ?_
          exact ⟨es.length - (j60 + 1), (by rw [hm66]; omega), j60 + 1, rfl, (by omega), hA171.cut _ (fm_cons (hA171.get 0 _ rfl) (fm_cons (hA171.get 1 _ rfl) (fm_cons (hA171.get 2 _ rfl) (fm_cons (hA171.get 3 _ rfl) (fm_cons (hA171.get 4 _ rfl) (fm_cons ((hA171.get 11 _ rfl).trans (congrArg (Value.int .u32) (by rw [evs_take hy83, evS_no (evB_no (by omega))]))) (fm_cons ((hA171.get 12 _ rfl).trans (congrArg (Value.int .i64) (by omega))) fm_nil))))))), b65⟩
      · skip
        have hq172 := of_decide_eq_false hb74
        refine q_step hA73 rfl (d_bin (wn rfl) (hA73.ev (v := (.int .i64 ((j60 : Nat) : Int))) rfl) (hA73.ev (v := (.int .i64 ((es.length : Nat) : Int))) rfl) (b_lt _ _ ((j60 : Nat) : Int) ((es.length : Nat) : Int) false _ hb74) ?_)
        intro a173 hA174
        refine q_end ?_
        refine t_norm ?_
        refine c_false hA174 rfl ?_
        refine wp_exit ?_
        refine t_exit ?_
        refine t_exit ?_
        refine i_here ?_
        refine t_norm ?_
        refine wp_seq ?_
        refine wp_region_lit ?_
        refine q_step hA174 rfl (d_alloc (wn rfl) zero28 ?_)
        intro g175 w176 eg177 hG178 (m179 : Blk w176 g175 (cells nil) 28)
        have ge180 : w.heap.size ≤ g175 := eg177 ▸ b65.size
        have b181 := below_grow b65 hG178 b65.size
        intro a182 hA183
        refine q_end ?_
        refine t_norm ?_
        refine wp_seq ?_
        refine wp_seq ?_
        refine wp_region_lit ?_
        refine q_step hA183 rfl (d_assign (wn rfl) (hA183.ev (v := (.int .i64 0)) rfl) ?_)
        intro a184 hA185
        refine q_end ?_
        refine t_norm ?_
        refine wp_block ?_
        have m186 : Blk w176 g175 (cells (pairT (ps.take 0))) 28 := by rw [pair0]; exact m179
        refine loop_by (fun m188 a189 w190 => ∃ j187 : Nat, m188 = ps.length - j187 ∧ (j187 ≤ ps.length) ∧ St 161 [(0, (.slice ao es.length cap)), (1, (.int .i64 n)), (2, (.slice ao2 ps.length cap2)), (3, (.int .u32 (U sa))), (4, (.int .u32 (U sb))), (11, (.int .u32 (U (evs (es.take j60))))), (13, (.pointer (some ⟨g175, 0, none⟩))), (14, (.int .i64 ((j187 : Nat) : Int)))] a189 ∧ Below w.heap.size w w190 ∧ Blk w190 g175 (cells (pairT (ps.take j187))) 28) (ps.length - 0) ⟨0, rfl, (by omega), hA185.cut _ (fm_cons (hA185.get 0 _ rfl) (fm_cons (hA185.get 1 _ rfl) (fm_cons (hA185.get 2 _ rfl) (fm_cons (hA185.get 3 _ rfl) (fm_cons (hA185.get 4 _ rfl) (fm_cons (hA185.get 11 _ rfl) (fm_cons (hA185.get 13 _ rfl) (fm_cons ((hA185.get 14 _ rfl).trans (congrArg (Value.int .i64) (by omega))) fm_nil)))))))), b181, m186⟩ ?_
        rintro m188 a189 w190 ⟨j187, hm193, hc194, hA191, b192, m195⟩
        refine wp_seq ?_
        refine wp_seq ?_
        refine wp_region_lit ?_
        refine q_step hA191 rfl (d_move (wn rfl) (hA191.ev (v := (.int .i64 ((j187 : Nat) : Int))) rfl) ?_)
        intro a196 hA197
        refine q_step hA197 rfl (d_move (wn rfl) (hA197.ev (v := (.slice ao2 ps.length cap2)) rfl) ?_)
        intro a198 hA199
        refine q_step hA199 rfl (d_len (n := ps.length) (wn rfl) (hA199.ev (v := (.slice ao2 ps.length cap2)) rfl) slc23 hps.form ?_)
        intro a200 hA201
        rcases Bool.eq_false_or_eq_true (decide (((j187 : Nat) : Int) < ((ps.length : Nat) : Int))) with hb202 | hb202
        · skip
          have hq203 := of_decide_eq_true hb202
          refine q_step hA201 rfl (d_bin (wn rfl) (hA201.ev (v := (.int .i64 ((j187 : Nat) : Int))) rfl) (hA201.ev (v := (.int .i64 ((ps.length : Nat) : Int))) rfl) (b_lt _ _ ((j187 : Nat) : Int) ((ps.length : Nat) : Int) true _ hb202) ?_)
          intro a204 hA205
          refine q_end ?_
          refine t_norm ?_
          refine c_true hA205 rfl ?_
          refine wp_skip ?_
          refine t_norm ?_
          refine wp_seq ?_
          refine wp_block ?_
          refine wp_seq ?_
          have bD206 := below_grow b192 ((Grow.refl w190).drew) b192.size
          obtain ⟨y207, hy208⟩ : ∃ y207, ps[j187]? = some y207 := ⟨_, List.getElem?_eq_getElem (show j187 < ps.length by omega)⟩
          obtain ⟨b209, o210, lt211, hr212, hix213⟩ := (hps.below b192).at hy208
          have hA214 : St 161 [(0, (.slice ao es.length cap)), (1, (.int .i64 n)), (2, (.slice ao2 ps.length cap2)), (3, (.int .u32 (U sa))), (4, (.int .u32 (U sb))), (11, (.int .u32 (U (evs (es.take j60))))), (13, (.pointer (some ⟨g175, 0, none⟩))), (14, (.int .i64 ((j187 : Nat) : Int)))] a204 := hA205.cut _ (fm_cons (hA205.get 0 _ rfl) (fm_cons (hA205.get 1 _ rfl) (fm_cons (hA205.get 2 _ rfl) (fm_cons (hA205.get 3 _ rfl) (fm_cons (hA205.get 4 _ rfl) (fm_cons (hA205.get 11 _ rfl) (fm_cons (hA205.get 13 _ rfl) (fm_cons (hA205.get 14 _ rfl) fm_nil))))))))
          let M215 : Nat → Option (Array Value) := fun _ => none
          have hM215 : M215 = fun _ => none := rfl
          clear_value M215
          have hM216 : M215 g175 = none := (congrFun hM215 g175)
          have hM215B : ∀ k, k < w.heap.size → M215 k = none := (fun k hk => (congrFun hM215 k))
          refine drawn (S := SM M215) (tabL [cv (.slice ao2 ps.length cap2), cv (.int .i64 ((j187 : Nat) : Int)), cv (.pointer (some ⟨b209, o210, none⟩)), cv (.pointer (some ⟨b209, o210, none⟩)), cv (.int .i64 y207.1), cv (.slice ao2 ps.length cap2), cv (.int .i64 ((j187 : Nat) : Int)), cv (.pointer (some ⟨b209, o210, none⟩)), cv (.pointer (some ⟨b209, o210 + 1, none⟩)), cv (.int .i64 y207.2), cv (.int .i64 y207.1), cv (.int .i64 y207.2)]) mixedY SM.refl SM.trans SM.drew hA214 (by kernel_rfl) ?_ ?_
          · skip
            refine each_cons (fun x y hS hT hk => d_move (wn rfl) (hT.ev (v := (.slice ao2 ps.length cap2)) rfl) ⟨SM.refl _, rfl⟩) ?_
            refine each_cons (fun x y hS hT hk => d_move (wn rfl) (hT.ev (v := (.int .i64 ((j187 : Nat) : Int))) rfl) ⟨SM.refl _, rfl⟩) ?_
            refine each_cons (fun x y hS hT hk => d_indexAt (j := j187) (wn rfl) (hk 0 rfl) (hk 1 rfl) slc23 hix213 (get_lt hy208) ⟨SM.refl _, rfl⟩) ?_
            refine each_cons (fun x y hS hT hk => d_indexArrP (j := 0) (p := o210) (wn rfl) (hk 2 rfl) (hT.ev (v := (.int .i64 0)) rfl) arr29 (by omega) (by omega) ⟨SM.refl _, rfl⟩) ?_
            refine each_cons (fun x y hS hT hk => d_load (v := (.int .i64 y207.1)) (wn rfl) (hk 3 rfl) one3 ((range_sm (w := w190.drew) hr212 hS (Nat.lt_of_lt_of_le lt211 b192.size) (hM215B _ lt211)) 0 _ rfl) ⟨SM.refl _, rfl⟩) ?_
            refine each_cons (fun x y hS hT hk => d_move (wn rfl) (hT.ev (v := (.slice ao2 ps.length cap2)) rfl) ⟨SM.refl _, rfl⟩) ?_
            refine each_cons (fun x y hS hT hk => d_move (wn rfl) (hT.ev (v := (.int .i64 ((j187 : Nat) : Int))) rfl) ⟨SM.refl _, rfl⟩) ?_
            refine each_cons (fun x y hS hT hk => d_indexAt (j := j187) (wn rfl) (hk 5 rfl) (hk 6 rfl) slc23 hix213 (get_lt hy208) ⟨SM.refl _, rfl⟩) ?_
            refine each_cons (fun x y hS hT hk => d_indexArrP (j := 1) (p := o210 + 1) (wn rfl) (hk 7 rfl) (hT.ev (v := (.int .i64 1)) rfl) arr29 (by omega) (by omega) ⟨SM.refl _, rfl⟩) ?_
            refine each_cons (fun x y hS hT hk => d_load (v := (.int .i64 y207.2)) (wn rfl) (hk 8 rfl) one3 ((range_sm (w := w190.drew) hr212 hS (Nat.lt_of_lt_of_le lt211 b192.size) (hM215B _ lt211)) 1 _ rfl) ⟨SM.refl _, rfl⟩) ?_
            refine each_cons (fun x y hS hT hk => d_assign (wn rfl) (hk 4 rfl) ⟨SM.refl _, rfl⟩) ?_
            refine each_cons (fun x y hS hT hk => d_assign (wn rfl) (hk 9 rfl) ⟨SM.refl _, rfl⟩) ?_
            exact each_nil
          intro f217 a218 w219 hS220 hC221 hA222
          have hA223 : St 161 [(0, (.slice ao es.length cap)), (1, (.int .i64 n)), (2, (.slice ao2 ps.length cap2)), (3, (.int .u32 (U sa))), (4, (.int .u32 (U sb))), (11, (.int .u32 (U (evs (es.take j60))))), (13, (.pointer (some ⟨g175, 0, none⟩))), (14, (.int .i64 ((j187 : Nat) : Int))), (15, (.int .i64 y207.1)), (16, (.int .i64 y207.2))] a218 := hA222.cut _ (fm_cons (hA222.get 0 _ rfl) (fm_cons (hA222.get 1 _ rfl) (fm_cons (hA222.get 2 _ rfl) (fm_cons (hA222.get 3 _ rfl) (fm_cons (hA222.get 4 _ rfl) (fm_cons (hA222.get 11 _ rfl) (fm_cons (hA222.get 13 _ rfl) (fm_cons (hA222.get 14 _ rfl) (fm_cons ((hA222.get 15 _ rfl).trans (hC221 10 (Nat.le_of_ble_eq_true rfl))) (fm_cons ((hA222.get 16 _ rfl).trans (hC221 11 (Nat.le_of_ble_eq_true rfl))) fm_nil))))))))))
          have m224 := m195.sm hS220 hM216
          have b225 := hS220.below b192 b192.size hM215B
          have hr226 := range_sm hr212 hS220 (Nat.lt_of_lt_of_le lt211 b192.size) (hM215B _ lt211)
          refine t_norm ?_
          refine wp_seq ?_
          refine wp_region_lit ?_
          refine q_step hA223 rfl (d_move (wn rfl) (hA223.ev (v := (.int .i64 y207.1)) rfl) ?_)
          intro a227 hA228
          rcases Bool.eq_false_or_eq_true (decide (y207.1 ≥ 0)) with hb229 | hb229
          · skip
            have hq230 := of_decide_eq_true hb229
            refine q_step hA228 rfl (d_bin (wn rfl) (hA228.ev (v := (.int .i64 y207.1)) rfl) (hA228.ev (v := (.int .i64 0)) rfl) (b_ge _ _ y207.1 0 true _ hb229) ?_)
            intro a231 hA232
            refine q_step hA232 rfl (d_move (wn rfl) (hA232.ev (v := (.bool true)) rfl) ?_)
            intro a233 hA234
            refine q_step hA234 rfl (d_move (wy rfl rfl (hA234.get 74 _ rfl)) (hA234.ev (v := (.int .i64 y207.1)) rfl) ?_)
            intro a235 hA236
            rcases Bool.eq_false_or_eq_true (decide (y207.1 < 32)) with hb237 | hb237
            · skip
              have hq238 := of_decide_eq_true hb237
              refine q_step hA236 rfl (d_bin (wy rfl rfl (hA236.get 74 _ rfl)) (hA236.ev (v := (.int .i64 y207.1)) rfl) (hA236.ev (v := (.int .i64 32)) rfl) (b_lt _ _ y207.1 32 true _ hb237) ?_)
              intro a239 hA240
              refine q_step hA240 rfl (d_pickT (wn rfl) (hA240.ev (v := (.bool true)) rfl) (hA240.ev (v := (.bool true)) rfl) ?_)
              intro a241 hA242
              refine q_step hA242 rfl (d_move (wn rfl) (hA242.ev (v := (.bool true)) rfl) ?_)
              intro a243 hA244
              refine q_step hA244 rfl (d_move (wy rfl rfl (hA244.get 78 _ rfl)) (hA244.ev (v := (.int .i64 y207.2)) rfl) ?_)
              intro a245 hA246
              rcases Bool.eq_false_or_eq_true (decide (y207.2 ≥ 0)) with hb247 | hb247
              · skip
                have hq248 := of_decide_eq_true hb247
                refine q_step hA246 rfl (d_bin (wy rfl rfl (hA246.get 78 _ rfl)) (hA246.ev (v := (.int .i64 y207.2)) rfl) (hA246.ev (v := (.int .i64 0)) rfl) (b_ge _ _ y207.2 0 true _ hb247) ?_)
                intro a249 hA250
                refine q_step hA250 rfl (d_pickT (wn rfl) (hA250.ev (v := (.bool true)) rfl) (hA250.ev (v := (.bool true)) rfl) ?_)
                intro a251 hA252
                refine q_step hA252 rfl (d_move (wn rfl) (hA252.ev (v := (.bool true)) rfl) ?_)
                intro a253 hA254
                refine q_step hA254 rfl (d_move (wy rfl rfl (hA254.get 82 _ rfl)) (hA254.ev (v := (.int .i64 y207.2)) rfl) ?_)
                intro a255 hA256
                rcases Bool.eq_false_or_eq_true (decide (y207.2 < 32)) with hb257 | hb257
                · skip
                  have hq258 := of_decide_eq_true hb257
                  refine q_step hA256 rfl (d_bin (wy rfl rfl (hA256.get 82 _ rfl)) (hA256.ev (v := (.int .i64 y207.2)) rfl) (hA256.ev (v := (.int .i64 32)) rfl) (b_lt _ _ y207.2 32 true _ hb257) ?_)
                  intro a259 hA260
                  refine q_step hA260 rfl (d_pickT (wn rfl) (hA260.ev (v := (.bool true)) rfl) (hA260.ev (v := (.bool true)) rfl) ?_)
                  intro a261 hA262
                  refine q_end ?_
                  refine t_norm ?_
                  refine c_true hA262 rfl ?_
                  have bD263 := below_grow b225 ((Grow.refl w219).drew) b225.size
                  obtain ⟨e264, he265, hl266⟩ : ∃ e : Nat, y207.1 = (e : Int) ∧ e < 32 := ⟨y207.1.toNat, by omega, by omega⟩
                  obtain ⟨e267, he268, hl269⟩ : ∃ e : Nat, y207.2 = (e : Int) ∧ e < 32 := ⟨y207.2.toNat, by omega, by omega⟩
                  have hA270 : St 161 [(0, (.slice ao es.length cap)), (1, (.int .i64 n)), (2, (.slice ao2 ps.length cap2)), (3, (.int .u32 (U sa))), (4, (.int .u32 (U sb))), (11, (.int .u32 (U (evs (es.take j60))))), (13, (.pointer (some ⟨g175, 0, none⟩))), (14, (.int .i64 ((j187 : Nat) : Int))), (15, (.int .i64 y207.1)), (16, (.int .i64 y207.2))] a261 := hA262.cut _ (fm_cons (hA262.get 0 _ rfl) (fm_cons (hA262.get 1 _ rfl) (fm_cons (hA262.get 2 _ rfl) (fm_cons (hA262.get 3 _ rfl) (fm_cons (hA262.get 4 _ rfl) (fm_cons (hA262.get 11 _ rfl) (fm_cons (hA262.get 13 _ rfl) (fm_cons (hA262.get 14 _ rfl) (fm_cons (hA262.get 15 _ rfl) (fm_cons (hA262.get 16 _ rfl) fm_nil))))))))))
                  let M271 : Nat → Option (Array Value) := fun _ => none
                  have hM271 : M271 = fun _ => none := rfl
                  clear_value M271
                  have hM271A : ∀ k, M271 k = none := fun k => congrFun hM271 k
                  have hM271B : ∀ k, k < w.heap.size → M271 k = none := fun k _ => hM271A k
                  refine drawnL (S := SM M271) rfl (tabL [cv (.int .i64 y207.1), cv (.pointer (some ⟨g175, e264, none⟩)), cv (.int .u32 (U (row (pairT (ps.take j187)) e264))), cv (.int .i64 y207.2), cv (.int .u32 (U (one e267))), cv (.int .u32 (U ((row (pairT (ps.take j187)) e264) ||| (one e267)))), cv (.pointer (some ⟨g175, e264, none⟩))]) none (fun _ => none) (fun _ _ => True) [6, 5, 0, 1, 2, 3, 4] [] mixedY SM.refl SM.trans hA270 (by kernel_rfl) (by kernel_rfl) (fun i v u w h => by cases h) ?_ ?_
                  · skip
                    refine eachD_cons (.inl ⟨nofun, rfl, fun x y hS hT hk => d_move (wn rfl) (hT.ev (v := (.int .i64 y207.1)) rfl) ⟨SM.refl _, rfl⟩⟩) ?_
                    refine eachD_cons (.inl ⟨nofun, rfl, fun x y hS hT hk => d_indexArrP (j := e264) (p := e264) (wn rfl) (hT.ev (v := (.pointer (some ⟨g175, 0, none⟩))) rfl) ((show x.eval (.tmp 86) = .int .i64 y207.1 from (hk 0 rfl)).trans (congrArg (Value.int .i64) he265)) arr28 (by omega) (by omega) ⟨SM.refl _, rfl⟩⟩) ?_
                    refine eachD_cons (.inl ⟨nofun, rfl, fun x y hS hT hk => d_load (v := (.int .u32 (U (row (pairT (ps.take j187)) e264)))) (wn rfl) (hk 1 rfl) one25 ((Blk.sm (w := w219.drew) m224 hS (hM271A _)).cell (cell32 (by omega))) ⟨SM.refl _, rfl⟩⟩) ?_
                    refine eachD_cons (.inl ⟨nofun, rfl, fun x y hS hT hk => d_move (wn rfl) (hT.ev (v := (.int .i64 y207.2)) rfl) ⟨SM.refl _, rfl⟩⟩) ?_
                    refine eachD_cons (.inl ⟨nofun, rfl, fun x y hS hT hk => d_bin (wn rfl) (hT.ev (v := (.int .u32 1)) rfl) ((show x.eval (.tmp 89) = .int .i64 y207.2 from (hk 3 rfl)).trans (congrArg (Value.int .i64) he268)) (b_shl _ _ e267 _ (by omega)) ⟨SM.refl _, rfl⟩⟩) ?_
                    refine eachD_cons (.inl ⟨nofun, rfl, fun x y hS hT hk => d_bin (wn rfl) (hk 2 rfl) (hk 4 rfl) (b_or32 _ _ (row (pairT (ps.take j187)) e264) (one e267) _) ⟨SM.refl _, rfl⟩⟩) ?_
                    refine eachD_cons (.inl ⟨nofun, rfl, fun x y hS hT hk => d_indexArrP (j := e264) (p := e264) (wn rfl) (hT.ev (v := (.pointer (some ⟨g175, 0, none⟩))) rfl) ((show x.eval (.tmp 86) = .int .i64 y207.1 from (hk 0 rfl)).trans (congrArg (Value.int .i64) he265)) arr28 (by omega) (by omega) ⟨SM.refl _, rfl⟩⟩) ?_
                    exact eachD_one
                  rintro a272 w273 hA274 ⟨hS276, hC277⟩
                  have hA278 : St 161 [(0, (.slice ao es.length cap)), (1, (.int .i64 n)), (2, (.slice ao2 ps.length cap2)), (3, (.int .u32 (U sa))), (4, (.int .u32 (U sb))), (11, (.int .u32 (U (evs (es.take j60))))), (13, (.pointer (some ⟨g175, 0, none⟩))), (14, (.int .i64 ((j187 : Nat) : Int))), (91, (.int .u32 (U ((row (pairT (ps.take j187)) e264) ||| (one e267))))), (92, (.pointer (some ⟨g175, e264, none⟩)))] a272 := hA274.cut _ (fm_cons (hA274.get 0 _ rfl) (fm_cons (hA274.get 1 _ rfl) (fm_cons (hA274.get 2 _ rfl) (fm_cons (hA274.get 3 _ rfl) (fm_cons (hA274.get 4 _ rfl) (fm_cons (hA274.get 11 _ rfl) (fm_cons (hA274.get 13 _ rfl) (fm_cons (hA274.get 14 _ rfl) (fm_cons (hC277 5 (Nat.le_of_ble_eq_true rfl)) (fm_cons (hC277 6 (Nat.le_of_ble_eq_true rfl)) fm_nil))))))))))
                  have hG279 : Grow w219 w273 := Grow.trans ((Grow.refl _).drew) (SM.grown (by rw [hM271] at hS276; exact hS276))
                  have m280 := m224.grow hG279
                  have b281 := below_grow b225 hG279 b225.size
                  refine d_store (v := (.int .u32 (U ((row (pairT (ps.take j187)) e264) ||| (one e267))))) (wn rfl) (hA278.ev (v := (.pointer (some ⟨g175, e264, none⟩))) rfl) (hA278.ev (v := (.int .u32 (U ((row (pairT (ps.take j187)) e264) ||| (one e267))))) rfl) one25 rfl m280 (by rw [cells_size]; omega) ?_
                  intro w282 hU283 m284
                  rw [cells_set] at m284
                  have b285 := hU283.below b281 ge180
                  refine i_norm ?_
                  refine t_norm ?_
                  refine wp_region_lit ?_
                  refine q_step hA278 rfl (d_move (wn rfl) (hA278.ev (v := (.int .i64 ((j187 : Nat) : Int))) rfl) ?_)
                  intro a286 hA287
                  refine q_step hA287 rfl (d_bin (wn rfl) (hA287.ev (v := (.int .i64 ((j187 : Nat) : Int))) rfl) (hA287.ev (v := (.int .i64 1)) rfl) (b_add _ _ ((j187 : Nat) : Int) 1 _ (by omega) (by omega)) ?_)
                  intro a288 hA289
                  refine q_step hA289 rfl (d_assign (wn rfl) (hA289.ev (v := (.int .i64 (((j187 : Nat) : Int) + 1))) rfl) ?_)
                  intro a290 hA291
                  refine q_end ?_
                  refine t_norm ?_
                  have m292 : Blk w282 g175 (cells (pairT (ps.take (j187 + 1)))) 28 := by rw [pairT_take hy208, show y207 = (y207.1, y207.2) from rfl, he265, he268, pairS_yes (evB_nat (by omega)) (evB_nat (by omega))]; exact m284
                  exact ⟨ps.length - (j187 + 1), (by rw [hm193]; omega), j187 + 1, rfl, (by omega), hA291.cut _ (fm_cons (hA291.get 0 _ rfl) (fm_cons (hA291.get 1 _ rfl) (fm_cons (hA291.get 2 _ rfl) (fm_cons (hA291.get 3 _ rfl) (fm_cons (hA291.get 4 _ rfl) (fm_cons (hA291.get 11 _ rfl) (fm_cons (hA291.get 13 _ rfl) (fm_cons ((hA291.get 14 _ rfl).trans (congrArg (Value.int .i64) (by omega))) fm_nil)))))))), b285, m292⟩
                · skip
                  have hq293 := of_decide_eq_false hb257
                  refine q_step hA256 rfl (d_bin (wy rfl rfl (hA256.get 82 _ rfl)) (hA256.ev (v := (.int .i64 y207.2)) rfl) (hA256.ev (v := (.int .i64 32)) rfl) (b_lt _ _ y207.2 32 false _ hb257) ?_)
                  intro a294 hA295
                  refine q_step hA295 rfl (d_pickT (wn rfl) (hA295.ev (v := (.bool true)) rfl) (hA295.ev (v := (.bool false)) rfl) ?_)
                  intro a296 hA297
                  refine q_end ?_
                  refine t_norm ?_
                  refine c_false hA297 rfl ?_
                  refine wp_skip ?_
                  refine i_norm ?_
                  refine t_norm ?_
                  refine wp_region_lit ?_
                  refine q_step hA297 rfl (d_move (wn rfl) (hA297.ev (v := (.int .i64 ((j187 : Nat) : Int))) rfl) ?_)
                  intro a298 hA299
                  refine q_step hA299 rfl (d_bin (wn rfl) (hA299.ev (v := (.int .i64 ((j187 : Nat) : Int))) rfl) (hA299.ev (v := (.int .i64 1)) rfl) (b_add _ _ ((j187 : Nat) : Int) 1 _ (by omega) (by omega)) ?_)
                  intro a300 hA301
                  refine q_step hA301 rfl (d_assign (wn rfl) (hA301.ev (v := (.int .i64 (((j187 : Nat) : Int) + 1))) rfl) ?_)
                  intro a302 hA303
                  refine q_end ?_
                  refine t_norm ?_
                  have m304 : Blk w219 g175 (cells (pairT (ps.take (j187 + 1)))) 28 := by rw [pairT_take hy208, show y207 = (y207.1, y207.2) from rfl, pairS_no (evB_both (by omega))]; exact m224
                  exact ⟨ps.length - (j187 + 1), (by rw [hm193]; omega), j187 + 1, rfl, (by omega), hA303.cut _ (fm_cons (hA303.get 0 _ rfl) (fm_cons (hA303.get 1 _ rfl) (fm_cons (hA303.get 2 _ rfl) (fm_cons (hA303.get 3 _ rfl) (fm_cons (hA303.get 4 _ rfl) (fm_cons (hA303.get 11 _ rfl) (fm_cons (hA303.get 13 _ rfl) (fm_cons ((hA303.get 14 _ rfl).trans (congrArg (Value.int .i64) (by omega))) fm_nil)))))))), b225, m304⟩
              · skip
                have hq305 := of_decide_eq_false hb247
                refine q_step hA246 rfl (d_bin (wy rfl rfl (hA246.get 78 _ rfl)) (hA246.ev (v := (.int .i64 y207.2)) rfl) (hA246.ev (v := (.int .i64 0)) rfl) (b_ge _ _ y207.2 0 false _ hb247) ?_)
                intro a306 hA307
                refine q_step hA307 rfl (d_pickT (wn rfl) (hA307.ev (v := (.bool true)) rfl) (hA307.ev (v := (.bool false)) rfl) ?_)
                intro a308 hA309
                refine q_step hA309 rfl (d_move (wn rfl) (hA309.ev (v := (.bool false)) rfl) ?_)
                intro a310 hA311
                refine q_step hA311 rfl (does_not (wno rfl rfl (.inl (hA311.get 82 _ rfl))) ?_)
                intro a312 hA313
                refine q_step hA313 rfl (does_not (wno rfl rfl (.inl (hA313.get 82 _ rfl))) ?_)
                intro a314 hA315
                refine q_step hA315 rfl (d_pickF (wn rfl) (hA315.ev (v := (.bool false)) rfl) (hA315.ev (v := (.bool false)) rfl) ?_)
                intro a316 hA317
                refine q_end ?_
                refine t_norm ?_
                refine c_false hA317 rfl ?_
                refine wp_skip ?_
                refine i_norm ?_
                refine t_norm ?_
                refine wp_region_lit ?_
                refine q_step hA317 rfl (d_move (wn rfl) (hA317.ev (v := (.int .i64 ((j187 : Nat) : Int))) rfl) ?_)
                intro a318 hA319
                refine q_step hA319 rfl (d_bin (wn rfl) (hA319.ev (v := (.int .i64 ((j187 : Nat) : Int))) rfl) (hA319.ev (v := (.int .i64 1)) rfl) (b_add _ _ ((j187 : Nat) : Int) 1 _ (by omega) (by omega)) ?_)
                intro a320 hA321
                refine q_step hA321 rfl (d_assign (wn rfl) (hA321.ev (v := (.int .i64 (((j187 : Nat) : Int) + 1))) rfl) ?_)
                intro a322 hA323
                refine q_end ?_
                refine t_norm ?_
                have m324 : Blk w219 g175 (cells (pairT (ps.take (j187 + 1)))) 28 := by rw [pairT_take hy208, show y207 = (y207.1, y207.2) from rfl, pairS_no (evB_both (by omega))]; exact m224
                exact ⟨ps.length - (j187 + 1), (by rw [hm193]; omega), j187 + 1, rfl, (by omega), hA323.cut _ (fm_cons (hA323.get 0 _ rfl) (fm_cons (hA323.get 1 _ rfl) (fm_cons (hA323.get 2 _ rfl) (fm_cons (hA323.get 3 _ rfl) (fm_cons (hA323.get 4 _ rfl) (fm_cons (hA323.get 11 _ rfl) (fm_cons (hA323.get 13 _ rfl) (fm_cons ((hA323.get 14 _ rfl).trans (congrArg (Value.int .i64) (by omega))) fm_nil)))))))), b225, m324⟩
            · skip
              have hq325 := of_decide_eq_false hb237
              refine q_step hA236 rfl (d_bin (wy rfl rfl (hA236.get 74 _ rfl)) (hA236.ev (v := (.int .i64 y207.1)) rfl) (hA236.ev (v := (.int .i64 32)) rfl) (b_lt _ _ y207.1 32 false _ hb237) ?_)
              intro a326 hA327
              refine q_step hA327 rfl (d_pickT (wn rfl) (hA327.ev (v := (.bool true)) rfl) (hA327.ev (v := (.bool false)) rfl) ?_)
              intro a328 hA329
              refine q_step hA329 rfl (d_move (wn rfl) (hA329.ev (v := (.bool false)) rfl) ?_)
              intro a330 hA331
              refine q_step hA331 rfl (does_not (wno rfl rfl (.inl (hA331.get 78 _ rfl))) ?_)
              intro a332 hA333
              refine q_step hA333 rfl (does_not (wno rfl rfl (.inl (hA333.get 78 _ rfl))) ?_)
              intro a334 hA335
              refine q_step hA335 rfl (d_pickF (wn rfl) (hA335.ev (v := (.bool false)) rfl) (hA335.ev (v := (.bool false)) rfl) ?_)
              intro a336 hA337
              refine q_step hA337 rfl (d_move (wn rfl) (hA337.ev (v := (.bool false)) rfl) ?_)
              intro a338 hA339
              refine q_step hA339 rfl (does_not (wno rfl rfl (.inl (hA339.get 82 _ rfl))) ?_)
              intro a340 hA341
              refine q_step hA341 rfl (does_not (wno rfl rfl (.inl (hA341.get 82 _ rfl))) ?_)
              intro a342 hA343
              refine q_step hA343 rfl (d_pickF (wn rfl) (hA343.ev (v := (.bool false)) rfl) (hA343.ev (v := (.bool false)) rfl) ?_)
              intro a344 hA345
              refine q_end ?_
              refine t_norm ?_
              refine c_false hA345 rfl ?_
              refine wp_skip ?_
              refine i_norm ?_
              refine t_norm ?_
              refine wp_region_lit ?_
              refine q_step hA345 rfl (d_move (wn rfl) (hA345.ev (v := (.int .i64 ((j187 : Nat) : Int))) rfl) ?_)
              intro a346 hA347
              refine q_step hA347 rfl (d_bin (wn rfl) (hA347.ev (v := (.int .i64 ((j187 : Nat) : Int))) rfl) (hA347.ev (v := (.int .i64 1)) rfl) (b_add _ _ ((j187 : Nat) : Int) 1 _ (by omega) (by omega)) ?_)
              intro a348 hA349
              refine q_step hA349 rfl (d_assign (wn rfl) (hA349.ev (v := (.int .i64 (((j187 : Nat) : Int) + 1))) rfl) ?_)
              intro a350 hA351
              refine q_end ?_
              refine t_norm ?_
              have m352 : Blk w219 g175 (cells (pairT (ps.take (j187 + 1)))) 28 := by rw [pairT_take hy208, show y207 = (y207.1, y207.2) from rfl, pairS_no (evB_both (by omega))]; exact m224
              exact ⟨ps.length - (j187 + 1), (by rw [hm193]; omega), j187 + 1, rfl, (by omega), hA351.cut _ (fm_cons (hA351.get 0 _ rfl) (fm_cons (hA351.get 1 _ rfl) (fm_cons (hA351.get 2 _ rfl) (fm_cons (hA351.get 3 _ rfl) (fm_cons (hA351.get 4 _ rfl) (fm_cons (hA351.get 11 _ rfl) (fm_cons (hA351.get 13 _ rfl) (fm_cons ((hA351.get 14 _ rfl).trans (congrArg (Value.int .i64) (by omega))) fm_nil)))))))), b225, m352⟩
          · skip
            have hq353 := of_decide_eq_false hb229
            refine q_step hA228 rfl (d_bin (wn rfl) (hA228.ev (v := (.int .i64 y207.1)) rfl) (hA228.ev (v := (.int .i64 0)) rfl) (b_ge _ _ y207.1 0 false _ hb229) ?_)
            intro a354 hA355
            refine q_step hA355 rfl (d_move (wn rfl) (hA355.ev (v := (.bool false)) rfl) ?_)
            intro a356 hA357
            refine q_step hA357 rfl (does_not (wno rfl rfl (.inl (hA357.get 74 _ rfl))) ?_)
            intro a358 hA359
            refine q_step hA359 rfl (does_not (wno rfl rfl (.inl (hA359.get 74 _ rfl))) ?_)
            intro a360 hA361
            refine q_step hA361 rfl (d_pickF (wn rfl) (hA361.ev (v := (.bool false)) rfl) (hA361.ev (v := (.bool false)) rfl) ?_)
            intro a362 hA363
            refine q_step hA363 rfl (d_move (wn rfl) (hA363.ev (v := (.bool false)) rfl) ?_)
            intro a364 hA365
            refine q_step hA365 rfl (does_not (wno rfl rfl (.inl (hA365.get 78 _ rfl))) ?_)
            intro a366 hA367
            refine q_step hA367 rfl (does_not (wno rfl rfl (.inl (hA367.get 78 _ rfl))) ?_)
            intro a368 hA369
            refine q_step hA369 rfl (d_pickF (wn rfl) (hA369.ev (v := (.bool false)) rfl) (hA369.ev (v := (.bool false)) rfl) ?_)
            intro a370 hA371
            refine q_step hA371 rfl (d_move (wn rfl) (hA371.ev (v := (.bool false)) rfl) ?_)
            intro a372 hA373
            refine q_step hA373 rfl (does_not (wno rfl rfl (.inl (hA373.get 82 _ rfl))) ?_)
            intro a374 hA375
            refine q_step hA375 rfl (does_not (wno rfl rfl (.inl (hA375.get 82 _ rfl))) ?_)
            intro a376 hA377
            refine q_step hA377 rfl (d_pickF (wn rfl) (hA377.ev (v := (.bool false)) rfl) (hA377.ev (v := (.bool false)) rfl) ?_)
            intro a378 hA379
            refine q_end ?_
            refine t_norm ?_
            refine c_false hA379 rfl ?_
            refine wp_skip ?_
            refine i_norm ?_
            refine t_norm ?_
            refine wp_region_lit ?_
            refine q_step hA379 rfl (d_move (wn rfl) (hA379.ev (v := (.int .i64 ((j187 : Nat) : Int))) rfl) ?_)
            intro a380 hA381
            refine q_step hA381 rfl (d_bin (wn rfl) (hA381.ev (v := (.int .i64 ((j187 : Nat) : Int))) rfl) (hA381.ev (v := (.int .i64 1)) rfl) (b_add _ _ ((j187 : Nat) : Int) 1 _ (by omega) (by omega)) ?_)
            intro a382 hA383
            refine q_step hA383 rfl (d_assign (wn rfl) (hA383.ev (v := (.int .i64 (((j187 : Nat) : Int) + 1))) rfl) ?_)
            intro a384 hA385
            refine q_end ?_
            refine t_norm ?_
            have m386 : Blk w219 g175 (cells (pairT (ps.take (j187 + 1)))) 28 := by rw [pairT_take hy208, show y207 = (y207.1, y207.2) from rfl, pairS_no (evB_both (by omega))]; exact m224
            exact ⟨ps.length - (j187 + 1), (by rw [hm193]; omega), j187 + 1, rfl, (by omega), hA385.cut _ (fm_cons (hA385.get 0 _ rfl) (fm_cons (hA385.get 1 _ rfl) (fm_cons (hA385.get 2 _ rfl) (fm_cons (hA385.get 3 _ rfl) (fm_cons (hA385.get 4 _ rfl) (fm_cons (hA385.get 11 _ rfl) (fm_cons (hA385.get 13 _ rfl) (fm_cons ((hA385.get 14 _ rfl).trans (congrArg (Value.int .i64) (by omega))) fm_nil)))))))), b225, m386⟩
        · skip
          have hq387 := of_decide_eq_false hb202
          refine q_step hA201 rfl (d_bin (wn rfl) (hA201.ev (v := (.int .i64 ((j187 : Nat) : Int))) rfl) (hA201.ev (v := (.int .i64 ((ps.length : Nat) : Int))) rfl) (b_lt _ _ ((j187 : Nat) : Int) ((ps.length : Nat) : Int) false _ hb202) ?_)
          intro a388 hA389
          refine q_end ?_
          refine t_norm ?_
          refine c_false hA389 rfl ?_
          refine wp_exit ?_
          refine t_exit ?_
          refine t_exit ?_
          refine i_here ?_
          refine t_norm ?_
          refine wp_seq ?_
          refine wp_region_lit ?_
          refine q_step hA389 rfl (d_assign (wn rfl) (hA389.ev (v := (.int .u32 0)) rfl) ?_)
          intro a390 hA391
          refine q_end ?_
          refine t_norm ?_
          refine wp_seq ?_
          refine wp_seq ?_
          refine wp_region_lit ?_
          refine q_step hA391 rfl (d_assign (wn rfl) (hA391.ev (v := (.int .i64 0)) rfl) ?_)
          intro a392 hA393
          refine q_end ?_
          refine t_norm ?_
          refine wp_block ?_
          refine loop_by (fun m395 a396 w397 => ∃ j394 : Nat, m395 = 32 - j394 ∧ (j394 ≤ 32 ∧ (((j394 : Nat) : Int) ≤ n ∨ j394 = 0)) ∧ St 161 [(0, (.slice ao es.length cap)), (1, (.int .i64 n)), (2, (.slice ao2 ps.length cap2)), (3, (.int .u32 (U sa))), (4, (.int .u32 (U sb))), (11, (.int .u32 (U (evs (es.take j60))))), (13, (.pointer (some ⟨g175, 0, none⟩))), (17, (.int .u32 (U (fst ((j394 : Nat) : Int))))), (18, (.int .i64 ((j394 : Nat) : Int)))] a396 ∧ Below w.heap.size w w397 ∧ Blk w397 g175 (cells (pairT (ps.take j187))) 28) (32 - 0) ⟨0, rfl, ⟨Nat.zero_le _, .inr rfl⟩, hA393.cut _ (fm_cons (hA393.get 0 _ rfl) (fm_cons (hA393.get 1 _ rfl) (fm_cons (hA393.get 2 _ rfl) (fm_cons (hA393.get 3 _ rfl) (fm_cons (hA393.get 4 _ rfl) (fm_cons (hA393.get 11 _ rfl) (fm_cons (hA393.get 13 _ rfl) (fm_cons ((hA393.get 17 _ rfl).trans (congrArg (Value.int .u32) (fst0))) (fm_cons ((hA393.get 18 _ rfl).trans (congrArg (Value.int .i64) (by omega))) fm_nil))))))))), b192, m195⟩ ?_
          rintro m395 a396 w397 ⟨j394, hm400, hc401, hA398, b399, m402⟩
          refine wp_seq ?_
          refine wp_seq ?_
          refine wp_region_lit ?_
          refine q_step hA398 rfl (d_move (wn rfl) (hA398.ev (v := (.int .i64 ((j394 : Nat) : Int))) rfl) ?_)
          intro a403 hA404
          rcases Bool.eq_false_or_eq_true (decide (((j394 : Nat) : Int) < 32)) with hb405 | hb405
          · skip
            have hq406 := of_decide_eq_true hb405
            refine q_step hA404 rfl (d_bin (wn rfl) (hA404.ev (v := (.int .i64 ((j394 : Nat) : Int))) rfl) (hA404.ev (v := (.int .i64 32)) rfl) (b_lt _ _ ((j394 : Nat) : Int) 32 true _ hb405) ?_)
            intro a407 hA408
            refine q_step hA408 rfl (d_move (wn rfl) (hA408.ev (v := (.bool true)) rfl) ?_)
            intro a409 hA410
            refine q_step hA410 rfl (d_move (wy rfl rfl (hA410.get 95 _ rfl)) (hA410.ev (v := (.int .i64 ((j394 : Nat) : Int))) rfl) ?_)
            intro a411 hA412
            refine q_step hA412 rfl (d_move (wy rfl rfl (hA412.get 95 _ rfl)) (hA412.ev (v := (.int .i64 n)) rfl) ?_)
            intro a413 hA414
            rcases Bool.eq_false_or_eq_true (decide (((j394 : Nat) : Int) < n)) with hb415 | hb415
            · skip
              have hq416 := of_decide_eq_true hb415
              refine q_step hA414 rfl (d_bin (wy rfl rfl (hA414.get 95 _ rfl)) (hA414.ev (v := (.int .i64 ((j394 : Nat) : Int))) rfl) (hA414.ev (v := (.int .i64 n)) rfl) (b_lt _ _ ((j394 : Nat) : Int) n true _ hb415) ?_)
              intro a417 hA418
              refine q_step hA418 rfl (d_pickT (wn rfl) (hA418.ev (v := (.bool true)) rfl) (hA418.ev (v := (.bool true)) rfl) ?_)
              intro a419 hA420
              refine q_end ?_
              refine t_norm ?_
              refine c_true hA420 rfl ?_
              refine wp_skip ?_
              refine t_norm ?_
              refine wp_seq ?_
              refine wp_block ?_
              refine wp_region_lit ?_
              refine q_step hA420 rfl (d_move (wn rfl) (hA420.ev (v := (.int .u32 (U (fst ((j394 : Nat) : Int))))) rfl) ?_)
              intro a421 hA422
              refine q_step hA422 rfl (d_move (wn rfl) (hA422.ev (v := (.int .i64 ((j394 : Nat) : Int))) rfl) ?_)
              intro a423 hA424
              refine q_step hA424 rfl (d_bin (wn rfl) (hA424.ev (v := (.int .u32 1)) rfl) (hA424.ev (v := (.int .i64 ((j394 : Nat) : Int))) rfl) (b_shl _ _ j394 _ (by omega)) ?_)
              intro a425 hA426
              refine q_step hA426 rfl (d_bin (wn rfl) (hA426.ev (v := (.int .u32 (U (fst ((j394 : Nat) : Int))))) rfl) (hA426.ev (v := (.int .u32 (U (one j394)))) rfl) (b_or32 _ _ (fst ((j394 : Nat) : Int)) (one j394) _) ?_)
              intro a427 hA428
              refine q_step hA428 rfl (d_assign (wn rfl) (hA428.ev (v := (.int .u32 (U ((fst ((j394 : Nat) : Int)) ||| (one j394))))) rfl) ?_)
              intro a429 hA430
              refine q_end ?_
              refine i_norm ?_
              refine t_norm ?_
              refine wp_region_lit ?_
              refine q_step hA430 rfl (d_move (wn rfl) (hA430.ev (v := (.int .i64 ((j394 : Nat) : Int))) rfl) ?_)
              intro a431 hA432
              refine q_step hA432 rfl (d_bin (wn rfl) (hA432.ev (v := (.int .i64 ((j394 : Nat) : Int))) rfl) (hA432.ev (v := (.int .i64 1)) rfl) (b_add _ _ ((j394 : Nat) : Int) 1 _ (by omega) (by omega)) ?_)
              intro a433 hA434
              refine q_step hA434 rfl (d_assign (wn rfl) (hA434.ev (v := (.int .i64 (((j394 : Nat) : Int) + 1))) rfl) ?_)
              intro a435 hA436
              refine q_end ?_
              refine t_norm ?_
              exact ⟨32 - (j394 + 1), (by rw [hm400]; omega), j394 + 1, rfl, ⟨by omega, .inl (by omega)⟩, hA436.cut _ (fm_cons (hA436.get 0 _ rfl) (fm_cons (hA436.get 1 _ rfl) (fm_cons (hA436.get 2 _ rfl) (fm_cons (hA436.get 3 _ rfl) (fm_cons (hA436.get 4 _ rfl) (fm_cons (hA436.get 11 _ rfl) (fm_cons (hA436.get 13 _ rfl) (fm_cons ((hA436.get 17 _ rfl).trans (congrArg (Value.int .u32) (by rw [fst_step j394 (by omega)]))) (fm_cons ((hA436.get 18 _ rfl).trans (congrArg (Value.int .i64) (by omega))) fm_nil))))))))), b399, m402⟩
            · skip
              have hq437 := of_decide_eq_false hb415
              refine q_step hA414 rfl (d_bin (wy rfl rfl (hA414.get 95 _ rfl)) (hA414.ev (v := (.int .i64 ((j394 : Nat) : Int))) rfl) (hA414.ev (v := (.int .i64 n)) rfl) (b_lt _ _ ((j394 : Nat) : Int) n false _ hb415) ?_)
              intro a438 hA439
              refine q_step hA439 rfl (d_pickT (wn rfl) (hA439.ev (v := (.bool true)) rfl) (hA439.ev (v := (.bool false)) rfl) ?_)
              intro a440 hA441
              refine q_end ?_
              refine t_norm ?_
              refine c_false hA441 rfl ?_
              refine wp_exit ?_
              refine t_exit ?_
              refine t_exit ?_
              refine i_here ?_
              refine t_norm ?_
              refine wp_seq ?_
              refine wp_region_lit ?_
              refine q_step hA441 rfl (d_assign (wn rfl) (hA441.ev (v := (.slice none 0 0)) rfl) ?_)
              intro a442 hA443
              refine q_end ?_
              refine t_norm ?_
              refine wp_seq ?_
              refine wp_seq ?_
              refine wp_region_lit ?_
              refine q_step hA443 rfl (d_assign (wn rfl) (hA443.ev (v := (.int .i64 0)) rfl) ?_)
              intro a444 hA445
              refine q_end ?_
              refine t_norm ?_
              refine wp_block ?_
              refine loop_by (fun m a' w' => ∃ (j : Nat) (v : Value), m = 32 - j ∧ j ≤ 32 ∧ St 161 [(0, (.slice ao es.length cap)), (1, (.int .i64 n)), (2, (.slice ao2 ps.length cap2)), (3, (.int .u32 (U sa))), (4, (.int .u32 (U sb))), (11, (.int .u32 (U (evs (es.take j60))))), (13, (.pointer (some ⟨g175, 0, none⟩))), (17, (.int .u32 (U (fst ((j394 : Nat) : Int))))), (19, v), (20, (.int .i64 ((j : Nat) : Int)))] a' ∧ Below w.heap.size w w' ∧ Blk w' g175 (cells (pairT (ps.take j187))) 28 ∧ w'.ownsRow w.heap.size 3 1 v (lst sa j).length (nums (lst sa j)) ∧ v.ownBlock ≠ some g175) (32 - 0) ⟨0, .slice none 0 0, rfl, Nat.zero_le _, hA445.cut _ (fm_cons (hA445.get 0 _ rfl) (fm_cons (hA445.get 1 _ rfl) (fm_cons (hA445.get 2 _ rfl) (fm_cons (hA445.get 3 _ rfl) (fm_cons (hA445.get 4 _ rfl) (fm_cons (hA445.get 11 _ rfl) (fm_cons (hA445.get 13 _ rfl) (fm_cons (hA445.get 17 _ rfl) (fm_cons (hA445.get 19 _ rfl) (fm_cons (hA445.get 20 _ rfl) fm_nil)))))))))), b399, m402, (by rw [lst_zero]; exact own_nums _ _ _ _), nofun⟩ ?_
              rintro m446 a447 w448 ⟨j449, v450, hm451, hj452, hA453, b454, m455, ho456, off457⟩
              have hll := lst_len sa j449
              refine wp_seq ?_
              refine wp_seq ?_
              refine wp_region_lit ?_
              refine q_step hA453 rfl (d_move (wn rfl) (hA453.ev (v := (.int .i64 ((j449 : Nat) : Int))) rfl) ?_)
              intro a458 hA459
              rcases Bool.eq_false_or_eq_true (decide (((j449 : Nat) : Int) < 32)) with hb460 | hb460
              · skip
                have hq461 := of_decide_eq_true hb460
                refine q_step hA459 rfl (d_bin (wn rfl) (hA459.ev (v := (.int .i64 ((j449 : Nat) : Int))) rfl) (hA459.ev (v := (.int .i64 32)) rfl) (b_lt _ _ ((j449 : Nat) : Int) 32 true _ hb460) ?_)
                intro a462 hA463
                refine q_end ?_
                refine t_norm ?_
                refine c_true hA463 rfl ?_
                refine wp_skip ?_
                refine t_norm ?_
                refine wp_seq ?_
                refine wp_block ?_
                refine wp_seq ?_
                refine wp_region_lit ?_
                refine q_step hA463 rfl (d_move (wn rfl) (hA463.ev (v := (.int .u32 (U sa))) rfl) ?_)
                intro a464 hA465
                refine q_step hA465 rfl (d_move (wn rfl) (hA465.ev (v := (.int .i64 ((j449 : Nat) : Int))) rfl) ?_)
                intro a466 hA467
                refine q_step hA467 rfl (d_bin (wn rfl) (hA467.ev (v := (.int .u32 (U sa))) rfl) (hA467.ev (v := (.int .i64 ((j449 : Nat) : Int))) rfl) (b_shr _ _ sa j449 _ (by omega)) ?_)
                intro a468 hA469
                refine q_step hA469 rfl (d_bin (wn rfl) (hA469.ev (v := (.int .u32 (U (sa >>> j449)))) rfl) (hA469.ev (v := (.int .u32 1)) rfl) (b_and1 _ _ (sa >>> j449) _) ?_)
                intro a470 hA471
                rcases Bool.eq_false_or_eq_true (inn sa j449) with hb472 | hb472
                · skip
                  refine q_step hA471 rfl (d_bin (wn rfl) (hA471.ev (v := (.int .u32 (U ((sa >>> j449) &&& 1#32)))) rfl) (hA471.ev (v := (.int .u32 1)) rfl) (b_eq _ _ (U ((sa >>> j449) &&& 1#32)) 1 true _ ((in_bit sa j449).trans hb472)) ?_)
                  intro a474 hA475
                  refine q_end ?_
                  refine t_norm ?_
                  refine c_true hA475 rfl ?_
                  refine wp_region_lit ?_
                  refine q_step hA475 rfl (d_move (wn rfl) (hA475.ev (v := v450) rfl) ?_)
                  intro a476 hA477
                  refine q_step hA477 rfl (d_move (wn rfl) (hA477.ev (v := (.int .i64 ((j449 : Nat) : Int))) rfl) ?_)
                  intro a478 hA479
                  refine q_step hA479 rfl (d_slice1 (wn rfl) (hA479.ev (v := (.int .i64 ((j449 : Nat) : Int))) rfl) elm22 rfl (by decide) ?_)
                  intro g480 w481 eg482 hG483 (m484 : Blk w481 g480 #[.int .i64 ((j449 : Nat) : Int)] 3)
                  have ge485 : w.heap.size ≤ g480 := eg482 ▸ b454.size
                  have n486 : g175 ≠ g480 := fun h => Nat.lt_irrefl _ ((h.trans eg482) ▸ m455.lt)
                  have off487 := own_new ho456 eg482
                  have m488 := m455.grow hG483
                  have b489 := below_grow b454 hG483 b454.size
                  have ho490 := own_grow hG483 ho456
                  intro a491 hA492
                  refine q_step hA492 rfl (d_append (wn rfl) (hA492.ev (v := v450) rfl) (hA492.ev (v := (.slice (some ⟨g480, 0, none⟩) 1 1)) rfl) elm22 ho490 m484 rfl rfl (by omega) (by decide) b489.size ?_)
                  intro v493 w494 ho495 hg496 hl497
                  have b498 := below_by b489 hg496 b489.size (fun k hk => (own_lt ho490 k hk).1)
                  have m499 := m488.by hg496 off457
                  have off500 := lies_ne hl497 off457 m488.lt
                  intro a501 hA502
                  refine q_step hA502 rfl (d_assign (wn rfl) (hA502.ev (v := v493) rfl) ?_)
                  intro a503 hA504
                  refine q_end ?_
                  refine i_norm ?_
                  refine t_norm ?_
                  refine wp_region_lit ?_
                  refine q_step hA504 rfl (d_move (wn rfl) (hA504.ev (v := (.int .i64 ((j449 : Nat) : Int))) rfl) ?_)
                  intro a505 hA506
                  refine q_step hA506 rfl (d_bin (wn rfl) (hA506.ev (v := (.int .i64 ((j449 : Nat) : Int))) rfl) (hA506.ev (v := (.int .i64 1)) rfl) (b_add _ _ ((j449 : Nat) : Int) 1 _ (by omega) (by omega)) ?_)
                  intro a507 hA508
                  refine q_step hA508 rfl (d_assign (wn rfl) (hA508.ev (v := (.int .i64 (((j449 : Nat) : Int) + 1))) rfl) ?_)
                  intro a509 hA510
                  refine q_end ?_
                  refine t_norm ?_
                  exact ⟨32 - (j449 + 1), (by rw [hm451]; omega), j449 + 1, v493, rfl, (by omega), hA510.cut _ (fm_cons (hA510.get 0 _ rfl) (fm_cons (hA510.get 1 _ rfl) (fm_cons (hA510.get 2 _ rfl) (fm_cons (hA510.get 3 _ rfl) (fm_cons (hA510.get 4 _ rfl) (fm_cons (hA510.get 11 _ rfl) (fm_cons (hA510.get 13 _ rfl) (fm_cons (hA510.get 17 _ rfl) (fm_cons (hA510.get 19 _ rfl) (fm_cons ((hA510.get 20 _ rfl).trans (congrArg (Value.int .i64) (by omega))) fm_nil)))))))))), b498, m499, (by rw [lst_yes hb472, List.length_append, nums_snoc]; exact ho495), off500⟩
                · skip
                  refine q_step hA471 rfl (d_bin (wn rfl) (hA471.ev (v := (.int .u32 (U ((sa >>> j449) &&& 1#32)))) rfl) (hA471.ev (v := (.int .u32 1)) rfl) (b_eq _ _ (U ((sa >>> j449) &&& 1#32)) 1 false _ ((in_bit sa j449).trans hb472)) ?_)
                  intro a512 hA513
                  refine q_end ?_
                  refine t_norm ?_
                  refine c_false hA513 rfl ?_
                  refine wp_skip ?_
                  refine i_norm ?_
                  refine t_norm ?_
                  refine wp_region_lit ?_
                  refine q_step hA513 rfl (d_move (wn rfl) (hA513.ev (v := (.int .i64 ((j449 : Nat) : Int))) rfl) ?_)
                  intro a514 hA515
                  refine q_step hA515 rfl (d_bin (wn rfl) (hA515.ev (v := (.int .i64 ((j449 : Nat) : Int))) rfl) (hA515.ev (v := (.int .i64 1)) rfl) (b_add _ _ ((j449 : Nat) : Int) 1 _ (by omega) (by omega)) ?_)
                  intro a516 hA517
                  refine q_step hA517 rfl (d_assign (wn rfl) (hA517.ev (v := (.int .i64 (((j449 : Nat) : Int) + 1))) rfl) ?_)
                  intro a518 hA519
                  refine q_end ?_
                  refine t_norm ?_
                  exact ⟨32 - (j449 + 1), (by rw [hm451]; omega), j449 + 1, v450, rfl, (by omega), hA519.cut _ (fm_cons (hA519.get 0 _ rfl) (fm_cons (hA519.get 1 _ rfl) (fm_cons (hA519.get 2 _ rfl) (fm_cons (hA519.get 3 _ rfl) (fm_cons (hA519.get 4 _ rfl) (fm_cons (hA519.get 11 _ rfl) (fm_cons (hA519.get 13 _ rfl) (fm_cons (hA519.get 17 _ rfl) (fm_cons (hA519.get 19 _ rfl) (fm_cons ((hA519.get 20 _ rfl).trans (congrArg (Value.int .i64) (by omega))) fm_nil)))))))))), b454, m455, (by rw [lst_no hb472]; exact ho456), off457⟩
              · skip
                have hq520 := of_decide_eq_false hb460
                refine q_step hA459 rfl (d_bin (wn rfl) (hA459.ev (v := (.int .i64 ((j449 : Nat) : Int))) rfl) (hA459.ev (v := (.int .i64 32)) rfl) (b_lt _ _ ((j449 : Nat) : Int) 32 false _ hb460) ?_)
                intro a521 hA522
                refine q_end ?_
                refine t_norm ?_
                refine c_false hA522 rfl ?_
                refine wp_exit ?_
                refine t_exit ?_
                refine t_exit ?_
                refine i_here ?_
                refine t_norm ?_
                refine wp_seq ?_
                have bD523 := below_grow b454 ((Grow.refl w448).drew) b454.size
                have hA524 : St 161 [(0, (.slice ao es.length cap)), (1, (.int .i64 n)), (2, (.slice ao2 ps.length cap2)), (3, (.int .u32 (U sa))), (4, (.int .u32 (U sb))), (11, (.int .u32 (U (evs (es.take j60))))), (13, (.pointer (some ⟨g175, 0, none⟩))), (17, (.int .u32 (U (fst ((j394 : Nat) : Int))))), (19, v450)] a521 := hA522.cut _ (fm_cons (hA522.get 0 _ rfl) (fm_cons (hA522.get 1 _ rfl) (fm_cons (hA522.get 2 _ rfl) (fm_cons (hA522.get 3 _ rfl) (fm_cons (hA522.get 4 _ rfl) (fm_cons (hA522.get 11 _ rfl) (fm_cons (hA522.get 13 _ rfl) (fm_cons (hA522.get 17 _ rfl) (fm_cons (hA522.get 19 _ rfl) fm_nil)))))))))
                let M525 : Nat → Option (Array Value) := fun _ => none
                have hM525 : M525 = fun _ => none := rfl
                clear_value M525
                have hM526 : M525 g175 = none := (congrFun hM525 g175)
                have hM525B : ∀ k, k < w.heap.size → M525 k = none := (fun k hk => (congrFun hM525 k))
                refine drawn (S := SM M525) (tabL [cNoneM M525 (fun k => congrFun hM525 k) 3, cv (.slice ao es.length cap), cRowM M525 (fun k => congrFun hM525 k) 3 1 es.length (es.flatMap intE), cv (.int .u32 (U (evs es))), cv (.int .u32 (U (evs (es.take j60)))), cv (.bool true), cv (.bool true), cv (.int .i64 n), cv (.int .u32 (U (fst n))), cv (.int .u32 (U (fst ((j394 : Nat) : Int)))), cv (.bool true), cv (.bool true), cv (.bool true), cv (.int .u32 (U sa)), cIl M525 (fun k => congrFun hM525 k) (lst sa 32), cv v450, cv (.bool true), cv (.bool true), cv (.bool true), cNoneM M525 (fun k => congrFun hM525 k) 29, cv (.slice ao2 ps.length cap2), cRowM M525 (fun k => congrFun hM525 k) 29 2 ps.length (ps.flatMap pairE), cv (.agg (cells (pairT ps))), cv (.agg (cells (pairT (ps.take j187)))), cv (.bool true), cv (.bool true), cv (.bool true), cv (.int .u32 (U sa)), cv (.agg (cells (idr sa))), cv (.int .u32 (U sa)), cv (.agg (cells (idr sa))), cv (.bool true), cv (.bool true), cv (.bool true), cv (.int .u32 (U sa)), cv (.int .u32 (U sb)), cv (.agg (cells (crs sa sb))), cv (.int .u32 (U sa)), cv (.int .u32 (U sb)), cv (.agg (cells (crs sa sb))), cv (.bool true), cv (.bool true), cv (.bool true)]) mixedY SM.refl SM.trans SM.drew hA524 (by kernel_rfl) ?_ ?_
                · skip
                  refine each_cons (fun x y hS hT hk => d_none (wn rfl) elm22 (fun g w' _ hG hb => ⟨SM.grow hG, g, rfl, hb⟩)) ?_
                  refine each_cons (fun x y hS hT hk => d_move (wn rfl) (hT.ev (v := (.slice ao es.length cap)) rfl) ⟨SM.refl _, rfl⟩) ?_
                  refine each_cons (fun x y hS hT hk => (hk 0 rfl).elim fun g hg => d_copyF (wn rfl) hg.1 hg.2 (hk 1 rfl) elm22 (hes.below (hS.below bD523 b454.size hM525B)) intE_len intE_one (by omega) (by decide) (fun v' w' hG ho hf => ⟨SM.grow hG, hf, _, ho⟩)) ?_
                  refine each_cons (fun x y hS hT hk => d_call (wn rfl) ent10 (map1 (show x.eval _ = x.tmps.getD 121 undef from rfl)) (events_own (hk 2 rfl) (by omega)) (fun _ _ ⟨he, hw⟩ => ⟨(.int .u32 (U (evs es))), he, hw ▸ SM.refl _, rfl⟩)) ?_
                  refine each_cons (fun x y hS hT hk => d_move (wn rfl) (hT.ev (v := (.int .u32 (U (evs (es.take j60))))) rfl) ⟨SM.refl _, rfl⟩) ?_
                  refine each_cons (fun x y hS hT hk => d_bin (wn rfl) (hk 3 rfl) (hk 4 rfl) (b_eq _ _ (U (evs es)) (U (evs (es.take j60))) true _ (by rw [List.take_of_length_le (show es.length ≤ j60 by omega)]; exact beq_self_eq_true _)) ⟨SM.refl _, rfl⟩) ?_
                  refine each_cons (fun x y hS hT hk => d_move (wn rfl) (hk 5 rfl) ⟨SM.refl _, rfl⟩) ?_
                  refine each_cons (fun x y hS hT hk => d_move (wy rfl rfl (hk 6 rfl)) (hT.ev (v := (.int .i64 n)) rfl) ⟨SM.refl _, rfl⟩) ?_
                  refine each_cons (fun x y hS hT hk => d_call (wy rfl rfl (hk 6 rfl)) ent11 (map1 (show x.eval _ = (.int .i64 n) from (hk 7 rfl))) (first_any n y) (fun _ _ ⟨he, hw⟩ => ⟨(.int .u32 (U (fst n))), he, hw ▸ SM.refl _, rfl⟩)) ?_
                  refine each_cons (fun x y hS hT hk => d_move (wy rfl rfl (hk 6 rfl)) (hT.ev (v := (.int .u32 (U (fst ((j394 : Nat) : Int))))) rfl) ⟨SM.refl _, rfl⟩) ?_
                  refine each_cons (fun x y hS hT hk => d_bin (wy rfl rfl (hk 6 rfl)) (hk 8 rfl) (hk 9 rfl) (b_eq _ _ (U (fst n)) (U (fst ((j394 : Nat) : Int))) true _ (beq_iff_eq.2 (congrArg U (fst_end hc401.1 hc401.2 (by omega))))) ⟨SM.refl _, rfl⟩) ?_
                  refine each_cons (fun x y hS hT hk => d_pickT (wn rfl) (hk 6 rfl) (hk 10 rfl) ⟨SM.refl _, rfl⟩) ?_
                  refine each_cons (fun x y hS hT hk => d_move (wn rfl) (hk 11 rfl) ⟨SM.refl _, rfl⟩) ?_
                  refine each_cons (fun x y hS hT hk => d_move (wy rfl rfl (hk 12 rfl)) (hT.ev (v := (.int .u32 (U sa))) rfl) ⟨SM.refl _, rfl⟩) ?_
                  refine each_cons (fun x y hS hT hk => d_call (wy rfl rfl (hk 12 rfl)) ent13 (map1 (show x.eval _ = .int .u32 (U sa) from (hk 13 rfl))) (list_any sa y) (fun _ _ ⟨v, he, hG, ho⟩ => ⟨v, he, SM.grow hG, own_zero ho⟩)) ?_
                  refine each_cons (fun x y hS hT hk => d_move (wy rfl rfl (hk 12 rfl)) (hT.ev (v := v450) rfl) ⟨SM.refl _, rfl⟩) ?_
                  refine each_cons (fun x y hS hT hk => d_call (wy rfl rfl (hk 12 rfl)) ent12 (map2 (show x.eval _ = x.tmps.getD 133 undef from rfl) (show x.eval _ = v450 from (hk 15 rfl))) (ints_any (lst sa 32) _ _ y (hk 14 rfl) (il_own (own_sm (w := w448.drew) ho456 hS (fun k => congrFun hM525 k)) rfl rfl (by omega)) (lst_small sa)) (fun _ _ ⟨he, hG⟩ => ⟨.bool true, he, SM.grow hG, rfl⟩)) ?_
                  refine each_cons (fun x y hS hT hk => d_pickT (wn rfl) (hk 12 rfl) (hk 16 rfl) ⟨SM.refl _, rfl⟩) ?_
                  refine each_cons (fun x y hS hT hk => d_move (wn rfl) (hk 17 rfl) ⟨SM.refl _, rfl⟩) ?_
                  refine each_cons (fun x y hS hT hk => d_none (wy rfl rfl (hk 18 rfl)) elm23 (fun g w' _ hG hb => ⟨SM.grow hG, g, rfl, hb⟩)) ?_
                  refine each_cons (fun x y hS hT hk => d_move (wy rfl rfl (hk 18 rfl)) (hT.ev (v := (.slice ao2 ps.length cap2)) rfl) ⟨SM.refl _, rfl⟩) ?_
                  refine each_cons (fun x y hS hT hk => (hk 19 rfl).elim fun g hg => d_copyF (wy rfl rfl (hk 18 rfl)) hg.1 hg.2 (hk 20 rfl) elm23 (hps.below (hS.below bD523 b454.size hM525B)) pairE_len pairE_one (by omega) (by decide) (fun v' w' hG ho hf => ⟨SM.grow hG, hf, _, ho⟩)) ?_
                  refine each_cons (fun x y hS hT hk => d_call (wy rfl rfl (hk 18 rfl)) ent14 (map1 (show x.eval _ = x.tmps.getD 140 undef from rfl)) (pair_own (hk 21 rfl) (by omega)) (fun _ _ ⟨he, hG⟩ => ⟨(.agg (cells (pairT ps))), he, SM.grow hG, rfl⟩)) ?_
                  refine each_cons (fun x y hS hT hk => d_loadRow (cs := (cells (pairT (ps.take j187)))) (wy rfl rfl (hk 18 rfl)) (hT.ev (v := (.pointer (some ⟨g175, 0, none⟩))) rfl) (row28c _) (Blk.sm (w := w448.drew) m455 hS hM526) ⟨SM.refl _, rfl⟩) ?_
                  refine each_cons (fun x y hS hT hk => d_bin (u := .agg (cells (pairT ps))) (v := .agg (cells (pairT (ps.take j187)))) (wy rfl rfl (hk 18 rfl)) (hk 22 rfl) (hk 23 rfl) (eq_rels (pairT ps) (pairT (ps.take j187)) _ _ _ true (by rw [List.take_of_length_le (show ps.length ≤ j187 by omega)]; exact eqB_same _)) ⟨SM.refl _, rfl⟩) ?_
                  refine each_cons (fun x y hS hT hk => d_pickT (wn rfl) (hk 18 rfl) (hk 24 rfl) ⟨SM.refl _, rfl⟩) ?_
                  refine each_cons (fun x y hS hT hk => d_move (wn rfl) (hk 25 rfl) ⟨SM.refl _, rfl⟩) ?_
                  refine each_cons (fun x y hS hT hk => d_move (wy rfl rfl (hk 26 rfl)) (hT.ev (v := (.int .u32 (U sa))) rfl) ⟨SM.refl _, rfl⟩) ?_
                  refine each_cons (fun x y hS hT hk => d_call (wy rfl rfl (hk 26 rfl)) ent15 (map1 (show x.eval _ = (.int .u32 (U sa)) from (hk 27 rfl))) (id_any sa y) (fun _ _ ⟨he, hG⟩ => ⟨(.agg (cells (idr sa))), he, SM.grow hG, rfl⟩)) ?_
                  refine each_cons (fun x y hS hT hk => d_move (wy rfl rfl (hk 26 rfl)) (hT.ev (v := (.int .u32 (U sa))) rfl) ⟨SM.refl _, rfl⟩) ?_
                  refine each_cons (fun x y hS hT hk => d_call (wy rfl rfl (hk 26 rfl)) ent16 (map1 (show x.eval _ = (.int .u32 (U sa)) from (hk 29 rfl))) (rid_any sa y) (fun _ _ ⟨he, hG⟩ => ⟨(.agg (cells (idr sa))), he, SM.grow hG, rfl⟩)) ?_
                  refine each_cons (fun x y hS hT hk => d_bin (u := .agg (cells (idr sa))) (v := .agg (cells (idr sa))) (wy rfl rfl (hk 26 rfl)) (hk 28 rfl) (hk 30 rfl) (eq_rels (idr sa) (idr sa) _ _ _ true (eqB_same (idr sa))) ⟨SM.refl _, rfl⟩) ?_
                  refine each_cons (fun x y hS hT hk => d_pickT (wn rfl) (hk 26 rfl) (hk 31 rfl) ⟨SM.refl _, rfl⟩) ?_
                  refine each_cons (fun x y hS hT hk => d_move (wn rfl) (hk 32 rfl) ⟨SM.refl _, rfl⟩) ?_
                  refine each_cons (fun x y hS hT hk => d_move (wy rfl rfl (hk 33 rfl)) (hT.ev (v := (.int .u32 (U sa))) rfl) ⟨SM.refl _, rfl⟩) ?_
                  refine each_cons (fun x y hS hT hk => d_move (wy rfl rfl (hk 33 rfl)) (hT.ev (v := (.int .u32 (U sb))) rfl) ⟨SM.refl _, rfl⟩) ?_
                  refine each_cons (fun x y hS hT hk => d_call (wy rfl rfl (hk 33 rfl)) ent17 (map2 (show x.eval _ = (.int .u32 (U sa)) from (hk 34 rfl)) (show x.eval _ = (.int .u32 (U sb)) from (hk 35 rfl))) (crs_any sa sb y) (fun _ _ ⟨he, hG⟩ => ⟨(.agg (cells (crs sa sb))), he, SM.grow hG, rfl⟩)) ?_
                  refine each_cons (fun x y hS hT hk => d_move (wy rfl rfl (hk 33 rfl)) (hT.ev (v := (.int .u32 (U sa))) rfl) ⟨SM.refl _, rfl⟩) ?_
                  refine each_cons (fun x y hS hT hk => d_move (wy rfl rfl (hk 33 rfl)) (hT.ev (v := (.int .u32 (U sb))) rfl) ⟨SM.refl _, rfl⟩) ?_
                  refine each_cons (fun x y hS hT hk => d_call (wy rfl rfl (hk 33 rfl)) ent18 (map2 (show x.eval _ = (.int .u32 (U sa)) from (hk 37 rfl)) (show x.eval _ = (.int .u32 (U sb)) from (hk 38 rfl))) (rcrs_any sa sb y) (fun _ _ ⟨he, hG⟩ => ⟨(.agg (cells (crs sa sb))), he, SM.grow hG, rfl⟩)) ?_
                  refine each_cons (fun x y hS hT hk => d_bin (u := .agg (cells (crs sa sb))) (v := .agg (cells (crs sa sb))) (wy rfl rfl (hk 33 rfl)) (hk 36 rfl) (hk 39 rfl) (eq_rels (crs sa sb) (crs sa sb) _ _ _ true (eqB_same (crs sa sb))) ⟨SM.refl _, rfl⟩) ?_
                  refine each_cons (fun x y hS hT hk => d_pickT (wn rfl) (hk 33 rfl) (hk 40 rfl) ⟨SM.refl _, rfl⟩) ?_
                  refine each_cons (fun x y hS hT hk => d_assign (wn rfl) (hk 41 rfl) ⟨SM.refl _, rfl⟩) ?_
                  exact each_nil
                intro f527 a528 w529 hS530 hC531 hA532
                have hA533 : St 161 [(10, (.bool true))] a528 := hA532.cut _ (fm_cons ((hA532.get 10 _ rfl).trans (hC531 42 (Nat.le_of_ble_eq_true rfl))) fm_nil)
                have m534 := m455.sm hS530 hM526
                have b535 := hS530.below b454 b454.size hM525B
                have ho536 := own_sm ho456 hS530 (fun k => congrFun hM525 k)
                refine t_norm ?_
                refine wp_ret ?_
                refine ret1 rfl hA533 (v := (.bool true)) rfl ?_
                exact ⟨rfl, b535⟩
          · skip
            have hq537 := of_decide_eq_false hb405
            refine q_step hA404 rfl (d_bin (wn rfl) (hA404.ev (v := (.int .i64 ((j394 : Nat) : Int))) rfl) (hA404.ev (v := (.int .i64 32)) rfl) (b_lt _ _ ((j394 : Nat) : Int) 32 false _ hb405) ?_)
            intro a538 hA539
            refine q_step hA539 rfl (d_move (wn rfl) (hA539.ev (v := (.bool false)) rfl) ?_)
            intro a540 hA541
            refine q_step hA541 rfl (does_not (wno rfl rfl (.inl (hA541.get 95 _ rfl))) ?_)
            intro a542 hA543
            refine q_step hA543 rfl (does_not (wno rfl rfl (.inl (hA543.get 95 _ rfl))) ?_)
            intro a544 hA545
            refine q_step hA545 rfl (does_not (wno rfl rfl (.inl (hA545.get 95 _ rfl))) ?_)
            intro a546 hA547
            refine q_step hA547 rfl (d_pickF (wn rfl) (hA547.ev (v := (.bool false)) rfl) (hA547.ev (v := (.bool false)) rfl) ?_)
            intro a548 hA549
            refine q_end ?_
            refine t_norm ?_
            refine c_false hA549 rfl ?_
            refine wp_exit ?_
            refine t_exit ?_
            refine t_exit ?_
            refine i_here ?_
            refine t_norm ?_
            refine wp_seq ?_
            refine wp_region_lit ?_
            refine q_step hA549 rfl (d_assign (wn rfl) (hA549.ev (v := (.slice none 0 0)) rfl) ?_)
            intro a550 hA551
            refine q_end ?_
            refine t_norm ?_
            refine wp_seq ?_
            refine wp_seq ?_
            refine wp_region_lit ?_
            refine q_step hA551 rfl (d_assign (wn rfl) (hA551.ev (v := (.int .i64 0)) rfl) ?_)
            intro a552 hA553
            refine q_end ?_
            refine t_norm ?_
            refine wp_block ?_
            refine loop_by (fun m a' w' => ∃ (j : Nat) (v : Value), m = 32 - j ∧ j ≤ 32 ∧ St 161 [(0, (.slice ao es.length cap)), (1, (.int .i64 n)), (2, (.slice ao2 ps.length cap2)), (3, (.int .u32 (U sa))), (4, (.int .u32 (U sb))), (11, (.int .u32 (U (evs (es.take j60))))), (13, (.pointer (some ⟨g175, 0, none⟩))), (17, (.int .u32 (U (fst ((j394 : Nat) : Int))))), (19, v), (20, (.int .i64 ((j : Nat) : Int)))] a' ∧ Below w.heap.size w w' ∧ Blk w' g175 (cells (pairT (ps.take j187))) 28 ∧ w'.ownsRow w.heap.size 3 1 v (lst sa j).length (nums (lst sa j)) ∧ v.ownBlock ≠ some g175) (32 - 0) ⟨0, .slice none 0 0, rfl, Nat.zero_le _, hA553.cut _ (fm_cons (hA553.get 0 _ rfl) (fm_cons (hA553.get 1 _ rfl) (fm_cons (hA553.get 2 _ rfl) (fm_cons (hA553.get 3 _ rfl) (fm_cons (hA553.get 4 _ rfl) (fm_cons (hA553.get 11 _ rfl) (fm_cons (hA553.get 13 _ rfl) (fm_cons (hA553.get 17 _ rfl) (fm_cons (hA553.get 19 _ rfl) (fm_cons (hA553.get 20 _ rfl) fm_nil)))))))))), b399, m402, (by rw [lst_zero]; exact own_nums _ _ _ _), nofun⟩ ?_
            rintro m554 a555 w556 ⟨j557, v558, hm559, hj560, hA561, b562, m563, ho564, off565⟩
            have hll := lst_len sa j557
            refine wp_seq ?_
            refine wp_seq ?_
            refine wp_region_lit ?_
            refine q_step hA561 rfl (d_move (wn rfl) (hA561.ev (v := (.int .i64 ((j557 : Nat) : Int))) rfl) ?_)
            intro a566 hA567
            rcases Bool.eq_false_or_eq_true (decide (((j557 : Nat) : Int) < 32)) with hb568 | hb568
            · skip
              have hq569 := of_decide_eq_true hb568
              refine q_step hA567 rfl (d_bin (wn rfl) (hA567.ev (v := (.int .i64 ((j557 : Nat) : Int))) rfl) (hA567.ev (v := (.int .i64 32)) rfl) (b_lt _ _ ((j557 : Nat) : Int) 32 true _ hb568) ?_)
              intro a570 hA571
              refine q_end ?_
              refine t_norm ?_
              refine c_true hA571 rfl ?_
              refine wp_skip ?_
              refine t_norm ?_
              refine wp_seq ?_
              refine wp_block ?_
              refine wp_seq ?_
              refine wp_region_lit ?_
              refine q_step hA571 rfl (d_move (wn rfl) (hA571.ev (v := (.int .u32 (U sa))) rfl) ?_)
              intro a572 hA573
              refine q_step hA573 rfl (d_move (wn rfl) (hA573.ev (v := (.int .i64 ((j557 : Nat) : Int))) rfl) ?_)
              intro a574 hA575
              refine q_step hA575 rfl (d_bin (wn rfl) (hA575.ev (v := (.int .u32 (U sa))) rfl) (hA575.ev (v := (.int .i64 ((j557 : Nat) : Int))) rfl) (b_shr _ _ sa j557 _ (by omega)) ?_)
              intro a576 hA577
              refine q_step hA577 rfl (d_bin (wn rfl) (hA577.ev (v := (.int .u32 (U (sa >>> j557)))) rfl) (hA577.ev (v := (.int .u32 1)) rfl) (b_and1 _ _ (sa >>> j557) _) ?_)
              intro a578 hA579
              rcases Bool.eq_false_or_eq_true (inn sa j557) with hb580 | hb580
              · skip
                refine q_step hA579 rfl (d_bin (wn rfl) (hA579.ev (v := (.int .u32 (U ((sa >>> j557) &&& 1#32)))) rfl) (hA579.ev (v := (.int .u32 1)) rfl) (b_eq _ _ (U ((sa >>> j557) &&& 1#32)) 1 true _ ((in_bit sa j557).trans hb580)) ?_)
                intro a582 hA583
                refine q_end ?_
                refine t_norm ?_
                refine c_true hA583 rfl ?_
                refine wp_region_lit ?_
                refine q_step hA583 rfl (d_move (wn rfl) (hA583.ev (v := v558) rfl) ?_)
                intro a584 hA585
                refine q_step hA585 rfl (d_move (wn rfl) (hA585.ev (v := (.int .i64 ((j557 : Nat) : Int))) rfl) ?_)
                intro a586 hA587
                refine q_step hA587 rfl (d_slice1 (wn rfl) (hA587.ev (v := (.int .i64 ((j557 : Nat) : Int))) rfl) elm22 rfl (by decide) ?_)
                intro g588 w589 eg590 hG591 (m592 : Blk w589 g588 #[.int .i64 ((j557 : Nat) : Int)] 3)
                have ge593 : w.heap.size ≤ g588 := eg590 ▸ b562.size
                have n594 : g175 ≠ g588 := fun h => Nat.lt_irrefl _ ((h.trans eg590) ▸ m563.lt)
                have off595 := own_new ho564 eg590
                have m596 := m563.grow hG591
                have b597 := below_grow b562 hG591 b562.size
                have ho598 := own_grow hG591 ho564
                intro a599 hA600
                refine q_step hA600 rfl (d_append (wn rfl) (hA600.ev (v := v558) rfl) (hA600.ev (v := (.slice (some ⟨g588, 0, none⟩) 1 1)) rfl) elm22 ho598 m592 rfl rfl (by omega) (by decide) b597.size ?_)
                intro v601 w602 ho603 hg604 hl605
                have b606 := below_by b597 hg604 b597.size (fun k hk => (own_lt ho598 k hk).1)
                have m607 := m596.by hg604 off565
                have off608 := lies_ne hl605 off565 m596.lt
                intro a609 hA610
                refine q_step hA610 rfl (d_assign (wn rfl) (hA610.ev (v := v601) rfl) ?_)
                intro a611 hA612
                refine q_end ?_
                refine i_norm ?_
                refine t_norm ?_
                refine wp_region_lit ?_
                refine q_step hA612 rfl (d_move (wn rfl) (hA612.ev (v := (.int .i64 ((j557 : Nat) : Int))) rfl) ?_)
                intro a613 hA614
                refine q_step hA614 rfl (d_bin (wn rfl) (hA614.ev (v := (.int .i64 ((j557 : Nat) : Int))) rfl) (hA614.ev (v := (.int .i64 1)) rfl) (b_add _ _ ((j557 : Nat) : Int) 1 _ (by omega) (by omega)) ?_)
                intro a615 hA616
                refine q_step hA616 rfl (d_assign (wn rfl) (hA616.ev (v := (.int .i64 (((j557 : Nat) : Int) + 1))) rfl) ?_)
                intro a617 hA618
                refine q_end ?_
                refine t_norm ?_
                exact ⟨32 - (j557 + 1), (by rw [hm559]; omega), j557 + 1, v601, rfl, (by omega), hA618.cut _ (fm_cons (hA618.get 0 _ rfl) (fm_cons (hA618.get 1 _ rfl) (fm_cons (hA618.get 2 _ rfl) (fm_cons (hA618.get 3 _ rfl) (fm_cons (hA618.get 4 _ rfl) (fm_cons (hA618.get 11 _ rfl) (fm_cons (hA618.get 13 _ rfl) (fm_cons (hA618.get 17 _ rfl) (fm_cons (hA618.get 19 _ rfl) (fm_cons ((hA618.get 20 _ rfl).trans (congrArg (Value.int .i64) (by omega))) fm_nil)))))))))), b606, m607, (by rw [lst_yes hb580, List.length_append, nums_snoc]; exact ho603), off608⟩
              · skip
                refine q_step hA579 rfl (d_bin (wn rfl) (hA579.ev (v := (.int .u32 (U ((sa >>> j557) &&& 1#32)))) rfl) (hA579.ev (v := (.int .u32 1)) rfl) (b_eq _ _ (U ((sa >>> j557) &&& 1#32)) 1 false _ ((in_bit sa j557).trans hb580)) ?_)
                intro a620 hA621
                refine q_end ?_
                refine t_norm ?_
                refine c_false hA621 rfl ?_
                refine wp_skip ?_
                refine i_norm ?_
                refine t_norm ?_
                refine wp_region_lit ?_
                refine q_step hA621 rfl (d_move (wn rfl) (hA621.ev (v := (.int .i64 ((j557 : Nat) : Int))) rfl) ?_)
                intro a622 hA623
                refine q_step hA623 rfl (d_bin (wn rfl) (hA623.ev (v := (.int .i64 ((j557 : Nat) : Int))) rfl) (hA623.ev (v := (.int .i64 1)) rfl) (b_add _ _ ((j557 : Nat) : Int) 1 _ (by omega) (by omega)) ?_)
                intro a624 hA625
                refine q_step hA625 rfl (d_assign (wn rfl) (hA625.ev (v := (.int .i64 (((j557 : Nat) : Int) + 1))) rfl) ?_)
                intro a626 hA627
                refine q_end ?_
                refine t_norm ?_
                exact ⟨32 - (j557 + 1), (by rw [hm559]; omega), j557 + 1, v558, rfl, (by omega), hA627.cut _ (fm_cons (hA627.get 0 _ rfl) (fm_cons (hA627.get 1 _ rfl) (fm_cons (hA627.get 2 _ rfl) (fm_cons (hA627.get 3 _ rfl) (fm_cons (hA627.get 4 _ rfl) (fm_cons (hA627.get 11 _ rfl) (fm_cons (hA627.get 13 _ rfl) (fm_cons (hA627.get 17 _ rfl) (fm_cons (hA627.get 19 _ rfl) (fm_cons ((hA627.get 20 _ rfl).trans (congrArg (Value.int .i64) (by omega))) fm_nil)))))))))), b562, m563, (by rw [lst_no hb580]; exact ho564), off565⟩
            · skip
              have hq628 := of_decide_eq_false hb568
              refine q_step hA567 rfl (d_bin (wn rfl) (hA567.ev (v := (.int .i64 ((j557 : Nat) : Int))) rfl) (hA567.ev (v := (.int .i64 32)) rfl) (b_lt _ _ ((j557 : Nat) : Int) 32 false _ hb568) ?_)
              intro a629 hA630
              refine q_end ?_
              refine t_norm ?_
              refine c_false hA630 rfl ?_
              refine wp_exit ?_
              refine t_exit ?_
              refine t_exit ?_
              refine i_here ?_
              refine t_norm ?_
              refine wp_seq ?_
              have bD631 := below_grow b562 ((Grow.refl w556).drew) b562.size
              have hA632 : St 161 [(0, (.slice ao es.length cap)), (1, (.int .i64 n)), (2, (.slice ao2 ps.length cap2)), (3, (.int .u32 (U sa))), (4, (.int .u32 (U sb))), (11, (.int .u32 (U (evs (es.take j60))))), (13, (.pointer (some ⟨g175, 0, none⟩))), (17, (.int .u32 (U (fst ((j394 : Nat) : Int))))), (19, v558)] a629 := hA630.cut _ (fm_cons (hA630.get 0 _ rfl) (fm_cons (hA630.get 1 _ rfl) (fm_cons (hA630.get 2 _ rfl) (fm_cons (hA630.get 3 _ rfl) (fm_cons (hA630.get 4 _ rfl) (fm_cons (hA630.get 11 _ rfl) (fm_cons (hA630.get 13 _ rfl) (fm_cons (hA630.get 17 _ rfl) (fm_cons (hA630.get 19 _ rfl) fm_nil)))))))))
              let M633 : Nat → Option (Array Value) := fun _ => none
              have hM633 : M633 = fun _ => none := rfl
              clear_value M633
              have hM634 : M633 g175 = none := (congrFun hM633 g175)
              have hM633B : ∀ k, k < w.heap.size → M633 k = none := (fun k hk => (congrFun hM633 k))
              refine drawn (S := SM M633) (tabL [cNoneM M633 (fun k => congrFun hM633 k) 3, cv (.slice ao es.length cap), cRowM M633 (fun k => congrFun hM633 k) 3 1 es.length (es.flatMap intE), cv (.int .u32 (U (evs es))), cv (.int .u32 (U (evs (es.take j60)))), cv (.bool true), cv (.bool true), cv (.int .i64 n), cv (.int .u32 (U (fst n))), cv (.int .u32 (U (fst ((j394 : Nat) : Int)))), cv (.bool true), cv (.bool true), cv (.bool true), cv (.int .u32 (U sa)), cIl M633 (fun k => congrFun hM633 k) (lst sa 32), cv v558, cv (.bool true), cv (.bool true), cv (.bool true), cNoneM M633 (fun k => congrFun hM633 k) 29, cv (.slice ao2 ps.length cap2), cRowM M633 (fun k => congrFun hM633 k) 29 2 ps.length (ps.flatMap pairE), cv (.agg (cells (pairT ps))), cv (.agg (cells (pairT (ps.take j187)))), cv (.bool true), cv (.bool true), cv (.bool true), cv (.int .u32 (U sa)), cv (.agg (cells (idr sa))), cv (.int .u32 (U sa)), cv (.agg (cells (idr sa))), cv (.bool true), cv (.bool true), cv (.bool true), cv (.int .u32 (U sa)), cv (.int .u32 (U sb)), cv (.agg (cells (crs sa sb))), cv (.int .u32 (U sa)), cv (.int .u32 (U sb)), cv (.agg (cells (crs sa sb))), cv (.bool true), cv (.bool true), cv (.bool true)]) mixedY SM.refl SM.trans SM.drew hA632 (by kernel_rfl) ?_ ?_
              · skip
                refine each_cons (fun x y hS hT hk => d_none (wn rfl) elm22 (fun g w' _ hG hb => ⟨SM.grow hG, g, rfl, hb⟩)) ?_
                refine each_cons (fun x y hS hT hk => d_move (wn rfl) (hT.ev (v := (.slice ao es.length cap)) rfl) ⟨SM.refl _, rfl⟩) ?_
                refine each_cons (fun x y hS hT hk => (hk 0 rfl).elim fun g hg => d_copyF (wn rfl) hg.1 hg.2 (hk 1 rfl) elm22 (hes.below (hS.below bD631 b562.size hM633B)) intE_len intE_one (by omega) (by decide) (fun v' w' hG ho hf => ⟨SM.grow hG, hf, _, ho⟩)) ?_
                refine each_cons (fun x y hS hT hk => d_call (wn rfl) ent10 (map1 (show x.eval _ = x.tmps.getD 121 undef from rfl)) (events_own (hk 2 rfl) (by omega)) (fun _ _ ⟨he, hw⟩ => ⟨(.int .u32 (U (evs es))), he, hw ▸ SM.refl _, rfl⟩)) ?_
                refine each_cons (fun x y hS hT hk => d_move (wn rfl) (hT.ev (v := (.int .u32 (U (evs (es.take j60))))) rfl) ⟨SM.refl _, rfl⟩) ?_
                refine each_cons (fun x y hS hT hk => d_bin (wn rfl) (hk 3 rfl) (hk 4 rfl) (b_eq _ _ (U (evs es)) (U (evs (es.take j60))) true _ (by rw [List.take_of_length_le (show es.length ≤ j60 by omega)]; exact beq_self_eq_true _)) ⟨SM.refl _, rfl⟩) ?_
                refine each_cons (fun x y hS hT hk => d_move (wn rfl) (hk 5 rfl) ⟨SM.refl _, rfl⟩) ?_
                refine each_cons (fun x y hS hT hk => d_move (wy rfl rfl (hk 6 rfl)) (hT.ev (v := (.int .i64 n)) rfl) ⟨SM.refl _, rfl⟩) ?_
                refine each_cons (fun x y hS hT hk => d_call (wy rfl rfl (hk 6 rfl)) ent11 (map1 (show x.eval _ = (.int .i64 n) from (hk 7 rfl))) (first_any n y) (fun _ _ ⟨he, hw⟩ => ⟨(.int .u32 (U (fst n))), he, hw ▸ SM.refl _, rfl⟩)) ?_
                refine each_cons (fun x y hS hT hk => d_move (wy rfl rfl (hk 6 rfl)) (hT.ev (v := (.int .u32 (U (fst ((j394 : Nat) : Int))))) rfl) ⟨SM.refl _, rfl⟩) ?_
                refine each_cons (fun x y hS hT hk => d_bin (wy rfl rfl (hk 6 rfl)) (hk 8 rfl) (hk 9 rfl) (b_eq _ _ (U (fst n)) (U (fst ((j394 : Nat) : Int))) true _ (beq_iff_eq.2 (congrArg U (fst_end hc401.1 hc401.2 (by omega))))) ⟨SM.refl _, rfl⟩) ?_
                refine each_cons (fun x y hS hT hk => d_pickT (wn rfl) (hk 6 rfl) (hk 10 rfl) ⟨SM.refl _, rfl⟩) ?_
                refine each_cons (fun x y hS hT hk => d_move (wn rfl) (hk 11 rfl) ⟨SM.refl _, rfl⟩) ?_
                refine each_cons (fun x y hS hT hk => d_move (wy rfl rfl (hk 12 rfl)) (hT.ev (v := (.int .u32 (U sa))) rfl) ⟨SM.refl _, rfl⟩) ?_
                refine each_cons (fun x y hS hT hk => d_call (wy rfl rfl (hk 12 rfl)) ent13 (map1 (show x.eval _ = .int .u32 (U sa) from (hk 13 rfl))) (list_any sa y) (fun _ _ ⟨v, he, hG, ho⟩ => ⟨v, he, SM.grow hG, own_zero ho⟩)) ?_
                refine each_cons (fun x y hS hT hk => d_move (wy rfl rfl (hk 12 rfl)) (hT.ev (v := v558) rfl) ⟨SM.refl _, rfl⟩) ?_
                refine each_cons (fun x y hS hT hk => d_call (wy rfl rfl (hk 12 rfl)) ent12 (map2 (show x.eval _ = x.tmps.getD 133 undef from rfl) (show x.eval _ = v558 from (hk 15 rfl))) (ints_any (lst sa 32) _ _ y (hk 14 rfl) (il_own (own_sm (w := w556.drew) ho564 hS (fun k => congrFun hM633 k)) rfl rfl (by omega)) (lst_small sa)) (fun _ _ ⟨he, hG⟩ => ⟨.bool true, he, SM.grow hG, rfl⟩)) ?_
                refine each_cons (fun x y hS hT hk => d_pickT (wn rfl) (hk 12 rfl) (hk 16 rfl) ⟨SM.refl _, rfl⟩) ?_
                refine each_cons (fun x y hS hT hk => d_move (wn rfl) (hk 17 rfl) ⟨SM.refl _, rfl⟩) ?_
                refine each_cons (fun x y hS hT hk => d_none (wy rfl rfl (hk 18 rfl)) elm23 (fun g w' _ hG hb => ⟨SM.grow hG, g, rfl, hb⟩)) ?_
                refine each_cons (fun x y hS hT hk => d_move (wy rfl rfl (hk 18 rfl)) (hT.ev (v := (.slice ao2 ps.length cap2)) rfl) ⟨SM.refl _, rfl⟩) ?_
                refine each_cons (fun x y hS hT hk => (hk 19 rfl).elim fun g hg => d_copyF (wy rfl rfl (hk 18 rfl)) hg.1 hg.2 (hk 20 rfl) elm23 (hps.below (hS.below bD631 b562.size hM633B)) pairE_len pairE_one (by omega) (by decide) (fun v' w' hG ho hf => ⟨SM.grow hG, hf, _, ho⟩)) ?_
                refine each_cons (fun x y hS hT hk => d_call (wy rfl rfl (hk 18 rfl)) ent14 (map1 (show x.eval _ = x.tmps.getD 140 undef from rfl)) (pair_own (hk 21 rfl) (by omega)) (fun _ _ ⟨he, hG⟩ => ⟨(.agg (cells (pairT ps))), he, SM.grow hG, rfl⟩)) ?_
                refine each_cons (fun x y hS hT hk => d_loadRow (cs := (cells (pairT (ps.take j187)))) (wy rfl rfl (hk 18 rfl)) (hT.ev (v := (.pointer (some ⟨g175, 0, none⟩))) rfl) (row28c _) (Blk.sm (w := w556.drew) m563 hS hM634) ⟨SM.refl _, rfl⟩) ?_
                refine each_cons (fun x y hS hT hk => d_bin (u := .agg (cells (pairT ps))) (v := .agg (cells (pairT (ps.take j187)))) (wy rfl rfl (hk 18 rfl)) (hk 22 rfl) (hk 23 rfl) (eq_rels (pairT ps) (pairT (ps.take j187)) _ _ _ true (by rw [List.take_of_length_le (show ps.length ≤ j187 by omega)]; exact eqB_same _)) ⟨SM.refl _, rfl⟩) ?_
                refine each_cons (fun x y hS hT hk => d_pickT (wn rfl) (hk 18 rfl) (hk 24 rfl) ⟨SM.refl _, rfl⟩) ?_
                refine each_cons (fun x y hS hT hk => d_move (wn rfl) (hk 25 rfl) ⟨SM.refl _, rfl⟩) ?_
                refine each_cons (fun x y hS hT hk => d_move (wy rfl rfl (hk 26 rfl)) (hT.ev (v := (.int .u32 (U sa))) rfl) ⟨SM.refl _, rfl⟩) ?_
                refine each_cons (fun x y hS hT hk => d_call (wy rfl rfl (hk 26 rfl)) ent15 (map1 (show x.eval _ = (.int .u32 (U sa)) from (hk 27 rfl))) (id_any sa y) (fun _ _ ⟨he, hG⟩ => ⟨(.agg (cells (idr sa))), he, SM.grow hG, rfl⟩)) ?_
                refine each_cons (fun x y hS hT hk => d_move (wy rfl rfl (hk 26 rfl)) (hT.ev (v := (.int .u32 (U sa))) rfl) ⟨SM.refl _, rfl⟩) ?_
                refine each_cons (fun x y hS hT hk => d_call (wy rfl rfl (hk 26 rfl)) ent16 (map1 (show x.eval _ = (.int .u32 (U sa)) from (hk 29 rfl))) (rid_any sa y) (fun _ _ ⟨he, hG⟩ => ⟨(.agg (cells (idr sa))), he, SM.grow hG, rfl⟩)) ?_
                refine each_cons (fun x y hS hT hk => d_bin (u := .agg (cells (idr sa))) (v := .agg (cells (idr sa))) (wy rfl rfl (hk 26 rfl)) (hk 28 rfl) (hk 30 rfl) (eq_rels (idr sa) (idr sa) _ _ _ true (eqB_same (idr sa))) ⟨SM.refl _, rfl⟩) ?_
                refine each_cons (fun x y hS hT hk => d_pickT (wn rfl) (hk 26 rfl) (hk 31 rfl) ⟨SM.refl _, rfl⟩) ?_
                refine each_cons (fun x y hS hT hk => d_move (wn rfl) (hk 32 rfl) ⟨SM.refl _, rfl⟩) ?_
                refine each_cons (fun x y hS hT hk => d_move (wy rfl rfl (hk 33 rfl)) (hT.ev (v := (.int .u32 (U sa))) rfl) ⟨SM.refl _, rfl⟩) ?_
                refine each_cons (fun x y hS hT hk => d_move (wy rfl rfl (hk 33 rfl)) (hT.ev (v := (.int .u32 (U sb))) rfl) ⟨SM.refl _, rfl⟩) ?_
                refine each_cons (fun x y hS hT hk => d_call (wy rfl rfl (hk 33 rfl)) ent17 (map2 (show x.eval _ = (.int .u32 (U sa)) from (hk 34 rfl)) (show x.eval _ = (.int .u32 (U sb)) from (hk 35 rfl))) (crs_any sa sb y) (fun _ _ ⟨he, hG⟩ => ⟨(.agg (cells (crs sa sb))), he, SM.grow hG, rfl⟩)) ?_
                refine each_cons (fun x y hS hT hk => d_move (wy rfl rfl (hk 33 rfl)) (hT.ev (v := (.int .u32 (U sa))) rfl) ⟨SM.refl _, rfl⟩) ?_
                refine each_cons (fun x y hS hT hk => d_move (wy rfl rfl (hk 33 rfl)) (hT.ev (v := (.int .u32 (U sb))) rfl) ⟨SM.refl _, rfl⟩) ?_
                refine each_cons (fun x y hS hT hk => d_call (wy rfl rfl (hk 33 rfl)) ent18 (map2 (show x.eval _ = (.int .u32 (U sa)) from (hk 37 rfl)) (show x.eval _ = (.int .u32 (U sb)) from (hk 38 rfl))) (rcrs_any sa sb y) (fun _ _ ⟨he, hG⟩ => ⟨(.agg (cells (crs sa sb))), he, SM.grow hG, rfl⟩)) ?_
                refine each_cons (fun x y hS hT hk => d_bin (u := .agg (cells (crs sa sb))) (v := .agg (cells (crs sa sb))) (wy rfl rfl (hk 33 rfl)) (hk 36 rfl) (hk 39 rfl) (eq_rels (crs sa sb) (crs sa sb) _ _ _ true (eqB_same (crs sa sb))) ⟨SM.refl _, rfl⟩) ?_
                refine each_cons (fun x y hS hT hk => d_pickT (wn rfl) (hk 33 rfl) (hk 40 rfl) ⟨SM.refl _, rfl⟩) ?_
                refine each_cons (fun x y hS hT hk => d_assign (wn rfl) (hk 41 rfl) ⟨SM.refl _, rfl⟩) ?_
                exact each_nil
              intro f635 a636 w637 hS638 hC639 hA640
              have hA641 : St 161 [(10, (.bool true))] a636 := hA640.cut _ (fm_cons ((hA640.get 10 _ rfl).trans (hC639 42 (Nat.le_of_ble_eq_true rfl))) fm_nil)
              have m642 := m563.sm hS638 hM634
              have b643 := hS638.below b562 b562.size hM633B
              have ho644 := own_sm ho564 hS638 (fun k => congrFun hM633 k)
              refine t_norm ?_
              refine wp_ret ?_
              refine ret1 rfl hA641 (v := (.bool true)) rfl ?_
              exact ⟨rfl, b643⟩
end Go.Proofs.Ytlbccddhcbcpoaa.En
/- How slices of numbers, of pairs and of relations that are handed in are read. -/
namespace Go.Proofs.Ytlbccddhcbcpoaa.En
set_option linter.unusedSimpArgs false
set_option linter.unusedVariables false
open Go.ChangeShapes Go.WideShapes Go.ChangeAt Go.RowKit Go.Deep

section
variable {H : Type} {enc : TypeId × Value → H} {W : World} {base : Nat} {spare : Nat → Bool} {held : Bool} {base' : Nat}
theorem open_list {α : Type} [Inhabited α] {en : α → List Value} {Q : α → Prop} {t e s : Nat} {v : Value} {d : DataW H} {ps : List MemPlace} (ht : Try.prog.underlying t = some (.slice e)) (hc : Try.prog.cellsOf e = s) (h0 : 0 < s)
    (hel : ∀ cs n x, DataW.trod enc Try.prog W base' spare held n e cs = some x → cs.length = s → ∃ y : α, cs = en y ∧ Q y)
    (hv : Value.okWide Try.prog W .any base t v) (h : DataW.Trod enc Try.prog W base' spare held t v d ps) :
    ∃ (ao : Option Addr) (l : List α) (cap : Nat), v = .slice ao l.length cap ∧ l.length ≤ maxLen ∧ Sl en s W.heap.size W v l ∧ ∀ y ∈ l, Q y := by
  obtain ⟨a0, len0, cap0, rfl⟩ := okWide_slice ht hv
  obtain ⟨fuel, hf⟩ := h
  rcases open_slice ht hf with ⟨hcs, _⟩ | ⟨a, len, cap, m, n, D, Pl, hcs, hb, hl, hm, hmm, _, hx⟩
  · simp [Value.cells] at hcs
    obtain ⟨rfl, rfl, rfl⟩ := hcs
    exact ⟨none, [], 0, rfl, by simp, Sl.nil, fun y hy => by cases hy⟩
  · simp [Value.cells] at hcs
    obtain ⟨rfl, rfl, rfl⟩ := hcs
    have hlm : len0 ≤ m := by rw [hmm]; split <;> omega
    rw [hc] at hx
    obtain ⟨Y, hY⟩ := choose_lt (α := α) (n := len0) (p := fun i y => Q y ∧ (en y).length = s ∧ ∀ k, k < s → W.cell? ((a.add (i * s)).add k) = (en y)[k]?) (fun i hi => by
      obtain ⟨cs', h1, h2⟩ := hx i (by omega)
      obtain ⟨_, hlen, hcell⟩ := World.cells?_some h1
      obtain ⟨y, rfl, hq⟩ := hel cs' n _ h2 hlen
      exact ⟨y, hq, hlen, hcell⟩)
    have hlen : ((List.range len0).map Y).length = len0 := by simp
    refine ⟨some a, (List.range len0).map Y, cap0, by rw [hlen], by rw [hlen]; omega, ⟨some a, cap0, by rw [hlen], by rw [hlen]; exact hl, fun j x hj => ?_⟩, fun y hy => ?_⟩
    · have hjl : j < len0 := by have := (List.getElem?_eq_some_iff.1 hj).1; simpa using this
      have hxe : x = Y j := by simp [hjl] at hj; exact hj.symm
      subst hxe
      obtain ⟨_, hyl, hcell⟩ := hY j hjl
      obtain ⟨b, o, spot⟩ := a
      obtain ⟨_, hy0, hcell0⟩ := hY 0 (by omega)
      have h00 := hcell0 0 h0
      rw [List.getElem?_eq_getElem (by omega)] at h00
      have hspot : spot = none := by simpa [Addr.add] using World.cell?_spot h00
      subst hspot
      refine ⟨b, o, rfl, ?_, fun k u hu => ?_⟩
      · have := World.block_lt_of_cell? W _ h00
        rw [Addr.add_mid, Addr.add_mid] at this
        exact this
      · have hk : k < s := by have := (List.getElem?_eq_some_iff.1 hu).1; omega
        have := hcell k hk
        rw [hu, Addr.add_mid, Addr.add_mid] at this
        exact this
    · obtain ⟨i, hi, rfl⟩ := List.mem_map.1 hy
      exact (hY i (by simpa using hi)).1
theorem int_cells : Try.prog.cellsOf 3 = 1 := by kernel_rfl
theorem take_one {l : List Value} {k : Nat} {v : Value} (h : (l.drop k).take 1 = [v]) : l[k]? = some v := by
  have := congrArg (fun l => l[0]?) h
  simpa using this
theorem open_intL (cs : List Value) (n : Nat) (x : DataW H × List MemPlace) (h : DataW.trod enc Try.prog W base' spare held n 3 cs = some x) (_ : cs.length = 1) : ∃ y : Int, cs = intE y ∧ True := by
  obtain ⟨m, h2, _, h3⟩ := DataW.trod_int Try.underlying3 h
  exact ⟨m, h2, trivial⟩
theorem und_pair : Try.prog.underlying 29 = some (.array 2 3) := by kernel_rfl
theorem open_pairL (cs : List Value) (n : Nat) (x : DataW H × List MemPlace) (hf : DataW.trod enc Try.prog W base' spare held n 29 cs = some x) (hl : cs.length = 2) : ∃ y : Int × Int, cs = pairE y ∧ True := by
  obtain ⟨xs, m, _, _, _, hxl, hx⟩ := DataW.trod_array und_pair hf
  have each : ∀ i, i < 2 → ∃ z : Int, cs[i]? = some (.int .i64 z) := fun i hi => by
    have h1 := hx i hi
    rw [int_cells] at h1
    have hxi : i < xs.length := by omega
    rw [List.getElem?_eq_getElem hxi] at h1
    obtain ⟨n, h2, _, _⟩ := DataW.trod_int Try.underlying3 h1
    refine ⟨n, take_one ?_⟩
    rw [Nat.mul_one] at h2
    exact h2
  obtain ⟨a, ha⟩ := each 0 (by omega)
  obtain ⟨b, hb⟩ := each 1 (by omega)
  refine ⟨(a, b), ?_, trivial⟩
  match cs, hl, ha, hb with
  | [u, v], _, ha, hb => simp at ha hb; subst ha; subst hb; rfl
end
end Go.Proofs.Ytlbccddhcbcpoaa.En
