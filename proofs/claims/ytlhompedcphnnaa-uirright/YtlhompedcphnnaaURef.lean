/- What the reference returns for Uses. -/
import Derived.Test.YtlhompedcphnnaaUUse
import Derived.Test.YtlhompedcphnnaaUUse1
namespace Go.Proofs.Ytlhompedcphnnaa
open Go.RowKit
set_option linter.unusedSimpArgs false
set_option linter.unusedVariables false

set_option maxHeartbeats 4000000 in
set_option maxRecDepth 4000 in
theorem ruses_any (i : Ins) (w : World) : Calls Try.prog 17 #[.agg (insC i)] w fun e w' => ∃ v, e = .returned v ∧ Grow w w' ∧ w'.ownsRow w.heap.size 3 1 v (useF i).length (paE (useF i)) := by
  have b0 : Below w.heap.size w w := Below.refl _ _
  refine enter (n := 59) Try.func17 rfl rfl (Nat.le_of_ble_eq_true rfl) ?_
  intro a1 hA2
  refine wp_seq ?_
  refine wp_region_lit ?_
  refine q_step hA2 rfl (d_box (wn rfl) (hA2.ev (v := (.agg (insC i))) rfl) ?_)
  intro g3 w4 eg5 hG6 (m7 : Blk w4 g3 (insC i) 23)
  have ge8 : w.heap.size ≤ g3 := eg5 ▸ b0.size
  have b9 := below_grow b0 hG6 b0.size
  intro a10 hA11
  refine q_step hA11 rfl (d_assign (wn rfl) (hA11.ev (v := (.slice none 0 0)) rfl) ?_)
  intro a12 hA13
  refine q_end ?_
  have hA14 : St 59 [(1, (.pointer (some ⟨g3, 0, none⟩))), (2, (.slice none 0 0))] a12 := hA13.cut _ (fm_cons (hA13.get 1 _ rfl) (fm_cons (hA13.get 2 _ rfl) fm_nil))
  refine t_norm ?_
  refine wp_seq ?_
  refine wp_region_lit ?_
  refine q_step hA14 rfl (d_assign (wn rfl) (hA14.ev (v := (.slice none 0 0)) rfl) ?_)
  intro a15 hA16
  refine q_end ?_
  have hA17 : St 59 [(1, (.pointer (some ⟨g3, 0, none⟩))), (2, (.slice none 0 0)), (3, (.slice none 0 0))] a15 := hA16.cut _ (fm_cons (hA16.get 1 _ rfl) (fm_cons (hA16.get 2 _ rfl) (fm_cons (hA16.get 3 _ rfl) fm_nil)))
  refine t_norm ?_
  refine wp_seq ?_
  refine wp_seq ?_
  refine wp_region_lit ?_
  refine q_step hA17 rfl (d_fieldAddr (wn rfl) (hA17.ev (v := (.pointer (some ⟨g3, 0, none⟩))) rfl) fo23_0 ?_)
  intro a18 hA19
  refine q_step hA19 rfl (d_load (v := (.int .i64 i.op)) (wn rfl) (hA19.ev (v := (.pointer (some ⟨g3, 0, none⟩))) rfl) one3 (m7.cell rfl) ?_)
  intro a20 hA21
  refine q_end ?_
  have hA22 : St 59 [(1, (.pointer (some ⟨g3, 0, none⟩))), (2, (.slice none 0 0)), (3, (.slice none 0 0)), (7, (.int .i64 i.op))] a20 := hA21.cut _ (fm_cons (hA21.get 1 _ rfl) (fm_cons (hA21.get 2 _ rfl) (fm_cons (hA21.get 3 _ rfl) (fm_cons (hA21.get 7 _ rfl) fm_nil))))
  refine t_norm ?_
  refine wp_block ?_
  refine wp_seq ?_
  refine wp_seq ?_
  refine wp_region_lit ?_
  rcases Bool.eq_false_or_eq_true (i.op == 2) with hb23 | hb23
  · skip
    have hq24 := eq_of_beq hb23
    refine q_step hA22 rfl (d_bin (wn rfl) (hA22.ev (v := (.int .i64 i.op)) rfl) (hA22.ev (v := (.int .i64 2)) rfl) (b_eq _ _ i.op 2 true _ hb23) ?_)
    intro a25 hA26
    refine q_step hA26 rfl (d_assign (wn rfl) (hA26.ev (v := (.bool true)) rfl) ?_)
    intro a27 hA28
    refine q_end ?_
    have hA29 : St 59 [(1, (.pointer (some ⟨g3, 0, none⟩))), (2, (.slice none 0 0)), (3, (.slice none 0 0)), (7, (.int .i64 i.op)), (8, (.bool true))] a27 := hA28.cut _ (fm_cons (hA28.get 1 _ rfl) (fm_cons (hA28.get 2 _ rfl) (fm_cons (hA28.get 3 _ rfl) (fm_cons (hA28.get 7 _ rfl) (fm_cons (hA28.get 8 _ rfl) fm_nil)))))
    refine t_norm ?_
    refine c_true hA29 rfl ?_
    refine wp_skip ?_
    refine t_norm ?_
    refine c_true hA29 rfl ?_
    refine wp_region_lit ?_
    refine q_step hA29 rfl (d_move (wn rfl) (hA29.ev (v := (.slice none 0 0)) rfl) ?_)
    intro a30 hA31
    refine q_step hA31 rfl (d_fieldAddr (wn rfl) (hA31.ev (v := (.pointer (some ⟨g3, 0, none⟩))) rfl) fo23_2 ?_)
    intro a32 hA33
    refine q_step hA33 rfl (d_load (v := (.int .i64 i.a)) (wn rfl) (hA33.ev (v := (.pointer (some ⟨g3, 2, none⟩))) rfl) one3 (m7.cell rfl) ?_)
    intro a34 hA35
    refine q_step hA35 rfl (d_slice1 (wn rfl) (hA35.ev (v := (.int .i64 i.a)) rfl) elm30 rfl (by decide) ?_)
    intro g36 w37 eg38 hG39 (m40 : Blk w37 g36 #[.int .i64 i.a] 3)
    have ge41 : w.heap.size ≤ g36 := eg38 ▸ b9.size
    have n42 : g3 ≠ g36 := fun h => Nat.lt_irrefl _ ((h.trans eg38) ▸ m7.lt)
    have m43 := m7.grow hG39
    have b44 := below_grow b9 hG39 b9.size
    intro a45 hA46
    refine q_step hA46 rfl (d_append (wn rfl) (hA46.ev (v := (.slice none 0 0)) rfl) (hA46.ev (v := (.slice (some ⟨g36, 0, none⟩) 1 1)) rfl) elm30 (⟨rfl, .inl ⟨rfl, rfl⟩⟩ : (w37).ownsRow w.heap.size 3 1 (.slice none 0 0) 0 []) m40 rfl rfl (by omega) (by decide) b44.size ?_)
    intro v47 w48 ho49 hg50 hl51
    have b52 := below_by b44 hg50 b44.size (fun k hk => (own_lt (⟨rfl, .inl ⟨rfl, rfl⟩⟩ : (w37).ownsRow w.heap.size 3 1 (.slice none 0 0) 0 []) k hk).1)
    have m53 := m43.by hg50 (fun h => nomatch h)
    have off54 := lies_ne hl51 (fun h => nomatch h) m43.lt
    intro a55 hA56
    refine q_step hA56 rfl (d_assign (wn rfl) (hA56.ev (v := v47) rfl) ?_)
    intro a57 hA58
    refine q_end ?_
    have hA59 : St 59 [(1, (.pointer (some ⟨g3, 0, none⟩))), (2, (.slice none 0 0)), (3, v47)] a57 := hA58.cut _ (fm_cons (hA58.get 1 _ rfl) (fm_cons (hA58.get 2 _ rfl) (fm_cons (hA58.get 3 _ rfl) fm_nil)))
    refine i_norm ?_
    refine t_norm ?_
    refine wp_seq ?_
    refine wp_seq ?_
    refine wp_region_lit ?_
    refine q_step hA59 rfl (d_loadRow (cs := (insC i)) (wn rfl) (hA59.ev (v := (.pointer (some ⟨g3, 0, none⟩))) rfl) row23 m53 ?_)
    intro a60 hA61
    refine q_step hA61 rfl (d_call (wn rfl) ent32 (map1 (hA61.ev (v := (.agg (insC i))) rfl)) (memory_any i w48) ?_)
    rintro e65 w62 ⟨he64, hG63⟩
    have m66 := m53.grow hG63
    have b67 := below_grow b52 hG63 b52.size
    have ho68 := own_grow hG63 ho49
    refine ⟨.bool false, he64.trans (ret_bool (by simp [opB, rdB, wrB, eq_of_beq hb23])), ?_⟩
    intro a69 hA70
    refine q_end ?_
    have hA71 : St 59 [(1, (.pointer (some ⟨g3, 0, none⟩))), (2, (.slice none 0 0)), (3, v47), (34, (.bool false))] a69 := hA70.cut _ (fm_cons (hA70.get 1 _ rfl) (fm_cons (hA70.get 2 _ rfl) (fm_cons (hA70.get 3 _ rfl) (fm_cons (hA70.get 34 _ rfl) fm_nil))))
    refine t_norm ?_
    refine c_false hA71 rfl ?_
    refine wp_skip ?_
    refine t_norm ?_
    refine wp_seq ?_
    refine wp_region_lit ?_
    refine q_step hA71 rfl (d_assign (wn rfl) (hA71.ev (v := (.slice none 0 0)) rfl) ?_)
    intro a72 hA73
    refine q_end ?_
    have hA74 : St 59 [(2, (.slice none 0 0)), (3, v47), (4, (.slice none 0 0))] a72 := hA73.cut _ (fm_cons (hA73.get 2 _ rfl) (fm_cons (hA73.get 3 _ rfl) (fm_cons (hA73.get 4 _ rfl) fm_nil)))
    refine t_norm ?_
    refine wp_seq ?_
    refine wp_seq ?_
    refine wp_region_lit ?_
    refine q_step hA74 rfl (d_assign (wn rfl) (hA74.ev (v := (.int .i64 0)) rfl) ?_)
    intro a75 hA76
    refine q_end ?_
    have hA77 : St 59 [(2, (.slice none 0 0)), (3, v47), (4, (.slice none 0 0)), (5, (.int .i64 0))] a75 := hA76.cut _ (fm_cons (hA76.get 2 _ rfl) (fm_cons (hA76.get 3 _ rfl) (fm_cons (hA76.get 4 _ rfl) (fm_cons (hA76.get 5 _ rfl) fm_nil))))
    refine t_norm ?_
    refine wp_block ?_
    have hs78 : Sl intE 1 w62.heap.size w62 v47 [i.a] := own_int (l := [i.a]) ho68
    obtain ⟨L79, hL80⟩ : ∃ L : List Int, L = [i.a] := ⟨_, rfl⟩
    have hn81 : L79.length ≤ 3 := by rw [hL80]; simp
    rw [← hL80] at hs78
    refine loop_by (fun m a' w' => ∃ (j : Nat) (v : Value), m = L79.length - j ∧ j ≤ L79.length ∧ St 59 [(3, v47), (4, v), (5, (.int .i64 ((j : Nat) : Int)))] a' ∧ Below w62.heap.size w62 w' ∧ w'.ownsRow w62.heap.size 3 1 v (useL L79 j).length (paE (useL L79 j))) (L79.length - 0) ⟨0, .slice none 0 0, rfl, Nat.zero_le _, hA77.cut _ (fm_cons (hA77.get 3 _ rfl) (fm_cons (hA77.get 4 _ rfl) (fm_cons (hA77.get 5 _ rfl) fm_nil))), Below.refl _ _, (by rw [show useL L79 0 = [] by simp [useL]]; exact ⟨rfl, .inl ⟨rfl, rfl⟩⟩)⟩ ?_
    rintro m82 a83 w84 ⟨j85, v86, hm87, hj88, hA89, b90, ho91⟩
    have hul := use_len L79 j85
    refine wp_seq ?_
    refine wp_seq ?_
    refine wp_region_lit ?_
    refine q_step hA89 rfl (d_move (wn rfl) (hA89.ev (v := (.int .i64 ((j85 : Nat) : Int))) rfl) ?_)
    intro a92 hA93
    refine q_step hA93 rfl (d_move (wn rfl) (hA93.ev (v := v47) rfl) ?_)
    intro a94 hA95
    refine q_step hA95 rfl (d_len (n := L79.length) (wn rfl) (hA95.ev (v := v47) rfl) slc30 hs78.form ?_)
    intro a96 hA97
    rcases Bool.eq_false_or_eq_true (decide (((j85 : Nat) : Int) < ((L79.length : Nat) : Int))) with hb98 | hb98
    · skip
      have hq99 := of_decide_eq_true hb98
      refine q_step hA97 rfl (d_bin (wn rfl) (hA97.ev (v := (.int .i64 ((j85 : Nat) : Int))) rfl) (hA97.ev (v := (.int .i64 ((L79.length : Nat) : Int))) rfl) (b_lt _ _ ((j85 : Nat) : Int) ((L79.length : Nat) : Int) true _ hb98) ?_)
      intro a100 hA101
      refine q_end ?_
      have hA102 : St 59 [(3, v47), (4, v86), (5, (.int .i64 ((j85 : Nat) : Int))), (40, (.int .i64 ((j85 : Nat) : Int))), (41, v47), (42, (.int .i64 ((L79.length : Nat) : Int))), (43, (.bool true))] a100 := hA101.cut _ (fm_cons (hA101.get 3 _ rfl) (fm_cons (hA101.get 4 _ rfl) (fm_cons (hA101.get 5 _ rfl) (fm_cons (hA101.get 40 _ rfl) (fm_cons (hA101.get 41 _ rfl) (fm_cons (hA101.get 42 _ rfl) (fm_cons (hA101.get 43 _ rfl) fm_nil)))))))
      refine t_norm ?_
      refine c_true hA102 rfl ?_
      refine wp_skip ?_
      refine t_norm ?_
      refine wp_seq ?_
      refine wp_block ?_
      refine wp_seq ?_
      refine wp_region_lit ?_
      refine q_step hA102 rfl (d_move (wn rfl) (hA102.ev (v := v47) rfl) ?_)
      intro a103 hA104
      refine q_step hA104 rfl (d_move (wn rfl) (hA104.ev (v := (.int .i64 ((j85 : Nat) : Int))) rfl) ?_)
      intro a105 hA106
      obtain ⟨y107, hy108⟩ : ∃ y107, L79[j85]? = some y107 := ⟨_, List.getElem?_eq_getElem (show j85 < L79.length by omega)⟩
      obtain ⟨b109, o110, lt111, hr112, hix113⟩ := (hs78.below b90).at hy108
      refine q_step hA106 rfl (d_indexAt (j := j85) (wn rfl) (hA106.ev (v := v47) rfl) (hA106.ev (v := (.int .i64 ((j85 : Nat) : Int))) rfl) slc30 hix113 (get_lt hy108) ?_)
      intro a114 hA115
      refine q_step hA115 rfl (d_load (v := (.int .i64 y107)) (wn rfl) (hA115.ev (v := (.pointer (some ⟨b109, o110, none⟩))) rfl) one3 (hr112 0 _ rfl) ?_)
      intro a116 hA117
      rcases Bool.eq_false_or_eq_true (y107 == (-1)) with hb118 | hb118
      · skip
        have hq119 := eq_of_beq hb118
        refine q_step hA117 rfl (d_bin (wn rfl) (hA117.ev (v := (.int .i64 y107)) rfl) (hA117.ev (v := (.int .i64 (-1))) rfl) (b_ne _ _ y107 (-1) false _ (notof hb118)) ?_)
        intro a120 hA121
        refine q_end ?_
        have hA122 : St 59 [(3, v47), (4, v86), (5, (.int .i64 ((j85 : Nat) : Int))), (40, (.int .i64 ((j85 : Nat) : Int))), (41, v47), (42, (.int .i64 ((L79.length : Nat) : Int))), (43, (.bool true)), (46, v47), (47, (.int .i64 ((j85 : Nat) : Int))), (48, (.pointer (some ⟨b109, o110, none⟩))), (49, (.int .i64 y107)), (50, (.bool false))] a120 := hA121.cut _ (fm_cons (hA121.get 3 _ rfl) (fm_cons (hA121.get 4 _ rfl) (fm_cons (hA121.get 5 _ rfl) (fm_cons (hA121.get 40 _ rfl) (fm_cons (hA121.get 41 _ rfl) (fm_cons (hA121.get 42 _ rfl) (fm_cons (hA121.get 43 _ rfl) (fm_cons (hA121.get 46 _ rfl) (fm_cons (hA121.get 47 _ rfl) (fm_cons (hA121.get 48 _ rfl) (fm_cons (hA121.get 49 _ rfl) (fm_cons (hA121.get 50 _ rfl) fm_nil))))))))))))
        refine t_norm ?_
        refine c_false hA122 rfl ?_
        refine wp_skip ?_
        refine i_norm ?_
        refine t_norm ?_
        refine wp_region_lit ?_
        refine q_step hA122 rfl (d_move (wn rfl) (hA122.ev (v := (.int .i64 ((j85 : Nat) : Int))) rfl) ?_)
        intro a123 hA124
        refine q_step hA124 rfl (d_bin (wn rfl) (hA124.ev (v := (.int .i64 ((j85 : Nat) : Int))) rfl) (hA124.ev (v := (.int .i64 1)) rfl) (b_add _ _ ((j85 : Nat) : Int) 1 _ (by omega) (by omega)) ?_)
        intro a125 hA126
        refine q_step hA126 rfl (d_assign (wn rfl) (hA126.ev (v := (.int .i64 (((j85 : Nat) : Int) + 1))) rfl) ?_)
        intro a127 hA128
        refine q_end ?_
        have hA129 : St 59 [(3, v47), (4, v86), (5, (.int .i64 (((j85 : Nat) : Int) + 1))), (40, (.int .i64 ((j85 : Nat) : Int))), (41, v47), (42, (.int .i64 ((L79.length : Nat) : Int))), (43, (.bool true)), (44, (.int .i64 ((j85 : Nat) : Int))), (45, (.int .i64 (((j85 : Nat) : Int) + 1))), (46, v47), (47, (.int .i64 ((j85 : Nat) : Int))), (48, (.pointer (some ⟨b109, o110, none⟩))), (49, (.int .i64 y107)), (50, (.bool false))] a127 := hA128.cut _ (fm_cons (hA128.get 3 _ rfl) (fm_cons (hA128.get 4 _ rfl) (fm_cons (hA128.get 5 _ rfl) (fm_cons (hA128.get 40 _ rfl) (fm_cons (hA128.get 41 _ rfl) (fm_cons (hA128.get 42 _ rfl) (fm_cons (hA128.get 43 _ rfl) (fm_cons (hA128.get 44 _ rfl) (fm_cons (hA128.get 45 _ rfl) (fm_cons (hA128.get 46 _ rfl) (fm_cons (hA128.get 47 _ rfl) (fm_cons (hA128.get 48 _ rfl) (fm_cons (hA128.get 49 _ rfl) (fm_cons (hA128.get 50 _ rfl) fm_nil))))))))))))))
        refine t_norm ?_
        exact ⟨L79.length - (j85 + 1), (by have := get_lt hy108; rw [hm87]; omega), j85 + 1, v86, rfl, (by have := get_lt hy108; omega), hA129.cut _ (fm_cons (hA129.get 3 _ rfl) (fm_cons (hA129.get 4 _ rfl) (fm_cons ((hA129.get 5 _ rfl).trans (congrArg (Value.int .i64) (by omega))) fm_nil))), b90, (by rw [use_no hy108 hb118]; exact ho91)⟩
      · skip
        have hq130 := ne_of_beq hb118
        refine q_step hA117 rfl (d_bin (wn rfl) (hA117.ev (v := (.int .i64 y107)) rfl) (hA117.ev (v := (.int .i64 (-1))) rfl) (b_ne _ _ y107 (-1) true _ (notof hb118)) ?_)
        intro a131 hA132
        refine q_end ?_
        have hA133 : St 59 [(3, v47), (4, v86), (5, (.int .i64 ((j85 : Nat) : Int))), (40, (.int .i64 ((j85 : Nat) : Int))), (41, v47), (42, (.int .i64 ((L79.length : Nat) : Int))), (43, (.bool true)), (46, v47), (47, (.int .i64 ((j85 : Nat) : Int))), (48, (.pointer (some ⟨b109, o110, none⟩))), (49, (.int .i64 y107)), (50, (.bool true))] a131 := hA132.cut _ (fm_cons (hA132.get 3 _ rfl) (fm_cons (hA132.get 4 _ rfl) (fm_cons (hA132.get 5 _ rfl) (fm_cons (hA132.get 40 _ rfl) (fm_cons (hA132.get 41 _ rfl) (fm_cons (hA132.get 42 _ rfl) (fm_cons (hA132.get 43 _ rfl) (fm_cons (hA132.get 46 _ rfl) (fm_cons (hA132.get 47 _ rfl) (fm_cons (hA132.get 48 _ rfl) (fm_cons (hA132.get 49 _ rfl) (fm_cons (hA132.get 50 _ rfl) fm_nil))))))))))))
        refine t_norm ?_
        refine c_true hA133 rfl ?_
        refine wp_region_lit ?_
        refine q_step hA133 rfl (d_move (wn rfl) (hA133.ev (v := v86) rfl) ?_)
        intro a134 hA135
        refine q_step hA135 rfl (d_move (wn rfl) (hA135.ev (v := v47) rfl) ?_)
        intro a136 hA137
        refine q_step hA137 rfl (d_move (wn rfl) (hA137.ev (v := (.int .i64 ((j85 : Nat) : Int))) rfl) ?_)
        intro a138 hA139
        refine q_step hA139 rfl (d_indexAt (j := j85) (wn rfl) (hA139.ev (v := v47) rfl) (hA139.ev (v := (.int .i64 ((j85 : Nat) : Int))) rfl) slc30 hix113 (get_lt hy108) ?_)
        intro a140 hA141
        refine q_step hA141 rfl (d_load (v := (.int .i64 y107)) (wn rfl) (hA141.ev (v := (.pointer (some ⟨b109, o110, none⟩))) rfl) one3 (hr112 0 _ rfl) ?_)
        intro a142 hA143
        refine q_step hA143 rfl (d_slice1 (wn rfl) (hA143.ev (v := (.int .i64 y107)) rfl) elm30 rfl (by decide) ?_)
        intro g144 w145 eg146 hG147 (m148 : Blk w145 g144 #[.int .i64 y107] 3)
        have ge149 : w62.heap.size ≤ g144 := eg146 ▸ b90.size
        have off150 := own_new ho91 eg146
        have hr151 := range_below hr112 hG147 (Nat.lt_of_lt_of_le lt111 b90.size)
        have b152 := below_grow b90 hG147 b90.size
        have ho153 := own_grow hG147 ho91
        intro a154 hA155
        refine q_step hA155 rfl (d_append (wn rfl) (hA155.ev (v := v86) rfl) (hA155.ev (v := (.slice (some ⟨g144, 0, none⟩) 1 1)) rfl) elm30 ho153 m148 rfl rfl (by omega) (by decide) b152.size ?_)
        intro v156 w157 ho158 hg159 hl160
        have b161 := below_by b152 hg159 b152.size (fun k hk => (own_lt ho153 k hk).1)
        intro a162 hA163
        refine q_step hA163 rfl (d_assign (wn rfl) (hA163.ev (v := v156) rfl) ?_)
        intro a164 hA165
        refine q_end ?_
        have hA166 : St 59 [(3, v47), (4, v156), (5, (.int .i64 ((j85 : Nat) : Int))), (40, (.int .i64 ((j85 : Nat) : Int))), (41, v47), (42, (.int .i64 ((L79.length : Nat) : Int))), (43, (.bool true)), (46, v47), (47, (.int .i64 ((j85 : Nat) : Int))), (48, (.pointer (some ⟨b109, o110, none⟩))), (49, (.int .i64 y107)), (50, (.bool true)), (51, v86), (52, v47), (53, (.int .i64 ((j85 : Nat) : Int))), (54, (.pointer (some ⟨b109, o110, none⟩))), (55, (.int .i64 y107)), (56, (.slice (some ⟨g144, 0, none⟩) 1 1)), (57, v156)] a164 := hA165.cut _ (fm_cons (hA165.get 3 _ rfl) (fm_cons (hA165.get 4 _ rfl) (fm_cons (hA165.get 5 _ rfl) (fm_cons (hA165.get 40 _ rfl) (fm_cons (hA165.get 41 _ rfl) (fm_cons (hA165.get 42 _ rfl) (fm_cons (hA165.get 43 _ rfl) (fm_cons (hA165.get 46 _ rfl) (fm_cons (hA165.get 47 _ rfl) (fm_cons (hA165.get 48 _ rfl) (fm_cons (hA165.get 49 _ rfl) (fm_cons (hA165.get 50 _ rfl) (fm_cons (hA165.get 51 _ rfl) (fm_cons (hA165.get 52 _ rfl) (fm_cons (hA165.get 53 _ rfl) (fm_cons (hA165.get 54 _ rfl) (fm_cons (hA165.get 55 _ rfl) (fm_cons (hA165.get 56 _ rfl) (fm_cons (hA165.get 57 _ rfl) fm_nil)))))))))))))))))))
        refine i_norm ?_
        refine t_norm ?_
        refine wp_region_lit ?_
        refine q_step hA166 rfl (d_move (wn rfl) (hA166.ev (v := (.int .i64 ((j85 : Nat) : Int))) rfl) ?_)
        intro a167 hA168
        refine q_step hA168 rfl (d_bin (wn rfl) (hA168.ev (v := (.int .i64 ((j85 : Nat) : Int))) rfl) (hA168.ev (v := (.int .i64 1)) rfl) (b_add _ _ ((j85 : Nat) : Int) 1 _ (by omega) (by omega)) ?_)
        intro a169 hA170
        refine q_step hA170 rfl (d_assign (wn rfl) (hA170.ev (v := (.int .i64 (((j85 : Nat) : Int) + 1))) rfl) ?_)
        intro a171 hA172
        refine q_end ?_
        have hA173 : St 59 [(3, v47), (4, v156), (5, (.int .i64 (((j85 : Nat) : Int) + 1))), (40, (.int .i64 ((j85 : Nat) : Int))), (41, v47), (42, (.int .i64 ((L79.length : Nat) : Int))), (43, (.bool true)), (44, (.int .i64 ((j85 : Nat) : Int))), (45, (.int .i64 (((j85 : Nat) : Int) + 1))), (46, v47), (47, (.int .i64 ((j85 : Nat) : Int))), (48, (.pointer (some ⟨b109, o110, none⟩))), (49, (.int .i64 y107)), (50, (.bool true)), (51, v86), (52, v47), (53, (.int .i64 ((j85 : Nat) : Int))), (54, (.pointer (some ⟨b109, o110, none⟩))), (55, (.int .i64 y107)), (56, (.slice (some ⟨g144, 0, none⟩) 1 1)), (57, v156)] a171 := hA172.cut _ (fm_cons (hA172.get 3 _ rfl) (fm_cons (hA172.get 4 _ rfl) (fm_cons (hA172.get 5 _ rfl) (fm_cons (hA172.get 40 _ rfl) (fm_cons (hA172.get 41 _ rfl) (fm_cons (hA172.get 42 _ rfl) (fm_cons (hA172.get 43 _ rfl) (fm_cons (hA172.get 44 _ rfl) (fm_cons (hA172.get 45 _ rfl) (fm_cons (hA172.get 46 _ rfl) (fm_cons (hA172.get 47 _ rfl) (fm_cons (hA172.get 48 _ rfl) (fm_cons (hA172.get 49 _ rfl) (fm_cons (hA172.get 50 _ rfl) (fm_cons (hA172.get 51 _ rfl) (fm_cons (hA172.get 52 _ rfl) (fm_cons (hA172.get 53 _ rfl) (fm_cons (hA172.get 54 _ rfl) (fm_cons (hA172.get 55 _ rfl) (fm_cons (hA172.get 56 _ rfl) (fm_cons (hA172.get 57 _ rfl) fm_nil)))))))))))))))))))))
        refine t_norm ?_
        exact ⟨L79.length - (j85 + 1), (by have := get_lt hy108; rw [hm87]; omega), j85 + 1, v156, rfl, (by have := get_lt hy108; omega), hA173.cut _ (fm_cons (hA173.get 3 _ rfl) (fm_cons (hA173.get 4 _ rfl) (fm_cons ((hA173.get 5 _ rfl).trans (congrArg (Value.int .i64) (by omega))) fm_nil))), b161, (by rw [use_yes hy108 hb118, List.length_append, ← paE_snoc]; exact ho158)⟩
    · skip
      have hq174 := of_decide_eq_false hb98
      refine q_step hA97 rfl (d_bin (wn rfl) (hA97.ev (v := (.int .i64 ((j85 : Nat) : Int))) rfl) (hA97.ev (v := (.int .i64 ((L79.length : Nat) : Int))) rfl) (b_lt _ _ ((j85 : Nat) : Int) ((L79.length : Nat) : Int) false _ hb98) ?_)
      intro a175 hA176
      refine q_end ?_
      have hA177 : St 59 [(3, v47), (4, v86), (5, (.int .i64 ((j85 : Nat) : Int))), (40, (.int .i64 ((j85 : Nat) : Int))), (41, v47), (42, (.int .i64 ((L79.length : Nat) : Int))), (43, (.bool false))] a175 := hA176.cut _ (fm_cons (hA176.get 3 _ rfl) (fm_cons (hA176.get 4 _ rfl) (fm_cons (hA176.get 5 _ rfl) (fm_cons (hA176.get 40 _ rfl) (fm_cons (hA176.get 41 _ rfl) (fm_cons (hA176.get 42 _ rfl) (fm_cons (hA176.get 43 _ rfl) fm_nil)))))))
      refine t_norm ?_
      refine c_false hA177 rfl ?_
      refine wp_exit ?_
      refine t_exit ?_
      refine t_exit ?_
      refine i_here ?_
      refine t_norm ?_
      refine wp_seq ?_
      refine wp_region_lit ?_
      refine q_step hA177 rfl (d_move (wn rfl) (hA177.ev (v := v86) rfl) ?_)
      intro a178 hA179
      refine q_step hA179 rfl (d_assign (wn rfl) (hA179.ev (v := v86) rfl) ?_)
      intro a180 hA181
      refine q_end ?_
      have hA182 : St 59 [(2, v86)] a180 := hA181.cut _ (fm_cons (hA181.get 2 _ rfl) fm_nil)
      refine t_norm ?_
      refine wp_ret ?_
      refine ret1 rfl hA182 (v := v86) rfl ?_
      have he183 : useL L79 j85 = useF i := by rw [use_all (by omega), hL80]; simp [useF, useX, plainF, List.filter_cons, eq_of_beq hb23, opB, rdB, wrB]
      exact ⟨_, rfl, Grow.trans b67 b90, (by rw [← he183]; exact own_le ho91 b67.size)⟩
  · skip
    have hq184 := ne_of_beq hb23
    refine q_step hA22 rfl (d_bin (wn rfl) (hA22.ev (v := (.int .i64 i.op)) rfl) (hA22.ev (v := (.int .i64 2)) rfl) (b_eq _ _ i.op 2 false _ hb23) ?_)
    intro a185 hA186
    refine q_step hA186 rfl (d_assign (wn rfl) (hA186.ev (v := (.bool false)) rfl) ?_)
    intro a187 hA188
    refine q_end ?_
    have hA189 : St 59 [(1, (.pointer (some ⟨g3, 0, none⟩))), (2, (.slice none 0 0)), (3, (.slice none 0 0)), (7, (.int .i64 i.op)), (8, (.bool false))] a187 := hA188.cut _ (fm_cons (hA188.get 1 _ rfl) (fm_cons (hA188.get 2 _ rfl) (fm_cons (hA188.get 3 _ rfl) (fm_cons (hA188.get 7 _ rfl) (fm_cons (hA188.get 8 _ rfl) fm_nil)))))
    refine t_norm ?_
    refine c_false hA189 rfl ?_
    refine wp_seq ?_
    refine wp_region_lit ?_
    rcases Bool.eq_false_or_eq_true (i.op == 9) with hb190 | hb190
    · skip
      have hq191 := eq_of_beq hb190
      refine q_step hA189 rfl (d_bin (wn rfl) (hA189.ev (v := (.int .i64 i.op)) rfl) (hA189.ev (v := (.int .i64 9)) rfl) (b_eq _ _ i.op 9 true _ hb190) ?_)
      intro a192 hA193
      refine q_step hA193 rfl (d_assign (wn rfl) (hA193.ev (v := (.bool true)) rfl) ?_)
      intro a194 hA195
      refine q_end ?_
      have hA196 : St 59 [(1, (.pointer (some ⟨g3, 0, none⟩))), (2, (.slice none 0 0)), (3, (.slice none 0 0)), (7, (.int .i64 i.op)), (8, (.bool true))] a194 := hA195.cut _ (fm_cons (hA195.get 1 _ rfl) (fm_cons (hA195.get 2 _ rfl) (fm_cons (hA195.get 3 _ rfl) (fm_cons (hA195.get 7 _ rfl) (fm_cons (hA195.get 8 _ rfl) fm_nil)))))
      refine t_norm ?_
      refine c_true hA196 rfl ?_
      refine wp_skip ?_
      refine t_norm ?_
      refine c_true hA196 rfl ?_
      refine wp_region_lit ?_
      refine q_step hA196 rfl (d_move (wn rfl) (hA196.ev (v := (.slice none 0 0)) rfl) ?_)
      intro a197 hA198
      refine q_step hA198 rfl (d_fieldAddr (wn rfl) (hA198.ev (v := (.pointer (some ⟨g3, 0, none⟩))) rfl) fo23_2 ?_)
      intro a199 hA200
      refine q_step hA200 rfl (d_load (v := (.int .i64 i.a)) (wn rfl) (hA200.ev (v := (.pointer (some ⟨g3, 2, none⟩))) rfl) one3 (m7.cell rfl) ?_)
      intro a201 hA202
      refine q_step hA202 rfl (d_slice1 (wn rfl) (hA202.ev (v := (.int .i64 i.a)) rfl) elm30 rfl (by decide) ?_)
      intro g203 w204 eg205 hG206 (m207 : Blk w204 g203 #[.int .i64 i.a] 3)
      have ge208 : w.heap.size ≤ g203 := eg205 ▸ b9.size
      have n209 : g3 ≠ g203 := fun h => Nat.lt_irrefl _ ((h.trans eg205) ▸ m7.lt)
      have m210 := m7.grow hG206
      have b211 := below_grow b9 hG206 b9.size
      intro a212 hA213
      refine q_step hA213 rfl (d_append (wn rfl) (hA213.ev (v := (.slice none 0 0)) rfl) (hA213.ev (v := (.slice (some ⟨g203, 0, none⟩) 1 1)) rfl) elm30 (⟨rfl, .inl ⟨rfl, rfl⟩⟩ : (w204).ownsRow w.heap.size 3 1 (.slice none 0 0) 0 []) m207 rfl rfl (by omega) (by decide) b211.size ?_)
      intro v214 w215 ho216 hg217 hl218
      have b219 := below_by b211 hg217 b211.size (fun k hk => (own_lt (⟨rfl, .inl ⟨rfl, rfl⟩⟩ : (w204).ownsRow w.heap.size 3 1 (.slice none 0 0) 0 []) k hk).1)
      have m220 := m210.by hg217 (fun h => nomatch h)
      have off221 := lies_ne hl218 (fun h => nomatch h) m210.lt
      intro a222 hA223
      refine q_step hA223 rfl (d_assign (wn rfl) (hA223.ev (v := v214) rfl) ?_)
      intro a224 hA225
      refine q_end ?_
      have hA226 : St 59 [(1, (.pointer (some ⟨g3, 0, none⟩))), (2, (.slice none 0 0)), (3, v214)] a224 := hA225.cut _ (fm_cons (hA225.get 1 _ rfl) (fm_cons (hA225.get 2 _ rfl) (fm_cons (hA225.get 3 _ rfl) fm_nil)))
      refine i_norm ?_
      refine t_norm ?_
      refine wp_seq ?_
      refine wp_seq ?_
      refine wp_region_lit ?_
      refine q_step hA226 rfl (d_loadRow (cs := (insC i)) (wn rfl) (hA226.ev (v := (.pointer (some ⟨g3, 0, none⟩))) rfl) row23 m220 ?_)
      intro a227 hA228
      refine q_step hA228 rfl (d_call (wn rfl) ent32 (map1 (hA228.ev (v := (.agg (insC i))) rfl)) (memory_any i w215) ?_)
      rintro e232 w229 ⟨he231, hG230⟩
      have m233 := m220.grow hG230
      have b234 := below_grow b219 hG230 b219.size
      have ho235 := own_grow hG230 ho216
      refine ⟨.bool false, he231.trans (ret_bool (by simp [opB, rdB, wrB, eq_of_beq hb190])), ?_⟩
      intro a236 hA237
      refine q_end ?_
      have hA238 : St 59 [(1, (.pointer (some ⟨g3, 0, none⟩))), (2, (.slice none 0 0)), (3, v214), (34, (.bool false))] a236 := hA237.cut _ (fm_cons (hA237.get 1 _ rfl) (fm_cons (hA237.get 2 _ rfl) (fm_cons (hA237.get 3 _ rfl) (fm_cons (hA237.get 34 _ rfl) fm_nil))))
      refine t_norm ?_
      refine c_false hA238 rfl ?_
      refine wp_skip ?_
      refine t_norm ?_
      refine wp_seq ?_
      refine wp_region_lit ?_
      refine q_step hA238 rfl (d_assign (wn rfl) (hA238.ev (v := (.slice none 0 0)) rfl) ?_)
      intro a239 hA240
      refine q_end ?_
      have hA241 : St 59 [(2, (.slice none 0 0)), (3, v214), (4, (.slice none 0 0))] a239 := hA240.cut _ (fm_cons (hA240.get 2 _ rfl) (fm_cons (hA240.get 3 _ rfl) (fm_cons (hA240.get 4 _ rfl) fm_nil)))
      refine t_norm ?_
      refine wp_seq ?_
      refine wp_seq ?_
      refine wp_region_lit ?_
      refine q_step hA241 rfl (d_assign (wn rfl) (hA241.ev (v := (.int .i64 0)) rfl) ?_)
      intro a242 hA243
      refine q_end ?_
      have hA244 : St 59 [(2, (.slice none 0 0)), (3, v214), (4, (.slice none 0 0)), (5, (.int .i64 0))] a242 := hA243.cut _ (fm_cons (hA243.get 2 _ rfl) (fm_cons (hA243.get 3 _ rfl) (fm_cons (hA243.get 4 _ rfl) (fm_cons (hA243.get 5 _ rfl) fm_nil))))
      refine t_norm ?_
      refine wp_block ?_
      have hs245 : Sl intE 1 w229.heap.size w229 v214 [i.a] := own_int (l := [i.a]) ho235
      obtain ⟨L246, hL247⟩ : ∃ L : List Int, L = [i.a] := ⟨_, rfl⟩
      have hn248 : L246.length ≤ 3 := by rw [hL247]; simp
      rw [← hL247] at hs245
      refine loop_by (fun m a' w' => ∃ (j : Nat) (v : Value), m = L246.length - j ∧ j ≤ L246.length ∧ St 59 [(3, v214), (4, v), (5, (.int .i64 ((j : Nat) : Int)))] a' ∧ Below w229.heap.size w229 w' ∧ w'.ownsRow w229.heap.size 3 1 v (useL L246 j).length (paE (useL L246 j))) (L246.length - 0) ⟨0, .slice none 0 0, rfl, Nat.zero_le _, hA244.cut _ (fm_cons (hA244.get 3 _ rfl) (fm_cons (hA244.get 4 _ rfl) (fm_cons (hA244.get 5 _ rfl) fm_nil))), Below.refl _ _, (by rw [show useL L246 0 = [] by simp [useL]]; exact ⟨rfl, .inl ⟨rfl, rfl⟩⟩)⟩ ?_
      rintro m249 a250 w251 ⟨j252, v253, hm254, hj255, hA256, b257, ho258⟩
      have hul := use_len L246 j252
      refine wp_seq ?_
      refine wp_seq ?_
      refine wp_region_lit ?_
      refine q_step hA256 rfl (d_move (wn rfl) (hA256.ev (v := (.int .i64 ((j252 : Nat) : Int))) rfl) ?_)
      intro a259 hA260
      refine q_step hA260 rfl (d_move (wn rfl) (hA260.ev (v := v214) rfl) ?_)
      intro a261 hA262
      refine q_step hA262 rfl (d_len (n := L246.length) (wn rfl) (hA262.ev (v := v214) rfl) slc30 hs245.form ?_)
      intro a263 hA264
      rcases Bool.eq_false_or_eq_true (decide (((j252 : Nat) : Int) < ((L246.length : Nat) : Int))) with hb265 | hb265
      · skip
        have hq266 := of_decide_eq_true hb265
        refine q_step hA264 rfl (d_bin (wn rfl) (hA264.ev (v := (.int .i64 ((j252 : Nat) : Int))) rfl) (hA264.ev (v := (.int .i64 ((L246.length : Nat) : Int))) rfl) (b_lt _ _ ((j252 : Nat) : Int) ((L246.length : Nat) : Int) true _ hb265) ?_)
        intro a267 hA268
        refine q_end ?_
        have hA269 : St 59 [(3, v214), (4, v253), (5, (.int .i64 ((j252 : Nat) : Int))), (40, (.int .i64 ((j252 : Nat) : Int))), (41, v214), (42, (.int .i64 ((L246.length : Nat) : Int))), (43, (.bool true))] a267 := hA268.cut _ (fm_cons (hA268.get 3 _ rfl) (fm_cons (hA268.get 4 _ rfl) (fm_cons (hA268.get 5 _ rfl) (fm_cons (hA268.get 40 _ rfl) (fm_cons (hA268.get 41 _ rfl) (fm_cons (hA268.get 42 _ rfl) (fm_cons (hA268.get 43 _ rfl) fm_nil)))))))
        refine t_norm ?_
        refine c_true hA269 rfl ?_
        refine wp_skip ?_
        refine t_norm ?_
        refine wp_seq ?_
        refine wp_block ?_
        refine wp_seq ?_
        refine wp_region_lit ?_
        refine q_step hA269 rfl (d_move (wn rfl) (hA269.ev (v := v214) rfl) ?_)
        intro a270 hA271
        refine q_step hA271 rfl (d_move (wn rfl) (hA271.ev (v := (.int .i64 ((j252 : Nat) : Int))) rfl) ?_)
        intro a272 hA273
        obtain ⟨y274, hy275⟩ : ∃ y274, L246[j252]? = some y274 := ⟨_, List.getElem?_eq_getElem (show j252 < L246.length by omega)⟩
        obtain ⟨b276, o277, lt278, hr279, hix280⟩ := (hs245.below b257).at hy275
        refine q_step hA273 rfl (d_indexAt (j := j252) (wn rfl) (hA273.ev (v := v214) rfl) (hA273.ev (v := (.int .i64 ((j252 : Nat) : Int))) rfl) slc30 hix280 (get_lt hy275) ?_)
        intro a281 hA282
        refine q_step hA282 rfl (d_load (v := (.int .i64 y274)) (wn rfl) (hA282.ev (v := (.pointer (some ⟨b276, o277, none⟩))) rfl) one3 (hr279 0 _ rfl) ?_)
        intro a283 hA284
        rcases Bool.eq_false_or_eq_true (y274 == (-1)) with hb285 | hb285
        · skip
          have hq286 := eq_of_beq hb285
          refine q_step hA284 rfl (d_bin (wn rfl) (hA284.ev (v := (.int .i64 y274)) rfl) (hA284.ev (v := (.int .i64 (-1))) rfl) (b_ne _ _ y274 (-1) false _ (notof hb285)) ?_)
          intro a287 hA288
          refine q_end ?_
          have hA289 : St 59 [(3, v214), (4, v253), (5, (.int .i64 ((j252 : Nat) : Int))), (40, (.int .i64 ((j252 : Nat) : Int))), (41, v214), (42, (.int .i64 ((L246.length : Nat) : Int))), (43, (.bool true)), (46, v214), (47, (.int .i64 ((j252 : Nat) : Int))), (48, (.pointer (some ⟨b276, o277, none⟩))), (49, (.int .i64 y274)), (50, (.bool false))] a287 := hA288.cut _ (fm_cons (hA288.get 3 _ rfl) (fm_cons (hA288.get 4 _ rfl) (fm_cons (hA288.get 5 _ rfl) (fm_cons (hA288.get 40 _ rfl) (fm_cons (hA288.get 41 _ rfl) (fm_cons (hA288.get 42 _ rfl) (fm_cons (hA288.get 43 _ rfl) (fm_cons (hA288.get 46 _ rfl) (fm_cons (hA288.get 47 _ rfl) (fm_cons (hA288.get 48 _ rfl) (fm_cons (hA288.get 49 _ rfl) (fm_cons (hA288.get 50 _ rfl) fm_nil))))))))))))
          refine t_norm ?_
          refine c_false hA289 rfl ?_
          refine wp_skip ?_
          refine i_norm ?_
          refine t_norm ?_
          refine wp_region_lit ?_
          refine q_step hA289 rfl (d_move (wn rfl) (hA289.ev (v := (.int .i64 ((j252 : Nat) : Int))) rfl) ?_)
          intro a290 hA291
          refine q_step hA291 rfl (d_bin (wn rfl) (hA291.ev (v := (.int .i64 ((j252 : Nat) : Int))) rfl) (hA291.ev (v := (.int .i64 1)) rfl) (b_add _ _ ((j252 : Nat) : Int) 1 _ (by omega) (by omega)) ?_)
          intro a292 hA293
          refine q_step hA293 rfl (d_assign (wn rfl) (hA293.ev (v := (.int .i64 (((j252 : Nat) : Int) + 1))) rfl) ?_)
          intro a294 hA295
          refine q_end ?_
          have hA296 : St 59 [(3, v214), (4, v253), (5, (.int .i64 (((j252 : Nat) : Int) + 1))), (40, (.int .i64 ((j252 : Nat) : Int))), (41, v214), (42, (.int .i64 ((L246.length : Nat) : Int))), (43, (.bool true)), (44, (.int .i64 ((j252 : Nat) : Int))), (45, (.int .i64 (((j252 : Nat) : Int) + 1))), (46, v214), (47, (.int .i64 ((j252 : Nat) : Int))), (48, (.pointer (some ⟨b276, o277, none⟩))), (49, (.int .i64 y274)), (50, (.bool false))] a294 := hA295.cut _ (fm_cons (hA295.get 3 _ rfl) (fm_cons (hA295.get 4 _ rfl) (fm_cons (hA295.get 5 _ rfl) (fm_cons (hA295.get 40 _ rfl) (fm_cons (hA295.get 41 _ rfl) (fm_cons (hA295.get 42 _ rfl) (fm_cons (hA295.get 43 _ rfl) (fm_cons (hA295.get 44 _ rfl) (fm_cons (hA295.get 45 _ rfl) (fm_cons (hA295.get 46 _ rfl) (fm_cons (hA295.get 47 _ rfl) (fm_cons (hA295.get 48 _ rfl) (fm_cons (hA295.get 49 _ rfl) (fm_cons (hA295.get 50 _ rfl) fm_nil))))))))))))))
          refine t_norm ?_
          exact ⟨L246.length - (j252 + 1), (by have := get_lt hy275; rw [hm254]; omega), j252 + 1, v253, rfl, (by have := get_lt hy275; omega), hA296.cut _ (fm_cons (hA296.get 3 _ rfl) (fm_cons (hA296.get 4 _ rfl) (fm_cons ((hA296.get 5 _ rfl).trans (congrArg (Value.int .i64) (by omega))) fm_nil))), b257, (by rw [use_no hy275 hb285]; exact ho258)⟩
        · skip
          have hq297 := ne_of_beq hb285
          refine q_step hA284 rfl (d_bin (wn rfl) (hA284.ev (v := (.int .i64 y274)) rfl) (hA284.ev (v := (.int .i64 (-1))) rfl) (b_ne _ _ y274 (-1) true _ (notof hb285)) ?_)
          intro a298 hA299
          refine q_end ?_
          have hA300 : St 59 [(3, v214), (4, v253), (5, (.int .i64 ((j252 : Nat) : Int))), (40, (.int .i64 ((j252 : Nat) : Int))), (41, v214), (42, (.int .i64 ((L246.length : Nat) : Int))), (43, (.bool true)), (46, v214), (47, (.int .i64 ((j252 : Nat) : Int))), (48, (.pointer (some ⟨b276, o277, none⟩))), (49, (.int .i64 y274)), (50, (.bool true))] a298 := hA299.cut _ (fm_cons (hA299.get 3 _ rfl) (fm_cons (hA299.get 4 _ rfl) (fm_cons (hA299.get 5 _ rfl) (fm_cons (hA299.get 40 _ rfl) (fm_cons (hA299.get 41 _ rfl) (fm_cons (hA299.get 42 _ rfl) (fm_cons (hA299.get 43 _ rfl) (fm_cons (hA299.get 46 _ rfl) (fm_cons (hA299.get 47 _ rfl) (fm_cons (hA299.get 48 _ rfl) (fm_cons (hA299.get 49 _ rfl) (fm_cons (hA299.get 50 _ rfl) fm_nil))))))))))))
          refine t_norm ?_
          refine c_true hA300 rfl ?_
          refine wp_region_lit ?_
          refine q_step hA300 rfl (d_move (wn rfl) (hA300.ev (v := v253) rfl) ?_)
          intro a301 hA302
          refine q_step hA302 rfl (d_move (wn rfl) (hA302.ev (v := v214) rfl) ?_)
          intro a303 hA304
          refine q_step hA304 rfl (d_move (wn rfl) (hA304.ev (v := (.int .i64 ((j252 : Nat) : Int))) rfl) ?_)
          intro a305 hA306
          refine q_step hA306 rfl (d_indexAt (j := j252) (wn rfl) (hA306.ev (v := v214) rfl) (hA306.ev (v := (.int .i64 ((j252 : Nat) : Int))) rfl) slc30 hix280 (get_lt hy275) ?_)
          intro a307 hA308
          refine q_step hA308 rfl (d_load (v := (.int .i64 y274)) (wn rfl) (hA308.ev (v := (.pointer (some ⟨b276, o277, none⟩))) rfl) one3 (hr279 0 _ rfl) ?_)
          intro a309 hA310
          refine q_step hA310 rfl (d_slice1 (wn rfl) (hA310.ev (v := (.int .i64 y274)) rfl) elm30 rfl (by decide) ?_)
          intro g311 w312 eg313 hG314 (m315 : Blk w312 g311 #[.int .i64 y274] 3)
          have ge316 : w229.heap.size ≤ g311 := eg313 ▸ b257.size
          have off317 := own_new ho258 eg313
          have hr318 := range_below hr279 hG314 (Nat.lt_of_lt_of_le lt278 b257.size)
          have b319 := below_grow b257 hG314 b257.size
          have ho320 := own_grow hG314 ho258
          intro a321 hA322
          refine q_step hA322 rfl (d_append (wn rfl) (hA322.ev (v := v253) rfl) (hA322.ev (v := (.slice (some ⟨g311, 0, none⟩) 1 1)) rfl) elm30 ho320 m315 rfl rfl (by omega) (by decide) b319.size ?_)
          intro v323 w324 ho325 hg326 hl327
          have b328 := below_by b319 hg326 b319.size (fun k hk => (own_lt ho320 k hk).1)
          intro a329 hA330
          refine q_step hA330 rfl (d_assign (wn rfl) (hA330.ev (v := v323) rfl) ?_)
          intro a331 hA332
          refine q_end ?_
          have hA333 : St 59 [(3, v214), (4, v323), (5, (.int .i64 ((j252 : Nat) : Int))), (40, (.int .i64 ((j252 : Nat) : Int))), (41, v214), (42, (.int .i64 ((L246.length : Nat) : Int))), (43, (.bool true)), (46, v214), (47, (.int .i64 ((j252 : Nat) : Int))), (48, (.pointer (some ⟨b276, o277, none⟩))), (49, (.int .i64 y274)), (50, (.bool true)), (51, v253), (52, v214), (53, (.int .i64 ((j252 : Nat) : Int))), (54, (.pointer (some ⟨b276, o277, none⟩))), (55, (.int .i64 y274)), (56, (.slice (some ⟨g311, 0, none⟩) 1 1)), (57, v323)] a331 := hA332.cut _ (fm_cons (hA332.get 3 _ rfl) (fm_cons (hA332.get 4 _ rfl) (fm_cons (hA332.get 5 _ rfl) (fm_cons (hA332.get 40 _ rfl) (fm_cons (hA332.get 41 _ rfl) (fm_cons (hA332.get 42 _ rfl) (fm_cons (hA332.get 43 _ rfl) (fm_cons (hA332.get 46 _ rfl) (fm_cons (hA332.get 47 _ rfl) (fm_cons (hA332.get 48 _ rfl) (fm_cons (hA332.get 49 _ rfl) (fm_cons (hA332.get 50 _ rfl) (fm_cons (hA332.get 51 _ rfl) (fm_cons (hA332.get 52 _ rfl) (fm_cons (hA332.get 53 _ rfl) (fm_cons (hA332.get 54 _ rfl) (fm_cons (hA332.get 55 _ rfl) (fm_cons (hA332.get 56 _ rfl) (fm_cons (hA332.get 57 _ rfl) fm_nil)))))))))))))))))))
          refine i_norm ?_
          refine t_norm ?_
          refine wp_region_lit ?_
          refine q_step hA333 rfl (d_move (wn rfl) (hA333.ev (v := (.int .i64 ((j252 : Nat) : Int))) rfl) ?_)
          intro a334 hA335
          refine q_step hA335 rfl (d_bin (wn rfl) (hA335.ev (v := (.int .i64 ((j252 : Nat) : Int))) rfl) (hA335.ev (v := (.int .i64 1)) rfl) (b_add _ _ ((j252 : Nat) : Int) 1 _ (by omega) (by omega)) ?_)
          intro a336 hA337
          refine q_step hA337 rfl (d_assign (wn rfl) (hA337.ev (v := (.int .i64 (((j252 : Nat) : Int) + 1))) rfl) ?_)
          intro a338 hA339
          refine q_end ?_
          have hA340 : St 59 [(3, v214), (4, v323), (5, (.int .i64 (((j252 : Nat) : Int) + 1))), (40, (.int .i64 ((j252 : Nat) : Int))), (41, v214), (42, (.int .i64 ((L246.length : Nat) : Int))), (43, (.bool true)), (44, (.int .i64 ((j252 : Nat) : Int))), (45, (.int .i64 (((j252 : Nat) : Int) + 1))), (46, v214), (47, (.int .i64 ((j252 : Nat) : Int))), (48, (.pointer (some ⟨b276, o277, none⟩))), (49, (.int .i64 y274)), (50, (.bool true)), (51, v253), (52, v214), (53, (.int .i64 ((j252 : Nat) : Int))), (54, (.pointer (some ⟨b276, o277, none⟩))), (55, (.int .i64 y274)), (56, (.slice (some ⟨g311, 0, none⟩) 1 1)), (57, v323)] a338 := hA339.cut _ (fm_cons (hA339.get 3 _ rfl) (fm_cons (hA339.get 4 _ rfl) (fm_cons (hA339.get 5 _ rfl) (fm_cons (hA339.get 40 _ rfl) (fm_cons (hA339.get 41 _ rfl) (fm_cons (hA339.get 42 _ rfl) (fm_cons (hA339.get 43 _ rfl) (fm_cons (hA339.get 44 _ rfl) (fm_cons (hA339.get 45 _ rfl) (fm_cons (hA339.get 46 _ rfl) (fm_cons (hA339.get 47 _ rfl) (fm_cons (hA339.get 48 _ rfl) (fm_cons (hA339.get 49 _ rfl) (fm_cons (hA339.get 50 _ rfl) (fm_cons (hA339.get 51 _ rfl) (fm_cons (hA339.get 52 _ rfl) (fm_cons (hA339.get 53 _ rfl) (fm_cons (hA339.get 54 _ rfl) (fm_cons (hA339.get 55 _ rfl) (fm_cons (hA339.get 56 _ rfl) (fm_cons (hA339.get 57 _ rfl) fm_nil)))))))))))))))))))))
          refine t_norm ?_
          exact ⟨L246.length - (j252 + 1), (by have := get_lt hy275; rw [hm254]; omega), j252 + 1, v323, rfl, (by have := get_lt hy275; omega), hA340.cut _ (fm_cons (hA340.get 3 _ rfl) (fm_cons (hA340.get 4 _ rfl) (fm_cons ((hA340.get 5 _ rfl).trans (congrArg (Value.int .i64) (by omega))) fm_nil))), b328, (by rw [use_yes hy275 hb285, List.length_append, ← paE_snoc]; exact ho325)⟩
      · skip
        have hq341 := of_decide_eq_false hb265
        refine q_step hA264 rfl (d_bin (wn rfl) (hA264.ev (v := (.int .i64 ((j252 : Nat) : Int))) rfl) (hA264.ev (v := (.int .i64 ((L246.length : Nat) : Int))) rfl) (b_lt _ _ ((j252 : Nat) : Int) ((L246.length : Nat) : Int) false _ hb265) ?_)
        intro a342 hA343
        refine q_end ?_
        have hA344 : St 59 [(3, v214), (4, v253), (5, (.int .i64 ((j252 : Nat) : Int))), (40, (.int .i64 ((j252 : Nat) : Int))), (41, v214), (42, (.int .i64 ((L246.length : Nat) : Int))), (43, (.bool false))] a342 := hA343.cut _ (fm_cons (hA343.get 3 _ rfl) (fm_cons (hA343.get 4 _ rfl) (fm_cons (hA343.get 5 _ rfl) (fm_cons (hA343.get 40 _ rfl) (fm_cons (hA343.get 41 _ rfl) (fm_cons (hA343.get 42 _ rfl) (fm_cons (hA343.get 43 _ rfl) fm_nil)))))))
        refine t_norm ?_
        refine c_false hA344 rfl ?_
        refine wp_exit ?_
        refine t_exit ?_
        refine t_exit ?_
        refine i_here ?_
        refine t_norm ?_
        refine wp_seq ?_
        refine wp_region_lit ?_
        refine q_step hA344 rfl (d_move (wn rfl) (hA344.ev (v := v253) rfl) ?_)
        intro a345 hA346
        refine q_step hA346 rfl (d_assign (wn rfl) (hA346.ev (v := v253) rfl) ?_)
        intro a347 hA348
        refine q_end ?_
        have hA349 : St 59 [(2, v253)] a347 := hA348.cut _ (fm_cons (hA348.get 2 _ rfl) fm_nil)
        refine t_norm ?_
        refine wp_ret ?_
        refine ret1 rfl hA349 (v := v253) rfl ?_
        have he350 : useL L246 j252 = useF i := by rw [use_all (by omega), hL247]; simp [useF, useX, plainF, List.filter_cons, hb23, eq_of_beq hb190, opB, rdB, wrB]
        exact ⟨_, rfl, Grow.trans b234 b257, (by rw [← he350]; exact own_le ho258 b234.size)⟩
    · skip
      have hq351 := ne_of_beq hb190
      refine q_step hA189 rfl (d_bin (wn rfl) (hA189.ev (v := (.int .i64 i.op)) rfl) (hA189.ev (v := (.int .i64 9)) rfl) (b_eq _ _ i.op 9 false _ hb190) ?_)
      intro a352 hA353
      refine q_step hA353 rfl (d_assign (wn rfl) (hA353.ev (v := (.bool false)) rfl) ?_)
      intro a354 hA355
      refine q_end ?_
      have hA356 : St 59 [(1, (.pointer (some ⟨g3, 0, none⟩))), (2, (.slice none 0 0)), (3, (.slice none 0 0)), (7, (.int .i64 i.op)), (8, (.bool false))] a354 := hA355.cut _ (fm_cons (hA355.get 1 _ rfl) (fm_cons (hA355.get 2 _ rfl) (fm_cons (hA355.get 3 _ rfl) (fm_cons (hA355.get 7 _ rfl) (fm_cons (hA355.get 8 _ rfl) fm_nil)))))
      refine t_norm ?_
      refine c_false hA356 rfl ?_
      refine wp_region_lit ?_
      rcases Bool.eq_false_or_eq_true (i.op == 6) with hb357 | hb357
      · skip
        have hq358 := eq_of_beq hb357
        refine q_step hA356 rfl (d_bin (wn rfl) (hA356.ev (v := (.int .i64 i.op)) rfl) (hA356.ev (v := (.int .i64 6)) rfl) (b_eq _ _ i.op 6 true _ hb357) ?_)
        intro a359 hA360
        refine q_step hA360 rfl (d_assign (wn rfl) (hA360.ev (v := (.bool true)) rfl) ?_)
        intro a361 hA362
        refine q_end ?_
        have hA363 : St 59 [(1, (.pointer (some ⟨g3, 0, none⟩))), (2, (.slice none 0 0)), (3, (.slice none 0 0)), (7, (.int .i64 i.op)), (8, (.bool true))] a361 := hA362.cut _ (fm_cons (hA362.get 1 _ rfl) (fm_cons (hA362.get 2 _ rfl) (fm_cons (hA362.get 3 _ rfl) (fm_cons (hA362.get 7 _ rfl) (fm_cons (hA362.get 8 _ rfl) fm_nil)))))
        refine t_norm ?_
        refine c_true hA363 rfl ?_
        refine wp_region_lit ?_
        refine q_step hA363 rfl (d_move (wn rfl) (hA363.ev (v := (.slice none 0 0)) rfl) ?_)
        intro a364 hA365
        refine q_step hA365 rfl (d_fieldAddr (wn rfl) (hA365.ev (v := (.pointer (some ⟨g3, 0, none⟩))) rfl) fo23_2 ?_)
        intro a366 hA367
        refine q_step hA367 rfl (d_load (v := (.int .i64 i.a)) (wn rfl) (hA367.ev (v := (.pointer (some ⟨g3, 2, none⟩))) rfl) one3 (m7.cell rfl) ?_)
        intro a368 hA369
        refine q_step hA369 rfl (d_slice1 (wn rfl) (hA369.ev (v := (.int .i64 i.a)) rfl) elm30 rfl (by decide) ?_)
        intro g370 w371 eg372 hG373 (m374 : Blk w371 g370 #[.int .i64 i.a] 3)
        have ge375 : w.heap.size ≤ g370 := eg372 ▸ b9.size
        have n376 : g3 ≠ g370 := fun h => Nat.lt_irrefl _ ((h.trans eg372) ▸ m7.lt)
        have m377 := m7.grow hG373
        have b378 := below_grow b9 hG373 b9.size
        intro a379 hA380
        refine q_step hA380 rfl (d_append (wn rfl) (hA380.ev (v := (.slice none 0 0)) rfl) (hA380.ev (v := (.slice (some ⟨g370, 0, none⟩) 1 1)) rfl) elm30 (⟨rfl, .inl ⟨rfl, rfl⟩⟩ : (w371).ownsRow w.heap.size 3 1 (.slice none 0 0) 0 []) m374 rfl rfl (by omega) (by decide) b378.size ?_)
        intro v381 w382 ho383 hg384 hl385
        have b386 := below_by b378 hg384 b378.size (fun k hk => (own_lt (⟨rfl, .inl ⟨rfl, rfl⟩⟩ : (w371).ownsRow w.heap.size 3 1 (.slice none 0 0) 0 []) k hk).1)
        have m387 := m377.by hg384 (fun h => nomatch h)
        have off388 := lies_ne hl385 (fun h => nomatch h) m377.lt
        intro a389 hA390
        refine q_step hA390 rfl (d_assign (wn rfl) (hA390.ev (v := v381) rfl) ?_)
        intro a391 hA392
        refine q_end ?_
        have hA393 : St 59 [(1, (.pointer (some ⟨g3, 0, none⟩))), (2, (.slice none 0 0)), (3, v381)] a391 := hA392.cut _ (fm_cons (hA392.get 1 _ rfl) (fm_cons (hA392.get 2 _ rfl) (fm_cons (hA392.get 3 _ rfl) fm_nil)))
        refine i_norm ?_
        refine t_norm ?_
        refine wp_seq ?_
        refine wp_seq ?_
        refine wp_region_lit ?_
        refine q_step hA393 rfl (d_loadRow (cs := (insC i)) (wn rfl) (hA393.ev (v := (.pointer (some ⟨g3, 0, none⟩))) rfl) row23 m387 ?_)
        intro a394 hA395
        refine q_step hA395 rfl (d_call (wn rfl) ent32 (map1 (hA395.ev (v := (.agg (insC i))) rfl)) (memory_any i w382) ?_)
        rintro e399 w396 ⟨he398, hG397⟩
        have m400 := m387.grow hG397
        have b401 := below_grow b386 hG397 b386.size
        have ho402 := own_grow hG397 ho383
        refine ⟨.bool true, he398.trans (ret_bool (by simp [opB, rdB, wrB, eq_of_beq hb357])), ?_⟩
        intro a403 hA404
        refine q_end ?_
        have hA405 : St 59 [(1, (.pointer (some ⟨g3, 0, none⟩))), (2, (.slice none 0 0)), (3, v381), (34, (.bool true))] a403 := hA404.cut _ (fm_cons (hA404.get 1 _ rfl) (fm_cons (hA404.get 2 _ rfl) (fm_cons (hA404.get 3 _ rfl) (fm_cons (hA404.get 34 _ rfl) fm_nil))))
        refine t_norm ?_
        refine c_true hA405 rfl ?_
        refine wp_region_lit ?_
        refine q_step hA405 rfl (d_move (wn rfl) (hA405.ev (v := v381) rfl) ?_)
        intro a406 hA407
        refine q_step hA407 rfl (d_fieldAddr (wn rfl) (hA407.ev (v := (.pointer (some ⟨g3, 0, none⟩))) rfl) fo23_7 ?_)
        intro a408 hA409
        refine q_step hA409 rfl (d_load (v := (.int .i64 i.index)) (wn rfl) (hA409.ev (v := (.pointer (some ⟨g3, 7, none⟩))) rfl) one3 (m400.cell rfl) ?_)
        intro a410 hA411
        refine q_step hA411 rfl (d_slice1 (wn rfl) (hA411.ev (v := (.int .i64 i.index)) rfl) elm30 rfl (by decide) ?_)
        intro g412 w413 eg414 hG415 (m416 : Blk w413 g412 #[.int .i64 i.index] 3)
        have ge417 : w.heap.size ≤ g412 := eg414 ▸ b401.size
        have n418 : g3 ≠ g412 := fun h => Nat.lt_irrefl _ ((h.trans eg414) ▸ m400.lt)
        have off419 := own_new ho402 eg414
        have m420 := m400.grow hG415
        have b421 := below_grow b401 hG415 b401.size
        have ho422 := own_grow hG415 ho402
        intro a423 hA424
        refine q_step hA424 rfl (d_append (wn rfl) (hA424.ev (v := v381) rfl) (hA424.ev (v := (.slice (some ⟨g412, 0, none⟩) 1 1)) rfl) elm30 ho422 m416 rfl rfl (by omega) (by decide) b421.size ?_)
        intro v425 w426 ho427 hg428 hl429
        have b430 := below_by b421 hg428 b421.size (fun k hk => (own_lt ho422 k hk).1)
        have m431 := m420.by hg428 off388
        have off432 := lies_ne hl429 off388 m420.lt
        intro a433 hA434
        refine q_step hA434 rfl (d_assign (wn rfl) (hA434.ev (v := v425) rfl) ?_)
        intro a435 hA436
        refine q_end ?_
        have hA437 : St 59 [(2, (.slice none 0 0)), (3, v425)] a435 := hA436.cut _ (fm_cons (hA436.get 2 _ rfl) (fm_cons (hA436.get 3 _ rfl) fm_nil))
        refine t_norm ?_
        refine wp_seq ?_
        refine wp_region_lit ?_
        refine q_step hA437 rfl (d_assign (wn rfl) (hA437.ev (v := (.slice none 0 0)) rfl) ?_)
        intro a438 hA439
        refine q_end ?_
        have hA440 : St 59 [(2, (.slice none 0 0)), (3, v425), (4, (.slice none 0 0))] a438 := hA439.cut _ (fm_cons (hA439.get 2 _ rfl) (fm_cons (hA439.get 3 _ rfl) (fm_cons (hA439.get 4 _ rfl) fm_nil)))
        refine t_norm ?_
        refine wp_seq ?_
        refine wp_seq ?_
        refine wp_region_lit ?_
        refine q_step hA440 rfl (d_assign (wn rfl) (hA440.ev (v := (.int .i64 0)) rfl) ?_)
        intro a441 hA442
        refine q_end ?_
        have hA443 : St 59 [(2, (.slice none 0 0)), (3, v425), (4, (.slice none 0 0)), (5, (.int .i64 0))] a441 := hA442.cut _ (fm_cons (hA442.get 2 _ rfl) (fm_cons (hA442.get 3 _ rfl) (fm_cons (hA442.get 4 _ rfl) (fm_cons (hA442.get 5 _ rfl) fm_nil))))
        refine t_norm ?_
        refine wp_block ?_
        have hs444 : Sl intE 1 w426.heap.size w426 v425 [i.a, i.index] := own_int (l := [i.a, i.index]) ho427
        obtain ⟨L445, hL446⟩ : ∃ L : List Int, L = [i.a, i.index] := ⟨_, rfl⟩
        have hn447 : L445.length ≤ 3 := by rw [hL446]; simp
        rw [← hL446] at hs444
        refine loop_by (fun m a' w' => ∃ (j : Nat) (v : Value), m = L445.length - j ∧ j ≤ L445.length ∧ St 59 [(3, v425), (4, v), (5, (.int .i64 ((j : Nat) : Int)))] a' ∧ Below w426.heap.size w426 w' ∧ w'.ownsRow w426.heap.size 3 1 v (useL L445 j).length (paE (useL L445 j))) (L445.length - 0) ⟨0, .slice none 0 0, rfl, Nat.zero_le _, hA443.cut _ (fm_cons (hA443.get 3 _ rfl) (fm_cons (hA443.get 4 _ rfl) (fm_cons (hA443.get 5 _ rfl) fm_nil))), Below.refl _ _, (by rw [show useL L445 0 = [] by simp [useL]]; exact ⟨rfl, .inl ⟨rfl, rfl⟩⟩)⟩ ?_
        rintro m448 a449 w450 ⟨j451, v452, hm453, hj454, hA455, b456, ho457⟩
        have hul := use_len L445 j451
        refine wp_seq ?_
        refine wp_seq ?_
        refine wp_region_lit ?_
        refine q_step hA455 rfl (d_move (wn rfl) (hA455.ev (v := (.int .i64 ((j451 : Nat) : Int))) rfl) ?_)
        intro a458 hA459
        refine q_step hA459 rfl (d_move (wn rfl) (hA459.ev (v := v425) rfl) ?_)
        intro a460 hA461
        refine q_step hA461 rfl (d_len (n := L445.length) (wn rfl) (hA461.ev (v := v425) rfl) slc30 hs444.form ?_)
        intro a462 hA463
        rcases Bool.eq_false_or_eq_true (decide (((j451 : Nat) : Int) < ((L445.length : Nat) : Int))) with hb464 | hb464
        · skip
          have hq465 := of_decide_eq_true hb464
          refine q_step hA463 rfl (d_bin (wn rfl) (hA463.ev (v := (.int .i64 ((j451 : Nat) : Int))) rfl) (hA463.ev (v := (.int .i64 ((L445.length : Nat) : Int))) rfl) (b_lt _ _ ((j451 : Nat) : Int) ((L445.length : Nat) : Int) true _ hb464) ?_)
          intro a466 hA467
          refine q_end ?_
          have hA468 : St 59 [(3, v425), (4, v452), (5, (.int .i64 ((j451 : Nat) : Int))), (40, (.int .i64 ((j451 : Nat) : Int))), (41, v425), (42, (.int .i64 ((L445.length : Nat) : Int))), (43, (.bool true))] a466 := hA467.cut _ (fm_cons (hA467.get 3 _ rfl) (fm_cons (hA467.get 4 _ rfl) (fm_cons (hA467.get 5 _ rfl) (fm_cons (hA467.get 40 _ rfl) (fm_cons (hA467.get 41 _ rfl) (fm_cons (hA467.get 42 _ rfl) (fm_cons (hA467.get 43 _ rfl) fm_nil)))))))
          refine t_norm ?_
          refine c_true hA468 rfl ?_
          refine wp_skip ?_
          refine t_norm ?_
          refine wp_seq ?_
          refine wp_block ?_
          refine wp_seq ?_
          refine wp_region_lit ?_
          refine q_step hA468 rfl (d_move (wn rfl) (hA468.ev (v := v425) rfl) ?_)
          intro a469 hA470
          refine q_step hA470 rfl (d_move (wn rfl) (hA470.ev (v := (.int .i64 ((j451 : Nat) : Int))) rfl) ?_)
          intro a471 hA472
          obtain ⟨y473, hy474⟩ : ∃ y473, L445[j451]? = some y473 := ⟨_, List.getElem?_eq_getElem (show j451 < L445.length by omega)⟩
          obtain ⟨b475, o476, lt477, hr478, hix479⟩ := (hs444.below b456).at hy474
          refine q_step hA472 rfl (d_indexAt (j := j451) (wn rfl) (hA472.ev (v := v425) rfl) (hA472.ev (v := (.int .i64 ((j451 : Nat) : Int))) rfl) slc30 hix479 (get_lt hy474) ?_)
          intro a480 hA481
          refine q_step hA481 rfl (d_load (v := (.int .i64 y473)) (wn rfl) (hA481.ev (v := (.pointer (some ⟨b475, o476, none⟩))) rfl) one3 (hr478 0 _ rfl) ?_)
          intro a482 hA483
          rcases Bool.eq_false_or_eq_true (y473 == (-1)) with hb484 | hb484
          · skip
            have hq485 := eq_of_beq hb484
            refine q_step hA483 rfl (d_bin (wn rfl) (hA483.ev (v := (.int .i64 y473)) rfl) (hA483.ev (v := (.int .i64 (-1))) rfl) (b_ne _ _ y473 (-1) false _ (notof hb484)) ?_)
            intro a486 hA487
            refine q_end ?_
            have hA488 : St 59 [(3, v425), (4, v452), (5, (.int .i64 ((j451 : Nat) : Int))), (40, (.int .i64 ((j451 : Nat) : Int))), (41, v425), (42, (.int .i64 ((L445.length : Nat) : Int))), (43, (.bool true)), (46, v425), (47, (.int .i64 ((j451 : Nat) : Int))), (48, (.pointer (some ⟨b475, o476, none⟩))), (49, (.int .i64 y473)), (50, (.bool false))] a486 := hA487.cut _ (fm_cons (hA487.get 3 _ rfl) (fm_cons (hA487.get 4 _ rfl) (fm_cons (hA487.get 5 _ rfl) (fm_cons (hA487.get 40 _ rfl) (fm_cons (hA487.get 41 _ rfl) (fm_cons (hA487.get 42 _ rfl) (fm_cons (hA487.get 43 _ rfl) (fm_cons (hA487.get 46 _ rfl) (fm_cons (hA487.get 47 _ rfl) (fm_cons (hA487.get 48 _ rfl) (fm_cons (hA487.get 49 _ rfl) (fm_cons (hA487.get 50 _ rfl) fm_nil))))))))))))
            refine t_norm ?_
            refine c_false hA488 rfl ?_
            refine wp_skip ?_
            refine i_norm ?_
            refine t_norm ?_
            refine wp_region_lit ?_
            refine q_step hA488 rfl (d_move (wn rfl) (hA488.ev (v := (.int .i64 ((j451 : Nat) : Int))) rfl) ?_)
            intro a489 hA490
            refine q_step hA490 rfl (d_bin (wn rfl) (hA490.ev (v := (.int .i64 ((j451 : Nat) : Int))) rfl) (hA490.ev (v := (.int .i64 1)) rfl) (b_add _ _ ((j451 : Nat) : Int) 1 _ (by omega) (by omega)) ?_)
            intro a491 hA492
            refine q_step hA492 rfl (d_assign (wn rfl) (hA492.ev (v := (.int .i64 (((j451 : Nat) : Int) + 1))) rfl) ?_)
            intro a493 hA494
            refine q_end ?_
            have hA495 : St 59 [(3, v425), (4, v452), (5, (.int .i64 (((j451 : Nat) : Int) + 1))), (40, (.int .i64 ((j451 : Nat) : Int))), (41, v425), (42, (.int .i64 ((L445.length : Nat) : Int))), (43, (.bool true)), (44, (.int .i64 ((j451 : Nat) : Int))), (45, (.int .i64 (((j451 : Nat) : Int) + 1))), (46, v425), (47, (.int .i64 ((j451 : Nat) : Int))), (48, (.pointer (some ⟨b475, o476, none⟩))), (49, (.int .i64 y473)), (50, (.bool false))] a493 := hA494.cut _ (fm_cons (hA494.get 3 _ rfl) (fm_cons (hA494.get 4 _ rfl) (fm_cons (hA494.get 5 _ rfl) (fm_cons (hA494.get 40 _ rfl) (fm_cons (hA494.get 41 _ rfl) (fm_cons (hA494.get 42 _ rfl) (fm_cons (hA494.get 43 _ rfl) (fm_cons (hA494.get 44 _ rfl) (fm_cons (hA494.get 45 _ rfl) (fm_cons (hA494.get 46 _ rfl) (fm_cons (hA494.get 47 _ rfl) (fm_cons (hA494.get 48 _ rfl) (fm_cons (hA494.get 49 _ rfl) (fm_cons (hA494.get 50 _ rfl) fm_nil))))))))))))))
            refine t_norm ?_
            exact ⟨L445.length - (j451 + 1), (by have := get_lt hy474; rw [hm453]; omega), j451 + 1, v452, rfl, (by have := get_lt hy474; omega), hA495.cut _ (fm_cons (hA495.get 3 _ rfl) (fm_cons (hA495.get 4 _ rfl) (fm_cons ((hA495.get 5 _ rfl).trans (congrArg (Value.int .i64) (by omega))) fm_nil))), b456, (by rw [use_no hy474 hb484]; exact ho457)⟩
          · skip
            have hq496 := ne_of_beq hb484
            refine q_step hA483 rfl (d_bin (wn rfl) (hA483.ev (v := (.int .i64 y473)) rfl) (hA483.ev (v := (.int .i64 (-1))) rfl) (b_ne _ _ y473 (-1) true _ (notof hb484)) ?_)
            intro a497 hA498
            refine q_end ?_
            have hA499 : St 59 [(3, v425), (4, v452), (5, (.int .i64 ((j451 : Nat) : Int))), (40, (.int .i64 ((j451 : Nat) : Int))), (41, v425), (42, (.int .i64 ((L445.length : Nat) : Int))), (43, (.bool true)), (46, v425), (47, (.int .i64 ((j451 : Nat) : Int))), (48, (.pointer (some ⟨b475, o476, none⟩))), (49, (.int .i64 y473)), (50, (.bool true))] a497 := hA498.cut _ (fm_cons (hA498.get 3 _ rfl) (fm_cons (hA498.get 4 _ rfl) (fm_cons (hA498.get 5 _ rfl) (fm_cons (hA498.get 40 _ rfl) (fm_cons (hA498.get 41 _ rfl) (fm_cons (hA498.get 42 _ rfl) (fm_cons (hA498.get 43 _ rfl) (fm_cons (hA498.get 46 _ rfl) (fm_cons (hA498.get 47 _ rfl) (fm_cons (hA498.get 48 _ rfl) (fm_cons (hA498.get 49 _ rfl) (fm_cons (hA498.get 50 _ rfl) fm_nil))))))))))))
            refine t_norm ?_
            refine c_true hA499 rfl ?_
            refine wp_region_lit ?_
            refine q_step hA499 rfl (d_move (wn rfl) (hA499.ev (v := v452) rfl) ?_)
            intro a500 hA501
            refine q_step hA501 rfl (d_move (wn rfl) (hA501.ev (v := v425) rfl) ?_)
            intro a502 hA503
            refine q_step hA503 rfl (d_move (wn rfl) (hA503.ev (v := (.int .i64 ((j451 : Nat) : Int))) rfl) ?_)
            intro a504 hA505
            refine q_step hA505 rfl (d_indexAt (j := j451) (wn rfl) (hA505.ev (v := v425) rfl) (hA505.ev (v := (.int .i64 ((j451 : Nat) : Int))) rfl) slc30 hix479 (get_lt hy474) ?_)
            intro a506 hA507
            refine q_step hA507 rfl (d_load (v := (.int .i64 y473)) (wn rfl) (hA507.ev (v := (.pointer (some ⟨b475, o476, none⟩))) rfl) one3 (hr478 0 _ rfl) ?_)
            intro a508 hA509
            refine q_step hA509 rfl (d_slice1 (wn rfl) (hA509.ev (v := (.int .i64 y473)) rfl) elm30 rfl (by decide) ?_)
            intro g510 w511 eg512 hG513 (m514 : Blk w511 g510 #[.int .i64 y473] 3)
            have ge515 : w426.heap.size ≤ g510 := eg512 ▸ b456.size
            have off516 := own_new ho457 eg512
            have hr517 := range_below hr478 hG513 (Nat.lt_of_lt_of_le lt477 b456.size)
            have b518 := below_grow b456 hG513 b456.size
            have ho519 := own_grow hG513 ho457
            intro a520 hA521
            refine q_step hA521 rfl (d_append (wn rfl) (hA521.ev (v := v452) rfl) (hA521.ev (v := (.slice (some ⟨g510, 0, none⟩) 1 1)) rfl) elm30 ho519 m514 rfl rfl (by omega) (by decide) b518.size ?_)
            intro v522 w523 ho524 hg525 hl526
            have b527 := below_by b518 hg525 b518.size (fun k hk => (own_lt ho519 k hk).1)
            intro a528 hA529
            refine q_step hA529 rfl (d_assign (wn rfl) (hA529.ev (v := v522) rfl) ?_)
            intro a530 hA531
            refine q_end ?_
            have hA532 : St 59 [(3, v425), (4, v522), (5, (.int .i64 ((j451 : Nat) : Int))), (40, (.int .i64 ((j451 : Nat) : Int))), (41, v425), (42, (.int .i64 ((L445.length : Nat) : Int))), (43, (.bool true)), (46, v425), (47, (.int .i64 ((j451 : Nat) : Int))), (48, (.pointer (some ⟨b475, o476, none⟩))), (49, (.int .i64 y473)), (50, (.bool true)), (51, v452), (52, v425), (53, (.int .i64 ((j451 : Nat) : Int))), (54, (.pointer (some ⟨b475, o476, none⟩))), (55, (.int .i64 y473)), (56, (.slice (some ⟨g510, 0, none⟩) 1 1)), (57, v522)] a530 := hA531.cut _ (fm_cons (hA531.get 3 _ rfl) (fm_cons (hA531.get 4 _ rfl) (fm_cons (hA531.get 5 _ rfl) (fm_cons (hA531.get 40 _ rfl) (fm_cons (hA531.get 41 _ rfl) (fm_cons (hA531.get 42 _ rfl) (fm_cons (hA531.get 43 _ rfl) (fm_cons (hA531.get 46 _ rfl) (fm_cons (hA531.get 47 _ rfl) (fm_cons (hA531.get 48 _ rfl) (fm_cons (hA531.get 49 _ rfl) (fm_cons (hA531.get 50 _ rfl) (fm_cons (hA531.get 51 _ rfl) (fm_cons (hA531.get 52 _ rfl) (fm_cons (hA531.get 53 _ rfl) (fm_cons (hA531.get 54 _ rfl) (fm_cons (hA531.get 55 _ rfl) (fm_cons (hA531.get 56 _ rfl) (fm_cons (hA531.get 57 _ rfl) fm_nil)))))))))))))))))))
            refine i_norm ?_
            refine t_norm ?_
            refine wp_region_lit ?_
            refine q_step hA532 rfl (d_move (wn rfl) (hA532.ev (v := (.int .i64 ((j451 : Nat) : Int))) rfl) ?_)
            intro a533 hA534
            refine q_step hA534 rfl (d_bin (wn rfl) (hA534.ev (v := (.int .i64 ((j451 : Nat) : Int))) rfl) (hA534.ev (v := (.int .i64 1)) rfl) (b_add _ _ ((j451 : Nat) : Int) 1 _ (by omega) (by omega)) ?_)
            intro a535 hA536
            refine q_step hA536 rfl (d_assign (wn rfl) (hA536.ev (v := (.int .i64 (((j451 : Nat) : Int) + 1))) rfl) ?_)
            intro a537 hA538
            refine q_end ?_
            have hA539 : St 59 [(3, v425), (4, v522), (5, (.int .i64 (((j451 : Nat) : Int) + 1))), (40, (.int .i64 ((j451 : Nat) : Int))), (41, v425), (42, (.int .i64 ((L445.length : Nat) : Int))), (43, (.bool true)), (44, (.int .i64 ((j451 : Nat) : Int))), (45, (.int .i64 (((j451 : Nat) : Int) + 1))), (46, v425), (47, (.int .i64 ((j451 : Nat) : Int))), (48, (.pointer (some ⟨b475, o476, none⟩))), (49, (.int .i64 y473)), (50, (.bool true)), (51, v452), (52, v425), (53, (.int .i64 ((j451 : Nat) : Int))), (54, (.pointer (some ⟨b475, o476, none⟩))), (55, (.int .i64 y473)), (56, (.slice (some ⟨g510, 0, none⟩) 1 1)), (57, v522)] a537 := hA538.cut _ (fm_cons (hA538.get 3 _ rfl) (fm_cons (hA538.get 4 _ rfl) (fm_cons (hA538.get 5 _ rfl) (fm_cons (hA538.get 40 _ rfl) (fm_cons (hA538.get 41 _ rfl) (fm_cons (hA538.get 42 _ rfl) (fm_cons (hA538.get 43 _ rfl) (fm_cons (hA538.get 44 _ rfl) (fm_cons (hA538.get 45 _ rfl) (fm_cons (hA538.get 46 _ rfl) (fm_cons (hA538.get 47 _ rfl) (fm_cons (hA538.get 48 _ rfl) (fm_cons (hA538.get 49 _ rfl) (fm_cons (hA538.get 50 _ rfl) (fm_cons (hA538.get 51 _ rfl) (fm_cons (hA538.get 52 _ rfl) (fm_cons (hA538.get 53 _ rfl) (fm_cons (hA538.get 54 _ rfl) (fm_cons (hA538.get 55 _ rfl) (fm_cons (hA538.get 56 _ rfl) (fm_cons (hA538.get 57 _ rfl) fm_nil)))))))))))))))))))))
            refine t_norm ?_
            exact ⟨L445.length - (j451 + 1), (by have := get_lt hy474; rw [hm453]; omega), j451 + 1, v522, rfl, (by have := get_lt hy474; omega), hA539.cut _ (fm_cons (hA539.get 3 _ rfl) (fm_cons (hA539.get 4 _ rfl) (fm_cons ((hA539.get 5 _ rfl).trans (congrArg (Value.int .i64) (by omega))) fm_nil))), b527, (by rw [use_yes hy474 hb484, List.length_append, ← paE_snoc]; exact ho524)⟩
        · skip
          have hq540 := of_decide_eq_false hb464
          refine q_step hA463 rfl (d_bin (wn rfl) (hA463.ev (v := (.int .i64 ((j451 : Nat) : Int))) rfl) (hA463.ev (v := (.int .i64 ((L445.length : Nat) : Int))) rfl) (b_lt _ _ ((j451 : Nat) : Int) ((L445.length : Nat) : Int) false _ hb464) ?_)
          intro a541 hA542
          refine q_end ?_
          have hA543 : St 59 [(3, v425), (4, v452), (5, (.int .i64 ((j451 : Nat) : Int))), (40, (.int .i64 ((j451 : Nat) : Int))), (41, v425), (42, (.int .i64 ((L445.length : Nat) : Int))), (43, (.bool false))] a541 := hA542.cut _ (fm_cons (hA542.get 3 _ rfl) (fm_cons (hA542.get 4 _ rfl) (fm_cons (hA542.get 5 _ rfl) (fm_cons (hA542.get 40 _ rfl) (fm_cons (hA542.get 41 _ rfl) (fm_cons (hA542.get 42 _ rfl) (fm_cons (hA542.get 43 _ rfl) fm_nil)))))))
          refine t_norm ?_
          refine c_false hA543 rfl ?_
          refine wp_exit ?_
          refine t_exit ?_
          refine t_exit ?_
          refine i_here ?_
          refine t_norm ?_
          refine wp_seq ?_
          refine wp_region_lit ?_
          refine q_step hA543 rfl (d_move (wn rfl) (hA543.ev (v := v452) rfl) ?_)
          intro a544 hA545
          refine q_step hA545 rfl (d_assign (wn rfl) (hA545.ev (v := v452) rfl) ?_)
          intro a546 hA547
          refine q_end ?_
          have hA548 : St 59 [(2, v452)] a546 := hA547.cut _ (fm_cons (hA547.get 2 _ rfl) fm_nil)
          refine t_norm ?_
          refine wp_ret ?_
          refine ret1 rfl hA548 (v := v452) rfl ?_
          have he549 : useL L445 j451 = useF i := by rw [use_all (by omega), hL446]; simp [useF, useX, plainF, List.filter_cons, hb23, hb190, eq_of_beq hb357, opB, rdB, wrB]
          exact ⟨_, rfl, Grow.trans b430 b456, (by rw [← he549]; exact own_le ho457 b430.size)⟩
      · skip
        have hq550 := ne_of_beq hb357
        refine q_step hA356 rfl (d_bin (wn rfl) (hA356.ev (v := (.int .i64 i.op)) rfl) (hA356.ev (v := (.int .i64 6)) rfl) (b_eq _ _ i.op 6 false _ hb357) ?_)
        intro a551 hA552
        refine q_step hA552 rfl (d_assign (wn rfl) (hA552.ev (v := (.bool false)) rfl) ?_)
        intro a553 hA554
        refine q_end ?_
        have hA555 : St 59 [(1, (.pointer (some ⟨g3, 0, none⟩))), (2, (.slice none 0 0)), (3, (.slice none 0 0)), (7, (.int .i64 i.op)), (8, (.bool false))] a553 := hA554.cut _ (fm_cons (hA554.get 1 _ rfl) (fm_cons (hA554.get 2 _ rfl) (fm_cons (hA554.get 3 _ rfl) (fm_cons (hA554.get 7 _ rfl) (fm_cons (hA554.get 8 _ rfl) fm_nil)))))
        refine t_norm ?_
        refine c_false hA555 rfl ?_
        refine wp_seq ?_
        refine wp_region_lit ?_
        rcases Bool.eq_false_or_eq_true (i.op == 3) with hb556 | hb556
        · skip
          have hq557 := eq_of_beq hb556
          refine q_step hA555 rfl (d_bin (wn rfl) (hA555.ev (v := (.int .i64 i.op)) rfl) (hA555.ev (v := (.int .i64 3)) rfl) (b_eq _ _ i.op 3 true _ hb556) ?_)
          intro a558 hA559
          refine q_step hA559 rfl (d_assign (wn rfl) (hA559.ev (v := (.bool true)) rfl) ?_)
          intro a560 hA561
          refine q_end ?_
          have hA562 : St 59 [(1, (.pointer (some ⟨g3, 0, none⟩))), (2, (.slice none 0 0)), (3, (.slice none 0 0)), (7, (.int .i64 i.op)), (17, (.bool true))] a560 := hA561.cut _ (fm_cons (hA561.get 1 _ rfl) (fm_cons (hA561.get 2 _ rfl) (fm_cons (hA561.get 3 _ rfl) (fm_cons (hA561.get 7 _ rfl) (fm_cons (hA561.get 17 _ rfl) fm_nil)))))
          refine t_norm ?_
          refine c_true hA562 rfl ?_
          refine wp_region_lit ?_
          refine q_step hA562 rfl (d_move (wn rfl) (hA562.ev (v := (.slice none 0 0)) rfl) ?_)
          intro a563 hA564
          refine q_step hA564 rfl (d_fieldAddr (wn rfl) (hA564.ev (v := (.pointer (some ⟨g3, 0, none⟩))) rfl) fo23_2 ?_)
          intro a565 hA566
          refine q_step hA566 rfl (d_load (v := (.int .i64 i.a)) (wn rfl) (hA566.ev (v := (.pointer (some ⟨g3, 2, none⟩))) rfl) one3 (m7.cell rfl) ?_)
          intro a567 hA568
          refine q_step hA568 rfl (d_fieldAddr (wn rfl) (hA568.ev (v := (.pointer (some ⟨g3, 0, none⟩))) rfl) fo23_3 ?_)
          intro a569 hA570
          refine q_step hA570 rfl (d_load (v := (.int .i64 i.b)) (wn rfl) (hA570.ev (v := (.pointer (some ⟨g3, 3, none⟩))) rfl) one3 (m7.cell rfl) ?_)
          intro a571 hA572
          refine q_step hA572 rfl (d_slice2 (wn rfl) (hA572.ev (v := (.int .i64 i.a)) rfl) (hA572.ev (v := (.int .i64 i.b)) rfl) elm30 ?_)
          intro g573 w574 eg575 hG576 (m577 : Blk w574 g573 #[.int .i64 i.a, .int .i64 i.b] 3)
          have ge578 : w.heap.size ≤ g573 := eg575 ▸ b9.size
          have n579 : g3 ≠ g573 := fun h => Nat.lt_irrefl _ ((h.trans eg575) ▸ m7.lt)
          have m580 := m7.grow hG576
          have b581 := below_grow b9 hG576 b9.size
          intro a582 hA583
          refine q_step hA583 rfl (d_append2 (wn rfl) (hA583.ev (v := (.slice none 0 0)) rfl) (hA583.ev (v := (.slice (some ⟨g573, 0, none⟩) 2 2)) rfl) elm30 (⟨rfl, .inl ⟨rfl, rfl⟩⟩ : (w574).ownsRow w.heap.size 3 1 (.slice none 0 0) 0 []) m577 rfl rfl (by omega) (by decide) b581.size ?_)
          intro v584 w585 ho586 hg587 hl588
          have b589 := below_by b581 hg587 b581.size (fun k hk => (own_lt (⟨rfl, .inl ⟨rfl, rfl⟩⟩ : (w574).ownsRow w.heap.size 3 1 (.slice none 0 0) 0 []) k hk).1)
          have m590 := m580.by hg587 (fun h => nomatch h)
          have off591 := lies_ne hl588 (fun h => nomatch h) m580.lt
          intro a592 hA593
          refine q_step hA593 rfl (d_assign (wn rfl) (hA593.ev (v := v584) rfl) ?_)
          intro a594 hA595
          refine q_end ?_
          have hA596 : St 59 [(1, (.pointer (some ⟨g3, 0, none⟩))), (2, (.slice none 0 0)), (3, v584)] a594 := hA595.cut _ (fm_cons (hA595.get 1 _ rfl) (fm_cons (hA595.get 2 _ rfl) (fm_cons (hA595.get 3 _ rfl) fm_nil)))
          refine i_norm ?_
          refine t_norm ?_
          refine wp_seq ?_
          refine wp_seq ?_
          refine wp_region_lit ?_
          refine q_step hA596 rfl (d_loadRow (cs := (insC i)) (wn rfl) (hA596.ev (v := (.pointer (some ⟨g3, 0, none⟩))) rfl) row23 m590 ?_)
          intro a597 hA598
          refine q_step hA598 rfl (d_call (wn rfl) ent32 (map1 (hA598.ev (v := (.agg (insC i))) rfl)) (memory_any i w585) ?_)
          rintro e602 w599 ⟨he601, hG600⟩
          have m603 := m590.grow hG600
          have b604 := below_grow b589 hG600 b589.size
          have ho605 := own_grow hG600 ho586
          refine ⟨.bool false, he601.trans (ret_bool (by simp [opB, rdB, wrB, eq_of_beq hb556])), ?_⟩
          intro a606 hA607
          refine q_end ?_
          have hA608 : St 59 [(1, (.pointer (some ⟨g3, 0, none⟩))), (2, (.slice none 0 0)), (3, v584), (34, (.bool false))] a606 := hA607.cut _ (fm_cons (hA607.get 1 _ rfl) (fm_cons (hA607.get 2 _ rfl) (fm_cons (hA607.get 3 _ rfl) (fm_cons (hA607.get 34 _ rfl) fm_nil))))
          refine t_norm ?_
          refine c_false hA608 rfl ?_
          refine wp_skip ?_
          refine t_norm ?_
          refine wp_seq ?_
          refine wp_region_lit ?_
          refine q_step hA608 rfl (d_assign (wn rfl) (hA608.ev (v := (.slice none 0 0)) rfl) ?_)
          intro a609 hA610
          refine q_end ?_
          have hA611 : St 59 [(2, (.slice none 0 0)), (3, v584), (4, (.slice none 0 0))] a609 := hA610.cut _ (fm_cons (hA610.get 2 _ rfl) (fm_cons (hA610.get 3 _ rfl) (fm_cons (hA610.get 4 _ rfl) fm_nil)))
          refine t_norm ?_
          refine wp_seq ?_
          refine wp_seq ?_
          refine wp_region_lit ?_
          refine q_step hA611 rfl (d_assign (wn rfl) (hA611.ev (v := (.int .i64 0)) rfl) ?_)
          intro a612 hA613
          refine q_end ?_
          have hA614 : St 59 [(2, (.slice none 0 0)), (3, v584), (4, (.slice none 0 0)), (5, (.int .i64 0))] a612 := hA613.cut _ (fm_cons (hA613.get 2 _ rfl) (fm_cons (hA613.get 3 _ rfl) (fm_cons (hA613.get 4 _ rfl) (fm_cons (hA613.get 5 _ rfl) fm_nil))))
          refine t_norm ?_
          refine wp_block ?_
          have hs615 : Sl intE 1 w599.heap.size w599 v584 [i.a, i.b] := own_int (l := [i.a, i.b]) ho605
          obtain ⟨L616, hL617⟩ : ∃ L : List Int, L = [i.a, i.b] := ⟨_, rfl⟩
          have hn618 : L616.length ≤ 3 := by rw [hL617]; simp
          rw [← hL617] at hs615
          refine loop_by (fun m a' w' => ∃ (j : Nat) (v : Value), m = L616.length - j ∧ j ≤ L616.length ∧ St 59 [(3, v584), (4, v), (5, (.int .i64 ((j : Nat) : Int)))] a' ∧ Below w599.heap.size w599 w' ∧ w'.ownsRow w599.heap.size 3 1 v (useL L616 j).length (paE (useL L616 j))) (L616.length - 0) ⟨0, .slice none 0 0, rfl, Nat.zero_le _, hA614.cut _ (fm_cons (hA614.get 3 _ rfl) (fm_cons (hA614.get 4 _ rfl) (fm_cons (hA614.get 5 _ rfl) fm_nil))), Below.refl _ _, (by rw [show useL L616 0 = [] by simp [useL]]; exact ⟨rfl, .inl ⟨rfl, rfl⟩⟩)⟩ ?_
          rintro m619 a620 w621 ⟨j622, v623, hm624, hj625, hA626, b627, ho628⟩
          have hul := use_len L616 j622
          refine wp_seq ?_
          refine wp_seq ?_
          refine wp_region_lit ?_
          refine q_step hA626 rfl (d_move (wn rfl) (hA626.ev (v := (.int .i64 ((j622 : Nat) : Int))) rfl) ?_)
          intro a629 hA630
          refine q_step hA630 rfl (d_move (wn rfl) (hA630.ev (v := v584) rfl) ?_)
          intro a631 hA632
          refine q_step hA632 rfl (d_len (n := L616.length) (wn rfl) (hA632.ev (v := v584) rfl) slc30 hs615.form ?_)
          intro a633 hA634
          rcases Bool.eq_false_or_eq_true (decide (((j622 : Nat) : Int) < ((L616.length : Nat) : Int))) with hb635 | hb635
          · skip
            have hq636 := of_decide_eq_true hb635
            refine q_step hA634 rfl (d_bin (wn rfl) (hA634.ev (v := (.int .i64 ((j622 : Nat) : Int))) rfl) (hA634.ev (v := (.int .i64 ((L616.length : Nat) : Int))) rfl) (b_lt _ _ ((j622 : Nat) : Int) ((L616.length : Nat) : Int) true _ hb635) ?_)
            intro a637 hA638
            refine q_end ?_
            have hA639 : St 59 [(3, v584), (4, v623), (5, (.int .i64 ((j622 : Nat) : Int))), (40, (.int .i64 ((j622 : Nat) : Int))), (41, v584), (42, (.int .i64 ((L616.length : Nat) : Int))), (43, (.bool true))] a637 := hA638.cut _ (fm_cons (hA638.get 3 _ rfl) (fm_cons (hA638.get 4 _ rfl) (fm_cons (hA638.get 5 _ rfl) (fm_cons (hA638.get 40 _ rfl) (fm_cons (hA638.get 41 _ rfl) (fm_cons (hA638.get 42 _ rfl) (fm_cons (hA638.get 43 _ rfl) fm_nil)))))))
            refine t_norm ?_
            refine c_true hA639 rfl ?_
            refine wp_skip ?_
            refine t_norm ?_
            refine wp_seq ?_
            refine wp_block ?_
            refine wp_seq ?_
            refine wp_region_lit ?_
            refine q_step hA639 rfl (d_move (wn rfl) (hA639.ev (v := v584) rfl) ?_)
            intro a640 hA641
            refine q_step hA641 rfl (d_move (wn rfl) (hA641.ev (v := (.int .i64 ((j622 : Nat) : Int))) rfl) ?_)
            intro a642 hA643
            obtain ⟨y644, hy645⟩ : ∃ y644, L616[j622]? = some y644 := ⟨_, List.getElem?_eq_getElem (show j622 < L616.length by omega)⟩
            obtain ⟨b646, o647, lt648, hr649, hix650⟩ := (hs615.below b627).at hy645
            refine q_step hA643 rfl (d_indexAt (j := j622) (wn rfl) (hA643.ev (v := v584) rfl) (hA643.ev (v := (.int .i64 ((j622 : Nat) : Int))) rfl) slc30 hix650 (get_lt hy645) ?_)
            intro a651 hA652
            refine q_step hA652 rfl (d_load (v := (.int .i64 y644)) (wn rfl) (hA652.ev (v := (.pointer (some ⟨b646, o647, none⟩))) rfl) one3 (hr649 0 _ rfl) ?_)
            intro a653 hA654
            rcases Bool.eq_false_or_eq_true (y644 == (-1)) with hb655 | hb655
            · skip
              have hq656 := eq_of_beq hb655
              refine q_step hA654 rfl (d_bin (wn rfl) (hA654.ev (v := (.int .i64 y644)) rfl) (hA654.ev (v := (.int .i64 (-1))) rfl) (b_ne _ _ y644 (-1) false _ (notof hb655)) ?_)
              intro a657 hA658
              refine q_end ?_
              have hA659 : St 59 [(3, v584), (4, v623), (5, (.int .i64 ((j622 : Nat) : Int))), (40, (.int .i64 ((j622 : Nat) : Int))), (41, v584), (42, (.int .i64 ((L616.length : Nat) : Int))), (43, (.bool true)), (46, v584), (47, (.int .i64 ((j622 : Nat) : Int))), (48, (.pointer (some ⟨b646, o647, none⟩))), (49, (.int .i64 y644)), (50, (.bool false))] a657 := hA658.cut _ (fm_cons (hA658.get 3 _ rfl) (fm_cons (hA658.get 4 _ rfl) (fm_cons (hA658.get 5 _ rfl) (fm_cons (hA658.get 40 _ rfl) (fm_cons (hA658.get 41 _ rfl) (fm_cons (hA658.get 42 _ rfl) (fm_cons (hA658.get 43 _ rfl) (fm_cons (hA658.get 46 _ rfl) (fm_cons (hA658.get 47 _ rfl) (fm_cons (hA658.get 48 _ rfl) (fm_cons (hA658.get 49 _ rfl) (fm_cons (hA658.get 50 _ rfl) fm_nil))))))))))))
              refine t_norm ?_
              refine c_false hA659 rfl ?_
              refine wp_skip ?_
              refine i_norm ?_
              refine t_norm ?_
              refine wp_region_lit ?_
              refine q_step hA659 rfl (d_move (wn rfl) (hA659.ev (v := (.int .i64 ((j622 : Nat) : Int))) rfl) ?_)
              intro a660 hA661
              refine q_step hA661 rfl (d_bin (wn rfl) (hA661.ev (v := (.int .i64 ((j622 : Nat) : Int))) rfl) (hA661.ev (v := (.int .i64 1)) rfl) (b_add _ _ ((j622 : Nat) : Int) 1 _ (by omega) (by omega)) ?_)
              intro a662 hA663
              refine q_step hA663 rfl (d_assign (wn rfl) (hA663.ev (v := (.int .i64 (((j622 : Nat) : Int) + 1))) rfl) ?_)
              intro a664 hA665
              refine q_end ?_
              have hA666 : St 59 [(3, v584), (4, v623), (5, (.int .i64 (((j622 : Nat) : Int) + 1))), (40, (.int .i64 ((j622 : Nat) : Int))), (41, v584), (42, (.int .i64 ((L616.length : Nat) : Int))), (43, (.bool true)), (44, (.int .i64 ((j622 : Nat) : Int))), (45, (.int .i64 (((j622 : Nat) : Int) + 1))), (46, v584), (47, (.int .i64 ((j622 : Nat) : Int))), (48, (.pointer (some ⟨b646, o647, none⟩))), (49, (.int .i64 y644)), (50, (.bool false))] a664 := hA665.cut _ (fm_cons (hA665.get 3 _ rfl) (fm_cons (hA665.get 4 _ rfl) (fm_cons (hA665.get 5 _ rfl) (fm_cons (hA665.get 40 _ rfl) (fm_cons (hA665.get 41 _ rfl) (fm_cons (hA665.get 42 _ rfl) (fm_cons (hA665.get 43 _ rfl) (fm_cons (hA665.get 44 _ rfl) (fm_cons (hA665.get 45 _ rfl) (fm_cons (hA665.get 46 _ rfl) (fm_cons (hA665.get 47 _ rfl) (fm_cons (hA665.get 48 _ rfl) (fm_cons (hA665.get 49 _ rfl) (fm_cons (hA665.get 50 _ rfl) fm_nil))))))))))))))
              refine t_norm ?_
              exact ⟨L616.length - (j622 + 1), (by have := get_lt hy645; rw [hm624]; omega), j622 + 1, v623, rfl, (by have := get_lt hy645; omega), hA666.cut _ (fm_cons (hA666.get 3 _ rfl) (fm_cons (hA666.get 4 _ rfl) (fm_cons ((hA666.get 5 _ rfl).trans (congrArg (Value.int .i64) (by omega))) fm_nil))), b627, (by rw [use_no hy645 hb655]; exact ho628)⟩
            · skip
              have hq667 := ne_of_beq hb655
              refine q_step hA654 rfl (d_bin (wn rfl) (hA654.ev (v := (.int .i64 y644)) rfl) (hA654.ev (v := (.int .i64 (-1))) rfl) (b_ne _ _ y644 (-1) true _ (notof hb655)) ?_)
              intro a668 hA669
              refine q_end ?_
              have hA670 : St 59 [(3, v584), (4, v623), (5, (.int .i64 ((j622 : Nat) : Int))), (40, (.int .i64 ((j622 : Nat) : Int))), (41, v584), (42, (.int .i64 ((L616.length : Nat) : Int))), (43, (.bool true)), (46, v584), (47, (.int .i64 ((j622 : Nat) : Int))), (48, (.pointer (some ⟨b646, o647, none⟩))), (49, (.int .i64 y644)), (50, (.bool true))] a668 := hA669.cut _ (fm_cons (hA669.get 3 _ rfl) (fm_cons (hA669.get 4 _ rfl) (fm_cons (hA669.get 5 _ rfl) (fm_cons (hA669.get 40 _ rfl) (fm_cons (hA669.get 41 _ rfl) (fm_cons (hA669.get 42 _ rfl) (fm_cons (hA669.get 43 _ rfl) (fm_cons (hA669.get 46 _ rfl) (fm_cons (hA669.get 47 _ rfl) (fm_cons (hA669.get 48 _ rfl) (fm_cons (hA669.get 49 _ rfl) (fm_cons (hA669.get 50 _ rfl) fm_nil))))))))))))
              refine t_norm ?_
              refine c_true hA670 rfl ?_
              refine wp_region_lit ?_
              refine q_step hA670 rfl (d_move (wn rfl) (hA670.ev (v := v623) rfl) ?_)
              intro a671 hA672
              refine q_step hA672 rfl (d_move (wn rfl) (hA672.ev (v := v584) rfl) ?_)
              intro a673 hA674
              refine q_step hA674 rfl (d_move (wn rfl) (hA674.ev (v := (.int .i64 ((j622 : Nat) : Int))) rfl) ?_)
              intro a675 hA676
              refine q_step hA676 rfl (d_indexAt (j := j622) (wn rfl) (hA676.ev (v := v584) rfl) (hA676.ev (v := (.int .i64 ((j622 : Nat) : Int))) rfl) slc30 hix650 (get_lt hy645) ?_)
              intro a677 hA678
              refine q_step hA678 rfl (d_load (v := (.int .i64 y644)) (wn rfl) (hA678.ev (v := (.pointer (some ⟨b646, o647, none⟩))) rfl) one3 (hr649 0 _ rfl) ?_)
              intro a679 hA680
              refine q_step hA680 rfl (d_slice1 (wn rfl) (hA680.ev (v := (.int .i64 y644)) rfl) elm30 rfl (by decide) ?_)
              intro g681 w682 eg683 hG684 (m685 : Blk w682 g681 #[.int .i64 y644] 3)
              have ge686 : w599.heap.size ≤ g681 := eg683 ▸ b627.size
              have off687 := own_new ho628 eg683
              have hr688 := range_below hr649 hG684 (Nat.lt_of_lt_of_le lt648 b627.size)
              have b689 := below_grow b627 hG684 b627.size
              have ho690 := own_grow hG684 ho628
              intro a691 hA692
              refine q_step hA692 rfl (d_append (wn rfl) (hA692.ev (v := v623) rfl) (hA692.ev (v := (.slice (some ⟨g681, 0, none⟩) 1 1)) rfl) elm30 ho690 m685 rfl rfl (by omega) (by decide) b689.size ?_)
              intro v693 w694 ho695 hg696 hl697
              have b698 := below_by b689 hg696 b689.size (fun k hk => (own_lt ho690 k hk).1)
              intro a699 hA700
              refine q_step hA700 rfl (d_assign (wn rfl) (hA700.ev (v := v693) rfl) ?_)
              intro a701 hA702
              refine q_end ?_
              have hA703 : St 59 [(3, v584), (4, v693), (5, (.int .i64 ((j622 : Nat) : Int))), (40, (.int .i64 ((j622 : Nat) : Int))), (41, v584), (42, (.int .i64 ((L616.length : Nat) : Int))), (43, (.bool true)), (46, v584), (47, (.int .i64 ((j622 : Nat) : Int))), (48, (.pointer (some ⟨b646, o647, none⟩))), (49, (.int .i64 y644)), (50, (.bool true)), (51, v623), (52, v584), (53, (.int .i64 ((j622 : Nat) : Int))), (54, (.pointer (some ⟨b646, o647, none⟩))), (55, (.int .i64 y644)), (56, (.slice (some ⟨g681, 0, none⟩) 1 1)), (57, v693)] a701 := hA702.cut _ (fm_cons (hA702.get 3 _ rfl) (fm_cons (hA702.get 4 _ rfl) (fm_cons (hA702.get 5 _ rfl) (fm_cons (hA702.get 40 _ rfl) (fm_cons (hA702.get 41 _ rfl) (fm_cons (hA702.get 42 _ rfl) (fm_cons (hA702.get 43 _ rfl) (fm_cons (hA702.get 46 _ rfl) (fm_cons (hA702.get 47 _ rfl) (fm_cons (hA702.get 48 _ rfl) (fm_cons (hA702.get 49 _ rfl) (fm_cons (hA702.get 50 _ rfl) (fm_cons (hA702.get 51 _ rfl) (fm_cons (hA702.get 52 _ rfl) (fm_cons (hA702.get 53 _ rfl) (fm_cons (hA702.get 54 _ rfl) (fm_cons (hA702.get 55 _ rfl) (fm_cons (hA702.get 56 _ rfl) (fm_cons (hA702.get 57 _ rfl) fm_nil)))))))))))))))))))
              refine i_norm ?_
              refine t_norm ?_
              refine wp_region_lit ?_
              refine q_step hA703 rfl (d_move (wn rfl) (hA703.ev (v := (.int .i64 ((j622 : Nat) : Int))) rfl) ?_)
              intro a704 hA705
              refine q_step hA705 rfl (d_bin (wn rfl) (hA705.ev (v := (.int .i64 ((j622 : Nat) : Int))) rfl) (hA705.ev (v := (.int .i64 1)) rfl) (b_add _ _ ((j622 : Nat) : Int) 1 _ (by omega) (by omega)) ?_)
              intro a706 hA707
              refine q_step hA707 rfl (d_assign (wn rfl) (hA707.ev (v := (.int .i64 (((j622 : Nat) : Int) + 1))) rfl) ?_)
              intro a708 hA709
              refine q_end ?_
              have hA710 : St 59 [(3, v584), (4, v693), (5, (.int .i64 (((j622 : Nat) : Int) + 1))), (40, (.int .i64 ((j622 : Nat) : Int))), (41, v584), (42, (.int .i64 ((L616.length : Nat) : Int))), (43, (.bool true)), (44, (.int .i64 ((j622 : Nat) : Int))), (45, (.int .i64 (((j622 : Nat) : Int) + 1))), (46, v584), (47, (.int .i64 ((j622 : Nat) : Int))), (48, (.pointer (some ⟨b646, o647, none⟩))), (49, (.int .i64 y644)), (50, (.bool true)), (51, v623), (52, v584), (53, (.int .i64 ((j622 : Nat) : Int))), (54, (.pointer (some ⟨b646, o647, none⟩))), (55, (.int .i64 y644)), (56, (.slice (some ⟨g681, 0, none⟩) 1 1)), (57, v693)] a708 := hA709.cut _ (fm_cons (hA709.get 3 _ rfl) (fm_cons (hA709.get 4 _ rfl) (fm_cons (hA709.get 5 _ rfl) (fm_cons (hA709.get 40 _ rfl) (fm_cons (hA709.get 41 _ rfl) (fm_cons (hA709.get 42 _ rfl) (fm_cons (hA709.get 43 _ rfl) (fm_cons (hA709.get 44 _ rfl) (fm_cons (hA709.get 45 _ rfl) (fm_cons (hA709.get 46 _ rfl) (fm_cons (hA709.get 47 _ rfl) (fm_cons (hA709.get 48 _ rfl) (fm_cons (hA709.get 49 _ rfl) (fm_cons (hA709.get 50 _ rfl) (fm_cons (hA709.get 51 _ rfl) (fm_cons (hA709.get 52 _ rfl) (fm_cons (hA709.get 53 _ rfl) (fm_cons (hA709.get 54 _ rfl) (fm_cons (hA709.get 55 _ rfl) (fm_cons (hA709.get 56 _ rfl) (fm_cons (hA709.get 57 _ rfl) fm_nil)))))))))))))))))))))
              refine t_norm ?_
              exact ⟨L616.length - (j622 + 1), (by have := get_lt hy645; rw [hm624]; omega), j622 + 1, v693, rfl, (by have := get_lt hy645; omega), hA710.cut _ (fm_cons (hA710.get 3 _ rfl) (fm_cons (hA710.get 4 _ rfl) (fm_cons ((hA710.get 5 _ rfl).trans (congrArg (Value.int .i64) (by omega))) fm_nil))), b698, (by rw [use_yes hy645 hb655, List.length_append, ← paE_snoc]; exact ho695)⟩
          · skip
            have hq711 := of_decide_eq_false hb635
            refine q_step hA634 rfl (d_bin (wn rfl) (hA634.ev (v := (.int .i64 ((j622 : Nat) : Int))) rfl) (hA634.ev (v := (.int .i64 ((L616.length : Nat) : Int))) rfl) (b_lt _ _ ((j622 : Nat) : Int) ((L616.length : Nat) : Int) false _ hb635) ?_)
            intro a712 hA713
            refine q_end ?_
            have hA714 : St 59 [(3, v584), (4, v623), (5, (.int .i64 ((j622 : Nat) : Int))), (40, (.int .i64 ((j622 : Nat) : Int))), (41, v584), (42, (.int .i64 ((L616.length : Nat) : Int))), (43, (.bool false))] a712 := hA713.cut _ (fm_cons (hA713.get 3 _ rfl) (fm_cons (hA713.get 4 _ rfl) (fm_cons (hA713.get 5 _ rfl) (fm_cons (hA713.get 40 _ rfl) (fm_cons (hA713.get 41 _ rfl) (fm_cons (hA713.get 42 _ rfl) (fm_cons (hA713.get 43 _ rfl) fm_nil)))))))
            refine t_norm ?_
            refine c_false hA714 rfl ?_
            refine wp_exit ?_
            refine t_exit ?_
            refine t_exit ?_
            refine i_here ?_
            refine t_norm ?_
            refine wp_seq ?_
            refine wp_region_lit ?_
            refine q_step hA714 rfl (d_move (wn rfl) (hA714.ev (v := v623) rfl) ?_)
            intro a715 hA716
            refine q_step hA716 rfl (d_assign (wn rfl) (hA716.ev (v := v623) rfl) ?_)
            intro a717 hA718
            refine q_end ?_
            have hA719 : St 59 [(2, v623)] a717 := hA718.cut _ (fm_cons (hA718.get 2 _ rfl) fm_nil)
            refine t_norm ?_
            refine wp_ret ?_
            refine ret1 rfl hA719 (v := v623) rfl ?_
            have he720 : useL L616 j622 = useF i := by rw [use_all (by omega), hL617]; simp [useF, useX, plainF, List.filter_cons, hb23, hb190, hb357, eq_of_beq hb556, opB, rdB, wrB]
            exact ⟨_, rfl, Grow.trans b604 b627, (by rw [← he720]; exact own_le ho628 b604.size)⟩
        · skip
          have hq721 := ne_of_beq hb556
          refine q_step hA555 rfl (d_bin (wn rfl) (hA555.ev (v := (.int .i64 i.op)) rfl) (hA555.ev (v := (.int .i64 3)) rfl) (b_eq _ _ i.op 3 false _ hb556) ?_)
          intro a722 hA723
          refine q_step hA723 rfl (d_assign (wn rfl) (hA723.ev (v := (.bool false)) rfl) ?_)
          intro a724 hA725
          refine q_end ?_
          have hA726 : St 59 [(1, (.pointer (some ⟨g3, 0, none⟩))), (2, (.slice none 0 0)), (3, (.slice none 0 0)), (7, (.int .i64 i.op)), (17, (.bool false))] a724 := hA725.cut _ (fm_cons (hA725.get 1 _ rfl) (fm_cons (hA725.get 2 _ rfl) (fm_cons (hA725.get 3 _ rfl) (fm_cons (hA725.get 7 _ rfl) (fm_cons (hA725.get 17 _ rfl) fm_nil)))))
          refine t_norm ?_
          refine c_false hA726 rfl ?_
          refine wp_seq ?_
          refine wp_region_lit ?_
          rcases Bool.eq_false_or_eq_true (i.op == 5) with hb727 | hb727
          · skip
            have hq728 := eq_of_beq hb727
            refine q_step hA726 rfl (d_bin (wn rfl) (hA726.ev (v := (.int .i64 i.op)) rfl) (hA726.ev (v := (.int .i64 5)) rfl) (b_eq _ _ i.op 5 true _ hb727) ?_)
            intro a729 hA730
            refine q_step hA730 rfl (d_assign (wn rfl) (hA730.ev (v := (.bool true)) rfl) ?_)
            intro a731 hA732
            refine q_end ?_
            have hA733 : St 59 [(1, (.pointer (some ⟨g3, 0, none⟩))), (2, (.slice none 0 0)), (3, (.slice none 0 0)), (26, (.bool true))] a731 := hA732.cut _ (fm_cons (hA732.get 1 _ rfl) (fm_cons (hA732.get 2 _ rfl) (fm_cons (hA732.get 3 _ rfl) (fm_cons (hA732.get 26 _ rfl) fm_nil))))
            refine t_norm ?_
            refine c_true hA733 rfl ?_
            refine wp_region_lit ?_
            refine q_step hA733 rfl (d_move (wn rfl) (hA733.ev (v := (.slice none 0 0)) rfl) ?_)
            intro a734 hA735
            refine q_step hA735 rfl (d_fieldAddr (wn rfl) (hA735.ev (v := (.pointer (some ⟨g3, 0, none⟩))) rfl) fo23_2 ?_)
            intro a736 hA737
            refine q_step hA737 rfl (d_load (v := (.int .i64 i.a)) (wn rfl) (hA737.ev (v := (.pointer (some ⟨g3, 2, none⟩))) rfl) one3 (m7.cell rfl) ?_)
            intro a738 hA739
            refine q_step hA739 rfl (d_slice1 (wn rfl) (hA739.ev (v := (.int .i64 i.a)) rfl) elm30 rfl (by decide) ?_)
            intro g740 w741 eg742 hG743 (m744 : Blk w741 g740 #[.int .i64 i.a] 3)
            have ge745 : w.heap.size ≤ g740 := eg742 ▸ b9.size
            have n746 : g3 ≠ g740 := fun h => Nat.lt_irrefl _ ((h.trans eg742) ▸ m7.lt)
            have m747 := m7.grow hG743
            have b748 := below_grow b9 hG743 b9.size
            intro a749 hA750
            refine q_step hA750 rfl (d_append (wn rfl) (hA750.ev (v := (.slice none 0 0)) rfl) (hA750.ev (v := (.slice (some ⟨g740, 0, none⟩) 1 1)) rfl) elm30 (⟨rfl, .inl ⟨rfl, rfl⟩⟩ : (w741).ownsRow w.heap.size 3 1 (.slice none 0 0) 0 []) m744 rfl rfl (by omega) (by decide) b748.size ?_)
            intro v751 w752 ho753 hg754 hl755
            have b756 := below_by b748 hg754 b748.size (fun k hk => (own_lt (⟨rfl, .inl ⟨rfl, rfl⟩⟩ : (w741).ownsRow w.heap.size 3 1 (.slice none 0 0) 0 []) k hk).1)
            have m757 := m747.by hg754 (fun h => nomatch h)
            have off758 := lies_ne hl755 (fun h => nomatch h) m747.lt
            intro a759 hA760
            refine q_step hA760 rfl (d_assign (wn rfl) (hA760.ev (v := v751) rfl) ?_)
            intro a761 hA762
            refine q_end ?_
            have hA763 : St 59 [(1, (.pointer (some ⟨g3, 0, none⟩))), (2, (.slice none 0 0)), (3, v751)] a761 := hA762.cut _ (fm_cons (hA762.get 1 _ rfl) (fm_cons (hA762.get 2 _ rfl) (fm_cons (hA762.get 3 _ rfl) fm_nil)))
            refine i_norm ?_
            refine t_norm ?_
            refine wp_seq ?_
            refine wp_seq ?_
            refine wp_region_lit ?_
            refine q_step hA763 rfl (d_loadRow (cs := (insC i)) (wn rfl) (hA763.ev (v := (.pointer (some ⟨g3, 0, none⟩))) rfl) row23 m757 ?_)
            intro a764 hA765
            refine q_step hA765 rfl (d_call (wn rfl) ent32 (map1 (hA765.ev (v := (.agg (insC i))) rfl)) (memory_any i w752) ?_)
            rintro e769 w766 ⟨he768, hG767⟩
            have m770 := m757.grow hG767
            have b771 := below_grow b756 hG767 b756.size
            have ho772 := own_grow hG767 ho753
            refine ⟨.bool true, he768.trans (ret_bool (by simp [opB, rdB, wrB, eq_of_beq hb727])), ?_⟩
            intro a773 hA774
            refine q_end ?_
            have hA775 : St 59 [(1, (.pointer (some ⟨g3, 0, none⟩))), (2, (.slice none 0 0)), (3, v751), (34, (.bool true))] a773 := hA774.cut _ (fm_cons (hA774.get 1 _ rfl) (fm_cons (hA774.get 2 _ rfl) (fm_cons (hA774.get 3 _ rfl) (fm_cons (hA774.get 34 _ rfl) fm_nil))))
            refine t_norm ?_
            refine c_true hA775 rfl ?_
            refine wp_region_lit ?_
            refine q_step hA775 rfl (d_move (wn rfl) (hA775.ev (v := v751) rfl) ?_)
            intro a776 hA777
            refine q_step hA777 rfl (d_fieldAddr (wn rfl) (hA777.ev (v := (.pointer (some ⟨g3, 0, none⟩))) rfl) fo23_7 ?_)
            intro a778 hA779
            refine q_step hA779 rfl (d_load (v := (.int .i64 i.index)) (wn rfl) (hA779.ev (v := (.pointer (some ⟨g3, 7, none⟩))) rfl) one3 (m770.cell rfl) ?_)
            intro a780 hA781
            refine q_step hA781 rfl (d_slice1 (wn rfl) (hA781.ev (v := (.int .i64 i.index)) rfl) elm30 rfl (by decide) ?_)
            intro g782 w783 eg784 hG785 (m786 : Blk w783 g782 #[.int .i64 i.index] 3)
            have ge787 : w.heap.size ≤ g782 := eg784 ▸ b771.size
            have n788 : g3 ≠ g782 := fun h => Nat.lt_irrefl _ ((h.trans eg784) ▸ m770.lt)
            have off789 := own_new ho772 eg784
            have m790 := m770.grow hG785
            have b791 := below_grow b771 hG785 b771.size
            have ho792 := own_grow hG785 ho772
            intro a793 hA794
            refine q_step hA794 rfl (d_append (wn rfl) (hA794.ev (v := v751) rfl) (hA794.ev (v := (.slice (some ⟨g782, 0, none⟩) 1 1)) rfl) elm30 ho792 m786 rfl rfl (by omega) (by decide) b791.size ?_)
            intro v795 w796 ho797 hg798 hl799
            have b800 := below_by b791 hg798 b791.size (fun k hk => (own_lt ho792 k hk).1)
            have m801 := m790.by hg798 off758
            have off802 := lies_ne hl799 off758 m790.lt
            intro a803 hA804
            refine q_step hA804 rfl (d_assign (wn rfl) (hA804.ev (v := v795) rfl) ?_)
            intro a805 hA806
            refine q_end ?_
            have hA807 : St 59 [(2, (.slice none 0 0)), (3, v795)] a805 := hA806.cut _ (fm_cons (hA806.get 2 _ rfl) (fm_cons (hA806.get 3 _ rfl) fm_nil))
            refine t_norm ?_
            refine wp_seq ?_
            refine wp_region_lit ?_
            refine q_step hA807 rfl (d_assign (wn rfl) (hA807.ev (v := (.slice none 0 0)) rfl) ?_)
            intro a808 hA809
            refine q_end ?_
            have hA810 : St 59 [(2, (.slice none 0 0)), (3, v795), (4, (.slice none 0 0))] a808 := hA809.cut _ (fm_cons (hA809.get 2 _ rfl) (fm_cons (hA809.get 3 _ rfl) (fm_cons (hA809.get 4 _ rfl) fm_nil)))
            refine t_norm ?_
            refine wp_seq ?_
            refine wp_seq ?_
            refine wp_region_lit ?_
            refine q_step hA810 rfl (d_assign (wn rfl) (hA810.ev (v := (.int .i64 0)) rfl) ?_)
            intro a811 hA812
            refine q_end ?_
            have hA813 : St 59 [(2, (.slice none 0 0)), (3, v795), (4, (.slice none 0 0)), (5, (.int .i64 0))] a811 := hA812.cut _ (fm_cons (hA812.get 2 _ rfl) (fm_cons (hA812.get 3 _ rfl) (fm_cons (hA812.get 4 _ rfl) (fm_cons (hA812.get 5 _ rfl) fm_nil))))
            refine t_norm ?_
            refine wp_block ?_
            have hs814 : Sl intE 1 w796.heap.size w796 v795 [i.a, i.index] := own_int (l := [i.a, i.index]) ho797
            obtain ⟨L815, hL816⟩ : ∃ L : List Int, L = [i.a, i.index] := ⟨_, rfl⟩
            have hn817 : L815.length ≤ 3 := by rw [hL816]; simp
            rw [← hL816] at hs814
            refine loop_by (fun m a' w' => ∃ (j : Nat) (v : Value), m = L815.length - j ∧ j ≤ L815.length ∧ St 59 [(3, v795), (4, v), (5, (.int .i64 ((j : Nat) : Int)))] a' ∧ Below w796.heap.size w796 w' ∧ w'.ownsRow w796.heap.size 3 1 v (useL L815 j).length (paE (useL L815 j))) (L815.length - 0) ⟨0, .slice none 0 0, rfl, Nat.zero_le _, hA813.cut _ (fm_cons (hA813.get 3 _ rfl) (fm_cons (hA813.get 4 _ rfl) (fm_cons (hA813.get 5 _ rfl) fm_nil))), Below.refl _ _, (by rw [show useL L815 0 = [] by simp [useL]]; exact ⟨rfl, .inl ⟨rfl, rfl⟩⟩)⟩ ?_
            rintro m818 a819 w820 ⟨j821, v822, hm823, hj824, hA825, b826, ho827⟩
            have hul := use_len L815 j821
            refine wp_seq ?_
            refine wp_seq ?_
            refine wp_region_lit ?_
            refine q_step hA825 rfl (d_move (wn rfl) (hA825.ev (v := (.int .i64 ((j821 : Nat) : Int))) rfl) ?_)
            intro a828 hA829
            refine q_step hA829 rfl (d_move (wn rfl) (hA829.ev (v := v795) rfl) ?_)
            intro a830 hA831
            refine q_step hA831 rfl (d_len (n := L815.length) (wn rfl) (hA831.ev (v := v795) rfl) slc30 hs814.form ?_)
            intro a832 hA833
            rcases Bool.eq_false_or_eq_true (decide (((j821 : Nat) : Int) < ((L815.length : Nat) : Int))) with hb834 | hb834
            · skip
              have hq835 := of_decide_eq_true hb834
              refine q_step hA833 rfl (d_bin (wn rfl) (hA833.ev (v := (.int .i64 ((j821 : Nat) : Int))) rfl) (hA833.ev (v := (.int .i64 ((L815.length : Nat) : Int))) rfl) (b_lt _ _ ((j821 : Nat) : Int) ((L815.length : Nat) : Int) true _ hb834) ?_)
              intro a836 hA837
              refine q_end ?_
              have hA838 : St 59 [(3, v795), (4, v822), (5, (.int .i64 ((j821 : Nat) : Int))), (40, (.int .i64 ((j821 : Nat) : Int))), (41, v795), (42, (.int .i64 ((L815.length : Nat) : Int))), (43, (.bool true))] a836 := hA837.cut _ (fm_cons (hA837.get 3 _ rfl) (fm_cons (hA837.get 4 _ rfl) (fm_cons (hA837.get 5 _ rfl) (fm_cons (hA837.get 40 _ rfl) (fm_cons (hA837.get 41 _ rfl) (fm_cons (hA837.get 42 _ rfl) (fm_cons (hA837.get 43 _ rfl) fm_nil)))))))
              refine t_norm ?_
              refine c_true hA838 rfl ?_
              refine wp_skip ?_
              refine t_norm ?_
              refine wp_seq ?_
              refine wp_block ?_
              refine wp_seq ?_
              refine wp_region_lit ?_
              refine q_step hA838 rfl (d_move (wn rfl) (hA838.ev (v := v795) rfl) ?_)
              intro a839 hA840
              refine q_step hA840 rfl (d_move (wn rfl) (hA840.ev (v := (.int .i64 ((j821 : Nat) : Int))) rfl) ?_)
              intro a841 hA842
              obtain ⟨y843, hy844⟩ : ∃ y843, L815[j821]? = some y843 := ⟨_, List.getElem?_eq_getElem (show j821 < L815.length by omega)⟩
              obtain ⟨b845, o846, lt847, hr848, hix849⟩ := (hs814.below b826).at hy844
              refine q_step hA842 rfl (d_indexAt (j := j821) (wn rfl) (hA842.ev (v := v795) rfl) (hA842.ev (v := (.int .i64 ((j821 : Nat) : Int))) rfl) slc30 hix849 (get_lt hy844) ?_)
              intro a850 hA851
              refine q_step hA851 rfl (d_load (v := (.int .i64 y843)) (wn rfl) (hA851.ev (v := (.pointer (some ⟨b845, o846, none⟩))) rfl) one3 (hr848 0 _ rfl) ?_)
              intro a852 hA853
              rcases Bool.eq_false_or_eq_true (y843 == (-1)) with hb854 | hb854
              · skip
                have hq855 := eq_of_beq hb854
                refine q_step hA853 rfl (d_bin (wn rfl) (hA853.ev (v := (.int .i64 y843)) rfl) (hA853.ev (v := (.int .i64 (-1))) rfl) (b_ne _ _ y843 (-1) false _ (notof hb854)) ?_)
                intro a856 hA857
                refine q_end ?_
                have hA858 : St 59 [(3, v795), (4, v822), (5, (.int .i64 ((j821 : Nat) : Int))), (40, (.int .i64 ((j821 : Nat) : Int))), (41, v795), (42, (.int .i64 ((L815.length : Nat) : Int))), (43, (.bool true)), (46, v795), (47, (.int .i64 ((j821 : Nat) : Int))), (48, (.pointer (some ⟨b845, o846, none⟩))), (49, (.int .i64 y843)), (50, (.bool false))] a856 := hA857.cut _ (fm_cons (hA857.get 3 _ rfl) (fm_cons (hA857.get 4 _ rfl) (fm_cons (hA857.get 5 _ rfl) (fm_cons (hA857.get 40 _ rfl) (fm_cons (hA857.get 41 _ rfl) (fm_cons (hA857.get 42 _ rfl) (fm_cons (hA857.get 43 _ rfl) (fm_cons (hA857.get 46 _ rfl) (fm_cons (hA857.get 47 _ rfl) (fm_cons (hA857.get 48 _ rfl) (fm_cons (hA857.get 49 _ rfl) (fm_cons (hA857.get 50 _ rfl) fm_nil))))))))))))
                refine t_norm ?_
                refine c_false hA858 rfl ?_
                refine wp_skip ?_
                refine i_norm ?_
                refine t_norm ?_
                refine wp_region_lit ?_
                refine q_step hA858 rfl (d_move (wn rfl) (hA858.ev (v := (.int .i64 ((j821 : Nat) : Int))) rfl) ?_)
                intro a859 hA860
                refine q_step hA860 rfl (d_bin (wn rfl) (hA860.ev (v := (.int .i64 ((j821 : Nat) : Int))) rfl) (hA860.ev (v := (.int .i64 1)) rfl) (b_add _ _ ((j821 : Nat) : Int) 1 _ (by omega) (by omega)) ?_)
                intro a861 hA862
                refine q_step hA862 rfl (d_assign (wn rfl) (hA862.ev (v := (.int .i64 (((j821 : Nat) : Int) + 1))) rfl) ?_)
                intro a863 hA864
                refine q_end ?_
                have hA865 : St 59 [(3, v795), (4, v822), (5, (.int .i64 (((j821 : Nat) : Int) + 1))), (40, (.int .i64 ((j821 : Nat) : Int))), (41, v795), (42, (.int .i64 ((L815.length : Nat) : Int))), (43, (.bool true)), (44, (.int .i64 ((j821 : Nat) : Int))), (45, (.int .i64 (((j821 : Nat) : Int) + 1))), (46, v795), (47, (.int .i64 ((j821 : Nat) : Int))), (48, (.pointer (some ⟨b845, o846, none⟩))), (49, (.int .i64 y843)), (50, (.bool false))] a863 := hA864.cut _ (fm_cons (hA864.get 3 _ rfl) (fm_cons (hA864.get 4 _ rfl) (fm_cons (hA864.get 5 _ rfl) (fm_cons (hA864.get 40 _ rfl) (fm_cons (hA864.get 41 _ rfl) (fm_cons (hA864.get 42 _ rfl) (fm_cons (hA864.get 43 _ rfl) (fm_cons (hA864.get 44 _ rfl) (fm_cons (hA864.get 45 _ rfl) (fm_cons (hA864.get 46 _ rfl) (fm_cons (hA864.get 47 _ rfl) (fm_cons (hA864.get 48 _ rfl) (fm_cons (hA864.get 49 _ rfl) (fm_cons (hA864.get 50 _ rfl) fm_nil))))))))))))))
                refine t_norm ?_
                exact ⟨L815.length - (j821 + 1), (by have := get_lt hy844; rw [hm823]; omega), j821 + 1, v822, rfl, (by have := get_lt hy844; omega), hA865.cut _ (fm_cons (hA865.get 3 _ rfl) (fm_cons (hA865.get 4 _ rfl) (fm_cons ((hA865.get 5 _ rfl).trans (congrArg (Value.int .i64) (by omega))) fm_nil))), b826, (by rw [use_no hy844 hb854]; exact ho827)⟩
              · skip
                have hq866 := ne_of_beq hb854
                refine q_step hA853 rfl (d_bin (wn rfl) (hA853.ev (v := (.int .i64 y843)) rfl) (hA853.ev (v := (.int .i64 (-1))) rfl) (b_ne _ _ y843 (-1) true _ (notof hb854)) ?_)
                intro a867 hA868
                refine q_end ?_
                have hA869 : St 59 [(3, v795), (4, v822), (5, (.int .i64 ((j821 : Nat) : Int))), (40, (.int .i64 ((j821 : Nat) : Int))), (41, v795), (42, (.int .i64 ((L815.length : Nat) : Int))), (43, (.bool true)), (46, v795), (47, (.int .i64 ((j821 : Nat) : Int))), (48, (.pointer (some ⟨b845, o846, none⟩))), (49, (.int .i64 y843)), (50, (.bool true))] a867 := hA868.cut _ (fm_cons (hA868.get 3 _ rfl) (fm_cons (hA868.get 4 _ rfl) (fm_cons (hA868.get 5 _ rfl) (fm_cons (hA868.get 40 _ rfl) (fm_cons (hA868.get 41 _ rfl) (fm_cons (hA868.get 42 _ rfl) (fm_cons (hA868.get 43 _ rfl) (fm_cons (hA868.get 46 _ rfl) (fm_cons (hA868.get 47 _ rfl) (fm_cons (hA868.get 48 _ rfl) (fm_cons (hA868.get 49 _ rfl) (fm_cons (hA868.get 50 _ rfl) fm_nil))))))))))))
                refine t_norm ?_
                refine c_true hA869 rfl ?_
                refine wp_region_lit ?_
                refine q_step hA869 rfl (d_move (wn rfl) (hA869.ev (v := v822) rfl) ?_)
                intro a870 hA871
                refine q_step hA871 rfl (d_move (wn rfl) (hA871.ev (v := v795) rfl) ?_)
                intro a872 hA873
                refine q_step hA873 rfl (d_move (wn rfl) (hA873.ev (v := (.int .i64 ((j821 : Nat) : Int))) rfl) ?_)
                intro a874 hA875
                refine q_step hA875 rfl (d_indexAt (j := j821) (wn rfl) (hA875.ev (v := v795) rfl) (hA875.ev (v := (.int .i64 ((j821 : Nat) : Int))) rfl) slc30 hix849 (get_lt hy844) ?_)
                intro a876 hA877
                refine q_step hA877 rfl (d_load (v := (.int .i64 y843)) (wn rfl) (hA877.ev (v := (.pointer (some ⟨b845, o846, none⟩))) rfl) one3 (hr848 0 _ rfl) ?_)
                intro a878 hA879
                refine q_step hA879 rfl (d_slice1 (wn rfl) (hA879.ev (v := (.int .i64 y843)) rfl) elm30 rfl (by decide) ?_)
                intro g880 w881 eg882 hG883 (m884 : Blk w881 g880 #[.int .i64 y843] 3)
                have ge885 : w796.heap.size ≤ g880 := eg882 ▸ b826.size
                have off886 := own_new ho827 eg882
                have hr887 := range_below hr848 hG883 (Nat.lt_of_lt_of_le lt847 b826.size)
                have b888 := below_grow b826 hG883 b826.size
                have ho889 := own_grow hG883 ho827
                intro a890 hA891
                refine q_step hA891 rfl (d_append (wn rfl) (hA891.ev (v := v822) rfl) (hA891.ev (v := (.slice (some ⟨g880, 0, none⟩) 1 1)) rfl) elm30 ho889 m884 rfl rfl (by omega) (by decide) b888.size ?_)
                intro v892 w893 ho894 hg895 hl896
                have b897 := below_by b888 hg895 b888.size (fun k hk => (own_lt ho889 k hk).1)
                intro a898 hA899
                refine q_step hA899 rfl (d_assign (wn rfl) (hA899.ev (v := v892) rfl) ?_)
                intro a900 hA901
                refine q_end ?_
                have hA902 : St 59 [(3, v795), (4, v892), (5, (.int .i64 ((j821 : Nat) : Int))), (40, (.int .i64 ((j821 : Nat) : Int))), (41, v795), (42, (.int .i64 ((L815.length : Nat) : Int))), (43, (.bool true)), (46, v795), (47, (.int .i64 ((j821 : Nat) : Int))), (48, (.pointer (some ⟨b845, o846, none⟩))), (49, (.int .i64 y843)), (50, (.bool true)), (51, v822), (52, v795), (53, (.int .i64 ((j821 : Nat) : Int))), (54, (.pointer (some ⟨b845, o846, none⟩))), (55, (.int .i64 y843)), (56, (.slice (some ⟨g880, 0, none⟩) 1 1)), (57, v892)] a900 := hA901.cut _ (fm_cons (hA901.get 3 _ rfl) (fm_cons (hA901.get 4 _ rfl) (fm_cons (hA901.get 5 _ rfl) (fm_cons (hA901.get 40 _ rfl) (fm_cons (hA901.get 41 _ rfl) (fm_cons (hA901.get 42 _ rfl) (fm_cons (hA901.get 43 _ rfl) (fm_cons (hA901.get 46 _ rfl) (fm_cons (hA901.get 47 _ rfl) (fm_cons (hA901.get 48 _ rfl) (fm_cons (hA901.get 49 _ rfl) (fm_cons (hA901.get 50 _ rfl) (fm_cons (hA901.get 51 _ rfl) (fm_cons (hA901.get 52 _ rfl) (fm_cons (hA901.get 53 _ rfl) (fm_cons (hA901.get 54 _ rfl) (fm_cons (hA901.get 55 _ rfl) (fm_cons (hA901.get 56 _ rfl) (fm_cons (hA901.get 57 _ rfl) fm_nil)))))))))))))))))))
                refine i_norm ?_
                refine t_norm ?_
                refine wp_region_lit ?_
                refine q_step hA902 rfl (d_move (wn rfl) (hA902.ev (v := (.int .i64 ((j821 : Nat) : Int))) rfl) ?_)
                intro a903 hA904
                refine q_step hA904 rfl (d_bin (wn rfl) (hA904.ev (v := (.int .i64 ((j821 : Nat) : Int))) rfl) (hA904.ev (v := (.int .i64 1)) rfl) (b_add _ _ ((j821 : Nat) : Int) 1 _ (by omega) (by omega)) ?_)
                intro a905 hA906
                refine q_step hA906 rfl (d_assign (wn rfl) (hA906.ev (v := (.int .i64 (((j821 : Nat) : Int) + 1))) rfl) ?_)
                intro a907 hA908
                refine q_end ?_
                have hA909 : St 59 [(3, v795), (4, v892), (5, (.int .i64 (((j821 : Nat) : Int) + 1))), (40, (.int .i64 ((j821 : Nat) : Int))), (41, v795), (42, (.int .i64 ((L815.length : Nat) : Int))), (43, (.bool true)), (44, (.int .i64 ((j821 : Nat) : Int))), (45, (.int .i64 (((j821 : Nat) : Int) + 1))), (46, v795), (47, (.int .i64 ((j821 : Nat) : Int))), (48, (.pointer (some ⟨b845, o846, none⟩))), (49, (.int .i64 y843)), (50, (.bool true)), (51, v822), (52, v795), (53, (.int .i64 ((j821 : Nat) : Int))), (54, (.pointer (some ⟨b845, o846, none⟩))), (55, (.int .i64 y843)), (56, (.slice (some ⟨g880, 0, none⟩) 1 1)), (57, v892)] a907 := hA908.cut _ (fm_cons (hA908.get 3 _ rfl) (fm_cons (hA908.get 4 _ rfl) (fm_cons (hA908.get 5 _ rfl) (fm_cons (hA908.get 40 _ rfl) (fm_cons (hA908.get 41 _ rfl) (fm_cons (hA908.get 42 _ rfl) (fm_cons (hA908.get 43 _ rfl) (fm_cons (hA908.get 44 _ rfl) (fm_cons (hA908.get 45 _ rfl) (fm_cons (hA908.get 46 _ rfl) (fm_cons (hA908.get 47 _ rfl) (fm_cons (hA908.get 48 _ rfl) (fm_cons (hA908.get 49 _ rfl) (fm_cons (hA908.get 50 _ rfl) (fm_cons (hA908.get 51 _ rfl) (fm_cons (hA908.get 52 _ rfl) (fm_cons (hA908.get 53 _ rfl) (fm_cons (hA908.get 54 _ rfl) (fm_cons (hA908.get 55 _ rfl) (fm_cons (hA908.get 56 _ rfl) (fm_cons (hA908.get 57 _ rfl) fm_nil)))))))))))))))))))))
                refine t_norm ?_
                exact ⟨L815.length - (j821 + 1), (by have := get_lt hy844; rw [hm823]; omega), j821 + 1, v892, rfl, (by have := get_lt hy844; omega), hA909.cut _ (fm_cons (hA909.get 3 _ rfl) (fm_cons (hA909.get 4 _ rfl) (fm_cons ((hA909.get 5 _ rfl).trans (congrArg (Value.int .i64) (by omega))) fm_nil))), b897, (by rw [use_yes hy844 hb854, List.length_append, ← paE_snoc]; exact ho894)⟩
            · skip
              have hq910 := of_decide_eq_false hb834
              refine q_step hA833 rfl (d_bin (wn rfl) (hA833.ev (v := (.int .i64 ((j821 : Nat) : Int))) rfl) (hA833.ev (v := (.int .i64 ((L815.length : Nat) : Int))) rfl) (b_lt _ _ ((j821 : Nat) : Int) ((L815.length : Nat) : Int) false _ hb834) ?_)
              intro a911 hA912
              refine q_end ?_
              have hA913 : St 59 [(3, v795), (4, v822), (5, (.int .i64 ((j821 : Nat) : Int))), (40, (.int .i64 ((j821 : Nat) : Int))), (41, v795), (42, (.int .i64 ((L815.length : Nat) : Int))), (43, (.bool false))] a911 := hA912.cut _ (fm_cons (hA912.get 3 _ rfl) (fm_cons (hA912.get 4 _ rfl) (fm_cons (hA912.get 5 _ rfl) (fm_cons (hA912.get 40 _ rfl) (fm_cons (hA912.get 41 _ rfl) (fm_cons (hA912.get 42 _ rfl) (fm_cons (hA912.get 43 _ rfl) fm_nil)))))))
              refine t_norm ?_
              refine c_false hA913 rfl ?_
              refine wp_exit ?_
              refine t_exit ?_
              refine t_exit ?_
              refine i_here ?_
              refine t_norm ?_
              refine wp_seq ?_
              refine wp_region_lit ?_
              refine q_step hA913 rfl (d_move (wn rfl) (hA913.ev (v := v822) rfl) ?_)
              intro a914 hA915
              refine q_step hA915 rfl (d_assign (wn rfl) (hA915.ev (v := v822) rfl) ?_)
              intro a916 hA917
              refine q_end ?_
              have hA918 : St 59 [(2, v822)] a916 := hA917.cut _ (fm_cons (hA917.get 2 _ rfl) fm_nil)
              refine t_norm ?_
              refine wp_ret ?_
              refine ret1 rfl hA918 (v := v822) rfl ?_
              have he919 : useL L815 j821 = useF i := by rw [use_all (by omega), hL816]; simp [useF, useX, plainF, List.filter_cons, hb23, hb190, hb357, hb556, eq_of_beq hb727, opB, rdB, wrB]
              exact ⟨_, rfl, Grow.trans b800 b826, (by rw [← he919]; exact own_le ho827 b800.size)⟩
          · skip
            have hq920 := ne_of_beq hb727
            refine q_step hA726 rfl (d_bin (wn rfl) (hA726.ev (v := (.int .i64 i.op)) rfl) (hA726.ev (v := (.int .i64 5)) rfl) (b_eq _ _ i.op 5 false _ hb727) ?_)
            intro a921 hA922
            refine q_step hA922 rfl (d_assign (wn rfl) (hA922.ev (v := (.bool false)) rfl) ?_)
            intro a923 hA924
            refine q_end ?_
            have hA925 : St 59 [(1, (.pointer (some ⟨g3, 0, none⟩))), (2, (.slice none 0 0)), (3, (.slice none 0 0)), (26, (.bool false))] a923 := hA924.cut _ (fm_cons (hA924.get 1 _ rfl) (fm_cons (hA924.get 2 _ rfl) (fm_cons (hA924.get 3 _ rfl) (fm_cons (hA924.get 26 _ rfl) fm_nil))))
            refine t_norm ?_
            refine c_false hA925 rfl ?_
            refine wp_skip ?_
            refine i_norm ?_
            refine t_norm ?_
            refine wp_seq ?_
            refine wp_seq ?_
            refine wp_region_lit ?_
            refine q_step hA925 rfl (d_loadRow (cs := (insC i)) (wn rfl) (hA925.ev (v := (.pointer (some ⟨g3, 0, none⟩))) rfl) row23 m7 ?_)
            intro a926 hA927
            refine q_step hA927 rfl (d_call (wn rfl) ent32 (map1 (hA927.ev (v := (.agg (insC i))) rfl)) (memory_any i w4) ?_)
            rintro e931 w928 ⟨he930, hG929⟩
            have m932 := m7.grow hG929
            have b933 := below_grow b9 hG929 b9.size
            rcases Bool.eq_false_or_eq_true (opB i) with hb934 | hb934
            · skip
              refine ⟨.bool true, he930.trans (ret_bool hb934), ?_⟩
              intro a936 hA937
              refine q_end ?_
              have hA938 : St 59 [(1, (.pointer (some ⟨g3, 0, none⟩))), (2, (.slice none 0 0)), (3, (.slice none 0 0)), (34, (.bool true))] a936 := hA937.cut _ (fm_cons (hA937.get 1 _ rfl) (fm_cons (hA937.get 2 _ rfl) (fm_cons (hA937.get 3 _ rfl) (fm_cons (hA937.get 34 _ rfl) fm_nil))))
              refine t_norm ?_
              refine c_true hA938 rfl ?_
              refine wp_region_lit ?_
              refine q_step hA938 rfl (d_move (wn rfl) (hA938.ev (v := (.slice none 0 0)) rfl) ?_)
              intro a939 hA940
              refine q_step hA940 rfl (d_fieldAddr (wn rfl) (hA940.ev (v := (.pointer (some ⟨g3, 0, none⟩))) rfl) fo23_7 ?_)
              intro a941 hA942
              refine q_step hA942 rfl (d_load (v := (.int .i64 i.index)) (wn rfl) (hA942.ev (v := (.pointer (some ⟨g3, 7, none⟩))) rfl) one3 (m932.cell rfl) ?_)
              intro a943 hA944
              refine q_step hA944 rfl (d_slice1 (wn rfl) (hA944.ev (v := (.int .i64 i.index)) rfl) elm30 rfl (by decide) ?_)
              intro g945 w946 eg947 hG948 (m949 : Blk w946 g945 #[.int .i64 i.index] 3)
              have ge950 : w.heap.size ≤ g945 := eg947 ▸ b933.size
              have n951 : g3 ≠ g945 := fun h => Nat.lt_irrefl _ ((h.trans eg947) ▸ m932.lt)
              have m952 := m932.grow hG948
              have b953 := below_grow b933 hG948 b933.size
              intro a954 hA955
              refine q_step hA955 rfl (d_append (wn rfl) (hA955.ev (v := (.slice none 0 0)) rfl) (hA955.ev (v := (.slice (some ⟨g945, 0, none⟩) 1 1)) rfl) elm30 (⟨rfl, .inl ⟨rfl, rfl⟩⟩ : (w946).ownsRow w.heap.size 3 1 (.slice none 0 0) 0 []) m949 rfl rfl (by omega) (by decide) b953.size ?_)
              intro v956 w957 ho958 hg959 hl960
              have b961 := below_by b953 hg959 b953.size (fun k hk => (own_lt (⟨rfl, .inl ⟨rfl, rfl⟩⟩ : (w946).ownsRow w.heap.size 3 1 (.slice none 0 0) 0 []) k hk).1)
              have m962 := m952.by hg959 (fun h => nomatch h)
              have off963 := lies_ne hl960 (fun h => nomatch h) m952.lt
              intro a964 hA965
              refine q_step hA965 rfl (d_assign (wn rfl) (hA965.ev (v := v956) rfl) ?_)
              intro a966 hA967
              refine q_end ?_
              have hA968 : St 59 [(2, (.slice none 0 0)), (3, v956)] a966 := hA967.cut _ (fm_cons (hA967.get 2 _ rfl) (fm_cons (hA967.get 3 _ rfl) fm_nil))
              refine t_norm ?_
              refine wp_seq ?_
              refine wp_region_lit ?_
              refine q_step hA968 rfl (d_assign (wn rfl) (hA968.ev (v := (.slice none 0 0)) rfl) ?_)
              intro a969 hA970
              refine q_end ?_
              have hA971 : St 59 [(2, (.slice none 0 0)), (3, v956), (4, (.slice none 0 0))] a969 := hA970.cut _ (fm_cons (hA970.get 2 _ rfl) (fm_cons (hA970.get 3 _ rfl) (fm_cons (hA970.get 4 _ rfl) fm_nil)))
              refine t_norm ?_
              refine wp_seq ?_
              refine wp_seq ?_
              refine wp_region_lit ?_
              refine q_step hA971 rfl (d_assign (wn rfl) (hA971.ev (v := (.int .i64 0)) rfl) ?_)
              intro a972 hA973
              refine q_end ?_
              have hA974 : St 59 [(2, (.slice none 0 0)), (3, v956), (4, (.slice none 0 0)), (5, (.int .i64 0))] a972 := hA973.cut _ (fm_cons (hA973.get 2 _ rfl) (fm_cons (hA973.get 3 _ rfl) (fm_cons (hA973.get 4 _ rfl) (fm_cons (hA973.get 5 _ rfl) fm_nil))))
              refine t_norm ?_
              refine wp_block ?_
              have hs975 : Sl intE 1 w957.heap.size w957 v956 [i.index] := own_int (l := [i.index]) ho958
              obtain ⟨L976, hL977⟩ : ∃ L : List Int, L = [i.index] := ⟨_, rfl⟩
              have hn978 : L976.length ≤ 3 := by rw [hL977]; simp
              rw [← hL977] at hs975
              refine loop_by (fun m a' w' => ∃ (j : Nat) (v : Value), m = L976.length - j ∧ j ≤ L976.length ∧ St 59 [(3, v956), (4, v), (5, (.int .i64 ((j : Nat) : Int)))] a' ∧ Below w957.heap.size w957 w' ∧ w'.ownsRow w957.heap.size 3 1 v (useL L976 j).length (paE (useL L976 j))) (L976.length - 0) ⟨0, .slice none 0 0, rfl, Nat.zero_le _, hA974.cut _ (fm_cons (hA974.get 3 _ rfl) (fm_cons (hA974.get 4 _ rfl) (fm_cons (hA974.get 5 _ rfl) fm_nil))), Below.refl _ _, (by rw [show useL L976 0 = [] by simp [useL]]; exact ⟨rfl, .inl ⟨rfl, rfl⟩⟩)⟩ ?_
              rintro m979 a980 w981 ⟨j982, v983, hm984, hj985, hA986, b987, ho988⟩
              have hul := use_len L976 j982
              refine wp_seq ?_
              refine wp_seq ?_
              refine wp_region_lit ?_
              refine q_step hA986 rfl (d_move (wn rfl) (hA986.ev (v := (.int .i64 ((j982 : Nat) : Int))) rfl) ?_)
              intro a989 hA990
              refine q_step hA990 rfl (d_move (wn rfl) (hA990.ev (v := v956) rfl) ?_)
              intro a991 hA992
              refine q_step hA992 rfl (d_len (n := L976.length) (wn rfl) (hA992.ev (v := v956) rfl) slc30 hs975.form ?_)
              intro a993 hA994
              rcases Bool.eq_false_or_eq_true (decide (((j982 : Nat) : Int) < ((L976.length : Nat) : Int))) with hb995 | hb995
              · skip
                have hq996 := of_decide_eq_true hb995
                refine q_step hA994 rfl (d_bin (wn rfl) (hA994.ev (v := (.int .i64 ((j982 : Nat) : Int))) rfl) (hA994.ev (v := (.int .i64 ((L976.length : Nat) : Int))) rfl) (b_lt _ _ ((j982 : Nat) : Int) ((L976.length : Nat) : Int) true _ hb995) ?_)
                intro a997 hA998
                refine q_end ?_
                have hA999 : St 59 [(3, v956), (4, v983), (5, (.int .i64 ((j982 : Nat) : Int))), (40, (.int .i64 ((j982 : Nat) : Int))), (41, v956), (42, (.int .i64 ((L976.length : Nat) : Int))), (43, (.bool true))] a997 := hA998.cut _ (fm_cons (hA998.get 3 _ rfl) (fm_cons (hA998.get 4 _ rfl) (fm_cons (hA998.get 5 _ rfl) (fm_cons (hA998.get 40 _ rfl) (fm_cons (hA998.get 41 _ rfl) (fm_cons (hA998.get 42 _ rfl) (fm_cons (hA998.get 43 _ rfl) fm_nil)))))))
                refine t_norm ?_
                refine c_true hA999 rfl ?_
                refine wp_skip ?_
                refine t_norm ?_
                refine wp_seq ?_
                refine wp_block ?_
                refine wp_seq ?_
                refine wp_region_lit ?_
                refine q_step hA999 rfl (d_move (wn rfl) (hA999.ev (v := v956) rfl) ?_)
                intro a1000 hA1001
                refine q_step hA1001 rfl (d_move (wn rfl) (hA1001.ev (v := (.int .i64 ((j982 : Nat) : Int))) rfl) ?_)
                intro a1002 hA1003
                obtain ⟨y1004, hy1005⟩ : ∃ y1004, L976[j982]? = some y1004 := ⟨_, List.getElem?_eq_getElem (show j982 < L976.length by omega)⟩
                obtain ⟨b1006, o1007, lt1008, hr1009, hix1010⟩ := (hs975.below b987).at hy1005
                refine q_step hA1003 rfl (d_indexAt (j := j982) (wn rfl) (hA1003.ev (v := v956) rfl) (hA1003.ev (v := (.int .i64 ((j982 : Nat) : Int))) rfl) slc30 hix1010 (get_lt hy1005) ?_)
                intro a1011 hA1012
                refine q_step hA1012 rfl (d_load (v := (.int .i64 y1004)) (wn rfl) (hA1012.ev (v := (.pointer (some ⟨b1006, o1007, none⟩))) rfl) one3 (hr1009 0 _ rfl) ?_)
                intro a1013 hA1014
                rcases Bool.eq_false_or_eq_true (y1004 == (-1)) with hb1015 | hb1015
                · skip
                  have hq1016 := eq_of_beq hb1015
                  refine q_step hA1014 rfl (d_bin (wn rfl) (hA1014.ev (v := (.int .i64 y1004)) rfl) (hA1014.ev (v := (.int .i64 (-1))) rfl) (b_ne _ _ y1004 (-1) false _ (notof hb1015)) ?_)
                  intro a1017 hA1018
                  refine q_end ?_
                  have hA1019 : St 59 [(3, v956), (4, v983), (5, (.int .i64 ((j982 : Nat) : Int))), (40, (.int .i64 ((j982 : Nat) : Int))), (41, v956), (42, (.int .i64 ((L976.length : Nat) : Int))), (43, (.bool true)), (46, v956), (47, (.int .i64 ((j982 : Nat) : Int))), (48, (.pointer (some ⟨b1006, o1007, none⟩))), (49, (.int .i64 y1004)), (50, (.bool false))] a1017 := hA1018.cut _ (fm_cons (hA1018.get 3 _ rfl) (fm_cons (hA1018.get 4 _ rfl) (fm_cons (hA1018.get 5 _ rfl) (fm_cons (hA1018.get 40 _ rfl) (fm_cons (hA1018.get 41 _ rfl) (fm_cons (hA1018.get 42 _ rfl) (fm_cons (hA1018.get 43 _ rfl) (fm_cons (hA1018.get 46 _ rfl) (fm_cons (hA1018.get 47 _ rfl) (fm_cons (hA1018.get 48 _ rfl) (fm_cons (hA1018.get 49 _ rfl) (fm_cons (hA1018.get 50 _ rfl) fm_nil))))))))))))
                  refine t_norm ?_
                  refine c_false hA1019 rfl ?_
                  refine wp_skip ?_
                  refine i_norm ?_
                  refine t_norm ?_
                  refine wp_region_lit ?_
                  refine q_step hA1019 rfl (d_move (wn rfl) (hA1019.ev (v := (.int .i64 ((j982 : Nat) : Int))) rfl) ?_)
                  intro a1020 hA1021
                  refine q_step hA1021 rfl (d_bin (wn rfl) (hA1021.ev (v := (.int .i64 ((j982 : Nat) : Int))) rfl) (hA1021.ev (v := (.int .i64 1)) rfl) (b_add _ _ ((j982 : Nat) : Int) 1 _ (by omega) (by omega)) ?_)
                  intro a1022 hA1023
                  refine q_step hA1023 rfl (d_assign (wn rfl) (hA1023.ev (v := (.int .i64 (((j982 : Nat) : Int) + 1))) rfl) ?_)
                  intro a1024 hA1025
                  refine q_end ?_
                  have hA1026 : St 59 [(3, v956), (4, v983), (5, (.int .i64 (((j982 : Nat) : Int) + 1))), (40, (.int .i64 ((j982 : Nat) : Int))), (41, v956), (42, (.int .i64 ((L976.length : Nat) : Int))), (43, (.bool true)), (44, (.int .i64 ((j982 : Nat) : Int))), (45, (.int .i64 (((j982 : Nat) : Int) + 1))), (46, v956), (47, (.int .i64 ((j982 : Nat) : Int))), (48, (.pointer (some ⟨b1006, o1007, none⟩))), (49, (.int .i64 y1004)), (50, (.bool false))] a1024 := hA1025.cut _ (fm_cons (hA1025.get 3 _ rfl) (fm_cons (hA1025.get 4 _ rfl) (fm_cons (hA1025.get 5 _ rfl) (fm_cons (hA1025.get 40 _ rfl) (fm_cons (hA1025.get 41 _ rfl) (fm_cons (hA1025.get 42 _ rfl) (fm_cons (hA1025.get 43 _ rfl) (fm_cons (hA1025.get 44 _ rfl) (fm_cons (hA1025.get 45 _ rfl) (fm_cons (hA1025.get 46 _ rfl) (fm_cons (hA1025.get 47 _ rfl) (fm_cons (hA1025.get 48 _ rfl) (fm_cons (hA1025.get 49 _ rfl) (fm_cons (hA1025.get 50 _ rfl) fm_nil))))))))))))))
                  refine t_norm ?_
                  exact ⟨L976.length - (j982 + 1), (by have := get_lt hy1005; rw [hm984]; omega), j982 + 1, v983, rfl, (by have := get_lt hy1005; omega), hA1026.cut _ (fm_cons (hA1026.get 3 _ rfl) (fm_cons (hA1026.get 4 _ rfl) (fm_cons ((hA1026.get 5 _ rfl).trans (congrArg (Value.int .i64) (by omega))) fm_nil))), b987, (by rw [use_no hy1005 hb1015]; exact ho988)⟩
                · skip
                  have hq1027 := ne_of_beq hb1015
                  refine q_step hA1014 rfl (d_bin (wn rfl) (hA1014.ev (v := (.int .i64 y1004)) rfl) (hA1014.ev (v := (.int .i64 (-1))) rfl) (b_ne _ _ y1004 (-1) true _ (notof hb1015)) ?_)
                  intro a1028 hA1029
                  refine q_end ?_
                  have hA1030 : St 59 [(3, v956), (4, v983), (5, (.int .i64 ((j982 : Nat) : Int))), (40, (.int .i64 ((j982 : Nat) : Int))), (41, v956), (42, (.int .i64 ((L976.length : Nat) : Int))), (43, (.bool true)), (46, v956), (47, (.int .i64 ((j982 : Nat) : Int))), (48, (.pointer (some ⟨b1006, o1007, none⟩))), (49, (.int .i64 y1004)), (50, (.bool true))] a1028 := hA1029.cut _ (fm_cons (hA1029.get 3 _ rfl) (fm_cons (hA1029.get 4 _ rfl) (fm_cons (hA1029.get 5 _ rfl) (fm_cons (hA1029.get 40 _ rfl) (fm_cons (hA1029.get 41 _ rfl) (fm_cons (hA1029.get 42 _ rfl) (fm_cons (hA1029.get 43 _ rfl) (fm_cons (hA1029.get 46 _ rfl) (fm_cons (hA1029.get 47 _ rfl) (fm_cons (hA1029.get 48 _ rfl) (fm_cons (hA1029.get 49 _ rfl) (fm_cons (hA1029.get 50 _ rfl) fm_nil))))))))))))
                  refine t_norm ?_
                  refine c_true hA1030 rfl ?_
                  refine wp_region_lit ?_
                  refine q_step hA1030 rfl (d_move (wn rfl) (hA1030.ev (v := v983) rfl) ?_)
                  intro a1031 hA1032
                  refine q_step hA1032 rfl (d_move (wn rfl) (hA1032.ev (v := v956) rfl) ?_)
                  intro a1033 hA1034
                  refine q_step hA1034 rfl (d_move (wn rfl) (hA1034.ev (v := (.int .i64 ((j982 : Nat) : Int))) rfl) ?_)
                  intro a1035 hA1036
                  refine q_step hA1036 rfl (d_indexAt (j := j982) (wn rfl) (hA1036.ev (v := v956) rfl) (hA1036.ev (v := (.int .i64 ((j982 : Nat) : Int))) rfl) slc30 hix1010 (get_lt hy1005) ?_)
                  intro a1037 hA1038
                  refine q_step hA1038 rfl (d_load (v := (.int .i64 y1004)) (wn rfl) (hA1038.ev (v := (.pointer (some ⟨b1006, o1007, none⟩))) rfl) one3 (hr1009 0 _ rfl) ?_)
                  intro a1039 hA1040
                  refine q_step hA1040 rfl (d_slice1 (wn rfl) (hA1040.ev (v := (.int .i64 y1004)) rfl) elm30 rfl (by decide) ?_)
                  intro g1041 w1042 eg1043 hG1044 (m1045 : Blk w1042 g1041 #[.int .i64 y1004] 3)
                  have ge1046 : w957.heap.size ≤ g1041 := eg1043 ▸ b987.size
                  have off1047 := own_new ho988 eg1043
                  have hr1048 := range_below hr1009 hG1044 (Nat.lt_of_lt_of_le lt1008 b987.size)
                  have b1049 := below_grow b987 hG1044 b987.size
                  have ho1050 := own_grow hG1044 ho988
                  intro a1051 hA1052
                  refine q_step hA1052 rfl (d_append (wn rfl) (hA1052.ev (v := v983) rfl) (hA1052.ev (v := (.slice (some ⟨g1041, 0, none⟩) 1 1)) rfl) elm30 ho1050 m1045 rfl rfl (by omega) (by decide) b1049.size ?_)
                  intro v1053 w1054 ho1055 hg1056 hl1057
                  have b1058 := below_by b1049 hg1056 b1049.size (fun k hk => (own_lt ho1050 k hk).1)
                  intro a1059 hA1060
                  refine q_step hA1060 rfl (d_assign (wn rfl) (hA1060.ev (v := v1053) rfl) ?_)
                  intro a1061 hA1062
                  refine q_end ?_
                  have hA1063 : St 59 [(3, v956), (4, v1053), (5, (.int .i64 ((j982 : Nat) : Int))), (40, (.int .i64 ((j982 : Nat) : Int))), (41, v956), (42, (.int .i64 ((L976.length : Nat) : Int))), (43, (.bool true)), (46, v956), (47, (.int .i64 ((j982 : Nat) : Int))), (48, (.pointer (some ⟨b1006, o1007, none⟩))), (49, (.int .i64 y1004)), (50, (.bool true)), (51, v983), (52, v956), (53, (.int .i64 ((j982 : Nat) : Int))), (54, (.pointer (some ⟨b1006, o1007, none⟩))), (55, (.int .i64 y1004)), (56, (.slice (some ⟨g1041, 0, none⟩) 1 1)), (57, v1053)] a1061 := hA1062.cut _ (fm_cons (hA1062.get 3 _ rfl) (fm_cons (hA1062.get 4 _ rfl) (fm_cons (hA1062.get 5 _ rfl) (fm_cons (hA1062.get 40 _ rfl) (fm_cons (hA1062.get 41 _ rfl) (fm_cons (hA1062.get 42 _ rfl) (fm_cons (hA1062.get 43 _ rfl) (fm_cons (hA1062.get 46 _ rfl) (fm_cons (hA1062.get 47 _ rfl) (fm_cons (hA1062.get 48 _ rfl) (fm_cons (hA1062.get 49 _ rfl) (fm_cons (hA1062.get 50 _ rfl) (fm_cons (hA1062.get 51 _ rfl) (fm_cons (hA1062.get 52 _ rfl) (fm_cons (hA1062.get 53 _ rfl) (fm_cons (hA1062.get 54 _ rfl) (fm_cons (hA1062.get 55 _ rfl) (fm_cons (hA1062.get 56 _ rfl) (fm_cons (hA1062.get 57 _ rfl) fm_nil)))))))))))))))))))
                  refine i_norm ?_
                  refine t_norm ?_
                  refine wp_region_lit ?_
                  refine q_step hA1063 rfl (d_move (wn rfl) (hA1063.ev (v := (.int .i64 ((j982 : Nat) : Int))) rfl) ?_)
                  intro a1064 hA1065
                  refine q_step hA1065 rfl (d_bin (wn rfl) (hA1065.ev (v := (.int .i64 ((j982 : Nat) : Int))) rfl) (hA1065.ev (v := (.int .i64 1)) rfl) (b_add _ _ ((j982 : Nat) : Int) 1 _ (by omega) (by omega)) ?_)
                  intro a1066 hA1067
                  refine q_step hA1067 rfl (d_assign (wn rfl) (hA1067.ev (v := (.int .i64 (((j982 : Nat) : Int) + 1))) rfl) ?_)
                  intro a1068 hA1069
                  refine q_end ?_
                  have hA1070 : St 59 [(3, v956), (4, v1053), (5, (.int .i64 (((j982 : Nat) : Int) + 1))), (40, (.int .i64 ((j982 : Nat) : Int))), (41, v956), (42, (.int .i64 ((L976.length : Nat) : Int))), (43, (.bool true)), (44, (.int .i64 ((j982 : Nat) : Int))), (45, (.int .i64 (((j982 : Nat) : Int) + 1))), (46, v956), (47, (.int .i64 ((j982 : Nat) : Int))), (48, (.pointer (some ⟨b1006, o1007, none⟩))), (49, (.int .i64 y1004)), (50, (.bool true)), (51, v983), (52, v956), (53, (.int .i64 ((j982 : Nat) : Int))), (54, (.pointer (some ⟨b1006, o1007, none⟩))), (55, (.int .i64 y1004)), (56, (.slice (some ⟨g1041, 0, none⟩) 1 1)), (57, v1053)] a1068 := hA1069.cut _ (fm_cons (hA1069.get 3 _ rfl) (fm_cons (hA1069.get 4 _ rfl) (fm_cons (hA1069.get 5 _ rfl) (fm_cons (hA1069.get 40 _ rfl) (fm_cons (hA1069.get 41 _ rfl) (fm_cons (hA1069.get 42 _ rfl) (fm_cons (hA1069.get 43 _ rfl) (fm_cons (hA1069.get 44 _ rfl) (fm_cons (hA1069.get 45 _ rfl) (fm_cons (hA1069.get 46 _ rfl) (fm_cons (hA1069.get 47 _ rfl) (fm_cons (hA1069.get 48 _ rfl) (fm_cons (hA1069.get 49 _ rfl) (fm_cons (hA1069.get 50 _ rfl) (fm_cons (hA1069.get 51 _ rfl) (fm_cons (hA1069.get 52 _ rfl) (fm_cons (hA1069.get 53 _ rfl) (fm_cons (hA1069.get 54 _ rfl) (fm_cons (hA1069.get 55 _ rfl) (fm_cons (hA1069.get 56 _ rfl) (fm_cons (hA1069.get 57 _ rfl) fm_nil)))))))))))))))))))))
                  refine t_norm ?_
                  exact ⟨L976.length - (j982 + 1), (by have := get_lt hy1005; rw [hm984]; omega), j982 + 1, v1053, rfl, (by have := get_lt hy1005; omega), hA1070.cut _ (fm_cons (hA1070.get 3 _ rfl) (fm_cons (hA1070.get 4 _ rfl) (fm_cons ((hA1070.get 5 _ rfl).trans (congrArg (Value.int .i64) (by omega))) fm_nil))), b1058, (by rw [use_yes hy1005 hb1015, List.length_append, ← paE_snoc]; exact ho1055)⟩
              · skip
                have hq1071 := of_decide_eq_false hb995
                refine q_step hA994 rfl (d_bin (wn rfl) (hA994.ev (v := (.int .i64 ((j982 : Nat) : Int))) rfl) (hA994.ev (v := (.int .i64 ((L976.length : Nat) : Int))) rfl) (b_lt _ _ ((j982 : Nat) : Int) ((L976.length : Nat) : Int) false _ hb995) ?_)
                intro a1072 hA1073
                refine q_end ?_
                have hA1074 : St 59 [(3, v956), (4, v983), (5, (.int .i64 ((j982 : Nat) : Int))), (40, (.int .i64 ((j982 : Nat) : Int))), (41, v956), (42, (.int .i64 ((L976.length : Nat) : Int))), (43, (.bool false))] a1072 := hA1073.cut _ (fm_cons (hA1073.get 3 _ rfl) (fm_cons (hA1073.get 4 _ rfl) (fm_cons (hA1073.get 5 _ rfl) (fm_cons (hA1073.get 40 _ rfl) (fm_cons (hA1073.get 41 _ rfl) (fm_cons (hA1073.get 42 _ rfl) (fm_cons (hA1073.get 43 _ rfl) fm_nil)))))))
                refine t_norm ?_
                refine c_false hA1074 rfl ?_
                refine wp_exit ?_
                refine t_exit ?_
                refine t_exit ?_
                refine i_here ?_
                refine t_norm ?_
                refine wp_seq ?_
                refine wp_region_lit ?_
                refine q_step hA1074 rfl (d_move (wn rfl) (hA1074.ev (v := v983) rfl) ?_)
                intro a1075 hA1076
                refine q_step hA1076 rfl (d_assign (wn rfl) (hA1076.ev (v := v983) rfl) ?_)
                intro a1077 hA1078
                refine q_end ?_
                have hA1079 : St 59 [(2, v983)] a1077 := hA1078.cut _ (fm_cons (hA1078.get 2 _ rfl) fm_nil)
                refine t_norm ?_
                refine wp_ret ?_
                refine ret1 rfl hA1079 (v := v983) rfl ?_
                have he1080 : useL L976 j982 = useF i := by rw [use_all (by omega), hL977]; simp [useF, useX, plainF, List.filter_cons, hb23, hb190, hb357, hb556, hb727, hb934]
                exact ⟨_, rfl, Grow.trans b961 b987, (by rw [← he1080]; exact own_le ho988 b961.size)⟩
            · skip
              refine ⟨.bool false, he930.trans (ret_bool hb934), ?_⟩
              intro a1082 hA1083
              refine q_end ?_
              have hA1084 : St 59 [(1, (.pointer (some ⟨g3, 0, none⟩))), (2, (.slice none 0 0)), (3, (.slice none 0 0)), (34, (.bool false))] a1082 := hA1083.cut _ (fm_cons (hA1083.get 1 _ rfl) (fm_cons (hA1083.get 2 _ rfl) (fm_cons (hA1083.get 3 _ rfl) (fm_cons (hA1083.get 34 _ rfl) fm_nil))))
              refine t_norm ?_
              refine c_false hA1084 rfl ?_
              refine wp_skip ?_
              refine t_norm ?_
              refine wp_seq ?_
              refine wp_region_lit ?_
              refine q_step hA1084 rfl (d_assign (wn rfl) (hA1084.ev (v := (.slice none 0 0)) rfl) ?_)
              intro a1085 hA1086
              refine q_end ?_
              have hA1087 : St 59 [(2, (.slice none 0 0)), (3, (.slice none 0 0)), (4, (.slice none 0 0))] a1085 := hA1086.cut _ (fm_cons (hA1086.get 2 _ rfl) (fm_cons (hA1086.get 3 _ rfl) (fm_cons (hA1086.get 4 _ rfl) fm_nil)))
              refine t_norm ?_
              refine wp_seq ?_
              refine wp_seq ?_
              refine wp_region_lit ?_
              refine q_step hA1087 rfl (d_assign (wn rfl) (hA1087.ev (v := (.int .i64 0)) rfl) ?_)
              intro a1088 hA1089
              refine q_end ?_
              have hA1090 : St 59 [(2, (.slice none 0 0)), (3, (.slice none 0 0)), (4, (.slice none 0 0)), (5, (.int .i64 0))] a1088 := hA1089.cut _ (fm_cons (hA1089.get 2 _ rfl) (fm_cons (hA1089.get 3 _ rfl) (fm_cons (hA1089.get 4 _ rfl) (fm_cons (hA1089.get 5 _ rfl) fm_nil))))
              refine t_norm ?_
              refine wp_block ?_
              have hs1091 : Sl intE 1 w928.heap.size w928 (.slice none 0 0) ([] : List Int) := Sl.nil
              obtain ⟨L1092, hL1093⟩ : ∃ L : List Int, L = ([] : List Int) := ⟨_, rfl⟩
              have hn1094 : L1092.length ≤ 3 := by rw [hL1093]; simp
              rw [← hL1093] at hs1091
              refine loop_by (fun m a' w' => ∃ (j : Nat) (v : Value), m = L1092.length - j ∧ j ≤ L1092.length ∧ St 59 [(3, (.slice none 0 0)), (4, v), (5, (.int .i64 ((j : Nat) : Int)))] a' ∧ Below w928.heap.size w928 w' ∧ w'.ownsRow w928.heap.size 3 1 v (useL L1092 j).length (paE (useL L1092 j))) (L1092.length - 0) ⟨0, .slice none 0 0, rfl, Nat.zero_le _, hA1090.cut _ (fm_cons (hA1090.get 3 _ rfl) (fm_cons (hA1090.get 4 _ rfl) (fm_cons (hA1090.get 5 _ rfl) fm_nil))), Below.refl _ _, (by rw [show useL L1092 0 = [] by simp [useL]]; exact ⟨rfl, .inl ⟨rfl, rfl⟩⟩)⟩ ?_
              rintro m1095 a1096 w1097 ⟨j1098, v1099, hm1100, hj1101, hA1102, b1103, ho1104⟩
              have hul := use_len L1092 j1098
              refine wp_seq ?_
              refine wp_seq ?_
              refine wp_region_lit ?_
              refine q_step hA1102 rfl (d_move (wn rfl) (hA1102.ev (v := (.int .i64 ((j1098 : Nat) : Int))) rfl) ?_)
              intro a1105 hA1106
              refine q_step hA1106 rfl (d_move (wn rfl) (hA1106.ev (v := (.slice none 0 0)) rfl) ?_)
              intro a1107 hA1108
              refine q_step hA1108 rfl (d_len (n := L1092.length) (wn rfl) (hA1108.ev (v := (.slice none 0 0)) rfl) slc30 hs1091.form ?_)
              intro a1109 hA1110
              rcases Bool.eq_false_or_eq_true (decide (((j1098 : Nat) : Int) < ((L1092.length : Nat) : Int))) with hb1111 | hb1111
              · skip
                have hq1112 := of_decide_eq_true hb1111
                refine q_step hA1110 rfl (d_bin (wn rfl) (hA1110.ev (v := (.int .i64 ((j1098 : Nat) : Int))) rfl) (hA1110.ev (v := (.int .i64 ((L1092.length : Nat) : Int))) rfl) (b_lt _ _ ((j1098 : Nat) : Int) ((L1092.length : Nat) : Int) true _ hb1111) ?_)
                intro a1113 hA1114
                refine q_end ?_
                have hA1115 : St 59 [(3, (.slice none 0 0)), (4, v1099), (5, (.int .i64 ((j1098 : Nat) : Int))), (40, (.int .i64 ((j1098 : Nat) : Int))), (41, (.slice none 0 0)), (42, (.int .i64 ((L1092.length : Nat) : Int))), (43, (.bool true))] a1113 := hA1114.cut _ (fm_cons (hA1114.get 3 _ rfl) (fm_cons (hA1114.get 4 _ rfl) (fm_cons (hA1114.get 5 _ rfl) (fm_cons (hA1114.get 40 _ rfl) (fm_cons (hA1114.get 41 _ rfl) (fm_cons (hA1114.get 42 _ rfl) (fm_cons (hA1114.get 43 _ rfl) fm_nil)))))))
                refine t_norm ?_
                refine c_true hA1115 rfl ?_
                refine wp_skip ?_
                refine t_norm ?_
                refine wp_seq ?_
                refine wp_block ?_
                refine wp_seq ?_
                refine wp_region_lit ?_
                refine q_step hA1115 rfl (d_move (wn rfl) (hA1115.ev (v := (.slice none 0 0)) rfl) ?_)
                intro a1116 hA1117
                refine q_step hA1117 rfl (d_move (wn rfl) (hA1117.ev (v := (.int .i64 ((j1098 : Nat) : Int))) rfl) ?_)
                intro a1118 hA1119
                obtain ⟨y1120, hy1121⟩ : ∃ y1120, L1092[j1098]? = some y1120 := ⟨_, List.getElem?_eq_getElem (show j1098 < L1092.length by omega)⟩
                obtain ⟨b1122, o1123, lt1124, hr1125, hix1126⟩ := (hs1091.below b1103).at hy1121
                refine q_step hA1119 rfl (d_indexAt (j := j1098) (wn rfl) (hA1119.ev (v := (.slice none 0 0)) rfl) (hA1119.ev (v := (.int .i64 ((j1098 : Nat) : Int))) rfl) slc30 hix1126 (get_lt hy1121) ?_)
                intro a1127 hA1128
                refine q_step hA1128 rfl (d_load (v := (.int .i64 y1120)) (wn rfl) (hA1128.ev (v := (.pointer (some ⟨b1122, o1123, none⟩))) rfl) one3 (hr1125 0 _ rfl) ?_)
                intro a1129 hA1130
                rcases Bool.eq_false_or_eq_true (y1120 == (-1)) with hb1131 | hb1131
                · skip
                  have hq1132 := eq_of_beq hb1131
                  refine q_step hA1130 rfl (d_bin (wn rfl) (hA1130.ev (v := (.int .i64 y1120)) rfl) (hA1130.ev (v := (.int .i64 (-1))) rfl) (b_ne _ _ y1120 (-1) false _ (notof hb1131)) ?_)
                  intro a1133 hA1134
                  refine q_end ?_
                  have hA1135 : St 59 [(3, (.slice none 0 0)), (4, v1099), (5, (.int .i64 ((j1098 : Nat) : Int))), (40, (.int .i64 ((j1098 : Nat) : Int))), (41, (.slice none 0 0)), (42, (.int .i64 ((L1092.length : Nat) : Int))), (43, (.bool true)), (46, (.slice none 0 0)), (47, (.int .i64 ((j1098 : Nat) : Int))), (48, (.pointer (some ⟨b1122, o1123, none⟩))), (49, (.int .i64 y1120)), (50, (.bool false))] a1133 := hA1134.cut _ (fm_cons (hA1134.get 3 _ rfl) (fm_cons (hA1134.get 4 _ rfl) (fm_cons (hA1134.get 5 _ rfl) (fm_cons (hA1134.get 40 _ rfl) (fm_cons (hA1134.get 41 _ rfl) (fm_cons (hA1134.get 42 _ rfl) (fm_cons (hA1134.get 43 _ rfl) (fm_cons (hA1134.get 46 _ rfl) (fm_cons (hA1134.get 47 _ rfl) (fm_cons (hA1134.get 48 _ rfl) (fm_cons (hA1134.get 49 _ rfl) (fm_cons (hA1134.get 50 _ rfl) fm_nil))))))))))))
                  refine t_norm ?_
                  refine c_false hA1135 rfl ?_
                  refine wp_skip ?_
                  refine i_norm ?_
                  refine t_norm ?_
                  refine wp_region_lit ?_
                  refine q_step hA1135 rfl (d_move (wn rfl) (hA1135.ev (v := (.int .i64 ((j1098 : Nat) : Int))) rfl) ?_)
                  intro a1136 hA1137
                  refine q_step hA1137 rfl (d_bin (wn rfl) (hA1137.ev (v := (.int .i64 ((j1098 : Nat) : Int))) rfl) (hA1137.ev (v := (.int .i64 1)) rfl) (b_add _ _ ((j1098 : Nat) : Int) 1 _ (by omega) (by omega)) ?_)
                  intro a1138 hA1139
                  refine q_step hA1139 rfl (d_assign (wn rfl) (hA1139.ev (v := (.int .i64 (((j1098 : Nat) : Int) + 1))) rfl) ?_)
                  intro a1140 hA1141
                  refine q_end ?_
                  have hA1142 : St 59 [(3, (.slice none 0 0)), (4, v1099), (5, (.int .i64 (((j1098 : Nat) : Int) + 1))), (40, (.int .i64 ((j1098 : Nat) : Int))), (41, (.slice none 0 0)), (42, (.int .i64 ((L1092.length : Nat) : Int))), (43, (.bool true)), (44, (.int .i64 ((j1098 : Nat) : Int))), (45, (.int .i64 (((j1098 : Nat) : Int) + 1))), (46, (.slice none 0 0)), (47, (.int .i64 ((j1098 : Nat) : Int))), (48, (.pointer (some ⟨b1122, o1123, none⟩))), (49, (.int .i64 y1120)), (50, (.bool false))] a1140 := hA1141.cut _ (fm_cons (hA1141.get 3 _ rfl) (fm_cons (hA1141.get 4 _ rfl) (fm_cons (hA1141.get 5 _ rfl) (fm_cons (hA1141.get 40 _ rfl) (fm_cons (hA1141.get 41 _ rfl) (fm_cons (hA1141.get 42 _ rfl) (fm_cons (hA1141.get 43 _ rfl) (fm_cons (hA1141.get 44 _ rfl) (fm_cons (hA1141.get 45 _ rfl) (fm_cons (hA1141.get 46 _ rfl) (fm_cons (hA1141.get 47 _ rfl) (fm_cons (hA1141.get 48 _ rfl) (fm_cons (hA1141.get 49 _ rfl) (fm_cons (hA1141.get 50 _ rfl) fm_nil))))))))))))))
                  refine t_norm ?_
                  exact ⟨L1092.length - (j1098 + 1), (by have := get_lt hy1121; rw [hm1100]; omega), j1098 + 1, v1099, rfl, (by have := get_lt hy1121; omega), hA1142.cut _ (fm_cons (hA1142.get 3 _ rfl) (fm_cons (hA1142.get 4 _ rfl) (fm_cons ((hA1142.get 5 _ rfl).trans (congrArg (Value.int .i64) (by omega))) fm_nil))), b1103, (by rw [use_no hy1121 hb1131]; exact ho1104)⟩
                · skip
                  have hq1143 := ne_of_beq hb1131
                  refine q_step hA1130 rfl (d_bin (wn rfl) (hA1130.ev (v := (.int .i64 y1120)) rfl) (hA1130.ev (v := (.int .i64 (-1))) rfl) (b_ne _ _ y1120 (-1) true _ (notof hb1131)) ?_)
                  intro a1144 hA1145
                  refine q_end ?_
                  have hA1146 : St 59 [(3, (.slice none 0 0)), (4, v1099), (5, (.int .i64 ((j1098 : Nat) : Int))), (40, (.int .i64 ((j1098 : Nat) : Int))), (41, (.slice none 0 0)), (42, (.int .i64 ((L1092.length : Nat) : Int))), (43, (.bool true)), (46, (.slice none 0 0)), (47, (.int .i64 ((j1098 : Nat) : Int))), (48, (.pointer (some ⟨b1122, o1123, none⟩))), (49, (.int .i64 y1120)), (50, (.bool true))] a1144 := hA1145.cut _ (fm_cons (hA1145.get 3 _ rfl) (fm_cons (hA1145.get 4 _ rfl) (fm_cons (hA1145.get 5 _ rfl) (fm_cons (hA1145.get 40 _ rfl) (fm_cons (hA1145.get 41 _ rfl) (fm_cons (hA1145.get 42 _ rfl) (fm_cons (hA1145.get 43 _ rfl) (fm_cons (hA1145.get 46 _ rfl) (fm_cons (hA1145.get 47 _ rfl) (fm_cons (hA1145.get 48 _ rfl) (fm_cons (hA1145.get 49 _ rfl) (fm_cons (hA1145.get 50 _ rfl) fm_nil))))))))))))
                  refine t_norm ?_
                  refine c_true hA1146 rfl ?_
                  refine wp_region_lit ?_
                  refine q_step hA1146 rfl (d_move (wn rfl) (hA1146.ev (v := v1099) rfl) ?_)
                  intro a1147 hA1148
                  refine q_step hA1148 rfl (d_move (wn rfl) (hA1148.ev (v := (.slice none 0 0)) rfl) ?_)
                  intro a1149 hA1150
                  refine q_step hA1150 rfl (d_move (wn rfl) (hA1150.ev (v := (.int .i64 ((j1098 : Nat) : Int))) rfl) ?_)
                  intro a1151 hA1152
                  refine q_step hA1152 rfl (d_indexAt (j := j1098) (wn rfl) (hA1152.ev (v := (.slice none 0 0)) rfl) (hA1152.ev (v := (.int .i64 ((j1098 : Nat) : Int))) rfl) slc30 hix1126 (get_lt hy1121) ?_)
                  intro a1153 hA1154
                  refine q_step hA1154 rfl (d_load (v := (.int .i64 y1120)) (wn rfl) (hA1154.ev (v := (.pointer (some ⟨b1122, o1123, none⟩))) rfl) one3 (hr1125 0 _ rfl) ?_)
                  intro a1155 hA1156
                  refine q_step hA1156 rfl (d_slice1 (wn rfl) (hA1156.ev (v := (.int .i64 y1120)) rfl) elm30 rfl (by decide) ?_)
                  intro g1157 w1158 eg1159 hG1160 (m1161 : Blk w1158 g1157 #[.int .i64 y1120] 3)
                  have ge1162 : w928.heap.size ≤ g1157 := eg1159 ▸ b1103.size
                  have off1163 := own_new ho1104 eg1159
                  have hr1164 := range_below hr1125 hG1160 (Nat.lt_of_lt_of_le lt1124 b1103.size)
                  have b1165 := below_grow b1103 hG1160 b1103.size
                  have ho1166 := own_grow hG1160 ho1104
                  intro a1167 hA1168
                  refine q_step hA1168 rfl (d_append (wn rfl) (hA1168.ev (v := v1099) rfl) (hA1168.ev (v := (.slice (some ⟨g1157, 0, none⟩) 1 1)) rfl) elm30 ho1166 m1161 rfl rfl (by omega) (by decide) b1165.size ?_)
                  intro v1169 w1170 ho1171 hg1172 hl1173
                  have b1174 := below_by b1165 hg1172 b1165.size (fun k hk => (own_lt ho1166 k hk).1)
                  intro a1175 hA1176
                  refine q_step hA1176 rfl (d_assign (wn rfl) (hA1176.ev (v := v1169) rfl) ?_)
                  intro a1177 hA1178
                  refine q_end ?_
                  have hA1179 : St 59 [(3, (.slice none 0 0)), (4, v1169), (5, (.int .i64 ((j1098 : Nat) : Int))), (40, (.int .i64 ((j1098 : Nat) : Int))), (41, (.slice none 0 0)), (42, (.int .i64 ((L1092.length : Nat) : Int))), (43, (.bool true)), (46, (.slice none 0 0)), (47, (.int .i64 ((j1098 : Nat) : Int))), (48, (.pointer (some ⟨b1122, o1123, none⟩))), (49, (.int .i64 y1120)), (50, (.bool true)), (51, v1099), (52, (.slice none 0 0)), (53, (.int .i64 ((j1098 : Nat) : Int))), (54, (.pointer (some ⟨b1122, o1123, none⟩))), (55, (.int .i64 y1120)), (56, (.slice (some ⟨g1157, 0, none⟩) 1 1)), (57, v1169)] a1177 := hA1178.cut _ (fm_cons (hA1178.get 3 _ rfl) (fm_cons (hA1178.get 4 _ rfl) (fm_cons (hA1178.get 5 _ rfl) (fm_cons (hA1178.get 40 _ rfl) (fm_cons (hA1178.get 41 _ rfl) (fm_cons (hA1178.get 42 _ rfl) (fm_cons (hA1178.get 43 _ rfl) (fm_cons (hA1178.get 46 _ rfl) (fm_cons (hA1178.get 47 _ rfl) (fm_cons (hA1178.get 48 _ rfl) (fm_cons (hA1178.get 49 _ rfl) (fm_cons (hA1178.get 50 _ rfl) (fm_cons (hA1178.get 51 _ rfl) (fm_cons (hA1178.get 52 _ rfl) (fm_cons (hA1178.get 53 _ rfl) (fm_cons (hA1178.get 54 _ rfl) (fm_cons (hA1178.get 55 _ rfl) (fm_cons (hA1178.get 56 _ rfl) (fm_cons (hA1178.get 57 _ rfl) fm_nil)))))))))))))))))))
                  refine i_norm ?_
                  refine t_norm ?_
                  refine wp_region_lit ?_
                  refine q_step hA1179 rfl (d_move (wn rfl) (hA1179.ev (v := (.int .i64 ((j1098 : Nat) : Int))) rfl) ?_)
                  intro a1180 hA1181
                  refine q_step hA1181 rfl (d_bin (wn rfl) (hA1181.ev (v := (.int .i64 ((j1098 : Nat) : Int))) rfl) (hA1181.ev (v := (.int .i64 1)) rfl) (b_add _ _ ((j1098 : Nat) : Int) 1 _ (by omega) (by omega)) ?_)
                  intro a1182 hA1183
                  refine q_step hA1183 rfl (d_assign (wn rfl) (hA1183.ev (v := (.int .i64 (((j1098 : Nat) : Int) + 1))) rfl) ?_)
                  intro a1184 hA1185
                  refine q_end ?_
                  have hA1186 : St 59 [(3, (.slice none 0 0)), (4, v1169), (5, (.int .i64 (((j1098 : Nat) : Int) + 1))), (40, (.int .i64 ((j1098 : Nat) : Int))), (41, (.slice none 0 0)), (42, (.int .i64 ((L1092.length : Nat) : Int))), (43, (.bool true)), (44, (.int .i64 ((j1098 : Nat) : Int))), (45, (.int .i64 (((j1098 : Nat) : Int) + 1))), (46, (.slice none 0 0)), (47, (.int .i64 ((j1098 : Nat) : Int))), (48, (.pointer (some ⟨b1122, o1123, none⟩))), (49, (.int .i64 y1120)), (50, (.bool true)), (51, v1099), (52, (.slice none 0 0)), (53, (.int .i64 ((j1098 : Nat) : Int))), (54, (.pointer (some ⟨b1122, o1123, none⟩))), (55, (.int .i64 y1120)), (56, (.slice (some ⟨g1157, 0, none⟩) 1 1)), (57, v1169)] a1184 := hA1185.cut _ (fm_cons (hA1185.get 3 _ rfl) (fm_cons (hA1185.get 4 _ rfl) (fm_cons (hA1185.get 5 _ rfl) (fm_cons (hA1185.get 40 _ rfl) (fm_cons (hA1185.get 41 _ rfl) (fm_cons (hA1185.get 42 _ rfl) (fm_cons (hA1185.get 43 _ rfl) (fm_cons (hA1185.get 44 _ rfl) (fm_cons (hA1185.get 45 _ rfl) (fm_cons (hA1185.get 46 _ rfl) (fm_cons (hA1185.get 47 _ rfl) (fm_cons (hA1185.get 48 _ rfl) (fm_cons (hA1185.get 49 _ rfl) (fm_cons (hA1185.get 50 _ rfl) (fm_cons (hA1185.get 51 _ rfl) (fm_cons (hA1185.get 52 _ rfl) (fm_cons (hA1185.get 53 _ rfl) (fm_cons (hA1185.get 54 _ rfl) (fm_cons (hA1185.get 55 _ rfl) (fm_cons (hA1185.get 56 _ rfl) (fm_cons (hA1185.get 57 _ rfl) fm_nil)))))))))))))))))))))
                  refine t_norm ?_
                  exact ⟨L1092.length - (j1098 + 1), (by have := get_lt hy1121; rw [hm1100]; omega), j1098 + 1, v1169, rfl, (by have := get_lt hy1121; omega), hA1186.cut _ (fm_cons (hA1186.get 3 _ rfl) (fm_cons (hA1186.get 4 _ rfl) (fm_cons ((hA1186.get 5 _ rfl).trans (congrArg (Value.int .i64) (by omega))) fm_nil))), b1174, (by rw [use_yes hy1121 hb1131, List.length_append, ← paE_snoc]; exact ho1171)⟩
              · skip
                have hq1187 := of_decide_eq_false hb1111
                refine q_step hA1110 rfl (d_bin (wn rfl) (hA1110.ev (v := (.int .i64 ((j1098 : Nat) : Int))) rfl) (hA1110.ev (v := (.int .i64 ((L1092.length : Nat) : Int))) rfl) (b_lt _ _ ((j1098 : Nat) : Int) ((L1092.length : Nat) : Int) false _ hb1111) ?_)
                intro a1188 hA1189
                refine q_end ?_
                have hA1190 : St 59 [(3, (.slice none 0 0)), (4, v1099), (5, (.int .i64 ((j1098 : Nat) : Int))), (40, (.int .i64 ((j1098 : Nat) : Int))), (41, (.slice none 0 0)), (42, (.int .i64 ((L1092.length : Nat) : Int))), (43, (.bool false))] a1188 := hA1189.cut _ (fm_cons (hA1189.get 3 _ rfl) (fm_cons (hA1189.get 4 _ rfl) (fm_cons (hA1189.get 5 _ rfl) (fm_cons (hA1189.get 40 _ rfl) (fm_cons (hA1189.get 41 _ rfl) (fm_cons (hA1189.get 42 _ rfl) (fm_cons (hA1189.get 43 _ rfl) fm_nil)))))))
                refine t_norm ?_
                refine c_false hA1190 rfl ?_
                refine wp_exit ?_
                refine t_exit ?_
                refine t_exit ?_
                refine i_here ?_
                refine t_norm ?_
                refine wp_seq ?_
                refine wp_region_lit ?_
                refine q_step hA1190 rfl (d_move (wn rfl) (hA1190.ev (v := v1099) rfl) ?_)
                intro a1191 hA1192
                refine q_step hA1192 rfl (d_assign (wn rfl) (hA1192.ev (v := v1099) rfl) ?_)
                intro a1193 hA1194
                refine q_end ?_
                have hA1195 : St 59 [(2, v1099)] a1193 := hA1194.cut _ (fm_cons (hA1194.get 2 _ rfl) fm_nil)
                refine t_norm ?_
                refine wp_ret ?_
                refine ret1 rfl hA1195 (v := v1099) rfl ?_
                have he1196 : useL L1092 j1098 = useF i := by rw [use_all (by omega), hL1093]; simp [useF, useX, plainF, List.filter_cons, hb23, hb190, hb357, hb556, hb727, hb934]
                exact ⟨_, rfl, Grow.trans b933 b1103, (by rw [← he1196]; exact own_le ho1104 b933.size)⟩
end Go.Proofs.Ytlhompedcphnnaa
