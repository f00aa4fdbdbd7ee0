/- Contracts of functions on single instructions. -/
import Derived.Test.YtlhompedcphnnaaUirLocalP6
namespace Go.Proofs.Ytlhompedcphnnaa
open Go.RowKit
set_option linter.unusedSimpArgs false
set_option linter.unusedVariables false
set_option maxHeartbeats 4000000 in
set_option maxRecDepth 4000 in
theorem bare_any (i : Ins) (w : World) : Calls Try.prog 31 #[.agg (insC i)] w fun e w' => e = .returned (.tuple #[.agg (insC (bareF i)), .bool (fineB i)]) ∧ Grow w w' := by
 have b0 : Below w.heap.size w w := Below.refl _ _
 refine enter (n := 192) Try.func31 rfl rfl (Nat.le_of_ble_eq_true rfl) ?_
 intro a1 hA2
 refine wp_seq ?_
 refine wp_region_lit ?_
 refine qs hA2 rfl (d_box (wn rfl) (hA2.ev rfl) ?_)
 intro g3 w4 eg5 hG6 (m7 : Blk w4 g3 (insC i) 23)
 have ge8 : w.heap.size ≤ g3 := eg5 ▸ b0.size
 have b9 := blg b0 hG6 b0.size
 intro a10 hA11
 refine qs hA11 rfl (dal (wn rfl) zero23 ?_)
 intro g12 w13 eg14 hG15 (m16 : Blk w13 g12 #[.int .i64 0, .int .i64 0, .int .i64 0, .int .i64 0, .int .i64 0, .int .i64 0, .int .i64 0, .int .i64 0, .int .i64 0, .int .i64 0, .bool false, .bool false, .bool false, .int .i64 0, .int .i64 0, .int .i64 0, .bool false] 23)
 have ge17 : w.heap.size ≤ g12 := eg14 ▸ b9.size
 have n18 : g3 ≠ g12 := fun h => Nat.lt_irrefl _ ((h.trans eg14) ▸ m7.lt)
 have m19 := m7.grow hG15
 have b20 := blg b9 hG15 b9.size
 intro a21 hA22
 refine qs hA22 rfl (das (wn rfl) (hA22.ev rfl) ?_)
 intro a23 hA24
 refine qe_ ?_
 refine tn_ ?_
 refine wp_seq ?_
 refine wp_region_lit ?_
 refine qs hA24 rfl (dlr (cs := (insC i)) (wn rfl) (hA24.ev rfl) row23 m19 ?_)
 intro a25 hA26
 refine qs hA26 rfl (dal (wn rfl) zero23 ?_)
 intro g27 w28 eg29 hG30 (m31 : Blk w28 g27 #[.int .i64 0, .int .i64 0, .int .i64 0, .int .i64 0, .int .i64 0, .int .i64 0, .int .i64 0, .int .i64 0, .int .i64 0, .int .i64 0, .bool false, .bool false, .bool false, .int .i64 0, .int .i64 0, .int .i64 0, .bool false] 23)
 have ge32 : w.heap.size ≤ g27 := eg29 ▸ b20.size
 have n33 : g3 ≠ g27 := fun h => Nat.lt_irrefl _ ((h.trans eg29) ▸ m19.lt)
 have n34 : g12 ≠ g27 := fun h => Nat.lt_irrefl _ ((h.trans eg29) ▸ m16.lt)
 have m35 := m19.grow hG30
 have m36 := m16.grow hG30
 have b37 := blg b20 hG30 b20.size
 intro a38 hA39
 refine qs hA39 rfl (dsr (wn rfl) (hA39.ev rfl) (hA39.ev rfl) row23 m31 rfl rfl ?_)
 intro w40 hU41 (m42 : Blk w40 g27 (insC i) 23)
 have m43 := m35.upd hU41 n33
 have m44 := m36.upd hU41 n34
 have b45 := hU41.below b37 ge32
 intro a46 hA47
 refine qe_ ?_
 refine tn_ ?_
 refine wp_seq ?_
 refine wp_region_lit ?_
 refine qs hA47 rfl (das (wn rfl) (hA47.ev rfl) ?_)
 intro a48 hA49
 refine qe_ ?_
 refine tn_ ?_
 refine wp_seq ?_
 refine wp_region_lit ?_
 refine qs hA49 rfl (dfa (wn rfl) (hA49.ev rfl) fo23_0 ?_)
 intro a50 hA51
 refine qs hA51 rfl (dst_ (wn rfl) (hA51.ev rfl) (hA51.ev rfl) one3 rfl m42 (Nat.le_of_ble_eq_true rfl) ?_)
 intro w52 hU53 (m54 : Blk w52 g27 #[.int .i64 0, .int .i64 i.dst, .int .i64 i.a, .int .i64 i.b, .int .i64 i.imm, .int .i64 i.loc, .int .i64 i.off, .int .i64 i.index, .int .i64 i.size, .int .i64 i.fn, .bool i.acq, .bool i.weak, .bool i.rel, .int .i64 i.pred, .int .i64 i.succ, .int .i64 i.to, .bool i.zero] 23)
 have m55 := m43.upd hU53 n33
 have m56 := m44.upd hU53 n34
 have b57 := hU53.below b45 ge32
 intro a58 hA59
 refine qe_ ?_
 refine tn_ ?_
 refine wp_seq ?_
 refine wp_seq ?_
 refine wp_region_lit ?_
 refine qs hA59 rfl (dfa (wn rfl) (hA59.ev rfl) fo23_0 ?_)
 intro a60 hA61
 refine qs hA61 rfl (dld (v := (.int .i64 i.op)) (wn rfl) (hA61.ev rfl) one3 (m55.cell rfl) ?_)
 intro a62 hA63
 refine qe_ ?_
 refine tn_ ?_
 refine wp_block ?_
 refine wp_seq ?_
 refine wp_region_lit ?_
 rcases Bool.eq_false_or_eq_true (i.op == 1) with hb64 | hb64
 ·skip
  have hq65 := eq_of_beq hb64
  refine qs hA63 rfl (dbn (wn rfl) (hA63.ev rfl) (hA63.ev rfl) (b_eq _ _ i.op 1 true _ hb64) ?_)
  intro a66 hA67
  refine qs hA67 rfl (das (wn rfl) (hA67.ev rfl) ?_)
  intro a68 hA69
  refine qe_ ?_
  refine tn_ ?_
  refine c_true hA69 rfl ?_
  refine wp_seq ?_
  refine jwp (K := fun a70 w71 => St 192 [(1, (.pointer (some ⟨g3, 0, none⟩))), (2, (.pointer (some ⟨g12, 0, none⟩))), (3, (.bool false)), (4, (.pointer (some ⟨g27, 0, none⟩))), (5, (.bool (regB i.dst)))] a70 ∧ Below w.heap.size w w71 ∧ Blk w71 g3 (insC i) 23 ∧ Blk w71 g12 #[.int .i64 0, .int .i64 0, .int .i64 0, .int .i64 0, .int .i64 0, .int .i64 0, .int .i64 0, .int .i64 0, .int .i64 0, .int .i64 0, .bool false, .bool false, .bool false, .int .i64 0, .int .i64 0, .int .i64 0, .bool false] 23 ∧ Blk w71 g27 #[.int .i64 0, .int .i64 i.dst, .int .i64 i.a, .int .i64 i.b, .int .i64 i.imm, .int .i64 i.loc, .int .i64 i.off, .int .i64 i.index, .int .i64 i.size, .int .i64 i.fn, .bool i.acq, .bool i.weak, .bool i.rel, .int .i64 i.pred, .int .i64 i.succ, .int .i64 i.to, .bool i.zero] 23) ?_ ?_
  ·skip
   refine wp_region_lit ?_
   refine qs hA69 rfl (dfa (wn rfl) (hA69.ev rfl) fo23_1 ?_)
   intro a72 hA73
   refine qs hA73 rfl (dld (v := (.int .i64 i.dst)) (wn rfl) (hA73.ev rfl) one3 (m55.cell rfl) ?_)
   intro a74 hA75
   refine qs hA75 rfl (dcl (wn rfl) ent44 (map1 (hA75.ev rfl)) (rreg_any i.dst w52) ?_)
   rintro e79 w76 ⟨he78, hG77⟩
   have m80 := m55.grow hG77
   have m81 := m56.grow hG77
   have m82 := m54.grow hG77
   have b83 := blg b57 hG77 b57.size
   rcases Bool.eq_false_or_eq_true (regB i.dst) with hb84 | hb84
   ·skip
    refine ⟨.bool true, he78.trans (ret_bool hb84), ?_⟩
    intro a86 hA87
    refine qs hA87 rfl (das (wn rfl) (hA87.ev rfl) ?_)
    intro a88 hA89
    refine qe_ ?_
    exact ⟨hA89.cut _ (fc (hA89.get 1 _ rfl) (fc (hA89.get 2 _ rfl) (fc (hA89.get 3 _ rfl) (fc (hA89.get 4 _ rfl) (fc ((hA89.get 5 _ rfl).trans (congrArg Value.bool (by simp [hb84]))) fn_))))), b83, m80, m81, m82⟩
   refine ⟨.bool false, he78.trans (ret_bool hb84), ?_⟩
   intro a91 hA92
   refine qs hA92 rfl (das (wn rfl) (hA92.ev rfl) ?_)
   intro a93 hA94
   refine qe_ ?_
   exact ⟨hA94.cut _ (fc (hA94.get 1 _ rfl) (fc (hA94.get 2 _ rfl) (fc (hA94.get 3 _ rfl) (fc (hA94.get 4 _ rfl) (fc ((hA94.get 5 _ rfl).trans (congrArg Value.bool (by simp [hb84]))) fn_))))), b83, m80, m81, m82⟩
  rintro a70 w71 ⟨hA95, b96, m97, m98, m99⟩
  refine tn_ ?_
  refine wp_seq ?_
  refine wp_region_lit ?_
  refine qs hA95 rfl (dfa (wn rfl) (hA95.ev rfl) fo23_1 ?_)
  intro a100 hA101
  refine qs hA101 rfl (dst_ (wn rfl) (hA101.ev rfl) (hA101.ev rfl) one3 rfl m99 (Nat.le_of_ble_eq_true rfl) ?_)
  intro w102 hU103 (m104 : Blk w102 g27 #[.int .i64 0, .int .i64 (-1), .int .i64 i.a, .int .i64 i.b, .int .i64 i.imm, .int .i64 i.loc, .int .i64 i.off, .int .i64 i.index, .int .i64 i.size, .int .i64 i.fn, .bool i.acq, .bool i.weak, .bool i.rel, .int .i64 i.pred, .int .i64 i.succ, .int .i64 i.to, .bool i.zero] 23)
  have m105 := m97.upd hU103 n33
  have m106 := m98.upd hU103 n34
  have b107 := hU103.below b96 ge32
  intro a108 hA109
  refine qe_ ?_
  refine tn_ ?_
  refine wp_region_lit ?_
  refine qs hA109 rfl (dfa (wn rfl) (hA109.ev rfl) fo23_4 ?_)
  intro a110 hA111
  refine qs hA111 rfl (dst_ (wn rfl) (hA111.ev rfl) (hA111.ev rfl) one3 rfl m104 (Nat.le_of_ble_eq_true rfl) ?_)
  intro w112 hU113 (m114 : Blk w112 g27 #[.int .i64 0, .int .i64 (-1), .int .i64 i.a, .int .i64 i.b, .int .i64 0, .int .i64 i.loc, .int .i64 i.off, .int .i64 i.index, .int .i64 i.size, .int .i64 i.fn, .bool i.acq, .bool i.weak, .bool i.rel, .int .i64 i.pred, .int .i64 i.succ, .int .i64 i.to, .bool i.zero] 23)
  have m115 := m105.upd hU113 n33
  have m116 := m106.upd hU113 n34
  have b117 := hU113.below b107 ge32
  intro a118 hA119
  refine qe_ ?_
  refine i_norm ?_
  refine tn_ ?_
  refine wp_seq ?_
  refine wp_seq ?_
  refine wp_region_lit ?_
  refine qs hA119 rfl (dfa (wn rfl) (hA119.ev rfl) fo23_0 ?_)
  intro a120 hA121
  refine qs hA121 rfl (dld (v := (.int .i64 i.op)) (wn rfl) (hA121.ev rfl) one3 (m115.cell rfl) ?_)
  intro a122 hA123
  refine qs hA123 rfl (dbn (wn rfl) (hA123.ev rfl) (hA123.ev rfl) (b_eq _ _ i.op 4 false _ (by rw [eq_of_beq hb64]; rfl)) ?_)
  intro a124 hA125
  refine qs hA125 rfl (dmv (wn rfl) (hA125.ev rfl) ?_)
  intro a126 hA127
  refine qs hA127 rfl (dfa (wy rfl rfl (hA127.get 176 _ rfl)) (hA127.ev rfl) fo23_0 ?_)
  intro a128 hA129
  refine qs hA129 rfl (dld (v := (.int .i64 i.op)) (wy rfl rfl (hA129.get 176 _ rfl)) (hA129.ev rfl) one3 (m115.cell rfl) ?_)
  intro a130 hA131
  refine qs hA131 rfl (dbn (wy rfl rfl (hA131.get 176 _ rfl)) (hA131.ev rfl) (hA131.ev rfl) (b_eq _ _ i.op 5 false _ (by rw [eq_of_beq hb64]; rfl)) ?_)
  intro a132 hA133
  refine qs hA133 rfl (dpf (wn rfl) (hA133.ev rfl) (hA133.ev rfl) ?_)
  intro a134 hA135
  refine qs hA135 rfl (dmv (wn rfl) (hA135.ev rfl) ?_)
  intro a136 hA137
  refine qs hA137 rfl (dfa (wy rfl rfl (hA137.get 181 _ rfl)) (hA137.ev rfl) fo23_0 ?_)
  intro a138 hA139
  refine qs hA139 rfl (dld (v := (.int .i64 i.op)) (wy rfl rfl (hA139.get 181 _ rfl)) (hA139.ev rfl) one3 (m115.cell rfl) ?_)
  intro a140 hA141
  refine qs hA141 rfl (dbn (wy rfl rfl (hA141.get 181 _ rfl)) (hA141.ev rfl) (hA141.ev rfl) (b_eq _ _ i.op 6 false _ (by rw [eq_of_beq hb64]; rfl)) ?_)
  intro a142 hA143
  refine qs hA143 rfl (dpf (wn rfl) (hA143.ev rfl) (hA143.ev rfl) ?_)
  intro a144 hA145
  refine qe_ ?_
  refine tn_ ?_
  refine c_false hA145 rfl ?_
  refine wp_skip ?_
  refine tn_ ?_
  refine wp_seq ?_
  refine wp_region_lit ?_
  refine qs hA145 rfl (dlr (cs := #[.int .i64 0, .int .i64 (-1), .int .i64 i.a, .int .i64 i.b, .int .i64 0, .int .i64 i.loc, .int .i64 i.off, .int .i64 i.index, .int .i64 i.size, .int .i64 i.fn, .bool i.acq, .bool i.weak, .bool i.rel, .int .i64 i.pred, .int .i64 i.succ, .int .i64 i.to, .bool i.zero]) (wn rfl) (hA145.ev rfl) row23 m114 ?_)
  intro a146 hA147
  refine qs hA147 rfl (dmv (wn rfl) (hA147.ev rfl) ?_)
  intro a148 hA149
  refine qs hA149 rfl (dsr (wn rfl) (hA149.ev rfl) (hA149.ev rfl) row23 m116 rfl rfl ?_)
  intro w150 hU151 (m152 : Blk w150 g12 #[.int .i64 0, .int .i64 (-1), .int .i64 i.a, .int .i64 i.b, .int .i64 0, .int .i64 i.loc, .int .i64 i.off, .int .i64 i.index, .int .i64 i.size, .int .i64 i.fn, .bool i.acq, .bool i.weak, .bool i.rel, .int .i64 i.pred, .int .i64 i.succ, .int .i64 i.to, .bool i.zero] 23)
  have m153 := m115.upd hU151 n18
  have m154 := m114.upd hU151 (Ne.symm n34)
  have b155 := hU151.below b117 ge17
  intro a156 hA157
  refine qs hA157 rfl (das (wn rfl) (hA157.ev rfl) ?_)
  intro a158 hA159
  refine qe_ ?_
  refine tn_ ?_
  refine wp_ret ?_
  refine retCT (g := g12) (cs := #[.int .i64 0, .int .i64 (-1), .int .i64 i.a, .int .i64 i.b, .int .i64 0, .int .i64 i.loc, .int .i64 i.off, .int .i64 i.index, .int .i64 i.size, .int .i64 i.fn, .bool i.acq, .bool i.weak, .bool i.rel, .int .i64 i.pred, .int .i64 i.succ, .int .i64 i.to, .bool i.zero]) (v := (.bool (regB i.dst))) rfl hA159 rfl rfl m152 row23 ?_
  exact ⟨ret_two (by simp [insC, bareF, opB, rdB, wrB, eq_of_beq hb64]) (by first | (simp [fineB, eq_of_beq hb64, Bool.or_assoc, Bool.and_assoc]; done) | (rw [Bool.eq_iff_iff]; simp [fineB, eq_of_beq hb64]; done) | (rw [Bool.eq_iff_iff]; simp [fineB, eq_of_beq hb64]; omega) | grind), b155⟩
 have hq160 := ne_of_beq hb64
 refine qs hA63 rfl (dbn (wn rfl) (hA63.ev rfl) (hA63.ev rfl) (b_eq _ _ i.op 1 false _ hb64) ?_)
 intro a161 hA162
 refine qs hA162 rfl (das (wn rfl) (hA162.ev rfl) ?_)
 intro a163 hA164
 refine qe_ ?_
 refine tn_ ?_
 refine c_false hA164 rfl ?_
 refine wp_seq ?_
 refine wp_region_lit ?_
 rcases Bool.eq_false_or_eq_true (i.op == 2) with hb165 | hb165
 ·skip
  have hq166 := eq_of_beq hb165
  refine qs hA164 rfl (dbn (wn rfl) (hA164.ev rfl) (hA164.ev rfl) (b_eq _ _ i.op 2 true _ hb165) ?_)
  intro a167 hA168
  refine qs hA168 rfl (das (wn rfl) (hA168.ev rfl) ?_)
  intro a169 hA170
  refine qe_ ?_
  refine tn_ ?_
  refine c_true hA170 rfl ?_
  refine wp_seq ?_
  refine jwp (K := fun a171 w172 => St 192 [(1, (.pointer (some ⟨g3, 0, none⟩))), (2, (.pointer (some ⟨g12, 0, none⟩))), (3, (.bool false)), (4, (.pointer (some ⟨g27, 0, none⟩))), (5, (.bool ((regB i.dst) && (regB i.a))))] a171 ∧ Below w.heap.size w w172 ∧ Blk w172 g3 (insC i) 23 ∧ Blk w172 g12 #[.int .i64 0, .int .i64 0, .int .i64 0, .int .i64 0, .int .i64 0, .int .i64 0, .int .i64 0, .int .i64 0, .int .i64 0, .int .i64 0, .bool false, .bool false, .bool false, .int .i64 0, .int .i64 0, .int .i64 0, .bool false] 23 ∧ Blk w172 g27 #[.int .i64 0, .int .i64 i.dst, .int .i64 i.a, .int .i64 i.b, .int .i64 i.imm, .int .i64 i.loc, .int .i64 i.off, .int .i64 i.index, .int .i64 i.size, .int .i64 i.fn, .bool i.acq, .bool i.weak, .bool i.rel, .int .i64 i.pred, .int .i64 i.succ, .int .i64 i.to, .bool i.zero] 23) ?_ ?_
  ·skip
   refine wp_region_lit ?_
   refine qs hA170 rfl (dfa (wn rfl) (hA170.ev rfl) fo23_1 ?_)
   intro a173 hA174
   refine qs hA174 rfl (dld (v := (.int .i64 i.dst)) (wn rfl) (hA174.ev rfl) one3 (m55.cell rfl) ?_)
   intro a175 hA176
   refine qs hA176 rfl (dcl (wn rfl) ent44 (map1 (hA176.ev rfl)) (rreg_any i.dst w52) ?_)
   rintro e180 w177 ⟨he179, hG178⟩
   have m181 := m55.grow hG178
   have m182 := m56.grow hG178
   have m183 := m54.grow hG178
   have b184 := blg b57 hG178 b57.size
   rcases Bool.eq_false_or_eq_true (regB i.dst) with hb185 | hb185
   ·skip
    refine ⟨.bool true, he179.trans (ret_bool hb185), ?_⟩
    intro a187 hA188
    refine qs hA188 rfl (dmv (wn rfl) (hA188.ev rfl) ?_)
    intro a189 hA190
    refine qs hA190 rfl (dfa (wy rfl rfl (hA190.get 22 _ rfl)) (hA190.ev rfl) fo23_2 ?_)
    intro a191 hA192
    refine qs hA192 rfl (dld (v := (.int .i64 i.a)) (wy rfl rfl (hA192.get 22 _ rfl)) (hA192.ev rfl) one3 (m181.cell rfl) ?_)
    intro a193 hA194
    refine qs hA194 rfl (dcl (wy rfl rfl (hA194.get 22 _ rfl)) ent44 (map1 (hA194.ev rfl)) (rreg_any i.a w177) ?_)
    rintro e198 w195 ⟨he197, hG196⟩
    have m199 := m181.grow hG196
    have m200 := m182.grow hG196
    have m201 := m183.grow hG196
    have b202 := blg b184 hG196 b184.size
    rcases Bool.eq_false_or_eq_true (regB i.a) with hb203 | hb203
    ·skip
     refine ⟨.bool true, he197.trans (ret_bool hb203), ?_⟩
     intro a205 hA206
     refine qs hA206 rfl (dpt (wn rfl) (hA206.ev rfl) (hA206.ev rfl) ?_)
     intro a207 hA208
     refine qs hA208 rfl (das (wn rfl) (hA208.ev rfl) ?_)
     intro a209 hA210
     refine qe_ ?_
     exact ⟨hA210.cut _ (fc (hA210.get 1 _ rfl) (fc (hA210.get 2 _ rfl) (fc (hA210.get 3 _ rfl) (fc (hA210.get 4 _ rfl) (fc ((hA210.get 5 _ rfl).trans (congrArg Value.bool (by simp [hb185, hb203]))) fn_))))), b202, m199, m200, m201⟩
    refine ⟨.bool false, he197.trans (ret_bool hb203), ?_⟩
    intro a212 hA213
    refine qs hA213 rfl (dpt (wn rfl) (hA213.ev rfl) (hA213.ev rfl) ?_)
    intro a214 hA215
    refine qs hA215 rfl (das (wn rfl) (hA215.ev rfl) ?_)
    intro a216 hA217
    refine qe_ ?_
    exact ⟨hA217.cut _ (fc (hA217.get 1 _ rfl) (fc (hA217.get 2 _ rfl) (fc (hA217.get 3 _ rfl) (fc (hA217.get 4 _ rfl) (fc ((hA217.get 5 _ rfl).trans (congrArg Value.bool (by simp [hb185, hb203]))) fn_))))), b202, m199, m200, m201⟩
   refine ⟨.bool false, he179.trans (ret_bool hb185), ?_⟩
   intro a219 hA220
   refine qs hA220 rfl (dmv (wn rfl) (hA220.ev rfl) ?_)
   intro a221 hA222
   refine qs hA222 rfl (dno (wno rfl rfl (.inl (hA222.get 22 _ rfl))) ?_)
   intro a223 hA224
   refine qs hA224 rfl (dno (wno rfl rfl (.inl (hA224.get 22 _ rfl))) ?_)
   intro a225 hA226
   refine qs hA226 rfl (dno (wno rfl rfl (.inl (hA226.get 22 _ rfl))) ?_)
   intro a227 hA228
   refine qs hA228 rfl (dpf (wn rfl) (hA228.ev rfl) (hA228.ev rfl) ?_)
   intro a229 hA230
   refine qs hA230 rfl (das (wn rfl) (hA230.ev rfl) ?_)
   intro a231 hA232
   refine qe_ ?_
   exact ⟨hA232.cut _ (fc (hA232.get 1 _ rfl) (fc (hA232.get 2 _ rfl) (fc (hA232.get 3 _ rfl) (fc (hA232.get 4 _ rfl) (fc ((hA232.get 5 _ rfl).trans (congrArg Value.bool (by simp [hb185]))) fn_))))), b184, m181, m182, m183⟩
  rintro a171 w172 ⟨hA233, b234, m235, m236, m237⟩
  refine tn_ ?_
  refine wp_seq ?_
  refine wp_region_lit ?_
  refine qs hA233 rfl (dfa (wn rfl) (hA233.ev rfl) fo23_1 ?_)
  intro a238 hA239
  refine qs hA239 rfl (dst_ (wn rfl) (hA239.ev rfl) (hA239.ev rfl) one3 rfl m237 (Nat.le_of_ble_eq_true rfl) ?_)
  intro w240 hU241 (m242 : Blk w240 g27 #[.int .i64 0, .int .i64 (-1), .int .i64 i.a, .int .i64 i.b, .int .i64 i.imm, .int .i64 i.loc, .int .i64 i.off, .int .i64 i.index, .int .i64 i.size, .int .i64 i.fn, .bool i.acq, .bool i.weak, .bool i.rel, .int .i64 i.pred, .int .i64 i.succ, .int .i64 i.to, .bool i.zero] 23)
  have m243 := m235.upd hU241 n33
  have m244 := m236.upd hU241 n34
  have b245 := hU241.below b234 ge32
  intro a246 hA247
  refine qe_ ?_
  refine tn_ ?_
  refine wp_region_lit ?_
  refine qs hA247 rfl (dfa (wn rfl) (hA247.ev rfl) fo23_2 ?_)
  intro a248 hA249
  refine qs hA249 rfl (dst_ (wn rfl) (hA249.ev rfl) (hA249.ev rfl) one3 rfl m242 (Nat.le_of_ble_eq_true rfl) ?_)
  intro w250 hU251 (m252 : Blk w250 g27 #[.int .i64 0, .int .i64 (-1), .int .i64 (-1), .int .i64 i.b, .int .i64 i.imm, .int .i64 i.loc, .int .i64 i.off, .int .i64 i.index, .int .i64 i.size, .int .i64 i.fn, .bool i.acq, .bool i.weak, .bool i.rel, .int .i64 i.pred, .int .i64 i.succ, .int .i64 i.to, .bool i.zero] 23)
  have m253 := m243.upd hU251 n33
  have m254 := m244.upd hU251 n34
  have b255 := hU251.below b245 ge32
  intro a256 hA257
  refine qe_ ?_
  refine i_norm ?_
  refine tn_ ?_
  refine wp_seq ?_
  refine wp_seq ?_
  refine wp_region_lit ?_
  refine qs hA257 rfl (dfa (wn rfl) (hA257.ev rfl) fo23_0 ?_)
  intro a258 hA259
  refine qs hA259 rfl (dld (v := (.int .i64 i.op)) (wn rfl) (hA259.ev rfl) one3 (m253.cell rfl) ?_)
  intro a260 hA261
  refine qs hA261 rfl (dbn (wn rfl) (hA261.ev rfl) (hA261.ev rfl) (b_eq _ _ i.op 4 false _ (by rw [eq_of_beq hb165]; rfl)) ?_)
  intro a262 hA263
  refine qs hA263 rfl (dmv (wn rfl) (hA263.ev rfl) ?_)
  intro a264 hA265
  refine qs hA265 rfl (dfa (wy rfl rfl (hA265.get 176 _ rfl)) (hA265.ev rfl) fo23_0 ?_)
  intro a266 hA267
  refine qs hA267 rfl (dld (v := (.int .i64 i.op)) (wy rfl rfl (hA267.get 176 _ rfl)) (hA267.ev rfl) one3 (m253.cell rfl) ?_)
  intro a268 hA269
  refine qs hA269 rfl (dbn (wy rfl rfl (hA269.get 176 _ rfl)) (hA269.ev rfl) (hA269.ev rfl) (b_eq _ _ i.op 5 false _ (by rw [eq_of_beq hb165]; rfl)) ?_)
  intro a270 hA271
  refine qs hA271 rfl (dpf (wn rfl) (hA271.ev rfl) (hA271.ev rfl) ?_)
  intro a272 hA273
  refine qs hA273 rfl (dmv (wn rfl) (hA273.ev rfl) ?_)
  intro a274 hA275
  refine qs hA275 rfl (dfa (wy rfl rfl (hA275.get 181 _ rfl)) (hA275.ev rfl) fo23_0 ?_)
  intro a276 hA277
  refine qs hA277 rfl (dld (v := (.int .i64 i.op)) (wy rfl rfl (hA277.get 181 _ rfl)) (hA277.ev rfl) one3 (m253.cell rfl) ?_)
  intro a278 hA279
  refine qs hA279 rfl (dbn (wy rfl rfl (hA279.get 181 _ rfl)) (hA279.ev rfl) (hA279.ev rfl) (b_eq _ _ i.op 6 false _ (by rw [eq_of_beq hb165]; rfl)) ?_)
  intro a280 hA281
  refine qs hA281 rfl (dpf (wn rfl) (hA281.ev rfl) (hA281.ev rfl) ?_)
  intro a282 hA283
  refine qe_ ?_
  refine tn_ ?_
  refine c_false hA283 rfl ?_
  refine wp_skip ?_
  refine tn_ ?_
  refine wp_seq ?_
  refine wp_region_lit ?_
  refine qs hA283 rfl (dlr (cs := #[.int .i64 0, .int .i64 (-1), .int .i64 (-1), .int .i64 i.b, .int .i64 i.imm, .int .i64 i.loc, .int .i64 i.off, .int .i64 i.index, .int .i64 i.size, .int .i64 i.fn, .bool i.acq, .bool i.weak, .bool i.rel, .int .i64 i.pred, .int .i64 i.succ, .int .i64 i.to, .bool i.zero]) (wn rfl) (hA283.ev rfl) row23 m252 ?_)
  intro a284 hA285
  refine qs hA285 rfl (dmv (wn rfl) (hA285.ev rfl) ?_)
  intro a286 hA287
  refine qs hA287 rfl (dsr (wn rfl) (hA287.ev rfl) (hA287.ev rfl) row23 m254 rfl rfl ?_)
  intro w288 hU289 (m290 : Blk w288 g12 #[.int .i64 0, .int .i64 (-1), .int .i64 (-1), .int .i64 i.b, .int .i64 i.imm, .int .i64 i.loc, .int .i64 i.off, .int .i64 i.index, .int .i64 i.size, .int .i64 i.fn, .bool i.acq, .bool i.weak, .bool i.rel, .int .i64 i.pred, .int .i64 i.succ, .int .i64 i.to, .bool i.zero] 23)
  have m291 := m253.upd hU289 n18
  have m292 := m252.upd hU289 (Ne.symm n34)
  have b293 := hU289.below b255 ge17
  intro a294 hA295
  refine qs hA295 rfl (das (wn rfl) (hA295.ev rfl) ?_)
  intro a296 hA297
  refine qe_ ?_
  refine tn_ ?_
  refine wp_ret ?_
  refine retCT (g := g12) (cs := #[.int .i64 0, .int .i64 (-1), .int .i64 (-1), .int .i64 i.b, .int .i64 i.imm, .int .i64 i.loc, .int .i64 i.off, .int .i64 i.index, .int .i64 i.size, .int .i64 i.fn, .bool i.acq, .bool i.weak, .bool i.rel, .int .i64 i.pred, .int .i64 i.succ, .int .i64 i.to, .bool i.zero]) (v := (.bool ((regB i.dst) && (regB i.a)))) rfl hA297 rfl rfl m290 row23 ?_
  exact ⟨ret_two (by simp [insC, bareF, opB, rdB, wrB, hb64, eq_of_beq hb165]) (by first | (simp [fineB, hb64, eq_of_beq hb165, Bool.or_assoc, Bool.and_assoc]; done) | (rw [Bool.eq_iff_iff]; simp [fineB, hb64, eq_of_beq hb165]; done) | (rw [Bool.eq_iff_iff]; simp [fineB, hb64, eq_of_beq hb165]; omega) | grind), b293⟩
 have hq298 := ne_of_beq hb165
 refine qs hA164 rfl (dbn (wn rfl) (hA164.ev rfl) (hA164.ev rfl) (b_eq _ _ i.op 2 false _ hb165) ?_)
 intro a299 hA300
 refine qs hA300 rfl (das (wn rfl) (hA300.ev rfl) ?_)
 intro a301 hA302
 refine qe_ ?_
 refine tn_ ?_
 refine c_false hA302 rfl ?_
 refine wp_seq ?_
 refine wp_region_lit ?_
 rcases Bool.eq_false_or_eq_true (i.op == 3) with hb303 | hb303
 ·skip
  have hq304 := eq_of_beq hb303
  refine qs hA302 rfl (dbn (wn rfl) (hA302.ev rfl) (hA302.ev rfl) (b_eq _ _ i.op 3 true _ hb303) ?_)
  intro a305 hA306
  refine qs hA306 rfl (das (wn rfl) (hA306.ev rfl) ?_)
  intro a307 hA308
  refine qe_ ?_
  refine tn_ ?_
  refine c_true hA308 rfl ?_
  refine wp_seq ?_
  refine jwp (K := fun a309 w310 => St 192 [(1, (.pointer (some ⟨g3, 0, none⟩))), (2, (.pointer (some ⟨g12, 0, none⟩))), (3, (.bool false)), (4, (.pointer (some ⟨g27, 0, none⟩))), (5, (.bool ((regB i.dst) && ((regB i.a) && ((decide (i.fn ≥ 1)) && ((decide (i.fn ≤ 5)) && ((i.b == (-1)) || ((regB i.b) && (i.imm == 0)))))))))] a309 ∧ Below w.heap.size w w310 ∧ Blk w310 g3 (insC i) 23 ∧ Blk w310 g12 #[.int .i64 0, .int .i64 0, .int .i64 0, .int .i64 0, .int .i64 0, .int .i64 0, .int .i64 0, .int .i64 0, .int .i64 0, .int .i64 0, .bool false, .bool false, .bool false, .int .i64 0, .int .i64 0, .int .i64 0, .bool false] 23 ∧ Blk w310 g27 #[.int .i64 0, .int .i64 i.dst, .int .i64 i.a, .int .i64 i.b, .int .i64 i.imm, .int .i64 i.loc, .int .i64 i.off, .int .i64 i.index, .int .i64 i.size, .int .i64 i.fn, .bool i.acq, .bool i.weak, .bool i.rel, .int .i64 i.pred, .int .i64 i.succ, .int .i64 i.to, .bool i.zero] 23) ?_ ?_
  ·skip
   refine wp_region_lit ?_
   refine qs hA308 rfl (dfa (wn rfl) (hA308.ev rfl) fo23_1 ?_)
   intro a311 hA312
   refine qs hA312 rfl (dld (v := (.int .i64 i.dst)) (wn rfl) (hA312.ev rfl) one3 (m55.cell rfl) ?_)
   intro a313 hA314
   refine qs hA314 rfl (dcl (wn rfl) ent44 (map1 (hA314.ev rfl)) (rreg_any i.dst w52) ?_)
   rintro e318 w315 ⟨he317, hG316⟩
   have m319 := m55.grow hG316
   have m320 := m56.grow hG316
   have m321 := m54.grow hG316
   have b322 := blg b57 hG316 b57.size
   rcases Bool.eq_false_or_eq_true (regB i.dst) with hb323 | hb323
   ·skip
    refine ⟨.bool true, he317.trans (ret_bool hb323), ?_⟩
    intro a325 hA326
    refine qs hA326 rfl (dmv (wn rfl) (hA326.ev rfl) ?_)
    intro a327 hA328
    refine qs hA328 rfl (dfa (wy rfl rfl (hA328.get 34 _ rfl)) (hA328.ev rfl) fo23_2 ?_)
    intro a329 hA330
    refine qs hA330 rfl (dld (v := (.int .i64 i.a)) (wy rfl rfl (hA330.get 34 _ rfl)) (hA330.ev rfl) one3 (m319.cell rfl) ?_)
    intro a331 hA332
    refine qs hA332 rfl (dcl (wy rfl rfl (hA332.get 34 _ rfl)) ent44 (map1 (hA332.ev rfl)) (rreg_any i.a w315) ?_)
    rintro e336 w333 ⟨he335, hG334⟩
    have m337 := m319.grow hG334
    have m338 := m320.grow hG334
    have m339 := m321.grow hG334
    have b340 := blg b322 hG334 b322.size
    rcases Bool.eq_false_or_eq_true (regB i.a) with hb341 | hb341
    ·skip
     refine ⟨.bool true, he335.trans (ret_bool hb341), ?_⟩
     intro a343 hA344
     refine qs hA344 rfl (dpt (wn rfl) (hA344.ev rfl) (hA344.ev rfl) ?_)
     intro a345 hA346
     refine qs hA346 rfl (dmv (wn rfl) (hA346.ev rfl) ?_)
     intro a347 hA348
     refine qs hA348 rfl (dfa (wy rfl rfl (hA348.get 39 _ rfl)) (hA348.ev rfl) fo23_9 ?_)
     intro a349 hA350
     refine qs hA350 rfl (dld (v := (.int .i64 i.fn)) (wy rfl rfl (hA350.get 39 _ rfl)) (hA350.ev rfl) one3 (m337.cell rfl) ?_)
     intro a351 hA352
     rcases Bool.eq_false_or_eq_true (decide (i.fn ≥ 1)) with hb353 | hb353
     ·skip
      have hq354 := of_decide_eq_true hb353
      refine qs hA352 rfl (dbn (wy rfl rfl (hA352.get 39 _ rfl)) (hA352.ev rfl) (hA352.ev rfl) (b_ge _ _ i.fn 1 true _ hb353) ?_)
      intro a355 hA356
      refine qs hA356 rfl (dpt (wn rfl) (hA356.ev rfl) (hA356.ev rfl) ?_)
      intro a357 hA358
      refine qs hA358 rfl (dmv (wn rfl) (hA358.ev rfl) ?_)
      intro a359 hA360
      refine qs hA360 rfl (dfa (wy rfl rfl (hA360.get 44 _ rfl)) (hA360.ev rfl) fo23_9 ?_)
      intro a361 hA362
      refine qs hA362 rfl (dld (v := (.int .i64 i.fn)) (wy rfl rfl (hA362.get 44 _ rfl)) (hA362.ev rfl) one3 (m337.cell rfl) ?_)
      intro a363 hA364
      rcases Bool.eq_false_or_eq_true (decide (i.fn ≤ 5)) with hb365 | hb365
      ·skip
       have hq366 := of_decide_eq_true hb365
       refine qs hA364 rfl (dbn (wy rfl rfl (hA364.get 44 _ rfl)) (hA364.ev rfl) (hA364.ev rfl) (b_le _ _ i.fn 5 true _ hb365) ?_)
       intro a367 hA368
       refine qs hA368 rfl (dpt (wn rfl) (hA368.ev rfl) (hA368.ev rfl) ?_)
       intro a369 hA370
       refine qs hA370 rfl (dmv (wn rfl) (hA370.ev rfl) ?_)
       intro a371 hA372
       refine qs hA372 rfl (dfa (wy rfl rfl (hA372.get 49 _ rfl)) (hA372.ev rfl) fo23_3 ?_)
       intro a373 hA374
       refine qs hA374 rfl (dld (v := (.int .i64 i.b)) (wy rfl rfl (hA374.get 49 _ rfl)) (hA374.ev rfl) one3 (m337.cell rfl) ?_)
       intro a375 hA376
       rcases Bool.eq_false_or_eq_true (i.b == (-1)) with hb377 | hb377
       ·skip
        have hq378 := eq_of_beq hb377
        refine qs hA376 rfl (dbn (wy rfl rfl (hA376.get 49 _ rfl)) (hA376.ev rfl) (hA376.ev rfl) (b_eq _ _ i.b (-1) true _ hb377) ?_)
        intro a379 hA380
        refine qs hA380 rfl (dmv (wy rfl rfl (hA380.get 49 _ rfl)) (hA380.ev rfl) ?_)
        intro a381 hA382
        refine qs hA382 rfl (dno (wno rfl rfl (.inl (hA382.get 53 _ rfl))) ?_)
        intro a383 hA384
        refine qs hA384 rfl (dno (wno rfl rfl (.inl (hA384.get 53 _ rfl))) ?_)
        intro a385 hA386
        refine qs hA386 rfl (dno (wno rfl rfl (.inl (hA386.get 53 _ rfl))) ?_)
        intro a387 hA388
        refine qs hA388 rfl (dno (wno rfl rfl (.inl (hA388.get 53 _ rfl))) ?_)
        intro a389 hA390
        refine qs hA390 rfl (dno (wno rfl rfl (.inr (hA390.get 57 _ rfl))) ?_)
        intro a391 hA392
        refine qs hA392 rfl (dno (wno rfl rfl (.inr (hA392.get 57 _ rfl))) ?_)
        intro a393 hA394
        refine qs hA394 rfl (dno (wno rfl rfl (.inr (hA394.get 57 _ rfl))) ?_)
        intro a395 hA396
        refine qs hA396 rfl (dno (wno rfl rfl (.inl (hA396.get 53 _ rfl))) ?_)
        intro a397 hA398
        refine qs hA398 rfl (dpt (wy rfl rfl (hA398.get 49 _ rfl)) (hA398.ev rfl) (hA398.ev rfl) ?_)
        intro a399 hA400
        refine qs hA400 rfl (dpt (wn rfl) (hA400.ev rfl) (hA400.ev rfl) ?_)
        intro a401 hA402
        refine qs hA402 rfl (das (wn rfl) (hA402.ev rfl) ?_)
        intro a403 hA404
        refine qe_ ?_
        exact ⟨hA404.cut _ (fc (hA404.get 1 _ rfl) (fc (hA404.get 2 _ rfl) (fc (hA404.get 3 _ rfl) (fc (hA404.get 4 _ rfl) (fc ((hA404.get 5 _ rfl).trans (congrArg Value.bool (by simp [hb323, hb341, hb353, hb365, hb377]))) fn_))))), b340, m337, m338, m339⟩
       have hq405 := ne_of_beq hb377
       refine qs hA376 rfl (dbn (wy rfl rfl (hA376.get 49 _ rfl)) (hA376.ev rfl) (hA376.ev rfl) (b_eq _ _ i.b (-1) false _ hb377) ?_)
       intro a406 hA407
       refine qs hA407 rfl (dmv (wy rfl rfl (hA407.get 49 _ rfl)) (hA407.ev rfl) ?_)
       intro a408 hA409
       refine qs hA409 rfl (dfa (wy rfl rfl (hA409.get 53 _ rfl)) (hA409.ev rfl) fo23_3 ?_)
       intro a410 hA411
       refine qs hA411 rfl (dld (v := (.int .i64 i.b)) (wy rfl rfl (hA411.get 53 _ rfl)) (hA411.ev rfl) one3 (m337.cell rfl) ?_)
       intro a412 hA413
       refine qs hA413 rfl (dcl (wy rfl rfl (hA413.get 53 _ rfl)) ent44 (map1 (hA413.ev rfl)) (rreg_any i.b w333) ?_)
       rintro e417 w414 ⟨he416, hG415⟩
       have m418 := m337.grow hG415
       have m419 := m338.grow hG415
       have m420 := m339.grow hG415
       have b421 := blg b340 hG415 b340.size
       rcases Bool.eq_false_or_eq_true (regB i.b) with hb422 | hb422
       ·skip
        refine ⟨.bool true, he416.trans (ret_bool hb422), ?_⟩
        intro a424 hA425
        refine qs hA425 rfl (dmv (wy rfl rfl (hA425.get 53 _ rfl)) (hA425.ev rfl) ?_)
        intro a426 hA427
        refine qs hA427 rfl (dfa (wy rfl rfl (hA427.get 57 _ rfl)) (hA427.ev rfl) fo23_4 ?_)
        intro a428 hA429
        refine qs hA429 rfl (dld (v := (.int .i64 i.imm)) (wy rfl rfl (hA429.get 57 _ rfl)) (hA429.ev rfl) one3 (m418.cell rfl) ?_)
        intro a430 hA431
        rcases Bool.eq_false_or_eq_true (i.imm == 0) with hb432 | hb432
        ·skip
         have hq433 := eq_of_beq hb432
         refine qs hA431 rfl (dbn (wy rfl rfl (hA431.get 57 _ rfl)) (hA431.ev rfl) (hA431.ev rfl) (b_eq _ _ i.imm 0 true _ hb432) ?_)
         intro a434 hA435
         refine qs hA435 rfl (dpt (wy rfl rfl (hA435.get 53 _ rfl)) (hA435.ev rfl) (hA435.ev rfl) ?_)
         intro a436 hA437
         refine qs hA437 rfl (dpf (wy rfl rfl (hA437.get 49 _ rfl)) (hA437.ev rfl) (hA437.ev rfl) ?_)
         intro a438 hA439
         refine qs hA439 rfl (dpt (wn rfl) (hA439.ev rfl) (hA439.ev rfl) ?_)
         intro a440 hA441
         refine qs hA441 rfl (das (wn rfl) (hA441.ev rfl) ?_)
         intro a442 hA443
         refine qe_ ?_
         exact ⟨hA443.cut _ (fc (hA443.get 1 _ rfl) (fc (hA443.get 2 _ rfl) (fc (hA443.get 3 _ rfl) (fc (hA443.get 4 _ rfl) (fc ((hA443.get 5 _ rfl).trans (congrArg Value.bool (by simp [hb323, hb341, hb353, hb365, hb377, hb422, hb432]))) fn_))))), b421, m418, m419, m420⟩
        have hq444 := ne_of_beq hb432
        refine qs hA431 rfl (dbn (wy rfl rfl (hA431.get 57 _ rfl)) (hA431.ev rfl) (hA431.ev rfl) (b_eq _ _ i.imm 0 false _ hb432) ?_)
        intro a445 hA446
        refine qs hA446 rfl (dpt (wy rfl rfl (hA446.get 53 _ rfl)) (hA446.ev rfl) (hA446.ev rfl) ?_)
        intro a447 hA448
        refine qs hA448 rfl (dpf (wy rfl rfl (hA448.get 49 _ rfl)) (hA448.ev rfl) (hA448.ev rfl) ?_)
        intro a449 hA450
        refine qs hA450 rfl (dpt (wn rfl) (hA450.ev rfl) (hA450.ev rfl) ?_)
        intro a451 hA452
        refine qs hA452 rfl (das (wn rfl) (hA452.ev rfl) ?_)
        intro a453 hA454
        refine qe_ ?_
        exact ⟨hA454.cut _ (fc (hA454.get 1 _ rfl) (fc (hA454.get 2 _ rfl) (fc (hA454.get 3 _ rfl) (fc (hA454.get 4 _ rfl) (fc ((hA454.get 5 _ rfl).trans (congrArg Value.bool (by simp [hb323, hb341, hb353, hb365, hb377, hb422, hb432]))) fn_))))), b421, m418, m419, m420⟩
       refine ⟨.bool false, he416.trans (ret_bool hb422), ?_⟩
       intro a456 hA457
       refine qs hA457 rfl (dmv (wy rfl rfl (hA457.get 53 _ rfl)) (hA457.ev rfl) ?_)
       intro a458 hA459
       refine qs hA459 rfl (dno (wno rfl rfl (.inl (hA459.get 57 _ rfl))) ?_)
       intro a460 hA461
       refine qs hA461 rfl (dno (wno rfl rfl (.inl (hA461.get 57 _ rfl))) ?_)
       intro a462 hA463
       refine qs hA463 rfl (dno (wno rfl rfl (.inl (hA463.get 57 _ rfl))) ?_)
       intro a464 hA465
       refine qs hA465 rfl (dpf (wy rfl rfl (hA465.get 53 _ rfl)) (hA465.ev rfl) (hA465.ev rfl) ?_)
       intro a466 hA467
       refine qs hA467 rfl (dpf (wy rfl rfl (hA467.get 49 _ rfl)) (hA467.ev rfl) (hA467.ev rfl) ?_)
       intro a468 hA469
       refine qs hA469 rfl (dpt (wn rfl) (hA469.ev rfl) (hA469.ev rfl) ?_)
       intro a470 hA471
       refine qs hA471 rfl (das (wn rfl) (hA471.ev rfl) ?_)
       intro a472 hA473
       refine qe_ ?_
       exact ⟨hA473.cut _ (fc (hA473.get 1 _ rfl) (fc (hA473.get 2 _ rfl) (fc (hA473.get 3 _ rfl) (fc (hA473.get 4 _ rfl) (fc ((hA473.get 5 _ rfl).trans (congrArg Value.bool (by simp [hb323, hb341, hb353, hb365, hb377, hb422]))) fn_))))), b421, m418, m419, m420⟩
      have hq474 := of_decide_eq_false hb365
      refine qs hA364 rfl (dbn (wy rfl rfl (hA364.get 44 _ rfl)) (hA364.ev rfl) (hA364.ev rfl) (b_le _ _ i.fn 5 false _ hb365) ?_)
      intro a475 hA476
      refine qs hA476 rfl (dpt (wn rfl) (hA476.ev rfl) (hA476.ev rfl) ?_)
      intro a477 hA478
      refine qs hA478 rfl (dmv (wn rfl) (hA478.ev rfl) ?_)
      intro a479 hA480
      refine qs hA480 rfl (dno (wno rfl rfl (.inl (hA480.get 49 _ rfl))) ?_)
      intro a481 hA482
      refine qs hA482 rfl (dno (wno rfl rfl (.inl (hA482.get 49 _ rfl))) ?_)
      intro a483 hA484
      refine qs hA484 rfl (dno (wno rfl rfl (.inl (hA484.get 49 _ rfl))) ?_)
      intro a485 hA486
      refine qs hA486 rfl (dno (wno rfl rfl (.inl (hA486.get 49 _ rfl))) ?_)
      intro a487 hA488
      refine qs hA488 rfl (dno (wno rfl rfl (.inr (hA488.get 53 _ rfl))) ?_)
      intro a489 hA490
      refine qs hA490 rfl (dno (wno rfl rfl (.inr (hA490.get 53 _ rfl))) ?_)
      intro a491 hA492
      refine qs hA492 rfl (dno (wno rfl rfl (.inr (hA492.get 53 _ rfl))) ?_)
      intro a493 hA494
      refine qs hA494 rfl (dno (wno rfl rfl (.inr (hA494.get 53 _ rfl))) ?_)
      intro a495 hA496
      refine qs hA496 rfl (dno (wno rfl rfl (.inr (hA496.get 57 _ rfl))) ?_)
      intro a497 hA498
      refine qs hA498 rfl (dno (wno rfl rfl (.inr (hA498.get 57 _ rfl))) ?_)
      intro a499 hA500
      refine qs hA500 rfl (dno (wno rfl rfl (.inr (hA500.get 57 _ rfl))) ?_)
      intro a501 hA502
      refine qs hA502 rfl (dno (wno rfl rfl (.inr (hA502.get 53 _ rfl))) ?_)
      intro a503 hA504
      refine qs hA504 rfl (dno (wno rfl rfl (.inl (hA504.get 49 _ rfl))) ?_)
      intro a505 hA506
      refine qs hA506 rfl (dpf (wn rfl) (hA506.ev rfl) (hA506.ev rfl) ?_)
      intro a507 hA508
      refine qs hA508 rfl (das (wn rfl) (hA508.ev rfl) ?_)
      intro a509 hA510
      refine qe_ ?_
      exact ⟨hA510.cut _ (fc (hA510.get 1 _ rfl) (fc (hA510.get 2 _ rfl) (fc (hA510.get 3 _ rfl) (fc (hA510.get 4 _ rfl) (fc ((hA510.get 5 _ rfl).trans (congrArg Value.bool (by simp [hb323, hb341, hb353, hb365]))) fn_))))), b340, m337, m338, m339⟩
     have hq511 := of_decide_eq_false hb353
     refine qs hA352 rfl (dbn (wy rfl rfl (hA352.get 39 _ rfl)) (hA352.ev rfl) (hA352.ev rfl) (b_ge _ _ i.fn 1 false _ hb353) ?_)
     intro a512 hA513
     refine qs hA513 rfl (dpt (wn rfl) (hA513.ev rfl) (hA513.ev rfl) ?_)
     intro a514 hA515
     refine qs hA515 rfl (dmv (wn rfl) (hA515.ev rfl) ?_)
     intro a516 hA517
     refine qs hA517 rfl (dno (wno rfl rfl (.inl (hA517.get 44 _ rfl))) ?_)
     intro a518 hA519
     refine qs hA519 rfl (dno (wno rfl rfl (.inl (hA519.get 44 _ rfl))) ?_)
     intro a520 hA521
     refine qs hA521 rfl (dno (wno rfl rfl (.inl (hA521.get 44 _ rfl))) ?_)
     intro a522 hA523
     refine qs hA523 rfl (dpf (wn rfl) (hA523.ev rfl) (hA523.ev rfl) ?_)
     intro a524 hA525
     refine qs hA525 rfl (dmv (wn rfl) (hA525.ev rfl) ?_)
     intro a526 hA527
     refine qs hA527 rfl (dno (wno rfl rfl (.inl (hA527.get 49 _ rfl))) ?_)
     intro a528 hA529
     refine qs hA529 rfl (dno (wno rfl rfl (.inl (hA529.get 49 _ rfl))) ?_)
     intro a530 hA531
     refine qs hA531 rfl (dno (wno rfl rfl (.inl (hA531.get 49 _ rfl))) ?_)
     intro a532 hA533
     refine qs hA533 rfl (dno (wno rfl rfl (.inl (hA533.get 49 _ rfl))) ?_)
     intro a534 hA535
     refine qs hA535 rfl (dno (wno rfl rfl (.inr (hA535.get 53 _ rfl))) ?_)
     intro a536 hA537
     refine qs hA537 rfl (dno (wno rfl rfl (.inr (hA537.get 53 _ rfl))) ?_)
     intro a538 hA539
     refine qs hA539 rfl (dno (wno rfl rfl (.inr (hA539.get 53 _ rfl))) ?_)
     intro a540 hA541
     refine qs hA541 rfl (dno (wno rfl rfl (.inr (hA541.get 53 _ rfl))) ?_)
     intro a542 hA543
     refine qs hA543 rfl (dno (wno rfl rfl (.inr (hA543.get 57 _ rfl))) ?_)
     intro a544 hA545
     refine qs hA545 rfl (dno (wno rfl rfl (.inr (hA545.get 57 _ rfl))) ?_)
     intro a546 hA547
     refine qs hA547 rfl (dno (wno rfl rfl (.inr (hA547.get 57 _ rfl))) ?_)
     intro a548 hA549
     refine qs hA549 rfl (dno (wno rfl rfl (.inr (hA549.get 53 _ rfl))) ?_)
     intro a550 hA551
     refine qs hA551 rfl (dno (wno rfl rfl (.inl (hA551.get 49 _ rfl))) ?_)
     intro a552 hA553
     refine qs hA553 rfl (dpf (wn rfl) (hA553.ev rfl) (hA553.ev rfl) ?_)
     intro a554 hA555
     refine qs hA555 rfl (das (wn rfl) (hA555.ev rfl) ?_)
     intro a556 hA557
     refine qe_ ?_
     exact ⟨hA557.cut _ (fc (hA557.get 1 _ rfl) (fc (hA557.get 2 _ rfl) (fc (hA557.get 3 _ rfl) (fc (hA557.get 4 _ rfl) (fc ((hA557.get 5 _ rfl).trans (congrArg Value.bool (by simp [hb323, hb341, hb353]))) fn_))))), b340, m337, m338, m339⟩
    refine ⟨.bool false, he335.trans (ret_bool hb341), ?_⟩
    intro a559 hA560
    refine qs hA560 rfl (dpt (wn rfl) (hA560.ev rfl) (hA560.ev rfl) ?_)
    intro a561 hA562
    refine qs hA562 rfl (dmv (wn rfl) (hA562.ev rfl) ?_)
    intro a563 hA564
    refine qs hA564 rfl (dno (wno rfl rfl (.inl (hA564.get 39 _ rfl))) ?_)
    intro a565 hA566
    refine qs hA566 rfl (dno (wno rfl rfl (.inl (hA566.get 39 _ rfl))) ?_)
    intro a567 hA568
    refine qs hA568 rfl (dno (wno rfl rfl (.inl (hA568.get 39 _ rfl))) ?_)
    intro a569 hA570
    refine qs hA570 rfl (dpf (wn rfl) (hA570.ev rfl) (hA570.ev rfl) ?_)
    intro a571 hA572
    refine qs hA572 rfl (dmv (wn rfl) (hA572.ev rfl) ?_)
    intro a573 hA574
    refine qs hA574 rfl (dno (wno rfl rfl (.inl (hA574.get 44 _ rfl))) ?_)
    intro a575 hA576
    refine qs hA576 rfl (dno (wno rfl rfl (.inl (hA576.get 44 _ rfl))) ?_)
    intro a577 hA578
    refine qs hA578 rfl (dno (wno rfl rfl (.inl (hA578.get 44 _ rfl))) ?_)
    intro a579 hA580
    refine qs hA580 rfl (dpf (wn rfl) (hA580.ev rfl) (hA580.ev rfl) ?_)
    intro a581 hA582
    refine qs hA582 rfl (dmv (wn rfl) (hA582.ev rfl) ?_)
    intro a583 hA584
    refine qs hA584 rfl (dno (wno rfl rfl (.inl (hA584.get 49 _ rfl))) ?_)
    intro a585 hA586
    refine qs hA586 rfl (dno (wno rfl rfl (.inl (hA586.get 49 _ rfl))) ?_)
    intro a587 hA588
    refine qs hA588 rfl (dno (wno rfl rfl (.inl (hA588.get 49 _ rfl))) ?_)
    intro a589 hA590
    refine qs hA590 rfl (dno (wno rfl rfl (.inl (hA590.get 49 _ rfl))) ?_)
    intro a591 hA592
    refine qs hA592 rfl (dno (wno rfl rfl (.inr (hA592.get 53 _ rfl))) ?_)
    intro a593 hA594
    refine qs hA594 rfl (dno (wno rfl rfl (.inr (hA594.get 53 _ rfl))) ?_)
    intro a595 hA596
    refine qs hA596 rfl (dno (wno rfl rfl (.inr (hA596.get 53 _ rfl))) ?_)
    intro a597 hA598
    refine qs hA598 rfl (dno (wno rfl rfl (.inr (hA598.get 53 _ rfl))) ?_)
    intro a599 hA600
    refine qs hA600 rfl (dno (wno rfl rfl (.inr (hA600.get 57 _ rfl))) ?_)
    intro a601 hA602
    refine qs hA602 rfl (dno (wno rfl rfl (.inr (hA602.get 57 _ rfl))) ?_)
    intro a603 hA604
    refine qs hA604 rfl (dno (wno rfl rfl (.inr (hA604.get 57 _ rfl))) ?_)
    intro a605 hA606
    refine qs hA606 rfl (dno (wno rfl rfl (.inr (hA606.get 53 _ rfl))) ?_)
    intro a607 hA608
    refine qs hA608 rfl (dno (wno rfl rfl (.inl (hA608.get 49 _ rfl))) ?_)
    intro a609 hA610
    refine qs hA610 rfl (dpf (wn rfl) (hA610.ev rfl) (hA610.ev rfl) ?_)
    intro a611 hA612
    refine qs hA612 rfl (das (wn rfl) (hA612.ev rfl) ?_)
    intro a613 hA614
    refine qe_ ?_
    exact ⟨hA614.cut _ (fc (hA614.get 1 _ rfl) (fc (hA614.get 2 _ rfl) (fc (hA614.get 3 _ rfl) (fc (hA614.get 4 _ rfl) (fc ((hA614.get 5 _ rfl).trans (congrArg Value.bool (by simp [hb323, hb341]))) fn_))))), b340, m337, m338, m339⟩
   refine ⟨.bool false, he317.trans (ret_bool hb323), ?_⟩
   intro a616 hA617
   refine qs hA617 rfl (dmv (wn rfl) (hA617.ev rfl) ?_)
   intro a618 hA619
   refine qs hA619 rfl (dno (wno rfl rfl (.inl (hA619.get 34 _ rfl))) ?_)
   intro a620 hA621
   refine qs hA621 rfl (dno (wno rfl rfl (.inl (hA621.get 34 _ rfl))) ?_)
   intro a622 hA623
   refine qs hA623 rfl (dno (wno rfl rfl (.inl (hA623.get 34 _ rfl))) ?_)
   intro a624 hA625
   refine qs hA625 rfl (dpf (wn rfl) (hA625.ev rfl) (hA625.ev rfl) ?_)
   intro a626 hA627
   refine qs hA627 rfl (dmv (wn rfl) (hA627.ev rfl) ?_)
   intro a628 hA629
   refine qs hA629 rfl (dno (wno rfl rfl (.inl (hA629.get 39 _ rfl))) ?_)
   intro a630 hA631
   refine qs hA631 rfl (dno (wno rfl rfl (.inl (hA631.get 39 _ rfl))) ?_)
   intro a632 hA633
   refine qs hA633 rfl (dno (wno rfl rfl (.inl (hA633.get 39 _ rfl))) ?_)
   intro a634 hA635
   refine qs hA635 rfl (dpf (wn rfl) (hA635.ev rfl) (hA635.ev rfl) ?_)
   intro a636 hA637
   refine qs hA637 rfl (dmv (wn rfl) (hA637.ev rfl) ?_)
   intro a638 hA639
   refine qs hA639 rfl (dno (wno rfl rfl (.inl (hA639.get 44 _ rfl))) ?_)
   intro a640 hA641
   refine qs hA641 rfl (dno (wno rfl rfl (.inl (hA641.get 44 _ rfl))) ?_)
   intro a642 hA643
   refine qs hA643 rfl (dno (wno rfl rfl (.inl (hA643.get 44 _ rfl))) ?_)
   intro a644 hA645
   refine qs hA645 rfl (dpf (wn rfl) (hA645.ev rfl) (hA645.ev rfl) ?_)
   intro a646 hA647
   refine qs hA647 rfl (dmv (wn rfl) (hA647.ev rfl) ?_)
   intro a648 hA649
   refine qs hA649 rfl (dno (wno rfl rfl (.inl (hA649.get 49 _ rfl))) ?_)
   intro a650 hA651
   refine qs hA651 rfl (dno (wno rfl rfl (.inl (hA651.get 49 _ rfl))) ?_)
   intro a652 hA653
   refine qs hA653 rfl (dno (wno rfl rfl (.inl (hA653.get 49 _ rfl))) ?_)
   intro a654 hA655
   refine qs hA655 rfl (dno (wno rfl rfl (.inl (hA655.get 49 _ rfl))) ?_)
   intro a656 hA657
   refine qs hA657 rfl (dno (wno rfl rfl (.inr (hA657.get 53 _ rfl))) ?_)
   intro a658 hA659
   refine qs hA659 rfl (dno (wno rfl rfl (.inr (hA659.get 53 _ rfl))) ?_)
   intro a660 hA661
   refine qs hA661 rfl (dno (wno rfl rfl (.inr (hA661.get 53 _ rfl))) ?_)
   intro a662 hA663
   refine qs hA663 rfl (dno (wno rfl rfl (.inr (hA663.get 53 _ rfl))) ?_)
   intro a664 hA665
   refine qs hA665 rfl (dno (wno rfl rfl (.inr (hA665.get 57 _ rfl))) ?_)
   intro a666 hA667
   refine qs hA667 rfl (dno (wno rfl rfl (.inr (hA667.get 57 _ rfl))) ?_)
   intro a668 hA669
   refine qs hA669 rfl (dno (wno rfl rfl (.inr (hA669.get 57 _ rfl))) ?_)
   intro a670 hA671
   refine qs hA671 rfl (dno (wno rfl rfl (.inr (hA671.get 53 _ rfl))) ?_)
   intro a672 hA673
   refine qs hA673 rfl (dno (wno rfl rfl (.inl (hA673.get 49 _ rfl))) ?_)
   intro a674 hA675
   refine qs hA675 rfl (dpf (wn rfl) (hA675.ev rfl) (hA675.ev rfl) ?_)
   intro a676 hA677
   refine qs hA677 rfl (das (wn rfl) (hA677.ev rfl) ?_)
   intro a678 hA679
   refine qe_ ?_
   exact ⟨hA679.cut _ (fc (hA679.get 1 _ rfl) (fc (hA679.get 2 _ rfl) (fc (hA679.get 3 _ rfl) (fc (hA679.get 4 _ rfl) (fc ((hA679.get 5 _ rfl).trans (congrArg Value.bool (by simp [hb323]))) fn_))))), b322, m319, m320, m321⟩
  rintro a309 w310 ⟨hA680, b681, m682, m683, m684⟩
  refine tn_ ?_
  refine wp_seq ?_
  refine wp_region_lit ?_
  refine qs hA680 rfl (dfa (wn rfl) (hA680.ev rfl) fo23_1 ?_)
  intro a685 hA686
  refine qs hA686 rfl (dst_ (wn rfl) (hA686.ev rfl) (hA686.ev rfl) one3 rfl m684 (Nat.le_of_ble_eq_true rfl) ?_)
  intro w687 hU688 (m689 : Blk w687 g27 #[.int .i64 0, .int .i64 (-1), .int .i64 i.a, .int .i64 i.b, .int .i64 i.imm, .int .i64 i.loc, .int .i64 i.off, .int .i64 i.index, .int .i64 i.size, .int .i64 i.fn, .bool i.acq, .bool i.weak, .bool i.rel, .int .i64 i.pred, .int .i64 i.succ, .int .i64 i.to, .bool i.zero] 23)
  have m690 := m682.upd hU688 n33
  have m691 := m683.upd hU688 n34
  have b692 := hU688.below b681 ge32
  intro a693 hA694
  refine qe_ ?_
  refine tn_ ?_
  refine wp_seq ?_
  refine wp_region_lit ?_
  refine qs hA694 rfl (dfa (wn rfl) (hA694.ev rfl) fo23_2 ?_)
  intro a695 hA696
  refine qs hA696 rfl (dst_ (wn rfl) (hA696.ev rfl) (hA696.ev rfl) one3 rfl m689 (Nat.le_of_ble_eq_true rfl) ?_)
  intro w697 hU698 (m699 : Blk w697 g27 #[.int .i64 0, .int .i64 (-1), .int .i64 (-1), .int .i64 i.b, .int .i64 i.imm, .int .i64 i.loc, .int .i64 i.off, .int .i64 i.index, .int .i64 i.size, .int .i64 i.fn, .bool i.acq, .bool i.weak, .bool i.rel, .int .i64 i.pred, .int .i64 i.succ, .int .i64 i.to, .bool i.zero] 23)
  have m700 := m690.upd hU698 n33
  have m701 := m691.upd hU698 n34
  have b702 := hU698.below b692 ge32
  intro a703 hA704
  refine qe_ ?_
  refine tn_ ?_
  refine wp_seq ?_
  refine wp_region_lit ?_
  refine qs hA704 rfl (dfa (wn rfl) (hA704.ev rfl) fo23_3 ?_)
  intro a705 hA706
  refine qs hA706 rfl (dst_ (wn rfl) (hA706.ev rfl) (hA706.ev rfl) one3 rfl m699 (Nat.le_of_ble_eq_true rfl) ?_)
  intro w707 hU708 (m709 : Blk w707 g27 #[.int .i64 0, .int .i64 (-1), .int .i64 (-1), .int .i64 (-1), .int .i64 i.imm, .int .i64 i.loc, .int .i64 i.off, .int .i64 i.index, .int .i64 i.size, .int .i64 i.fn, .bool i.acq, .bool i.weak, .bool i.rel, .int .i64 i.pred, .int .i64 i.succ, .int .i64 i.to, .bool i.zero] 23)
  have m710 := m700.upd hU708 n33
  have m711 := m701.upd hU708 n34
  have b712 := hU708.below b702 ge32
  intro a713 hA714
  refine qe_ ?_
  refine tn_ ?_
  refine wp_seq ?_
  refine wp_region_lit ?_
  refine qs hA714 rfl (dfa (wn rfl) (hA714.ev rfl) fo23_9 ?_)
  intro a715 hA716
  refine qs hA716 rfl (dst_ (wn rfl) (hA716.ev rfl) (hA716.ev rfl) one3 rfl m709 (Nat.le_of_ble_eq_true rfl) ?_)
  intro w717 hU718 (m719 : Blk w717 g27 #[.int .i64 0, .int .i64 (-1), .int .i64 (-1), .int .i64 (-1), .int .i64 i.imm, .int .i64 i.loc, .int .i64 i.off, .int .i64 i.index, .int .i64 i.size, .int .i64 0, .bool i.acq, .bool i.weak, .bool i.rel, .int .i64 i.pred, .int .i64 i.succ, .int .i64 i.to, .bool i.zero] 23)
  have m720 := m710.upd hU718 n33
  have m721 := m711.upd hU718 n34
  have b722 := hU718.below b712 ge32
  intro a723 hA724
  refine qe_ ?_
  refine tn_ ?_
  refine wp_region_lit ?_
  refine qs hA724 rfl (dfa (wn rfl) (hA724.ev rfl) fo23_4 ?_)
  intro a725 hA726
  refine qs hA726 rfl (dst_ (wn rfl) (hA726.ev rfl) (hA726.ev rfl) one3 rfl m719 (Nat.le_of_ble_eq_true rfl) ?_)
  intro w727 hU728 (m729 : Blk w727 g27 #[.int .i64 0, .int .i64 (-1), .int .i64 (-1), .int .i64 (-1), .int .i64 0, .int .i64 i.loc, .int .i64 i.off, .int .i64 i.index, .int .i64 i.size, .int .i64 0, .bool i.acq, .bool i.weak, .bool i.rel, .int .i64 i.pred, .int .i64 i.succ, .int .i64 i.to, .bool i.zero] 23)
  have m730 := m720.upd hU728 n33
  have m731 := m721.upd hU728 n34
  have b732 := hU728.below b722 ge32
  intro a733 hA734
  refine qe_ ?_
  refine i_norm ?_
  refine tn_ ?_
  refine wp_seq ?_
  refine wp_seq ?_
  refine wp_region_lit ?_
  refine qs hA734 rfl (dfa (wn rfl) (hA734.ev rfl) fo23_0 ?_)
  intro a735 hA736
  refine qs hA736 rfl (dld (v := (.int .i64 i.op)) (wn rfl) (hA736.ev rfl) one3 (m730.cell rfl) ?_)
  intro a737 hA738
  refine qs hA738 rfl (dbn (wn rfl) (hA738.ev rfl) (hA738.ev rfl) (b_eq _ _ i.op 4 false _ (by rw [eq_of_beq hb303]; rfl)) ?_)
  intro a739 hA740
  refine qs hA740 rfl (dmv (wn rfl) (hA740.ev rfl) ?_)
  intro a741 hA742
  refine qs hA742 rfl (dfa (wy rfl rfl (hA742.get 176 _ rfl)) (hA742.ev rfl) fo23_0 ?_)
  intro a743 hA744
  refine qs hA744 rfl (dld (v := (.int .i64 i.op)) (wy rfl rfl (hA744.get 176 _ rfl)) (hA744.ev rfl) one3 (m730.cell rfl) ?_)
  intro a745 hA746
  refine qs hA746 rfl (dbn (wy rfl rfl (hA746.get 176 _ rfl)) (hA746.ev rfl) (hA746.ev rfl) (b_eq _ _ i.op 5 false _ (by rw [eq_of_beq hb303]; rfl)) ?_)
  intro a747 hA748
  refine qs hA748 rfl (dpf (wn rfl) (hA748.ev rfl) (hA748.ev rfl) ?_)
  intro a749 hA750
  refine qs hA750 rfl (dmv (wn rfl) (hA750.ev rfl) ?_)
  intro a751 hA752
  refine qs hA752 rfl (dfa (wy rfl rfl (hA752.get 181 _ rfl)) (hA752.ev rfl) fo23_0 ?_)
  intro a753 hA754
  refine qs hA754 rfl (dld (v := (.int .i64 i.op)) (wy rfl rfl (hA754.get 181 _ rfl)) (hA754.ev rfl) one3 (m730.cell rfl) ?_)
  intro a755 hA756
  refine qs hA756 rfl (dbn (wy rfl rfl (hA756.get 181 _ rfl)) (hA756.ev rfl) (hA756.ev rfl) (b_eq _ _ i.op 6 false _ (by rw [eq_of_beq hb303]; rfl)) ?_)
  intro a757 hA758
  refine qs hA758 rfl (dpf (wn rfl) (hA758.ev rfl) (hA758.ev rfl) ?_)
  intro a759 hA760
  refine qe_ ?_
  refine tn_ ?_
  refine c_false hA760 rfl ?_
  refine wp_skip ?_
  refine tn_ ?_
  refine wp_seq ?_
  refine wp_region_lit ?_
  refine qs hA760 rfl (dlr (cs := #[.int .i64 0, .int .i64 (-1), .int .i64 (-1), .int .i64 (-1), .int .i64 0, .int .i64 i.loc, .int .i64 i.off, .int .i64 i.index, .int .i64 i.size, .int .i64 0, .bool i.acq, .bool i.weak, .bool i.rel, .int .i64 i.pred, .int .i64 i.succ, .int .i64 i.to, .bool i.zero]) (wn rfl) (hA760.ev rfl) row23 m729 ?_)
  intro a761 hA762
  refine qs hA762 rfl (dmv (wn rfl) (hA762.ev rfl) ?_)
  intro a763 hA764
  refine qs hA764 rfl (dsr (wn rfl) (hA764.ev rfl) (hA764.ev rfl) row23 m731 rfl rfl ?_)
  intro w765 hU766 (m767 : Blk w765 g12 #[.int .i64 0, .int .i64 (-1), .int .i64 (-1), .int .i64 (-1), .int .i64 0, .int .i64 i.loc, .int .i64 i.off, .int .i64 i.index, .int .i64 i.size, .int .i64 0, .bool i.acq, .bool i.weak, .bool i.rel, .int .i64 i.pred, .int .i64 i.succ, .int .i64 i.to, .bool i.zero] 23)
  have m768 := m730.upd hU766 n18
  have m769 := m729.upd hU766 (Ne.symm n34)
  have b770 := hU766.below b732 ge17
  intro a771 hA772
  refine qs hA772 rfl (das (wn rfl) (hA772.ev rfl) ?_)
  intro a773 hA774
  refine qe_ ?_
  refine tn_ ?_
  refine wp_ret ?_
  refine retCT (g := g12) (cs := #[.int .i64 0, .int .i64 (-1), .int .i64 (-1), .int .i64 (-1), .int .i64 0, .int .i64 i.loc, .int .i64 i.off, .int .i64 i.index, .int .i64 i.size, .int .i64 0, .bool i.acq, .bool i.weak, .bool i.rel, .int .i64 i.pred, .int .i64 i.succ, .int .i64 i.to, .bool i.zero]) (v := (.bool ((regB i.dst) && ((regB i.a) && ((decide (i.fn ≥ 1)) && ((decide (i.fn ≤ 5)) && ((i.b == (-1)) || ((regB i.b) && (i.imm == 0))))))))) rfl hA774 rfl rfl m767 row23 ?_
  exact ⟨ret_two (by simp [insC, bareF, opB, rdB, wrB, hb64, hb165, eq_of_beq hb303]) (by first | (simp [fineB, hb64, hb165, eq_of_beq hb303, Bool.or_assoc, Bool.and_assoc]; done) | (rw [Bool.eq_iff_iff]; simp [fineB, hb64, hb165, eq_of_beq hb303]; done) | (rw [Bool.eq_iff_iff]; simp [fineB, hb64, hb165, eq_of_beq hb303]; omega) | grind), b770⟩
 have hq775 := ne_of_beq hb303
 refine qs hA302 rfl (dbn (wn rfl) (hA302.ev rfl) (hA302.ev rfl) (b_eq _ _ i.op 3 false _ hb303) ?_)
 intro a776 hA777
 refine qs hA777 rfl (das (wn rfl) (hA777.ev rfl) ?_)
 intro a778 hA779
 refine qe_ ?_
 refine tn_ ?_
 refine c_false hA779 rfl ?_
 refine wp_seq ?_
 refine wp_region_lit ?_
 rcases Bool.eq_false_or_eq_true (i.op == 4) with hb780 | hb780
 ·skip
  have hq781 := eq_of_beq hb780
  refine qs hA779 rfl (dbn (wn rfl) (hA779.ev rfl) (hA779.ev rfl) (b_eq _ _ i.op 4 true _ hb780) ?_)
  intro a782 hA783
  refine qs hA783 rfl (das (wn rfl) (hA783.ev rfl) ?_)
  intro a784 hA785
  refine qe_ ?_
  refine tn_ ?_
  refine c_true hA785 rfl ?_
  refine wp_seq ?_
  refine jwp (K := fun a786 w787 => St 192 [(1, (.pointer (some ⟨g3, 0, none⟩))), (2, (.pointer (some ⟨g12, 0, none⟩))), (3, (.bool false)), (4, (.pointer (some ⟨g27, 0, none⟩))), (5, (.bool ((regB i.dst) && ((plcB i) && (cond i.acq (!i.weak) true)))))] a786 ∧ Below w.heap.size w w787 ∧ Blk w787 g3 (insC i) 23 ∧ Blk w787 g12 #[.int .i64 0, .int .i64 0, .int .i64 0, .int .i64 0, .int .i64 0, .int .i64 0, .int .i64 0, .int .i64 0, .int .i64 0, .int .i64 0, .bool false, .bool false, .bool false, .int .i64 0, .int .i64 0, .int .i64 0, .bool false] 23 ∧ Blk w787 g27 #[.int .i64 0, .int .i64 i.dst, .int .i64 i.a, .int .i64 i.b, .int .i64 i.imm, .int .i64 i.loc, .int .i64 i.off, .int .i64 i.index, .int .i64 i.size, .int .i64 i.fn, .bool i.acq, .bool i.weak, .bool i.rel, .int .i64 i.pred, .int .i64 i.succ, .int .i64 i.to, .bool i.zero] 23) ?_ ?_
  ·skip
   refine wp_region_lit ?_
   refine qs hA785 rfl (dfa (wn rfl) (hA785.ev rfl) fo23_1 ?_)
   intro a788 hA789
   refine qs hA789 rfl (dld (v := (.int .i64 i.dst)) (wn rfl) (hA789.ev rfl) one3 (m55.cell rfl) ?_)
   intro a790 hA791
   refine qs hA791 rfl (dcl (wn rfl) ent44 (map1 (hA791.ev rfl)) (rreg_any i.dst w52) ?_)
   rintro e795 w792 ⟨he794, hG793⟩
   have m796 := m55.grow hG793
   have m797 := m56.grow hG793
   have m798 := m54.grow hG793
   have b799 := blg b57 hG793 b57.size
   rcases Bool.eq_false_or_eq_true (regB i.dst) with hb800 | hb800
   ·skip
    refine ⟨.bool true, he794.trans (ret_bool hb800), ?_⟩
    intro a802 hA803
    refine qs hA803 rfl (dmv (wn rfl) (hA803.ev rfl) ?_)
    intro a804 hA805
    refine qs hA805 rfl (dlr (cs := (insC i)) (wy rfl rfl (hA805.get 74 _ rfl)) (hA805.ev rfl) row23 m796 ?_)
    intro a806 hA807
    refine qs hA807 rfl (dcl (wy rfl rfl (hA807.get 74 _ rfl)) ent45 (map1 (hA807.ev rfl)) (place3_any i w792) ?_)
    rintro e811 w808 ⟨he810, hG809⟩
    have m812 := m796.grow hG809
    have m813 := m797.grow hG809
    have m814 := m798.grow hG809
    have b815 := blg b799 hG809 b799.size
    rcases Bool.eq_false_or_eq_true (plcB i) with hb816 | hb816
    ·skip
     refine ⟨.bool true, he810.trans (ret_bool hb816), ?_⟩
     intro a818 hA819
     refine qs hA819 rfl (dpt (wn rfl) (hA819.ev rfl) (hA819.ev rfl) ?_)
     intro a820 hA821
     refine qs hA821 rfl (dmv (wn rfl) (hA821.ev rfl) ?_)
     intro a822 hA823
     refine qs hA823 rfl (dfa (wy rfl rfl (hA823.get 78 _ rfl)) (hA823.ev rfl) fo23_10 ?_)
     intro a824 hA825
     refine qs hA825 rfl (dld (v := (.bool i.acq)) (wy rfl rfl (hA825.get 78 _ rfl)) (hA825.ev rfl) one4 (m812.cell rfl) ?_)
     intro a826 hA827
     refine qs hA827 rfl (dmv (wy rfl rfl (hA827.get 78 _ rfl)) (hA827.ev rfl) ?_)
     intro a828 hA829
     rcases Bool.eq_false_or_eq_true (i.acq) with hb830 | hb830
     ·skip
      have hA832 := hA829.shadow (t := 81) rfl hb830
      refine qs hA832 rfl (dfa (wy rfl rfl (hA832.get 81 _ rfl)) (hA832.ev rfl) fo23_11 ?_)
      intro a833 hA834
      refine qs hA834 rfl (dld (v := (.bool i.weak)) (wy rfl rfl (hA834.get 81 _ rfl)) (hA834.ev rfl) one4 (m812.cell rfl) ?_)
      intro a835 hA836
      refine qs hA836 rfl (dpt (wy rfl rfl (hA836.get 78 _ rfl)) (hA836.ev rfl) (hA836.ev rfl) ?_)
      intro a837 hA838
      rcases Bool.eq_false_or_eq_true (i.weak) with hb839 | hb839
      ·skip
       have hA841 := hA838.shadow (t := 84) rfl hb839
       refine qs hA841 rfl (dnt (wy rfl rfl (hA841.get 78 _ rfl)) (hA841.ev rfl) ?_)
       intro a842 hA843
       refine qs hA843 rfl (dpt (wn rfl) (hA843.ev rfl) (hA843.ev rfl) ?_)
       intro a844 hA845
       refine qs hA845 rfl (das (wn rfl) (hA845.ev rfl) ?_)
       intro a846 hA847
       refine qe_ ?_
       exact ⟨hA847.cut _ (fc (hA847.get 1 _ rfl) (fc (hA847.get 2 _ rfl) (fc (hA847.get 3 _ rfl) (fc (hA847.get 4 _ rfl) (fc ((hA847.get 5 _ rfl).trans (congrArg Value.bool (by simp [hb800, hb816, hb830, hb839]))) fn_))))), b815, m812, m813, m814⟩
      have hA849 := hA838.shadow (t := 84) rfl hb839
      refine qs hA849 rfl (dnt (wy rfl rfl (hA849.get 78 _ rfl)) (hA849.ev rfl) ?_)
      intro a850 hA851
      refine qs hA851 rfl (dpt (wn rfl) (hA851.ev rfl) (hA851.ev rfl) ?_)
      intro a852 hA853
      refine qs hA853 rfl (das (wn rfl) (hA853.ev rfl) ?_)
      intro a854 hA855
      refine qe_ ?_
      exact ⟨hA855.cut _ (fc (hA855.get 1 _ rfl) (fc (hA855.get 2 _ rfl) (fc (hA855.get 3 _ rfl) (fc (hA855.get 4 _ rfl) (fc ((hA855.get 5 _ rfl).trans (congrArg Value.bool (by simp [hb800, hb816, hb830, hb839]))) fn_))))), b815, m812, m813, m814⟩
     have hA857 := hA829.shadow (t := 81) rfl hb830
     refine qs hA857 rfl (dno (wno rfl rfl (.inl (hA857.get 81 _ rfl))) ?_)
     intro a858 hA859
     refine qs hA859 rfl (dno (wno rfl rfl (.inl (hA859.get 81 _ rfl))) ?_)
     intro a860 hA861
     refine qs hA861 rfl (dpf (wy rfl rfl (hA861.get 78 _ rfl)) (hA861.ev rfl) (hA861.ev rfl) ?_)
     intro a862 hA863
     refine qs hA863 rfl (dnt (wy rfl rfl (hA863.get 78 _ rfl)) (hA863.ev rfl) ?_)
     intro a864 hA865
     refine qs hA865 rfl (dpt (wn rfl) (hA865.ev rfl) (hA865.ev rfl) ?_)
     intro a866 hA867
     refine qs hA867 rfl (das (wn rfl) (hA867.ev rfl) ?_)
     intro a868 hA869
     refine qe_ ?_
     exact ⟨hA869.cut _ (fc (hA869.get 1 _ rfl) (fc (hA869.get 2 _ rfl) (fc (hA869.get 3 _ rfl) (fc (hA869.get 4 _ rfl) (fc ((hA869.get 5 _ rfl).trans (congrArg Value.bool (by simp [hb800, hb816, hb830]))) fn_))))), b815, m812, m813, m814⟩
    refine ⟨.bool false, he810.trans (ret_bool hb816), ?_⟩
    intro a871 hA872
    refine qs hA872 rfl (dpt (wn rfl) (hA872.ev rfl) (hA872.ev rfl) ?_)
    intro a873 hA874
    refine qs hA874 rfl (dmv (wn rfl) (hA874.ev rfl) ?_)
    intro a875 hA876
    refine qs hA876 rfl (dno (wno rfl rfl (.inl (hA876.get 78 _ rfl))) ?_)
    intro a877 hA878
    refine qs hA878 rfl (dno (wno rfl rfl (.inl (hA878.get 78 _ rfl))) ?_)
    intro a879 hA880
    refine qs hA880 rfl (dno (wno rfl rfl (.inl (hA880.get 78 _ rfl))) ?_)
    intro a881 hA882
    refine qs hA882 rfl (dno (wno rfl rfl (.inr (hA882.get 81 _ rfl))) ?_)
    intro a883 hA884
    refine qs hA884 rfl (dno (wno rfl rfl (.inr (hA884.get 81 _ rfl))) ?_)
    intro a885 hA886
    refine qs hA886 rfl (dno (wno rfl rfl (.inl (hA886.get 78 _ rfl))) ?_)
    intro a887 hA888
    refine qs hA888 rfl (dno (wno rfl rfl (.inl (hA888.get 78 _ rfl))) ?_)
    intro a889 hA890
    refine qs hA890 rfl (dpf (wn rfl) (hA890.ev rfl) (hA890.ev rfl) ?_)
    intro a891 hA892
    refine qs hA892 rfl (das (wn rfl) (hA892.ev rfl) ?_)
    intro a893 hA894
    refine qe_ ?_
    exact ⟨hA894.cut _ (fc (hA894.get 1 _ rfl) (fc (hA894.get 2 _ rfl) (fc (hA894.get 3 _ rfl) (fc (hA894.get 4 _ rfl) (fc ((hA894.get 5 _ rfl).trans (congrArg Value.bool (by simp [hb800, hb816]))) fn_))))), b815, m812, m813, m814⟩
   refine ⟨.bool false, he794.trans (ret_bool hb800), ?_⟩
   intro a896 hA897
   refine qs hA897 rfl (dmv (wn rfl) (hA897.ev rfl) ?_)
   intro a898 hA899
   refine qs hA899 rfl (dno (wno rfl rfl (.inl (hA899.get 74 _ rfl))) ?_)
   intro a900 hA901
   refine qs hA901 rfl (dno (wno rfl rfl (.inl (hA901.get 74 _ rfl))) ?_)
   intro a902 hA903
   refine qs hA903 rfl (dpf (wn rfl) (hA903.ev rfl) (hA903.ev rfl) ?_)
   intro a904 hA905
   refine qs hA905 rfl (dmv (wn rfl) (hA905.ev rfl) ?_)
   intro a906 hA907
   refine qs hA907 rfl (dno (wno rfl rfl (.inl (hA907.get 78 _ rfl))) ?_)
   intro a908 hA909
   refine qs hA909 rfl (dno (wno rfl rfl (.inl (hA909.get 78 _ rfl))) ?_)
   intro a910 hA911
   refine qs hA911 rfl (dno (wno rfl rfl (.inl (hA911.get 78 _ rfl))) ?_)
   intro a912 hA913
   refine qs hA913 rfl (dno (wno rfl rfl (.inr (hA913.get 81 _ rfl))) ?_)
   intro a914 hA915
   refine qs hA915 rfl (dno (wno rfl rfl (.inr (hA915.get 81 _ rfl))) ?_)
   intro a916 hA917
   refine qs hA917 rfl (dno (wno rfl rfl (.inl (hA917.get 78 _ rfl))) ?_)
   intro a918 hA919
   refine qs hA919 rfl (dno (wno rfl rfl (.inl (hA919.get 78 _ rfl))) ?_)
   intro a920 hA921
   refine qs hA921 rfl (dpf (wn rfl) (hA921.ev rfl) (hA921.ev rfl) ?_)
   intro a922 hA923
   refine qs hA923 rfl (das (wn rfl) (hA923.ev rfl) ?_)
   intro a924 hA925
   refine qe_ ?_
   exact ⟨hA925.cut _ (fc (hA925.get 1 _ rfl) (fc (hA925.get 2 _ rfl) (fc (hA925.get 3 _ rfl) (fc (hA925.get 4 _ rfl) (fc ((hA925.get 5 _ rfl).trans (congrArg Value.bool (by simp [hb800]))) fn_))))), b799, m796, m797, m798⟩
  rintro a786 w787 ⟨hA926, b927, m928, m929, m930⟩
  refine tn_ ?_
  refine wp_seq ?_
  refine wp_region_lit ?_
  refine qs hA926 rfl (dfa (wn rfl) (hA926.ev rfl) fo23_1 ?_)
  intro a931 hA932
  refine qs hA932 rfl (dst_ (wn rfl) (hA932.ev rfl) (hA932.ev rfl) one3 rfl m930 (Nat.le_of_ble_eq_true rfl) ?_)
  intro w933 hU934 (m935 : Blk w933 g27 #[.int .i64 0, .int .i64 (-1), .int .i64 i.a, .int .i64 i.b, .int .i64 i.imm, .int .i64 i.loc, .int .i64 i.off, .int .i64 i.index, .int .i64 i.size, .int .i64 i.fn, .bool i.acq, .bool i.weak, .bool i.rel, .int .i64 i.pred, .int .i64 i.succ, .int .i64 i.to, .bool i.zero] 23)
  have m936 := m928.upd hU934 n33
  have m937 := m929.upd hU934 n34
  have b938 := hU934.below b927 ge32
  intro a939 hA940
  refine qe_ ?_
  refine tn_ ?_
  refine wp_seq ?_
  refine wp_region_lit ?_
  refine qs hA940 rfl (dfa (wn rfl) (hA940.ev rfl) fo23_10 ?_)
  intro a941 hA942
  refine qs hA942 rfl (dst_ (wn rfl) (hA942.ev rfl) (hA942.ev rfl) one4 rfl m935 (Nat.le_of_ble_eq_true rfl) ?_)
  intro w943 hU944 (m945 : Blk w943 g27 #[.int .i64 0, .int .i64 (-1), .int .i64 i.a, .int .i64 i.b, .int .i64 i.imm, .int .i64 i.loc, .int .i64 i.off, .int .i64 i.index, .int .i64 i.size, .int .i64 i.fn, .bool false, .bool i.weak, .bool i.rel, .int .i64 i.pred, .int .i64 i.succ, .int .i64 i.to, .bool i.zero] 23)
  have m946 := m936.upd hU944 n33
  have m947 := m937.upd hU944 n34
  have b948 := hU944.below b938 ge32
  intro a949 hA950
  refine qe_ ?_
  refine tn_ ?_
  refine wp_region_lit ?_
  refine qs hA950 rfl (dfa (wn rfl) (hA950.ev rfl) fo23_11 ?_)
  intro a951 hA952
  refine qs hA952 rfl (dst_ (wn rfl) (hA952.ev rfl) (hA952.ev rfl) one4 rfl m945 (Nat.le_of_ble_eq_true rfl) ?_)
  intro w953 hU954 (m955 : Blk w953 g27 #[.int .i64 0, .int .i64 (-1), .int .i64 i.a, .int .i64 i.b, .int .i64 i.imm, .int .i64 i.loc, .int .i64 i.off, .int .i64 i.index, .int .i64 i.size, .int .i64 i.fn, .bool false, .bool false, .bool i.rel, .int .i64 i.pred, .int .i64 i.succ, .int .i64 i.to, .bool i.zero] 23)
  have m956 := m946.upd hU954 n33
  have m957 := m947.upd hU954 n34
  have b958 := hU954.below b948 ge32
  intro a959 hA960
  refine qe_ ?_
  refine i_norm ?_
  refine tn_ ?_
  refine wp_seq ?_
  refine wp_seq ?_
  refine wp_region_lit ?_
  refine qs hA960 rfl (dfa (wn rfl) (hA960.ev rfl) fo23_0 ?_)
  intro a961 hA962
  refine qs hA962 rfl (dld (v := (.int .i64 i.op)) (wn rfl) (hA962.ev rfl) one3 (m956.cell rfl) ?_)
  intro a963 hA964
  refine qs hA964 rfl (dbn (wn rfl) (hA964.ev rfl) (hA964.ev rfl) (b_eq _ _ i.op 4 true _ hb780) ?_)
  intro a965 hA966
  refine qs hA966 rfl (dmv (wn rfl) (hA966.ev rfl) ?_)
  intro a967 hA968
  refine qs hA968 rfl (dno (wno rfl rfl (.inl (hA968.get 176 _ rfl))) ?_)
  intro a969 hA970
  refine qs hA970 rfl (dno (wno rfl rfl (.inl (hA970.get 176 _ rfl))) ?_)
  intro a971 hA972
  refine qs hA972 rfl (dno (wno rfl rfl (.inl (hA972.get 176 _ rfl))) ?_)
  intro a973 hA974
  refine qs hA974 rfl (dpt (wn rfl) (hA974.ev rfl) (hA974.ev rfl) ?_)
  intro a975 hA976
  refine qs hA976 rfl (dmv (wn rfl) (hA976.ev rfl) ?_)
  intro a977 hA978
  refine qs hA978 rfl (dno (wno rfl rfl (.inl (hA978.get 181 _ rfl))) ?_)
  intro a979 hA980
  refine qs hA980 rfl (dno (wno rfl rfl (.inl (hA980.get 181 _ rfl))) ?_)
  intro a981 hA982
  refine qs hA982 rfl (dno (wno rfl rfl (.inl (hA982.get 181 _ rfl))) ?_)
  intro a983 hA984
  refine qs hA984 rfl (dpt (wn rfl) (hA984.ev rfl) (hA984.ev rfl) ?_)
  intro a985 hA986
  refine qe_ ?_
  refine tn_ ?_
  refine c_true hA986 rfl ?_
  refine wp_seq ?_
  refine wp_region_lit ?_
  refine qs hA986 rfl (dfa (wn rfl) (hA986.ev rfl) fo23_5 ?_)
  intro a987 hA988
  refine qs hA988 rfl (dst_ (wn rfl) (hA988.ev rfl) (hA988.ev rfl) one3 rfl m955 (Nat.le_of_ble_eq_true rfl) ?_)
  intro w989 hU990 (m991 : Blk w989 g27 #[.int .i64 0, .int .i64 (-1), .int .i64 i.a, .int .i64 i.b, .int .i64 i.imm, .int .i64 0, .int .i64 i.off, .int .i64 i.index, .int .i64 i.size, .int .i64 i.fn, .bool false, .bool false, .bool i.rel, .int .i64 i.pred, .int .i64 i.succ, .int .i64 i.to, .bool i.zero] 23)
  have m992 := m956.upd hU990 n33
  have m993 := m957.upd hU990 n34
  have b994 := hU990.below b958 ge32
  intro a995 hA996
  refine qe_ ?_
  refine tn_ ?_
  refine wp_seq ?_
  refine wp_region_lit ?_
  refine qs hA996 rfl (dfa (wn rfl) (hA996.ev rfl) fo23_6 ?_)
  intro a997 hA998
  refine qs hA998 rfl (dst_ (wn rfl) (hA998.ev rfl) (hA998.ev rfl) one3 rfl m991 (Nat.le_of_ble_eq_true rfl) ?_)
  intro w999 hU1000 (m1001 : Blk w999 g27 #[.int .i64 0, .int .i64 (-1), .int .i64 i.a, .int .i64 i.b, .int .i64 i.imm, .int .i64 0, .int .i64 0, .int .i64 i.index, .int .i64 i.size, .int .i64 i.fn, .bool false, .bool false, .bool i.rel, .int .i64 i.pred, .int .i64 i.succ, .int .i64 i.to, .bool i.zero] 23)
  have m1002 := m992.upd hU1000 n33
  have m1003 := m993.upd hU1000 n34
  have b1004 := hU1000.below b994 ge32
  intro a1005 hA1006
  refine qe_ ?_
  refine tn_ ?_
  refine wp_seq ?_
  refine wp_region_lit ?_
  refine qs hA1006 rfl (dfa (wn rfl) (hA1006.ev rfl) fo23_7 ?_)
  intro a1007 hA1008
  refine qs hA1008 rfl (dst_ (wn rfl) (hA1008.ev rfl) (hA1008.ev rfl) one3 rfl m1001 (Nat.le_of_ble_eq_true rfl) ?_)
  intro w1009 hU1010 (m1011 : Blk w1009 g27 #[.int .i64 0, .int .i64 (-1), .int .i64 i.a, .int .i64 i.b, .int .i64 i.imm, .int .i64 0, .int .i64 0, .int .i64 (-1), .int .i64 i.size, .int .i64 i.fn, .bool false, .bool false, .bool i.rel, .int .i64 i.pred, .int .i64 i.succ, .int .i64 i.to, .bool i.zero] 23)
  have m1012 := m1002.upd hU1010 n33
  have m1013 := m1003.upd hU1010 n34
  have b1014 := hU1010.below b1004 ge32
  intro a1015 hA1016
  refine qe_ ?_
  refine tn_ ?_
  refine wp_region_lit ?_
  refine qs hA1016 rfl (dfa (wn rfl) (hA1016.ev rfl) fo23_8 ?_)
  intro a1017 hA1018
  refine qs hA1018 rfl (dst_ (wn rfl) (hA1018.ev rfl) (hA1018.ev rfl) one3 rfl m1011 (Nat.le_of_ble_eq_true rfl) ?_)
  intro w1019 hU1020 (m1021 : Blk w1019 g27 #[.int .i64 0, .int .i64 (-1), .int .i64 i.a, .int .i64 i.b, .int .i64 i.imm, .int .i64 0, .int .i64 0, .int .i64 (-1), .int .i64 0, .int .i64 i.fn, .bool false, .bool false, .bool i.rel, .int .i64 i.pred, .int .i64 i.succ, .int .i64 i.to, .bool i.zero] 23)
  have m1022 := m1012.upd hU1020 n33
  have m1023 := m1013.upd hU1020 n34
  have b1024 := hU1020.below b1014 ge32
  intro a1025 hA1026
  refine qe_ ?_
  refine tn_ ?_
  refine wp_seq ?_
  refine wp_region_lit ?_
  refine qs hA1026 rfl (dlr (cs := #[.int .i64 0, .int .i64 (-1), .int .i64 i.a, .int .i64 i.b, .int .i64 i.imm, .int .i64 0, .int .i64 0, .int .i64 (-1), .int .i64 0, .int .i64 i.fn, .bool false, .bool false, .bool i.rel, .int .i64 i.pred, .int .i64 i.succ, .int .i64 i.to, .bool i.zero]) (wn rfl) (hA1026.ev rfl) row23 m1021 ?_)
  intro a1027 hA1028
  refine qs hA1028 rfl (dmv (wn rfl) (hA1028.ev rfl) ?_)
  intro a1029 hA1030
  refine qs hA1030 rfl (dsr (wn rfl) (hA1030.ev rfl) (hA1030.ev rfl) row23 m1023 rfl rfl ?_)
  intro w1031 hU1032 (m1033 : Blk w1031 g12 #[.int .i64 0, .int .i64 (-1), .int .i64 i.a, .int .i64 i.b, .int .i64 i.imm, .int .i64 0, .int .i64 0, .int .i64 (-1), .int .i64 0, .int .i64 i.fn, .bool false, .bool false, .bool i.rel, .int .i64 i.pred, .int .i64 i.succ, .int .i64 i.to, .bool i.zero] 23)
  have m1034 := m1022.upd hU1032 n18
  have m1035 := m1021.upd hU1032 (Ne.symm n34)
  have b1036 := hU1032.below b1024 ge17
  intro a1037 hA1038
  refine qs hA1038 rfl (das (wn rfl) (hA1038.ev rfl) ?_)
  intro a1039 hA1040
  refine qe_ ?_
  refine tn_ ?_
  refine wp_ret ?_
  refine retCT (g := g12) (cs := #[.int .i64 0, .int .i64 (-1), .int .i64 i.a, .int .i64 i.b, .int .i64 i.imm, .int .i64 0, .int .i64 0, .int .i64 (-1), .int .i64 0, .int .i64 i.fn, .bool false, .bool false, .bool i.rel, .int .i64 i.pred, .int .i64 i.succ, .int .i64 i.to, .bool i.zero]) (v := (.bool ((regB i.dst) && ((plcB i) && (cond i.acq (!i.weak) true))))) rfl hA1040 rfl rfl m1033 row23 ?_
  exact ⟨ret_two (by simp [insC, bareF, opB, rdB, wrB, hb64, hb165, hb303, eq_of_beq hb780]) (by first | (simp [fineB, hb64, hb165, hb303, eq_of_beq hb780, Bool.or_assoc, Bool.and_assoc]; done) | (rw [Bool.eq_iff_iff]; simp [fineB, hb64, hb165, hb303, eq_of_beq hb780]; done) | (rw [Bool.eq_iff_iff]; simp [fineB, hb64, hb165, hb303, eq_of_beq hb780]; omega) | grind), b1036⟩
 have hq1041 := ne_of_beq hb780
 refine qs hA779 rfl (dbn (wn rfl) (hA779.ev rfl) (hA779.ev rfl) (b_eq _ _ i.op 4 false _ hb780) ?_)
 intro a1042 hA1043
 refine qs hA1043 rfl (das (wn rfl) (hA1043.ev rfl) ?_)
 intro a1044 hA1045
 refine qe_ ?_
 refine tn_ ?_
 refine c_false hA1045 rfl ?_
 refine wp_seq ?_
 refine wp_region_lit ?_
 rcases Bool.eq_false_or_eq_true (i.op == 5) with hb1046 | hb1046
 ·skip
  have hq1047 := eq_of_beq hb1046
  refine qs hA1045 rfl (dbn (wn rfl) (hA1045.ev rfl) (hA1045.ev rfl) (b_eq _ _ i.op 5 true _ hb1046) ?_)
  intro a1048 hA1049
  refine qs hA1049 rfl (das (wn rfl) (hA1049.ev rfl) ?_)
  intro a1050 hA1051
  refine qe_ ?_
  refine tn_ ?_
  refine c_true hA1051 rfl ?_
  refine wp_seq ?_
  refine jwp (K := fun a1052 w1053 => St 192 [(1, (.pointer (some ⟨g3, 0, none⟩))), (2, (.pointer (some ⟨g12, 0, none⟩))), (3, (.bool false)), (4, (.pointer (some ⟨g27, 0, none⟩))), (5, (.bool ((plcB i) && ((i.a == (-1)) || ((regB i.a) && (i.imm == 0))))))] a1052 ∧ Below w.heap.size w w1053 ∧ Blk w1053 g3 (insC i) 23 ∧ Blk w1053 g12 #[.int .i64 0, .int .i64 0, .int .i64 0, .int .i64 0, .int .i64 0, .int .i64 0, .int .i64 0, .int .i64 0, .int .i64 0, .int .i64 0, .bool false, .bool false, .bool false, .int .i64 0, .int .i64 0, .int .i64 0, .bool false] 23 ∧ Blk w1053 g27 #[.int .i64 0, .int .i64 i.dst, .int .i64 i.a, .int .i64 i.b, .int .i64 i.imm, .int .i64 i.loc, .int .i64 i.off, .int .i64 i.index, .int .i64 i.size, .int .i64 i.fn, .bool i.acq, .bool i.weak, .bool i.rel, .int .i64 i.pred, .int .i64 i.succ, .int .i64 i.to, .bool i.zero] 23) ?_ ?_
  ·skip
   refine wp_region_lit ?_
   refine qs hA1051 rfl (dlr (cs := (insC i)) (wn rfl) (hA1051.ev rfl) row23 m55 ?_)
   intro a1054 hA1055
   refine qs hA1055 rfl (dcl (wn rfl) ent45 (map1 (hA1055.ev rfl)) (place3_any i w52) ?_)
   rintro e1059 w1056 ⟨he1058, hG1057⟩
   have m1060 := m55.grow hG1057
   have m1061 := m56.grow hG1057
   have m1062 := m54.grow hG1057
   have b1063 := blg b57 hG1057 b57.size
   rcases Bool.eq_false_or_eq_true (plcB i) with hb1064 | hb1064
   ·skip
    refine ⟨.bool true, he1058.trans (ret_bool hb1064), ?_⟩
    intro a1066 hA1067
    refine qs hA1067 rfl (dmv (wn rfl) (hA1067.ev rfl) ?_)
    intro a1068 hA1069
    refine qs hA1069 rfl (dfa (wy rfl rfl (hA1069.get 94 _ rfl)) (hA1069.ev rfl) fo23_2 ?_)
    intro a1070 hA1071
    refine qs hA1071 rfl (dld (v := (.int .i64 i.a)) (wy rfl rfl (hA1071.get 94 _ rfl)) (hA1071.ev rfl) one3 (m1060.cell rfl) ?_)
    intro a1072 hA1073
    rcases Bool.eq_false_or_eq_true (i.a == (-1)) with hb1074 | hb1074
    ·skip
     have hq1075 := eq_of_beq hb1074
     refine qs hA1073 rfl (dbn (wy rfl rfl (hA1073.get 94 _ rfl)) (hA1073.ev rfl) (hA1073.ev rfl) (b_eq _ _ i.a (-1) true _ hb1074) ?_)
     intro a1076 hA1077
     refine qs hA1077 rfl (dmv (wy rfl rfl (hA1077.get 94 _ rfl)) (hA1077.ev rfl) ?_)
     intro a1078 hA1079
     refine qs hA1079 rfl (dno (wno rfl rfl (.inl (hA1079.get 98 _ rfl))) ?_)
     intro a1080 hA1081
     refine qs hA1081 rfl (dno (wno rfl rfl (.inl (hA1081.get 98 _ rfl))) ?_)
     intro a1082 hA1083
     refine qs hA1083 rfl (dno (wno rfl rfl (.inl (hA1083.get 98 _ rfl))) ?_)
     intro a1084 hA1085
     refine qs hA1085 rfl (dno (wno rfl rfl (.inl (hA1085.get 98 _ rfl))) ?_)
     intro a1086 hA1087
     refine qs hA1087 rfl (dno (wno rfl rfl (.inr (hA1087.get 102 _ rfl))) ?_)
     intro a1088 hA1089
     refine qs hA1089 rfl (dno (wno rfl rfl (.inr (hA1089.get 102 _ rfl))) ?_)
     intro a1090 hA1091
     refine qs hA1091 rfl (dno (wno rfl rfl (.inr (hA1091.get 102 _ rfl))) ?_)
     intro a1092 hA1093
     refine qs hA1093 rfl (dno (wno rfl rfl (.inl (hA1093.get 98 _ rfl))) ?_)
     intro a1094 hA1095
     refine qs hA1095 rfl (dpt (wy rfl rfl (hA1095.get 94 _ rfl)) (hA1095.ev rfl) (hA1095.ev rfl) ?_)
     intro a1096 hA1097
     refine qs hA1097 rfl (dpt (wn rfl) (hA1097.ev rfl) (hA1097.ev rfl) ?_)
     intro a1098 hA1099
     refine qs hA1099 rfl (das (wn rfl) (hA1099.ev rfl) ?_)
     intro a1100 hA1101
     refine qe_ ?_
     exact ⟨hA1101.cut _ (fc (hA1101.get 1 _ rfl) (fc (hA1101.get 2 _ rfl) (fc (hA1101.get 3 _ rfl) (fc (hA1101.get 4 _ rfl) (fc ((hA1101.get 5 _ rfl).trans (congrArg Value.bool (by simp [hb1064, hb1074]))) fn_))))), b1063, m1060, m1061, m1062⟩
    have hq1102 := ne_of_beq hb1074
    refine qs hA1073 rfl (dbn (wy rfl rfl (hA1073.get 94 _ rfl)) (hA1073.ev rfl) (hA1073.ev rfl) (b_eq _ _ i.a (-1) false _ hb1074) ?_)
    intro a1103 hA1104
    refine qs hA1104 rfl (dmv (wy rfl rfl (hA1104.get 94 _ rfl)) (hA1104.ev rfl) ?_)
    intro a1105 hA1106
    refine qs hA1106 rfl (dfa (wy rfl rfl (hA1106.get 98 _ rfl)) (hA1106.ev rfl) fo23_2 ?_)
    intro a1107 hA1108
    refine qs hA1108 rfl (dld (v := (.int .i64 i.a)) (wy rfl rfl (hA1108.get 98 _ rfl)) (hA1108.ev rfl) one3 (m1060.cell rfl) ?_)
    intro a1109 hA1110
    refine qs hA1110 rfl (dcl (wy rfl rfl (hA1110.get 98 _ rfl)) ent44 (map1 (hA1110.ev rfl)) (rreg_any i.a w1056) ?_)
    rintro e1114 w1111 ⟨he1113, hG1112⟩
    have m1115 := m1060.grow hG1112
    have m1116 := m1061.grow hG1112
    have m1117 := m1062.grow hG1112
    have b1118 := blg b1063 hG1112 b1063.size
    rcases Bool.eq_false_or_eq_true (regB i.a) with hb1119 | hb1119
    ·skip
     refine ⟨.bool true, he1113.trans (ret_bool hb1119), ?_⟩
     intro a1121 hA1122
     refine qs hA1122 rfl (dmv (wy rfl rfl (hA1122.get 98 _ rfl)) (hA1122.ev rfl) ?_)
     intro a1123 hA1124
     refine qs hA1124 rfl (dfa (wy rfl rfl (hA1124.get 102 _ rfl)) (hA1124.ev rfl) fo23_4 ?_)
     intro a1125 hA1126
     refine qs hA1126 rfl (dld (v := (.int .i64 i.imm)) (wy rfl rfl (hA1126.get 102 _ rfl)) (hA1126.ev rfl) one3 (m1115.cell rfl) ?_)
     intro a1127 hA1128
     rcases Bool.eq_false_or_eq_true (i.imm == 0) with hb1129 | hb1129
     ·skip
      have hq1130 := eq_of_beq hb1129
      refine qs hA1128 rfl (dbn (wy rfl rfl (hA1128.get 102 _ rfl)) (hA1128.ev rfl) (hA1128.ev rfl) (b_eq _ _ i.imm 0 true _ hb1129) ?_)
      intro a1131 hA1132
      refine qs hA1132 rfl (dpt (wy rfl rfl (hA1132.get 98 _ rfl)) (hA1132.ev rfl) (hA1132.ev rfl) ?_)
      intro a1133 hA1134
      refine qs hA1134 rfl (dpf (wy rfl rfl (hA1134.get 94 _ rfl)) (hA1134.ev rfl) (hA1134.ev rfl) ?_)
      intro a1135 hA1136
      refine qs hA1136 rfl (dpt (wn rfl) (hA1136.ev rfl) (hA1136.ev rfl) ?_)
      intro a1137 hA1138
      refine qs hA1138 rfl (das (wn rfl) (hA1138.ev rfl) ?_)
      intro a1139 hA1140
      refine qe_ ?_
      exact ⟨hA1140.cut _ (fc (hA1140.get 1 _ rfl) (fc (hA1140.get 2 _ rfl) (fc (hA1140.get 3 _ rfl) (fc (hA1140.get 4 _ rfl) (fc ((hA1140.get 5 _ rfl).trans (congrArg Value.bool (by simp [hb1064, hb1074, hb1119, hb1129]))) fn_))))), b1118, m1115, m1116, m1117⟩
     have hq1141 := ne_of_beq hb1129
     refine qs hA1128 rfl (dbn (wy rfl rfl (hA1128.get 102 _ rfl)) (hA1128.ev rfl) (hA1128.ev rfl) (b_eq _ _ i.imm 0 false _ hb1129) ?_)
     intro a1142 hA1143
     refine qs hA1143 rfl (dpt (wy rfl rfl (hA1143.get 98 _ rfl)) (hA1143.ev rfl) (hA1143.ev rfl) ?_)
     intro a1144 hA1145
     refine qs hA1145 rfl (dpf (wy rfl rfl (hA1145.get 94 _ rfl)) (hA1145.ev rfl) (hA1145.ev rfl) ?_)
     intro a1146 hA1147
     refine qs hA1147 rfl (dpt (wn rfl) (hA1147.ev rfl) (hA1147.ev rfl) ?_)
     intro a1148 hA1149
     refine qs hA1149 rfl (das (wn rfl) (hA1149.ev rfl) ?_)
     intro a1150 hA1151
     refine qe_ ?_
     exact ⟨hA1151.cut _ (fc (hA1151.get 1 _ rfl) (fc (hA1151.get 2 _ rfl) (fc (hA1151.get 3 _ rfl) (fc (hA1151.get 4 _ rfl) (fc ((hA1151.get 5 _ rfl).trans (congrArg Value.bool (by simp [hb1064, hb1074, hb1119, hb1129]))) fn_))))), b1118, m1115, m1116, m1117⟩
    refine ⟨.bool false, he1113.trans (ret_bool hb1119), ?_⟩
    intro a1153 hA1154
    refine qs hA1154 rfl (dmv (wy rfl rfl (hA1154.get 98 _ rfl)) (hA1154.ev rfl) ?_)
    intro a1155 hA1156
    refine qs hA1156 rfl (dno (wno rfl rfl (.inl (hA1156.get 102 _ rfl))) ?_)
    intro a1157 hA1158
    refine qs hA1158 rfl (dno (wno rfl rfl (.inl (hA1158.get 102 _ rfl))) ?_)
    intro a1159 hA1160
    refine qs hA1160 rfl (dno (wno rfl rfl (.inl (hA1160.get 102 _ rfl))) ?_)
    intro a1161 hA1162
    refine qs hA1162 rfl (dpf (wy rfl rfl (hA1162.get 98 _ rfl)) (hA1162.ev rfl) (hA1162.ev rfl) ?_)
    intro a1163 hA1164
    refine qs hA1164 rfl (dpf (wy rfl rfl (hA1164.get 94 _ rfl)) (hA1164.ev rfl) (hA1164.ev rfl) ?_)
    intro a1165 hA1166
    refine qs hA1166 rfl (dpt (wn rfl) (hA1166.ev rfl) (hA1166.ev rfl) ?_)
    intro a1167 hA1168
    refine qs hA1168 rfl (das (wn rfl) (hA1168.ev rfl) ?_)
    intro a1169 hA1170
    refine qe_ ?_
    exact ⟨hA1170.cut _ (fc (hA1170.get 1 _ rfl) (fc (hA1170.get 2 _ rfl) (fc (hA1170.get 3 _ rfl) (fc (hA1170.get 4 _ rfl) (fc ((hA1170.get 5 _ rfl).trans (congrArg Value.bool (by simp [hb1064, hb1074, hb1119]))) fn_))))), b1118, m1115, m1116, m1117⟩
   refine ⟨.bool false, he1058.trans (ret_bool hb1064), ?_⟩
   intro a1172 hA1173
   refine qs hA1173 rfl (dmv (wn rfl) (hA1173.ev rfl) ?_)
   intro a1174 hA1175
   refine qs hA1175 rfl (dno (wno rfl rfl (.inl (hA1175.get 94 _ rfl))) ?_)
   intro a1176 hA1177
   refine qs hA1177 rfl (dno (wno rfl rfl (.inl (hA1177.get 94 _ rfl))) ?_)
   intro a1178 hA1179
   refine qs hA1179 rfl (dno (wno rfl rfl (.inl (hA1179.get 94 _ rfl))) ?_)
   intro a1180 hA1181
   refine qs hA1181 rfl (dno (wno rfl rfl (.inl (hA1181.get 94 _ rfl))) ?_)
   intro a1182 hA1183
   refine qs hA1183 rfl (dno (wno rfl rfl (.inr (hA1183.get 98 _ rfl))) ?_)
   intro a1184 hA1185
   refine qs hA1185 rfl (dno (wno rfl rfl (.inr (hA1185.get 98 _ rfl))) ?_)
   intro a1186 hA1187
   refine qs hA1187 rfl (dno (wno rfl rfl (.inr (hA1187.get 98 _ rfl))) ?_)
   intro a1188 hA1189
   refine qs hA1189 rfl (dno (wno rfl rfl (.inr (hA1189.get 98 _ rfl))) ?_)
   intro a1190 hA1191
   refine qs hA1191 rfl (dno (wno rfl rfl (.inr (hA1191.get 102 _ rfl))) ?_)
   intro a1192 hA1193
   refine qs hA1193 rfl (dno (wno rfl rfl (.inr (hA1193.get 102 _ rfl))) ?_)
   intro a1194 hA1195
   refine qs hA1195 rfl (dno (wno rfl rfl (.inr (hA1195.get 102 _ rfl))) ?_)
   intro a1196 hA1197
   refine qs hA1197 rfl (dno (wno rfl rfl (.inr (hA1197.get 98 _ rfl))) ?_)
   intro a1198 hA1199
   refine qs hA1199 rfl (dno (wno rfl rfl (.inl (hA1199.get 94 _ rfl))) ?_)
   intro a1200 hA1201
   refine qs hA1201 rfl (dpf (wn rfl) (hA1201.ev rfl) (hA1201.ev rfl) ?_)
   intro a1202 hA1203
   refine qs hA1203 rfl (das (wn rfl) (hA1203.ev rfl) ?_)
   intro a1204 hA1205
   refine qe_ ?_
   exact ⟨hA1205.cut _ (fc (hA1205.get 1 _ rfl) (fc (hA1205.get 2 _ rfl) (fc (hA1205.get 3 _ rfl) (fc (hA1205.get 4 _ rfl) (fc ((hA1205.get 5 _ rfl).trans (congrArg Value.bool (by simp [hb1064]))) fn_))))), b1063, m1060, m1061, m1062⟩
  rintro a1052 w1053 ⟨hA1206, b1207, m1208, m1209, m1210⟩
  refine tn_ ?_
  refine wp_seq ?_
  refine wp_region_lit ?_
  refine qs hA1206 rfl (dfa (wn rfl) (hA1206.ev rfl) fo23_2 ?_)
  intro a1211 hA1212
  refine qs hA1212 rfl (dst_ (wn rfl) (hA1212.ev rfl) (hA1212.ev rfl) one3 rfl m1210 (Nat.le_of_ble_eq_true rfl) ?_)
  intro w1213 hU1214 (m1215 : Blk w1213 g27 #[.int .i64 0, .int .i64 i.dst, .int .i64 (-1), .int .i64 i.b, .int .i64 i.imm, .int .i64 i.loc, .int .i64 i.off, .int .i64 i.index, .int .i64 i.size, .int .i64 i.fn, .bool i.acq, .bool i.weak, .bool i.rel, .int .i64 i.pred, .int .i64 i.succ, .int .i64 i.to, .bool i.zero] 23)
  have m1216 := m1208.upd hU1214 n33
  have m1217 := m1209.upd hU1214 n34
  have b1218 := hU1214.below b1207 ge32
  intro a1219 hA1220
  refine qe_ ?_
  refine tn_ ?_
  refine wp_seq ?_
  refine wp_region_lit ?_
  refine qs hA1220 rfl (dfa (wn rfl) (hA1220.ev rfl) fo23_4 ?_)
  intro a1221 hA1222
  refine qs hA1222 rfl (dst_ (wn rfl) (hA1222.ev rfl) (hA1222.ev rfl) one3 rfl m1215 (Nat.le_of_ble_eq_true rfl) ?_)
  intro w1223 hU1224 (m1225 : Blk w1223 g27 #[.int .i64 0, .int .i64 i.dst, .int .i64 (-1), .int .i64 i.b, .int .i64 0, .int .i64 i.loc, .int .i64 i.off, .int .i64 i.index, .int .i64 i.size, .int .i64 i.fn, .bool i.acq, .bool i.weak, .bool i.rel, .int .i64 i.pred, .int .i64 i.succ, .int .i64 i.to, .bool i.zero] 23)
  have m1226 := m1216.upd hU1224 n33
  have m1227 := m1217.upd hU1224 n34
  have b1228 := hU1224.below b1218 ge32
  intro a1229 hA1230
  refine qe_ ?_
  refine tn_ ?_
  refine wp_region_lit ?_
  refine qs hA1230 rfl (dfa (wn rfl) (hA1230.ev rfl) fo23_12 ?_)
  intro a1231 hA1232
  refine qs hA1232 rfl (dst_ (wn rfl) (hA1232.ev rfl) (hA1232.ev rfl) one4 rfl m1225 (Nat.le_of_ble_eq_true rfl) ?_)
  intro w1233 hU1234 (m1235 : Blk w1233 g27 #[.int .i64 0, .int .i64 i.dst, .int .i64 (-1), .int .i64 i.b, .int .i64 0, .int .i64 i.loc, .int .i64 i.off, .int .i64 i.index, .int .i64 i.size, .int .i64 i.fn, .bool i.acq, .bool i.weak, .bool false, .int .i64 i.pred, .int .i64 i.succ, .int .i64 i.to, .bool i.zero] 23)
  have m1236 := m1226.upd hU1234 n33
  have m1237 := m1227.upd hU1234 n34
  have b1238 := hU1234.below b1228 ge32
  intro a1239 hA1240
  refine qe_ ?_
  refine i_norm ?_
  refine tn_ ?_
  refine wp_seq ?_
  refine wp_seq ?_
  refine wp_region_lit ?_
  refine qs hA1240 rfl (dfa (wn rfl) (hA1240.ev rfl) fo23_0 ?_)
  intro a1241 hA1242
  refine qs hA1242 rfl (dld (v := (.int .i64 i.op)) (wn rfl) (hA1242.ev rfl) one3 (m1236.cell rfl) ?_)
  intro a1243 hA1244
  refine qs hA1244 rfl (dbn (wn rfl) (hA1244.ev rfl) (hA1244.ev rfl) (b_eq _ _ i.op 4 false _ hb780) ?_)
  intro a1245 hA1246
  refine qs hA1246 rfl (dmv (wn rfl) (hA1246.ev rfl) ?_)
  intro a1247 hA1248
  refine qs hA1248 rfl (dfa (wy rfl rfl (hA1248.get 176 _ rfl)) (hA1248.ev rfl) fo23_0 ?_)
  intro a1249 hA1250
  refine qs hA1250 rfl (dld (v := (.int .i64 i.op)) (wy rfl rfl (hA1250.get 176 _ rfl)) (hA1250.ev rfl) one3 (m1236.cell rfl) ?_)
  intro a1251 hA1252
  refine qs hA1252 rfl (dbn (wy rfl rfl (hA1252.get 176 _ rfl)) (hA1252.ev rfl) (hA1252.ev rfl) (b_eq _ _ i.op 5 true _ hb1046) ?_)
  intro a1253 hA1254
  refine qs hA1254 rfl (dpf (wn rfl) (hA1254.ev rfl) (hA1254.ev rfl) ?_)
  intro a1255 hA1256
  refine qs hA1256 rfl (dmv (wn rfl) (hA1256.ev rfl) ?_)
  intro a1257 hA1258
  refine qs hA1258 rfl (dno (wno rfl rfl (.inl (hA1258.get 181 _ rfl))) ?_)
  intro a1259 hA1260
  refine qs hA1260 rfl (dno (wno rfl rfl (.inl (hA1260.get 181 _ rfl))) ?_)
  intro a1261 hA1262
  refine qs hA1262 rfl (dno (wno rfl rfl (.inl (hA1262.get 181 _ rfl))) ?_)
  intro a1263 hA1264
  refine qs hA1264 rfl (dpt (wn rfl) (hA1264.ev rfl) (hA1264.ev rfl) ?_)
  intro a1265 hA1266
  refine qe_ ?_
  refine tn_ ?_
  refine c_true hA1266 rfl ?_
  refine wp_seq ?_
  refine wp_region_lit ?_
  refine qs hA1266 rfl (dfa (wn rfl) (hA1266.ev rfl) fo23_5 ?_)
  intro a1267 hA1268
  refine qs hA1268 rfl (dst_ (wn rfl) (hA1268.ev rfl) (hA1268.ev rfl) one3 rfl m1235 (Nat.le_of_ble_eq_true rfl) ?_)
  intro w1269 hU1270 (m1271 : Blk w1269 g27 #[.int .i64 0, .int .i64 i.dst, .int .i64 (-1), .int .i64 i.b, .int .i64 0, .int .i64 0, .int .i64 i.off, .int .i64 i.index, .int .i64 i.size, .int .i64 i.fn, .bool i.acq, .bool i.weak, .bool false, .int .i64 i.pred, .int .i64 i.succ, .int .i64 i.to, .bool i.zero] 23)
  have m1272 := m1236.upd hU1270 n33
  have m1273 := m1237.upd hU1270 n34
  have b1274 := hU1270.below b1238 ge32
  intro a1275 hA1276
  refine qe_ ?_
  refine tn_ ?_
  refine wp_seq ?_
  refine wp_region_lit ?_
  refine qs hA1276 rfl (dfa (wn rfl) (hA1276.ev rfl) fo23_6 ?_)
  intro a1277 hA1278
  refine qs hA1278 rfl (dst_ (wn rfl) (hA1278.ev rfl) (hA1278.ev rfl) one3 rfl m1271 (Nat.le_of_ble_eq_true rfl) ?_)
  intro w1279 hU1280 (m1281 : Blk w1279 g27 #[.int .i64 0, .int .i64 i.dst, .int .i64 (-1), .int .i64 i.b, .int .i64 0, .int .i64 0, .int .i64 0, .int .i64 i.index, .int .i64 i.size, .int .i64 i.fn, .bool i.acq, .bool i.weak, .bool false, .int .i64 i.pred, .int .i64 i.succ, .int .i64 i.to, .bool i.zero] 23)
  have m1282 := m1272.upd hU1280 n33
  have m1283 := m1273.upd hU1280 n34
  have b1284 := hU1280.below b1274 ge32
  intro a1285 hA1286
  refine qe_ ?_
  refine tn_ ?_
  refine wp_seq ?_
  refine wp_region_lit ?_
  refine qs hA1286 rfl (dfa (wn rfl) (hA1286.ev rfl) fo23_7 ?_)
  intro a1287 hA1288
  refine qs hA1288 rfl (dst_ (wn rfl) (hA1288.ev rfl) (hA1288.ev rfl) one3 rfl m1281 (Nat.le_of_ble_eq_true rfl) ?_)
  intro w1289 hU1290 (m1291 : Blk w1289 g27 #[.int .i64 0, .int .i64 i.dst, .int .i64 (-1), .int .i64 i.b, .int .i64 0, .int .i64 0, .int .i64 0, .int .i64 (-1), .int .i64 i.size, .int .i64 i.fn, .bool i.acq, .bool i.weak, .bool false, .int .i64 i.pred, .int .i64 i.succ, .int .i64 i.to, .bool i.zero] 23)
  have m1292 := m1282.upd hU1290 n33
  have m1293 := m1283.upd hU1290 n34
  have b1294 := hU1290.below b1284 ge32
  intro a1295 hA1296
  refine qe_ ?_
  refine tn_ ?_
  refine wp_region_lit ?_
  refine qs hA1296 rfl (dfa (wn rfl) (hA1296.ev rfl) fo23_8 ?_)
  intro a1297 hA1298
  refine qs hA1298 rfl (dst_ (wn rfl) (hA1298.ev rfl) (hA1298.ev rfl) one3 rfl m1291 (Nat.le_of_ble_eq_true rfl) ?_)
  intro w1299 hU1300 (m1301 : Blk w1299 g27 #[.int .i64 0, .int .i64 i.dst, .int .i64 (-1), .int .i64 i.b, .int .i64 0, .int .i64 0, .int .i64 0, .int .i64 (-1), .int .i64 0, .int .i64 i.fn, .bool i.acq, .bool i.weak, .bool false, .int .i64 i.pred, .int .i64 i.succ, .int .i64 i.to, .bool i.zero] 23)
  have m1302 := m1292.upd hU1300 n33
  have m1303 := m1293.upd hU1300 n34
  have b1304 := hU1300.below b1294 ge32
  intro a1305 hA1306
  refine qe_ ?_
  refine tn_ ?_
  refine wp_seq ?_
  refine wp_region_lit ?_
  refine qs hA1306 rfl (dlr (cs := #[.int .i64 0, .int .i64 i.dst, .int .i64 (-1), .int .i64 i.b, .int .i64 0, .int .i64 0, .int .i64 0, .int .i64 (-1), .int .i64 0, .int .i64 i.fn, .bool i.acq, .bool i.weak, .bool false, .int .i64 i.pred, .int .i64 i.succ, .int .i64 i.to, .bool i.zero]) (wn rfl) (hA1306.ev rfl) row23 m1301 ?_)
  intro a1307 hA1308
  refine qs hA1308 rfl (dmv (wn rfl) (hA1308.ev rfl) ?_)
  intro a1309 hA1310
  refine qs hA1310 rfl (dsr (wn rfl) (hA1310.ev rfl) (hA1310.ev rfl) row23 m1303 rfl rfl ?_)
  intro w1311 hU1312 (m1313 : Blk w1311 g12 #[.int .i64 0, .int .i64 i.dst, .int .i64 (-1), .int .i64 i.b, .int .i64 0, .int .i64 0, .int .i64 0, .int .i64 (-1), .int .i64 0, .int .i64 i.fn, .bool i.acq, .bool i.weak, .bool false, .int .i64 i.pred, .int .i64 i.succ, .int .i64 i.to, .bool i.zero] 23)
  have m1314 := m1302.upd hU1312 n18
  have m1315 := m1301.upd hU1312 (Ne.symm n34)
  have b1316 := hU1312.below b1304 ge17
  intro a1317 hA1318
  refine qs hA1318 rfl (das (wn rfl) (hA1318.ev rfl) ?_)
  intro a1319 hA1320
  refine qe_ ?_
  refine tn_ ?_
  refine wp_ret ?_
  refine retCT (g := g12) (cs := #[.int .i64 0, .int .i64 i.dst, .int .i64 (-1), .int .i64 i.b, .int .i64 0, .int .i64 0, .int .i64 0, .int .i64 (-1), .int .i64 0, .int .i64 i.fn, .bool i.acq, .bool i.weak, .bool false, .int .i64 i.pred, .int .i64 i.succ, .int .i64 i.to, .bool i.zero]) (v := (.bool ((plcB i) && ((i.a == (-1)) || ((regB i.a) && (i.imm == 0)))))) rfl hA1320 rfl rfl m1313 row23 ?_
  exact ⟨ret_two (by simp [insC, bareF, opB, rdB, wrB, hb64, hb165, hb303, hb780, eq_of_beq hb1046]) (by first | (simp [fineB, hb64, hb165, hb303, hb780, eq_of_beq hb1046, Bool.or_assoc, Bool.and_assoc]; done) | (rw [Bool.eq_iff_iff]; simp [fineB, hb64, hb165, hb303, hb780, eq_of_beq hb1046]; done) | (rw [Bool.eq_iff_iff]; simp [fineB, hb64, hb165, hb303, hb780, eq_of_beq hb1046]; omega) | grind), b1316⟩
 have hq1321 := ne_of_beq hb1046
 refine qs hA1045 rfl (dbn (wn rfl) (hA1045.ev rfl) (hA1045.ev rfl) (b_eq _ _ i.op 5 false _ hb1046) ?_)
 intro a1322 hA1323
 refine qs hA1323 rfl (das (wn rfl) (hA1323.ev rfl) ?_)
 intro a1324 hA1325
 refine qe_ ?_
 refine tn_ ?_
 refine c_false hA1325 rfl ?_
 refine wp_seq ?_
 refine wp_region_lit ?_
 rcases Bool.eq_false_or_eq_true (i.op == 6) with hb1326 | hb1326
 ·skip
  have hq1327 := eq_of_beq hb1326
  refine qs hA1325 rfl (dbn (wn rfl) (hA1325.ev rfl) (hA1325.ev rfl) (b_eq _ _ i.op 6 true _ hb1326) ?_)
  intro a1328 hA1329
  refine qs hA1329 rfl (das (wn rfl) (hA1329.ev rfl) ?_)
  intro a1330 hA1331
  refine qe_ ?_
  refine tn_ ?_
  refine c_true hA1331 rfl ?_
  refine wp_seq ?_
  refine jwp (K := fun a1332 w1333 => St 192 [(1, (.pointer (some ⟨g3, 0, none⟩))), (2, (.pointer (some ⟨g12, 0, none⟩))), (3, (.bool false)), (4, (.pointer (some ⟨g27, 0, none⟩))), (5, (.bool ((regB i.dst) && ((regB i.a) && ((plcB i) && ((i.fn == 6) || (i.fn == 1)))))))] a1332 ∧ Below w.heap.size w w1333 ∧ Blk w1333 g3 (insC i) 23 ∧ Blk w1333 g12 #[.int .i64 0, .int .i64 0, .int .i64 0, .int .i64 0, .int .i64 0, .int .i64 0, .int .i64 0, .int .i64 0, .int .i64 0, .int .i64 0, .bool false, .bool false, .bool false, .int .i64 0, .int .i64 0, .int .i64 0, .bool false] 23 ∧ Blk w1333 g27 #[.int .i64 0, .int .i64 i.dst, .int .i64 i.a, .int .i64 i.b, .int .i64 i.imm, .int .i64 i.loc, .int .i64 i.off, .int .i64 i.index, .int .i64 i.size, .int .i64 i.fn, .bool i.acq, .bool i.weak, .bool i.rel, .int .i64 i.pred, .int .i64 i.succ, .int .i64 i.to, .bool i.zero] 23) ?_ ?_
  ·skip
   refine wp_region_lit ?_
   refine qs hA1331 rfl (dfa (wn rfl) (hA1331.ev rfl) fo23_1 ?_)
   intro a1334 hA1335
   refine qs hA1335 rfl (dld (v := (.int .i64 i.dst)) (wn rfl) (hA1335.ev rfl) one3 (m55.cell rfl) ?_)
   intro a1336 hA1337
   refine qs hA1337 rfl (dcl (wn rfl) ent44 (map1 (hA1337.ev rfl)) (rreg_any i.dst w52) ?_)
   rintro e1341 w1338 ⟨he1340, hG1339⟩
   have m1342 := m55.grow hG1339
   have m1343 := m56.grow hG1339
   have m1344 := m54.grow hG1339
   have b1345 := blg b57 hG1339 b57.size
   rcases Bool.eq_false_or_eq_true (regB i.dst) with hb1346 | hb1346
   ·skip
    refine ⟨.bool true, he1340.trans (ret_bool hb1346), ?_⟩
    intro a1348 hA1349
    refine qs hA1349 rfl (dmv (wn rfl) (hA1349.ev rfl) ?_)
    intro a1350 hA1351
    refine qs hA1351 rfl (dfa (wy rfl rfl (hA1351.get 117 _ rfl)) (hA1351.ev rfl) fo23_2 ?_)
    intro a1352 hA1353
    refine qs hA1353 rfl (dld (v := (.int .i64 i.a)) (wy rfl rfl (hA1353.get 117 _ rfl)) (hA1353.ev rfl) one3 (m1342.cell rfl) ?_)
    intro a1354 hA1355
    refine qs hA1355 rfl (dcl (wy rfl rfl (hA1355.get 117 _ rfl)) ent44 (map1 (hA1355.ev rfl)) (rreg_any i.a w1338) ?_)
    rintro e1359 w1356 ⟨he1358, hG1357⟩
    have m1360 := m1342.grow hG1357
    have m1361 := m1343.grow hG1357
    have m1362 := m1344.grow hG1357
    have b1363 := blg b1345 hG1357 b1345.size
    rcases Bool.eq_false_or_eq_true (regB i.a) with hb1364 | hb1364
    ·skip
     refine ⟨.bool true, he1358.trans (ret_bool hb1364), ?_⟩
     intro a1366 hA1367
     refine qs hA1367 rfl (dpt (wn rfl) (hA1367.ev rfl) (hA1367.ev rfl) ?_)
     intro a1368 hA1369
     refine qs hA1369 rfl (dmv (wn rfl) (hA1369.ev rfl) ?_)
     intro a1370 hA1371
     refine qs hA1371 rfl (dlr (cs := (insC i)) (wy rfl rfl (hA1371.get 122 _ rfl)) (hA1371.ev rfl) row23 m1360 ?_)
     intro a1372 hA1373
     refine qs hA1373 rfl (dcl (wy rfl rfl (hA1373.get 122 _ rfl)) ent45 (map1 (hA1373.ev rfl)) (place3_any i w1356) ?_)
     rintro e1377 w1374 ⟨he1376, hG1375⟩
     have m1378 := m1360.grow hG1375
     have m1379 := m1361.grow hG1375
     have m1380 := m1362.grow hG1375
     have b1381 := blg b1363 hG1375 b1363.size
     rcases Bool.eq_false_or_eq_true (plcB i) with hb1382 | hb1382
     ·skip
      refine ⟨.bool true, he1376.trans (ret_bool hb1382), ?_⟩
      intro a1384 hA1385
      refine qs hA1385 rfl (dpt (wn rfl) (hA1385.ev rfl) (hA1385.ev rfl) ?_)
      intro a1386 hA1387
      refine qs hA1387 rfl (dmv (wn rfl) (hA1387.ev rfl) ?_)
      intro a1388 hA1389
      refine qs hA1389 rfl (dfa (wy rfl rfl (hA1389.get 126 _ rfl)) (hA1389.ev rfl) fo23_9 ?_)
      intro a1390 hA1391
      refine qs hA1391 rfl (dld (v := (.int .i64 i.fn)) (wy rfl rfl (hA1391.get 126 _ rfl)) (hA1391.ev rfl) one3 (m1378.cell rfl) ?_)
      intro a1392 hA1393
      rcases Bool.eq_false_or_eq_true (i.fn == 6) with hb1394 | hb1394
      ·skip
       have hq1395 := eq_of_beq hb1394
       refine qs hA1393 rfl (dbn (wy rfl rfl (hA1393.get 126 _ rfl)) (hA1393.ev rfl) (hA1393.ev rfl) (b_eq _ _ i.fn 6 true _ hb1394) ?_)
       intro a1396 hA1397
       refine qs hA1397 rfl (dmv (wy rfl rfl (hA1397.get 126 _ rfl)) (hA1397.ev rfl) ?_)
       intro a1398 hA1399
       refine qs hA1399 rfl (dno (wno rfl rfl (.inl (hA1399.get 130 _ rfl))) ?_)
       intro a1400 hA1401
       refine qs hA1401 rfl (dno (wno rfl rfl (.inl (hA1401.get 130 _ rfl))) ?_)
       intro a1402 hA1403
       refine qs hA1403 rfl (dno (wno rfl rfl (.inl (hA1403.get 130 _ rfl))) ?_)
       intro a1404 hA1405
       refine qs hA1405 rfl (dpt (wy rfl rfl (hA1405.get 126 _ rfl)) (hA1405.ev rfl) (hA1405.ev rfl) ?_)
       intro a1406 hA1407
       refine qs hA1407 rfl (dpt (wn rfl) (hA1407.ev rfl) (hA1407.ev rfl) ?_)
       intro a1408 hA1409
       refine qs hA1409 rfl (das (wn rfl) (hA1409.ev rfl) ?_)
       intro a1410 hA1411
       refine qe_ ?_
       exact ⟨hA1411.cut _ (fc (hA1411.get 1 _ rfl) (fc (hA1411.get 2 _ rfl) (fc (hA1411.get 3 _ rfl) (fc (hA1411.get 4 _ rfl) (fc ((hA1411.get 5 _ rfl).trans (congrArg Value.bool (by simp [hb1346, hb1364, hb1382, hb1394]))) fn_))))), b1381, m1378, m1379, m1380⟩
      have hq1412 := ne_of_beq hb1394
      refine qs hA1393 rfl (dbn (wy rfl rfl (hA1393.get 126 _ rfl)) (hA1393.ev rfl) (hA1393.ev rfl) (b_eq _ _ i.fn 6 false _ hb1394) ?_)
      intro a1413 hA1414
      refine qs hA1414 rfl (dmv (wy rfl rfl (hA1414.get 126 _ rfl)) (hA1414.ev rfl) ?_)
      intro a1415 hA1416
      refine qs hA1416 rfl (dfa (wy rfl rfl (hA1416.get 130 _ rfl)) (hA1416.ev rfl) fo23_9 ?_)
      intro a1417 hA1418
      refine qs hA1418 rfl (dld (v := (.int .i64 i.fn)) (wy rfl rfl (hA1418.get 130 _ rfl)) (hA1418.ev rfl) one3 (m1378.cell rfl) ?_)
      intro a1419 hA1420
      rcases Bool.eq_false_or_eq_true (i.fn == 1) with hb1421 | hb1421
      ·skip
       have hq1422 := eq_of_beq hb1421
       refine qs hA1420 rfl (dbn (wy rfl rfl (hA1420.get 130 _ rfl)) (hA1420.ev rfl) (hA1420.ev rfl) (b_eq _ _ i.fn 1 true _ hb1421) ?_)
       intro a1423 hA1424
       refine qs hA1424 rfl (dpf (wy rfl rfl (hA1424.get 126 _ rfl)) (hA1424.ev rfl) (hA1424.ev rfl) ?_)
       intro a1425 hA1426
       refine qs hA1426 rfl (dpt (wn rfl) (hA1426.ev rfl) (hA1426.ev rfl) ?_)
       intro a1427 hA1428
       refine qs hA1428 rfl (das (wn rfl) (hA1428.ev rfl) ?_)
       intro a1429 hA1430
       refine qe_ ?_
       exact ⟨hA1430.cut _ (fc (hA1430.get 1 _ rfl) (fc (hA1430.get 2 _ rfl) (fc (hA1430.get 3 _ rfl) (fc (hA1430.get 4 _ rfl) (fc ((hA1430.get 5 _ rfl).trans (congrArg Value.bool (by simp [hb1346, hb1364, hb1382, hb1394, hb1421]))) fn_))))), b1381, m1378, m1379, m1380⟩
      have hq1431 := ne_of_beq hb1421
      refine qs hA1420 rfl (dbn (wy rfl rfl (hA1420.get 130 _ rfl)) (hA1420.ev rfl) (hA1420.ev rfl) (b_eq _ _ i.fn 1 false _ hb1421) ?_)
      intro a1432 hA1433
      refine qs hA1433 rfl (dpf (wy rfl rfl (hA1433.get 126 _ rfl)) (hA1433.ev rfl) (hA1433.ev rfl) ?_)
      intro a1434 hA1435
      refine qs hA1435 rfl (dpt (wn rfl) (hA1435.ev rfl) (hA1435.ev rfl) ?_)
      intro a1436 hA1437
      refine qs hA1437 rfl (das (wn rfl) (hA1437.ev rfl) ?_)
      intro a1438 hA1439
      refine qe_ ?_
      exact ⟨hA1439.cut _ (fc (hA1439.get 1 _ rfl) (fc (hA1439.get 2 _ rfl) (fc (hA1439.get 3 _ rfl) (fc (hA1439.get 4 _ rfl) (fc ((hA1439.get 5 _ rfl).trans (congrArg Value.bool (by simp [hb1346, hb1364, hb1382, hb1394, hb1421]))) fn_))))), b1381, m1378, m1379, m1380⟩
     refine ⟨.bool false, he1376.trans (ret_bool hb1382), ?_⟩
     intro a1441 hA1442
     refine qs hA1442 rfl (dpt (wn rfl) (hA1442.ev rfl) (hA1442.ev rfl) ?_)
     intro a1443 hA1444
     refine qs hA1444 rfl (dmv (wn rfl) (hA1444.ev rfl) ?_)
     intro a1445 hA1446
     refine qs hA1446 rfl (dno (wno rfl rfl (.inl (hA1446.get 126 _ rfl))) ?_)
     intro a1447 hA1448
     refine qs hA1448 rfl (dno (wno rfl rfl (.inl (hA1448.get 126 _ rfl))) ?_)
     intro a1449 hA1450
     refine qs hA1450 rfl (dno (wno rfl rfl (.inl (hA1450.get 126 _ rfl))) ?_)
     intro a1451 hA1452
     refine qs hA1452 rfl (dno (wno rfl rfl (.inl (hA1452.get 126 _ rfl))) ?_)
     intro a1453 hA1454
     refine qs hA1454 rfl (dno (wno rfl rfl (.inr (hA1454.get 130 _ rfl))) ?_)
     intro a1455 hA1456
     refine qs hA1456 rfl (dno (wno rfl rfl (.inr (hA1456.get 130 _ rfl))) ?_)
     intro a1457 hA1458
     refine qs hA1458 rfl (dno (wno rfl rfl (.inr (hA1458.get 130 _ rfl))) ?_)
     intro a1459 hA1460
     refine qs hA1460 rfl (dno (wno rfl rfl (.inl (hA1460.get 126 _ rfl))) ?_)
     intro a1461 hA1462
     refine qs hA1462 rfl (dpf (wn rfl) (hA1462.ev rfl) (hA1462.ev rfl) ?_)
     intro a1463 hA1464
     refine qs hA1464 rfl (das (wn rfl) (hA1464.ev rfl) ?_)
     intro a1465 hA1466
     refine qe_ ?_
     exact ⟨hA1466.cut _ (fc (hA1466.get 1 _ rfl) (fc (hA1466.get 2 _ rfl) (fc (hA1466.get 3 _ rfl) (fc (hA1466.get 4 _ rfl) (fc ((hA1466.get 5 _ rfl).trans (congrArg Value.bool (by simp [hb1346, hb1364, hb1382]))) fn_))))), b1381, m1378, m1379, m1380⟩
    refine ⟨.bool false, he1358.trans (ret_bool hb1364), ?_⟩
    intro a1468 hA1469
    refine qs hA1469 rfl (dpt (wn rfl) (hA1469.ev rfl) (hA1469.ev rfl) ?_)
    intro a1470 hA1471
    refine qs hA1471 rfl (dmv (wn rfl) (hA1471.ev rfl) ?_)
    intro a1472 hA1473
    refine qs hA1473 rfl (dno (wno rfl rfl (.inl (hA1473.get 122 _ rfl))) ?_)
    intro a1474 hA1475
    refine qs hA1475 rfl (dno (wno rfl rfl (.inl (hA1475.get 122 _ rfl))) ?_)
    intro a1476 hA1477
    refine qs hA1477 rfl (dpf (wn rfl) (hA1477.ev rfl) (hA1477.ev rfl) ?_)
    intro a1478 hA1479
    refine qs hA1479 rfl (dmv (wn rfl) (hA1479.ev rfl) ?_)
    intro a1480 hA1481
    refine qs hA1481 rfl (dno (wno rfl rfl (.inl (hA1481.get 126 _ rfl))) ?_)
    intro a1482 hA1483
    refine qs hA1483 rfl (dno (wno rfl rfl (.inl (hA1483.get 126 _ rfl))) ?_)
    intro a1484 hA1485
    refine qs hA1485 rfl (dno (wno rfl rfl (.inl (hA1485.get 126 _ rfl))) ?_)
    intro a1486 hA1487
    refine qs hA1487 rfl (dno (wno rfl rfl (.inl (hA1487.get 126 _ rfl))) ?_)
    intro a1488 hA1489
    refine qs hA1489 rfl (dno (wno rfl rfl (.inr (hA1489.get 130 _ rfl))) ?_)
    intro a1490 hA1491
    refine qs hA1491 rfl (dno (wno rfl rfl (.inr (hA1491.get 130 _ rfl))) ?_)
    intro a1492 hA1493
    refine qs hA1493 rfl (dno (wno rfl rfl (.inr (hA1493.get 130 _ rfl))) ?_)
    intro a1494 hA1495
    refine qs hA1495 rfl (dno (wno rfl rfl (.inl (hA1495.get 126 _ rfl))) ?_)
    intro a1496 hA1497
    refine qs hA1497 rfl (dpf (wn rfl) (hA1497.ev rfl) (hA1497.ev rfl) ?_)
    intro a1498 hA1499
    refine qs hA1499 rfl (das (wn rfl) (hA1499.ev rfl) ?_)
    intro a1500 hA1501
    refine qe_ ?_
    exact ⟨hA1501.cut _ (fc (hA1501.get 1 _ rfl) (fc (hA1501.get 2 _ rfl) (fc (hA1501.get 3 _ rfl) (fc (hA1501.get 4 _ rfl) (fc ((hA1501.get 5 _ rfl).trans (congrArg Value.bool (by simp [hb1346, hb1364]))) fn_))))), b1363, m1360, m1361, m1362⟩
   refine ⟨.bool false, he1340.trans (ret_bool hb1346), ?_⟩
   intro a1503 hA1504
   refine qs hA1504 rfl (dmv (wn rfl) (hA1504.ev rfl) ?_)
   intro a1505 hA1506
   refine qs hA1506 rfl (dno (wno rfl rfl (.inl (hA1506.get 117 _ rfl))) ?_)
   intro a1507 hA1508
   refine qs hA1508 rfl (dno (wno rfl rfl (.inl (hA1508.get 117 _ rfl))) ?_)
   intro a1509 hA1510
   refine qs hA1510 rfl (dno (wno rfl rfl (.inl (hA1510.get 117 _ rfl))) ?_)
   intro a1511 hA1512
   refine qs hA1512 rfl (dpf (wn rfl) (hA1512.ev rfl) (hA1512.ev rfl) ?_)
   intro a1513 hA1514
   refine qs hA1514 rfl (dmv (wn rfl) (hA1514.ev rfl) ?_)
   intro a1515 hA1516
   refine qs hA1516 rfl (dno (wno rfl rfl (.inl (hA1516.get 122 _ rfl))) ?_)
   intro a1517 hA1518
   refine qs hA1518 rfl (dno (wno rfl rfl (.inl (hA1518.get 122 _ rfl))) ?_)
   intro a1519 hA1520
   refine qs hA1520 rfl (dpf (wn rfl) (hA1520.ev rfl) (hA1520.ev rfl) ?_)
   intro a1521 hA1522
   refine qs hA1522 rfl (dmv (wn rfl) (hA1522.ev rfl) ?_)
   intro a1523 hA1524
   refine qs hA1524 rfl (dno (wno rfl rfl (.inl (hA1524.get 126 _ rfl))) ?_)
   intro a1525 hA1526
   refine qs hA1526 rfl (dno (wno rfl rfl (.inl (hA1526.get 126 _ rfl))) ?_)
   intro a1527 hA1528
   refine qs hA1528 rfl (dno (wno rfl rfl (.inl (hA1528.get 126 _ rfl))) ?_)
   intro a1529 hA1530
   refine qs hA1530 rfl (dno (wno rfl rfl (.inl (hA1530.get 126 _ rfl))) ?_)
   intro a1531 hA1532
   refine qs hA1532 rfl (dno (wno rfl rfl (.inr (hA1532.get 130 _ rfl))) ?_)
   intro a1533 hA1534
   refine qs hA1534 rfl (dno (wno rfl rfl (.inr (hA1534.get 130 _ rfl))) ?_)
   intro a1535 hA1536
   refine qs hA1536 rfl (dno (wno rfl rfl (.inr (hA1536.get 130 _ rfl))) ?_)
   intro a1537 hA1538
   refine qs hA1538 rfl (dno (wno rfl rfl (.inl (hA1538.get 126 _ rfl))) ?_)
   intro a1539 hA1540
   refine qs hA1540 rfl (dpf (wn rfl) (hA1540.ev rfl) (hA1540.ev rfl) ?_)
   intro a1541 hA1542
   refine qs hA1542 rfl (das (wn rfl) (hA1542.ev rfl) ?_)
   intro a1543 hA1544
   refine qe_ ?_
   exact ⟨hA1544.cut _ (fc (hA1544.get 1 _ rfl) (fc (hA1544.get 2 _ rfl) (fc (hA1544.get 3 _ rfl) (fc (hA1544.get 4 _ rfl) (fc ((hA1544.get 5 _ rfl).trans (congrArg Value.bool (by simp [hb1346]))) fn_))))), b1345, m1342, m1343, m1344⟩
  rintro a1332 w1333 ⟨hA1545, b1546, m1547, m1548, m1549⟩
  refine tn_ ?_
  refine wp_seq ?_
  refine wp_region_lit ?_
  refine qs hA1545 rfl (dfa (wn rfl) (hA1545.ev rfl) fo23_1 ?_)
  intro a1550 hA1551
  refine qs hA1551 rfl (dst_ (wn rfl) (hA1551.ev rfl) (hA1551.ev rfl) one3 rfl m1549 (Nat.le_of_ble_eq_true rfl) ?_)
  intro w1552 hU1553 (m1554 : Blk w1552 g27 #[.int .i64 0, .int .i64 (-1), .int .i64 i.a, .int .i64 i.b, .int .i64 i.imm, .int .i64 i.loc, .int .i64 i.off, .int .i64 i.index, .int .i64 i.size, .int .i64 i.fn, .bool i.acq, .bool i.weak, .bool i.rel, .int .i64 i.pred, .int .i64 i.succ, .int .i64 i.to, .bool i.zero] 23)
  have m1555 := m1547.upd hU1553 n33
  have m1556 := m1548.upd hU1553 n34
  have b1557 := hU1553.below b1546 ge32
  intro a1558 hA1559
  refine qe_ ?_
  refine tn_ ?_
  refine wp_seq ?_
  refine wp_region_lit ?_
  refine qs hA1559 rfl (dfa (wn rfl) (hA1559.ev rfl) fo23_2 ?_)
  intro a1560 hA1561
  refine qs hA1561 rfl (dst_ (wn rfl) (hA1561.ev rfl) (hA1561.ev rfl) one3 rfl m1554 (Nat.le_of_ble_eq_true rfl) ?_)
  intro w1562 hU1563 (m1564 : Blk w1562 g27 #[.int .i64 0, .int .i64 (-1), .int .i64 (-1), .int .i64 i.b, .int .i64 i.imm, .int .i64 i.loc, .int .i64 i.off, .int .i64 i.index, .int .i64 i.size, .int .i64 i.fn, .bool i.acq, .bool i.weak, .bool i.rel, .int .i64 i.pred, .int .i64 i.succ, .int .i64 i.to, .bool i.zero] 23)
  have m1565 := m1555.upd hU1563 n33
  have m1566 := m1556.upd hU1563 n34
  have b1567 := hU1563.below b1557 ge32
  intro a1568 hA1569
  refine qe_ ?_
  refine tn_ ?_
  refine wp_seq ?_
  refine wp_region_lit ?_
  refine qs hA1569 rfl (dfa (wn rfl) (hA1569.ev rfl) fo23_9 ?_)
  intro a1570 hA1571
  refine qs hA1571 rfl (dst_ (wn rfl) (hA1571.ev rfl) (hA1571.ev rfl) one3 rfl m1564 (Nat.le_of_ble_eq_true rfl) ?_)
  intro w1572 hU1573 (m1574 : Blk w1572 g27 #[.int .i64 0, .int .i64 (-1), .int .i64 (-1), .int .i64 i.b, .int .i64 i.imm, .int .i64 i.loc, .int .i64 i.off, .int .i64 i.index, .int .i64 i.size, .int .i64 0, .bool i.acq, .bool i.weak, .bool i.rel, .int .i64 i.pred, .int .i64 i.succ, .int .i64 i.to, .bool i.zero] 23)
  have m1575 := m1565.upd hU1573 n33
  have m1576 := m1566.upd hU1573 n34
  have b1577 := hU1573.below b1567 ge32
  intro a1578 hA1579
  refine qe_ ?_
  refine tn_ ?_
  refine wp_seq ?_
  refine wp_region_lit ?_
  refine qs hA1579 rfl (dfa (wn rfl) (hA1579.ev rfl) fo23_10 ?_)
  intro a1580 hA1581
  refine qs hA1581 rfl (dst_ (wn rfl) (hA1581.ev rfl) (hA1581.ev rfl) one4 rfl m1574 (Nat.le_of_ble_eq_true rfl) ?_)
  intro w1582 hU1583 (m1584 : Blk w1582 g27 #[.int .i64 0, .int .i64 (-1), .int .i64 (-1), .int .i64 i.b, .int .i64 i.imm, .int .i64 i.loc, .int .i64 i.off, .int .i64 i.index, .int .i64 i.size, .int .i64 0, .bool false, .bool i.weak, .bool i.rel, .int .i64 i.pred, .int .i64 i.succ, .int .i64 i.to, .bool i.zero] 23)
  have m1585 := m1575.upd hU1583 n33
  have m1586 := m1576.upd hU1583 n34
  have b1587 := hU1583.below b1577 ge32
  intro a1588 hA1589
  refine qe_ ?_
  refine tn_ ?_
  refine wp_region_lit ?_
  refine qs hA1589 rfl (dfa (wn rfl) (hA1589.ev rfl) fo23_12 ?_)
  intro a1590 hA1591
  refine qs hA1591 rfl (dst_ (wn rfl) (hA1591.ev rfl) (hA1591.ev rfl) one4 rfl m1584 (Nat.le_of_ble_eq_true rfl) ?_)
  intro w1592 hU1593 (m1594 : Blk w1592 g27 #[.int .i64 0, .int .i64 (-1), .int .i64 (-1), .int .i64 i.b, .int .i64 i.imm, .int .i64 i.loc, .int .i64 i.off, .int .i64 i.index, .int .i64 i.size, .int .i64 0, .bool false, .bool i.weak, .bool false, .int .i64 i.pred, .int .i64 i.succ, .int .i64 i.to, .bool i.zero] 23)
  have m1595 := m1585.upd hU1593 n33
  have m1596 := m1586.upd hU1593 n34
  have b1597 := hU1593.below b1587 ge32
  intro a1598 hA1599
  refine qe_ ?_
  refine i_norm ?_
  refine tn_ ?_
  refine wp_seq ?_
  refine wp_seq ?_
  refine wp_region_lit ?_
  refine qs hA1599 rfl (dfa (wn rfl) (hA1599.ev rfl) fo23_0 ?_)
  intro a1600 hA1601
  refine qs hA1601 rfl (dld (v := (.int .i64 i.op)) (wn rfl) (hA1601.ev rfl) one3 (m1595.cell rfl) ?_)
  intro a1602 hA1603
  refine qs hA1603 rfl (dbn (wn rfl) (hA1603.ev rfl) (hA1603.ev rfl) (b_eq _ _ i.op 4 false _ hb780) ?_)
  intro a1604 hA1605
  refine qs hA1605 rfl (dmv (wn rfl) (hA1605.ev rfl) ?_)
  intro a1606 hA1607
  refine qs hA1607 rfl (dfa (wy rfl rfl (hA1607.get 176 _ rfl)) (hA1607.ev rfl) fo23_0 ?_)
  intro a1608 hA1609
  refine qs hA1609 rfl (dld (v := (.int .i64 i.op)) (wy rfl rfl (hA1609.get 176 _ rfl)) (hA1609.ev rfl) one3 (m1595.cell rfl) ?_)
  intro a1610 hA1611
  refine qs hA1611 rfl (dbn (wy rfl rfl (hA1611.get 176 _ rfl)) (hA1611.ev rfl) (hA1611.ev rfl) (b_eq _ _ i.op 5 false _ hb1046) ?_)
  intro a1612 hA1613
  refine qs hA1613 rfl (dpf (wn rfl) (hA1613.ev rfl) (hA1613.ev rfl) ?_)
  intro a1614 hA1615
  refine qs hA1615 rfl (dmv (wn rfl) (hA1615.ev rfl) ?_)
  intro a1616 hA1617
  refine qs hA1617 rfl (dfa (wy rfl rfl (hA1617.get 181 _ rfl)) (hA1617.ev rfl) fo23_0 ?_)
  intro a1618 hA1619
  refine qs hA1619 rfl (dld (v := (.int .i64 i.op)) (wy rfl rfl (hA1619.get 181 _ rfl)) (hA1619.ev rfl) one3 (m1595.cell rfl) ?_)
  intro a1620 hA1621
  refine qs hA1621 rfl (dbn (wy rfl rfl (hA1621.get 181 _ rfl)) (hA1621.ev rfl) (hA1621.ev rfl) (b_eq _ _ i.op 6 true _ hb1326) ?_)
  intro a1622 hA1623
  refine qs hA1623 rfl (dpf (wn rfl) (hA1623.ev rfl) (hA1623.ev rfl) ?_)
  intro a1624 hA1625
  refine qe_ ?_
  refine tn_ ?_
  refine c_true hA1625 rfl ?_
  refine wp_seq ?_
  refine wp_region_lit ?_
  refine qs hA1625 rfl (dfa (wn rfl) (hA1625.ev rfl) fo23_5 ?_)
  intro a1626 hA1627
  refine qs hA1627 rfl (dst_ (wn rfl) (hA1627.ev rfl) (hA1627.ev rfl) one3 rfl m1594 (Nat.le_of_ble_eq_true rfl) ?_)
  intro w1628 hU1629 (m1630 : Blk w1628 g27 #[.int .i64 0, .int .i64 (-1), .int .i64 (-1), .int .i64 i.b, .int .i64 i.imm, .int .i64 0, .int .i64 i.off, .int .i64 i.index, .int .i64 i.size, .int .i64 0, .bool false, .bool i.weak, .bool false, .int .i64 i.pred, .int .i64 i.succ, .int .i64 i.to, .bool i.zero] 23)
  have m1631 := m1595.upd hU1629 n33
  have m1632 := m1596.upd hU1629 n34
  have b1633 := hU1629.below b1597 ge32
  intro a1634 hA1635
  refine qe_ ?_
  refine tn_ ?_
  refine wp_seq ?_
  refine wp_region_lit ?_
  refine qs hA1635 rfl (dfa (wn rfl) (hA1635.ev rfl) fo23_6 ?_)
  intro a1636 hA1637
  refine qs hA1637 rfl (dst_ (wn rfl) (hA1637.ev rfl) (hA1637.ev rfl) one3 rfl m1630 (Nat.le_of_ble_eq_true rfl) ?_)
  intro w1638 hU1639 (m1640 : Blk w1638 g27 #[.int .i64 0, .int .i64 (-1), .int .i64 (-1), .int .i64 i.b, .int .i64 i.imm, .int .i64 0, .int .i64 0, .int .i64 i.index, .int .i64 i.size, .int .i64 0, .bool false, .bool i.weak, .bool false, .int .i64 i.pred, .int .i64 i.succ, .int .i64 i.to, .bool i.zero] 23)
  have m1641 := m1631.upd hU1639 n33
  have m1642 := m1632.upd hU1639 n34
  have b1643 := hU1639.below b1633 ge32
  intro a1644 hA1645
  refine qe_ ?_
  refine tn_ ?_
  refine wp_seq ?_
  refine wp_region_lit ?_
  refine qs hA1645 rfl (dfa (wn rfl) (hA1645.ev rfl) fo23_7 ?_)
  intro a1646 hA1647
  refine qs hA1647 rfl (dst_ (wn rfl) (hA1647.ev rfl) (hA1647.ev rfl) one3 rfl m1640 (Nat.le_of_ble_eq_true rfl) ?_)
  intro w1648 hU1649 (m1650 : Blk w1648 g27 #[.int .i64 0, .int .i64 (-1), .int .i64 (-1), .int .i64 i.b, .int .i64 i.imm, .int .i64 0, .int .i64 0, .int .i64 (-1), .int .i64 i.size, .int .i64 0, .bool false, .bool i.weak, .bool false, .int .i64 i.pred, .int .i64 i.succ, .int .i64 i.to, .bool i.zero] 23)
  have m1651 := m1641.upd hU1649 n33
  have m1652 := m1642.upd hU1649 n34
  have b1653 := hU1649.below b1643 ge32
  intro a1654 hA1655
  refine qe_ ?_
  refine tn_ ?_
  refine wp_region_lit ?_
  refine qs hA1655 rfl (dfa (wn rfl) (hA1655.ev rfl) fo23_8 ?_)
  intro a1656 hA1657
  refine qs hA1657 rfl (dst_ (wn rfl) (hA1657.ev rfl) (hA1657.ev rfl) one3 rfl m1650 (Nat.le_of_ble_eq_true rfl) ?_)
  intro w1658 hU1659 (m1660 : Blk w1658 g27 #[.int .i64 0, .int .i64 (-1), .int .i64 (-1), .int .i64 i.b, .int .i64 i.imm, .int .i64 0, .int .i64 0, .int .i64 (-1), .int .i64 0, .int .i64 0, .bool false, .bool i.weak, .bool false, .int .i64 i.pred, .int .i64 i.succ, .int .i64 i.to, .bool i.zero] 23)
  have m1661 := m1651.upd hU1659 n33
  have m1662 := m1652.upd hU1659 n34
  have b1663 := hU1659.below b1653 ge32
  intro a1664 hA1665
  refine qe_ ?_
  refine tn_ ?_
  refine wp_seq ?_
  refine wp_region_lit ?_
  refine qs hA1665 rfl (dlr (cs := #[.int .i64 0, .int .i64 (-1), .int .i64 (-1), .int .i64 i.b, .int .i64 i.imm, .int .i64 0, .int .i64 0, .int .i64 (-1), .int .i64 0, .int .i64 0, .bool false, .bool i.weak, .bool false, .int .i64 i.pred, .int .i64 i.succ, .int .i64 i.to, .bool i.zero]) (wn rfl) (hA1665.ev rfl) row23 m1660 ?_)
  intro a1666 hA1667
  refine qs hA1667 rfl (dmv (wn rfl) (hA1667.ev rfl) ?_)
  intro a1668 hA1669
  refine qs hA1669 rfl (dsr (wn rfl) (hA1669.ev rfl) (hA1669.ev rfl) row23 m1662 rfl rfl ?_)
  intro w1670 hU1671 (m1672 : Blk w1670 g12 #[.int .i64 0, .int .i64 (-1), .int .i64 (-1), .int .i64 i.b, .int .i64 i.imm, .int .i64 0, .int .i64 0, .int .i64 (-1), .int .i64 0, .int .i64 0, .bool false, .bool i.weak, .bool false, .int .i64 i.pred, .int .i64 i.succ, .int .i64 i.to, .bool i.zero] 23)
  have m1673 := m1661.upd hU1671 n18
  have m1674 := m1660.upd hU1671 (Ne.symm n34)
  have b1675 := hU1671.below b1663 ge17
  intro a1676 hA1677
  refine qs hA1677 rfl (das (wn rfl) (hA1677.ev rfl) ?_)
  intro a1678 hA1679
  refine qe_ ?_
  refine tn_ ?_
  refine wp_ret ?_
  refine retCT (g := g12) (cs := #[.int .i64 0, .int .i64 (-1), .int .i64 (-1), .int .i64 i.b, .int .i64 i.imm, .int .i64 0, .int .i64 0, .int .i64 (-1), .int .i64 0, .int .i64 0, .bool false, .bool i.weak, .bool false, .int .i64 i.pred, .int .i64 i.succ, .int .i64 i.to, .bool i.zero]) (v := (.bool ((regB i.dst) && ((regB i.a) && ((plcB i) && ((i.fn == 6) || (i.fn == 1))))))) rfl hA1679 rfl rfl m1672 row23 ?_
  exact ⟨ret_two (by simp [insC, bareF, opB, rdB, wrB, hb64, hb165, hb303, hb780, hb1046, eq_of_beq hb1326]) (by first | (simp [fineB, hb64, hb165, hb303, hb780, hb1046, eq_of_beq hb1326, Bool.or_assoc, Bool.and_assoc]; done) | (rw [Bool.eq_iff_iff]; simp [fineB, hb64, hb165, hb303, hb780, hb1046, eq_of_beq hb1326]; done) | (rw [Bool.eq_iff_iff]; simp [fineB, hb64, hb165, hb303, hb780, hb1046, eq_of_beq hb1326]; omega) | grind), b1675⟩
 have hq1680 := ne_of_beq hb1326
 refine qs hA1325 rfl (dbn (wn rfl) (hA1325.ev rfl) (hA1325.ev rfl) (b_eq _ _ i.op 6 false _ hb1326) ?_)
 intro a1681 hA1682
 refine qs hA1682 rfl (das (wn rfl) (hA1682.ev rfl) ?_)
 intro a1683 hA1684
 refine qe_ ?_
 refine tn_ ?_
 refine c_false hA1684 rfl ?_
 refine wp_seq ?_
 refine wp_region_lit ?_
 rcases Bool.eq_false_or_eq_true (i.op == 7) with hb1685 | hb1685
 ·skip
  have hq1686 := eq_of_beq hb1685
  refine qs hA1684 rfl (dbn (wn rfl) (hA1684.ev rfl) (hA1684.ev rfl) (b_eq _ _ i.op 7 true _ hb1685) ?_)
  intro a1687 hA1688
  refine qs hA1688 rfl (das (wn rfl) (hA1688.ev rfl) ?_)
  intro a1689 hA1690
  refine qe_ ?_
  refine tn_ ?_
  refine c_true hA1690 rfl ?_
  refine wp_seq ?_
  refine jwp (K := fun a1691 w1692 => St 192 [(1, (.pointer (some ⟨g3, 0, none⟩))), (2, (.pointer (some ⟨g12, 0, none⟩))), (3, (.bool false)), (4, (.pointer (some ⟨g27, 0, none⟩))), (5, (.bool ((decide (i.pred ≥ 1)) && ((decide (i.pred ≤ 3)) && ((decide (i.succ ≥ 1)) && (decide (i.succ ≤ 3)))))))] a1691 ∧ Below w.heap.size w w1692 ∧ Blk w1692 g3 (insC i) 23 ∧ Blk w1692 g12 #[.int .i64 0, .int .i64 0, .int .i64 0, .int .i64 0, .int .i64 0, .int .i64 0, .int .i64 0, .int .i64 0, .int .i64 0, .int .i64 0, .bool false, .bool false, .bool false, .int .i64 0, .int .i64 0, .int .i64 0, .bool false] 23 ∧ Blk w1692 g27 #[.int .i64 0, .int .i64 i.dst, .int .i64 i.a, .int .i64 i.b, .int .i64 i.imm, .int .i64 i.loc, .int .i64 i.off, .int .i64 i.index, .int .i64 i.size, .int .i64 i.fn, .bool i.acq, .bool i.weak, .bool i.rel, .int .i64 i.pred, .int .i64 i.succ, .int .i64 i.to, .bool i.zero] 23) ?_ ?_
  ·skip
   refine wp_region_lit ?_
   refine qs hA1690 rfl (dfa (wn rfl) (hA1690.ev rfl) fo23_13 ?_)
   intro a1693 hA1694
   refine qs hA1694 rfl (dld (v := (.int .i64 i.pred)) (wn rfl) (hA1694.ev rfl) one3 (m55.cell rfl) ?_)
   intro a1695 hA1696
   rcases Bool.eq_false_or_eq_true (decide (i.pred ≥ 1)) with hb1697 | hb1697
   ·skip
    have hq1698 := of_decide_eq_true hb1697
    refine qs hA1696 rfl (dbn (wn rfl) (hA1696.ev rfl) (hA1696.ev rfl) (b_ge _ _ i.pred 1 true _ hb1697) ?_)
    intro a1699 hA1700
    refine qs hA1700 rfl (dmv (wn rfl) (hA1700.ev rfl) ?_)
    intro a1701 hA1702
    refine qs hA1702 rfl (dfa (wy rfl rfl (hA1702.get 146 _ rfl)) (hA1702.ev rfl) fo23_13 ?_)
    intro a1703 hA1704
    refine qs hA1704 rfl (dld (v := (.int .i64 i.pred)) (wy rfl rfl (hA1704.get 146 _ rfl)) (hA1704.ev rfl) one3 (m55.cell rfl) ?_)
    intro a1705 hA1706
    rcases Bool.eq_false_or_eq_true (decide (i.pred ≤ 3)) with hb1707 | hb1707
    ·skip
     have hq1708 := of_decide_eq_true hb1707
     refine qs hA1706 rfl (dbn (wy rfl rfl (hA1706.get 146 _ rfl)) (hA1706.ev rfl) (hA1706.ev rfl) (b_le _ _ i.pred 3 true _ hb1707) ?_)
     intro a1709 hA1710
     refine qs hA1710 rfl (dpt (wn rfl) (hA1710.ev rfl) (hA1710.ev rfl) ?_)
     intro a1711 hA1712
     refine qs hA1712 rfl (dmv (wn rfl) (hA1712.ev rfl) ?_)
     intro a1713 hA1714
     refine qs hA1714 rfl (dfa (wy rfl rfl (hA1714.get 151 _ rfl)) (hA1714.ev rfl) fo23_14 ?_)
     intro a1715 hA1716
     refine qs hA1716 rfl (dld (v := (.int .i64 i.succ)) (wy rfl rfl (hA1716.get 151 _ rfl)) (hA1716.ev rfl) one3 (m55.cell rfl) ?_)
     intro a1717 hA1718
     rcases Bool.eq_false_or_eq_true (decide (i.succ ≥ 1)) with hb1719 | hb1719
     ·skip
      have hq1720 := of_decide_eq_true hb1719
      refine qs hA1718 rfl (dbn (wy rfl rfl (hA1718.get 151 _ rfl)) (hA1718.ev rfl) (hA1718.ev rfl) (b_ge _ _ i.succ 1 true _ hb1719) ?_)
      intro a1721 hA1722
      refine qs hA1722 rfl (dpt (wn rfl) (hA1722.ev rfl) (hA1722.ev rfl) ?_)
      intro a1723 hA1724
      refine qs hA1724 rfl (dmv (wn rfl) (hA1724.ev rfl) ?_)
      intro a1725 hA1726
      refine qs hA1726 rfl (dfa (wy rfl rfl (hA1726.get 156 _ rfl)) (hA1726.ev rfl) fo23_14 ?_)
      intro a1727 hA1728
      refine qs hA1728 rfl (dld (v := (.int .i64 i.succ)) (wy rfl rfl (hA1728.get 156 _ rfl)) (hA1728.ev rfl) one3 (m55.cell rfl) ?_)
      intro a1729 hA1730
      rcases Bool.eq_false_or_eq_true (decide (i.succ ≤ 3)) with hb1731 | hb1731
      ·skip
       have hq1732 := of_decide_eq_true hb1731
       refine qs hA1730 rfl (dbn (wy rfl rfl (hA1730.get 156 _ rfl)) (hA1730.ev rfl) (hA1730.ev rfl) (b_le _ _ i.succ 3 true _ hb1731) ?_)
       intro a1733 hA1734
       refine qs hA1734 rfl (dpt (wn rfl) (hA1734.ev rfl) (hA1734.ev rfl) ?_)
       intro a1735 hA1736
       refine qs hA1736 rfl (das (wn rfl) (hA1736.ev rfl) ?_)
       intro a1737 hA1738
       refine qe_ ?_
       exact ⟨hA1738.cut _ (fc (hA1738.get 1 _ rfl) (fc (hA1738.get 2 _ rfl) (fc (hA1738.get 3 _ rfl) (fc (hA1738.get 4 _ rfl) (fc ((hA1738.get 5 _ rfl).trans (congrArg Value.bool (by simp [hb1697, hb1707, hb1719, hb1731]))) fn_))))), b57, m55, m56, m54⟩
      have hq1739 := of_decide_eq_false hb1731
      refine qs hA1730 rfl (dbn (wy rfl rfl (hA1730.get 156 _ rfl)) (hA1730.ev rfl) (hA1730.ev rfl) (b_le _ _ i.succ 3 false _ hb1731) ?_)
      intro a1740 hA1741
      refine qs hA1741 rfl (dpt (wn rfl) (hA1741.ev rfl) (hA1741.ev rfl) ?_)
      intro a1742 hA1743
      refine qs hA1743 rfl (das (wn rfl) (hA1743.ev rfl) ?_)
      intro a1744 hA1745
      refine qe_ ?_
      exact ⟨hA1745.cut _ (fc (hA1745.get 1 _ rfl) (fc (hA1745.get 2 _ rfl) (fc (hA1745.get 3 _ rfl) (fc (hA1745.get 4 _ rfl) (fc ((hA1745.get 5 _ rfl).trans (congrArg Value.bool (by simp [hb1697, hb1707, hb1719, hb1731]))) fn_))))), b57, m55, m56, m54⟩
     have hq1746 := of_decide_eq_false hb1719
     refine qs hA1718 rfl (dbn (wy rfl rfl (hA1718.get 151 _ rfl)) (hA1718.ev rfl) (hA1718.ev rfl) (b_ge _ _ i.succ 1 false _ hb1719) ?_)
     intro a1747 hA1748
     refine qs hA1748 rfl (dpt (wn rfl) (hA1748.ev rfl) (hA1748.ev rfl) ?_)
     intro a1749 hA1750
     refine qs hA1750 rfl (dmv (wn rfl) (hA1750.ev rfl) ?_)
     intro a1751 hA1752
     refine qs hA1752 rfl (dno (wno rfl rfl (.inl (hA1752.get 156 _ rfl))) ?_)
     intro a1753 hA1754
     refine qs hA1754 rfl (dno (wno rfl rfl (.inl (hA1754.get 156 _ rfl))) ?_)
     intro a1755 hA1756
     refine qs hA1756 rfl (dno (wno rfl rfl (.inl (hA1756.get 156 _ rfl))) ?_)
     intro a1757 hA1758
     refine qs hA1758 rfl (dpf (wn rfl) (hA1758.ev rfl) (hA1758.ev rfl) ?_)
     intro a1759 hA1760
     refine qs hA1760 rfl (das (wn rfl) (hA1760.ev rfl) ?_)
     intro a1761 hA1762
     refine qe_ ?_
     exact ⟨hA1762.cut _ (fc (hA1762.get 1 _ rfl) (fc (hA1762.get 2 _ rfl) (fc (hA1762.get 3 _ rfl) (fc (hA1762.get 4 _ rfl) (fc ((hA1762.get 5 _ rfl).trans (congrArg Value.bool (by simp [hb1697, hb1707, hb1719]))) fn_))))), b57, m55, m56, m54⟩
    have hq1763 := of_decide_eq_false hb1707
    refine qs hA1706 rfl (dbn (wy rfl rfl (hA1706.get 146 _ rfl)) (hA1706.ev rfl) (hA1706.ev rfl) (b_le _ _ i.pred 3 false _ hb1707) ?_)
    intro a1764 hA1765
    refine qs hA1765 rfl (dpt (wn rfl) (hA1765.ev rfl) (hA1765.ev rfl) ?_)
    intro a1766 hA1767
    refine qs hA1767 rfl (dmv (wn rfl) (hA1767.ev rfl) ?_)
    intro a1768 hA1769
    refine qs hA1769 rfl (dno (wno rfl rfl (.inl (hA1769.get 151 _ rfl))) ?_)
    intro a1770 hA1771
    refine qs hA1771 rfl (dno (wno rfl rfl (.inl (hA1771.get 151 _ rfl))) ?_)
    intro a1772 hA1773
    refine qs hA1773 rfl (dno (wno rfl rfl (.inl (hA1773.get 151 _ rfl))) ?_)
    intro a1774 hA1775
    refine qs hA1775 rfl (dpf (wn rfl) (hA1775.ev rfl) (hA1775.ev rfl) ?_)
    intro a1776 hA1777
    refine qs hA1777 rfl (dmv (wn rfl) (hA1777.ev rfl) ?_)
    intro a1778 hA1779
    refine qs hA1779 rfl (dno (wno rfl rfl (.inl (hA1779.get 156 _ rfl))) ?_)
    intro a1780 hA1781
    refine qs hA1781 rfl (dno (wno rfl rfl (.inl (hA1781.get 156 _ rfl))) ?_)
    intro a1782 hA1783
    refine qs hA1783 rfl (dno (wno rfl rfl (.inl (hA1783.get 156 _ rfl))) ?_)
    intro a1784 hA1785
    refine qs hA1785 rfl (dpf (wn rfl) (hA1785.ev rfl) (hA1785.ev rfl) ?_)
    intro a1786 hA1787
    refine qs hA1787 rfl (das (wn rfl) (hA1787.ev rfl) ?_)
    intro a1788 hA1789
    refine qe_ ?_
    exact ⟨hA1789.cut _ (fc (hA1789.get 1 _ rfl) (fc (hA1789.get 2 _ rfl) (fc (hA1789.get 3 _ rfl) (fc (hA1789.get 4 _ rfl) (fc ((hA1789.get 5 _ rfl).trans (congrArg Value.bool (by simp [hb1697, hb1707]))) fn_))))), b57, m55, m56, m54⟩
   have hq1790 := of_decide_eq_false hb1697
   refine qs hA1696 rfl (dbn (wn rfl) (hA1696.ev rfl) (hA1696.ev rfl) (b_ge _ _ i.pred 1 false _ hb1697) ?_)
   intro a1791 hA1792
   refine qs hA1792 rfl (dmv (wn rfl) (hA1792.ev rfl) ?_)
   intro a1793 hA1794
   refine qs hA1794 rfl (dno (wno rfl rfl (.inl (hA1794.get 146 _ rfl))) ?_)
   intro a1795 hA1796
   refine qs hA1796 rfl (dno (wno rfl rfl (.inl (hA1796.get 146 _ rfl))) ?_)
   intro a1797 hA1798
   refine qs hA1798 rfl (dno (wno rfl rfl (.inl (hA1798.get 146 _ rfl))) ?_)
   intro a1799 hA1800
   refine qs hA1800 rfl (dpf (wn rfl) (hA1800.ev rfl) (hA1800.ev rfl) ?_)
   intro a1801 hA1802
   refine qs hA1802 rfl (dmv (wn rfl) (hA1802.ev rfl) ?_)
   intro a1803 hA1804
   refine qs hA1804 rfl (dno (wno rfl rfl (.inl (hA1804.get 151 _ rfl))) ?_)
   intro a1805 hA1806
   refine qs hA1806 rfl (dno (wno rfl rfl (.inl (hA1806.get 151 _ rfl))) ?_)
   intro a1807 hA1808
   refine qs hA1808 rfl (dno (wno rfl rfl (.inl (hA1808.get 151 _ rfl))) ?_)
   intro a1809 hA1810
   refine qs hA1810 rfl (dpf (wn rfl) (hA1810.ev rfl) (hA1810.ev rfl) ?_)
   intro a1811 hA1812
   refine qs hA1812 rfl (dmv (wn rfl) (hA1812.ev rfl) ?_)
   intro a1813 hA1814
   refine qs hA1814 rfl (dno (wno rfl rfl (.inl (hA1814.get 156 _ rfl))) ?_)
   intro a1815 hA1816
   refine qs hA1816 rfl (dno (wno rfl rfl (.inl (hA1816.get 156 _ rfl))) ?_)
   intro a1817 hA1818
   refine qs hA1818 rfl (dno (wno rfl rfl (.inl (hA1818.get 156 _ rfl))) ?_)
   intro a1819 hA1820
   refine qs hA1820 rfl (dpf (wn rfl) (hA1820.ev rfl) (hA1820.ev rfl) ?_)
   intro a1821 hA1822
   refine qs hA1822 rfl (das (wn rfl) (hA1822.ev rfl) ?_)
   intro a1823 hA1824
   refine qe_ ?_
   exact ⟨hA1824.cut _ (fc (hA1824.get 1 _ rfl) (fc (hA1824.get 2 _ rfl) (fc (hA1824.get 3 _ rfl) (fc (hA1824.get 4 _ rfl) (fc ((hA1824.get 5 _ rfl).trans (congrArg Value.bool (by simp [hb1697]))) fn_))))), b57, m55, m56, m54⟩
  rintro a1691 w1692 ⟨hA1825, b1826, m1827, m1828, m1829⟩
  refine tn_ ?_
  refine wp_seq ?_
  refine wp_region_lit ?_
  refine qs hA1825 rfl (dfa (wn rfl) (hA1825.ev rfl) fo23_13 ?_)
  intro a1830 hA1831
  refine qs hA1831 rfl (dst_ (wn rfl) (hA1831.ev rfl) (hA1831.ev rfl) one3 rfl m1829 (Nat.le_of_ble_eq_true rfl) ?_)
  intro w1832 hU1833 (m1834 : Blk w1832 g27 #[.int .i64 0, .int .i64 i.dst, .int .i64 i.a, .int .i64 i.b, .int .i64 i.imm, .int .i64 i.loc, .int .i64 i.off, .int .i64 i.index, .int .i64 i.size, .int .i64 i.fn, .bool i.acq, .bool i.weak, .bool i.rel, .int .i64 0, .int .i64 i.succ, .int .i64 i.to, .bool i.zero] 23)
  have m1835 := m1827.upd hU1833 n33
  have m1836 := m1828.upd hU1833 n34
  have b1837 := hU1833.below b1826 ge32
  intro a1838 hA1839
  refine qe_ ?_
  refine tn_ ?_
  refine wp_region_lit ?_
  refine qs hA1839 rfl (dfa (wn rfl) (hA1839.ev rfl) fo23_14 ?_)
  intro a1840 hA1841
  refine qs hA1841 rfl (dst_ (wn rfl) (hA1841.ev rfl) (hA1841.ev rfl) one3 rfl m1834 (Nat.le_of_ble_eq_true rfl) ?_)
  intro w1842 hU1843 (m1844 : Blk w1842 g27 #[.int .i64 0, .int .i64 i.dst, .int .i64 i.a, .int .i64 i.b, .int .i64 i.imm, .int .i64 i.loc, .int .i64 i.off, .int .i64 i.index, .int .i64 i.size, .int .i64 i.fn, .bool i.acq, .bool i.weak, .bool i.rel, .int .i64 0, .int .i64 0, .int .i64 i.to, .bool i.zero] 23)
  have m1845 := m1835.upd hU1843 n33
  have m1846 := m1836.upd hU1843 n34
  have b1847 := hU1843.below b1837 ge32
  intro a1848 hA1849
  refine qe_ ?_
  refine i_norm ?_
  refine tn_ ?_
  refine wp_seq ?_
  refine wp_seq ?_
  refine wp_region_lit ?_
  refine qs hA1849 rfl (dfa (wn rfl) (hA1849.ev rfl) fo23_0 ?_)
  intro a1850 hA1851
  refine qs hA1851 rfl (dld (v := (.int .i64 i.op)) (wn rfl) (hA1851.ev rfl) one3 (m1845.cell rfl) ?_)
  intro a1852 hA1853
  refine qs hA1853 rfl (dbn (wn rfl) (hA1853.ev rfl) (hA1853.ev rfl) (b_eq _ _ i.op 4 false _ hb780) ?_)
  intro a1854 hA1855
  refine qs hA1855 rfl (dmv (wn rfl) (hA1855.ev rfl) ?_)
  intro a1856 hA1857
  refine qs hA1857 rfl (dfa (wy rfl rfl (hA1857.get 176 _ rfl)) (hA1857.ev rfl) fo23_0 ?_)
  intro a1858 hA1859
  refine qs hA1859 rfl (dld (v := (.int .i64 i.op)) (wy rfl rfl (hA1859.get 176 _ rfl)) (hA1859.ev rfl) one3 (m1845.cell rfl) ?_)
  intro a1860 hA1861
  refine qs hA1861 rfl (dbn (wy rfl rfl (hA1861.get 176 _ rfl)) (hA1861.ev rfl) (hA1861.ev rfl) (b_eq _ _ i.op 5 false _ hb1046) ?_)
  intro a1862 hA1863
  refine qs hA1863 rfl (dpf (wn rfl) (hA1863.ev rfl) (hA1863.ev rfl) ?_)
  intro a1864 hA1865
  refine qs hA1865 rfl (dmv (wn rfl) (hA1865.ev rfl) ?_)
  intro a1866 hA1867
  refine qs hA1867 rfl (dfa (wy rfl rfl (hA1867.get 181 _ rfl)) (hA1867.ev rfl) fo23_0 ?_)
  intro a1868 hA1869
  refine qs hA1869 rfl (dld (v := (.int .i64 i.op)) (wy rfl rfl (hA1869.get 181 _ rfl)) (hA1869.ev rfl) one3 (m1845.cell rfl) ?_)
  intro a1870 hA1871
  refine qs hA1871 rfl (dbn (wy rfl rfl (hA1871.get 181 _ rfl)) (hA1871.ev rfl) (hA1871.ev rfl) (b_eq _ _ i.op 6 false _ hb1326) ?_)
  intro a1872 hA1873
  refine qs hA1873 rfl (dpf (wn rfl) (hA1873.ev rfl) (hA1873.ev rfl) ?_)
  intro a1874 hA1875
  refine qe_ ?_
  refine tn_ ?_
  refine c_false hA1875 rfl ?_
  refine wp_skip ?_
  refine tn_ ?_
  refine wp_seq ?_
  refine wp_region_lit ?_
  refine qs hA1875 rfl (dlr (cs := #[.int .i64 0, .int .i64 i.dst, .int .i64 i.a, .int .i64 i.b, .int .i64 i.imm, .int .i64 i.loc, .int .i64 i.off, .int .i64 i.index, .int .i64 i.size, .int .i64 i.fn, .bool i.acq, .bool i.weak, .bool i.rel, .int .i64 0, .int .i64 0, .int .i64 i.to, .bool i.zero]) (wn rfl) (hA1875.ev rfl) row23 m1844 ?_)
  intro a1876 hA1877
  refine qs hA1877 rfl (dmv (wn rfl) (hA1877.ev rfl) ?_)
  intro a1878 hA1879
  refine qs hA1879 rfl (dsr (wn rfl) (hA1879.ev rfl) (hA1879.ev rfl) row23 m1846 rfl rfl ?_)
  intro w1880 hU1881 (m1882 : Blk w1880 g12 #[.int .i64 0, .int .i64 i.dst, .int .i64 i.a, .int .i64 i.b, .int .i64 i.imm, .int .i64 i.loc, .int .i64 i.off, .int .i64 i.index, .int .i64 i.size, .int .i64 i.fn, .bool i.acq, .bool i.weak, .bool i.rel, .int .i64 0, .int .i64 0, .int .i64 i.to, .bool i.zero] 23)
  have m1883 := m1845.upd hU1881 n18
  have m1884 := m1844.upd hU1881 (Ne.symm n34)
  have b1885 := hU1881.below b1847 ge17
  intro a1886 hA1887
  refine qs hA1887 rfl (das (wn rfl) (hA1887.ev rfl) ?_)
  intro a1888 hA1889
  refine qe_ ?_
  refine tn_ ?_
  refine wp_ret ?_
  refine retCT (g := g12) (cs := #[.int .i64 0, .int .i64 i.dst, .int .i64 i.a, .int .i64 i.b, .int .i64 i.imm, .int .i64 i.loc, .int .i64 i.off, .int .i64 i.index, .int .i64 i.size, .int .i64 i.fn, .bool i.acq, .bool i.weak, .bool i.rel, .int .i64 0, .int .i64 0, .int .i64 i.to, .bool i.zero]) (v := (.bool ((decide (i.pred ≥ 1)) && ((decide (i.pred ≤ 3)) && ((decide (i.succ ≥ 1)) && (decide (i.succ ≤ 3))))))) rfl hA1889 rfl rfl m1882 row23 ?_
  exact ⟨ret_two (by simp [insC, bareF, opB, rdB, wrB, hb64, hb165, hb303, hb780, hb1046, hb1326, eq_of_beq hb1685]) (by first | (simp [fineB, hb64, hb165, hb303, hb780, hb1046, hb1326, eq_of_beq hb1685, Bool.or_assoc, Bool.and_assoc]; done) | (rw [Bool.eq_iff_iff]; simp [fineB, hb64, hb165, hb303, hb780, hb1046, hb1326, eq_of_beq hb1685]; done) | (rw [Bool.eq_iff_iff]; simp [fineB, hb64, hb165, hb303, hb780, hb1046, hb1326, eq_of_beq hb1685]; omega) | grind), b1885⟩
 have hq1890 := ne_of_beq hb1685
 refine qs hA1684 rfl (dbn (wn rfl) (hA1684.ev rfl) (hA1684.ev rfl) (b_eq _ _ i.op 7 false _ hb1685) ?_)
 intro a1891 hA1892
 refine qs hA1892 rfl (das (wn rfl) (hA1892.ev rfl) ?_)
 intro a1893 hA1894
 refine qe_ ?_
 refine tn_ ?_
 refine c_false hA1894 rfl ?_
 refine wp_seq ?_
 refine wp_region_lit ?_
 rcases Bool.eq_false_or_eq_true (i.op == 8) with hb1895 | hb1895
 ·skip
  have hq1896 := eq_of_beq hb1895
  refine qs hA1894 rfl (dbn (wn rfl) (hA1894.ev rfl) (hA1894.ev rfl) (b_eq _ _ i.op 8 true _ hb1895) ?_)
  intro a1897 hA1898
  refine qs hA1898 rfl (das (wn rfl) (hA1898.ev rfl) ?_)
  intro a1899 hA1900
  refine qe_ ?_
  refine tn_ ?_
  refine c_true hA1900 rfl ?_
  refine wp_skip ?_
  refine i_norm ?_
  refine tn_ ?_
  refine wp_seq ?_
  refine wp_seq ?_
  refine wp_region_lit ?_
  refine qs hA1900 rfl (dfa (wn rfl) (hA1900.ev rfl) fo23_0 ?_)
  intro a1901 hA1902
  refine qs hA1902 rfl (dld (v := (.int .i64 i.op)) (wn rfl) (hA1902.ev rfl) one3 (m55.cell rfl) ?_)
  intro a1903 hA1904
  refine qs hA1904 rfl (dbn (wn rfl) (hA1904.ev rfl) (hA1904.ev rfl) (b_eq _ _ i.op 4 false _ hb780) ?_)
  intro a1905 hA1906
  refine qs hA1906 rfl (dmv (wn rfl) (hA1906.ev rfl) ?_)
  intro a1907 hA1908
  refine qs hA1908 rfl (dfa (wy rfl rfl (hA1908.get 176 _ rfl)) (hA1908.ev rfl) fo23_0 ?_)
  intro a1909 hA1910
  refine qs hA1910 rfl (dld (v := (.int .i64 i.op)) (wy rfl rfl (hA1910.get 176 _ rfl)) (hA1910.ev rfl) one3 (m55.cell rfl) ?_)
  intro a1911 hA1912
  refine qs hA1912 rfl (dbn (wy rfl rfl (hA1912.get 176 _ rfl)) (hA1912.ev rfl) (hA1912.ev rfl) (b_eq _ _ i.op 5 false _ hb1046) ?_)
  intro a1913 hA1914
  refine qs hA1914 rfl (dpf (wn rfl) (hA1914.ev rfl) (hA1914.ev rfl) ?_)
  intro a1915 hA1916
  refine qs hA1916 rfl (dmv (wn rfl) (hA1916.ev rfl) ?_)
  intro a1917 hA1918
  refine qs hA1918 rfl (dfa (wy rfl rfl (hA1918.get 181 _ rfl)) (hA1918.ev rfl) fo23_0 ?_)
  intro a1919 hA1920
  refine qs hA1920 rfl (dld (v := (.int .i64 i.op)) (wy rfl rfl (hA1920.get 181 _ rfl)) (hA1920.ev rfl) one3 (m55.cell rfl) ?_)
  intro a1921 hA1922
  refine qs hA1922 rfl (dbn (wy rfl rfl (hA1922.get 181 _ rfl)) (hA1922.ev rfl) (hA1922.ev rfl) (b_eq _ _ i.op 6 false _ hb1326) ?_)
  intro a1923 hA1924
  refine qs hA1924 rfl (dpf (wn rfl) (hA1924.ev rfl) (hA1924.ev rfl) ?_)
  intro a1925 hA1926
  refine qe_ ?_
  refine tn_ ?_
  refine c_false hA1926 rfl ?_
  refine wp_skip ?_
  refine tn_ ?_
  refine wp_seq ?_
  refine wp_region_lit ?_
  refine qs hA1926 rfl (dlr (cs := #[.int .i64 0, .int .i64 i.dst, .int .i64 i.a, .int .i64 i.b, .int .i64 i.imm, .int .i64 i.loc, .int .i64 i.off, .int .i64 i.index, .int .i64 i.size, .int .i64 i.fn, .bool i.acq, .bool i.weak, .bool i.rel, .int .i64 i.pred, .int .i64 i.succ, .int .i64 i.to, .bool i.zero]) (wn rfl) (hA1926.ev rfl) row23 m54 ?_)
  intro a1927 hA1928
  refine qs hA1928 rfl (dmv (wn rfl) (hA1928.ev rfl) ?_)
  intro a1929 hA1930
  refine qs hA1930 rfl (dsr (wn rfl) (hA1930.ev rfl) (hA1930.ev rfl) row23 m56 rfl rfl ?_)
  intro w1931 hU1932 (m1933 : Blk w1931 g12 #[.int .i64 0, .int .i64 i.dst, .int .i64 i.a, .int .i64 i.b, .int .i64 i.imm, .int .i64 i.loc, .int .i64 i.off, .int .i64 i.index, .int .i64 i.size, .int .i64 i.fn, .bool i.acq, .bool i.weak, .bool i.rel, .int .i64 i.pred, .int .i64 i.succ, .int .i64 i.to, .bool i.zero] 23)
  have m1934 := m55.upd hU1932 n18
  have m1935 := m54.upd hU1932 (Ne.symm n34)
  have b1936 := hU1932.below b57 ge17
  intro a1937 hA1938
  refine qs hA1938 rfl (das (wn rfl) (hA1938.ev rfl) ?_)
  intro a1939 hA1940
  refine qe_ ?_
  refine tn_ ?_
  refine wp_ret ?_
  refine retCT (g := g12) (cs := #[.int .i64 0, .int .i64 i.dst, .int .i64 i.a, .int .i64 i.b, .int .i64 i.imm, .int .i64 i.loc, .int .i64 i.off, .int .i64 i.index, .int .i64 i.size, .int .i64 i.fn, .bool i.acq, .bool i.weak, .bool i.rel, .int .i64 i.pred, .int .i64 i.succ, .int .i64 i.to, .bool i.zero]) (v := (.bool true)) rfl hA1940 rfl rfl m1933 row23 ?_
  exact ⟨ret_two (by simp [insC, bareF, opB, rdB, wrB, hb64, hb165, hb303, hb780, hb1046, hb1326, hb1685, eq_of_beq hb1895]) (by first | (simp [fineB, hb64, hb165, hb303, hb780, hb1046, hb1326, hb1685, eq_of_beq hb1895, Bool.or_assoc, Bool.and_assoc]; done) | (rw [Bool.eq_iff_iff]; simp [fineB, hb64, hb165, hb303, hb780, hb1046, hb1326, hb1685, eq_of_beq hb1895]; done) | (rw [Bool.eq_iff_iff]; simp [fineB, hb64, hb165, hb303, hb780, hb1046, hb1326, hb1685, eq_of_beq hb1895]; omega) | grind), b1936⟩
 have hq1941 := ne_of_beq hb1895
 refine qs hA1894 rfl (dbn (wn rfl) (hA1894.ev rfl) (hA1894.ev rfl) (b_eq _ _ i.op 8 false _ hb1895) ?_)
 intro a1942 hA1943
 refine qs hA1943 rfl (das (wn rfl) (hA1943.ev rfl) ?_)
 intro a1944 hA1945
 refine qe_ ?_
 refine tn_ ?_
 refine c_false hA1945 rfl ?_
 refine wp_seq ?_
 refine wp_region_lit ?_
 rcases Bool.eq_false_or_eq_true (i.op == 9) with hb1946 | hb1946
 ·skip
  have hq1947 := eq_of_beq hb1946
  refine qs hA1945 rfl (dbn (wn rfl) (hA1945.ev rfl) (hA1945.ev rfl) (b_eq _ _ i.op 9 true _ hb1946) ?_)
  intro a1948 hA1949
  refine qs hA1949 rfl (das (wn rfl) (hA1949.ev rfl) ?_)
  intro a1950 hA1951
  refine qe_ ?_
  refine tn_ ?_
  refine c_true hA1951 rfl ?_
  refine wp_seq ?_
  refine jwp (K := fun a1952 w1953 => St 192 [(1, (.pointer (some ⟨g3, 0, none⟩))), (2, (.pointer (some ⟨g12, 0, none⟩))), (3, (.bool false)), (4, (.pointer (some ⟨g27, 0, none⟩))), (5, (.bool (regB i.a)))] a1952 ∧ Below w.heap.size w w1953 ∧ Blk w1953 g3 (insC i) 23 ∧ Blk w1953 g12 #[.int .i64 0, .int .i64 0, .int .i64 0, .int .i64 0, .int .i64 0, .int .i64 0, .int .i64 0, .int .i64 0, .int .i64 0, .int .i64 0, .bool false, .bool false, .bool false, .int .i64 0, .int .i64 0, .int .i64 0, .bool false] 23 ∧ Blk w1953 g27 #[.int .i64 0, .int .i64 i.dst, .int .i64 i.a, .int .i64 i.b, .int .i64 i.imm, .int .i64 i.loc, .int .i64 i.off, .int .i64 i.index, .int .i64 i.size, .int .i64 i.fn, .bool i.acq, .bool i.weak, .bool i.rel, .int .i64 i.pred, .int .i64 i.succ, .int .i64 i.to, .bool i.zero] 23) ?_ ?_
  ·skip
   refine wp_region_lit ?_
   refine qs hA1951 rfl (dfa (wn rfl) (hA1951.ev rfl) fo23_2 ?_)
   intro a1954 hA1955
   refine qs hA1955 rfl (dld (v := (.int .i64 i.a)) (wn rfl) (hA1955.ev rfl) one3 (m55.cell rfl) ?_)
   intro a1956 hA1957
   refine qs hA1957 rfl (dcl (wn rfl) ent44 (map1 (hA1957.ev rfl)) (rreg_any i.a w52) ?_)
   rintro e1961 w1958 ⟨he1960, hG1959⟩
   have m1962 := m55.grow hG1959
   have m1963 := m56.grow hG1959
   have m1964 := m54.grow hG1959
   have b1965 := blg b57 hG1959 b57.size
   rcases Bool.eq_false_or_eq_true (regB i.a) with hb1966 | hb1966
   ·skip
    refine ⟨.bool true, he1960.trans (ret_bool hb1966), ?_⟩
    intro a1968 hA1969
    refine qs hA1969 rfl (das (wn rfl) (hA1969.ev rfl) ?_)
    intro a1970 hA1971
    refine qe_ ?_
    exact ⟨hA1971.cut _ (fc (hA1971.get 1 _ rfl) (fc (hA1971.get 2 _ rfl) (fc (hA1971.get 3 _ rfl) (fc (hA1971.get 4 _ rfl) (fc ((hA1971.get 5 _ rfl).trans (congrArg Value.bool (by simp [hb1966]))) fn_))))), b1965, m1962, m1963, m1964⟩
   refine ⟨.bool false, he1960.trans (ret_bool hb1966), ?_⟩
   intro a1973 hA1974
   refine qs hA1974 rfl (das (wn rfl) (hA1974.ev rfl) ?_)
   intro a1975 hA1976
   refine qe_ ?_
   exact ⟨hA1976.cut _ (fc (hA1976.get 1 _ rfl) (fc (hA1976.get 2 _ rfl) (fc (hA1976.get 3 _ rfl) (fc (hA1976.get 4 _ rfl) (fc ((hA1976.get 5 _ rfl).trans (congrArg Value.bool (by simp [hb1966]))) fn_))))), b1965, m1962, m1963, m1964⟩
  rintro a1952 w1953 ⟨hA1977, b1978, m1979, m1980, m1981⟩
  refine tn_ ?_
  refine wp_seq ?_
  refine wp_region_lit ?_
  refine qs hA1977 rfl (dfa (wn rfl) (hA1977.ev rfl) fo23_2 ?_)
  intro a1982 hA1983
  refine qs hA1983 rfl (dst_ (wn rfl) (hA1983.ev rfl) (hA1983.ev rfl) one3 rfl m1981 (Nat.le_of_ble_eq_true rfl) ?_)
  intro w1984 hU1985 (m1986 : Blk w1984 g27 #[.int .i64 0, .int .i64 i.dst, .int .i64 (-1), .int .i64 i.b, .int .i64 i.imm, .int .i64 i.loc, .int .i64 i.off, .int .i64 i.index, .int .i64 i.size, .int .i64 i.fn, .bool i.acq, .bool i.weak, .bool i.rel, .int .i64 i.pred, .int .i64 i.succ, .int .i64 i.to, .bool i.zero] 23)
  have m1987 := m1979.upd hU1985 n33
  have m1988 := m1980.upd hU1985 n34
  have b1989 := hU1985.below b1978 ge32
  intro a1990 hA1991
  refine qe_ ?_
  refine tn_ ?_
  refine wp_seq ?_
  refine wp_region_lit ?_
  refine qs hA1991 rfl (dfa (wn rfl) (hA1991.ev rfl) fo23_16 ?_)
  intro a1992 hA1993
  refine qs hA1993 rfl (dst_ (wn rfl) (hA1993.ev rfl) (hA1993.ev rfl) one4 rfl m1986 (Nat.le_of_ble_eq_true rfl) ?_)
  intro w1994 hU1995 (m1996 : Blk w1994 g27 #[.int .i64 0, .int .i64 i.dst, .int .i64 (-1), .int .i64 i.b, .int .i64 i.imm, .int .i64 i.loc, .int .i64 i.off, .int .i64 i.index, .int .i64 i.size, .int .i64 i.fn, .bool i.acq, .bool i.weak, .bool i.rel, .int .i64 i.pred, .int .i64 i.succ, .int .i64 i.to, .bool false] 23)
  have m1997 := m1987.upd hU1995 n33
  have m1998 := m1988.upd hU1995 n34
  have b1999 := hU1995.below b1989 ge32
  intro a2000 hA2001
  refine qe_ ?_
  refine tn_ ?_
  refine wp_region_lit ?_
  refine qs hA2001 rfl (dfa (wn rfl) (hA2001.ev rfl) fo23_15 ?_)
  intro a2002 hA2003
  refine qs hA2003 rfl (dst_ (wn rfl) (hA2003.ev rfl) (hA2003.ev rfl) one3 rfl m1996 (Nat.le_of_ble_eq_true rfl) ?_)
  intro w2004 hU2005 (m2006 : Blk w2004 g27 #[.int .i64 0, .int .i64 i.dst, .int .i64 (-1), .int .i64 i.b, .int .i64 i.imm, .int .i64 i.loc, .int .i64 i.off, .int .i64 i.index, .int .i64 i.size, .int .i64 i.fn, .bool i.acq, .bool i.weak, .bool i.rel, .int .i64 i.pred, .int .i64 i.succ, .int .i64 0, .bool false] 23)
  have m2007 := m1997.upd hU2005 n33
  have m2008 := m1998.upd hU2005 n34
  have b2009 := hU2005.below b1999 ge32
  intro a2010 hA2011
  refine qe_ ?_
  refine i_norm ?_
  refine tn_ ?_
  refine wp_seq ?_
  refine wp_seq ?_
  refine wp_region_lit ?_
  refine qs hA2011 rfl (dfa (wn rfl) (hA2011.ev rfl) fo23_0 ?_)
  intro a2012 hA2013
  refine qs hA2013 rfl (dld (v := (.int .i64 i.op)) (wn rfl) (hA2013.ev rfl) one3 (m2007.cell rfl) ?_)
  intro a2014 hA2015
  refine qs hA2015 rfl (dbn (wn rfl) (hA2015.ev rfl) (hA2015.ev rfl) (b_eq _ _ i.op 4 false _ hb780) ?_)
  intro a2016 hA2017
  refine qs hA2017 rfl (dmv (wn rfl) (hA2017.ev rfl) ?_)
  intro a2018 hA2019
  refine qs hA2019 rfl (dfa (wy rfl rfl (hA2019.get 176 _ rfl)) (hA2019.ev rfl) fo23_0 ?_)
  intro a2020 hA2021
  refine qs hA2021 rfl (dld (v := (.int .i64 i.op)) (wy rfl rfl (hA2021.get 176 _ rfl)) (hA2021.ev rfl) one3 (m2007.cell rfl) ?_)
  intro a2022 hA2023
  refine qs hA2023 rfl (dbn (wy rfl rfl (hA2023.get 176 _ rfl)) (hA2023.ev rfl) (hA2023.ev rfl) (b_eq _ _ i.op 5 false _ hb1046) ?_)
  intro a2024 hA2025
  refine qs hA2025 rfl (dpf (wn rfl) (hA2025.ev rfl) (hA2025.ev rfl) ?_)
  intro a2026 hA2027
  refine qs hA2027 rfl (dmv (wn rfl) (hA2027.ev rfl) ?_)
  intro a2028 hA2029
  refine qs hA2029 rfl (dfa (wy rfl rfl (hA2029.get 181 _ rfl)) (hA2029.ev rfl) fo23_0 ?_)
  intro a2030 hA2031
  refine qs hA2031 rfl (dld (v := (.int .i64 i.op)) (wy rfl rfl (hA2031.get 181 _ rfl)) (hA2031.ev rfl) one3 (m2007.cell rfl) ?_)
  intro a2032 hA2033
  refine qs hA2033 rfl (dbn (wy rfl rfl (hA2033.get 181 _ rfl)) (hA2033.ev rfl) (hA2033.ev rfl) (b_eq _ _ i.op 6 false _ hb1326) ?_)
  intro a2034 hA2035
  refine qs hA2035 rfl (dpf (wn rfl) (hA2035.ev rfl) (hA2035.ev rfl) ?_)
  intro a2036 hA2037
  refine qe_ ?_
  refine tn_ ?_
  refine c_false hA2037 rfl ?_
  refine wp_skip ?_
  refine tn_ ?_
  refine wp_seq ?_
  refine wp_region_lit ?_
  refine qs hA2037 rfl (dlr (cs := #[.int .i64 0, .int .i64 i.dst, .int .i64 (-1), .int .i64 i.b, .int .i64 i.imm, .int .i64 i.loc, .int .i64 i.off, .int .i64 i.index, .int .i64 i.size, .int .i64 i.fn, .bool i.acq, .bool i.weak, .bool i.rel, .int .i64 i.pred, .int .i64 i.succ, .int .i64 0, .bool false]) (wn rfl) (hA2037.ev rfl) row23 m2006 ?_)
  intro a2038 hA2039
  refine qs hA2039 rfl (dmv (wn rfl) (hA2039.ev rfl) ?_)
  intro a2040 hA2041
  refine qs hA2041 rfl (dsr (wn rfl) (hA2041.ev rfl) (hA2041.ev rfl) row23 m2008 rfl rfl ?_)
  intro w2042 hU2043 (m2044 : Blk w2042 g12 #[.int .i64 0, .int .i64 i.dst, .int .i64 (-1), .int .i64 i.b, .int .i64 i.imm, .int .i64 i.loc, .int .i64 i.off, .int .i64 i.index, .int .i64 i.size, .int .i64 i.fn, .bool i.acq, .bool i.weak, .bool i.rel, .int .i64 i.pred, .int .i64 i.succ, .int .i64 0, .bool false] 23)
  have m2045 := m2007.upd hU2043 n18
  have m2046 := m2006.upd hU2043 (Ne.symm n34)
  have b2047 := hU2043.below b2009 ge17
  intro a2048 hA2049
  refine qs hA2049 rfl (das (wn rfl) (hA2049.ev rfl) ?_)
  intro a2050 hA2051
  refine qe_ ?_
  refine tn_ ?_
  refine wp_ret ?_
  refine retCT (g := g12) (cs := #[.int .i64 0, .int .i64 i.dst, .int .i64 (-1), .int .i64 i.b, .int .i64 i.imm, .int .i64 i.loc, .int .i64 i.off, .int .i64 i.index, .int .i64 i.size, .int .i64 i.fn, .bool i.acq, .bool i.weak, .bool i.rel, .int .i64 i.pred, .int .i64 i.succ, .int .i64 0, .bool false]) (v := (.bool (regB i.a))) rfl hA2051 rfl rfl m2044 row23 ?_
  exact ⟨ret_two (by simp [insC, bareF, opB, rdB, wrB, hb64, hb165, hb303, hb780, hb1046, hb1326, hb1685, hb1895, eq_of_beq hb1946]) (by first | (simp [fineB, hb64, hb165, hb303, hb780, hb1046, hb1326, hb1685, hb1895, eq_of_beq hb1946, Bool.or_assoc, Bool.and_assoc]; done) | (rw [Bool.eq_iff_iff]; simp [fineB, hb64, hb165, hb303, hb780, hb1046, hb1326, hb1685, hb1895, eq_of_beq hb1946]; done) | (rw [Bool.eq_iff_iff]; simp [fineB, hb64, hb165, hb303, hb780, hb1046, hb1326, hb1685, hb1895, eq_of_beq hb1946]; omega) | grind), b2047⟩
 have hq2052 := ne_of_beq hb1946
 refine qs hA1945 rfl (dbn (wn rfl) (hA1945.ev rfl) (hA1945.ev rfl) (b_eq _ _ i.op 9 false _ hb1946) ?_)
 intro a2053 hA2054
 refine qs hA2054 rfl (das (wn rfl) (hA2054.ev rfl) ?_)
 intro a2055 hA2056
 refine qe_ ?_
 refine tn_ ?_
 refine c_false hA2056 rfl ?_
 refine wp_region_lit ?_
 refine qs hA2056 rfl (das (wn rfl) (hA2056.ev rfl) ?_)
 intro a2057 hA2058
 refine qe_ ?_
 refine i_norm ?_
 refine tn_ ?_
 refine wp_seq ?_
 refine wp_seq ?_
 refine wp_region_lit ?_
 refine qs hA2058 rfl (dfa (wn rfl) (hA2058.ev rfl) fo23_0 ?_)
 intro a2059 hA2060
 refine qs hA2060 rfl (dld (v := (.int .i64 i.op)) (wn rfl) (hA2060.ev rfl) one3 (m55.cell rfl) ?_)
 intro a2061 hA2062
 refine qs hA2062 rfl (dbn (wn rfl) (hA2062.ev rfl) (hA2062.ev rfl) (b_eq _ _ i.op 4 false _ hb780) ?_)
 intro a2063 hA2064
 refine qs hA2064 rfl (dmv (wn rfl) (hA2064.ev rfl) ?_)
 intro a2065 hA2066
 refine qs hA2066 rfl (dfa (wy rfl rfl (hA2066.get 176 _ rfl)) (hA2066.ev rfl) fo23_0 ?_)
 intro a2067 hA2068
 refine qs hA2068 rfl (dld (v := (.int .i64 i.op)) (wy rfl rfl (hA2068.get 176 _ rfl)) (hA2068.ev rfl) one3 (m55.cell rfl) ?_)
 intro a2069 hA2070
 refine qs hA2070 rfl (dbn (wy rfl rfl (hA2070.get 176 _ rfl)) (hA2070.ev rfl) (hA2070.ev rfl) (b_eq _ _ i.op 5 false _ hb1046) ?_)
 intro a2071 hA2072
 refine qs hA2072 rfl (dpf (wn rfl) (hA2072.ev rfl) (hA2072.ev rfl) ?_)
 intro a2073 hA2074
 refine qs hA2074 rfl (dmv (wn rfl) (hA2074.ev rfl) ?_)
 intro a2075 hA2076
 refine qs hA2076 rfl (dfa (wy rfl rfl (hA2076.get 181 _ rfl)) (hA2076.ev rfl) fo23_0 ?_)
 intro a2077 hA2078
 refine qs hA2078 rfl (dld (v := (.int .i64 i.op)) (wy rfl rfl (hA2078.get 181 _ rfl)) (hA2078.ev rfl) one3 (m55.cell rfl) ?_)
 intro a2079 hA2080
 refine qs hA2080 rfl (dbn (wy rfl rfl (hA2080.get 181 _ rfl)) (hA2080.ev rfl) (hA2080.ev rfl) (b_eq _ _ i.op 6 false _ hb1326) ?_)
 intro a2081 hA2082
 refine qs hA2082 rfl (dpf (wn rfl) (hA2082.ev rfl) (hA2082.ev rfl) ?_)
 intro a2083 hA2084
 refine qe_ ?_
 refine tn_ ?_
 refine c_false hA2084 rfl ?_
 refine wp_skip ?_
 refine tn_ ?_
 refine wp_seq ?_
 refine wp_region_lit ?_
 refine qs hA2084 rfl (dlr (cs := #[.int .i64 0, .int .i64 i.dst, .int .i64 i.a, .int .i64 i.b, .int .i64 i.imm, .int .i64 i.loc, .int .i64 i.off, .int .i64 i.index, .int .i64 i.size, .int .i64 i.fn, .bool i.acq, .bool i.weak, .bool i.rel, .int .i64 i.pred, .int .i64 i.succ, .int .i64 i.to, .bool i.zero]) (wn rfl) (hA2084.ev rfl) row23 m54 ?_)
 intro a2085 hA2086
 refine qs hA2086 rfl (dmv (wn rfl) (hA2086.ev rfl) ?_)
 intro a2087 hA2088
 refine qs hA2088 rfl (dsr (wn rfl) (hA2088.ev rfl) (hA2088.ev rfl) row23 m56 rfl rfl ?_)
 intro w2089 hU2090 (m2091 : Blk w2089 g12 #[.int .i64 0, .int .i64 i.dst, .int .i64 i.a, .int .i64 i.b, .int .i64 i.imm, .int .i64 i.loc, .int .i64 i.off, .int .i64 i.index, .int .i64 i.size, .int .i64 i.fn, .bool i.acq, .bool i.weak, .bool i.rel, .int .i64 i.pred, .int .i64 i.succ, .int .i64 i.to, .bool i.zero] 23)
 have m2092 := m55.upd hU2090 n18
 have m2093 := m54.upd hU2090 (Ne.symm n34)
 have b2094 := hU2090.below b57 ge17
 intro a2095 hA2096
 refine qs hA2096 rfl (das (wn rfl) (hA2096.ev rfl) ?_)
 intro a2097 hA2098
 refine qe_ ?_
 refine tn_ ?_
 refine wp_ret ?_
 refine retCT (g := g12) (cs := #[.int .i64 0, .int .i64 i.dst, .int .i64 i.a, .int .i64 i.b, .int .i64 i.imm, .int .i64 i.loc, .int .i64 i.off, .int .i64 i.index, .int .i64 i.size, .int .i64 i.fn, .bool i.acq, .bool i.weak, .bool i.rel, .int .i64 i.pred, .int .i64 i.succ, .int .i64 i.to, .bool i.zero]) (v := (.bool false)) rfl hA2098 rfl rfl m2091 row23 ?_
 exact ⟨ret_two (by simp [insC, bareF, opB, rdB, wrB, hb64, hb165, hb303, hb780, hb1046, hb1326, hb1685, hb1895, hb1946]) (by first | (simp [fineB, hb64, hb165, hb303, hb780, hb1046, hb1326, hb1685, hb1895, hb1946, Bool.or_assoc, Bool.and_assoc]; done) | (rw [Bool.eq_iff_iff]; simp [fineB, hb64, hb165, hb303, hb780, hb1046, hb1326, hb1685, hb1895, hb1946]; done) | (rw [Bool.eq_iff_iff]; simp [fineB, hb64, hb165, hb303, hb780, hb1046, hb1326, hb1685, hb1895, hb1946]; omega) | grind), b2094⟩
end Go.Proofs.Ytlhompedcphnnaa
/- The document's rule for an instruction, said in two ways, is one. -/
namespace Go.Proofs.Ytlhompedcphnnaa

theorem ieq {i j : Ins} : insEq i j = true ↔ i = j := by unfold insEq; simp
theorem right_same (i : Ins) : (insEq (bareF i) blank && fineB i) = (insEq i (plainF i) && soundB i) := by
  rw [Bool.eq_iff_iff, Bool.and_eq_true, Bool.and_eq_true, ieq, ieq]
  obtain ⟨op, dst, a, b, imm, loc, off, index, size, fn, acq, weak, rel, pred, succ, to, zero⟩ := i
  by_cases h1 : op = 1
  · subst h1; simp [bareF, plainF, blank, fineB, soundB, opB, rdB, wrB]
  by_cases h2 : op = 2
  · subst h2; simp [bareF, plainF, blank, fineB, soundB, opB, rdB, wrB]
  by_cases h3 : op = 3
  · subst h3; simp [bareF, plainF, blank, fineB, soundB, opB, rdB, wrB, immF, ronB]; grind
  by_cases h4 : op = 4
  · subst h4; simp [bareF, plainF, blank, fineB, soundB, opB, rdB, wrB, plc_acc]
  by_cases h5 : op = 5
  · subst h5; simp [bareF, plainF, blank, fineB, soundB, opB, rdB, wrB, plc_acc, immF, ronB]; grind
  by_cases h6 : op = 6
  · subst h6; simp [bareF, plainF, blank, fineB, soundB, opB, rdB, wrB, plc_acc]
  by_cases h7 : op = 7
  · subst h7; simp [bareF, plainF, blank, fineB, soundB, opB, rdB, wrB, fenB]; grind
  by_cases h8 : op = 8
  · subst h8; simp [bareF, plainF, blank, fineB, soundB, opB, rdB, wrB]
  by_cases h9 : op = 9
  · subst h9; simp [bareF, plainF, blank, fineB, soundB, opB, rdB, wrB]
  simp [fineB, soundB, h1, h2, h3, h4, h5, h6, h7, h8, h9]
end Go.Proofs.Ytlhompedcphnnaa
/- Contracts of functions on single instructions. -/
namespace Go.Proofs.Ytlhompedcphnnaa
open Go.RowKit
set_option linter.unusedSimpArgs false
set_option linter.unusedVariables false
set_option maxHeartbeats 4000000 in
set_option maxRecDepth 4000 in
theorem rgives_any (i : Ins) (w : World) : Calls Try.prog 19 #[.agg (insC i)] w fun e w' => e = .returned (.int .i64 (givesF i)) ∧ Grow w w' := by
 have b0 : Below w.heap.size w w := Below.refl _ _
 refine enter (n := 13) Try.func19 rfl rfl (Nat.le_of_ble_eq_true rfl) ?_
 intro a1 hA2
 refine wp_seq ?_
 refine wp_region_lit ?_
 refine qs hA2 rfl (d_box (wn rfl) (hA2.ev rfl) ?_)
 intro g3 w4 eg5 hG6 (m7 : Blk w4 g3 (insC i) 23)
 have ge8 : w.heap.size ≤ g3 := eg5 ▸ b0.size
 have b9 := blg b0 hG6 b0.size
 intro a10 hA11
 refine qs hA11 rfl (das (wn rfl) (hA11.ev rfl) ?_)
 intro a12 hA13
 refine qe_ ?_
 refine tn_ ?_
 refine wp_seq ?_
 refine wp_seq ?_
 refine wp_region_lit ?_
 refine qs hA13 rfl (dfa (wn rfl) (hA13.ev rfl) fo23_0 ?_)
 intro a14 hA15
 refine qs hA15 rfl (dld (v := (.int .i64 i.op)) (wn rfl) (hA15.ev rfl) one3 (m7.cell rfl) ?_)
 intro a16 hA17
 refine qe_ ?_
 refine tn_ ?_
 refine wp_block ?_
 refine wp_seq ?_
 refine wp_seq ?_
 refine wp_region_lit ?_
 rcases Bool.eq_false_or_eq_true (i.op == 1) with hb18 | hb18
 ·skip
  have hq19 := eq_of_beq hb18
  refine qs hA17 rfl (dbn (wn rfl) (hA17.ev rfl) (hA17.ev rfl) (b_eq _ _ i.op 1 true _ hb18) ?_)
  intro a20 hA21
  refine qs hA21 rfl (das (wn rfl) (hA21.ev rfl) ?_)
  intro a22 hA23
  refine qe_ ?_
  refine tn_ ?_
  refine c_true hA23 rfl ?_
  refine wp_skip ?_
  refine tn_ ?_
  refine c_true hA23 rfl ?_
  refine wp_seq ?_
  refine wp_region_lit ?_
  refine qs hA23 rfl (dfa (wn rfl) (hA23.ev rfl) fo23_1 ?_)
  intro a24 hA25
  refine qs hA25 rfl (dld (v := (.int .i64 i.dst)) (wn rfl) (hA25.ev rfl) one3 (m7.cell rfl) ?_)
  intro a26 hA27
  refine qs hA27 rfl (das (wn rfl) (hA27.ev rfl) ?_)
  intro a28 hA29
  refine qe_ ?_
  refine tn_ ?_
  refine wp_ret ?_
  refine i_ret ?_
  refine t_ret ?_
  refine ret1 rfl hA29 (v := (.int .i64 i.dst)) rfl ?_
  exact ⟨ret_int (by simp [givesF, plainF, eq_of_beq hb18]), b9⟩
 have hq30 := ne_of_beq hb18
 refine qs hA17 rfl (dbn (wn rfl) (hA17.ev rfl) (hA17.ev rfl) (b_eq _ _ i.op 1 false _ hb18) ?_)
 intro a31 hA32
 refine qs hA32 rfl (das (wn rfl) (hA32.ev rfl) ?_)
 intro a33 hA34
 refine qe_ ?_
 refine tn_ ?_
 refine c_false hA34 rfl ?_
 refine wp_seq ?_
 refine wp_region_lit ?_
 rcases Bool.eq_false_or_eq_true (i.op == 2) with hb35 | hb35
 ·skip
  have hq36 := eq_of_beq hb35
  refine qs hA34 rfl (dbn (wn rfl) (hA34.ev rfl) (hA34.ev rfl) (b_eq _ _ i.op 2 true _ hb35) ?_)
  intro a37 hA38
  refine qs hA38 rfl (das (wn rfl) (hA38.ev rfl) ?_)
  intro a39 hA40
  refine qe_ ?_
  refine tn_ ?_
  refine c_true hA40 rfl ?_
  refine wp_skip ?_
  refine tn_ ?_
  refine c_true hA40 rfl ?_
  refine wp_seq ?_
  refine wp_region_lit ?_
  refine qs hA40 rfl (dfa (wn rfl) (hA40.ev rfl) fo23_1 ?_)
  intro a41 hA42
  refine qs hA42 rfl (dld (v := (.int .i64 i.dst)) (wn rfl) (hA42.ev rfl) one3 (m7.cell rfl) ?_)
  intro a43 hA44
  refine qs hA44 rfl (das (wn rfl) (hA44.ev rfl) ?_)
  intro a45 hA46
  refine qe_ ?_
  refine tn_ ?_
  refine wp_ret ?_
  refine i_ret ?_
  refine t_ret ?_
  refine ret1 rfl hA46 (v := (.int .i64 i.dst)) rfl ?_
  exact ⟨ret_int (by simp [givesF, plainF, hb18, eq_of_beq hb35]), b9⟩
 have hq47 := ne_of_beq hb35
 refine qs hA34 rfl (dbn (wn rfl) (hA34.ev rfl) (hA34.ev rfl) (b_eq _ _ i.op 2 false _ hb35) ?_)
 intro a48 hA49
 refine qs hA49 rfl (das (wn rfl) (hA49.ev rfl) ?_)
 intro a50 hA51
 refine qe_ ?_
 refine tn_ ?_
 refine c_false hA51 rfl ?_
 refine wp_seq ?_
 refine wp_region_lit ?_
 rcases Bool.eq_false_or_eq_true (i.op == 3) with hb52 | hb52
 ·skip
  have hq53 := eq_of_beq hb52
  refine qs hA51 rfl (dbn (wn rfl) (hA51.ev rfl) (hA51.ev rfl) (b_eq _ _ i.op 3 true _ hb52) ?_)
  intro a54 hA55
  refine qs hA55 rfl (das (wn rfl) (hA55.ev rfl) ?_)
  intro a56 hA57
  refine qe_ ?_
  refine tn_ ?_
  refine c_true hA57 rfl ?_
  refine wp_skip ?_
  refine tn_ ?_
  refine c_true hA57 rfl ?_
  refine wp_seq ?_
  refine wp_region_lit ?_
  refine qs hA57 rfl (dfa (wn rfl) (hA57.ev rfl) fo23_1 ?_)
  intro a58 hA59
  refine qs hA59 rfl (dld (v := (.int .i64 i.dst)) (wn rfl) (hA59.ev rfl) one3 (m7.cell rfl) ?_)
  intro a60 hA61
  refine qs hA61 rfl (das (wn rfl) (hA61.ev rfl) ?_)
  intro a62 hA63
  refine qe_ ?_
  refine tn_ ?_
  refine wp_ret ?_
  refine i_ret ?_
  refine t_ret ?_
  refine ret1 rfl hA63 (v := (.int .i64 i.dst)) rfl ?_
  exact ⟨ret_int (by simp [givesF, plainF, hb18, hb35, eq_of_beq hb52]), b9⟩
 have hq64 := ne_of_beq hb52
 refine qs hA51 rfl (dbn (wn rfl) (hA51.ev rfl) (hA51.ev rfl) (b_eq _ _ i.op 3 false _ hb52) ?_)
 intro a65 hA66
 refine qs hA66 rfl (das (wn rfl) (hA66.ev rfl) ?_)
 intro a67 hA68
 refine qe_ ?_
 refine tn_ ?_
 refine c_false hA68 rfl ?_
 refine wp_seq ?_
 refine wp_region_lit ?_
 rcases Bool.eq_false_or_eq_true (i.op == 4) with hb69 | hb69
 ·skip
  have hq70 := eq_of_beq hb69
  refine qs hA68 rfl (dbn (wn rfl) (hA68.ev rfl) (hA68.ev rfl) (b_eq _ _ i.op 4 true _ hb69) ?_)
  intro a71 hA72
  refine qs hA72 rfl (das (wn rfl) (hA72.ev rfl) ?_)
  intro a73 hA74
  refine qe_ ?_
  refine tn_ ?_
  refine c_true hA74 rfl ?_
  refine wp_skip ?_
  refine tn_ ?_
  refine c_true hA74 rfl ?_
  refine wp_seq ?_
  refine wp_region_lit ?_
  refine qs hA74 rfl (dfa (wn rfl) (hA74.ev rfl) fo23_1 ?_)
  intro a75 hA76
  refine qs hA76 rfl (dld (v := (.int .i64 i.dst)) (wn rfl) (hA76.ev rfl) one3 (m7.cell rfl) ?_)
  intro a77 hA78
  refine qs hA78 rfl (das (wn rfl) (hA78.ev rfl) ?_)
  intro a79 hA80
  refine qe_ ?_
  refine tn_ ?_
  refine wp_ret ?_
  refine i_ret ?_
  refine t_ret ?_
  refine ret1 rfl hA80 (v := (.int .i64 i.dst)) rfl ?_
  exact ⟨ret_int (by simp [givesF, plainF, hb18, hb35, hb52, eq_of_beq hb69]), b9⟩
 have hq81 := ne_of_beq hb69
 refine qs hA68 rfl (dbn (wn rfl) (hA68.ev rfl) (hA68.ev rfl) (b_eq _ _ i.op 4 false _ hb69) ?_)
 intro a82 hA83
 refine qs hA83 rfl (das (wn rfl) (hA83.ev rfl) ?_)
 intro a84 hA85
 refine qe_ ?_
 refine tn_ ?_
 refine c_false hA85 rfl ?_
 refine wp_region_lit ?_
 rcases Bool.eq_false_or_eq_true (i.op == 6) with hb86 | hb86
 ·skip
  have hq87 := eq_of_beq hb86
  refine qs hA85 rfl (dbn (wn rfl) (hA85.ev rfl) (hA85.ev rfl) (b_eq _ _ i.op 6 true _ hb86) ?_)
  intro a88 hA89
  refine qs hA89 rfl (das (wn rfl) (hA89.ev rfl) ?_)
  intro a90 hA91
  refine qe_ ?_
  refine tn_ ?_
  refine c_true hA91 rfl ?_
  refine wp_seq ?_
  refine wp_region_lit ?_
  refine qs hA91 rfl (dfa (wn rfl) (hA91.ev rfl) fo23_1 ?_)
  intro a92 hA93
  refine qs hA93 rfl (dld (v := (.int .i64 i.dst)) (wn rfl) (hA93.ev rfl) one3 (m7.cell rfl) ?_)
  intro a94 hA95
  refine qs hA95 rfl (das (wn rfl) (hA95.ev rfl) ?_)
  intro a96 hA97
  refine qe_ ?_
  refine tn_ ?_
  refine wp_ret ?_
  refine i_ret ?_
  refine t_ret ?_
  refine ret1 rfl hA97 (v := (.int .i64 i.dst)) rfl ?_
  exact ⟨ret_int (by simp [givesF, plainF, hb18, hb35, hb52, hb69, eq_of_beq hb86]), b9⟩
 have hq98 := ne_of_beq hb86
 refine qs hA85 rfl (dbn (wn rfl) (hA85.ev rfl) (hA85.ev rfl) (b_eq _ _ i.op 6 false _ hb86) ?_)
 intro a99 hA100
 refine qs hA100 rfl (das (wn rfl) (hA100.ev rfl) ?_)
 intro a101 hA102
 refine qe_ ?_
 refine tn_ ?_
 refine c_false hA102 rfl ?_
 refine wp_skip ?_
 refine i_norm ?_
 refine tn_ ?_
 refine wp_seq ?_
 refine wp_region_lit ?_
 refine qs hA102 rfl (das (wn rfl) (hA102.ev rfl) ?_)
 intro a103 hA104
 refine qe_ ?_
 refine tn_ ?_
 refine wp_ret ?_
 refine ret1 rfl hA104 (v := (.int .i64 (-1))) rfl ?_
 exact ⟨ret_int (by simp [givesF, plainF, hb18, hb35, hb52, hb69, hb86]), b9⟩
set_option maxHeartbeats 4000000 in
set_option maxRecDepth 4000 in
theorem rright_any (i : Ins) (p q : Int) (w : World) : Calls Try.prog 10 #[.agg (insC i), .int .i64 p, .int .i64 q] w fun e w' => e = .returned (.int .i64 (rightR i p q)) ∧ Grow w w' := by
 have b0 : Below w.heap.size w w := Below.refl _ _
 refine enter (n := 36) Try.func10 rfl rfl (Nat.le_of_ble_eq_true rfl) ?_
 intro a1 hA2
 refine wp_seq ?_
 refine wp_region_lit ?_
 refine qs hA2 rfl (d_box (wn rfl) (hA2.ev rfl) ?_)
 intro g3 w4 eg5 hG6 (m7 : Blk w4 g3 (insC i) 23)
 have ge8 : w.heap.size ≤ g3 := eg5 ▸ b0.size
 have b9 := blg b0 hG6 b0.size
 intro a10 hA11
 refine qs hA11 rfl (das (wn rfl) (hA11.ev rfl) ?_)
 intro a12 hA13
 refine qe_ ?_
 refine tn_ ?_
 refine wp_seq ?_
 refine wp_region_lit ?_
 refine qs hA13 rfl (dlr (cs := (insC i)) (wn rfl) (hA13.ev rfl) row23 m7 ?_)
 intro a14 hA15
 refine qs hA15 rfl (dcl (wn rfl) ent31 (map1 (hA15.ev rfl)) (bare_any i w4) ?_)
 rintro e19 w16 ⟨he18, hG17⟩
 have m20 := m7.grow hG17
 have b21 := blg b9 hG17 b9.size
 refine ⟨(.tuple #[(.agg (insC (bareF i))), (.bool (fineB i))]), he18, ?_⟩
 intro a22 hA23
 refine qs hA23 rfl (dmv (wn rfl) (hA23.ev rfl) ?_)
 intro a24 hA25
 refine qs hA25 rfl (dex (v := (.agg (insC (bareF i)))) (wn rfl) (hA25.ev rfl) rfl ?_)
 intro a26 hA27
 refine qs hA27 rfl (dex (v := (.bool (fineB i))) (wn rfl) (hA27.ev rfl) rfl ?_)
 intro a28 hA29
 refine qs hA29 rfl (dal (wn rfl) zero23 ?_)
 intro g30 w31 eg32 hG33 (m34 : Blk w31 g30 #[.int .i64 0, .int .i64 0, .int .i64 0, .int .i64 0, .int .i64 0, .int .i64 0, .int .i64 0, .int .i64 0, .int .i64 0, .int .i64 0, .bool false, .bool false, .bool false, .int .i64 0, .int .i64 0, .int .i64 0, .bool false] 23)
 have ge35 : w.heap.size ≤ g30 := eg32 ▸ b21.size
 have n36 : g3 ≠ g30 := fun h => Nat.lt_irrefl _ ((h.trans eg32) ▸ m20.lt)
 have m37 := m20.grow hG33
 have b38 := blg b21 hG33 b21.size
 intro a39 hA40
 refine qs hA40 rfl (dsr (wn rfl) (hA40.ev rfl) (hA40.ev rfl) row23 m34 rfl rfl ?_)
 intro w41 hU42 (m43 : Blk w41 g30 (insC (bareF i)) 23)
 have m44 := m37.upd hU42 n36
 have b45 := hU42.below b38 ge35
 intro a46 hA47
 refine qs hA47 rfl (das (wn rfl) (hA47.ev rfl) ?_)
 intro a48 hA49
 refine qe_ ?_
 refine tn_ ?_
 refine wp_seq ?_
 refine wp_seq ?_
 refine wp_region_lit ?_
 refine qs hA49 rfl (dmv (wn rfl) (hA49.ev rfl) ?_)
 intro a50 hA51
 rcases Bool.eq_false_or_eq_true (fineB i) with hb52 | hb52
 ·skip
  have hA54 := hA51.shadow (t := 14) rfl hb52
  refine qs hA54 rfl (dnt (wn rfl) (hA54.ev rfl) ?_)
  intro a55 hA56
  refine qs hA56 rfl (dmv (wn rfl) (hA56.ev rfl) ?_)
  intro a57 hA58
  refine qs hA58 rfl (dlr (cs := (insC (bareF i))) (wy rfl rfl (hA58.get 16 _ rfl)) (hA58.ev rfl) row23 m43 ?_)
  intro a59 hA60
  refine qs hA60 rfl (dbd (cs := #[.int .i64 0, .int .i64 (-1), .int .i64 (-1), .int .i64 (-1), .int .i64 0, .int .i64 0, .int .i64 0, .int .i64 (-1), .int .i64 0, .int .i64 0, .bool false, .bool false, .bool false, .int .i64 0, .int .i64 0, .int .i64 0, .bool false]) (wy rfl rfl (hA60.get 16 _ rfl)) (bp_of (bq_cons (hA60.ev rfl) (bq_cons (hA60.ev rfl) (bq_cons (hA60.ev rfl) (bq_cons (hA60.ev rfl) bq_nil))))) zero23 places23 (by kernel_rfl) ?_)
  intro a61 hA62
  rcases Bool.eq_false_or_eq_true (insEq (bareF i) blank) with hb63 | hb63
  ·skip
   refine qs hA62 rfl (dbn (u := .agg (insC (bareF i))) (v := .agg (insC blank)) (wy rfl rfl (hA62.get 16 _ rfl)) (hA62.ev rfl) (hA62.ev rfl) (ne_ins (bareF i) blank _ _ _ false (notof hb63)) ?_)
   intro a65 hA66
   refine qs hA66 rfl (dpf (wn rfl) (hA66.ev rfl) (hA66.ev rfl) ?_)
   intro a67 hA68
   refine qe_ ?_
   refine tn_ ?_
   refine c_false hA68 rfl ?_
   refine wp_skip ?_
   refine tn_ ?_
   refine wp_seq ?_
   refine wp_seq ?_
   refine wp_region_lit ?_
   refine qs hA68 rfl (dfa (wn rfl) (hA68.ev rfl) fo23_0 ?_)
   intro a69 hA70
   refine qs hA70 rfl (dld (v := (.int .i64 i.op)) (wn rfl) (hA70.ev rfl) one3 (m44.cell rfl) ?_)
   intro a71 hA72
   rcases Bool.eq_false_or_eq_true (i.op == 9) with hb73 | hb73
   ·skip
    have hq74 := eq_of_beq hb73
    refine qs hA72 rfl (dbn (wn rfl) (hA72.ev rfl) (hA72.ev rfl) (b_eq _ _ i.op 9 true _ hb73) ?_)
    intro a75 hA76
    refine qs hA76 rfl (dmv (wn rfl) (hA76.ev rfl) ?_)
    intro a77 hA78
    refine qs hA78 rfl (dfa (wy rfl rfl (hA78.get 24 _ rfl)) (hA78.ev rfl) fo23_15 ?_)
    intro a79 hA80
    refine qs hA80 rfl (dld (v := (.int .i64 i.to)) (wy rfl rfl (hA80.get 24 _ rfl)) (hA80.ev rfl) one3 (m44.cell rfl) ?_)
    intro a81 hA82
    refine qs hA82 rfl (dmv (wy rfl rfl (hA82.get 24 _ rfl)) (hA82.ev rfl) ?_)
    intro a83 hA84
    rcases Bool.eq_false_or_eq_true (decide (i.to ≤ p)) with hb85 | hb85
    ·skip
     have hq86 := of_decide_eq_true hb85
     refine qs hA84 rfl (dbn (wy rfl rfl (hA84.get 24 _ rfl)) (hA84.ev rfl) (hA84.ev rfl) (b_le _ _ i.to p true _ hb85) ?_)
     intro a87 hA88
     refine qs hA88 rfl (dmv (wy rfl rfl (hA88.get 24 _ rfl)) (hA88.ev rfl) ?_)
     intro a89 hA90
     refine qs hA90 rfl (dno (wno rfl rfl (.inl (hA90.get 29 _ rfl))) ?_)
     intro a91 hA92
     refine qs hA92 rfl (dno (wno rfl rfl (.inl (hA92.get 29 _ rfl))) ?_)
     intro a93 hA94
     refine qs hA94 rfl (dno (wno rfl rfl (.inl (hA94.get 29 _ rfl))) ?_)
     intro a95 hA96
     refine qs hA96 rfl (dno (wno rfl rfl (.inl (hA96.get 29 _ rfl))) ?_)
     intro a97 hA98
     refine qs hA98 rfl (dpt (wy rfl rfl (hA98.get 24 _ rfl)) (hA98.ev rfl) (hA98.ev rfl) ?_)
     intro a99 hA100
     refine qs hA100 rfl (dpt (wn rfl) (hA100.ev rfl) (hA100.ev rfl) ?_)
     intro a101 hA102
     refine qe_ ?_
     refine tn_ ?_
     refine c_true hA102 rfl ?_
     refine wp_seq ?_
     refine wp_region_lit ?_
     refine qs hA102 rfl (das (wn rfl) (hA102.ev rfl) ?_)
     intro a103 hA104
     refine qe_ ?_
     refine tn_ ?_
     refine wp_ret ?_
     refine t_ret ?_
     refine ret1 rfl hA104 (v := (.int .i64 35)) rfl ?_
     exact ⟨ret_int (by simp [rightR, ← right_same, hb52, hb63, eq_of_beq hb73, hb85]), b45⟩
    have hq105 := of_decide_eq_false hb85
    refine qs hA84 rfl (dbn (wy rfl rfl (hA84.get 24 _ rfl)) (hA84.ev rfl) (hA84.ev rfl) (b_le _ _ i.to p false _ hb85) ?_)
    intro a106 hA107
    refine qs hA107 rfl (dmv (wy rfl rfl (hA107.get 24 _ rfl)) (hA107.ev rfl) ?_)
    intro a108 hA109
    refine qs hA109 rfl (dfa (wy rfl rfl (hA109.get 29 _ rfl)) (hA109.ev rfl) fo23_15 ?_)
    intro a110 hA111
    refine qs hA111 rfl (dld (v := (.int .i64 i.to)) (wy rfl rfl (hA111.get 29 _ rfl)) (hA111.ev rfl) one3 (m44.cell rfl) ?_)
    intro a112 hA113
    refine qs hA113 rfl (dmv (wy rfl rfl (hA113.get 29 _ rfl)) (hA113.ev rfl) ?_)
    intro a114 hA115
    rcases Bool.eq_false_or_eq_true (decide (i.to > q)) with hb116 | hb116
    ·skip
     have hq117 := of_decide_eq_true hb116
     refine qs hA115 rfl (dbn (wy rfl rfl (hA115.get 29 _ rfl)) (hA115.ev rfl) (hA115.ev rfl) (b_gt _ _ i.to q true _ hb116) ?_)
     intro a118 hA119
     refine qs hA119 rfl (dpf (wy rfl rfl (hA119.get 24 _ rfl)) (hA119.ev rfl) (hA119.ev rfl) ?_)
     intro a120 hA121
     refine qs hA121 rfl (dpt (wn rfl) (hA121.ev rfl) (hA121.ev rfl) ?_)
     intro a122 hA123
     refine qe_ ?_
     refine tn_ ?_
     refine c_true hA123 rfl ?_
     refine wp_seq ?_
     refine wp_region_lit ?_
     refine qs hA123 rfl (das (wn rfl) (hA123.ev rfl) ?_)
     intro a124 hA125
     refine qe_ ?_
     refine tn_ ?_
     refine wp_ret ?_
     refine t_ret ?_
     refine ret1 rfl hA125 (v := (.int .i64 35)) rfl ?_
     exact ⟨ret_int (by simp [rightR, ← right_same, hb52, hb63, eq_of_beq hb73, hb85, hb116]), b45⟩
    have hq126 := of_decide_eq_false hb116
    refine qs hA115 rfl (dbn (wy rfl rfl (hA115.get 29 _ rfl)) (hA115.ev rfl) (hA115.ev rfl) (b_gt _ _ i.to q false _ hb116) ?_)
    intro a127 hA128
    refine qs hA128 rfl (dpf (wy rfl rfl (hA128.get 24 _ rfl)) (hA128.ev rfl) (hA128.ev rfl) ?_)
    intro a129 hA130
    refine qs hA130 rfl (dpt (wn rfl) (hA130.ev rfl) (hA130.ev rfl) ?_)
    intro a131 hA132
    refine qe_ ?_
    refine tn_ ?_
    refine c_false hA132 rfl ?_
    refine wp_skip ?_
    refine tn_ ?_
    refine wp_seq ?_
    refine wp_region_lit ?_
    refine qs hA132 rfl (das (wn rfl) (hA132.ev rfl) ?_)
    intro a133 hA134
    refine qe_ ?_
    refine tn_ ?_
    refine wp_ret ?_
    refine ret1 rfl hA134 (v := (.int .i64 0)) rfl ?_
    exact ⟨ret_int (by simp [rightR, ← right_same, hb52, hb63, eq_of_beq hb73, hb85, hb116]), b45⟩
   have hq135 := ne_of_beq hb73
   refine qs hA72 rfl (dbn (wn rfl) (hA72.ev rfl) (hA72.ev rfl) (b_eq _ _ i.op 9 false _ hb73) ?_)
   intro a136 hA137
   refine qs hA137 rfl (dmv (wn rfl) (hA137.ev rfl) ?_)
   intro a138 hA139
   refine qs hA139 rfl (dno (wno rfl rfl (.inl (hA139.get 24 _ rfl))) ?_)
   intro a140 hA141
   refine qs hA141 rfl (dno (wno rfl rfl (.inl (hA141.get 24 _ rfl))) ?_)
   intro a142 hA143
   refine qs hA143 rfl (dno (wno rfl rfl (.inl (hA143.get 24 _ rfl))) ?_)
   intro a144 hA145
   refine qs hA145 rfl (dno (wno rfl rfl (.inl (hA145.get 24 _ rfl))) ?_)
   intro a146 hA147
   refine qs hA147 rfl (dno (wno rfl rfl (.inl (hA147.get 24 _ rfl))) ?_)
   intro a148 hA149
   refine qs hA149 rfl (dno (wno rfl rfl (.inr (hA149.get 29 _ rfl))) ?_)
   intro a150 hA151
   refine qs hA151 rfl (dno (wno rfl rfl (.inr (hA151.get 29 _ rfl))) ?_)
   intro a152 hA153
   refine qs hA153 rfl (dno (wno rfl rfl (.inr (hA153.get 29 _ rfl))) ?_)
   intro a154 hA155
   refine qs hA155 rfl (dno (wno rfl rfl (.inr (hA155.get 29 _ rfl))) ?_)
   intro a156 hA157
   refine qs hA157 rfl (dno (wno rfl rfl (.inl (hA157.get 24 _ rfl))) ?_)
   intro a158 hA159
   refine qs hA159 rfl (dpf (wn rfl) (hA159.ev rfl) (hA159.ev rfl) ?_)
   intro a160 hA161
   refine qe_ ?_
   refine tn_ ?_
   refine c_false hA161 rfl ?_
   refine wp_skip ?_
   refine tn_ ?_
   refine wp_seq ?_
   refine wp_region_lit ?_
   refine qs hA161 rfl (das (wn rfl) (hA161.ev rfl) ?_)
   intro a162 hA163
   refine qe_ ?_
   refine tn_ ?_
   refine wp_ret ?_
   refine ret1 rfl hA163 (v := (.int .i64 0)) rfl ?_
   exact ⟨ret_int (by simp [rightR, ← right_same, hb52, hb63, hb73]), b45⟩
  refine qs hA62 rfl (dbn (u := .agg (insC (bareF i))) (v := .agg (insC blank)) (wy rfl rfl (hA62.get 16 _ rfl)) (hA62.ev rfl) (hA62.ev rfl) (ne_ins (bareF i) blank _ _ _ true (notof hb63)) ?_)
  intro a165 hA166
  refine qs hA166 rfl (dpf (wn rfl) (hA166.ev rfl) (hA166.ev rfl) ?_)
  intro a167 hA168
  refine qe_ ?_
  refine tn_ ?_
  refine c_true hA168 rfl ?_
  refine wp_seq ?_
  refine wp_region_lit ?_
  refine qs hA168 rfl (das (wn rfl) (hA168.ev rfl) ?_)
  intro a169 hA170
  refine qe_ ?_
  refine tn_ ?_
  refine wp_ret ?_
  refine t_ret ?_
  refine ret1 rfl hA170 (v := (.int .i64 34)) rfl ?_
  exact ⟨ret_int (by simp [rightR, ← right_same, hb52, hb63]), b45⟩
 have hA172 := hA51.shadow (t := 14) rfl hb52
 refine qs hA172 rfl (dnt (wn rfl) (hA172.ev rfl) ?_)
 intro a173 hA174
 refine qs hA174 rfl (dmv (wn rfl) (hA174.ev rfl) ?_)
 intro a175 hA176
 refine qs hA176 rfl (dno (wno rfl rfl (.inl (hA176.get 16 _ rfl))) ?_)
 intro a177 hA178
 refine qs hA178 rfl (dno (wno rfl rfl (.inl (hA178.get 16 _ rfl))) ?_)
 intro a179 hA180
 refine qs hA180 rfl (dno (wno rfl rfl (.inl (hA180.get 16 _ rfl))) ?_)
 intro a181 hA182
 refine qs hA182 rfl (dpt (wn rfl) (hA182.ev rfl) (hA182.ev rfl) ?_)
 intro a183 hA184
 refine qe_ ?_
 refine tn_ ?_
 refine c_true hA184 rfl ?_
 refine wp_seq ?_
 refine wp_region_lit ?_
 refine qs hA184 rfl (das (wn rfl) (hA184.ev rfl) ?_)
 intro a185 hA186
 refine qe_ ?_
 refine tn_ ?_
 refine wp_ret ?_
 refine t_ret ?_
 refine ret1 rfl hA186 (v := (.int .i64 34)) rfl ?_
 exact ⟨ret_int (by simp [rightR, ← right_same, hb52]), b45⟩
end Go.Proofs.Ytlhompedcphnnaa
/- What the reference for Check returns. -/
namespace Go.Proofs.Ytlhompedcphnnaa
open Go.RowKit
set_option linter.unusedSimpArgs false
set_option linter.unusedVariables false
set_option maxHeartbeats 4000000 in
set_option maxRecDepth 4000 in
theorem rcheck_any (cs : List (List Ins)) (v : Value) (w : World) (hCs : Cs w.heap.size w v cs) (hn : cs.length ≤ 10000) (ht : totN cs ≤ 1000000) : Calls Try.prog 21 #[v] w fun e w' => e = .returned (.tuple #[.int .i64 (checkR cs).1, .int .i64 (checkR cs).2.1, .int .i64 (checkR cs).2.2]) ∧ Grow w w' := by
 obtain ⟨us, hus, hul, hin⟩ := id hCs
 have b0 : Below w.heap.size w w := Below.refl _ _
 refine enter (n := 84) Try.func21 rfl rfl (Nat.le_of_ble_eq_true rfl) ?_
 intro a1 hA2
 refine wp_seq ?_
 refine wp_region_lit ?_
 refine qs hA2 rfl (das (wn rfl) (hA2.ev rfl) ?_)
 intro a3 hA4
 refine qs hA4 rfl (das (wn rfl) (hA4.ev rfl) ?_)
 intro a5 hA6
 refine qs hA6 rfl (das (wn rfl) (hA6.ev rfl) ?_)
 intro a7 hA8
 refine qe_ ?_
 refine tn_ ?_
 refine wp_seq ?_
 refine wp_seq ?_
 refine wp_region_lit ?_
 refine qs hA8 rfl (dmv (wn rfl) (hA8.ev rfl) ?_)
 intro a9 hA10
 refine qs hA10 rfl (dle (n := us.length) (wn rfl) (hA10.ev rfl) slc34 hus.form ?_)
 intro a11 hA12
 rcases Bool.eq_false_or_eq_true (decide (((us.length : Nat) : Int) < 1)) with hb13 | hb13
 ·skip
  have hq14 := of_decide_eq_true hb13
  refine qs hA12 rfl (dbn (wn rfl) (hA12.ev rfl) (hA12.ev rfl) (b_lt _ _ ((us.length : Nat) : Int) 1 true _ hb13) ?_)
  intro a15 hA16
  refine qs hA16 rfl (dmv (wn rfl) (hA16.ev rfl) ?_)
  intro a17 hA18
  refine qs hA18 rfl (dno (wno rfl rfl (.inl (hA18.get 14 _ rfl))) ?_)
  intro a19 hA20
  refine qs hA20 rfl (dno (wno rfl rfl (.inl (hA20.get 14 _ rfl))) ?_)
  intro a21 hA22
  refine qs hA22 rfl (dno (wno rfl rfl (.inl (hA22.get 14 _ rfl))) ?_)
  intro a23 hA24
  refine qs hA24 rfl (dpt (wn rfl) (hA24.ev rfl) (hA24.ev rfl) ?_)
  intro a25 hA26
  refine qe_ ?_
  refine tn_ ?_
  refine c_true hA26 rfl ?_
  refine wp_seq ?_
  refine wp_region_lit ?_
  refine qs hA26 rfl (das (wn rfl) (hA26.ev rfl) ?_)
  intro a27 hA28
  refine qs hA28 rfl (das (wn rfl) (hA28.ev rfl) ?_)
  intro a29 hA30
  refine qs hA30 rfl (das (wn rfl) (hA30.ev rfl) ?_)
  intro a31 hA32
  refine qe_ ?_
  refine tn_ ?_
  refine wp_ret ?_
  refine t_ret ?_
  refine ret3 (x := (.int .i64 0)) (y := (.int .i64 0)) (z := (.int .i64 30)) rfl hA32 rfl rfl rfl ?_
  have hr := check_threads (cs := cs) (by omega)
  exact ⟨ret_three (by rw [hr]) (by rw [hr]) (by rw [hr]), b0⟩
 have hq33 := of_decide_eq_false hb13
 refine qs hA12 rfl (dbn (wn rfl) (hA12.ev rfl) (hA12.ev rfl) (b_lt _ _ ((us.length : Nat) : Int) 1 false _ hb13) ?_)
 intro a34 hA35
 refine qs hA35 rfl (dmv (wn rfl) (hA35.ev rfl) ?_)
 intro a36 hA37
 refine qs hA37 rfl (dmv (wy rfl rfl (hA37.get 14 _ rfl)) (hA37.ev rfl) ?_)
 intro a38 hA39
 refine qs hA39 rfl (dle (n := us.length) (wy rfl rfl (hA39.get 14 _ rfl)) (hA39.ev rfl) slc34 hus.form ?_)
 intro a40 hA41
 rcases Bool.eq_false_or_eq_true (decide (((us.length : Nat) : Int) > 3)) with hb42 | hb42
 ·skip
  have hq43 := of_decide_eq_true hb42
  refine qs hA41 rfl (dbn (wy rfl rfl (hA41.get 14 _ rfl)) (hA41.ev rfl) (hA41.ev rfl) (b_gt _ _ ((us.length : Nat) : Int) 3 true _ hb42) ?_)
  intro a44 hA45
  refine qs hA45 rfl (dpf (wn rfl) (hA45.ev rfl) (hA45.ev rfl) ?_)
  intro a46 hA47
  refine qe_ ?_
  refine tn_ ?_
  refine c_true hA47 rfl ?_
  refine wp_seq ?_
  refine wp_region_lit ?_
  refine qs hA47 rfl (das (wn rfl) (hA47.ev rfl) ?_)
  intro a48 hA49
  refine qs hA49 rfl (das (wn rfl) (hA49.ev rfl) ?_)
  intro a50 hA51
  refine qs hA51 rfl (das (wn rfl) (hA51.ev rfl) ?_)
  intro a52 hA53
  refine qe_ ?_
  refine tn_ ?_
  refine wp_ret ?_
  refine t_ret ?_
  refine ret3 (x := (.int .i64 0)) (y := (.int .i64 0)) (z := (.int .i64 30)) rfl hA53 rfl rfl rfl ?_
  have hr := check_threads (cs := cs) (by omega)
  exact ⟨ret_three (by rw [hr]) (by rw [hr]) (by rw [hr]), b0⟩
 have hq54 := of_decide_eq_false hb42
 refine qs hA41 rfl (dbn (wy rfl rfl (hA41.get 14 _ rfl)) (hA41.ev rfl) (hA41.ev rfl) (b_gt _ _ ((us.length : Nat) : Int) 3 false _ hb42) ?_)
 intro a55 hA56
 refine qs hA56 rfl (dpf (wn rfl) (hA56.ev rfl) (hA56.ev rfl) ?_)
 intro a57 hA58
 refine qe_ ?_
 refine tn_ ?_
 refine c_false hA58 rfl ?_
 refine wp_skip ?_
 refine tn_ ?_
 refine wp_seq ?_
 refine wp_region_lit ?_
 refine qs hA58 rfl (das (wn rfl) (hA58.ev rfl) ?_)
 intro a59 hA60
 refine qe_ ?_
 refine tn_ ?_
 refine wp_seq ?_
 refine wp_region_lit ?_
 refine qs hA60 rfl (das (wn rfl) (hA60.ev rfl) ?_)
 intro a61 hA62
 refine qe_ ?_
 refine tn_ ?_
 refine wp_seq ?_
 refine wp_seq ?_
 refine wp_region_lit ?_
 refine qs hA62 rfl (das (wn rfl) (hA62.ev rfl) ?_)
 intro a63 hA64
 refine qe_ ?_
 refine tn_ ?_
 refine wp_block ?_
 refine loop_by (fun m66 a67 w68 => ∃ j65 : Nat, m66 = cs.length - j65 ∧ (j65 ≤ cs.length ∧ longR cs 0 = longR (cs.drop j65) j65) ∧ St 84 [(0, v), (5, (.int .i64 0)), (6, (.int .i64 0)), (7, (.int .i64 ((j65 : Nat) : Int)))] a67 ∧ Below w.heap.size w w68) (cs.length - 0) ⟨0, rfl, ⟨by omega, rfl⟩, hA64.cut _ (fc (hA64.get 0 _ rfl) (fc (hA64.get 5 _ rfl) (fc (hA64.get 6 _ rfl) (fc ((hA64.get 7 _ rfl).trans (congrArg (Value.int .i64) (by omega))) fn_)))), b0⟩ ?_
 rintro m66 a67 w68 ⟨j65, hm71, hc72, hA69, b70⟩
 refine wp_seq ?_
 refine wp_seq ?_
 refine wp_region_lit ?_
 refine qs hA69 rfl (dmv (wn rfl) (hA69.ev rfl) ?_)
 intro a73 hA74
 refine qs hA74 rfl (dmv (wn rfl) (hA74.ev rfl) ?_)
 intro a75 hA76
 refine qs hA76 rfl (dle (n := us.length) (wn rfl) (hA76.ev rfl) slc34 hus.form ?_)
 intro a77 hA78
 rcases Bool.eq_false_or_eq_true (decide (((j65 : Nat) : Int) < ((us.length : Nat) : Int))) with hb79 | hb79
 ·skip
  have hq80 := of_decide_eq_true hb79
  refine qs hA78 rfl (dbn (wn rfl) (hA78.ev rfl) (hA78.ev rfl) (b_lt _ _ ((j65 : Nat) : Int) ((us.length : Nat) : Int) true _ hb79) ?_)
  intro a81 hA82
  refine qe_ ?_
  refine tn_ ?_
  refine c_true hA82 rfl ?_
  refine wp_skip ?_
  refine tn_ ?_
  refine wp_seq ?_
  refine wp_block ?_
  refine wp_seq ?_
  refine wp_region_lit ?_
  refine qs hA82 rfl (dmv (wn rfl) (hA82.ev rfl) ?_)
  intro a83 hA84
  refine qs hA84 rfl (dmv (wn rfl) (hA84.ev rfl) ?_)
  intro a85 hA86
  obtain ⟨y87, hy88⟩ : ∃ y87, us[j65]? = some y87 := ⟨_, List.getElem?_eq_getElem (show j65 < us.length by omega)⟩
  obtain ⟨b89, o90, lt91, hr92, hix93⟩ := (hus.below b70).at hy88
  obtain ⟨c94, hc95⟩ : ∃ c, cs[j65]? = some c := ⟨_, List.getElem?_eq_getElem (show j65 < cs.length by have := get_lt hy88; omega)⟩
  have hsl96 := hin j65 y87 c94 hy88 hc95
  have hlc94 := len_le hc95
  have hoc94 := ops_le c94
  have hbc94 := br_le c94
  refine qs hA86 rfl (dia (j := j65) (wn rfl) (hA86.ev rfl) (hA86.ev rfl) slc34 hix93 (get_lt hy88) ?_)
  intro a97 hA98
  refine qs hA98 rfl (dld (v := y87) (wn rfl) (hA98.ev rfl) one35 (hr92 0 _ rfl) ?_)
  intro a99 hA100
  refine qs hA100 rfl (dle (n := c94.length) (wn rfl) (hA100.ev rfl) slc35 hsl96.form ?_)
  intro a101 hA102
  rcases Bool.eq_false_or_eq_true (decide (((c94.length : Nat) : Int) > 8)) with hb103 | hb103
  ·skip
   have hq104 := of_decide_eq_true hb103
   refine qs hA102 rfl (dbn (wn rfl) (hA102.ev rfl) (hA102.ev rfl) (b_gt _ _ ((c94.length : Nat) : Int) 8 true _ hb103) ?_)
   intro a105 hA106
   refine qe_ ?_
   refine tn_ ?_
   refine c_true hA106 rfl ?_
   refine wp_seq ?_
   refine wp_region_lit ?_
   refine qs hA106 rfl (dmv (wn rfl) (hA106.ev rfl) ?_)
   intro a107 hA108
   refine qs hA108 rfl (das (wn rfl) (hA108.ev rfl) ?_)
   intro a109 hA110
   refine qs hA110 rfl (das (wn rfl) (hA110.ev rfl) ?_)
   intro a111 hA112
   refine qs hA112 rfl (das (wn rfl) (hA112.ev rfl) ?_)
   intro a113 hA114
   refine qe_ ?_
   refine tn_ ?_
   refine wp_ret ?_
   refine i_ret ?_
   refine t_ret ?_
   refine t_ret ?_
   refine i_ret ?_
   refine t_ret ?_
   refine ret3 (x := (.int .i64 ((j65 : Nat) : Int))) (y := (.int .i64 0)) (z := (.int .i64 31)) rfl hA114 rfl rfl rfl ?_
   have hr := check_long (cs := cs) (by omega) (by omega) (hc72.2.trans (long_yes hc95 hb103))
   exact ⟨ret_three (by rw [hr]) (by rw [hr]) (by rw [hr]), b70⟩
  have hq115 := of_decide_eq_false hb103
  refine qs hA102 rfl (dbn (wn rfl) (hA102.ev rfl) (hA102.ev rfl) (b_gt _ _ ((c94.length : Nat) : Int) 8 false _ hb103) ?_)
  intro a116 hA117
  refine qe_ ?_
  refine tn_ ?_
  refine c_false hA117 rfl ?_
  refine wp_skip ?_
  refine i_norm ?_
  refine tn_ ?_
  refine wp_region_lit ?_
  refine qs hA117 rfl (dmv (wn rfl) (hA117.ev rfl) ?_)
  intro a118 hA119
  refine qs hA119 rfl (dbn (wn rfl) (hA119.ev rfl) (hA119.ev rfl) (b_add _ _ ((j65 : Nat) : Int) 1 _ (by omega) (by omega)) ?_)
  intro a120 hA121
  refine qs hA121 rfl (das (wn rfl) (hA121.ev rfl) ?_)
  intro a122 hA123
  refine qe_ ?_
  refine tn_ ?_
  exact ⟨cs.length - (j65 + 1), (by rw [hm71]; omega), j65 + 1, rfl, ⟨by have := get_lt hc95; omega, hc72.2.trans (long_at hc95 hb103)⟩, hA123.cut _ (fc (hA123.get 0 _ rfl) (fc (hA123.get 5 _ rfl) (fc (hA123.get 6 _ rfl) (fc ((hA123.get 7 _ rfl).trans (congrArg (Value.int .i64) (by omega))) fn_)))), b70⟩
 have hq124 := of_decide_eq_false hb79
 refine qs hA78 rfl (dbn (wn rfl) (hA78.ev rfl) (hA78.ev rfl) (b_lt _ _ ((j65 : Nat) : Int) ((us.length : Nat) : Int) false _ hb79) ?_)
 intro a125 hA126
 refine qe_ ?_
 refine tn_ ?_
 refine c_false hA126 rfl ?_
 refine wp_exit ?_
 refine t_exit ?_
 refine t_exit ?_
 refine i_here ?_
 refine tn_ ?_
 refine wp_seq ?_
 refine wp_seq ?_
 refine wp_region_lit ?_
 refine qs hA126 rfl (das (wn rfl) (hA126.ev rfl) ?_)
 intro a127 hA128
 refine qe_ ?_
 refine tn_ ?_
 refine wp_block ?_
 have hlong : longR cs 0 = none := hc72.2.trans (by rw [drop_end (by omega)]; rfl)
 refine loop_by (fun m130 a131 w132 => ∃ j129 : Nat, m130 = cs.length - j129 ∧ (j129 ≤ cs.length ∧ bad2 cs 0 = bad2 (cs.drop j129) j129) ∧ St 84 [(0, v), (5, (.int .i64 (((cs.map opsN).sum - ((cs.drop j129).map opsN).sum : Nat) : Int))), (6, (.int .i64 (((cs.map brN).sum - ((cs.drop j129).map brN).sum : Nat) : Int))), (8, (.int .i64 ((j129 : Nat) : Int)))] a131 ∧ Below w.heap.size w w132) (cs.length - 0) ⟨0, rfl, ⟨by omega, rfl⟩, hA128.cut _ (fc (hA128.get 0 _ rfl) (fc ((hA128.get 5 _ rfl).trans (congrArg (Value.int .i64) (by simp))) (fc ((hA128.get 6 _ rfl).trans (congrArg (Value.int .i64) (by simp))) (fc ((hA128.get 8 _ rfl).trans (congrArg (Value.int .i64) (by simp))) fn_)))), b70⟩ ?_
 rintro m130 a131 w132 ⟨j129, hm135, hc136, hA133, b134⟩
 have hkopsN := drop_sum_le opsN cs j129
 have hmopsN := sum_le opsN ops_le cs
 have hkbrN := drop_sum_le brN cs j129
 have hmbrN := sum_le brN br_le cs
 refine wp_seq ?_
 refine wp_seq ?_
 refine wp_region_lit ?_
 refine qs hA133 rfl (dmv (wn rfl) (hA133.ev rfl) ?_)
 intro a137 hA138
 refine qs hA138 rfl (dmv (wn rfl) (hA138.ev rfl) ?_)
 intro a139 hA140
 refine qs hA140 rfl (dle (n := us.length) (wn rfl) (hA140.ev rfl) slc34 hus.form ?_)
 intro a141 hA142
 rcases Bool.eq_false_or_eq_true (decide (((j129 : Nat) : Int) < ((us.length : Nat) : Int))) with hb143 | hb143
 ·skip
  have hq144 := of_decide_eq_true hb143
  refine qs hA142 rfl (dbn (wn rfl) (hA142.ev rfl) (hA142.ev rfl) (b_lt _ _ ((j129 : Nat) : Int) ((us.length : Nat) : Int) true _ hb143) ?_)
  intro a145 hA146
  refine qe_ ?_
  refine tn_ ?_
  refine c_true hA146 rfl ?_
  refine wp_skip ?_
  refine tn_ ?_
  refine wp_seq ?_
  refine wp_block ?_
  refine wp_seq ?_
  refine wp_seq ?_
  refine wp_region_lit ?_
  refine qs hA146 rfl (das (wn rfl) (hA146.ev rfl) ?_)
  intro a147 hA148
  refine qe_ ?_
  refine tn_ ?_
  refine wp_block ?_
  obtain ⟨y149, hy150⟩ : ∃ y149, us[j129]? = some y149 := ⟨_, List.getElem?_eq_getElem (show j129 < us.length by omega)⟩
  obtain ⟨b151, o152, lt153, hr154, hix155⟩ := (hus.below b134).at hy150
  obtain ⟨c156, hc157⟩ : ∃ c, cs[j129]? = some c := ⟨_, List.getElem?_eq_getElem (show j129 < cs.length by have := get_lt hy150; omega)⟩
  have hsl158 := hin j129 y149 c156 hy150 hc157
  have hlc156 := len_le hc157
  have hoc156 := ops_le c156
  have hbc156 := br_le c156
  refine loop_by (fun m160 a161 w162 => ∃ k159 : Nat, m160 = c156.length - k159 ∧ (k159 ≤ c156.length ∧ bad1 c156.length c156 0 = bad1 c156.length (c156.drop k159) k159) ∧ St 84 [(0, v), (5, (.int .i64 (((cs.map opsN).sum - ((cs.drop j129).map opsN).sum : Nat) : Int))), (6, (.int .i64 (((cs.map brN).sum - ((cs.drop j129).map brN).sum : Nat) : Int))), (8, (.int .i64 ((j129 : Nat) : Int))), (9, (.int .i64 ((k159 : Nat) : Int)))] a161 ∧ Below w.heap.size w w162) (c156.length - 0) ⟨0, rfl, ⟨by omega, rfl⟩, hA148.cut _ (fc (hA148.get 0 _ rfl) (fc (hA148.get 5 _ rfl) (fc (hA148.get 6 _ rfl) (fc (hA148.get 8 _ rfl) (fc ((hA148.get 9 _ rfl).trans (congrArg (Value.int .i64) (by simp))) fn_))))), b134⟩ ?_
  rintro m160 a161 w162 ⟨k159, hm165, hc166, hA163, b164⟩
  refine wp_seq ?_
  refine wp_seq ?_
  refine wp_region_lit ?_
  refine qs hA163 rfl (dmv (wn rfl) (hA163.ev rfl) ?_)
  intro a167 hA168
  refine qs hA168 rfl (dmv (wn rfl) (hA168.ev rfl) ?_)
  intro a169 hA170
  refine qs hA170 rfl (dmv (wn rfl) (hA170.ev rfl) ?_)
  intro a171 hA172
  obtain ⟨b173, o174, lt175, hr176, hix177⟩ := (hus.below b164).at hy150
  refine qs hA172 rfl (dia (j := j129) (wn rfl) (hA172.ev rfl) (hA172.ev rfl) slc34 hix177 (get_lt hy150) ?_)
  intro a178 hA179
  refine qs hA179 rfl (dld (v := y149) (wn rfl) (hA179.ev rfl) one35 (hr176 0 _ rfl) ?_)
  intro a180 hA181
  refine qs hA181 rfl (dle (n := c156.length) (wn rfl) (hA181.ev rfl) slc35 hsl158.form ?_)
  intro a182 hA183
  rcases Bool.eq_false_or_eq_true (decide (((k159 : Nat) : Int) < ((c156.length : Nat) : Int))) with hb184 | hb184
  ·skip
   have hq185 := of_decide_eq_true hb184
   refine qs hA183 rfl (dbn (wn rfl) (hA183.ev rfl) (hA183.ev rfl) (b_lt _ _ ((k159 : Nat) : Int) ((c156.length : Nat) : Int) true _ hb184) ?_)
   intro a186 hA187
   refine qe_ ?_
   refine tn_ ?_
   refine c_true hA187 rfl ?_
   refine wp_skip ?_
   refine tn_ ?_
   refine wp_seq ?_
   refine wp_block ?_
   refine wp_seq ?_
   obtain ⟨y188, hy189⟩ : ∃ y188, c156[k159]? = some y188 := ⟨_, List.getElem?_eq_getElem (show k159 < c156.length by omega)⟩
   obtain ⟨b190, o191, lt192, hr193, hix194⟩ := (hsl158.below b164).at hy189
   have hA195 : St 84 [(0, v), (5, (.int .i64 (((cs.map opsN).sum - ((cs.drop j129).map opsN).sum : Nat) : Int))), (6, (.int .i64 (((cs.map brN).sum - ((cs.drop j129).map brN).sum : Nat) : Int))), (8, (.int .i64 ((j129 : Nat) : Int))), (9, (.int .i64 ((k159 : Nat) : Int)))] a186 := hA187.sub rfl
   let M196 : Nat → Option (Array Value) := fun _ => none
   have hM196 : M196 = fun _ => none := rfl
   clear_value M196
   have hM196B : ∀ k, k < w.heap.size → M196 k = none := (fun k hk => (congrFun hM196 k))
   refine drawn (S := SM M196) (tabL [cv v, cv (.int .i64 ((j129 : Nat) : Int)), cv (.pointer (some ⟨b173, o174, none⟩)), cv y149, cv (.int .i64 ((k159 : Nat) : Int)), cv (.pointer (some ⟨b190, o191, none⟩)), cv (.agg (insC y188)), cv (.int .i64 ((k159 : Nat) : Int)), cv v, cv (.int .i64 ((j129 : Nat) : Int)), cv (.pointer (some ⟨b173, o174, none⟩)), cv y149, cv (.int .i64 ((c156.length : Nat) : Int)), cv (.int .i64 (rightR y188 ((k159 : Nat) : Int) ((c156.length : Nat) : Int))), cv (.int .i64 (rightR y188 ((k159 : Nat) : Int) ((c156.length : Nat) : Int)))]) mixedY SM.refl SM.trans SM.drew hA195 (by kernel_rfl) ?_ ?_
   ·skip
    refine ec_ (fun x y hS hT hk => dmv (wn rfl) (hT.ev rfl) ⟨SM.refl _, rfl⟩) ?_
    refine ec_ (fun x y hS hT hk => dmv (wn rfl) (hT.ev rfl) ⟨SM.refl _, rfl⟩) ?_
    refine ec_ (fun x y hS hT hk => dia (j := j129) (wn rfl) (hk 0 rfl) (hk 1 rfl) slc34 hix177 (get_lt hy150) ⟨SM.refl _, rfl⟩) ?_
    refine ec_ (fun x y hS hT hk => dld (v := y149) (wn rfl) (hk 2 rfl) one35 ((range_sm (w := w162.drew) hr176 hS (Nat.lt_of_lt_of_le lt175 b164.size) (hM196B _ lt175)) 0 _ rfl) ⟨SM.refl _, rfl⟩) ?_
    refine ec_ (fun x y hS hT hk => dmv (wn rfl) (hT.ev rfl) ⟨SM.refl _, rfl⟩) ?_
    refine ec_ (fun x y hS hT hk => dia (j := k159) (wn rfl) (hk 3 rfl) (hk 4 rfl) slc35 hix194 (get_lt hy189) ⟨SM.refl _, rfl⟩) ?_
    refine ec_ (fun x y hS hT hk => dlm (cs := (insC y188)) (wn rfl) (hk 5 rfl) row23 (range_sm (w := w162.drew) hr193 hS (Nat.lt_of_lt_of_le lt192 b164.size) (hM196B _ lt192)) ⟨SM.refl _, rfl⟩) ?_
    refine ec_ (fun x y hS hT hk => dmv (wn rfl) (hT.ev rfl) ⟨SM.refl _, rfl⟩) ?_
    refine ec_ (fun x y hS hT hk => dmv (wn rfl) (hT.ev rfl) ⟨SM.refl _, rfl⟩) ?_
    refine ec_ (fun x y hS hT hk => dmv (wn rfl) (hT.ev rfl) ⟨SM.refl _, rfl⟩) ?_
    refine ec_ (fun x y hS hT hk => dia (j := j129) (wn rfl) (hk 8 rfl) (hk 9 rfl) slc34 hix177 (get_lt hy150) ⟨SM.refl _, rfl⟩) ?_
    refine ec_ (fun x y hS hT hk => dld (v := y149) (wn rfl) (hk 10 rfl) one35 ((range_sm (w := w162.drew) hr176 hS (Nat.lt_of_lt_of_le lt175 b164.size) (hM196B _ lt175)) 0 _ rfl) ⟨SM.refl _, rfl⟩) ?_
    refine ec_ (fun x y hS hT hk => dle (n := c156.length) (wn rfl) (hk 11 rfl) slc35 hsl158.form ⟨SM.refl _, rfl⟩) ?_
    refine ec_ (fun x y hS hT hk => dcl (wn rfl) ent10 (map3 (show x.eval _ = (.agg (insC y188)) from (hk 6 rfl)) (show x.eval _ = (.int .i64 ((k159 : Nat) : Int)) from (hk 7 rfl)) (show x.eval _ = (.int .i64 ((c156.length : Nat) : Int)) from (hk 12 rfl))) (rright_any y188 ((k159 : Nat) : Int) ((c156.length : Nat) : Int) y) (fun _ _ ⟨he, hG⟩ => ⟨(.int .i64 (rightR y188 ((k159 : Nat) : Int) ((c156.length : Nat) : Int))), he, SM.grow hG, rfl⟩)) ?_
    refine ec_ (fun x y hS hT hk => das (wn rfl) (hk 13 rfl) ⟨SM.refl _, rfl⟩) ?_
    exact each_nil
   intro f197 a198 w199 hS200 hC201 hA202
   have hA203 : St 84 [(0, v), (5, (.int .i64 (((cs.map opsN).sum - ((cs.drop j129).map opsN).sum : Nat) : Int))), (6, (.int .i64 (((cs.map brN).sum - ((cs.drop j129).map brN).sum : Nat) : Int))), (8, (.int .i64 ((j129 : Nat) : Int))), (9, (.int .i64 ((k159 : Nat) : Int))), (10, (.int .i64 (rightR y188 ((k159 : Nat) : Int) ((c156.length : Nat) : Int))))] a198 := hA202.cut _ (fc (hA202.get 0 _ rfl) (fc (hA202.get 5 _ rfl) (fc (hA202.get 6 _ rfl) (fc (hA202.get 8 _ rfl) (fc (hA202.get 9 _ rfl) (fc ((hA202.get 10 _ rfl).trans (hC201 14 (Nat.le_of_ble_eq_true rfl))) fn_))))))
   have b204 := hS200.below b164 b164.size hM196B
   have hr205 := range_sm hr176 hS200 (Nat.lt_of_lt_of_le lt175 b164.size) (hM196B _ lt175)
   have hr206 := range_sm hr193 hS200 (Nat.lt_of_lt_of_le lt192 b164.size) (hM196B _ lt192)
   refine tn_ ?_
   refine wp_seq ?_
   refine wp_region_lit ?_
   refine qs hA203 rfl (dmv (wn rfl) (hA203.ev rfl) ?_)
   intro a207 hA208
   rcases Bool.eq_false_or_eq_true (rightR y188 ((k159 : Nat) : Int) ((c156.length : Nat) : Int) == 0) with hb209 | hb209
   ·skip
    have hq210 := eq_of_beq hb209
    refine qs hA208 rfl (dbn (wn rfl) (hA208.ev rfl) (hA208.ev rfl) (b_ne _ _ (rightR y188 ((k159 : Nat) : Int) ((c156.length : Nat) : Int)) 0 false _ (notof hb209)) ?_)
    intro a211 hA212
    refine qe_ ?_
    refine tn_ ?_
    refine c_false hA212 rfl ?_
    refine wp_skip ?_
    refine i_norm ?_
    refine tn_ ?_
    refine wp_region_lit ?_
    refine qs hA212 rfl (dmv (wn rfl) (hA212.ev rfl) ?_)
    intro a213 hA214
    refine qs hA214 rfl (dbn (wn rfl) (hA214.ev rfl) (hA214.ev rfl) (b_add _ _ ((k159 : Nat) : Int) 1 _ (by omega) (by omega)) ?_)
    intro a215 hA216
    refine qs hA216 rfl (das (wn rfl) (hA216.ev rfl) ?_)
    intro a217 hA218
    refine qe_ ?_
    refine tn_ ?_
    exact ⟨c156.length - (k159 + 1), (by rw [hm165]; omega), k159 + 1, rfl, ⟨by have := get_lt hy189; omega, hc166.2.trans (bad1_at hy189 hb209)⟩, hA218.cut _ (fc (hA218.get 0 _ rfl) (fc (hA218.get 5 _ rfl) (fc (hA218.get 6 _ rfl) (fc (hA218.get 8 _ rfl) (fc ((hA218.get 9 _ rfl).trans (congrArg (Value.int .i64) (by omega))) fn_))))), b204⟩
   have hq219 := ne_of_beq hb209
   refine qs hA208 rfl (dbn (wn rfl) (hA208.ev rfl) (hA208.ev rfl) (b_ne _ _ (rightR y188 ((k159 : Nat) : Int) ((c156.length : Nat) : Int)) 0 true _ (notof hb209)) ?_)
   intro a220 hA221
   refine qe_ ?_
   refine tn_ ?_
   refine c_true hA221 rfl ?_
   refine wp_seq ?_
   refine wp_region_lit ?_
   refine qs hA221 rfl (dmv (wn rfl) (hA221.ev rfl) ?_)
   intro a222 hA223
   refine qs hA223 rfl (dmv (wn rfl) (hA223.ev rfl) ?_)
   intro a224 hA225
   refine qs hA225 rfl (dmv (wn rfl) (hA225.ev rfl) ?_)
   intro a226 hA227
   refine qs hA227 rfl (das (wn rfl) (hA227.ev rfl) ?_)
   intro a228 hA229
   refine qs hA229 rfl (das (wn rfl) (hA229.ev rfl) ?_)
   intro a230 hA231
   refine qs hA231 rfl (das (wn rfl) (hA231.ev rfl) ?_)
   intro a232 hA233
   refine qe_ ?_
   refine tn_ ?_
   refine wp_ret ?_
   refine i_ret ?_
   refine t_ret ?_
   refine t_ret ?_
   refine i_ret ?_
   refine t_ret ?_
   refine i_ret ?_
   refine t_ret ?_
   refine t_ret ?_
   refine i_ret ?_
   refine t_ret ?_
   refine ret3 (x := (.int .i64 ((j129 : Nat) : Int))) (y := (.int .i64 ((k159 : Nat) : Int))) (z := (.int .i64 (rightR y188 ((k159 : Nat) : Int) ((c156.length : Nat) : Int)))) rfl hA233 rfl rfl rfl ?_
   have hr := check_bad (cs := cs) (by omega) (by omega) hlong (hc136.2.trans (bad2_yes hc157 (hc166.2.trans (bad1_yes hy189 hb209))))
   exact ⟨ret_three (by rw [hr]) (by rw [hr]) (by rw [hr]), b204⟩
  have hq234 := of_decide_eq_false hb184
  refine qs hA183 rfl (dbn (wn rfl) (hA183.ev rfl) (hA183.ev rfl) (b_lt _ _ ((k159 : Nat) : Int) ((c156.length : Nat) : Int) false _ hb184) ?_)
  intro a235 hA236
  refine qe_ ?_
  refine tn_ ?_
  refine c_false hA236 rfl ?_
  refine wp_exit ?_
  refine t_exit ?_
  refine t_exit ?_
  refine i_here ?_
  refine tn_ ?_
  refine wp_seq ?_
  refine wp_region_lit ?_
  refine qs hA236 rfl (dmv (wn rfl) (hA236.ev rfl) ?_)
  intro a237 hA238
  refine qs hA238 rfl (dmv (wn rfl) (hA238.ev rfl) ?_)
  intro a239 hA240
  refine qs hA240 rfl (dmv (wn rfl) (hA240.ev rfl) ?_)
  intro a241 hA242
  refine qs hA242 rfl (dia (j := j129) (wn rfl) (hA242.ev rfl) (hA242.ev rfl) slc34 hix177 (get_lt hy150) ?_)
  intro a243 hA244
  refine qs hA244 rfl (dld (v := y149) (wn rfl) (hA244.ev rfl) one35 (hr176 0 _ rfl) ?_)
  intro a245 hA246
  refine qs hA246 rfl (dcl (wn rfl) ent23 (map1 (hA246.ev rfl)) (rops_any c156 y149 w162 ((hsl158.below b164).mono b164.size) (by omega)) ?_)
  rintro e250 w247 ⟨he249, hG248⟩
  have hr251 := range_below hr176 hG248 (Nat.lt_of_lt_of_le lt175 b164.size)
  have b252 := blg b164 hG248 b164.size
  refine ⟨(.int .i64 ((opsN c156 : Nat) : Int)), he249, ?_⟩
  intro a253 hA254
  refine qs hA254 rfl (dbn (wn rfl) (hA254.ev rfl) (hA254.ev rfl) (b_add _ _ (((cs.map opsN).sum - ((cs.drop j129).map opsN).sum : Nat) : Int) ((opsN c156 : Nat) : Int) _ (by omega) (by omega)) ?_)
  intro a255 hA256
  refine qs hA256 rfl (das (wn rfl) (hA256.ev rfl) ?_)
  intro a257 hA258
  refine qe_ ?_
  refine tn_ ?_
  refine wp_region_lit ?_
  refine qs hA258 rfl (dmv (wn rfl) (hA258.ev rfl) ?_)
  intro a259 hA260
  refine qs hA260 rfl (dmv (wn rfl) (hA260.ev rfl) ?_)
  intro a261 hA262
  refine qs hA262 rfl (dmv (wn rfl) (hA262.ev rfl) ?_)
  intro a263 hA264
  refine qs hA264 rfl (dia (j := j129) (wn rfl) (hA264.ev rfl) (hA264.ev rfl) slc34 hix177 (get_lt hy150) ?_)
  intro a265 hA266
  refine qs hA266 rfl (dld (v := y149) (wn rfl) (hA266.ev rfl) one35 (hr251 0 _ rfl) ?_)
  intro a267 hA268
  refine qs hA268 rfl (dcl (wn rfl) ent25 (map1 (hA268.ev rfl)) (rbranches_any c156 y149 w247 ((hsl158.below b252).mono b252.size) (by omega)) ?_)
  rintro e272 w269 ⟨he271, hG270⟩
  have hr273 := range_below hr251 hG270 (Nat.lt_of_lt_of_le lt175 b252.size)
  have b274 := blg b252 hG270 b252.size
  refine ⟨(.int .i64 ((brN c156 : Nat) : Int)), he271, ?_⟩
  intro a275 hA276
  refine qs hA276 rfl (dbn (wn rfl) (hA276.ev rfl) (hA276.ev rfl) (b_add _ _ (((cs.map brN).sum - ((cs.drop j129).map brN).sum : Nat) : Int) ((brN c156 : Nat) : Int) _ (by omega) (by omega)) ?_)
  intro a277 hA278
  refine qs hA278 rfl (das (wn rfl) (hA278.ev rfl) ?_)
  intro a279 hA280
  refine qe_ ?_
  refine i_norm ?_
  refine tn_ ?_
  refine wp_region_lit ?_
  refine qs hA280 rfl (dmv (wn rfl) (hA280.ev rfl) ?_)
  intro a281 hA282
  refine qs hA282 rfl (dbn (wn rfl) (hA282.ev rfl) (hA282.ev rfl) (b_add _ _ ((j129 : Nat) : Int) 1 _ (by omega) (by omega)) ?_)
  intro a283 hA284
  refine qs hA284 rfl (das (wn rfl) (hA284.ev rfl) ?_)
  intro a285 hA286
  refine qe_ ?_
  refine tn_ ?_
  exact ⟨cs.length - (j129 + 1), (by rw [hm135]; omega), j129 + 1, rfl, ⟨by have := get_lt hc157; omega, hc136.2.trans (bad2_at hc157 (hc166.2.trans (by rw [drop_end (by omega)]; rfl)))⟩, hA286.cut _ (fc (hA286.get 0 _ rfl) (fc ((hA286.get 5 _ rfl).trans (congrArg (Value.int .i64) (by have h1 := sum_at opsN hc157; have h2 := drop_sum_le opsN cs j129; omega))) (fc ((hA286.get 6 _ rfl).trans (congrArg (Value.int .i64) (by have h1 := sum_at brN hc157; have h2 := drop_sum_le brN cs j129; omega))) (fc ((hA286.get 8 _ rfl).trans (congrArg (Value.int .i64) (by omega))) fn_)))), b274⟩
 have hq287 := of_decide_eq_false hb143
 refine qs hA142 rfl (dbn (wn rfl) (hA142.ev rfl) (hA142.ev rfl) (b_lt _ _ ((j129 : Nat) : Int) ((us.length : Nat) : Int) false _ hb143) ?_)
 intro a288 hA289
 refine qe_ ?_
 refine tn_ ?_
 refine c_false hA289 rfl ?_
 refine wp_exit ?_
 refine t_exit ?_
 refine t_exit ?_
 refine i_here ?_
 refine tn_ ?_
 refine wp_seq ?_
 refine wp_seq ?_
 refine wp_region_lit ?_
 refine qs hA289 rfl (dmv (wn rfl) (hA289.ev rfl) ?_)
 intro a290 hA291
 rcases Bool.eq_false_or_eq_true (decide ((((cs.map opsN).sum - ((cs.drop j129).map opsN).sum : Nat) : Int) > 6)) with hb292 | hb292
 ·skip
  have hq293 := of_decide_eq_true hb292
  refine qs hA291 rfl (dbn (wn rfl) (hA291.ev rfl) (hA291.ev rfl) (b_gt _ _ (((cs.map opsN).sum - ((cs.drop j129).map opsN).sum : Nat) : Int) 6 true _ hb292) ?_)
  intro a294 hA295
  refine qe_ ?_
  refine tn_ ?_
  refine c_true hA295 rfl ?_
  refine wp_seq ?_
  refine wp_region_lit ?_
  refine qs hA295 rfl (das (wn rfl) (hA295.ev rfl) ?_)
  intro a296 hA297
  refine qs hA297 rfl (das (wn rfl) (hA297.ev rfl) ?_)
  intro a298 hA299
  refine qs hA299 rfl (das (wn rfl) (hA299.ev rfl) ?_)
  intro a300 hA301
  refine qe_ ?_
  refine tn_ ?_
  refine wp_ret ?_
  refine t_ret ?_
  refine ret3 (x := (.int .i64 0)) (y := (.int .i64 0)) (z := (.int .i64 32)) rfl hA301 rfl rfl rfl ?_
  have hr := check_none (cs := cs) (by omega) (by omega) hlong ((hc136.2).trans (by rw [drop_end (by omega)]; rfl))
  have hz : cntsR cs = 32 := by have h0 := drop_end (l := cs) (j := j129) (by omega); have h1 : (cs.map opsN).sum = sumO cs := rfl; have h2 : (cs.map brN).sum = sumB cs := rfl; simp only [h0, List.map_nil, List.sum_nil, Nat.sub_zero, h1, h2] at *; simp [cntsR, hb13, hb42, hul, hb79, hb143, hb292]
  exact ⟨ret_three (by rw [hr]) (by rw [hr]) (by rw [hr]; exact hz.symm), b134⟩
 have hq302 := of_decide_eq_false hb292
 refine qs hA291 rfl (dbn (wn rfl) (hA291.ev rfl) (hA291.ev rfl) (b_gt _ _ (((cs.map opsN).sum - ((cs.drop j129).map opsN).sum : Nat) : Int) 6 false _ hb292) ?_)
 intro a303 hA304
 refine qe_ ?_
 refine tn_ ?_
 refine c_false hA304 rfl ?_
 refine wp_skip ?_
 refine tn_ ?_
 refine wp_seq ?_
 refine wp_seq ?_
 refine wp_region_lit ?_
 refine qs hA304 rfl (dmv (wn rfl) (hA304.ev rfl) ?_)
 intro a305 hA306
 rcases Bool.eq_false_or_eq_true (decide ((((cs.map brN).sum - ((cs.drop j129).map brN).sum : Nat) : Int) > 3)) with hb307 | hb307
 ·skip
  have hq308 := of_decide_eq_true hb307
  refine qs hA306 rfl (dbn (wn rfl) (hA306.ev rfl) (hA306.ev rfl) (b_gt _ _ (((cs.map brN).sum - ((cs.drop j129).map brN).sum : Nat) : Int) 3 true _ hb307) ?_)
  intro a309 hA310
  refine qe_ ?_
  refine tn_ ?_
  refine c_true hA310 rfl ?_
  refine wp_seq ?_
  refine wp_region_lit ?_
  refine qs hA310 rfl (das (wn rfl) (hA310.ev rfl) ?_)
  intro a311 hA312
  refine qs hA312 rfl (das (wn rfl) (hA312.ev rfl) ?_)
  intro a313 hA314
  refine qs hA314 rfl (das (wn rfl) (hA314.ev rfl) ?_)
  intro a315 hA316
  refine qe_ ?_
  refine tn_ ?_
  refine wp_ret ?_
  refine t_ret ?_
  refine ret3 (x := (.int .i64 0)) (y := (.int .i64 0)) (z := (.int .i64 33)) rfl hA316 rfl rfl rfl ?_
  have hr := check_none (cs := cs) (by omega) (by omega) hlong ((hc136.2).trans (by rw [drop_end (by omega)]; rfl))
  have hz : cntsR cs = 33 := by have h0 := drop_end (l := cs) (j := j129) (by omega); have h1 : (cs.map opsN).sum = sumO cs := rfl; have h2 : (cs.map brN).sum = sumB cs := rfl; simp only [h0, List.map_nil, List.sum_nil, Nat.sub_zero, h1, h2] at *; simp [cntsR, hb13, hb42, hul, hb79, hb143, hb292, hb307]
  exact ⟨ret_three (by rw [hr]) (by rw [hr]) (by rw [hr]; exact hz.symm), b134⟩
 have hq317 := of_decide_eq_false hb307
 refine qs hA306 rfl (dbn (wn rfl) (hA306.ev rfl) (hA306.ev rfl) (b_gt _ _ (((cs.map brN).sum - ((cs.drop j129).map brN).sum : Nat) : Int) 3 false _ hb307) ?_)
 intro a318 hA319
 refine qe_ ?_
 refine tn_ ?_
 refine c_false hA319 rfl ?_
 refine wp_skip ?_
 refine tn_ ?_
 refine wp_seq ?_
 refine wp_region_lit ?_
 refine qs hA319 rfl (das (wn rfl) (hA319.ev rfl) ?_)
 intro a320 hA321
 refine qs hA321 rfl (das (wn rfl) (hA321.ev rfl) ?_)
 intro a322 hA323
 refine qs hA323 rfl (das (wn rfl) (hA323.ev rfl) ?_)
 intro a324 hA325
 refine qe_ ?_
 refine tn_ ?_
 refine wp_ret ?_
 refine ret3 (x := (.int .i64 0)) (y := (.int .i64 0)) (z := (.int .i64 0)) rfl hA325 rfl rfl rfl ?_
 have hr := check_none (cs := cs) (by omega) (by omega) hlong ((hc136.2).trans (by rw [drop_end (by omega)]; rfl))
 have hz : cntsR cs = 0 := by have h0 := drop_end (l := cs) (j := j129) (by omega); have h1 : (cs.map opsN).sum = sumO cs := rfl; have h2 : (cs.map brN).sum = sumB cs := rfl; simp only [h0, List.map_nil, List.sum_nil, Nat.sub_zero, h1, h2] at *; simp [cntsR, hb13, hb42, hul, hb79, hb143, hb292, hb307]
 exact ⟨ret_three (by rw [hr]) (by rw [hr]) (by rw [hr]; exact hz.symm), b134⟩
end Go.Proofs.Ytlhompedcphnnaa
/- What the reference's Local comes to. -/
namespace Go.Proofs.Ytlhompedcphnnaa
open Go.RowKit

def RPost (code : List Ins) (r0 : Nat → Int) (rds : List Int) (w : World) (e : Ending) (w' : World) : Prop :=
  Grow w w' ∧ ∃ ev pa, e = .returned (.tuple #[.agg (regsC (lR code r0 rds)), ev, pa, .int .i64 (lE code r0 rds)]) ∧ (∃ b, w'.ownsRow b 52 15 ev (lEv code r0 rds).length ((lEv code r0 rds).flatMap evS)) ∧ ∃ b, w'.ownsRow b 3 1 pa (lPa code r0 rds).length ((lPa code r0 rds).flatMap intE)
section
variable {code : List Ins} {r0 : Nat → Int} {rds : List Int} {w w' : World}
theorem RPost.bad (h : (checkR [code]).2.2 ≠ 0) (b : Grow w w') : RPost code r0 rds w (refused 1) w' := by
  refine ⟨b, .slice Option.none 0 0, .slice Option.none 0 0, ?_, ?_, ?_⟩
  · simp [refused, lR, lE, lRun, h]
  · simp only [lEv, lRun, h, if_false]; exact row_nil w' _ _
  · simp only [lPa, lRun, h, if_false]; exact row_nil w' _ _
theorem RPost.none (h : (checkR [code]).2.2 = 0) (hr : runW code code.length ⟨((0 : Nat) : Int), r0, rds, [], []⟩ = none) (b : Grow w w') : RPost code r0 rds w (refused 24) w' := by
  refine ⟨b, .slice Option.none 0 0, .slice Option.none 0 0, ?_, ?_, ?_⟩
  · unfold refused lR lE lRun; simp only [h, if_true, hr]
  · unfold lEv lRun; simp only [h, if_true, hr]; exact row_nil w' _ _
  · unfold lPa lRun; simp only [h, if_true, hr]; exact row_nil w' _ _
theorem RPost.some {s : Wk} {b1 b2 : Nat} {ev pa : Value} (h : (checkR [code]).2.2 = 0) (hr : runW code code.length ⟨((0 : Nat) : Int), r0, rds, [], []⟩ = some s) (b : Grow w w') (he : w'.ownsRow b1 52 15 ev s.evs.length (evE s.evs)) (hp : w'.ownsRow b2 3 1 pa s.path.length (paE s.path)) :
    RPost code r0 rds w (.returned (.tuple #[.agg (regsC s.r), ev, pa, .int .i64 0])) w' := by
  refine ⟨b, ev, pa, ?_, ?_, ?_⟩
  · unfold lR lE lRun; simp only [h, if_true, hr]
  · unfold lEv lRun; simp only [h, if_true, hr]; exact ⟨_, he⟩
  · unfold lPa lRun; simp only [h, if_true, hr]; exact ⟨_, by rw [← paE_flat]; exact hp⟩
end
theorem cs_row {b B' : Nat} {w : World} {v u : Value} {code : List Ins} (h : w.ownsRow b 35 1 v 1 [u]) (hs : Sl insE 17 B' w u code) (hB : B' ≤ w.heap.size) : Cs w.heap.size w v [code] := by
  refine ⟨[u], own_gen (enc := cellE) (fun _ => rfl) (l := [u]) h, rfl, fun j x c hx hc => ?_⟩
  have hj : j = 0 := by have := get_lt hx; simpa using this
  subst hj
  simp at hx hc; subst hx; subst hc
  exact hs.mono hB
theorem step_stop {i : Ins} {p : Int} {r : Nat → Int} {es : List Ev} {ps : List Int} (h : rdB i = true) : stepW ⟨p, r, [], es, ps⟩ i = none := by
  simp [rdB] at h
  rcases h with h | h <;> simp [stepW, h]
theorem run_next {code : List Ins} {F p : Nat} {r r' : Nat → Int} {ls ls' : List Int} {es es' : List Ev} {ps ps' : List Int} {i : Ins} {X : Option Wk} (hX : X = runW code F ⟨(p : Int), r, ls, es, ps⟩) (hF : code.length - p ≤ F) (hi : code[p]? = some i) (h : stepW ⟨(p : Int), r, ls, es, ps⟩ i = some ⟨(p : Int) + 1, r', ls', es', ps'⟩) :
    ∃ F', code.length - (p + 1) ≤ F' ∧ X = runW code F' ⟨((p + 1 : Nat) : Int), r', ls', es', ps'⟩ := by
  have hlt := get_lt hi
  obtain ⟨F1, rfl⟩ : ∃ F1, F = F1 + 1 := ⟨F - 1, by omega⟩
  exact ⟨F1, by omega, by rw [hX, runW_step (i := i) (by simpa using hi), h]; rfl⟩
theorem run_stop {code : List Ins} {F p : Nat} {r : Nat → Int} {ls : List Int} {es : List Ev} {ps : List Int} {i : Ins} {X : Option Wk} (hX : X = runW code F ⟨(p : Int), r, ls, es, ps⟩) (hF : code.length - p ≤ F) (hi : code[p]? = some i) (h : stepW ⟨(p : Int), r, ls, es, ps⟩ i = none) : X = none := by
  have hlt := get_lt hi
  obtain ⟨F1, rfl⟩ : ∃ F1, F = F1 + 1 := ⟨F - 1, by omega⟩
  rw [hX, runW_step (i := i) (by simpa using hi), h]
theorem run_done {code : List Ins} {F p : Nat} {r : Nat → Int} {ls : List Int} {es : List Ev} {ps : List Int} {X : Option Wk} (hX : X = runW code F ⟨(p : Int), r, ls, es, ps⟩) (hp : code.length ≤ p) : X = some ⟨(p : Int), r, ls, es, ps⟩ := by
  rw [hX, runW_end (by simpa using hp)]
theorem drop_none {rds : List Int} {k : Nat} (h : (k : Int) = (rds.length : Int)) : rds.drop k = [] := List.drop_eq_nil_of_le (by omega)
end Go.Proofs.Ytlhompedcphnnaa
/- What the reference's Local returns. -/
namespace Go.Proofs.Ytlhompedcphnnaa
open Go.RowKit
set_option linter.unusedSimpArgs false
set_option linter.unusedVariables false
theorem ent21 : ((Try.prog.funcs[21]?).map fun fn => (fn.name == "runtime.NumGoroutine", fn.body.isNone)) = some (false, false) := by kernel_rfl
theorem ent37 : ((Try.prog.funcs[37]?).map fun fn => (fn.name == "runtime.NumGoroutine", fn.body.isNone)) = some (false, false) := by kernel_rfl
theorem ent38 : ((Try.prog.funcs[38]?).map fun fn => (fn.name == "runtime.NumGoroutine", fn.body.isNone)) = some (false, false) := by kernel_rfl
theorem places65 : placesOf Try.prog 65 = some [(0, 1), (1, 8), (9, 1), (10, 1)] := by kernel_rfl
theorem zero65 : (Try.prog.info? 65).map (fun i => (i.zero, i.size)) = some (some (.agg #[.slice none 0 0, .int .i64 0, .int .i64 0, .int .i64 0, .int .i64 0, .int .i64 0, .int .i64 0, .int .i64 0, .int .i64 0, .int .i64 0, .slice none 0 0]), 11) := by kernel_rfl
set_option maxHeartbeats 8000000 in
set_option maxRecDepth 4000 in
theorem rlocal_any (code : List Ins) (rds : List Int) (ao ao2 : Option Addr) (cap cap2 : Nat) (r0 : Nat → Int) (w : World) (hs : Sl insE 17 w.heap.size w (.slice ao code.length cap) code) (hrd : Sl intE 1 w.heap.size w (.slice ao2 rds.length cap2) rds) (hcl : code.length ≤ 1000000) (hwr : ∀ k, wfI (r0 k)) (hwi : ∀ i ∈ code, wfI i.imm ∧ wfI i.off) (hwd : ∀ z ∈ rds, wfI z) (hrl : rds.length ≤ 1000000) : Calls Try.prog 27 #[.slice ao code.length cap, .agg (regsC r0), .slice ao2 rds.length cap2] w (RPost code r0 rds w) := by
 have b0 : Below w.heap.size w w := Below.refl _ _
 refine enter (n := 70) Try.func27 rfl rfl (Nat.le_of_ble_eq_true rfl) ?_
 intro a1 hA2
 refine wp_seq ?_
 refine wp_region_lit ?_
 refine qs hA2 rfl (d_box (wn rfl) (hA2.ev rfl) ?_)
 intro g3 w4 eg5 hG6 (m7 : Blk w4 g3 (regsC r0) 43)
 have ge8 : w.heap.size ≤ g3 := eg5 ▸ b0.size
 have b9 := blg b0 hG6 b0.size
 intro a10 hA11
 refine qs hA11 rfl (dal (wn rfl) zero43 ?_)
 intro g12 w13 eg14 hG15 (m16 : Blk w13 g12 #[.int .i64 0, .int .i64 0, .int .i64 0, .int .i64 0, .int .i64 0, .int .i64 0, .int .i64 0, .int .i64 0] 43)
 have ge17 : w.heap.size ≤ g12 := eg14 ▸ b9.size
 have n18 : g3 ≠ g12 := fun h => Nat.lt_irrefl _ ((h.trans eg14) ▸ m7.lt)
 have lt19 : g3 < g12 := eg14 ▸ m7.lt
 have m20 := m7.grow hG15
 have b21 := blg b9 hG15 b9.size
 intro a22 hA23
 refine qs hA23 rfl (das (wn rfl) (hA23.ev rfl) ?_)
 intro a24 hA25
 refine qs hA25 rfl (das (wn rfl) (hA25.ev rfl) ?_)
 intro a26 hA27
 refine qs hA27 rfl (das (wn rfl) (hA27.ev rfl) ?_)
 intro a28 hA29
 refine qe_ ?_
 refine tn_ ?_
 refine wp_seq ?_
 refine wp_region_lit ?_
 refine qs hA29 rfl (das (wn rfl) (hA29.ev rfl) ?_)
 intro a30 hA31
 refine qe_ ?_
 refine tn_ ?_
 refine wp_seq ?_
 refine wp_region_lit ?_
 refine qs hA31 rfl (dmv (wn rfl) (hA31.ev rfl) ?_)
 intro a32 hA33
 refine qs hA33 rfl (dmv (wn rfl) (hA33.ev rfl) ?_)
 intro a34 hA35
 refine qs hA35 rfl (d_slice1 (wn rfl) (hA35.ev rfl) elm34 rfl (by decide) ?_)
 intro g36 w37 eg38 hG39 (m40 : Blk w37 g36 #[.slice ao code.length cap] 35)
 have ge41 : w.heap.size ≤ g36 := eg38 ▸ b21.size
 have n42 : g3 ≠ g36 := fun h => Nat.lt_irrefl _ ((h.trans eg38) ▸ m20.lt)
 have lt43 : g3 < g36 := eg38 ▸ m20.lt
 have n44 : g12 ≠ g36 := fun h => Nat.lt_irrefl _ ((h.trans eg38) ▸ m16.lt)
 have lt45 : g12 < g36 := eg38 ▸ m16.lt
 have m46 := m20.grow hG39
 have m47 := m16.grow hG39
 have b48 := blg b21 hG39 b21.size
 intro a49 hA50
 refine qs hA50 rfl (d_append (wn rfl) (hA50.ev rfl) (hA50.ev rfl) elm34 (⟨rfl, .inl ⟨rfl, rfl⟩⟩ : (w37).ownsRow w.heap.size 35 1 (.slice none 0 0) 0 []) m40 rfl rfl (by omega) (by decide) b48.size ?_)
 intro v51 w52 ho53 hg54 hl55
 have b56 := below_by b48 hg54 b48.size (fun k hk => (own_lt (⟨rfl, .inl ⟨rfl, rfl⟩⟩ : (w37).ownsRow w.heap.size 35 1 (.slice none 0 0) 0 []) k hk).1)
 have m57 := m46.by hg54 (fun h => nomatch h)
 have off58 := lies_ne hl55 (fun h => nomatch h) m46.lt
 have m59 := m47.by hg54 (fun h => nomatch h)
 have off60 := lies_ne hl55 (fun h => nomatch h) m47.lt
 intro a61 hA62
 refine qs hA62 rfl (dcl (wn rfl) ent21 (map1 (hA62.ev rfl)) (rcheck_any [code] v51 w52 (cs_row ho53 (hs.below b56) b56.size) (by simp) (by simp [totN]; omega)) ?_)
 rintro e66 w63 ⟨he65, hG64⟩
 have m67 := m57.grow hG64
 have m68 := m59.grow hG64
 have b69 := blg b56 hG64 b56.size
 have ho70 := owg hG64 ho53
 refine ⟨(.tuple #[(.int .i64 ((checkR [code]).1)), (.int .i64 ((checkR [code]).2.1)), (.int .i64 ((checkR [code]).2.2))]), he65, ?_⟩
 intro a71 hA72
 refine qs hA72 rfl (dmv (wn rfl) (hA72.ev rfl) ?_)
 intro a73 hA74
 refine qs hA74 rfl (dex (v := (.int .i64 ((checkR [code]).1))) (wn rfl) (hA74.ev rfl) rfl ?_)
 intro a75 hA76
 refine qs hA76 rfl (dex (v := (.int .i64 ((checkR [code]).2.1))) (wn rfl) (hA76.ev rfl) rfl ?_)
 intro a77 hA78
 refine qs hA78 rfl (dex (v := (.int .i64 ((checkR [code]).2.2))) (wn rfl) (hA78.ev rfl) rfl ?_)
 intro a79 hA80
 refine qs hA80 rfl (das (wn rfl) (hA80.ev rfl) ?_)
 intro a81 hA82
 refine qs hA82 rfl (das (wn rfl) (hA82.ev rfl) ?_)
 intro a83 hA84
 refine qs hA84 rfl (das (wn rfl) (hA84.ev rfl) ?_)
 intro a85 hA86
 refine qe_ ?_
 refine tn_ ?_
 refine wp_seq ?_
 refine wp_seq ?_
 refine wp_region_lit ?_
 refine qs hA86 rfl (dmv (wn rfl) (hA86.ev rfl) ?_)
 intro a87 hA88
 rcases Bool.eq_false_or_eq_true ((checkR [code]).2.2 == 0) with hb89 | hb89
 ·skip
  have hq90 := eq_of_beq hb89
  refine qs hA88 rfl (dbn (wn rfl) (hA88.ev rfl) (hA88.ev rfl) (b_ne _ _ ((checkR [code]).2.2) 0 false _ (notof hb89)) ?_)
  intro a91 hA92
  refine qe_ ?_
  refine tn_ ?_
  refine c_false hA92 rfl ?_
  refine wp_skip ?_
  refine tn_ ?_
  refine wp_seq ?_
  refine wp_region_lit ?_
  refine qs hA92 rfl (dmv (wn rfl) (hA92.ev rfl) ?_)
  intro a93 hA94
  refine qs hA94 rfl (dlr (cs := (regsC r0)) (wn rfl) (hA94.ev rfl) row43 m67 ?_)
  intro a95 hA96
  refine qs hA96 rfl (dbd (cs := #[.slice ao code.length cap, .int .i64 (r0 0), .int .i64 (r0 1), .int .i64 (r0 2), .int .i64 (r0 3), .int .i64 (r0 4), .int .i64 (r0 5), .int .i64 (r0 6), .int .i64 (r0 7), .int .i64 0, .slice none 0 0]) (wn rfl) (bp_of (bq_cons (hA96.ev rfl) (bq_cons (hA96.ev rfl) bq_nil))) zero65 places65 (by kernel_rfl) ?_)
  intro a97 hA98
  refine qs hA98 rfl (d_box (wn rfl) (hA98.ev rfl) ?_)
  intro g99 w100 eg101 hG102 (m103 : Blk w100 g99 #[.slice ao code.length cap, .int .i64 (r0 0), .int .i64 (r0 1), .int .i64 (r0 2), .int .i64 (r0 3), .int .i64 (r0 4), .int .i64 (r0 5), .int .i64 (r0 6), .int .i64 (r0 7), .int .i64 0, .slice none 0 0] 65)
  have ge104 : w.heap.size ≤ g99 := eg101 ▸ b69.size
  have n105 : g3 ≠ g99 := fun h => Nat.lt_irrefl _ ((h.trans eg101) ▸ m67.lt)
  have lt106 : g3 < g99 := eg101 ▸ m67.lt
  have n107 : g12 ≠ g99 := fun h => Nat.lt_irrefl _ ((h.trans eg101) ▸ m68.lt)
  have lt108 : g12 < g99 := eg101 ▸ m68.lt
  have off109 := own_new ho70 eg101
  have m110 := m67.grow hG102
  have m111 := m68.grow hG102
  have b112 := blg b69 hG102 b69.size
  have ho113 := owg hG102 ho70
  have m114 : Blk w100 g99 (thrC (.slice ao code.length cap) r0 0 (.slice none 0 0)) 65 := m103
  intro a115 hA116
  refine qs hA116 rfl (das (wn rfl) (hA116.ev rfl) ?_)
  intro a117 hA118
  refine qe_ ?_
  refine tn_ ?_
  refine wp_seq ?_
  refine wp_region_lit ?_
  refine qs hA118 rfl (das (wn rfl) (hA118.ev rfl) ?_)
  intro a119 hA120
  refine qe_ ?_
  refine tn_ ?_
  refine wp_seq ?_
  refine wp_region_lit ?_
  refine qs hA120 rfl (das (wn rfl) (hA120.ev rfl) ?_)
  intro a121 hA122
  refine qe_ ?_
  refine tn_ ?_
  refine wp_seq ?_
  refine wp_block ?_
  obtain ⟨hlen, hright⟩ := check_one (eq_of_beq hb89)
  have hT123 : TS g99 g99 w100 (.slice ao code.length cap) code ((0 : Nat) : Int) r0 [] (.slice none 0 0) := ⟨m114, Nat.le_refl _, ((hs.below b112).mono ge104), ⟨rfl, .inl ⟨rfl, rfl⟩⟩, nofun⟩
  refine loop_by (fun m a' w' => ∃ (n k : Nat) (r1 : Nat → Int) (es : List Ev) (ps : List Int) (pa ev : Value), m = code.length - n ∧ n ≤ code.length ∧ ps.length ≤ n ∧ es.length ≤ n ∧ k ≤ rds.length ∧ (∀ j, wfI (r1 j)) ∧ (∃ F, code.length - n ≤ F ∧ runW code code.length ⟨((0 : Nat) : Int), r0, rds, [], []⟩ = runW code F ⟨((n : Nat) : Int), r1, rds.drop k, es, ps⟩) ∧ St 70 [(0, (.slice ao code.length cap)), (2, (.slice ao2 rds.length cap2)), (6, (.pointer (some ⟨g12, 0, none⟩))), (14, (.pointer (some ⟨g99, 0, none⟩))), (15, ev), (16, (.int .i64 ((k : Nat) : Int)))] a' ∧ Below g99 w100 w' ∧ w'.ownsRow g99 52 15 ev es.length (evE es) ∧ TS g99 g99 w' (.slice ao code.length cap) code ((n : Nat) : Int) r1 ps pa) (code.length - 0) ⟨0, 0, r0, [], [], .slice none 0 0, .slice none 0 0, rfl, Nat.zero_le _, Nat.le_refl _, Nat.le_refl _, Nat.zero_le _, hwr, ⟨code.length, Nat.le_refl _, rfl⟩, hA122.sub rfl, Below.refl _ _, ⟨rfl, .inl ⟨rfl, rfl⟩⟩, hT123⟩ ?_
  rintro m124 a125 w126 ⟨n127, k128, r129, es130, ps131, pa132, ev133, hm134, hn135, hps136, hes137, hkr138, hwf139, hrun140, hA141, hbl142, hev143, hT144⟩
  have b145 := b112.trans (hbl142.mono ge104)
  have m146 := m111.below hbl142 lt108
  have oe147 := own_apart hev143 hT144.hb (by decide)
  refine wp_seq ?_
  refine wp_seq ?_
  refine wp_region_lit ?_
  refine qs hA141 rfl (dmv (wn rfl) (hA141.ev rfl) ?_)
  intro a148 hA149
  refine qs hA149 rfl (dcl (wn rfl) ent37 (map1 (hA149.ev rfl)) (plain_ref g99 g99 n127 es130.length r129 (.slice ao code.length cap) pa132 ev133 (evE es130) code ps131 w126 (Nat.le_of_lt hT144.hb.lt) hT144 hev143 (by omega) hwf139 (by omega) hlen hright hwi hps136 hn135) ?_)
  rintro e153 w150 ⟨bb154, n155, r156, ps157, pa158, he152, bl159, hev160, ⟨hb161, _, hcd162, hpa163, op164⟩, hadv165, hn166, hps167, hpn168, hwf169, hno170, hyes171⟩
  obtain ⟨F172, hF173, hR174⟩ := hrun140
  obtain ⟨F175, hF176, hR177⟩ := hadv165 (rds.drop k128) es130 F172 hF173
  have hR178 := hR174.trans hR177
  have b179 := b145.trans (bl159.mono ge104)
  have hbl180 := hbl142.trans bl159
  have m181 := m146.below bl159 lt108
  cases bb154
  ·skip
   have oe182 := own_apart hev160 hb161 (by decide)
   have hend := hno170 rfl
   refine ⟨.bool false, he152, ?_⟩
   intro a183 hA184
   refine qe_ ?_
   refine tn_ ?_
   refine c_false hA184 rfl ?_
   refine wp_exit ?_
   refine t_exit ?_
   refine t_exit ?_
   refine i_here ?_
   refine tn_ ?_
   refine wp_seq ?_
   have hA185 : St 70 [(6, (.pointer (some ⟨g12, 0, none⟩))), (14, (.pointer (some ⟨g99, 0, none⟩))), (15, ev133)] a183 := hA184.sub rfl
   let M186 : Nat → Option (Array Value) := fun k => if k = g12 then some (regsC r156) else none
   have hM186 : M186 = fun k => if k = g12 then some (regsC r156) else none := rfl
   clear_value M186
   have hM187 : M186 g12 = some (regsC r156) := ((congrFun hM186 g12).trans (if_pos rfl))
   have hM188 : M186 g99 = none := ((congrFun hM186 g99).trans (if_neg (Ne.symm n107)))
   have hM186B : ∀ k, k < w.heap.size → M186 k = none := (fun k hk => (congrFun hM186 k).trans (if_neg (fun h => Nat.lt_irrefl _ (Nat.lt_of_lt_of_le (h ▸ hk) ge17))))
   refine drawn (S := SM M186) (tabL [cv (.pointer (some ⟨g99, 0, none⟩)), cv (.pointer (some ⟨g99, 0, none⟩)), cv (.pointer (some ⟨g99, 1, none⟩)), cv (.agg (regsC r156)), cv ev133, cv (.pointer (some ⟨g99, 0, none⟩)), cv (.pointer (some ⟨g99, 0, none⟩)), cv (.pointer (some ⟨g99, 10, none⟩)), cv pa158, cmr M186 g12 43 (regsC r156) hM187, cv ev133, cv pa158, cv (.int .i64 0)]) mixedY SM.refl SM.trans SM.drew hA185 (by kernel_rfl) ?_ ?_
   ·skip
    refine ec_ (fun x y hS hT hk => dmv (wn rfl) (hT.ev rfl) ⟨SM.refl _, rfl⟩) ?_
    refine ec_ (fun x y hS hT hk => dnc (wn rfl) (hk 0 rfl) ⟨SM.refl _, rfl⟩) ?_
    refine ec_ (fun x y hS hT hk => dfa (wn rfl) (hk 1 rfl) fo65_1 ⟨SM.refl _, rfl⟩) ?_
    refine ec_ (fun x y hS hT hk => dlm (cs := (regsC r156)) (wn rfl) (hk 2 rfl) row43 (thr_regs (Blk.sm (w := w150.drew) hb161 hS hM188)) ⟨SM.refl _, rfl⟩) ?_
    refine ec_ (fun x y hS hT hk => dmv (wn rfl) (hT.ev rfl) ⟨SM.refl _, rfl⟩) ?_
    refine ec_ (fun x y hS hT hk => dmv (wn rfl) (hT.ev rfl) ⟨SM.refl _, rfl⟩) ?_
    refine ec_ (fun x y hS hT hk => dnc (wn rfl) (hk 5 rfl) ⟨SM.refl _, rfl⟩) ?_
    refine ec_ (fun x y hS hT hk => dfa (wn rfl) (hk 6 rfl) fo65_3 ⟨SM.refl _, rfl⟩) ?_
    refine ec_ (fun x y hS hT hk => dld (v := pa158) (wn rfl) (hk 7 rfl) one30 ((Blk.sm (w := w150.drew) hb161 hS hM188).cell rfl) ⟨SM.refl _, rfl⟩) ?_
    refine ec_ (fun x y hS hT hk => d_storeRowM (fin := (regsC r156)) (w0 := w150.drew) (wn rfl) (hT.ev rfl) (hk 3 rfl) row43 hS hM187 m181 rfl rfl (fun _ h => h)) ?_
    refine ec_ (fun x y hS hT hk => das (wn rfl) (hk 4 rfl) ⟨SM.refl _, rfl⟩) ?_
    refine ec_ (fun x y hS hT hk => das (wn rfl) (hk 8 rfl) ⟨SM.refl _, rfl⟩) ?_
    refine ec_ (fun x y hS hT hk => das (wn rfl) (hT.ev rfl) ⟨SM.refl _, rfl⟩) ?_
    exact each_nil
   intro f189 a190 w191 hS192 hC193 hA194
   have hA195 : St 70 [(6, (.pointer (some ⟨g12, 0, none⟩))), (7, ev133), (8, pa158), (9, (.int .i64 0))] a190 := hA194.cut _ (fc (hA194.get 6 _ rfl) (fc ((hA194.get 7 _ rfl).trans (hC193 10 (Nat.le_of_ble_eq_true rfl))) (fc ((hA194.get 8 _ rfl).trans (hC193 11 (Nat.le_of_ble_eq_true rfl))) (fc ((hA194.get 9 _ rfl).trans (hC193 12 (Nat.le_of_ble_eq_true rfl))) fn_))))
   have m196 : Blk w191 g12 (regsC r156) 43 := hC193 9 (Nat.le_of_ble_eq_true rfl)
   have m197 := hb161.sm hS192 hM188
   have b198 := hS192.below b179 b179.size hM186B
   have ho199 := own_smG hev160 hS192 (fun k hk => (congrFun hM186 k).trans (if_neg (Nat.ne_of_gt (Nat.lt_of_lt_of_le lt108 hk))))
   have ho200 := own_smG hpa163 hS192 (fun k hk => (congrFun hM186 k).trans (if_neg (Nat.ne_of_gt (Nat.lt_of_lt_of_le lt108 hk))))
   refine tn_ ?_
   refine wp_ret ?_
   refine retC3 (g := g12) (cs := (regsC r156)) (x := ev133) (y := pa158) (z := (.int .i64 0)) rfl hA195 rfl rfl rfl rfl m196 row43 ?_
   exact RPost.some (eq_of_beq hb89) (run_done hR178 hend) b198 ho199 ho200
  have oe201 := own_apart hev160 hb161 (by decide)
  obtain ⟨y202, hy203, hevt204⟩ := hyes171 rfl
  have hly202 := get_lt hy203
  refine ⟨.bool true, he152, ?_⟩
  intro a205 hA206
  refine qe_ ?_
  refine tn_ ?_
  refine c_true hA206 rfl ?_
  refine wp_skip ?_
  refine tn_ ?_
  refine wp_block ?_
  refine wp_seq ?_
  refine wp_region_lit ?_
  refine qs hA206 rfl (das (wn rfl) (hA206.ev rfl) ?_)
  intro a207 hA208
  refine qe_ ?_
  refine tn_ ?_
  refine wp_seq ?_
  refine wp_seq ?_
  refine wp_region_lit ?_
  refine qs hA208 rfl (dmv (wn rfl) (hA208.ev rfl) ?_)
  intro a209 hA210
  refine qs hA210 rfl (dmv (wn rfl) (hA210.ev rfl) ?_)
  intro a211 hA212
  refine qs hA212 rfl (dnc (wn rfl) (hA212.ev rfl) ?_)
  intro a213 hA214
  refine qs hA214 rfl (dfa (wn rfl) (hA214.ev rfl) fo65_2 ?_)
  intro a215 hA216
  refine qs hA216 rfl (dld (v := (.int .i64 ((n155 : Nat) : Int))) (wn rfl) (hA216.ev rfl) one3 (hb161.cell rfl) ?_)
  intro a217 hA218
  obtain ⟨b219, o220, lt221, hr222, hix223⟩ := (hs.below b179).at hy203
  refine qs hA218 rfl (dia (j := n155) (wn rfl) (hA218.ev rfl) (hA218.ev rfl) slc35 hix223 (get_lt hy203) ?_)
  intro a224 hA225
  refine qs hA225 rfl (dlm (cs := (insC y202)) (wn rfl) (hA225.ev rfl) row23 hr222 ?_)
  intro a226 hA227
  refine qs hA227 rfl (dcl (wn rfl) ent12 (map1 (hA227.ev rfl)) (rreads_any y202 w150) ?_)
  rintro e231 w228 ⟨he230, hG229⟩
  have m232 := m181.grow hG229
  have m233 := hb161.grow hG229
  have hr234 := range_below hr222 hG229 (Nat.lt_of_lt_of_le lt221 b179.size)
  have b235 := blg b179 hG229 b179.size
  have ho236 := owg hG229 hev160
  have ho237 := owg hG229 hpa163
  have hbl238 := blg hbl180 hG229 (Nat.le_of_lt hb161.lt)
  rcases Bool.eq_false_or_eq_true (rdB y202) with hb239 | hb239
  ·skip
   refine ⟨.bool true, he230.trans (ret_bool hb239), ?_⟩
   intro a241 hA242
   refine qe_ ?_
   refine tn_ ?_
   refine c_true hA242 rfl ?_
   refine wp_seq ?_
   refine wp_seq ?_
   refine wp_region_lit ?_
   refine qs hA242 rfl (dmv (wn rfl) (hA242.ev rfl) ?_)
   intro a243 hA244
   refine qs hA244 rfl (dmv (wn rfl) (hA244.ev rfl) ?_)
   intro a245 hA246
   refine qs hA246 rfl (dle (n := rds.length) (wn rfl) (hA246.ev rfl) slc30 hrd.form ?_)
   intro a247 hA248
   rcases Bool.eq_false_or_eq_true (((k128 : Nat) : Int) == ((rds.length : Nat) : Int)) with hb249 | hb249
   ·skip
    have hq250 := eq_of_beq hb249
    refine qs hA248 rfl (dbn (wn rfl) (hA248.ev rfl) (hA248.ev rfl) (b_eq _ _ ((k128 : Nat) : Int) ((rds.length : Nat) : Int) true _ hb249) ?_)
    intro a251 hA252
    refine qe_ ?_
    refine tn_ ?_
    refine c_true hA252 rfl ?_
    refine wp_seq ?_
    refine wp_region_lit ?_
    refine qs hA252 rfl (d_buildZ (wn rfl) arr43 zero43 ?_)
    intro a253 hA254
    refine qs hA254 rfl (dsr (wn rfl) (hA254.ev rfl) (hA254.ev rfl) row43 m232 rfl rfl ?_)
    intro w255 hU256 (m257 : Blk w255 g12 (regsC fun _ => 0) 43)
    have m258 := m233.upd hU256 (Ne.symm n107)
    have hr259 := range_upd hr234 hU256 (Nat.ne_of_lt (Nat.lt_of_lt_of_le lt221 ge17))
    have b260 := hU256.below b235 ge17
    intro a261 hA262
    refine qs hA262 rfl (das (wn rfl) (hA262.ev rfl) ?_)
    intro a263 hA264
    refine qs hA264 rfl (das (wn rfl) (hA264.ev rfl) ?_)
    intro a265 hA266
    refine qs hA266 rfl (das (wn rfl) (hA266.ev rfl) ?_)
    intro a267 hA268
    refine qe_ ?_
    refine tn_ ?_
    refine wp_ret ?_
    refine t_ret ?_
    refine t_ret ?_
    refine i_ret ?_
    refine t_ret ?_
    refine i_ret ?_
    refine t_ret ?_
    refine retC3 (g := g12) (cs := (regsC fun _ => 0)) (x := (.slice none 0 0)) (y := (.slice none 0 0)) (z := (.int .i64 24)) rfl hA268 rfl rfl rfl rfl m257 row43 ?_
    exact RPost.none (eq_of_beq hb89) (run_stop hR178 hF176 hy203 (by rw [drop_none (eq_of_beq hb249)]; exact step_stop hb239)) b260
   have hq269 := ne_of_beq hb249
   refine qs hA248 rfl (dbn (wn rfl) (hA248.ev rfl) (hA248.ev rfl) (b_eq _ _ ((k128 : Nat) : Int) ((rds.length : Nat) : Int) false _ hb249) ?_)
   intro a270 hA271
   refine qe_ ?_
   refine tn_ ?_
   refine c_false hA271 rfl ?_
   refine wp_skip ?_
   refine tn_ ?_
   refine wp_seq ?_
   refine wp_region_lit ?_
   refine qs hA271 rfl (dmv (wn rfl) (hA271.ev rfl) ?_)
   intro a272 hA273
   refine qs hA273 rfl (dmv (wn rfl) (hA273.ev rfl) ?_)
   intro a274 hA275
   obtain ⟨y276, hy277⟩ : ∃ y276, rds[k128]? = some y276 := ⟨_, List.getElem?_eq_getElem (show k128 < rds.length by omega)⟩
   obtain ⟨b278, o279, lt280, hr281, hix282⟩ := (hrd.below b235).at hy277
   refine qs hA275 rfl (dia (j := k128) (wn rfl) (hA275.ev rfl) (hA275.ev rfl) slc30 hix282 (get_lt hy277) ?_)
   intro a283 hA284
   refine qs hA284 rfl (dld (v := (.int .i64 y276)) (wn rfl) (hA284.ev rfl) one3 (hr281 0 _ rfl) ?_)
   intro a285 hA286
   refine qs hA286 rfl (das (wn rfl) (hA286.ev rfl) ?_)
   intro a287 hA288
   refine qe_ ?_
   refine tn_ ?_
   refine wp_region_lit ?_
   refine qs hA288 rfl (dmv (wn rfl) (hA288.ev rfl) ?_)
   intro a289 hA290
   refine qs hA290 rfl (dbn (wn rfl) (hA290.ev rfl) (hA290.ev rfl) (b_add _ _ ((k128 : Nat) : Int) 1 _ (by omega) (by omega)) ?_)
   intro a291 hA292
   refine qs hA292 rfl (das (wn rfl) (hA292.ev rfl) ?_)
   intro a293 hA294
   refine qe_ ?_
   refine tn_ ?_
   refine wp_region_lit ?_
   refine qs hA294 rfl (dmv (wn rfl) (hA294.ev rfl) ?_)
   intro a295 hA296
   refine qs hA296 rfl (dmv (wn rfl) (hA296.ev rfl) ?_)
   intro a297 hA298
   refine qs hA298 rfl (dmv (wn rfl) (hA298.ev rfl) ?_)
   intro a299 hA300
   refine qs hA300 rfl (dcl (wn rfl) ent38 (map2 (hA300.ev rfl) (hA300.ev rfl)) (rstep_any g99 g99 n155 es130.length r156 (.slice ao code.length cap) pa158 ev133 (evE es130) code y202 y276 ps157 w228 (Nat.le_of_lt m233.lt) ⟨m233, Nat.le_refl _, ((hs.below b235).mono ge104), ho237, op164⟩ ho236 (by omega) hwf169 (by omega) hy203 (right_yes (hright _ _ hy203)).1 hevt204 (hwi _ (List.mem_of_getElem? hy203)).1 (hwi _ (List.mem_of_getElem? hy203)).2 (fun _ => hwd _ (List.mem_of_getElem? hy277))) ?_)
   rintro e304 w301 ⟨x305, r306, he303, bl307, hev308, ⟨pa309, hb310, _, hcd311, hpa312, op313⟩, hwf314, hS1315, hS2316⟩
   have b317 := b235.trans (bl307.mono ge104)
   have hbl318 := hbl238.trans bl307
   have m319 := m232.below bl307 lt108
   have oe320 := own_apart hev308 hb310 (by decide)
   refine ⟨.agg (evC x305), he303, ?_⟩
   intro a321 hA322
   refine qs hA322 rfl (d_slice1 (wn rfl) (hA322.ev rfl) elm44 rfl (by decide) ?_)
   intro g323 w324 eg325 hG326 (m327 : Blk w324 g323 (evC x305) 52)
   have ge328 : w.heap.size ≤ g323 := eg325 ▸ b317.size
   have n329 : g12 ≠ g323 := fun h => Nat.lt_irrefl _ ((h.trans eg325) ▸ m319.lt)
   have lt330 : g12 < g323 := eg325 ▸ m319.lt
   have n331 : g99 ≠ g323 := fun h => Nat.lt_irrefl _ ((h.trans eg325) ▸ hb310.lt)
   have lt332 : g99 < g323 := eg325 ▸ hb310.lt
   have off333 := own_new hev308 eg325
   have off334 := own_new hpa312 eg325
   have m335 := m319.grow hG326
   have m336 := hb310.grow hG326
   have b337 := blg b317 hG326 b317.size
   have ho338 := owg hG326 hev308
   have ho339 := owg hG326 hpa312
   have hbl340 := blg hbl318 hG326 (Nat.le_of_lt hb310.lt)
   intro a341 hA342
   refine qs hA342 rfl (d_append (wn rfl) (hA342.ev rfl) (hA342.ev rfl) elm44 ho338 m327 rfl rfl (by omega) (by decide) (Nat.le_of_lt m336.lt) ?_)
   intro v343 w344 ho345 hg346 hl347
   have b348 := below_by b337 hg346 b337.size (fun k hk => Nat.le_trans ge104 (own_lt ho338 k hk).1)
   have hbl349 := below_by hbl340 hg346 (Nat.le_of_lt m336.lt) (fun k hk => (own_lt ho338 k hk).1)
   have m350 := m335.by hg346 (fun e => Nat.lt_irrefl _ (Nat.lt_of_lt_of_le lt108 (own_lt ho338 _ e).1))
   have m351 := m336.by hg346 oe320
   have off352 := lies_ne hl347 oe320 m336.lt
   have ho353 := own_by ho339 hg346 (rows_apart ho339 ho338 (by decide))
   intro a354 hA355
   refine qs hA355 rfl (das (wn rfl) (hA355.ev rfl) ?_)
   intro a356 hA357
   refine qe_ ?_
   refine i_norm ?_
   refine tn_ ?_
   have hrun358 := run_next hR178 hF176 hy203 (by rw [drop_at hy277]; exact hS1315 hb239 _ _)
   exact ⟨code.length - (n155 + 1), (by rw [hm134]; omega), n155 + 1, (k128 + 1), r306, es130 ++ [x305], ps157 ++ [((n155 : Nat) : Int)], pa309, v343, rfl, (by omega), (by simp; omega), (by simp; omega), (by have := get_lt hy277; omega), hwf314, hrun358, hA357.cut _ (fc (hA357.get 0 _ rfl) (fc (hA357.get 2 _ rfl) (fc (hA357.get 6 _ rfl) (fc (hA357.get 14 _ rfl) (fc (hA357.get 15 _ rfl) (fc ((hA357.get 16 _ rfl).trans (congrArg (Value.int .i64) (by omega))) fn_)))))), hbl349, (by rw [List.length_append, ← evE_snoc]; exact ho345), ⟨m351, Nat.le_refl _, ((hs.below b348).mono ge104), ho353, op313⟩⟩
  refine ⟨.bool false, he230.trans (ret_bool hb239), ?_⟩
  intro a360 hA361
  refine qe_ ?_
  refine tn_ ?_
  refine c_false hA361 rfl ?_
  refine wp_skip ?_
  refine tn_ ?_
  refine wp_region_lit ?_
  refine qs hA361 rfl (dmv (wn rfl) (hA361.ev rfl) ?_)
  intro a362 hA363
  refine qs hA363 rfl (dmv (wn rfl) (hA363.ev rfl) ?_)
  intro a364 hA365
  refine qs hA365 rfl (dmv (wn rfl) (hA365.ev rfl) ?_)
  intro a366 hA367
  refine qs hA367 rfl (dcl (wn rfl) ent38 (map2 (hA367.ev rfl) (hA367.ev rfl)) (rstep_any g99 g99 n155 es130.length r156 (.slice ao code.length cap) pa158 ev133 (evE es130) code y202 0 ps157 w228 (Nat.le_of_lt m233.lt) ⟨m233, Nat.le_refl _, ((hs.below b235).mono ge104), ho237, op164⟩ ho236 (by omega) hwf169 (by omega) hy203 (right_yes (hright _ _ hy203)).1 hevt204 (hwi _ (List.mem_of_getElem? hy203)).1 (hwi _ (List.mem_of_getElem? hy203)).2 (fun h => absurd h (by rw [hb239]; decide))) ?_)
  rintro e371 w368 ⟨x372, r373, he370, bl374, hev375, ⟨pa376, hb377, _, hcd378, hpa379, op380⟩, hwf381, hS1382, hS2383⟩
  have b384 := b235.trans (bl374.mono ge104)
  have hbl385 := hbl238.trans bl374
  have m386 := m232.below bl374 lt108
  have oe387 := own_apart hev375 hb377 (by decide)
  refine ⟨.agg (evC x372), he370, ?_⟩
  intro a388 hA389
  refine qs hA389 rfl (d_slice1 (wn rfl) (hA389.ev rfl) elm44 rfl (by decide) ?_)
  intro g390 w391 eg392 hG393 (m394 : Blk w391 g390 (evC x372) 52)
  have ge395 : w.heap.size ≤ g390 := eg392 ▸ b384.size
  have n396 : g12 ≠ g390 := fun h => Nat.lt_irrefl _ ((h.trans eg392) ▸ m386.lt)
  have lt397 : g12 < g390 := eg392 ▸ m386.lt
  have n398 : g99 ≠ g390 := fun h => Nat.lt_irrefl _ ((h.trans eg392) ▸ hb377.lt)
  have lt399 : g99 < g390 := eg392 ▸ hb377.lt
  have off400 := own_new hev375 eg392
  have off401 := own_new hpa379 eg392
  have m402 := m386.grow hG393
  have m403 := hb377.grow hG393
  have b404 := blg b384 hG393 b384.size
  have ho405 := owg hG393 hev375
  have ho406 := owg hG393 hpa379
  have hbl407 := blg hbl385 hG393 (Nat.le_of_lt hb377.lt)
  intro a408 hA409
  refine qs hA409 rfl (d_append (wn rfl) (hA409.ev rfl) (hA409.ev rfl) elm44 ho405 m394 rfl rfl (by omega) (by decide) (Nat.le_of_lt m403.lt) ?_)
  intro v410 w411 ho412 hg413 hl414
  have b415 := below_by b404 hg413 b404.size (fun k hk => Nat.le_trans ge104 (own_lt ho405 k hk).1)
  have hbl416 := below_by hbl407 hg413 (Nat.le_of_lt m403.lt) (fun k hk => (own_lt ho405 k hk).1)
  have m417 := m402.by hg413 (fun e => Nat.lt_irrefl _ (Nat.lt_of_lt_of_le lt108 (own_lt ho405 _ e).1))
  have m418 := m403.by hg413 oe387
  have off419 := lies_ne hl414 oe387 m403.lt
  have ho420 := own_by ho406 hg413 (rows_apart ho406 ho405 (by decide))
  intro a421 hA422
  refine qs hA422 rfl (das (wn rfl) (hA422.ev rfl) ?_)
  intro a423 hA424
  refine qe_ ?_
  refine i_norm ?_
  refine tn_ ?_
  have hrun425 := run_next hR178 hF176 hy203 (hS2383 hb239 _ _)
  exact ⟨code.length - (n155 + 1), (by rw [hm134]; omega), n155 + 1, k128, r373, es130 ++ [x372], ps157 ++ [((n155 : Nat) : Int)], pa376, v410, rfl, (by omega), (by simp; omega), (by simp; omega), hkr138, hwf381, hrun425, hA424.cut _ (fc (hA424.get 0 _ rfl) (fc (hA424.get 2 _ rfl) (fc (hA424.get 6 _ rfl) (fc (hA424.get 14 _ rfl) (fc (hA424.get 15 _ rfl) (fc ((hA424.get 16 _ rfl).trans (congrArg (Value.int .i64) (by omega))) fn_)))))), hbl416, (by rw [List.length_append, ← evE_snoc]; exact ho412), ⟨m418, Nat.le_refl _, ((hs.below b415).mono ge104), ho420, op380⟩⟩
 have hq426 := ne_of_beq hb89
 refine qs hA88 rfl (dbn (wn rfl) (hA88.ev rfl) (hA88.ev rfl) (b_ne _ _ ((checkR [code]).2.2) 0 true _ (notof hb89)) ?_)
 intro a427 hA428
 refine qe_ ?_
 refine tn_ ?_
 refine c_true hA428 rfl ?_
 refine wp_seq ?_
 refine wp_region_lit ?_
 refine qs hA428 rfl (d_buildZ (wn rfl) arr43 zero43 ?_)
 intro a429 hA430
 refine qs hA430 rfl (dsr (wn rfl) (hA430.ev rfl) (hA430.ev rfl) row43 m68 rfl rfl ?_)
 intro w431 hU432 (m433 : Blk w431 g12 (regsC fun _ => 0) 43)
 have m434 := m67.upd hU432 n18
 have b435 := hU432.below b69 ge17
 have ho436 := own_upd ho70 hU432 off60
 intro a437 hA438
 refine qs hA438 rfl (das (wn rfl) (hA438.ev rfl) ?_)
 intro a439 hA440
 refine qs hA440 rfl (das (wn rfl) (hA440.ev rfl) ?_)
 intro a441 hA442
 refine qs hA442 rfl (das (wn rfl) (hA442.ev rfl) ?_)
 intro a443 hA444
 refine qe_ ?_
 refine tn_ ?_
 refine wp_ret ?_
 refine t_ret ?_
 refine retC3 (g := g12) (cs := (regsC fun _ => 0)) (x := (.slice none 0 0)) (y := (.slice none 0 0)) (z := (.int .i64 1)) rfl hA444 rfl rfl rfl rfl m433 row43 ?_
 exact RPost.bad (ne_of_beq hb89) b435
end Go.Proofs.Ytlhompedcphnnaa
