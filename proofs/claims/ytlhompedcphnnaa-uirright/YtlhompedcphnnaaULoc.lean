/- What Local returns. -/
import Derived.Test.YtlhompedcphnnaaULoc1
namespace Go.Proofs.Ytlhompedcphnnaa
open Go.RowKit
set_option linter.unusedSimpArgs false
set_option linter.unusedVariables false
theorem elm34 : elemB Try.prog 34 35 1 24 = true := by kernel_rfl
theorem ent20 : ((Try.prog.funcs[20]?).map fun fn => (fn.name == "runtime.NumGoroutine", fn.body.isNone)) = some (false, false) := by kernel_rfl
theorem ent36 : ((Try.prog.funcs[36]?).map fun fn => (fn.name == "runtime.NumGoroutine", fn.body.isNone)) = some (false, false) := by kernel_rfl
theorem places62 : placesOf Try.prog 62 = some [(0, 1), (1, 8), (9, 1), (10, 1), (11, 1)] := by kernel_rfl
theorem row43 : rowB Try.prog 43 8 = true := by kernel_rfl
theorem row62 : rowB Try.prog 62 12 = true := by kernel_rfl
theorem zero43 : (Try.prog.info? 43).map (fun i => (i.zero, i.size)) = some (some (.agg #[.int .i64 0, .int .i64 0, .int .i64 0, .int .i64 0, .int .i64 0, .int .i64 0, .int .i64 0, .int .i64 0]), 8) := by kernel_rfl
theorem zero62 : (Try.prog.info? 62).map (fun i => (i.zero, i.size)) = some (some (.agg #[.int .i64 0, .int .i64 0, .int .i64 0, .int .i64 0, .int .i64 0, .int .i64 0, .int .i64 0, .int .i64 0, .int .i64 0, .slice none 0 0, .slice none 0 0, .slice none 0 0]), 12) := by kernel_rfl
set_option maxHeartbeats 8000000 in
set_option maxRecDepth 4000 in
theorem local_any (code : List Ins) (rds : List Int) (ao ao2 : Option Addr) (cap cap2 : Nat) (r0 : Nat → Int) (w : World) (hs : Sl insE 17 w.heap.size w (.slice ao code.length cap) code) (hrd : Sl intE 1 w.heap.size w (.slice ao2 rds.length cap2) rds) (hcl : code.length ≤ 1000000) (hwr : ∀ k, wfI (r0 k)) (hwi : ∀ i ∈ code, wfI i.imm ∧ wfI i.off) (hwd : ∀ z ∈ rds, wfI z) : Calls Try.prog 26 #[.slice ao code.length cap, .agg (regsC r0), .slice ao2 rds.length cap2] w (LPost code r0 rds w) := by
  have b0 : Below w.heap.size w w := Below.refl _ _
  refine enter (n := 46) Try.func26 rfl rfl (Nat.le_of_ble_eq_true rfl) ?_
  intro a1 hA2
  refine wp_seq ?_
  refine wp_region_lit ?_
  refine q_step hA2 rfl (d_box (wn rfl) (hA2.ev (v := (.agg (regsC r0))) rfl) ?_)
  intro g3 w4 eg5 hG6 (m7 : Blk w4 g3 (regsC r0) 43)
  have ge8 : w.heap.size ≤ g3 := eg5 ▸ b0.size
  have b9 := below_grow b0 hG6 b0.size
  intro a10 hA11
  refine q_step hA11 rfl (d_alloc (wn rfl) zero43 ?_)
  intro g12 w13 eg14 hG15 (m16 : Blk w13 g12 #[.int .i64 0, .int .i64 0, .int .i64 0, .int .i64 0, .int .i64 0, .int .i64 0, .int .i64 0, .int .i64 0] 43)
  have ge17 : w.heap.size ≤ g12 := eg14 ▸ b9.size
  have n18 : g3 ≠ g12 := fun h => Nat.lt_irrefl _ ((h.trans eg14) ▸ m7.lt)
  have lt19 : g3 < g12 := eg14 ▸ m7.lt
  have m20 := m7.grow hG15
  have b21 := below_grow b9 hG15 b9.size
  intro a22 hA23
  refine q_step hA23 rfl (d_assign (wn rfl) (hA23.ev (v := (.slice none 0 0)) rfl) ?_)
  intro a24 hA25
  refine q_step hA25 rfl (d_assign (wn rfl) (hA25.ev (v := (.slice none 0 0)) rfl) ?_)
  intro a26 hA27
  refine q_step hA27 rfl (d_assign (wn rfl) (hA27.ev (v := (.int .i64 0)) rfl) ?_)
  intro a28 hA29
  refine q_end ?_
  have hA30 : St 46 [(0, (.slice ao code.length cap)), (2, (.slice ao2 rds.length cap2)), (4, (.pointer (some ⟨g3, 0, none⟩))), (6, (.pointer (some ⟨g12, 0, none⟩))), (7, (.slice none 0 0)), (8, (.slice none 0 0)), (9, (.int .i64 0))] a28 := hA29.cut _ (fm_cons (hA29.get 0 _ rfl) (fm_cons (hA29.get 2 _ rfl) (fm_cons (hA29.get 4 _ rfl) (fm_cons (hA29.get 6 _ rfl) (fm_cons (hA29.get 7 _ rfl) (fm_cons (hA29.get 8 _ rfl) (fm_cons (hA29.get 9 _ rfl) fm_nil)))))))
  refine t_norm ?_
  refine wp_seq ?_
  refine wp_seq ?_
  refine wp_region_lit ?_
  refine q_step hA30 rfl (d_move (wn rfl) (hA30.ev (v := (.slice ao code.length cap)) rfl) ?_)
  intro a31 hA32
  refine q_step hA32 rfl (d_slice1 (wn rfl) (hA32.ev (v := (.slice ao code.length cap)) rfl) elm34 rfl (by decide) ?_)
  intro g33 w34 eg35 hG36 (m37 : Blk w34 g33 #[.slice ao code.length cap] 35)
  have ge38 : w.heap.size ≤ g33 := eg35 ▸ b21.size
  have n39 : g3 ≠ g33 := fun h => Nat.lt_irrefl _ ((h.trans eg35) ▸ m20.lt)
  have lt40 : g3 < g33 := eg35 ▸ m20.lt
  have n41 : g12 ≠ g33 := fun h => Nat.lt_irrefl _ ((h.trans eg35) ▸ m16.lt)
  have lt42 : g12 < g33 := eg35 ▸ m16.lt
  have m43 := m20.grow hG36
  have m44 := m16.grow hG36
  have b45 := below_grow b21 hG36 b21.size
  intro a46 hA47
  refine q_step hA47 rfl (d_call (wn rfl) ent20 (map1 (hA47.ev (v := (.slice (some ⟨g33, 0, none⟩) 1 1)) rfl)) (check_any [code] (.slice (some ⟨g33, 0, none⟩) 1 1) w34 (cs_one m37 (hs.below b45) b45.size) (by simp) (by simp [totN]; omega)) ?_)
  rintro e51 w48 ⟨he50, hG49⟩
  have m52 := m43.grow hG49
  have m53 := m44.grow hG49
  have m54 := m37.grow hG49
  have b55 := below_grow b45 hG49 b45.size
  refine ⟨(.tuple #[(.int .i64 ((checkR [code]).1)), (.int .i64 ((checkR [code]).2.1)), (.int .i64 ((checkR [code]).2.2))]), he50, ?_⟩
  intro a56 hA57
  refine q_step hA57 rfl (d_move (wn rfl) (hA57.ev (v := (.tuple #[(.int .i64 ((checkR [code]).1)), (.int .i64 ((checkR [code]).2.1)), (.int .i64 ((checkR [code]).2.2))])) rfl) ?_)
  intro a58 hA59
  refine q_step hA59 rfl (d_extract (v := (.int .i64 ((checkR [code]).1))) (wn rfl) (hA59.ev (v := (.tuple #[(.int .i64 ((checkR [code]).1)), (.int .i64 ((checkR [code]).2.1)), (.int .i64 ((checkR [code]).2.2))])) rfl) rfl ?_)
  intro a60 hA61
  refine q_step hA61 rfl (d_extract (v := (.int .i64 ((checkR [code]).2.1))) (wn rfl) (hA61.ev (v := (.tuple #[(.int .i64 ((checkR [code]).1)), (.int .i64 ((checkR [code]).2.1)), (.int .i64 ((checkR [code]).2.2))])) rfl) rfl ?_)
  intro a62 hA63
  refine q_step hA63 rfl (d_extract (v := (.int .i64 ((checkR [code]).2.2))) (wn rfl) (hA63.ev (v := (.tuple #[(.int .i64 ((checkR [code]).1)), (.int .i64 ((checkR [code]).2.1)), (.int .i64 ((checkR [code]).2.2))])) rfl) rfl ?_)
  intro a64 hA65
  refine q_step hA65 rfl (d_assign (wn rfl) (hA65.ev (v := (.int .i64 ((checkR [code]).1))) rfl) ?_)
  intro a66 hA67
  refine q_step hA67 rfl (d_assign (wn rfl) (hA67.ev (v := (.int .i64 ((checkR [code]).2.1))) rfl) ?_)
  intro a68 hA69
  refine q_step hA69 rfl (d_assign (wn rfl) (hA69.ev (v := (.int .i64 ((checkR [code]).2.2))) rfl) ?_)
  intro a70 hA71
  refine q_end ?_
  have hA72 : St 46 [(0, (.slice ao code.length cap)), (2, (.slice ao2 rds.length cap2)), (4, (.pointer (some ⟨g3, 0, none⟩))), (6, (.pointer (some ⟨g12, 0, none⟩))), (7, (.slice none 0 0)), (8, (.slice none 0 0)), (9, (.int .i64 0)), (12, (.int .i64 ((checkR [code]).2.2)))] a70 := hA71.cut _ (fm_cons (hA71.get 0 _ rfl) (fm_cons (hA71.get 2 _ rfl) (fm_cons (hA71.get 4 _ rfl) (fm_cons (hA71.get 6 _ rfl) (fm_cons (hA71.get 7 _ rfl) (fm_cons (hA71.get 8 _ rfl) (fm_cons (hA71.get 9 _ rfl) (fm_cons (hA71.get 12 _ rfl) fm_nil))))))))
  refine t_norm ?_
  refine wp_seq ?_
  refine wp_region_lit ?_
  refine q_step hA72 rfl (d_move (wn rfl) (hA72.ev (v := (.int .i64 ((checkR [code]).2.2))) rfl) ?_)
  intro a73 hA74
  rcases Bool.eq_false_or_eq_true ((checkR [code]).2.2 == 0) with hb75 | hb75
  · skip
    have hq76 := eq_of_beq hb75
    refine q_step hA74 rfl (d_bin (wn rfl) (hA74.ev (v := (.int .i64 ((checkR [code]).2.2))) rfl) (hA74.ev (v := (.int .i64 0)) rfl) (b_ne _ _ ((checkR [code]).2.2) 0 false _ (notof hb75)) ?_)
    intro a77 hA78
    refine q_end ?_
    have hA79 : St 46 [(0, (.slice ao code.length cap)), (2, (.slice ao2 rds.length cap2)), (4, (.pointer (some ⟨g3, 0, none⟩))), (6, (.pointer (some ⟨g12, 0, none⟩))), (7, (.slice none 0 0)), (8, (.slice none 0 0)), (9, (.int .i64 0)), (22, (.bool false))] a77 := hA78.cut _ (fm_cons (hA78.get 0 _ rfl) (fm_cons (hA78.get 2 _ rfl) (fm_cons (hA78.get 4 _ rfl) (fm_cons (hA78.get 6 _ rfl) (fm_cons (hA78.get 7 _ rfl) (fm_cons (hA78.get 8 _ rfl) (fm_cons (hA78.get 9 _ rfl) (fm_cons (hA78.get 22 _ rfl) fm_nil))))))))
    refine t_norm ?_
    refine c_false hA79 rfl ?_
    refine wp_skip ?_
    refine t_norm ?_
    refine wp_seq ?_
    refine wp_region_lit ?_
    refine q_step hA79 rfl (d_loadRow (cs := (regsC r0)) (wn rfl) (hA79.ev (v := (.pointer (some ⟨g3, 0, none⟩))) rfl) row43 m52 ?_)
    intro a80 hA81
    refine q_step hA81 rfl (d_move (wn rfl) (hA81.ev (v := (.slice ao2 rds.length cap2)) rfl) ?_)
    intro a82 hA83
    refine q_step hA83 rfl (d_build (cs := #[.int .i64 0, .int .i64 (r0 0), .int .i64 (r0 1), .int .i64 (r0 2), .int .i64 (r0 3), .int .i64 (r0 4), .int .i64 (r0 5), .int .i64 (r0 6), .int .i64 (r0 7), .slice ao2 rds.length cap2, .slice none 0 0, .slice none 0 0]) (wn rfl) (bp_of (bq_cons (hA83.ev (v := (.agg (regsC r0))) rfl) (bq_cons (hA83.ev (v := (.slice ao2 rds.length cap2)) rfl) bq_nil))) zero62 places62 (by kernel_rfl) ?_)
    intro a84 hA85
    refine q_step hA85 rfl (d_alloc (wn rfl) zero62 ?_)
    intro g86 w87 eg88 hG89 (m90 : Blk w87 g86 #[.int .i64 0, .int .i64 0, .int .i64 0, .int .i64 0, .int .i64 0, .int .i64 0, .int .i64 0, .int .i64 0, .int .i64 0, .slice none 0 0, .slice none 0 0, .slice none 0 0] 62)
    have ge91 : w.heap.size ≤ g86 := eg88 ▸ b55.size
    have n92 : g3 ≠ g86 := fun h => Nat.lt_irrefl _ ((h.trans eg88) ▸ m52.lt)
    have lt93 : g3 < g86 := eg88 ▸ m52.lt
    have n94 : g12 ≠ g86 := fun h => Nat.lt_irrefl _ ((h.trans eg88) ▸ m53.lt)
    have lt95 : g12 < g86 := eg88 ▸ m53.lt
    have n96 : g33 ≠ g86 := fun h => Nat.lt_irrefl _ ((h.trans eg88) ▸ m54.lt)
    have lt97 : g33 < g86 := eg88 ▸ m54.lt
    have m98 := m52.grow hG89
    have m99 := m53.grow hG89
    have m100 := m54.grow hG89
    have b101 := below_grow b55 hG89 b55.size
    intro a102 hA103
    refine q_step hA103 rfl (d_storeRow (wn rfl) (hA103.ev (v := (.pointer (some ⟨g86, 0, none⟩))) rfl) (hA103.ev (v := (.agg #[.int .i64 0, .int .i64 (r0 0), .int .i64 (r0 1), .int .i64 (r0 2), .int .i64 (r0 3), .int .i64 (r0 4), .int .i64 (r0 5), .int .i64 (r0 6), .int .i64 (r0 7), .slice ao2 rds.length cap2, .slice none 0 0, .slice none 0 0])) rfl) row62 m90 rfl rfl ?_)
    intro w104 hU105 (m106 : Blk w104 g86 #[.int .i64 0, .int .i64 (r0 0), .int .i64 (r0 1), .int .i64 (r0 2), .int .i64 (r0 3), .int .i64 (r0 4), .int .i64 (r0 5), .int .i64 (r0 6), .int .i64 (r0 7), .slice ao2 rds.length cap2, .slice none 0 0, .slice none 0 0] 62)
    have m107 := m98.upd hU105 n92
    have m108 := m99.upd hU105 n94
    have m109 := m100.upd hU105 n96
    have b110 := hU105.below b101 ge91
    intro a111 hA112
    refine q_end ?_
    have hA113 : St 46 [(0, (.slice ao code.length cap)), (6, (.pointer (some ⟨g12, 0, none⟩))), (7, (.slice none 0 0)), (8, (.slice none 0 0)), (9, (.int .i64 0)), (13, (.pointer (some ⟨g86, 0, none⟩)))] a111 := hA112.cut _ (fm_cons (hA112.get 0 _ rfl) (fm_cons (hA112.get 6 _ rfl) (fm_cons (hA112.get 7 _ rfl) (fm_cons (hA112.get 8 _ rfl) (fm_cons (hA112.get 9 _ rfl) (fm_cons (hA112.get 13 _ rfl) fm_nil))))))
    refine t_norm ?_
    refine wp_seq ?_
    refine wp_block ?_
    obtain ⟨hlen, hright⟩ := check_one (eq_of_beq hb75)
    have hWS114 : WS g86 g86 w104 ((0 : Nat) : Int) r0 rds [] [] (.slice ao2 rds.length cap2) (.slice none 0 0) (.slice none 0 0) := ⟨m106, Nat.le_refl _, ((hrd.below b110)).mono ge91, ⟨rfl, .inl ⟨rfl, rfl⟩⟩, ⟨rfl, .inl ⟨rfl, rfl⟩⟩, nofun, nofun, nofun⟩
    refine loop_by (fun m a' w' => ∃ (n f : Nat) (r : Nat → Int) (ls : List Int) (es : List Ev) (ps : List Int) (rd ev pa : Value), m = code.length - n ∧ n ≤ code.length ∧ code.length - n ≤ f ∧ ps.length ≤ n ∧ es.length ≤ n ∧ (∀ k, wfI (r k)) ∧ (∀ z ∈ ls, wfI z) ∧ runW code code.length ⟨((0 : Nat) : Int), r0, rds, [], []⟩ = runW code f ⟨((n : Nat) : Int), r, ls, es, ps⟩ ∧ St 46 [(0, (.slice ao code.length cap)), (6, (.pointer (some ⟨g12, 0, none⟩))), (13, (.pointer (some ⟨g86, 0, none⟩)))] a' ∧ Below g86 w104 w' ∧ WS g86 g86 w' ((n : Nat) : Int) r ls es ps rd ev pa) (code.length - 0) ⟨0, code.length, r0, rds, [], [], _, _, _, rfl, Nat.zero_le _, Nat.le_refl _, Nat.le_refl _, Nat.le_refl _, hwr, hwd, rfl, hA113.cut _ (fm_cons (hA113.get 0 _ rfl) (fm_cons (hA113.get 6 _ rfl) (fm_cons (hA113.get 13 _ rfl) fm_nil))), Below.refl _ _, hWS114⟩ ?_
    rintro m115 a116 w117 ⟨nq118, fq119, rq120, lsq121, esq122, psq123, rdq124, evq125, paq126, hm127, hn128, hf129, hps130, hes131, hwf132, hwd133, hrun134, hA135, hbl136, hWS137⟩
    have b138 := b110.trans (hbl136.mono ge91)
    have m139 := m108.below hbl136 lt95
    refine wp_seq ?_
    refine wp_seq ?_
    refine wp_region_lit ?_
    refine q_step hA135 rfl (d_fieldAddr (wn rfl) (hA135.ev (v := (.pointer (some ⟨g86, 0, none⟩))) rfl) fo62_0 ?_)
    intro a140 hA141
    refine q_step hA141 rfl (d_load (v := (.int .i64 ((nq118 : Nat) : Int))) (wn rfl) (hA141.ev (v := (.pointer (some ⟨g86, 0, none⟩))) rfl) one3 (hWS137.hb.cell rfl) ?_)
    intro a142 hA143
    refine q_step hA143 rfl (d_move (wn rfl) (hA143.ev (v := (.slice ao code.length cap)) rfl) ?_)
    intro a144 hA145
    refine q_step hA145 rfl (d_len (n := code.length) (wn rfl) (hA145.ev (v := (.slice ao code.length cap)) rfl) slc35 hs.form ?_)
    intro a146 hA147
    rcases Bool.eq_false_or_eq_true (decide (((nq118 : Nat) : Int) < ((code.length : Nat) : Int))) with hb148 | hb148
    · skip
      have hq149 := of_decide_eq_true hb148
      refine q_step hA147 rfl (d_bin (wn rfl) (hA147.ev (v := (.int .i64 ((nq118 : Nat) : Int))) rfl) (hA147.ev (v := (.int .i64 ((code.length : Nat) : Int))) rfl) (b_lt _ _ ((nq118 : Nat) : Int) ((code.length : Nat) : Int) true _ hb148) ?_)
      intro a150 hA151
      refine q_end ?_
      have hA152 : St 46 [(0, (.slice ao code.length cap)), (6, (.pointer (some ⟨g12, 0, none⟩))), (13, (.pointer (some ⟨g86, 0, none⟩))), (27, (.pointer (some ⟨g86, 0, none⟩))), (28, (.int .i64 ((nq118 : Nat) : Int))), (29, (.slice ao code.length cap)), (30, (.int .i64 ((code.length : Nat) : Int))), (31, (.bool true))] a150 := hA151.cut _ (fm_cons (hA151.get 0 _ rfl) (fm_cons (hA151.get 6 _ rfl) (fm_cons (hA151.get 13 _ rfl) (fm_cons (hA151.get 27 _ rfl) (fm_cons (hA151.get 28 _ rfl) (fm_cons (hA151.get 29 _ rfl) (fm_cons (hA151.get 30 _ rfl) (fm_cons (hA151.get 31 _ rfl) fm_nil))))))))
      refine t_norm ?_
      refine c_true hA152 rfl ?_
      refine wp_skip ?_
      refine t_norm ?_
      refine wp_block ?_
      refine wp_seq ?_
      refine wp_region_lit ?_
      refine q_step hA152 rfl (d_move (wn rfl) (hA152.ev (v := (.slice ao code.length cap)) rfl) ?_)
      intro a153 hA154
      refine q_step hA154 rfl (d_fieldAddr (wn rfl) (hA154.ev (v := (.pointer (some ⟨g86, 0, none⟩))) rfl) fo62_0 ?_)
      intro a155 hA156
      refine q_step hA156 rfl (d_load (v := (.int .i64 ((nq118 : Nat) : Int))) (wn rfl) (hA156.ev (v := (.pointer (some ⟨g86, 0, none⟩))) rfl) one3 (hWS137.hb.cell rfl) ?_)
      intro a157 hA158
      obtain ⟨y159, hy160⟩ : ∃ y159, code[nq118]? = some y159 := ⟨_, List.getElem?_eq_getElem (show nq118 < code.length by omega)⟩
      obtain ⟨b161, o162, lt163, hr164, hix165⟩ := (hs.below b138).at hy160
      refine q_step hA158 rfl (d_indexAt (j := nq118) (wn rfl) (hA158.ev (v := (.slice ao code.length cap)) rfl) (hA158.ev (v := (.int .i64 ((nq118 : Nat) : Int))) rfl) slc35 hix165 (get_lt hy160) ?_)
      intro a166 hA167
      refine q_step hA167 rfl (d_loadMid (cs := (insC y159)) (wn rfl) (hA167.ev (v := (.pointer (some ⟨b161, o162, none⟩))) rfl) row23 hr164 ?_)
      intro a168 hA169
      refine q_step hA169 rfl (d_call (wn rfl) ent36 (map2 (hA169.ev (v := (.pointer (some ⟨g86, 0, none⟩))) rfl) (hA169.ev (v := (.agg (insC y159))) rfl)) (step_any g86 g86 ⟨((nq118 : Nat) : Int), rq120, lsq121, esq122, psq123⟩ rdq124 evq125 paq126 y159 w117 (Nat.le_of_lt hWS137.hb.lt) hWS137 (show esq122.length ≤ 1000 by omega) (show psq123.length ≤ 1000 by omega) hwf132 (show (0 : Int) ≤ ((nq118 : Nat) : Int) by omega) (show ((nq118 : Nat) : Int) ≤ 1000 by omega) (right_yes (hright _ _ hy160)).1 (hwi _ (List.mem_of_getElem? hy160)).1 (hwi _ (List.mem_of_getElem? hy160)).2 hwd133) ?_)
      rintro e173 w170 hp174
      rcases hst175 : stepW ⟨((nq118 : Nat) : Int), rq120, lsq121, esq122, psq123⟩ y159 with _ | s176
      · skip
        rw [hst175] at hp174
        obtain ⟨he172, bl177⟩ := hp174
        have b178 := b138.trans (bl177.mono ge91)
        have hbl179 := hbl136.trans bl177
        have m180 := m139.below bl177 lt95
        refine ⟨.bool false, he172, ?_⟩
        intro a181 hA182
        refine q_step hA182 rfl (d_not (wn rfl) (hA182.ev (v := (.bool false)) rfl) ?_)
        intro a183 hA184
        refine q_end ?_
        have hA185 : St 46 [(0, (.slice ao code.length cap)), (6, (.pointer (some ⟨g12, 0, none⟩))), (13, (.pointer (some ⟨g86, 0, none⟩))), (27, (.pointer (some ⟨g86, 0, none⟩))), (28, (.int .i64 ((nq118 : Nat) : Int))), (29, (.slice ao code.length cap)), (30, (.int .i64 ((code.length : Nat) : Int))), (31, (.bool true)), (32, (.slice ao code.length cap)), (33, (.pointer (some ⟨g86, 0, none⟩))), (34, (.int .i64 ((nq118 : Nat) : Int))), (35, (.pointer (some ⟨b161, o162, none⟩))), (36, (.agg (insC y159))), (37, (.bool false)), (38, (.bool true))] a183 := hA184.cut _ (fm_cons (hA184.get 0 _ rfl) (fm_cons (hA184.get 6 _ rfl) (fm_cons (hA184.get 13 _ rfl) (fm_cons (hA184.get 27 _ rfl) (fm_cons (hA184.get 28 _ rfl) (fm_cons (hA184.get 29 _ rfl) (fm_cons (hA184.get 30 _ rfl) (fm_cons (hA184.get 31 _ rfl) (fm_cons (hA184.get 32 _ rfl) (fm_cons (hA184.get 33 _ rfl) (fm_cons (hA184.get 34 _ rfl) (fm_cons (hA184.get 35 _ rfl) (fm_cons (hA184.get 36 _ rfl) (fm_cons (hA184.get 37 _ rfl) (fm_cons (hA184.get 38 _ rfl) fm_nil)))))))))))))))
        refine t_norm ?_
        refine c_true hA185 rfl ?_
        refine wp_seq ?_
        refine wp_region_lit ?_
        refine q_step hA185 rfl (d_loadRow (cs := #[.int .i64 0, .int .i64 0, .int .i64 0, .int .i64 0, .int .i64 0, .int .i64 0, .int .i64 0, .int .i64 0]) (wn rfl) (hA185.ev (v := (.pointer (some ⟨g12, 0, none⟩))) rfl) row43 m180 ?_)
        intro a186 hA187
        refine q_step hA187 rfl (d_storeRow (wn rfl) (hA187.ev (v := (.pointer (some ⟨g12, 0, none⟩))) rfl) (hA187.ev (v := (.agg #[.int .i64 0, .int .i64 0, .int .i64 0, .int .i64 0, .int .i64 0, .int .i64 0, .int .i64 0, .int .i64 0])) rfl) row43 m180 rfl rfl ?_)
        intro w188 hU189 (m190 : Blk w188 g12 #[.int .i64 0, .int .i64 0, .int .i64 0, .int .i64 0, .int .i64 0, .int .i64 0, .int .i64 0, .int .i64 0] 43)
        have b191 := hU189.below b178 ge17
        intro a192 hA193
        refine q_step hA193 rfl (d_assign (wn rfl) (hA193.ev (v := (.slice none 0 0)) rfl) ?_)
        intro a194 hA195
        refine q_step hA195 rfl (d_assign (wn rfl) (hA195.ev (v := (.slice none 0 0)) rfl) ?_)
        intro a196 hA197
        refine q_step hA197 rfl (d_assign (wn rfl) (hA197.ev (v := (.int .i64 24)) rfl) ?_)
        intro a198 hA199
        refine q_end ?_
        have hA200 : St 46 [(0, (.slice ao code.length cap)), (6, (.pointer (some ⟨g12, 0, none⟩))), (7, (.slice none 0 0)), (8, (.slice none 0 0)), (9, (.int .i64 24)), (13, (.pointer (some ⟨g86, 0, none⟩))), (27, (.pointer (some ⟨g86, 0, none⟩))), (28, (.int .i64 ((nq118 : Nat) : Int))), (29, (.slice ao code.length cap)), (30, (.int .i64 ((code.length : Nat) : Int))), (31, (.bool true)), (32, (.slice ao code.length cap)), (33, (.pointer (some ⟨g86, 0, none⟩))), (34, (.int .i64 ((nq118 : Nat) : Int))), (35, (.pointer (some ⟨b161, o162, none⟩))), (36, (.agg (insC y159))), (37, (.bool false)), (38, (.bool true)), (39, (.agg #[.int .i64 0, .int .i64 0, .int .i64 0, .int .i64 0, .int .i64 0, .int .i64 0, .int .i64 0, .int .i64 0]))] a198 := hA199.cut _ (fm_cons (hA199.get 0 _ rfl) (fm_cons (hA199.get 6 _ rfl) (fm_cons (hA199.get 7 _ rfl) (fm_cons (hA199.get 8 _ rfl) (fm_cons (hA199.get 9 _ rfl) (fm_cons (hA199.get 13 _ rfl) (fm_cons (hA199.get 27 _ rfl) (fm_cons (hA199.get 28 _ rfl) (fm_cons (hA199.get 29 _ rfl) (fm_cons (hA199.get 30 _ rfl) (fm_cons (hA199.get 31 _ rfl) (fm_cons (hA199.get 32 _ rfl) (fm_cons (hA199.get 33 _ rfl) (fm_cons (hA199.get 34 _ rfl) (fm_cons (hA199.get 35 _ rfl) (fm_cons (hA199.get 36 _ rfl) (fm_cons (hA199.get 37 _ rfl) (fm_cons (hA199.get 38 _ rfl) (fm_cons (hA199.get 39 _ rfl) fm_nil)))))))))))))))))))
        refine t_norm ?_
        refine wp_ret ?_
        refine i_ret ?_
        refine t_ret ?_
        refine i_ret ?_
        refine t_ret ?_
        refine retC3 (g := g12) (cs := #[.int .i64 0, .int .i64 0, .int .i64 0, .int .i64 0, .int .i64 0, .int .i64 0, .int .i64 0, .int .i64 0]) (x := (.slice none 0 0)) (y := (.slice none 0 0)) (z := (.int .i64 24)) rfl hA200 rfl rfl rfl rfl m190 row43 ?_
        obtain ⟨ff, hff⟩ : ∃ ff, fq119 = ff + 1 := ⟨fq119 - 1, by have := get_lt hy160; omega⟩
        have hrn : runW code code.length ⟨((0 : Nat) : Int), r0, rds, [], []⟩ = none := by rw [hrun134, hff, runW_step (s := ⟨((nq118 : Nat) : Int), rq120, lsq121, esq122, psq123⟩) (i := y159) (by simpa using hy160), hst175]
        exact LPost.none (eq_of_beq hb75) hrn b191
      · skip
        rw [hst175] at hp174
        obtain ⟨he172, bl201, rd204, ev205, pa206, hW203⟩ := hp174
        have b202 := b138.trans (bl201.mono ge91)
        have hbl207 := hbl136.trans bl201
        have m208 := m139.below bl201 lt95
        refine ⟨.bool true, he172, ?_⟩
        intro a209 hA210
        refine q_step hA210 rfl (d_not (wn rfl) (hA210.ev (v := (.bool true)) rfl) ?_)
        intro a211 hA212
        refine q_end ?_
        have hA213 : St 46 [(0, (.slice ao code.length cap)), (6, (.pointer (some ⟨g12, 0, none⟩))), (13, (.pointer (some ⟨g86, 0, none⟩))), (27, (.pointer (some ⟨g86, 0, none⟩))), (28, (.int .i64 ((nq118 : Nat) : Int))), (29, (.slice ao code.length cap)), (30, (.int .i64 ((code.length : Nat) : Int))), (31, (.bool true)), (32, (.slice ao code.length cap)), (33, (.pointer (some ⟨g86, 0, none⟩))), (34, (.int .i64 ((nq118 : Nat) : Int))), (35, (.pointer (some ⟨b161, o162, none⟩))), (36, (.agg (insC y159))), (37, (.bool true)), (38, (.bool false))] a211 := hA212.cut _ (fm_cons (hA212.get 0 _ rfl) (fm_cons (hA212.get 6 _ rfl) (fm_cons (hA212.get 13 _ rfl) (fm_cons (hA212.get 27 _ rfl) (fm_cons (hA212.get 28 _ rfl) (fm_cons (hA212.get 29 _ rfl) (fm_cons (hA212.get 30 _ rfl) (fm_cons (hA212.get 31 _ rfl) (fm_cons (hA212.get 32 _ rfl) (fm_cons (hA212.get 33 _ rfl) (fm_cons (hA212.get 34 _ rfl) (fm_cons (hA212.get 35 _ rfl) (fm_cons (hA212.get 36 _ rfl) (fm_cons (hA212.get 37 _ rfl) (fm_cons (hA212.get 38 _ rfl) fm_nil)))))))))))))))
        refine t_norm ?_
        refine c_false hA213 rfl ?_
        refine wp_skip ?_
        refine i_norm ?_
        refine t_norm ?_
        have sf216 := step_facts (s := ⟨((nq118 : Nat) : Int), rq120, lsq121, esq122, psq123⟩) (hright _ _ hy160) (by have := get_lt hy160; simp only; omega) hwf132 (hwi _ (List.mem_of_getElem? hy160)).1 hst175
        simp only at sf216
        obtain ⟨f1, f2, f3, f4, f5, f6⟩ := sf216
        obtain ⟨n214, hn215⟩ := Int.eq_ofNat_of_zero_le (show 0 ≤ s176.p by omega)
        obtain ⟨ff, hff⟩ : ∃ ff, fq119 = ff + 1 := ⟨fq119 - 1, by have := get_lt hy160; omega⟩
        have hrn : runW code code.length ⟨((0 : Nat) : Int), r0, rds, [], []⟩ = runW code ff ⟨((n214 : Nat) : Int), s176.r, s176.rds, s176.evs, s176.path⟩ := by
          rw [hrun134, hff, runW_step (s := ⟨((nq118 : Nat) : Int), rq120, lsq121, esq122, psq123⟩) (i := y159) (by simpa using hy160), hst175, ← hn215]
        have hW4 := hW203
        rw [hn215] at hW4
        have hpl : s176.path.length ≤ n214 := by rw [f4]; simp; omega
        exact ⟨code.length - n214, (by rw [hm127]; omega), n214, ff, s176.r, s176.rds, s176.evs, s176.path, rd204, ev205, pa206, rfl, (by omega), (by omega), hpl, (by omega), f3, (fun z hz => hwd133 z (f6 z hz)), hrn, hA213.cut _ (fm_cons (hA213.get 0 _ rfl) (fm_cons (hA213.get 6 _ rfl) (fm_cons (hA213.get 13 _ rfl) fm_nil))), hbl207, hW4⟩
    · skip
      have hq217 := of_decide_eq_false hb148
      refine q_step hA147 rfl (d_bin (wn rfl) (hA147.ev (v := (.int .i64 ((nq118 : Nat) : Int))) rfl) (hA147.ev (v := (.int .i64 ((code.length : Nat) : Int))) rfl) (b_lt _ _ ((nq118 : Nat) : Int) ((code.length : Nat) : Int) false _ hb148) ?_)
      intro a218 hA219
      refine q_end ?_
      have hA220 : St 46 [(0, (.slice ao code.length cap)), (6, (.pointer (some ⟨g12, 0, none⟩))), (13, (.pointer (some ⟨g86, 0, none⟩))), (27, (.pointer (some ⟨g86, 0, none⟩))), (28, (.int .i64 ((nq118 : Nat) : Int))), (29, (.slice ao code.length cap)), (30, (.int .i64 ((code.length : Nat) : Int))), (31, (.bool false))] a218 := hA219.cut _ (fm_cons (hA219.get 0 _ rfl) (fm_cons (hA219.get 6 _ rfl) (fm_cons (hA219.get 13 _ rfl) (fm_cons (hA219.get 27 _ rfl) (fm_cons (hA219.get 28 _ rfl) (fm_cons (hA219.get 29 _ rfl) (fm_cons (hA219.get 30 _ rfl) (fm_cons (hA219.get 31 _ rfl) fm_nil))))))))
      refine t_norm ?_
      refine c_false hA220 rfl ?_
      refine wp_exit ?_
      refine t_exit ?_
      refine t_exit ?_
      refine i_here ?_
      refine t_norm ?_
      refine wp_seq ?_
      have hA221 : St 46 [(6, (.pointer (some ⟨g12, 0, none⟩))), (13, (.pointer (some ⟨g86, 0, none⟩)))] a218 := hA220.cut _ (fm_cons (hA220.get 6 _ rfl) (fm_cons (hA220.get 13 _ rfl) fm_nil))
      let M222 : Nat → Option (Array Value) := fun k => if k = g12 then some (regsC rq120) else none
      have hM222 : M222 = fun k => if k = g12 then some (regsC rq120) else none := rfl
      clear_value M222
      have hM223 : M222 g86 = none := ((congrFun hM222 g86).trans (if_neg (Ne.symm n94)))
      have hM224 : M222 g12 = some (regsC rq120) := ((congrFun hM222 g12).trans (if_pos rfl))
      have hM222B : ∀ k, k < w.heap.size → M222 k = none := (fun k hk => (congrFun hM222 k).trans (if_neg (fun h => Nat.lt_irrefl _ (Nat.lt_of_lt_of_le (h ▸ hk) ge17))))
      refine drawn (S := SM M222) (tabL [cv (.pointer (some ⟨g86, 1, none⟩)), cv (.agg (regsC rq120)), cv (.pointer (some ⟨g86, 10, none⟩)), cv evq125, cv (.pointer (some ⟨g86, 11, none⟩)), cv paq126, cmr M222 g12 43 (regsC rq120) hM224, cv evq125, cv paq126, cv (.int .i64 0)]) mixedY SM.refl SM.trans SM.drew hA221 (by kernel_rfl) ?_ ?_
      · skip
        refine each_cons (fun x y hS hT hk => d_fieldAddr (wn rfl) (hT.ev (v := (.pointer (some ⟨g86, 0, none⟩))) rfl) fo62_1 ⟨SM.refl _, rfl⟩) ?_
        refine each_cons (fun x y hS hT hk => d_loadMid (cs := (regsC rq120)) (wn rfl) (hk 0 rfl) row43 (walk_regs (Blk.sm (w := w117.drew) hWS137.hb hS hM223)) ⟨SM.refl _, rfl⟩) ?_
        refine each_cons (fun x y hS hT hk => d_fieldAddr (wn rfl) (hT.ev (v := (.pointer (some ⟨g86, 0, none⟩))) rfl) fo62_3 ⟨SM.refl _, rfl⟩) ?_
        refine each_cons (fun x y hS hT hk => d_load (v := evq125) (wn rfl) (hk 2 rfl) one44 ((Blk.sm (w := w117.drew) hWS137.hb hS hM223).cell rfl) ⟨SM.refl _, rfl⟩) ?_
        refine each_cons (fun x y hS hT hk => d_fieldAddr (wn rfl) (hT.ev (v := (.pointer (some ⟨g86, 0, none⟩))) rfl) fo62_4 ⟨SM.refl _, rfl⟩) ?_
        refine each_cons (fun x y hS hT hk => d_load (v := paq126) (wn rfl) (hk 4 rfl) one30 ((Blk.sm (w := w117.drew) hWS137.hb hS hM223).cell rfl) ⟨SM.refl _, rfl⟩) ?_
        refine each_cons (fun x y hS hT hk => d_storeRowM (fin := (regsC rq120)) (w0 := w117.drew) (wn rfl) (hT.ev (v := (.pointer (some ⟨g12, 0, none⟩))) rfl) (hk 1 rfl) row43 hS hM224 m139 rfl rfl (fun _ h => h)) ?_
        refine each_cons (fun x y hS hT hk => d_assign (wn rfl) (hk 3 rfl) ⟨SM.refl _, rfl⟩) ?_
        refine each_cons (fun x y hS hT hk => d_assign (wn rfl) (hk 5 rfl) ⟨SM.refl _, rfl⟩) ?_
        refine each_cons (fun x y hS hT hk => d_assign (wn rfl) (hT.ev (v := (.int .i64 0)) rfl) ⟨SM.refl _, rfl⟩) ?_
        exact each_nil
      intro f225 a226 w227 hS228 hC229 hA230
      have hA231 : St 46 [(6, (.pointer (some ⟨g12, 0, none⟩))), (7, evq125), (8, paq126), (9, (.int .i64 0))] a226 := hA230.cut _ (fm_cons (hA230.get 6 _ rfl) (fm_cons ((hA230.get 7 _ rfl).trans (hC229 7 (Nat.le_of_ble_eq_true rfl))) (fm_cons ((hA230.get 8 _ rfl).trans (hC229 8 (Nat.le_of_ble_eq_true rfl))) (fm_cons ((hA230.get 9 _ rfl).trans (hC229 9 (Nat.le_of_ble_eq_true rfl))) fm_nil))))
      have m232 := hWS137.hb.sm hS228 hM223
      have m233 : Blk w227 g12 (regsC rq120) 43 := hC229 6 (Nat.le_of_ble_eq_true rfl)
      have b234 := hS228.below b138 b138.size hM222B
      have ho235 := own_smG hWS137.hev hS228 (fun k hk => (congrFun hM222 k).trans (if_neg (Nat.ne_of_gt (Nat.lt_of_lt_of_le lt95 hk))))
      have ho236 := own_smG hWS137.hpa hS228 (fun k hk => (congrFun hM222 k).trans (if_neg (Nat.ne_of_gt (Nat.lt_of_lt_of_le lt95 hk))))
      refine t_norm ?_
      refine wp_ret ?_
      refine retC3 (g := g12) (cs := (regsC rq120)) (x := evq125) (y := paq126) (z := (.int .i64 0)) rfl hA231 rfl rfl rfl rfl m233 row43 ?_
      have hrn : runW code code.length ⟨((0 : Nat) : Int), r0, rds, [], []⟩ = some ⟨((nq118 : Nat) : Int), rq120, lsq121, esq122, psq123⟩ := by rw [hrun134, runW_end (by simp only [Int.toNat_natCast]; omega)]
      exact LPost.some (eq_of_beq hb75) hrn b234 ge91 ho235 ho236
  · skip
    have hq237 := ne_of_beq hb75
    refine q_step hA74 rfl (d_bin (wn rfl) (hA74.ev (v := (.int .i64 ((checkR [code]).2.2))) rfl) (hA74.ev (v := (.int .i64 0)) rfl) (b_ne _ _ ((checkR [code]).2.2) 0 true _ (notof hb75)) ?_)
    intro a238 hA239
    refine q_end ?_
    have hA240 : St 46 [(0, (.slice ao code.length cap)), (2, (.slice ao2 rds.length cap2)), (4, (.pointer (some ⟨g3, 0, none⟩))), (6, (.pointer (some ⟨g12, 0, none⟩))), (7, (.slice none 0 0)), (8, (.slice none 0 0)), (9, (.int .i64 0)), (22, (.bool true))] a238 := hA239.cut _ (fm_cons (hA239.get 0 _ rfl) (fm_cons (hA239.get 2 _ rfl) (fm_cons (hA239.get 4 _ rfl) (fm_cons (hA239.get 6 _ rfl) (fm_cons (hA239.get 7 _ rfl) (fm_cons (hA239.get 8 _ rfl) (fm_cons (hA239.get 9 _ rfl) (fm_cons (hA239.get 22 _ rfl) fm_nil))))))))
    refine t_norm ?_
    refine c_true hA240 rfl ?_
    refine wp_seq ?_
    refine wp_region_lit ?_
    refine q_step hA240 rfl (d_loadRow (cs := #[.int .i64 0, .int .i64 0, .int .i64 0, .int .i64 0, .int .i64 0, .int .i64 0, .int .i64 0, .int .i64 0]) (wn rfl) (hA240.ev (v := (.pointer (some ⟨g12, 0, none⟩))) rfl) row43 m53 ?_)
    intro a241 hA242
    refine q_step hA242 rfl (d_storeRow (wn rfl) (hA242.ev (v := (.pointer (some ⟨g12, 0, none⟩))) rfl) (hA242.ev (v := (.agg #[.int .i64 0, .int .i64 0, .int .i64 0, .int .i64 0, .int .i64 0, .int .i64 0, .int .i64 0, .int .i64 0])) rfl) row43 m53 rfl rfl ?_)
    intro w243 hU244 (m245 : Blk w243 g12 #[.int .i64 0, .int .i64 0, .int .i64 0, .int .i64 0, .int .i64 0, .int .i64 0, .int .i64 0, .int .i64 0] 43)
    have m246 := m52.upd hU244 n18
    have m247 := m54.upd hU244 (Ne.symm n41)
    have b248 := hU244.below b55 ge17
    intro a249 hA250
    refine q_step hA250 rfl (d_assign (wn rfl) (hA250.ev (v := (.slice none 0 0)) rfl) ?_)
    intro a251 hA252
    refine q_step hA252 rfl (d_assign (wn rfl) (hA252.ev (v := (.slice none 0 0)) rfl) ?_)
    intro a253 hA254
    refine q_step hA254 rfl (d_assign (wn rfl) (hA254.ev (v := (.int .i64 1)) rfl) ?_)
    intro a255 hA256
    refine q_end ?_
    have hA257 : St 46 [(0, (.slice ao code.length cap)), (2, (.slice ao2 rds.length cap2)), (4, (.pointer (some ⟨g3, 0, none⟩))), (6, (.pointer (some ⟨g12, 0, none⟩))), (7, (.slice none 0 0)), (8, (.slice none 0 0)), (9, (.int .i64 1))] a255 := hA256.cut _ (fm_cons (hA256.get 0 _ rfl) (fm_cons (hA256.get 2 _ rfl) (fm_cons (hA256.get 4 _ rfl) (fm_cons (hA256.get 6 _ rfl) (fm_cons (hA256.get 7 _ rfl) (fm_cons (hA256.get 8 _ rfl) (fm_cons (hA256.get 9 _ rfl) fm_nil)))))))
    refine t_norm ?_
    refine wp_ret ?_
    refine t_ret ?_
    refine retC3 (g := g12) (cs := #[.int .i64 0, .int .i64 0, .int .i64 0, .int .i64 0, .int .i64 0, .int .i64 0, .int .i64 0, .int .i64 0]) (x := (.slice none 0 0)) (y := (.slice none 0 0)) (z := (.int .i64 1)) rfl hA257 rfl rfl rfl rfl m245 row43 ?_
    exact LPost.bad (ne_of_beq hb75) b248
end Go.Proofs.Ytlhompedcphnnaa
