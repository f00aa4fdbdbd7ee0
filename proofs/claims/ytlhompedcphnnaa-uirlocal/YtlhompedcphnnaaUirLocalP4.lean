/- A write of the walk. -/
import Derived.Test.YtlhompedcphnnaaUirLocalP3
namespace Go.Proofs.Ytlhompedcphnnaa
open Go.RowKit
set_option linter.unusedSimpArgs false
set_option linter.unusedVariables false
set_option maxHeartbeats 4000000 in
set_option maxRecDepth 4000 in
theorem access_5 (Bd g : Nat) (p : Int) (r : Nat → Int) (rd ev pa : Value) (i : Ins) (rds : List Int) (evs : List Ev) (path : List Int) (w : World) (hB : Bd ≤ w.heap.size) (hW : WS Bd g w p r rds evs path rd ev pa) (hne : evs.length ≤ 1000) (hnp : path.length ≤ 1000) (hr : ∀ k, wfI (r k)) (hix : ronB i.index = true) (hoff : wfI i.off) (ha : ronB i.a = true) (himm : wfI i.imm) : Calls Try.prog 48 #[.pointer (some ⟨g, 0, none⟩), .agg (insC ⟨5, i.dst, i.a, i.b, i.imm, i.loc, i.off, i.index, i.size, i.fn, i.acq, i.weak, i.rel, i.pred, i.succ, i.to, i.zero⟩)] w fun e w' => e = .returned (.bool true) ∧ Below Bd w w' ∧ ∃ rd' ev' pa', WS Bd g w' p r rds (evs ++ [acc5 i r path.length p]) path rd' ev' pa' := by
 obtain ⟨hb, hge, hrd, hev, hpa, oe, op_, ap⟩ := hW
 have ap2 : ∀ k, ev.ownBlock = some k → pa.ownBlock ≠ some k := fun k h1 h2 => ap k h2 h1
 have b0 : Below Bd w w := Below.refl _ _
 refine enter (n := 81) Try.func48 rfl rfl (Nat.le_of_ble_eq_true rfl) ?_
 intro a1 hA2
 refine wp_seq ?_
 refine wp_region_lit ?_
 refine qs hA2 rfl (d_box (wn rfl) (hA2.ev rfl) ?_)
 intro g3 w4 eg5 hG6 (m7 : Blk w4 g3 (insC ⟨5, i.dst, i.a, i.b, i.imm, i.loc, i.off, i.index, i.size, i.fn, i.acq, i.weak, i.rel, i.pred, i.succ, i.to, i.zero⟩) 23)
 have ge8 : Bd ≤ g3 := eg5 ▸ (Nat.le_trans hB b0.size)
 have n9 : g ≠ g3 := fun h => Nat.lt_irrefl _ ((h.trans eg5) ▸ hb.lt)
 have off10 := own_new hev eg5
 have off11 := own_new hpa eg5
 have m12 := hb.grow hG6
 have b13 := blg b0 hG6 (Nat.le_trans hB b0.size)
 have ho14 := owg hG6 hev
 have ho15 := owg hG6 hpa
 intro a16 hA17
 refine qs hA17 rfl (das (wn rfl) (hA17.ev rfl) ?_)
 intro a18 hA19
 refine qe_ ?_
 refine tn_ ?_
 refine wp_seq ?_
 refine wp_region_lit ?_
 refine qs hA19 rfl (dmv (wn rfl) (hA19.ev rfl) ?_)
 intro a20 hA21
 refine qs hA21 rfl (dlr (cs := (insC ⟨5, i.dst, i.a, i.b, i.imm, i.loc, i.off, i.index, i.size, i.fn, i.acq, i.weak, i.rel, i.pred, i.succ, i.to, i.zero⟩)) (wn rfl) (hA21.ev rfl) row23 m7 ?_)
 intro a22 hA23
 refine qs hA23 rfl (dcl (wn rfl) ent49 (map2 (hA23.ev rfl) (hA23.ev rfl)) (event_any g p r rd ev pa (⟨5, i.dst, i.a, i.b, i.imm, i.loc, i.off, i.index, i.size, i.fn, i.acq, i.weak, i.rel, i.pred, i.succ, i.to, i.zero⟩) path.length Bd (paE path) w4 m12 ho15) ?_)
 rintro e27 w24 ⟨he26, hG25⟩
 have m28 := m12.grow hG25
 have m29 := m7.grow hG25
 have b30 := blg b13 hG25 (Nat.le_trans hB b13.size)
 have ho31 := owg hG25 ho14
 have ho32 := owg hG25 ho15
 refine ⟨(.agg #[.int .i64 0, .int .i64 ((path.length : Nat) : Int), .int .i64 p, .int .i64 5, .int .i64 0, .int .i64 0, .bool false, .bool true, .int .i64 0, .int .i64 0, .bool i.acq, .bool i.weak, .bool i.rel, .int .i64 i.pred, .int .i64 i.succ]), he26, ?_⟩
 intro a33 hA34
 refine qs hA34 rfl (dal (wn rfl) zero52 ?_)
 intro g35 w36 eg37 hG38 (m39 : Blk w36 g35 #[.int .i64 0, .int .i64 0, .int .i64 0, .int .i64 0, .int .i64 0, .int .i64 0, .bool false, .bool false, .int .i64 0, .int .i64 0, .bool false, .bool false, .bool false, .int .i64 0, .int .i64 0] 52)
 have ge40 : Bd ≤ g35 := eg37 ▸ (Nat.le_trans hB b30.size)
 have n41 : g ≠ g35 := fun h => Nat.lt_irrefl _ ((h.trans eg37) ▸ m28.lt)
 have n42 : g3 ≠ g35 := fun h => Nat.lt_irrefl _ ((h.trans eg37) ▸ m29.lt)
 have off43 := own_new ho31 eg37
 have off44 := own_new ho32 eg37
 have m45 := m28.grow hG38
 have m46 := m29.grow hG38
 have b47 := blg b30 hG38 (Nat.le_trans hB b30.size)
 have ho48 := owg hG38 ho31
 have ho49 := owg hG38 ho32
 intro a50 hA51
 refine qs hA51 rfl (dsr (wn rfl) (hA51.ev rfl) (hA51.ev rfl) row52 m39 rfl rfl ?_)
 intro w52 hU53 (m54 : Blk w52 g35 #[.int .i64 0, .int .i64 ((path.length : Nat) : Int), .int .i64 p, .int .i64 5, .int .i64 0, .int .i64 0, .bool false, .bool true, .int .i64 0, .int .i64 0, .bool i.acq, .bool i.weak, .bool i.rel, .int .i64 i.pred, .int .i64 i.succ] 52)
 have m55 := m45.upd hU53 n41
 have m56 := m46.upd hU53 n42
 have b57 := hU53.below b47 ge40
 have ho58 := own_upd ho48 hU53 off43
 have ho59 := own_upd ho49 hU53 off44
 intro a60 hA61
 refine qe_ ?_
 refine tn_ ?_
 refine wp_seq ?_
 have hA62 : St 81 [(0, (.pointer (some ⟨g, 0, none⟩))), (3, (.pointer (some ⟨g3, 0, none⟩))), (4, (.bool false)), (5, (.pointer (some ⟨g35, 0, none⟩)))] a60 := hA61.sub rfl
 let M63 : Nat → Option (Array Value) := fun _ => none
 have hM63 : M63 = fun _ => none := rfl
 clear_value M63
 have hM64 : M63 g = none := (congrFun hM63 g)
 have hM65 : M63 g3 = none := (congrFun hM63 g3)
 have hM66 : M63 g35 = none := (congrFun hM63 g35)
 have hM63B : ∀ k, k < Bd → M63 k = none := (fun k hk => (congrFun hM63 k))
 refine drawn (S := SM M63) (tabL [cv (.pointer (some ⟨g3, 6, none⟩)), cv (.int .i64 i.off), cv (.pointer (some ⟨g, 0, none⟩)), cv (.pointer (some ⟨g3, 7, none⟩)), cv (.int .i64 i.index), cv (.int .i64 (orR r i.index 0)), cv (.pointer (some ⟨g3, 8, none⟩)), cv (.int .i64 i.size), cv (.int .i64 (placeR (B i.off) (B (orR r i.index 0)) i.size)), cv (.int .i64 (placeR (B i.off) (B (orR r i.index 0)) i.size))]) mixedY SM.refl SM.trans SM.drew hA62 (by kernel_rfl) ?_ ?_
 ·skip
  refine ec_ (fun x y hS hT hk => dfa (wn rfl) (hT.ev rfl) fo23_6 ⟨SM.refl _, rfl⟩) ?_
  refine ec_ (fun x y hS hT hk => dld (v := (.int .i64 i.off)) (wn rfl) (hk 0 rfl) one3 ((Blk.sm (w := w52.drew) m56 hS hM65).cell rfl) ⟨SM.refl _, rfl⟩) ?_
  refine ec_ (fun x y hS hT hk => dmv (wn rfl) (hT.ev rfl) ⟨SM.refl _, rfl⟩) ?_
  refine ec_ (fun x y hS hT hk => dfa (wn rfl) (hT.ev rfl) fo23_7 ⟨SM.refl _, rfl⟩) ?_
  refine ec_ (fun x y hS hT hk => dld (v := (.int .i64 i.index)) (wn rfl) (hk 3 rfl) one3 ((Blk.sm (w := w52.drew) m56 hS hM65).cell rfl) ⟨SM.refl _, rfl⟩) ?_
  refine ec_ (fun x y hS hT hk => dcl (wn rfl) ent47 (map3 (show x.eval _ = (.pointer (some ⟨g, 0, none⟩)) from (hk 2 rfl)) (show x.eval _ = (.int .i64 i.index) from (hk 4 rfl)) (show x.eval _ = (.int .i64 0) from (hT.ev rfl))) (regOr_any g p r rd ev pa i.index 0 y (Blk.sm (w := w52.drew) m55 hS hM64) hix) (fun _ _ ⟨he, hG⟩ => ⟨(.int .i64 (orR r i.index 0)), he, SM.grow hG, rfl⟩)) ?_
  refine ec_ (fun x y hS hT hk => dfa (wn rfl) (hT.ev rfl) fo23_8 ⟨SM.refl _, rfl⟩) ?_
  refine ec_ (fun x y hS hT hk => dld (v := (.int .i64 i.size)) (wn rfl) (hk 6 rfl) one3 ((Blk.sm (w := w52.drew) m56 hS hM65).cell rfl) ⟨SM.refl _, rfl⟩) ?_
  refine ec_ (fun x y hS hT hk => dcl (wn rfl) ent57 (map3 (show x.eval _ = (.int .i64 i.off) from (hk 1 rfl)) (show x.eval _ = (.int .i64 (orR r i.index 0)) from (hk 5 rfl)) (show x.eval _ = (.int .i64 i.size) from (hk 7 rfl))) (place_w i.off (orR r i.index 0) i.size y hoff (wf_or hr wf_0)) (fun _ _ ⟨he, hw⟩ => ⟨(.int .i64 (placeR (B i.off) (B (orR r i.index 0)) i.size)), he, hw ▸ SM.refl _, rfl⟩)) ?_
  refine ec_ (fun x y hS hT hk => das (wn rfl) (hk 8 rfl) ⟨SM.refl _, rfl⟩) ?_
  exact each_nil
 intro f67 a68 w69 hS70 hC71 hA72
 have hA73 : St 81 [(0, (.pointer (some ⟨g, 0, none⟩))), (3, (.pointer (some ⟨g3, 0, none⟩))), (4, (.bool false)), (5, (.pointer (some ⟨g35, 0, none⟩))), (6, (.int .i64 (placeR (B i.off) (B (orR r i.index 0)) i.size)))] a68 := hA72.cut _ (fc (hA72.get 0 _ rfl) (fc (hA72.get 3 _ rfl) (fc (hA72.get 4 _ rfl) (fc (hA72.get 5 _ rfl) (fc ((hA72.get 6 _ rfl).trans (hC71 9 (Nat.le_of_ble_eq_true rfl))) fn_)))))
 have m74 := m55.sm hS70 hM64
 have m75 := m56.sm hS70 hM65
 have m76 := m54.sm hS70 hM66
 have b77 := hS70.below b57 (Nat.le_trans hB b57.size) hM63B
 have ho78 := own_sm ho58 hS70 (fun k => congrFun hM63 k)
 have ho79 := own_sm ho59 hS70 (fun k => congrFun hM63 k)
 refine tn_ ?_
 refine wp_seq ?_
 have hA80 : St 81 [(0, (.pointer (some ⟨g, 0, none⟩))), (3, (.pointer (some ⟨g3, 0, none⟩))), (4, (.bool false)), (5, (.pointer (some ⟨g35, 0, none⟩))), (6, (.int .i64 (placeR (B i.off) (B (orR r i.index 0)) i.size)))] a68 := hA73.sub rfl
 let M81 : Nat → Option (Array Value) := fun _ => none
 have hM81 : M81 = fun _ => none := rfl
 clear_value M81
 have hM81A : ∀ k, M81 k = none := fun k => congrFun hM81 k
 have hM81B : ∀ k, k < Bd → M81 k = none := fun k _ => hM81A k
 refine drawnL (S := SM M81) rfl (tabL [cv (.pointer (some ⟨g3, 5, none⟩)), cv (.int .i64 i.loc), cv (.int .i64 (placeR (B i.off) (B (orR r i.index 0)) i.size)), cv (.pointer (some ⟨g3, 8, none⟩)), cv (.int .i64 i.size), cv (.int .i64 (maskR (placeR (B i.off) (B (orR r i.index 0)) i.size) i.size)), cv (.agg #[.int .i64 i.loc, .int .i64 (maskR (placeR (B i.off) (B (orR r i.index 0)) i.size) i.size)]), cv (.pointer (some ⟨g35, 4, none⟩))]) none (fun _ => none) (fun _ _ => True) [7, 6, 5, 0, 1, 2, 3, 4] [] mixedY SM.refl SM.trans hA80 (by kernel_rfl) (by kernel_rfl) (fun i v u w h => by cases h) ?_ ?_
 ·skip
  refine ed_ (.inl ⟨nofun, rfl, fun x y hS hT hk => dfa (wn rfl) (hT.ev rfl) fo23_5 ⟨SM.refl _, rfl⟩⟩) ?_
  refine ed_ (.inl ⟨nofun, rfl, fun x y hS hT hk => dld (v := (.int .i64 i.loc)) (wn rfl) (hk 0 rfl) one3 ((Blk.sm (w := w69.drew) m75 hS (hM81A _)).cell rfl) ⟨SM.refl _, rfl⟩⟩) ?_
  refine ed_ (.inl ⟨nofun, rfl, fun x y hS hT hk => dmv (wn rfl) (hT.ev rfl) ⟨SM.refl _, rfl⟩⟩) ?_
  refine ed_ (.inl ⟨nofun, rfl, fun x y hS hT hk => dfa (wn rfl) (hT.ev rfl) fo23_8 ⟨SM.refl _, rfl⟩⟩) ?_
  refine ed_ (.inl ⟨nofun, rfl, fun x y hS hT hk => dld (v := (.int .i64 i.size)) (wn rfl) (hk 3 rfl) one3 ((Blk.sm (w := w69.drew) m75 hS (hM81A _)).cell rfl) ⟨SM.refl _, rfl⟩⟩) ?_
  refine ed_ (.inl ⟨nofun, rfl, fun x y hS hT hk => dcl (wn rfl) ent55 (map2 (show x.eval _ = (.int .i64 (placeR (B i.off) (B (orR r i.index 0)) i.size)) from (hk 2 rfl)) (show x.eval _ = (.int .i64 i.size) from (hk 4 rfl))) (mask_all (placeR (B i.off) (B (orR r i.index 0)) i.size) i.size y) (fun _ _ ⟨he, hw⟩ => ⟨(.int .i64 (maskR (placeR (B i.off) (B (orR r i.index 0)) i.size) i.size)), he, hw ▸ SM.refl _, rfl⟩)⟩) ?_
  refine ed_ (.inl ⟨nofun, rfl, fun x y hS hT hk => dbd (cs := #[.int .i64 i.loc, .int .i64 (maskR (placeR (B i.off) (B (orR r i.index 0)) i.size) i.size)]) (wn rfl) (bp_of (bq_cons (show x.eval _ = (.int .i64 i.loc) from (hk 1 rfl)) (bq_cons (show x.eval _ = (.int .i64 (maskR (placeR (B i.off) (B (orR r i.index 0)) i.size) i.size)) from (hk 5 rfl)) bq_nil))) zero50 places50 (by kernel_rfl) ⟨SM.refl _, rfl⟩⟩) ?_
  refine ed_ (.inl ⟨nofun, rfl, fun x y hS hT hk => dfa (wn rfl) (hT.ev rfl) fo52_4 ⟨SM.refl _, rfl⟩⟩) ?_
  exact eachD_one
 rintro a82 w83 hA84 ⟨hS86, hC87⟩
 have hA88 : St 81 [(0, (.pointer (some ⟨g, 0, none⟩))), (3, (.pointer (some ⟨g3, 0, none⟩))), (4, (.bool false)), (5, (.pointer (some ⟨g35, 0, none⟩))), (25, (.agg #[.int .i64 i.loc, .int .i64 (maskR (placeR (B i.off) (B (orR r i.index 0)) i.size) i.size)])), (26, (.pointer (some ⟨g35, 4, none⟩)))] a82 := hA84.cut _ (fc (hA84.get 0 _ rfl) (fc (hA84.get 3 _ rfl) (fc (hA84.get 4 _ rfl) (fc (hA84.get 5 _ rfl) (fc (hC87 6 (Nat.le_of_ble_eq_true rfl)) (fc (hC87 7 (Nat.le_of_ble_eq_true rfl)) fn_))))))
 have hG89 : Grow w69 w83 := Grow.trans ((Grow.refl _).drew) (SM.grown (by rw [hM81] at hS86; exact hS86))
 have m90 := m74.grow hG89
 have m91 := m75.grow hG89
 have m92 := m76.grow hG89
 have b93 := blg b77 hG89 (Nat.le_trans hB b77.size)
 have ho94 := owg hG89 ho78
 have ho95 := owg hG89 ho79
 refine d_store2 (wn rfl) (hA88.ev rfl) (hA88.ev rfl) row50 rfl rfl m92 (Nat.le_of_ble_eq_true rfl) ?_
 intro w96 hU97 (m98 : Blk w96 g35 #[.int .i64 0, .int .i64 ((path.length : Nat) : Int), .int .i64 p, .int .i64 5, .int .i64 i.loc, .int .i64 (maskR (placeR (B i.off) (B (orR r i.index 0)) i.size) i.size), .bool false, .bool true, .int .i64 0, .int .i64 0, .bool i.acq, .bool i.weak, .bool i.rel, .int .i64 i.pred, .int .i64 i.succ] 52)
 have m99 := m90.upd hU97 n41
 have m100 := m91.upd hU97 n42
 have b101 := hU97.below b93 ge40
 have ho102 := own_upd ho94 hU97 off43
 have ho103 := own_upd ho95 hU97 off44
 refine tn_ ?_
 refine wp_seq ?_
 refine wp_seq ?_
 refine wp_region_lit ?_
 refine qs hA88 rfl (dfa (wn rfl) (hA88.ev rfl) fo52_5 ?_)
 intro a104 hA105
 refine qs hA105 rfl (dld (v := (.bool false)) (wn rfl) (hA105.ev rfl) one4 (m98.cell rfl) ?_)
 intro a106 hA107
 refine qe_ ?_
 refine tn_ ?_
 refine c_false hA107 rfl ?_
 refine wp_skip ?_
 refine tn_ ?_
 refine wp_seq ?_
 refine wp_seq ?_
 refine wp_region_lit ?_
 refine qs hA107 rfl (dfa (wn rfl) (hA107.ev rfl) fo52_6 ?_)
 intro a108 hA109
 refine qs hA109 rfl (dld (v := (.bool true)) (wn rfl) (hA109.ev rfl) one4 (m98.cell rfl) ?_)
 intro a110 hA111
 refine qe_ ?_
 refine tn_ ?_
 refine c_true hA111 rfl ?_
 refine wp_region_lit ?_
 refine qs hA111 rfl (dmv (wn rfl) (hA111.ev rfl) ?_)
 intro a112 hA113
 refine qs hA113 rfl (dlr (cs := (insC ⟨5, i.dst, i.a, i.b, i.imm, i.loc, i.off, i.index, i.size, i.fn, i.acq, i.weak, i.rel, i.pred, i.succ, i.to, i.zero⟩)) (wn rfl) (hA113.ev rfl) row23 m100 ?_)
 intro a114 hA115
 refine qs hA115 rfl (dfa (wn rfl) (hA115.ev rfl) fo52_7 ?_)
 intro a116 hA117
 refine qs hA117 rfl (dld (v := (.int .i64 0)) (wn rfl) (hA117.ev rfl) one3 (m98.cell rfl) ?_)
 intro a118 hA119
 refine qs hA119 rfl (dcl (wn rfl) ent59 (map3 (hA119.ev rfl) (hA119.ev rfl) (hA119.ev rfl)) (written_5 g p r rd ev pa i 0 w96 m99 hr ha himm) ?_)
 rintro e123 w120 ⟨he122, hG121⟩
 have m124 := m99.grow hG121
 have m125 := m100.grow hG121
 have m126 := m98.grow hG121
 have b127 := blg b101 hG121 (Nat.le_trans hB b101.size)
 have ho128 := owg hG121 ho102
 have ho129 := owg hG121 ho103
 refine ⟨(.int .i64 (I (getR (B (orR r i.a i.imm)) 0 i.size))), he122, ?_⟩
 intro a130 hA131
 refine qs hA131 rfl (dfa (wn rfl) (hA131.ev rfl) fo52_8 ?_)
 intro a132 hA133
 refine qs hA133 rfl (dst_ (wn rfl) (hA133.ev rfl) (hA133.ev rfl) one3 rfl m126 (Nat.le_of_ble_eq_true rfl) ?_)
 intro w134 hU135 (m136 : Blk w134 g35 #[.int .i64 0, .int .i64 ((path.length : Nat) : Int), .int .i64 p, .int .i64 5, .int .i64 i.loc, .int .i64 (maskR (placeR (B i.off) (B (orR r i.index 0)) i.size) i.size), .bool false, .bool true, .int .i64 0, .int .i64 (I (getR (B (orR r i.a i.imm)) 0 i.size)), .bool i.acq, .bool i.weak, .bool i.rel, .int .i64 i.pred, .int .i64 i.succ] 52)
 have m137 := m124.upd hU135 n41
 have m138 := m125.upd hU135 n42
 have b139 := hU135.below b127 ge40
 have ho140 := own_upd ho128 hU135 off43
 have ho141 := own_upd ho129 hU135 off44
 intro a142 hA143
 refine qe_ ?_
 refine tn_ ?_
 refine wp_seq ?_
 refine wp_seq ?_
 refine wp_region_lit ?_
 refine qs hA143 rfl (dfa (wn rfl) (hA143.ev rfl) fo52_5 ?_)
 intro a144 hA145
 refine qs hA145 rfl (dld (v := (.bool false)) (wn rfl) (hA145.ev rfl) one4 (m136.cell rfl) ?_)
 intro a146 hA147
 refine qe_ ?_
 refine tn_ ?_
 refine c_false hA147 rfl ?_
 refine wp_skip ?_
 refine tn_ ?_
 refine wp_seq ?_
 have hA148 : St 81 [(0, (.pointer (some ⟨g, 0, none⟩))), (4, (.bool false)), (5, (.pointer (some ⟨g35, 0, none⟩)))] a146 := hA147.sub rfl
 let M149 : Nat → Option (Array Value) := fun _ => none
 have hM149 : M149 = fun _ => none := rfl
 clear_value M149
 have hM149A : ∀ k, M149 k = none := fun k => congrFun hM149 k
 have hM149B : ∀ k, k < Bd → M149 k = none := fun k _ => hM149A k
 refine drawnL (S := SM M149) rfl (tabQ [some (.pointer (some ⟨g, 0, none⟩)), some (.pointer (some ⟨g, 0, none⟩)), some (.pointer (some ⟨g, 0, none⟩)), some (.pointer (some ⟨g, 10, none⟩)), none, none, none, none, some (.pointer (some ⟨g, 0, none⟩)), some (.pointer (some ⟨g, 10, none⟩))] [cv (.pointer (some ⟨g, 0, none⟩)), cv (.pointer (some ⟨g, 0, none⟩)), cv (.pointer (some ⟨g, 0, none⟩)), cv (.pointer (some ⟨g, 10, none⟩)), cv ev, cv (.agg #[.int .i64 0, .int .i64 ((path.length : Nat) : Int), .int .i64 p, .int .i64 5, .int .i64 i.loc, .int .i64 (maskR (placeR (B i.off) (B (orR r i.index 0)) i.size) i.size), .bool false, .bool true, .int .i64 0, .int .i64 (I (getR (B (orR r i.a i.imm)) 0 i.size)), .bool i.acq, .bool i.weak, .bool i.rel, .int .i64 i.pred, .int .i64 i.succ]), cs1 M149 hM149A #[.int .i64 0, .int .i64 ((path.length : Nat) : Int), .int .i64 p, .int .i64 5, .int .i64 i.loc, .int .i64 (maskR (placeR (B i.off) (B (orR r i.index 0)) i.size) i.size), .bool false, .bool true, .int .i64 0, .int .i64 (I (getR (B (orR r i.a i.imm)) 0 i.size)), .bool i.acq, .bool i.weak, .bool i.rel, .int .i64 i.pred, .int .i64 i.succ] 52, cfree, cv (.pointer (some ⟨g, 0, none⟩)), cv (.pointer (some ⟨g, 10, none⟩))]) (some 7) (fun i => (([some (.pointer (some ⟨g, 0, none⟩)), some (.pointer (some ⟨g, 0, none⟩)), some (.pointer (some ⟨g, 0, none⟩)), some (.pointer (some ⟨g, 10, none⟩)), none, none, none, none, some (.pointer (some ⟨g, 0, none⟩)), some (.pointer (some ⟨g, 10, none⟩))] : List (Option Value))[i]?).getD none) (fun v' w' => w'.ownsRow Bd 52 15 v' (evs.length + 1) ((evE evs) ++ (#[.int .i64 0, .int .i64 ((path.length : Nat) : Int), .int .i64 p, .int .i64 5, .int .i64 i.loc, .int .i64 (maskR (placeR (B i.off) (B (orR r i.index 0)) i.size) i.size), .bool false, .bool true, .int .i64 0, .int .i64 (I (getR (B (orR r i.a i.imm)) 0 i.size)), .bool i.acq, .bool i.weak, .bool i.rel, .int .i64 i.pred, .int .i64 i.succ] : Array Value).toList) ∧ Below Bd w w' ∧ Blk w' g (walkC p r rd ev pa) 62 ∧ Blk w' g3 (insC ⟨5, i.dst, i.a, i.b, i.imm, i.loc, i.off, i.index, i.size, i.fn, i.acq, i.weak, i.rel, i.pred, i.succ, i.to, i.zero⟩) 23 ∧ Blk w' g35 #[.int .i64 0, .int .i64 ((path.length : Nat) : Int), .int .i64 p, .int .i64 5, .int .i64 i.loc, .int .i64 (maskR (placeR (B i.off) (B (orR r i.index 0)) i.size) i.size), .bool false, .bool true, .int .i64 0, .int .i64 (I (getR (B (orR r i.a i.imm)) 0 i.size)), .bool i.acq, .bool i.weak, .bool i.rel, .int .i64 i.pred, .int .i64 i.succ] 52 ∧ w'.ownsRow Bd 3 1 pa path.length (paE path) ∧ v'.ownBlock ≠ some g ∧ v'.ownBlock ≠ some g3 ∧ v'.ownBlock ≠ some g35 ∧ ∀ k, pa.ownBlock = some k → v'.ownBlock ≠ some k) [9, 7, 0, 1, 2, 3, 4, 5, 6, 8] [4, 6, 3, 5, 2, 1] mixedY SM.refl SM.trans hA148 (by kernel_rfl) (by kernel_rfl) (tabQ_cv _ _) ?_ ?_
 ·skip
  refine ed_ (.inr (.inl ⟨by decide, _, rfl, fun x y hT hk hk0 => dmv (wn rfl) (hT.ev rfl) ⟨rfl, rfl⟩⟩)) ?_
  refine ed_ (.inr (.inl ⟨by decide, _, rfl, fun x y hT hk hk0 => dmv (wn rfl) (hT.ev rfl) ⟨rfl, rfl⟩⟩)) ?_
  refine ed_ (.inr (.inl ⟨by decide, _, rfl, fun x y hT hk hk0 => dnc (wn rfl) (hk 1 _ rfl rfl) ⟨rfl, rfl⟩⟩)) ?_
  refine ed_ (.inr (.inl ⟨by decide, _, rfl, fun x y hT hk hk0 => dfa (wn rfl) (hk 2 _ rfl rfl) fo62_3 ⟨rfl, rfl⟩⟩)) ?_
  refine ed_ (.inl ⟨by decide, rfl, fun x y hS hT hk => dld (v := ev) (wn rfl) (hk 3 rfl) one44 ((Blk.sm (w := w134.drew) m137 hS (hM149A _)).cell rfl) ⟨SM.refl _, rfl⟩⟩) ?_
  refine ed_ (.inl ⟨by decide, rfl, fun x y hS hT hk => dlr (cs := #[.int .i64 0, .int .i64 ((path.length : Nat) : Int), .int .i64 p, .int .i64 5, .int .i64 i.loc, .int .i64 (maskR (placeR (B i.off) (B (orR r i.index 0)) i.size) i.size), .bool false, .bool true, .int .i64 0, .int .i64 (I (getR (B (orR r i.a i.imm)) 0 i.size)), .bool i.acq, .bool i.weak, .bool i.rel, .int .i64 i.pred, .int .i64 i.succ]) (wn rfl) (hT.ev rfl) row52 (Blk.sm (w := w134.drew) m136 hS (hM149A _)) ⟨SM.refl _, rfl⟩⟩) ?_
  refine ed_ (.inl ⟨by decide, rfl, fun x y hS hT hk => d_slice1 (wn rfl) (show x.eval _ = (.agg #[.int .i64 0, .int .i64 ((path.length : Nat) : Int), .int .i64 p, .int .i64 5, .int .i64 i.loc, .int .i64 (maskR (placeR (B i.off) (B (orR r i.index 0)) i.size) i.size), .bool false, .bool true, .int .i64 0, .int .i64 (I (getR (B (orR r i.a i.imm)) 0 i.size)), .bool i.acq, .bool i.weak, .bool i.rel, .int .i64 i.pred, .int .i64 i.succ]) from (hk 5 rfl)) elm44 rfl (by decide) (fun g w' _ hG hb => ⟨SM.grow hG, g, rfl, hb⟩)⟩) ?_
  refine ed_ (.inr (.inr ⟨rfl, fun x y hS hT hk => ?_⟩)) ?_
  ·skip
   obtain ⟨gb, hvb, hbb⟩ := hk 6 rfl
   have hG : Grow w134 y := Grow.trans ((Grow.refl _).drew) (SM.grown (by rw [hM149] at hS; exact hS))
   have hR := owg hG ho140
   have hO := owg hG ho141
   have hBl := blg b139 hG (Nat.le_trans hB b139.size)
   refine d_append (wn rfl) (show x.eval _ = ev from (hk 4 rfl)) hvb elm44 hR hbb rfl rfl (by omega) (by decide) (Nat.le_trans hB hBl.size) ?_
   intro v' w' h1 h2 h3
   exact ⟨h1, below_by hBl h2 (Nat.le_trans hB hBl.size) (fun k hk => (own_lt hR k hk).1), (m137.grow hG).by h2 oe, (m138.grow hG).by h2 off10, (m136.grow hG).by h2 off43, own_by hO h2 ap, lies_ne h3 oe (m137.grow hG).lt, lies_ne h3 off10 (m138.grow hG).lt, lies_ne h3 off43 (m136.grow hG).lt, lies_ap h3 ap hO⟩
  refine ed_ (.inr (.inl ⟨by decide, _, rfl, fun x y hT hk hk0 => dnc (wn rfl) (hk 0 _ rfl rfl) ⟨rfl, rfl⟩⟩)) ?_
  refine ed_ (.inr (.inl ⟨by decide, _, rfl, fun x y hT hk hk0 => dfa (wn rfl) (hk 8 _ rfl rfl) fo62_3 ⟨rfl, rfl⟩⟩)) ?_
  exact eachD_one
 rintro a150 w151 hA152 ⟨hP154, hW155⟩
 obtain ⟨v156, hv157⟩ : ∃ v', v' = (a150.tmps.getD 78 undef) := ⟨_, rfl⟩
 have hW158 : (fun v' w' => w'.ownsRow Bd 52 15 v' (evs.length + 1) ((evE evs) ++ (#[.int .i64 0, .int .i64 ((path.length : Nat) : Int), .int .i64 p, .int .i64 5, .int .i64 i.loc, .int .i64 (maskR (placeR (B i.off) (B (orR r i.index 0)) i.size) i.size), .bool false, .bool true, .int .i64 0, .int .i64 (I (getR (B (orR r i.a i.imm)) 0 i.size)), .bool i.acq, .bool i.weak, .bool i.rel, .int .i64 i.pred, .int .i64 i.succ] : Array Value).toList) ∧ Below Bd w w' ∧ Blk w' g (walkC p r rd ev pa) 62 ∧ Blk w' g3 (insC ⟨5, i.dst, i.a, i.b, i.imm, i.loc, i.off, i.index, i.size, i.fn, i.acq, i.weak, i.rel, i.pred, i.succ, i.to, i.zero⟩) 23 ∧ Blk w' g35 #[.int .i64 0, .int .i64 ((path.length : Nat) : Int), .int .i64 p, .int .i64 5, .int .i64 i.loc, .int .i64 (maskR (placeR (B i.off) (B (orR r i.index 0)) i.size) i.size), .bool false, .bool true, .int .i64 0, .int .i64 (I (getR (B (orR r i.a i.imm)) 0 i.size)), .bool i.acq, .bool i.weak, .bool i.rel, .int .i64 i.pred, .int .i64 i.succ] 52 ∧ w'.ownsRow Bd 3 1 pa path.length (paE path) ∧ v'.ownBlock ≠ some g ∧ v'.ownBlock ≠ some g3 ∧ v'.ownBlock ≠ some g35 ∧ ∀ k, pa.ownBlock = some k → v'.ownBlock ≠ some k) v156 w151 := by rw [hv157]; exact hW155
 obtain ⟨ho159, b160, m161, m162, m163, ho164, off165, off166, off167, ap168⟩ := hW158
 have ap169 : ∀ k, v156.ownBlock = some k → pa.ownBlock ≠ some k := fun k h1 h2 => ap168 k h2 h1
 have hA170 : St 81 [(4, (.bool false)), (78, v156), (80, (.pointer (some ⟨g, 10, none⟩)))] a150 := hA152.cut _ (fc (hA152.get 4 _ rfl) (fc hv157.symm (fc (hP154 9 _ (Nat.le_of_ble_eq_true rfl) (by decide) rfl) fn_)))
 refine dst_ (v := v156) (wn rfl) (hA170.ev rfl) (hA170.ev rfl) one44 (one_slice (own_form ho159)) m161 (Nat.le_of_ble_eq_true rfl) ?_
 intro w171 hU172 (m173 : Blk w171 g (walkC p r rd v156 pa) 62)
 have m174 := m162.upd hU172 (Ne.symm n9)
 have m175 := m163.upd hU172 (Ne.symm n41)
 have b176 := hU172.below b160 hge
 have ho177 := own_upd ho159 hU172 off165
 have ho178 := own_upd ho164 hU172 op_
 refine tn_ ?_
 refine wp_seq ?_
 refine wp_region_lit ?_
 refine qs hA170 rfl (das (wn rfl) (hA170.ev rfl) ?_)
 intro a179 hA180
 refine qe_ ?_
 refine tn_ ?_
 refine wp_ret ?_
 refine ret1 rfl hA180 (v := (.bool true)) rfl ?_
 exact ⟨rfl, b176, rd, v156, pa, m173, hge, (hrd.below b176), (by rw [List.length_append, ← evE_snoc]; exact ho177), ho178, off165, op_, ap168⟩
end Go.Proofs.Ytlhompedcphnnaa
/- A read of the walk. -/
namespace Go.Proofs.Ytlhompedcphnnaa
open Go.RowKit
set_option linter.unusedSimpArgs false
set_option linter.unusedVariables false
set_option maxHeartbeats 4000000 in
set_option maxRecDepth 4000 in
theorem access_4 (Bd g : Nat) (p : Int) (r : Nat → Int) (rd ev pa : Value) (i : Ins) (d : Nat) (u0 : Int) (rl : List Int) (evs : List Ev) (path : List Int) (w : World) (hB : Bd ≤ w.heap.size) (hW : WS Bd g w p r (u0 :: rl) evs path rd ev pa) (hne : evs.length ≤ 1000) (hnp : path.length ≤ 1000) (hr : ∀ k, wfI (r k)) (hix : ronB i.index = true) (hoff : wfI i.off) (hd : d < 8) (hu0 : wfI u0) : Calls Try.prog 48 #[.pointer (some ⟨g, 0, none⟩), .agg (insC ⟨4, ((d : Nat) : Int), i.a, i.b, i.imm, i.loc, i.off, i.index, i.size, i.fn, i.acq, i.weak, i.rel, i.pred, i.succ, i.to, i.zero⟩)] w fun e w' => e = .returned (.bool true) ∧ Below Bd w w' ∧ ∃ rd' ev' pa', WS Bd g w' p (updR r d (I (getR (B u0) 0 i.size))) rl (evs ++ [acc4 i r path.length p u0]) path rd' ev' pa' := by
 obtain ⟨hb, hge, hrd, hev, hpa, oe, op_, ap⟩ := hW
 have ap2 : ∀ k, ev.ownBlock = some k → pa.ownBlock ≠ some k := fun k h1 h2 => ap k h2 h1
 have b0 : Below Bd w w := Below.refl _ _
 refine enter (n := 81) Try.func48 rfl rfl (Nat.le_of_ble_eq_true rfl) ?_
 intro a1 hA2
 refine wp_seq ?_
 refine wp_region_lit ?_
 refine qs hA2 rfl (d_box (wn rfl) (hA2.ev rfl) ?_)
 intro g3 w4 eg5 hG6 (m7 : Blk w4 g3 (insC ⟨4, ((d : Nat) : Int), i.a, i.b, i.imm, i.loc, i.off, i.index, i.size, i.fn, i.acq, i.weak, i.rel, i.pred, i.succ, i.to, i.zero⟩) 23)
 have ge8 : Bd ≤ g3 := eg5 ▸ (Nat.le_trans hB b0.size)
 have n9 : g ≠ g3 := fun h => Nat.lt_irrefl _ ((h.trans eg5) ▸ hb.lt)
 have off10 := own_new hev eg5
 have off11 := own_new hpa eg5
 have m12 := hb.grow hG6
 have b13 := blg b0 hG6 (Nat.le_trans hB b0.size)
 have ho14 := owg hG6 hev
 have ho15 := owg hG6 hpa
 intro a16 hA17
 refine qs hA17 rfl (das (wn rfl) (hA17.ev rfl) ?_)
 intro a18 hA19
 refine qe_ ?_
 refine tn_ ?_
 refine wp_seq ?_
 refine wp_region_lit ?_
 refine qs hA19 rfl (dmv (wn rfl) (hA19.ev rfl) ?_)
 intro a20 hA21
 refine qs hA21 rfl (dlr (cs := (insC ⟨4, ((d : Nat) : Int), i.a, i.b, i.imm, i.loc, i.off, i.index, i.size, i.fn, i.acq, i.weak, i.rel, i.pred, i.succ, i.to, i.zero⟩)) (wn rfl) (hA21.ev rfl) row23 m7 ?_)
 intro a22 hA23
 refine qs hA23 rfl (dcl (wn rfl) ent49 (map2 (hA23.ev rfl) (hA23.ev rfl)) (event_any g p r rd ev pa (⟨4, ((d : Nat) : Int), i.a, i.b, i.imm, i.loc, i.off, i.index, i.size, i.fn, i.acq, i.weak, i.rel, i.pred, i.succ, i.to, i.zero⟩) path.length Bd (paE path) w4 m12 ho15) ?_)
 rintro e27 w24 ⟨he26, hG25⟩
 have m28 := m12.grow hG25
 have m29 := m7.grow hG25
 have b30 := blg b13 hG25 (Nat.le_trans hB b13.size)
 have ho31 := owg hG25 ho14
 have ho32 := owg hG25 ho15
 refine ⟨(.agg #[.int .i64 0, .int .i64 ((path.length : Nat) : Int), .int .i64 p, .int .i64 4, .int .i64 0, .int .i64 0, .bool true, .bool false, .int .i64 0, .int .i64 0, .bool i.acq, .bool i.weak, .bool i.rel, .int .i64 i.pred, .int .i64 i.succ]), he26, ?_⟩
 intro a33 hA34
 refine qs hA34 rfl (dal (wn rfl) zero52 ?_)
 intro g35 w36 eg37 hG38 (m39 : Blk w36 g35 #[.int .i64 0, .int .i64 0, .int .i64 0, .int .i64 0, .int .i64 0, .int .i64 0, .bool false, .bool false, .int .i64 0, .int .i64 0, .bool false, .bool false, .bool false, .int .i64 0, .int .i64 0] 52)
 have ge40 : Bd ≤ g35 := eg37 ▸ (Nat.le_trans hB b30.size)
 have n41 : g ≠ g35 := fun h => Nat.lt_irrefl _ ((h.trans eg37) ▸ m28.lt)
 have n42 : g3 ≠ g35 := fun h => Nat.lt_irrefl _ ((h.trans eg37) ▸ m29.lt)
 have off43 := own_new ho31 eg37
 have off44 := own_new ho32 eg37
 have m45 := m28.grow hG38
 have m46 := m29.grow hG38
 have b47 := blg b30 hG38 (Nat.le_trans hB b30.size)
 have ho48 := owg hG38 ho31
 have ho49 := owg hG38 ho32
 intro a50 hA51
 refine qs hA51 rfl (dsr (wn rfl) (hA51.ev rfl) (hA51.ev rfl) row52 m39 rfl rfl ?_)
 intro w52 hU53 (m54 : Blk w52 g35 #[.int .i64 0, .int .i64 ((path.length : Nat) : Int), .int .i64 p, .int .i64 4, .int .i64 0, .int .i64 0, .bool true, .bool false, .int .i64 0, .int .i64 0, .bool i.acq, .bool i.weak, .bool i.rel, .int .i64 i.pred, .int .i64 i.succ] 52)
 have m55 := m45.upd hU53 n41
 have m56 := m46.upd hU53 n42
 have b57 := hU53.below b47 ge40
 have ho58 := own_upd ho48 hU53 off43
 have ho59 := own_upd ho49 hU53 off44
 intro a60 hA61
 refine qe_ ?_
 refine tn_ ?_
 refine wp_seq ?_
 have hA62 : St 81 [(0, (.pointer (some ⟨g, 0, none⟩))), (3, (.pointer (some ⟨g3, 0, none⟩))), (4, (.bool false)), (5, (.pointer (some ⟨g35, 0, none⟩)))] a60 := hA61.sub rfl
 let M63 : Nat → Option (Array Value) := fun _ => none
 have hM63 : M63 = fun _ => none := rfl
 clear_value M63
 have hM64 : M63 g = none := (congrFun hM63 g)
 have hM65 : M63 g3 = none := (congrFun hM63 g3)
 have hM66 : M63 g35 = none := (congrFun hM63 g35)
 have hM63B : ∀ k, k < Bd → M63 k = none := (fun k hk => (congrFun hM63 k))
 refine drawn (S := SM M63) (tabL [cv (.pointer (some ⟨g3, 6, none⟩)), cv (.int .i64 i.off), cv (.pointer (some ⟨g, 0, none⟩)), cv (.pointer (some ⟨g3, 7, none⟩)), cv (.int .i64 i.index), cv (.int .i64 (orR r i.index 0)), cv (.pointer (some ⟨g3, 8, none⟩)), cv (.int .i64 i.size), cv (.int .i64 (placeR (B i.off) (B (orR r i.index 0)) i.size)), cv (.int .i64 (placeR (B i.off) (B (orR r i.index 0)) i.size))]) mixedY SM.refl SM.trans SM.drew hA62 (by kernel_rfl) ?_ ?_
 ·skip
  refine ec_ (fun x y hS hT hk => dfa (wn rfl) (hT.ev rfl) fo23_6 ⟨SM.refl _, rfl⟩) ?_
  refine ec_ (fun x y hS hT hk => dld (v := (.int .i64 i.off)) (wn rfl) (hk 0 rfl) one3 ((Blk.sm (w := w52.drew) m56 hS hM65).cell rfl) ⟨SM.refl _, rfl⟩) ?_
  refine ec_ (fun x y hS hT hk => dmv (wn rfl) (hT.ev rfl) ⟨SM.refl _, rfl⟩) ?_
  refine ec_ (fun x y hS hT hk => dfa (wn rfl) (hT.ev rfl) fo23_7 ⟨SM.refl _, rfl⟩) ?_
  refine ec_ (fun x y hS hT hk => dld (v := (.int .i64 i.index)) (wn rfl) (hk 3 rfl) one3 ((Blk.sm (w := w52.drew) m56 hS hM65).cell rfl) ⟨SM.refl _, rfl⟩) ?_
  refine ec_ (fun x y hS hT hk => dcl (wn rfl) ent47 (map3 (show x.eval _ = (.pointer (some ⟨g, 0, none⟩)) from (hk 2 rfl)) (show x.eval _ = (.int .i64 i.index) from (hk 4 rfl)) (show x.eval _ = (.int .i64 0) from (hT.ev rfl))) (regOr_any g p r rd ev pa i.index 0 y (Blk.sm (w := w52.drew) m55 hS hM64) hix) (fun _ _ ⟨he, hG⟩ => ⟨(.int .i64 (orR r i.index 0)), he, SM.grow hG, rfl⟩)) ?_
  refine ec_ (fun x y hS hT hk => dfa (wn rfl) (hT.ev rfl) fo23_8 ⟨SM.refl _, rfl⟩) ?_
  refine ec_ (fun x y hS hT hk => dld (v := (.int .i64 i.size)) (wn rfl) (hk 6 rfl) one3 ((Blk.sm (w := w52.drew) m56 hS hM65).cell rfl) ⟨SM.refl _, rfl⟩) ?_
  refine ec_ (fun x y hS hT hk => dcl (wn rfl) ent57 (map3 (show x.eval _ = (.int .i64 i.off) from (hk 1 rfl)) (show x.eval _ = (.int .i64 (orR r i.index 0)) from (hk 5 rfl)) (show x.eval _ = (.int .i64 i.size) from (hk 7 rfl))) (place_w i.off (orR r i.index 0) i.size y hoff (wf_or hr wf_0)) (fun _ _ ⟨he, hw⟩ => ⟨(.int .i64 (placeR (B i.off) (B (orR r i.index 0)) i.size)), he, hw ▸ SM.refl _, rfl⟩)) ?_
  refine ec_ (fun x y hS hT hk => das (wn rfl) (hk 8 rfl) ⟨SM.refl _, rfl⟩) ?_
  exact each_nil
 intro f67 a68 w69 hS70 hC71 hA72
 have hA73 : St 81 [(0, (.pointer (some ⟨g, 0, none⟩))), (3, (.pointer (some ⟨g3, 0, none⟩))), (4, (.bool false)), (5, (.pointer (some ⟨g35, 0, none⟩))), (6, (.int .i64 (placeR (B i.off) (B (orR r i.index 0)) i.size)))] a68 := hA72.cut _ (fc (hA72.get 0 _ rfl) (fc (hA72.get 3 _ rfl) (fc (hA72.get 4 _ rfl) (fc (hA72.get 5 _ rfl) (fc ((hA72.get 6 _ rfl).trans (hC71 9 (Nat.le_of_ble_eq_true rfl))) fn_)))))
 have m74 := m55.sm hS70 hM64
 have m75 := m56.sm hS70 hM65
 have m76 := m54.sm hS70 hM66
 have b77 := hS70.below b57 (Nat.le_trans hB b57.size) hM63B
 have ho78 := own_sm ho58 hS70 (fun k => congrFun hM63 k)
 have ho79 := own_sm ho59 hS70 (fun k => congrFun hM63 k)
 refine tn_ ?_
 refine wp_seq ?_
 have hA80 : St 81 [(0, (.pointer (some ⟨g, 0, none⟩))), (3, (.pointer (some ⟨g3, 0, none⟩))), (4, (.bool false)), (5, (.pointer (some ⟨g35, 0, none⟩))), (6, (.int .i64 (placeR (B i.off) (B (orR r i.index 0)) i.size)))] a68 := hA73.sub rfl
 let M81 : Nat → Option (Array Value) := fun _ => none
 have hM81 : M81 = fun _ => none := rfl
 clear_value M81
 have hM81A : ∀ k, M81 k = none := fun k => congrFun hM81 k
 have hM81B : ∀ k, k < Bd → M81 k = none := fun k _ => hM81A k
 refine drawnL (S := SM M81) rfl (tabL [cv (.pointer (some ⟨g3, 5, none⟩)), cv (.int .i64 i.loc), cv (.int .i64 (placeR (B i.off) (B (orR r i.index 0)) i.size)), cv (.pointer (some ⟨g3, 8, none⟩)), cv (.int .i64 i.size), cv (.int .i64 (maskR (placeR (B i.off) (B (orR r i.index 0)) i.size) i.size)), cv (.agg #[.int .i64 i.loc, .int .i64 (maskR (placeR (B i.off) (B (orR r i.index 0)) i.size) i.size)]), cv (.pointer (some ⟨g35, 4, none⟩))]) none (fun _ => none) (fun _ _ => True) [7, 6, 5, 0, 1, 2, 3, 4] [] mixedY SM.refl SM.trans hA80 (by kernel_rfl) (by kernel_rfl) (fun i v u w h => by cases h) ?_ ?_
 ·skip
  refine ed_ (.inl ⟨nofun, rfl, fun x y hS hT hk => dfa (wn rfl) (hT.ev rfl) fo23_5 ⟨SM.refl _, rfl⟩⟩) ?_
  refine ed_ (.inl ⟨nofun, rfl, fun x y hS hT hk => dld (v := (.int .i64 i.loc)) (wn rfl) (hk 0 rfl) one3 ((Blk.sm (w := w69.drew) m75 hS (hM81A _)).cell rfl) ⟨SM.refl _, rfl⟩⟩) ?_
  refine ed_ (.inl ⟨nofun, rfl, fun x y hS hT hk => dmv (wn rfl) (hT.ev rfl) ⟨SM.refl _, rfl⟩⟩) ?_
  refine ed_ (.inl ⟨nofun, rfl, fun x y hS hT hk => dfa (wn rfl) (hT.ev rfl) fo23_8 ⟨SM.refl _, rfl⟩⟩) ?_
  refine ed_ (.inl ⟨nofun, rfl, fun x y hS hT hk => dld (v := (.int .i64 i.size)) (wn rfl) (hk 3 rfl) one3 ((Blk.sm (w := w69.drew) m75 hS (hM81A _)).cell rfl) ⟨SM.refl _, rfl⟩⟩) ?_
  refine ed_ (.inl ⟨nofun, rfl, fun x y hS hT hk => dcl (wn rfl) ent55 (map2 (show x.eval _ = (.int .i64 (placeR (B i.off) (B (orR r i.index 0)) i.size)) from (hk 2 rfl)) (show x.eval _ = (.int .i64 i.size) from (hk 4 rfl))) (mask_all (placeR (B i.off) (B (orR r i.index 0)) i.size) i.size y) (fun _ _ ⟨he, hw⟩ => ⟨(.int .i64 (maskR (placeR (B i.off) (B (orR r i.index 0)) i.size) i.size)), he, hw ▸ SM.refl _, rfl⟩)⟩) ?_
  refine ed_ (.inl ⟨nofun, rfl, fun x y hS hT hk => dbd (cs := #[.int .i64 i.loc, .int .i64 (maskR (placeR (B i.off) (B (orR r i.index 0)) i.size) i.size)]) (wn rfl) (bp_of (bq_cons (show x.eval _ = (.int .i64 i.loc) from (hk 1 rfl)) (bq_cons (show x.eval _ = (.int .i64 (maskR (placeR (B i.off) (B (orR r i.index 0)) i.size) i.size)) from (hk 5 rfl)) bq_nil))) zero50 places50 (by kernel_rfl) ⟨SM.refl _, rfl⟩⟩) ?_
  refine ed_ (.inl ⟨nofun, rfl, fun x y hS hT hk => dfa (wn rfl) (hT.ev rfl) fo52_4 ⟨SM.refl _, rfl⟩⟩) ?_
  exact eachD_one
 rintro a82 w83 hA84 ⟨hS86, hC87⟩
 have hA88 : St 81 [(0, (.pointer (some ⟨g, 0, none⟩))), (3, (.pointer (some ⟨g3, 0, none⟩))), (4, (.bool false)), (5, (.pointer (some ⟨g35, 0, none⟩))), (25, (.agg #[.int .i64 i.loc, .int .i64 (maskR (placeR (B i.off) (B (orR r i.index 0)) i.size) i.size)])), (26, (.pointer (some ⟨g35, 4, none⟩)))] a82 := hA84.cut _ (fc (hA84.get 0 _ rfl) (fc (hA84.get 3 _ rfl) (fc (hA84.get 4 _ rfl) (fc (hA84.get 5 _ rfl) (fc (hC87 6 (Nat.le_of_ble_eq_true rfl)) (fc (hC87 7 (Nat.le_of_ble_eq_true rfl)) fn_))))))
 have hG89 : Grow w69 w83 := Grow.trans ((Grow.refl _).drew) (SM.grown (by rw [hM81] at hS86; exact hS86))
 have m90 := m74.grow hG89
 have m91 := m75.grow hG89
 have m92 := m76.grow hG89
 have b93 := blg b77 hG89 (Nat.le_trans hB b77.size)
 have ho94 := owg hG89 ho78
 have ho95 := owg hG89 ho79
 refine d_store2 (wn rfl) (hA88.ev rfl) (hA88.ev rfl) row50 rfl rfl m92 (Nat.le_of_ble_eq_true rfl) ?_
 intro w96 hU97 (m98 : Blk w96 g35 #[.int .i64 0, .int .i64 ((path.length : Nat) : Int), .int .i64 p, .int .i64 4, .int .i64 i.loc, .int .i64 (maskR (placeR (B i.off) (B (orR r i.index 0)) i.size) i.size), .bool true, .bool false, .int .i64 0, .int .i64 0, .bool i.acq, .bool i.weak, .bool i.rel, .int .i64 i.pred, .int .i64 i.succ] 52)
 have m99 := m90.upd hU97 n41
 have m100 := m91.upd hU97 n42
 have b101 := hU97.below b93 ge40
 have ho102 := own_upd ho94 hU97 off43
 have ho103 := own_upd ho95 hU97 off44
 refine tn_ ?_
 refine wp_seq ?_
 refine wp_seq ?_
 refine wp_region_lit ?_
 refine qs hA88 rfl (dfa (wn rfl) (hA88.ev rfl) fo52_5 ?_)
 intro a104 hA105
 refine qs hA105 rfl (dld (v := (.bool true)) (wn rfl) (hA105.ev rfl) one4 (m98.cell rfl) ?_)
 intro a106 hA107
 refine qe_ ?_
 refine tn_ ?_
 refine c_true hA107 rfl ?_
 refine wp_seq ?_
 refine wp_seq ?_
 refine wp_region_lit ?_
 refine qs hA107 rfl (dmv (wn rfl) (hA107.ev rfl) ?_)
 intro a108 hA109
 refine qs hA109 rfl (dnc (wn rfl) (hA109.ev rfl) ?_)
 intro a110 hA111
 refine qs hA111 rfl (dfa (wn rfl) (hA111.ev rfl) fo62_2 ?_)
 intro a112 hA113
 refine qs hA113 rfl (dld (v := rd) (wn rfl) (hA113.ev rfl) one30 (m99.cell rfl) ?_)
 intro a114 hA115
 refine qs hA115 rfl (dle (n := rl.length + 1) (wn rfl) (hA115.ev rfl) slc30 hrd.form ?_)
 intro a116 hA117
 refine qs hA117 rfl (dbn (wn rfl) (hA117.ev rfl) (hA117.ev rfl) (b_eq _ _ ((rl.length + 1 : Nat) : Int) 0 false _ (beq_eq_false_iff_ne.2 (by omega))) ?_)
 intro a118 hA119
 refine qe_ ?_
 refine tn_ ?_
 refine c_false hA119 rfl ?_
 refine wp_skip ?_
 refine tn_ ?_
 refine wp_seq ?_
 obtain ⟨b120, o121, lt122, hr123, hix124⟩ := (hrd.below b101).at (show (u0 :: rl)[0]? = some u0 from rfl)
 have hA125 : St 81 [(0, (.pointer (some ⟨g, 0, none⟩))), (3, (.pointer (some ⟨g3, 0, none⟩))), (4, (.bool false)), (5, (.pointer (some ⟨g35, 0, none⟩)))] a118 := hA119.sub rfl
 let M126 : Nat → Option (Array Value) := fun _ => none
 have hM126 : M126 = fun _ => none := rfl
 clear_value M126
 have hM126A : ∀ k, M126 k = none := fun k => congrFun hM126 k
 have hM126B : ∀ k, k < Bd → M126 k = none := fun k _ => hM126A k
 refine drawnL (S := SM M126) rfl (tabL [cv (.pointer (some ⟨g, 0, none⟩)), cv (.pointer (some ⟨g, 0, none⟩)), cv (.pointer (some ⟨g, 9, none⟩)), cv rd, cv (.pointer (some ⟨b120, o121, none⟩)), cv (.int .i64 u0), cv (.pointer (some ⟨g3, 8, none⟩)), cv (.int .i64 i.size), cv (.int .i64 (I (getR (B u0) 0 i.size))), cv (.pointer (some ⟨g35, 8, none⟩))]) none (fun _ => none) (fun _ _ => True) [9, 8, 0, 1, 2, 3, 4, 5, 6, 7] [] mixedY SM.refl SM.trans hA125 (by kernel_rfl) (by kernel_rfl) (fun i v u w h => by cases h) ?_ ?_
 ·skip
  refine ed_ (.inl ⟨nofun, rfl, fun x y hS hT hk => dmv (wn rfl) (hT.ev rfl) ⟨SM.refl _, rfl⟩⟩) ?_
  refine ed_ (.inl ⟨nofun, rfl, fun x y hS hT hk => dnc (wn rfl) (hk 0 rfl) ⟨SM.refl _, rfl⟩⟩) ?_
  refine ed_ (.inl ⟨nofun, rfl, fun x y hS hT hk => dfa (wn rfl) (hk 1 rfl) fo62_2 ⟨SM.refl _, rfl⟩⟩) ?_
  refine ed_ (.inl ⟨nofun, rfl, fun x y hS hT hk => dld (v := rd) (wn rfl) (hk 2 rfl) one30 ((Blk.sm (w := w96.drew) m99 hS (hM126A _)).cell rfl) ⟨SM.refl _, rfl⟩⟩) ?_
  refine ed_ (.inl ⟨nofun, rfl, fun x y hS hT hk => dia (j := 0) (wn rfl) (hk 3 rfl) (hT.ev rfl) slc30 hix124 (get_lt (show (u0 :: rl)[0]? = some u0 from rfl)) ⟨SM.refl _, rfl⟩⟩) ?_
  refine ed_ (.inl ⟨nofun, rfl, fun x y hS hT hk => dld (v := (.int .i64 u0)) (wn rfl) (hk 4 rfl) one3 ((range_sm (w := w96.drew) hr123 hS (Nat.lt_of_lt_of_le lt122 (Nat.le_trans hB b101.size)) (hM126B _ lt122)) 0 _ rfl) ⟨SM.refl _, rfl⟩⟩) ?_
  refine ed_ (.inl ⟨nofun, rfl, fun x y hS hT hk => dfa (wn rfl) (hT.ev rfl) fo23_8 ⟨SM.refl _, rfl⟩⟩) ?_
  refine ed_ (.inl ⟨nofun, rfl, fun x y hS hT hk => dld (v := (.int .i64 i.size)) (wn rfl) (hk 6 rfl) one3 ((Blk.sm (w := w96.drew) m100 hS (hM126A _)).cell rfl) ⟨SM.refl _, rfl⟩⟩) ?_
  refine ed_ (.inl ⟨nofun, rfl, fun x y hS hT hk => dcl (wn rfl) ent58 (map3 (show x.eval _ = (.int .i64 u0) from (hk 5 rfl)) (show x.eval _ = (.int .i64 0) from (hT.ev rfl)) (show x.eval _ = (.int .i64 i.size) from (hk 7 rfl))) (get_w u0 0 i.size y hu0) (fun _ _ ⟨he, q, hw⟩ => ⟨(.int .i64 (I (getR (B u0) 0 i.size))), he, hw ▸ SM.grow ((Grow.refl _).drewN q), rfl⟩)⟩) ?_
  refine ed_ (.inl ⟨nofun, rfl, fun x y hS hT hk => dfa (wn rfl) (hT.ev rfl) fo52_7 ⟨SM.refl _, rfl⟩⟩) ?_
  exact eachD_one
 rintro a127 w128 hA129 ⟨hS131, hC132⟩
 have hA133 : St 81 [(0, (.pointer (some ⟨g, 0, none⟩))), (3, (.pointer (some ⟨g3, 0, none⟩))), (4, (.bool false)), (5, (.pointer (some ⟨g35, 0, none⟩))), (43, (.int .i64 (I (getR (B u0) 0 i.size)))), (44, (.pointer (some ⟨g35, 8, none⟩)))] a127 := hA129.cut _ (fc (hA129.get 0 _ rfl) (fc (hA129.get 3 _ rfl) (fc (hA129.get 4 _ rfl) (fc (hA129.get 5 _ rfl) (fc (hC132 8 (Nat.le_of_ble_eq_true rfl)) (fc (hC132 9 (Nat.le_of_ble_eq_true rfl)) fn_))))))
 have hG134 : Grow w96 w128 := Grow.trans ((Grow.refl _).drew) (SM.grown (by rw [hM126] at hS131; exact hS131))
 have m135 := m99.grow hG134
 have m136 := m100.grow hG134
 have m137 := m98.grow hG134
 have hr138 := range_below hr123 hG134 (Nat.lt_of_lt_of_le lt122 (Nat.le_trans hB b101.size))
 have b139 := blg b101 hG134 (Nat.le_trans hB b101.size)
 have ho140 := owg hG134 ho102
 have ho141 := owg hG134 ho103
 refine dst_ (wn rfl) (hA133.ev rfl) (hA133.ev rfl) one3 rfl m137 (Nat.le_of_ble_eq_true rfl) ?_
 intro w142 hU143 (m144 : Blk w142 g35 #[.int .i64 0, .int .i64 ((path.length : Nat) : Int), .int .i64 p, .int .i64 4, .int .i64 i.loc, .int .i64 (maskR (placeR (B i.off) (B (orR r i.index 0)) i.size) i.size), .bool true, .bool false, .int .i64 (I (getR (B u0) 0 i.size)), .int .i64 0, .bool i.acq, .bool i.weak, .bool i.rel, .int .i64 i.pred, .int .i64 i.succ] 52)
 have m145 := m135.upd hU143 n41
 have m146 := m136.upd hU143 n42
 have hr147 := range_upd hr138 hU143 (Nat.ne_of_lt (Nat.lt_of_lt_of_le lt122 ge40))
 have b148 := hU143.below b139 ge40
 have ho149 := own_upd ho140 hU143 off43
 have ho150 := own_upd ho141 hU143 off44
 refine tn_ ?_
 refine wp_region_lit ?_
 refine qs hA133 rfl (dmv (wn rfl) (hA133.ev rfl) ?_)
 intro a151 hA152
 refine qs hA152 rfl (dmv (wn rfl) (hA152.ev rfl) ?_)
 intro a153 hA154
 refine qs hA154 rfl (dnc (wn rfl) (hA154.ev rfl) ?_)
 intro a155 hA156
 refine qs hA156 rfl (dfa (wn rfl) (hA156.ev rfl) fo62_2 ?_)
 intro a157 hA158
 refine qs hA158 rfl (dld (v := rd) (wn rfl) (hA158.ev rfl) one30 (m145.cell rfl) ?_)
 intro a159 hA160
 refine qs hA160 rfl (d_tail (wn rfl) (hA160.ev rfl) slc30 (hrd.below b148) ?_)
 intro v161 ht162
 have hsl163 := ht162 _ hrd
 intro a164 hA165
 refine qs hA165 rfl (dnc (wn rfl) (hA165.ev rfl) ?_)
 intro a166 hA167
 refine qs hA167 rfl (dfa (wn rfl) (hA167.ev rfl) fo62_2 ?_)
 intro a168 hA169
 refine qs hA169 rfl (dst_ (v := v161) (wn rfl) (hA169.ev rfl) (hA169.ev rfl) one30 (one_slice hsl163.form) m145 (Nat.le_of_ble_eq_true rfl) ?_)
 intro w170 hU171 (m172 : Blk w170 g (walkC p r v161 ev pa) 62)
 have m173 := m146.upd hU171 (Ne.symm n9)
 have m174 := m144.upd hU171 (Ne.symm n41)
 have b175 := hU171.below b148 hge
 have ho176 := own_upd ho149 hU171 oe
 have ho177 := own_upd ho150 hU171 op_
 intro a178 hA179
 refine qe_ ?_
 refine tn_ ?_
 refine wp_seq ?_
 refine wp_seq ?_
 refine wp_region_lit ?_
 refine qs hA179 rfl (dfa (wn rfl) (hA179.ev rfl) fo52_6 ?_)
 intro a180 hA181
 refine qs hA181 rfl (dld (v := (.bool false)) (wn rfl) (hA181.ev rfl) one4 (m174.cell rfl) ?_)
 intro a182 hA183
 refine qe_ ?_
 refine tn_ ?_
 refine c_false hA183 rfl ?_
 refine wp_skip ?_
 refine tn_ ?_
 refine wp_seq ?_
 refine wp_seq ?_
 refine wp_region_lit ?_
 refine qs hA183 rfl (dfa (wn rfl) (hA183.ev rfl) fo52_5 ?_)
 intro a184 hA185
 refine qs hA185 rfl (dld (v := (.bool true)) (wn rfl) (hA185.ev rfl) one4 (m174.cell rfl) ?_)
 intro a186 hA187
 refine qe_ ?_
 refine tn_ ?_
 refine c_true hA187 rfl ?_
 have hA188 : St 81 [(0, (.pointer (some ⟨g, 0, none⟩))), (3, (.pointer (some ⟨g3, 0, none⟩))), (4, (.bool false)), (5, (.pointer (some ⟨g35, 0, none⟩)))] a186 := hA187.sub rfl
 let M189 : Nat → Option (Array Value) := fun _ => none
 have hM189 : M189 = fun _ => none := rfl
 clear_value M189
 have hM189A : ∀ k, M189 k = none := fun k => congrFun hM189 k
 have hM189B : ∀ k, k < Bd → M189 k = none := fun k _ => hM189A k
 refine drawnL (S := SM M189) rfl (tabL [cv (.pointer (some ⟨g, 0, none⟩)), cv (.pointer (some ⟨g3, 1, none⟩)), cv (.int .i64 ((d : Nat) : Int)), cv (.pointer (some ⟨g35, 8, none⟩)), cv (.int .i64 (I (getR (B u0) 0 i.size))), cv (.pointer (some ⟨g, 0, none⟩)), cv (.pointer (some ⟨g, 1, none⟩)), cv (.pointer (some ⟨g, 1 + d, none⟩))]) none (fun _ => none) (fun _ _ => True) [7, 4, 0, 1, 2, 3, 6, 5] [] mixedY SM.refl SM.trans hA188 (by kernel_rfl) (by kernel_rfl) (fun i v u w h => by cases h) ?_ ?_
 ·skip
  refine ed_ (.inl ⟨nofun, rfl, fun x y hS hT hk => dmv (wn rfl) (hT.ev rfl) ⟨SM.refl _, rfl⟩⟩) ?_
  refine ed_ (.inl ⟨nofun, rfl, fun x y hS hT hk => dfa (wn rfl) (hT.ev rfl) fo23_1 ⟨SM.refl _, rfl⟩⟩) ?_
  refine ed_ (.inl ⟨nofun, rfl, fun x y hS hT hk => dld (v := (.int .i64 ((d : Nat) : Int))) (wn rfl) (hk 1 rfl) one3 ((Blk.sm (w := w170.drew) m173 hS (hM189A _)).cell rfl) ⟨SM.refl _, rfl⟩⟩) ?_
  refine ed_ (.inl ⟨nofun, rfl, fun x y hS hT hk => dfa (wn rfl) (hT.ev rfl) fo52_7 ⟨SM.refl _, rfl⟩⟩) ?_
  refine ed_ (.inl ⟨nofun, rfl, fun x y hS hT hk => dld (v := (.int .i64 (I (getR (B u0) 0 i.size)))) (wn rfl) (hk 3 rfl) one3 ((Blk.sm (w := w170.drew) m174 hS (hM189A _)).cell rfl) ⟨SM.refl _, rfl⟩⟩) ?_
  refine ed_ (.inl ⟨nofun, rfl, fun x y hS hT hk => dnc (wn rfl) (hk 0 rfl) ⟨SM.refl _, rfl⟩⟩) ?_
  refine ed_ (.inl ⟨nofun, rfl, fun x y hS hT hk => dfa (wn rfl) (hk 5 rfl) fo62_1 ⟨SM.refl _, rfl⟩⟩) ?_
  refine ed_ (.inl ⟨nofun, rfl, fun x y hS hT hk => dix (j := d) (p := 1 + d) (wn rfl) (hk 6 rfl) (hk 2 rfl) arr43 (by omega) (by omega) ⟨SM.refl _, rfl⟩⟩) ?_
  exact eachD_one
 rintro a190 w191 hA192 ⟨hS194, hC195⟩
 have hA196 : St 81 [(0, (.pointer (some ⟨g, 0, none⟩))), (4, (.bool false)), (5, (.pointer (some ⟨g35, 0, none⟩))), (67, (.int .i64 (I (getR (B u0) 0 i.size)))), (70, (.pointer (some ⟨g, 1 + d, none⟩)))] a190 := hA192.cut _ (fc (hA192.get 0 _ rfl) (fc (hA192.get 4 _ rfl) (fc (hA192.get 5 _ rfl) (fc (hC195 4 (Nat.le_of_ble_eq_true rfl)) (fc (hC195 7 (Nat.le_of_ble_eq_true rfl)) fn_)))))
 have hG197 : Grow w170 w191 := Grow.trans ((Grow.refl _).drew) (SM.grown (by rw [hM189] at hS194; exact hS194))
 have m198 := m172.grow hG197
 have m199 := m173.grow hG197
 have m200 := m174.grow hG197
 have b201 := blg b175 hG197 (Nat.le_trans hB b175.size)
 have ho202 := owg hG197 ho176
 have ho203 := owg hG197 ho177
 refine dst_ (v := (.int .i64 (I (getR (B u0) 0 i.size)))) (wn rfl) (hA196.ev rfl) (hA196.ev rfl) one3 rfl m198 (by rw [walk_size]; omega) ?_
 intro w204 hU205 m206
 rw [walk_set (by omega)] at m206
 have m207 := m199.upd hU205 (Ne.symm n9)
 have m208 := m200.upd hU205 (Ne.symm n41)
 have b209 := hU205.below b201 hge
 have ho210 := own_upd ho202 hU205 oe
 have ho211 := own_upd ho203 hU205 op_
 refine tn_ ?_
 refine wp_seq ?_
 have hA212 : St 81 [(0, (.pointer (some ⟨g, 0, none⟩))), (4, (.bool false)), (5, (.pointer (some ⟨g35, 0, none⟩)))] a190 := hA196.sub rfl
 let M213 : Nat → Option (Array Value) := fun _ => none
 have hM213 : M213 = fun _ => none := rfl
 clear_value M213
 have hM213A : ∀ k, M213 k = none := fun k => congrFun hM213 k
 have hM213B : ∀ k, k < Bd → M213 k = none := fun k _ => hM213A k
 refine drawnL (S := SM M213) rfl (tabQ [some (.pointer (some ⟨g, 0, none⟩)), some (.pointer (some ⟨g, 0, none⟩)), some (.pointer (some ⟨g, 0, none⟩)), some (.pointer (some ⟨g, 10, none⟩)), none, none, none, none, some (.pointer (some ⟨g, 0, none⟩)), some (.pointer (some ⟨g, 10, none⟩))] [cv (.pointer (some ⟨g, 0, none⟩)), cv (.pointer (some ⟨g, 0, none⟩)), cv (.pointer (some ⟨g, 0, none⟩)), cv (.pointer (some ⟨g, 10, none⟩)), cv ev, cv (.agg #[.int .i64 0, .int .i64 ((path.length : Nat) : Int), .int .i64 p, .int .i64 4, .int .i64 i.loc, .int .i64 (maskR (placeR (B i.off) (B (orR r i.index 0)) i.size) i.size), .bool true, .bool false, .int .i64 (I (getR (B u0) 0 i.size)), .int .i64 0, .bool i.acq, .bool i.weak, .bool i.rel, .int .i64 i.pred, .int .i64 i.succ]), cs1 M213 hM213A #[.int .i64 0, .int .i64 ((path.length : Nat) : Int), .int .i64 p, .int .i64 4, .int .i64 i.loc, .int .i64 (maskR (placeR (B i.off) (B (orR r i.index 0)) i.size) i.size), .bool true, .bool false, .int .i64 (I (getR (B u0) 0 i.size)), .int .i64 0, .bool i.acq, .bool i.weak, .bool i.rel, .int .i64 i.pred, .int .i64 i.succ] 52, cfree, cv (.pointer (some ⟨g, 0, none⟩)), cv (.pointer (some ⟨g, 10, none⟩))]) (some 7) (fun i => (([some (.pointer (some ⟨g, 0, none⟩)), some (.pointer (some ⟨g, 0, none⟩)), some (.pointer (some ⟨g, 0, none⟩)), some (.pointer (some ⟨g, 10, none⟩)), none, none, none, none, some (.pointer (some ⟨g, 0, none⟩)), some (.pointer (some ⟨g, 10, none⟩))] : List (Option Value))[i]?).getD none) (fun v' w' => w'.ownsRow Bd 52 15 v' (evs.length + 1) ((evE evs) ++ (#[.int .i64 0, .int .i64 ((path.length : Nat) : Int), .int .i64 p, .int .i64 4, .int .i64 i.loc, .int .i64 (maskR (placeR (B i.off) (B (orR r i.index 0)) i.size) i.size), .bool true, .bool false, .int .i64 (I (getR (B u0) 0 i.size)), .int .i64 0, .bool i.acq, .bool i.weak, .bool i.rel, .int .i64 i.pred, .int .i64 i.succ] : Array Value).toList) ∧ Below Bd w w' ∧ Blk w' g (walkC p (updR r d (I (getR (B u0) 0 i.size))) v161 ev pa) 62 ∧ Blk w' g3 (insC ⟨4, ((d : Nat) : Int), i.a, i.b, i.imm, i.loc, i.off, i.index, i.size, i.fn, i.acq, i.weak, i.rel, i.pred, i.succ, i.to, i.zero⟩) 23 ∧ Blk w' g35 #[.int .i64 0, .int .i64 ((path.length : Nat) : Int), .int .i64 p, .int .i64 4, .int .i64 i.loc, .int .i64 (maskR (placeR (B i.off) (B (orR r i.index 0)) i.size) i.size), .bool true, .bool false, .int .i64 (I (getR (B u0) 0 i.size)), .int .i64 0, .bool i.acq, .bool i.weak, .bool i.rel, .int .i64 i.pred, .int .i64 i.succ] 52 ∧ w'.ownsRow Bd 3 1 pa path.length (paE path) ∧ v'.ownBlock ≠ some g ∧ v'.ownBlock ≠ some g3 ∧ v'.ownBlock ≠ some g35 ∧ ∀ k, pa.ownBlock = some k → v'.ownBlock ≠ some k) [9, 7, 0, 1, 2, 3, 4, 5, 6, 8] [4, 6, 3, 5, 2, 1] mixedY SM.refl SM.trans hA212 (by kernel_rfl) (by kernel_rfl) (tabQ_cv _ _) ?_ ?_
 ·skip
  refine ed_ (.inr (.inl ⟨by decide, _, rfl, fun x y hT hk hk0 => dmv (wn rfl) (hT.ev rfl) ⟨rfl, rfl⟩⟩)) ?_
  refine ed_ (.inr (.inl ⟨by decide, _, rfl, fun x y hT hk hk0 => dmv (wn rfl) (hT.ev rfl) ⟨rfl, rfl⟩⟩)) ?_
  refine ed_ (.inr (.inl ⟨by decide, _, rfl, fun x y hT hk hk0 => dnc (wn rfl) (hk 1 _ rfl rfl) ⟨rfl, rfl⟩⟩)) ?_
  refine ed_ (.inr (.inl ⟨by decide, _, rfl, fun x y hT hk hk0 => dfa (wn rfl) (hk 2 _ rfl rfl) fo62_3 ⟨rfl, rfl⟩⟩)) ?_
  refine ed_ (.inl ⟨by decide, rfl, fun x y hS hT hk => dld (v := ev) (wn rfl) (hk 3 rfl) one44 ((Blk.sm (w := w204.drew) m206 hS (hM213A _)).cell rfl) ⟨SM.refl _, rfl⟩⟩) ?_
  refine ed_ (.inl ⟨by decide, rfl, fun x y hS hT hk => dlr (cs := #[.int .i64 0, .int .i64 ((path.length : Nat) : Int), .int .i64 p, .int .i64 4, .int .i64 i.loc, .int .i64 (maskR (placeR (B i.off) (B (orR r i.index 0)) i.size) i.size), .bool true, .bool false, .int .i64 (I (getR (B u0) 0 i.size)), .int .i64 0, .bool i.acq, .bool i.weak, .bool i.rel, .int .i64 i.pred, .int .i64 i.succ]) (wn rfl) (hT.ev rfl) row52 (Blk.sm (w := w204.drew) m208 hS (hM213A _)) ⟨SM.refl _, rfl⟩⟩) ?_
  refine ed_ (.inl ⟨by decide, rfl, fun x y hS hT hk => d_slice1 (wn rfl) (show x.eval _ = (.agg #[.int .i64 0, .int .i64 ((path.length : Nat) : Int), .int .i64 p, .int .i64 4, .int .i64 i.loc, .int .i64 (maskR (placeR (B i.off) (B (orR r i.index 0)) i.size) i.size), .bool true, .bool false, .int .i64 (I (getR (B u0) 0 i.size)), .int .i64 0, .bool i.acq, .bool i.weak, .bool i.rel, .int .i64 i.pred, .int .i64 i.succ]) from (hk 5 rfl)) elm44 rfl (by decide) (fun g w' _ hG hb => ⟨SM.grow hG, g, rfl, hb⟩)⟩) ?_
  refine ed_ (.inr (.inr ⟨rfl, fun x y hS hT hk => ?_⟩)) ?_
  ·skip
   obtain ⟨gb, hvb, hbb⟩ := hk 6 rfl
   have hG : Grow w204 y := Grow.trans ((Grow.refl _).drew) (SM.grown (by rw [hM213] at hS; exact hS))
   have hR := owg hG ho210
   have hO := owg hG ho211
   have hBl := blg b209 hG (Nat.le_trans hB b209.size)
   refine d_append (wn rfl) (show x.eval _ = ev from (hk 4 rfl)) hvb elm44 hR hbb rfl rfl (by omega) (by decide) (Nat.le_trans hB hBl.size) ?_
   intro v' w' h1 h2 h3
   exact ⟨h1, below_by hBl h2 (Nat.le_trans hB hBl.size) (fun k hk => (own_lt hR k hk).1), (m206.grow hG).by h2 oe, (m207.grow hG).by h2 off10, (m208.grow hG).by h2 off43, own_by hO h2 ap, lies_ne h3 oe (m206.grow hG).lt, lies_ne h3 off10 (m207.grow hG).lt, lies_ne h3 off43 (m208.grow hG).lt, lies_ap h3 ap hO⟩
  refine ed_ (.inr (.inl ⟨by decide, _, rfl, fun x y hT hk hk0 => dnc (wn rfl) (hk 0 _ rfl rfl) ⟨rfl, rfl⟩⟩)) ?_
  refine ed_ (.inr (.inl ⟨by decide, _, rfl, fun x y hT hk hk0 => dfa (wn rfl) (hk 8 _ rfl rfl) fo62_3 ⟨rfl, rfl⟩⟩)) ?_
  exact eachD_one
 rintro a214 w215 hA216 ⟨hP218, hW219⟩
 obtain ⟨v220, hv221⟩ : ∃ v', v' = (a214.tmps.getD 78 undef) := ⟨_, rfl⟩
 have hW222 : (fun v' w' => w'.ownsRow Bd 52 15 v' (evs.length + 1) ((evE evs) ++ (#[.int .i64 0, .int .i64 ((path.length : Nat) : Int), .int .i64 p, .int .i64 4, .int .i64 i.loc, .int .i64 (maskR (placeR (B i.off) (B (orR r i.index 0)) i.size) i.size), .bool true, .bool false, .int .i64 (I (getR (B u0) 0 i.size)), .int .i64 0, .bool i.acq, .bool i.weak, .bool i.rel, .int .i64 i.pred, .int .i64 i.succ] : Array Value).toList) ∧ Below Bd w w' ∧ Blk w' g (walkC p (updR r d (I (getR (B u0) 0 i.size))) v161 ev pa) 62 ∧ Blk w' g3 (insC ⟨4, ((d : Nat) : Int), i.a, i.b, i.imm, i.loc, i.off, i.index, i.size, i.fn, i.acq, i.weak, i.rel, i.pred, i.succ, i.to, i.zero⟩) 23 ∧ Blk w' g35 #[.int .i64 0, .int .i64 ((path.length : Nat) : Int), .int .i64 p, .int .i64 4, .int .i64 i.loc, .int .i64 (maskR (placeR (B i.off) (B (orR r i.index 0)) i.size) i.size), .bool true, .bool false, .int .i64 (I (getR (B u0) 0 i.size)), .int .i64 0, .bool i.acq, .bool i.weak, .bool i.rel, .int .i64 i.pred, .int .i64 i.succ] 52 ∧ w'.ownsRow Bd 3 1 pa path.length (paE path) ∧ v'.ownBlock ≠ some g ∧ v'.ownBlock ≠ some g3 ∧ v'.ownBlock ≠ some g35 ∧ ∀ k, pa.ownBlock = some k → v'.ownBlock ≠ some k) v220 w215 := by rw [hv221]; exact hW219
 obtain ⟨ho223, b224, m225, m226, m227, ho228, off229, off230, off231, ap232⟩ := hW222
 have ap233 : ∀ k, v220.ownBlock = some k → pa.ownBlock ≠ some k := fun k h1 h2 => ap232 k h2 h1
 have hA234 : St 81 [(4, (.bool false)), (78, v220), (80, (.pointer (some ⟨g, 10, none⟩)))] a214 := hA216.cut _ (fc (hA216.get 4 _ rfl) (fc hv221.symm (fc (hP218 9 _ (Nat.le_of_ble_eq_true rfl) (by decide) rfl) fn_)))
 refine dst_ (v := v220) (wn rfl) (hA234.ev rfl) (hA234.ev rfl) one44 (one_slice (own_form ho223)) m225 (Nat.le_of_ble_eq_true rfl) ?_
 intro w235 hU236 (m237 : Blk w235 g (walkC p (updR r d (I (getR (B u0) 0 i.size))) v161 v220 pa) 62)
 have m238 := m226.upd hU236 (Ne.symm n9)
 have m239 := m227.upd hU236 (Ne.symm n41)
 have b240 := hU236.below b224 hge
 have ho241 := own_upd ho223 hU236 off229
 have ho242 := own_upd ho228 hU236 op_
 refine tn_ ?_
 refine wp_seq ?_
 refine wp_region_lit ?_
 refine qs hA234 rfl (das (wn rfl) (hA234.ev rfl) ?_)
 intro a243 hA244
 refine qe_ ?_
 refine tn_ ?_
 refine wp_ret ?_
 refine ret1 rfl hA244 (v := (.bool true)) rfl ?_
 exact ⟨rfl, b240, v161, v220, pa, m237, hge, (hsl163.below b240), (by rw [List.length_append, ← evE_snoc]; exact ho241), ho242, off229, op_, ap232⟩
set_option maxHeartbeats 4000000 in
set_option maxRecDepth 4000 in
theorem access_4n (Bd g : Nat) (p : Int) (r : Nat → Int) (rd ev pa : Value) (i : Ins) (d : Nat) (evs : List Ev) (path : List Int) (w : World) (hB : Bd ≤ w.heap.size) (hW : WS Bd g w p r ([] : List Int) evs path rd ev pa) (hne : evs.length ≤ 1000) (hnp : path.length ≤ 1000) (hr : ∀ k, wfI (r k)) (hix : ronB i.index = true) (hoff : wfI i.off) (hd : d < 8) : Calls Try.prog 48 #[.pointer (some ⟨g, 0, none⟩), .agg (insC ⟨4, ((d : Nat) : Int), i.a, i.b, i.imm, i.loc, i.off, i.index, i.size, i.fn, i.acq, i.weak, i.rel, i.pred, i.succ, i.to, i.zero⟩)] w fun e w' => e = .returned (.bool false) ∧ Below Bd w w' := by
 obtain ⟨hb, hge, hrd, hev, hpa, oe, op_, ap⟩ := hW
 have ap2 : ∀ k, ev.ownBlock = some k → pa.ownBlock ≠ some k := fun k h1 h2 => ap k h2 h1
 have b0 : Below Bd w w := Below.refl _ _
 refine enter (n := 81) Try.func48 rfl rfl (Nat.le_of_ble_eq_true rfl) ?_
 intro a1 hA2
 refine wp_seq ?_
 refine wp_region_lit ?_
 refine qs hA2 rfl (d_box (wn rfl) (hA2.ev rfl) ?_)
 intro g3 w4 eg5 hG6 (m7 : Blk w4 g3 (insC ⟨4, ((d : Nat) : Int), i.a, i.b, i.imm, i.loc, i.off, i.index, i.size, i.fn, i.acq, i.weak, i.rel, i.pred, i.succ, i.to, i.zero⟩) 23)
 have ge8 : Bd ≤ g3 := eg5 ▸ (Nat.le_trans hB b0.size)
 have n9 : g ≠ g3 := fun h => Nat.lt_irrefl _ ((h.trans eg5) ▸ hb.lt)
 have off10 := own_new hev eg5
 have off11 := own_new hpa eg5
 have m12 := hb.grow hG6
 have b13 := blg b0 hG6 (Nat.le_trans hB b0.size)
 have ho14 := owg hG6 hev
 have ho15 := owg hG6 hpa
 intro a16 hA17
 refine qs hA17 rfl (das (wn rfl) (hA17.ev rfl) ?_)
 intro a18 hA19
 refine qe_ ?_
 refine tn_ ?_
 refine wp_seq ?_
 refine wp_region_lit ?_
 refine qs hA19 rfl (dmv (wn rfl) (hA19.ev rfl) ?_)
 intro a20 hA21
 refine qs hA21 rfl (dlr (cs := (insC ⟨4, ((d : Nat) : Int), i.a, i.b, i.imm, i.loc, i.off, i.index, i.size, i.fn, i.acq, i.weak, i.rel, i.pred, i.succ, i.to, i.zero⟩)) (wn rfl) (hA21.ev rfl) row23 m7 ?_)
 intro a22 hA23
 refine qs hA23 rfl (dcl (wn rfl) ent49 (map2 (hA23.ev rfl) (hA23.ev rfl)) (event_any g p r rd ev pa (⟨4, ((d : Nat) : Int), i.a, i.b, i.imm, i.loc, i.off, i.index, i.size, i.fn, i.acq, i.weak, i.rel, i.pred, i.succ, i.to, i.zero⟩) path.length Bd (paE path) w4 m12 ho15) ?_)
 rintro e27 w24 ⟨he26, hG25⟩
 have m28 := m12.grow hG25
 have m29 := m7.grow hG25
 have b30 := blg b13 hG25 (Nat.le_trans hB b13.size)
 have ho31 := owg hG25 ho14
 have ho32 := owg hG25 ho15
 refine ⟨(.agg #[.int .i64 0, .int .i64 ((path.length : Nat) : Int), .int .i64 p, .int .i64 4, .int .i64 0, .int .i64 0, .bool true, .bool false, .int .i64 0, .int .i64 0, .bool i.acq, .bool i.weak, .bool i.rel, .int .i64 i.pred, .int .i64 i.succ]), he26, ?_⟩
 intro a33 hA34
 refine qs hA34 rfl (dal (wn rfl) zero52 ?_)
 intro g35 w36 eg37 hG38 (m39 : Blk w36 g35 #[.int .i64 0, .int .i64 0, .int .i64 0, .int .i64 0, .int .i64 0, .int .i64 0, .bool false, .bool false, .int .i64 0, .int .i64 0, .bool false, .bool false, .bool false, .int .i64 0, .int .i64 0] 52)
 have ge40 : Bd ≤ g35 := eg37 ▸ (Nat.le_trans hB b30.size)
 have n41 : g ≠ g35 := fun h => Nat.lt_irrefl _ ((h.trans eg37) ▸ m28.lt)
 have n42 : g3 ≠ g35 := fun h => Nat.lt_irrefl _ ((h.trans eg37) ▸ m29.lt)
 have off43 := own_new ho31 eg37
 have off44 := own_new ho32 eg37
 have m45 := m28.grow hG38
 have m46 := m29.grow hG38
 have b47 := blg b30 hG38 (Nat.le_trans hB b30.size)
 have ho48 := owg hG38 ho31
 have ho49 := owg hG38 ho32
 intro a50 hA51
 refine qs hA51 rfl (dsr (wn rfl) (hA51.ev rfl) (hA51.ev rfl) row52 m39 rfl rfl ?_)
 intro w52 hU53 (m54 : Blk w52 g35 #[.int .i64 0, .int .i64 ((path.length : Nat) : Int), .int .i64 p, .int .i64 4, .int .i64 0, .int .i64 0, .bool true, .bool false, .int .i64 0, .int .i64 0, .bool i.acq, .bool i.weak, .bool i.rel, .int .i64 i.pred, .int .i64 i.succ] 52)
 have m55 := m45.upd hU53 n41
 have m56 := m46.upd hU53 n42
 have b57 := hU53.below b47 ge40
 have ho58 := own_upd ho48 hU53 off43
 have ho59 := own_upd ho49 hU53 off44
 intro a60 hA61
 refine qe_ ?_
 refine tn_ ?_
 refine wp_seq ?_
 have hA62 : St 81 [(0, (.pointer (some ⟨g, 0, none⟩))), (3, (.pointer (some ⟨g3, 0, none⟩))), (4, (.bool false)), (5, (.pointer (some ⟨g35, 0, none⟩)))] a60 := hA61.sub rfl
 let M63 : Nat → Option (Array Value) := fun _ => none
 have hM63 : M63 = fun _ => none := rfl
 clear_value M63
 have hM64 : M63 g = none := (congrFun hM63 g)
 have hM65 : M63 g3 = none := (congrFun hM63 g3)
 have hM66 : M63 g35 = none := (congrFun hM63 g35)
 have hM63B : ∀ k, k < Bd → M63 k = none := (fun k hk => (congrFun hM63 k))
 refine drawn (S := SM M63) (tabL [cv (.pointer (some ⟨g3, 6, none⟩)), cv (.int .i64 i.off), cv (.pointer (some ⟨g, 0, none⟩)), cv (.pointer (some ⟨g3, 7, none⟩)), cv (.int .i64 i.index), cv (.int .i64 (orR r i.index 0)), cv (.pointer (some ⟨g3, 8, none⟩)), cv (.int .i64 i.size), cv (.int .i64 (placeR (B i.off) (B (orR r i.index 0)) i.size)), cv (.int .i64 (placeR (B i.off) (B (orR r i.index 0)) i.size))]) mixedY SM.refl SM.trans SM.drew hA62 (by kernel_rfl) ?_ ?_
 ·skip
  refine ec_ (fun x y hS hT hk => dfa (wn rfl) (hT.ev rfl) fo23_6 ⟨SM.refl _, rfl⟩) ?_
  refine ec_ (fun x y hS hT hk => dld (v := (.int .i64 i.off)) (wn rfl) (hk 0 rfl) one3 ((Blk.sm (w := w52.drew) m56 hS hM65).cell rfl) ⟨SM.refl _, rfl⟩) ?_
  refine ec_ (fun x y hS hT hk => dmv (wn rfl) (hT.ev rfl) ⟨SM.refl _, rfl⟩) ?_
  refine ec_ (fun x y hS hT hk => dfa (wn rfl) (hT.ev rfl) fo23_7 ⟨SM.refl _, rfl⟩) ?_
  refine ec_ (fun x y hS hT hk => dld (v := (.int .i64 i.index)) (wn rfl) (hk 3 rfl) one3 ((Blk.sm (w := w52.drew) m56 hS hM65).cell rfl) ⟨SM.refl _, rfl⟩) ?_
  refine ec_ (fun x y hS hT hk => dcl (wn rfl) ent47 (map3 (show x.eval _ = (.pointer (some ⟨g, 0, none⟩)) from (hk 2 rfl)) (show x.eval _ = (.int .i64 i.index) from (hk 4 rfl)) (show x.eval _ = (.int .i64 0) from (hT.ev rfl))) (regOr_any g p r rd ev pa i.index 0 y (Blk.sm (w := w52.drew) m55 hS hM64) hix) (fun _ _ ⟨he, hG⟩ => ⟨(.int .i64 (orR r i.index 0)), he, SM.grow hG, rfl⟩)) ?_
  refine ec_ (fun x y hS hT hk => dfa (wn rfl) (hT.ev rfl) fo23_8 ⟨SM.refl _, rfl⟩) ?_
  refine ec_ (fun x y hS hT hk => dld (v := (.int .i64 i.size)) (wn rfl) (hk 6 rfl) one3 ((Blk.sm (w := w52.drew) m56 hS hM65).cell rfl) ⟨SM.refl _, rfl⟩) ?_
  refine ec_ (fun x y hS hT hk => dcl (wn rfl) ent57 (map3 (show x.eval _ = (.int .i64 i.off) from (hk 1 rfl)) (show x.eval _ = (.int .i64 (orR r i.index 0)) from (hk 5 rfl)) (show x.eval _ = (.int .i64 i.size) from (hk 7 rfl))) (place_w i.off (orR r i.index 0) i.size y hoff (wf_or hr wf_0)) (fun _ _ ⟨he, hw⟩ => ⟨(.int .i64 (placeR (B i.off) (B (orR r i.index 0)) i.size)), he, hw ▸ SM.refl _, rfl⟩)) ?_
  refine ec_ (fun x y hS hT hk => das (wn rfl) (hk 8 rfl) ⟨SM.refl _, rfl⟩) ?_
  exact each_nil
 intro f67 a68 w69 hS70 hC71 hA72
 have hA73 : St 81 [(0, (.pointer (some ⟨g, 0, none⟩))), (3, (.pointer (some ⟨g3, 0, none⟩))), (4, (.bool false)), (5, (.pointer (some ⟨g35, 0, none⟩))), (6, (.int .i64 (placeR (B i.off) (B (orR r i.index 0)) i.size)))] a68 := hA72.cut _ (fc (hA72.get 0 _ rfl) (fc (hA72.get 3 _ rfl) (fc (hA72.get 4 _ rfl) (fc (hA72.get 5 _ rfl) (fc ((hA72.get 6 _ rfl).trans (hC71 9 (Nat.le_of_ble_eq_true rfl))) fn_)))))
 have m74 := m55.sm hS70 hM64
 have m75 := m56.sm hS70 hM65
 have m76 := m54.sm hS70 hM66
 have b77 := hS70.below b57 (Nat.le_trans hB b57.size) hM63B
 have ho78 := own_sm ho58 hS70 (fun k => congrFun hM63 k)
 have ho79 := own_sm ho59 hS70 (fun k => congrFun hM63 k)
 refine tn_ ?_
 refine wp_seq ?_
 have hA80 : St 81 [(0, (.pointer (some ⟨g, 0, none⟩))), (3, (.pointer (some ⟨g3, 0, none⟩))), (4, (.bool false)), (5, (.pointer (some ⟨g35, 0, none⟩))), (6, (.int .i64 (placeR (B i.off) (B (orR r i.index 0)) i.size)))] a68 := hA73.sub rfl
 let M81 : Nat → Option (Array Value) := fun _ => none
 have hM81 : M81 = fun _ => none := rfl
 clear_value M81
 have hM81A : ∀ k, M81 k = none := fun k => congrFun hM81 k
 have hM81B : ∀ k, k < Bd → M81 k = none := fun k _ => hM81A k
 refine drawnL (S := SM M81) rfl (tabL [cv (.pointer (some ⟨g3, 5, none⟩)), cv (.int .i64 i.loc), cv (.int .i64 (placeR (B i.off) (B (orR r i.index 0)) i.size)), cv (.pointer (some ⟨g3, 8, none⟩)), cv (.int .i64 i.size), cv (.int .i64 (maskR (placeR (B i.off) (B (orR r i.index 0)) i.size) i.size)), cv (.agg #[.int .i64 i.loc, .int .i64 (maskR (placeR (B i.off) (B (orR r i.index 0)) i.size) i.size)]), cv (.pointer (some ⟨g35, 4, none⟩))]) none (fun _ => none) (fun _ _ => True) [7, 6, 5, 0, 1, 2, 3, 4] [] mixedY SM.refl SM.trans hA80 (by kernel_rfl) (by kernel_rfl) (fun i v u w h => by cases h) ?_ ?_
 ·skip
  refine ed_ (.inl ⟨nofun, rfl, fun x y hS hT hk => dfa (wn rfl) (hT.ev rfl) fo23_5 ⟨SM.refl _, rfl⟩⟩) ?_
  refine ed_ (.inl ⟨nofun, rfl, fun x y hS hT hk => dld (v := (.int .i64 i.loc)) (wn rfl) (hk 0 rfl) one3 ((Blk.sm (w := w69.drew) m75 hS (hM81A _)).cell rfl) ⟨SM.refl _, rfl⟩⟩) ?_
  refine ed_ (.inl ⟨nofun, rfl, fun x y hS hT hk => dmv (wn rfl) (hT.ev rfl) ⟨SM.refl _, rfl⟩⟩) ?_
  refine ed_ (.inl ⟨nofun, rfl, fun x y hS hT hk => dfa (wn rfl) (hT.ev rfl) fo23_8 ⟨SM.refl _, rfl⟩⟩) ?_
  refine ed_ (.inl ⟨nofun, rfl, fun x y hS hT hk => dld (v := (.int .i64 i.size)) (wn rfl) (hk 3 rfl) one3 ((Blk.sm (w := w69.drew) m75 hS (hM81A _)).cell rfl) ⟨SM.refl _, rfl⟩⟩) ?_
  refine ed_ (.inl ⟨nofun, rfl, fun x y hS hT hk => dcl (wn rfl) ent55 (map2 (show x.eval _ = (.int .i64 (placeR (B i.off) (B (orR r i.index 0)) i.size)) from (hk 2 rfl)) (show x.eval _ = (.int .i64 i.size) from (hk 4 rfl))) (mask_all (placeR (B i.off) (B (orR r i.index 0)) i.size) i.size y) (fun _ _ ⟨he, hw⟩ => ⟨(.int .i64 (maskR (placeR (B i.off) (B (orR r i.index 0)) i.size) i.size)), he, hw ▸ SM.refl _, rfl⟩)⟩) ?_
  refine ed_ (.inl ⟨nofun, rfl, fun x y hS hT hk => dbd (cs := #[.int .i64 i.loc, .int .i64 (maskR (placeR (B i.off) (B (orR r i.index 0)) i.size) i.size)]) (wn rfl) (bp_of (bq_cons (show x.eval _ = (.int .i64 i.loc) from (hk 1 rfl)) (bq_cons (show x.eval _ = (.int .i64 (maskR (placeR (B i.off) (B (orR r i.index 0)) i.size) i.size)) from (hk 5 rfl)) bq_nil))) zero50 places50 (by kernel_rfl) ⟨SM.refl _, rfl⟩⟩) ?_
  refine ed_ (.inl ⟨nofun, rfl, fun x y hS hT hk => dfa (wn rfl) (hT.ev rfl) fo52_4 ⟨SM.refl _, rfl⟩⟩) ?_
  exact eachD_one
 rintro a82 w83 hA84 ⟨hS86, hC87⟩
 have hA88 : St 81 [(0, (.pointer (some ⟨g, 0, none⟩))), (3, (.pointer (some ⟨g3, 0, none⟩))), (4, (.bool false)), (5, (.pointer (some ⟨g35, 0, none⟩))), (25, (.agg #[.int .i64 i.loc, .int .i64 (maskR (placeR (B i.off) (B (orR r i.index 0)) i.size) i.size)])), (26, (.pointer (some ⟨g35, 4, none⟩)))] a82 := hA84.cut _ (fc (hA84.get 0 _ rfl) (fc (hA84.get 3 _ rfl) (fc (hA84.get 4 _ rfl) (fc (hA84.get 5 _ rfl) (fc (hC87 6 (Nat.le_of_ble_eq_true rfl)) (fc (hC87 7 (Nat.le_of_ble_eq_true rfl)) fn_))))))
 have hG89 : Grow w69 w83 := Grow.trans ((Grow.refl _).drew) (SM.grown (by rw [hM81] at hS86; exact hS86))
 have m90 := m74.grow hG89
 have m91 := m75.grow hG89
 have m92 := m76.grow hG89
 have b93 := blg b77 hG89 (Nat.le_trans hB b77.size)
 have ho94 := owg hG89 ho78
 have ho95 := owg hG89 ho79
 refine d_store2 (wn rfl) (hA88.ev rfl) (hA88.ev rfl) row50 rfl rfl m92 (Nat.le_of_ble_eq_true rfl) ?_
 intro w96 hU97 (m98 : Blk w96 g35 #[.int .i64 0, .int .i64 ((path.length : Nat) : Int), .int .i64 p, .int .i64 4, .int .i64 i.loc, .int .i64 (maskR (placeR (B i.off) (B (orR r i.index 0)) i.size) i.size), .bool true, .bool false, .int .i64 0, .int .i64 0, .bool i.acq, .bool i.weak, .bool i.rel, .int .i64 i.pred, .int .i64 i.succ] 52)
 have m99 := m90.upd hU97 n41
 have m100 := m91.upd hU97 n42
 have b101 := hU97.below b93 ge40
 have ho102 := own_upd ho94 hU97 off43
 have ho103 := own_upd ho95 hU97 off44
 refine tn_ ?_
 refine wp_seq ?_
 refine wp_seq ?_
 refine wp_region_lit ?_
 refine qs hA88 rfl (dfa (wn rfl) (hA88.ev rfl) fo52_5 ?_)
 intro a104 hA105
 refine qs hA105 rfl (dld (v := (.bool true)) (wn rfl) (hA105.ev rfl) one4 (m98.cell rfl) ?_)
 intro a106 hA107
 refine qe_ ?_
 refine tn_ ?_
 refine c_true hA107 rfl ?_
 refine wp_seq ?_
 refine wp_seq ?_
 refine wp_region_lit ?_
 refine qs hA107 rfl (dmv (wn rfl) (hA107.ev rfl) ?_)
 intro a108 hA109
 refine qs hA109 rfl (dnc (wn rfl) (hA109.ev rfl) ?_)
 intro a110 hA111
 refine qs hA111 rfl (dfa (wn rfl) (hA111.ev rfl) fo62_2 ?_)
 intro a112 hA113
 refine qs hA113 rfl (dld (v := rd) (wn rfl) (hA113.ev rfl) one30 (m99.cell rfl) ?_)
 intro a114 hA115
 refine qs hA115 rfl (dle (n := 0) (wn rfl) (hA115.ev rfl) slc30 hrd.form ?_)
 intro a116 hA117
 refine qs hA117 rfl (dbn (wn rfl) (hA117.ev rfl) (hA117.ev rfl) (b_eq _ _ 0 0 true _ rfl) ?_)
 intro a118 hA119
 refine qe_ ?_
 refine tn_ ?_
 refine c_true hA119 rfl ?_
 refine wp_seq ?_
 refine wp_region_lit ?_
 refine qs hA119 rfl (das (wn rfl) (hA119.ev rfl) ?_)
 intro a120 hA121
 refine qe_ ?_
 refine tn_ ?_
 refine wp_ret ?_
 refine t_ret ?_
 refine t_ret ?_
 refine ret1 rfl hA121 (v := (.bool false)) rfl ?_
 exact ⟨rfl, b101⟩
end Go.Proofs.Ytlhompedcphnnaa
/- A read-modify-write of the walk. -/
namespace Go.Proofs.Ytlhompedcphnnaa
open Go.RowKit
set_option linter.unusedSimpArgs false
set_option linter.unusedVariables false
set_option maxHeartbeats 4000000 in
set_option maxRecDepth 4000 in
theorem access_6 (Bd g : Nat) (p : Int) (r : Nat → Int) (rd ev pa : Value) (i : Ins) (d k : Nat) (u0 : Int) (rl : List Int) (evs : List Ev) (path : List Int) (w : World) (hB : Bd ≤ w.heap.size) (hW : WS Bd g w p r (u0 :: rl) evs path rd ev pa) (hne : evs.length ≤ 1000) (hnp : path.length ≤ 1000) (hr : ∀ k, wfI (r k)) (hix : ronB i.index = true) (hoff : wfI i.off) (hd : d < 8) (hk : k < 8) (hu0 : wfI u0) : Calls Try.prog 48 #[.pointer (some ⟨g, 0, none⟩), .agg (insC ⟨6, ((d : Nat) : Int), ((k : Nat) : Int), i.b, i.imm, i.loc, i.off, i.index, i.size, i.fn, i.acq, i.weak, i.rel, i.pred, i.succ, i.to, i.zero⟩)] w fun e w' => e = .returned (.bool true) ∧ Below Bd w w' ∧ ∃ rd' ev' pa', WS Bd g w' p (updR r d (I (getR (B u0) 0 i.size))) rl (evs ++ [acc6 i r k path.length p u0]) path rd' ev' pa' := by
 obtain ⟨hb, hge, hrd, hev, hpa, oe, op_, ap⟩ := hW
 have ap2 : ∀ k, ev.ownBlock = some k → pa.ownBlock ≠ some k := fun k h1 h2 => ap k h2 h1
 have b0 : Below Bd w w := Below.refl _ _
 refine enter (n := 81) Try.func48 rfl rfl (Nat.le_of_ble_eq_true rfl) ?_
 intro a1 hA2
 refine wp_seq ?_
 refine wp_region_lit ?_
 refine qs hA2 rfl (d_box (wn rfl) (hA2.ev rfl) ?_)
 intro g3 w4 eg5 hG6 (m7 : Blk w4 g3 (insC ⟨6, ((d : Nat) : Int), ((k : Nat) : Int), i.b, i.imm, i.loc, i.off, i.index, i.size, i.fn, i.acq, i.weak, i.rel, i.pred, i.succ, i.to, i.zero⟩) 23)
 have ge8 : Bd ≤ g3 := eg5 ▸ (Nat.le_trans hB b0.size)
 have n9 : g ≠ g3 := fun h => Nat.lt_irrefl _ ((h.trans eg5) ▸ hb.lt)
 have off10 := own_new hev eg5
 have off11 := own_new hpa eg5
 have m12 := hb.grow hG6
 have b13 := blg b0 hG6 (Nat.le_trans hB b0.size)
 have ho14 := owg hG6 hev
 have ho15 := owg hG6 hpa
 intro a16 hA17
 refine qs hA17 rfl (das (wn rfl) (hA17.ev rfl) ?_)
 intro a18 hA19
 refine qe_ ?_
 refine tn_ ?_
 refine wp_seq ?_
 refine wp_region_lit ?_
 refine qs hA19 rfl (dmv (wn rfl) (hA19.ev rfl) ?_)
 intro a20 hA21
 refine qs hA21 rfl (dlr (cs := (insC ⟨6, ((d : Nat) : Int), ((k : Nat) : Int), i.b, i.imm, i.loc, i.off, i.index, i.size, i.fn, i.acq, i.weak, i.rel, i.pred, i.succ, i.to, i.zero⟩)) (wn rfl) (hA21.ev rfl) row23 m7 ?_)
 intro a22 hA23
 refine qs hA23 rfl (dcl (wn rfl) ent49 (map2 (hA23.ev rfl) (hA23.ev rfl)) (event_any g p r rd ev pa (⟨6, ((d : Nat) : Int), ((k : Nat) : Int), i.b, i.imm, i.loc, i.off, i.index, i.size, i.fn, i.acq, i.weak, i.rel, i.pred, i.succ, i.to, i.zero⟩) path.length Bd (paE path) w4 m12 ho15) ?_)
 rintro e27 w24 ⟨he26, hG25⟩
 have m28 := m12.grow hG25
 have m29 := m7.grow hG25
 have b30 := blg b13 hG25 (Nat.le_trans hB b13.size)
 have ho31 := owg hG25 ho14
 have ho32 := owg hG25 ho15
 refine ⟨(.agg #[.int .i64 0, .int .i64 ((path.length : Nat) : Int), .int .i64 p, .int .i64 6, .int .i64 0, .int .i64 0, .bool true, .bool true, .int .i64 0, .int .i64 0, .bool i.acq, .bool i.weak, .bool i.rel, .int .i64 i.pred, .int .i64 i.succ]), he26, ?_⟩
 intro a33 hA34
 refine qs hA34 rfl (dal (wn rfl) zero52 ?_)
 intro g35 w36 eg37 hG38 (m39 : Blk w36 g35 #[.int .i64 0, .int .i64 0, .int .i64 0, .int .i64 0, .int .i64 0, .int .i64 0, .bool false, .bool false, .int .i64 0, .int .i64 0, .bool false, .bool false, .bool false, .int .i64 0, .int .i64 0] 52)
 have ge40 : Bd ≤ g35 := eg37 ▸ (Nat.le_trans hB b30.size)
 have n41 : g ≠ g35 := fun h => Nat.lt_irrefl _ ((h.trans eg37) ▸ m28.lt)
 have n42 : g3 ≠ g35 := fun h => Nat.lt_irrefl _ ((h.trans eg37) ▸ m29.lt)
 have off43 := own_new ho31 eg37
 have off44 := own_new ho32 eg37
 have m45 := m28.grow hG38
 have m46 := m29.grow hG38
 have b47 := blg b30 hG38 (Nat.le_trans hB b30.size)
 have ho48 := owg hG38 ho31
 have ho49 := owg hG38 ho32
 intro a50 hA51
 refine qs hA51 rfl (dsr (wn rfl) (hA51.ev rfl) (hA51.ev rfl) row52 m39 rfl rfl ?_)
 intro w52 hU53 (m54 : Blk w52 g35 #[.int .i64 0, .int .i64 ((path.length : Nat) : Int), .int .i64 p, .int .i64 6, .int .i64 0, .int .i64 0, .bool true, .bool true, .int .i64 0, .int .i64 0, .bool i.acq, .bool i.weak, .bool i.rel, .int .i64 i.pred, .int .i64 i.succ] 52)
 have m55 := m45.upd hU53 n41
 have m56 := m46.upd hU53 n42
 have b57 := hU53.below b47 ge40
 have ho58 := own_upd ho48 hU53 off43
 have ho59 := own_upd ho49 hU53 off44
 intro a60 hA61
 refine qe_ ?_
 refine tn_ ?_
 refine wp_seq ?_
 have hA62 : St 81 [(0, (.pointer (some ⟨g, 0, none⟩))), (3, (.pointer (some ⟨g3, 0, none⟩))), (4, (.bool false)), (5, (.pointer (some ⟨g35, 0, none⟩)))] a60 := hA61.sub rfl
 let M63 : Nat → Option (Array Value) := fun _ => none
 have hM63 : M63 = fun _ => none := rfl
 clear_value M63
 have hM64 : M63 g = none := (congrFun hM63 g)
 have hM65 : M63 g3 = none := (congrFun hM63 g3)
 have hM66 : M63 g35 = none := (congrFun hM63 g35)
 have hM63B : ∀ k, k < Bd → M63 k = none := (fun k hk => (congrFun hM63 k))
 refine drawn (S := SM M63) (tabL [cv (.pointer (some ⟨g3, 6, none⟩)), cv (.int .i64 i.off), cv (.pointer (some ⟨g, 0, none⟩)), cv (.pointer (some ⟨g3, 7, none⟩)), cv (.int .i64 i.index), cv (.int .i64 (orR r i.index 0)), cv (.pointer (some ⟨g3, 8, none⟩)), cv (.int .i64 i.size), cv (.int .i64 (placeR (B i.off) (B (orR r i.index 0)) i.size)), cv (.int .i64 (placeR (B i.off) (B (orR r i.index 0)) i.size))]) mixedY SM.refl SM.trans SM.drew hA62 (by kernel_rfl) ?_ ?_
 ·skip
  refine ec_ (fun x y hS hT hk => dfa (wn rfl) (hT.ev rfl) fo23_6 ⟨SM.refl _, rfl⟩) ?_
  refine ec_ (fun x y hS hT hk => dld (v := (.int .i64 i.off)) (wn rfl) (hk 0 rfl) one3 ((Blk.sm (w := w52.drew) m56 hS hM65).cell rfl) ⟨SM.refl _, rfl⟩) ?_
  refine ec_ (fun x y hS hT hk => dmv (wn rfl) (hT.ev rfl) ⟨SM.refl _, rfl⟩) ?_
  refine ec_ (fun x y hS hT hk => dfa (wn rfl) (hT.ev rfl) fo23_7 ⟨SM.refl _, rfl⟩) ?_
  refine ec_ (fun x y hS hT hk => dld (v := (.int .i64 i.index)) (wn rfl) (hk 3 rfl) one3 ((Blk.sm (w := w52.drew) m56 hS hM65).cell rfl) ⟨SM.refl _, rfl⟩) ?_
  refine ec_ (fun x y hS hT hk => dcl (wn rfl) ent47 (map3 (show x.eval _ = (.pointer (some ⟨g, 0, none⟩)) from (hk 2 rfl)) (show x.eval _ = (.int .i64 i.index) from (hk 4 rfl)) (show x.eval _ = (.int .i64 0) from (hT.ev rfl))) (regOr_any g p r rd ev pa i.index 0 y (Blk.sm (w := w52.drew) m55 hS hM64) hix) (fun _ _ ⟨he, hG⟩ => ⟨(.int .i64 (orR r i.index 0)), he, SM.grow hG, rfl⟩)) ?_
  refine ec_ (fun x y hS hT hk => dfa (wn rfl) (hT.ev rfl) fo23_8 ⟨SM.refl _, rfl⟩) ?_
  refine ec_ (fun x y hS hT hk => dld (v := (.int .i64 i.size)) (wn rfl) (hk 6 rfl) one3 ((Blk.sm (w := w52.drew) m56 hS hM65).cell rfl) ⟨SM.refl _, rfl⟩) ?_
  refine ec_ (fun x y hS hT hk => dcl (wn rfl) ent57 (map3 (show x.eval _ = (.int .i64 i.off) from (hk 1 rfl)) (show x.eval _ = (.int .i64 (orR r i.index 0)) from (hk 5 rfl)) (show x.eval _ = (.int .i64 i.size) from (hk 7 rfl))) (place_w i.off (orR r i.index 0) i.size y hoff (wf_or hr wf_0)) (fun _ _ ⟨he, hw⟩ => ⟨(.int .i64 (placeR (B i.off) (B (orR r i.index 0)) i.size)), he, hw ▸ SM.refl _, rfl⟩)) ?_
  refine ec_ (fun x y hS hT hk => das (wn rfl) (hk 8 rfl) ⟨SM.refl _, rfl⟩) ?_
  exact each_nil
 intro f67 a68 w69 hS70 hC71 hA72
 have hA73 : St 81 [(0, (.pointer (some ⟨g, 0, none⟩))), (3, (.pointer (some ⟨g3, 0, none⟩))), (4, (.bool false)), (5, (.pointer (some ⟨g35, 0, none⟩))), (6, (.int .i64 (placeR (B i.off) (B (orR r i.index 0)) i.size)))] a68 := hA72.cut _ (fc (hA72.get 0 _ rfl) (fc (hA72.get 3 _ rfl) (fc (hA72.get 4 _ rfl) (fc (hA72.get 5 _ rfl) (fc ((hA72.get 6 _ rfl).trans (hC71 9 (Nat.le_of_ble_eq_true rfl))) fn_)))))
 have m74 := m55.sm hS70 hM64
 have m75 := m56.sm hS70 hM65
 have m76 := m54.sm hS70 hM66
 have b77 := hS70.below b57 (Nat.le_trans hB b57.size) hM63B
 have ho78 := own_sm ho58 hS70 (fun k => congrFun hM63 k)
 have ho79 := own_sm ho59 hS70 (fun k => congrFun hM63 k)
 refine tn_ ?_
 refine wp_seq ?_
 have hA80 : St 81 [(0, (.pointer (some ⟨g, 0, none⟩))), (3, (.pointer (some ⟨g3, 0, none⟩))), (4, (.bool false)), (5, (.pointer (some ⟨g35, 0, none⟩))), (6, (.int .i64 (placeR (B i.off) (B (orR r i.index 0)) i.size)))] a68 := hA73.sub rfl
 let M81 : Nat → Option (Array Value) := fun _ => none
 have hM81 : M81 = fun _ => none := rfl
 clear_value M81
 have hM81A : ∀ k, M81 k = none := fun k => congrFun hM81 k
 have hM81B : ∀ k, k < Bd → M81 k = none := fun k _ => hM81A k
 refine drawnL (S := SM M81) rfl (tabL [cv (.pointer (some ⟨g3, 5, none⟩)), cv (.int .i64 i.loc), cv (.int .i64 (placeR (B i.off) (B (orR r i.index 0)) i.size)), cv (.pointer (some ⟨g3, 8, none⟩)), cv (.int .i64 i.size), cv (.int .i64 (maskR (placeR (B i.off) (B (orR r i.index 0)) i.size) i.size)), cv (.agg #[.int .i64 i.loc, .int .i64 (maskR (placeR (B i.off) (B (orR r i.index 0)) i.size) i.size)]), cv (.pointer (some ⟨g35, 4, none⟩))]) none (fun _ => none) (fun _ _ => True) [7, 6, 5, 0, 1, 2, 3, 4] [] mixedY SM.refl SM.trans hA80 (by kernel_rfl) (by kernel_rfl) (fun i v u w h => by cases h) ?_ ?_
 ·skip
  refine ed_ (.inl ⟨nofun, rfl, fun x y hS hT hk => dfa (wn rfl) (hT.ev rfl) fo23_5 ⟨SM.refl _, rfl⟩⟩) ?_
  refine ed_ (.inl ⟨nofun, rfl, fun x y hS hT hk => dld (v := (.int .i64 i.loc)) (wn rfl) (hk 0 rfl) one3 ((Blk.sm (w := w69.drew) m75 hS (hM81A _)).cell rfl) ⟨SM.refl _, rfl⟩⟩) ?_
  refine ed_ (.inl ⟨nofun, rfl, fun x y hS hT hk => dmv (wn rfl) (hT.ev rfl) ⟨SM.refl _, rfl⟩⟩) ?_
  refine ed_ (.inl ⟨nofun, rfl, fun x y hS hT hk => dfa (wn rfl) (hT.ev rfl) fo23_8 ⟨SM.refl _, rfl⟩⟩) ?_
  refine ed_ (.inl ⟨nofun, rfl, fun x y hS hT hk => dld (v := (.int .i64 i.size)) (wn rfl) (hk 3 rfl) one3 ((Blk.sm (w := w69.drew) m75 hS (hM81A _)).cell rfl) ⟨SM.refl _, rfl⟩⟩) ?_
  refine ed_ (.inl ⟨nofun, rfl, fun x y hS hT hk => dcl (wn rfl) ent55 (map2 (show x.eval _ = (.int .i64 (placeR (B i.off) (B (orR r i.index 0)) i.size)) from (hk 2 rfl)) (show x.eval _ = (.int .i64 i.size) from (hk 4 rfl))) (mask_all (placeR (B i.off) (B (orR r i.index 0)) i.size) i.size y) (fun _ _ ⟨he, hw⟩ => ⟨(.int .i64 (maskR (placeR (B i.off) (B (orR r i.index 0)) i.size) i.size)), he, hw ▸ SM.refl _, rfl⟩)⟩) ?_
  refine ed_ (.inl ⟨nofun, rfl, fun x y hS hT hk => dbd (cs := #[.int .i64 i.loc, .int .i64 (maskR (placeR (B i.off) (B (orR r i.index 0)) i.size) i.size)]) (wn rfl) (bp_of (bq_cons (show x.eval _ = (.int .i64 i.loc) from (hk 1 rfl)) (bq_cons (show x.eval _ = (.int .i64 (maskR (placeR (B i.off) (B (orR r i.index 0)) i.size) i.size)) from (hk 5 rfl)) bq_nil))) zero50 places50 (by kernel_rfl) ⟨SM.refl _, rfl⟩⟩) ?_
  refine ed_ (.inl ⟨nofun, rfl, fun x y hS hT hk => dfa (wn rfl) (hT.ev rfl) fo52_4 ⟨SM.refl _, rfl⟩⟩) ?_
  exact eachD_one
 rintro a82 w83 hA84 ⟨hS86, hC87⟩
 have hA88 : St 81 [(0, (.pointer (some ⟨g, 0, none⟩))), (3, (.pointer (some ⟨g3, 0, none⟩))), (4, (.bool false)), (5, (.pointer (some ⟨g35, 0, none⟩))), (25, (.agg #[.int .i64 i.loc, .int .i64 (maskR (placeR (B i.off) (B (orR r i.index 0)) i.size) i.size)])), (26, (.pointer (some ⟨g35, 4, none⟩)))] a82 := hA84.cut _ (fc (hA84.get 0 _ rfl) (fc (hA84.get 3 _ rfl) (fc (hA84.get 4 _ rfl) (fc (hA84.get 5 _ rfl) (fc (hC87 6 (Nat.le_of_ble_eq_true rfl)) (fc (hC87 7 (Nat.le_of_ble_eq_true rfl)) fn_))))))
 have hG89 : Grow w69 w83 := Grow.trans ((Grow.refl _).drew) (SM.grown (by rw [hM81] at hS86; exact hS86))
 have m90 := m74.grow hG89
 have m91 := m75.grow hG89
 have m92 := m76.grow hG89
 have b93 := blg b77 hG89 (Nat.le_trans hB b77.size)
 have ho94 := owg hG89 ho78
 have ho95 := owg hG89 ho79
 refine d_store2 (wn rfl) (hA88.ev rfl) (hA88.ev rfl) row50 rfl rfl m92 (Nat.le_of_ble_eq_true rfl) ?_
 intro w96 hU97 (m98 : Blk w96 g35 #[.int .i64 0, .int .i64 ((path.length : Nat) : Int), .int .i64 p, .int .i64 6, .int .i64 i.loc, .int .i64 (maskR (placeR (B i.off) (B (orR r i.index 0)) i.size) i.size), .bool true, .bool true, .int .i64 0, .int .i64 0, .bool i.acq, .bool i.weak, .bool i.rel, .int .i64 i.pred, .int .i64 i.succ] 52)
 have m99 := m90.upd hU97 n41
 have m100 := m91.upd hU97 n42
 have b101 := hU97.below b93 ge40
 have ho102 := own_upd ho94 hU97 off43
 have ho103 := own_upd ho95 hU97 off44
 refine tn_ ?_
 refine wp_seq ?_
 refine wp_seq ?_
 refine wp_region_lit ?_
 refine qs hA88 rfl (dfa (wn rfl) (hA88.ev rfl) fo52_5 ?_)
 intro a104 hA105
 refine qs hA105 rfl (dld (v := (.bool true)) (wn rfl) (hA105.ev rfl) one4 (m98.cell rfl) ?_)
 intro a106 hA107
 refine qe_ ?_
 refine tn_ ?_
 refine c_true hA107 rfl ?_
 refine wp_seq ?_
 refine wp_seq ?_
 refine wp_region_lit ?_
 refine qs hA107 rfl (dmv (wn rfl) (hA107.ev rfl) ?_)
 intro a108 hA109
 refine qs hA109 rfl (dnc (wn rfl) (hA109.ev rfl) ?_)
 intro a110 hA111
 refine qs hA111 rfl (dfa (wn rfl) (hA111.ev rfl) fo62_2 ?_)
 intro a112 hA113
 refine qs hA113 rfl (dld (v := rd) (wn rfl) (hA113.ev rfl) one30 (m99.cell rfl) ?_)
 intro a114 hA115
 refine qs hA115 rfl (dle (n := rl.length + 1) (wn rfl) (hA115.ev rfl) slc30 hrd.form ?_)
 intro a116 hA117
 refine qs hA117 rfl (dbn (wn rfl) (hA117.ev rfl) (hA117.ev rfl) (b_eq _ _ ((rl.length + 1 : Nat) : Int) 0 false _ (beq_eq_false_iff_ne.2 (by omega))) ?_)
 intro a118 hA119
 refine qe_ ?_
 refine tn_ ?_
 refine c_false hA119 rfl ?_
 refine wp_skip ?_
 refine tn_ ?_
 refine wp_seq ?_
 obtain ⟨b120, o121, lt122, hr123, hix124⟩ := (hrd.below b101).at (show (u0 :: rl)[0]? = some u0 from rfl)
 have hA125 : St 81 [(0, (.pointer (some ⟨g, 0, none⟩))), (3, (.pointer (some ⟨g3, 0, none⟩))), (4, (.bool false)), (5, (.pointer (some ⟨g35, 0, none⟩)))] a118 := hA119.sub rfl
 let M126 : Nat → Option (Array Value) := fun _ => none
 have hM126 : M126 = fun _ => none := rfl
 clear_value M126
 have hM126A : ∀ k, M126 k = none := fun k => congrFun hM126 k
 have hM126B : ∀ k, k < Bd → M126 k = none := fun k _ => hM126A k
 refine drawnL (S := SM M126) rfl (tabL [cv (.pointer (some ⟨g, 0, none⟩)), cv (.pointer (some ⟨g, 0, none⟩)), cv (.pointer (some ⟨g, 9, none⟩)), cv rd, cv (.pointer (some ⟨b120, o121, none⟩)), cv (.int .i64 u0), cv (.pointer (some ⟨g3, 8, none⟩)), cv (.int .i64 i.size), cv (.int .i64 (I (getR (B u0) 0 i.size))), cv (.pointer (some ⟨g35, 8, none⟩))]) none (fun _ => none) (fun _ _ => True) [9, 8, 0, 1, 2, 3, 4, 5, 6, 7] [] mixedY SM.refl SM.trans hA125 (by kernel_rfl) (by kernel_rfl) (fun i v u w h => by cases h) ?_ ?_
 ·skip
  refine ed_ (.inl ⟨nofun, rfl, fun x y hS hT hk => dmv (wn rfl) (hT.ev rfl) ⟨SM.refl _, rfl⟩⟩) ?_
  refine ed_ (.inl ⟨nofun, rfl, fun x y hS hT hk => dnc (wn rfl) (hk 0 rfl) ⟨SM.refl _, rfl⟩⟩) ?_
  refine ed_ (.inl ⟨nofun, rfl, fun x y hS hT hk => dfa (wn rfl) (hk 1 rfl) fo62_2 ⟨SM.refl _, rfl⟩⟩) ?_
  refine ed_ (.inl ⟨nofun, rfl, fun x y hS hT hk => dld (v := rd) (wn rfl) (hk 2 rfl) one30 ((Blk.sm (w := w96.drew) m99 hS (hM126A _)).cell rfl) ⟨SM.refl _, rfl⟩⟩) ?_
  refine ed_ (.inl ⟨nofun, rfl, fun x y hS hT hk => dia (j := 0) (wn rfl) (hk 3 rfl) (hT.ev rfl) slc30 hix124 (get_lt (show (u0 :: rl)[0]? = some u0 from rfl)) ⟨SM.refl _, rfl⟩⟩) ?_
  refine ed_ (.inl ⟨nofun, rfl, fun x y hS hT hk => dld (v := (.int .i64 u0)) (wn rfl) (hk 4 rfl) one3 ((range_sm (w := w96.drew) hr123 hS (Nat.lt_of_lt_of_le lt122 (Nat.le_trans hB b101.size)) (hM126B _ lt122)) 0 _ rfl) ⟨SM.refl _, rfl⟩⟩) ?_
  refine ed_ (.inl ⟨nofun, rfl, fun x y hS hT hk => dfa (wn rfl) (hT.ev rfl) fo23_8 ⟨SM.refl _, rfl⟩⟩) ?_
  refine ed_ (.inl ⟨nofun, rfl, fun x y hS hT hk => dld (v := (.int .i64 i.size)) (wn rfl) (hk 6 rfl) one3 ((Blk.sm (w := w96.drew) m100 hS (hM126A _)).cell rfl) ⟨SM.refl _, rfl⟩⟩) ?_
  refine ed_ (.inl ⟨nofun, rfl, fun x y hS hT hk => dcl (wn rfl) ent58 (map3 (show x.eval _ = (.int .i64 u0) from (hk 5 rfl)) (show x.eval _ = (.int .i64 0) from (hT.ev rfl)) (show x.eval _ = (.int .i64 i.size) from (hk 7 rfl))) (get_w u0 0 i.size y hu0) (fun _ _ ⟨he, q, hw⟩ => ⟨(.int .i64 (I (getR (B u0) 0 i.size))), he, hw ▸ SM.grow ((Grow.refl _).drewN q), rfl⟩)⟩) ?_
  refine ed_ (.inl ⟨nofun, rfl, fun x y hS hT hk => dfa (wn rfl) (hT.ev rfl) fo52_7 ⟨SM.refl _, rfl⟩⟩) ?_
  exact eachD_one
 rintro a127 w128 hA129 ⟨hS131, hC132⟩
 have hA133 : St 81 [(0, (.pointer (some ⟨g, 0, none⟩))), (3, (.pointer (some ⟨g3, 0, none⟩))), (4, (.bool false)), (5, (.pointer (some ⟨g35, 0, none⟩))), (43, (.int .i64 (I (getR (B u0) 0 i.size)))), (44, (.pointer (some ⟨g35, 8, none⟩)))] a127 := hA129.cut _ (fc (hA129.get 0 _ rfl) (fc (hA129.get 3 _ rfl) (fc (hA129.get 4 _ rfl) (fc (hA129.get 5 _ rfl) (fc (hC132 8 (Nat.le_of_ble_eq_true rfl)) (fc (hC132 9 (Nat.le_of_ble_eq_true rfl)) fn_))))))
 have hG134 : Grow w96 w128 := Grow.trans ((Grow.refl _).drew) (SM.grown (by rw [hM126] at hS131; exact hS131))
 have m135 := m99.grow hG134
 have m136 := m100.grow hG134
 have m137 := m98.grow hG134
 have hr138 := range_below hr123 hG134 (Nat.lt_of_lt_of_le lt122 (Nat.le_trans hB b101.size))
 have b139 := blg b101 hG134 (Nat.le_trans hB b101.size)
 have ho140 := owg hG134 ho102
 have ho141 := owg hG134 ho103
 refine dst_ (wn rfl) (hA133.ev rfl) (hA133.ev rfl) one3 rfl m137 (Nat.le_of_ble_eq_true rfl) ?_
 intro w142 hU143 (m144 : Blk w142 g35 #[.int .i64 0, .int .i64 ((path.length : Nat) : Int), .int .i64 p, .int .i64 6, .int .i64 i.loc, .int .i64 (maskR (placeR (B i.off) (B (orR r i.index 0)) i.size) i.size), .bool true, .bool true, .int .i64 (I (getR (B u0) 0 i.size)), .int .i64 0, .bool i.acq, .bool i.weak, .bool i.rel, .int .i64 i.pred, .int .i64 i.succ] 52)
 have m145 := m135.upd hU143 n41
 have m146 := m136.upd hU143 n42
 have hr147 := range_upd hr138 hU143 (Nat.ne_of_lt (Nat.lt_of_lt_of_le lt122 ge40))
 have b148 := hU143.below b139 ge40
 have ho149 := own_upd ho140 hU143 off43
 have ho150 := own_upd ho141 hU143 off44
 refine tn_ ?_
 refine wp_region_lit ?_
 refine qs hA133 rfl (dmv (wn rfl) (hA133.ev rfl) ?_)
 intro a151 hA152
 refine qs hA152 rfl (dmv (wn rfl) (hA152.ev rfl) ?_)
 intro a153 hA154
 refine qs hA154 rfl (dnc (wn rfl) (hA154.ev rfl) ?_)
 intro a155 hA156
 refine qs hA156 rfl (dfa (wn rfl) (hA156.ev rfl) fo62_2 ?_)
 intro a157 hA158
 refine qs hA158 rfl (dld (v := rd) (wn rfl) (hA158.ev rfl) one30 (m145.cell rfl) ?_)
 intro a159 hA160
 refine qs hA160 rfl (d_tail (wn rfl) (hA160.ev rfl) slc30 (hrd.below b148) ?_)
 intro v161 ht162
 have hsl163 := ht162 _ hrd
 intro a164 hA165
 refine qs hA165 rfl (dnc (wn rfl) (hA165.ev rfl) ?_)
 intro a166 hA167
 refine qs hA167 rfl (dfa (wn rfl) (hA167.ev rfl) fo62_2 ?_)
 intro a168 hA169
 refine qs hA169 rfl (dst_ (v := v161) (wn rfl) (hA169.ev rfl) (hA169.ev rfl) one30 (one_slice hsl163.form) m145 (Nat.le_of_ble_eq_true rfl) ?_)
 intro w170 hU171 (m172 : Blk w170 g (walkC p r v161 ev pa) 62)
 have m173 := m146.upd hU171 (Ne.symm n9)
 have m174 := m144.upd hU171 (Ne.symm n41)
 have b175 := hU171.below b148 hge
 have ho176 := own_upd ho149 hU171 oe
 have ho177 := own_upd ho150 hU171 op_
 intro a178 hA179
 refine qe_ ?_
 refine tn_ ?_
 refine wp_seq ?_
 refine wp_seq ?_
 refine wp_region_lit ?_
 refine qs hA179 rfl (dfa (wn rfl) (hA179.ev rfl) fo52_6 ?_)
 intro a180 hA181
 refine qs hA181 rfl (dld (v := (.bool true)) (wn rfl) (hA181.ev rfl) one4 (m174.cell rfl) ?_)
 intro a182 hA183
 refine qe_ ?_
 refine tn_ ?_
 refine c_true hA183 rfl ?_
 refine wp_region_lit ?_
 refine qs hA183 rfl (dmv (wn rfl) (hA183.ev rfl) ?_)
 intro a184 hA185
 refine qs hA185 rfl (dlr (cs := (insC ⟨6, ((d : Nat) : Int), ((k : Nat) : Int), i.b, i.imm, i.loc, i.off, i.index, i.size, i.fn, i.acq, i.weak, i.rel, i.pred, i.succ, i.to, i.zero⟩)) (wn rfl) (hA185.ev rfl) row23 m173 ?_)
 intro a186 hA187
 refine qs hA187 rfl (dfa (wn rfl) (hA187.ev rfl) fo52_7 ?_)
 intro a188 hA189
 refine qs hA189 rfl (dld (v := (.int .i64 (I (getR (B u0) 0 i.size)))) (wn rfl) (hA189.ev rfl) one3 (m174.cell rfl) ?_)
 intro a190 hA191
 refine qs hA191 rfl (dcl (wn rfl) ent59 (map3 (hA191.ev rfl) (hA191.ev rfl) (hA191.ev rfl)) (written_6 g p r v161 ev pa { i with dst := ((d : Nat) : Int) } k (I (getR (B u0) 0 i.size)) w170 m172 hr (wf_I _) (by omega)) ?_)
 rintro e195 w192 ⟨he194, hG193⟩
 have m196 := m172.grow hG193
 have m197 := m173.grow hG193
 have m198 := m174.grow hG193
 have b199 := blg b175 hG193 (Nat.le_trans hB b175.size)
 have ho200 := owg hG193 ho176
 have ho201 := owg hG193 ho177
 refine ⟨(.int .i64 (I (rmwR i.fn (B (I (getR (B u0) 0 i.size))) (B (r k)) i.size))), he194, ?_⟩
 intro a202 hA203
 refine qs hA203 rfl (dfa (wn rfl) (hA203.ev rfl) fo52_8 ?_)
 intro a204 hA205
 refine qs hA205 rfl (dst_ (wn rfl) (hA205.ev rfl) (hA205.ev rfl) one3 rfl m198 (Nat.le_of_ble_eq_true rfl) ?_)
 intro w206 hU207 (m208 : Blk w206 g35 #[.int .i64 0, .int .i64 ((path.length : Nat) : Int), .int .i64 p, .int .i64 6, .int .i64 i.loc, .int .i64 (maskR (placeR (B i.off) (B (orR r i.index 0)) i.size) i.size), .bool true, .bool true, .int .i64 (I (getR (B u0) 0 i.size)), .int .i64 (I (rmwR i.fn (B (I (getR (B u0) 0 i.size))) (B (r k)) i.size)), .bool i.acq, .bool i.weak, .bool i.rel, .int .i64 i.pred, .int .i64 i.succ] 52)
 have m209 := m196.upd hU207 n41
 have m210 := m197.upd hU207 n42
 have b211 := hU207.below b199 ge40
 have ho212 := own_upd ho200 hU207 off43
 have ho213 := own_upd ho201 hU207 off44
 intro a214 hA215
 refine qe_ ?_
 refine tn_ ?_
 refine wp_seq ?_
 refine wp_seq ?_
 refine wp_region_lit ?_
 refine qs hA215 rfl (dfa (wn rfl) (hA215.ev rfl) fo52_5 ?_)
 intro a216 hA217
 refine qs hA217 rfl (dld (v := (.bool true)) (wn rfl) (hA217.ev rfl) one4 (m208.cell rfl) ?_)
 intro a218 hA219
 refine qe_ ?_
 refine tn_ ?_
 refine c_true hA219 rfl ?_
 have hA220 : St 81 [(0, (.pointer (some ⟨g, 0, none⟩))), (3, (.pointer (some ⟨g3, 0, none⟩))), (4, (.bool false)), (5, (.pointer (some ⟨g35, 0, none⟩)))] a218 := hA219.sub rfl
 let M221 : Nat → Option (Array Value) := fun _ => none
 have hM221 : M221 = fun _ => none := rfl
 clear_value M221
 have hM221A : ∀ k, M221 k = none := fun k => congrFun hM221 k
 have hM221B : ∀ k, k < Bd → M221 k = none := fun k _ => hM221A k
 refine drawnL (S := SM M221) rfl (tabL [cv (.pointer (some ⟨g, 0, none⟩)), cv (.pointer (some ⟨g3, 1, none⟩)), cv (.int .i64 ((d : Nat) : Int)), cv (.pointer (some ⟨g35, 8, none⟩)), cv (.int .i64 (I (getR (B u0) 0 i.size))), cv (.pointer (some ⟨g, 0, none⟩)), cv (.pointer (some ⟨g, 1, none⟩)), cv (.pointer (some ⟨g, 1 + d, none⟩))]) none (fun _ => none) (fun _ _ => True) [7, 4, 0, 1, 2, 3, 6, 5] [] mixedY SM.refl SM.trans hA220 (by kernel_rfl) (by kernel_rfl) (fun i v u w h => by cases h) ?_ ?_
 ·skip
  refine ed_ (.inl ⟨nofun, rfl, fun x y hS hT hk => dmv (wn rfl) (hT.ev rfl) ⟨SM.refl _, rfl⟩⟩) ?_
  refine ed_ (.inl ⟨nofun, rfl, fun x y hS hT hk => dfa (wn rfl) (hT.ev rfl) fo23_1 ⟨SM.refl _, rfl⟩⟩) ?_
  refine ed_ (.inl ⟨nofun, rfl, fun x y hS hT hk => dld (v := (.int .i64 ((d : Nat) : Int))) (wn rfl) (hk 1 rfl) one3 ((Blk.sm (w := w206.drew) m210 hS (hM221A _)).cell rfl) ⟨SM.refl _, rfl⟩⟩) ?_
  refine ed_ (.inl ⟨nofun, rfl, fun x y hS hT hk => dfa (wn rfl) (hT.ev rfl) fo52_7 ⟨SM.refl _, rfl⟩⟩) ?_
  refine ed_ (.inl ⟨nofun, rfl, fun x y hS hT hk => dld (v := (.int .i64 (I (getR (B u0) 0 i.size)))) (wn rfl) (hk 3 rfl) one3 ((Blk.sm (w := w206.drew) m208 hS (hM221A _)).cell rfl) ⟨SM.refl _, rfl⟩⟩) ?_
  refine ed_ (.inl ⟨nofun, rfl, fun x y hS hT hk => dnc (wn rfl) (hk 0 rfl) ⟨SM.refl _, rfl⟩⟩) ?_
  refine ed_ (.inl ⟨nofun, rfl, fun x y hS hT hk => dfa (wn rfl) (hk 5 rfl) fo62_1 ⟨SM.refl _, rfl⟩⟩) ?_
  refine ed_ (.inl ⟨nofun, rfl, fun x y hS hT hk => dix (j := d) (p := 1 + d) (wn rfl) (hk 6 rfl) (hk 2 rfl) arr43 (by omega) (by omega) ⟨SM.refl _, rfl⟩⟩) ?_
  exact eachD_one
 rintro a222 w223 hA224 ⟨hS226, hC227⟩
 have hA228 : St 81 [(0, (.pointer (some ⟨g, 0, none⟩))), (4, (.bool false)), (5, (.pointer (some ⟨g35, 0, none⟩))), (67, (.int .i64 (I (getR (B u0) 0 i.size)))), (70, (.pointer (some ⟨g, 1 + d, none⟩)))] a222 := hA224.cut _ (fc (hA224.get 0 _ rfl) (fc (hA224.get 4 _ rfl) (fc (hA224.get 5 _ rfl) (fc (hC227 4 (Nat.le_of_ble_eq_true rfl)) (fc (hC227 7 (Nat.le_of_ble_eq_true rfl)) fn_)))))
 have hG229 : Grow w206 w223 := Grow.trans ((Grow.refl _).drew) (SM.grown (by rw [hM221] at hS226; exact hS226))
 have m230 := m209.grow hG229
 have m231 := m210.grow hG229
 have m232 := m208.grow hG229
 have b233 := blg b211 hG229 (Nat.le_trans hB b211.size)
 have ho234 := owg hG229 ho212
 have ho235 := owg hG229 ho213
 refine dst_ (v := (.int .i64 (I (getR (B u0) 0 i.size)))) (wn rfl) (hA228.ev rfl) (hA228.ev rfl) one3 rfl m230 (by rw [walk_size]; omega) ?_
 intro w236 hU237 m238
 rw [walk_set (by omega)] at m238
 have m239 := m231.upd hU237 (Ne.symm n9)
 have m240 := m232.upd hU237 (Ne.symm n41)
 have b241 := hU237.below b233 hge
 have ho242 := own_upd ho234 hU237 oe
 have ho243 := own_upd ho235 hU237 op_
 refine tn_ ?_
 refine wp_seq ?_
 have hA244 : St 81 [(0, (.pointer (some ⟨g, 0, none⟩))), (4, (.bool false)), (5, (.pointer (some ⟨g35, 0, none⟩)))] a222 := hA228.sub rfl
 let M245 : Nat → Option (Array Value) := fun _ => none
 have hM245 : M245 = fun _ => none := rfl
 clear_value M245
 have hM245A : ∀ k, M245 k = none := fun k => congrFun hM245 k
 have hM245B : ∀ k, k < Bd → M245 k = none := fun k _ => hM245A k
 refine drawnL (S := SM M245) rfl (tabQ [some (.pointer (some ⟨g, 0, none⟩)), some (.pointer (some ⟨g, 0, none⟩)), some (.pointer (some ⟨g, 0, none⟩)), some (.pointer (some ⟨g, 10, none⟩)), none, none, none, none, some (.pointer (some ⟨g, 0, none⟩)), some (.pointer (some ⟨g, 10, none⟩))] [cv (.pointer (some ⟨g, 0, none⟩)), cv (.pointer (some ⟨g, 0, none⟩)), cv (.pointer (some ⟨g, 0, none⟩)), cv (.pointer (some ⟨g, 10, none⟩)), cv ev, cv (.agg #[.int .i64 0, .int .i64 ((path.length : Nat) : Int), .int .i64 p, .int .i64 6, .int .i64 i.loc, .int .i64 (maskR (placeR (B i.off) (B (orR r i.index 0)) i.size) i.size), .bool true, .bool true, .int .i64 (I (getR (B u0) 0 i.size)), .int .i64 (I (rmwR i.fn (B (I (getR (B u0) 0 i.size))) (B (r k)) i.size)), .bool i.acq, .bool i.weak, .bool i.rel, .int .i64 i.pred, .int .i64 i.succ]), cs1 M245 hM245A #[.int .i64 0, .int .i64 ((path.length : Nat) : Int), .int .i64 p, .int .i64 6, .int .i64 i.loc, .int .i64 (maskR (placeR (B i.off) (B (orR r i.index 0)) i.size) i.size), .bool true, .bool true, .int .i64 (I (getR (B u0) 0 i.size)), .int .i64 (I (rmwR i.fn (B (I (getR (B u0) 0 i.size))) (B (r k)) i.size)), .bool i.acq, .bool i.weak, .bool i.rel, .int .i64 i.pred, .int .i64 i.succ] 52, cfree, cv (.pointer (some ⟨g, 0, none⟩)), cv (.pointer (some ⟨g, 10, none⟩))]) (some 7) (fun i => (([some (.pointer (some ⟨g, 0, none⟩)), some (.pointer (some ⟨g, 0, none⟩)), some (.pointer (some ⟨g, 0, none⟩)), some (.pointer (some ⟨g, 10, none⟩)), none, none, none, none, some (.pointer (some ⟨g, 0, none⟩)), some (.pointer (some ⟨g, 10, none⟩))] : List (Option Value))[i]?).getD none) (fun v' w' => w'.ownsRow Bd 52 15 v' (evs.length + 1) ((evE evs) ++ (#[.int .i64 0, .int .i64 ((path.length : Nat) : Int), .int .i64 p, .int .i64 6, .int .i64 i.loc, .int .i64 (maskR (placeR (B i.off) (B (orR r i.index 0)) i.size) i.size), .bool true, .bool true, .int .i64 (I (getR (B u0) 0 i.size)), .int .i64 (I (rmwR i.fn (B (I (getR (B u0) 0 i.size))) (B (r k)) i.size)), .bool i.acq, .bool i.weak, .bool i.rel, .int .i64 i.pred, .int .i64 i.succ] : Array Value).toList) ∧ Below Bd w w' ∧ Blk w' g (walkC p (updR r d (I (getR (B u0) 0 i.size))) v161 ev pa) 62 ∧ Blk w' g3 (insC ⟨6, ((d : Nat) : Int), ((k : Nat) : Int), i.b, i.imm, i.loc, i.off, i.index, i.size, i.fn, i.acq, i.weak, i.rel, i.pred, i.succ, i.to, i.zero⟩) 23 ∧ Blk w' g35 #[.int .i64 0, .int .i64 ((path.length : Nat) : Int), .int .i64 p, .int .i64 6, .int .i64 i.loc, .int .i64 (maskR (placeR (B i.off) (B (orR r i.index 0)) i.size) i.size), .bool true, .bool true, .int .i64 (I (getR (B u0) 0 i.size)), .int .i64 (I (rmwR i.fn (B (I (getR (B u0) 0 i.size))) (B (r k)) i.size)), .bool i.acq, .bool i.weak, .bool i.rel, .int .i64 i.pred, .int .i64 i.succ] 52 ∧ w'.ownsRow Bd 3 1 pa path.length (paE path) ∧ v'.ownBlock ≠ some g ∧ v'.ownBlock ≠ some g3 ∧ v'.ownBlock ≠ some g35 ∧ ∀ k, pa.ownBlock = some k → v'.ownBlock ≠ some k) [9, 7, 0, 1, 2, 3, 4, 5, 6, 8] [4, 6, 3, 5, 2, 1] mixedY SM.refl SM.trans hA244 (by kernel_rfl) (by kernel_rfl) (tabQ_cv _ _) ?_ ?_
 ·skip
  refine ed_ (.inr (.inl ⟨by decide, _, rfl, fun x y hT hk hk0 => dmv (wn rfl) (hT.ev rfl) ⟨rfl, rfl⟩⟩)) ?_
  refine ed_ (.inr (.inl ⟨by decide, _, rfl, fun x y hT hk hk0 => dmv (wn rfl) (hT.ev rfl) ⟨rfl, rfl⟩⟩)) ?_
  refine ed_ (.inr (.inl ⟨by decide, _, rfl, fun x y hT hk hk0 => dnc (wn rfl) (hk 1 _ rfl rfl) ⟨rfl, rfl⟩⟩)) ?_
  refine ed_ (.inr (.inl ⟨by decide, _, rfl, fun x y hT hk hk0 => dfa (wn rfl) (hk 2 _ rfl rfl) fo62_3 ⟨rfl, rfl⟩⟩)) ?_
  refine ed_ (.inl ⟨by decide, rfl, fun x y hS hT hk => dld (v := ev) (wn rfl) (hk 3 rfl) one44 ((Blk.sm (w := w236.drew) m238 hS (hM245A _)).cell rfl) ⟨SM.refl _, rfl⟩⟩) ?_
  refine ed_ (.inl ⟨by decide, rfl, fun x y hS hT hk => dlr (cs := #[.int .i64 0, .int .i64 ((path.length : Nat) : Int), .int .i64 p, .int .i64 6, .int .i64 i.loc, .int .i64 (maskR (placeR (B i.off) (B (orR r i.index 0)) i.size) i.size), .bool true, .bool true, .int .i64 (I (getR (B u0) 0 i.size)), .int .i64 (I (rmwR i.fn (B (I (getR (B u0) 0 i.size))) (B (r k)) i.size)), .bool i.acq, .bool i.weak, .bool i.rel, .int .i64 i.pred, .int .i64 i.succ]) (wn rfl) (hT.ev rfl) row52 (Blk.sm (w := w236.drew) m240 hS (hM245A _)) ⟨SM.refl _, rfl⟩⟩) ?_
  refine ed_ (.inl ⟨by decide, rfl, fun x y hS hT hk => d_slice1 (wn rfl) (show x.eval _ = (.agg #[.int .i64 0, .int .i64 ((path.length : Nat) : Int), .int .i64 p, .int .i64 6, .int .i64 i.loc, .int .i64 (maskR (placeR (B i.off) (B (orR r i.index 0)) i.size) i.size), .bool true, .bool true, .int .i64 (I (getR (B u0) 0 i.size)), .int .i64 (I (rmwR i.fn (B (I (getR (B u0) 0 i.size))) (B (r k)) i.size)), .bool i.acq, .bool i.weak, .bool i.rel, .int .i64 i.pred, .int .i64 i.succ]) from (hk 5 rfl)) elm44 rfl (by decide) (fun g w' _ hG hb => ⟨SM.grow hG, g, rfl, hb⟩)⟩) ?_
  refine ed_ (.inr (.inr ⟨rfl, fun x y hS hT hk => ?_⟩)) ?_
  ·skip
   obtain ⟨gb, hvb, hbb⟩ := hk 6 rfl
   have hG : Grow w236 y := Grow.trans ((Grow.refl _).drew) (SM.grown (by rw [hM245] at hS; exact hS))
   have hR := owg hG ho242
   have hO := owg hG ho243
   have hBl := blg b241 hG (Nat.le_trans hB b241.size)
   refine d_append (wn rfl) (show x.eval _ = ev from (hk 4 rfl)) hvb elm44 hR hbb rfl rfl (by omega) (by decide) (Nat.le_trans hB hBl.size) ?_
   intro v' w' h1 h2 h3
   exact ⟨h1, below_by hBl h2 (Nat.le_trans hB hBl.size) (fun k hk => (own_lt hR k hk).1), (m238.grow hG).by h2 oe, (m239.grow hG).by h2 off10, (m240.grow hG).by h2 off43, own_by hO h2 ap, lies_ne h3 oe (m238.grow hG).lt, lies_ne h3 off10 (m239.grow hG).lt, lies_ne h3 off43 (m240.grow hG).lt, lies_ap h3 ap hO⟩
  refine ed_ (.inr (.inl ⟨by decide, _, rfl, fun x y hT hk hk0 => dnc (wn rfl) (hk 0 _ rfl rfl) ⟨rfl, rfl⟩⟩)) ?_
  refine ed_ (.inr (.inl ⟨by decide, _, rfl, fun x y hT hk hk0 => dfa (wn rfl) (hk 8 _ rfl rfl) fo62_3 ⟨rfl, rfl⟩⟩)) ?_
  exact eachD_one
 rintro a246 w247 hA248 ⟨hP250, hW251⟩
 obtain ⟨v252, hv253⟩ : ∃ v', v' = (a246.tmps.getD 78 undef) := ⟨_, rfl⟩
 have hW254 : (fun v' w' => w'.ownsRow Bd 52 15 v' (evs.length + 1) ((evE evs) ++ (#[.int .i64 0, .int .i64 ((path.length : Nat) : Int), .int .i64 p, .int .i64 6, .int .i64 i.loc, .int .i64 (maskR (placeR (B i.off) (B (orR r i.index 0)) i.size) i.size), .bool true, .bool true, .int .i64 (I (getR (B u0) 0 i.size)), .int .i64 (I (rmwR i.fn (B (I (getR (B u0) 0 i.size))) (B (r k)) i.size)), .bool i.acq, .bool i.weak, .bool i.rel, .int .i64 i.pred, .int .i64 i.succ] : Array Value).toList) ∧ Below Bd w w' ∧ Blk w' g (walkC p (updR r d (I (getR (B u0) 0 i.size))) v161 ev pa) 62 ∧ Blk w' g3 (insC ⟨6, ((d : Nat) : Int), ((k : Nat) : Int), i.b, i.imm, i.loc, i.off, i.index, i.size, i.fn, i.acq, i.weak, i.rel, i.pred, i.succ, i.to, i.zero⟩) 23 ∧ Blk w' g35 #[.int .i64 0, .int .i64 ((path.length : Nat) : Int), .int .i64 p, .int .i64 6, .int .i64 i.loc, .int .i64 (maskR (placeR (B i.off) (B (orR r i.index 0)) i.size) i.size), .bool true, .bool true, .int .i64 (I (getR (B u0) 0 i.size)), .int .i64 (I (rmwR i.fn (B (I (getR (B u0) 0 i.size))) (B (r k)) i.size)), .bool i.acq, .bool i.weak, .bool i.rel, .int .i64 i.pred, .int .i64 i.succ] 52 ∧ w'.ownsRow Bd 3 1 pa path.length (paE path) ∧ v'.ownBlock ≠ some g ∧ v'.ownBlock ≠ some g3 ∧ v'.ownBlock ≠ some g35 ∧ ∀ k, pa.ownBlock = some k → v'.ownBlock ≠ some k) v252 w247 := by rw [hv253]; exact hW251
 obtain ⟨ho255, b256, m257, m258, m259, ho260, off261, off262, off263, ap264⟩ := hW254
 have ap265 : ∀ k, v252.ownBlock = some k → pa.ownBlock ≠ some k := fun k h1 h2 => ap264 k h2 h1
 have hA266 : St 81 [(4, (.bool false)), (78, v252), (80, (.pointer (some ⟨g, 10, none⟩)))] a246 := hA248.cut _ (fc (hA248.get 4 _ rfl) (fc hv253.symm (fc (hP250 9 _ (Nat.le_of_ble_eq_true rfl) (by decide) rfl) fn_)))
 refine dst_ (v := v252) (wn rfl) (hA266.ev rfl) (hA266.ev rfl) one44 (one_slice (own_form ho255)) m257 (Nat.le_of_ble_eq_true rfl) ?_
 intro w267 hU268 (m269 : Blk w267 g (walkC p (updR r d (I (getR (B u0) 0 i.size))) v161 v252 pa) 62)
 have m270 := m258.upd hU268 (Ne.symm n9)
 have m271 := m259.upd hU268 (Ne.symm n41)
 have b272 := hU268.below b256 hge
 have ho273 := own_upd ho255 hU268 off261
 have ho274 := own_upd ho260 hU268 op_
 refine tn_ ?_
 refine wp_seq ?_
 refine wp_region_lit ?_
 refine qs hA266 rfl (das (wn rfl) (hA266.ev rfl) ?_)
 intro a275 hA276
 refine qe_ ?_
 refine tn_ ?_
 refine wp_ret ?_
 refine ret1 rfl hA276 (v := (.bool true)) rfl ?_
 exact ⟨rfl, b272, v161, v252, pa, m269, hge, (hsl163.below b272), (by rw [List.length_append, ← evE_snoc]; exact ho273), ho274, off261, op_, ap264⟩
set_option maxHeartbeats 4000000 in
set_option maxRecDepth 4000 in
theorem access_6n (Bd g : Nat) (p : Int) (r : Nat → Int) (rd ev pa : Value) (i : Ins) (d k : Nat) (evs : List Ev) (path : List Int) (w : World) (hB : Bd ≤ w.heap.size) (hW : WS Bd g w p r ([] : List Int) evs path rd ev pa) (hne : evs.length ≤ 1000) (hnp : path.length ≤ 1000) (hr : ∀ k, wfI (r k)) (hix : ronB i.index = true) (hoff : wfI i.off) (hd : d < 8) : Calls Try.prog 48 #[.pointer (some ⟨g, 0, none⟩), .agg (insC ⟨6, ((d : Nat) : Int), ((k : Nat) : Int), i.b, i.imm, i.loc, i.off, i.index, i.size, i.fn, i.acq, i.weak, i.rel, i.pred, i.succ, i.to, i.zero⟩)] w fun e w' => e = .returned (.bool false) ∧ Below Bd w w' := by
 obtain ⟨hb, hge, hrd, hev, hpa, oe, op_, ap⟩ := hW
 have ap2 : ∀ k, ev.ownBlock = some k → pa.ownBlock ≠ some k := fun k h1 h2 => ap k h2 h1
 have b0 : Below Bd w w := Below.refl _ _
 refine enter (n := 81) Try.func48 rfl rfl (Nat.le_of_ble_eq_true rfl) ?_
 intro a1 hA2
 refine wp_seq ?_
 refine wp_region_lit ?_
 refine qs hA2 rfl (d_box (wn rfl) (hA2.ev rfl) ?_)
 intro g3 w4 eg5 hG6 (m7 : Blk w4 g3 (insC ⟨6, ((d : Nat) : Int), ((k : Nat) : Int), i.b, i.imm, i.loc, i.off, i.index, i.size, i.fn, i.acq, i.weak, i.rel, i.pred, i.succ, i.to, i.zero⟩) 23)
 have ge8 : Bd ≤ g3 := eg5 ▸ (Nat.le_trans hB b0.size)
 have n9 : g ≠ g3 := fun h => Nat.lt_irrefl _ ((h.trans eg5) ▸ hb.lt)
 have off10 := own_new hev eg5
 have off11 := own_new hpa eg5
 have m12 := hb.grow hG6
 have b13 := blg b0 hG6 (Nat.le_trans hB b0.size)
 have ho14 := owg hG6 hev
 have ho15 := owg hG6 hpa
 intro a16 hA17
 refine qs hA17 rfl (das (wn rfl) (hA17.ev rfl) ?_)
 intro a18 hA19
 refine qe_ ?_
 refine tn_ ?_
 refine wp_seq ?_
 refine wp_region_lit ?_
 refine qs hA19 rfl (dmv (wn rfl) (hA19.ev rfl) ?_)
 intro a20 hA21
 refine qs hA21 rfl (dlr (cs := (insC ⟨6, ((d : Nat) : Int), ((k : Nat) : Int), i.b, i.imm, i.loc, i.off, i.index, i.size, i.fn, i.acq, i.weak, i.rel, i.pred, i.succ, i.to, i.zero⟩)) (wn rfl) (hA21.ev rfl) row23 m7 ?_)
 intro a22 hA23
 refine qs hA23 rfl (dcl (wn rfl) ent49 (map2 (hA23.ev rfl) (hA23.ev rfl)) (event_any g p r rd ev pa (⟨6, ((d : Nat) : Int), ((k : Nat) : Int), i.b, i.imm, i.loc, i.off, i.index, i.size, i.fn, i.acq, i.weak, i.rel, i.pred, i.succ, i.to, i.zero⟩) path.length Bd (paE path) w4 m12 ho15) ?_)
 rintro e27 w24 ⟨he26, hG25⟩
 have m28 := m12.grow hG25
 have m29 := m7.grow hG25
 have b30 := blg b13 hG25 (Nat.le_trans hB b13.size)
 have ho31 := owg hG25 ho14
 have ho32 := owg hG25 ho15
 refine ⟨(.agg #[.int .i64 0, .int .i64 ((path.length : Nat) : Int), .int .i64 p, .int .i64 6, .int .i64 0, .int .i64 0, .bool true, .bool true, .int .i64 0, .int .i64 0, .bool i.acq, .bool i.weak, .bool i.rel, .int .i64 i.pred, .int .i64 i.succ]), he26, ?_⟩
 intro a33 hA34
 refine qs hA34 rfl (dal (wn rfl) zero52 ?_)
 intro g35 w36 eg37 hG38 (m39 : Blk w36 g35 #[.int .i64 0, .int .i64 0, .int .i64 0, .int .i64 0, .int .i64 0, .int .i64 0, .bool false, .bool false, .int .i64 0, .int .i64 0, .bool false, .bool false, .bool false, .int .i64 0, .int .i64 0] 52)
 have ge40 : Bd ≤ g35 := eg37 ▸ (Nat.le_trans hB b30.size)
 have n41 : g ≠ g35 := fun h => Nat.lt_irrefl _ ((h.trans eg37) ▸ m28.lt)
 have n42 : g3 ≠ g35 := fun h => Nat.lt_irrefl _ ((h.trans eg37) ▸ m29.lt)
 have off43 := own_new ho31 eg37
 have off44 := own_new ho32 eg37
 have m45 := m28.grow hG38
 have m46 := m29.grow hG38
 have b47 := blg b30 hG38 (Nat.le_trans hB b30.size)
 have ho48 := owg hG38 ho31
 have ho49 := owg hG38 ho32
 intro a50 hA51
 refine qs hA51 rfl (dsr (wn rfl) (hA51.ev rfl) (hA51.ev rfl) row52 m39 rfl rfl ?_)
 intro w52 hU53 (m54 : Blk w52 g35 #[.int .i64 0, .int .i64 ((path.length : Nat) : Int), .int .i64 p, .int .i64 6, .int .i64 0, .int .i64 0, .bool true, .bool true, .int .i64 0, .int .i64 0, .bool i.acq, .bool i.weak, .bool i.rel, .int .i64 i.pred, .int .i64 i.succ] 52)
 have m55 := m45.upd hU53 n41
 have m56 := m46.upd hU53 n42
 have b57 := hU53.below b47 ge40
 have ho58 := own_upd ho48 hU53 off43
 have ho59 := own_upd ho49 hU53 off44
 intro a60 hA61
 refine qe_ ?_
 refine tn_ ?_
 refine wp_seq ?_
 have hA62 : St 81 [(0, (.pointer (some ⟨g, 0, none⟩))), (3, (.pointer (some ⟨g3, 0, none⟩))), (4, (.bool false)), (5, (.pointer (some ⟨g35, 0, none⟩)))] a60 := hA61.sub rfl
 let M63 : Nat → Option (Array Value) := fun _ => none
 have hM63 : M63 = fun _ => none := rfl
 clear_value M63
 have hM64 : M63 g = none := (congrFun hM63 g)
 have hM65 : M63 g3 = none := (congrFun hM63 g3)
 have hM66 : M63 g35 = none := (congrFun hM63 g35)
 have hM63B : ∀ k, k < Bd → M63 k = none := (fun k hk => (congrFun hM63 k))
 refine drawn (S := SM M63) (tabL [cv (.pointer (some ⟨g3, 6, none⟩)), cv (.int .i64 i.off), cv (.pointer (some ⟨g, 0, none⟩)), cv (.pointer (some ⟨g3, 7, none⟩)), cv (.int .i64 i.index), cv (.int .i64 (orR r i.index 0)), cv (.pointer (some ⟨g3, 8, none⟩)), cv (.int .i64 i.size), cv (.int .i64 (placeR (B i.off) (B (orR r i.index 0)) i.size)), cv (.int .i64 (placeR (B i.off) (B (orR r i.index 0)) i.size))]) mixedY SM.refl SM.trans SM.drew hA62 (by kernel_rfl) ?_ ?_
 ·skip
  refine ec_ (fun x y hS hT hk => dfa (wn rfl) (hT.ev rfl) fo23_6 ⟨SM.refl _, rfl⟩) ?_
  refine ec_ (fun x y hS hT hk => dld (v := (.int .i64 i.off)) (wn rfl) (hk 0 rfl) one3 ((Blk.sm (w := w52.drew) m56 hS hM65).cell rfl) ⟨SM.refl _, rfl⟩) ?_
  refine ec_ (fun x y hS hT hk => dmv (wn rfl) (hT.ev rfl) ⟨SM.refl _, rfl⟩) ?_
  refine ec_ (fun x y hS hT hk => dfa (wn rfl) (hT.ev rfl) fo23_7 ⟨SM.refl _, rfl⟩) ?_
  refine ec_ (fun x y hS hT hk => dld (v := (.int .i64 i.index)) (wn rfl) (hk 3 rfl) one3 ((Blk.sm (w := w52.drew) m56 hS hM65).cell rfl) ⟨SM.refl _, rfl⟩) ?_
  refine ec_ (fun x y hS hT hk => dcl (wn rfl) ent47 (map3 (show x.eval _ = (.pointer (some ⟨g, 0, none⟩)) from (hk 2 rfl)) (show x.eval _ = (.int .i64 i.index) from (hk 4 rfl)) (show x.eval _ = (.int .i64 0) from (hT.ev rfl))) (regOr_any g p r rd ev pa i.index 0 y (Blk.sm (w := w52.drew) m55 hS hM64) hix) (fun _ _ ⟨he, hG⟩ => ⟨(.int .i64 (orR r i.index 0)), he, SM.grow hG, rfl⟩)) ?_
  refine ec_ (fun x y hS hT hk => dfa (wn rfl) (hT.ev rfl) fo23_8 ⟨SM.refl _, rfl⟩) ?_
  refine ec_ (fun x y hS hT hk => dld (v := (.int .i64 i.size)) (wn rfl) (hk 6 rfl) one3 ((Blk.sm (w := w52.drew) m56 hS hM65).cell rfl) ⟨SM.refl _, rfl⟩) ?_
  refine ec_ (fun x y hS hT hk => dcl (wn rfl) ent57 (map3 (show x.eval _ = (.int .i64 i.off) from (hk 1 rfl)) (show x.eval _ = (.int .i64 (orR r i.index 0)) from (hk 5 rfl)) (show x.eval _ = (.int .i64 i.size) from (hk 7 rfl))) (place_w i.off (orR r i.index 0) i.size y hoff (wf_or hr wf_0)) (fun _ _ ⟨he, hw⟩ => ⟨(.int .i64 (placeR (B i.off) (B (orR r i.index 0)) i.size)), he, hw ▸ SM.refl _, rfl⟩)) ?_
  refine ec_ (fun x y hS hT hk => das (wn rfl) (hk 8 rfl) ⟨SM.refl _, rfl⟩) ?_
  exact each_nil
 intro f67 a68 w69 hS70 hC71 hA72
 have hA73 : St 81 [(0, (.pointer (some ⟨g, 0, none⟩))), (3, (.pointer (some ⟨g3, 0, none⟩))), (4, (.bool false)), (5, (.pointer (some ⟨g35, 0, none⟩))), (6, (.int .i64 (placeR (B i.off) (B (orR r i.index 0)) i.size)))] a68 := hA72.cut _ (fc (hA72.get 0 _ rfl) (fc (hA72.get 3 _ rfl) (fc (hA72.get 4 _ rfl) (fc (hA72.get 5 _ rfl) (fc ((hA72.get 6 _ rfl).trans (hC71 9 (Nat.le_of_ble_eq_true rfl))) fn_)))))
 have m74 := m55.sm hS70 hM64
 have m75 := m56.sm hS70 hM65
 have m76 := m54.sm hS70 hM66
 have b77 := hS70.below b57 (Nat.le_trans hB b57.size) hM63B
 have ho78 := own_sm ho58 hS70 (fun k => congrFun hM63 k)
 have ho79 := own_sm ho59 hS70 (fun k => congrFun hM63 k)
 refine tn_ ?_
 refine wp_seq ?_
 have hA80 : St 81 [(0, (.pointer (some ⟨g, 0, none⟩))), (3, (.pointer (some ⟨g3, 0, none⟩))), (4, (.bool false)), (5, (.pointer (some ⟨g35, 0, none⟩))), (6, (.int .i64 (placeR (B i.off) (B (orR r i.index 0)) i.size)))] a68 := hA73.sub rfl
 let M81 : Nat → Option (Array Value) := fun _ => none
 have hM81 : M81 = fun _ => none := rfl
 clear_value M81
 have hM81A : ∀ k, M81 k = none := fun k => congrFun hM81 k
 have hM81B : ∀ k, k < Bd → M81 k = none := fun k _ => hM81A k
 refine drawnL (S := SM M81) rfl (tabL [cv (.pointer (some ⟨g3, 5, none⟩)), cv (.int .i64 i.loc), cv (.int .i64 (placeR (B i.off) (B (orR r i.index 0)) i.size)), cv (.pointer (some ⟨g3, 8, none⟩)), cv (.int .i64 i.size), cv (.int .i64 (maskR (placeR (B i.off) (B (orR r i.index 0)) i.size) i.size)), cv (.agg #[.int .i64 i.loc, .int .i64 (maskR (placeR (B i.off) (B (orR r i.index 0)) i.size) i.size)]), cv (.pointer (some ⟨g35, 4, none⟩))]) none (fun _ => none) (fun _ _ => True) [7, 6, 5, 0, 1, 2, 3, 4] [] mixedY SM.refl SM.trans hA80 (by kernel_rfl) (by kernel_rfl) (fun i v u w h => by cases h) ?_ ?_
 ·skip
  refine ed_ (.inl ⟨nofun, rfl, fun x y hS hT hk => dfa (wn rfl) (hT.ev rfl) fo23_5 ⟨SM.refl _, rfl⟩⟩) ?_
  refine ed_ (.inl ⟨nofun, rfl, fun x y hS hT hk => dld (v := (.int .i64 i.loc)) (wn rfl) (hk 0 rfl) one3 ((Blk.sm (w := w69.drew) m75 hS (hM81A _)).cell rfl) ⟨SM.refl _, rfl⟩⟩) ?_
  refine ed_ (.inl ⟨nofun, rfl, fun x y hS hT hk => dmv (wn rfl) (hT.ev rfl) ⟨SM.refl _, rfl⟩⟩) ?_
  refine ed_ (.inl ⟨nofun, rfl, fun x y hS hT hk => dfa (wn rfl) (hT.ev rfl) fo23_8 ⟨SM.refl _, rfl⟩⟩) ?_
  refine ed_ (.inl ⟨nofun, rfl, fun x y hS hT hk => dld (v := (.int .i64 i.size)) (wn rfl) (hk 3 rfl) one3 ((Blk.sm (w := w69.drew) m75 hS (hM81A _)).cell rfl) ⟨SM.refl _, rfl⟩⟩) ?_
  refine ed_ (.inl ⟨nofun, rfl, fun x y hS hT hk => dcl (wn rfl) ent55 (map2 (show x.eval _ = (.int .i64 (placeR (B i.off) (B (orR r i.index 0)) i.size)) from (hk 2 rfl)) (show x.eval _ = (.int .i64 i.size) from (hk 4 rfl))) (mask_all (placeR (B i.off) (B (orR r i.index 0)) i.size) i.size y) (fun _ _ ⟨he, hw⟩ => ⟨(.int .i64 (maskR (placeR (B i.off) (B (orR r i.index 0)) i.size) i.size)), he, hw ▸ SM.refl _, rfl⟩)⟩) ?_
  refine ed_ (.inl ⟨nofun, rfl, fun x y hS hT hk => dbd (cs := #[.int .i64 i.loc, .int .i64 (maskR (placeR (B i.off) (B (orR r i.index 0)) i.size) i.size)]) (wn rfl) (bp_of (bq_cons (show x.eval _ = (.int .i64 i.loc) from (hk 1 rfl)) (bq_cons (show x.eval _ = (.int .i64 (maskR (placeR (B i.off) (B (orR r i.index 0)) i.size) i.size)) from (hk 5 rfl)) bq_nil))) zero50 places50 (by kernel_rfl) ⟨SM.refl _, rfl⟩⟩) ?_
  refine ed_ (.inl ⟨nofun, rfl, fun x y hS hT hk => dfa (wn rfl) (hT.ev rfl) fo52_4 ⟨SM.refl _, rfl⟩⟩) ?_
  exact eachD_one
 rintro a82 w83 hA84 ⟨hS86, hC87⟩
 have hA88 : St 81 [(0, (.pointer (some ⟨g, 0, none⟩))), (3, (.pointer (some ⟨g3, 0, none⟩))), (4, (.bool false)), (5, (.pointer (some ⟨g35, 0, none⟩))), (25, (.agg #[.int .i64 i.loc, .int .i64 (maskR (placeR (B i.off) (B (orR r i.index 0)) i.size) i.size)])), (26, (.pointer (some ⟨g35, 4, none⟩)))] a82 := hA84.cut _ (fc (hA84.get 0 _ rfl) (fc (hA84.get 3 _ rfl) (fc (hA84.get 4 _ rfl) (fc (hA84.get 5 _ rfl) (fc (hC87 6 (Nat.le_of_ble_eq_true rfl)) (fc (hC87 7 (Nat.le_of_ble_eq_true rfl)) fn_))))))
 have hG89 : Grow w69 w83 := Grow.trans ((Grow.refl _).drew) (SM.grown (by rw [hM81] at hS86; exact hS86))
 have m90 := m74.grow hG89
 have m91 := m75.grow hG89
 have m92 := m76.grow hG89
 have b93 := blg b77 hG89 (Nat.le_trans hB b77.size)
 have ho94 := owg hG89 ho78
 have ho95 := owg hG89 ho79
 refine d_store2 (wn rfl) (hA88.ev rfl) (hA88.ev rfl) row50 rfl rfl m92 (Nat.le_of_ble_eq_true rfl) ?_
 intro w96 hU97 (m98 : Blk w96 g35 #[.int .i64 0, .int .i64 ((path.length : Nat) : Int), .int .i64 p, .int .i64 6, .int .i64 i.loc, .int .i64 (maskR (placeR (B i.off) (B (orR r i.index 0)) i.size) i.size), .bool true, .bool true, .int .i64 0, .int .i64 0, .bool i.acq, .bool i.weak, .bool i.rel, .int .i64 i.pred, .int .i64 i.succ] 52)
 have m99 := m90.upd hU97 n41
 have m100 := m91.upd hU97 n42
 have b101 := hU97.below b93 ge40
 have ho102 := own_upd ho94 hU97 off43
 have ho103 := own_upd ho95 hU97 off44
 refine tn_ ?_
 refine wp_seq ?_
 refine wp_seq ?_
 refine wp_region_lit ?_
 refine qs hA88 rfl (dfa (wn rfl) (hA88.ev rfl) fo52_5 ?_)
 intro a104 hA105
 refine qs hA105 rfl (dld (v := (.bool true)) (wn rfl) (hA105.ev rfl) one4 (m98.cell rfl) ?_)
 intro a106 hA107
 refine qe_ ?_
 refine tn_ ?_
 refine c_true hA107 rfl ?_
 refine wp_seq ?_
 refine wp_seq ?_
 refine wp_region_lit ?_
 refine qs hA107 rfl (dmv (wn rfl) (hA107.ev rfl) ?_)
 intro a108 hA109
 refine qs hA109 rfl (dnc (wn rfl) (hA109.ev rfl) ?_)
 intro a110 hA111
 refine qs hA111 rfl (dfa (wn rfl) (hA111.ev rfl) fo62_2 ?_)
 intro a112 hA113
 refine qs hA113 rfl (dld (v := rd) (wn rfl) (hA113.ev rfl) one30 (m99.cell rfl) ?_)
 intro a114 hA115
 refine qs hA115 rfl (dle (n := 0) (wn rfl) (hA115.ev rfl) slc30 hrd.form ?_)
 intro a116 hA117
 refine qs hA117 rfl (dbn (wn rfl) (hA117.ev rfl) (hA117.ev rfl) (b_eq _ _ 0 0 true _ rfl) ?_)
 intro a118 hA119
 refine qe_ ?_
 refine tn_ ?_
 refine c_true hA119 rfl ?_
 refine wp_seq ?_
 refine wp_region_lit ?_
 refine qs hA119 rfl (das (wn rfl) (hA119.ev rfl) ?_)
 intro a120 hA121
 refine qe_ ?_
 refine tn_ ?_
 refine wp_ret ?_
 refine t_ret ?_
 refine t_ret ?_
 refine ret1 rfl hA121 (v := (.bool false)) rfl ?_
 exact ⟨rfl, b101⟩
end Go.Proofs.Ytlhompedcphnnaa
/- A step of the walk. -/
namespace Go.Proofs.Ytlhompedcphnnaa
open Go.RowKit
set_option linter.unusedSimpArgs false
set_option linter.unusedVariables false
set_option maxHeartbeats 4000000 in
set_option maxRecDepth 4000 in
theorem step_5 (Bd g : Nat) (p : Int) (r : Nat → Int) (rd ev pa : Value) (i : Ins) (rds : List Int) (evs : List Ev) (path : List Int) (w : World) (hB : Bd ≤ w.heap.size) (hW : WS Bd g w p r rds evs path rd ev pa) (hne : evs.length ≤ 1000) (hnp : path.length ≤ 1000) (hr : ∀ k, wfI (r k)) (hp : 0 ≤ p) (hp2 : p ≤ 1000) (hix : ronB i.index = true) (hoff : wfI i.off) (ha : ronB i.a = true) (himm : wfI i.imm) : Calls Try.prog 36 #[.pointer (some ⟨g, 0, none⟩), .agg (insC ⟨5, i.dst, i.a, i.b, i.imm, i.loc, i.off, i.index, i.size, i.fn, i.acq, i.weak, i.rel, i.pred, i.succ, i.to, i.zero⟩)] w fun e w' => e = .returned (.bool true) ∧ Below Bd w w' ∧ ∃ rd' ev' pa', WS Bd g w' (p + 1) r rds (evs ++ [acc5 i r path.length p]) (path ++ [p]) rd' ev' pa' := by
 obtain ⟨hb, hge, hrd, hev, hpa, oe, op_, ap⟩ := hW
 have ap2 : ∀ k, ev.ownBlock = some k → pa.ownBlock ≠ some k := fun k h1 h2 => ap k h2 h1
 have b0 : Below Bd w w := Below.refl _ _
 refine enter (n := 117) Try.func36 rfl rfl (Nat.le_of_ble_eq_true rfl) ?_
 intro a1 hA2
 refine wp_seq ?_
 refine wp_region_lit ?_
 refine qs hA2 rfl (d_box (wn rfl) (hA2.ev rfl) ?_)
 intro g3 w4 eg5 hG6 (m7 : Blk w4 g3 (insC ⟨5, i.dst, i.a, i.b, i.imm, i.loc, i.off, i.index, i.size, i.fn, i.acq, i.weak, i.rel, i.pred, i.succ, i.to, i.zero⟩) 23)
 have ge8 : Bd ≤ g3 := eg5 ▸ (Nat.le_trans hB b0.size)
 have n9 : g ≠ g3 := fun h => Nat.lt_irrefl _ ((h.trans eg5) ▸ hb.lt)
 have off10 := own_new hev eg5
 have off11 := own_new hpa eg5
 have m12 := hb.grow hG6
 have b13 := blg b0 hG6 (Nat.le_trans hB b0.size)
 have ho14 := owg hG6 hev
 have ho15 := owg hG6 hpa
 intro a16 hA17
 refine qs hA17 rfl (das (wn rfl) (hA17.ev rfl) ?_)
 intro a18 hA19
 refine qe_ ?_
 refine tn_ ?_
 refine wp_seq ?_
 refine wp_region_lit ?_
 refine qs hA19 rfl (dmv (wn rfl) (hA19.ev rfl) ?_)
 intro a20 hA21
 refine qs hA21 rfl (dnc (wn rfl) (hA21.ev rfl) ?_)
 intro a22 hA23
 refine qs hA23 rfl (dfa (wn rfl) (hA23.ev rfl) fo62_0 ?_)
 intro a24 hA25
 refine qs hA25 rfl (dld (v := (.int .i64 p)) (wn rfl) (hA25.ev rfl) one3 (m12.cell rfl) ?_)
 intro a26 hA27
 refine qs hA27 rfl (dbn (wn rfl) (hA27.ev rfl) (hA27.ev rfl) (b_add _ _ p 1 _ (by omega) (by omega)) ?_)
 intro a28 hA29
 refine qs hA29 rfl (das (wn rfl) (hA29.ev rfl) ?_)
 intro a30 hA31
 refine qe_ ?_
 refine tn_ ?_
 refine wp_seq ?_
 refine wp_seq ?_
 refine wp_region_lit ?_
 refine qs hA31 rfl (dfa (wn rfl) (hA31.ev rfl) fo23_0 ?_)
 intro a32 hA33
 refine qs hA33 rfl (dld (v := (.int .i64 5)) (wn rfl) (hA33.ev rfl) one3 (m7.cell rfl) ?_)
 intro a34 hA35
 refine qe_ ?_
 refine tn_ ?_
 refine wp_block ?_
 refine wp_seq ?_
 refine wp_region_lit ?_
 refine qs hA35 rfl (dbn (wn rfl) (hA35.ev rfl) (hA35.ev rfl) (b_eq _ _ 5 1 false _ rfl) ?_)
 intro a36 hA37
 refine qs hA37 rfl (das (wn rfl) (hA37.ev rfl) ?_)
 intro a38 hA39
 refine qe_ ?_
 refine tn_ ?_
 refine c_false hA39 rfl ?_
 refine wp_seq ?_
 refine wp_region_lit ?_
 refine qs hA39 rfl (dbn (wn rfl) (hA39.ev rfl) (hA39.ev rfl) (b_eq _ _ 5 2 false _ rfl) ?_)
 intro a40 hA41
 refine qs hA41 rfl (das (wn rfl) (hA41.ev rfl) ?_)
 intro a42 hA43
 refine qe_ ?_
 refine tn_ ?_
 refine c_false hA43 rfl ?_
 refine wp_seq ?_
 refine wp_region_lit ?_
 refine qs hA43 rfl (dbn (wn rfl) (hA43.ev rfl) (hA43.ev rfl) (b_eq _ _ 5 3 false _ rfl) ?_)
 intro a44 hA45
 refine qs hA45 rfl (das (wn rfl) (hA45.ev rfl) ?_)
 intro a46 hA47
 refine qe_ ?_
 refine tn_ ?_
 refine c_false hA47 rfl ?_
 refine wp_seq ?_
 refine wp_seq ?_
 refine wp_region_lit ?_
 refine qs hA47 rfl (dbn (wn rfl) (hA47.ev rfl) (hA47.ev rfl) (b_eq _ _ 5 4 false _ rfl) ?_)
 intro a48 hA49
 refine qs hA49 rfl (das (wn rfl) (hA49.ev rfl) ?_)
 intro a50 hA51
 refine qe_ ?_
 refine tn_ ?_
 refine c_false hA51 rfl ?_
 refine wp_seq ?_
 refine wp_region_lit ?_
 refine qs hA51 rfl (dbn (wn rfl) (hA51.ev rfl) (hA51.ev rfl) (b_eq _ _ 5 5 true _ rfl) ?_)
 intro a52 hA53
 refine qs hA53 rfl (das (wn rfl) (hA53.ev rfl) ?_)
 intro a54 hA55
 refine qe_ ?_
 refine tn_ ?_
 refine c_true hA55 rfl ?_
 refine wp_skip ?_
 refine tn_ ?_
 refine c_true hA55 rfl ?_
 refine wp_seq ?_
 refine wp_region_lit ?_
 refine qs hA55 rfl (dmv (wn rfl) (hA55.ev rfl) ?_)
 intro a56 hA57
 refine qs hA57 rfl (dlr (cs := (insC ⟨5, i.dst, i.a, i.b, i.imm, i.loc, i.off, i.index, i.size, i.fn, i.acq, i.weak, i.rel, i.pred, i.succ, i.to, i.zero⟩)) (wn rfl) (hA57.ev rfl) row23 m7 ?_)
 intro a58 hA59
 refine qs hA59 rfl (dcl (wn rfl) ent48 (map2 (hA59.ev rfl) (hA59.ev rfl)) (access_5 Bd g p r rd ev pa i rds evs path w4 (Nat.le_trans hB b13.size) ⟨m12, hge, (hrd.below b13), ho14, ho15, oe, op_, ap⟩ hne hnp hr hix hoff ha himm) ?_)
 rintro e63 w60 ⟨he62, bl64, rd65, ev66, pa67, hb68, _, hrd69, hev70, hpa71, oe72, op73, ap74⟩
 have ap75 : ∀ k, ev66.ownBlock = some k → pa67.ownBlock ≠ some k := fun k h1 h2 => ap74 k h2 h1
 have b76 := b13.trans bl64
 refine ⟨.bool true, he62, ?_⟩
 intro a77 hA78
 refine qs hA78 rfl (dnt (wn rfl) (hA78.ev rfl) ?_)
 intro a79 hA80
 refine qe_ ?_
 refine tn_ ?_
 refine c_false hA80 rfl ?_
 refine wp_skip ?_
 refine i_norm ?_
 refine tn_ ?_
 refine wp_seq ?_
 have hA81 : St 117 [(0, (.pointer (some ⟨g, 0, none⟩))), (4, (.bool false)), (5, (.int .i64 (p + 1)))] a79 := hA80.sub rfl
 let M82 : Nat → Option (Array Value) := fun _ => none
 have hM82 : M82 = fun _ => none := rfl
 clear_value M82
 have hM82A : ∀ k, M82 k = none := fun k => congrFun hM82 k
 have hM82B : ∀ k, k < Bd → M82 k = none := fun k _ => hM82A k
 refine drawnL (S := SM M82) rfl (tabQ [some (.pointer (some ⟨g, 0, none⟩)), some (.pointer (some ⟨g, 0, none⟩)), some (.pointer (some ⟨g, 0, none⟩)), some (.pointer (some ⟨g, 11, none⟩)), none, some (.pointer (some ⟨g, 0, none⟩)), some (.pointer (some ⟨g, 0, none⟩)), some (.pointer (some ⟨g, 0, none⟩)), none, none, none, some (.pointer (some ⟨g, 0, none⟩)), some (.pointer (some ⟨g, 11, none⟩))] [cv (.pointer (some ⟨g, 0, none⟩)), cv (.pointer (some ⟨g, 0, none⟩)), cv (.pointer (some ⟨g, 0, none⟩)), cv (.pointer (some ⟨g, 11, none⟩)), cv pa67, cv (.pointer (some ⟨g, 0, none⟩)), cv (.pointer (some ⟨g, 0, none⟩)), cv (.pointer (some ⟨g, 0, none⟩)), cv (.int .i64 p), cs1 M82 hM82A #[.int .i64 p] 3, cfree, cv (.pointer (some ⟨g, 0, none⟩)), cv (.pointer (some ⟨g, 11, none⟩))]) (some 10) (fun i => (([some (.pointer (some ⟨g, 0, none⟩)), some (.pointer (some ⟨g, 0, none⟩)), some (.pointer (some ⟨g, 0, none⟩)), some (.pointer (some ⟨g, 11, none⟩)), none, some (.pointer (some ⟨g, 0, none⟩)), some (.pointer (some ⟨g, 0, none⟩)), some (.pointer (some ⟨g, 0, none⟩)), none, none, none, some (.pointer (some ⟨g, 0, none⟩)), some (.pointer (some ⟨g, 11, none⟩))] : List (Option Value))[i]?).getD none) (fun v' w' => w'.ownsRow Bd 3 1 v' (path.length + 1) ((paE path) ++ (#[.int .i64 p] : Array Value).toList) ∧ Below Bd w w' ∧ Blk w' g (walkC p r rd65 ev66 pa67) 62 ∧ w'.ownsRow Bd 52 15 ev66 ((evs ++ [acc5 i r path.length p]).length) (evE (evs ++ [acc5 i r path.length p])) ∧ v'.ownBlock ≠ some g ∧ ∀ k, ev66.ownBlock = some k → v'.ownBlock ≠ some k) [12, 10, 0, 1, 2, 3, 4, 5, 6, 7, 8, 9, 11] [4, 9, 3, 8, 2, 7, 1, 6, 5] mixedY SM.refl SM.trans hA81 (by kernel_rfl) (by kernel_rfl) (tabQ_cv _ _) ?_ ?_
 ·skip
  refine ed_ (.inr (.inl ⟨by decide, _, rfl, fun x y hT hk hk0 => dmv (wn rfl) (hT.ev rfl) ⟨rfl, rfl⟩⟩)) ?_
  refine ed_ (.inr (.inl ⟨by decide, _, rfl, fun x y hT hk hk0 => dmv (wn rfl) (hT.ev rfl) ⟨rfl, rfl⟩⟩)) ?_
  refine ed_ (.inr (.inl ⟨by decide, _, rfl, fun x y hT hk hk0 => dnc (wn rfl) (hk 1 _ rfl rfl) ⟨rfl, rfl⟩⟩)) ?_
  refine ed_ (.inr (.inl ⟨by decide, _, rfl, fun x y hT hk hk0 => dfa (wn rfl) (hk 2 _ rfl rfl) fo62_4 ⟨rfl, rfl⟩⟩)) ?_
  refine ed_ (.inl ⟨by decide, rfl, fun x y hS hT hk => dld (v := pa67) (wn rfl) (hk 3 rfl) one30 ((Blk.sm (w := w60.drew) hb68 hS (hM82A _)).cell rfl) ⟨SM.refl _, rfl⟩⟩) ?_
  refine ed_ (.inr (.inl ⟨by decide, _, rfl, fun x y hT hk hk0 => dmv (wn rfl) (hT.ev rfl) ⟨rfl, rfl⟩⟩)) ?_
  refine ed_ (.inr (.inl ⟨by decide, _, rfl, fun x y hT hk hk0 => dnc (wn rfl) (hk 5 _ rfl rfl) ⟨rfl, rfl⟩⟩)) ?_
  refine ed_ (.inr (.inl ⟨by decide, _, rfl, fun x y hT hk hk0 => dfa (wn rfl) (hk 6 _ rfl rfl) fo62_0 ⟨rfl, rfl⟩⟩)) ?_
  refine ed_ (.inl ⟨by decide, rfl, fun x y hS hT hk => dld (v := (.int .i64 p)) (wn rfl) (hk 7 rfl) one3 ((Blk.sm (w := w60.drew) hb68 hS (hM82A _)).cell rfl) ⟨SM.refl _, rfl⟩⟩) ?_
  refine ed_ (.inl ⟨by decide, rfl, fun x y hS hT hk => d_slice1 (wn rfl) (show x.eval _ = (.int .i64 p) from (hk 8 rfl)) elm30 rfl (by decide) (fun g w' _ hG hb => ⟨SM.grow hG, g, rfl, hb⟩)⟩) ?_
  refine ed_ (.inr (.inr ⟨rfl, fun x y hS hT hk => ?_⟩)) ?_
  ·skip
   obtain ⟨gb, hvb, hbb⟩ := hk 9 rfl
   have hG : Grow w60 y := Grow.trans ((Grow.refl _).drew) (SM.grown (by rw [hM82] at hS; exact hS))
   have hR := owg hG hpa71
   have hO := owg hG hev70
   have hBl := blg b76 hG (Nat.le_trans hB b76.size)
   refine d_append (wn rfl) (show x.eval _ = pa67 from (hk 4 rfl)) hvb elm30 hR hbb rfl rfl (by omega) (by decide) (Nat.le_trans hB hBl.size) ?_
   intro v' w' h1 h2 h3
   exact ⟨h1, below_by hBl h2 (Nat.le_trans hB hBl.size) (fun k hk => (own_lt hR k hk).1), (hb68.grow hG).by h2 op73, own_by hO h2 ap75, lies_ne h3 op73 (hb68.grow hG).lt, lies_ap h3 ap75 hO⟩
  refine ed_ (.inr (.inl ⟨by decide, _, rfl, fun x y hT hk hk0 => dnc (wn rfl) (hk 0 _ rfl rfl) ⟨rfl, rfl⟩⟩)) ?_
  refine ed_ (.inr (.inl ⟨by decide, _, rfl, fun x y hT hk hk0 => dfa (wn rfl) (hk 11 _ rfl rfl) fo62_4 ⟨rfl, rfl⟩⟩)) ?_
  exact eachD_one
 rintro a83 w84 hA85 ⟨hP87, hW88⟩
 obtain ⟨v89, hv90⟩ : ∃ v', v' = (a83.tmps.getD 110 undef) := ⟨_, rfl⟩
 have hW91 : (fun v' w' => w'.ownsRow Bd 3 1 v' (path.length + 1) ((paE path) ++ (#[.int .i64 p] : Array Value).toList) ∧ Below Bd w w' ∧ Blk w' g (walkC p r rd65 ev66 pa67) 62 ∧ w'.ownsRow Bd 52 15 ev66 ((evs ++ [acc5 i r path.length p]).length) (evE (evs ++ [acc5 i r path.length p])) ∧ v'.ownBlock ≠ some g ∧ ∀ k, ev66.ownBlock = some k → v'.ownBlock ≠ some k) v89 w84 := by rw [hv90]; exact hW88
 obtain ⟨ho92, b93, m94, ho95, off96, ap97⟩ := hW91
 have ap98 : ∀ k, v89.ownBlock = some k → ev66.ownBlock ≠ some k := fun k h1 h2 => ap97 k h2 h1
 have hA99 : St 117 [(0, (.pointer (some ⟨g, 0, none⟩))), (4, (.bool false)), (5, (.int .i64 (p + 1))), (110, v89), (112, (.pointer (some ⟨g, 11, none⟩)))] a83 := hA85.cut _ (fc (hA85.get 0 _ rfl) (fc (hA85.get 4 _ rfl) (fc (hA85.get 5 _ rfl) (fc hv90.symm (fc (hP87 12 _ (Nat.le_of_ble_eq_true rfl) (by decide) rfl) fn_)))))
 refine dst_ (v := v89) (wn rfl) (hA99.ev rfl) (hA99.ev rfl) one30 (one_slice (own_form ho92)) m94 (Nat.le_of_ble_eq_true rfl) ?_
 intro w100 hU101 (m102 : Blk w100 g (walkC p r rd65 ev66 v89) 62)
 have b103 := hU101.below b93 hge
 have ho104 := own_upd ho95 hU101 oe72
 have ho105 := own_upd ho92 hU101 off96
 refine tn_ ?_
 refine wp_seq ?_
 refine wp_region_lit ?_
 refine qs hA99 rfl (dmv (wn rfl) (hA99.ev rfl) ?_)
 intro a106 hA107
 refine qs hA107 rfl (dmv (wn rfl) (hA107.ev rfl) ?_)
 intro a108 hA109
 refine qs hA109 rfl (dnc (wn rfl) (hA109.ev rfl) ?_)
 intro a110 hA111
 refine qs hA111 rfl (dfa (wn rfl) (hA111.ev rfl) fo62_0 ?_)
 intro a112 hA113
 refine qs hA113 rfl (dst_ (v := (.int .i64 (p + 1))) (wn rfl) (hA113.ev rfl) (hA113.ev rfl) one3 rfl m102 (Nat.le_of_ble_eq_true rfl) ?_)
 intro w114 hU115 (m116 : Blk w114 g (walkC (p + 1) r rd65 ev66 v89) 62)
 have b117 := hU115.below b103 hge
 have ho118 := own_upd ho104 hU115 oe72
 have ho119 := own_upd ho105 hU115 off96
 intro a120 hA121
 refine qe_ ?_
 refine tn_ ?_
 refine wp_seq ?_
 refine wp_region_lit ?_
 refine qs hA121 rfl (das (wn rfl) (hA121.ev rfl) ?_)
 intro a122 hA123
 refine qe_ ?_
 refine tn_ ?_
 refine wp_ret ?_
 refine ret1 rfl hA123 (v := (.bool true)) rfl ?_
 exact ⟨rfl, b117, rd65, ev66, v89, m116, hge, (Sl.via hrd69 b76 b117), ho118, (by rw [List.length_append, ← paE_snoc]; exact ho119), oe72, off96, ap98⟩
set_option maxHeartbeats 4000000 in
set_option maxRecDepth 4000 in
theorem step_4 (Bd g : Nat) (p : Int) (r : Nat → Int) (rd ev pa : Value) (i : Ins) (d : Nat) (u0 : Int) (rl : List Int) (evs : List Ev) (path : List Int) (w : World) (hB : Bd ≤ w.heap.size) (hW : WS Bd g w p r (u0 :: rl) evs path rd ev pa) (hne : evs.length ≤ 1000) (hnp : path.length ≤ 1000) (hr : ∀ k, wfI (r k)) (hp : 0 ≤ p) (hp2 : p ≤ 1000) (hix : ronB i.index = true) (hoff : wfI i.off) (hd : d < 8) (hu0 : wfI u0) : Calls Try.prog 36 #[.pointer (some ⟨g, 0, none⟩), .agg (insC ⟨4, ((d : Nat) : Int), i.a, i.b, i.imm, i.loc, i.off, i.index, i.size, i.fn, i.acq, i.weak, i.rel, i.pred, i.succ, i.to, i.zero⟩)] w fun e w' => e = .returned (.bool true) ∧ Below Bd w w' ∧ ∃ rd' ev' pa', WS Bd g w' (p + 1) (updR r d (I (getR (B u0) 0 i.size))) rl (evs ++ [acc4 i r path.length p u0]) (path ++ [p]) rd' ev' pa' := by
 obtain ⟨hb, hge, hrd, hev, hpa, oe, op_, ap⟩ := hW
 have ap2 : ∀ k, ev.ownBlock = some k → pa.ownBlock ≠ some k := fun k h1 h2 => ap k h2 h1
 have b0 : Below Bd w w := Below.refl _ _
 refine enter (n := 117) Try.func36 rfl rfl (Nat.le_of_ble_eq_true rfl) ?_
 intro a1 hA2
 refine wp_seq ?_
 refine wp_region_lit ?_
 refine qs hA2 rfl (d_box (wn rfl) (hA2.ev rfl) ?_)
 intro g3 w4 eg5 hG6 (m7 : Blk w4 g3 (insC ⟨4, ((d : Nat) : Int), i.a, i.b, i.imm, i.loc, i.off, i.index, i.size, i.fn, i.acq, i.weak, i.rel, i.pred, i.succ, i.to, i.zero⟩) 23)
 have ge8 : Bd ≤ g3 := eg5 ▸ (Nat.le_trans hB b0.size)
 have n9 : g ≠ g3 := fun h => Nat.lt_irrefl _ ((h.trans eg5) ▸ hb.lt)
 have off10 := own_new hev eg5
 have off11 := own_new hpa eg5
 have m12 := hb.grow hG6
 have b13 := blg b0 hG6 (Nat.le_trans hB b0.size)
 have ho14 := owg hG6 hev
 have ho15 := owg hG6 hpa
 intro a16 hA17
 refine qs hA17 rfl (das (wn rfl) (hA17.ev rfl) ?_)
 intro a18 hA19
 refine qe_ ?_
 refine tn_ ?_
 refine wp_seq ?_
 refine wp_region_lit ?_
 refine qs hA19 rfl (dmv (wn rfl) (hA19.ev rfl) ?_)
 intro a20 hA21
 refine qs hA21 rfl (dnc (wn rfl) (hA21.ev rfl) ?_)
 intro a22 hA23
 refine qs hA23 rfl (dfa (wn rfl) (hA23.ev rfl) fo62_0 ?_)
 intro a24 hA25
 refine qs hA25 rfl (dld (v := (.int .i64 p)) (wn rfl) (hA25.ev rfl) one3 (m12.cell rfl) ?_)
 intro a26 hA27
 refine qs hA27 rfl (dbn (wn rfl) (hA27.ev rfl) (hA27.ev rfl) (b_add _ _ p 1 _ (by omega) (by omega)) ?_)
 intro a28 hA29
 refine qs hA29 rfl (das (wn rfl) (hA29.ev rfl) ?_)
 intro a30 hA31
 refine qe_ ?_
 refine tn_ ?_
 refine wp_seq ?_
 refine wp_seq ?_
 refine wp_region_lit ?_
 refine qs hA31 rfl (dfa (wn rfl) (hA31.ev rfl) fo23_0 ?_)
 intro a32 hA33
 refine qs hA33 rfl (dld (v := (.int .i64 4)) (wn rfl) (hA33.ev rfl) one3 (m7.cell rfl) ?_)
 intro a34 hA35
 refine qe_ ?_
 refine tn_ ?_
 refine wp_block ?_
 refine wp_seq ?_
 refine wp_region_lit ?_
 refine qs hA35 rfl (dbn (wn rfl) (hA35.ev rfl) (hA35.ev rfl) (b_eq _ _ 4 1 false _ rfl) ?_)
 intro a36 hA37
 refine qs hA37 rfl (das (wn rfl) (hA37.ev rfl) ?_)
 intro a38 hA39
 refine qe_ ?_
 refine tn_ ?_
 refine c_false hA39 rfl ?_
 refine wp_seq ?_
 refine wp_region_lit ?_
 refine qs hA39 rfl (dbn (wn rfl) (hA39.ev rfl) (hA39.ev rfl) (b_eq _ _ 4 2 false _ rfl) ?_)
 intro a40 hA41
 refine qs hA41 rfl (das (wn rfl) (hA41.ev rfl) ?_)
 intro a42 hA43
 refine qe_ ?_
 refine tn_ ?_
 refine c_false hA43 rfl ?_
 refine wp_seq ?_
 refine wp_region_lit ?_
 refine qs hA43 rfl (dbn (wn rfl) (hA43.ev rfl) (hA43.ev rfl) (b_eq _ _ 4 3 false _ rfl) ?_)
 intro a44 hA45
 refine qs hA45 rfl (das (wn rfl) (hA45.ev rfl) ?_)
 intro a46 hA47
 refine qe_ ?_
 refine tn_ ?_
 refine c_false hA47 rfl ?_
 refine wp_seq ?_
 refine wp_seq ?_
 refine wp_region_lit ?_
 refine qs hA47 rfl (dbn (wn rfl) (hA47.ev rfl) (hA47.ev rfl) (b_eq _ _ 4 4 true _ rfl) ?_)
 intro a48 hA49
 refine qs hA49 rfl (das (wn rfl) (hA49.ev rfl) ?_)
 intro a50 hA51
 refine qe_ ?_
 refine tn_ ?_
 refine c_true hA51 rfl ?_
 refine wp_skip ?_
 refine tn_ ?_
 refine c_true hA51 rfl ?_
 refine wp_seq ?_
 refine wp_region_lit ?_
 refine qs hA51 rfl (dmv (wn rfl) (hA51.ev rfl) ?_)
 intro a52 hA53
 refine qs hA53 rfl (dlr (cs := (insC ⟨4, ((d : Nat) : Int), i.a, i.b, i.imm, i.loc, i.off, i.index, i.size, i.fn, i.acq, i.weak, i.rel, i.pred, i.succ, i.to, i.zero⟩)) (wn rfl) (hA53.ev rfl) row23 m7 ?_)
 intro a54 hA55
 refine qs hA55 rfl (dcl (wn rfl) ent48 (map2 (hA55.ev rfl) (hA55.ev rfl)) (access_4 Bd g p r rd ev pa i d u0 rl evs path w4 (Nat.le_trans hB b13.size) ⟨m12, hge, (hrd.below b13), ho14, ho15, oe, op_, ap⟩ hne hnp hr hix hoff hd hu0) ?_)
 rintro e59 w56 ⟨he58, bl60, rd61, ev62, pa63, hb64, _, hrd65, hev66, hpa67, oe68, op69, ap70⟩
 have ap71 : ∀ k, ev62.ownBlock = some k → pa63.ownBlock ≠ some k := fun k h1 h2 => ap70 k h2 h1
 have b72 := b13.trans bl60
 refine ⟨.bool true, he58, ?_⟩
 intro a73 hA74
 refine qs hA74 rfl (dnt (wn rfl) (hA74.ev rfl) ?_)
 intro a75 hA76
 refine qe_ ?_
 refine tn_ ?_
 refine c_false hA76 rfl ?_
 refine wp_skip ?_
 refine i_norm ?_
 refine tn_ ?_
 refine wp_seq ?_
 have hA77 : St 117 [(0, (.pointer (some ⟨g, 0, none⟩))), (4, (.bool false)), (5, (.int .i64 (p + 1)))] a75 := hA76.sub rfl
 let M78 : Nat → Option (Array Value) := fun _ => none
 have hM78 : M78 = fun _ => none := rfl
 clear_value M78
 have hM78A : ∀ k, M78 k = none := fun k => congrFun hM78 k
 have hM78B : ∀ k, k < Bd → M78 k = none := fun k _ => hM78A k
 refine drawnL (S := SM M78) rfl (tabQ [some (.pointer (some ⟨g, 0, none⟩)), some (.pointer (some ⟨g, 0, none⟩)), some (.pointer (some ⟨g, 0, none⟩)), some (.pointer (some ⟨g, 11, none⟩)), none, some (.pointer (some ⟨g, 0, none⟩)), some (.pointer (some ⟨g, 0, none⟩)), some (.pointer (some ⟨g, 0, none⟩)), none, none, none, some (.pointer (some ⟨g, 0, none⟩)), some (.pointer (some ⟨g, 11, none⟩))] [cv (.pointer (some ⟨g, 0, none⟩)), cv (.pointer (some ⟨g, 0, none⟩)), cv (.pointer (some ⟨g, 0, none⟩)), cv (.pointer (some ⟨g, 11, none⟩)), cv pa63, cv (.pointer (some ⟨g, 0, none⟩)), cv (.pointer (some ⟨g, 0, none⟩)), cv (.pointer (some ⟨g, 0, none⟩)), cv (.int .i64 p), cs1 M78 hM78A #[.int .i64 p] 3, cfree, cv (.pointer (some ⟨g, 0, none⟩)), cv (.pointer (some ⟨g, 11, none⟩))]) (some 10) (fun i => (([some (.pointer (some ⟨g, 0, none⟩)), some (.pointer (some ⟨g, 0, none⟩)), some (.pointer (some ⟨g, 0, none⟩)), some (.pointer (some ⟨g, 11, none⟩)), none, some (.pointer (some ⟨g, 0, none⟩)), some (.pointer (some ⟨g, 0, none⟩)), some (.pointer (some ⟨g, 0, none⟩)), none, none, none, some (.pointer (some ⟨g, 0, none⟩)), some (.pointer (some ⟨g, 11, none⟩))] : List (Option Value))[i]?).getD none) (fun v' w' => w'.ownsRow Bd 3 1 v' (path.length + 1) ((paE path) ++ (#[.int .i64 p] : Array Value).toList) ∧ Below Bd w w' ∧ Blk w' g (walkC p (updR r d (I (getR (B u0) 0 i.size))) rd61 ev62 pa63) 62 ∧ w'.ownsRow Bd 52 15 ev62 ((evs ++ [acc4 i r path.length p u0]).length) (evE (evs ++ [acc4 i r path.length p u0])) ∧ v'.ownBlock ≠ some g ∧ ∀ k, ev62.ownBlock = some k → v'.ownBlock ≠ some k) [12, 10, 0, 1, 2, 3, 4, 5, 6, 7, 8, 9, 11] [4, 9, 3, 8, 2, 7, 1, 6, 5] mixedY SM.refl SM.trans hA77 (by kernel_rfl) (by kernel_rfl) (tabQ_cv _ _) ?_ ?_
 ·skip
  refine ed_ (.inr (.inl ⟨by decide, _, rfl, fun x y hT hk hk0 => dmv (wn rfl) (hT.ev rfl) ⟨rfl, rfl⟩⟩)) ?_
  refine ed_ (.inr (.inl ⟨by decide, _, rfl, fun x y hT hk hk0 => dmv (wn rfl) (hT.ev rfl) ⟨rfl, rfl⟩⟩)) ?_
  refine ed_ (.inr (.inl ⟨by decide, _, rfl, fun x y hT hk hk0 => dnc (wn rfl) (hk 1 _ rfl rfl) ⟨rfl, rfl⟩⟩)) ?_
  refine ed_ (.inr (.inl ⟨by decide, _, rfl, fun x y hT hk hk0 => dfa (wn rfl) (hk 2 _ rfl rfl) fo62_4 ⟨rfl, rfl⟩⟩)) ?_
  refine ed_ (.inl ⟨by decide, rfl, fun x y hS hT hk => dld (v := pa63) (wn rfl) (hk 3 rfl) one30 ((Blk.sm (w := w56.drew) hb64 hS (hM78A _)).cell rfl) ⟨SM.refl _, rfl⟩⟩) ?_
  refine ed_ (.inr (.inl ⟨by decide, _, rfl, fun x y hT hk hk0 => dmv (wn rfl) (hT.ev rfl) ⟨rfl, rfl⟩⟩)) ?_
  refine ed_ (.inr (.inl ⟨by decide, _, rfl, fun x y hT hk hk0 => dnc (wn rfl) (hk 5 _ rfl rfl) ⟨rfl, rfl⟩⟩)) ?_
  refine ed_ (.inr (.inl ⟨by decide, _, rfl, fun x y hT hk hk0 => dfa (wn rfl) (hk 6 _ rfl rfl) fo62_0 ⟨rfl, rfl⟩⟩)) ?_
  refine ed_ (.inl ⟨by decide, rfl, fun x y hS hT hk => dld (v := (.int .i64 p)) (wn rfl) (hk 7 rfl) one3 ((Blk.sm (w := w56.drew) hb64 hS (hM78A _)).cell rfl) ⟨SM.refl _, rfl⟩⟩) ?_
  refine ed_ (.inl ⟨by decide, rfl, fun x y hS hT hk => d_slice1 (wn rfl) (show x.eval _ = (.int .i64 p) from (hk 8 rfl)) elm30 rfl (by decide) (fun g w' _ hG hb => ⟨SM.grow hG, g, rfl, hb⟩)⟩) ?_
  refine ed_ (.inr (.inr ⟨rfl, fun x y hS hT hk => ?_⟩)) ?_
  ·skip
   obtain ⟨gb, hvb, hbb⟩ := hk 9 rfl
   have hG : Grow w56 y := Grow.trans ((Grow.refl _).drew) (SM.grown (by rw [hM78] at hS; exact hS))
   have hR := owg hG hpa67
   have hO := owg hG hev66
   have hBl := blg b72 hG (Nat.le_trans hB b72.size)
   refine d_append (wn rfl) (show x.eval _ = pa63 from (hk 4 rfl)) hvb elm30 hR hbb rfl rfl (by omega) (by decide) (Nat.le_trans hB hBl.size) ?_
   intro v' w' h1 h2 h3
   exact ⟨h1, below_by hBl h2 (Nat.le_trans hB hBl.size) (fun k hk => (own_lt hR k hk).1), (hb64.grow hG).by h2 op69, own_by hO h2 ap71, lies_ne h3 op69 (hb64.grow hG).lt, lies_ap h3 ap71 hO⟩
  refine ed_ (.inr (.inl ⟨by decide, _, rfl, fun x y hT hk hk0 => dnc (wn rfl) (hk 0 _ rfl rfl) ⟨rfl, rfl⟩⟩)) ?_
  refine ed_ (.inr (.inl ⟨by decide, _, rfl, fun x y hT hk hk0 => dfa (wn rfl) (hk 11 _ rfl rfl) fo62_4 ⟨rfl, rfl⟩⟩)) ?_
  exact eachD_one
 rintro a79 w80 hA81 ⟨hP83, hW84⟩
 obtain ⟨v85, hv86⟩ : ∃ v', v' = (a79.tmps.getD 110 undef) := ⟨_, rfl⟩
 have hW87 : (fun v' w' => w'.ownsRow Bd 3 1 v' (path.length + 1) ((paE path) ++ (#[.int .i64 p] : Array Value).toList) ∧ Below Bd w w' ∧ Blk w' g (walkC p (updR r d (I (getR (B u0) 0 i.size))) rd61 ev62 pa63) 62 ∧ w'.ownsRow Bd 52 15 ev62 ((evs ++ [acc4 i r path.length p u0]).length) (evE (evs ++ [acc4 i r path.length p u0])) ∧ v'.ownBlock ≠ some g ∧ ∀ k, ev62.ownBlock = some k → v'.ownBlock ≠ some k) v85 w80 := by rw [hv86]; exact hW84
 obtain ⟨ho88, b89, m90, ho91, off92, ap93⟩ := hW87
 have ap94 : ∀ k, v85.ownBlock = some k → ev62.ownBlock ≠ some k := fun k h1 h2 => ap93 k h2 h1
 have hA95 : St 117 [(0, (.pointer (some ⟨g, 0, none⟩))), (4, (.bool false)), (5, (.int .i64 (p + 1))), (110, v85), (112, (.pointer (some ⟨g, 11, none⟩)))] a79 := hA81.cut _ (fc (hA81.get 0 _ rfl) (fc (hA81.get 4 _ rfl) (fc (hA81.get 5 _ rfl) (fc hv86.symm (fc (hP83 12 _ (Nat.le_of_ble_eq_true rfl) (by decide) rfl) fn_)))))
 refine dst_ (v := v85) (wn rfl) (hA95.ev rfl) (hA95.ev rfl) one30 (one_slice (own_form ho88)) m90 (Nat.le_of_ble_eq_true rfl) ?_
 intro w96 hU97 (m98 : Blk w96 g (walkC p (updR r d (I (getR (B u0) 0 i.size))) rd61 ev62 v85) 62)
 have b99 := hU97.below b89 hge
 have ho100 := own_upd ho91 hU97 oe68
 have ho101 := own_upd ho88 hU97 off92
 refine tn_ ?_
 refine wp_seq ?_
 refine wp_region_lit ?_
 refine qs hA95 rfl (dmv (wn rfl) (hA95.ev rfl) ?_)
 intro a102 hA103
 refine qs hA103 rfl (dmv (wn rfl) (hA103.ev rfl) ?_)
 intro a104 hA105
 refine qs hA105 rfl (dnc (wn rfl) (hA105.ev rfl) ?_)
 intro a106 hA107
 refine qs hA107 rfl (dfa (wn rfl) (hA107.ev rfl) fo62_0 ?_)
 intro a108 hA109
 refine qs hA109 rfl (dst_ (v := (.int .i64 (p + 1))) (wn rfl) (hA109.ev rfl) (hA109.ev rfl) one3 rfl m98 (Nat.le_of_ble_eq_true rfl) ?_)
 intro w110 hU111 (m112 : Blk w110 g (walkC (p + 1) (updR r d (I (getR (B u0) 0 i.size))) rd61 ev62 v85) 62)
 have b113 := hU111.below b99 hge
 have ho114 := own_upd ho100 hU111 oe68
 have ho115 := own_upd ho101 hU111 off92
 intro a116 hA117
 refine qe_ ?_
 refine tn_ ?_
 refine wp_seq ?_
 refine wp_region_lit ?_
 refine qs hA117 rfl (das (wn rfl) (hA117.ev rfl) ?_)
 intro a118 hA119
 refine qe_ ?_
 refine tn_ ?_
 refine wp_ret ?_
 refine ret1 rfl hA119 (v := (.bool true)) rfl ?_
 exact ⟨rfl, b113, rd61, ev62, v85, m112, hge, (Sl.via hrd65 b72 b113), ho114, (by rw [List.length_append, ← paE_snoc]; exact ho115), oe68, off92, ap94⟩
set_option maxHeartbeats 4000000 in
set_option maxRecDepth 4000 in
theorem step_6 (Bd g : Nat) (p : Int) (r : Nat → Int) (rd ev pa : Value) (i : Ins) (d k : Nat) (u0 : Int) (rl : List Int) (evs : List Ev) (path : List Int) (w : World) (hB : Bd ≤ w.heap.size) (hW : WS Bd g w p r (u0 :: rl) evs path rd ev pa) (hne : evs.length ≤ 1000) (hnp : path.length ≤ 1000) (hr : ∀ k, wfI (r k)) (hp : 0 ≤ p) (hp2 : p ≤ 1000) (hix : ronB i.index = true) (hoff : wfI i.off) (hd : d < 8) (hk : k < 8) (hu0 : wfI u0) : Calls Try.prog 36 #[.pointer (some ⟨g, 0, none⟩), .agg (insC ⟨6, ((d : Nat) : Int), ((k : Nat) : Int), i.b, i.imm, i.loc, i.off, i.index, i.size, i.fn, i.acq, i.weak, i.rel, i.pred, i.succ, i.to, i.zero⟩)] w fun e w' => e = .returned (.bool true) ∧ Below Bd w w' ∧ ∃ rd' ev' pa', WS Bd g w' (p + 1) (updR r d (I (getR (B u0) 0 i.size))) rl (evs ++ [acc6 i r k path.length p u0]) (path ++ [p]) rd' ev' pa' := by
 obtain ⟨hb, hge, hrd, hev, hpa, oe, op_, ap⟩ := hW
 have ap2 : ∀ k, ev.ownBlock = some k → pa.ownBlock ≠ some k := fun k h1 h2 => ap k h2 h1
 have b0 : Below Bd w w := Below.refl _ _
 refine enter (n := 117) Try.func36 rfl rfl (Nat.le_of_ble_eq_true rfl) ?_
 intro a1 hA2
 refine wp_seq ?_
 refine wp_region_lit ?_
 refine qs hA2 rfl (d_box (wn rfl) (hA2.ev rfl) ?_)
 intro g3 w4 eg5 hG6 (m7 : Blk w4 g3 (insC ⟨6, ((d : Nat) : Int), ((k : Nat) : Int), i.b, i.imm, i.loc, i.off, i.index, i.size, i.fn, i.acq, i.weak, i.rel, i.pred, i.succ, i.to, i.zero⟩) 23)
 have ge8 : Bd ≤ g3 := eg5 ▸ (Nat.le_trans hB b0.size)
 have n9 : g ≠ g3 := fun h => Nat.lt_irrefl _ ((h.trans eg5) ▸ hb.lt)
 have off10 := own_new hev eg5
 have off11 := own_new hpa eg5
 have m12 := hb.grow hG6
 have b13 := blg b0 hG6 (Nat.le_trans hB b0.size)
 have ho14 := owg hG6 hev
 have ho15 := owg hG6 hpa
 intro a16 hA17
 refine qs hA17 rfl (das (wn rfl) (hA17.ev rfl) ?_)
 intro a18 hA19
 refine qe_ ?_
 refine tn_ ?_
 refine wp_seq ?_
 refine wp_region_lit ?_
 refine qs hA19 rfl (dmv (wn rfl) (hA19.ev rfl) ?_)
 intro a20 hA21
 refine qs hA21 rfl (dnc (wn rfl) (hA21.ev rfl) ?_)
 intro a22 hA23
 refine qs hA23 rfl (dfa (wn rfl) (hA23.ev rfl) fo62_0 ?_)
 intro a24 hA25
 refine qs hA25 rfl (dld (v := (.int .i64 p)) (wn rfl) (hA25.ev rfl) one3 (m12.cell rfl) ?_)
 intro a26 hA27
 refine qs hA27 rfl (dbn (wn rfl) (hA27.ev rfl) (hA27.ev rfl) (b_add _ _ p 1 _ (by omega) (by omega)) ?_)
 intro a28 hA29
 refine qs hA29 rfl (das (wn rfl) (hA29.ev rfl) ?_)
 intro a30 hA31
 refine qe_ ?_
 refine tn_ ?_
 refine wp_seq ?_
 refine wp_seq ?_
 refine wp_region_lit ?_
 refine qs hA31 rfl (dfa (wn rfl) (hA31.ev rfl) fo23_0 ?_)
 intro a32 hA33
 refine qs hA33 rfl (dld (v := (.int .i64 6)) (wn rfl) (hA33.ev rfl) one3 (m7.cell rfl) ?_)
 intro a34 hA35
 refine qe_ ?_
 refine tn_ ?_
 refine wp_block ?_
 refine wp_seq ?_
 refine wp_region_lit ?_
 refine qs hA35 rfl (dbn (wn rfl) (hA35.ev rfl) (hA35.ev rfl) (b_eq _ _ 6 1 false _ rfl) ?_)
 intro a36 hA37
 refine qs hA37 rfl (das (wn rfl) (hA37.ev rfl) ?_)
 intro a38 hA39
 refine qe_ ?_
 refine tn_ ?_
 refine c_false hA39 rfl ?_
 refine wp_seq ?_
 refine wp_region_lit ?_
 refine qs hA39 rfl (dbn (wn rfl) (hA39.ev rfl) (hA39.ev rfl) (b_eq _ _ 6 2 false _ rfl) ?_)
 intro a40 hA41
 refine qs hA41 rfl (das (wn rfl) (hA41.ev rfl) ?_)
 intro a42 hA43
 refine qe_ ?_
 refine tn_ ?_
 refine c_false hA43 rfl ?_
 refine wp_seq ?_
 refine wp_region_lit ?_
 refine qs hA43 rfl (dbn (wn rfl) (hA43.ev rfl) (hA43.ev rfl) (b_eq _ _ 6 3 false _ rfl) ?_)
 intro a44 hA45
 refine qs hA45 rfl (das (wn rfl) (hA45.ev rfl) ?_)
 intro a46 hA47
 refine qe_ ?_
 refine tn_ ?_
 refine c_false hA47 rfl ?_
 refine wp_seq ?_
 refine wp_seq ?_
 refine wp_region_lit ?_
 refine qs hA47 rfl (dbn (wn rfl) (hA47.ev rfl) (hA47.ev rfl) (b_eq _ _ 6 4 false _ rfl) ?_)
 intro a48 hA49
 refine qs hA49 rfl (das (wn rfl) (hA49.ev rfl) ?_)
 intro a50 hA51
 refine qe_ ?_
 refine tn_ ?_
 refine c_false hA51 rfl ?_
 refine wp_seq ?_
 refine wp_region_lit ?_
 refine qs hA51 rfl (dbn (wn rfl) (hA51.ev rfl) (hA51.ev rfl) (b_eq _ _ 6 5 false _ rfl) ?_)
 intro a52 hA53
 refine qs hA53 rfl (das (wn rfl) (hA53.ev rfl) ?_)
 intro a54 hA55
 refine qe_ ?_
 refine tn_ ?_
 refine c_false hA55 rfl ?_
 refine wp_region_lit ?_
 refine qs hA55 rfl (dbn (wn rfl) (hA55.ev rfl) (hA55.ev rfl) (b_eq _ _ 6 6 true _ rfl) ?_)
 intro a56 hA57
 refine qs hA57 rfl (das (wn rfl) (hA57.ev rfl) ?_)
 intro a58 hA59
 refine qe_ ?_
 refine tn_ ?_
 refine c_true hA59 rfl ?_
 refine wp_seq ?_
 refine wp_region_lit ?_
 refine qs hA59 rfl (dmv (wn rfl) (hA59.ev rfl) ?_)
 intro a60 hA61
 refine qs hA61 rfl (dlr (cs := (insC ⟨6, ((d : Nat) : Int), ((k : Nat) : Int), i.b, i.imm, i.loc, i.off, i.index, i.size, i.fn, i.acq, i.weak, i.rel, i.pred, i.succ, i.to, i.zero⟩)) (wn rfl) (hA61.ev rfl) row23 m7 ?_)
 intro a62 hA63
 refine qs hA63 rfl (dcl (wn rfl) ent48 (map2 (hA63.ev rfl) (hA63.ev rfl)) (access_6 Bd g p r rd ev pa i d k u0 rl evs path w4 (Nat.le_trans hB b13.size) ⟨m12, hge, (hrd.below b13), ho14, ho15, oe, op_, ap⟩ hne hnp hr hix hoff hd hk hu0) ?_)
 rintro e67 w64 ⟨he66, bl68, rd69, ev70, pa71, hb72, _, hrd73, hev74, hpa75, oe76, op77, ap78⟩
 have ap79 : ∀ k, ev70.ownBlock = some k → pa71.ownBlock ≠ some k := fun k h1 h2 => ap78 k h2 h1
 have b80 := b13.trans bl68
 refine ⟨.bool true, he66, ?_⟩
 intro a81 hA82
 refine qs hA82 rfl (dnt (wn rfl) (hA82.ev rfl) ?_)
 intro a83 hA84
 refine qe_ ?_
 refine tn_ ?_
 refine c_false hA84 rfl ?_
 refine wp_skip ?_
 refine i_norm ?_
 refine tn_ ?_
 refine wp_seq ?_
 have hA85 : St 117 [(0, (.pointer (some ⟨g, 0, none⟩))), (4, (.bool false)), (5, (.int .i64 (p + 1)))] a83 := hA84.sub rfl
 let M86 : Nat → Option (Array Value) := fun _ => none
 have hM86 : M86 = fun _ => none := rfl
 clear_value M86
 have hM86A : ∀ k, M86 k = none := fun k => congrFun hM86 k
 have hM86B : ∀ k, k < Bd → M86 k = none := fun k _ => hM86A k
 refine drawnL (S := SM M86) rfl (tabQ [some (.pointer (some ⟨g, 0, none⟩)), some (.pointer (some ⟨g, 0, none⟩)), some (.pointer (some ⟨g, 0, none⟩)), some (.pointer (some ⟨g, 11, none⟩)), none, some (.pointer (some ⟨g, 0, none⟩)), some (.pointer (some ⟨g, 0, none⟩)), some (.pointer (some ⟨g, 0, none⟩)), none, none, none, some (.pointer (some ⟨g, 0, none⟩)), some (.pointer (some ⟨g, 11, none⟩))] [cv (.pointer (some ⟨g, 0, none⟩)), cv (.pointer (some ⟨g, 0, none⟩)), cv (.pointer (some ⟨g, 0, none⟩)), cv (.pointer (some ⟨g, 11, none⟩)), cv pa71, cv (.pointer (some ⟨g, 0, none⟩)), cv (.pointer (some ⟨g, 0, none⟩)), cv (.pointer (some ⟨g, 0, none⟩)), cv (.int .i64 p), cs1 M86 hM86A #[.int .i64 p] 3, cfree, cv (.pointer (some ⟨g, 0, none⟩)), cv (.pointer (some ⟨g, 11, none⟩))]) (some 10) (fun i => (([some (.pointer (some ⟨g, 0, none⟩)), some (.pointer (some ⟨g, 0, none⟩)), some (.pointer (some ⟨g, 0, none⟩)), some (.pointer (some ⟨g, 11, none⟩)), none, some (.pointer (some ⟨g, 0, none⟩)), some (.pointer (some ⟨g, 0, none⟩)), some (.pointer (some ⟨g, 0, none⟩)), none, none, none, some (.pointer (some ⟨g, 0, none⟩)), some (.pointer (some ⟨g, 11, none⟩))] : List (Option Value))[i]?).getD none) (fun v' w' => w'.ownsRow Bd 3 1 v' (path.length + 1) ((paE path) ++ (#[.int .i64 p] : Array Value).toList) ∧ Below Bd w w' ∧ Blk w' g (walkC p (updR r d (I (getR (B u0) 0 i.size))) rd69 ev70 pa71) 62 ∧ w'.ownsRow Bd 52 15 ev70 ((evs ++ [acc6 i r k path.length p u0]).length) (evE (evs ++ [acc6 i r k path.length p u0])) ∧ v'.ownBlock ≠ some g ∧ ∀ k, ev70.ownBlock = some k → v'.ownBlock ≠ some k) [12, 10, 0, 1, 2, 3, 4, 5, 6, 7, 8, 9, 11] [4, 9, 3, 8, 2, 7, 1, 6, 5] mixedY SM.refl SM.trans hA85 (by kernel_rfl) (by kernel_rfl) (tabQ_cv _ _) ?_ ?_
 ·skip
  refine ed_ (.inr (.inl ⟨by decide, _, rfl, fun x y hT hk hk0 => dmv (wn rfl) (hT.ev rfl) ⟨rfl, rfl⟩⟩)) ?_
  refine ed_ (.inr (.inl ⟨by decide, _, rfl, fun x y hT hk hk0 => dmv (wn rfl) (hT.ev rfl) ⟨rfl, rfl⟩⟩)) ?_
  refine ed_ (.inr (.inl ⟨by decide, _, rfl, fun x y hT hk hk0 => dnc (wn rfl) (hk 1 _ rfl rfl) ⟨rfl, rfl⟩⟩)) ?_
  refine ed_ (.inr (.inl ⟨by decide, _, rfl, fun x y hT hk hk0 => dfa (wn rfl) (hk 2 _ rfl rfl) fo62_4 ⟨rfl, rfl⟩⟩)) ?_
  refine ed_ (.inl ⟨by decide, rfl, fun x y hS hT hk => dld (v := pa71) (wn rfl) (hk 3 rfl) one30 ((Blk.sm (w := w64.drew) hb72 hS (hM86A _)).cell rfl) ⟨SM.refl _, rfl⟩⟩) ?_
  refine ed_ (.inr (.inl ⟨by decide, _, rfl, fun x y hT hk hk0 => dmv (wn rfl) (hT.ev rfl) ⟨rfl, rfl⟩⟩)) ?_
  refine ed_ (.inr (.inl ⟨by decide, _, rfl, fun x y hT hk hk0 => dnc (wn rfl) (hk 5 _ rfl rfl) ⟨rfl, rfl⟩⟩)) ?_
  refine ed_ (.inr (.inl ⟨by decide, _, rfl, fun x y hT hk hk0 => dfa (wn rfl) (hk 6 _ rfl rfl) fo62_0 ⟨rfl, rfl⟩⟩)) ?_
  refine ed_ (.inl ⟨by decide, rfl, fun x y hS hT hk => dld (v := (.int .i64 p)) (wn rfl) (hk 7 rfl) one3 ((Blk.sm (w := w64.drew) hb72 hS (hM86A _)).cell rfl) ⟨SM.refl _, rfl⟩⟩) ?_
  refine ed_ (.inl ⟨by decide, rfl, fun x y hS hT hk => d_slice1 (wn rfl) (show x.eval _ = (.int .i64 p) from (hk 8 rfl)) elm30 rfl (by decide) (fun g w' _ hG hb => ⟨SM.grow hG, g, rfl, hb⟩)⟩) ?_
  refine ed_ (.inr (.inr ⟨rfl, fun x y hS hT hk => ?_⟩)) ?_
  ·skip
   obtain ⟨gb, hvb, hbb⟩ := hk 9 rfl
   have hG : Grow w64 y := Grow.trans ((Grow.refl _).drew) (SM.grown (by rw [hM86] at hS; exact hS))
   have hR := owg hG hpa75
   have hO := owg hG hev74
   have hBl := blg b80 hG (Nat.le_trans hB b80.size)
   refine d_append (wn rfl) (show x.eval _ = pa71 from (hk 4 rfl)) hvb elm30 hR hbb rfl rfl (by omega) (by decide) (Nat.le_trans hB hBl.size) ?_
   intro v' w' h1 h2 h3
   exact ⟨h1, below_by hBl h2 (Nat.le_trans hB hBl.size) (fun k hk => (own_lt hR k hk).1), (hb72.grow hG).by h2 op77, own_by hO h2 ap79, lies_ne h3 op77 (hb72.grow hG).lt, lies_ap h3 ap79 hO⟩
  refine ed_ (.inr (.inl ⟨by decide, _, rfl, fun x y hT hk hk0 => dnc (wn rfl) (hk 0 _ rfl rfl) ⟨rfl, rfl⟩⟩)) ?_
  refine ed_ (.inr (.inl ⟨by decide, _, rfl, fun x y hT hk hk0 => dfa (wn rfl) (hk 11 _ rfl rfl) fo62_4 ⟨rfl, rfl⟩⟩)) ?_
  exact eachD_one
 rintro a87 w88 hA89 ⟨hP91, hW92⟩
 obtain ⟨v93, hv94⟩ : ∃ v', v' = (a87.tmps.getD 110 undef) := ⟨_, rfl⟩
 have hW95 : (fun v' w' => w'.ownsRow Bd 3 1 v' (path.length + 1) ((paE path) ++ (#[.int .i64 p] : Array Value).toList) ∧ Below Bd w w' ∧ Blk w' g (walkC p (updR r d (I (getR (B u0) 0 i.size))) rd69 ev70 pa71) 62 ∧ w'.ownsRow Bd 52 15 ev70 ((evs ++ [acc6 i r k path.length p u0]).length) (evE (evs ++ [acc6 i r k path.length p u0])) ∧ v'.ownBlock ≠ some g ∧ ∀ k, ev70.ownBlock = some k → v'.ownBlock ≠ some k) v93 w88 := by rw [hv94]; exact hW92
 obtain ⟨ho96, b97, m98, ho99, off100, ap101⟩ := hW95
 have ap102 : ∀ k, v93.ownBlock = some k → ev70.ownBlock ≠ some k := fun k h1 h2 => ap101 k h2 h1
 have hA103 : St 117 [(0, (.pointer (some ⟨g, 0, none⟩))), (4, (.bool false)), (5, (.int .i64 (p + 1))), (110, v93), (112, (.pointer (some ⟨g, 11, none⟩)))] a87 := hA89.cut _ (fc (hA89.get 0 _ rfl) (fc (hA89.get 4 _ rfl) (fc (hA89.get 5 _ rfl) (fc hv94.symm (fc (hP91 12 _ (Nat.le_of_ble_eq_true rfl) (by decide) rfl) fn_)))))
 refine dst_ (v := v93) (wn rfl) (hA103.ev rfl) (hA103.ev rfl) one30 (one_slice (own_form ho96)) m98 (Nat.le_of_ble_eq_true rfl) ?_
 intro w104 hU105 (m106 : Blk w104 g (walkC p (updR r d (I (getR (B u0) 0 i.size))) rd69 ev70 v93) 62)
 have b107 := hU105.below b97 hge
 have ho108 := own_upd ho99 hU105 oe76
 have ho109 := own_upd ho96 hU105 off100
 refine tn_ ?_
 refine wp_seq ?_
 refine wp_region_lit ?_
 refine qs hA103 rfl (dmv (wn rfl) (hA103.ev rfl) ?_)
 intro a110 hA111
 refine qs hA111 rfl (dmv (wn rfl) (hA111.ev rfl) ?_)
 intro a112 hA113
 refine qs hA113 rfl (dnc (wn rfl) (hA113.ev rfl) ?_)
 intro a114 hA115
 refine qs hA115 rfl (dfa (wn rfl) (hA115.ev rfl) fo62_0 ?_)
 intro a116 hA117
 refine qs hA117 rfl (dst_ (v := (.int .i64 (p + 1))) (wn rfl) (hA117.ev rfl) (hA117.ev rfl) one3 rfl m106 (Nat.le_of_ble_eq_true rfl) ?_)
 intro w118 hU119 (m120 : Blk w118 g (walkC (p + 1) (updR r d (I (getR (B u0) 0 i.size))) rd69 ev70 v93) 62)
 have b121 := hU119.below b107 hge
 have ho122 := own_upd ho108 hU119 oe76
 have ho123 := own_upd ho109 hU119 off100
 intro a124 hA125
 refine qe_ ?_
 refine tn_ ?_
 refine wp_seq ?_
 refine wp_region_lit ?_
 refine qs hA125 rfl (das (wn rfl) (hA125.ev rfl) ?_)
 intro a126 hA127
 refine qe_ ?_
 refine tn_ ?_
 refine wp_ret ?_
 refine ret1 rfl hA127 (v := (.bool true)) rfl ?_
 exact ⟨rfl, b121, rd69, ev70, v93, m120, hge, (Sl.via hrd73 b80 b121), ho122, (by rw [List.length_append, ← paE_snoc]; exact ho123), oe76, off100, ap102⟩
set_option maxHeartbeats 4000000 in
set_option maxRecDepth 4000 in
theorem step_4n (Bd g : Nat) (p : Int) (r : Nat → Int) (rd ev pa : Value) (i : Ins) (d : Nat) (evs : List Ev) (path : List Int) (w : World) (hB : Bd ≤ w.heap.size) (hW : WS Bd g w p r ([] : List Int) evs path rd ev pa) (hne : evs.length ≤ 1000) (hnp : path.length ≤ 1000) (hr : ∀ k, wfI (r k)) (hp : 0 ≤ p) (hp2 : p ≤ 1000) (hix : ronB i.index = true) (hoff : wfI i.off) (hd : d < 8) : Calls Try.prog 36 #[.pointer (some ⟨g, 0, none⟩), .agg (insC ⟨4, ((d : Nat) : Int), i.a, i.b, i.imm, i.loc, i.off, i.index, i.size, i.fn, i.acq, i.weak, i.rel, i.pred, i.succ, i.to, i.zero⟩)] w fun e w' => e = .returned (.bool false) ∧ Below Bd w w' := by
 obtain ⟨hb, hge, hrd, hev, hpa, oe, op_, ap⟩ := hW
 have ap2 : ∀ k, ev.ownBlock = some k → pa.ownBlock ≠ some k := fun k h1 h2 => ap k h2 h1
 have b0 : Below Bd w w := Below.refl _ _
 refine enter (n := 117) Try.func36 rfl rfl (Nat.le_of_ble_eq_true rfl) ?_
 intro a1 hA2
 refine wp_seq ?_
 refine wp_region_lit ?_
 refine qs hA2 rfl (d_box (wn rfl) (hA2.ev rfl) ?_)
 intro g3 w4 eg5 hG6 (m7 : Blk w4 g3 (insC ⟨4, ((d : Nat) : Int), i.a, i.b, i.imm, i.loc, i.off, i.index, i.size, i.fn, i.acq, i.weak, i.rel, i.pred, i.succ, i.to, i.zero⟩) 23)
 have ge8 : Bd ≤ g3 := eg5 ▸ (Nat.le_trans hB b0.size)
 have n9 : g ≠ g3 := fun h => Nat.lt_irrefl _ ((h.trans eg5) ▸ hb.lt)
 have off10 := own_new hev eg5
 have off11 := own_new hpa eg5
 have m12 := hb.grow hG6
 have b13 := blg b0 hG6 (Nat.le_trans hB b0.size)
 have ho14 := owg hG6 hev
 have ho15 := owg hG6 hpa
 intro a16 hA17
 refine qs hA17 rfl (das (wn rfl) (hA17.ev rfl) ?_)
 intro a18 hA19
 refine qe_ ?_
 refine tn_ ?_
 refine wp_seq ?_
 refine wp_region_lit ?_
 refine qs hA19 rfl (dmv (wn rfl) (hA19.ev rfl) ?_)
 intro a20 hA21
 refine qs hA21 rfl (dnc (wn rfl) (hA21.ev rfl) ?_)
 intro a22 hA23
 refine qs hA23 rfl (dfa (wn rfl) (hA23.ev rfl) fo62_0 ?_)
 intro a24 hA25
 refine qs hA25 rfl (dld (v := (.int .i64 p)) (wn rfl) (hA25.ev rfl) one3 (m12.cell rfl) ?_)
 intro a26 hA27
 refine qs hA27 rfl (dbn (wn rfl) (hA27.ev rfl) (hA27.ev rfl) (b_add _ _ p 1 _ (by omega) (by omega)) ?_)
 intro a28 hA29
 refine qs hA29 rfl (das (wn rfl) (hA29.ev rfl) ?_)
 intro a30 hA31
 refine qe_ ?_
 refine tn_ ?_
 refine wp_seq ?_
 refine wp_seq ?_
 refine wp_region_lit ?_
 refine qs hA31 rfl (dfa (wn rfl) (hA31.ev rfl) fo23_0 ?_)
 intro a32 hA33
 refine qs hA33 rfl (dld (v := (.int .i64 4)) (wn rfl) (hA33.ev rfl) one3 (m7.cell rfl) ?_)
 intro a34 hA35
 refine qe_ ?_
 refine tn_ ?_
 refine wp_block ?_
 refine wp_seq ?_
 refine wp_region_lit ?_
 refine qs hA35 rfl (dbn (wn rfl) (hA35.ev rfl) (hA35.ev rfl) (b_eq _ _ 4 1 false _ rfl) ?_)
 intro a36 hA37
 refine qs hA37 rfl (das (wn rfl) (hA37.ev rfl) ?_)
 intro a38 hA39
 refine qe_ ?_
 refine tn_ ?_
 refine c_false hA39 rfl ?_
 refine wp_seq ?_
 refine wp_region_lit ?_
 refine qs hA39 rfl (dbn (wn rfl) (hA39.ev rfl) (hA39.ev rfl) (b_eq _ _ 4 2 false _ rfl) ?_)
 intro a40 hA41
 refine qs hA41 rfl (das (wn rfl) (hA41.ev rfl) ?_)
 intro a42 hA43
 refine qe_ ?_
 refine tn_ ?_
 refine c_false hA43 rfl ?_
 refine wp_seq ?_
 refine wp_region_lit ?_
 refine qs hA43 rfl (dbn (wn rfl) (hA43.ev rfl) (hA43.ev rfl) (b_eq _ _ 4 3 false _ rfl) ?_)
 intro a44 hA45
 refine qs hA45 rfl (das (wn rfl) (hA45.ev rfl) ?_)
 intro a46 hA47
 refine qe_ ?_
 refine tn_ ?_
 refine c_false hA47 rfl ?_
 refine wp_seq ?_
 refine wp_seq ?_
 refine wp_region_lit ?_
 refine qs hA47 rfl (dbn (wn rfl) (hA47.ev rfl) (hA47.ev rfl) (b_eq _ _ 4 4 true _ rfl) ?_)
 intro a48 hA49
 refine qs hA49 rfl (das (wn rfl) (hA49.ev rfl) ?_)
 intro a50 hA51
 refine qe_ ?_
 refine tn_ ?_
 refine c_true hA51 rfl ?_
 refine wp_skip ?_
 refine tn_ ?_
 refine c_true hA51 rfl ?_
 refine wp_seq ?_
 refine wp_region_lit ?_
 refine qs hA51 rfl (dmv (wn rfl) (hA51.ev rfl) ?_)
 intro a52 hA53
 refine qs hA53 rfl (dlr (cs := (insC ⟨4, ((d : Nat) : Int), i.a, i.b, i.imm, i.loc, i.off, i.index, i.size, i.fn, i.acq, i.weak, i.rel, i.pred, i.succ, i.to, i.zero⟩)) (wn rfl) (hA53.ev rfl) row23 m7 ?_)
 intro a54 hA55
 refine qs hA55 rfl (dcl (wn rfl) ent48 (map2 (hA55.ev rfl) (hA55.ev rfl)) (access_4n Bd g p r rd ev pa i d evs path w4 (Nat.le_trans hB b13.size) ⟨m12, hge, (hrd.below b13), ho14, ho15, oe, op_, ap⟩ hne hnp hr hix hoff hd) ?_)
 rintro e59 w56 ⟨he58, bl60⟩
 have b61 := b13.trans bl60
 refine ⟨.bool false, he58, ?_⟩
 intro a62 hA63
 refine qs hA63 rfl (dnt (wn rfl) (hA63.ev rfl) ?_)
 intro a64 hA65
 refine qe_ ?_
 refine tn_ ?_
 refine c_true hA65 rfl ?_
 refine wp_seq ?_
 refine wp_region_lit ?_
 refine qs hA65 rfl (das (wn rfl) (hA65.ev rfl) ?_)
 intro a66 hA67
 refine qe_ ?_
 refine tn_ ?_
 refine wp_ret ?_
 refine i_ret ?_
 refine t_ret ?_
 refine ret1 rfl hA67 (v := (.bool false)) rfl ?_
 exact ⟨rfl, b61⟩
set_option maxHeartbeats 4000000 in
set_option maxRecDepth 4000 in
theorem step_6n (Bd g : Nat) (p : Int) (r : Nat → Int) (rd ev pa : Value) (i : Ins) (d k : Nat) (evs : List Ev) (path : List Int) (w : World) (hB : Bd ≤ w.heap.size) (hW : WS Bd g w p r ([] : List Int) evs path rd ev pa) (hne : evs.length ≤ 1000) (hnp : path.length ≤ 1000) (hr : ∀ k, wfI (r k)) (hp : 0 ≤ p) (hp2 : p ≤ 1000) (hix : ronB i.index = true) (hoff : wfI i.off) (hd : d < 8) : Calls Try.prog 36 #[.pointer (some ⟨g, 0, none⟩), .agg (insC ⟨6, ((d : Nat) : Int), ((k : Nat) : Int), i.b, i.imm, i.loc, i.off, i.index, i.size, i.fn, i.acq, i.weak, i.rel, i.pred, i.succ, i.to, i.zero⟩)] w fun e w' => e = .returned (.bool false) ∧ Below Bd w w' := by
 obtain ⟨hb, hge, hrd, hev, hpa, oe, op_, ap⟩ := hW
 have ap2 : ∀ k, ev.ownBlock = some k → pa.ownBlock ≠ some k := fun k h1 h2 => ap k h2 h1
 have b0 : Below Bd w w := Below.refl _ _
 refine enter (n := 117) Try.func36 rfl rfl (Nat.le_of_ble_eq_true rfl) ?_
 intro a1 hA2
 refine wp_seq ?_
 refine wp_region_lit ?_
 refine qs hA2 rfl (d_box (wn rfl) (hA2.ev rfl) ?_)
 intro g3 w4 eg5 hG6 (m7 : Blk w4 g3 (insC ⟨6, ((d : Nat) : Int), ((k : Nat) : Int), i.b, i.imm, i.loc, i.off, i.index, i.size, i.fn, i.acq, i.weak, i.rel, i.pred, i.succ, i.to, i.zero⟩) 23)
 have ge8 : Bd ≤ g3 := eg5 ▸ (Nat.le_trans hB b0.size)
 have n9 : g ≠ g3 := fun h => Nat.lt_irrefl _ ((h.trans eg5) ▸ hb.lt)
 have off10 := own_new hev eg5
 have off11 := own_new hpa eg5
 have m12 := hb.grow hG6
 have b13 := blg b0 hG6 (Nat.le_trans hB b0.size)
 have ho14 := owg hG6 hev
 have ho15 := owg hG6 hpa
 intro a16 hA17
 refine qs hA17 rfl (das (wn rfl) (hA17.ev rfl) ?_)
 intro a18 hA19
 refine qe_ ?_
 refine tn_ ?_
 refine wp_seq ?_
 refine wp_region_lit ?_
 refine qs hA19 rfl (dmv (wn rfl) (hA19.ev rfl) ?_)
 intro a20 hA21
 refine qs hA21 rfl (dnc (wn rfl) (hA21.ev rfl) ?_)
 intro a22 hA23
 refine qs hA23 rfl (dfa (wn rfl) (hA23.ev rfl) fo62_0 ?_)
 intro a24 hA25
 refine qs hA25 rfl (dld (v := (.int .i64 p)) (wn rfl) (hA25.ev rfl) one3 (m12.cell rfl) ?_)
 intro a26 hA27
 refine qs hA27 rfl (dbn (wn rfl) (hA27.ev rfl) (hA27.ev rfl) (b_add _ _ p 1 _ (by omega) (by omega)) ?_)
 intro a28 hA29
 refine qs hA29 rfl (das (wn rfl) (hA29.ev rfl) ?_)
 intro a30 hA31
 refine qe_ ?_
 refine tn_ ?_
 refine wp_seq ?_
 refine wp_seq ?_
 refine wp_region_lit ?_
 refine qs hA31 rfl (dfa (wn rfl) (hA31.ev rfl) fo23_0 ?_)
 intro a32 hA33
 refine qs hA33 rfl (dld (v := (.int .i64 6)) (wn rfl) (hA33.ev rfl) one3 (m7.cell rfl) ?_)
 intro a34 hA35
 refine qe_ ?_
 refine tn_ ?_
 refine wp_block ?_
 refine wp_seq ?_
 refine wp_region_lit ?_
 refine qs hA35 rfl (dbn (wn rfl) (hA35.ev rfl) (hA35.ev rfl) (b_eq _ _ 6 1 false _ rfl) ?_)
 intro a36 hA37
 refine qs hA37 rfl (das (wn rfl) (hA37.ev rfl) ?_)
 intro a38 hA39
 refine qe_ ?_
 refine tn_ ?_
 refine c_false hA39 rfl ?_
 refine wp_seq ?_
 refine wp_region_lit ?_
 refine qs hA39 rfl (dbn (wn rfl) (hA39.ev rfl) (hA39.ev rfl) (b_eq _ _ 6 2 false _ rfl) ?_)
 intro a40 hA41
 refine qs hA41 rfl (das (wn rfl) (hA41.ev rfl) ?_)
 intro a42 hA43
 refine qe_ ?_
 refine tn_ ?_
 refine c_false hA43 rfl ?_
 refine wp_seq ?_
 refine wp_region_lit ?_
 refine qs hA43 rfl (dbn (wn rfl) (hA43.ev rfl) (hA43.ev rfl) (b_eq _ _ 6 3 false _ rfl) ?_)
 intro a44 hA45
 refine qs hA45 rfl (das (wn rfl) (hA45.ev rfl) ?_)
 intro a46 hA47
 refine qe_ ?_
 refine tn_ ?_
 refine c_false hA47 rfl ?_
 refine wp_seq ?_
 refine wp_seq ?_
 refine wp_region_lit ?_
 refine qs hA47 rfl (dbn (wn rfl) (hA47.ev rfl) (hA47.ev rfl) (b_eq _ _ 6 4 false _ rfl) ?_)
 intro a48 hA49
 refine qs hA49 rfl (das (wn rfl) (hA49.ev rfl) ?_)
 intro a50 hA51
 refine qe_ ?_
 refine tn_ ?_
 refine c_false hA51 rfl ?_
 refine wp_seq ?_
 refine wp_region_lit ?_
 refine qs hA51 rfl (dbn (wn rfl) (hA51.ev rfl) (hA51.ev rfl) (b_eq _ _ 6 5 false _ rfl) ?_)
 intro a52 hA53
 refine qs hA53 rfl (das (wn rfl) (hA53.ev rfl) ?_)
 intro a54 hA55
 refine qe_ ?_
 refine tn_ ?_
 refine c_false hA55 rfl ?_
 refine wp_region_lit ?_
 refine qs hA55 rfl (dbn (wn rfl) (hA55.ev rfl) (hA55.ev rfl) (b_eq _ _ 6 6 true _ rfl) ?_)
 intro a56 hA57
 refine qs hA57 rfl (das (wn rfl) (hA57.ev rfl) ?_)
 intro a58 hA59
 refine qe_ ?_
 refine tn_ ?_
 refine c_true hA59 rfl ?_
 refine wp_seq ?_
 refine wp_region_lit ?_
 refine qs hA59 rfl (dmv (wn rfl) (hA59.ev rfl) ?_)
 intro a60 hA61
 refine qs hA61 rfl (dlr (cs := (insC ⟨6, ((d : Nat) : Int), ((k : Nat) : Int), i.b, i.imm, i.loc, i.off, i.index, i.size, i.fn, i.acq, i.weak, i.rel, i.pred, i.succ, i.to, i.zero⟩)) (wn rfl) (hA61.ev rfl) row23 m7 ?_)
 intro a62 hA63
 refine qs hA63 rfl (dcl (wn rfl) ent48 (map2 (hA63.ev rfl) (hA63.ev rfl)) (access_6n Bd g p r rd ev pa i d k evs path w4 (Nat.le_trans hB b13.size) ⟨m12, hge, (hrd.below b13), ho14, ho15, oe, op_, ap⟩ hne hnp hr hix hoff hd) ?_)
 rintro e67 w64 ⟨he66, bl68⟩
 have b69 := b13.trans bl68
 refine ⟨.bool false, he66, ?_⟩
 intro a70 hA71
 refine qs hA71 rfl (dnt (wn rfl) (hA71.ev rfl) ?_)
 intro a72 hA73
 refine qe_ ?_
 refine tn_ ?_
 refine c_true hA73 rfl ?_
 refine wp_seq ?_
 refine wp_region_lit ?_
 refine qs hA73 rfl (das (wn rfl) (hA73.ev rfl) ?_)
 intro a74 hA75
 refine qe_ ?_
 refine tn_ ?_
 refine wp_ret ?_
 refine i_ret ?_
 refine t_ret ?_
 refine ret1 rfl hA75 (v := (.bool false)) rfl ?_
 exact ⟨rfl, b69⟩
end Go.Proofs.Ytlhompedcphnnaa
/- A step of the walk, whatever the instruction. -/
namespace Go.Proofs.Ytlhompedcphnnaa
open Go.RowKit

/-- a code under way by itself -/
structure Wk where
  p : Int
  r : Nat → Int
  rds : List Int
  evs : List Ev
  path : List Int
def nextW (s : Wk) : Wk := { s with p := s.p + 1, path := s.path ++ [s.p] }
def stepW (s : Wk) (i : Ins) : Option Wk :=
  if i.op = 1 then some { nextW s with r := updR s.r i.dst.toNat i.imm } else
  if i.op = 2 then some { nextW s with r := updR s.r i.dst.toNat (s.r i.a.toNat) } else
  if i.op = 3 then some { nextW s with r := updR s.r i.dst.toNat (aluR i.fn (s.r i.a.toNat) (orR s.r i.b i.imm)) } else
  if i.op = 4 then (match s.rds with
    | [] => none
    | u :: rl => some { nextW s with rds := rl, r := updR s.r i.dst.toNat (I (getR (B u) 0 i.size)), evs := s.evs ++ [acc4 i s.r s.path.length s.p u] }) else
  if i.op = 5 then some { nextW s with evs := s.evs ++ [acc5 i s.r s.path.length s.p] } else
  if i.op = 6 then (match s.rds with
    | [] => none
    | u :: rl => some { nextW s with rds := rl, r := updR s.r i.dst.toNat (I (getR (B u) 0 i.size)), evs := s.evs ++ [acc6 i s.r i.a.toNat s.path.length s.p u] }) else
  if i.op = 9 then some { nextW s with p := brP s.r i.a.toNat i s.p } else
  some { nextW s with evs := s.evs ++ [ev0 i s.path.length s.p] }
def StepPost (Bd g : Nat) (w : World) : Option Wk → Ending → World → Prop
  | none, e, w' => e = .returned (.bool false) ∧ Below Bd w w'
  | some s, e, w' => e = .returned (.bool true) ∧ Below Bd w w' ∧ ∃ rd ev pa, WS Bd g w' s.p s.r s.rds s.evs s.path rd ev pa
theorem reg_nat {q : Int} (h : regB q = true) : ∃ d : Nat, q = (d : Int) ∧ d < 8 := by
  unfold regB at h
  simp at h
  exact ⟨q.toNat, by omega, by omega⟩
theorem acc_parts {i : Ins} (h : accB i = true) : ronB i.index = true := by unfold accB at h; simp at h; exact h.1.2
set_option linter.unusedSimpArgs false
set_option maxHeartbeats 1000000 in
theorem step_any (Bd g : Nat) (s : Wk) (rd ev pa : Value) (i : Ins) (w : World) (hB : Bd ≤ w.heap.size) (hW : WS Bd g w s.p s.r s.rds s.evs s.path rd ev pa) (hne : s.evs.length ≤ 1000) (hnp : s.path.length ≤ 1000) (hr : ∀ k, wfI (s.r k)) (hp : 0 ≤ s.p) (hp2 : s.p ≤ 1000)
    (hs : soundB i = true) (himm : wfI i.imm) (hoff : wfI i.off) (hrd : ∀ x ∈ s.rds, wfI x) : Calls Try.prog 36 #[.pointer (some ⟨g, 0, none⟩), .agg (insC i)] w (StepPost Bd g w (stepW s i)) := by
  by_cases h1 : i.op = 1
  · have hs1 := hs
    simp [soundB, h1] at hs1
    obtain ⟨d, ed, ld⟩ := reg_nat hs1
    have hC : insC i = insC ⟨1, (d : Int), i.a, i.b, i.imm, i.loc, i.off, i.index, i.size, i.fn, i.acq, i.weak, i.rel, i.pred, i.succ, i.to, i.zero⟩ := by unfold insC; simp [h1, ed]
    rw [hC]
    have := step_1 Bd g s.p s.r rd ev pa i d s.rds s.evs s.path w hB hW hne hnp hr hp hp2 ld
    simp only [stepW, h1, if_true, if_false, (show i.dst.toNat = d by omega)]
    exact this
  by_cases h2 : i.op = 2
  · have hs1 := hs
    simp [soundB, h2] at hs1
    obtain ⟨d, ed, ld⟩ := reg_nat hs1.1
    obtain ⟨k, ek, lk⟩ := reg_nat hs1.2
    have hC : insC i = insC ⟨2, (d : Int), (k : Int), i.b, i.imm, i.loc, i.off, i.index, i.size, i.fn, i.acq, i.weak, i.rel, i.pred, i.succ, i.to, i.zero⟩ := by unfold insC; simp [h2, ed, ek]
    rw [hC]
    have := step_2 Bd g s.p s.r rd ev pa i d k s.rds s.evs s.path w hB hW hne hnp hr hp hp2 ld lk
    simp only [stepW, show ¬ i.op = 1 from by omega, h2, if_true, if_false, (show i.dst.toNat = d by omega), (show i.a.toNat = k by omega)]
    exact this
  by_cases h3 : i.op = 3
  · have hs1 := hs
    simp [soundB, h3] at hs1
    obtain ⟨d, ed, ld⟩ := reg_nat hs1.1.1.1.1
    obtain ⟨k, ek, lk⟩ := reg_nat hs1.1.1.1.2
    have hC : insC i = insC ⟨3, (d : Int), (k : Int), i.b, i.imm, i.loc, i.off, i.index, i.size, i.fn, i.acq, i.weak, i.rel, i.pred, i.succ, i.to, i.zero⟩ := by unfold insC; simp [h3, ed, ek]
    rw [hC]
    have := step_3 Bd g s.p s.r rd ev pa i d k s.rds s.evs s.path w hB hW hne hnp hr hp hp2 ld lk hs1.1.1.2
    simp only [stepW, show ¬ i.op = 1 from by omega, show ¬ i.op = 2 from by omega, h3, if_true, if_false, (show i.dst.toNat = d by omega), (show i.a.toNat = k by omega)]
    exact this
  by_cases h4 : i.op = 4
  · have hs1 := hs
    simp [soundB, h4] at hs1
    obtain ⟨d, ed, ld⟩ := reg_nat hs1.1.1
    have hix := acc_parts hs1.1.2
    have hC : insC i = insC ⟨4, (d : Int), i.a, i.b, i.imm, i.loc, i.off, i.index, i.size, i.fn, i.acq, i.weak, i.rel, i.pred, i.succ, i.to, i.zero⟩ := by unfold insC; simp [h4, ed]
    rw [hC]
    cases hl : s.rds with
    | nil =>
      rw [hl] at hW
      have := step_4n Bd g s.p s.r rd ev pa i d s.evs s.path w hB hW hne hnp hr hp hp2 hix hoff ld
      simp only [stepW, show ¬ i.op = 1 from by omega, show ¬ i.op = 2 from by omega, show ¬ i.op = 3 from by omega, h4, if_true, if_false, (show i.dst.toNat = d by omega)]
      rw [hl]
      exact this
    | cons u rl =>
      rw [hl] at hW
      have hu : wfI u := hrd u (by rw [hl]; simp)
      have := step_4 Bd g s.p s.r rd ev pa i d u rl s.evs s.path w hB hW hne hnp hr hp hp2 hix hoff ld hu
      simp only [stepW, show ¬ i.op = 1 from by omega, show ¬ i.op = 2 from by omega, show ¬ i.op = 3 from by omega, h4, if_true, if_false, (show i.dst.toNat = d by omega)]
      rw [hl]
      exact this
  by_cases h5 : i.op = 5
  · have hs1 := hs
    simp [soundB, h5] at hs1
    have hix := acc_parts hs1.2
    have hC : insC i = insC ⟨5, i.dst, i.a, i.b, i.imm, i.loc, i.off, i.index, i.size, i.fn, i.acq, i.weak, i.rel, i.pred, i.succ, i.to, i.zero⟩ := by unfold insC; simp [h5]
    rw [hC]
    have := step_5 Bd g s.p s.r rd ev pa i s.rds s.evs s.path w hB hW hne hnp hr hp hp2 hix hoff hs1.1 himm
    simp only [stepW, show ¬ i.op = 1 from by omega, show ¬ i.op = 2 from by omega, show ¬ i.op = 3 from by omega, show ¬ i.op = 4 from by omega, h5, if_true, if_false]
    exact this
  by_cases h6 : i.op = 6
  · have hs1 := hs
    simp [soundB, h6] at hs1
    obtain ⟨d, ed, ld⟩ := reg_nat hs1.1.1.1
    obtain ⟨k, ek, lk⟩ := reg_nat hs1.1.1.2
    have hix := acc_parts hs1.1.2
    have hC : insC i = insC ⟨6, (d : Int), (k : Int), i.b, i.imm, i.loc, i.off, i.index, i.size, i.fn, i.acq, i.weak, i.rel, i.pred, i.succ, i.to, i.zero⟩ := by unfold insC; simp [h6, ed, ek]
    rw [hC]
    cases hl : s.rds with
    | nil =>
      rw [hl] at hW
      have := step_6n Bd g s.p s.r rd ev pa i d k s.evs s.path w hB hW hne hnp hr hp hp2 hix hoff ld
      simp only [stepW, show ¬ i.op = 1 from by omega, show ¬ i.op = 2 from by omega, show ¬ i.op = 3 from by omega, show ¬ i.op = 4 from by omega, show ¬ i.op = 5 from by omega, h6, if_true, if_false, (show i.dst.toNat = d by omega), (show i.a.toNat = k by omega)]
      rw [hl]
      exact this
    | cons u rl =>
      rw [hl] at hW
      have hu : wfI u := hrd u (by rw [hl]; simp)
      have := step_6 Bd g s.p s.r rd ev pa i d k u rl s.evs s.path w hB hW hne hnp hr hp hp2 hix hoff ld lk hu
      simp only [stepW, show ¬ i.op = 1 from by omega, show ¬ i.op = 2 from by omega, show ¬ i.op = 3 from by omega, show ¬ i.op = 4 from by omega, show ¬ i.op = 5 from by omega, h6, if_true, if_false, (show i.dst.toNat = d by omega), (show i.a.toNat = k by omega)]
      rw [hl]
      exact this
  by_cases h9 : i.op = 9
  · have hs1 := hs
    simp [soundB, h9] at hs1
    obtain ⟨k, ek, lk⟩ := reg_nat hs1
    have hC : insC i = insC ⟨9, i.dst, (k : Int), i.b, i.imm, i.loc, i.off, i.index, i.size, i.fn, i.acq, i.weak, i.rel, i.pred, i.succ, i.to, i.zero⟩ := by unfold insC; simp [h9, ek]
    rw [hC]
    have := step_9 Bd g s.p s.r rd ev pa i k s.rds s.evs s.path w hB hW hne hnp hr hp hp2 lk
    simp only [stepW, show ¬ i.op = 1 from by omega, show ¬ i.op = 2 from by omega, show ¬ i.op = 3 from by omega, show ¬ i.op = 4 from by omega, show ¬ i.op = 5 from by omega, show ¬ i.op = 6 from by omega, h9, if_true, if_false, (show i.a.toNat = k by omega)]
    exact this
  by_cases h7 : i.op = 7
  · have := step_7 Bd g s.p s.r rd ev pa i s.rds s.evs s.path w hB hW hne hnp hr hp hp2
    have he : ({ i with op := 7 } : Ins) = i := by cases i; simp at h7; simp [h7]
    rw [he] at this
    simp only [stepW, h1, h2, h3, h4, h5, h6, h9, if_false]
    exact this
  by_cases h8 : i.op = 8
  · have := step_8 Bd g s.p s.r rd ev pa i s.rds s.evs s.path w hB hW hne hnp hr hp hp2
    have he : ({ i with op := 8 } : Ins) = i := by cases i; simp at h8; simp [h8]
    rw [he] at this
    simp only [stepW, h1, h2, h3, h4, h5, h6, h9, if_false]
    exact this
  exfalso
  simp [soundB, h1, h2, h3, h4, h5, h6, h7, h8, h9] at hs
end Go.Proofs.Ytlhompedcphnnaa
/- What a step turns: places rise, numbers stay in range, rows grow by one at most; a run as steps. -/
namespace Go.Proofs.Ytlhompedcphnnaa
open Go.RowKit
set_option linter.unusedSimpArgs false

theorem alu_wf (fn : Int) {a b : Int} (ha : wfI a) (hb : wfI b) : wfI (aluR fn a b) := by
  unfold aluR
  rw [ha, hb]
  split
  · rw [add]; exact wf_I _
  split
  · rw [sub]; exact wf_I _
  split
  · rw [bits_xor]; exact wf_I _
  split
  · rw [bits_and]; exact wf_I _
  split
  · rw [bits_or]; exact wf_I _
  · exact wf_0
theorem right_yes {i : Ins} {p n : Int} (h : rightR i p n = 0) : soundB i = true ∧ (i.op = 9 → p < i.to ∧ i.to ≤ n) := by
  unfold rightR at h
  split at h
  · rename_i h1
    simp at h1
    refine ⟨h1.2, fun h9 => ?_⟩
    split at h
    · cases h
    · rename_i h2; simp [h9] at h2; omega
  · cases h
/-- what holds of each step of a right instruction -/
theorem step_facts {s s' : Wk} {i : Ins} {n : Int} (hr : rightR i s.p n = 0) (hlt : s.p < n) (hw : ∀ k, wfI (s.r k)) (hi : wfI i.imm) (h : stepW s i = some s') :
    s.p < s'.p ∧ s'.p ≤ n ∧ (∀ k, wfI (s'.r k)) ∧ s'.path = s.path ++ [s.p] ∧ s'.evs.length ≤ s.evs.length + 1 ∧ ∀ x ∈ s'.rds, x ∈ s.rds := by
  obtain ⟨hs, h9⟩ := right_yes hr
  unfold stepW at h
  split at h
  · cases h; exact ⟨by simp [nextW]; omega, by simp [nextW]; omega, wf_upd hw hi, rfl, by simp [nextW], fun x hx => hx⟩
  split at h
  · cases h; exact ⟨by simp [nextW]; omega, by simp [nextW]; omega, wf_upd hw (hw _), rfl, by simp [nextW], fun x hx => hx⟩
  split at h
  · cases h; exact ⟨by simp [nextW]; omega, by simp [nextW]; omega, wf_upd hw (alu_wf _ (hw _) (wf_or hw hi)), rfl, by simp [nextW], fun x hx => hx⟩
  split at h
  · split at h
    · cases h
    · rename_i u rl hl
      cases h; exact ⟨by simp [nextW]; omega, by simp [nextW]; omega, wf_upd hw (wf_I _), rfl, by simp [nextW], fun x hx => by rw [hl]; exact List.mem_cons_of_mem _ hx⟩
  split at h
  · cases h; exact ⟨by simp [nextW]; omega, by simp [nextW]; omega, hw, rfl, by simp [nextW], fun x hx => hx⟩
  split at h
  · split at h
    · cases h
    · rename_i u rl hl
      cases h; exact ⟨by simp [nextW]; omega, by simp [nextW]; omega, wf_upd hw (wf_I _), rfl, by simp [nextW], fun x hx => by rw [hl]; exact List.mem_cons_of_mem _ hx⟩
  split at h
  · rename_i h9'
    have := h9 h9'
    cases h
    refine ⟨?_, ?_, hw, rfl, by simp [nextW], fun x hx => hx⟩ <;> (simp only [brP]; split <;> omega)
  · cases h; exact ⟨by simp [nextW]; omega, by simp [nextW]; omega, hw, rfl, by simp [nextW], fun x hx => hx⟩
/-- a run of a code by itself, in so many steps at most; none: reads are used up -/
def runW (code : List Ins) : Nat → Wk → Option Wk
  | 0, s => some s
  | f + 1, s => match code[s.p.toNat]? with
    | none => some s
    | some i => match stepW s i with
      | none => none
      | some s' => runW code f s'
theorem runW_end {code : List Ins} {f : Nat} {s : Wk} (h : code.length ≤ s.p.toNat) : runW code f s = some s := by
  cases f with
  | zero => rfl
  | succ f => unfold runW; rw [List.getElem?_eq_none h]
theorem runW_step {code : List Ins} {f : Nat} {s : Wk} {i : Ins} (h : code[s.p.toNat]? = some i) : runW code (f + 1) s = match stepW s i with | none => none | some s' => runW code f s' := by
  rw [runW, h]
end Go.Proofs.Ytlhompedcphnnaa
/- What Local needs besides: codes of one, a row's cells as a whole, four results. -/
namespace Go.Proofs.Ytlhompedcphnnaa
open Go.RowKit

theorem Blk.below {B' g : Nat} {w w' : World} {cs : Array Value} {t : TypeId} (h : Blk w g cs t) (hb : Below B' w w') (hg : g < B') : Blk w' g cs t := by
  unfold Blk; rw [hb.block g hg]; exact h
theorem walk_regs {w : World} {g : Nat} {t : TypeId} {p : Int} {r : Nat → Int} {rd ev pa : Value} (h : Blk w g (walkC p r rd ev pa) t) : w.rangeAt g 1 (regsC r).toList := fun j v hv => by
  have hj : j < 8 := by
    have := (List.getElem?_eq_some_iff.1 hv).1
    simpa [regsC] using this
  have hc := h.cell (walk_get (p := p) (r := r) (rd := rd) (ev := ev) (pa := pa) hj)
  rw [hc]
  have : (regsC r).toList[j]? = some (.int .i64 (r j)) := by
    match j, hj with
    | 0, _ | 1, _ | 2, _ | 3, _ | 4, _ | 5, _ | 6, _ | 7, _ => rfl
  rw [this] at hv; exact hv
theorem cs_one {B' g : Nat} {w : World} {v : Value} {t : TypeId} {code : List Ins} (hb : Blk w g #[v] t) (hs : Sl insE 17 B' w v code) (hB : B' ≤ w.heap.size) : Cs w.heap.size w (.slice (some ⟨g, 0, none⟩) 1 1) [code] := by
  refine ⟨[v], ⟨some ⟨g, 0, none⟩, 1, rfl, Nat.le_refl _, fun j x hx => ?_⟩, rfl, fun j u c hu hc => ?_⟩
  · have hj : j = 0 := by have := get_lt hx; simpa using this
    subst hj
    simp at hx; subst hx
    exact ⟨g, 0, rfl, hb.lt, fun k u hu => by
      have hk : k = 0 := by have := get_lt hu; simpa [cellE] using this
      subst hk
      simp [cellE] at hu; subst hu
      exact hb.cell rfl⟩
  · have hj : j = 0 := by have := get_lt hu; simpa using this
    subst hj
    simp at hu hc; subst hu; subst hc
    exact hs.mono hB
theorem check_one {code : List Ins} (h : (checkR [code]).2.2 = 0) : code.length ≤ 8 ∧ ∀ (k : Nat) i, code[k]? = some i → rightR i (k : Int) (code.length : Int) = 0 := by
  have key : ∀ (l : List Ins) (k : Nat), bad1 code.length l k = none → ∀ (j : Nat) i, l[j]? = some i → rightR i ((k + j : Nat) : Int) (code.length : Int) = 0 := by
    intro l
    induction l with
    | nil => intro k _ j i hj; simp at hj
    | cons x l ih =>
      intro k hk j i hj
      unfold bad1 at hk
      split at hk
      · rename_i hx
        cases j with
        | zero => simp at hj; subst hj; simpa using hx
        | succ j =>
          have := ih (k + 1) hk j i (by simpa using hj)
          rw [show k + (j + 1) = k + 1 + j by omega]; exact this
      · cases hk
  unfold checkR at h
  simp only [List.length_cons, List.length_nil] at h
  rw [if_neg (by simp)] at h
  cases hl : longR [code] 0 with
  | some t => simp [hl] at h
  | none =>
    have hlen : code.length ≤ 8 := by
      unfold longR at hl
      split at hl
      · cases hl
      · rename_i h1; simp at h1; omega
    refine ⟨hlen, ?_⟩
    cases hb : bad1 code.length code 0 with
    | none => intro k i hi; have := key code 0 hb k i hi; simpa using this
    | some q =>
      obtain ⟨k, e⟩ := q
      have hb2 : bad2 [code] 0 = some (0, k, e) := by rw [bad2, hb]
      rw [hl, hb2] at h
      simp only at h
      exfalso
      subst h
      have key2 : ∀ (l : List Ins) (k k' : Nat) (e : Int), bad1 code.length l k = some (k', e) → e ≠ 0 := by
        intro l
        induction l with
        | nil => intro k k' e h; simp [bad1] at h
        | cons x l ih =>
          intro k k' e h
          unfold bad1 at h
          split at h
          · exact ih _ _ _ h
          · rename_i hx; cases h; simpa using hx
      exact key2 code 0 k 0 hb rfl
section
variable {P : Program} {a : Act} {w : World} {n : Nat} {T : List (Nat × Value)}
theorem retC3 {fn : Func} {R : Ending → World → Prop} {p q1 q2 q3 : Tmp} {t t' : TypeId} {g : Nat} {cs : Array Value} {x y z : Value} (hr : fn.results = #[.cell p t, .tmp q1, .tmp q2, .tmp q3]) (hA : St n T a) (hv : ev T (.tmp p) = some (.pointer (some ⟨g, 0, none⟩))) (hx : ev T (.tmp q1) = some x) (hy : ev T (.tmp q2) = some y) (hz : ev T (.tmp q3) = some z) (hb : Blk w g cs t') (h1 : rowB P t cs.size = true)
    (h : R (.returned (.tuple #[.agg cs, x, y, z])) w) : bodyPost P fn R .ret a w := by
  obtain ⟨⟨dd, h2, _, h3⟩, h4⟩ := row_facts h1
  have e1 := hA.ev hv
  have e2 := hA.ev hx
  have e3 := hA.ev hy
  have e4 := hA.ev hz
  simp only [Act.eval] at e1 e2 e3 e4
  refine ⟨hA.defers, _, ?_, h⟩
  have f1 : a.tmps[p]?.getD undef = .pointer (some ⟨g, 0, none⟩) := by simpa using e1
  have f2 : a.tmps[q1]?.getD undef = x := by simpa using e2
  have f3 : a.tmps[q2]?.getD undef = y := by simpa using e3
  have f4 : a.tmps[q3]?.getD undef = z := by simpa using e4
  simp [results, hr, f1, f2, f3, f4, asAddr, run_loadVar_row w g t' t cs (0, 0) dd hb h2 (by cases dd <;> simp_all) h4]
end
/-- a block that holds what it will hold -/
def cmr (M : Nat → Option (Array Value)) (g : Nat) (t : TypeId) (fin : Array Value) (h : M g = some fin) : Cl (SM M) :=
  ⟨fun _ w => Blk w g fin t, fun _ w w' hS hb => by
    obtain ⟨cs', h1, h2, h3⟩ := hS.turns g fin fin t h hb
    have : cs' = fin := by
      apply Array.ext_getElem?
      intro j
      rcases h3 j with e | e <;> exact e
    subst this; exact h1⟩
theorem SM.storeRow {M : Nat → Option (Array Value)} {w w' : World} {g : Nat} {fin cs : Array Value} {t : TypeId} (hM : M g = some fin) (hu : Upd g w w') (hb : Blk w g cs t) (hb' : Blk w' g fin t) (hs : fin.size = cs.size) : SM M w w' :=
  ⟨hu.os, hu.tape, hu.output, Nat.le_of_eq hu.size.symm, fun i _ hm => hu.block i (fun e => by subst e; rw [hM] at hm; cases hm), fun i fin' cs' t' hm hbi => by
    by_cases hi : i = g
    · subst hi
      rw [hM] at hm; cases hm
      unfold Blk at hb hbi
      rw [hb] at hbi
      injection hbi with hbi; injection hbi with h1 h2
      subst h1; subst h2
      exact ⟨_, hb', hs, fun j => .inr rfl⟩
    · exact ⟨cs', hbi.upd hu hi, rfl, fun _ => .inl rfl⟩⟩
section
variable {P : Program} {ops : Array Oper} {a : Act} {w w0 : World} {K : Value → World → Prop} {d : Option Tmp} {ty : TypeId} {pos : String} {af : Array Edge} {gd : Option (Nat × Bool)} {M : Nat → Option (Array Value)}
theorem d_storeRowM {t t' : TypeId} {x y : Operand} {g : Nat} {fin cs : Array Value} (hw : Region.wanted { dst := d, op := .store t x y, type := ty, pos := pos, after := af, guard := gd } (yielded ops a.tmps) = true) (hx : a.eval x = .pointer (some ⟨g, 0, none⟩)) (hy : a.eval y = .agg fin)
    (h1 : rowB P t fin.size = true) (hS : SM M w0 w) (hM : M g = some fin) (hb : Blk w0 g cs t') (hs : cs.size = fin.size) (ho : fin.toList.all (·.oneCell') = true) (hK : ∀ w', SM M w w' ∧ Blk w' g fin t' → K undef w') :
    Does P ops { dst := d, op := .store t x y, type := ty, pos := pos, after := af, guard := gd } a w K := by
  obtain ⟨cs', hb', hs', _⟩ := hS.turns g fin cs t' hM hb
  exact dsr hw hx hy h1 hb' (by omega) ho fun w' hu hb2 => hK w' ⟨SM.storeRow hM hu hb' hb2 (by omega), hb2⟩
end
end Go.Proofs.Ytlhompedcphnnaa
/- What Local comes to. -/
namespace Go.Proofs.Ytlhompedcphnnaa
open Go.RowKit

def start0 (r0 : Nat → Int) (rds : List Int) : Wk := ⟨((0 : Nat) : Int), r0, rds, [], []⟩
def refused (e : Int) : Ending := .returned (.tuple #[.agg (regsC fun _ => 0), .slice none 0 0, .slice none 0 0, .int .i64 e])
def LPost (code : List Ins) (r0 : Nat → Int) (rds : List Int) (w : World) (e : Ending) (w' : World) : Prop :=
  Grow w w' ∧ if (checkR [code]).2.2 = 0 then (match runW code code.length ⟨((0 : Nat) : Int), r0, rds, [], []⟩ with
    | none => e = refused 24
    | some s => ∃ ev pa, e = .returned (.tuple #[.agg (regsC s.r), ev, pa, .int .i64 0]) ∧ w'.ownsRow w.heap.size 52 15 ev s.evs.length (evE s.evs) ∧ w'.ownsRow w.heap.size 3 1 pa s.path.length (paE s.path))
  else e = refused 1
theorem own_le {w : World} {b b' : Nat} {e : TypeId} {s n : Nat} {v : Value} {xs : List Value} (h : w.ownsRow b e s v n xs) (hb : b' ≤ b) : w.ownsRow b' e s v n xs := by
  obtain ⟨h1, h2⟩ := h
  refine ⟨h1, ?_⟩
  rcases h2 with h2 | ⟨g, cap, cur, hv, hg, h3⟩
  · exact .inl h2
  · exact .inr ⟨g, cap, cur, hv, Nat.le_trans hb hg, h3⟩
theorem own_smG {M : Nat → Option (Array Value)} {w w' : World} {b : Nat} {e : TypeId} {s n : Nat} {v : Value} {xs : List Value} (h : w.ownsRow b e s v n xs) (hS : SM M w w') (hM : ∀ k, b ≤ k → M k = none) : w'.ownsRow b e s v n xs :=
  own_keep h fun k hk => hS.block k (own_lt h k hk).2 (hM k (own_lt h k hk).1)
section
variable {code : List Ins} {r0 : Nat → Int} {rds : List Int} {w w' : World}
theorem LPost.bad (h : (checkR [code]).2.2 ≠ 0) (b : Grow w w') : LPost code r0 rds w (refused 1) w' := by
  refine ⟨b, ?_⟩; rw [if_neg h]
theorem LPost.none (h : (checkR [code]).2.2 = 0) (hr : runW code code.length ⟨((0 : Nat) : Int), r0, rds, [], []⟩ = none) (b : Grow w w') : LPost code r0 rds w (refused 24) w' := by
  refine ⟨b, ?_⟩; rw [if_pos h, hr]
theorem LPost.some {s : Wk} {G : Nat} {ev pa : Value} (h : (checkR [code]).2.2 = 0) (hr : runW code code.length ⟨((0 : Nat) : Int), r0, rds, [], []⟩ = some s) (b : Grow w w') (hG : w.heap.size ≤ G) (he : w'.ownsRow G 52 15 ev s.evs.length (evE s.evs)) (hp : w'.ownsRow G 3 1 pa s.path.length (paE s.path)) :
    LPost code r0 rds w (.returned (.tuple #[.agg (regsC s.r), ev, pa, .int .i64 0])) w' := by
  refine ⟨b, ?_⟩; rw [if_pos h, hr]; exact ⟨ev, pa, rfl, own_le he hG, own_le hp hG⟩
end
end Go.Proofs.Ytlhompedcphnnaa
/- What Local returns. -/
namespace Go.Proofs.Ytlhompedcphnnaa
open Go.RowKit
set_option linter.unusedSimpArgs false
set_option linter.unusedVariables false
theorem elm34 : elemB Try.prog 34 35 1 24 = true := by kernel_rfl
theorem ent20 : ((Try.prog.funcs[20]?).map fun fn => (fn.name == "runtime.NumGoroutine", fn.body.isNone)) = some (false, false) := by kernel_rfl
theorem ent36 : ((Try.prog.funcs[36]?).map fun fn => (fn.name == "runtime.NumGoroutine", fn.body.isNone)) = some (false, false) := by kernel_rfl
theorem places62 : placesOf Try.prog 62 = some [(0, 1), (1, 8), (9, 1), (10, 1), (11, 1)] := by kernel_rfl
theorem row43 : rowB Try.prog 43 8 = true := by kernel_rfl
theorem row62 : rowB Try.prog 62 12 = true := by kernel_rfl
theorem zero43 : (Try.prog.info? 43).map (fun i => (i.zero, i.size)) = some (some (.agg #[.int .i64 0, .int .i64 0, .int .i64 0, .int .i64 0, .int .i64 0, .int .i64 0, .int .i64 0, .int .i64 0]), 8) := by kernel_rfl
theorem zero62 : (Try.prog.info? 62).map (fun i => (i.zero, i.size)) = some (some (.agg #[.int .i64 0, .int .i64 0, .int .i64 0, .int .i64 0, .int .i64 0, .int .i64 0, .int .i64 0, .int .i64 0, .int .i64 0, .slice none 0 0, .slice none 0 0, .slice none 0 0]), 12) := by kernel_rfl
set_option maxHeartbeats 8000000 in
set_option maxRecDepth 4000 in
theorem local_any (code : List Ins) (rds : List Int) (ao ao2 : Option Addr) (cap cap2 : Nat) (r0 : Nat → Int) (w : World) (hs : Sl insE 17 w.heap.size w (.slice ao code.length cap) code) (hrd : Sl intE 1 w.heap.size w (.slice ao2 rds.length cap2) rds) (hcl : code.length ≤ 1000000) (hwr : ∀ k, wfI (r0 k)) (hwi : ∀ i ∈ code, wfI i.imm ∧ wfI i.off) (hwd : ∀ z ∈ rds, wfI z) : Calls Try.prog 26 #[.slice ao code.length cap, .agg (regsC r0), .slice ao2 rds.length cap2] w (LPost code r0 rds w) := by
 have b0 : Below w.heap.size w w := Below.refl _ _
 refine enter (n := 46) Try.func26 rfl rfl (Nat.le_of_ble_eq_true rfl) ?_
 intro a1 hA2
 refine wp_seq ?_
 refine wp_region_lit ?_
 refine qs hA2 rfl (d_box (wn rfl) (hA2.ev rfl) ?_)
 intro g3 w4 eg5 hG6 (m7 : Blk w4 g3 (regsC r0) 43)
 have ge8 : w.heap.size ≤ g3 := eg5 ▸ b0.size
 have b9 := blg b0 hG6 b0.size
 intro a10 hA11
 refine qs hA11 rfl (dal (wn rfl) zero43 ?_)
 intro g12 w13 eg14 hG15 (m16 : Blk w13 g12 #[.int .i64 0, .int .i64 0, .int .i64 0, .int .i64 0, .int .i64 0, .int .i64 0, .int .i64 0, .int .i64 0] 43)
 have ge17 : w.heap.size ≤ g12 := eg14 ▸ b9.size
 have n18 : g3 ≠ g12 := fun h => Nat.lt_irrefl _ ((h.trans eg14) ▸ m7.lt)
 have lt19 : g3 < g12 := eg14 ▸ m7.lt
 have m20 := m7.grow hG15
 have b21 := blg b9 hG15 b9.size
 intro a22 hA23
 refine qs hA23 rfl (das (wn rfl) (hA23.ev rfl) ?_)
 intro a24 hA25
 refine qs hA25 rfl (das (wn rfl) (hA25.ev rfl) ?_)
 intro a26 hA27
 refine qs hA27 rfl (das (wn rfl) (hA27.ev rfl) ?_)
 intro a28 hA29
 refine qe_ ?_
 refine tn_ ?_
 refine wp_seq ?_
 refine wp_seq ?_
 refine wp_region_lit ?_
 refine qs hA29 rfl (dmv (wn rfl) (hA29.ev rfl) ?_)
 intro a30 hA31
 refine qs hA31 rfl (d_slice1 (wn rfl) (hA31.ev rfl) elm34 rfl (by decide) ?_)
 intro g32 w33 eg34 hG35 (m36 : Blk w33 g32 #[.slice ao code.length cap] 35)
 have ge37 : w.heap.size ≤ g32 := eg34 ▸ b21.size
 have n38 : g3 ≠ g32 := fun h => Nat.lt_irrefl _ ((h.trans eg34) ▸ m20.lt)
 have lt39 : g3 < g32 := eg34 ▸ m20.lt
 have n40 : g12 ≠ g32 := fun h => Nat.lt_irrefl _ ((h.trans eg34) ▸ m16.lt)
 have lt41 : g12 < g32 := eg34 ▸ m16.lt
 have m42 := m20.grow hG35
 have m43 := m16.grow hG35
 have b44 := blg b21 hG35 b21.size
 intro a45 hA46
 refine qs hA46 rfl (dcl (wn rfl) ent20 (map1 (hA46.ev rfl)) (check_any [code] (.slice (some ⟨g32, 0, none⟩) 1 1) w33 (cs_one m36 (hs.below b44) b44.size) (by simp) (by simp [totN]; omega)) ?_)
 rintro e50 w47 ⟨he49, hG48⟩
 have m51 := m42.grow hG48
 have m52 := m43.grow hG48
 have m53 := m36.grow hG48
 have b54 := blg b44 hG48 b44.size
 refine ⟨(.tuple #[(.int .i64 ((checkR [code]).1)), (.int .i64 ((checkR [code]).2.1)), (.int .i64 ((checkR [code]).2.2))]), he49, ?_⟩
 intro a55 hA56
 refine qs hA56 rfl (dmv (wn rfl) (hA56.ev rfl) ?_)
 intro a57 hA58
 refine qs hA58 rfl (dex (v := (.int .i64 ((checkR [code]).1))) (wn rfl) (hA58.ev rfl) rfl ?_)
 intro a59 hA60
 refine qs hA60 rfl (dex (v := (.int .i64 ((checkR [code]).2.1))) (wn rfl) (hA60.ev rfl) rfl ?_)
 intro a61 hA62
 refine qs hA62 rfl (dex (v := (.int .i64 ((checkR [code]).2.2))) (wn rfl) (hA62.ev rfl) rfl ?_)
 intro a63 hA64
 refine qs hA64 rfl (das (wn rfl) (hA64.ev rfl) ?_)
 intro a65 hA66
 refine qs hA66 rfl (das (wn rfl) (hA66.ev rfl) ?_)
 intro a67 hA68
 refine qs hA68 rfl (das (wn rfl) (hA68.ev rfl) ?_)
 intro a69 hA70
 refine qe_ ?_
 refine tn_ ?_
 refine wp_seq ?_
 refine wp_region_lit ?_
 refine qs hA70 rfl (dmv (wn rfl) (hA70.ev rfl) ?_)
 intro a71 hA72
 rcases Bool.eq_false_or_eq_true ((checkR [code]).2.2 == 0) with hb73 | hb73
 ·skip
  have hq74 := eq_of_beq hb73
  refine qs hA72 rfl (dbn (wn rfl) (hA72.ev rfl) (hA72.ev rfl) (b_ne _ _ ((checkR [code]).2.2) 0 false _ (notof hb73)) ?_)
  intro a75 hA76
  refine qe_ ?_
  refine tn_ ?_
  refine c_false hA76 rfl ?_
  refine wp_skip ?_
  refine tn_ ?_
  refine wp_seq ?_
  refine wp_region_lit ?_
  refine qs hA76 rfl (dlr (cs := (regsC r0)) (wn rfl) (hA76.ev rfl) row43 m51 ?_)
  intro a77 hA78
  refine qs hA78 rfl (dmv (wn rfl) (hA78.ev rfl) ?_)
  intro a79 hA80
  refine qs hA80 rfl (dbd (cs := #[.int .i64 0, .int .i64 (r0 0), .int .i64 (r0 1), .int .i64 (r0 2), .int .i64 (r0 3), .int .i64 (r0 4), .int .i64 (r0 5), .int .i64 (r0 6), .int .i64 (r0 7), .slice ao2 rds.length cap2, .slice none 0 0, .slice none 0 0]) (wn rfl) (bp_of (bq_cons (hA80.ev rfl) (bq_cons (hA80.ev rfl) bq_nil))) zero62 places62 (by kernel_rfl) ?_)
  intro a81 hA82
  refine qs hA82 rfl (dal (wn rfl) zero62 ?_)
  intro g83 w84 eg85 hG86 (m87 : Blk w84 g83 #[.int .i64 0, .int .i64 0, .int .i64 0, .int .i64 0, .int .i64 0, .int .i64 0, .int .i64 0, .int .i64 0, .int .i64 0, .slice none 0 0, .slice none 0 0, .slice none 0 0] 62)
  have ge88 : w.heap.size ≤ g83 := eg85 ▸ b54.size
  have n89 : g3 ≠ g83 := fun h => Nat.lt_irrefl _ ((h.trans eg85) ▸ m51.lt)
  have lt90 : g3 < g83 := eg85 ▸ m51.lt
  have n91 : g12 ≠ g83 := fun h => Nat.lt_irrefl _ ((h.trans eg85) ▸ m52.lt)
  have lt92 : g12 < g83 := eg85 ▸ m52.lt
  have n93 : g32 ≠ g83 := fun h => Nat.lt_irrefl _ ((h.trans eg85) ▸ m53.lt)
  have lt94 : g32 < g83 := eg85 ▸ m53.lt
  have m95 := m51.grow hG86
  have m96 := m52.grow hG86
  have m97 := m53.grow hG86
  have b98 := blg b54 hG86 b54.size
  intro a99 hA100
  refine qs hA100 rfl (dsr (wn rfl) (hA100.ev rfl) (hA100.ev rfl) row62 m87 rfl rfl ?_)
  intro w101 hU102 (m103 : Blk w101 g83 #[.int .i64 0, .int .i64 (r0 0), .int .i64 (r0 1), .int .i64 (r0 2), .int .i64 (r0 3), .int .i64 (r0 4), .int .i64 (r0 5), .int .i64 (r0 6), .int .i64 (r0 7), .slice ao2 rds.length cap2, .slice none 0 0, .slice none 0 0] 62)
  have m104 := m95.upd hU102 n89
  have m105 := m96.upd hU102 n91
  have m106 := m97.upd hU102 n93
  have b107 := hU102.below b98 ge88
  intro a108 hA109
  refine qe_ ?_
  refine tn_ ?_
  refine wp_seq ?_
  refine wp_block ?_
  obtain ⟨hlen, hright⟩ := check_one (eq_of_beq hb73)
  have hWS110 : WS g83 g83 w101 ((0 : Nat) : Int) r0 rds [] [] (.slice ao2 rds.length cap2) (.slice none 0 0) (.slice none 0 0) := ⟨m103, Nat.le_refl _, ((hrd.below b107)).mono ge88, ⟨rfl, .inl ⟨rfl, rfl⟩⟩, ⟨rfl, .inl ⟨rfl, rfl⟩⟩, nofun, nofun, nofun⟩
  refine loop_by (fun m a' w' => ∃ (n f : Nat) (r : Nat → Int) (ls : List Int) (es : List Ev) (ps : List Int) (rd ev pa : Value), m = code.length - n ∧ n ≤ code.length ∧ code.length - n ≤ f ∧ ps.length ≤ n ∧ es.length ≤ n ∧ (∀ k, wfI (r k)) ∧ (∀ z ∈ ls, wfI z) ∧ runW code code.length ⟨((0 : Nat) : Int), r0, rds, [], []⟩ = runW code f ⟨((n : Nat) : Int), r, ls, es, ps⟩ ∧ St 46 [(0, (.slice ao code.length cap)), (6, (.pointer (some ⟨g12, 0, none⟩))), (13, (.pointer (some ⟨g83, 0, none⟩)))] a' ∧ Below g83 w101 w' ∧ WS g83 g83 w' ((n : Nat) : Int) r ls es ps rd ev pa) (code.length - 0) ⟨0, code.length, r0, rds, [], [], _, _, _, rfl, Nat.zero_le _, Nat.le_refl _, Nat.le_refl _, Nat.le_refl _, hwr, hwd, rfl, hA109.sub rfl, Below.refl _ _, hWS110⟩ ?_
  rintro m111 a112 w113 ⟨nq114, fq115, rq116, lsq117, esq118, psq119, rdq120, evq121, paq122, hm123, hn124, hf125, hps126, hes127, hwf128, hwd129, hrun130, hA131, hbl132, hWS133⟩
  have b134 := b107.trans (hbl132.mono ge88)
  have m135 := m105.below hbl132 lt92
  refine wp_seq ?_
  refine wp_seq ?_
  refine wp_region_lit ?_
  refine qs hA131 rfl (dfa (wn rfl) (hA131.ev rfl) fo62_0 ?_)
  intro a136 hA137
  refine qs hA137 rfl (dld (v := (.int .i64 ((nq114 : Nat) : Int))) (wn rfl) (hA137.ev rfl) one3 (hWS133.hb.cell rfl) ?_)
  intro a138 hA139
  refine qs hA139 rfl (dmv (wn rfl) (hA139.ev rfl) ?_)
  intro a140 hA141
  refine qs hA141 rfl (dle (n := code.length) (wn rfl) (hA141.ev rfl) slc35 hs.form ?_)
  intro a142 hA143
  rcases Bool.eq_false_or_eq_true (decide (((nq114 : Nat) : Int) < ((code.length : Nat) : Int))) with hb144 | hb144
  ·skip
   have hq145 := of_decide_eq_true hb144
   refine qs hA143 rfl (dbn (wn rfl) (hA143.ev rfl) (hA143.ev rfl) (b_lt _ _ ((nq114 : Nat) : Int) ((code.length : Nat) : Int) true _ hb144) ?_)
   intro a146 hA147
   refine qe_ ?_
   refine tn_ ?_
   refine c_true hA147 rfl ?_
   refine wp_skip ?_
   refine tn_ ?_
   refine wp_block ?_
   refine wp_seq ?_
   refine wp_region_lit ?_
   refine qs hA147 rfl (dmv (wn rfl) (hA147.ev rfl) ?_)
   intro a148 hA149
   refine qs hA149 rfl (dfa (wn rfl) (hA149.ev rfl) fo62_0 ?_)
   intro a150 hA151
   refine qs hA151 rfl (dld (v := (.int .i64 ((nq114 : Nat) : Int))) (wn rfl) (hA151.ev rfl) one3 (hWS133.hb.cell rfl) ?_)
   intro a152 hA153
   obtain ⟨y154, hy155⟩ : ∃ y154, code[nq114]? = some y154 := ⟨_, List.getElem?_eq_getElem (show nq114 < code.length by omega)⟩
   obtain ⟨b156, o157, lt158, hr159, hix160⟩ := (hs.below b134).at hy155
   refine qs hA153 rfl (dia (j := nq114) (wn rfl) (hA153.ev rfl) (hA153.ev rfl) slc35 hix160 (get_lt hy155) ?_)
   intro a161 hA162
   refine qs hA162 rfl (dlm (cs := (insC y154)) (wn rfl) (hA162.ev rfl) row23 hr159 ?_)
   intro a163 hA164
   refine qs hA164 rfl (dcl (wn rfl) ent36 (map2 (hA164.ev rfl) (hA164.ev rfl)) (step_any g83 g83 ⟨((nq114 : Nat) : Int), rq116, lsq117, esq118, psq119⟩ rdq120 evq121 paq122 y154 w113 (Nat.le_of_lt hWS133.hb.lt) hWS133 (show esq118.length ≤ 1000 by omega) (show psq119.length ≤ 1000 by omega) hwf128 (show (0 : Int) ≤ ((nq114 : Nat) : Int) by omega) (show ((nq114 : Nat) : Int) ≤ 1000 by omega) (right_yes (hright _ _ hy155)).1 (hwi _ (List.mem_of_getElem? hy155)).1 (hwi _ (List.mem_of_getElem? hy155)).2 hwd129) ?_)
   rintro e168 w165 hp169
   rcases hst170 : stepW ⟨((nq114 : Nat) : Int), rq116, lsq117, esq118, psq119⟩ y154 with _ | s171
   ·skip
    rw [hst170] at hp169
    obtain ⟨he167, bl172⟩ := hp169
    have b173 := b134.trans (bl172.mono ge88)
    have hbl174 := hbl132.trans bl172
    have m175 := m135.below bl172 lt92
    refine ⟨.bool false, he167, ?_⟩
    intro a176 hA177
    refine qs hA177 rfl (dnt (wn rfl) (hA177.ev rfl) ?_)
    intro a178 hA179
    refine qe_ ?_
    refine tn_ ?_
    refine c_true hA179 rfl ?_
    refine wp_seq ?_
    refine wp_region_lit ?_
    refine qs hA179 rfl (dlr (cs := #[.int .i64 0, .int .i64 0, .int .i64 0, .int .i64 0, .int .i64 0, .int .i64 0, .int .i64 0, .int .i64 0]) (wn rfl) (hA179.ev rfl) row43 m175 ?_)
    intro a180 hA181
    refine qs hA181 rfl (dsr (wn rfl) (hA181.ev rfl) (hA181.ev rfl) row43 m175 rfl rfl ?_)
    intro w182 hU183 (m184 : Blk w182 g12 #[.int .i64 0, .int .i64 0, .int .i64 0, .int .i64 0, .int .i64 0, .int .i64 0, .int .i64 0, .int .i64 0] 43)
    have b185 := hU183.below b173 ge17
    intro a186 hA187
    refine qs hA187 rfl (das (wn rfl) (hA187.ev rfl) ?_)
    intro a188 hA189
    refine qs hA189 rfl (das (wn rfl) (hA189.ev rfl) ?_)
    intro a190 hA191
    refine qs hA191 rfl (das (wn rfl) (hA191.ev rfl) ?_)
    intro a192 hA193
    refine qe_ ?_
    refine tn_ ?_
    refine wp_ret ?_
    refine i_ret ?_
    refine t_ret ?_
    refine i_ret ?_
    refine t_ret ?_
    refine retC3 (g := g12) (cs := #[.int .i64 0, .int .i64 0, .int .i64 0, .int .i64 0, .int .i64 0, .int .i64 0, .int .i64 0, .int .i64 0]) (x := (.slice none 0 0)) (y := (.slice none 0 0)) (z := (.int .i64 24)) rfl hA193 rfl rfl rfl rfl m184 row43 ?_
    obtain ⟨ff, hff⟩ : ∃ ff, fq115 = ff + 1 := ⟨fq115 - 1, by have := get_lt hy155; omega⟩
    have hrn : runW code code.length ⟨((0 : Nat) : Int), r0, rds, [], []⟩ = none := by rw [hrun130, hff, runW_step (s := ⟨((nq114 : Nat) : Int), rq116, lsq117, esq118, psq119⟩) (i := y154) (by simpa using hy155), hst170]
    exact LPost.none (eq_of_beq hb73) hrn b185
   rw [hst170] at hp169
   obtain ⟨he167, bl194, rd197, ev198, pa199, hW196⟩ := hp169
   have b195 := b134.trans (bl194.mono ge88)
   have hbl200 := hbl132.trans bl194
   have m201 := m135.below bl194 lt92
   refine ⟨.bool true, he167, ?_⟩
   intro a202 hA203
   refine qs hA203 rfl (dnt (wn rfl) (hA203.ev rfl) ?_)
   intro a204 hA205
   refine qe_ ?_
   refine tn_ ?_
   refine c_false hA205 rfl ?_
   refine wp_skip ?_
   refine i_norm ?_
   refine tn_ ?_
   have sf208 := step_facts (s := ⟨((nq114 : Nat) : Int), rq116, lsq117, esq118, psq119⟩) (hright _ _ hy155) (by have := get_lt hy155; simp only; omega) hwf128 (hwi _ (List.mem_of_getElem? hy155)).1 hst170
   simp only at sf208
   obtain ⟨f1, f2, f3, f4, f5, f6⟩ := sf208
   obtain ⟨n206, hn207⟩ := Int.eq_ofNat_of_zero_le (show 0 ≤ s171.p by omega)
   obtain ⟨ff, hff⟩ : ∃ ff, fq115 = ff + 1 := ⟨fq115 - 1, by have := get_lt hy155; omega⟩
   have hrn : runW code code.length ⟨((0 : Nat) : Int), r0, rds, [], []⟩ = runW code ff ⟨((n206 : Nat) : Int), s171.r, s171.rds, s171.evs, s171.path⟩ := by
    rw [hrun130, hff, runW_step (s := ⟨((nq114 : Nat) : Int), rq116, lsq117, esq118, psq119⟩) (i := y154) (by simpa using hy155), hst170, ← hn207]
   have hW4 := hW196
   rw [hn207] at hW4
   have hpl : s171.path.length ≤ n206 := by rw [f4]; simp; omega
   exact ⟨code.length - n206, (by rw [hm123]; omega), n206, ff, s171.r, s171.rds, s171.evs, s171.path, rd197, ev198, pa199, rfl, (by omega), (by omega), hpl, (by omega), f3, (fun z hz => hwd129 z (f6 z hz)), hrn, hA205.sub rfl, hbl200, hW4⟩
  have hq209 := of_decide_eq_false hb144
  refine qs hA143 rfl (dbn (wn rfl) (hA143.ev rfl) (hA143.ev rfl) (b_lt _ _ ((nq114 : Nat) : Int) ((code.length : Nat) : Int) false _ hb144) ?_)
  intro a210 hA211
  refine qe_ ?_
  refine tn_ ?_
  refine c_false hA211 rfl ?_
  refine wp_exit ?_
  refine t_exit ?_
  refine t_exit ?_
  refine i_here ?_
  refine tn_ ?_
  refine wp_seq ?_
  have hA212 : St 46 [(6, (.pointer (some ⟨g12, 0, none⟩))), (13, (.pointer (some ⟨g83, 0, none⟩)))] a210 := hA211.sub rfl
  let M213 : Nat → Option (Array Value) := fun k => if k = g12 then some (regsC rq116) else none
  have hM213 : M213 = fun k => if k = g12 then some (regsC rq116) else none := rfl
  clear_value M213
  have hM214 : M213 g83 = none := ((congrFun hM213 g83).trans (if_neg (Ne.symm n91)))
  have hM215 : M213 g12 = some (regsC rq116) := ((congrFun hM213 g12).trans (if_pos rfl))
  have hM213B : ∀ k, k < w.heap.size → M213 k = none := (fun k hk => (congrFun hM213 k).trans (if_neg (fun h => Nat.lt_irrefl _ (Nat.lt_of_lt_of_le (h ▸ hk) ge17))))
  refine drawn (S := SM M213) (tabL [cv (.pointer (some ⟨g83, 1, none⟩)), cv (.agg (regsC rq116)), cv (.pointer (some ⟨g83, 10, none⟩)), cv evq121, cv (.pointer (some ⟨g83, 11, none⟩)), cv paq122, cmr M213 g12 43 (regsC rq116) hM215, cv evq121, cv paq122, cv (.int .i64 0)]) mixedY SM.refl SM.trans SM.drew hA212 (by kernel_rfl) ?_ ?_
  ·skip
   refine ec_ (fun x y hS hT hk => dfa (wn rfl) (hT.ev rfl) fo62_1 ⟨SM.refl _, rfl⟩) ?_
   refine ec_ (fun x y hS hT hk => dlm (cs := (regsC rq116)) (wn rfl) (hk 0 rfl) row43 (walk_regs (Blk.sm (w := w113.drew) hWS133.hb hS hM214)) ⟨SM.refl _, rfl⟩) ?_
   refine ec_ (fun x y hS hT hk => dfa (wn rfl) (hT.ev rfl) fo62_3 ⟨SM.refl _, rfl⟩) ?_
   refine ec_ (fun x y hS hT hk => dld (v := evq121) (wn rfl) (hk 2 rfl) one44 ((Blk.sm (w := w113.drew) hWS133.hb hS hM214).cell rfl) ⟨SM.refl _, rfl⟩) ?_
   refine ec_ (fun x y hS hT hk => dfa (wn rfl) (hT.ev rfl) fo62_4 ⟨SM.refl _, rfl⟩) ?_
   refine ec_ (fun x y hS hT hk => dld (v := paq122) (wn rfl) (hk 4 rfl) one30 ((Blk.sm (w := w113.drew) hWS133.hb hS hM214).cell rfl) ⟨SM.refl _, rfl⟩) ?_
   refine ec_ (fun x y hS hT hk => d_storeRowM (fin := (regsC rq116)) (w0 := w113.drew) (wn rfl) (hT.ev rfl) (hk 1 rfl) row43 hS hM215 m135 rfl rfl (fun _ h => h)) ?_
   refine ec_ (fun x y hS hT hk => das (wn rfl) (hk 3 rfl) ⟨SM.refl _, rfl⟩) ?_
   refine ec_ (fun x y hS hT hk => das (wn rfl) (hk 5 rfl) ⟨SM.refl _, rfl⟩) ?_
   refine ec_ (fun x y hS hT hk => das (wn rfl) (hT.ev rfl) ⟨SM.refl _, rfl⟩) ?_
   exact each_nil
  intro f216 a217 w218 hS219 hC220 hA221
  have hA222 : St 46 [(6, (.pointer (some ⟨g12, 0, none⟩))), (7, evq121), (8, paq122), (9, (.int .i64 0))] a217 := hA221.cut _ (fc (hA221.get 6 _ rfl) (fc ((hA221.get 7 _ rfl).trans (hC220 7 (Nat.le_of_ble_eq_true rfl))) (fc ((hA221.get 8 _ rfl).trans (hC220 8 (Nat.le_of_ble_eq_true rfl))) (fc ((hA221.get 9 _ rfl).trans (hC220 9 (Nat.le_of_ble_eq_true rfl))) fn_))))
  have m223 := hWS133.hb.sm hS219 hM214
  have m224 : Blk w218 g12 (regsC rq116) 43 := hC220 6 (Nat.le_of_ble_eq_true rfl)
  have b225 := hS219.below b134 b134.size hM213B
  have ho226 := own_smG hWS133.hev hS219 (fun k hk => (congrFun hM213 k).trans (if_neg (Nat.ne_of_gt (Nat.lt_of_lt_of_le lt92 hk))))
  have ho227 := own_smG hWS133.hpa hS219 (fun k hk => (congrFun hM213 k).trans (if_neg (Nat.ne_of_gt (Nat.lt_of_lt_of_le lt92 hk))))
  refine tn_ ?_
  refine wp_ret ?_
  refine retC3 (g := g12) (cs := (regsC rq116)) (x := evq121) (y := paq122) (z := (.int .i64 0)) rfl hA222 rfl rfl rfl rfl m224 row43 ?_
  have hrn : runW code code.length ⟨((0 : Nat) : Int), r0, rds, [], []⟩ = some ⟨((nq114 : Nat) : Int), rq116, lsq117, esq118, psq119⟩ := by rw [hrun130, runW_end (by simp only [Int.toNat_natCast]; omega)]
  exact LPost.some (eq_of_beq hb73) hrn b225 ge88 ho226 ho227
 have hq228 := ne_of_beq hb73
 refine qs hA72 rfl (dbn (wn rfl) (hA72.ev rfl) (hA72.ev rfl) (b_ne _ _ ((checkR [code]).2.2) 0 true _ (notof hb73)) ?_)
 intro a229 hA230
 refine qe_ ?_
 refine tn_ ?_
 refine c_true hA230 rfl ?_
 refine wp_seq ?_
 refine wp_region_lit ?_
 refine qs hA230 rfl (dlr (cs := #[.int .i64 0, .int .i64 0, .int .i64 0, .int .i64 0, .int .i64 0, .int .i64 0, .int .i64 0, .int .i64 0]) (wn rfl) (hA230.ev rfl) row43 m52 ?_)
 intro a231 hA232
 refine qs hA232 rfl (dsr (wn rfl) (hA232.ev rfl) (hA232.ev rfl) row43 m52 rfl rfl ?_)
 intro w233 hU234 (m235 : Blk w233 g12 #[.int .i64 0, .int .i64 0, .int .i64 0, .int .i64 0, .int .i64 0, .int .i64 0, .int .i64 0, .int .i64 0] 43)
 have m236 := m51.upd hU234 n18
 have m237 := m53.upd hU234 (Ne.symm n40)
 have b238 := hU234.below b54 ge17
 intro a239 hA240
 refine qs hA240 rfl (das (wn rfl) (hA240.ev rfl) ?_)
 intro a241 hA242
 refine qs hA242 rfl (das (wn rfl) (hA242.ev rfl) ?_)
 intro a243 hA244
 refine qs hA244 rfl (das (wn rfl) (hA244.ev rfl) ?_)
 intro a245 hA246
 refine qe_ ?_
 refine tn_ ?_
 refine wp_ret ?_
 refine t_ret ?_
 refine retC3 (g := g12) (cs := #[.int .i64 0, .int .i64 0, .int .i64 0, .int .i64 0, .int .i64 0, .int .i64 0, .int .i64 0, .int .i64 0]) (x := (.slice none 0 0)) (y := (.slice none 0 0)) (z := (.int .i64 1)) rfl hA246 rfl rfl rfl rfl m235 row43 ?_
 exact LPost.bad (ne_of_beq hb73) b238
end Go.Proofs.Ytlhompedcphnnaa
/- The code that every statement of chapter 3 tries first: what its run comes to. -/
namespace Go.Proofs.Ytlhompedcphnnaa
open Go.RowKit

def cI : Ins := ⟨1, 1, -1, -1, 5, 0, 0, -1, 0, 0, false, false, false, 0, 0, 0, false⟩
def sI : Ins := ⟨5, -1, 1, -1, 0, 0, 0, -1, 8, 0, false, false, false, 0, 0, 0, false⟩
def s1 : Wk := (runW [cI, sI] 2 ⟨((0 : Nat) : Int), fun _ => 0, [], [], []⟩).getD ⟨0, fun _ => 0, [], [], []⟩
theorem able_run : runW [cI, sI] 2 ⟨((0 : Nat) : Int), fun _ => 0, [], [], []⟩ = some s1 := by kernel_rfl
theorem able_check : (checkR [[cI, sI]]).2.2 = 0 := by kernel_rfl
theorem able_none : (checkR []).2.2 = 30 := by kernel_rfl
theorem able_r : (s1.r 1 == 5) = true := by kernel_rfl
theorem able_e : s1.evs.length = 1 := by kernel_rfl
theorem able_p : s1.path.length = 2 := by kernel_rfl
theorem able_e1 : (((s1.evs.length : Nat) : Int) == 1) = true := by kernel_rfl
theorem able_p1 : (((s1.path.length : Nat) : Int) == 2) = true := by kernel_rfl
theorem able_n1 : ((checkR []).2.2 == 0) = false := by kernel_rfl
theorem able_ev : s1.evs[0]?.map (fun e => (e.new_ == 5, e.mask == 255)) = some (true, true) := by kernel_rfl
theorem able_w : wrB sI = true := by kernel_rfl
theorem able_g : (givesF cI == 1) = true := by kernel_rfl
def evS (e : Ev) : List Value := (evC e).toList
theorem own_sl {w : World} {b : Nat} {v : Value} {l : List Ev} (h : w.ownsRow b 52 15 v l.length (evE l)) : Sl evS 15 w.heap.size w v l := by
  obtain ⟨h1, h2⟩ := h
  rcases h2 with ⟨rfl, h2⟩ | ⟨g, cap, cur, hv, hb, hg, hc, _, hs, ht⟩
  · have : l = [] := List.eq_nil_of_length_eq_zero h2
    subst this; exact Sl.nil
  · refine ⟨some ⟨g, 0, none⟩, cap, hv, hc, fun j x hx => ⟨g, 0, rfl, (Array.getElem?_eq_some_iff.1 hg).1, fun k u hu => ?_⟩⟩
    rw [cell_of_row w g _ cur _ _ hg]
    have hk : k < 15 := by have := get_lt hu; simpa [evS, evC] using this
    have hj := get_lt hx
    have key : ∀ (l : List Ev) (j : Nat) (x : Ev), l[j]? = some x → (evE l)[j * 15 + k]? = some u ∨ evS x ≠ evS x ∨ (evE l)[j * 15 + k]? = (evS x)[k]? := by
      intro l
      induction l with
      | nil => intro j x hx; simp at hx
      | cons e l ih =>
        intro j x hx
        have hel : (evC e).toList.length = 15 := rfl
        have he : evE (e :: l) = (evC e).toList ++ evE l := by simp [evE]
        cases j with
        | zero =>
          simp at hx; subst hx
          right; right
          rw [he, Nat.zero_mul, Nat.zero_add, List.getElem?_append_left (by rw [hel]; exact hk)]
          rfl
        | succ j =>
          have := ih j x (by simpa using hx)
          rw [he, List.getElem?_append_right (by rw [hel, Nat.add_mul]; omega), hel, show (j + 1) * 15 + k - 15 = j * 15 + k by rw [Nat.add_mul]; omega]
          exact this
    have hkey : (evE l)[j * 15 + k]? = some u := by
      rcases key l j x hx with h | h | h
      · exact h
      · exact absurd rfl h
      · rw [h]; exact hu
    have hlt : j * 15 + k < l.length * 15 := by
      have := Nat.mul_le_mul_right 15 (show j + 1 ≤ l.length by omega)
      rw [Nat.add_mul] at this; omega
    have h3 : (cur.toList.take (l.length * 15))[j * 15 + k]? = some u := by rw [ht]; exact hkey
    rw [List.getElem?_take_of_lt hlt] at h3
    rw [Nat.zero_add, ← Array.getElem?_toList]; exact h3
end Go.Proofs.Ytlhompedcphnnaa
/- What able needs besides: a slice of two instructions, an array of zeros, no codes. -/
namespace Go.Proofs.Ytlhompedcphnnaa
open Go.RowKit

def two (i j : Ins) : Array Value := ((insC i).toList ++ (insC j).toList).toArray
theorem two_range {w : World} {g : Nat} {t : TypeId} {i j : Ins} (h : Blk w g (two i j) t) : w.rangeAt g 0 (insC i).toList ∧ w.rangeAt g 17 (insC j).toList := by
  constructor
  · intro k v hv
    have hk := get_lt hv
    refine h.cell ?_
    simp only [two, List.getElem?_toArray, Nat.zero_add]
    rw [List.getElem?_append_left hk]; exact hv
  · intro k v hv
    refine h.cell ?_
    have hl : (insC i).toList.length = 17 := rfl
    simp only [two, List.getElem?_toArray]
    rw [List.getElem?_append_right (by rw [hl]; omega), hl, show 17 + k - 17 = k by omega]; exact hv
theorem sl_two {w : World} {g : Nat} {t : TypeId} {i j : Ins} (h : Blk w g (two i j) t) : Sl insE 17 w.heap.size w (.slice (some ⟨g, 0, none⟩) 2 2) [i, j] := by
  refine ⟨some ⟨g, 0, none⟩, 2, rfl, Nat.le_refl _, fun k x hx => ⟨g, 0, rfl, h.lt, ?_⟩⟩
  have hk := get_lt hx
  match k, hk with
  | 0, _ => simp at hx; subst hx; exact (two_range h).1
  | 1, _ => simp at hx; subst hx; exact (two_range h).2
theorem cs_nil (B' : Nat) (w : World) : Cs B' w (.slice none 0 0) [] := ⟨[], Sl.nil, rfl, fun j u c hu => by simp at hu⟩
section
variable {P : Program} {ops : Array Oper} {a : Act} {w : World} {K : Value → World → Prop} {d : Option Tmp} {ty : TypeId} {pos : String} {af : Array Edge} {gd : Option (Nat × Bool)}
def sFill (P : Program) (e s m : Nat) (vs : List (Nat × Value)) : Option (Array Value) := match P.info? e with
  | some i => match i.zero with
    | some z => Instr.fill (fun j => some (j * s, s)) ((Array.range (m * s)).map (z.cells[· % z.cells.size]!)) vs
    | none => none
  | none => none
theorem d_sliceK {t e s by_ m : Nat} {parts : Array (Nat × Operand)} {vs : List (Nat × Value)} {cs : Array Value} (hw : Region.wanted { dst := d, op := .buildSlice t m parts, type := ty, pos := pos, after := af, guard := gd } (yielded ops a.tmps) = true) (hx : (parts.map fun x => (x.1, a.eval x.2)).toList = vs) (ht : elemB P t e s by_ = true) (hm : 0 < m) (hsm : m * s ≤ 10000)
    (hf : sFill P e s m vs = some cs) (h : ∀ g w', g = w.heap.size → Grow w w' → Blk w' g cs e → K (.slice (some ⟨g, 0, none⟩) m m) w') : Does P ops { dst := d, op := .buildSlice t m parts, type := ty, pos := pos, after := af, guard := gd } a w K := by
  obtain ⟨i, z, hu, hi, hz, hsz, _, hzs, h0⟩ := elem_facts ht
  refine does_val (w' := w.alloc (.cells cs e)) hw ?_ (h _ _ rfl ((Grow.refl _).alloc _) (heap_alloc_last w _))
  have hf' : Instr.fill (fun j => some (j * i.size, i.size)) ((Array.range (m * i.size)).map (z.cells[· % z.cells.size]!)) (parts.map fun x => (x.1, a.eval x.2)).toList = some cs := by
    rw [hx, hsz]; unfold sFill at hf; rw [hi] at hf; simp only [hz] at hf; exact hf
  have hpos : 0 < m * s := Nat.mul_pos hm h0
  have := run_buildSlice (P := P) w t e m (parts.map fun x => (x.1, a.eval x.2)) cs i z hu hi hz (by rw [hsz]; omega) (by rw [hsz]; omega) hf'
  unfold execOp
  simp only [Sem.run_bind, this, Result.andThen_ok, Sem.run_pure]
/-- an array literal without parts -/
theorem d_buildZ {t n e s m : Nat} {z : Value} (hw : Region.wanted { dst := d, op := .build t #[], type := ty, pos := pos, after := af, guard := gd } (yielded ops a.tmps) = true) (ht : arrB P t n e s = true) (hi : (P.info? t).map (fun i => (i.zero, i.size)) = some (some z, m)) (h : K (.agg z.cells) w) :
    Does P ops { dst := d, op := .build t #[], type := ty, pos := pos, after := af, guard := gd } a w K :=
  does_val hw (by
    have hz := (zero_of_info hi).1 w
    unfold execOp
    simp only [Sem.run_bind, Instr.build, hz, Result.andThen_ok, run_underlying (arr_facts ht).1, run_size (arr_facts ht).2, List.map_toArray, List.map_nil, Instr.fill, Sem.run_pure]) h
end
theorem ix_own {v : Value} {n j s b o : Nat} (h : IxAt v n j s b o) : IxAt v n j s b o := h
end Go.Proofs.Ytlhompedcphnnaa
/- able returns true. -/
namespace Go.Proofs.Ytlhompedcphnnaa
open Go.RowKit
set_option linter.unusedSimpArgs false
set_option linter.unusedVariables false
theorem elm35 : elemB Try.prog 35 23 17 120 = true := by kernel_rfl
theorem ent18 : ((Try.prog.funcs[18]?).map fun fn => (fn.name == "runtime.NumGoroutine", fn.body.isNone)) = some (false, false) := by kernel_rfl
theorem ent26 : ((Try.prog.funcs[26]?).map fun fn => (fn.name == "runtime.NumGoroutine", fn.body.isNone)) = some (false, false) := by kernel_rfl
theorem fo50_1 : fieldOff Try.prog 50 1 = some 1 := by kernel_rfl
theorem slc44 : sliceB Try.prog 44 52 15 = true := by kernel_rfl
theorem able_wf : ∀ i ∈ [cI, sI], wfI i.imm ∧ wfI i.off := by
 intro i hi
 have h5 : wfI 5 := by unfold wfI; decide +kernel
 simp at hi
 rcases hi with rfl | rfl
 · exact ⟨h5, wf_0⟩
 · exact ⟨wf_0, wf_0⟩
set_option maxHeartbeats 8000000 in
set_option maxRecDepth 4000 in
theorem able_any (w : World) : Calls Try.prog 8 #[] w fun e w' => e = .returned (.bool true) ∧ Grow w w' := by
 have b0 : Below w.heap.size w w := Below.refl _ _
 refine enter (n := 74) Try.func8 rfl rfl (Nat.le_of_ble_eq_true rfl) ?_
 intro a1 hA2
 refine wp_seq ?_
 refine wp_region_lit ?_
 refine qs hA2 rfl (das (wn rfl) (hA2.ev rfl) ?_)
 intro a3 hA4
 refine qe_ ?_
 refine tn_ ?_
 refine wp_seq ?_
 refine wp_region_lit ?_
 refine qs hA4 rfl (dbd (cs := #[.int .i64 1, .int .i64 1, .int .i64 (-1), .int .i64 (-1), .int .i64 5, .int .i64 0, .int .i64 0, .int .i64 (-1), .int .i64 0, .int .i64 0, .bool false, .bool false, .bool false, .int .i64 0, .int .i64 0, .int .i64 0, .bool false]) (wn rfl) (bp_of (bq_cons (hA4.ev rfl) (bq_cons (hA4.ev rfl) (bq_cons (hA4.ev rfl) (bq_cons (hA4.ev rfl) (bq_cons (hA4.ev rfl) (bq_cons (hA4.ev rfl) bq_nil))))))) zero23 places23 (by kernel_rfl) ?_)
 intro a5 hA6
 refine qs hA6 rfl (dbd (cs := #[.int .i64 5, .int .i64 (-1), .int .i64 1, .int .i64 (-1), .int .i64 0, .int .i64 0, .int .i64 0, .int .i64 (-1), .int .i64 8, .int .i64 0, .bool false, .bool false, .bool false, .int .i64 0, .int .i64 0, .int .i64 0, .bool false]) (wn rfl) (bp_of (bq_cons (hA6.ev rfl) (bq_cons (hA6.ev rfl) (bq_cons (hA6.ev rfl) (bq_cons (hA6.ev rfl) (bq_cons (hA6.ev rfl) (bq_cons (hA6.ev rfl) bq_nil))))))) zero23 places23 (by kernel_rfl) ?_)
 intro a7 hA8
 refine qs hA8 rfl (d_sliceK (cs := two cI sI) (wn rfl) (bp_of (bq_cons (hA8.ev rfl) (bq_cons (hA8.ev rfl) bq_nil))) elm35 (by decide) (by decide) (by kernel_rfl) ?_)
 intro g9 w10 eg11 hG12 (m13 : Blk w10 g9 (two cI sI) 23)
 have ge14 : w.heap.size ≤ g9 := eg11 ▸ b0.size
 have b15 := blg b0 hG12 b0.size
 intro a16 hA17
 refine qs hA17 rfl (das (wn rfl) (hA17.ev rfl) ?_)
 intro a18 hA19
 refine qe_ ?_
 refine tn_ ?_
 refine wp_seq ?_
 refine wp_region_lit ?_
 refine qs hA19 rfl (dmv (wn rfl) (hA19.ev rfl) ?_)
 intro a20 hA21
 refine qs hA21 rfl (d_buildZ (wn rfl) arr43 zero43 ?_)
 intro a22 hA23
 refine qs hA23 rfl (dcl (wn rfl) ent26 (map3 (hA23.ev rfl) (hA23.ev rfl) (hA23.ev rfl)) (local_any [cI, sI] [] (some ⟨g9, 0, none⟩) none 2 0 (fun _ => 0) w10 (sl_two m13) Sl.nil (by decide) (fun _ => wf_0) able_wf (fun z h => by cases h)) ?_)
 rintro e27 w24 ⟨hG25, hp32⟩
 rw [if_pos able_check] at hp32
 have hrun : runW [cI, sI] [cI, sI].length ⟨((0 : Nat) : Int), fun _ => 0, [], [], []⟩ = some s1 := able_run
 rw [hrun] at hp32
 obtain ⟨ev28, pa29, he26, hev30, hpa31⟩ := hp32
 have m33 := m13.grow hG25
 have b34 := blg b15 hG25 b15.size
 refine ⟨(.tuple #[(.agg (regsC s1.r)), ev28, pa29, (.int .i64 0)]), he26, ?_⟩
 intro a35 hA36
 refine qs hA36 rfl (dmv (wn rfl) (hA36.ev rfl) ?_)
 intro a37 hA38
 refine qs hA38 rfl (dex (v := (.agg (regsC s1.r))) (wn rfl) (hA38.ev rfl) rfl ?_)
 intro a39 hA40
 refine qs hA40 rfl (dex (v := ev28) (wn rfl) (hA40.ev rfl) rfl ?_)
 intro a41 hA42
 refine qs hA42 rfl (dex (v := pa29) (wn rfl) (hA42.ev rfl) rfl ?_)
 intro a43 hA44
 refine qs hA44 rfl (dex (v := (.int .i64 0)) (wn rfl) (hA44.ev rfl) rfl ?_)
 intro a45 hA46
 refine qs hA46 rfl (dal (wn rfl) zero43 ?_)
 intro g47 w48 eg49 hG50 (m51 : Blk w48 g47 #[.int .i64 0, .int .i64 0, .int .i64 0, .int .i64 0, .int .i64 0, .int .i64 0, .int .i64 0, .int .i64 0] 43)
 have ge52 : w.heap.size ≤ g47 := eg49 ▸ b34.size
 have n53 : g9 ≠ g47 := fun h => Nat.lt_irrefl _ ((h.trans eg49) ▸ m33.lt)
 have off54 := own_new hev30 eg49
 have off55 := own_new hpa31 eg49
 have m56 := m33.grow hG50
 have b57 := blg b34 hG50 b34.size
 have ho58 := owg hG50 hev30
 have ho59 := owg hG50 hpa31
 intro a60 hA61
 refine qs hA61 rfl (dsr (wn rfl) (hA61.ev rfl) (hA61.ev rfl) row43 m51 rfl rfl ?_)
 intro w62 hU63 (m64 : Blk w62 g47 (regsC s1.r) 43)
 have m65 := m56.upd hU63 n53
 have b66 := hU63.below b57 ge52
 have ho67 := own_upd ho58 hU63 off54
 have ho68 := own_upd ho59 hU63 off55
 intro a69 hA70
 refine qs hA70 rfl (das (wn rfl) (hA70.ev rfl) ?_)
 intro a71 hA72
 refine qs hA72 rfl (das (wn rfl) (hA72.ev rfl) ?_)
 intro a73 hA74
 refine qs hA74 rfl (das (wn rfl) (hA74.ev rfl) ?_)
 intro a75 hA76
 refine qe_ ?_
 refine tn_ ?_
 refine wp_seq ?_
 refine wp_region_lit ?_
 refine qs hA76 rfl (dcl (wn rfl) ent20 (map1 (hA76.ev rfl)) (check_any [] (.slice none 0 0) w62 (cs_nil _ _) (by decide) (by decide)) ?_)
 rintro e80 w77 ⟨he79, hG78⟩
 have m81 := m65.grow hG78
 have m82 := m64.grow hG78
 have b83 := blg b66 hG78 b66.size
 have ho84 := owg hG78 ho67
 have ho85 := owg hG78 ho68
 refine ⟨(.tuple #[(.int .i64 ((checkR []).1)), (.int .i64 ((checkR []).2.1)), (.int .i64 ((checkR []).2.2))]), he79, ?_⟩
 intro a86 hA87
 refine qs hA87 rfl (dmv (wn rfl) (hA87.ev rfl) ?_)
 intro a88 hA89
 refine qs hA89 rfl (dex (v := (.int .i64 ((checkR []).1))) (wn rfl) (hA89.ev rfl) rfl ?_)
 intro a90 hA91
 refine qs hA91 rfl (dex (v := (.int .i64 ((checkR []).2.1))) (wn rfl) (hA91.ev rfl) rfl ?_)
 intro a92 hA93
 refine qs hA93 rfl (dex (v := (.int .i64 ((checkR []).2.2))) (wn rfl) (hA93.ev rfl) rfl ?_)
 intro a94 hA95
 refine qs hA95 rfl (das (wn rfl) (hA95.ev rfl) ?_)
 intro a96 hA97
 refine qs hA97 rfl (das (wn rfl) (hA97.ev rfl) ?_)
 intro a98 hA99
 refine qs hA99 rfl (das (wn rfl) (hA99.ev rfl) ?_)
 intro a100 hA101
 refine qe_ ?_
 refine tn_ ?_
 refine wp_seq ?_
 refine wp_region_lit ?_
 refine qs hA101 rfl (dmv (wn rfl) (hA101.ev rfl) ?_)
 intro a102 hA103
 refine qs hA103 rfl (dbn (wn rfl) (hA103.ev rfl) (hA103.ev rfl) (b_eq _ _ 0 0 true _ rfl) ?_)
 intro a104 hA105
 refine qs hA105 rfl (dmv (wn rfl) (hA105.ev rfl) ?_)
 intro a106 hA107
 refine qs hA107 rfl (dix (j := 1) (p := 1) (wy rfl rfl (hA107.get 27 _ rfl)) (hA107.ev rfl) (hA107.ev rfl) arr43 (by decide) (by decide) ?_)
 intro a108 hA109
 refine qs hA109 rfl (dld (v := (.int .i64 (s1.r 1))) (wy rfl rfl (hA109.get 27 _ rfl)) (hA109.ev rfl) one3 (m82.cell rfl) ?_)
 intro a110 hA111
 refine qs hA111 rfl (dbn (wy rfl rfl (hA111.get 27 _ rfl)) (hA111.ev rfl) (hA111.ev rfl) (b_eq _ _ (s1.r 1) 5 true _ able_r) ?_)
 intro a112 hA113
 refine qs hA113 rfl (dpt (wn rfl) (hA113.ev rfl) (hA113.ev rfl) ?_)
 intro a114 hA115
 refine qs hA115 rfl (dmv (wn rfl) (hA115.ev rfl) ?_)
 intro a116 hA117
 refine qs hA117 rfl (dmv (wy rfl rfl (hA117.get 32 _ rfl)) (hA117.ev rfl) ?_)
 intro a118 hA119
 refine qs hA119 rfl (dle (n := s1.evs.length) (wy rfl rfl (hA119.get 32 _ rfl)) (hA119.ev rfl) slc44 (own_form ho84) ?_)
 intro a120 hA121
 refine qs hA121 rfl (dbn (wy rfl rfl (hA121.get 32 _ rfl)) (hA121.ev rfl) (hA121.ev rfl) (b_eq _ _ ((s1.evs.length : Nat) : Int) 1 true _ able_e1) ?_)
 intro a122 hA123
 refine qs hA123 rfl (dpt (wn rfl) (hA123.ev rfl) (hA123.ev rfl) ?_)
 intro a124 hA125
 refine qs hA125 rfl (dmv (wn rfl) (hA125.ev rfl) ?_)
 intro a126 hA127
 refine qs hA127 rfl (dmv (wy rfl rfl (hA127.get 37 _ rfl)) (hA127.ev rfl) ?_)
 intro a128 hA129
 obtain ⟨y130, hy131⟩ : ∃ y130, s1.evs[0]? = some y130 := ⟨_, List.getElem?_eq_getElem (show 0 < s1.evs.length by rw [able_e]; decide)⟩
 obtain ⟨b132, o133, lt134, hr135, hix136⟩ := (own_sl ho84).at hy131
 refine qs hA129 rfl (dia (j := 0) (wy rfl rfl (hA129.get 37 _ rfl)) (hA129.ev rfl) (hA129.ev rfl) slc44 hix136 (get_lt hy131) ?_)
 intro a137 hA138
 refine qs hA138 rfl (dfa (wy rfl rfl (hA138.get 37 _ rfl)) (hA138.ev rfl) fo52_8 ?_)
 intro a139 hA140
 refine qs hA140 rfl (dld (v := (.int .i64 y130.new_)) (wy rfl rfl (hA140.get 37 _ rfl)) (hA140.ev rfl) one3 (hr135 9 _ rfl) ?_)
 intro a141 hA142
 refine qs hA142 rfl (dbn (wy rfl rfl (hA142.get 37 _ rfl)) (hA142.ev rfl) (hA142.ev rfl) (b_eq _ _ y130.new_ 5 true _ (by have h := able_ev; rw [hy131] at h; simp at h; simp [h])) ?_)
 intro a143 hA144
 refine qs hA144 rfl (dpt (wn rfl) (hA144.ev rfl) (hA144.ev rfl) ?_)
 intro a145 hA146
 refine qs hA146 rfl (dmv (wn rfl) (hA146.ev rfl) ?_)
 intro a147 hA148
 refine qs hA148 rfl (dmv (wy rfl rfl (hA148.get 44 _ rfl)) (hA148.ev rfl) ?_)
 intro a149 hA150
 refine qs hA150 rfl (dia (j := 0) (wy rfl rfl (hA150.get 44 _ rfl)) (hA150.ev rfl) (hA150.ev rfl) slc44 hix136 (get_lt hy131) ?_)
 intro a151 hA152
 refine qs hA152 rfl (dfa (wy rfl rfl (hA152.get 44 _ rfl)) (hA152.ev rfl) fo52_4 ?_)
 intro a153 hA154
 refine qs hA154 rfl (dfa (wy rfl rfl (hA154.get 44 _ rfl)) (hA154.ev rfl) fo50_1 ?_)
 intro a155 hA156
 refine qs hA156 rfl (dld (v := (.int .i64 y130.mask)) (wy rfl rfl (hA156.get 44 _ rfl)) (hA156.ev rfl) one3 (hr135 5 _ rfl) ?_)
 intro a157 hA158
 refine qs hA158 rfl (dbn (wy rfl rfl (hA158.get 44 _ rfl)) (hA158.ev rfl) (hA158.ev rfl) (b_eq _ _ y130.mask 255 true _ (by have h := able_ev; rw [hy131] at h; simp at h; simp [h])) ?_)
 intro a159 hA160
 refine qs hA160 rfl (dpt (wn rfl) (hA160.ev rfl) (hA160.ev rfl) ?_)
 intro a161 hA162
 refine qs hA162 rfl (dmv (wn rfl) (hA162.ev rfl) ?_)
 intro a163 hA164
 refine qs hA164 rfl (dmv (wy rfl rfl (hA164.get 52 _ rfl)) (hA164.ev rfl) ?_)
 intro a165 hA166
 refine qs hA166 rfl (dle (n := s1.path.length) (wy rfl rfl (hA166.get 52 _ rfl)) (hA166.ev rfl) slc30 (own_form ho85) ?_)
 intro a167 hA168
 refine qs hA168 rfl (dbn (wy rfl rfl (hA168.get 52 _ rfl)) (hA168.ev rfl) (hA168.ev rfl) (b_eq _ _ ((s1.path.length : Nat) : Int) 2 true _ able_p1) ?_)
 intro a169 hA170
 refine qs hA170 rfl (dpt (wn rfl) (hA170.ev rfl) (hA170.ev rfl) ?_)
 intro a171 hA172
 refine qs hA172 rfl (dmv (wn rfl) (hA172.ev rfl) ?_)
 intro a173 hA174
 refine qs hA174 rfl (dmv (wy rfl rfl (hA174.get 57 _ rfl)) (hA174.ev rfl) ?_)
 intro a175 hA176
 refine qs hA176 rfl (dbn (wy rfl rfl (hA176.get 57 _ rfl)) (hA176.ev rfl) (hA176.ev rfl) (b_ne _ _ ((checkR []).2.2) 0 true _ (notof able_n1)) ?_)
 intro a177 hA178
 refine qs hA178 rfl (dpt (wn rfl) (hA178.ev rfl) (hA178.ev rfl) ?_)
 intro a179 hA180
 refine qs hA180 rfl (dmv (wn rfl) (hA180.ev rfl) ?_)
 intro a181 hA182
 refine qs hA182 rfl (dmv (wy rfl rfl (hA182.get 61 _ rfl)) (hA182.ev rfl) ?_)
 intro a183 hA184
 refine qs hA184 rfl (dia (n := 2) (j := 1) (b := g9) (o := 17) (wy rfl rfl (hA184.get 61 _ rfl)) (hA184.ev rfl) (hA184.ev rfl) slc35 ⟨0, 2, rfl, rfl⟩ (by decide) ?_)
 intro a185 hA186
 refine qs hA186 rfl (dlm (cs := (insC sI)) (wy rfl rfl (hA186.get 61 _ rfl)) (hA186.ev rfl) row23 (two_range m81).2 ?_)
 intro a187 hA188
 refine qs hA188 rfl (dcl (wy rfl rfl (hA188.get 61 _ rfl)) ent13 (map1 (hA188.ev rfl)) (writes_any sI w77) ?_)
 rintro e192 w189 ⟨he191, hG190⟩
 have m193 := m81.grow hG190
 have m194 := m82.grow hG190
 have hr195 := range_below hr135 hG190 lt134
 have lt196 := Nat.lt_of_lt_of_le lt134 hG190.size
 have b197 := blg b83 hG190 b83.size
 have ho198 := owg hG190 ho84
 have ho199 := owg hG190 ho85
 refine ⟨(.bool (wrB sI)), he191, ?_⟩
 intro a200 hA201
 refine qs hA201 rfl (dpt (wn rfl) (hA201.ev rfl) (hA201.ev rfl) ?_)
 intro a202 hA203
 refine qs hA203 rfl (dmv (wn rfl) (hA203.ev rfl) ?_)
 intro a204 hA205
 have hA206 := hA205.shadow (t := 67) rfl able_w
 refine qs hA206 rfl (dmv (wy rfl rfl (hA206.get 67 _ rfl)) (hA206.ev rfl) ?_)
 intro a207 hA208
 refine qs hA208 rfl (dia (n := 2) (j := 0) (b := g9) (o := 0) (wy rfl rfl (hA208.get 67 _ rfl)) (hA208.ev rfl) (hA208.ev rfl) slc35 ⟨0, 2, rfl, rfl⟩ (by decide) ?_)
 intro a209 hA210
 refine qs hA210 rfl (dlm (cs := (insC cI)) (wy rfl rfl (hA210.get 67 _ rfl)) (hA210.ev rfl) row23 (two_range m193).1 ?_)
 intro a211 hA212
 refine qs hA212 rfl (dcl (wy rfl rfl (hA212.get 67 _ rfl)) ent18 (map1 (hA212.ev rfl)) (gives_any cI w189) ?_)
 rintro e216 w213 ⟨he215, hG214⟩
 have m217 := m193.grow hG214
 have m218 := m194.grow hG214
 have hr219 := range_below hr195 hG214 lt196
 have lt220 := Nat.lt_of_lt_of_le lt196 hG214.size
 have b221 := blg b197 hG214 b197.size
 have ho222 := owg hG214 ho198
 have ho223 := owg hG214 ho199
 refine ⟨(.int .i64 (givesF cI)), he215, ?_⟩
 intro a224 hA225
 refine qs hA225 rfl (dbn (wy rfl rfl (hA225.get 67 _ rfl)) (hA225.ev rfl) (hA225.ev rfl) (b_eq _ _ (givesF cI) 1 true _ able_g) ?_)
 intro a226 hA227
 refine qs hA227 rfl (dpt (wn rfl) (hA227.ev rfl) (hA227.ev rfl) ?_)
 intro a228 hA229
 refine qs hA229 rfl (das (wn rfl) (hA229.ev rfl) ?_)
 intro a230 hA231
 refine qe_ ?_
 have hA232 : St 74 [(0, (.bool true))] a230 := hA231.sub rfl
 refine tn_ ?_
 refine wp_ret ?_
 refine ret1 rfl hA232 (v := (.bool true)) rfl ?_
 exact ⟨rfl, b221⟩
end Go.Proofs.Ytlhompedcphnnaa
