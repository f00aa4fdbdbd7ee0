/- A step of the reference's thread. -/
import Derived.Test.YtlhompedcphnnaaUirLocalP5
namespace Go.Proofs.Ytlhompedcphnnaa
open Go.RowKit
set_option linter.unusedSimpArgs false
set_option linter.unusedVariables false
theorem ent54 : ((Try.prog.funcs[54]?).map fun fn => (fn.name == "runtime.NumGoroutine", fn.body.isNone)) = some (false, false) := by kernel_rfl
set_option maxHeartbeats 4000000 in
set_option maxRecDepth 4000 in
theorem rstep_6 (Bd g p ne : Nat) (r : Nat → Int) (cd pa ev : Value) (xe : List Value) (code : List Ins) (i : Ins) (d k : Nat) (u : Int) (path : List Int) (w : World) (hB : Bd ≤ w.heap.size) (hT : TS Bd g w cd code ((p : Nat) : Int) r path pa) (hev : w.ownsRow Bd 52 15 ev ne xe) (hnp : path.length ≤ 1000) (hr : ∀ k, wfI (r k)) (hp2 : p ≤ 1000) (hy : code[p]? = some ⟨6, ((d : Nat) : Int), ((k : Nat) : Int), i.b, i.imm, i.loc, i.off, i.index, i.size, i.fn, i.acq, i.weak, i.rel, i.pred, i.succ, i.to, i.zero⟩) (hix : ronB i.index = true) (hoff : wfI i.off) (hd : d < 8) (hk8 : k < 8) (hu : wfI u) : Calls Try.prog 38 #[.pointer (some ⟨g, 0, none⟩), .int .i64 u] w fun e w' => e = .returned (.agg (evC (acc6 i r k path.length p u))) ∧ Below Bd w w' ∧ w'.ownsRow Bd 52 15 ev ne xe ∧ ∃ pa', TS Bd g w' cd code (((p : Nat) : Int) + 1) (updR r d (I (getR (B u) 0 i.size))) (path ++ [((p : Nat) : Int)]) pa' := by
 obtain ⟨hb, hge, hcd, hpa, op_⟩ := hT
 have oe := own_apart hev hb (by decide)
 have ap := rows_apart hpa hev (by decide)
 have ap2 : ∀ k, ev.ownBlock = some k → pa.ownBlock ≠ some k := fun k h1 h2 => ap k h2 h1
 have b0 : Below Bd w w := Below.refl _ _
 refine enter (n := 111) Try.func38 rfl rfl (Nat.le_of_ble_eq_true rfl) ?_
 intro a1 hA2
 refine wp_seq ?_
 refine wp_region_lit ?_
 refine qs hA2 rfl (dal (wn rfl) zero52 ?_)
 intro g3 w4 eg5 hG6 (m7 : Blk w4 g3 #[.int .i64 0, .int .i64 0, .int .i64 0, .int .i64 0, .int .i64 0, .int .i64 0, .bool false, .bool false, .int .i64 0, .int .i64 0, .bool false, .bool false, .bool false, .int .i64 0, .int .i64 0] 52)
 have ge8 : Bd ≤ g3 := eg5 ▸ (Nat.le_trans hB b0.size)
 have n9 : g ≠ g3 := fun h => Nat.lt_irrefl _ ((h.trans eg5) ▸ hb.lt)
 have off10 := own_new hev eg5
 have off11 := own_new hpa eg5
 have m12 := hb.grow hG6
 have b13 := blg b0 hG6 (Nat.le_trans hB b0.size)
 have ho14 := owg hG6 hev
 have ho15 := owg hG6 hpa
 intro a16 hA17
 refine qe_ ?_
 refine tn_ ?_
 refine wp_seq ?_
 obtain ⟨b18, o19, lt20, hr21, hix22⟩ := (hcd.below b13).at hy
 have hA24 : St 111 [(0, (.pointer (some ⟨g, 0, none⟩))), (1, (.int .i64 u)), (4, (.pointer (some ⟨g3, 0, none⟩)))] a16 := hA17.sub rfl
 let M25 : Nat → Option (Array Value) := fun _ => none
 have hM25 : M25 = fun _ => none := rfl
 clear_value M25
 have hM25A : ∀ k, M25 k = none := fun k => congrFun hM25 k
 have hM25B : ∀ k, k < Bd → M25 k = none := fun k _ => hM25A k
 refine drawnL (S := SM M25) rfl (tabL [cv (.pointer (some ⟨g, 0, none⟩)), cv (.pointer (some ⟨g, 0, none⟩)), cv (.pointer (some ⟨g, 0, none⟩)), cv cd, cv (.pointer (some ⟨g, 0, none⟩)), cv (.pointer (some ⟨g, 0, none⟩)), cv (.pointer (some ⟨g, 9, none⟩)), cv (.int .i64 ((p : Nat) : Int)), cv (.pointer (some ⟨b18, o19, none⟩)), cv (.agg (insC ⟨6, ((d : Nat) : Int), ((k : Nat) : Int), i.b, i.imm, i.loc, i.off, i.index, i.size, i.fn, i.acq, i.weak, i.rel, i.pred, i.succ, i.to, i.zero⟩)), cBlk M25 hM25A w4.heap.size #[.int .i64 0, .int .i64 0, .int .i64 0, .int .i64 0, .int .i64 0, .int .i64 0, .int .i64 0, .int .i64 0, .int .i64 0, .int .i64 0, .bool false, .bool false, .bool false, .int .i64 0, .int .i64 0, .int .i64 0, .bool false] 23]) none (fun _ => none) (fun _ _ => True) [10, 9, 0, 1, 2, 3, 4, 5, 6, 7, 8] [] mixedY SM.refl SM.trans hA24 (by kernel_rfl) (by kernel_rfl) (fun i v u w h => by cases h) ?_ ?_
 ·skip
  refine ed_ (.inl ⟨nofun, rfl, fun x y hS hT hk => dmv (wn rfl) (hT.ev rfl) ⟨SM.refl _, rfl⟩⟩) ?_
  refine ed_ (.inl ⟨nofun, rfl, fun x y hS hT hk => dnc (wn rfl) (hk 0 rfl) ⟨SM.refl _, rfl⟩⟩) ?_
  refine ed_ (.inl ⟨nofun, rfl, fun x y hS hT hk => dfa (wn rfl) (hk 1 rfl) fo65_0 ⟨SM.refl _, rfl⟩⟩) ?_
  refine ed_ (.inl ⟨nofun, rfl, fun x y hS hT hk => dld (v := cd) (wn rfl) (hk 2 rfl) one35 ((Blk.sm (w := w4.drew) m12 hS (hM25A _)).cell rfl) ⟨SM.refl _, rfl⟩⟩) ?_
  refine ed_ (.inl ⟨nofun, rfl, fun x y hS hT hk => dmv (wn rfl) (hT.ev rfl) ⟨SM.refl _, rfl⟩⟩) ?_
  refine ed_ (.inl ⟨nofun, rfl, fun x y hS hT hk => dnc (wn rfl) (hk 4 rfl) ⟨SM.refl _, rfl⟩⟩) ?_
  refine ed_ (.inl ⟨nofun, rfl, fun x y hS hT hk => dfa (wn rfl) (hk 5 rfl) fo65_2 ⟨SM.refl _, rfl⟩⟩) ?_
  refine ed_ (.inl ⟨nofun, rfl, fun x y hS hT hk => dld (v := (.int .i64 ((p : Nat) : Int))) (wn rfl) (hk 6 rfl) one3 ((Blk.sm (w := w4.drew) m12 hS (hM25A _)).cell rfl) ⟨SM.refl _, rfl⟩⟩) ?_
  refine ed_ (.inl ⟨nofun, rfl, fun x y hS hT hk => dia (j := p) (wn rfl) (hk 3 rfl) (hk 7 rfl) slc35 hix22 (get_lt hy) ⟨SM.refl _, rfl⟩⟩) ?_
  refine ed_ (.inl ⟨nofun, rfl, fun x y hS hT hk => dlm (cs := (insC ⟨6, ((d : Nat) : Int), ((k : Nat) : Int), i.b, i.imm, i.loc, i.off, i.index, i.size, i.fn, i.acq, i.weak, i.rel, i.pred, i.succ, i.to, i.zero⟩)) (wn rfl) (hk 8 rfl) row23 (range_sm (w := w4.drew) hr21 hS (Nat.lt_of_lt_of_le lt20 (Nat.le_trans hB b13.size)) (hM25B _ lt20)) ⟨SM.refl _, rfl⟩⟩) ?_
  refine ed_ (.inl ⟨nofun, rfl, fun x y hS hT hk => dal (wn rfl) zero23 (fun g w' eg hG hb => ⟨SM.grow hG, g, rfl, eg ▸ hS.size, hb⟩)⟩) ?_
  exact eachD_one
 rintro a26 w27 hA28 ⟨hS30, hC31⟩
 obtain ⟨g23, hg32, hge33, m34⟩ := hC31 10 (Nat.le_of_ble_eq_true rfl)
 have hA35 : St 111 [(0, (.pointer (some ⟨g, 0, none⟩))), (1, (.int .i64 u)), (4, (.pointer (some ⟨g3, 0, none⟩))), (5, (.pointer (some ⟨g23, 0, none⟩))), (16, (.agg (insC ⟨6, ((d : Nat) : Int), ((k : Nat) : Int), i.b, i.imm, i.loc, i.off, i.index, i.size, i.fn, i.acq, i.weak, i.rel, i.pred, i.succ, i.to, i.zero⟩)))] a26 := hA28.cut _ (fc (hA28.get 0 _ rfl) (fc (hA28.get 1 _ rfl) (fc (hA28.get 4 _ rfl) (fc hg32 (fc (hC31 9 (Nat.le_of_ble_eq_true rfl)) fn_)))))
 have hG36 : Grow w4 w27 := Grow.trans ((Grow.refl _).drew) (SM.grown (by rw [hM25] at hS30; exact hS30))
 have m37 := m12.grow hG36
 have m38 := m7.grow hG36
 have hr39 := range_below hr21 hG36 (Nat.lt_of_lt_of_le lt20 (Nat.le_trans hB b13.size))
 have b40 := blg b13 hG36 (Nat.le_trans hB b13.size)
 have ho41 := owg hG36 ho14
 have ho42 := owg hG36 ho15
 have ge43 : Bd ≤ g23 := Nat.le_trans (Nat.le_trans hB b13.size) hge33
 have n44 : g ≠ g23 := Nat.ne_of_lt (Nat.lt_of_lt_of_le m12.lt hge33)
 have n45 : g3 ≠ g23 := Nat.ne_of_lt (Nat.lt_of_lt_of_le m7.lt hge33)
 have off46 : ev.ownBlock ≠ some g23 := fun e => Nat.lt_irrefl _ (Nat.lt_of_lt_of_le (own_lt ho14 _ e).2 hge33)
 have off47 : pa.ownBlock ≠ some g23 := fun e => Nat.lt_irrefl _ (Nat.lt_of_lt_of_le (own_lt ho15 _ e).2 hge33)
 refine dsr (wn rfl) (hA35.ev rfl) (hA35.ev rfl) row23 m34 rfl rfl ?_
 intro w48 hU49 (m50 : Blk w48 g23 (insC ⟨6, ((d : Nat) : Int), ((k : Nat) : Int), i.b, i.imm, i.loc, i.off, i.index, i.size, i.fn, i.acq, i.weak, i.rel, i.pred, i.succ, i.to, i.zero⟩) 23)
 have m51 := m37.upd hU49 n44
 have m52 := m38.upd hU49 n45
 have hr53 := range_upd hr39 hU49 (Nat.ne_of_lt (Nat.lt_of_lt_of_le lt20 ge43))
 have b54 := hU49.below b40 ge43
 have ho55 := own_upd ho41 hU49 off46
 have ho56 := own_upd ho42 hU49 off47
 refine tn_ ?_
 refine wp_seq ?_
 have hA58 : St 111 [(0, (.pointer (some ⟨g, 0, none⟩))), (1, (.int .i64 u)), (4, (.pointer (some ⟨g3, 0, none⟩))), (5, (.pointer (some ⟨g23, 0, none⟩)))] a26 := hA35.sub rfl
 let M59 : Nat → Option (Array Value) := fun _ => none
 have hM59 : M59 = fun _ => none := rfl
 clear_value M59
 have hM59A : ∀ k, M59 k = none := fun k => congrFun hM59 k
 have hM59B : ∀ k, k < Bd → M59 k = none := fun k _ => hM59A k
 refine drawnL (S := SM M59) rfl (tabL [cv (.pointer (some ⟨g, 0, none⟩)), cv (.pointer (some ⟨g, 0, none⟩)), cv (.pointer (some ⟨g, 10, none⟩)), cv pa, cv (.int .i64 ((path.length : Nat) : Int)), cv (.pointer (some ⟨g, 0, none⟩)), cv (.pointer (some ⟨g, 0, none⟩)), cv (.pointer (some ⟨g, 9, none⟩)), cv (.int .i64 ((p : Nat) : Int)), cv (.pointer (some ⟨g23, 0, none⟩)), cv (.int .i64 6), cv (.pointer (some ⟨g23, 10, none⟩)), cv (.bool i.acq), cv (.pointer (some ⟨g23, 11, none⟩)), cv (.bool i.weak), cv (.pointer (some ⟨g23, 12, none⟩)), cv (.bool i.rel), cv (.pointer (some ⟨g23, 13, none⟩)), cv (.int .i64 i.pred), cv (.pointer (some ⟨g23, 14, none⟩)), cv (.int .i64 i.succ), cv (.agg (insC ⟨6, ((d : Nat) : Int), ((k : Nat) : Int), i.b, i.imm, i.loc, i.off, i.index, i.size, i.fn, i.acq, i.weak, i.rel, i.pred, i.succ, i.to, i.zero⟩)), cv (.bool true), cv (.agg (insC ⟨6, ((d : Nat) : Int), ((k : Nat) : Int), i.b, i.imm, i.loc, i.off, i.index, i.size, i.fn, i.acq, i.weak, i.rel, i.pred, i.succ, i.to, i.zero⟩)), cv (.bool true), cv (.agg #[.int .i64 0, .int .i64 ((path.length : Nat) : Int), .int .i64 ((p : Nat) : Int), .int .i64 6, .int .i64 0, .int .i64 0, .bool true, .bool true, .int .i64 0, .int .i64 0, .bool i.acq, .bool i.weak, .bool i.rel, .int .i64 i.pred, .int .i64 i.succ]), cBlk M59 hM59A w48.heap.size #[.int .i64 0, .int .i64 0, .int .i64 0, .int .i64 0, .int .i64 0, .int .i64 0, .bool false, .bool false, .int .i64 0, .int .i64 0, .bool false, .bool false, .bool false, .int .i64 0, .int .i64 0] 52]) none (fun _ => none) (fun _ _ => True) [26, 25, 24, 0, 1, 2, 3, 4, 5, 6, 7, 8, 9, 10, 11, 12, 13, 14, 15, 16, 17, 18, 19, 20, 21, 22, 23] [] mixedY SM.refl SM.trans hA58 (by kernel_rfl) (by kernel_rfl) (fun i v u w h => by cases h) ?_ ?_
 ·skip
  refine ed_ (.inl ⟨nofun, rfl, fun x y hS hT hk => dmv (wn rfl) (hT.ev rfl) ⟨SM.refl _, rfl⟩⟩) ?_
  refine ed_ (.inl ⟨nofun, rfl, fun x y hS hT hk => dnc (wn rfl) (hk 0 rfl) ⟨SM.refl _, rfl⟩⟩) ?_
  refine ed_ (.inl ⟨nofun, rfl, fun x y hS hT hk => dfa (wn rfl) (hk 1 rfl) fo65_3 ⟨SM.refl _, rfl⟩⟩) ?_
  refine ed_ (.inl ⟨nofun, rfl, fun x y hS hT hk => dld (v := pa) (wn rfl) (hk 2 rfl) one30 ((Blk.sm (w := w48.drew) m51 hS (hM59A _)).cell rfl) ⟨SM.refl _, rfl⟩⟩) ?_
  refine ed_ (.inl ⟨nofun, rfl, fun x y hS hT hk => dle (n := path.length) (wn rfl) (hk 3 rfl) slc30 (own_form ho56) ⟨SM.refl _, rfl⟩⟩) ?_
  refine ed_ (.inl ⟨nofun, rfl, fun x y hS hT hk => dmv (wn rfl) (hT.ev rfl) ⟨SM.refl _, rfl⟩⟩) ?_
  refine ed_ (.inl ⟨nofun, rfl, fun x y hS hT hk => dnc (wn rfl) (hk 5 rfl) ⟨SM.refl _, rfl⟩⟩) ?_
  refine ed_ (.inl ⟨nofun, rfl, fun x y hS hT hk => dfa (wn rfl) (hk 6 rfl) fo65_2 ⟨SM.refl _, rfl⟩⟩) ?_
  refine ed_ (.inl ⟨nofun, rfl, fun x y hS hT hk => dld (v := (.int .i64 ((p : Nat) : Int))) (wn rfl) (hk 7 rfl) one3 ((Blk.sm (w := w48.drew) m51 hS (hM59A _)).cell rfl) ⟨SM.refl _, rfl⟩⟩) ?_
  refine ed_ (.inl ⟨nofun, rfl, fun x y hS hT hk => dfa (wn rfl) (hT.ev rfl) fo23_0 ⟨SM.refl _, rfl⟩⟩) ?_
  refine ed_ (.inl ⟨nofun, rfl, fun x y hS hT hk => dld (v := (.int .i64 6)) (wn rfl) (hk 9 rfl) one3 ((Blk.sm (w := w48.drew) m50 hS (hM59A _)).cell rfl) ⟨SM.refl _, rfl⟩⟩) ?_
  refine ed_ (.inl ⟨nofun, rfl, fun x y hS hT hk => dfa (wn rfl) (hT.ev rfl) fo23_10 ⟨SM.refl _, rfl⟩⟩) ?_
  refine ed_ (.inl ⟨nofun, rfl, fun x y hS hT hk => dld (v := (.bool i.acq)) (wn rfl) (hk 11 rfl) one4 ((Blk.sm (w := w48.drew) m50 hS (hM59A _)).cell rfl) ⟨SM.refl _, rfl⟩⟩) ?_
  refine ed_ (.inl ⟨nofun, rfl, fun x y hS hT hk => dfa (wn rfl) (hT.ev rfl) fo23_11 ⟨SM.refl _, rfl⟩⟩) ?_
  refine ed_ (.inl ⟨nofun, rfl, fun x y hS hT hk => dld (v := (.bool i.weak)) (wn rfl) (hk 13 rfl) one4 ((Blk.sm (w := w48.drew) m50 hS (hM59A _)).cell rfl) ⟨SM.refl _, rfl⟩⟩) ?_
  refine ed_ (.inl ⟨nofun, rfl, fun x y hS hT hk => dfa (wn rfl) (hT.ev rfl) fo23_12 ⟨SM.refl _, rfl⟩⟩) ?_
  refine ed_ (.inl ⟨nofun, rfl, fun x y hS hT hk => dld (v := (.bool i.rel)) (wn rfl) (hk 15 rfl) one4 ((Blk.sm (w := w48.drew) m50 hS (hM59A _)).cell rfl) ⟨SM.refl _, rfl⟩⟩) ?_
  refine ed_ (.inl ⟨nofun, rfl, fun x y hS hT hk => dfa (wn rfl) (hT.ev rfl) fo23_13 ⟨SM.refl _, rfl⟩⟩) ?_
  refine ed_ (.inl ⟨nofun, rfl, fun x y hS hT hk => dld (v := (.int .i64 i.pred)) (wn rfl) (hk 17 rfl) one3 ((Blk.sm (w := w48.drew) m50 hS (hM59A _)).cell rfl) ⟨SM.refl _, rfl⟩⟩) ?_
  refine ed_ (.inl ⟨nofun, rfl, fun x y hS hT hk => dfa (wn rfl) (hT.ev rfl) fo23_14 ⟨SM.refl _, rfl⟩⟩) ?_
  refine ed_ (.inl ⟨nofun, rfl, fun x y hS hT hk => dld (v := (.int .i64 i.succ)) (wn rfl) (hk 19 rfl) one3 ((Blk.sm (w := w48.drew) m50 hS (hM59A _)).cell rfl) ⟨SM.refl _, rfl⟩⟩) ?_
  refine ed_ (.inl ⟨nofun, rfl, fun x y hS hT hk => dlr (cs := (insC ⟨6, ((d : Nat) : Int), ((k : Nat) : Int), i.b, i.imm, i.loc, i.off, i.index, i.size, i.fn, i.acq, i.weak, i.rel, i.pred, i.succ, i.to, i.zero⟩)) (wn rfl) (hT.ev rfl) row23 (Blk.sm (w := w48.drew) m50 hS (hM59A _)) ⟨SM.refl _, rfl⟩⟩) ?_
  refine ed_ (.inl ⟨nofun, rfl, fun x y hS hT hk => dcl (wn rfl) ent12 (map1 (show x.eval _ = (.agg (insC ⟨6, ((d : Nat) : Int), ((k : Nat) : Int), i.b, i.imm, i.loc, i.off, i.index, i.size, i.fn, i.acq, i.weak, i.rel, i.pred, i.succ, i.to, i.zero⟩)) from (hk 21 rfl))) (rreads_any (⟨6, ((d : Nat) : Int), ((k : Nat) : Int), i.b, i.imm, i.loc, i.off, i.index, i.size, i.fn, i.acq, i.weak, i.rel, i.pred, i.succ, i.to, i.zero⟩) y) (fun _ _ ⟨he, hG⟩ => ⟨(.bool true), he, SM.grow hG, rfl⟩)⟩) ?_
  refine ed_ (.inl ⟨nofun, rfl, fun x y hS hT hk => dlr (cs := (insC ⟨6, ((d : Nat) : Int), ((k : Nat) : Int), i.b, i.imm, i.loc, i.off, i.index, i.size, i.fn, i.acq, i.weak, i.rel, i.pred, i.succ, i.to, i.zero⟩)) (wn rfl) (hT.ev rfl) row23 (Blk.sm (w := w48.drew) m50 hS (hM59A _)) ⟨SM.refl _, rfl⟩⟩) ?_
  refine ed_ (.inl ⟨nofun, rfl, fun x y hS hT hk => dcl (wn rfl) ent14 (map1 (show x.eval _ = (.agg (insC ⟨6, ((d : Nat) : Int), ((k : Nat) : Int), i.b, i.imm, i.loc, i.off, i.index, i.size, i.fn, i.acq, i.weak, i.rel, i.pred, i.succ, i.to, i.zero⟩)) from (hk 23 rfl))) (rwrites_any (⟨6, ((d : Nat) : Int), ((k : Nat) : Int), i.b, i.imm, i.loc, i.off, i.index, i.size, i.fn, i.acq, i.weak, i.rel, i.pred, i.succ, i.to, i.zero⟩) y) (fun _ _ ⟨he, hG⟩ => ⟨(.bool true), he, SM.grow hG, rfl⟩)⟩) ?_
  refine ed_ (.inl ⟨nofun, rfl, fun x y hS hT hk => dbd (cs := #[.int .i64 0, .int .i64 ((path.length : Nat) : Int), .int .i64 ((p : Nat) : Int), .int .i64 6, .int .i64 0, .int .i64 0, .bool true, .bool true, .int .i64 0, .int .i64 0, .bool i.acq, .bool i.weak, .bool i.rel, .int .i64 i.pred, .int .i64 i.succ]) (wn rfl) (bp_of (bq_cons (show x.eval _ = (.int .i64 ((path.length : Nat) : Int)) from (hk 4 rfl)) (bq_cons (show x.eval _ = (.int .i64 ((p : Nat) : Int)) from (hk 8 rfl)) (bq_cons (show x.eval _ = (.int .i64 6) from (hk 10 rfl)) (bq_cons (show x.eval _ = (.bool i.acq) from (hk 12 rfl)) (bq_cons (show x.eval _ = (.bool i.weak) from (hk 14 rfl)) (bq_cons (show x.eval _ = (.bool i.rel) from (hk 16 rfl)) (bq_cons (show x.eval _ = (.int .i64 i.pred) from (hk 18 rfl)) (bq_cons (show x.eval _ = (.int .i64 i.succ) from (hk 20 rfl)) (bq_cons (show x.eval _ = (.bool true) from (hk 22 rfl)) (bq_cons (show x.eval _ = (.bool true) from (hk 24 rfl)) bq_nil))))))))))) zero52 places52 (by kernel_rfl) ⟨SM.refl _, rfl⟩⟩) ?_
  refine ed_ (.inl ⟨nofun, rfl, fun x y hS hT hk => dal (wn rfl) zero52 (fun g w' eg hG hb => ⟨SM.grow hG, g, rfl, eg ▸ hS.size, hb⟩)⟩) ?_
  exact eachD_one
 rintro a60 w61 hA62 ⟨hS64, hC65⟩
 obtain ⟨g57, hg66, hge67, m68⟩ := hC65 26 (Nat.le_of_ble_eq_true rfl)
 have hA69 : St 111 [(0, (.pointer (some ⟨g, 0, none⟩))), (1, (.int .i64 u)), (4, (.pointer (some ⟨g3, 0, none⟩))), (5, (.pointer (some ⟨g23, 0, none⟩))), (6, (.pointer (some ⟨g57, 0, none⟩))), (42, (.agg #[.int .i64 0, .int .i64 ((path.length : Nat) : Int), .int .i64 ((p : Nat) : Int), .int .i64 6, .int .i64 0, .int .i64 0, .bool true, .bool true, .int .i64 0, .int .i64 0, .bool i.acq, .bool i.weak, .bool i.rel, .int .i64 i.pred, .int .i64 i.succ]))] a60 := hA62.cut _ (fc (hA62.get 0 _ rfl) (fc (hA62.get 1 _ rfl) (fc (hA62.get 4 _ rfl) (fc (hA62.get 5 _ rfl) (fc hg66 (fc (hC65 25 (Nat.le_of_ble_eq_true rfl)) fn_))))))
 have hG70 : Grow w48 w61 := Grow.trans ((Grow.refl _).drew) (SM.grown (by rw [hM59] at hS64; exact hS64))
 have m71 := m51.grow hG70
 have m72 := m52.grow hG70
 have m73 := m50.grow hG70
 have b74 := blg b54 hG70 (Nat.le_trans hB b54.size)
 have ho75 := owg hG70 ho55
 have ho76 := owg hG70 ho56
 have ge77 : Bd ≤ g57 := Nat.le_trans (Nat.le_trans hB b54.size) hge67
 have n78 : g ≠ g57 := Nat.ne_of_lt (Nat.lt_of_lt_of_le m51.lt hge67)
 have n79 : g3 ≠ g57 := Nat.ne_of_lt (Nat.lt_of_lt_of_le m52.lt hge67)
 have n80 : g23 ≠ g57 := Nat.ne_of_lt (Nat.lt_of_lt_of_le m50.lt hge67)
 have off81 : ev.ownBlock ≠ some g57 := fun e => Nat.lt_irrefl _ (Nat.lt_of_lt_of_le (own_lt ho55 _ e).2 hge67)
 have off82 : pa.ownBlock ≠ some g57 := fun e => Nat.lt_irrefl _ (Nat.lt_of_lt_of_le (own_lt ho56 _ e).2 hge67)
 refine dsr (wn rfl) (hA69.ev rfl) (hA69.ev rfl) row52 m68 rfl rfl ?_
 intro w83 hU84 (m85 : Blk w83 g57 #[.int .i64 0, .int .i64 ((path.length : Nat) : Int), .int .i64 ((p : Nat) : Int), .int .i64 6, .int .i64 0, .int .i64 0, .bool true, .bool true, .int .i64 0, .int .i64 0, .bool i.acq, .bool i.weak, .bool i.rel, .int .i64 i.pred, .int .i64 i.succ] 52)
 have m86 := m71.upd hU84 n78
 have m87 := m72.upd hU84 n79
 have m88 := m73.upd hU84 n80
 have b89 := hU84.below b74 ge77
 have ho90 := own_upd ho75 hU84 off81
 have ho91 := own_upd ho76 hU84 off82
 refine tn_ ?_
 refine wp_seq ?_
 refine wp_seq ?_
 refine wp_region_lit ?_
 refine qs hA69 rfl (dlr (cs := (insC ⟨6, ((d : Nat) : Int), ((k : Nat) : Int), i.b, i.imm, i.loc, i.off, i.index, i.size, i.fn, i.acq, i.weak, i.rel, i.pred, i.succ, i.to, i.zero⟩)) (wn rfl) (hA69.ev rfl) row23 m88 ?_)
 intro a92 hA93
 refine qs hA93 rfl (dcl (wn rfl) ent32 (map1 (hA93.ev rfl)) (memory_any (⟨6, ((d : Nat) : Int), ((k : Nat) : Int), i.b, i.imm, i.loc, i.off, i.index, i.size, i.fn, i.acq, i.weak, i.rel, i.pred, i.succ, i.to, i.zero⟩) w83) ?_)
 rintro e97 w94 ⟨he96, hG95⟩
 have m98 := m86.grow hG95
 have m99 := m87.grow hG95
 have m100 := m88.grow hG95
 have m101 := m85.grow hG95
 have b102 := blg b89 hG95 (Nat.le_trans hB b89.size)
 have ho103 := owg hG95 ho90
 have ho104 := owg hG95 ho91
 refine ⟨(.bool true), he96, ?_⟩
 intro a105 hA106
 refine qe_ ?_
 refine tn_ ?_
 refine c_true hA106 rfl ?_
 refine wp_region_lit ?_
 refine qs hA106 rfl (dmv (wn rfl) (hA106.ev rfl) ?_)
 intro a107 hA108
 refine qs hA108 rfl (dlr (cs := (insC ⟨6, ((d : Nat) : Int), ((k : Nat) : Int), i.b, i.imm, i.loc, i.off, i.index, i.size, i.fn, i.acq, i.weak, i.rel, i.pred, i.succ, i.to, i.zero⟩)) (wn rfl) (hA108.ev rfl) row23 m100 ?_)
 intro a109 hA110
 refine qs hA110 rfl (dcl (wn rfl) ent51 (map2 (hA110.ev rfl) (hA110.ev rfl)) (where_any g cd r ((p : Nat) : Int) pa (⟨6, ((d : Nat) : Int), ((k : Nat) : Int), i.b, i.imm, i.loc, i.off, i.index, i.size, i.fn, i.acq, i.weak, i.rel, i.pred, i.succ, i.to, i.zero⟩) w94 m98 hr hix hoff) ?_)
 rintro e114 w111 ⟨he113, hG112⟩
 have m115 := m98.grow hG112
 have m116 := m99.grow hG112
 have m117 := m100.grow hG112
 have m118 := m101.grow hG112
 have b119 := blg b102 hG112 (Nat.le_trans hB b102.size)
 have ho120 := owg hG112 ho103
 have ho121 := owg hG112 ho104
 refine ⟨(.agg #[.int .i64 i.loc, .int .i64 (spanM i r)]), he113, ?_⟩
 intro a122 hA123
 refine qs hA123 rfl (dfa (wn rfl) (hA123.ev rfl) fo52_4 ?_)
 intro a124 hA125
 refine qs hA125 rfl (d_store2 (wn rfl) (hA125.ev rfl) (hA125.ev rfl) row50 rfl rfl m118 (Nat.le_of_ble_eq_true rfl) ?_)
 intro w126 hU127 (m128 : Blk w126 g57 #[.int .i64 0, .int .i64 ((path.length : Nat) : Int), .int .i64 ((p : Nat) : Int), .int .i64 6, .int .i64 i.loc, .int .i64 (spanM i r), .bool true, .bool true, .int .i64 0, .int .i64 0, .bool i.acq, .bool i.weak, .bool i.rel, .int .i64 i.pred, .int .i64 i.succ] 52)
 have m129 := m115.upd hU127 n78
 have m130 := m116.upd hU127 n79
 have m131 := m117.upd hU127 n80
 have b132 := hU127.below b119 ge77
 have ho133 := own_upd ho120 hU127 off81
 have ho134 := own_upd ho121 hU127 off82
 intro a135 hA136
 refine qe_ ?_
 refine tn_ ?_
 refine wp_seq ?_
 refine wp_seq ?_
 refine wp_region_lit ?_
 refine qs hA136 rfl (dfa (wn rfl) (hA136.ev rfl) fo52_5 ?_)
 intro a137 hA138
 refine qs hA138 rfl (dld (v := (.bool true)) (wn rfl) (hA138.ev rfl) one4 (m128.cell rfl) ?_)
 intro a139 hA140
 refine qe_ ?_
 refine tn_ ?_
 refine c_true hA140 rfl ?_
 refine wp_region_lit ?_
 refine qs hA140 rfl (dmv (wn rfl) (hA140.ev rfl) ?_)
 intro a141 hA142
 refine qs hA142 rfl (dfa (wn rfl) (hA142.ev rfl) fo23_8 ?_)
 intro a143 hA144
 refine qs hA144 rfl (dld (v := (.int .i64 i.size)) (wn rfl) (hA144.ev rfl) one3 (m131.cell rfl) ?_)
 intro a145 hA146
 refine qs hA146 rfl (dcl (wn rfl) ent52 (map3 (hA146.ev rfl) (hA146.ev rfl) (hA146.ev rfl)) (rget_w u 0 i.size w126 hu) ?_)
 rintro e150 w147 ⟨he149, hG1480⟩
 have hG148 : Grow w126 w147 := hG1480 ▸ Grow.refl _
 have m151 := m129.grow hG148
 have m152 := m130.grow hG148
 have m153 := m131.grow hG148
 have m154 := m128.grow hG148
 have b155 := blg b132 hG148 (Nat.le_trans hB b132.size)
 have ho156 := owg hG148 ho133
 have ho157 := owg hG148 ho134
 refine ⟨(.int .i64 (I (getR (B u) 0 i.size))), he149, ?_⟩
 intro a158 hA159
 refine qs hA159 rfl (dfa (wn rfl) (hA159.ev rfl) fo52_7 ?_)
 intro a160 hA161
 refine qs hA161 rfl (dst_ (wn rfl) (hA161.ev rfl) (hA161.ev rfl) one3 rfl m154 (Nat.le_of_ble_eq_true rfl) ?_)
 intro w162 hU163 (m164 : Blk w162 g57 #[.int .i64 0, .int .i64 ((path.length : Nat) : Int), .int .i64 ((p : Nat) : Int), .int .i64 6, .int .i64 i.loc, .int .i64 (spanM i r), .bool true, .bool true, .int .i64 (I (getR (B u) 0 i.size)), .int .i64 0, .bool i.acq, .bool i.weak, .bool i.rel, .int .i64 i.pred, .int .i64 i.succ] 52)
 have m165 := m151.upd hU163 n78
 have m166 := m152.upd hU163 n79
 have m167 := m153.upd hU163 n80
 have b168 := hU163.below b155 ge77
 have ho169 := own_upd ho156 hU163 off81
 have ho170 := own_upd ho157 hU163 off82
 intro a171 hA172
 refine qe_ ?_
 refine tn_ ?_
 refine wp_seq ?_
 refine wp_seq ?_
 refine wp_region_lit ?_
 refine qs hA172 rfl (dfa (wn rfl) (hA172.ev rfl) fo23_0 ?_)
 intro a173 hA174
 refine qs hA174 rfl (dld (v := (.int .i64 6)) (wn rfl) (hA174.ev rfl) one3 (m167.cell rfl) ?_)
 intro a175 hA176
 refine qs hA176 rfl (dbn (wn rfl) (hA176.ev rfl) (hA176.ev rfl) (b_eq _ _ 6 5 false _ rfl) ?_)
 intro a177 hA178
 refine qe_ ?_
 refine tn_ ?_
 refine c_false hA178 rfl ?_
 refine wp_skip ?_
 refine tn_ ?_
 refine wp_seq ?_
 refine wp_seq ?_
 refine wp_region_lit ?_
 refine qs hA178 rfl (dfa (wn rfl) (hA178.ev rfl) fo23_0 ?_)
 intro a179 hA180
 refine qs hA180 rfl (dld (v := (.int .i64 6)) (wn rfl) (hA180.ev rfl) one3 (m167.cell rfl) ?_)
 intro a181 hA182
 refine qs hA182 rfl (dbn (wn rfl) (hA182.ev rfl) (hA182.ev rfl) (b_eq _ _ 6 6 true _ rfl) ?_)
 intro a183 hA184
 refine qe_ ?_
 refine tn_ ?_
 refine c_true hA184 rfl ?_
 have hA185 : St 111 [(0, (.pointer (some ⟨g, 0, none⟩))), (4, (.pointer (some ⟨g3, 0, none⟩))), (5, (.pointer (some ⟨g23, 0, none⟩))), (6, (.pointer (some ⟨g57, 0, none⟩)))] a183 := hA184.sub rfl
 let M186 : Nat → Option (Array Value) := fun _ => none
 have hM186 : M186 = fun _ => none := rfl
 clear_value M186
 have hM186A : ∀ k, M186 k = none := fun k => congrFun hM186 k
 have hM186B : ∀ k, k < Bd → M186 k = none := fun k _ => hM186A k
 refine drawnL (S := SM M186) rfl (tabL [cv (.pointer (some ⟨g23, 9, none⟩)), cv (.int .i64 i.fn), cv (.pointer (some ⟨g57, 8, none⟩)), cv (.int .i64 (I (getR (B u) 0 i.size))), cv (.pointer (some ⟨g, 0, none⟩)), cv (.agg (insC ⟨6, ((d : Nat) : Int), ((k : Nat) : Int), i.b, i.imm, i.loc, i.off, i.index, i.size, i.fn, i.acq, i.weak, i.rel, i.pred, i.succ, i.to, i.zero⟩)), cv (.int .i64 (r k)), cv (.pointer (some ⟨g23, 8, none⟩)), cv (.int .i64 i.size), cv (.int .i64 (I (rmwR i.fn (B (I (getR (B u) 0 i.size))) (B (r k)) i.size))), cv (.pointer (some ⟨g57, 9, none⟩))]) none (fun _ => none) (fun _ _ => True) [10, 9, 0, 1, 2, 3, 4, 5, 6, 7, 8] [] mixedY SM.refl SM.trans hA185 (by kernel_rfl) (by kernel_rfl) (fun i v u w h => by cases h) ?_ ?_
 ·skip
  refine ed_ (.inl ⟨nofun, rfl, fun x y hS hT hk => dfa (wn rfl) (hT.ev rfl) fo23_9 ⟨SM.refl _, rfl⟩⟩) ?_
  refine ed_ (.inl ⟨nofun, rfl, fun x y hS hT hk => dld (v := (.int .i64 i.fn)) (wn rfl) (hk 0 rfl) one3 ((Blk.sm (w := w162.drew) m167 hS (hM186A _)).cell rfl) ⟨SM.refl _, rfl⟩⟩) ?_
  refine ed_ (.inl ⟨nofun, rfl, fun x y hS hT hk => dfa (wn rfl) (hT.ev rfl) fo52_7 ⟨SM.refl _, rfl⟩⟩) ?_
  refine ed_ (.inl ⟨nofun, rfl, fun x y hS hT hk => dld (v := (.int .i64 (I (getR (B u) 0 i.size)))) (wn rfl) (hk 2 rfl) one3 ((Blk.sm (w := w162.drew) m164 hS (hM186A _)).cell rfl) ⟨SM.refl _, rfl⟩⟩) ?_
  refine ed_ (.inl ⟨nofun, rfl, fun x y hS hT hk => dmv (wn rfl) (hT.ev rfl) ⟨SM.refl _, rfl⟩⟩) ?_
  refine ed_ (.inl ⟨nofun, rfl, fun x y hS hT hk => dlr (cs := (insC ⟨6, ((d : Nat) : Int), ((k : Nat) : Int), i.b, i.imm, i.loc, i.off, i.index, i.size, i.fn, i.acq, i.weak, i.rel, i.pred, i.succ, i.to, i.zero⟩)) (wn rfl) (hT.ev rfl) row23 (Blk.sm (w := w162.drew) m167 hS (hM186A _)) ⟨SM.refl _, rfl⟩⟩) ?_
  refine ed_ (.inl ⟨nofun, rfl, fun x y hS hT hk => dcl (wn rfl) ent53 (map2 (show x.eval _ = (.pointer (some ⟨g, 0, none⟩)) from (hk 4 rfl)) (show x.eval _ = (.agg (insC ⟨6, ((d : Nat) : Int), ((k : Nat) : Int), i.b, i.imm, i.loc, i.off, i.index, i.size, i.fn, i.acq, i.weak, i.rel, i.pred, i.succ, i.to, i.zero⟩)) from (hk 5 rfl))) (datum_6 g cd r ((p : Nat) : Int) pa { i with dst := ((d : Nat) : Int) } k y (Blk.sm (w := w162.drew) m165 hS (hM186A _)) hk8) (fun _ _ ⟨he, hG⟩ => ⟨(.int .i64 (r k)), he, SM.grow hG, rfl⟩)⟩) ?_
  refine ed_ (.inl ⟨nofun, rfl, fun x y hS hT hk => dfa (wn rfl) (hT.ev rfl) fo23_8 ⟨SM.refl _, rfl⟩⟩) ?_
  refine ed_ (.inl ⟨nofun, rfl, fun x y hS hT hk => dld (v := (.int .i64 i.size)) (wn rfl) (hk 7 rfl) one3 ((Blk.sm (w := w162.drew) m167 hS (hM186A _)).cell rfl) ⟨SM.refl _, rfl⟩⟩) ?_
  refine ed_ (.inl ⟨nofun, rfl, fun x y hS hT hk => dcl (wn rfl) ent54 (map4 (show x.eval _ = (.int .i64 i.fn) from (hk 1 rfl)) (show x.eval _ = (.int .i64 (I (getR (B u) 0 i.size))) from (hk 3 rfl)) (show x.eval _ = (.int .i64 (r k)) from (hk 6 rfl)) (show x.eval _ = (.int .i64 i.size) from (hk 8 rfl))) (rrmw_w i.fn (I (getR (B u) 0 i.size)) (r k) i.size y (wf_I _) (hr k)) (fun _ _ ⟨he, hw⟩ => ⟨(.int .i64 (I (rmwR i.fn (B (I (getR (B u) 0 i.size))) (B (r k)) i.size))), he, hw ▸ SM.refl _, rfl⟩)⟩) ?_
  refine ed_ (.inl ⟨nofun, rfl, fun x y hS hT hk => dfa (wn rfl) (hT.ev rfl) fo52_8 ⟨SM.refl _, rfl⟩⟩) ?_
  exact eachD_one
 rintro a187 w188 hA189 ⟨hS191, hC192⟩
 have hA193 : St 111 [(0, (.pointer (some ⟨g, 0, none⟩))), (4, (.pointer (some ⟨g3, 0, none⟩))), (5, (.pointer (some ⟨g23, 0, none⟩))), (6, (.pointer (some ⟨g57, 0, none⟩))), (78, (.int .i64 (I (rmwR i.fn (B (I (getR (B u) 0 i.size))) (B (r k)) i.size)))), (79, (.pointer (some ⟨g57, 9, none⟩)))] a187 := hA189.cut _ (fc (hA189.get 0 _ rfl) (fc (hA189.get 4 _ rfl) (fc (hA189.get 5 _ rfl) (fc (hA189.get 6 _ rfl) (fc (hC192 9 (Nat.le_of_ble_eq_true rfl)) (fc (hC192 10 (Nat.le_of_ble_eq_true rfl)) fn_))))))
 have hG194 : Grow w162 w188 := Grow.trans ((Grow.refl _).drew) (SM.grown (by rw [hM186] at hS191; exact hS191))
 have m195 := m165.grow hG194
 have m196 := m166.grow hG194
 have m197 := m167.grow hG194
 have m198 := m164.grow hG194
 have b199 := blg b168 hG194 (Nat.le_trans hB b168.size)
 have ho200 := owg hG194 ho169
 have ho201 := owg hG194 ho170
 refine dst_ (wn rfl) (hA193.ev rfl) (hA193.ev rfl) one3 rfl m198 (Nat.le_of_ble_eq_true rfl) ?_
 intro w202 hU203 (m204 : Blk w202 g57 #[.int .i64 0, .int .i64 ((path.length : Nat) : Int), .int .i64 ((p : Nat) : Int), .int .i64 6, .int .i64 i.loc, .int .i64 (spanM i r), .bool true, .bool true, .int .i64 (I (getR (B u) 0 i.size)), .int .i64 (I (rmwR i.fn (B (I (getR (B u) 0 i.size))) (B (r k)) i.size)), .bool i.acq, .bool i.weak, .bool i.rel, .int .i64 i.pred, .int .i64 i.succ] 52)
 have m205 := m195.upd hU203 n78
 have m206 := m196.upd hU203 n79
 have m207 := m197.upd hU203 n80
 have b208 := hU203.below b199 ge77
 have ho209 := own_upd ho200 hU203 off81
 have ho210 := own_upd ho201 hU203 off82
 refine tn_ ?_
 refine wp_seq ?_
 refine wp_seq ?_
 refine wp_region_lit ?_
 refine qs hA193 rfl (dfa (wn rfl) (hA193.ev rfl) fo52_5 ?_)
 intro a211 hA212
 refine qs hA212 rfl (dld (v := (.bool true)) (wn rfl) (hA212.ev rfl) one4 (m204.cell rfl) ?_)
 intro a213 hA214
 refine qe_ ?_
 refine tn_ ?_
 refine c_true hA214 rfl ?_
 have hA215 : St 111 [(0, (.pointer (some ⟨g, 0, none⟩))), (4, (.pointer (some ⟨g3, 0, none⟩))), (5, (.pointer (some ⟨g23, 0, none⟩))), (6, (.pointer (some ⟨g57, 0, none⟩)))] a213 := hA214.sub rfl
 let M216 : Nat → Option (Array Value) := fun _ => none
 have hM216 : M216 = fun _ => none := rfl
 clear_value M216
 have hM216A : ∀ k, M216 k = none := fun k => congrFun hM216 k
 have hM216B : ∀ k, k < Bd → M216 k = none := fun k _ => hM216A k
 refine drawnL (S := SM M216) rfl (tabL [cv (.pointer (some ⟨g, 0, none⟩)), cv (.pointer (some ⟨g23, 1, none⟩)), cv (.int .i64 ((d : Nat) : Int)), cv (.pointer (some ⟨g57, 8, none⟩)), cv (.int .i64 (I (getR (B u) 0 i.size))), cv (.pointer (some ⟨g, 0, none⟩)), cv (.pointer (some ⟨g, 1, none⟩)), cv (.pointer (some ⟨g, 1 + d, none⟩))]) none (fun _ => none) (fun _ _ => True) [7, 4, 0, 1, 2, 3, 6, 5] [] mixedY SM.refl SM.trans hA215 (by kernel_rfl) (by kernel_rfl) (fun i v u w h => by cases h) ?_ ?_
 ·skip
  refine ed_ (.inl ⟨nofun, rfl, fun x y hS hT hk => dmv (wn rfl) (hT.ev rfl) ⟨SM.refl _, rfl⟩⟩) ?_
  refine ed_ (.inl ⟨nofun, rfl, fun x y hS hT hk => dfa (wn rfl) (hT.ev rfl) fo23_1 ⟨SM.refl _, rfl⟩⟩) ?_
  refine ed_ (.inl ⟨nofun, rfl, fun x y hS hT hk => dld (v := (.int .i64 ((d : Nat) : Int))) (wn rfl) (hk 1 rfl) one3 ((Blk.sm (w := w202.drew) m207 hS (hM216A _)).cell rfl) ⟨SM.refl _, rfl⟩⟩) ?_
  refine ed_ (.inl ⟨nofun, rfl, fun x y hS hT hk => dfa (wn rfl) (hT.ev rfl) fo52_7 ⟨SM.refl _, rfl⟩⟩) ?_
  refine ed_ (.inl ⟨nofun, rfl, fun x y hS hT hk => dld (v := (.int .i64 (I (getR (B u) 0 i.size)))) (wn rfl) (hk 3 rfl) one3 ((Blk.sm (w := w202.drew) m204 hS (hM216A _)).cell rfl) ⟨SM.refl _, rfl⟩⟩) ?_
  refine ed_ (.inl ⟨nofun, rfl, fun x y hS hT hk => dnc (wn rfl) (hk 0 rfl) ⟨SM.refl _, rfl⟩⟩) ?_
  refine ed_ (.inl ⟨nofun, rfl, fun x y hS hT hk => dfa (wn rfl) (hk 5 rfl) fo65_1 ⟨SM.refl _, rfl⟩⟩) ?_
  refine ed_ (.inl ⟨nofun, rfl, fun x y hS hT hk => dix (j := d) (p := 1 + d) (wn rfl) (hk 6 rfl) (hk 2 rfl) arr43 (by omega) (by omega) ⟨SM.refl _, rfl⟩⟩) ?_
  exact eachD_one
 rintro a217 w218 hA219 ⟨hS221, hC222⟩
 have hA223 : St 111 [(0, (.pointer (some ⟨g, 0, none⟩))), (4, (.pointer (some ⟨g3, 0, none⟩))), (6, (.pointer (some ⟨g57, 0, none⟩))), (86, (.int .i64 (I (getR (B u) 0 i.size)))), (89, (.pointer (some ⟨g, 1 + d, none⟩)))] a217 := hA219.cut _ (fc (hA219.get 0 _ rfl) (fc (hA219.get 4 _ rfl) (fc (hA219.get 6 _ rfl) (fc (hC222 4 (Nat.le_of_ble_eq_true rfl)) (fc (hC222 7 (Nat.le_of_ble_eq_true rfl)) fn_)))))
 have hG224 : Grow w202 w218 := Grow.trans ((Grow.refl _).drew) (SM.grown (by rw [hM216] at hS221; exact hS221))
 have m225 := m205.grow hG224
 have m226 := m206.grow hG224
 have m227 := m207.grow hG224
 have m228 := m204.grow hG224
 have b229 := blg b208 hG224 (Nat.le_trans hB b208.size)
 have ho230 := owg hG224 ho209
 have ho231 := owg hG224 ho210
 refine dst_ (v := (.int .i64 (I (getR (B u) 0 i.size)))) (wn rfl) (hA223.ev rfl) (hA223.ev rfl) one3 rfl m225 (by rw [thr_size]; omega) ?_
 intro w232 hU233 m234
 rw [thr_set (by omega)] at m234
 have m235 := m226.upd hU233 (Ne.symm n9)
 have m236 := m227.upd hU233 (Ne.symm n44)
 have m237 := m228.upd hU233 (Ne.symm n78)
 have b238 := hU233.below b229 hge
 have ho239 := own_upd ho230 hU233 oe
 have ho240 := own_upd ho231 hU233 op_
 refine tn_ ?_
 refine wp_seq ?_
 have hA241 : St 111 [(0, (.pointer (some ⟨g, 0, none⟩))), (4, (.pointer (some ⟨g3, 0, none⟩))), (6, (.pointer (some ⟨g57, 0, none⟩)))] a217 := hA223.sub rfl
 let M242 : Nat → Option (Array Value) := fun _ => none
 have hM242 : M242 = fun _ => none := rfl
 clear_value M242
 have hM242A : ∀ k, M242 k = none := fun k => congrFun hM242 k
 have hM242B : ∀ k, k < Bd → M242 k = none := fun k _ => hM242A k
 refine drawnL (S := SM M242) rfl (tabQ [some (.pointer (some ⟨g, 0, none⟩)), some (.pointer (some ⟨g, 0, none⟩)), some (.pointer (some ⟨g, 0, none⟩)), some (.pointer (some ⟨g, 10, none⟩)), none, some (.pointer (some ⟨g, 0, none⟩)), some (.pointer (some ⟨g, 0, none⟩)), some (.pointer (some ⟨g, 9, none⟩)), none, none, none, some (.pointer (some ⟨g, 0, none⟩)), some (.pointer (some ⟨g, 10, none⟩))] [cv (.pointer (some ⟨g, 0, none⟩)), cv (.pointer (some ⟨g, 0, none⟩)), cv (.pointer (some ⟨g, 0, none⟩)), cv (.pointer (some ⟨g, 10, none⟩)), cv pa, cv (.pointer (some ⟨g, 0, none⟩)), cv (.pointer (some ⟨g, 0, none⟩)), cv (.pointer (some ⟨g, 9, none⟩)), cv (.int .i64 ((p : Nat) : Int)), cs1 M242 hM242A #[.int .i64 ((p : Nat) : Int)] 3, cfree, cv (.pointer (some ⟨g, 0, none⟩)), cv (.pointer (some ⟨g, 10, none⟩))]) (some 10) (fun i => (([some (.pointer (some ⟨g, 0, none⟩)), some (.pointer (some ⟨g, 0, none⟩)), some (.pointer (some ⟨g, 0, none⟩)), some (.pointer (some ⟨g, 10, none⟩)), none, some (.pointer (some ⟨g, 0, none⟩)), some (.pointer (some ⟨g, 0, none⟩)), some (.pointer (some ⟨g, 9, none⟩)), none, none, none, some (.pointer (some ⟨g, 0, none⟩)), some (.pointer (some ⟨g, 10, none⟩))] : List (Option Value))[i]?).getD none) (fun v' w' => w'.ownsRow Bd 3 1 v' (path.length + 1) ((paE path) ++ (#[.int .i64 ((p : Nat) : Int)] : Array Value).toList) ∧ Below Bd w w' ∧ Blk w' g (thrC cd (updR r d (I (getR (B u) 0 i.size))) ((p : Nat) : Int) pa) 65 ∧ Blk w' g3 #[.int .i64 0, .int .i64 0, .int .i64 0, .int .i64 0, .int .i64 0, .int .i64 0, .bool false, .bool false, .int .i64 0, .int .i64 0, .bool false, .bool false, .bool false, .int .i64 0, .int .i64 0] 52 ∧ Blk w' g23 (insC ⟨6, ((d : Nat) : Int), ((k : Nat) : Int), i.b, i.imm, i.loc, i.off, i.index, i.size, i.fn, i.acq, i.weak, i.rel, i.pred, i.succ, i.to, i.zero⟩) 23 ∧ Blk w' g57 #[.int .i64 0, .int .i64 ((path.length : Nat) : Int), .int .i64 ((p : Nat) : Int), .int .i64 6, .int .i64 i.loc, .int .i64 (spanM i r), .bool true, .bool true, .int .i64 (I (getR (B u) 0 i.size)), .int .i64 (I (rmwR i.fn (B (I (getR (B u) 0 i.size))) (B (r k)) i.size)), .bool i.acq, .bool i.weak, .bool i.rel, .int .i64 i.pred, .int .i64 i.succ] 52 ∧ w'.ownsRow Bd 52 15 ev ne xe ∧ v'.ownBlock ≠ some g ∧ v'.ownBlock ≠ some g3 ∧ v'.ownBlock ≠ some g23 ∧ v'.ownBlock ≠ some g57 ∧ ∀ k, ev.ownBlock = some k → v'.ownBlock ≠ some k) [12, 10, 0, 1, 2, 3, 4, 5, 6, 7, 8, 9, 11] [4, 9, 3, 8, 2, 7, 1, 6, 5] mixedY SM.refl SM.trans hA241 (by kernel_rfl) (by kernel_rfl) (tabQ_cv _ _) ?_ ?_
 ·skip
  refine ed_ (.inr (.inl ⟨by decide, _, rfl, fun x y hT hk hk0 => dmv (wn rfl) (hT.ev rfl) ⟨rfl, rfl⟩⟩)) ?_
  refine ed_ (.inr (.inl ⟨by decide, _, rfl, fun x y hT hk hk0 => dmv (wn rfl) (hT.ev rfl) ⟨rfl, rfl⟩⟩)) ?_
  refine ed_ (.inr (.inl ⟨by decide, _, rfl, fun x y hT hk hk0 => dnc (wn rfl) (hk 1 _ rfl rfl) ⟨rfl, rfl⟩⟩)) ?_
  refine ed_ (.inr (.inl ⟨by decide, _, rfl, fun x y hT hk hk0 => dfa (wn rfl) (hk 2 _ rfl rfl) fo65_3 ⟨rfl, rfl⟩⟩)) ?_
  refine ed_ (.inl ⟨by decide, rfl, fun x y hS hT hk => dld (v := pa) (wn rfl) (hk 3 rfl) one30 ((Blk.sm (w := w232.drew) m234 hS (hM242A _)).cell rfl) ⟨SM.refl _, rfl⟩⟩) ?_
  refine ed_ (.inr (.inl ⟨by decide, _, rfl, fun x y hT hk hk0 => dmv (wn rfl) (hT.ev rfl) ⟨rfl, rfl⟩⟩)) ?_
  refine ed_ (.inr (.inl ⟨by decide, _, rfl, fun x y hT hk hk0 => dnc (wn rfl) (hk 5 _ rfl rfl) ⟨rfl, rfl⟩⟩)) ?_
  refine ed_ (.inr (.inl ⟨by decide, _, rfl, fun x y hT hk hk0 => dfa (wn rfl) (hk 6 _ rfl rfl) fo65_2 ⟨rfl, rfl⟩⟩)) ?_
  refine ed_ (.inl ⟨by decide, rfl, fun x y hS hT hk => dld (v := (.int .i64 ((p : Nat) : Int))) (wn rfl) (hk 7 rfl) one3 ((Blk.sm (w := w232.drew) m234 hS (hM242A _)).cell rfl) ⟨SM.refl _, rfl⟩⟩) ?_
  refine ed_ (.inl ⟨by decide, rfl, fun x y hS hT hk => d_slice1 (wn rfl) (show x.eval _ = (.int .i64 ((p : Nat) : Int)) from (hk 8 rfl)) elm30 rfl (by decide) (fun g w' _ hG hb => ⟨SM.grow hG, g, rfl, hb⟩)⟩) ?_
  refine ed_ (.inr (.inr ⟨rfl, fun x y hS hT hk => ?_⟩)) ?_
  ·skip
   obtain ⟨gb, hvb, hbb⟩ := hk 9 rfl
   have hG : Grow w232 y := Grow.trans ((Grow.refl _).drew) (SM.grown (by rw [hM242] at hS; exact hS))
   have hR := owg hG ho240
   have hO := owg hG ho239
   have hBl := blg b238 hG (Nat.le_trans hB b238.size)
   refine d_append (wn rfl) (show x.eval _ = pa from (hk 4 rfl)) hvb elm30 hR hbb rfl rfl (by omega) (by decide) (Nat.le_trans hB hBl.size) ?_
   intro v' w' h1 h2 h3
   exact ⟨h1, below_by hBl h2 (Nat.le_trans hB hBl.size) (fun k hk => (own_lt hR k hk).1), (m234.grow hG).by h2 op_, (m235.grow hG).by h2 off11, (m236.grow hG).by h2 off47, (m237.grow hG).by h2 off82, own_by hO h2 ap2, lies_ne h3 op_ (m234.grow hG).lt, lies_ne h3 off11 (m235.grow hG).lt, lies_ne h3 off47 (m236.grow hG).lt, lies_ne h3 off82 (m237.grow hG).lt, lies_ap h3 ap2 hO⟩
  refine ed_ (.inr (.inl ⟨by decide, _, rfl, fun x y hT hk hk0 => dnc (wn rfl) (hk 0 _ rfl rfl) ⟨rfl, rfl⟩⟩)) ?_
  refine ed_ (.inr (.inl ⟨by decide, _, rfl, fun x y hT hk hk0 => dfa (wn rfl) (hk 11 _ rfl rfl) fo65_3 ⟨rfl, rfl⟩⟩)) ?_
  exact eachD_one
 rintro a243 w244 hA245 ⟨hP247, hW248⟩
 obtain ⟨v249, hv250⟩ : ∃ v', v' = (a243.tmps.getD 100 undef) := ⟨_, rfl⟩
 have hW251 : (fun v' w' => w'.ownsRow Bd 3 1 v' (path.length + 1) ((paE path) ++ (#[.int .i64 ((p : Nat) : Int)] : Array Value).toList) ∧ Below Bd w w' ∧ Blk w' g (thrC cd (updR r d (I (getR (B u) 0 i.size))) ((p : Nat) : Int) pa) 65 ∧ Blk w' g3 #[.int .i64 0, .int .i64 0, .int .i64 0, .int .i64 0, .int .i64 0, .int .i64 0, .bool false, .bool false, .int .i64 0, .int .i64 0, .bool false, .bool false, .bool false, .int .i64 0, .int .i64 0] 52 ∧ Blk w' g23 (insC ⟨6, ((d : Nat) : Int), ((k : Nat) : Int), i.b, i.imm, i.loc, i.off, i.index, i.size, i.fn, i.acq, i.weak, i.rel, i.pred, i.succ, i.to, i.zero⟩) 23 ∧ Blk w' g57 #[.int .i64 0, .int .i64 ((path.length : Nat) : Int), .int .i64 ((p : Nat) : Int), .int .i64 6, .int .i64 i.loc, .int .i64 (spanM i r), .bool true, .bool true, .int .i64 (I (getR (B u) 0 i.size)), .int .i64 (I (rmwR i.fn (B (I (getR (B u) 0 i.size))) (B (r k)) i.size)), .bool i.acq, .bool i.weak, .bool i.rel, .int .i64 i.pred, .int .i64 i.succ] 52 ∧ w'.ownsRow Bd 52 15 ev ne xe ∧ v'.ownBlock ≠ some g ∧ v'.ownBlock ≠ some g3 ∧ v'.ownBlock ≠ some g23 ∧ v'.ownBlock ≠ some g57 ∧ ∀ k, ev.ownBlock = some k → v'.ownBlock ≠ some k) v249 w244 := by rw [hv250]; exact hW248
 obtain ⟨ho252, b253, m254, m255, m256, m257, ho258, off259, off260, off261, off262, ap263⟩ := hW251
 have ap264 : ∀ k, v249.ownBlock = some k → ev.ownBlock ≠ some k := fun k h1 h2 => ap263 k h2 h1
 have hA265 : St 111 [(0, (.pointer (some ⟨g, 0, none⟩))), (4, (.pointer (some ⟨g3, 0, none⟩))), (6, (.pointer (some ⟨g57, 0, none⟩))), (100, v249), (102, (.pointer (some ⟨g, 10, none⟩)))] a243 := hA245.cut _ (fc (hA245.get 0 _ rfl) (fc (hA245.get 4 _ rfl) (fc (hA245.get 6 _ rfl) (fc hv250.symm (fc (hP247 12 _ (Nat.le_of_ble_eq_true rfl) (by decide) rfl) fn_)))))
 refine dst_ (v := v249) (wn rfl) (hA265.ev rfl) (hA265.ev rfl) one30 (one_slice (own_form ho252)) m254 (Nat.le_of_ble_eq_true rfl) ?_
 intro w266 hU267 (m268 : Blk w266 g (thrC cd (updR r d (I (getR (B u) 0 i.size))) ((p : Nat) : Int) v249) 65)
 have m269 := m255.upd hU267 (Ne.symm n9)
 have m270 := m256.upd hU267 (Ne.symm n44)
 have m271 := m257.upd hU267 (Ne.symm n78)
 have b272 := hU267.below b253 hge
 have ho273 := own_upd ho258 hU267 oe
 have ho274 := own_upd ho252 hU267 off259
 refine tn_ ?_
 refine wp_seq ?_
 refine wp_region_lit ?_
 refine qs hA265 rfl (dmv (wn rfl) (hA265.ev rfl) ?_)
 intro a275 hA276
 refine qs hA276 rfl (dnc (wn rfl) (hA276.ev rfl) ?_)
 intro a277 hA278
 refine qs hA278 rfl (dfa (wn rfl) (hA278.ev rfl) fo65_2 ?_)
 intro a279 hA280
 refine qs hA280 rfl (dld (v := (.int .i64 ((p : Nat) : Int))) (wn rfl) (hA280.ev rfl) one3 (m268.cell rfl) ?_)
 intro a281 hA282
 refine qs hA282 rfl (dbn (wn rfl) (hA282.ev rfl) (hA282.ev rfl) (b_add _ _ ((p : Nat) : Int) 1 _ (by omega) (by omega)) ?_)
 intro a283 hA284
 refine qs hA284 rfl (dnc (wn rfl) (hA284.ev rfl) ?_)
 intro a285 hA286
 refine qs hA286 rfl (dfa (wn rfl) (hA286.ev rfl) fo65_2 ?_)
 intro a287 hA288
 refine qs hA288 rfl (dst_ (v := (.int .i64 (((p : Nat) : Int) + 1))) (wn rfl) (hA288.ev rfl) (hA288.ev rfl) one3 rfl m268 (Nat.le_of_ble_eq_true rfl) ?_)
 intro w289 hU290 (m291 : Blk w289 g (thrC cd (updR r d (I (getR (B u) 0 i.size))) (((p : Nat) : Int) + 1) v249) 65)
 have m292 := m269.upd hU290 (Ne.symm n9)
 have m293 := m270.upd hU290 (Ne.symm n44)
 have m294 := m271.upd hU290 (Ne.symm n78)
 have b295 := hU290.below b272 hge
 have ho296 := own_upd ho273 hU290 oe
 have ho297 := own_upd ho274 hU290 off259
 intro a298 hA299
 refine qe_ ?_
 refine tn_ ?_
 refine wp_seq ?_
 refine wp_region_lit ?_
 refine qs hA299 rfl (dlr (cs := #[.int .i64 0, .int .i64 ((path.length : Nat) : Int), .int .i64 ((p : Nat) : Int), .int .i64 6, .int .i64 i.loc, .int .i64 (spanM i r), .bool true, .bool true, .int .i64 (I (getR (B u) 0 i.size)), .int .i64 (I (rmwR i.fn (B (I (getR (B u) 0 i.size))) (B (r k)) i.size)), .bool i.acq, .bool i.weak, .bool i.rel, .int .i64 i.pred, .int .i64 i.succ]) (wn rfl) (hA299.ev rfl) row52 m294 ?_)
 intro a300 hA301
 refine qs hA301 rfl (dsr (wn rfl) (hA301.ev rfl) (hA301.ev rfl) row52 m292 rfl rfl ?_)
 intro w302 hU303 (m304 : Blk w302 g3 #[.int .i64 0, .int .i64 ((path.length : Nat) : Int), .int .i64 ((p : Nat) : Int), .int .i64 6, .int .i64 i.loc, .int .i64 (spanM i r), .bool true, .bool true, .int .i64 (I (getR (B u) 0 i.size)), .int .i64 (I (rmwR i.fn (B (I (getR (B u) 0 i.size))) (B (r k)) i.size)), .bool i.acq, .bool i.weak, .bool i.rel, .int .i64 i.pred, .int .i64 i.succ] 52)
 have m305 := m291.upd hU303 n9
 have m306 := m293.upd hU303 (Ne.symm n45)
 have m307 := m294.upd hU303 (Ne.symm n79)
 have b308 := hU303.below b295 ge8
 have ho309 := own_upd ho296 hU303 off10
 have ho310 := own_upd ho297 hU303 off260
 intro a311 hA312
 refine qe_ ?_
 refine tn_ ?_
 refine wp_ret ?_
 refine retRow (g := g3) (cs := #[.int .i64 0, .int .i64 ((path.length : Nat) : Int), .int .i64 ((p : Nat) : Int), .int .i64 6, .int .i64 i.loc, .int .i64 (spanM i r), .bool true, .bool true, .int .i64 (I (getR (B u) 0 i.size)), .int .i64 (I (rmwR i.fn (B (I (getR (B u) 0 i.size))) (B (r k)) i.size)), .bool i.acq, .bool i.weak, .bool i.rel, .int .i64 i.pred, .int .i64 i.succ]) rfl hA312 rfl m304 row52 ?_
 exact ⟨rfl, b308, ho309, v249, m305, hge, (hcd.below b308), (by rw [List.length_append, ← paE_snoc]; exact ho310), off259⟩
end Go.Proofs.Ytlhompedcphnnaa
/- A step of the reference's thread. -/
namespace Go.Proofs.Ytlhompedcphnnaa
open Go.RowKit
set_option linter.unusedSimpArgs false
set_option linter.unusedVariables false

set_option maxHeartbeats 4000000 in
set_option maxRecDepth 4000 in
theorem rstep_7 (Bd g p ne : Nat) (r : Nat → Int) (cd pa ev : Value) (xe : List Value) (code : List Ins) (i : Ins) (u : Int) (path : List Int) (w : World) (hB : Bd ≤ w.heap.size) (hT : TS Bd g w cd code ((p : Nat) : Int) r path pa) (hev : w.ownsRow Bd 52 15 ev ne xe) (hnp : path.length ≤ 1000) (hr : ∀ k, wfI (r k)) (hp2 : p ≤ 1000) (hy : code[p]? = some ⟨7, i.dst, i.a, i.b, i.imm, i.loc, i.off, i.index, i.size, i.fn, i.acq, i.weak, i.rel, i.pred, i.succ, i.to, i.zero⟩) : Calls Try.prog 38 #[.pointer (some ⟨g, 0, none⟩), .int .i64 u] w fun e w' => e = .returned (.agg (evC (ev0 { i with op := 7 } path.length p))) ∧ Below Bd w w' ∧ w'.ownsRow Bd 52 15 ev ne xe ∧ ∃ pa', TS Bd g w' cd code (((p : Nat) : Int) + 1) r (path ++ [((p : Nat) : Int)]) pa' := by
 obtain ⟨hb, hge, hcd, hpa, op_⟩ := hT
 have oe := own_apart hev hb (by decide)
 have ap := rows_apart hpa hev (by decide)
 have ap2 : ∀ k, ev.ownBlock = some k → pa.ownBlock ≠ some k := fun k h1 h2 => ap k h2 h1
 have b0 : Below Bd w w := Below.refl _ _
 refine enter (n := 111) Try.func38 rfl rfl (Nat.le_of_ble_eq_true rfl) ?_
 intro a1 hA2
 refine wp_seq ?_
 refine wp_region_lit ?_
 refine qs hA2 rfl (dal (wn rfl) zero52 ?_)
 intro g3 w4 eg5 hG6 (m7 : Blk w4 g3 #[.int .i64 0, .int .i64 0, .int .i64 0, .int .i64 0, .int .i64 0, .int .i64 0, .bool false, .bool false, .int .i64 0, .int .i64 0, .bool false, .bool false, .bool false, .int .i64 0, .int .i64 0] 52)
 have ge8 : Bd ≤ g3 := eg5 ▸ (Nat.le_trans hB b0.size)
 have n9 : g ≠ g3 := fun h => Nat.lt_irrefl _ ((h.trans eg5) ▸ hb.lt)
 have off10 := own_new hev eg5
 have off11 := own_new hpa eg5
 have m12 := hb.grow hG6
 have b13 := blg b0 hG6 (Nat.le_trans hB b0.size)
 have ho14 := owg hG6 hev
 have ho15 := owg hG6 hpa
 intro a16 hA17
 refine qe_ ?_
 refine tn_ ?_
 refine wp_seq ?_
 obtain ⟨b18, o19, lt20, hr21, hix22⟩ := (hcd.below b13).at hy
 have hA24 : St 111 [(0, (.pointer (some ⟨g, 0, none⟩))), (1, (.int .i64 u)), (4, (.pointer (some ⟨g3, 0, none⟩)))] a16 := hA17.sub rfl
 let M25 : Nat → Option (Array Value) := fun _ => none
 have hM25 : M25 = fun _ => none := rfl
 clear_value M25
 have hM25A : ∀ k, M25 k = none := fun k => congrFun hM25 k
 have hM25B : ∀ k, k < Bd → M25 k = none := fun k _ => hM25A k
 refine drawnL (S := SM M25) rfl (tabL [cv (.pointer (some ⟨g, 0, none⟩)), cv (.pointer (some ⟨g, 0, none⟩)), cv (.pointer (some ⟨g, 0, none⟩)), cv cd, cv (.pointer (some ⟨g, 0, none⟩)), cv (.pointer (some ⟨g, 0, none⟩)), cv (.pointer (some ⟨g, 9, none⟩)), cv (.int .i64 ((p : Nat) : Int)), cv (.pointer (some ⟨b18, o19, none⟩)), cv (.agg (insC ⟨7, i.dst, i.a, i.b, i.imm, i.loc, i.off, i.index, i.size, i.fn, i.acq, i.weak, i.rel, i.pred, i.succ, i.to, i.zero⟩)), cBlk M25 hM25A w4.heap.size #[.int .i64 0, .int .i64 0, .int .i64 0, .int .i64 0, .int .i64 0, .int .i64 0, .int .i64 0, .int .i64 0, .int .i64 0, .int .i64 0, .bool false, .bool false, .bool false, .int .i64 0, .int .i64 0, .int .i64 0, .bool false] 23]) none (fun _ => none) (fun _ _ => True) [10, 9, 0, 1, 2, 3, 4, 5, 6, 7, 8] [] mixedY SM.refl SM.trans hA24 (by kernel_rfl) (by kernel_rfl) (fun i v u w h => by cases h) ?_ ?_
 ·skip
  refine ed_ (.inl ⟨nofun, rfl, fun x y hS hT hk => dmv (wn rfl) (hT.ev rfl) ⟨SM.refl _, rfl⟩⟩) ?_
  refine ed_ (.inl ⟨nofun, rfl, fun x y hS hT hk => dnc (wn rfl) (hk 0 rfl) ⟨SM.refl _, rfl⟩⟩) ?_
  refine ed_ (.inl ⟨nofun, rfl, fun x y hS hT hk => dfa (wn rfl) (hk 1 rfl) fo65_0 ⟨SM.refl _, rfl⟩⟩) ?_
  refine ed_ (.inl ⟨nofun, rfl, fun x y hS hT hk => dld (v := cd) (wn rfl) (hk 2 rfl) one35 ((Blk.sm (w := w4.drew) m12 hS (hM25A _)).cell rfl) ⟨SM.refl _, rfl⟩⟩) ?_
  refine ed_ (.inl ⟨nofun, rfl, fun x y hS hT hk => dmv (wn rfl) (hT.ev rfl) ⟨SM.refl _, rfl⟩⟩) ?_
  refine ed_ (.inl ⟨nofun, rfl, fun x y hS hT hk => dnc (wn rfl) (hk 4 rfl) ⟨SM.refl _, rfl⟩⟩) ?_
  refine ed_ (.inl ⟨nofun, rfl, fun x y hS hT hk => dfa (wn rfl) (hk 5 rfl) fo65_2 ⟨SM.refl _, rfl⟩⟩) ?_
  refine ed_ (.inl ⟨nofun, rfl, fun x y hS hT hk => dld (v := (.int .i64 ((p : Nat) : Int))) (wn rfl) (hk 6 rfl) one3 ((Blk.sm (w := w4.drew) m12 hS (hM25A _)).cell rfl) ⟨SM.refl _, rfl⟩⟩) ?_
  refine ed_ (.inl ⟨nofun, rfl, fun x y hS hT hk => dia (j := p) (wn rfl) (hk 3 rfl) (hk 7 rfl) slc35 hix22 (get_lt hy) ⟨SM.refl _, rfl⟩⟩) ?_
  refine ed_ (.inl ⟨nofun, rfl, fun x y hS hT hk => dlm (cs := (insC ⟨7, i.dst, i.a, i.b, i.imm, i.loc, i.off, i.index, i.size, i.fn, i.acq, i.weak, i.rel, i.pred, i.succ, i.to, i.zero⟩)) (wn rfl) (hk 8 rfl) row23 (range_sm (w := w4.drew) hr21 hS (Nat.lt_of_lt_of_le lt20 (Nat.le_trans hB b13.size)) (hM25B _ lt20)) ⟨SM.refl _, rfl⟩⟩) ?_
  refine ed_ (.inl ⟨nofun, rfl, fun x y hS hT hk => dal (wn rfl) zero23 (fun g w' eg hG hb => ⟨SM.grow hG, g, rfl, eg ▸ hS.size, hb⟩)⟩) ?_
  exact eachD_one
 rintro a26 w27 hA28 ⟨hS30, hC31⟩
 obtain ⟨g23, hg32, hge33, m34⟩ := hC31 10 (Nat.le_of_ble_eq_true rfl)
 have hA35 : St 111 [(0, (.pointer (some ⟨g, 0, none⟩))), (1, (.int .i64 u)), (4, (.pointer (some ⟨g3, 0, none⟩))), (5, (.pointer (some ⟨g23, 0, none⟩))), (16, (.agg (insC ⟨7, i.dst, i.a, i.b, i.imm, i.loc, i.off, i.index, i.size, i.fn, i.acq, i.weak, i.rel, i.pred, i.succ, i.to, i.zero⟩)))] a26 := hA28.cut _ (fc (hA28.get 0 _ rfl) (fc (hA28.get 1 _ rfl) (fc (hA28.get 4 _ rfl) (fc hg32 (fc (hC31 9 (Nat.le_of_ble_eq_true rfl)) fn_)))))
 have hG36 : Grow w4 w27 := Grow.trans ((Grow.refl _).drew) (SM.grown (by rw [hM25] at hS30; exact hS30))
 have m37 := m12.grow hG36
 have m38 := m7.grow hG36
 have hr39 := range_below hr21 hG36 (Nat.lt_of_lt_of_le lt20 (Nat.le_trans hB b13.size))
 have b40 := blg b13 hG36 (Nat.le_trans hB b13.size)
 have ho41 := owg hG36 ho14
 have ho42 := owg hG36 ho15
 have ge43 : Bd ≤ g23 := Nat.le_trans (Nat.le_trans hB b13.size) hge33
 have n44 : g ≠ g23 := Nat.ne_of_lt (Nat.lt_of_lt_of_le m12.lt hge33)
 have n45 : g3 ≠ g23 := Nat.ne_of_lt (Nat.lt_of_lt_of_le m7.lt hge33)
 have off46 : ev.ownBlock ≠ some g23 := fun e => Nat.lt_irrefl _ (Nat.lt_of_lt_of_le (own_lt ho14 _ e).2 hge33)
 have off47 : pa.ownBlock ≠ some g23 := fun e => Nat.lt_irrefl _ (Nat.lt_of_lt_of_le (own_lt ho15 _ e).2 hge33)
 refine dsr (wn rfl) (hA35.ev rfl) (hA35.ev rfl) row23 m34 rfl rfl ?_
 intro w48 hU49 (m50 : Blk w48 g23 (insC ⟨7, i.dst, i.a, i.b, i.imm, i.loc, i.off, i.index, i.size, i.fn, i.acq, i.weak, i.rel, i.pred, i.succ, i.to, i.zero⟩) 23)
 have m51 := m37.upd hU49 n44
 have m52 := m38.upd hU49 n45
 have hr53 := range_upd hr39 hU49 (Nat.ne_of_lt (Nat.lt_of_lt_of_le lt20 ge43))
 have b54 := hU49.below b40 ge43
 have ho55 := own_upd ho41 hU49 off46
 have ho56 := own_upd ho42 hU49 off47
 refine tn_ ?_
 refine wp_seq ?_
 have hA58 : St 111 [(0, (.pointer (some ⟨g, 0, none⟩))), (1, (.int .i64 u)), (4, (.pointer (some ⟨g3, 0, none⟩))), (5, (.pointer (some ⟨g23, 0, none⟩)))] a26 := hA35.sub rfl
 let M59 : Nat → Option (Array Value) := fun _ => none
 have hM59 : M59 = fun _ => none := rfl
 clear_value M59
 have hM59A : ∀ k, M59 k = none := fun k => congrFun hM59 k
 have hM59B : ∀ k, k < Bd → M59 k = none := fun k _ => hM59A k
 refine drawnL (S := SM M59) rfl (tabL [cv (.pointer (some ⟨g, 0, none⟩)), cv (.pointer (some ⟨g, 0, none⟩)), cv (.pointer (some ⟨g, 10, none⟩)), cv pa, cv (.int .i64 ((path.length : Nat) : Int)), cv (.pointer (some ⟨g, 0, none⟩)), cv (.pointer (some ⟨g, 0, none⟩)), cv (.pointer (some ⟨g, 9, none⟩)), cv (.int .i64 ((p : Nat) : Int)), cv (.pointer (some ⟨g23, 0, none⟩)), cv (.int .i64 7), cv (.pointer (some ⟨g23, 10, none⟩)), cv (.bool i.acq), cv (.pointer (some ⟨g23, 11, none⟩)), cv (.bool i.weak), cv (.pointer (some ⟨g23, 12, none⟩)), cv (.bool i.rel), cv (.pointer (some ⟨g23, 13, none⟩)), cv (.int .i64 i.pred), cv (.pointer (some ⟨g23, 14, none⟩)), cv (.int .i64 i.succ), cv (.agg (insC ⟨7, i.dst, i.a, i.b, i.imm, i.loc, i.off, i.index, i.size, i.fn, i.acq, i.weak, i.rel, i.pred, i.succ, i.to, i.zero⟩)), cv (.bool false), cv (.agg (insC ⟨7, i.dst, i.a, i.b, i.imm, i.loc, i.off, i.index, i.size, i.fn, i.acq, i.weak, i.rel, i.pred, i.succ, i.to, i.zero⟩)), cv (.bool false), cv (.agg #[.int .i64 0, .int .i64 ((path.length : Nat) : Int), .int .i64 ((p : Nat) : Int), .int .i64 7, .int .i64 0, .int .i64 0, .bool false, .bool false, .int .i64 0, .int .i64 0, .bool i.acq, .bool i.weak, .bool i.rel, .int .i64 i.pred, .int .i64 i.succ]), cBlk M59 hM59A w48.heap.size #[.int .i64 0, .int .i64 0, .int .i64 0, .int .i64 0, .int .i64 0, .int .i64 0, .bool false, .bool false, .int .i64 0, .int .i64 0, .bool false, .bool false, .bool false, .int .i64 0, .int .i64 0] 52]) none (fun _ => none) (fun _ _ => True) [26, 25, 24, 0, 1, 2, 3, 4, 5, 6, 7, 8, 9, 10, 11, 12, 13, 14, 15, 16, 17, 18, 19, 20, 21, 22, 23] [] mixedY SM.refl SM.trans hA58 (by kernel_rfl) (by kernel_rfl) (fun i v u w h => by cases h) ?_ ?_
 ·skip
  refine ed_ (.inl ⟨nofun, rfl, fun x y hS hT hk => dmv (wn rfl) (hT.ev rfl) ⟨SM.refl _, rfl⟩⟩) ?_
  refine ed_ (.inl ⟨nofun, rfl, fun x y hS hT hk => dnc (wn rfl) (hk 0 rfl) ⟨SM.refl _, rfl⟩⟩) ?_
  refine ed_ (.inl ⟨nofun, rfl, fun x y hS hT hk => dfa (wn rfl) (hk 1 rfl) fo65_3 ⟨SM.refl _, rfl⟩⟩) ?_
  refine ed_ (.inl ⟨nofun, rfl, fun x y hS hT hk => dld (v := pa) (wn rfl) (hk 2 rfl) one30 ((Blk.sm (w := w48.drew) m51 hS (hM59A _)).cell rfl) ⟨SM.refl _, rfl⟩⟩) ?_
  refine ed_ (.inl ⟨nofun, rfl, fun x y hS hT hk => dle (n := path.length) (wn rfl) (hk 3 rfl) slc30 (own_form ho56) ⟨SM.refl _, rfl⟩⟩) ?_
  refine ed_ (.inl ⟨nofun, rfl, fun x y hS hT hk => dmv (wn rfl) (hT.ev rfl) ⟨SM.refl _, rfl⟩⟩) ?_
  refine ed_ (.inl ⟨nofun, rfl, fun x y hS hT hk => dnc (wn rfl) (hk 5 rfl) ⟨SM.refl _, rfl⟩⟩) ?_
  refine ed_ (.inl ⟨nofun, rfl, fun x y hS hT hk => dfa (wn rfl) (hk 6 rfl) fo65_2 ⟨SM.refl _, rfl⟩⟩) ?_
  refine ed_ (.inl ⟨nofun, rfl, fun x y hS hT hk => dld (v := (.int .i64 ((p : Nat) : Int))) (wn rfl) (hk 7 rfl) one3 ((Blk.sm (w := w48.drew) m51 hS (hM59A _)).cell rfl) ⟨SM.refl _, rfl⟩⟩) ?_
  refine ed_ (.inl ⟨nofun, rfl, fun x y hS hT hk => dfa (wn rfl) (hT.ev rfl) fo23_0 ⟨SM.refl _, rfl⟩⟩) ?_
  refine ed_ (.inl ⟨nofun, rfl, fun x y hS hT hk => dld (v := (.int .i64 7)) (wn rfl) (hk 9 rfl) one3 ((Blk.sm (w := w48.drew) m50 hS (hM59A _)).cell rfl) ⟨SM.refl _, rfl⟩⟩) ?_
  refine ed_ (.inl ⟨nofun, rfl, fun x y hS hT hk => dfa (wn rfl) (hT.ev rfl) fo23_10 ⟨SM.refl _, rfl⟩⟩) ?_
  refine ed_ (.inl ⟨nofun, rfl, fun x y hS hT hk => dld (v := (.bool i.acq)) (wn rfl) (hk 11 rfl) one4 ((Blk.sm (w := w48.drew) m50 hS (hM59A _)).cell rfl) ⟨SM.refl _, rfl⟩⟩) ?_
  refine ed_ (.inl ⟨nofun, rfl, fun x y hS hT hk => dfa (wn rfl) (hT.ev rfl) fo23_11 ⟨SM.refl _, rfl⟩⟩) ?_
  refine ed_ (.inl ⟨nofun, rfl, fun x y hS hT hk => dld (v := (.bool i.weak)) (wn rfl) (hk 13 rfl) one4 ((Blk.sm (w := w48.drew) m50 hS (hM59A _)).cell rfl) ⟨SM.refl _, rfl⟩⟩) ?_
  refine ed_ (.inl ⟨nofun, rfl, fun x y hS hT hk => dfa (wn rfl) (hT.ev rfl) fo23_12 ⟨SM.refl _, rfl⟩⟩) ?_
  refine ed_ (.inl ⟨nofun, rfl, fun x y hS hT hk => dld (v := (.bool i.rel)) (wn rfl) (hk 15 rfl) one4 ((Blk.sm (w := w48.drew) m50 hS (hM59A _)).cell rfl) ⟨SM.refl _, rfl⟩⟩) ?_
  refine ed_ (.inl ⟨nofun, rfl, fun x y hS hT hk => dfa (wn rfl) (hT.ev rfl) fo23_13 ⟨SM.refl _, rfl⟩⟩) ?_
  refine ed_ (.inl ⟨nofun, rfl, fun x y hS hT hk => dld (v := (.int .i64 i.pred)) (wn rfl) (hk 17 rfl) one3 ((Blk.sm (w := w48.drew) m50 hS (hM59A _)).cell rfl) ⟨SM.refl _, rfl⟩⟩) ?_
  refine ed_ (.inl ⟨nofun, rfl, fun x y hS hT hk => dfa (wn rfl) (hT.ev rfl) fo23_14 ⟨SM.refl _, rfl⟩⟩) ?_
  refine ed_ (.inl ⟨nofun, rfl, fun x y hS hT hk => dld (v := (.int .i64 i.succ)) (wn rfl) (hk 19 rfl) one3 ((Blk.sm (w := w48.drew) m50 hS (hM59A _)).cell rfl) ⟨SM.refl _, rfl⟩⟩) ?_
  refine ed_ (.inl ⟨nofun, rfl, fun x y hS hT hk => dlr (cs := (insC ⟨7, i.dst, i.a, i.b, i.imm, i.loc, i.off, i.index, i.size, i.fn, i.acq, i.weak, i.rel, i.pred, i.succ, i.to, i.zero⟩)) (wn rfl) (hT.ev rfl) row23 (Blk.sm (w := w48.drew) m50 hS (hM59A _)) ⟨SM.refl _, rfl⟩⟩) ?_
  refine ed_ (.inl ⟨nofun, rfl, fun x y hS hT hk => dcl (wn rfl) ent12 (map1 (show x.eval _ = (.agg (insC ⟨7, i.dst, i.a, i.b, i.imm, i.loc, i.off, i.index, i.size, i.fn, i.acq, i.weak, i.rel, i.pred, i.succ, i.to, i.zero⟩)) from (hk 21 rfl))) (rreads_any (⟨7, i.dst, i.a, i.b, i.imm, i.loc, i.off, i.index, i.size, i.fn, i.acq, i.weak, i.rel, i.pred, i.succ, i.to, i.zero⟩) y) (fun _ _ ⟨he, hG⟩ => ⟨(.bool false), he, SM.grow hG, rfl⟩)⟩) ?_
  refine ed_ (.inl ⟨nofun, rfl, fun x y hS hT hk => dlr (cs := (insC ⟨7, i.dst, i.a, i.b, i.imm, i.loc, i.off, i.index, i.size, i.fn, i.acq, i.weak, i.rel, i.pred, i.succ, i.to, i.zero⟩)) (wn rfl) (hT.ev rfl) row23 (Blk.sm (w := w48.drew) m50 hS (hM59A _)) ⟨SM.refl _, rfl⟩⟩) ?_
  refine ed_ (.inl ⟨nofun, rfl, fun x y hS hT hk => dcl (wn rfl) ent14 (map1 (show x.eval _ = (.agg (insC ⟨7, i.dst, i.a, i.b, i.imm, i.loc, i.off, i.index, i.size, i.fn, i.acq, i.weak, i.rel, i.pred, i.succ, i.to, i.zero⟩)) from (hk 23 rfl))) (rwrites_any (⟨7, i.dst, i.a, i.b, i.imm, i.loc, i.off, i.index, i.size, i.fn, i.acq, i.weak, i.rel, i.pred, i.succ, i.to, i.zero⟩) y) (fun _ _ ⟨he, hG⟩ => ⟨(.bool false), he, SM.grow hG, rfl⟩)⟩) ?_
  refine ed_ (.inl ⟨nofun, rfl, fun x y hS hT hk => dbd (cs := #[.int .i64 0, .int .i64 ((path.length : Nat) : Int), .int .i64 ((p : Nat) : Int), .int .i64 7, .int .i64 0, .int .i64 0, .bool false, .bool false, .int .i64 0, .int .i64 0, .bool i.acq, .bool i.weak, .bool i.rel, .int .i64 i.pred, .int .i64 i.succ]) (wn rfl) (bp_of (bq_cons (show x.eval _ = (.int .i64 ((path.length : Nat) : Int)) from (hk 4 rfl)) (bq_cons (show x.eval _ = (.int .i64 ((p : Nat) : Int)) from (hk 8 rfl)) (bq_cons (show x.eval _ = (.int .i64 7) from (hk 10 rfl)) (bq_cons (show x.eval _ = (.bool i.acq) from (hk 12 rfl)) (bq_cons (show x.eval _ = (.bool i.weak) from (hk 14 rfl)) (bq_cons (show x.eval _ = (.bool i.rel) from (hk 16 rfl)) (bq_cons (show x.eval _ = (.int .i64 i.pred) from (hk 18 rfl)) (bq_cons (show x.eval _ = (.int .i64 i.succ) from (hk 20 rfl)) (bq_cons (show x.eval _ = (.bool false) from (hk 22 rfl)) (bq_cons (show x.eval _ = (.bool false) from (hk 24 rfl)) bq_nil))))))))))) zero52 places52 (by kernel_rfl) ⟨SM.refl _, rfl⟩⟩) ?_
  refine ed_ (.inl ⟨nofun, rfl, fun x y hS hT hk => dal (wn rfl) zero52 (fun g w' eg hG hb => ⟨SM.grow hG, g, rfl, eg ▸ hS.size, hb⟩)⟩) ?_
  exact eachD_one
 rintro a60 w61 hA62 ⟨hS64, hC65⟩
 obtain ⟨g57, hg66, hge67, m68⟩ := hC65 26 (Nat.le_of_ble_eq_true rfl)
 have hA69 : St 111 [(0, (.pointer (some ⟨g, 0, none⟩))), (1, (.int .i64 u)), (4, (.pointer (some ⟨g3, 0, none⟩))), (5, (.pointer (some ⟨g23, 0, none⟩))), (6, (.pointer (some ⟨g57, 0, none⟩))), (42, (.agg #[.int .i64 0, .int .i64 ((path.length : Nat) : Int), .int .i64 ((p : Nat) : Int), .int .i64 7, .int .i64 0, .int .i64 0, .bool false, .bool false, .int .i64 0, .int .i64 0, .bool i.acq, .bool i.weak, .bool i.rel, .int .i64 i.pred, .int .i64 i.succ]))] a60 := hA62.cut _ (fc (hA62.get 0 _ rfl) (fc (hA62.get 1 _ rfl) (fc (hA62.get 4 _ rfl) (fc (hA62.get 5 _ rfl) (fc hg66 (fc (hC65 25 (Nat.le_of_ble_eq_true rfl)) fn_))))))
 have hG70 : Grow w48 w61 := Grow.trans ((Grow.refl _).drew) (SM.grown (by rw [hM59] at hS64; exact hS64))
 have m71 := m51.grow hG70
 have m72 := m52.grow hG70
 have m73 := m50.grow hG70
 have b74 := blg b54 hG70 (Nat.le_trans hB b54.size)
 have ho75 := owg hG70 ho55
 have ho76 := owg hG70 ho56
 have ge77 : Bd ≤ g57 := Nat.le_trans (Nat.le_trans hB b54.size) hge67
 have n78 : g ≠ g57 := Nat.ne_of_lt (Nat.lt_of_lt_of_le m51.lt hge67)
 have n79 : g3 ≠ g57 := Nat.ne_of_lt (Nat.lt_of_lt_of_le m52.lt hge67)
 have n80 : g23 ≠ g57 := Nat.ne_of_lt (Nat.lt_of_lt_of_le m50.lt hge67)
 have off81 : ev.ownBlock ≠ some g57 := fun e => Nat.lt_irrefl _ (Nat.lt_of_lt_of_le (own_lt ho55 _ e).2 hge67)
 have off82 : pa.ownBlock ≠ some g57 := fun e => Nat.lt_irrefl _ (Nat.lt_of_lt_of_le (own_lt ho56 _ e).2 hge67)
 refine dsr (wn rfl) (hA69.ev rfl) (hA69.ev rfl) row52 m68 rfl rfl ?_
 intro w83 hU84 (m85 : Blk w83 g57 #[.int .i64 0, .int .i64 ((path.length : Nat) : Int), .int .i64 ((p : Nat) : Int), .int .i64 7, .int .i64 0, .int .i64 0, .bool false, .bool false, .int .i64 0, .int .i64 0, .bool i.acq, .bool i.weak, .bool i.rel, .int .i64 i.pred, .int .i64 i.succ] 52)
 have m86 := m71.upd hU84 n78
 have m87 := m72.upd hU84 n79
 have m88 := m73.upd hU84 n80
 have b89 := hU84.below b74 ge77
 have ho90 := own_upd ho75 hU84 off81
 have ho91 := own_upd ho76 hU84 off82
 refine tn_ ?_
 refine wp_seq ?_
 refine wp_seq ?_
 refine wp_region_lit ?_
 refine qs hA69 rfl (dlr (cs := (insC ⟨7, i.dst, i.a, i.b, i.imm, i.loc, i.off, i.index, i.size, i.fn, i.acq, i.weak, i.rel, i.pred, i.succ, i.to, i.zero⟩)) (wn rfl) (hA69.ev rfl) row23 m88 ?_)
 intro a92 hA93
 refine qs hA93 rfl (dcl (wn rfl) ent32 (map1 (hA93.ev rfl)) (memory_any (⟨7, i.dst, i.a, i.b, i.imm, i.loc, i.off, i.index, i.size, i.fn, i.acq, i.weak, i.rel, i.pred, i.succ, i.to, i.zero⟩) w83) ?_)
 rintro e97 w94 ⟨he96, hG95⟩
 have m98 := m86.grow hG95
 have m99 := m87.grow hG95
 have m100 := m88.grow hG95
 have m101 := m85.grow hG95
 have b102 := blg b89 hG95 (Nat.le_trans hB b89.size)
 have ho103 := owg hG95 ho90
 have ho104 := owg hG95 ho91
 refine ⟨(.bool false), he96, ?_⟩
 intro a105 hA106
 refine qe_ ?_
 refine tn_ ?_
 refine c_false hA106 rfl ?_
 refine wp_skip ?_
 refine tn_ ?_
 refine wp_seq ?_
 refine wp_seq ?_
 refine wp_region_lit ?_
 refine qs hA106 rfl (dfa (wn rfl) (hA106.ev rfl) fo52_5 ?_)
 intro a107 hA108
 refine qs hA108 rfl (dld (v := (.bool false)) (wn rfl) (hA108.ev rfl) one4 (m101.cell rfl) ?_)
 intro a109 hA110
 refine qe_ ?_
 refine tn_ ?_
 refine c_false hA110 rfl ?_
 refine wp_skip ?_
 refine tn_ ?_
 refine wp_seq ?_
 refine wp_seq ?_
 refine wp_region_lit ?_
 refine qs hA110 rfl (dfa (wn rfl) (hA110.ev rfl) fo23_0 ?_)
 intro a111 hA112
 refine qs hA112 rfl (dld (v := (.int .i64 7)) (wn rfl) (hA112.ev rfl) one3 (m100.cell rfl) ?_)
 intro a113 hA114
 refine qs hA114 rfl (dbn (wn rfl) (hA114.ev rfl) (hA114.ev rfl) (b_eq _ _ 7 5 false _ rfl) ?_)
 intro a115 hA116
 refine qe_ ?_
 refine tn_ ?_
 refine c_false hA116 rfl ?_
 refine wp_skip ?_
 refine tn_ ?_
 refine wp_seq ?_
 refine wp_seq ?_
 refine wp_region_lit ?_
 refine qs hA116 rfl (dfa (wn rfl) (hA116.ev rfl) fo23_0 ?_)
 intro a117 hA118
 refine qs hA118 rfl (dld (v := (.int .i64 7)) (wn rfl) (hA118.ev rfl) one3 (m100.cell rfl) ?_)
 intro a119 hA120
 refine qs hA120 rfl (dbn (wn rfl) (hA120.ev rfl) (hA120.ev rfl) (b_eq _ _ 7 6 false _ rfl) ?_)
 intro a121 hA122
 refine qe_ ?_
 refine tn_ ?_
 refine c_false hA122 rfl ?_
 refine wp_skip ?_
 refine tn_ ?_
 refine wp_seq ?_
 refine wp_seq ?_
 refine wp_region_lit ?_
 refine qs hA122 rfl (dfa (wn rfl) (hA122.ev rfl) fo52_5 ?_)
 intro a123 hA124
 refine qs hA124 rfl (dld (v := (.bool false)) (wn rfl) (hA124.ev rfl) one4 (m101.cell rfl) ?_)
 intro a125 hA126
 refine qe_ ?_
 refine tn_ ?_
 refine c_false hA126 rfl ?_
 refine wp_skip ?_
 refine tn_ ?_
 refine wp_seq ?_
 have hA127 : St 111 [(0, (.pointer (some ⟨g, 0, none⟩))), (4, (.pointer (some ⟨g3, 0, none⟩))), (6, (.pointer (some ⟨g57, 0, none⟩)))] a125 := hA126.sub rfl
 let M128 : Nat → Option (Array Value) := fun _ => none
 have hM128 : M128 = fun _ => none := rfl
 clear_value M128
 have hM128A : ∀ k, M128 k = none := fun k => congrFun hM128 k
 have hM128B : ∀ k, k < Bd → M128 k = none := fun k _ => hM128A k
 refine drawnL (S := SM M128) rfl (tabQ [some (.pointer (some ⟨g, 0, none⟩)), some (.pointer (some ⟨g, 0, none⟩)), some (.pointer (some ⟨g, 0, none⟩)), some (.pointer (some ⟨g, 10, none⟩)), none, some (.pointer (some ⟨g, 0, none⟩)), some (.pointer (some ⟨g, 0, none⟩)), some (.pointer (some ⟨g, 9, none⟩)), none, none, none, some (.pointer (some ⟨g, 0, none⟩)), some (.pointer (some ⟨g, 10, none⟩))] [cv (.pointer (some ⟨g, 0, none⟩)), cv (.pointer (some ⟨g, 0, none⟩)), cv (.pointer (some ⟨g, 0, none⟩)), cv (.pointer (some ⟨g, 10, none⟩)), cv pa, cv (.pointer (some ⟨g, 0, none⟩)), cv (.pointer (some ⟨g, 0, none⟩)), cv (.pointer (some ⟨g, 9, none⟩)), cv (.int .i64 ((p : Nat) : Int)), cs1 M128 hM128A #[.int .i64 ((p : Nat) : Int)] 3, cfree, cv (.pointer (some ⟨g, 0, none⟩)), cv (.pointer (some ⟨g, 10, none⟩))]) (some 10) (fun i => (([some (.pointer (some ⟨g, 0, none⟩)), some (.pointer (some ⟨g, 0, none⟩)), some (.pointer (some ⟨g, 0, none⟩)), some (.pointer (some ⟨g, 10, none⟩)), none, some (.pointer (some ⟨g, 0, none⟩)), some (.pointer (some ⟨g, 0, none⟩)), some (.pointer (some ⟨g, 9, none⟩)), none, none, none, some (.pointer (some ⟨g, 0, none⟩)), some (.pointer (some ⟨g, 10, none⟩))] : List (Option Value))[i]?).getD none) (fun v' w' => w'.ownsRow Bd 3 1 v' (path.length + 1) ((paE path) ++ (#[.int .i64 ((p : Nat) : Int)] : Array Value).toList) ∧ Below Bd w w' ∧ Blk w' g (thrC cd r ((p : Nat) : Int) pa) 65 ∧ Blk w' g3 #[.int .i64 0, .int .i64 0, .int .i64 0, .int .i64 0, .int .i64 0, .int .i64 0, .bool false, .bool false, .int .i64 0, .int .i64 0, .bool false, .bool false, .bool false, .int .i64 0, .int .i64 0] 52 ∧ Blk w' g23 (insC ⟨7, i.dst, i.a, i.b, i.imm, i.loc, i.off, i.index, i.size, i.fn, i.acq, i.weak, i.rel, i.pred, i.succ, i.to, i.zero⟩) 23 ∧ Blk w' g57 #[.int .i64 0, .int .i64 ((path.length : Nat) : Int), .int .i64 ((p : Nat) : Int), .int .i64 7, .int .i64 0, .int .i64 0, .bool false, .bool false, .int .i64 0, .int .i64 0, .bool i.acq, .bool i.weak, .bool i.rel, .int .i64 i.pred, .int .i64 i.succ] 52 ∧ w'.ownsRow Bd 52 15 ev ne xe ∧ v'.ownBlock ≠ some g ∧ v'.ownBlock ≠ some g3 ∧ v'.ownBlock ≠ some g23 ∧ v'.ownBlock ≠ some g57 ∧ ∀ k, ev.ownBlock = some k → v'.ownBlock ≠ some k) [12, 10, 0, 1, 2, 3, 4, 5, 6, 7, 8, 9, 11] [4, 9, 3, 8, 2, 7, 1, 6, 5] mixedY SM.refl SM.trans hA127 (by kernel_rfl) (by kernel_rfl) (tabQ_cv _ _) ?_ ?_
 ·skip
  refine ed_ (.inr (.inl ⟨by decide, _, rfl, fun x y hT hk hk0 => dmv (wn rfl) (hT.ev rfl) ⟨rfl, rfl⟩⟩)) ?_
  refine ed_ (.inr (.inl ⟨by decide, _, rfl, fun x y hT hk hk0 => dmv (wn rfl) (hT.ev rfl) ⟨rfl, rfl⟩⟩)) ?_
  refine ed_ (.inr (.inl ⟨by decide, _, rfl, fun x y hT hk hk0 => dnc (wn rfl) (hk 1 _ rfl rfl) ⟨rfl, rfl⟩⟩)) ?_
  refine ed_ (.inr (.inl ⟨by decide, _, rfl, fun x y hT hk hk0 => dfa (wn rfl) (hk 2 _ rfl rfl) fo65_3 ⟨rfl, rfl⟩⟩)) ?_
  refine ed_ (.inl ⟨by decide, rfl, fun x y hS hT hk => dld (v := pa) (wn rfl) (hk 3 rfl) one30 ((Blk.sm (w := w94.drew) m98 hS (hM128A _)).cell rfl) ⟨SM.refl _, rfl⟩⟩) ?_
  refine ed_ (.inr (.inl ⟨by decide, _, rfl, fun x y hT hk hk0 => dmv (wn rfl) (hT.ev rfl) ⟨rfl, rfl⟩⟩)) ?_
  refine ed_ (.inr (.inl ⟨by decide, _, rfl, fun x y hT hk hk0 => dnc (wn rfl) (hk 5 _ rfl rfl) ⟨rfl, rfl⟩⟩)) ?_
  refine ed_ (.inr (.inl ⟨by decide, _, rfl, fun x y hT hk hk0 => dfa (wn rfl) (hk 6 _ rfl rfl) fo65_2 ⟨rfl, rfl⟩⟩)) ?_
  refine ed_ (.inl ⟨by decide, rfl, fun x y hS hT hk => dld (v := (.int .i64 ((p : Nat) : Int))) (wn rfl) (hk 7 rfl) one3 ((Blk.sm (w := w94.drew) m98 hS (hM128A _)).cell rfl) ⟨SM.refl _, rfl⟩⟩) ?_
  refine ed_ (.inl ⟨by decide, rfl, fun x y hS hT hk => d_slice1 (wn rfl) (show x.eval _ = (.int .i64 ((p : Nat) : Int)) from (hk 8 rfl)) elm30 rfl (by decide) (fun g w' _ hG hb => ⟨SM.grow hG, g, rfl, hb⟩)⟩) ?_
  refine ed_ (.inr (.inr ⟨rfl, fun x y hS hT hk => ?_⟩)) ?_
  ·skip
   obtain ⟨gb, hvb, hbb⟩ := hk 9 rfl
   have hG : Grow w94 y := Grow.trans ((Grow.refl _).drew) (SM.grown (by rw [hM128] at hS; exact hS))
   have hR := owg hG ho104
   have hO := owg hG ho103
   have hBl := blg b102 hG (Nat.le_trans hB b102.size)
   refine d_append (wn rfl) (show x.eval _ = pa from (hk 4 rfl)) hvb elm30 hR hbb rfl rfl (by omega) (by decide) (Nat.le_trans hB hBl.size) ?_
   intro v' w' h1 h2 h3
   exact ⟨h1, below_by hBl h2 (Nat.le_trans hB hBl.size) (fun k hk => (own_lt hR k hk).1), (m98.grow hG).by h2 op_, (m99.grow hG).by h2 off11, (m100.grow hG).by h2 off47, (m101.grow hG).by h2 off82, own_by hO h2 ap2, lies_ne h3 op_ (m98.grow hG).lt, lies_ne h3 off11 (m99.grow hG).lt, lies_ne h3 off47 (m100.grow hG).lt, lies_ne h3 off82 (m101.grow hG).lt, lies_ap h3 ap2 hO⟩
  refine ed_ (.inr (.inl ⟨by decide, _, rfl, fun x y hT hk hk0 => dnc (wn rfl) (hk 0 _ rfl rfl) ⟨rfl, rfl⟩⟩)) ?_
  refine ed_ (.inr (.inl ⟨by decide, _, rfl, fun x y hT hk hk0 => dfa (wn rfl) (hk 11 _ rfl rfl) fo65_3 ⟨rfl, rfl⟩⟩)) ?_
  exact eachD_one
 rintro a129 w130 hA131 ⟨hP133, hW134⟩
 obtain ⟨v135, hv136⟩ : ∃ v', v' = (a129.tmps.getD 100 undef) := ⟨_, rfl⟩
 have hW137 : (fun v' w' => w'.ownsRow Bd 3 1 v' (path.length + 1) ((paE path) ++ (#[.int .i64 ((p : Nat) : Int)] : Array Value).toList) ∧ Below Bd w w' ∧ Blk w' g (thrC cd r ((p : Nat) : Int) pa) 65 ∧ Blk w' g3 #[.int .i64 0, .int .i64 0, .int .i64 0, .int .i64 0, .int .i64 0, .int .i64 0, .bool false, .bool false, .int .i64 0, .int .i64 0, .bool false, .bool false, .bool false, .int .i64 0, .int .i64 0] 52 ∧ Blk w' g23 (insC ⟨7, i.dst, i.a, i.b, i.imm, i.loc, i.off, i.index, i.size, i.fn, i.acq, i.weak, i.rel, i.pred, i.succ, i.to, i.zero⟩) 23 ∧ Blk w' g57 #[.int .i64 0, .int .i64 ((path.length : Nat) : Int), .int .i64 ((p : Nat) : Int), .int .i64 7, .int .i64 0, .int .i64 0, .bool false, .bool false, .int .i64 0, .int .i64 0, .bool i.acq, .bool i.weak, .bool i.rel, .int .i64 i.pred, .int .i64 i.succ] 52 ∧ w'.ownsRow Bd 52 15 ev ne xe ∧ v'.ownBlock ≠ some g ∧ v'.ownBlock ≠ some g3 ∧ v'.ownBlock ≠ some g23 ∧ v'.ownBlock ≠ some g57 ∧ ∀ k, ev.ownBlock = some k → v'.ownBlock ≠ some k) v135 w130 := by rw [hv136]; exact hW134
 obtain ⟨ho138, b139, m140, m141, m142, m143, ho144, off145, off146, off147, off148, ap149⟩ := hW137
 have ap150 : ∀ k, v135.ownBlock = some k → ev.ownBlock ≠ some k := fun k h1 h2 => ap149 k h2 h1
 have hA151 : St 111 [(0, (.pointer (some ⟨g, 0, none⟩))), (4, (.pointer (some ⟨g3, 0, none⟩))), (6, (.pointer (some ⟨g57, 0, none⟩))), (100, v135), (102, (.pointer (some ⟨g, 10, none⟩)))] a129 := hA131.cut _ (fc (hA131.get 0 _ rfl) (fc (hA131.get 4 _ rfl) (fc (hA131.get 6 _ rfl) (fc hv136.symm (fc (hP133 12 _ (Nat.le_of_ble_eq_true rfl) (by decide) rfl) fn_)))))
 refine dst_ (v := v135) (wn rfl) (hA151.ev rfl) (hA151.ev rfl) one30 (one_slice (own_form ho138)) m140 (Nat.le_of_ble_eq_true rfl) ?_
 intro w152 hU153 (m154 : Blk w152 g (thrC cd r ((p : Nat) : Int) v135) 65)
 have m155 := m141.upd hU153 (Ne.symm n9)
 have m156 := m142.upd hU153 (Ne.symm n44)
 have m157 := m143.upd hU153 (Ne.symm n78)
 have b158 := hU153.below b139 hge
 have ho159 := own_upd ho144 hU153 oe
 have ho160 := own_upd ho138 hU153 off145
 refine tn_ ?_
 refine wp_seq ?_
 refine wp_region_lit ?_
 refine qs hA151 rfl (dmv (wn rfl) (hA151.ev rfl) ?_)
 intro a161 hA162
 refine qs hA162 rfl (dnc (wn rfl) (hA162.ev rfl) ?_)
 intro a163 hA164
 refine qs hA164 rfl (dfa (wn rfl) (hA164.ev rfl) fo65_2 ?_)
 intro a165 hA166
 refine qs hA166 rfl (dld (v := (.int .i64 ((p : Nat) : Int))) (wn rfl) (hA166.ev rfl) one3 (m154.cell rfl) ?_)
 intro a167 hA168
 refine qs hA168 rfl (dbn (wn rfl) (hA168.ev rfl) (hA168.ev rfl) (b_add _ _ ((p : Nat) : Int) 1 _ (by omega) (by omega)) ?_)
 intro a169 hA170
 refine qs hA170 rfl (dnc (wn rfl) (hA170.ev rfl) ?_)
 intro a171 hA172
 refine qs hA172 rfl (dfa (wn rfl) (hA172.ev rfl) fo65_2 ?_)
 intro a173 hA174
 refine qs hA174 rfl (dst_ (v := (.int .i64 (((p : Nat) : Int) + 1))) (wn rfl) (hA174.ev rfl) (hA174.ev rfl) one3 rfl m154 (Nat.le_of_ble_eq_true rfl) ?_)
 intro w175 hU176 (m177 : Blk w175 g (thrC cd r (((p : Nat) : Int) + 1) v135) 65)
 have m178 := m155.upd hU176 (Ne.symm n9)
 have m179 := m156.upd hU176 (Ne.symm n44)
 have m180 := m157.upd hU176 (Ne.symm n78)
 have b181 := hU176.below b158 hge
 have ho182 := own_upd ho159 hU176 oe
 have ho183 := own_upd ho160 hU176 off145
 intro a184 hA185
 refine qe_ ?_
 refine tn_ ?_
 refine wp_seq ?_
 refine wp_region_lit ?_
 refine qs hA185 rfl (dlr (cs := #[.int .i64 0, .int .i64 ((path.length : Nat) : Int), .int .i64 ((p : Nat) : Int), .int .i64 7, .int .i64 0, .int .i64 0, .bool false, .bool false, .int .i64 0, .int .i64 0, .bool i.acq, .bool i.weak, .bool i.rel, .int .i64 i.pred, .int .i64 i.succ]) (wn rfl) (hA185.ev rfl) row52 m180 ?_)
 intro a186 hA187
 refine qs hA187 rfl (dsr (wn rfl) (hA187.ev rfl) (hA187.ev rfl) row52 m178 rfl rfl ?_)
 intro w188 hU189 (m190 : Blk w188 g3 #[.int .i64 0, .int .i64 ((path.length : Nat) : Int), .int .i64 ((p : Nat) : Int), .int .i64 7, .int .i64 0, .int .i64 0, .bool false, .bool false, .int .i64 0, .int .i64 0, .bool i.acq, .bool i.weak, .bool i.rel, .int .i64 i.pred, .int .i64 i.succ] 52)
 have m191 := m177.upd hU189 n9
 have m192 := m179.upd hU189 (Ne.symm n45)
 have m193 := m180.upd hU189 (Ne.symm n79)
 have b194 := hU189.below b181 ge8
 have ho195 := own_upd ho182 hU189 off10
 have ho196 := own_upd ho183 hU189 off146
 intro a197 hA198
 refine qe_ ?_
 refine tn_ ?_
 refine wp_ret ?_
 refine retRow (g := g3) (cs := #[.int .i64 0, .int .i64 ((path.length : Nat) : Int), .int .i64 ((p : Nat) : Int), .int .i64 7, .int .i64 0, .int .i64 0, .bool false, .bool false, .int .i64 0, .int .i64 0, .bool i.acq, .bool i.weak, .bool i.rel, .int .i64 i.pred, .int .i64 i.succ]) rfl hA198 rfl m190 row52 ?_
 exact ⟨rfl, b194, ho195, v135, m191, hge, (hcd.below b194), (by rw [List.length_append, ← paE_snoc]; exact ho196), off145⟩
end Go.Proofs.Ytlhompedcphnnaa
/- A step of the reference's thread. -/
namespace Go.Proofs.Ytlhompedcphnnaa
open Go.RowKit
set_option linter.unusedSimpArgs false
set_option linter.unusedVariables false

set_option maxHeartbeats 4000000 in
set_option maxRecDepth 4000 in
theorem rstep_8 (Bd g p ne : Nat) (r : Nat → Int) (cd pa ev : Value) (xe : List Value) (code : List Ins) (i : Ins) (u : Int) (path : List Int) (w : World) (hB : Bd ≤ w.heap.size) (hT : TS Bd g w cd code ((p : Nat) : Int) r path pa) (hev : w.ownsRow Bd 52 15 ev ne xe) (hnp : path.length ≤ 1000) (hr : ∀ k, wfI (r k)) (hp2 : p ≤ 1000) (hy : code[p]? = some ⟨8, i.dst, i.a, i.b, i.imm, i.loc, i.off, i.index, i.size, i.fn, i.acq, i.weak, i.rel, i.pred, i.succ, i.to, i.zero⟩) : Calls Try.prog 38 #[.pointer (some ⟨g, 0, none⟩), .int .i64 u] w fun e w' => e = .returned (.agg (evC (ev0 { i with op := 8 } path.length p))) ∧ Below Bd w w' ∧ w'.ownsRow Bd 52 15 ev ne xe ∧ ∃ pa', TS Bd g w' cd code (((p : Nat) : Int) + 1) r (path ++ [((p : Nat) : Int)]) pa' := by
 obtain ⟨hb, hge, hcd, hpa, op_⟩ := hT
 have oe := own_apart hev hb (by decide)
 have ap := rows_apart hpa hev (by decide)
 have ap2 : ∀ k, ev.ownBlock = some k → pa.ownBlock ≠ some k := fun k h1 h2 => ap k h2 h1
 have b0 : Below Bd w w := Below.refl _ _
 refine enter (n := 111) Try.func38 rfl rfl (Nat.le_of_ble_eq_true rfl) ?_
 intro a1 hA2
 refine wp_seq ?_
 refine wp_region_lit ?_
 refine qs hA2 rfl (dal (wn rfl) zero52 ?_)
 intro g3 w4 eg5 hG6 (m7 : Blk w4 g3 #[.int .i64 0, .int .i64 0, .int .i64 0, .int .i64 0, .int .i64 0, .int .i64 0, .bool false, .bool false, .int .i64 0, .int .i64 0, .bool false, .bool false, .bool false, .int .i64 0, .int .i64 0] 52)
 have ge8 : Bd ≤ g3 := eg5 ▸ (Nat.le_trans hB b0.size)
 have n9 : g ≠ g3 := fun h => Nat.lt_irrefl _ ((h.trans eg5) ▸ hb.lt)
 have off10 := own_new hev eg5
 have off11 := own_new hpa eg5
 have m12 := hb.grow hG6
 have b13 := blg b0 hG6 (Nat.le_trans hB b0.size)
 have ho14 := owg hG6 hev
 have ho15 := owg hG6 hpa
 intro a16 hA17
 refine qe_ ?_
 refine tn_ ?_
 refine wp_seq ?_
 obtain ⟨b18, o19, lt20, hr21, hix22⟩ := (hcd.below b13).at hy
 have hA24 : St 111 [(0, (.pointer (some ⟨g, 0, none⟩))), (1, (.int .i64 u)), (4, (.pointer (some ⟨g3, 0, none⟩)))] a16 := hA17.sub rfl
 let M25 : Nat → Option (Array Value) := fun _ => none
 have hM25 : M25 = fun _ => none := rfl
 clear_value M25
 have hM25A : ∀ k, M25 k = none := fun k => congrFun hM25 k
 have hM25B : ∀ k, k < Bd → M25 k = none := fun k _ => hM25A k
 refine drawnL (S := SM M25) rfl (tabL [cv (.pointer (some ⟨g, 0, none⟩)), cv (.pointer (some ⟨g, 0, none⟩)), cv (.pointer (some ⟨g, 0, none⟩)), cv cd, cv (.pointer (some ⟨g, 0, none⟩)), cv (.pointer (some ⟨g, 0, none⟩)), cv (.pointer (some ⟨g, 9, none⟩)), cv (.int .i64 ((p : Nat) : Int)), cv (.pointer (some ⟨b18, o19, none⟩)), cv (.agg (insC ⟨8, i.dst, i.a, i.b, i.imm, i.loc, i.off, i.index, i.size, i.fn, i.acq, i.weak, i.rel, i.pred, i.succ, i.to, i.zero⟩)), cBlk M25 hM25A w4.heap.size #[.int .i64 0, .int .i64 0, .int .i64 0, .int .i64 0, .int .i64 0, .int .i64 0, .int .i64 0, .int .i64 0, .int .i64 0, .int .i64 0, .bool false, .bool false, .bool false, .int .i64 0, .int .i64 0, .int .i64 0, .bool false] 23]) none (fun _ => none) (fun _ _ => True) [10, 9, 0, 1, 2, 3, 4, 5, 6, 7, 8] [] mixedY SM.refl SM.trans hA24 (by kernel_rfl) (by kernel_rfl) (fun i v u w h => by cases h) ?_ ?_
 ·skip
  refine ed_ (.inl ⟨nofun, rfl, fun x y hS hT hk => dmv (wn rfl) (hT.ev rfl) ⟨SM.refl _, rfl⟩⟩) ?_
  refine ed_ (.inl ⟨nofun, rfl, fun x y hS hT hk => dnc (wn rfl) (hk 0 rfl) ⟨SM.refl _, rfl⟩⟩) ?_
  refine ed_ (.inl ⟨nofun, rfl, fun x y hS hT hk => dfa (wn rfl) (hk 1 rfl) fo65_0 ⟨SM.refl _, rfl⟩⟩) ?_
  refine ed_ (.inl ⟨nofun, rfl, fun x y hS hT hk => dld (v := cd) (wn rfl) (hk 2 rfl) one35 ((Blk.sm (w := w4.drew) m12 hS (hM25A _)).cell rfl) ⟨SM.refl _, rfl⟩⟩) ?_
  refine ed_ (.inl ⟨nofun, rfl, fun x y hS hT hk => dmv (wn rfl) (hT.ev rfl) ⟨SM.refl _, rfl⟩⟩) ?_
  refine ed_ (.inl ⟨nofun, rfl, fun x y hS hT hk => dnc (wn rfl) (hk 4 rfl) ⟨SM.refl _, rfl⟩⟩) ?_
  refine ed_ (.inl ⟨nofun, rfl, fun x y hS hT hk => dfa (wn rfl) (hk 5 rfl) fo65_2 ⟨SM.refl _, rfl⟩⟩) ?_
  refine ed_ (.inl ⟨nofun, rfl, fun x y hS hT hk => dld (v := (.int .i64 ((p : Nat) : Int))) (wn rfl) (hk 6 rfl) one3 ((Blk.sm (w := w4.drew) m12 hS (hM25A _)).cell rfl) ⟨SM.refl _, rfl⟩⟩) ?_
  refine ed_ (.inl ⟨nofun, rfl, fun x y hS hT hk => dia (j := p) (wn rfl) (hk 3 rfl) (hk 7 rfl) slc35 hix22 (get_lt hy) ⟨SM.refl _, rfl⟩⟩) ?_
  refine ed_ (.inl ⟨nofun, rfl, fun x y hS hT hk => dlm (cs := (insC ⟨8, i.dst, i.a, i.b, i.imm, i.loc, i.off, i.index, i.size, i.fn, i.acq, i.weak, i.rel, i.pred, i.succ, i.to, i.zero⟩)) (wn rfl) (hk 8 rfl) row23 (range_sm (w := w4.drew) hr21 hS (Nat.lt_of_lt_of_le lt20 (Nat.le_trans hB b13.size)) (hM25B _ lt20)) ⟨SM.refl _, rfl⟩⟩) ?_
  refine ed_ (.inl ⟨nofun, rfl, fun x y hS hT hk => dal (wn rfl) zero23 (fun g w' eg hG hb => ⟨SM.grow hG, g, rfl, eg ▸ hS.size, hb⟩)⟩) ?_
  exact eachD_one
 rintro a26 w27 hA28 ⟨hS30, hC31⟩
 obtain ⟨g23, hg32, hge33, m34⟩ := hC31 10 (Nat.le_of_ble_eq_true rfl)
 have hA35 : St 111 [(0, (.pointer (some ⟨g, 0, none⟩))), (1, (.int .i64 u)), (4, (.pointer (some ⟨g3, 0, none⟩))), (5, (.pointer (some ⟨g23, 0, none⟩))), (16, (.agg (insC ⟨8, i.dst, i.a, i.b, i.imm, i.loc, i.off, i.index, i.size, i.fn, i.acq, i.weak, i.rel, i.pred, i.succ, i.to, i.zero⟩)))] a26 := hA28.cut _ (fc (hA28.get 0 _ rfl) (fc (hA28.get 1 _ rfl) (fc (hA28.get 4 _ rfl) (fc hg32 (fc (hC31 9 (Nat.le_of_ble_eq_true rfl)) fn_)))))
 have hG36 : Grow w4 w27 := Grow.trans ((Grow.refl _).drew) (SM.grown (by rw [hM25] at hS30; exact hS30))
 have m37 := m12.grow hG36
 have m38 := m7.grow hG36
 have hr39 := range_below hr21 hG36 (Nat.lt_of_lt_of_le lt20 (Nat.le_trans hB b13.size))
 have b40 := blg b13 hG36 (Nat.le_trans hB b13.size)
 have ho41 := owg hG36 ho14
 have ho42 := owg hG36 ho15
 have ge43 : Bd ≤ g23 := Nat.le_trans (Nat.le_trans hB b13.size) hge33
 have n44 : g ≠ g23 := Nat.ne_of_lt (Nat.lt_of_lt_of_le m12.lt hge33)
 have n45 : g3 ≠ g23 := Nat.ne_of_lt (Nat.lt_of_lt_of_le m7.lt hge33)
 have off46 : ev.ownBlock ≠ some g23 := fun e => Nat.lt_irrefl _ (Nat.lt_of_lt_of_le (own_lt ho14 _ e).2 hge33)
 have off47 : pa.ownBlock ≠ some g23 := fun e => Nat.lt_irrefl _ (Nat.lt_of_lt_of_le (own_lt ho15 _ e).2 hge33)
 refine dsr (wn rfl) (hA35.ev rfl) (hA35.ev rfl) row23 m34 rfl rfl ?_
 intro w48 hU49 (m50 : Blk w48 g23 (insC ⟨8, i.dst, i.a, i.b, i.imm, i.loc, i.off, i.index, i.size, i.fn, i.acq, i.weak, i.rel, i.pred, i.succ, i.to, i.zero⟩) 23)
 have m51 := m37.upd hU49 n44
 have m52 := m38.upd hU49 n45
 have hr53 := range_upd hr39 hU49 (Nat.ne_of_lt (Nat.lt_of_lt_of_le lt20 ge43))
 have b54 := hU49.below b40 ge43
 have ho55 := own_upd ho41 hU49 off46
 have ho56 := own_upd ho42 hU49 off47
 refine tn_ ?_
 refine wp_seq ?_
 have hA58 : St 111 [(0, (.pointer (some ⟨g, 0, none⟩))), (1, (.int .i64 u)), (4, (.pointer (some ⟨g3, 0, none⟩))), (5, (.pointer (some ⟨g23, 0, none⟩)))] a26 := hA35.sub rfl
 let M59 : Nat → Option (Array Value) := fun _ => none
 have hM59 : M59 = fun _ => none := rfl
 clear_value M59
 have hM59A : ∀ k, M59 k = none := fun k => congrFun hM59 k
 have hM59B : ∀ k, k < Bd → M59 k = none := fun k _ => hM59A k
 refine drawnL (S := SM M59) rfl (tabL [cv (.pointer (some ⟨g, 0, none⟩)), cv (.pointer (some ⟨g, 0, none⟩)), cv (.pointer (some ⟨g, 10, none⟩)), cv pa, cv (.int .i64 ((path.length : Nat) : Int)), cv (.pointer (some ⟨g, 0, none⟩)), cv (.pointer (some ⟨g, 0, none⟩)), cv (.pointer (some ⟨g, 9, none⟩)), cv (.int .i64 ((p : Nat) : Int)), cv (.pointer (some ⟨g23, 0, none⟩)), cv (.int .i64 8), cv (.pointer (some ⟨g23, 10, none⟩)), cv (.bool i.acq), cv (.pointer (some ⟨g23, 11, none⟩)), cv (.bool i.weak), cv (.pointer (some ⟨g23, 12, none⟩)), cv (.bool i.rel), cv (.pointer (some ⟨g23, 13, none⟩)), cv (.int .i64 i.pred), cv (.pointer (some ⟨g23, 14, none⟩)), cv (.int .i64 i.succ), cv (.agg (insC ⟨8, i.dst, i.a, i.b, i.imm, i.loc, i.off, i.index, i.size, i.fn, i.acq, i.weak, i.rel, i.pred, i.succ, i.to, i.zero⟩)), cv (.bool false), cv (.agg (insC ⟨8, i.dst, i.a, i.b, i.imm, i.loc, i.off, i.index, i.size, i.fn, i.acq, i.weak, i.rel, i.pred, i.succ, i.to, i.zero⟩)), cv (.bool false), cv (.agg #[.int .i64 0, .int .i64 ((path.length : Nat) : Int), .int .i64 ((p : Nat) : Int), .int .i64 8, .int .i64 0, .int .i64 0, .bool false, .bool false, .int .i64 0, .int .i64 0, .bool i.acq, .bool i.weak, .bool i.rel, .int .i64 i.pred, .int .i64 i.succ]), cBlk M59 hM59A w48.heap.size #[.int .i64 0, .int .i64 0, .int .i64 0, .int .i64 0, .int .i64 0, .int .i64 0, .bool false, .bool false, .int .i64 0, .int .i64 0, .bool false, .bool false, .bool false, .int .i64 0, .int .i64 0] 52]) none (fun _ => none) (fun _ _ => True) [26, 25, 24, 0, 1, 2, 3, 4, 5, 6, 7, 8, 9, 10, 11, 12, 13, 14, 15, 16, 17, 18, 19, 20, 21, 22, 23] [] mixedY SM.refl SM.trans hA58 (by kernel_rfl) (by kernel_rfl) (fun i v u w h => by cases h) ?_ ?_
 ·skip
  refine ed_ (.inl ⟨nofun, rfl, fun x y hS hT hk => dmv (wn rfl) (hT.ev rfl) ⟨SM.refl _, rfl⟩⟩) ?_
  refine ed_ (.inl ⟨nofun, rfl, fun x y hS hT hk => dnc (wn rfl) (hk 0 rfl) ⟨SM.refl _, rfl⟩⟩) ?_
  refine ed_ (.inl ⟨nofun, rfl, fun x y hS hT hk => dfa (wn rfl) (hk 1 rfl) fo65_3 ⟨SM.refl _, rfl⟩⟩) ?_
  refine ed_ (.inl ⟨nofun, rfl, fun x y hS hT hk => dld (v := pa) (wn rfl) (hk 2 rfl) one30 ((Blk.sm (w := w48.drew) m51 hS (hM59A _)).cell rfl) ⟨SM.refl _, rfl⟩⟩) ?_
  refine ed_ (.inl ⟨nofun, rfl, fun x y hS hT hk => dle (n := path.length) (wn rfl) (hk 3 rfl) slc30 (own_form ho56) ⟨SM.refl _, rfl⟩⟩) ?_
  refine ed_ (.inl ⟨nofun, rfl, fun x y hS hT hk => dmv (wn rfl) (hT.ev rfl) ⟨SM.refl _, rfl⟩⟩) ?_
  refine ed_ (.inl ⟨nofun, rfl, fun x y hS hT hk => dnc (wn rfl) (hk 5 rfl) ⟨SM.refl _, rfl⟩⟩) ?_
  refine ed_ (.inl ⟨nofun, rfl, fun x y hS hT hk => dfa (wn rfl) (hk 6 rfl) fo65_2 ⟨SM.refl _, rfl⟩⟩) ?_
  refine ed_ (.inl ⟨nofun, rfl, fun x y hS hT hk => dld (v := (.int .i64 ((p : Nat) : Int))) (wn rfl) (hk 7 rfl) one3 ((Blk.sm (w := w48.drew) m51 hS (hM59A _)).cell rfl) ⟨SM.refl _, rfl⟩⟩) ?_
  refine ed_ (.inl ⟨nofun, rfl, fun x y hS hT hk => dfa (wn rfl) (hT.ev rfl) fo23_0 ⟨SM.refl _, rfl⟩⟩) ?_
  refine ed_ (.inl ⟨nofun, rfl, fun x y hS hT hk => dld (v := (.int .i64 8)) (wn rfl) (hk 9 rfl) one3 ((Blk.sm (w := w48.drew) m50 hS (hM59A _)).cell rfl) ⟨SM.refl _, rfl⟩⟩) ?_
  refine ed_ (.inl ⟨nofun, rfl, fun x y hS hT hk => dfa (wn rfl) (hT.ev rfl) fo23_10 ⟨SM.refl _, rfl⟩⟩) ?_
  refine ed_ (.inl ⟨nofun, rfl, fun x y hS hT hk => dld (v := (.bool i.acq)) (wn rfl) (hk 11 rfl) one4 ((Blk.sm (w := w48.drew) m50 hS (hM59A _)).cell rfl) ⟨SM.refl _, rfl⟩⟩) ?_
  refine ed_ (.inl ⟨nofun, rfl, fun x y hS hT hk => dfa (wn rfl) (hT.ev rfl) fo23_11 ⟨SM.refl _, rfl⟩⟩) ?_
  refine ed_ (.inl ⟨nofun, rfl, fun x y hS hT hk => dld (v := (.bool i.weak)) (wn rfl) (hk 13 rfl) one4 ((Blk.sm (w := w48.drew) m50 hS (hM59A _)).cell rfl) ⟨SM.refl _, rfl⟩⟩) ?_
  refine ed_ (.inl ⟨nofun, rfl, fun x y hS hT hk => dfa (wn rfl) (hT.ev rfl) fo23_12 ⟨SM.refl _, rfl⟩⟩) ?_
  refine ed_ (.inl ⟨nofun, rfl, fun x y hS hT hk => dld (v := (.bool i.rel)) (wn rfl) (hk 15 rfl) one4 ((Blk.sm (w := w48.drew) m50 hS (hM59A _)).cell rfl) ⟨SM.refl _, rfl⟩⟩) ?_
  refine ed_ (.inl ⟨nofun, rfl, fun x y hS hT hk => dfa (wn rfl) (hT.ev rfl) fo23_13 ⟨SM.refl _, rfl⟩⟩) ?_
  refine ed_ (.inl ⟨nofun, rfl, fun x y hS hT hk => dld (v := (.int .i64 i.pred)) (wn rfl) (hk 17 rfl) one3 ((Blk.sm (w := w48.drew) m50 hS (hM59A _)).cell rfl) ⟨SM.refl _, rfl⟩⟩) ?_
  refine ed_ (.inl ⟨nofun, rfl, fun x y hS hT hk => dfa (wn rfl) (hT.ev rfl) fo23_14 ⟨SM.refl _, rfl⟩⟩) ?_
  refine ed_ (.inl ⟨nofun, rfl, fun x y hS hT hk => dld (v := (.int .i64 i.succ)) (wn rfl) (hk 19 rfl) one3 ((Blk.sm (w := w48.drew) m50 hS (hM59A _)).cell rfl) ⟨SM.refl _, rfl⟩⟩) ?_
  refine ed_ (.inl ⟨nofun, rfl, fun x y hS hT hk => dlr (cs := (insC ⟨8, i.dst, i.a, i.b, i.imm, i.loc, i.off, i.index, i.size, i.fn, i.acq, i.weak, i.rel, i.pred, i.succ, i.to, i.zero⟩)) (wn rfl) (hT.ev rfl) row23 (Blk.sm (w := w48.drew) m50 hS (hM59A _)) ⟨SM.refl _, rfl⟩⟩) ?_
  refine ed_ (.inl ⟨nofun, rfl, fun x y hS hT hk => dcl (wn rfl) ent12 (map1 (show x.eval _ = (.agg (insC ⟨8, i.dst, i.a, i.b, i.imm, i.loc, i.off, i.index, i.size, i.fn, i.acq, i.weak, i.rel, i.pred, i.succ, i.to, i.zero⟩)) from (hk 21 rfl))) (rreads_any (⟨8, i.dst, i.a, i.b, i.imm, i.loc, i.off, i.index, i.size, i.fn, i.acq, i.weak, i.rel, i.pred, i.succ, i.to, i.zero⟩) y) (fun _ _ ⟨he, hG⟩ => ⟨(.bool false), he, SM.grow hG, rfl⟩)⟩) ?_
  refine ed_ (.inl ⟨nofun, rfl, fun x y hS hT hk => dlr (cs := (insC ⟨8, i.dst, i.a, i.b, i.imm, i.loc, i.off, i.index, i.size, i.fn, i.acq, i.weak, i.rel, i.pred, i.succ, i.to, i.zero⟩)) (wn rfl) (hT.ev rfl) row23 (Blk.sm (w := w48.drew) m50 hS (hM59A _)) ⟨SM.refl _, rfl⟩⟩) ?_
  refine ed_ (.inl ⟨nofun, rfl, fun x y hS hT hk => dcl (wn rfl) ent14 (map1 (show x.eval _ = (.agg (insC ⟨8, i.dst, i.a, i.b, i.imm, i.loc, i.off, i.index, i.size, i.fn, i.acq, i.weak, i.rel, i.pred, i.succ, i.to, i.zero⟩)) from (hk 23 rfl))) (rwrites_any (⟨8, i.dst, i.a, i.b, i.imm, i.loc, i.off, i.index, i.size, i.fn, i.acq, i.weak, i.rel, i.pred, i.succ, i.to, i.zero⟩) y) (fun _ _ ⟨he, hG⟩ => ⟨(.bool false), he, SM.grow hG, rfl⟩)⟩) ?_
  refine ed_ (.inl ⟨nofun, rfl, fun x y hS hT hk => dbd (cs := #[.int .i64 0, .int .i64 ((path.length : Nat) : Int), .int .i64 ((p : Nat) : Int), .int .i64 8, .int .i64 0, .int .i64 0, .bool false, .bool false, .int .i64 0, .int .i64 0, .bool i.acq, .bool i.weak, .bool i.rel, .int .i64 i.pred, .int .i64 i.succ]) (wn rfl) (bp_of (bq_cons (show x.eval _ = (.int .i64 ((path.length : Nat) : Int)) from (hk 4 rfl)) (bq_cons (show x.eval _ = (.int .i64 ((p : Nat) : Int)) from (hk 8 rfl)) (bq_cons (show x.eval _ = (.int .i64 8) from (hk 10 rfl)) (bq_cons (show x.eval _ = (.bool i.acq) from (hk 12 rfl)) (bq_cons (show x.eval _ = (.bool i.weak) from (hk 14 rfl)) (bq_cons (show x.eval _ = (.bool i.rel) from (hk 16 rfl)) (bq_cons (show x.eval _ = (.int .i64 i.pred) from (hk 18 rfl)) (bq_cons (show x.eval _ = (.int .i64 i.succ) from (hk 20 rfl)) (bq_cons (show x.eval _ = (.bool false) from (hk 22 rfl)) (bq_cons (show x.eval _ = (.bool false) from (hk 24 rfl)) bq_nil))))))))))) zero52 places52 (by kernel_rfl) ⟨SM.refl _, rfl⟩⟩) ?_
  refine ed_ (.inl ⟨nofun, rfl, fun x y hS hT hk => dal (wn rfl) zero52 (fun g w' eg hG hb => ⟨SM.grow hG, g, rfl, eg ▸ hS.size, hb⟩)⟩) ?_
  exact eachD_one
 rintro a60 w61 hA62 ⟨hS64, hC65⟩
 obtain ⟨g57, hg66, hge67, m68⟩ := hC65 26 (Nat.le_of_ble_eq_true rfl)
 have hA69 : St 111 [(0, (.pointer (some ⟨g, 0, none⟩))), (1, (.int .i64 u)), (4, (.pointer (some ⟨g3, 0, none⟩))), (5, (.pointer (some ⟨g23, 0, none⟩))), (6, (.pointer (some ⟨g57, 0, none⟩))), (42, (.agg #[.int .i64 0, .int .i64 ((path.length : Nat) : Int), .int .i64 ((p : Nat) : Int), .int .i64 8, .int .i64 0, .int .i64 0, .bool false, .bool false, .int .i64 0, .int .i64 0, .bool i.acq, .bool i.weak, .bool i.rel, .int .i64 i.pred, .int .i64 i.succ]))] a60 := hA62.cut _ (fc (hA62.get 0 _ rfl) (fc (hA62.get 1 _ rfl) (fc (hA62.get 4 _ rfl) (fc (hA62.get 5 _ rfl) (fc hg66 (fc (hC65 25 (Nat.le_of_ble_eq_true rfl)) fn_))))))
 have hG70 : Grow w48 w61 := Grow.trans ((Grow.refl _).drew) (SM.grown (by rw [hM59] at hS64; exact hS64))
 have m71 := m51.grow hG70
 have m72 := m52.grow hG70
 have m73 := m50.grow hG70
 have b74 := blg b54 hG70 (Nat.le_trans hB b54.size)
 have ho75 := owg hG70 ho55
 have ho76 := owg hG70 ho56
 have ge77 : Bd ≤ g57 := Nat.le_trans (Nat.le_trans hB b54.size) hge67
 have n78 : g ≠ g57 := Nat.ne_of_lt (Nat.lt_of_lt_of_le m51.lt hge67)
 have n79 : g3 ≠ g57 := Nat.ne_of_lt (Nat.lt_of_lt_of_le m52.lt hge67)
 have n80 : g23 ≠ g57 := Nat.ne_of_lt (Nat.lt_of_lt_of_le m50.lt hge67)
 have off81 : ev.ownBlock ≠ some g57 := fun e => Nat.lt_irrefl _ (Nat.lt_of_lt_of_le (own_lt ho55 _ e).2 hge67)
 have off82 : pa.ownBlock ≠ some g57 := fun e => Nat.lt_irrefl _ (Nat.lt_of_lt_of_le (own_lt ho56 _ e).2 hge67)
 refine dsr (wn rfl) (hA69.ev rfl) (hA69.ev rfl) row52 m68 rfl rfl ?_
 intro w83 hU84 (m85 : Blk w83 g57 #[.int .i64 0, .int .i64 ((path.length : Nat) : Int), .int .i64 ((p : Nat) : Int), .int .i64 8, .int .i64 0, .int .i64 0, .bool false, .bool false, .int .i64 0, .int .i64 0, .bool i.acq, .bool i.weak, .bool i.rel, .int .i64 i.pred, .int .i64 i.succ] 52)
 have m86 := m71.upd hU84 n78
 have m87 := m72.upd hU84 n79
 have m88 := m73.upd hU84 n80
 have b89 := hU84.below b74 ge77
 have ho90 := own_upd ho75 hU84 off81
 have ho91 := own_upd ho76 hU84 off82
 refine tn_ ?_
 refine wp_seq ?_
 refine wp_seq ?_
 refine wp_region_lit ?_
 refine qs hA69 rfl (dlr (cs := (insC ⟨8, i.dst, i.a, i.b, i.imm, i.loc, i.off, i.index, i.size, i.fn, i.acq, i.weak, i.rel, i.pred, i.succ, i.to, i.zero⟩)) (wn rfl) (hA69.ev rfl) row23 m88 ?_)
 intro a92 hA93
 refine qs hA93 rfl (dcl (wn rfl) ent32 (map1 (hA93.ev rfl)) (memory_any (⟨8, i.dst, i.a, i.b, i.imm, i.loc, i.off, i.index, i.size, i.fn, i.acq, i.weak, i.rel, i.pred, i.succ, i.to, i.zero⟩) w83) ?_)
 rintro e97 w94 ⟨he96, hG95⟩
 have m98 := m86.grow hG95
 have m99 := m87.grow hG95
 have m100 := m88.grow hG95
 have m101 := m85.grow hG95
 have b102 := blg b89 hG95 (Nat.le_trans hB b89.size)
 have ho103 := owg hG95 ho90
 have ho104 := owg hG95 ho91
 refine ⟨(.bool false), he96, ?_⟩
 intro a105 hA106
 refine qe_ ?_
 refine tn_ ?_
 refine c_false hA106 rfl ?_
 refine wp_skip ?_
 refine tn_ ?_
 refine wp_seq ?_
 refine wp_seq ?_
 refine wp_region_lit ?_
 refine qs hA106 rfl (dfa (wn rfl) (hA106.ev rfl) fo52_5 ?_)
 intro a107 hA108
 refine qs hA108 rfl (dld (v := (.bool false)) (wn rfl) (hA108.ev rfl) one4 (m101.cell rfl) ?_)
 intro a109 hA110
 refine qe_ ?_
 refine tn_ ?_
 refine c_false hA110 rfl ?_
 refine wp_skip ?_
 refine tn_ ?_
 refine wp_seq ?_
 refine wp_seq ?_
 refine wp_region_lit ?_
 refine qs hA110 rfl (dfa (wn rfl) (hA110.ev rfl) fo23_0 ?_)
 intro a111 hA112
 refine qs hA112 rfl (dld (v := (.int .i64 8)) (wn rfl) (hA112.ev rfl) one3 (m100.cell rfl) ?_)
 intro a113 hA114
 refine qs hA114 rfl (dbn (wn rfl) (hA114.ev rfl) (hA114.ev rfl) (b_eq _ _ 8 5 false _ rfl) ?_)
 intro a115 hA116
 refine qe_ ?_
 refine tn_ ?_
 refine c_false hA116 rfl ?_
 refine wp_skip ?_
 refine tn_ ?_
 refine wp_seq ?_
 refine wp_seq ?_
 refine wp_region_lit ?_
 refine qs hA116 rfl (dfa (wn rfl) (hA116.ev rfl) fo23_0 ?_)
 intro a117 hA118
 refine qs hA118 rfl (dld (v := (.int .i64 8)) (wn rfl) (hA118.ev rfl) one3 (m100.cell rfl) ?_)
 intro a119 hA120
 refine qs hA120 rfl (dbn (wn rfl) (hA120.ev rfl) (hA120.ev rfl) (b_eq _ _ 8 6 false _ rfl) ?_)
 intro a121 hA122
 refine qe_ ?_
 refine tn_ ?_
 refine c_false hA122 rfl ?_
 refine wp_skip ?_
 refine tn_ ?_
 refine wp_seq ?_
 refine wp_seq ?_
 refine wp_region_lit ?_
 refine qs hA122 rfl (dfa (wn rfl) (hA122.ev rfl) fo52_5 ?_)
 intro a123 hA124
 refine qs hA124 rfl (dld (v := (.bool false)) (wn rfl) (hA124.ev rfl) one4 (m101.cell rfl) ?_)
 intro a125 hA126
 refine qe_ ?_
 refine tn_ ?_
 refine c_false hA126 rfl ?_
 refine wp_skip ?_
 refine tn_ ?_
 refine wp_seq ?_
 have hA127 : St 111 [(0, (.pointer (some ⟨g, 0, none⟩))), (4, (.pointer (some ⟨g3, 0, none⟩))), (6, (.pointer (some ⟨g57, 0, none⟩)))] a125 := hA126.sub rfl
 let M128 : Nat → Option (Array Value) := fun _ => none
 have hM128 : M128 = fun _ => none := rfl
 clear_value M128
 have hM128A : ∀ k, M128 k = none := fun k => congrFun hM128 k
 have hM128B : ∀ k, k < Bd → M128 k = none := fun k _ => hM128A k
 refine drawnL (S := SM M128) rfl (tabQ [some (.pointer (some ⟨g, 0, none⟩)), some (.pointer (some ⟨g, 0, none⟩)), some (.pointer (some ⟨g, 0, none⟩)), some (.pointer (some ⟨g, 10, none⟩)), none, some (.pointer (some ⟨g, 0, none⟩)), some (.pointer (some ⟨g, 0, none⟩)), some (.pointer (some ⟨g, 9, none⟩)), none, none, none, some (.pointer (some ⟨g, 0, none⟩)), some (.pointer (some ⟨g, 10, none⟩))] [cv (.pointer (some ⟨g, 0, none⟩)), cv (.pointer (some ⟨g, 0, none⟩)), cv (.pointer (some ⟨g, 0, none⟩)), cv (.pointer (some ⟨g, 10, none⟩)), cv pa, cv (.pointer (some ⟨g, 0, none⟩)), cv (.pointer (some ⟨g, 0, none⟩)), cv (.pointer (some ⟨g, 9, none⟩)), cv (.int .i64 ((p : Nat) : Int)), cs1 M128 hM128A #[.int .i64 ((p : Nat) : Int)] 3, cfree, cv (.pointer (some ⟨g, 0, none⟩)), cv (.pointer (some ⟨g, 10, none⟩))]) (some 10) (fun i => (([some (.pointer (some ⟨g, 0, none⟩)), some (.pointer (some ⟨g, 0, none⟩)), some (.pointer (some ⟨g, 0, none⟩)), some (.pointer (some ⟨g, 10, none⟩)), none, some (.pointer (some ⟨g, 0, none⟩)), some (.pointer (some ⟨g, 0, none⟩)), some (.pointer (some ⟨g, 9, none⟩)), none, none, none, some (.pointer (some ⟨g, 0, none⟩)), some (.pointer (some ⟨g, 10, none⟩))] : List (Option Value))[i]?).getD none) (fun v' w' => w'.ownsRow Bd 3 1 v' (path.length + 1) ((paE path) ++ (#[.int .i64 ((p : Nat) : Int)] : Array Value).toList) ∧ Below Bd w w' ∧ Blk w' g (thrC cd r ((p : Nat) : Int) pa) 65 ∧ Blk w' g3 #[.int .i64 0, .int .i64 0, .int .i64 0, .int .i64 0, .int .i64 0, .int .i64 0, .bool false, .bool false, .int .i64 0, .int .i64 0, .bool false, .bool false, .bool false, .int .i64 0, .int .i64 0] 52 ∧ Blk w' g23 (insC ⟨8, i.dst, i.a, i.b, i.imm, i.loc, i.off, i.index, i.size, i.fn, i.acq, i.weak, i.rel, i.pred, i.succ, i.to, i.zero⟩) 23 ∧ Blk w' g57 #[.int .i64 0, .int .i64 ((path.length : Nat) : Int), .int .i64 ((p : Nat) : Int), .int .i64 8, .int .i64 0, .int .i64 0, .bool false, .bool false, .int .i64 0, .int .i64 0, .bool i.acq, .bool i.weak, .bool i.rel, .int .i64 i.pred, .int .i64 i.succ] 52 ∧ w'.ownsRow Bd 52 15 ev ne xe ∧ v'.ownBlock ≠ some g ∧ v'.ownBlock ≠ some g3 ∧ v'.ownBlock ≠ some g23 ∧ v'.ownBlock ≠ some g57 ∧ ∀ k, ev.ownBlock = some k → v'.ownBlock ≠ some k) [12, 10, 0, 1, 2, 3, 4, 5, 6, 7, 8, 9, 11] [4, 9, 3, 8, 2, 7, 1, 6, 5] mixedY SM.refl SM.trans hA127 (by kernel_rfl) (by kernel_rfl) (tabQ_cv _ _) ?_ ?_
 ·skip
  refine ed_ (.inr (.inl ⟨by decide, _, rfl, fun x y hT hk hk0 => dmv (wn rfl) (hT.ev rfl) ⟨rfl, rfl⟩⟩)) ?_
  refine ed_ (.inr (.inl ⟨by decide, _, rfl, fun x y hT hk hk0 => dmv (wn rfl) (hT.ev rfl) ⟨rfl, rfl⟩⟩)) ?_
  refine ed_ (.inr (.inl ⟨by decide, _, rfl, fun x y hT hk hk0 => dnc (wn rfl) (hk 1 _ rfl rfl) ⟨rfl, rfl⟩⟩)) ?_
  refine ed_ (.inr (.inl ⟨by decide, _, rfl, fun x y hT hk hk0 => dfa (wn rfl) (hk 2 _ rfl rfl) fo65_3 ⟨rfl, rfl⟩⟩)) ?_
  refine ed_ (.inl ⟨by decide, rfl, fun x y hS hT hk => dld (v := pa) (wn rfl) (hk 3 rfl) one30 ((Blk.sm (w := w94.drew) m98 hS (hM128A _)).cell rfl) ⟨SM.refl _, rfl⟩⟩) ?_
  refine ed_ (.inr (.inl ⟨by decide, _, rfl, fun x y hT hk hk0 => dmv (wn rfl) (hT.ev rfl) ⟨rfl, rfl⟩⟩)) ?_
  refine ed_ (.inr (.inl ⟨by decide, _, rfl, fun x y hT hk hk0 => dnc (wn rfl) (hk 5 _ rfl rfl) ⟨rfl, rfl⟩⟩)) ?_
  refine ed_ (.inr (.inl ⟨by decide, _, rfl, fun x y hT hk hk0 => dfa (wn rfl) (hk 6 _ rfl rfl) fo65_2 ⟨rfl, rfl⟩⟩)) ?_
  refine ed_ (.inl ⟨by decide, rfl, fun x y hS hT hk => dld (v := (.int .i64 ((p : Nat) : Int))) (wn rfl) (hk 7 rfl) one3 ((Blk.sm (w := w94.drew) m98 hS (hM128A _)).cell rfl) ⟨SM.refl _, rfl⟩⟩) ?_
  refine ed_ (.inl ⟨by decide, rfl, fun x y hS hT hk => d_slice1 (wn rfl) (show x.eval _ = (.int .i64 ((p : Nat) : Int)) from (hk 8 rfl)) elm30 rfl (by decide) (fun g w' _ hG hb => ⟨SM.grow hG, g, rfl, hb⟩)⟩) ?_
  refine ed_ (.inr (.inr ⟨rfl, fun x y hS hT hk => ?_⟩)) ?_
  ·skip
   obtain ⟨gb, hvb, hbb⟩ := hk 9 rfl
   have hG : Grow w94 y := Grow.trans ((Grow.refl _).drew) (SM.grown (by rw [hM128] at hS; exact hS))
   have hR := owg hG ho104
   have hO := owg hG ho103
   have hBl := blg b102 hG (Nat.le_trans hB b102.size)
   refine d_append (wn rfl) (show x.eval _ = pa from (hk 4 rfl)) hvb elm30 hR hbb rfl rfl (by omega) (by decide) (Nat.le_trans hB hBl.size) ?_
   intro v' w' h1 h2 h3
   exact ⟨h1, below_by hBl h2 (Nat.le_trans hB hBl.size) (fun k hk => (own_lt hR k hk).1), (m98.grow hG).by h2 op_, (m99.grow hG).by h2 off11, (m100.grow hG).by h2 off47, (m101.grow hG).by h2 off82, own_by hO h2 ap2, lies_ne h3 op_ (m98.grow hG).lt, lies_ne h3 off11 (m99.grow hG).lt, lies_ne h3 off47 (m100.grow hG).lt, lies_ne h3 off82 (m101.grow hG).lt, lies_ap h3 ap2 hO⟩
  refine ed_ (.inr (.inl ⟨by decide, _, rfl, fun x y hT hk hk0 => dnc (wn rfl) (hk 0 _ rfl rfl) ⟨rfl, rfl⟩⟩)) ?_
  refine ed_ (.inr (.inl ⟨by decide, _, rfl, fun x y hT hk hk0 => dfa (wn rfl) (hk 11 _ rfl rfl) fo65_3 ⟨rfl, rfl⟩⟩)) ?_
  exact eachD_one
 rintro a129 w130 hA131 ⟨hP133, hW134⟩
 obtain ⟨v135, hv136⟩ : ∃ v', v' = (a129.tmps.getD 100 undef) := ⟨_, rfl⟩
 have hW137 : (fun v' w' => w'.ownsRow Bd 3 1 v' (path.length + 1) ((paE path) ++ (#[.int .i64 ((p : Nat) : Int)] : Array Value).toList) ∧ Below Bd w w' ∧ Blk w' g (thrC cd r ((p : Nat) : Int) pa) 65 ∧ Blk w' g3 #[.int .i64 0, .int .i64 0, .int .i64 0, .int .i64 0, .int .i64 0, .int .i64 0, .bool false, .bool false, .int .i64 0, .int .i64 0, .bool false, .bool false, .bool false, .int .i64 0, .int .i64 0] 52 ∧ Blk w' g23 (insC ⟨8, i.dst, i.a, i.b, i.imm, i.loc, i.off, i.index, i.size, i.fn, i.acq, i.weak, i.rel, i.pred, i.succ, i.to, i.zero⟩) 23 ∧ Blk w' g57 #[.int .i64 0, .int .i64 ((path.length : Nat) : Int), .int .i64 ((p : Nat) : Int), .int .i64 8, .int .i64 0, .int .i64 0, .bool false, .bool false, .int .i64 0, .int .i64 0, .bool i.acq, .bool i.weak, .bool i.rel, .int .i64 i.pred, .int .i64 i.succ] 52 ∧ w'.ownsRow Bd 52 15 ev ne xe ∧ v'.ownBlock ≠ some g ∧ v'.ownBlock ≠ some g3 ∧ v'.ownBlock ≠ some g23 ∧ v'.ownBlock ≠ some g57 ∧ ∀ k, ev.ownBlock = some k → v'.ownBlock ≠ some k) v135 w130 := by rw [hv136]; exact hW134
 obtain ⟨ho138, b139, m140, m141, m142, m143, ho144, off145, off146, off147, off148, ap149⟩ := hW137
 have ap150 : ∀ k, v135.ownBlock = some k → ev.ownBlock ≠ some k := fun k h1 h2 => ap149 k h2 h1
 have hA151 : St 111 [(0, (.pointer (some ⟨g, 0, none⟩))), (4, (.pointer (some ⟨g3, 0, none⟩))), (6, (.pointer (some ⟨g57, 0, none⟩))), (100, v135), (102, (.pointer (some ⟨g, 10, none⟩)))] a129 := hA131.cut _ (fc (hA131.get 0 _ rfl) (fc (hA131.get 4 _ rfl) (fc (hA131.get 6 _ rfl) (fc hv136.symm (fc (hP133 12 _ (Nat.le_of_ble_eq_true rfl) (by decide) rfl) fn_)))))
 refine dst_ (v := v135) (wn rfl) (hA151.ev rfl) (hA151.ev rfl) one30 (one_slice (own_form ho138)) m140 (Nat.le_of_ble_eq_true rfl) ?_
 intro w152 hU153 (m154 : Blk w152 g (thrC cd r ((p : Nat) : Int) v135) 65)
 have m155 := m141.upd hU153 (Ne.symm n9)
 have m156 := m142.upd hU153 (Ne.symm n44)
 have m157 := m143.upd hU153 (Ne.symm n78)
 have b158 := hU153.below b139 hge
 have ho159 := own_upd ho144 hU153 oe
 have ho160 := own_upd ho138 hU153 off145
 refine tn_ ?_
 refine wp_seq ?_
 refine wp_region_lit ?_
 refine qs hA151 rfl (dmv (wn rfl) (hA151.ev rfl) ?_)
 intro a161 hA162
 refine qs hA162 rfl (dnc (wn rfl) (hA162.ev rfl) ?_)
 intro a163 hA164
 refine qs hA164 rfl (dfa (wn rfl) (hA164.ev rfl) fo65_2 ?_)
 intro a165 hA166
 refine qs hA166 rfl (dld (v := (.int .i64 ((p : Nat) : Int))) (wn rfl) (hA166.ev rfl) one3 (m154.cell rfl) ?_)
 intro a167 hA168
 refine qs hA168 rfl (dbn (wn rfl) (hA168.ev rfl) (hA168.ev rfl) (b_add _ _ ((p : Nat) : Int) 1 _ (by omega) (by omega)) ?_)
 intro a169 hA170
 refine qs hA170 rfl (dnc (wn rfl) (hA170.ev rfl) ?_)
 intro a171 hA172
 refine qs hA172 rfl (dfa (wn rfl) (hA172.ev rfl) fo65_2 ?_)
 intro a173 hA174
 refine qs hA174 rfl (dst_ (v := (.int .i64 (((p : Nat) : Int) + 1))) (wn rfl) (hA174.ev rfl) (hA174.ev rfl) one3 rfl m154 (Nat.le_of_ble_eq_true rfl) ?_)
 intro w175 hU176 (m177 : Blk w175 g (thrC cd r (((p : Nat) : Int) + 1) v135) 65)
 have m178 := m155.upd hU176 (Ne.symm n9)
 have m179 := m156.upd hU176 (Ne.symm n44)
 have m180 := m157.upd hU176 (Ne.symm n78)
 have b181 := hU176.below b158 hge
 have ho182 := own_upd ho159 hU176 oe
 have ho183 := own_upd ho160 hU176 off145
 intro a184 hA185
 refine qe_ ?_
 refine tn_ ?_
 refine wp_seq ?_
 refine wp_region_lit ?_
 refine qs hA185 rfl (dlr (cs := #[.int .i64 0, .int .i64 ((path.length : Nat) : Int), .int .i64 ((p : Nat) : Int), .int .i64 8, .int .i64 0, .int .i64 0, .bool false, .bool false, .int .i64 0, .int .i64 0, .bool i.acq, .bool i.weak, .bool i.rel, .int .i64 i.pred, .int .i64 i.succ]) (wn rfl) (hA185.ev rfl) row52 m180 ?_)
 intro a186 hA187
 refine qs hA187 rfl (dsr (wn rfl) (hA187.ev rfl) (hA187.ev rfl) row52 m178 rfl rfl ?_)
 intro w188 hU189 (m190 : Blk w188 g3 #[.int .i64 0, .int .i64 ((path.length : Nat) : Int), .int .i64 ((p : Nat) : Int), .int .i64 8, .int .i64 0, .int .i64 0, .bool false, .bool false, .int .i64 0, .int .i64 0, .bool i.acq, .bool i.weak, .bool i.rel, .int .i64 i.pred, .int .i64 i.succ] 52)
 have m191 := m177.upd hU189 n9
 have m192 := m179.upd hU189 (Ne.symm n45)
 have m193 := m180.upd hU189 (Ne.symm n79)
 have b194 := hU189.below b181 ge8
 have ho195 := own_upd ho182 hU189 off10
 have ho196 := own_upd ho183 hU189 off146
 intro a197 hA198
 refine qe_ ?_
 refine tn_ ?_
 refine wp_ret ?_
 refine retRow (g := g3) (cs := #[.int .i64 0, .int .i64 ((path.length : Nat) : Int), .int .i64 ((p : Nat) : Int), .int .i64 8, .int .i64 0, .int .i64 0, .bool false, .bool false, .int .i64 0, .int .i64 0, .bool i.acq, .bool i.weak, .bool i.rel, .int .i64 i.pred, .int .i64 i.succ]) rfl hA198 rfl m190 row52 ?_
 exact ⟨rfl, b194, ho195, v135, m191, hge, (hcd.below b194), (by rw [List.length_append, ← paE_snoc]; exact ho196), off145⟩
end Go.Proofs.Ytlhompedcphnnaa
/- A step of the reference's thread, whatever the event. -/
namespace Go.Proofs.Ytlhompedcphnnaa
open Go.RowKit
set_option linter.unusedSimpArgs false

def RStep (Bd g p ne : Nat) (r : Nat → Int) (cd ev : Value) (xe : List Value) (code : List Ins) (i : Ins) (u : Int) (path : List Int) (w : World) (e : Ending) (w' : World) : Prop :=
  ∃ (x : Ev) (r' : Nat → Int), e = .returned (.agg (evC x)) ∧ Below Bd w w' ∧ w'.ownsRow Bd 52 15 ev ne xe ∧ (∃ pa', TS Bd g w' cd code ((p : Int) + 1) r' (path ++ [(p : Int)]) pa') ∧ (∀ k, wfI (r' k)) ∧
    (rdB i = true → ∀ rl es, stepW ⟨(p : Int), r, u :: rl, es, path⟩ i = some ⟨(p : Int) + 1, r', rl, es ++ [x], path ++ [(p : Int)]⟩) ∧
    (rdB i = false → ∀ ls es, stepW ⟨(p : Int), r, ls, es, path⟩ i = some ⟨(p : Int) + 1, r', ls, es ++ [x], path ++ [(p : Int)]⟩)
set_option maxHeartbeats 1000000 in
theorem rstep_any (Bd g p ne : Nat) (r : Nat → Int) (cd pa ev : Value) (xe : List Value) (code : List Ins) (i : Ins) (u : Int) (path : List Int) (w : World) (hB : Bd ≤ w.heap.size) (hT : TS Bd g w cd code (p : Int) r path pa) (hev : w.ownsRow Bd 52 15 ev ne xe) (hnp : path.length ≤ 1000) (hr : ∀ k, wfI (r k)) (hp2 : p ≤ 1000)
    (hy : code[p]? = some i) (hs : soundB i = true) (he : evtB i = true) (himm : wfI i.imm) (hoff : wfI i.off) (hu : rdB i = true → wfI u) : Calls Try.prog 38 #[.pointer (some ⟨g, 0, none⟩), .int .i64 u] w (RStep Bd g p ne r cd ev xe code i u path w) := by
  by_cases h4 : i.op = 4
  · have hs1 := hs
    simp [soundB, h4] at hs1
    obtain ⟨d, ed, ld⟩ := reg_nat hs1.1.1
    have hix := acc_parts hs1.1.2
    have hi : i = ⟨4, (d : Int), i.a, i.b, i.imm, i.loc, i.off, i.index, i.size, i.fn, i.acq, i.weak, i.rel, i.pred, i.succ, i.to, i.zero⟩ := by cases i; simp at h4 ed; simp [h4, ed]
    refine (rstep_4 Bd g p ne r cd pa ev xe code i d u path w hB hT hev hnp hr hp2 (by rw [hy]; exact congrArg some hi) hix hoff ld (hu (by simp [rdB, h4]))).mono fun e w' ⟨h1, h2, h3, h5⟩ => ⟨_, _, h1, h2, h3, h5, wf_upd hr (wf_I _), fun _ rl es => ?_, fun hn => by simp [rdB, h4] at hn⟩
    simp [stepW, h4, nextW, ed]
  by_cases h6 : i.op = 6
  · have hs1 := hs
    simp [soundB, h6] at hs1
    obtain ⟨d, ed, ld⟩ := reg_nat hs1.1.1.1
    obtain ⟨k, ek, lk⟩ := reg_nat hs1.1.1.2
    have hix := acc_parts hs1.1.2
    have hi : i = ⟨6, (d : Int), (k : Int), i.b, i.imm, i.loc, i.off, i.index, i.size, i.fn, i.acq, i.weak, i.rel, i.pred, i.succ, i.to, i.zero⟩ := by cases i; simp at h6 ed ek; simp [h6, ed, ek]
    refine (rstep_6 Bd g p ne r cd pa ev xe code i d k u path w hB hT hev hnp hr hp2 (by rw [hy]; exact congrArg some hi) hix hoff ld lk (hu (by simp [rdB, h6]))).mono fun e w' ⟨h1, h2, h3, h5⟩ => ⟨_, _, h1, h2, h3, h5, wf_upd hr (wf_I _), fun _ rl es => ?_, fun hn => by simp [rdB, h6] at hn⟩
    simp [stepW, h6, nextW, ed, ek]
  by_cases h5 : i.op = 5
  · have hs1 := hs
    simp [soundB, h5] at hs1
    have hix := acc_parts hs1.2
    have hi : i = ⟨5, i.dst, i.a, i.b, i.imm, i.loc, i.off, i.index, i.size, i.fn, i.acq, i.weak, i.rel, i.pred, i.succ, i.to, i.zero⟩ := by cases i; simp at h5; simp [h5]
    refine (rstep_5 Bd g p ne r cd pa ev xe code i u path w hB hT hev hnp hr hp2 (by rw [hy]; exact congrArg some hi) hix hoff hs1.1 himm).mono fun e w' ⟨h1, h2, h3, h7⟩ => ⟨_, _, h1, h2, h3, h7, hr, fun hn => by simp [rdB, h5] at hn, fun _ ls es => ?_⟩
    simp [stepW, h5, nextW]
  by_cases h7 : i.op = 7
  · have hi : i = ⟨7, i.dst, i.a, i.b, i.imm, i.loc, i.off, i.index, i.size, i.fn, i.acq, i.weak, i.rel, i.pred, i.succ, i.to, i.zero⟩ := by cases i; simp at h7; simp [h7]
    have he7 : ({ i with op := 7 } : Ins) = i := by cases i; simp at h7; simp [h7]
    refine (rstep_7 Bd g p ne r cd pa ev xe code i u path w hB hT hev hnp hr hp2 (by rw [hy]; exact congrArg some hi)).mono fun e w' ⟨h1, h2, h3, h8⟩ => ⟨_, _, h1, h2, h3, h8, hr, fun hn => by simp [rdB, h7] at hn, fun _ ls es => ?_⟩
    rw [he7]
    simp [stepW, h7, nextW]
  by_cases h8 : i.op = 8
  · have hi : i = ⟨8, i.dst, i.a, i.b, i.imm, i.loc, i.off, i.index, i.size, i.fn, i.acq, i.weak, i.rel, i.pred, i.succ, i.to, i.zero⟩ := by cases i; simp at h8; simp [h8]
    have he8 : ({ i with op := 8 } : Ins) = i := by cases i; simp at h8; simp [h8]
    refine (rstep_8 Bd g p ne r cd pa ev xe code i u path w hB hT hev hnp hr hp2 (by rw [hy]; exact congrArg some hi)).mono fun e w' ⟨h1, h2, h3, h9⟩ => ⟨_, _, h1, h2, h3, h9, hr, fun hn => by simp [rdB, h8] at hn, fun _ ls es => ?_⟩
    rw [he8]
    simp [stepW, h8, nextW]
  exfalso
  simp [evtB, opB, rdB, wrB, h4, h5, h6, h7, h8] at he
end Go.Proofs.Ytlhompedcphnnaa
/- Plain instructions of the reference's thread. -/
namespace Go.Proofs.Ytlhompedcphnnaa
open Go.RowKit
set_option linter.unusedSimpArgs false
set_option linter.unusedVariables false
theorem ent50 : ((Try.prog.funcs[50]?).map fun fn => (fn.name == "runtime.NumGoroutine", fn.body.isNone)) = some (false, false) := by kernel_rfl
set_option maxHeartbeats 4000000 in
set_option maxRecDepth 4000 in
theorem plain_ref (Bd g p ne : Nat) (r : Nat → Int) (cd pa ev : Value) (xe : List Value) (code : List Ins)  (path : List Int) (w : World) (hB : Bd ≤ w.heap.size) (hT : TS Bd g w cd code ((p : Nat) : Int) r path pa) (hev : w.ownsRow Bd 52 15 ev ne xe) (hnp : path.length ≤ 1000) (hr : ∀ k, wfI (r k)) (hp2 : p ≤ 1000) (hcl : code.length ≤ 8) (hright : ∀ (k : Nat) i, code[k]? = some i → rightR i (k : Int) (code.length : Int) = 0) (hwi : ∀ i ∈ code, wfI i.imm ∧ wfI i.off) (hpp : path.length ≤ p) (hpl : p ≤ code.length) : Calls Try.prog 37 #[.pointer (some ⟨g, 0, none⟩)] w fun e w' => ∃ (b : Bool) (p' : Nat) (r' : Nat → Int) (path' : List Int) (pa' : Value), e = .returned (.bool b) ∧ Below Bd w w' ∧ w'.ownsRow Bd 52 15 ev ne xe ∧ TS Bd g w' cd code ((p' : Nat) : Int) r' path' pa' ∧ Adv code p r path p' r' path' ∧ p' ≤ code.length ∧ path'.length ≤ p' ∧ p ≤ p' ∧ (∀ k, wfI (r' k)) ∧ (b = false → code.length ≤ p') ∧ (b = true → ∃ i, code[p']? = some i ∧ evtB i = true) := by
 obtain ⟨hb, hge, hcd, hpa, op_⟩ := hT
 have oe := own_apart hev hb (by decide)
 have ap := rows_apart hpa hev (by decide)
 have ap2 : ∀ k, ev.ownBlock = some k → pa.ownBlock ≠ some k := fun k h1 h2 => ap k h2 h1
 have b0 : Below Bd w w := Below.refl _ _
 refine enter (n := 133) Try.func37 rfl rfl (Nat.le_of_ble_eq_true rfl) ?_
 intro a1 hA2
 refine wp_seq ?_
 refine wp_region_lit ?_
 refine qs hA2 rfl (das (wn rfl) (hA2.ev rfl) ?_)
 intro a3 hA4
 refine qe_ ?_
 refine tn_ ?_
 refine wp_seq ?_
 refine wp_block ?_
 refine loop_by (fun m a' w' => ∃ (n : Nat) (r1 : Nat → Int) (ps : List Int) (pa1 : Value), m = code.length - n ∧ n ≤ code.length ∧ ps.length ≤ n ∧ p ≤ n ∧ Adv code p r path n r1 ps ∧ (∀ k, wfI (r1 k)) ∧ St 133 [(0, (.pointer (some ⟨g, 0, none⟩)))] a' ∧ Below Bd w w' ∧ w'.ownsRow Bd 52 15 ev ne xe ∧ TS Bd g w' cd code ((n : Nat) : Int) r1 ps pa1) (code.length - p) ⟨p, r, path, pa, rfl, hpl, hpp, Nat.le_refl _, Adv.refl, hr, hA4.sub rfl, b0, hev, hb, hge, (hcd.below b0), hpa, op_⟩ ?_
 rintro m5 a6 w7 ⟨n8, r9, ps10, pa11, hm12, hn13, hps14, hpn15, hadv16, hwf17, hA18, b19, hev20, hb21, _, hcd22, hpa23, op24⟩
 have oe25 := own_apart hev20 hb21 (by decide)
 have ap26 := rows_apart hpa23 hev20 (by decide)
 have ap27 : ∀ k, ev.ownBlock = some k → pa11.ownBlock ≠ some k := fun k h1 h2 => ap26 k h2 h1
 refine wp_seq ?_
 refine wp_seq ?_
 rcases Bool.eq_false_or_eq_true (decide (((n8 : Nat) : Int) < ((code.length : Nat) : Int))) with hb28 | hb28
 ·skip
  have hq29 := of_decide_eq_true hb28
  have hA30 : St 133 [(0, (.pointer (some ⟨g, 0, none⟩)))] a6 := hA18.sub rfl
  let M31 : Nat → Option (Array Value) := fun _ => none
  have hM31 : M31 = fun _ => none := rfl
  clear_value M31
  have hM32 : M31 g = none := (congrFun hM31 g)
  have hM31B : ∀ k, k < Bd → M31 k = none := (fun k hk => (congrFun hM31 k))
  refine drawn (S := SM M31) (tabL [cv (.pointer (some ⟨g, 0, none⟩)), cv (.pointer (some ⟨g, 0, none⟩)), cv (.pointer (some ⟨g, 9, none⟩)), cv (.int .i64 ((n8 : Nat) : Int)), cv (.pointer (some ⟨g, 0, none⟩)), cv (.pointer (some ⟨g, 0, none⟩)), cv (.pointer (some ⟨g, 0, none⟩)), cv cd, cv (.int .i64 ((code.length : Nat) : Int)), cv (.bool true)]) mixedY SM.refl SM.trans SM.drew hA30 (by kernel_rfl) ?_ ?_
  ·skip
   refine ec_ (fun x y hS hT hk => dmv (wn rfl) (hT.ev rfl) ⟨SM.refl _, rfl⟩) ?_
   refine ec_ (fun x y hS hT hk => dnc (wn rfl) (hk 0 rfl) ⟨SM.refl _, rfl⟩) ?_
   refine ec_ (fun x y hS hT hk => dfa (wn rfl) (hk 1 rfl) fo65_2 ⟨SM.refl _, rfl⟩) ?_
   refine ec_ (fun x y hS hT hk => dld (v := (.int .i64 ((n8 : Nat) : Int))) (wn rfl) (hk 2 rfl) one3 ((Blk.sm (w := w7.drew) hb21 hS hM32).cell rfl) ⟨SM.refl _, rfl⟩) ?_
   refine ec_ (fun x y hS hT hk => dmv (wn rfl) (hT.ev rfl) ⟨SM.refl _, rfl⟩) ?_
   refine ec_ (fun x y hS hT hk => dnc (wn rfl) (hk 4 rfl) ⟨SM.refl _, rfl⟩) ?_
   refine ec_ (fun x y hS hT hk => dfa (wn rfl) (hk 5 rfl) fo65_0 ⟨SM.refl _, rfl⟩) ?_
   refine ec_ (fun x y hS hT hk => dld (v := cd) (wn rfl) (hk 6 rfl) one35 ((Blk.sm (w := w7.drew) hb21 hS hM32).cell rfl) ⟨SM.refl _, rfl⟩) ?_
   refine ec_ (fun x y hS hT hk => dle (n := code.length) (wn rfl) (hk 7 rfl) slc35 hcd22.form ⟨SM.refl _, rfl⟩) ?_
   refine ec_ (fun x y hS hT hk => dbn (wn rfl) (hk 3 rfl) (hk 8 rfl) (b_lt _ _ ((n8 : Nat) : Int) ((code.length : Nat) : Int) true _ hb28) ⟨SM.refl _, rfl⟩) ?_
   exact each_nil
  intro f33 a34 w35 hS36 hC37 hA38
  have hA39 : St 133 [(0, (.pointer (some ⟨g, 0, none⟩))), (14, (.bool true))] a34 := hA38.cut _ (fc (hA38.get 0 _ rfl) (fc ((hA38.get 14 _ rfl).trans (hC37 9 (Nat.le_of_ble_eq_true rfl))) fn_))
  have m40 := hb21.sm hS36 hM32
  have b41 := hS36.below b19 (Nat.le_trans hB b19.size) hM31B
  have ho42 := own_sm hev20 hS36 (fun k => congrFun hM31 k)
  have ho43 := own_sm hpa23 hS36 (fun k => congrFun hM31 k)
  refine tn_ ?_
  refine c_true hA39 rfl ?_
  refine wp_skip ?_
  refine tn_ ?_
  refine wp_block ?_
  refine wp_seq ?_
  obtain ⟨y44, hy45⟩ : ∃ y44, code[n8]? = some y44 := ⟨_, List.getElem?_eq_getElem (show n8 < code.length by omega)⟩
  obtain ⟨b46, o47, lt48, hr49, hix50⟩ := (Sl.via hcd22 b19 b41).at hy45
  have hry44 := hright _ _ hy45
  have hsy44 := (right_yes hry44).1
  have hwy44 := hwi _ (List.mem_of_getElem? hy45)
  have hly44 := get_lt hy45
  have hA52 : St 133 [(0, (.pointer (some ⟨g, 0, none⟩)))] a34 := hA39.sub rfl
  let M53 : Nat → Option (Array Value) := fun _ => none
  have hM53 : M53 = fun _ => none := rfl
  clear_value M53
  have hM53A : ∀ k, M53 k = none := fun k => congrFun hM53 k
  have hM53B : ∀ k, k < Bd → M53 k = none := fun k _ => hM53A k
  refine drawnL (S := SM M53) rfl (tabL [cv (.pointer (some ⟨g, 0, none⟩)), cv (.pointer (some ⟨g, 0, none⟩)), cv (.pointer (some ⟨g, 0, none⟩)), cv cd, cv (.pointer (some ⟨g, 0, none⟩)), cv (.pointer (some ⟨g, 0, none⟩)), cv (.pointer (some ⟨g, 9, none⟩)), cv (.int .i64 ((n8 : Nat) : Int)), cv (.pointer (some ⟨b46, o47, none⟩)), cv (.agg (insC y44)), cBlk M53 hM53A w35.heap.size #[.int .i64 0, .int .i64 0, .int .i64 0, .int .i64 0, .int .i64 0, .int .i64 0, .int .i64 0, .int .i64 0, .int .i64 0, .int .i64 0, .bool false, .bool false, .bool false, .int .i64 0, .int .i64 0, .int .i64 0, .bool false] 23]) none (fun _ => none) (fun _ _ => True) [10, 9, 0, 1, 2, 3, 4, 5, 6, 7, 8] [] mixedY SM.refl SM.trans hA52 (by kernel_rfl) (by kernel_rfl) (fun i v u w h => by cases h) ?_ ?_
  ·skip
   refine ed_ (.inl ⟨nofun, rfl, fun x y hS hT hk => dmv (wn rfl) (hT.ev rfl) ⟨SM.refl _, rfl⟩⟩) ?_
   refine ed_ (.inl ⟨nofun, rfl, fun x y hS hT hk => dnc (wn rfl) (hk 0 rfl) ⟨SM.refl _, rfl⟩⟩) ?_
   refine ed_ (.inl ⟨nofun, rfl, fun x y hS hT hk => dfa (wn rfl) (hk 1 rfl) fo65_0 ⟨SM.refl _, rfl⟩⟩) ?_
   refine ed_ (.inl ⟨nofun, rfl, fun x y hS hT hk => dld (v := cd) (wn rfl) (hk 2 rfl) one35 ((Blk.sm (w := w35.drew) m40 hS (hM53A _)).cell rfl) ⟨SM.refl _, rfl⟩⟩) ?_
   refine ed_ (.inl ⟨nofun, rfl, fun x y hS hT hk => dmv (wn rfl) (hT.ev rfl) ⟨SM.refl _, rfl⟩⟩) ?_
   refine ed_ (.inl ⟨nofun, rfl, fun x y hS hT hk => dnc (wn rfl) (hk 4 rfl) ⟨SM.refl _, rfl⟩⟩) ?_
   refine ed_ (.inl ⟨nofun, rfl, fun x y hS hT hk => dfa (wn rfl) (hk 5 rfl) fo65_2 ⟨SM.refl _, rfl⟩⟩) ?_
   refine ed_ (.inl ⟨nofun, rfl, fun x y hS hT hk => dld (v := (.int .i64 ((n8 : Nat) : Int))) (wn rfl) (hk 6 rfl) one3 ((Blk.sm (w := w35.drew) m40 hS (hM53A _)).cell rfl) ⟨SM.refl _, rfl⟩⟩) ?_
   refine ed_ (.inl ⟨nofun, rfl, fun x y hS hT hk => dia (j := n8) (wn rfl) (hk 3 rfl) (hk 7 rfl) slc35 hix50 (get_lt hy45) ⟨SM.refl _, rfl⟩⟩) ?_
   refine ed_ (.inl ⟨nofun, rfl, fun x y hS hT hk => dlm (cs := (insC y44)) (wn rfl) (hk 8 rfl) row23 (range_sm (w := w35.drew) hr49 hS (Nat.lt_of_lt_of_le lt48 (Nat.le_trans hB b41.size)) (hM53B _ lt48)) ⟨SM.refl _, rfl⟩⟩) ?_
   refine ed_ (.inl ⟨nofun, rfl, fun x y hS hT hk => dal (wn rfl) zero23 (fun g w' eg hG hb => ⟨SM.grow hG, g, rfl, eg ▸ hS.size, hb⟩)⟩) ?_
   exact eachD_one
  rintro a54 w55 hA56 ⟨hS58, hC59⟩
  obtain ⟨g51, hg60, hge61, m62⟩ := hC59 10 (Nat.le_of_ble_eq_true rfl)
  have hA63 : St 133 [(0, (.pointer (some ⟨g, 0, none⟩))), (3, (.pointer (some ⟨g51, 0, none⟩))), (24, (.agg (insC y44)))] a54 := hA56.cut _ (fc (hA56.get 0 _ rfl) (fc hg60 (fc (hC59 9 (Nat.le_of_ble_eq_true rfl)) fn_)))
  have hG64 : Grow w35 w55 := Grow.trans ((Grow.refl _).drew) (SM.grown (by rw [hM53] at hS58; exact hS58))
  have m65 := m40.grow hG64
  have hr66 := range_below hr49 hG64 (Nat.lt_of_lt_of_le lt48 (Nat.le_trans hB b41.size))
  have b67 := blg b41 hG64 (Nat.le_trans hB b41.size)
  have ho68 := owg hG64 ho42
  have ho69 := owg hG64 ho43
  have ge70 : Bd ≤ g51 := Nat.le_trans (Nat.le_trans hB b41.size) hge61
  have n71 : g ≠ g51 := Nat.ne_of_lt (Nat.lt_of_lt_of_le m40.lt hge61)
  have off72 : ev.ownBlock ≠ some g51 := fun e => Nat.lt_irrefl _ (Nat.lt_of_lt_of_le (own_lt ho42 _ e).2 hge61)
  have off73 : pa11.ownBlock ≠ some g51 := fun e => Nat.lt_irrefl _ (Nat.lt_of_lt_of_le (own_lt ho43 _ e).2 hge61)
  refine dsr (wn rfl) (hA63.ev rfl) (hA63.ev rfl) row23 m62 rfl rfl ?_
  intro w74 hU75 (m76 : Blk w74 g51 (insC y44) 23)
  have m77 := m65.upd hU75 n71
  have hr78 := range_upd hr66 hU75 (Nat.ne_of_lt (Nat.lt_of_lt_of_le lt48 ge70))
  have b79 := hU75.below b67 ge70
  have ho80 := own_upd ho68 hU75 off72
  have ho81 := own_upd ho69 hU75 off73
  refine tn_ ?_
  refine wp_seq ?_
  refine wp_seq ?_
  refine wp_region_lit ?_
  refine qs hA63 rfl (dlr (cs := (insC y44)) (wn rfl) (hA63.ev rfl) row23 m76 ?_)
  intro a82 hA83
  refine qs hA83 rfl (dcl (wn rfl) ent32 (map1 (hA83.ev rfl)) (memory_any y44 w74) ?_)
  rintro e87 w84 ⟨he86, hG85⟩
  have m88 := m77.grow hG85
  have m89 := m76.grow hG85
  have b90 := blg b79 hG85 (Nat.le_trans hB b79.size)
  have ho91 := owg hG85 ho80
  have ho92 := owg hG85 ho81
  rcases Bool.eq_false_or_eq_true (opB y44) with hb93 | hb93
  ·skip
   refine ⟨.bool true, he86.trans (ret_bool hb93), ?_⟩
   intro a95 hA96
   refine qs hA96 rfl (dmv (wn rfl) (hA96.ev rfl) ?_)
   intro a97 hA98
   refine qs hA98 rfl (dno (wno rfl rfl (.inl (hA98.get 27 _ rfl))) ?_)
   intro a99 hA100
   refine qs hA100 rfl (dno (wno rfl rfl (.inl (hA100.get 27 _ rfl))) ?_)
   intro a101 hA102
   refine qs hA102 rfl (dno (wno rfl rfl (.inl (hA102.get 27 _ rfl))) ?_)
   intro a103 hA104
   refine qs hA104 rfl (dpt (wn rfl) (hA104.ev rfl) (hA104.ev rfl) ?_)
   intro a105 hA106
   refine qs hA106 rfl (dmv (wn rfl) (hA106.ev rfl) ?_)
   intro a107 hA108
   refine qs hA108 rfl (dno (wno rfl rfl (.inl (hA108.get 32 _ rfl))) ?_)
   intro a109 hA110
   refine qs hA110 rfl (dno (wno rfl rfl (.inl (hA110.get 32 _ rfl))) ?_)
   intro a111 hA112
   refine qs hA112 rfl (dno (wno rfl rfl (.inl (hA112.get 32 _ rfl))) ?_)
   intro a113 hA114
   refine qs hA114 rfl (dpt (wn rfl) (hA114.ev rfl) (hA114.ev rfl) ?_)
   intro a115 hA116
   refine qe_ ?_
   refine tn_ ?_
   refine c_true hA116 rfl ?_
   refine wp_seq ?_
   refine wp_region_lit ?_
   refine qs hA116 rfl (das (wn rfl) (hA116.ev rfl) ?_)
   intro a117 hA118
   refine qe_ ?_
   refine tn_ ?_
   refine wp_ret ?_
   refine t_ret ?_
   refine i_ret ?_
   refine t_ret ?_
   refine i_ret ?_
   refine t_ret ?_
   refine ret1 rfl hA118 (v := (.bool true)) rfl ?_
   exact ⟨true, n8, r9, ps10, pa11, rfl, b90, ho91, ⟨m88, hge, (Sl.via hcd22 b19 b90), ho92, op24⟩, hadv16, hn13, hps14, hpn15, hwf17, nofun, fun _ => ⟨y44, hy45, by simp [evtB, hb93]⟩⟩
  refine ⟨.bool false, he86.trans (ret_bool hb93), ?_⟩
  intro a120 hA121
  refine qs hA121 rfl (dmv (wn rfl) (hA121.ev rfl) ?_)
  intro a122 hA123
  refine qs hA123 rfl (dfa (wy rfl rfl (hA123.get 27 _ rfl)) (hA123.ev rfl) fo23_0 ?_)
  intro a124 hA125
  refine qs hA125 rfl (dld (v := (.int .i64 y44.op)) (wy rfl rfl (hA125.get 27 _ rfl)) (hA125.ev rfl) one3 (m89.cell rfl) ?_)
  intro a126 hA127
  rcases Bool.eq_false_or_eq_true (y44.op == 7) with hb128 | hb128
  ·skip
   have hq129 := eq_of_beq hb128
   refine qs hA127 rfl (dbn (wy rfl rfl (hA127.get 27 _ rfl)) (hA127.ev rfl) (hA127.ev rfl) (b_eq _ _ y44.op 7 true _ hb128) ?_)
   intro a130 hA131
   refine qs hA131 rfl (dpf (wn rfl) (hA131.ev rfl) (hA131.ev rfl) ?_)
   intro a132 hA133
   refine qs hA133 rfl (dmv (wn rfl) (hA133.ev rfl) ?_)
   intro a134 hA135
   refine qs hA135 rfl (dno (wno rfl rfl (.inl (hA135.get 32 _ rfl))) ?_)
   intro a136 hA137
   refine qs hA137 rfl (dno (wno rfl rfl (.inl (hA137.get 32 _ rfl))) ?_)
   intro a138 hA139
   refine qs hA139 rfl (dno (wno rfl rfl (.inl (hA139.get 32 _ rfl))) ?_)
   intro a140 hA141
   refine qs hA141 rfl (dpt (wn rfl) (hA141.ev rfl) (hA141.ev rfl) ?_)
   intro a142 hA143
   refine qe_ ?_
   refine tn_ ?_
   refine c_true hA143 rfl ?_
   refine wp_seq ?_
   refine wp_region_lit ?_
   refine qs hA143 rfl (das (wn rfl) (hA143.ev rfl) ?_)
   intro a144 hA145
   refine qe_ ?_
   refine tn_ ?_
   refine wp_ret ?_
   refine t_ret ?_
   refine i_ret ?_
   refine t_ret ?_
   refine i_ret ?_
   refine t_ret ?_
   refine ret1 rfl hA145 (v := (.bool true)) rfl ?_
   exact ⟨true, n8, r9, ps10, pa11, rfl, b90, ho91, ⟨m88, hge, (Sl.via hcd22 b19 b90), ho92, op24⟩, hadv16, hn13, hps14, hpn15, hwf17, nofun, fun _ => ⟨y44, hy45, by simp [evtB, hb93, hb128]⟩⟩
  have hq146 := ne_of_beq hb128
  refine qs hA127 rfl (dbn (wy rfl rfl (hA127.get 27 _ rfl)) (hA127.ev rfl) (hA127.ev rfl) (b_eq _ _ y44.op 7 false _ hb128) ?_)
  intro a147 hA148
  refine qs hA148 rfl (dpf (wn rfl) (hA148.ev rfl) (hA148.ev rfl) ?_)
  intro a149 hA150
  refine qs hA150 rfl (dmv (wn rfl) (hA150.ev rfl) ?_)
  intro a151 hA152
  refine qs hA152 rfl (dfa (wy rfl rfl (hA152.get 32 _ rfl)) (hA152.ev rfl) fo23_0 ?_)
  intro a153 hA154
  refine qs hA154 rfl (dld (v := (.int .i64 y44.op)) (wy rfl rfl (hA154.get 32 _ rfl)) (hA154.ev rfl) one3 (m89.cell rfl) ?_)
  intro a155 hA156
  rcases Bool.eq_false_or_eq_true (y44.op == 8) with hb157 | hb157
  ·skip
   have hq158 := eq_of_beq hb157
   refine qs hA156 rfl (dbn (wy rfl rfl (hA156.get 32 _ rfl)) (hA156.ev rfl) (hA156.ev rfl) (b_eq _ _ y44.op 8 true _ hb157) ?_)
   intro a159 hA160
   refine qs hA160 rfl (dpf (wn rfl) (hA160.ev rfl) (hA160.ev rfl) ?_)
   intro a161 hA162
   refine qe_ ?_
   refine tn_ ?_
   refine c_true hA162 rfl ?_
   refine wp_seq ?_
   refine wp_region_lit ?_
   refine qs hA162 rfl (das (wn rfl) (hA162.ev rfl) ?_)
   intro a163 hA164
   refine qe_ ?_
   refine tn_ ?_
   refine wp_ret ?_
   refine t_ret ?_
   refine i_ret ?_
   refine t_ret ?_
   refine i_ret ?_
   refine t_ret ?_
   refine ret1 rfl hA164 (v := (.bool true)) rfl ?_
   exact ⟨true, n8, r9, ps10, pa11, rfl, b90, ho91, ⟨m88, hge, (Sl.via hcd22 b19 b90), ho92, op24⟩, hadv16, hn13, hps14, hpn15, hwf17, nofun, fun _ => ⟨y44, hy45, by simp [evtB, hb93, hb128, hb157]⟩⟩
  have hq165 := ne_of_beq hb157
  refine qs hA156 rfl (dbn (wy rfl rfl (hA156.get 32 _ rfl)) (hA156.ev rfl) (hA156.ev rfl) (b_eq _ _ y44.op 8 false _ hb157) ?_)
  intro a166 hA167
  refine qs hA167 rfl (dpf (wn rfl) (hA167.ev rfl) (hA167.ev rfl) ?_)
  intro a168 hA169
  refine qe_ ?_
  refine tn_ ?_
  refine c_false hA169 rfl ?_
  refine wp_skip ?_
  refine tn_ ?_
  refine wp_seq ?_
  have hA170 : St 133 [(0, (.pointer (some ⟨g, 0, none⟩))), (3, (.pointer (some ⟨g51, 0, none⟩)))] a168 := hA169.sub rfl
  let M171 : Nat → Option (Array Value) := fun _ => none
  have hM171 : M171 = fun _ => none := rfl
  clear_value M171
  have hM171A : ∀ k, M171 k = none := fun k => congrFun hM171 k
  have hM171B : ∀ k, k < Bd → M171 k = none := fun k _ => hM171A k
  refine drawnL (S := SM M171) rfl (tabQ [some (.pointer (some ⟨g, 0, none⟩)), some (.pointer (some ⟨g, 0, none⟩)), some (.pointer (some ⟨g, 0, none⟩)), some (.pointer (some ⟨g, 10, none⟩)), none, some (.pointer (some ⟨g, 0, none⟩)), some (.pointer (some ⟨g, 0, none⟩)), some (.pointer (some ⟨g, 9, none⟩)), none, none, none, some (.pointer (some ⟨g, 0, none⟩)), some (.pointer (some ⟨g, 10, none⟩))] [cv (.pointer (some ⟨g, 0, none⟩)), cv (.pointer (some ⟨g, 0, none⟩)), cv (.pointer (some ⟨g, 0, none⟩)), cv (.pointer (some ⟨g, 10, none⟩)), cv pa11, cv (.pointer (some ⟨g, 0, none⟩)), cv (.pointer (some ⟨g, 0, none⟩)), cv (.pointer (some ⟨g, 9, none⟩)), cv (.int .i64 ((n8 : Nat) : Int)), cs1 M171 hM171A #[.int .i64 ((n8 : Nat) : Int)] 3, cfree, cv (.pointer (some ⟨g, 0, none⟩)), cv (.pointer (some ⟨g, 10, none⟩))]) (some 10) (fun i => (([some (.pointer (some ⟨g, 0, none⟩)), some (.pointer (some ⟨g, 0, none⟩)), some (.pointer (some ⟨g, 0, none⟩)), some (.pointer (some ⟨g, 10, none⟩)), none, some (.pointer (some ⟨g, 0, none⟩)), some (.pointer (some ⟨g, 0, none⟩)), some (.pointer (some ⟨g, 9, none⟩)), none, none, none, some (.pointer (some ⟨g, 0, none⟩)), some (.pointer (some ⟨g, 10, none⟩))] : List (Option Value))[i]?).getD none) (fun v' w' => w'.ownsRow Bd 3 1 v' (ps10.length + 1) ((paE ps10) ++ (#[.int .i64 ((n8 : Nat) : Int)] : Array Value).toList) ∧ Below Bd w w' ∧ Blk w' g (thrC cd r9 ((n8 : Nat) : Int) pa11) 65 ∧ Blk w' g51 (insC y44) 23 ∧ w'.ownsRow Bd 52 15 ev ne xe ∧ v'.ownBlock ≠ some g ∧ v'.ownBlock ≠ some g51 ∧ ∀ k, ev.ownBlock = some k → v'.ownBlock ≠ some k) [12, 10, 0, 1, 2, 3, 4, 5, 6, 7, 8, 9, 11] [4, 9, 3, 8, 2, 7, 1, 6, 5] mixedY SM.refl SM.trans hA170 (by kernel_rfl) (by kernel_rfl) (tabQ_cv _ _) ?_ ?_
  ·skip
   refine ed_ (.inr (.inl ⟨by decide, _, rfl, fun x y hT hk hk0 => dmv (wn rfl) (hT.ev rfl) ⟨rfl, rfl⟩⟩)) ?_
   refine ed_ (.inr (.inl ⟨by decide, _, rfl, fun x y hT hk hk0 => dmv (wn rfl) (hT.ev rfl) ⟨rfl, rfl⟩⟩)) ?_
   refine ed_ (.inr (.inl ⟨by decide, _, rfl, fun x y hT hk hk0 => dnc (wn rfl) (hk 1 _ rfl rfl) ⟨rfl, rfl⟩⟩)) ?_
   refine ed_ (.inr (.inl ⟨by decide, _, rfl, fun x y hT hk hk0 => dfa (wn rfl) (hk 2 _ rfl rfl) fo65_3 ⟨rfl, rfl⟩⟩)) ?_
   refine ed_ (.inl ⟨by decide, rfl, fun x y hS hT hk => dld (v := pa11) (wn rfl) (hk 3 rfl) one30 ((Blk.sm (w := w84.drew) m88 hS (hM171A _)).cell rfl) ⟨SM.refl _, rfl⟩⟩) ?_
   refine ed_ (.inr (.inl ⟨by decide, _, rfl, fun x y hT hk hk0 => dmv (wn rfl) (hT.ev rfl) ⟨rfl, rfl⟩⟩)) ?_
   refine ed_ (.inr (.inl ⟨by decide, _, rfl, fun x y hT hk hk0 => dnc (wn rfl) (hk 5 _ rfl rfl) ⟨rfl, rfl⟩⟩)) ?_
   refine ed_ (.inr (.inl ⟨by decide, _, rfl, fun x y hT hk hk0 => dfa (wn rfl) (hk 6 _ rfl rfl) fo65_2 ⟨rfl, rfl⟩⟩)) ?_
   refine ed_ (.inl ⟨by decide, rfl, fun x y hS hT hk => dld (v := (.int .i64 ((n8 : Nat) : Int))) (wn rfl) (hk 7 rfl) one3 ((Blk.sm (w := w84.drew) m88 hS (hM171A _)).cell rfl) ⟨SM.refl _, rfl⟩⟩) ?_
   refine ed_ (.inl ⟨by decide, rfl, fun x y hS hT hk => d_slice1 (wn rfl) (show x.eval _ = (.int .i64 ((n8 : Nat) : Int)) from (hk 8 rfl)) elm30 rfl (by decide) (fun g w' _ hG hb => ⟨SM.grow hG, g, rfl, hb⟩)⟩) ?_
   refine ed_ (.inr (.inr ⟨rfl, fun x y hS hT hk => ?_⟩)) ?_
   ·skip
    obtain ⟨gb, hvb, hbb⟩ := hk 9 rfl
    have hG : Grow w84 y := Grow.trans ((Grow.refl _).drew) (SM.grown (by rw [hM171] at hS; exact hS))
    have hR := owg hG ho92
    have hO := owg hG ho91
    have hBl := blg b90 hG (Nat.le_trans hB b90.size)
    refine d_append (wn rfl) (show x.eval _ = pa11 from (hk 4 rfl)) hvb elm30 hR hbb rfl rfl (by omega) (by decide) (Nat.le_trans hB hBl.size) ?_
    intro v' w' h1 h2 h3
    exact ⟨h1, below_by hBl h2 (Nat.le_trans hB hBl.size) (fun k hk => (own_lt hR k hk).1), (m88.grow hG).by h2 op24, (m89.grow hG).by h2 off73, own_by hO h2 ap27, lies_ne h3 op24 (m88.grow hG).lt, lies_ne h3 off73 (m89.grow hG).lt, lies_ap h3 ap27 hO⟩
   refine ed_ (.inr (.inl ⟨by decide, _, rfl, fun x y hT hk hk0 => dnc (wn rfl) (hk 0 _ rfl rfl) ⟨rfl, rfl⟩⟩)) ?_
   refine ed_ (.inr (.inl ⟨by decide, _, rfl, fun x y hT hk hk0 => dfa (wn rfl) (hk 11 _ rfl rfl) fo65_3 ⟨rfl, rfl⟩⟩)) ?_
   exact eachD_one
  rintro a172 w173 hA174 ⟨hP176, hW177⟩
  obtain ⟨v178, hv179⟩ : ∃ v', v' = (a172.tmps.getD 47 undef) := ⟨_, rfl⟩
  have hW180 : (fun v' w' => w'.ownsRow Bd 3 1 v' (ps10.length + 1) ((paE ps10) ++ (#[.int .i64 ((n8 : Nat) : Int)] : Array Value).toList) ∧ Below Bd w w' ∧ Blk w' g (thrC cd r9 ((n8 : Nat) : Int) pa11) 65 ∧ Blk w' g51 (insC y44) 23 ∧ w'.ownsRow Bd 52 15 ev ne xe ∧ v'.ownBlock ≠ some g ∧ v'.ownBlock ≠ some g51 ∧ ∀ k, ev.ownBlock = some k → v'.ownBlock ≠ some k) v178 w173 := by rw [hv179]; exact hW177
  obtain ⟨ho181, b182, m183, m184, ho185, off186, off187, ap188⟩ := hW180
  have ap189 : ∀ k, v178.ownBlock = some k → ev.ownBlock ≠ some k := fun k h1 h2 => ap188 k h2 h1
  have hA190 : St 133 [(0, (.pointer (some ⟨g, 0, none⟩))), (3, (.pointer (some ⟨g51, 0, none⟩))), (47, v178), (49, (.pointer (some ⟨g, 10, none⟩)))] a172 := hA174.cut _ (fc (hA174.get 0 _ rfl) (fc (hA174.get 3 _ rfl) (fc hv179.symm (fc (hP176 12 _ (Nat.le_of_ble_eq_true rfl) (by decide) rfl) fn_))))
  refine dst_ (v := v178) (wn rfl) (hA190.ev rfl) (hA190.ev rfl) one30 (one_slice (own_form ho181)) m183 (Nat.le_of_ble_eq_true rfl) ?_
  intro w191 hU192 (m193 : Blk w191 g (thrC cd r9 ((n8 : Nat) : Int) v178) 65)
  have m194 := m184.upd hU192 (Ne.symm n71)
  have b195 := hU192.below b182 hge
  have ho196 := own_upd ho185 hU192 oe25
  have ho197 := own_upd ho181 hU192 off186
  refine tn_ ?_
  refine wp_seq ?_
  refine wp_region_lit ?_
  refine qs hA190 rfl (dmv (wn rfl) (hA190.ev rfl) ?_)
  intro a198 hA199
  refine qs hA199 rfl (dnc (wn rfl) (hA199.ev rfl) ?_)
  intro a200 hA201
  refine qs hA201 rfl (dfa (wn rfl) (hA201.ev rfl) fo65_2 ?_)
  intro a202 hA203
  refine qs hA203 rfl (dld (v := (.int .i64 ((n8 : Nat) : Int))) (wn rfl) (hA203.ev rfl) one3 (m193.cell rfl) ?_)
  intro a204 hA205
  refine qs hA205 rfl (dbn (wn rfl) (hA205.ev rfl) (hA205.ev rfl) (b_add _ _ ((n8 : Nat) : Int) 1 _ (by omega) (by omega)) ?_)
  intro a206 hA207
  refine qs hA207 rfl (dnc (wn rfl) (hA207.ev rfl) ?_)
  intro a208 hA209
  refine qs hA209 rfl (dfa (wn rfl) (hA209.ev rfl) fo65_2 ?_)
  intro a210 hA211
  refine qs hA211 rfl (dst_ (v := (.int .i64 (((n8 : Nat) : Int) + 1))) (wn rfl) (hA211.ev rfl) (hA211.ev rfl) one3 rfl m193 (Nat.le_of_ble_eq_true rfl) ?_)
  intro w212 hU213 (m214 : Blk w212 g (thrC cd r9 (((n8 : Nat) : Int) + 1) v178) 65)
  have m215 := m194.upd hU213 (Ne.symm n71)
  have b216 := hU213.below b195 hge
  have ho217 := own_upd ho196 hU213 oe25
  have ho218 := own_upd ho197 hU213 off186
  intro a219 hA220
  refine qe_ ?_
  refine tn_ ?_
  refine wp_seq ?_
  refine wp_region_lit ?_
  refine qs hA220 rfl (dfa (wn rfl) (hA220.ev rfl) fo23_0 ?_)
  intro a221 hA222
  refine qs hA222 rfl (dld (v := (.int .i64 y44.op)) (wn rfl) (hA222.ev rfl) one3 (m215.cell rfl) ?_)
  intro a223 hA224
  refine qe_ ?_
  refine tn_ ?_
  refine wp_block ?_
  refine wp_seq ?_
  refine wp_region_lit ?_
  rcases Bool.eq_false_or_eq_true (y44.op == 1) with hb225 | hb225
  ·skip
   have hq226 := eq_of_beq hb225
   obtain ⟨d227, hd228, hd229⟩ := sound_1 hsy44 (eq_of_beq hb225)
   refine qs hA224 rfl (dbn (wn rfl) (hA224.ev rfl) (hA224.ev rfl) (b_eq _ _ y44.op 1 true _ hb225) ?_)
   intro a230 hA231
   refine qs hA231 rfl (das (wn rfl) (hA231.ev rfl) ?_)
   intro a232 hA233
   refine qe_ ?_
   refine tn_ ?_
   refine c_true hA233 rfl ?_
   have hA234 : St 133 [(0, (.pointer (some ⟨g, 0, none⟩))), (3, (.pointer (some ⟨g51, 0, none⟩)))] a232 := hA233.sub rfl
   let M235 : Nat → Option (Array Value) := fun _ => none
   have hM235 : M235 = fun _ => none := rfl
   clear_value M235
   have hM235A : ∀ k, M235 k = none := fun k => congrFun hM235 k
   have hM235B : ∀ k, k < Bd → M235 k = none := fun k _ => hM235A k
   refine drawnL (S := SM M235) rfl (tabL [cv (.pointer (some ⟨g, 0, none⟩)), cv (.pointer (some ⟨g51, 1, none⟩)), cv (.int .i64 y44.dst), cv (.pointer (some ⟨g51, 4, none⟩)), cv (.int .i64 y44.imm), cv (.pointer (some ⟨g, 0, none⟩)), cv (.pointer (some ⟨g, 1, none⟩)), cv (.pointer (some ⟨g, 1 + d227, none⟩))]) none (fun _ => none) (fun _ _ => True) [7, 4, 0, 1, 2, 3, 6, 5] [] mixedY SM.refl SM.trans hA234 (by kernel_rfl) (by kernel_rfl) (fun i v u w h => by cases h) ?_ ?_
   ·skip
    refine ed_ (.inl ⟨nofun, rfl, fun x y hS hT hk => dmv (wn rfl) (hT.ev rfl) ⟨SM.refl _, rfl⟩⟩) ?_
    refine ed_ (.inl ⟨nofun, rfl, fun x y hS hT hk => dfa (wn rfl) (hT.ev rfl) fo23_1 ⟨SM.refl _, rfl⟩⟩) ?_
    refine ed_ (.inl ⟨nofun, rfl, fun x y hS hT hk => dld (v := (.int .i64 y44.dst)) (wn rfl) (hk 1 rfl) one3 ((Blk.sm (w := w212.drew) m215 hS (hM235A _)).cell rfl) ⟨SM.refl _, rfl⟩⟩) ?_
    refine ed_ (.inl ⟨nofun, rfl, fun x y hS hT hk => dfa (wn rfl) (hT.ev rfl) fo23_4 ⟨SM.refl _, rfl⟩⟩) ?_
    refine ed_ (.inl ⟨nofun, rfl, fun x y hS hT hk => dld (v := (.int .i64 y44.imm)) (wn rfl) (hk 3 rfl) one3 ((Blk.sm (w := w212.drew) m215 hS (hM235A _)).cell rfl) ⟨SM.refl _, rfl⟩⟩) ?_
    refine ed_ (.inl ⟨nofun, rfl, fun x y hS hT hk => dnc (wn rfl) (hk 0 rfl) ⟨SM.refl _, rfl⟩⟩) ?_
    refine ed_ (.inl ⟨nofun, rfl, fun x y hS hT hk => dfa (wn rfl) (hk 5 rfl) fo65_1 ⟨SM.refl _, rfl⟩⟩) ?_
    refine ed_ (.inl ⟨nofun, rfl, fun x y hS hT hk => dix (j := d227) (p := 1 + d227) (wn rfl) (hk 6 rfl) ((show x.eval (.tmp 63) = .int .i64 y44.dst from (hk 2 rfl)).trans (congrArg (Value.int .i64) hd228)) arr43 (by omega) (by omega) ⟨SM.refl _, rfl⟩⟩) ?_
    exact eachD_one
   rintro a236 w237 hA238 ⟨hS240, hC241⟩
   have hA242 : St 133 [(0, (.pointer (some ⟨g, 0, none⟩))), (65, (.int .i64 y44.imm)), (68, (.pointer (some ⟨g, 1 + d227, none⟩)))] a236 := hA238.cut _ (fc (hA238.get 0 _ rfl) (fc (hC241 4 (Nat.le_of_ble_eq_true rfl)) (fc (hC241 7 (Nat.le_of_ble_eq_true rfl)) fn_)))
   have hG243 : Grow w212 w237 := Grow.trans ((Grow.refl _).drew) (SM.grown (by rw [hM235] at hS240; exact hS240))
   have m244 := m214.grow hG243
   have m245 := m215.grow hG243
   have b246 := blg b216 hG243 (Nat.le_trans hB b216.size)
   have ho247 := owg hG243 ho217
   have ho248 := owg hG243 ho218
   refine dst_ (v := (.int .i64 y44.imm)) (wn rfl) (hA242.ev rfl) (hA242.ev rfl) one3 rfl m244 (by rw [thr_size]; omega) ?_
   intro w249 hU250 m251
   rw [thr_set (by omega)] at m251
   have m252 := m245.upd hU250 (Ne.symm n71)
   have b253 := hU250.below b246 hge
   have ho254 := own_upd ho247 hU250 oe25
   have ho255 := own_upd ho248 hU250 off186
   refine i_norm ?_
   refine i_norm ?_
   refine tn_ ?_
   exact ⟨code.length - (n8 + 1), (by rw [hm12]; omega), (n8 + 1), updR r9 d227 y44.imm, ps10 ++ [((n8 : Nat) : Int)], v178, rfl, (by omega), (by simp; omega), (by omega), hadv16.trans (adv_1 hy45 (eq_of_beq hb225) hd228), (wf_upd hwf17 hwy44.1), hA242.sub rfl, b253, ho254, m251, hge, (Sl.via hcd22 b19 b253), (by rw [List.length_append, ← paE_snoc]; exact ho255), off186⟩
  have hq256 := ne_of_beq hb225
  refine qs hA224 rfl (dbn (wn rfl) (hA224.ev rfl) (hA224.ev rfl) (b_eq _ _ y44.op 1 false _ hb225) ?_)
  intro a257 hA258
  refine qs hA258 rfl (das (wn rfl) (hA258.ev rfl) ?_)
  intro a259 hA260
  refine qe_ ?_
  refine tn_ ?_
  refine c_false hA260 rfl ?_
  refine wp_seq ?_
  refine wp_region_lit ?_
  rcases Bool.eq_false_or_eq_true (y44.op == 2) with hb261 | hb261
  ·skip
   have hq262 := eq_of_beq hb261
   obtain ⟨⟨d263, hd264, hd265⟩, k266, hk267, hk268⟩ := sound_2 hsy44 (eq_of_beq hb261)
   refine qs hA260 rfl (dbn (wn rfl) (hA260.ev rfl) (hA260.ev rfl) (b_eq _ _ y44.op 2 true _ hb261) ?_)
   intro a269 hA270
   refine qs hA270 rfl (das (wn rfl) (hA270.ev rfl) ?_)
   intro a271 hA272
   refine qe_ ?_
   refine tn_ ?_
   refine c_true hA272 rfl ?_
   have hA273 : St 133 [(0, (.pointer (some ⟨g, 0, none⟩))), (3, (.pointer (some ⟨g51, 0, none⟩)))] a271 := hA272.sub rfl
   let M274 : Nat → Option (Array Value) := fun _ => none
   have hM274 : M274 = fun _ => none := rfl
   clear_value M274
   have hM274A : ∀ k, M274 k = none := fun k => congrFun hM274 k
   have hM274B : ∀ k, k < Bd → M274 k = none := fun k _ => hM274A k
   refine drawnL (S := SM M274) rfl (tabL [cv (.pointer (some ⟨g, 0, none⟩)), cv (.pointer (some ⟨g51, 1, none⟩)), cv (.int .i64 y44.dst), cv (.pointer (some ⟨g, 0, none⟩)), cv (.pointer (some ⟨g51, 2, none⟩)), cv (.int .i64 y44.a), cv (.pointer (some ⟨g, 0, none⟩)), cv (.pointer (some ⟨g, 1, none⟩)), cv (.pointer (some ⟨g, 1 + k266, none⟩)), cv (.int .i64 (r9 k266)), cv (.pointer (some ⟨g, 0, none⟩)), cv (.pointer (some ⟨g, 1, none⟩)), cv (.pointer (some ⟨g, 1 + d263, none⟩))]) none (fun _ => none) (fun _ _ => True) [12, 9, 0, 1, 2, 3, 4, 5, 6, 7, 8, 11, 10] [] mixedY SM.refl SM.trans hA273 (by kernel_rfl) (by kernel_rfl) (fun i v u w h => by cases h) ?_ ?_
   ·skip
    refine ed_ (.inl ⟨nofun, rfl, fun x y hS hT hk => dmv (wn rfl) (hT.ev rfl) ⟨SM.refl _, rfl⟩⟩) ?_
    refine ed_ (.inl ⟨nofun, rfl, fun x y hS hT hk => dfa (wn rfl) (hT.ev rfl) fo23_1 ⟨SM.refl _, rfl⟩⟩) ?_
    refine ed_ (.inl ⟨nofun, rfl, fun x y hS hT hk => dld (v := (.int .i64 y44.dst)) (wn rfl) (hk 1 rfl) one3 ((Blk.sm (w := w212.drew) m215 hS (hM274A _)).cell rfl) ⟨SM.refl _, rfl⟩⟩) ?_
    refine ed_ (.inl ⟨nofun, rfl, fun x y hS hT hk => dmv (wn rfl) (hT.ev rfl) ⟨SM.refl _, rfl⟩⟩) ?_
    refine ed_ (.inl ⟨nofun, rfl, fun x y hS hT hk => dfa (wn rfl) (hT.ev rfl) fo23_2 ⟨SM.refl _, rfl⟩⟩) ?_
    refine ed_ (.inl ⟨nofun, rfl, fun x y hS hT hk => dld (v := (.int .i64 y44.a)) (wn rfl) (hk 4 rfl) one3 ((Blk.sm (w := w212.drew) m215 hS (hM274A _)).cell rfl) ⟨SM.refl _, rfl⟩⟩) ?_
    refine ed_ (.inl ⟨nofun, rfl, fun x y hS hT hk => dnc (wn rfl) (hk 3 rfl) ⟨SM.refl _, rfl⟩⟩) ?_
    refine ed_ (.inl ⟨nofun, rfl, fun x y hS hT hk => dfa (wn rfl) (hk 6 rfl) fo65_1 ⟨SM.refl _, rfl⟩⟩) ?_
    refine ed_ (.inl ⟨nofun, rfl, fun x y hS hT hk => dix (j := k266) (p := 1 + k266) (wn rfl) (hk 7 rfl) ((show x.eval (.tmp 76) = .int .i64 y44.a from (hk 5 rfl)).trans (congrArg (Value.int .i64) hk267)) arr43 (by omega) (by omega) ⟨SM.refl _, rfl⟩⟩) ?_
    refine ed_ (.inl ⟨nofun, rfl, fun x y hS hT hk => dld (v := (.int .i64 (r9 k266))) (wn rfl) (hk 8 rfl) one3 ((Blk.sm (w := w212.drew) m214 hS (hM274A _)).cell (thr_get (by omega))) ⟨SM.refl _, rfl⟩⟩) ?_
    refine ed_ (.inl ⟨nofun, rfl, fun x y hS hT hk => dnc (wn rfl) (hk 0 rfl) ⟨SM.refl _, rfl⟩⟩) ?_
    refine ed_ (.inl ⟨nofun, rfl, fun x y hS hT hk => dfa (wn rfl) (hk 10 rfl) fo65_1 ⟨SM.refl _, rfl⟩⟩) ?_
    refine ed_ (.inl ⟨nofun, rfl, fun x y hS hT hk => dix (j := d263) (p := 1 + d263) (wn rfl) (hk 11 rfl) ((show x.eval (.tmp 73) = .int .i64 y44.dst from (hk 2 rfl)).trans (congrArg (Value.int .i64) hd264)) arr43 (by omega) (by omega) ⟨SM.refl _, rfl⟩⟩) ?_
    exact eachD_one
   rintro a275 w276 hA277 ⟨hS279, hC280⟩
   have hA281 : St 133 [(0, (.pointer (some ⟨g, 0, none⟩))), (80, (.int .i64 (r9 k266))), (83, (.pointer (some ⟨g, 1 + d263, none⟩)))] a275 := hA277.cut _ (fc (hA277.get 0 _ rfl) (fc (hC280 9 (Nat.le_of_ble_eq_true rfl)) (fc (hC280 12 (Nat.le_of_ble_eq_true rfl)) fn_)))
   have hG282 : Grow w212 w276 := Grow.trans ((Grow.refl _).drew) (SM.grown (by rw [hM274] at hS279; exact hS279))
   have m283 := m214.grow hG282
   have m284 := m215.grow hG282
   have b285 := blg b216 hG282 (Nat.le_trans hB b216.size)
   have ho286 := owg hG282 ho217
   have ho287 := owg hG282 ho218
   refine dst_ (v := (.int .i64 (r9 k266))) (wn rfl) (hA281.ev rfl) (hA281.ev rfl) one3 rfl m283 (by rw [thr_size]; omega) ?_
   intro w288 hU289 m290
   rw [thr_set (by omega)] at m290
   have m291 := m284.upd hU289 (Ne.symm n71)
   have b292 := hU289.below b285 hge
   have ho293 := own_upd ho286 hU289 oe25
   have ho294 := own_upd ho287 hU289 off186
   refine i_norm ?_
   refine i_norm ?_
   refine tn_ ?_
   exact ⟨code.length - (n8 + 1), (by rw [hm12]; omega), (n8 + 1), updR r9 d263 (r9 k266), ps10 ++ [((n8 : Nat) : Int)], v178, rfl, (by omega), (by simp; omega), (by omega), hadv16.trans (adv_2 hy45 (eq_of_beq hb261) hd264 hk267), (wf_upd hwf17 (hwf17 k266)), hA281.sub rfl, b292, ho293, m290, hge, (Sl.via hcd22 b19 b292), (by rw [List.length_append, ← paE_snoc]; exact ho294), off186⟩
  have hq295 := ne_of_beq hb261
  refine qs hA260 rfl (dbn (wn rfl) (hA260.ev rfl) (hA260.ev rfl) (b_eq _ _ y44.op 2 false _ hb261) ?_)
  intro a296 hA297
  refine qs hA297 rfl (das (wn rfl) (hA297.ev rfl) ?_)
  intro a298 hA299
  refine qe_ ?_
  refine tn_ ?_
  refine c_false hA299 rfl ?_
  refine wp_seq ?_
  refine wp_region_lit ?_
  rcases Bool.eq_false_or_eq_true (y44.op == 3) with hb300 | hb300
  ·skip
   have hq301 := eq_of_beq hb300
   obtain ⟨⟨d302, hd303, hd304⟩, ⟨k305, hk306, hk307⟩, hrb308⟩ := sound_3 hsy44 (eq_of_beq hb300)
   refine qs hA299 rfl (dbn (wn rfl) (hA299.ev rfl) (hA299.ev rfl) (b_eq _ _ y44.op 3 true _ hb300) ?_)
   intro a309 hA310
   refine qs hA310 rfl (das (wn rfl) (hA310.ev rfl) ?_)
   intro a311 hA312
   refine qe_ ?_
   refine tn_ ?_
   refine c_true hA312 rfl ?_
   refine wp_seq ?_
   refine wp_region_lit ?_
   refine qs hA312 rfl (dfa (wn rfl) (hA312.ev rfl) fo23_4 ?_)
   intro a313 hA314
   refine qs hA314 rfl (dld (v := (.int .i64 y44.imm)) (wn rfl) (hA314.ev rfl) one3 (m215.cell rfl) ?_)
   intro a315 hA316
   refine qs hA316 rfl (das (wn rfl) (hA316.ev rfl) ?_)
   intro a317 hA318
   refine qe_ ?_
   refine tn_ ?_
   refine wp_seq ?_
   refine wp_seq ?_
   refine wp_region_lit ?_
   refine qs hA318 rfl (dfa (wn rfl) (hA318.ev rfl) fo23_3 ?_)
   intro a319 hA320
   refine qs hA320 rfl (dld (v := (.int .i64 y44.b)) (wn rfl) (hA320.ev rfl) one3 (m215.cell rfl) ?_)
   intro a321 hA322
   rcases Bool.eq_false_or_eq_true (decide (y44.b ≥ 0)) with hb323 | hb323
   ·skip
    have hq324 := of_decide_eq_true hb323
    obtain ⟨e325, hk326, hk327⟩ := ron_nat hrb308 (of_decide_eq_true hb323)
    refine qs hA322 rfl (dbn (wn rfl) (hA322.ev rfl) (hA322.ev rfl) (b_ge _ _ y44.b 0 true _ hb323) ?_)
    intro a328 hA329
    refine qe_ ?_
    refine tn_ ?_
    refine c_true hA329 rfl ?_
    have hA330 : St 133 [(0, (.pointer (some ⟨g, 0, none⟩))), (3, (.pointer (some ⟨g51, 0, none⟩)))] a328 := hA329.sub rfl
    let M331 : Nat → Option (Array Value) := fun _ => none
    have hM331 : M331 = fun _ => none := rfl
    clear_value M331
    have hM332 : M331 g = none := (congrFun hM331 g)
    have hM333 : M331 g51 = none := (congrFun hM331 g51)
    have hM331B : ∀ k, k < Bd → M331 k = none := (fun k hk => (congrFun hM331 k))
    refine drawn (S := SM M331) (tabL [cv (.pointer (some ⟨g, 0, none⟩)), cv (.pointer (some ⟨g51, 3, none⟩)), cv (.int .i64 y44.b), cv (.pointer (some ⟨g, 0, none⟩)), cv (.pointer (some ⟨g, 1, none⟩)), cv (.pointer (some ⟨g, 1 + e325, none⟩)), cv (.int .i64 (r9 e325)), cv (.int .i64 (r9 e325))]) mixedY SM.refl SM.trans SM.drew hA330 (by kernel_rfl) ?_ ?_
    ·skip
     refine ec_ (fun x y hS hT hk => dmv (wn rfl) (hT.ev rfl) ⟨SM.refl _, rfl⟩) ?_
     refine ec_ (fun x y hS hT hk => dfa (wn rfl) (hT.ev rfl) fo23_3 ⟨SM.refl _, rfl⟩) ?_
     refine ec_ (fun x y hS hT hk => dld (v := (.int .i64 y44.b)) (wn rfl) (hk 1 rfl) one3 ((Blk.sm (w := w212.drew) m215 hS hM333).cell rfl) ⟨SM.refl _, rfl⟩) ?_
     refine ec_ (fun x y hS hT hk => dnc (wn rfl) (hk 0 rfl) ⟨SM.refl _, rfl⟩) ?_
     refine ec_ (fun x y hS hT hk => dfa (wn rfl) (hk 3 rfl) fo65_1 ⟨SM.refl _, rfl⟩) ?_
     refine ec_ (fun x y hS hT hk => dix (j := e325) (p := 1 + e325) (wn rfl) (hk 4 rfl) ((show x.eval (.tmp 93) = .int .i64 y44.b from (hk 2 rfl)).trans (congrArg (Value.int .i64) hk326)) arr43 (by omega) (by omega) ⟨SM.refl _, rfl⟩) ?_
     refine ec_ (fun x y hS hT hk => dld (v := (.int .i64 (r9 e325))) (wn rfl) (hk 5 rfl) one3 ((Blk.sm (w := w212.drew) m214 hS hM332).cell (thr_get (by omega))) ⟨SM.refl _, rfl⟩) ?_
     refine ec_ (fun x y hS hT hk => das (wn rfl) (hk 6 rfl) ⟨SM.refl _, rfl⟩) ?_
     exact each_nil
    intro f334 a335 w336 hS337 hC338 hA339
    have hA340 : St 133 [(0, (.pointer (some ⟨g, 0, none⟩))), (3, (.pointer (some ⟨g51, 0, none⟩))), (4, (.int .i64 (r9 e325)))] a335 := hA339.cut _ (fc (hA339.get 0 _ rfl) (fc (hA339.get 3 _ rfl) (fc ((hA339.get 4 _ rfl).trans (hC338 7 (Nat.le_of_ble_eq_true rfl))) fn_)))
    have m341 := m214.sm hS337 hM332
    have m342 := m215.sm hS337 hM333
    have b343 := hS337.below b216 (Nat.le_trans hB b216.size) hM331B
    have ho344 := own_sm ho217 hS337 (fun k => congrFun hM331 k)
    have ho345 := own_sm ho218 hS337 (fun k => congrFun hM331 k)
    refine tn_ ?_
    have hA346 : St 133 [(0, (.pointer (some ⟨g, 0, none⟩))), (3, (.pointer (some ⟨g51, 0, none⟩))), (4, (.int .i64 (r9 e325)))] a335 := hA340.sub rfl
    let M347 : Nat → Option (Array Value) := fun _ => none
    have hM347 : M347 = fun _ => none := rfl
    clear_value M347
    have hM347A : ∀ k, M347 k = none := fun k => congrFun hM347 k
    have hM347B : ∀ k, k < Bd → M347 k = none := fun k _ => hM347A k
    refine drawnL (S := SM M347) rfl (tabL [cv (.pointer (some ⟨g, 0, none⟩)), cv (.pointer (some ⟨g51, 1, none⟩)), cv (.int .i64 y44.dst), cv (.pointer (some ⟨g51, 9, none⟩)), cv (.int .i64 y44.fn), cv (.pointer (some ⟨g, 0, none⟩)), cv (.pointer (some ⟨g51, 2, none⟩)), cv (.int .i64 y44.a), cv (.pointer (some ⟨g, 0, none⟩)), cv (.pointer (some ⟨g, 1, none⟩)), cv (.pointer (some ⟨g, 1 + k305, none⟩)), cv (.int .i64 (r9 k305)), cv (.int .i64 (r9 e325)), cv (.int .i64 (aluR y44.fn (r9 k305) (r9 e325))), cv (.pointer (some ⟨g, 0, none⟩)), cv (.pointer (some ⟨g, 1, none⟩)), cv (.pointer (some ⟨g, 1 + d302, none⟩))]) none (fun _ => none) (fun _ _ => True) [16, 13, 0, 1, 2, 3, 4, 5, 6, 7, 8, 9, 10, 11, 12, 15, 14] [] mixedY SM.refl SM.trans hA346 (by kernel_rfl) (by kernel_rfl) (fun i v u w h => by cases h) ?_ ?_
    ·skip
     refine ed_ (.inl ⟨nofun, rfl, fun x y hS hT hk => dmv (wn rfl) (hT.ev rfl) ⟨SM.refl _, rfl⟩⟩) ?_
     refine ed_ (.inl ⟨nofun, rfl, fun x y hS hT hk => dfa (wn rfl) (hT.ev rfl) fo23_1 ⟨SM.refl _, rfl⟩⟩) ?_
     refine ed_ (.inl ⟨nofun, rfl, fun x y hS hT hk => dld (v := (.int .i64 y44.dst)) (wn rfl) (hk 1 rfl) one3 ((Blk.sm (w := w336.drew) m342 hS (hM347A _)).cell rfl) ⟨SM.refl _, rfl⟩⟩) ?_
     refine ed_ (.inl ⟨nofun, rfl, fun x y hS hT hk => dfa (wn rfl) (hT.ev rfl) fo23_9 ⟨SM.refl _, rfl⟩⟩) ?_
     refine ed_ (.inl ⟨nofun, rfl, fun x y hS hT hk => dld (v := (.int .i64 y44.fn)) (wn rfl) (hk 3 rfl) one3 ((Blk.sm (w := w336.drew) m342 hS (hM347A _)).cell rfl) ⟨SM.refl _, rfl⟩⟩) ?_
     refine ed_ (.inl ⟨nofun, rfl, fun x y hS hT hk => dmv (wn rfl) (hT.ev rfl) ⟨SM.refl _, rfl⟩⟩) ?_
     refine ed_ (.inl ⟨nofun, rfl, fun x y hS hT hk => dfa (wn rfl) (hT.ev rfl) fo23_2 ⟨SM.refl _, rfl⟩⟩) ?_
     refine ed_ (.inl ⟨nofun, rfl, fun x y hS hT hk => dld (v := (.int .i64 y44.a)) (wn rfl) (hk 6 rfl) one3 ((Blk.sm (w := w336.drew) m342 hS (hM347A _)).cell rfl) ⟨SM.refl _, rfl⟩⟩) ?_
     refine ed_ (.inl ⟨nofun, rfl, fun x y hS hT hk => dnc (wn rfl) (hk 5 rfl) ⟨SM.refl _, rfl⟩⟩) ?_
     refine ed_ (.inl ⟨nofun, rfl, fun x y hS hT hk => dfa (wn rfl) (hk 8 rfl) fo65_1 ⟨SM.refl _, rfl⟩⟩) ?_
     refine ed_ (.inl ⟨nofun, rfl, fun x y hS hT hk => dix (j := k305) (p := 1 + k305) (wn rfl) (hk 9 rfl) ((show x.eval (.tmp 105) = .int .i64 y44.a from (hk 7 rfl)).trans (congrArg (Value.int .i64) hk306)) arr43 (by omega) (by omega) ⟨SM.refl _, rfl⟩⟩) ?_
     refine ed_ (.inl ⟨nofun, rfl, fun x y hS hT hk => dld (v := (.int .i64 (r9 k305))) (wn rfl) (hk 10 rfl) one3 ((Blk.sm (w := w336.drew) m341 hS (hM347A _)).cell (thr_get (by omega))) ⟨SM.refl _, rfl⟩⟩) ?_
     refine ed_ (.inl ⟨nofun, rfl, fun x y hS hT hk => dmv (wn rfl) (hT.ev rfl) ⟨SM.refl _, rfl⟩⟩) ?_
     refine ed_ (.inl ⟨nofun, rfl, fun x y hS hT hk => dcl (wn rfl) ent50 (map3 (show x.eval _ = (.int .i64 y44.fn) from (hk 4 rfl)) (show x.eval _ = (.int .i64 (r9 k305)) from (hk 11 rfl)) (show x.eval _ = (.int .i64 (r9 e325)) from (hk 12 rfl))) (ralu_any y44.fn (r9 k305) (r9 e325) y) (fun _ _ ⟨he, hw⟩ => ⟨(.int .i64 (aluR y44.fn (r9 k305) (r9 e325))), he, hw ▸ SM.refl _, rfl⟩)⟩) ?_
     refine ed_ (.inl ⟨nofun, rfl, fun x y hS hT hk => dnc (wn rfl) (hk 0 rfl) ⟨SM.refl _, rfl⟩⟩) ?_
     refine ed_ (.inl ⟨nofun, rfl, fun x y hS hT hk => dfa (wn rfl) (hk 14 rfl) fo65_1 ⟨SM.refl _, rfl⟩⟩) ?_
     refine ed_ (.inl ⟨nofun, rfl, fun x y hS hT hk => dix (j := d302) (p := 1 + d302) (wn rfl) (hk 15 rfl) ((show x.eval (.tmp 100) = .int .i64 y44.dst from (hk 2 rfl)).trans (congrArg (Value.int .i64) hd303)) arr43 (by omega) (by omega) ⟨SM.refl _, rfl⟩⟩) ?_
     exact eachD_one
    rintro a348 w349 hA350 ⟨hS352, hC353⟩
    have hA354 : St 133 [(0, (.pointer (some ⟨g, 0, none⟩))), (111, (.int .i64 (aluR y44.fn (r9 k305) (r9 e325)))), (114, (.pointer (some ⟨g, 1 + d302, none⟩)))] a348 := hA350.cut _ (fc (hA350.get 0 _ rfl) (fc (hC353 13 (Nat.le_of_ble_eq_true rfl)) (fc (hC353 16 (Nat.le_of_ble_eq_true rfl)) fn_)))
    have hG355 : Grow w336 w349 := Grow.trans ((Grow.refl _).drew) (SM.grown (by rw [hM347] at hS352; exact hS352))
    have m356 := m341.grow hG355
    have m357 := m342.grow hG355
    have b358 := blg b343 hG355 (Nat.le_trans hB b343.size)
    have ho359 := owg hG355 ho344
    have ho360 := owg hG355 ho345
    refine dst_ (v := (.int .i64 (aluR y44.fn (r9 k305) (r9 e325)))) (wn rfl) (hA354.ev rfl) (hA354.ev rfl) one3 rfl m356 (by rw [thr_size]; omega) ?_
    intro w361 hU362 m363
    rw [thr_set (by omega)] at m363
    have m364 := m357.upd hU362 (Ne.symm n71)
    have b365 := hU362.below b358 hge
    have ho366 := own_upd ho359 hU362 oe25
    have ho367 := own_upd ho360 hU362 off186
    refine i_norm ?_
    refine i_norm ?_
    refine tn_ ?_
    exact ⟨code.length - (n8 + 1), (by rw [hm12]; omega), (n8 + 1), updR r9 d302 (aluR y44.fn (r9 k305) (r9 e325)), ps10 ++ [((n8 : Nat) : Int)], v178, rfl, (by omega), (by simp; omega), (by omega), hadv16.trans (adv_3 hy45 (eq_of_beq hb300) hd303 hk306 (b_get hk326)), (wf_upd hwf17 (alu_wf _ (hwf17 k305) (hwf17 e325))), hA354.sub rfl, b365, ho366, m363, hge, (Sl.via hcd22 b19 b365), (by rw [List.length_append, ← paE_snoc]; exact ho367), off186⟩
   have hq368 := of_decide_eq_false hb323
   refine qs hA322 rfl (dbn (wn rfl) (hA322.ev rfl) (hA322.ev rfl) (b_ge _ _ y44.b 0 false _ hb323) ?_)
   intro a369 hA370
   refine qe_ ?_
   refine tn_ ?_
   refine c_false hA370 rfl ?_
   refine wp_skip ?_
   refine tn_ ?_
   have hA371 : St 133 [(0, (.pointer (some ⟨g, 0, none⟩))), (3, (.pointer (some ⟨g51, 0, none⟩))), (4, (.int .i64 y44.imm))] a369 := hA370.sub rfl
   let M372 : Nat → Option (Array Value) := fun _ => none
   have hM372 : M372 = fun _ => none := rfl
   clear_value M372
   have hM372A : ∀ k, M372 k = none := fun k => congrFun hM372 k
   have hM372B : ∀ k, k < Bd → M372 k = none := fun k _ => hM372A k
   refine drawnL (S := SM M372) rfl (tabL [cv (.pointer (some ⟨g, 0, none⟩)), cv (.pointer (some ⟨g51, 1, none⟩)), cv (.int .i64 y44.dst), cv (.pointer (some ⟨g51, 9, none⟩)), cv (.int .i64 y44.fn), cv (.pointer (some ⟨g, 0, none⟩)), cv (.pointer (some ⟨g51, 2, none⟩)), cv (.int .i64 y44.a), cv (.pointer (some ⟨g, 0, none⟩)), cv (.pointer (some ⟨g, 1, none⟩)), cv (.pointer (some ⟨g, 1 + k305, none⟩)), cv (.int .i64 (r9 k305)), cv (.int .i64 y44.imm), cv (.int .i64 (aluR y44.fn (r9 k305) y44.imm)), cv (.pointer (some ⟨g, 0, none⟩)), cv (.pointer (some ⟨g, 1, none⟩)), cv (.pointer (some ⟨g, 1 + d302, none⟩))]) none (fun _ => none) (fun _ _ => True) [16, 13, 0, 1, 2, 3, 4, 5, 6, 7, 8, 9, 10, 11, 12, 15, 14] [] mixedY SM.refl SM.trans hA371 (by kernel_rfl) (by kernel_rfl) (fun i v u w h => by cases h) ?_ ?_
   ·skip
    refine ed_ (.inl ⟨nofun, rfl, fun x y hS hT hk => dmv (wn rfl) (hT.ev rfl) ⟨SM.refl _, rfl⟩⟩) ?_
    refine ed_ (.inl ⟨nofun, rfl, fun x y hS hT hk => dfa (wn rfl) (hT.ev rfl) fo23_1 ⟨SM.refl _, rfl⟩⟩) ?_
    refine ed_ (.inl ⟨nofun, rfl, fun x y hS hT hk => dld (v := (.int .i64 y44.dst)) (wn rfl) (hk 1 rfl) one3 ((Blk.sm (w := w212.drew) m215 hS (hM372A _)).cell rfl) ⟨SM.refl _, rfl⟩⟩) ?_
    refine ed_ (.inl ⟨nofun, rfl, fun x y hS hT hk => dfa (wn rfl) (hT.ev rfl) fo23_9 ⟨SM.refl _, rfl⟩⟩) ?_
    refine ed_ (.inl ⟨nofun, rfl, fun x y hS hT hk => dld (v := (.int .i64 y44.fn)) (wn rfl) (hk 3 rfl) one3 ((Blk.sm (w := w212.drew) m215 hS (hM372A _)).cell rfl) ⟨SM.refl _, rfl⟩⟩) ?_
    refine ed_ (.inl ⟨nofun, rfl, fun x y hS hT hk => dmv (wn rfl) (hT.ev rfl) ⟨SM.refl _, rfl⟩⟩) ?_
    refine ed_ (.inl ⟨nofun, rfl, fun x y hS hT hk => dfa (wn rfl) (hT.ev rfl) fo23_2 ⟨SM.refl _, rfl⟩⟩) ?_
    refine ed_ (.inl ⟨nofun, rfl, fun x y hS hT hk => dld (v := (.int .i64 y44.a)) (wn rfl) (hk 6 rfl) one3 ((Blk.sm (w := w212.drew) m215 hS (hM372A _)).cell rfl) ⟨SM.refl _, rfl⟩⟩) ?_
    refine ed_ (.inl ⟨nofun, rfl, fun x y hS hT hk => dnc (wn rfl) (hk 5 rfl) ⟨SM.refl _, rfl⟩⟩) ?_
    refine ed_ (.inl ⟨nofun, rfl, fun x y hS hT hk => dfa (wn rfl) (hk 8 rfl) fo65_1 ⟨SM.refl _, rfl⟩⟩) ?_
    refine ed_ (.inl ⟨nofun, rfl, fun x y hS hT hk => dix (j := k305) (p := 1 + k305) (wn rfl) (hk 9 rfl) ((show x.eval (.tmp 105) = .int .i64 y44.a from (hk 7 rfl)).trans (congrArg (Value.int .i64) hk306)) arr43 (by omega) (by omega) ⟨SM.refl _, rfl⟩⟩) ?_
    refine ed_ (.inl ⟨nofun, rfl, fun x y hS hT hk => dld (v := (.int .i64 (r9 k305))) (wn rfl) (hk 10 rfl) one3 ((Blk.sm (w := w212.drew) m214 hS (hM372A _)).cell (thr_get (by omega))) ⟨SM.refl _, rfl⟩⟩) ?_
    refine ed_ (.inl ⟨nofun, rfl, fun x y hS hT hk => dmv (wn rfl) (hT.ev rfl) ⟨SM.refl _, rfl⟩⟩) ?_
    refine ed_ (.inl ⟨nofun, rfl, fun x y hS hT hk => dcl (wn rfl) ent50 (map3 (show x.eval _ = (.int .i64 y44.fn) from (hk 4 rfl)) (show x.eval _ = (.int .i64 (r9 k305)) from (hk 11 rfl)) (show x.eval _ = (.int .i64 y44.imm) from (hk 12 rfl))) (ralu_any y44.fn (r9 k305) y44.imm y) (fun _ _ ⟨he, hw⟩ => ⟨(.int .i64 (aluR y44.fn (r9 k305) y44.imm)), he, hw ▸ SM.refl _, rfl⟩)⟩) ?_
    refine ed_ (.inl ⟨nofun, rfl, fun x y hS hT hk => dnc (wn rfl) (hk 0 rfl) ⟨SM.refl _, rfl⟩⟩) ?_
    refine ed_ (.inl ⟨nofun, rfl, fun x y hS hT hk => dfa (wn rfl) (hk 14 rfl) fo65_1 ⟨SM.refl _, rfl⟩⟩) ?_
    refine ed_ (.inl ⟨nofun, rfl, fun x y hS hT hk => dix (j := d302) (p := 1 + d302) (wn rfl) (hk 15 rfl) ((show x.eval (.tmp 100) = .int .i64 y44.dst from (hk 2 rfl)).trans (congrArg (Value.int .i64) hd303)) arr43 (by omega) (by omega) ⟨SM.refl _, rfl⟩⟩) ?_
    exact eachD_one
   rintro a373 w374 hA375 ⟨hS377, hC378⟩
   have hA379 : St 133 [(0, (.pointer (some ⟨g, 0, none⟩))), (111, (.int .i64 (aluR y44.fn (r9 k305) y44.imm))), (114, (.pointer (some ⟨g, 1 + d302, none⟩)))] a373 := hA375.cut _ (fc (hA375.get 0 _ rfl) (fc (hC378 13 (Nat.le_of_ble_eq_true rfl)) (fc (hC378 16 (Nat.le_of_ble_eq_true rfl)) fn_)))
   have hG380 : Grow w212 w374 := Grow.trans ((Grow.refl _).drew) (SM.grown (by rw [hM372] at hS377; exact hS377))
   have m381 := m214.grow hG380
   have m382 := m215.grow hG380
   have b383 := blg b216 hG380 (Nat.le_trans hB b216.size)
   have ho384 := owg hG380 ho217
   have ho385 := owg hG380 ho218
   refine dst_ (v := (.int .i64 (aluR y44.fn (r9 k305) y44.imm))) (wn rfl) (hA379.ev rfl) (hA379.ev rfl) one3 rfl m381 (by rw [thr_size]; omega) ?_
   intro w386 hU387 m388
   rw [thr_set (by omega)] at m388
   have m389 := m382.upd hU387 (Ne.symm n71)
   have b390 := hU387.below b383 hge
   have ho391 := own_upd ho384 hU387 oe25
   have ho392 := own_upd ho385 hU387 off186
   refine i_norm ?_
   refine i_norm ?_
   refine tn_ ?_
   exact ⟨code.length - (n8 + 1), (by rw [hm12]; omega), (n8 + 1), updR r9 d302 (aluR y44.fn (r9 k305) y44.imm), ps10 ++ [((n8 : Nat) : Int)], v178, rfl, (by omega), (by simp; omega), (by omega), hadv16.trans (adv_3 hy45 (eq_of_beq hb300) hd303 hk306 (b_none hrb308 (of_decide_eq_false hb323))), (wf_upd hwf17 (alu_wf _ (hwf17 k305) hwy44.1)), hA379.sub rfl, b390, ho391, m388, hge, (Sl.via hcd22 b19 b390), (by rw [List.length_append, ← paE_snoc]; exact ho392), off186⟩
  have hq393 := ne_of_beq hb300
  refine qs hA299 rfl (dbn (wn rfl) (hA299.ev rfl) (hA299.ev rfl) (b_eq _ _ y44.op 3 false _ hb300) ?_)
  intro a394 hA395
  refine qs hA395 rfl (das (wn rfl) (hA395.ev rfl) ?_)
  intro a396 hA397
  refine qe_ ?_
  refine tn_ ?_
  refine c_false hA397 rfl ?_
  refine wp_seq ?_
  refine wp_region_lit ?_
  have h9398 : y44.op = 9 := Classical.byContradiction fun h9 => sound_no hsy44 hb93 (ne_of_beq hb225) (ne_of_beq hb261) (ne_of_beq hb300) (ne_of_beq hb128) (ne_of_beq hb157) h9
  obtain ⟨k399, hk400, hk401⟩ := sound_9 hsy44 h9398
  have hb402 : (y44.op == 9) = true := beq_iff_eq.2 h9398
  refine qs hA397 rfl (dbn (wn rfl) (hA397.ev rfl) (hA397.ev rfl) (b_eq _ _ y44.op 9 true _ hb402) ?_)
  intro a403 hA404
  refine qs hA404 rfl (das (wn rfl) (hA404.ev rfl) ?_)
  intro a405 hA406
  refine qe_ ?_
  refine tn_ ?_
  refine c_true hA406 rfl ?_
  refine wp_seq ?_
  rcases Bool.eq_false_or_eq_true (r9 k399 == 0) with hb407 | hb407
  ·skip
   have hq408 := eq_of_beq hb407
   rcases Bool.eq_false_or_eq_true (y44.zero) with hb409 | hb409
   ·skip
    have hA411 : St 133 [(0, (.pointer (some ⟨g, 0, none⟩))), (3, (.pointer (some ⟨g51, 0, none⟩)))] a405 := hA406.sub rfl
    let M412 : Nat → Option (Array Value) := fun _ => none
    have hM412 : M412 = fun _ => none := rfl
    clear_value M412
    have hM413 : M412 g = none := (congrFun hM412 g)
    have hM414 : M412 g51 = none := (congrFun hM412 g51)
    have hM412B : ∀ k, k < Bd → M412 k = none := (fun k hk => (congrFun hM412 k))
    refine drawn (S := SM M412) (tabL [cv (.pointer (some ⟨g, 0, none⟩)), cv (.pointer (some ⟨g51, 2, none⟩)), cv (.int .i64 y44.a), cv (.pointer (some ⟨g, 0, none⟩)), cv (.pointer (some ⟨g, 1, none⟩)), cv (.pointer (some ⟨g, 1 + k399, none⟩)), cv (.int .i64 (r9 k399)), cv (.bool true), cv (.pointer (some ⟨g51, 16, none⟩)), cv (.bool true), cv (.bool true)]) mixedY SM.refl SM.trans SM.drew hA411 (by kernel_rfl) ?_ ?_
    ·skip
     refine ec_ (fun x y hS hT hk => dmv (wn rfl) (hT.ev rfl) ⟨SM.refl _, rfl⟩) ?_
     refine ec_ (fun x y hS hT hk => dfa (wn rfl) (hT.ev rfl) fo23_2 ⟨SM.refl _, rfl⟩) ?_
     refine ec_ (fun x y hS hT hk => dld (v := (.int .i64 y44.a)) (wn rfl) (hk 1 rfl) one3 ((Blk.sm (w := w212.drew) m215 hS hM414).cell rfl) ⟨SM.refl _, rfl⟩) ?_
     refine ec_ (fun x y hS hT hk => dnc (wn rfl) (hk 0 rfl) ⟨SM.refl _, rfl⟩) ?_
     refine ec_ (fun x y hS hT hk => dfa (wn rfl) (hk 3 rfl) fo65_1 ⟨SM.refl _, rfl⟩) ?_
     refine ec_ (fun x y hS hT hk => dix (j := k399) (p := 1 + k399) (wn rfl) (hk 4 rfl) ((show x.eval (.tmp 119) = .int .i64 y44.a from (hk 2 rfl)).trans (congrArg (Value.int .i64) hk400)) arr43 (by omega) (by omega) ⟨SM.refl _, rfl⟩) ?_
     refine ec_ (fun x y hS hT hk => dld (v := (.int .i64 (r9 k399))) (wn rfl) (hk 5 rfl) one3 ((Blk.sm (w := w212.drew) m214 hS hM413).cell (thr_get (by omega))) ⟨SM.refl _, rfl⟩) ?_
     refine ec_ (fun x y hS hT hk => dbn (wn rfl) (hk 6 rfl) (hT.ev rfl) (b_eq _ _ (r9 k399) 0 true _ hb407) ⟨SM.refl _, rfl⟩) ?_
     refine ec_ (fun x y hS hT hk => dfa (wn rfl) (hT.ev rfl) fo23_16 ⟨SM.refl _, rfl⟩) ?_
     refine ec_ (fun x y hS hT hk => dld (v := (.bool true)) (wn rfl) (hk 8 rfl) one4 ((Blk.sm (w := w212.drew) m215 hS hM414).cell (congrArg (fun b => some (Value.bool b)) hb409)) ⟨SM.refl _, rfl⟩) ?_
     refine ec_ (fun x y hS hT hk => dbn (wn rfl) (hk 7 rfl) (hk 9 rfl) (b_eqb _ _ true true true _ Try.underlying4 rfl) ⟨SM.refl _, rfl⟩) ?_
     exact each_nil
    intro f415 a416 w417 hS418 hC419 hA420
    have hA421 : St 133 [(0, (.pointer (some ⟨g, 0, none⟩))), (3, (.pointer (some ⟨g51, 0, none⟩))), (127, (.bool true))] a416 := hA420.cut _ (fc (hA420.get 0 _ rfl) (fc (hA420.get 3 _ rfl) (fc ((hA420.get 127 _ rfl).trans (hC419 10 (Nat.le_of_ble_eq_true rfl))) fn_)))
    have m422 := m214.sm hS418 hM413
    have m423 := m215.sm hS418 hM414
    have b424 := hS418.below b216 (Nat.le_trans hB b216.size) hM412B
    have ho425 := own_sm ho217 hS418 (fun k => congrFun hM412 k)
    have ho426 := own_sm ho218 hS418 (fun k => congrFun hM412 k)
    refine tn_ ?_
    refine c_true hA421 rfl ?_
    refine wp_region_lit ?_
    refine qs hA421 rfl (dmv (wn rfl) (hA421.ev rfl) ?_)
    intro a427 hA428
    refine qs hA428 rfl (dfa (wn rfl) (hA428.ev rfl) fo23_15 ?_)
    intro a429 hA430
    refine qs hA430 rfl (dld (v := (.int .i64 y44.to)) (wn rfl) (hA430.ev rfl) one3 (m423.cell rfl) ?_)
    intro a431 hA432
    refine qs hA432 rfl (dnc (wn rfl) (hA432.ev rfl) ?_)
    intro a433 hA434
    refine qs hA434 rfl (dfa (wn rfl) (hA434.ev rfl) fo65_2 ?_)
    intro a435 hA436
    refine qs hA436 rfl (dst_ (v := (.int .i64 y44.to)) (wn rfl) (hA436.ev rfl) (hA436.ev rfl) one3 rfl m422 (Nat.le_of_ble_eq_true rfl) ?_)
    intro w437 hU438 (m439 : Blk w437 g (thrC cd r9 y44.to v178) 65)
    have m440 := m423.upd hU438 (Ne.symm n71)
    have b441 := hU438.below b424 hge
    have ho442 := own_upd ho425 hU438 oe25
    have ho443 := own_upd ho426 hU438 off186
    intro a444 hA445
    refine qe_ ?_
    refine i_norm ?_
    refine i_norm ?_
    refine tn_ ?_
    have hr9448 := (right_yes hry44).2 (eq_of_beq hb402)
    obtain ⟨mt446, hmt447⟩ := Int.eq_ofNat_of_zero_le (show 0 ≤ y44.to by omega)
    exact ⟨code.length - mt446, (by rw [hm12]; omega), mt446, r9, ps10 ++ [((n8 : Nat) : Int)], v178, rfl, (by omega), (by simp; omega), (by omega), hadv16.trans (adv_9y hy45 (eq_of_beq hb402) hk400 hmt447 (by omega) (hb407.trans hb409.symm)), hwf17, hA445.sub rfl, b441, ho442, (by rw [← hmt447]; exact m439), hge, (Sl.via hcd22 b19 b441), (by rw [List.length_append, ← paE_snoc]; exact ho443), off186⟩
   have hA450 : St 133 [(0, (.pointer (some ⟨g, 0, none⟩))), (3, (.pointer (some ⟨g51, 0, none⟩)))] a405 := hA406.sub rfl
   let M451 : Nat → Option (Array Value) := fun _ => none
   have hM451 : M451 = fun _ => none := rfl
   clear_value M451
   have hM452 : M451 g = none := (congrFun hM451 g)
   have hM453 : M451 g51 = none := (congrFun hM451 g51)
   have hM451B : ∀ k, k < Bd → M451 k = none := (fun k hk => (congrFun hM451 k))
   refine drawn (S := SM M451) (tabL [cv (.pointer (some ⟨g, 0, none⟩)), cv (.pointer (some ⟨g51, 2, none⟩)), cv (.int .i64 y44.a), cv (.pointer (some ⟨g, 0, none⟩)), cv (.pointer (some ⟨g, 1, none⟩)), cv (.pointer (some ⟨g, 1 + k399, none⟩)), cv (.int .i64 (r9 k399)), cv (.bool true), cv (.pointer (some ⟨g51, 16, none⟩)), cv (.bool false), cv (.bool false)]) mixedY SM.refl SM.trans SM.drew hA450 (by kernel_rfl) ?_ ?_
   ·skip
    refine ec_ (fun x y hS hT hk => dmv (wn rfl) (hT.ev rfl) ⟨SM.refl _, rfl⟩) ?_
    refine ec_ (fun x y hS hT hk => dfa (wn rfl) (hT.ev rfl) fo23_2 ⟨SM.refl _, rfl⟩) ?_
    refine ec_ (fun x y hS hT hk => dld (v := (.int .i64 y44.a)) (wn rfl) (hk 1 rfl) one3 ((Blk.sm (w := w212.drew) m215 hS hM453).cell rfl) ⟨SM.refl _, rfl⟩) ?_
    refine ec_ (fun x y hS hT hk => dnc (wn rfl) (hk 0 rfl) ⟨SM.refl _, rfl⟩) ?_
    refine ec_ (fun x y hS hT hk => dfa (wn rfl) (hk 3 rfl) fo65_1 ⟨SM.refl _, rfl⟩) ?_
    refine ec_ (fun x y hS hT hk => dix (j := k399) (p := 1 + k399) (wn rfl) (hk 4 rfl) ((show x.eval (.tmp 119) = .int .i64 y44.a from (hk 2 rfl)).trans (congrArg (Value.int .i64) hk400)) arr43 (by omega) (by omega) ⟨SM.refl _, rfl⟩) ?_
    refine ec_ (fun x y hS hT hk => dld (v := (.int .i64 (r9 k399))) (wn rfl) (hk 5 rfl) one3 ((Blk.sm (w := w212.drew) m214 hS hM452).cell (thr_get (by omega))) ⟨SM.refl _, rfl⟩) ?_
    refine ec_ (fun x y hS hT hk => dbn (wn rfl) (hk 6 rfl) (hT.ev rfl) (b_eq _ _ (r9 k399) 0 true _ hb407) ⟨SM.refl _, rfl⟩) ?_
    refine ec_ (fun x y hS hT hk => dfa (wn rfl) (hT.ev rfl) fo23_16 ⟨SM.refl _, rfl⟩) ?_
    refine ec_ (fun x y hS hT hk => dld (v := (.bool false)) (wn rfl) (hk 8 rfl) one4 ((Blk.sm (w := w212.drew) m215 hS hM453).cell (congrArg (fun b => some (Value.bool b)) hb409)) ⟨SM.refl _, rfl⟩) ?_
    refine ec_ (fun x y hS hT hk => dbn (wn rfl) (hk 7 rfl) (hk 9 rfl) (b_eqb _ _ true false false _ Try.underlying4 rfl) ⟨SM.refl _, rfl⟩) ?_
    exact each_nil
   intro f454 a455 w456 hS457 hC458 hA459
   have hA460 : St 133 [(0, (.pointer (some ⟨g, 0, none⟩))), (3, (.pointer (some ⟨g51, 0, none⟩))), (127, (.bool false))] a455 := hA459.cut _ (fc (hA459.get 0 _ rfl) (fc (hA459.get 3 _ rfl) (fc ((hA459.get 127 _ rfl).trans (hC458 10 (Nat.le_of_ble_eq_true rfl))) fn_)))
   have m461 := m214.sm hS457 hM452
   have m462 := m215.sm hS457 hM453
   have b463 := hS457.below b216 (Nat.le_trans hB b216.size) hM451B
   have ho464 := own_sm ho217 hS457 (fun k => congrFun hM451 k)
   have ho465 := own_sm ho218 hS457 (fun k => congrFun hM451 k)
   refine tn_ ?_
   refine c_false hA460 rfl ?_
   refine wp_skip ?_
   refine i_norm ?_
   refine i_norm ?_
   refine tn_ ?_
   exact ⟨code.length - (n8 + 1), (by rw [hm12]; omega), (n8 + 1), r9, ps10 ++ [((n8 : Nat) : Int)], v178, rfl, (by omega), (by simp; omega), (by omega), hadv16.trans (adv_9n hy45 (eq_of_beq hb402) hk400 (by rw [hb407, hb409]; decide)), hwf17, hA460.sub rfl, b463, ho464, m461, hge, (Sl.via hcd22 b19 b463), (by rw [List.length_append, ← paE_snoc]; exact ho465), off186⟩
  have hq466 := ne_of_beq hb407
  rcases Bool.eq_false_or_eq_true (y44.zero) with hb467 | hb467
  ·skip
   have hA469 : St 133 [(0, (.pointer (some ⟨g, 0, none⟩))), (3, (.pointer (some ⟨g51, 0, none⟩)))] a405 := hA406.sub rfl
   let M470 : Nat → Option (Array Value) := fun _ => none
   have hM470 : M470 = fun _ => none := rfl
   clear_value M470
   have hM471 : M470 g = none := (congrFun hM470 g)
   have hM472 : M470 g51 = none := (congrFun hM470 g51)
   have hM470B : ∀ k, k < Bd → M470 k = none := (fun k hk => (congrFun hM470 k))
   refine drawn (S := SM M470) (tabL [cv (.pointer (some ⟨g, 0, none⟩)), cv (.pointer (some ⟨g51, 2, none⟩)), cv (.int .i64 y44.a), cv (.pointer (some ⟨g, 0, none⟩)), cv (.pointer (some ⟨g, 1, none⟩)), cv (.pointer (some ⟨g, 1 + k399, none⟩)), cv (.int .i64 (r9 k399)), cv (.bool false), cv (.pointer (some ⟨g51, 16, none⟩)), cv (.bool true), cv (.bool false)]) mixedY SM.refl SM.trans SM.drew hA469 (by kernel_rfl) ?_ ?_
   ·skip
    refine ec_ (fun x y hS hT hk => dmv (wn rfl) (hT.ev rfl) ⟨SM.refl _, rfl⟩) ?_
    refine ec_ (fun x y hS hT hk => dfa (wn rfl) (hT.ev rfl) fo23_2 ⟨SM.refl _, rfl⟩) ?_
    refine ec_ (fun x y hS hT hk => dld (v := (.int .i64 y44.a)) (wn rfl) (hk 1 rfl) one3 ((Blk.sm (w := w212.drew) m215 hS hM472).cell rfl) ⟨SM.refl _, rfl⟩) ?_
    refine ec_ (fun x y hS hT hk => dnc (wn rfl) (hk 0 rfl) ⟨SM.refl _, rfl⟩) ?_
    refine ec_ (fun x y hS hT hk => dfa (wn rfl) (hk 3 rfl) fo65_1 ⟨SM.refl _, rfl⟩) ?_
    refine ec_ (fun x y hS hT hk => dix (j := k399) (p := 1 + k399) (wn rfl) (hk 4 rfl) ((show x.eval (.tmp 119) = .int .i64 y44.a from (hk 2 rfl)).trans (congrArg (Value.int .i64) hk400)) arr43 (by omega) (by omega) ⟨SM.refl _, rfl⟩) ?_
    refine ec_ (fun x y hS hT hk => dld (v := (.int .i64 (r9 k399))) (wn rfl) (hk 5 rfl) one3 ((Blk.sm (w := w212.drew) m214 hS hM471).cell (thr_get (by omega))) ⟨SM.refl _, rfl⟩) ?_
    refine ec_ (fun x y hS hT hk => dbn (wn rfl) (hk 6 rfl) (hT.ev rfl) (b_eq _ _ (r9 k399) 0 false _ hb407) ⟨SM.refl _, rfl⟩) ?_
    refine ec_ (fun x y hS hT hk => dfa (wn rfl) (hT.ev rfl) fo23_16 ⟨SM.refl _, rfl⟩) ?_
    refine ec_ (fun x y hS hT hk => dld (v := (.bool true)) (wn rfl) (hk 8 rfl) one4 ((Blk.sm (w := w212.drew) m215 hS hM472).cell (congrArg (fun b => some (Value.bool b)) hb467)) ⟨SM.refl _, rfl⟩) ?_
    refine ec_ (fun x y hS hT hk => dbn (wn rfl) (hk 7 rfl) (hk 9 rfl) (b_eqb _ _ false true false _ Try.underlying4 rfl) ⟨SM.refl _, rfl⟩) ?_
    exact each_nil
   intro f473 a474 w475 hS476 hC477 hA478
   have hA479 : St 133 [(0, (.pointer (some ⟨g, 0, none⟩))), (3, (.pointer (some ⟨g51, 0, none⟩))), (127, (.bool false))] a474 := hA478.cut _ (fc (hA478.get 0 _ rfl) (fc (hA478.get 3 _ rfl) (fc ((hA478.get 127 _ rfl).trans (hC477 10 (Nat.le_of_ble_eq_true rfl))) fn_)))
   have m480 := m214.sm hS476 hM471
   have m481 := m215.sm hS476 hM472
   have b482 := hS476.below b216 (Nat.le_trans hB b216.size) hM470B
   have ho483 := own_sm ho217 hS476 (fun k => congrFun hM470 k)
   have ho484 := own_sm ho218 hS476 (fun k => congrFun hM470 k)
   refine tn_ ?_
   refine c_false hA479 rfl ?_
   refine wp_skip ?_
   refine i_norm ?_
   refine i_norm ?_
   refine tn_ ?_
   exact ⟨code.length - (n8 + 1), (by rw [hm12]; omega), (n8 + 1), r9, ps10 ++ [((n8 : Nat) : Int)], v178, rfl, (by omega), (by simp; omega), (by omega), hadv16.trans (adv_9n hy45 (eq_of_beq hb402) hk400 (by rw [hb407, hb467]; decide)), hwf17, hA479.sub rfl, b482, ho483, m480, hge, (Sl.via hcd22 b19 b482), (by rw [List.length_append, ← paE_snoc]; exact ho484), off186⟩
  have hA486 : St 133 [(0, (.pointer (some ⟨g, 0, none⟩))), (3, (.pointer (some ⟨g51, 0, none⟩)))] a405 := hA406.sub rfl
  let M487 : Nat → Option (Array Value) := fun _ => none
  have hM487 : M487 = fun _ => none := rfl
  clear_value M487
  have hM488 : M487 g = none := (congrFun hM487 g)
  have hM489 : M487 g51 = none := (congrFun hM487 g51)
  have hM487B : ∀ k, k < Bd → M487 k = none := (fun k hk => (congrFun hM487 k))
  refine drawn (S := SM M487) (tabL [cv (.pointer (some ⟨g, 0, none⟩)), cv (.pointer (some ⟨g51, 2, none⟩)), cv (.int .i64 y44.a), cv (.pointer (some ⟨g, 0, none⟩)), cv (.pointer (some ⟨g, 1, none⟩)), cv (.pointer (some ⟨g, 1 + k399, none⟩)), cv (.int .i64 (r9 k399)), cv (.bool false), cv (.pointer (some ⟨g51, 16, none⟩)), cv (.bool false), cv (.bool true)]) mixedY SM.refl SM.trans SM.drew hA486 (by kernel_rfl) ?_ ?_
  ·skip
   refine ec_ (fun x y hS hT hk => dmv (wn rfl) (hT.ev rfl) ⟨SM.refl _, rfl⟩) ?_
   refine ec_ (fun x y hS hT hk => dfa (wn rfl) (hT.ev rfl) fo23_2 ⟨SM.refl _, rfl⟩) ?_
   refine ec_ (fun x y hS hT hk => dld (v := (.int .i64 y44.a)) (wn rfl) (hk 1 rfl) one3 ((Blk.sm (w := w212.drew) m215 hS hM489).cell rfl) ⟨SM.refl _, rfl⟩) ?_
   refine ec_ (fun x y hS hT hk => dnc (wn rfl) (hk 0 rfl) ⟨SM.refl _, rfl⟩) ?_
   refine ec_ (fun x y hS hT hk => dfa (wn rfl) (hk 3 rfl) fo65_1 ⟨SM.refl _, rfl⟩) ?_
   refine ec_ (fun x y hS hT hk => dix (j := k399) (p := 1 + k399) (wn rfl) (hk 4 rfl) ((show x.eval (.tmp 119) = .int .i64 y44.a from (hk 2 rfl)).trans (congrArg (Value.int .i64) hk400)) arr43 (by omega) (by omega) ⟨SM.refl _, rfl⟩) ?_
   refine ec_ (fun x y hS hT hk => dld (v := (.int .i64 (r9 k399))) (wn rfl) (hk 5 rfl) one3 ((Blk.sm (w := w212.drew) m214 hS hM488).cell (thr_get (by omega))) ⟨SM.refl _, rfl⟩) ?_
   refine ec_ (fun x y hS hT hk => dbn (wn rfl) (hk 6 rfl) (hT.ev rfl) (b_eq _ _ (r9 k399) 0 false _ hb407) ⟨SM.refl _, rfl⟩) ?_
   refine ec_ (fun x y hS hT hk => dfa (wn rfl) (hT.ev rfl) fo23_16 ⟨SM.refl _, rfl⟩) ?_
   refine ec_ (fun x y hS hT hk => dld (v := (.bool false)) (wn rfl) (hk 8 rfl) one4 ((Blk.sm (w := w212.drew) m215 hS hM489).cell (congrArg (fun b => some (Value.bool b)) hb467)) ⟨SM.refl _, rfl⟩) ?_
   refine ec_ (fun x y hS hT hk => dbn (wn rfl) (hk 7 rfl) (hk 9 rfl) (b_eqb _ _ false false true _ Try.underlying4 rfl) ⟨SM.refl _, rfl⟩) ?_
   exact each_nil
  intro f490 a491 w492 hS493 hC494 hA495
  have hA496 : St 133 [(0, (.pointer (some ⟨g, 0, none⟩))), (3, (.pointer (some ⟨g51, 0, none⟩))), (127, (.bool true))] a491 := hA495.cut _ (fc (hA495.get 0 _ rfl) (fc (hA495.get 3 _ rfl) (fc ((hA495.get 127 _ rfl).trans (hC494 10 (Nat.le_of_ble_eq_true rfl))) fn_)))
  have m497 := m214.sm hS493 hM488
  have m498 := m215.sm hS493 hM489
  have b499 := hS493.below b216 (Nat.le_trans hB b216.size) hM487B
  have ho500 := own_sm ho217 hS493 (fun k => congrFun hM487 k)
  have ho501 := own_sm ho218 hS493 (fun k => congrFun hM487 k)
  refine tn_ ?_
  refine c_true hA496 rfl ?_
  refine wp_region_lit ?_
  refine qs hA496 rfl (dmv (wn rfl) (hA496.ev rfl) ?_)
  intro a502 hA503
  refine qs hA503 rfl (dfa (wn rfl) (hA503.ev rfl) fo23_15 ?_)
  intro a504 hA505
  refine qs hA505 rfl (dld (v := (.int .i64 y44.to)) (wn rfl) (hA505.ev rfl) one3 (m498.cell rfl) ?_)
  intro a506 hA507
  refine qs hA507 rfl (dnc (wn rfl) (hA507.ev rfl) ?_)
  intro a508 hA509
  refine qs hA509 rfl (dfa (wn rfl) (hA509.ev rfl) fo65_2 ?_)
  intro a510 hA511
  refine qs hA511 rfl (dst_ (v := (.int .i64 y44.to)) (wn rfl) (hA511.ev rfl) (hA511.ev rfl) one3 rfl m497 (Nat.le_of_ble_eq_true rfl) ?_)
  intro w512 hU513 (m514 : Blk w512 g (thrC cd r9 y44.to v178) 65)
  have m515 := m498.upd hU513 (Ne.symm n71)
  have b516 := hU513.below b499 hge
  have ho517 := own_upd ho500 hU513 oe25
  have ho518 := own_upd ho501 hU513 off186
  intro a519 hA520
  refine qe_ ?_
  refine i_norm ?_
  refine i_norm ?_
  refine tn_ ?_
  have hr9523 := (right_yes hry44).2 (eq_of_beq hb402)
  obtain ⟨mt521, hmt522⟩ := Int.eq_ofNat_of_zero_le (show 0 ≤ y44.to by omega)
  exact ⟨code.length - mt521, (by rw [hm12]; omega), mt521, r9, ps10 ++ [((n8 : Nat) : Int)], v178, rfl, (by omega), (by simp; omega), (by omega), hadv16.trans (adv_9y hy45 (eq_of_beq hb402) hk400 hmt522 (by omega) (hb407.trans hb467.symm)), hwf17, hA520.sub rfl, b516, ho517, (by rw [← hmt522]; exact m514), hge, (Sl.via hcd22 b19 b516), (by rw [List.length_append, ← paE_snoc]; exact ho518), off186⟩
 have hq524 := of_decide_eq_false hb28
 have hA525 : St 133 [(0, (.pointer (some ⟨g, 0, none⟩)))] a6 := hA18.sub rfl
 let M526 : Nat → Option (Array Value) := fun _ => none
 have hM526 : M526 = fun _ => none := rfl
 clear_value M526
 have hM527 : M526 g = none := (congrFun hM526 g)
 have hM526B : ∀ k, k < Bd → M526 k = none := (fun k hk => (congrFun hM526 k))
 refine drawn (S := SM M526) (tabL [cv (.pointer (some ⟨g, 0, none⟩)), cv (.pointer (some ⟨g, 0, none⟩)), cv (.pointer (some ⟨g, 9, none⟩)), cv (.int .i64 ((n8 : Nat) : Int)), cv (.pointer (some ⟨g, 0, none⟩)), cv (.pointer (some ⟨g, 0, none⟩)), cv (.pointer (some ⟨g, 0, none⟩)), cv cd, cv (.int .i64 ((code.length : Nat) : Int)), cv (.bool false)]) mixedY SM.refl SM.trans SM.drew hA525 (by kernel_rfl) ?_ ?_
 ·skip
  refine ec_ (fun x y hS hT hk => dmv (wn rfl) (hT.ev rfl) ⟨SM.refl _, rfl⟩) ?_
  refine ec_ (fun x y hS hT hk => dnc (wn rfl) (hk 0 rfl) ⟨SM.refl _, rfl⟩) ?_
  refine ec_ (fun x y hS hT hk => dfa (wn rfl) (hk 1 rfl) fo65_2 ⟨SM.refl _, rfl⟩) ?_
  refine ec_ (fun x y hS hT hk => dld (v := (.int .i64 ((n8 : Nat) : Int))) (wn rfl) (hk 2 rfl) one3 ((Blk.sm (w := w7.drew) hb21 hS hM527).cell rfl) ⟨SM.refl _, rfl⟩) ?_
  refine ec_ (fun x y hS hT hk => dmv (wn rfl) (hT.ev rfl) ⟨SM.refl _, rfl⟩) ?_
  refine ec_ (fun x y hS hT hk => dnc (wn rfl) (hk 4 rfl) ⟨SM.refl _, rfl⟩) ?_
  refine ec_ (fun x y hS hT hk => dfa (wn rfl) (hk 5 rfl) fo65_0 ⟨SM.refl _, rfl⟩) ?_
  refine ec_ (fun x y hS hT hk => dld (v := cd) (wn rfl) (hk 6 rfl) one35 ((Blk.sm (w := w7.drew) hb21 hS hM527).cell rfl) ⟨SM.refl _, rfl⟩) ?_
  refine ec_ (fun x y hS hT hk => dle (n := code.length) (wn rfl) (hk 7 rfl) slc35 hcd22.form ⟨SM.refl _, rfl⟩) ?_
  refine ec_ (fun x y hS hT hk => dbn (wn rfl) (hk 3 rfl) (hk 8 rfl) (b_lt _ _ ((n8 : Nat) : Int) ((code.length : Nat) : Int) false _ hb28) ⟨SM.refl _, rfl⟩) ?_
  exact each_nil
 intro f528 a529 w530 hS531 hC532 hA533
 have hA534 : St 133 [(0, (.pointer (some ⟨g, 0, none⟩))), (14, (.bool false))] a529 := hA533.cut _ (fc (hA533.get 0 _ rfl) (fc ((hA533.get 14 _ rfl).trans (hC532 9 (Nat.le_of_ble_eq_true rfl))) fn_))
 have m535 := hb21.sm hS531 hM527
 have b536 := hS531.below b19 (Nat.le_trans hB b19.size) hM526B
 have ho537 := own_sm hev20 hS531 (fun k => congrFun hM526 k)
 have ho538 := own_sm hpa23 hS531 (fun k => congrFun hM526 k)
 refine tn_ ?_
 refine c_false hA534 rfl ?_
 refine wp_exit ?_
 refine t_exit ?_
 refine t_exit ?_
 refine i_here ?_
 refine tn_ ?_
 refine wp_seq ?_
 refine wp_region_lit ?_
 refine qs hA534 rfl (das (wn rfl) (hA534.ev rfl) ?_)
 intro a539 hA540
 refine qe_ ?_
 refine tn_ ?_
 refine wp_ret ?_
 refine ret1 rfl hA540 (v := (.bool false)) rfl ?_
 exact ⟨false, n8, r9, ps10, pa11, rfl, b536, ho537, ⟨m535, hge, (Sl.via hcd22 b19 b536), ho538, op24⟩, hadv16, hn13, hps14, hpn15, hwf17, fun _ => (by omega), nofun⟩
end Go.Proofs.Ytlhompedcphnnaa
