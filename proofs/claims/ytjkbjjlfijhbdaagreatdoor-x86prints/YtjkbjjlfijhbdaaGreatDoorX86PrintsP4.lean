/- X86Prints: what it stands on, part 4. -/
import Derived.Test.YtjkbjjlfijhbdaaGreatDoorX86PrintsP3
import Derived.Great.BuildSlice
import Derived.Shelf.Strconv.Itoa3
import Derived.Shelf.Strings.Replace
import Derived.Shelf.Strings.OnBuilder
import Derived.Lib.SplitLaws
import Derived.Laws.MakeOwn
import Derived.Shelf.Strings.Cut
namespace Go.Proofs.YtjkbjjlfijhbdaaGreatDoor
open Go.RowKit
set_option linter.defProp false
set_option maxHeartbeats 4000000
set_option maxRecDepth 100000
set_option linter.unusedVariables false
set_option linter.unusedSimpArgs false
theorem rtail_any (n : Int) (w : World) : Calls Tryz.prog 115 #[J 1, J n] w λ e w' => e = .returned (.string (S (tlX n))) ∧ Grow w w' := by
 have h3 : ([66, 87, 76, 81] : List UInt8).length = 4 := rfl
 have b0 := Grow.refl w
 refine enter (n := 31) Tryz.func115 rfl rfl (nb_ rfl) λ _ A=>sw_<|Z 1 A rfl λ A=>qt_<|ws_<|sw_<|Z 1 A rfl λ A=>qt_<|wp_block<|loop_by (λ m8 a9 w10 => ∃ j7 : Nat, m8 = 4 - j7 ∧ (j7 ≤ 4 ∧ ∀ i : Nat, i < j7 → szI (i : Int) ≠ n) ∧ St 31 [(0, (J 1)), (1, (J n)), (5, (J ((j7 : Nat) : Int)))] a9 ∧ Below w.heap.size w w10) (4 - 0) ⟨0, rfl, ⟨by omega, λ i hi => by omega⟩, A.cut _ (fc (A.g 0 rfl) (fc (A.g 1 rfl) (fc ((A.g 5 rfl).trans (congrArg (Value.int .i64) (by omega))) fn_))), b0⟩ ?_
 rintro m8 a9 w10 ⟨j7, hm13, hc14, A, b12⟩
 obtain ⟨hj1, hj2⟩ := hc14
 refine ws_<|sw_<|Z 1 A rfl λ A=>?_
 rcases eb_ (decide (((j7 : Nat) : Int) < 4)) with hb17 | hb17
 ·skip
  have hq18 := dt_ hb17
  refine B2 A rfl (bl hb17) λ A=>qt_<|ct_ A rfl<|wk_<|tn_<|ws_<|wp_block<|ws_<|sw_<|Z 1 A rfl λ A=>B2 A rfl (b_shl1 (j := j7) (by omega)) λ A=>Z 1 A rfl λ A=>?_
  rcases eb_ (szI ((j7 : Nat) : Int) == n) with hb27 | hb27
  ·skip
   have hq28 := eq_of_beq hb27
   refine B2 A rfl (b_ne _ _ (szI ((j7 : Nat) : Int)) n false _ (notof hb27)) λ A=>qt_<|cf_ A rfl<|wk_<|tn_<|ws_<|sw_<|Z 1 A rfl λ A=>qt_<|wp_block<|ws_ ?_
   refine wr_<|B2 A rfl (b_eq _ _ 1 1 true _ rfl) λ A=>Z 1 A rfl λ A=>qt_<|ct_ A rfl<|sw_<|Z 2 A rfl λ A=>B2 A rfl (b_addE (j7 + 1) (by omega) (by omega)) λ A=>qs A rfl (d_spart (m := j7) (n := j7 + 1) (wn rfl) (A.ev rfl) (A.ev rfl) (A.ev rfl) str9 (by first | omega | (show _ ≤ 4; omega)) (by first | omega | (show _ ≤ 4; omega)) λ _ A=>Z 1 A rfl λ A=>qt_ ?_)
   refine we_<|i_ret<|tr_<|i_ret<|tr_<|tr_<|i_ret<|tr_<|ret1 rfl A (v := (.string (S (List.drop j7 (List.take (j7 + 1) [66, 87, 76, 81]))))) rfl ?_
   exact ⟨by rw [tail_hit (j := j7) (by omega) hb27], b12⟩
  have hq47 := ne_of_beq hb27
  refine B2 A rfl (b_ne _ _ (szI ((j7 : Nat) : Int)) n true _ (notof hb27)) λ A=>qt_<|ct_ A rfl<|wp_exit<|t_exit<|i_here<|tn_<|wr_<|Z 1 A rfl λ A=>B2 A rfl (b_addE (j7 + 1) (by omega) (by omega)) λ A=>Z 1 A rfl λ A=>qt_ ?_
  have hgo : ∀ i : Nat, i < j7 + 1 → szI (i : Int) ≠ n := λ i hi => by
   by_cases e : i = j7
   ·subst e; exact ne_of_beq hb27
   ·exact hj2 i (by omega)
  exact ⟨4 - (j7 + 1), (by rw [hm13]; omega), j7 + 1, rfl, ⟨by omega, hgo⟩, A.sub rfl, b12⟩
 have hq56 := df_ hb17
 refine B2 A rfl (bl hb17) λ A=>qt_<|cf_ A rfl<|wp_exit<|t_exit<|t_exit<|i_here<|tn_<|sw_<|Z 1 A rfl λ A=>qt_ ?_
 refine we_<|ret1 rfl A (v := (.string (S []))) rfl ?_
 exact ⟨by rw [tail_end (n := n) (λ i hi => hj2 i (by omega))], b12⟩
theorem rfn_at (n : Nat) (yt : List UInt8) (w : World) (hy : fnsX[n]? = some yt) : Calls Tryz.prog 86 #[J 1, J ((n : Nat) : Int)] w λ e w' => e = .returned (.string (S yt)) ∧ Grow w w' := by
 have hyl : n < 6 := get_lt hy
 have b0 := Grow.refl w
 refine enter (n := 22) Tryz.func86 rfl rfl (nb_ rfl) λ _ A=>sw_<|Z 1 A rfl λ A=>qt_<|ws_<|sw_<|Z 1 A rfl λ A=>qt_<|wp_block<|ws_ ?_
 refine wr_<|B2 A rfl (b_eq _ _ 1 2 false _ rfl) λ A=>Z 1 A rfl λ A=>qt_<|cf_ A rfl<|sw_<|B2 A rfl (b_eq _ _ 1 3 false _ rfl) λ A=>Z 1 A rfl λ A=>qt_<|cf_ A rfl<|wk_ ?_
 refine i_norm<|tn_<|sw_<|qs A rfl (d_sliceL (cells := #[.string (S []), .string (S [65, 68, 68]), .string (S [83, 85, 66]), .string (S [88, 79, 82]), .string (S [65, 78, 68]), .string (S [79, 82])]) (wn rfl) (bp_of (bq_cons (A.ev rfl) (bq_cons (A.ev rfl) (bq_cons (A.ev rfl) (bq_cons (A.ev rfl) (bq_cons (A.ev rfl) (bq_cons (A.ev rfl) bq_nil))))))) slz76 (by decide) (by decide) (by kernel_rfl) λ g15 w16 eg17 hG18 (m19 : Blk w16 g15 #[.string (S []), .string (S [65, 68, 68]), .string (S [83, 85, 66]), .string (S [88, 79, 82]), .string (S [65, 78, 68]), .string (S [79, 82])] 9)=>?_)
 have ge20 : w.heap.size ≤ g15 := eg17 ▸ b0.size
 have b21 := bls b0 hG18
 intro _ A
 refine Z 1 A rfl λ A=>?_
 obtain ⟨b26, o27, lt28, hr29, hix30⟩ := (sl_lit (l := fnsX) m19 rfl rfl).at hy
 refine qs A rfl (dia (j := n) (wn rfl) (A.ev rfl) (A.ev rfl) slc76 hix30 (get_lt hy) λ _ A=>qs A rfl (dld (v := (.string (S yt))) (wn rfl) (A.ev rfl) one9 (hr29 0 _ rfl) λ _ A=>Z 1 A rfl λ A=>qt_<|we_<|ret1 rfl A (v := (.string (S yt))) rfl ?_))
 exact ⟨rfl, b21⟩
theorem rfn_any (k : Int) (w : World) (h1 : 0 ≤ k) (h2 : k ≤ 5) : Calls Tryz.prog 86 #[J 1, J k] w λ e w' => e = .returned (.string (S (fnT k))) ∧ Grow w w' := by
 have hy := List.getElem?_eq_getElem (show k.toNat < fnsX.length by show k.toNat < 6; omega)
 have e : k = ((k.toNat : Nat) : Int) := by omega
 rw [e, fn_at hy]; exact rfn_at k.toNat _ w hy
def fenT (i : Ins) : List UInt8 := (if (i.op == 8) = true then [] else (if (i.pred == 3) = true then (if (i.succ == 3) = true then [77, 70, 69, 78, 67, 69] else []) else []))
theorem rfence_any (i : Ins) (w : World) : Calls Tryz.prog 89 #[J 1, .agg (insC i)] w λ e w' => e = .returned (.string (S (fenT i))) ∧ Grow w w' := by
 have b0 := Grow.refl w
 refine enter (n := 87) Tryz.func89 rfl rfl (nb_ rfl) λ _ A=>sw_<|qs A rfl (d_box (wn rfl) (A.ev rfl) λ g3 w4 eg5 hG6 (m7 : Blk w4 g3 (insC i) 30)=>?_)
 have ge8 : w.heap.size ≤ g3 := eg5 ▸ b0.size
 have b9 := bls b0 hG6
 intro _ A
 refine Z 1 A rfl λ A=>qt_<|sw_<|qs A rfl (d_sliceL (cells := #[.string (S []), .string (S [114]), .string (S [119]), .string (S [114, 119])]) (wn rfl) (bp_of (bq_cons (A.ev rfl) (bq_cons (A.ev rfl) (bq_cons (A.ev rfl) (bq_cons (A.ev rfl) bq_nil))))) slz76 (by decide) (by decide) (by kernel_rfl) λ g14 w15 eg16 hG17 (m18 : Blk w15 g14 #[.string (S []), .string (S [114]), .string (S [119]), .string (S [114, 119])] 9)=>?_)
 have ge19 : w.heap.size ≤ g14 := eg16 ▸ b9.size
 have n20 := nn_ eg16 m7
 have m21 := m7.grow hG17
 have b22 := bls b9 hG17
 intro _ A
 refine Z 1 A rfl λ A=>qt_<|ws_<|wp_block<|sw_<|F1 A rfl fo30_0 λ A=>qs A rfl (dld (v := (J i.op)) (wn rfl) (A.ev rfl) one3 (m21.cell rfl) λ _ A=>?_)
 rcases eb_ (i.op == 8) with hb31 | hb31
 ·skip
  have hq32 := eq_of_beq hb31
  refine B2 A rfl (bq hb31) λ A=>Z 2 A rfl λ A=>B2 A rfl (b_eq _ _ 1 3 false _ rfl) λ A=>Z 2 A rfl λ A=>qt_<|cf_ A rfl<|sw_<|F1 A rfl fo30_0 λ A=>qs A rfl (dld (v := (J i.op)) (wn rfl) (A.ev rfl) one3 (m21.cell rfl) λ _ A=>B2 A rfl (bq hb31) λ A=>Z 1 A rfl λ A=>qe_ ?_)
  refine tn_<|ct_ A rfl<|sw_<|Z 1 A rfl λ A=>qt_<|we_<|i_ret<|tr_<|ret1 rfl A (v := (.string (S []))) rfl ?_
  have hq55 : fenT i = [] := by unfold fenT; simp only [hb31, if_true, Bool.false_eq_true, if_false]
  exact ⟨by rw [hq55], b22⟩
 have hq56 := ne_of_beq hb31
 refine B2 A rfl (bq hb31) λ A=>Z 5 A rfl λ A=>qt_<|cf_ A rfl<|sw_<|F1 A rfl fo30_0 λ A=>qs A rfl (dld (v := (J i.op)) (wn rfl) (A.ev rfl) one3 (m21.cell rfl) λ _ A=>B2 A rfl (bq hb31) λ A=>Z 1 A rfl λ A=>qt_<|cf_ A rfl ?_)
 refine sw_<|Z 1 A rfl λ A=>B2 A rfl (b_eq _ _ 1 2 false _ rfl) λ A=>Z 1 A rfl λ A=>qt_<|cf_ A rfl<|sw_<|Z 1 A rfl λ A=>B2 A rfl (b_eq _ _ 1 1 true _ rfl) λ A=>Z 1 A rfl λ A=>F1 A rfl fo30_13 λ A=>?_
 refine qs A rfl (dld (v := (J i.pred)) (wy rfl rfl (A.g 38 rfl)) (A.ev rfl) one3 (m21.cell rfl) λ _ A=>?_)
 rcases eb_ (i.pred == 3) with hb93 | hb93
 ·skip
  have hq94 := eq_of_beq hb93
  refine B2 A rfl (bq hb93) λ A=>Z 2 A rfl λ A=>F1 A rfl fo30_14 λ A=>qs A rfl (dld (v := (J i.succ)) (wy rfl rfl (A.g 43 rfl)) (A.ev rfl) one3 (m21.cell rfl) λ _ A=>?_)
  rcases eb_ (i.succ == 3) with hb105 | hb105
  ·skip
   have hq106 := eq_of_beq hb105
   refine B2 A rfl (bq hb105) λ A=>Z 2 A rfl λ A=>qt_<|ct_ A rfl<|sw_<|Z 1 A rfl λ A=>qt_<|we_<|i_ret<|tr_<|ret1 rfl A (v := (.string (S [77, 70, 69, 78, 67, 69]))) rfl ?_
   have hq115 : fenT i = [77, 70, 69, 78, 67, 69] := by unfold fenT; simp only [hb31, hb93, hb105, if_true, Bool.false_eq_true, if_false]
   exact ⟨by rw [hq115], b22⟩
  have hq116 := ne_of_beq hb105
  refine B2 A rfl (bq hb105) λ A=>Z 2 A rfl λ A=>qt_<|cf_ A rfl<|sw_<|Z 1 A rfl λ A=>B2 A rfl (b_eq _ _ 1 3 false _ rfl) λ A=>Z 11 A rfl @λ a147 A=>qe_ ?_
  have A : St 87 [(0, (J 1)), (3, (.pointer (some ⟨g3, 0, none⟩))), (4, (.string (S []))), (48, (.bool false))] a147 := A.sub rfl
  refine tn_<|cf_ A rfl<|sw_<|Z 1 A rfl λ A=>B2 A rfl (b_eq _ _ 1 3 false _ rfl) λ A=>Z 11 A rfl λ A=>qt_<|cf_ A rfl<|sw_<|Z 1 A rfl λ A=>B2 A rfl (b_eq _ _ 1 3 false _ rfl) λ A=>?_
  refine Z 11 A rfl λ A=>qt_<|cf_ A rfl<|wk_<|i_norm<|tn_<|sw_<|Z 1 A rfl λ A=>qt_<|we_<|ret1 rfl A (v := (.string (S []))) rfl ?_
  have hq204 : fenT i = [] := by unfold fenT; simp only [hb31, hb93, hb105, if_true, Bool.false_eq_true, if_false]
  exact ⟨by rw [hq204], b22⟩
 have hq205 := ne_of_beq hb93
 refine B2 A rfl (bq hb93) λ A=>Z 7 A rfl λ A=>qt_<|cf_ A rfl<|sw_<|Z 1 A rfl λ A=>B2 A rfl (b_eq _ _ 1 3 false _ rfl) λ A=>Z 11 A rfl @λ a246 A=>qe_ ?_
 have A : St 87 [(0, (J 1)), (3, (.pointer (some ⟨g3, 0, none⟩))), (4, (.string (S []))), (48, (.bool false))] a246 := A.sub rfl
 refine tn_<|cf_ A rfl<|sw_<|Z 1 A rfl λ A=>B2 A rfl (b_eq _ _ 1 3 false _ rfl) λ A=>Z 11 A rfl λ A=>qt_<|cf_ A rfl<|sw_<|Z 1 A rfl λ A=>B2 A rfl (b_eq _ _ 1 3 false _ rfl) λ A=>?_
 refine Z 11 A rfl λ A=>qt_<|cf_ A rfl<|wk_<|i_norm<|tn_<|sw_<|Z 1 A rfl λ A=>qt_<|we_<|ret1 rfl A (v := (.string (S []))) rfl ?_
 have hq303 : fenT i = [] := by unfold fenT; simp only [hb31, hb93, if_true, Bool.false_eq_true, if_false]
 exact ⟨by rw [hq303], b22⟩
theorem ent115 : Ent Tryz.prog 115 = FF := by kernel_rfl
theorem ent126 : Ent Tryz.prog 126 = FF := by kernel_rfl
theorem ent127 : Ent Tryz.prog 127 = FF := by kernel_rfl
theorem ent86 : Ent Tryz.prog 86 = FF := by kernel_rfl
theorem ent87 : Ent Tryz.prog 87 = FF := by kernel_rfl
theorem ent88 : Ent Tryz.prog 88 = FF := by kernel_rfl
theorem ent89 : Ent Tryz.prog 89 = FF := by kernel_rfl
theorem ent90 : Ent Tryz.prog 90 = FF := by kernel_rfl
theorem memT_len (i : Ins) (ho1 : -9223372036854775808 ≤ i.off) (ho2 : i.off ≤ 9223372036854775807) : (memT i).length ≤ 60 := by
 have h1 := name_len i.index
 have h2 := itoa_len ho1 ho2
 have h3 := loc_len i.loc.toNat
 unfold memT
 (repeat' split) <;> simp only [List.length_append, List.length_cons, List.length_nil] <;> omega
theorem regOrT_len (r n : Int) (hn1 : -9223372036854775808 ≤ n) (hn2 : n ≤ 9223372036854775807) : (regOrT r n).length ≤ 40 := by
 have h1 := name_len r
 have h2 := itoa_len hn1 hn2
 unfold regOrT numT
 split
 ·simp only [List.length_append, List.length_cons, List.length_nil]; omega
 ·omega
def rmwT (i : Ins) (ds az ts ms : List UInt8) : List UInt8 := (if (i.dst == i.a) = true then (if i.acq = true then (if i.rel = true then (if (i.fn == 1) = true then [88, 65, 68, 68] ++ ts ++ [32] ++ ms ++ [44] ++ ds else [88, 67, 72, 71] ++ ts ++ [32] ++ ds ++ [44] ++ ms) else []) else []) else [])
theorem rrmw_any (i : Ins) (ds az ts ms : List UInt8) (w : World) (hdsl : ds.length ≤ 100) (hazl : az.length ≤ 100) (htsl : ts.length ≤ 100) (hmsl : ms.length ≤ 100) : Calls Tryz.prog 127 #[J 1, .agg (insC i), .string (S ds), .string (S az), .string (S ts), .string (S ms)] w λ e w' => e = .returned (.string (S (rmwT i ds az ts ms))) ∧ Grow w w' := by
 have b0 := Grow.refl w
 refine enter (n := 101) Tryz.func127 rfl rfl (nb_ rfl) λ _ A=>sw_<|qs A rfl (d_box (wn rfl) (A.ev rfl) λ g3 w4 eg5 hG6 (m7 : Blk w4 g3 (insC i) 30)=>?_)
 have ge8 : w.heap.size ≤ g3 := eg5 ▸ b0.size
 have b9 := bls b0 hG6
 intro _ A
 refine Z 1 A rfl λ A=>qt_<|ws_<|sw_<|Z 1 A rfl λ A=>qt_<|wp_block<|sw_<|B2 A rfl (b_eq _ _ 1 1 true _ rfl) λ A=>Z 1 A rfl λ A=>?_
 refine qt_<|ct_ A rfl<|ws_<|sw_<|F1 A rfl fo30_1 λ A=>qs A rfl (dld (v := (J i.dst)) (wn rfl) (A.ev rfl) one3 (m7.cell rfl) λ _ A=>F1 A rfl fo30_2 λ A=>qs A rfl (dld (v := (J i.a)) (wn rfl) (A.ev rfl) one3 (m7.cell rfl) λ _ A=>?_))
 rcases eb_ (i.dst == i.a) with hb28 | hb28
 ·skip
  have hq29 := eq_of_beq hb28
  refine B2 A rfl (b_ne _ _ i.dst i.a false _ (notof hb28)) λ A=>Z 1 A rfl λ A=>F1 A rfl fo30_10 λ A=>qs A rfl (dld (v := (.bool i.acq)) (wy rfl rfl (A.g 23 rfl)) (A.ev rfl) one4 (m7.cell rfl) λ _ A=>?_)
  rcases eb_ (i.acq) with hb38 | hb38
  ·skip
   have A := A.shadow (t := 25) rfl hb38
   refine Z 3 A rfl λ A=>F1 A rfl fo30_12 λ A=>qs A rfl (dld (v := (.bool i.rel)) (wy rfl rfl (A.g 28 rfl)) (A.ev rfl) one4 (m7.cell rfl) λ _ A=>?_)
   rcases eb_ (i.rel) with hb51 | hb51
   ·skip
    have A := A.shadow (t := 30) rfl hb51
    refine Z 2 A rfl λ A=>qt_<|cf_ A rfl<|wk_<|tn_<|ws_<|sw_<|F1 A rfl fo30_9 λ A=>qs A rfl (dld (v := (J i.fn)) (wn rfl) (A.ev rfl) one3 (m7.cell rfl) λ _ A=>?_)
    rcases eb_ (i.fn == 1) with hb62 | hb62
    ·skip
     have hq63 := eq_of_beq hb62
     refine B2 A rfl (bq hb62) λ A=>qt_<|ct_ A rfl<|sw_<|Z 1 A rfl λ A=>B2 A rfl (b_sadd (l := [88, 65, 68, 68]) (m := ts) (by simp only [List.length_append, List.length_cons, List.length_nil]; omega)) λ A=>B2 A rfl (b_sadd (l := [88, 65, 68, 68] ++ ts) (m := [32]) (by simp only [List.length_append, List.length_cons, List.length_nil]; omega)) λ A=>Z 1 A rfl λ A=>B2 A rfl (b_sadd (l := [88, 65, 68, 68] ++ ts ++ [32]) (m := ms) (by simp only [List.length_append, List.length_cons, List.length_nil]; omega)) λ A=>B2 A rfl (b_sadd (l := [88, 65, 68, 68] ++ ts ++ [32] ++ ms) (m := [44]) (by simp only [List.length_append, List.length_cons, List.length_nil]; omega)) λ A=>Z 1 A rfl λ A=>B2 A rfl (b_sadd (l := [88, 65, 68, 68] ++ ts ++ [32] ++ ms ++ [44]) (m := ds) (by simp only [List.length_append, List.length_cons, List.length_nil]; omega)) λ A=>?_
     refine Z 1 A rfl λ A=>qt_<|we_<|tr_<|i_ret<|tr_<|ret1 rfl A (v := (.string (S ([88, 65, 68, 68] ++ ts ++ [32] ++ ms ++ [44] ++ ds)))) rfl ?_
     have hq84 : rmwT i ds az ts ms = [88, 65, 68, 68] ++ ts ++ [32] ++ ms ++ [44] ++ ds := by unfold rmwT; simp only [hb28, hb38, hb51, hb62, if_true, Bool.false_eq_true, if_false]
     exact ⟨by rw [hq84], b9⟩
    have hq85 := ne_of_beq hb62
    refine B2 A rfl (bq hb62) λ A=>qt_<|cf_ A rfl<|wk_<|tn_<|sw_<|Z 1 A rfl λ A=>B2 A rfl (b_sadd (l := [88, 67, 72, 71]) (m := ts) (by simp only [List.length_append, List.length_cons, List.length_nil]; omega)) λ A=>B2 A rfl (b_sadd (l := [88, 67, 72, 71] ++ ts) (m := [32]) (by simp only [List.length_append, List.length_cons, List.length_nil]; omega)) λ A=>Z 1 A rfl λ A=>B2 A rfl (b_sadd (l := [88, 67, 72, 71] ++ ts ++ [32]) (m := ds) (by simp only [List.length_append, List.length_cons, List.length_nil]; omega)) λ A=>B2 A rfl (b_sadd (l := [88, 67, 72, 71] ++ ts ++ [32] ++ ds) (m := [44]) (by simp only [List.length_append, List.length_cons, List.length_nil]; omega)) λ A=>?_
    refine Z 1 A rfl λ A=>B2 A rfl (b_sadd (l := [88, 67, 72, 71] ++ ts ++ [32] ++ ds ++ [44]) (m := ms) (by simp only [List.length_append, List.length_cons, List.length_nil]; omega)) λ A=>Z 1 A rfl λ A=>qt_<|we_<|i_ret<|tr_<|ret1 rfl A (v := (.string (S ([88, 67, 72, 71] ++ ts ++ [32] ++ ds ++ [44] ++ ms)))) rfl ?_
    have hq106 : rmwT i ds az ts ms = [88, 67, 72, 71] ++ ts ++ [32] ++ ds ++ [44] ++ ms := by unfold rmwT; simp only [hb28, hb38, hb51, hb62, if_true, Bool.false_eq_true, if_false]
    exact ⟨by rw [hq106], b9⟩
   have A := A.shadow (t := 30) rfl hb51
   refine Z 2 A rfl λ A=>qt_<|ct_ A rfl<|sw_<|Z 1 A rfl λ A=>qt_<|we_<|tr_<|i_ret<|tr_<|ret1 rfl A (v := (.string (S []))) rfl ?_
   have hq115 : rmwT i ds az ts ms = [] := by unfold rmwT; simp only [hb28, hb38, hb51, if_true, Bool.false_eq_true, if_false]
   exact ⟨by rw [hq115], b9⟩
  have A := A.shadow (t := 25) rfl hb38
  refine Z 7 A rfl λ A=>qt_<|ct_ A rfl<|sw_<|Z 1 A rfl λ A=>qt_<|we_<|tr_<|i_ret<|tr_<|ret1 rfl A (v := (.string (S []))) rfl ?_
  have hq134 : rmwT i ds az ts ms = [] := by unfold rmwT; simp only [hb28, hb38, if_true, Bool.false_eq_true, if_false]
  exact ⟨by rw [hq134], b9⟩
 have hq135 := ne_of_beq hb28
 refine B2 A rfl (b_ne _ _ i.dst i.a true _ (notof hb28)) λ A=>Z 10 A rfl λ A=>qt_<|ct_ A rfl<|sw_<|Z 1 A rfl λ A=>qt_<|we_<|tr_<|i_ret<|tr_ ?_
 refine ret1 rfl A (v := (.string (S []))) rfl ?_
 have hq160 : rmwT i ds az ts ms = [] := by unfold rmwT; simp only [hb28, if_true, Bool.false_eq_true, if_false]
 exact ⟨by rw [hq160], b9⟩
def accT (i : Ins) (ds az : List UInt8) : List UInt8 := (if (i.op == 4) = true then (if i.acq = true then [] else (if i.weak = true then [] else [77, 79, 86] ++ (tlX i.size) ++ [32] ++ ds ++ [44] ++ (memT i))) else (if (i.op == 5) = true then (if i.rel = true then [] else [77, 79, 86] ++ (tlX i.size) ++ [32] ++ (memT i) ++ [44] ++ (regOrT i.a i.imm)) else rmwT i ds az (tlX i.size) (memT i)))
theorem raccess_any (i : Ins) (ds az : List UInt8) (w : World) (hl1 : 0 ≤ i.loc) (hl2 : i.loc ≤ 2) (ho1 : -9223372036854775808 ≤ i.off) (ho2 : i.off ≤ 9223372036854775807) (hi1 : -9223372036854775808 ≤ i.imm) (hi2 : i.imm ≤ 9223372036854775807) (hdsl : ds.length ≤ 100) (hazl : az.length ≤ 100) : Calls Tryz.prog 90 #[J 1, .agg (insC i), .string (S ds), .string (S az)] w λ e w' => e = .returned (.string (S (accT i ds az))) ∧ Grow w w' := by
 have b0 := Grow.refl w
 refine enter (n := 153) Tryz.func90 rfl rfl (nb_ rfl) λ _ A=>sw_<|qs A rfl (d_box (wn rfl) (A.ev rfl) λ g3 w4 eg5 hG6 (m7 : Blk w4 g3 (insC i) 30)=>?_)
 have ge8 : w.heap.size ≤ g3 := eg5 ▸ b0.size
 have b9 := bls b0 hG6
 intro _ A
 refine Z 1 A rfl λ A=>qt_<|sw_<|Z 1 A rfl λ A=>F1 A rfl fo30_8 λ A=>qs A rfl (dld (v := (J i.size)) (wn rfl) (A.ev rfl) one3 (m7.cell rfl) λ _ A=>?_)
 have htl := tl_len i.size
 refine C A rfl ent115 (rtail_any i.size w4) ?_
 rintro e23 w20 ⟨he22, hG21⟩
 have m24 := m7.grow hG21
 have b25 := bls b9 hG21
 refine ⟨(.string (S (tlX i.size))), he22, λ _ A=>Z 1 A rfl λ A=>qt_<|sw_<|Z 1 A rfl λ A=>qs A rfl (dlr (cs := (insC i)) (wn rfl) (A.ev rfl) row30 m24 λ _ A=>?_)⟩
 have hmt := memT_len i (by omega) (by omega)
 refine C A rfl ent126 (rmemtext_any i w20 (by omega) (by omega) (by omega) (by omega)) ?_
 rintro e37 w34 ⟨he36, hG35⟩
 have m38 := m24.grow hG35
 have b39 := bls b25 hG35
 refine ⟨(.string (S (memT i))), he36, λ _ A=>Z 1 A rfl λ A=>qt_<|ws_<|wp_block<|sw_<|F1 A rfl fo30_0 λ A=>qs A rfl (dld (v := (J i.op)) (wn rfl) (A.ev rfl) one3 (m38.cell rfl) λ _ A=>?_)⟩
 rcases eb_ (i.op == 4) with hb48 | hb48
 ·skip
  have hq49 := eq_of_beq hb48
  refine B2 A rfl (bq hb48) λ A=>Z 2 A rfl λ A=>B2 A rfl (b_eq _ _ 1 3 false _ rfl) λ A=>Z 2 A rfl λ A=>qt_<|cf_ A rfl<|sw_<|F1 A rfl fo30_0 λ A=>qs A rfl (dld (v := (J i.op)) (wn rfl) (A.ev rfl) one3 (m38.cell rfl) λ _ A=>B2 A rfl (bq hb48) λ A=>Z 1 A rfl λ A=>F1 A rfl fo30_10 λ A=>?_)
  refine qs A rfl (dld (v := (.bool i.acq)) (wy rfl rfl (A.g 45 rfl)) (A.ev rfl) one4 (m38.cell rfl) λ _ A=>Z 1 A rfl λ A=>?_)
  rcases eb_ (i.acq) with hb76 | hb76
  ·skip
   have A := A.shadow (t := 48) rfl hb76
   refine Z 5 A rfl λ A=>qt_<|ct_ A rfl<|sw_<|Z 1 A rfl λ A=>qt_<|we_<|i_ret<|tr_<|ret1 rfl A (v := (.string (S []))) rfl ?_
   have hq91 : accT i ds az = [] := by unfold accT; simp only [hb48, hb76, if_true, Bool.false_eq_true, if_false]
   exact ⟨by rw [hq91], b39⟩
  have A := A.shadow (t := 48) rfl hb76
  refine F1 A rfl fo30_11 λ A=>qs A rfl (dld (v := (.bool i.weak)) (wy rfl rfl (A.g 48 rfl)) (A.ev rfl) one4 (m38.cell rfl) λ _ A=>Z 3 A rfl λ A=>qt_ ?_)
  rcases eb_ (i.weak) with hb104 | hb104
  ·skip
   have A := A.shadow (t := 41) rfl hb104
   refine ct_ A rfl<|sw_<|Z 1 A rfl λ A=>qt_<|we_<|i_ret<|tr_<|ret1 rfl A (v := (.string (S []))) rfl ?_
   have hq109 : accT i ds az = [] := by unfold accT; simp only [hb48, hb76, hb104, if_true, Bool.false_eq_true, if_false]
   exact ⟨by rw [hq109], b39⟩
  have A := A.shadow (t := 41) rfl hb104
  refine cf_ A rfl<|sw_<|F1 A rfl fo30_0 λ A=>qs A rfl (dld (v := (J i.op)) (wn rfl) (A.ev rfl) one3 (m38.cell rfl) λ _ A=>B2 A rfl (bq hb48) λ A=>Z 2 A rfl λ A=>B2 A rfl (b_eq _ _ 1 2 false _ rfl) λ A=>Z 2 A rfl λ A=>qt_<|cf_ A rfl<|sw_ ?_)
  refine F1 A rfl fo30_0 λ A=>qs A rfl (dld (v := (J i.op)) (wn rfl) (A.ev rfl) one3 (m38.cell rfl) λ _ A=>B2 A rfl (bq hb48) λ A=>Z 1 A rfl @λ a134 A=>qe_ ?_)
  have A : St 153 [(0, (J 1)), (2, (.string (S ds))), (3, (.string (S az))), (5, (.pointer (some ⟨g3, 0, none⟩))), (8, (.string (S []))), (9, (.string (S (tlX i.size)))), (10, (.string (S (memT i)))), (69, (.bool true))] a134 := A.sub rfl
  refine tn_<|ct_ A rfl<|sw_<|Z 1 A rfl λ A=>B2 A rfl (b_sadd (l := [77, 79, 86]) (m := tlX i.size) (by simp only [List.length_append, List.length_cons, List.length_nil]; omega)) λ A=>B2 A rfl (b_sadd (l := [77, 79, 86] ++ (tlX i.size)) (m := [32]) (by simp only [List.length_append, List.length_cons, List.length_nil]; omega)) λ A=>Z 1 A rfl λ A=>B2 A rfl (b_sadd (l := [77, 79, 86] ++ (tlX i.size) ++ [32]) (m := ds) (by simp only [List.length_append, List.length_cons, List.length_nil]; omega)) λ A=>B2 A rfl (b_sadd (l := [77, 79, 86] ++ (tlX i.size) ++ [32] ++ ds) (m := [44]) (by simp only [List.length_append, List.length_cons, List.length_nil]; omega)) λ A=>Z 1 A rfl λ A=>B2 A rfl (b_sadd (l := [77, 79, 86] ++ (tlX i.size) ++ [32] ++ ds ++ [44]) (m := memT i) (by simp only [List.length_append, List.length_cons, List.length_nil]; omega)) λ A=>Z 1 A rfl λ A=>qe_ ?_
  refine tn_<|we_<|i_ret<|tr_<|ret1 rfl A (v := (.string (S ([77, 79, 86] ++ (tlX i.size) ++ [32] ++ ds ++ [44] ++ (memT i))))) rfl ?_
  have hq155 : accT i ds az = [77, 79, 86] ++ (tlX i.size) ++ [32] ++ ds ++ [44] ++ (memT i) := by unfold accT; simp only [hb48, hb76, hb104, if_true, Bool.false_eq_true, if_false]
  exact ⟨by rw [hq155], b39⟩
 have hq156 := ne_of_beq hb48
 refine B2 A rfl (bq hb48) λ A=>Z 5 A rfl λ A=>qt_<|cf_ A rfl<|sw_<|F1 A rfl fo30_0 λ A=>qs A rfl (dld (v := (J i.op)) (wn rfl) (A.ev rfl) one3 (m38.cell rfl) λ _ A=>B2 A rfl (bq hb48) λ A=>Z 9 A rfl λ A=>qt_<|cf_ A rfl ?_)
 refine sw_<|F1 A rfl fo30_0 λ A=>qs A rfl (dld (v := (J i.op)) (wn rfl) (A.ev rfl) one3 (m38.cell rfl) λ _ A=>B2 A rfl (bq hb48) λ A=>Z 5 A rfl λ A=>qt_<|cf_ A rfl<|sw_<|F1 A rfl fo30_0 λ A=>qs A rfl (dld (v := (J i.op)) (wn rfl) (A.ev rfl) one3 (m38.cell rfl) λ _ A=>B2 A rfl (bq hb48) λ A=>?_))
 refine Z 1 A rfl @λ a215 A=>qe_ ?_
 have A : St 153 [(0, (J 1)), (2, (.string (S ds))), (3, (.string (S az))), (5, (.pointer (some ⟨g3, 0, none⟩))), (8, (.string (S []))), (9, (.string (S (tlX i.size)))), (10, (.string (S (memT i)))), (69, (.bool false))] a215 := A.sub rfl
 refine tn_<|cf_ A rfl<|sw_<|F1 A rfl fo30_0 λ A=>qs A rfl (dld (v := (J i.op)) (wn rfl) (A.ev rfl) one3 (m38.cell rfl) λ _ A=>?_)
 rcases eb_ (i.op == 5) with hb222 | hb222
 ·skip
  have hq223 := eq_of_beq hb222
  refine B2 A rfl (bq hb222) λ A=>Z 2 A rfl λ A=>B2 A rfl (b_eq _ _ 1 1 true _ rfl) λ A=>Z 2 A rfl λ A=>qt_<|ct_ A rfl<|ws_<|sw_<|F1 A rfl fo30_12 λ A=>qs A rfl (dld (v := (.bool i.rel)) (wn rfl) (A.ev rfl) one4 (m38.cell rfl) λ _ A=>qt_ ?_)
  rcases eb_ (i.rel) with hb240 | hb240
  ·skip
   have A := A.shadow (t := 90) rfl hb240
   refine ct_ A rfl<|sw_<|Z 1 A rfl λ A=>qt_<|we_<|tr_<|i_ret<|tr_<|ret1 rfl A (v := (.string (S []))) rfl ?_
   have hq245 : accT i ds az = [] := by unfold accT; simp only [hb48, hb222, hb240, if_true, Bool.false_eq_true, if_false]
   exact ⟨by rw [hq245], b39⟩
  have A := A.shadow (t := 90) rfl hb240
  refine cf_ A rfl<|wk_<|tn_<|sw_<|Z 1 A rfl λ A=>B2 A rfl (b_sadd (l := [77, 79, 86]) (m := tlX i.size) (by simp only [List.length_append, List.length_cons, List.length_nil]; omega)) λ A=>B2 A rfl (b_sadd (l := [77, 79, 86] ++ (tlX i.size)) (m := [32]) (by simp only [List.length_append, List.length_cons, List.length_nil]; omega)) λ A=>Z 1 A rfl λ A=>B2 A rfl (b_sadd (l := [77, 79, 86] ++ (tlX i.size) ++ [32]) (m := memT i) (by simp only [List.length_append, List.length_cons, List.length_nil]; omega)) λ A=>B2 A rfl (b_sadd (l := [77, 79, 86] ++ (tlX i.size) ++ [32] ++ (memT i)) (m := [44]) (by simp only [List.length_append, List.length_cons, List.length_nil]; omega)) λ A=>Z 1 A rfl λ A=>F1 A rfl fo30_2 λ A=>qs A rfl (dld (v := (J i.a)) (wn rfl) (A.ev rfl) one3 (m38.cell rfl) λ _ A=>?_)
  refine F1 A rfl fo30_4 λ A=>qs A rfl (dld (v := (J i.imm)) (wn rfl) (A.ev rfl) one3 (m38.cell rfl) λ _ A=>?_)
  have hro := regOrT_len i.a i.imm (by omega) (by omega)
  refine C A rfl ent87 (rregor_any i.a i.imm w34 (by omega) (by omega)) ?_
  rintro e273 w270 ⟨he272, hG271⟩
  have m274 := m38.grow hG271
  have b275 := bls b39 hG271
  refine ⟨(.string (S (regOrT i.a i.imm))), he272, λ _ A=>B2 A rfl (b_sadd (l := [77, 79, 86] ++ (tlX i.size) ++ [32] ++ (memT i) ++ [44]) (m := regOrT i.a i.imm) (by simp only [List.length_append, List.length_cons, List.length_nil]; omega)) λ A=>Z 1 A rfl λ A=>qt_<|we_<|i_ret<|tr_<|ret1 rfl A (v := (.string (S ([77, 79, 86] ++ (tlX i.size) ++ [32] ++ (memT i) ++ [44] ++ (regOrT i.a i.imm))))) rfl ?_⟩
  have hq282 : accT i ds az = [77, 79, 86] ++ (tlX i.size) ++ [32] ++ (memT i) ++ [44] ++ (regOrT i.a i.imm) := by unfold accT; simp only [hb48, hb222, hb240, if_true, Bool.false_eq_true, if_false]
  exact ⟨by rw [hq282], b275⟩
 have hq283 := ne_of_beq hb222
 refine B2 A rfl (bq hb222) λ A=>Z 5 A rfl λ A=>qt_<|cf_ A rfl<|sw_<|F1 A rfl fo30_0 λ A=>qs A rfl (dld (v := (J i.op)) (wn rfl) (A.ev rfl) one3 (m38.cell rfl) λ _ A=>B2 A rfl (bq hb222) λ A=>Z 6 A rfl λ A=>qt_<|cf_ A rfl ?_)
 refine sw_<|F1 A rfl fo30_0 λ A=>qs A rfl (dld (v := (J i.op)) (wn rfl) (A.ev rfl) one3 (m38.cell rfl) λ _ A=>B2 A rfl (bq hb222) λ A=>Z 5 A rfl λ A=>qt_<|cf_ A rfl<|sw_<|F1 A rfl fo30_0 λ A=>qs A rfl (dld (v := (J i.op)) (wn rfl) (A.ev rfl) one3 (m38.cell rfl) λ _ A=>B2 A rfl (bq hb222) λ A=>?_))
 refine Z 1 A rfl λ A=>qt_<|cf_ A rfl<|wk_<|i_norm<|tn_<|sw_<|Z 1 A rfl λ A=>qs A rfl (dlr (cs := (insC i)) (wn rfl) (A.ev rfl) row30 m38 λ _ A=>Z 4 A rfl λ A=>C A rfl ent127 (rrmw_any i ds az (tlX i.size) (memT i) w34 (by omega) (by omega) (by omega) (by omega)) ?_)
 rintro e353 w350 ⟨he352, hG351⟩
 have m354 := m38.grow hG351
 have b355 := bls b39 hG351
 refine ⟨(.string (S (rmwT i ds az (tlX i.size) (memT i)))), he352, λ _ A=>Z 1 A rfl λ A=>qt_<|we_<|ret1 rfl A (v := (.string (S (rmwT i ds az (tlX i.size) (memT i))))) rfl ?_⟩
 have hq360 : accT i ds az = rmwT i ds az (tlX i.size) (memT i) := by unfold accT; simp only [hb48, hb222, if_true, Bool.false_eq_true, if_false]
 exact ⟨by rw [hq360], b355⟩
def txtT (i : Ins) (lb : List UInt8) : List UInt8 := (if (i.op == 1) = true then [77, 79, 86, 32] ++ (nameF i.dst) ++ [44] ++ (numT i.imm) else (if (i.op == 2) = true then [77, 79, 86, 32] ++ (nameF i.dst) ++ [44] ++ (nameF i.a) else (if (i.op == 3) = true then (if (i.dst == i.a) = true then fnT i.fn ++ [32] ++ (nameF i.dst) ++ [44] ++ (regOrT i.b i.imm) else []) else (if (i.op == 9) = true then branT i.zero ++ [32] ++ (nameF i.a) ++ [44] ++ lb else (if (i.op == 7) = true then fenT i else (if (i.op == 8) = true then fenT i else accT i (nameF i.dst) (nameF i.a)))))))
theorem rtext_any (i : Ins) (lb : List UInt8) (w : World) (hop1 : 1 ≤ i.op) (hop2 : i.op ≤ 9) (hfn : i.op = 3 → 0 ≤ i.fn ∧ i.fn ≤ 5) (hlc : i.op = 4 ∨ i.op = 5 ∨ i.op = 6 → 0 ≤ i.loc ∧ i.loc ≤ 2) (ho1 : -9223372036854775808 ≤ i.off) (ho2 : i.off ≤ 9223372036854775807) (hi1 : -9223372036854775808 ≤ i.imm) (hi2 : i.imm ≤ 9223372036854775807) (hll : lb.length ≤ 9000) : Calls Tryz.prog 39 #[J 1, .agg (insC i), .string (S lb)] w λ e w' => e = .returned (.string (S (txtT i lb))) ∧ Grow w w' := by
 have b0 := Grow.refl w
 refine enter (n := 125) Tryz.func39 rfl rfl (nb_ rfl) λ _ A=>sw_<|qs A rfl (d_box (wn rfl) (A.ev rfl) λ g3 w4 eg5 hG6 (m7 : Blk w4 g3 (insC i) 30)=>?_)
 have ge8 : w.heap.size ≤ g3 := eg5 ▸ b0.size
 have b9 := bls b0 hG6
 intro _ A
 refine Z 1 A rfl λ A=>qt_<|sw_<|Z 1 A rfl λ A=>F1 A rfl fo30_1 λ A=>qs A rfl (dld (v := (J i.dst)) (wn rfl) (A.ev rfl) one3 (m7.cell rfl) λ _ A=>?_)
 have hnl := name_len i.dst
 refine C A rfl ent16 (rname_any i.dst w4) ?_
 rintro e23 w20 ⟨he22, hG21⟩
 have m24 := m7.grow hG21
 have b25 := bls b9 hG21
 refine ⟨(.string (S (nameF i.dst))), he22, λ _ A=>Z 1 A rfl λ A=>qt_<|sw_<|Z 1 A rfl λ A=>F1 A rfl fo30_2 λ A=>qs A rfl (dld (v := (J i.a)) (wn rfl) (A.ev rfl) one3 (m24.cell rfl) λ _ A=>?_)⟩
 have hnl := name_len i.a
 refine C A rfl ent16 (rname_any i.a w20) ?_
 rintro e39 w36 ⟨he38, hG37⟩
 have m40 := m24.grow hG37
 have b41 := bls b25 hG37
 refine ⟨(.string (S (nameF i.a))), he38, λ _ A=>Z 1 A rfl λ A=>qt_<|ws_<|sw_<|F1 A rfl fo30_0 λ A=>qs A rfl (dld (v := (J i.op)) (wn rfl) (A.ev rfl) one3 (m40.cell rfl) λ _ A=>qt_<|wp_block<|sw_ ?_)⟩
 rcases eb_ (i.op == 1) with hb50 | hb50
 ·skip
  have hq51 := eq_of_beq hb50
  refine B2 A rfl (bq hb50) λ A=>Z 1 A rfl λ A=>qt_<|ct_ A rfl<|ws_<|sw_<|Z 1 A rfl λ A=>B2 A rfl (b_eq _ _ 1 2 false _ rfl) λ A=>qt_<|cf_ A rfl<|wk_ ?_
  refine tn_<|sw_<|Z 1 A rfl λ A=>B2 A rfl (b_sadd (l := [77, 79, 86, 32]) (m := nameF i.dst) (by simp only [List.length_append, List.length_cons, List.length_nil]; omega)) λ A=>B2 A rfl (b_sadd (l := [77, 79, 86, 32] ++ (nameF i.dst)) (m := [44]) (by simp only [List.length_append, List.length_cons, List.length_nil]; omega)) λ A=>Z 1 A rfl λ A=>F1 A rfl fo30_4 λ A=>qs A rfl (dld (v := (J i.imm)) (wn rfl) (A.ev rfl) one3 (m40.cell rfl) λ _ A=>?_)
  have hil := itoa_len (n := i.imm) (by omega) (by omega)
  have hnt : (numT i.imm).length ≤ 22 := by unfold numT; simp only [List.length_append, List.length_cons, List.length_nil]; omega
  refine C A rfl ent85 (rnumber_any i.imm w36 (by omega) (by omega)) ?_
  rintro e75 w72 ⟨he74, hG73⟩
  have m76 := m40.grow hG73
  have b77 := bls b41 hG73
  refine ⟨(.string (S (numT i.imm))), he74, λ _ A=>B2 A rfl (b_sadd (l := [77, 79, 86, 32] ++ (nameF i.dst) ++ [44]) (m := numT i.imm) (by simp only [List.length_append, List.length_cons, List.length_nil]; omega)) λ A=>Z 1 A rfl λ A=>qt_<|we_<|i_ret<|tr_<|ret1 rfl A (v := (.string (S ([77, 79, 86, 32] ++ (nameF i.dst) ++ [44] ++ (numT i.imm))))) rfl ?_⟩
  have hq84 : txtT i lb = [77, 79, 86, 32] ++ (nameF i.dst) ++ [44] ++ (numT i.imm) := by unfold txtT; simp only [hb50, if_true, Bool.false_eq_true, if_false]
  exact ⟨by rw [hq84], b77⟩
 have hq85 := ne_of_beq hb50
 refine B2 A rfl (bq hb50) λ A=>Z 1 A rfl λ A=>qt_<|cf_ A rfl<|sw_ ?_
 rcases eb_ (i.op == 2) with hb90 | hb90
 ·skip
  have hq91 := eq_of_beq hb90
  refine B2 A rfl (bq hb90) λ A=>Z 1 A rfl λ A=>qt_<|ct_ A rfl<|ws_<|sw_<|Z 1 A rfl λ A=>B2 A rfl (b_eq _ _ 1 2 false _ rfl) λ A=>qt_<|cf_ A rfl<|wk_ ?_
  refine tn_<|sw_<|Z 1 A rfl λ A=>B2 A rfl (b_sadd (l := [77, 79, 86, 32]) (m := nameF i.dst) (by simp only [List.length_append, List.length_cons, List.length_nil]; omega)) λ A=>B2 A rfl (b_sadd (l := [77, 79, 86, 32] ++ (nameF i.dst)) (m := [44]) (by simp only [List.length_append, List.length_cons, List.length_nil]; omega)) λ A=>Z 1 A rfl λ A=>B2 A rfl (b_sadd (l := [77, 79, 86, 32] ++ (nameF i.dst) ++ [44]) (m := nameF i.a) (by simp only [List.length_append, List.length_cons, List.length_nil]; omega)) λ A=>Z 1 A rfl λ A=>qt_<|we_<|i_ret<|tr_ ?_
  refine ret1 rfl A (v := (.string (S ([77, 79, 86, 32] ++ (nameF i.dst) ++ [44] ++ (nameF i.a))))) rfl ?_
  have hq112 : txtT i lb = [77, 79, 86, 32] ++ (nameF i.dst) ++ [44] ++ (nameF i.a) := by unfold txtT; simp only [hb50, hb90, if_true, Bool.false_eq_true, if_false]
  exact ⟨by rw [hq112], b41⟩
 have hq113 := ne_of_beq hb90
 refine B2 A rfl (bq hb90) λ A=>Z 1 A rfl λ A=>qt_<|cf_ A rfl<|sw_ ?_
 rcases eb_ (i.op == 3) with hb118 | hb118
 ·skip
  have hq119 := eq_of_beq hb118
  refine B2 A rfl (bq hb118) λ A=>Z 1 A rfl λ A=>qt_<|ct_ A rfl<|sw_<|Z 1 A rfl λ A=>F1 A rfl fo30_9 λ A=>qs A rfl (dld (v := (J i.fn)) (wn rfl) (A.ev rfl) one3 (m40.cell rfl) λ _ A=>?_)
  have hfl := fn_len i.fn
  refine C A rfl ent86 (rfn_any i.fn w36 (by omega) (by omega)) ?_
  rintro e133 w130 ⟨he132, hG131⟩
  have m134 := m40.grow hG131
  have b135 := bls b41 hG131
  refine ⟨(.string (S (fnT i.fn))), he132, λ _ A=>Z 1 A rfl λ A=>qt_<|ws_<|sw_<|Z 1 A rfl λ A=>B2 A rfl (b_eq _ _ 1 1 true _ rfl) λ A=>qt_<|ct_ A rfl<|ws_<|ws_ ?_⟩
  refine wr_<|F1 A rfl fo30_1 λ A=>qs A rfl (dld (v := (J i.dst)) (wn rfl) (A.ev rfl) one3 (m134.cell rfl) λ _ A=>F1 A rfl fo30_2 λ A=>qs A rfl (dld (v := (J i.a)) (wn rfl) (A.ev rfl) one3 (m134.cell rfl) λ _ A=>?_))
  rcases eb_ (i.dst == i.a) with hb152 | hb152
  ·skip
   have hq153 := eq_of_beq hb152
   refine B2 A rfl (b_ne _ _ i.dst i.a false _ (notof hb152)) λ A=>qt_<|cf_ A rfl<|wk_<|tn_<|sw_<|Z 1 A rfl λ A=>B2 A rfl (b_sadd (l := fnT i.fn) (m := [32]) (by simp only [List.length_append, List.length_cons, List.length_nil]; omega)) λ A=>Z 1 A rfl λ A=>B2 A rfl (b_sadd (l := fnT i.fn ++ [32]) (m := nameF i.dst) (by simp only [List.length_append, List.length_cons, List.length_nil]; omega)) λ A=>B2 A rfl (b_sadd (l := fnT i.fn ++ [32] ++ (nameF i.dst)) (m := [44]) (by simp only [List.length_append, List.length_cons, List.length_nil]; omega)) λ A=>Z 1 A rfl λ A=>?_
   refine F1 A rfl fo30_3 λ A=>qs A rfl (dld (v := (J i.b)) (wn rfl) (A.ev rfl) one3 (m134.cell rfl) λ _ A=>F1 A rfl fo30_4 λ A=>qs A rfl (dld (v := (J i.imm)) (wn rfl) (A.ev rfl) one3 (m134.cell rfl) λ _ A=>?_))
   have hro := regOrT_len i.b i.imm (by omega) (by omega)
   refine C A rfl ent87 (rregor_any i.b i.imm w130 (by omega) (by omega)) ?_
   rintro e179 w176 ⟨he178, hG177⟩
   have m180 := m134.grow hG177
   have b181 := bls b135 hG177
   refine ⟨(.string (S (regOrT i.b i.imm))), he178, λ _ A=>B2 A rfl (b_sadd (l := fnT i.fn ++ [32] ++ (nameF i.dst) ++ [44]) (m := regOrT i.b i.imm) (by simp only [List.length_append, List.length_cons, List.length_nil]; omega)) λ A=>Z 1 A rfl @λ a186 A=>qe_ ?_⟩
   have A : St 125 [(0, (J 1)), (4, (.pointer (some ⟨g3, 0, none⟩))), (6, (.string (S (fnT i.fn ++ [32] ++ (nameF i.dst) ++ [44] ++ (regOrT i.b i.imm))))), (7, (.string (S (nameF i.dst)))), (8, (.string (S (nameF i.a)))), (9, (.string (S (fnT i.fn))))] a186 := A.sub rfl
   refine tn_<|we_<|tr_<|i_ret<|tr_<|ret1 rfl A (v := (.string (S (fnT i.fn ++ [32] ++ (nameF i.dst) ++ [44] ++ (regOrT i.b i.imm))))) rfl ?_
   have hq189 : txtT i lb = fnT i.fn ++ [32] ++ (nameF i.dst) ++ [44] ++ (regOrT i.b i.imm) := by unfold txtT; simp only [hb50, hb90, hb118, hb152, if_true, Bool.false_eq_true, if_false]
   exact ⟨by rw [hq189], b181⟩
  have hq190 := ne_of_beq hb152
  refine B2 A rfl (b_ne _ _ i.dst i.a true _ (notof hb152)) λ A=>qt_<|ct_ A rfl<|sw_<|Z 1 A rfl λ A=>qt_<|we_<|tr_<|tr_<|i_ret<|tr_ ?_
  refine ret1 rfl A (v := (.string (S []))) rfl ?_
  have hq195 : txtT i lb = [] := by unfold txtT; simp only [hb50, hb90, hb118, hb152, if_true, Bool.false_eq_true, if_false]
  exact ⟨by rw [hq195], b135⟩
 have hq196 := ne_of_beq hb118
 refine B2 A rfl (bq hb118) λ A=>Z 1 A rfl λ A=>qt_<|cf_ A rfl<|sw_ ?_
 rcases eb_ (i.op == 9) with hb201 | hb201
 ·skip
  have hq202 := eq_of_beq hb201
  refine B2 A rfl (bq hb201) λ A=>Z 1 A rfl λ A=>qt_<|ct_ A rfl<|sw_<|Z 1 A rfl λ A=>F1 A rfl fo30_16 λ A=>qs A rfl (dld (v := (.bool i.zero)) (wn rfl) (A.ev rfl) one4 (m40.cell rfl) λ _ A=>?_)
  have hbl : (branT i.zero).length ≤ 3 := by unfold branT; split <;> simp
  refine C A rfl ent88 (rbrantext_any i.zero w36) ?_
  rintro e216 w213 ⟨he215, hG214⟩
  have m217 := m40.grow hG214
  have b218 := bls b41 hG214
  refine ⟨(.string (S (branT i.zero))), he215, λ _ A=>B2 A rfl (b_sadd (l := branT i.zero) (m := [32]) (by simp only [List.length_append, List.length_cons, List.length_nil]; omega)) λ A=>Z 1 A rfl λ A=>B2 A rfl (b_sadd (l := branT i.zero ++ [32]) (m := nameF i.a) (by simp only [List.length_append, List.length_cons, List.length_nil]; omega)) λ A=>B2 A rfl (b_sadd (l := branT i.zero ++ [32] ++ (nameF i.a)) (m := [44]) (by simp only [List.length_append, List.length_cons, List.length_nil]; omega)) λ A=>Z 1 A rfl λ A=>B2 A rfl (b_sadd (l := branT i.zero ++ [32] ++ (nameF i.a) ++ [44]) (m := lb) (by simp only [List.length_append, List.length_cons, List.length_nil]; omega)) λ A=>Z 1 A rfl λ A=>qt_<|we_<|i_ret<|tr_<|ret1 rfl A (v := (.string (S (branT i.zero ++ [32] ++ (nameF i.a) ++ [44] ++ lb)))) rfl ?_⟩
  have hq235 : txtT i lb = branT i.zero ++ [32] ++ (nameF i.a) ++ [44] ++ lb := by unfold txtT; simp only [hb50, hb90, hb118, hb201, if_true, Bool.false_eq_true, if_false]
  exact ⟨by rw [hq235], b218⟩
 have hq236 := ne_of_beq hb201
 refine B2 A rfl (bq hb201) λ A=>Z 1 A rfl λ A=>qt_<|cf_ A rfl<|ws_<|sw_ ?_
 rcases eb_ (i.op == 7) with hb241 | hb241
 ·skip
  have hq242 := eq_of_beq hb241
  refine B2 A rfl (bq hb241) λ A=>Z 1 A rfl λ A=>qt_<|ct_ A rfl<|wk_<|tn_<|ct_ A rfl<|sw_<|Z 1 A rfl λ A=>qs A rfl (dlr (cs := (insC i)) (wn rfl) (A.ev rfl) row30 m40 λ _ A=>C A rfl ent89 (rfence_any i w36) ?_)
  rintro e254 w251 ⟨he253, hG252⟩
  have m255 := m40.grow hG252
  have b256 := bls b41 hG252
  refine ⟨(.string (S (fenT i))), he253, λ _ A=>Z 1 A rfl λ A=>qt_<|we_<|i_ret<|tr_<|ret1 rfl A (v := (.string (S (fenT i)))) rfl ?_⟩
  have hq261 : txtT i lb = fenT i := by unfold txtT; simp only [hb50, hb90, hb118, hb201, hb241, if_true, Bool.false_eq_true, if_false]
  exact ⟨by rw [hq261], b256⟩
 have hq262 := ne_of_beq hb241
 refine B2 A rfl (bq hb241) λ A=>Z 1 A rfl λ A=>qt_<|cf_ A rfl<|wr_ ?_
 rcases eb_ (i.op == 8) with hb267 | hb267
 ·skip
  have hq268 := eq_of_beq hb267
  refine B2 A rfl (bq hb267) λ A=>Z 1 A rfl λ A=>qt_<|ct_ A rfl<|sw_<|Z 1 A rfl λ A=>qs A rfl (dlr (cs := (insC i)) (wn rfl) (A.ev rfl) row30 m40 λ _ A=>C A rfl ent89 (rfence_any i w36) ?_)
  rintro e280 w277 ⟨he279, hG278⟩
  have m281 := m40.grow hG278
  have b282 := bls b41 hG278
  refine ⟨(.string (S (fenT i))), he279, λ _ A=>Z 1 A rfl λ A=>qt_<|we_<|i_ret<|tr_<|ret1 rfl A (v := (.string (S (fenT i)))) rfl ?_⟩
  have hq287 : txtT i lb = fenT i := by unfold txtT; simp only [hb50, hb90, hb118, hb201, hb241, hb267, if_true, Bool.false_eq_true, if_false]
  exact ⟨by rw [hq287], b282⟩
 have hq288 := ne_of_beq hb267
 refine B2 A rfl (bq hb267) λ A=>Z 1 A rfl λ A=>qt_<|cf_ A rfl<|wk_<|i_norm<|tn_<|sw_<|Z 1 A rfl λ A=>qs A rfl (dlr (cs := (insC i)) (wn rfl) (A.ev rfl) row30 m40 λ _ A=>Z 2 A rfl λ A=>C A rfl ent90 (raccess_any i (nameF i.dst) (nameF i.a) w36 (by omega) (by omega) (by omega) (by omega) (by omega) (by omega) (by omega) (by omega)) ?_)
 rintro e304 w301 ⟨he303, hG302⟩
 have m305 := m40.grow hG302
 have b306 := bls b41 hG302
 refine ⟨(.string (S (accT i (nameF i.dst) (nameF i.a)))), he303, λ _ A=>Z 1 A rfl λ A=>qt_<|we_<|ret1 rfl A (v := (.string (S (accT i (nameF i.dst) (nameF i.a))))) rfl ?_⟩
 have hq311 : txtT i lb = accT i (nameF i.dst) (nameF i.a) := by unfold txtT; simp only [hb50, hb90, hb118, hb201, hb241, hb267, if_true, Bool.false_eq_true, if_false]
 exact ⟨by rw [hq311], b306⟩
end Go.Proofs.YtjkbjjlfijhbdaaGreatDoor
namespace Go.Proofs.YtjkbjjlfijhbdaaGreatDoor
set_option linter.defProp false
set_option maxHeartbeats 4000000
set_option maxRecDepth 100000
set_option linter.unusedVariables false
set_option linter.unusedSimpArgs false
def isNm (l : List UInt8) : Bool := ((tokensR l).2.1 == 0) && ((((tokensR l).1.length : Nat) : Int) == 1) && (match (tokensR l).1[0]? with | some y => (y.kind == 1) && eqL y.text l | none => false)
end Go.Proofs.YtjkbjjlfijhbdaaGreatDoor
namespace Go.Proofs.YtjkbjjlfijhbdaaGreatDoor
open Go.RowKit
set_option linter.defProp false
set_option maxHeartbeats 4000000
set_option maxRecDepth 100000
set_option linter.unusedVariables false
set_option linter.unusedSimpArgs false
theorem ent10 : Ent Tryz.prog 10 = FF := by kernel_rfl
theorem ent91 : Ent Tryz.prog 91 = FF := by kernel_rfl
theorem rone_any (l : List UInt8) (w : World) (hlm : l.length ≤ 9223372036854775807) : Calls Tryz.prog 40 #[.string (S l)] w λ e w' => e = .returned (.bool (isNm l)) ∧ Grow w w' := by
 have b0 := Grow.refl w
 refine enter (n := 34) Tryz.func40 rfl rfl (nb_ rfl) λ _ A=>sw_<|Z 1 A rfl λ A=>qt_<|sw_<|Z 1 A rfl λ A=>C A rfl ent91 (rtokens_any l w (by omega)) ?_
 rintro e10 w7 ⟨v11, he9, ho12, hG8⟩
 have b14 := bls b0 hG8
 have hSt13 := own_gen (enc := tokE) (λ _ => rfl) ho12
 refine ⟨(.tuple #[v11, (J ((tokensR l).2.1)), (J (((tokensR l).2.2 : Nat) : Int))]), he9, λ _ A=>Z 7 A rfl λ A=>qt_<|sw_<|Z 1 A rfl λ A=>?_⟩
 rcases eb_ ((tokensR l).2.1 == 0) with hb33 | hb33
 ·skip
  have hq34 := eq_of_beq hb33
  refine B2 A rfl (bq hb33) λ A=>Z 2 A rfl λ A=>qs A rfl (dle (n := ((tokensR l).1).length) (wy rfl rfl (A.g 14 rfl)) (A.ev rfl) slc23 hSt13.form λ _ A=>?_)
  rcases eb_ (((((tokensR l).1).length : Nat) : Int) == 1) with hb43 | hb43
  ·skip
   have hq44 := eq_of_beq hb43
   refine B2 A rfl (bq hb43) λ A=>Z 3 A rfl λ A=>?_
   obtain ⟨y53, hy54⟩ : ∃ y53, ((tokensR l).1)[0]? = some y53 := ⟨_, List.getElem?_eq_getElem (show 0 < ((tokensR l).1).length by omega)⟩
   obtain ⟨b55, o56, lt57, hr58, hix59⟩ := hSt13.at hy54
   refine qs A rfl (dia (j := 0) (wy rfl rfl (A.g 19 rfl)) (A.ev rfl) (A.ev rfl) slc23 hix59 (get_lt hy54) λ _ A=>F1 A rfl fo28_0 λ A=>qs A rfl (dld (v := (J y53.kind)) (wy rfl rfl (A.g 19 rfl)) (A.ev rfl) one3 (hr58 0 _ rfl) λ _ A=>?_))
   rcases eb_ (y53.kind == 1) with hb66 | hb66
   ·skip
    have hq67 := eq_of_beq hb66
    refine B2 A rfl (bq hb66) λ A=>Z 3 A rfl λ A=>qs A rfl (dia (j := 0) (wy rfl rfl (A.g 26 rfl)) (A.ev rfl) (A.ev rfl) slc23 hix59 (get_lt hy54) λ _ A=>F1 A rfl fo28_1 λ A=>qs A rfl (dld (v := (.string (S y53.text))) (wy rfl rfl (A.g 26 rfl)) (A.ev rfl) one9 (hr58 1 _ rfl) λ _ A=>Z 1 A rfl λ A=>?_))
    rcases eb_ (eqL y53.text l) with hb84 | hb84
    ·skip
     refine B2 A rfl (b_seq (l := y53.text) (m := l) (r := true) hb84) λ A=>Z 2 A rfl λ A=>qt_<|we_<|ret1 rfl A (v := (.bool true)) rfl ?_
     exact ⟨by unfold isNm; simp only [hb33, hb43, hy54, hb66, hb84, Bool.true_and, Bool.false_and, Bool.and_true, Bool.and_false], b14⟩
    refine B2 A rfl (b_seq (l := y53.text) (m := l) (r := false) hb84) λ A=>Z 2 A rfl λ A=>qt_<|we_<|ret1 rfl A (v := (.bool false)) rfl ?_
    exact ⟨by unfold isNm; simp only [hb33, hb43, hy54, hb66, hb84, Bool.true_and, Bool.false_and, Bool.and_true, Bool.and_false], b14⟩
   have hq99 := ne_of_beq hb66
   refine B2 A rfl (bq hb66) λ A=>Z 10 A rfl λ A=>qt_<|we_<|ret1 rfl A (v := (.bool false)) rfl ?_
   exact ⟨by unfold isNm; simp only [hb33, hb43, hy54, hb66, Bool.true_and, Bool.false_and, Bool.and_true, Bool.and_false], b14⟩
  have hq122 := ne_of_beq hb43
  refine B2 A rfl (bq hb43) λ A=>Z 17 A rfl λ A=>qt_<|we_<|ret1 rfl A (v := (.bool false)) rfl ?_
  exact ⟨by unfold isNm; simp only [hb33, hb43, Bool.true_and, Bool.false_and, Bool.and_true, Bool.and_false], b14⟩
 have hq159 := ne_of_beq hb33
 refine B2 A rfl (bq hb33) λ A=>Z 21 A rfl λ A=>qt_<|we_<|ret1 rfl A (v := (.bool false)) rfl ?_
 exact ⟨by unfold isNm; simp only [hb33, Bool.true_and, Bool.false_and, Bool.and_true, Bool.and_false], b14⟩
theorem isname_any (l : List UInt8) (w : World) (hlm : l.length ≤ 9223372036854775807) (m0 : Int) (hm : w.cell? ⟨0, 0, none⟩ = some (J m0)) (ev : Value) (hev1 : w.cell? ⟨1, 0, none⟩ = some ev) (hev2 : ev = .nilIface ∨ ∃ te pe, ev = .iface te pe) : Calls Tryz.prog 80 #[.string (S l)] w λ e w' => e = .returned (.bool (isNm l)) ∧ Grow w w' := by
 have b0 := Grow.refl w
 refine enter (n := 34) Tryz.func80 rfl rfl (nb_ rfl) λ _ A=>sw_<|Z 1 A rfl λ A=>qt_<|sw_<|Z 1 A rfl λ A=>C A rfl ent10 (tokens_any l w (by omega) m0 (cell_keep hm b0) ev (cell_keep hev1 b0) hev2) ?_
 rintro e10 w7 ⟨v11, he9, ho12, hG8⟩
 have b14 := bls b0 hG8
 have hSt13 := own_gen (enc := tokE) (λ _ => rfl) ho12
 refine ⟨(.tuple #[v11, (J ((tokensR l).2.1)), (J (((tokensR l).2.2 : Nat) : Int))]), he9, λ _ A=>Z 7 A rfl λ A=>qt_<|sw_<|Z 1 A rfl λ A=>?_⟩
 rcases eb_ ((tokensR l).2.1 == 0) with hb33 | hb33
 ·skip
  have hq34 := eq_of_beq hb33
  refine B2 A rfl (bq hb33) λ A=>Z 2 A rfl λ A=>qs A rfl (dle (n := ((tokensR l).1).length) (wy rfl rfl (A.g 14 rfl)) (A.ev rfl) slc23 hSt13.form λ _ A=>?_)
  rcases eb_ (((((tokensR l).1).length : Nat) : Int) == 1) with hb43 | hb43
  ·skip
   have hq44 := eq_of_beq hb43
   refine B2 A rfl (bq hb43) λ A=>Z 3 A rfl λ A=>?_
   obtain ⟨y53, hy54⟩ : ∃ y53, ((tokensR l).1)[0]? = some y53 := ⟨_, List.getElem?_eq_getElem (show 0 < ((tokensR l).1).length by omega)⟩
   obtain ⟨b55, o56, lt57, hr58, hix59⟩ := hSt13.at hy54
   refine qs A rfl (dia (j := 0) (wy rfl rfl (A.g 19 rfl)) (A.ev rfl) (A.ev rfl) slc23 hix59 (get_lt hy54) λ _ A=>F1 A rfl fo28_0 λ A=>qs A rfl (dld (v := (J y53.kind)) (wy rfl rfl (A.g 19 rfl)) (A.ev rfl) one3 (hr58 0 _ rfl) λ _ A=>?_))
   rcases eb_ (y53.kind == 1) with hb66 | hb66
   ·skip
    have hq67 := eq_of_beq hb66
    refine B2 A rfl (bq hb66) λ A=>Z 3 A rfl λ A=>qs A rfl (dia (j := 0) (wy rfl rfl (A.g 26 rfl)) (A.ev rfl) (A.ev rfl) slc23 hix59 (get_lt hy54) λ _ A=>F1 A rfl fo28_1 λ A=>qs A rfl (dld (v := (.string (S y53.text))) (wy rfl rfl (A.g 26 rfl)) (A.ev rfl) one9 (hr58 1 _ rfl) λ _ A=>Z 1 A rfl λ A=>?_))
    rcases eb_ (eqL y53.text l) with hb84 | hb84
    ·skip
     refine B2 A rfl (b_seq (l := y53.text) (m := l) (r := true) hb84) λ A=>Z 2 A rfl λ A=>qt_<|we_<|ret1 rfl A (v := (.bool true)) rfl ?_
     exact ⟨by unfold isNm; simp only [hb33, hb43, hy54, hb66, hb84, Bool.true_and, Bool.false_and, Bool.and_true, Bool.and_false], b14⟩
    refine B2 A rfl (b_seq (l := y53.text) (m := l) (r := false) hb84) λ A=>Z 2 A rfl λ A=>qt_<|we_<|ret1 rfl A (v := (.bool false)) rfl ?_
    exact ⟨by unfold isNm; simp only [hb33, hb43, hy54, hb66, hb84, Bool.true_and, Bool.false_and, Bool.and_true, Bool.and_false], b14⟩
   have hq99 := ne_of_beq hb66
   refine B2 A rfl (bq hb66) λ A=>Z 10 A rfl λ A=>qt_<|we_<|ret1 rfl A (v := (.bool false)) rfl ?_
   exact ⟨by unfold isNm; simp only [hb33, hb43, hy54, hb66, Bool.true_and, Bool.false_and, Bool.and_true, Bool.and_false], b14⟩
  have hq122 := ne_of_beq hb43
  refine B2 A rfl (bq hb43) λ A=>Z 17 A rfl λ A=>qt_<|we_<|ret1 rfl A (v := (.bool false)) rfl ?_
  exact ⟨by unfold isNm; simp only [hb33, hb43, Bool.true_and, Bool.false_and, Bool.and_true, Bool.and_false], b14⟩
 have hq159 := ne_of_beq hb33
 refine B2 A rfl (bq hb33) λ A=>Z 21 A rfl λ A=>qt_<|we_<|ret1 rfl A (v := (.bool false)) rfl ?_
 exact ⟨by unfold isNm; simp only [hb33, Bool.true_and, Bool.false_and, Bool.and_true, Bool.and_false], b14⟩
end Go.Proofs.YtjkbjjlfijhbdaaGreatDoor
namespace Go.Proofs.YtjkbjjlfijhbdaaGreatDoor
set_option linter.defProp false
set_option maxHeartbeats 4000000
set_option maxRecDepth 100000
set_option linter.unusedVariables false
set_option linter.unusedSimpArgs false
theorem right_sound {i : Ins} {p n : Int} (h : rightR i p n = 0) : soundB i = true := by
 unfold rightR at h
 split at h
 ·next hh => rw [Bool.and_eq_true] at hh; exact hh.2
 ·simp at h
theorem acc_loc {i : Ins} (h : accB i = true) : 0 ≤ i.loc ∧ i.loc ≤ 2 := by
 unfold accB at h
 simp only [Bool.and_eq_true, decide_eq_true_eq] at h
 omega
theorem sound_text {i : Ins} (h : soundB i = true) : (1 ≤ i.op ∧ i.op ≤ 9) ∧ (i.op = 3 → 0 ≤ i.fn ∧ i.fn ≤ 5) ∧ (i.op = 4 ∨ i.op = 5 ∨ i.op = 6 → 0 ≤ i.loc ∧ i.loc ≤ 2) := by
 unfold soundB at h
 split at h
 ·next h1 => have e := eq_of_beq h1; exact ⟨by omega, by omega, by omega⟩
 ·split at h
  ·next h1 => have e := eq_of_beq h1; exact ⟨by omega, by omega, by omega⟩
  ·split at h
   ·next h1 =>
    have e := eq_of_beq h1
    simp only [Bool.and_eq_true, decide_eq_true_eq] at h
    exact ⟨by omega, fun _ => by omega, by omega⟩
   ·split at h
    ·next h1 =>
     have e := eq_of_beq h1
     simp only [Bool.and_eq_true] at h
     exact ⟨by omega, by omega, fun _ => acc_loc h.1.2⟩
    ·split at h
     ·next h1 =>
      have e := eq_of_beq h1
      simp only [Bool.and_eq_true] at h
      exact ⟨by omega, by omega, fun _ => acc_loc h.2⟩
     ·split at h
      ·next h1 =>
       have e := eq_of_beq h1
       simp only [Bool.and_eq_true] at h
       exact ⟨by omega, by omega, fun _ => acc_loc h.1.2⟩
      ·split at h
       ·next h1 => have e := eq_of_beq h1; exact ⟨by omega, by omega, by omega⟩
       ·split at h
        ·next h1 => have e := eq_of_beq h1; exact ⟨by omega, by omega, by omega⟩
        ·split at h
         ·next h1 => have e := eq_of_beq h1; exact ⟨by omega, by omega, by omega⟩
         ·cases h
theorem asb_fields (i : Ins) : (asB i).op = i.op ∧ (asB i).fn = i.fn ∧ (asB i).loc = i.loc := by unfold asB; split <;> exact ⟨rfl, rfl, rfl⟩
theorem right_text {i : Ins} {x : Ins} (hx : asB i = x) (h : rightR x 0 1 = 0) : (1 ≤ i.op ∧ i.op ≤ 9) ∧ (i.op = 3 → 0 ≤ i.fn ∧ i.fn ≤ 5) ∧ (i.op = 4 ∨ i.op = 5 ∨ i.op = 6 → 0 ≤ i.loc ∧ i.loc ≤ 2) := by
 subst hx
 have := sound_text (right_sound h)
 obtain ⟨h1, h2, h3⟩ := asb_fields i
 rw [h1, h2, h3] at this
 exact this
end Go.Proofs.YtjkbjjlfijhbdaaGreatDoor
namespace Go.Proofs.YtjkbjjlfijhbdaaGreatDoor
open Go.RowKit
set_option linter.defProp false
set_option maxHeartbeats 4000000
set_option maxRecDepth 100000
set_option linter.unusedVariables false
set_option linter.unusedSimpArgs false
theorem ent39 : Ent Tryz.prog 39 = FF := by kernel_rfl
theorem ent40 : Ent Tryz.prog 40 = FF := by kernel_rfl
def prR (i : Ins) (lb : List UInt8) : List UInt8 × Int := (if (i.op == 9) = true then (if (rightR (Ins.mk i.op i.dst i.a i.b i.imm i.loc i.off i.index i.size i.fn i.acq i.weak i.rel i.pred i.succ 1 i.zero) 0 1 == 0) = true then (if (eqL (txtT i lb) []) = true then ([], 36) else (if (isNm lb) = true then (txtT i lb, 0) else ([], 37))) else ([], 34)) else (if (rightR i 0 1 == 0) = true then (if (eqL (txtT i lb) []) = true then ([], 36) else (txtT i lb, 0)) else ([], 34)))
theorem rprint_any (i : Ins) (lb : List UInt8) (w : World) (ho1 : -9223372036854775808 ≤ i.off) (ho2 : i.off ≤ 9223372036854775807) (hi1 : -9223372036854775808 ≤ i.imm) (hi2 : i.imm ≤ 9223372036854775807) (hll : lb.length ≤ 9000) : Calls Tryz.prog 14 #[J 1, .agg (insC i), .string (S lb)] w λ e w' => e = .returned (.tuple #[.string (S (prR i lb).1), J (prR i lb).2]) ∧ Grow w w' := by
 have b0 := Grow.refl w
 refine enter (n := 33) Tryz.func14 rfl rfl (nb_ rfl) λ _ A=>sw_<|qs A rfl (d_box (wn rfl) (A.ev rfl) λ g3 w4 eg5 hG6 (m7 : Blk w4 g3 (insC i) 30)=>?_)
 have ge8 : w.heap.size ≤ g3 := eg5 ▸ b0.size
 have b9 := bls b0 hG6
 intro _ A
 refine Z 2 A rfl λ A=>qt_<|sw_<|qs A rfl (dlr (cs := (insC i)) (wn rfl) (A.ev rfl) row30 m7 λ _ A=>qs A rfl (dal (wn rfl) zero30 λ g18 w19 eg20 hG21 (m22 : Blk w19 g18 #[J 0, J 0, J 0, J 0, J 0, J 0, J 0, J 0, J 0, J 0, .bool false, .bool false, .bool false, J 0, J 0, J 0, .bool false] 30)=>?_))
 have ge23 : w.heap.size ≤ g18 := eg20 ▸ b9.size
 have n24 := nn_ eg20 m7
 have m25 := m7.grow hG21
 have b26 := bls b9 hG21
 intro _ A
 refine qs A rfl (dsr (wn rfl) (A.ev rfl) (A.ev rfl) row30 m22 rfl rfl λ w29 hU30 (m31 : Blk w29 g18 (insC i) 30)=>?_)
 have m32 := m25.upd hU30 n24
 have b33 := hU30.below b26 ge23
 intro _ A
 refine qt_<|ws_<|sw_<|F1 A rfl fo30_0 λ A=>qs A rfl (dld (v := (J i.op)) (wn rfl) (A.ev rfl) one3 (m31.cell rfl) λ _ A=>?_)
 rcases eb_ (i.op == 9) with hb40 | hb40
 ·skip
  have hq41 := eq_of_beq hb40
  refine B2 A rfl (bq hb40) λ A=>qt_<|ct_ A rfl<|wr_<|F1 A rfl fo30_15 λ A=>qs A rfl (dst_ (wn rfl) (A.ev rfl) (A.ev rfl) one3 rfl m31 (nb_ rfl) λ w46 hU47 (m48 : Blk w46 g18 #[J i.op, J i.dst, J i.a, J i.b, J i.imm, J i.loc, J i.off, J i.index, J i.size, J i.fn, .bool i.acq, .bool i.weak, .bool i.rel, J i.pred, J i.succ, J 1, .bool i.zero] 30)=>?_)
  have m49 := m32.upd hU47 n24
  have b50 := hU47.below b33 ge23
  intro _ A
  refine qt_<|ws_<|sw_<|qs A rfl (dlr (cs := #[J i.op, J i.dst, J i.a, J i.b, J i.imm, J i.loc, J i.off, J i.index, J i.size, J i.fn, .bool i.acq, .bool i.weak, .bool i.rel, J i.pred, J i.succ, J 1, .bool i.zero]) (wn rfl) (A.ev rfl) row30 m48 λ _ A=>C A rfl ent37 (rright_any (Ins.mk i.op i.dst i.a i.b i.imm i.loc i.off i.index i.size i.fn i.acq i.weak i.rel i.pred i.succ 1 i.zero) 0 1 w46) ?_)
  rintro e58 w55 ⟨he57, hG56⟩
  have m59 := m49.grow hG56
  have m60 := m48.grow hG56
  have b61 := bls b50 hG56
  refine ⟨(J (rightR (Ins.mk i.op i.dst i.a i.b i.imm i.loc i.off i.index i.size i.fn i.acq i.weak i.rel i.pred i.succ 1 i.zero) 0 1)), he57, λ _ A=>?_⟩
  rcases eb_ (rightR (Ins.mk i.op i.dst i.a i.b i.imm i.loc i.off i.index i.size i.fn i.acq i.weak i.rel i.pred i.succ 1 i.zero) 0 1 == 0) with hb64 | hb64
  ·skip
   have hq65 := eq_of_beq hb64
   refine B2 A rfl (b_ne _ _ (rightR (Ins.mk i.op i.dst i.a i.b i.imm i.loc i.off i.index i.size i.fn i.acq i.weak i.rel i.pred i.succ 1 i.zero) 0 1) 0 false _ (notof hb64)) λ A=>qt_<|cf_ A rfl<|wk_<|tn_<|sw_<|Z 1 A rfl λ A=>qs A rfl (dlr (cs := (insC i)) (wn rfl) (A.ev rfl) row30 m59 λ _ A=>Z 1 A rfl λ A=>?_)
   obtain ⟨⟨hp1, hp2⟩, hp3, hp4⟩ := right_text (asb_yes hb40) (eq_of_beq hb64)
   refine C A rfl ent39 (rtext_any i lb w55 hp1 hp2 hp3 hp4 ho1 ho2 hi1 hi2 (by omega)) ?_
   rintro e77 w74 ⟨he76, hG75⟩
   have m78 := m59.grow hG75
   have m79 := m60.grow hG75
   have b80 := bls b61 hG75
   refine ⟨(.string (S (txtT i lb))), he76, λ _ A=>Z 1 A rfl λ A=>qt_<|ws_<|sw_<|Z 1 A rfl λ A=>?_⟩
   rcases eb_ (eqL (txtT i lb) []) with hb87 | hb87
   ·skip
    refine B2 A rfl (b_seq (l := txtT i lb) (m := []) (r := true) hb87) λ A=>qt_<|ct_ A rfl<|sw_<|Z 2 A rfl λ A=>qt_<|we_<|tr_<|ret2 (x := (.string (S []))) (y := (J 36)) rfl A rfl rfl ?_
    have hq95 : prR i lb = ([], 36) := by unfold prR; simp only [hb40, hb64, hb87, if_true, Bool.false_eq_true, if_false]
    exact ⟨by rw [hq95], b80⟩
   refine B2 A rfl (b_seq (l := txtT i lb) (m := []) (r := false) hb87) λ A=>qt_<|cf_ A rfl<|wk_<|tn_<|ws_<|sw_<|F1 A rfl fo30_0 λ A=>qs A rfl (dld (v := (J i.op)) (wn rfl) (A.ev rfl) one3 (m78.cell rfl) λ _ A=>B2 A rfl (bq hb40) λ A=>Z 2 A rfl λ A=>C A rfl ent40 (rone_any lb w74 (by omega)) ?_)
   rintro e112 w109 ⟨he111, hG110⟩
   have m113 := m78.grow hG110
   have m114 := m79.grow hG110
   have b115 := bls b80 hG110
   rcases eb_ (isNm lb) with hb116 | hb116
   ·skip
    refine ⟨.bool true, he111.trans (ret_bool hb116), λ _ A=>Z 2 A rfl λ A=>qt_<|cf_ A rfl<|wk_<|tn_<|sw_<|Z 3 A rfl λ A=>qt_<|we_<|ret2 (x := (.string (S (txtT i lb)))) (y := (J 0)) rfl A rfl rfl ?_⟩
    have hq130 : prR i lb = (txtT i lb, 0) := by unfold prR; simp only [hb40, hb64, hb87, hb116, if_true, Bool.false_eq_true, if_false]
    exact ⟨by rw [hq130], b115⟩
   refine ⟨.bool false, he111.trans (ret_bool hb116), λ _ A=>Z 2 A rfl λ A=>qt_<|ct_ A rfl<|sw_<|Z 2 A rfl λ A=>qt_<|we_<|tr_<|ret2 (x := (.string (S []))) (y := (J 37)) rfl A rfl rfl ?_⟩
   have hq142 : prR i lb = ([], 37) := by unfold prR; simp only [hb40, hb64, hb87, hb116, if_true, Bool.false_eq_true, if_false]
   exact ⟨by rw [hq142], b115⟩
  have hq143 := ne_of_beq hb64
  refine B2 A rfl (b_ne _ _ (rightR (Ins.mk i.op i.dst i.a i.b i.imm i.loc i.off i.index i.size i.fn i.acq i.weak i.rel i.pred i.succ 1 i.zero) 0 1) 0 true _ (notof hb64)) λ A=>qt_<|ct_ A rfl<|sw_<|Z 2 A rfl λ A=>qt_<|we_<|tr_<|ret2 (x := (.string (S []))) (y := (J 34)) rfl A rfl rfl ?_
  have hq150 : prR i lb = ([], 34) := by unfold prR; simp only [hb40, hb64, if_true, Bool.false_eq_true, if_false]
  exact ⟨by rw [hq150], b61⟩
 have hq151 := ne_of_beq hb40
 refine B2 A rfl (bq hb40) λ A=>qt_<|cf_ A rfl<|wk_<|tn_<|ws_<|sw_<|qs A rfl (dlr (cs := (insC i)) (wn rfl) (A.ev rfl) row30 m31 λ _ A=>C A rfl ent37 (rright_any i 0 1 w29) ?_)
 rintro e159 w156 ⟨he158, hG157⟩
 have m160 := m32.grow hG157
 have m161 := m31.grow hG157
 have b162 := bls b33 hG157
 refine ⟨(J (rightR i 0 1)), he158, λ _ A=>?_⟩
 rcases eb_ (rightR i 0 1 == 0) with hb165 | hb165
 ·skip
  have hq166 := eq_of_beq hb165
  refine B2 A rfl (b_ne _ _ (rightR i 0 1) 0 false _ (notof hb165)) λ A=>qt_<|cf_ A rfl<|wk_<|tn_<|sw_<|Z 1 A rfl λ A=>qs A rfl (dlr (cs := (insC i)) (wn rfl) (A.ev rfl) row30 m160 λ _ A=>Z 1 A rfl λ A=>?_)
  obtain ⟨⟨hp1, hp2⟩, hp3, hp4⟩ := right_text (asb_no hb40) (eq_of_beq hb165)
  refine C A rfl ent39 (rtext_any i lb w156 hp1 hp2 hp3 hp4 ho1 ho2 hi1 hi2 (by omega)) ?_
  rintro e178 w175 ⟨he177, hG176⟩
  have m179 := m160.grow hG176
  have m180 := m161.grow hG176
  have b181 := bls b162 hG176
  refine ⟨(.string (S (txtT i lb))), he177, λ _ A=>Z 1 A rfl λ A=>qt_<|ws_<|sw_<|Z 1 A rfl λ A=>?_⟩
  rcases eb_ (eqL (txtT i lb) []) with hb188 | hb188
  ·skip
   refine B2 A rfl (b_seq (l := txtT i lb) (m := []) (r := true) hb188) λ A=>qt_<|ct_ A rfl<|sw_<|Z 2 A rfl λ A=>qt_<|we_<|tr_<|ret2 (x := (.string (S []))) (y := (J 36)) rfl A rfl rfl ?_
   have hq196 : prR i lb = ([], 36) := by unfold prR; simp only [hb40, hb165, hb188, if_true, Bool.false_eq_true, if_false]
   exact ⟨by rw [hq196], b181⟩
  refine B2 A rfl (b_seq (l := txtT i lb) (m := []) (r := false) hb188) λ A=>qt_<|cf_ A rfl<|wk_<|tn_<|ws_<|sw_<|F1 A rfl fo30_0 λ A=>qs A rfl (dld (v := (J i.op)) (wn rfl) (A.ev rfl) one3 (m179.cell rfl) λ _ A=>B2 A rfl (bq hb40) λ A=>Z 5 A rfl λ A=>qe_ ?_)
  refine tn_<|cf_ A rfl<|wk_<|tn_<|sw_<|Z 3 A rfl λ A=>qt_<|we_<|ret2 (x := (.string (S (txtT i lb)))) (y := (J 0)) rfl A rfl rfl ?_
  have hq222 : prR i lb = (txtT i lb, 0) := by unfold prR; simp only [hb40, hb165, hb188, if_true, Bool.false_eq_true, if_false]
  exact ⟨by rw [hq222], b181⟩
 have hq223 := ne_of_beq hb165
 refine B2 A rfl (b_ne _ _ (rightR i 0 1) 0 true _ (notof hb165)) λ A=>qt_<|ct_ A rfl<|sw_<|Z 2 A rfl λ A=>qt_<|we_<|tr_<|ret2 (x := (.string (S []))) (y := (J 34)) rfl A rfl rfl ?_
 have hq230 : prR i lb = ([], 34) := by unfold prR; simp only [hb40, hb165, if_true, Bool.false_eq_true, if_false]
 exact ⟨by rw [hq230], b162⟩
section
variable {P : Program} {ops : Array Oper} {a : Act} {w : World} {K : Value → World → Prop} {d : Option Tmp} {ty : TypeId} {pos : String} {af : Array Edge} {gd : Option (Nat × Bool)}
theorem d_buildA {t : TypeId} {parts : Array (Nat × Operand)} {vs : List (Nat × Value)} {cs : Array Value} (hw : Region.wanted { dst := d, op := .build t parts, type := ty, pos := pos, after := af, guard := gd } (yielded ops a.tmps) = true)
  (hx : (parts.map fun x => (x.1, a.eval x.2)).toList = vs) (hb : P.built t vs = some cs) (h : K (.agg cs) w) : Does P ops { dst := d, op := .build t parts, type := ty, pos := pos, after := af, guard := gd } a w K :=
 does_val hw (by
  rw [← hx] at hb
  unfold execOp
  simp only [Sem.run_bind, run_build w t _ _ hb, Result.andThen_ok, Sem.run_pure]) h
theorem d_sliceArr {t n e s g : Nat} {x : Operand} (hw : Region.wanted { dst := d, op := .slice t x none none none, type := ty, pos := pos, after := af, guard := gd } (yielded ops a.tmps) = true) (hx : a.eval x = .pointer (some ⟨g, 0, none⟩)) (ht : arrB P t n e s = true)
  (h : K (.slice (some ⟨g, 0, none⟩) n n) w) : Does P ops { dst := d, op := .slice t x none none none, type := ty, pos := pos, after := af, guard := gd } a w K :=
 does_val hw (by
  have hu := (arr_facts ht).1
  have hl : P.arrayLen t = n := by simp [Program.arrayLen, hu]
  have he : P.elem t = e := by simp [Program.elem, hu]
  have hr := run_sliceAt_array_all (P := P) w t ⟨g, 0, none⟩ (by rw [hl, he]; exact hu)
  rw [hl, he, run_size (arr_facts ht).2] at hr
  have hs : slicedAt ⟨g, 0, none⟩ 0 n n s = .slice (some ⟨g, 0, none⟩) n n := by
   unfold slicedAt; rw [Addr.add_mid, Nat.zero_mul, Nat.add_zero, ite_self, Nat.sub_zero]
  unfold execOp
  simp only [hx, Option.map_none, Sem.run_bind, hr, Result.andThen_ok, Sem.run_pure, hs]) h
end
def regsA : Array Value := #[.string (S [82, 65, 88]), .string (S [82, 66, 88]), .string (S [82, 67, 88]), .string (S [82, 68, 88]), .string (S [82, 83, 73]), .string (S [82, 68, 73]), .string (S [82, 56]), .string (S [82, 57])]
theorem regsA_is : regsA = (regsX.map fun m => Value.string (S m)).toArray := rfl
theorem reg_cell {n : Nat} {y : List UInt8} (h : regsX[n]? = some y) : regsA[0 + n * 1]? = some (.string (S y)) := by
 rw [regsA_is, Nat.zero_add, Nat.mul_one]; simp [h]
theorem arr51 : arrB Tryz.prog 51 8 9 1 = true := by kernel_rfl
theorem ent41 : Ent Tryz.prog 41 = FF := by kernel_rfl
theorem ent42 : Ent Tryz.prog 42 = FF := by kernel_rfl
theorem ent43 : Ent Tryz.prog 43 = FF := by kernel_rfl
theorem ent92 : Ent Tryz.prog 92 = FF := by kernel_rfl
theorem row51 : rowB Tryz.prog 51 8 = true := by kernel_rfl
theorem zero51 : (Tryz.prog.info? 51).map (λ i => (i.zero, i.size)) = some (some (.agg #[.string (S []), .string (S []), .string (S []), .string (S []), .string (S []), .string (S []), .string (S []), .string (S [])]), 8) := by kernel_rfl
theorem registers_any  (w : World) : Calls Tryz.prog 41 #[] w λ e w' => e = .returned (.agg regsA) ∧ Grow w w' := by
 have b0 := Grow.refl w
 refine enter (n := 2) Tryz.func41 rfl rfl (nb_ rfl) λ _ A=>sw_<|qs A rfl (dal (wn rfl) zero51 λ g3 w4 eg5 hG6 (m7 : Blk w4 g3 #[.string (S []), .string (S []), .string (S []), .string (S []), .string (S []), .string (S []), .string (S []), .string (S [])] 51)=>?_)
 have ge8 : w.heap.size ≤ g3 := eg5 ▸ b0.size
 have b9 := bls b0 hG6
 intro _ A
 refine qt_<|sw_<|qs A rfl (d_buildA (cs := regsA) (wn rfl) (bp_of (bq_cons (A.ev rfl) (bq_cons (A.ev rfl) (bq_cons (A.ev rfl) (bq_cons (A.ev rfl) (bq_cons (A.ev rfl) (bq_cons (A.ev rfl) (bq_cons (A.ev rfl) (bq_cons (A.ev rfl) bq_nil))))))))) (by kernel_rfl) λ _ A=>qs A rfl (dsr (wn rfl) (A.ev rfl) (A.ev rfl) row51 m7 rfl rfl λ w14 hU15 (m16 : Blk w14 g3 regsA 51)=>?_))
 have b17 := hU15.below b9 ge8
 intro _ A
 refine qt_<|we_<|retRow (g := g3) (cs := regsA) rfl A rfl m16 row51 ?_
 exact ⟨rfl, b17⟩
theorem lname_at (n : Nat) (yt : List UInt8) (w : World) (hy : regsX[n]? = some yt) : Calls Tryz.prog 42 #[.agg regsA, J ((n : Nat) : Int)] w λ e w' => e = .returned (.string (S yt)) ∧ Grow w w' := by
 have hyl : n < 8 := get_lt hy
 have b0 := Grow.refl w
 refine enter (n := 14) Tryz.func42 rfl rfl (nb_ rfl) λ _ A=>sw_<|qs A rfl (d_box (wn rfl) (A.ev rfl) λ g3 w4 eg5 hG6 (m7 : Blk w4 g3 regsA 51)=>?_)
 have ge8 : w.heap.size ≤ g3 := eg5 ▸ b0.size
 have b9 := bls b0 hG6
 intro _ A
 refine Z 1 A rfl λ A=>qt_<|ws_<|sw_<|Z 1 A rfl λ A=>B2 A rfl (b_lt _ _ ((n : Nat) : Int) 0 false _ (decide_eq_false (by omega))) λ A=>Z 2 A rfl λ A=>B2 A rfl (b_ge _ _ ((n : Nat) : Int) 8 false _ (decide_eq_false (by omega))) λ A=>Z 1 A rfl λ A=>qt_<|cf_ A rfl ?_
 refine wk_<|tn_<|sw_<|Z 1 A rfl λ A=>qs A rfl (d_indexArr (j := n) (wn rfl) (A.ev rfl) (A.ev rfl) arr51 (by omega) λ _ A=>qs A rfl (dld (v := .string (S yt)) (wn rfl) (A.ev rfl) one9 (m7.cell (reg_cell hy)) λ _ A=>Z 1 A rfl λ A=>qt_<|we_<|ret1 rfl A (v := (.string (S yt))) rfl ?_))
 exact ⟨rfl, b9⟩
theorem lname_neg (r : Int) (w : World) (hr : r < 0) : Calls Tryz.prog 42 #[.agg regsA, J r] w λ e w' => e = .returned (.string (S [])) ∧ Grow w w' := by
 have b0 := Grow.refl w
 refine enter (n := 14) Tryz.func42 rfl rfl (nb_ rfl) λ _ A=>sw_<|qs A rfl (d_box (wn rfl) (A.ev rfl) λ g3 w4 eg5 hG6 (m7 : Blk w4 g3 regsA 51)=>?_)
 have ge8 : w.heap.size ≤ g3 := eg5 ▸ b0.size
 have b9 := bls b0 hG6
 intro _ A
 refine Z 1 A rfl λ A=>qt_<|ws_<|sw_<|Z 1 A rfl λ A=>B2 A rfl (b_lt _ _ r 0 true _ (decide_eq_true hr)) λ A=>Z 4 A rfl λ A=>qt_<|ct_ A rfl<|sw_ ?_
 refine Z 1 A rfl λ A=>qt_<|we_<|tr_<|ret1 rfl A (v := (.string (S []))) rfl ?_
 exact ⟨rfl, b9⟩
theorem lname_big (r : Int) (w : World) (hr : r > 7) : Calls Tryz.prog 42 #[.agg regsA, J r] w λ e w' => e = .returned (.string (S [])) ∧ Grow w w' := by
 have b0 := Grow.refl w
 refine enter (n := 14) Tryz.func42 rfl rfl (nb_ rfl) λ _ A=>sw_<|qs A rfl (d_box (wn rfl) (A.ev rfl) λ g3 w4 eg5 hG6 (m7 : Blk w4 g3 regsA 51)=>?_)
 have ge8 : w.heap.size ≤ g3 := eg5 ▸ b0.size
 have b9 := bls b0 hG6
 intro _ A
 refine Z 1 A rfl λ A=>qt_<|ws_<|sw_<|Z 1 A rfl λ A=>B2 A rfl (b_lt _ _ r 0 false _ (decide_eq_false (by omega))) λ A=>Z 2 A rfl λ A=>B2 A rfl (b_ge _ _ r 8 true _ (decide_eq_true (by omega))) λ A=>Z 1 A rfl λ A=>qt_<|ct_ A rfl ?_
 refine sw_<|Z 1 A rfl λ A=>qt_<|we_<|tr_<|ret1 rfl A (v := (.string (S []))) rfl ?_
 exact ⟨rfl, b9⟩
theorem lname_any (r : Int) (w : World) : Calls Tryz.prog 42 #[.agg regsA, J r] w λ e w' => e = .returned (.string (S (nameF r))) ∧ Grow w w' := by
 by_cases h : r < 0
 ·rw [name_neg h]; exact lname_neg r w h
 ·by_cases h2 : r > 7
  ·rw [name_big h2]; exact lname_big r w h2
  ·have hy := List.getElem?_eq_getElem (show r.toNat < regsX.length by show r.toNat < 8; omega)
   have e : r = ((r.toNat : Nat) : Int) := by omega
   rw [e, name_at hy]; exact lname_at r.toNat _ w hy
theorem xname_any (r : Int) (w : World) : Calls Tryz.prog 15 #[J r] w λ e w' => e = .returned (.string (S (nameF r))) ∧ Grow w w' := by
 have b0 := Grow.refl w
 refine enter (n := 6) Tryz.func15 rfl rfl (nb_ rfl) λ _ A=>sw_<|Z 1 A rfl λ A=>qt_<|sw_<|C A rfl ent41 (registers_any w) ?_
 rintro e8 w5 ⟨he7, hG6⟩
 have b9 := bls b0 hG6
 refine ⟨(.agg regsA), he7, λ _ A=>Z 1 A rfl λ A=>C A rfl ent42 (lname_any r w5) ?_⟩
 rintro e17 w14 ⟨he16, hG15⟩
 have b18 := bls b9 hG15
 refine ⟨(.string (S (nameF r))), he16, λ _ A=>Z 1 A rfl λ A=>qt_<|we_<|ret1 rfl A (v := (.string (S (nameF r)))) rfl ?_⟩
 exact ⟨rfl, b18⟩
theorem sindex_any (mv : Value) (ls : List (List UInt8)) (q : List UInt8) (w : World) (hM : Sl strE 1 w.heap.size w mv ls) (hls : ls.length ≤ 1000000) : Calls Tryz.prog 92 #[mv, .string (S q)] w λ e w' => e = .returned (J (idxL ls q 0)) ∧ Grow w w' := by
 have b0 := Grow.refl w
 refine enter (n := 19) Tryz.func92 rfl rfl (nb_ rfl) λ _ A=>sw_<|Z 1 A rfl λ A=>qt_<|ws_<|sw_<|Z 1 A rfl λ A=>qs A rfl (dle (n := ls.length) (wn rfl) (A.ev rfl) slc76 hM.form λ _ A=>Z 1 A rfl λ A=>qt_ ?_)
 refine wp_block<|loop_by (λ m12 a13 w14 => ∃ j11 : Nat, m12 = ls.length - j11 ∧ (j11 ≤ ls.length ∧ idxL (ls.drop j11) q j11 = idxL ls q 0) ∧ St 19 [(0, mv), (1, (.string (S q))), (7, (J ((ls.length : Nat) : Int))), (8, (J ((j11 : Nat) : Int)))] a13 ∧ Below w.heap.size w w14) (ls.length - 0) ⟨0, rfl, ⟨by omega, rfl⟩, A.cut _ (fc (A.g 0 rfl) (fc (A.g 1 rfl) (fc (A.g 7 rfl) (fc ((A.g 8 rfl).trans (congrArg (Value.int .i64) (by omega))) fn_)))), b0⟩ ?_
 rintro m12 a13 w14 ⟨j11, hm17, hc18, A, b16⟩
 obtain ⟨hj1, hj2⟩ := hc18
 refine sw_ ?_
 rcases eb_ (decide (((j11 : Nat) : Int) < ((ls.length : Nat) : Int))) with hb19 | hb19
 ·skip
  have hq20 := dt_ hb19
  refine B2 A rfl (bl hb19) λ A=>qt_<|ws_<|ct_ A rfl<|wk_<|tn_<|ws_<|wp_block<|sw_<|Z 2 A rfl λ A=>qt_ ?_
  refine sw_<|Z 3 A rfl λ A=>?_
  obtain ⟨y33, hy34⟩ : ∃ y33, ls[j11]? = some y33 := ⟨_, List.getElem?_eq_getElem (show j11 < ls.length by omega)⟩
  obtain ⟨b35, o36, lt37, hr38, hix39⟩ := (hM.below b16).at hy34
  refine qs A rfl (dia (j := j11) (wn rfl) (A.ev rfl) (A.ev rfl) slc76 hix39 (get_lt hy34) λ _ A=>qs A rfl (dld (v := (.string (S y33))) (wn rfl) (A.ev rfl) one9 (hr38 0 _ rfl) λ _ A=>?_))
  rcases eb_ (eqL q y33) with hb44 | hb44
  ·skip
   refine B2 A rfl (b_seq (l := q) (m := y33) (r := true) hb44) λ A=>qt_<|ct_ A rfl<|sw_<|Z 2 A rfl λ A=>qt_<|we_<|i_ret<|tr_<|tr_<|i_ret ?_
   refine tr_<|ret1 rfl A (v := (J ((j11 : Nat) : Int))) rfl ?_
   exact ⟨by rw [← hj2, idx_hit hy34 (eqL_flip hb44)], b16⟩
  refine B2 A rfl (b_seq (l := q) (m := y33) (r := false) hb44) λ A=>qt_<|cf_ A rfl<|wk_<|i_norm<|tn_<|wr_<|B2 A rfl (b_addE (j11 + 1) (by omega) (by omega)) λ A=>Z 1 A rfl λ A=>qt_ ?_
  have hgo := (idx_go hy34 (eqL_flip hb44)).symm.trans hj2
  exact ⟨ls.length - (j11 + 1), (by rw [hm17]; omega), j11 + 1, rfl, ⟨by omega, hgo⟩, A.sub rfl, b16⟩
 have hq59 := df_ hb19
 refine B2 A rfl (bl hb19) λ A=>qt_<|ws_<|cf_ A rfl<|wp_exit<|t_exit<|t_exit<|i_here<|tn_<|sw_<|Z 1 A rfl λ A=>qe_ ?_
 refine tn_<|we_<|ret1 rfl A (v := (J (-1))) rfl ?_
 exact ⟨by rw [← hj2, idx_end (show ls.length ≤ j11 by omega)], b16⟩
theorem lreg_any (q : List UInt8) (w : World) : Calls Tryz.prog 43 #[.agg regsA, .string (S q)] w λ e w' => e = .returned (J (regF q)) ∧ Grow w w' := by
 have b0 := Grow.refl w
 refine enter (n := 8) Tryz.func43 rfl rfl (nb_ rfl) λ _ A=>sw_<|qs A rfl (d_box (wn rfl) (A.ev rfl) λ g3 w4 eg5 hG6 (m7 : Blk w4 g3 regsA 51)=>?_)
 have ge8 : w.heap.size ≤ g3 := eg5 ▸ b0.size
 have b9 := bls b0 hG6
 intro _ A
 refine Z 1 A rfl λ A=>qt_<|sw_<|qs A rfl (d_sliceArr (wn rfl) (A.ev rfl) arr51 λ _ A=>Z 1 A rfl λ A=>C A rfl ent92 (sindex_any (.slice (some ⟨g3, 0, none⟩) 8 8) regsX q w4 (sl_lit (l := regsX) m7 regsA_is rfl) (by decide)) ?_)
 rintro e21 w18 ⟨he20, hG19⟩
 have m22 := m7.grow hG19
 have b23 := bls b9 hG19
 refine ⟨(J (idxL regsX q 0)), he20, λ _ A=>Z 1 A rfl λ A=>qt_<|we_<|ret1 rfl A (v := (J (idxL regsX q 0))) rfl ?_⟩
 exact ⟨rfl, b23⟩
theorem xreg_any (q : List UInt8) (w : World) : Calls Tryz.prog 17 #[.string (S q)] w λ e w' => e = .returned (J (regF q)) ∧ Grow w w' := by
 have b0 := Grow.refl w
 refine enter (n := 6) Tryz.func17 rfl rfl (nb_ rfl) λ _ A=>sw_<|Z 1 A rfl λ A=>qt_<|sw_<|C A rfl ent41 (registers_any w) ?_
 rintro e8 w5 ⟨he7, hG6⟩
 have b9 := bls b0 hG6
 refine ⟨(.agg regsA), he7, λ _ A=>Z 1 A rfl λ A=>C A rfl ent43 (lreg_any q w5) ?_⟩
 rintro e17 w14 ⟨he16, hG15⟩
 have b18 := bls b9 hG15
 refine ⟨(J (regF q)), he16, λ _ A=>Z 1 A rfl λ A=>qt_<|we_<|ret1 rfl A (v := (J (regF q))) rfl ?_⟩
 exact ⟨rfl, b18⟩
end Go.Proofs.YtjkbjjlfijhbdaaGreatDoor
namespace Go.Proofs.YtjkbjjlfijhbdaaGreatDoor
set_option linter.defProp false
set_option maxHeartbeats 4000000
set_option maxRecDepth 100000
set_option linter.unusedVariables false
set_option linter.unusedSimpArgs false
def wrongB (i : Ins) : Bool := rightR i 0 0 == 34
theorem wrong_is (i : Ins) : wrongB i = !(insEq i (plainF i) && soundB i) := by
 unfold wrongB rightR
 cases h : (insEq i (plainF i) && soundB i)
 ·simp
 ·simp only [if_true]
  split <;> simp
theorem asb_plain (i : Ins) : insEq (asB i) (plainF (asB i)) = insEq i (plainF i) := by
 unfold asB
 split
 ·next h =>
  have e := eq_of_beq h
  cases i
  simp only at e
  subst e
  simp [insEq, plainF, opB, rdB, wrB, immF]
 ·rfl
theorem asb_sound (i : Ins) : soundB (asB i) = soundB i := by
 unfold asB
 split
 ·rfl
 ·rfl
theorem wrong_asb (i : Ins) : (rightR (asB i) 0 1 == 0) = !wrongB i := by
 rw [wrong_is, Bool.not_not]
 unfold rightR
 rw [asb_plain, asb_sound]
 cases h : (insEq i (plainF i) && soundB i)
 ·simp
 ·simp only [if_true]
  unfold asB
  split
  ·simp
  ·next h9 => simp [h9]
end Go.Proofs.YtjkbjjlfijhbdaaGreatDoor
namespace Go.Proofs.YtjkbjjlfijhbdaaGreatDoor
open Go.RowKit
set_option linter.defProp false
set_option maxHeartbeats 4000000
set_option maxRecDepth 100000
set_option linter.unusedVariables false
set_option linter.unusedSimpArgs false
theorem ent110 : Ent Tryz.prog 110 = FF := by kernel_rfl
theorem iswrong_any (i : Ins) (w : World) : Calls Tryz.prog 63 #[.agg (insC i)] w λ e w' => e = .returned (.bool (wrongB i)) ∧ Grow w w' := by
 have b0 := Grow.refl w
 refine enter (n := 6) Tryz.func63 rfl rfl (nb_ rfl) λ _ A=>sw_<|qs A rfl (d_box (wn rfl) (A.ev rfl) λ g3 w4 eg5 hG6 (m7 : Blk w4 g3 (insC i) 30)=>?_)
 have ge8 : w.heap.size ≤ g3 := eg5 ▸ b0.size
 have b9 := bls b0 hG6
 intro _ A
 refine Z 1 A rfl λ A=>qt_<|sw_<|qs A rfl (dlr (cs := (insC i)) (wn rfl) (A.ev rfl) row30 m7 λ _ A=>C A rfl ent110 (right_any i 0 0 w4) ?_)
 rintro e19 w16 ⟨he18, hG17⟩
 have m20 := m7.grow hG17
 have b21 := bls b9 hG17
 refine ⟨(J (rightR i 0 0)), he18, λ _ A=>?_⟩
 rcases eb_ (rightR i 0 0 == 34) with hb24 | hb24
 ·skip
  have hq25 := eq_of_beq hb24
  refine B2 A rfl (bq hb24) λ A=>Z 1 A rfl λ A=>qt_<|we_<|ret1 rfl A (v := (.bool true)) rfl ?_
  exact ⟨ret_bool (show true = wrongB i from hb24.symm), b21⟩
 have hq30 := ne_of_beq hb24
 refine B2 A rfl (bq hb24) λ A=>Z 1 A rfl λ A=>qt_<|we_<|ret1 rfl A (v := (.bool false)) rfl ?_
 exact ⟨ret_bool (show false = wrongB i from hb24.symm), b21⟩
structure Rw where
 name : List UInt8
 ins : Ins
 pv : Value
 parts : List Int
structure Lg where
 r0 : List UInt8
 r1 : List UInt8
 r2 : List UInt8
 r3 : List UInt8
 r4 : List UInt8
 r5 : List UInt8
 r6 : List UInt8
 r7 : List UInt8
 l0 : List UInt8
 l1 : List UInt8
 l2 : List UInt8
 l3 : List UInt8
 mrk : List UInt8
 f0 : List UInt8
 f1 : List UInt8
 f2 : List UInt8
 rv : Value
 rows : List Rw
def Lg.regs (g : Lg) : List (List UInt8) := [g.r0, g.r1, g.r2, g.r3, g.r4, g.r5, g.r6, g.r7]
def Lg.lets (g : Lg) : List (List UInt8) := [g.l0, g.l1, g.l2, g.l3]
def Lg.fens (g : Lg) : List (List UInt8) := [g.f0, g.f1, g.f2]
def regA (g : Lg) : Array Value := #[.string (S g.r0), .string (S g.r1), .string (S g.r2), .string (S g.r3), .string (S g.r4), .string (S g.r5), .string (S g.r6), .string (S g.r7)]
def letA (g : Lg) : Array Value := #[.string (S g.l0), .string (S g.l1), .string (S g.l2), .string (S g.l3)]
def lgC (g : Lg) : Array Value := #[.string (S g.r0), .string (S g.r1), .string (S g.r2), .string (S g.r3), .string (S g.r4), .string (S g.r5), .string (S g.r6), .string (S g.r7), .string (S g.l0), .string (S g.l1), .string (S g.l2), .string (S g.l3), .string (S g.mrk), .string (S g.f0), .string (S g.f1), .string (S g.f2), g.rv]
def rwC (r : Rw) : Array Value := #[.string (S r.name), .int .i64 r.ins.op, .int .i64 r.ins.dst, .int .i64 r.ins.a, .int .i64 r.ins.b, .int .i64 r.ins.imm, .int .i64 r.ins.loc, .int .i64 r.ins.off, .int .i64 r.ins.index, .int .i64 r.ins.size, .int .i64 r.ins.fn,
 .bool r.ins.acq, .bool r.ins.weak, .bool r.ins.rel, .int .i64 r.ins.pred, .int .i64 r.ins.succ, .int .i64 r.ins.to, .bool r.ins.zero, r.pv]
def rwE (r : Rw) : List Value := (rwC r).toList
def ptE (p : Int) : List Value := [.int .i64 p]
theorem regA_is (g : Lg) : regA g = (g.regs.map fun m => Value.string (S m)).toArray := rfl
theorem regA_at {g : Lg} {n : Nat} {y : List UInt8} (h : g.regs[n]? = some y) : (regA g)[0 + n * 1]? = some (.string (S y)) := by
 rw [regA_is, Nat.zero_add, Nat.mul_one]; simp [h]
theorem letA_at {g : Lg} {n : Nat} {y : List UInt8} (h : g.lets[n]? = some y) : (letA g)[n]? = some (.string (S y)) := by
 have : letA g = (g.lets.map fun m => Value.string (S m)).toArray := rfl
 rw [this]; simp [h]
theorem lgC_fen {g : Lg} {n : Nat} {y : List UInt8} (h : g.fens[n]? = some y) : (lgC g)[13 + n * 1]? = some (.string (S y)) := by
 have : n < 3 := get_lt h
 have h3 : n = 0 ∨ n = 1 ∨ n = 2 := by omega
 rcases h3 with rfl | rfl | rfl <;> (simp [Lg.fens] at h; subst h; rfl)
theorem Blk.mid {w : World} {g k : Nat} {cs : Array Value} {t : TypeId} {sub : List Value} (h : Blk w g cs t) (hs : (cs.toList.drop k).take sub.length = sub) : w.rangeAt g k sub := fun j x hx => by
 refine h.cell ?_
 rw [← hs] at hx
 have hj : j < sub.length := by
  rcases Nat.lt_or_ge j sub.length with h' | h'
  ·exact h'
  ·rw [List.getElem?_eq_none (by rw [List.length_take]; omega)] at hx; cases hx
 rw [List.getElem?_take_of_lt hj, List.getElem?_drop] at hx
 simpa using hx
def wStep (i j : Ins) (p : Int) : Ins :=
 if p == 1 then { j with dst := i.dst } else
 if p == 2 then { j with a := i.a } else
 if p == 3 then { j with b := i.b } else
 if p == 4 then { j with dst := i.dst, a := i.dst } else
 if p == 5 then { j with imm := i.imm } else
 if p == 6 then { j with loc := i.loc, off := i.off, index := i.index, size := i.size } else
 if p == 7 then { j with to := i.to } else
 if p == 8 then { j with pred := i.pred } else
 if p == 9 then { j with succ := i.succ } else j
def bare0 (i : Ins) : Ins := { i with dst := -1, a := -1, b := -1, index := -1 }
def withR (r : Rw) (i : Ins) : Ins := r.parts.foldl (wStep i) (bare0 r.ins)
theorem fold_go {α β : Type} {f : β → α → β} {l : List α} {n : Nat} {y : α} (h : l[n]? = some y) (j : β) : (l.drop n).foldl f j = (l.drop (n + 1)).foldl f (f j y) := by
 obtain ⟨h1, h2⟩ := List.getElem?_eq_some_iff.1 h
 rw [List.drop_eq_getElem_cons h1, h2]; rfl
theorem fold_end {α β : Type} {f : β → α → β} {l : List α} {n : Nat} (h : l.length ≤ n) (j : β) : (l.drop n).foldl f j = j := by rw [List.drop_eq_nil_of_le h]; rfl
def regP (p : Int) (i : Ins) : Int × Bool := if p == 1 then (i.dst, true) else if p == 4 then (i.dst, true) else if p == 2 then (i.a, true) else if p == 3 then (i.b, true) else (-1, false)
def lacks (i : Ins) (p : Int) : Bool := (regP p i).2 && ((regP p i).1 == -1)
def showsR (r : Rw) (i : Ins) : Bool := r.parts.all fun p => !lacks i p
theorem alls_go {α : Type} {f : α → Bool} {l : List α} {n : Nat} {y : α} (h : l[n]? = some y) (hy : f y = true) : (l.drop n).all f = (l.drop (n + 1)).all f := by
 obtain ⟨h1, h2⟩ := List.getElem?_eq_some_iff.1 h
 rw [List.drop_eq_getElem_cons h1, h2, List.all_cons, hy, Bool.true_and]
theorem alls_stop {α : Type} {f : α → Bool} {l : List α} {n : Nat} {y : α} (h : l[n]? = some y) (hy : f y = false) : (l.drop n).all f = false := by
 obtain ⟨h1, h2⟩ := List.getElem?_eq_some_iff.1 h
 rw [List.drop_eq_getElem_cons h1, h2, List.all_cons, hy, Bool.false_and]
theorem alls_end {α : Type} {f : α → Bool} {l : List α} {n : Nat} (h : l.length ≤ n) : (l.drop n).all f = true := by rw [List.drop_eq_nil_of_le h]; rfl
def fitsR (i : Ins) (r : Rw) : Bool := insEq (withR r i) i && showsR r i
def rowF (g : Lg) (i : Ins) : Option Rw := g.rows.find? (fitsR i)
theorem find_go {α : Type} {f : α → Bool} {l : List α} {n : Nat} {y : α} (h : l[n]? = some y) (hy : f y = false) : (l.drop n).find? f = (l.drop (n + 1)).find? f := by
 obtain ⟨h1, h2⟩ := List.getElem?_eq_some_iff.1 h
 rw [List.drop_eq_getElem_cons h1, h2, List.find?_cons, hy]
theorem find_hit {α : Type} {f : α → Bool} {l : List α} {n : Nat} {y : α} (h : l[n]? = some y) (hy : f y = true) : (l.drop n).find? f = some y := by
 obtain ⟨h1, h2⟩ := List.getElem?_eq_some_iff.1 h
 rw [List.drop_eq_getElem_cons h1, h2, List.find?_cons, hy]
theorem find_end {α : Type} {f : α → Bool} {l : List α} {n : Nat} (h : l.length ≤ n) : (l.drop n).find? f = none := by rw [List.drop_eq_nil_of_le h]; rfl
def nameL (g : Lg) (r : Int) : List UInt8 := if r < 0 ∨ r > 7 then [] else (g.regs[r.toNat]?).getD []
theorem nameL_neg {g : Lg} {r : Int} (h : r < 0) : nameL g r = [] := by unfold nameL; rw [if_pos (.inl h)]
theorem nameL_big {g : Lg} {r : Int} (h : r > 7) : nameL g r = [] := by unfold nameL; rw [if_pos (.inr h)]
theorem nameL_at {g : Lg} {n : Nat} {y : List UInt8} (h : g.regs[n]? = some y) : nameL g (n : Int) = y := by
 have : n < 8 := get_lt h
 unfold nameL; rw [if_neg (by omega), Int.toNat_natCast, h]; rfl
structure TabOK (B : Nat) (w : World) (g : Lg) : Prop where
 rows : Sl rwE 19 B w g.rv g.rows
 parts : ∀ r ∈ g.rows, Sl ptE 1 B w r.pv r.parts
 many : g.rows.length ≤ 1000
 few : ∀ r ∈ g.rows, r.parts.length ≤ 1000
theorem TabOK.below {B : Nat} {w w' : World} {g : Lg} (h : TabOK B w g) (hb : Below B w w') : TabOK B w' g := ⟨h.rows.below hb, fun r hr => (h.parts r hr).below hb, h.many, h.few⟩
theorem TabOK.mono {B B' : Nat} {w : World} {g : Lg} (h : TabOK B w g) (hb : B ≤ B') : TabOK B' w g := ⟨h.rows.mono hb, fun r hr => (h.parts r hr).mono hb, h.many, h.few⟩
theorem TabOK.at {B n : Nat} {w : World} {g : Lg} {r : Rw} (h : TabOK B w g) (hr : g.rows[n]? = some r) : Sl ptE 1 B w r.pv r.parts ∧ r.parts.length ≤ 1000 := ⟨h.parts r (List.mem_of_getElem? hr), h.few r (List.mem_of_getElem? hr)⟩
theorem rw_one {B : Nat} {w : World} {r : Rw} (h : Sl ptE 1 B w r.pv r.parts) : (rwC r).toList.all (·.oneCell') = true := by
 obtain ⟨ao, cap, hv⟩ := h.form
 simp [rwC, hv, Value.oneCell']
theorem ent120 : Ent Tryz.prog 120 = FF := by kernel_rfl
theorem fo105_1 : fieldOff Tryz.prog 105 1 = some 1 := by kernel_rfl
theorem fo105_2 : fieldOff Tryz.prog 105 2 = some 18 := by kernel_rfl
theorem one103 : oneB Tryz.prog 103 = true := by kernel_rfl
theorem one109 : oneB Tryz.prog 109 = true := by kernel_rfl
theorem slc103 : sliceB Tryz.prog 103 109 1 = true := by kernel_rfl
theorem gname_at (lg : Lg) (n : Nat) (yt : List UInt8) (w : World) (hy : lg.regs[n]? = some yt) : Calls Tryz.prog 42 #[.agg (regA lg), J ((n : Nat) : Int)] w λ e w' => e = .returned (.string (S yt)) ∧ Grow w w' := by
 have hyl : n < 8 := get_lt hy
 have b0 := Grow.refl w
 refine enter (n := 14) Tryz.func42 rfl rfl (nb_ rfl) λ _ A=>sw_<|qs A rfl (d_box (wn rfl) (A.ev rfl) λ g3 w4 eg5 hG6 (m7 : Blk w4 g3 (regA lg) 51)=>?_)
 have ge8 : w.heap.size ≤ g3 := eg5 ▸ b0.size
 have b9 := bls b0 hG6
 intro _ A
 refine Z 1 A rfl λ A=>qt_<|ws_<|sw_<|Z 1 A rfl λ A=>B2 A rfl (b_lt _ _ ((n : Nat) : Int) 0 false _ (decide_eq_false (by omega))) λ A=>Z 2 A rfl λ A=>B2 A rfl (b_ge _ _ ((n : Nat) : Int) 8 false _ (decide_eq_false (by omega))) λ A=>Z 1 A rfl λ A=>qt_<|cf_ A rfl ?_
 refine wk_<|tn_<|sw_<|Z 1 A rfl λ A=>qs A rfl (d_indexArr (j := n) (wn rfl) (A.ev rfl) (A.ev rfl) arr51 (by omega) λ _ A=>qs A rfl (dld (v := .string (S yt)) (wn rfl) (A.ev rfl) one9 (m7.cell (regA_at hy)) λ _ A=>Z 1 A rfl λ A=>qt_<|we_<|ret1 rfl A (v := (.string (S yt))) rfl ?_))
 exact ⟨rfl, b9⟩
theorem gname_neg (lg : Lg) (r : Int) (w : World) (hr : r < 0) : Calls Tryz.prog 42 #[.agg (regA lg), J r] w λ e w' => e = .returned (.string (S [])) ∧ Grow w w' := by
 have b0 := Grow.refl w
 refine enter (n := 14) Tryz.func42 rfl rfl (nb_ rfl) λ _ A=>sw_<|qs A rfl (d_box (wn rfl) (A.ev rfl) λ g3 w4 eg5 hG6 (m7 : Blk w4 g3 (regA lg) 51)=>?_)
 have ge8 : w.heap.size ≤ g3 := eg5 ▸ b0.size
 have b9 := bls b0 hG6
 intro _ A
 refine Z 1 A rfl λ A=>qt_<|ws_<|sw_<|Z 1 A rfl λ A=>B2 A rfl (b_lt _ _ r 0 true _ (decide_eq_true hr)) λ A=>Z 4 A rfl λ A=>qt_<|ct_ A rfl<|sw_ ?_
 refine Z 1 A rfl λ A=>qt_<|we_<|tr_<|ret1 rfl A (v := (.string (S []))) rfl ?_
 exact ⟨rfl, b9⟩
theorem gname_big (lg : Lg) (r : Int) (w : World) (hr : r > 7) : Calls Tryz.prog 42 #[.agg (regA lg), J r] w λ e w' => e = .returned (.string (S [])) ∧ Grow w w' := by
 have b0 := Grow.refl w
 refine enter (n := 14) Tryz.func42 rfl rfl (nb_ rfl) λ _ A=>sw_<|qs A rfl (d_box (wn rfl) (A.ev rfl) λ g3 w4 eg5 hG6 (m7 : Blk w4 g3 (regA lg) 51)=>?_)
 have ge8 : w.heap.size ≤ g3 := eg5 ▸ b0.size
 have b9 := bls b0 hG6
 intro _ A
 refine Z 1 A rfl λ A=>qt_<|ws_<|sw_<|Z 1 A rfl λ A=>B2 A rfl (b_lt _ _ r 0 false _ (decide_eq_false (by omega))) λ A=>Z 2 A rfl λ A=>B2 A rfl (b_ge _ _ r 8 true _ (decide_eq_true (by omega))) λ A=>Z 1 A rfl λ A=>qt_<|ct_ A rfl ?_
 refine sw_<|Z 1 A rfl λ A=>qt_<|we_<|tr_<|ret1 rfl A (v := (.string (S []))) rfl ?_
 exact ⟨rfl, b9⟩
theorem gname_any (lg : Lg) (r : Int) (w : World) : Calls Tryz.prog 42 #[.agg (regA lg), J r] w λ e w' => e = .returned (.string (S (nameL lg r))) ∧ Grow w w' := by
 by_cases h : r < 0
 ·rw [nameL_neg h]; exact gname_neg lg r w h
 ·by_cases h2 : r > 7
  ·rw [nameL_big h2]; exact gname_big lg r w h2
  ·have hy := List.getElem?_eq_getElem (show r.toNat < lg.regs.length by show r.toNat < 8; omega)
   have e : r = ((r.toNat : Nat) : Int) := by omega
   rw [e, nameL_at hy]; exact gname_at lg r.toNat _ w hy
theorem partreg_any (pt : Int) (i : Ins) (w : World) : Calls Tryz.prog 120 #[J pt, .agg (insC i)] w λ e w' => e = .returned (.tuple #[J (regP pt i).1, .bool (regP pt i).2]) ∧ Grow w w' := by
 have b0 := Grow.refl w
 refine enter (n := 20) Tryz.func120 rfl rfl (nb_ rfl) λ _ A=>sw_<|qs A rfl (d_box (wn rfl) (A.ev rfl) λ g3 w4 eg5 hG6 (m7 : Blk w4 g3 (insC i) 30)=>?_)
 have ge8 : w.heap.size ≤ g3 := eg5 ▸ b0.size
 have b9 := bls b0 hG6
 intro _ A
 refine Z 2 A rfl λ A=>qt_<|ws_<|sw_<|Z 1 A rfl λ A=>qt_<|wp_block<|ws_<|sw_ ?_
 rcases eb_ (pt == 1) with hb18 | hb18
 ·skip
  have hq19 := eq_of_beq hb18
  refine B2 A rfl (bq hb18) λ A=>Z 1 A rfl λ A=>qt_<|ct_ A rfl<|wk_<|tn_<|ct_ A rfl<|sw_<|F1 A rfl fo30_1 λ A=>qs A rfl (dld (v := (J i.dst)) (wn rfl) (A.ev rfl) one3 (m7.cell rfl) λ _ A=>Z 2 A rfl λ A=>qe_ ?_)
  refine tn_<|we_<|i_ret<|tr_<|ret2 (x := (J i.dst)) (y := (.bool true)) rfl A rfl rfl ?_
  have hq32 : regP pt i = (i.dst, true) := by unfold regP; simp only [hb18, if_true, Bool.false_eq_true, if_false]
  exact ⟨by rw [hq32], b9⟩
 have hq33 := ne_of_beq hb18
 refine B2 A rfl (bq hb18) λ A=>Z 1 A rfl λ A=>qt_<|cf_ A rfl<|wr_ ?_
 rcases eb_ (pt == 4) with hb38 | hb38
 ·skip
  have hq39 := eq_of_beq hb38
  refine B2 A rfl (bq hb38) λ A=>Z 1 A rfl λ A=>qt_<|ct_ A rfl<|sw_<|F1 A rfl fo30_1 λ A=>qs A rfl (dld (v := (J i.dst)) (wn rfl) (A.ev rfl) one3 (m7.cell rfl) λ _ A=>Z 2 A rfl λ A=>qt_<|we_<|i_ret ?_)
  refine tr_<|ret2 (x := (J i.dst)) (y := (.bool true)) rfl A rfl rfl ?_
  have hq52 : regP pt i = (i.dst, true) := by unfold regP; simp only [hb18, hb38, if_true, Bool.false_eq_true, if_false]
  exact ⟨by rw [hq52], b9⟩
 have hq53 := ne_of_beq hb38
 refine B2 A rfl (bq hb38) λ A=>Z 1 A rfl λ A=>qt_<|cf_ A rfl<|sw_ ?_
 rcases eb_ (pt == 2) with hb58 | hb58
 ·skip
  have hq59 := eq_of_beq hb58
  refine B2 A rfl (bq hb58) λ A=>Z 1 A rfl λ A=>qt_<|ct_ A rfl<|sw_<|F1 A rfl fo30_2 λ A=>qs A rfl (dld (v := (J i.a)) (wn rfl) (A.ev rfl) one3 (m7.cell rfl) λ _ A=>Z 2 A rfl λ A=>qt_<|we_<|i_ret ?_)
  refine tr_<|ret2 (x := (J i.a)) (y := (.bool true)) rfl A rfl rfl ?_
  have hq72 : regP pt i = (i.a, true) := by unfold regP; simp only [hb18, hb38, hb58, if_true, Bool.false_eq_true, if_false]
  exact ⟨by rw [hq72], b9⟩
 have hq73 := ne_of_beq hb58
 refine B2 A rfl (bq hb58) λ A=>Z 1 A rfl λ A=>qt_<|cf_ A rfl<|sw_ ?_
 rcases eb_ (pt == 3) with hb78 | hb78
 ·skip
  have hq79 := eq_of_beq hb78
  refine B2 A rfl (bq hb78) λ A=>Z 1 A rfl λ A=>qt_<|ct_ A rfl<|sw_<|F1 A rfl fo30_3 λ A=>qs A rfl (dld (v := (J i.b)) (wn rfl) (A.ev rfl) one3 (m7.cell rfl) λ _ A=>Z 2 A rfl λ A=>qt_<|we_<|i_ret ?_)
  refine tr_<|ret2 (x := (J i.b)) (y := (.bool true)) rfl A rfl rfl ?_
  have hq92 : regP pt i = (i.b, true) := by unfold regP; simp only [hb18, hb38, hb58, hb78, if_true, Bool.false_eq_true, if_false]
  exact ⟨by rw [hq92], b9⟩
 have hq93 := ne_of_beq hb78
 refine B2 A rfl (bq hb78) λ A=>Z 1 A rfl λ A=>qt_<|cf_ A rfl<|wk_<|i_norm<|tn_<|sw_<|Z 2 A rfl λ A=>qt_<|we_ ?_
 refine ret2 (x := (J (-1))) (y := (.bool false)) rfl A rfl rfl ?_
 have hq102 : regP pt i = ((-1), false) := by unfold regP; simp only [hb18, hb38, hb58, hb78, if_true, Bool.false_eq_true, if_false]
 exact ⟨by rw [hq102], b9⟩
theorem shows_any (r : Rw) (i : Ins) (w : World) (HP0 : Sl ptE 1 w.heap.size w r.pv r.parts) (hpl : r.parts.length ≤ 1000) : Calls Tryz.prog 118 #[.agg (rwC r), .agg (insC i)] w λ e w' => e = .returned (.bool (showsR r i)) ∧ Grow w w' := by
 have b0 := Grow.refl w
 refine enter (n := 28) Tryz.func118 rfl rfl (nb_ rfl) λ _ A=>sw_<|qs A rfl (d_box (wn rfl) (A.ev rfl) λ g3 w4 eg5 hG6 (m7 : Blk w4 g3 (rwC r) 105)=>?_)
 have ge8 : w.heap.size ≤ g3 := eg5 ▸ b0.size
 have b9 := bls b0 hG6
 intro _ A
 refine qs A rfl (d_box (wn rfl) (A.ev rfl) λ g12 w13 eg14 hG15 (m16 : Blk w13 g12 (insC i) 30)=>?_)
 have ge17 : w.heap.size ≤ g12 := eg14 ▸ b9.size
 have n18 := nn_ eg14 m7
 have m19 := m7.grow hG15
 have b20 := bls b9 hG15
 intro _ A
 refine Z 1 A rfl λ A=>qt_<|ws_<|sw_<|F1 A rfl fo105_2 λ A=>qs A rfl (dld (v := r.pv) (wn rfl) (A.ev rfl) one103 (m19.cell rfl) λ _ A=>qs A rfl (dle (n := r.parts.length) (wn rfl) (A.ev rfl) slc103 HP0.form λ _ A=>Z 1 A rfl λ A=>qt_<|wp_block<|loop_by (λ m34 a35 w36 => ∃ n33 : Nat, m34 = r.parts.length - n33 ∧ (n33 ≤ r.parts.length ∧ (r.parts.drop n33).all (λ p => !lacks i p) = showsR r i) ∧ St 28 [(3, (.pointer (some ⟨g12, 0, none⟩))), (4, (.bool false)), (10, r.pv), (11, (J ((r.parts.length : Nat) : Int))), (12, (J ((n33 : Nat) : Int)))] a35 ∧ Below w.heap.size w w36 ∧ Blk w36 g3 (rwC r) 105 ∧ Blk w36 g12 (insC i) 30) (r.parts.length - 0) ⟨0, rfl, ⟨by omega, rfl⟩, A.cut _ (fc (A.g 3 rfl) (fc (A.g 4 rfl) (fc (A.g 10 rfl) (fc (A.g 11 rfl) (fc ((A.g 12 rfl).trans (congrArg (Value.int .i64) (by omega))) fn_))))), b20, m19, m16⟩ ?_))
 rintro m34 a35 w36 ⟨n33, hm39, hc40, A, b38, m41, m42⟩
 obtain ⟨hj1, hj2⟩ := hc40
 refine sw_ ?_
 rcases eb_ (decide (((n33 : Nat) : Int) < ((r.parts.length : Nat) : Int))) with hb43 | hb43
 ·skip
  have hq44 := dt_ hb43
  refine B2 A rfl (bl hb43) λ A=>qt_<|ws_<|ct_ A rfl<|wk_<|tn_<|ws_<|wp_block<|sw_ ?_
  obtain ⟨y47, hy48⟩ : ∃ y47, r.parts[n33]? = some y47 := ⟨_, List.getElem?_eq_getElem (show n33 < r.parts.length by omega)⟩
  obtain ⟨b49, o50, lt51, hr52, hix53⟩ := (HP0.below b38).at hy48
  refine qs A rfl (dia (j := n33) (wn rfl) (A.ev rfl) (A.ev rfl) slc103 hix53 (get_lt hy48) λ _ A=>qs A rfl (dld (v := (J y47)) (wn rfl) (A.ev rfl) one109 (hr52 0 _ rfl) λ _ A=>Z 1 A rfl λ A=>qt_<|sw_<|Z 1 A rfl λ A=>qs A rfl (dlr (cs := (insC i)) (wn rfl) (A.ev rfl) row30 m42 λ _ A=>C A rfl ent120 (partreg_any y47 i w36) ?_)))
  rintro e67 w64 ⟨he66, hG65⟩
  have m68 := m41.grow hG65
  have m69 := m42.grow hG65
  have hr70 := range_below hr52 hG65 (Nat.lt_of_lt_of_le lt51 b38.size)
  have b71 := bls b38 hG65
  refine ⟨(.tuple #[(J ((regP y47 i).1)), (.bool ((regP y47 i).2))]), he66, λ _ A=>Z 5 A rfl λ A=>qt_<|sw_<|Z 2 A rfl λ A=>?_⟩
  rcases eb_ ((regP y47 i).2) with hb88 | hb88
  ·skip
   have A := A.shadow (t := 23) rfl hb88
   refine Z 1 A rfl λ A=>?_
   rcases eb_ ((regP y47 i).1 == (-1)) with hb93 | hb93
   ·skip
    have hq94 := eq_of_beq hb93
    refine B2 A rfl (bq hb93) λ A=>Z 1 A rfl λ A=>qt_<|ct_ A rfl<|sw_<|Z 1 A rfl λ A=>qt_<|we_<|i_ret<|tr_<|tr_ ?_
    refine i_ret<|tr_<|ret1 rfl A (v := (.bool false)) rfl ?_
    exact ⟨by rw [← hj2, alls_stop hy48 (by simp only [lacks, hb88, hb93] <;> rfl)], b71⟩
   have hq101 := ne_of_beq hb93
   refine B2 A rfl (bq hb93) λ A=>Z 1 A rfl λ A=>qt_<|cf_ A rfl<|wk_<|i_norm<|tn_<|wr_<|B2 A rfl (b_addE (n33 + 1) (by omega) (by omega)) λ A=>Z 1 A rfl λ A=>qt_ ?_
   have hgo := (alls_go (f := λ p => !lacks i p) hy48 (by simp only [lacks, hb88, hb93] <;> rfl)).symm.trans hj2
   exact ⟨r.parts.length - (n33 + 1), (by rw [hm39]; omega), n33 + 1, rfl, ⟨by omega, hgo⟩, A.sub rfl, b71, m68, m69⟩
  have A := A.shadow (t := 23) rfl hb88
  refine Z 3 A rfl λ A=>qt_<|cf_ A rfl<|wk_<|i_norm<|tn_<|wr_<|B2 A rfl (b_addE (n33 + 1) (by omega) (by omega)) λ A=>Z 1 A rfl λ A=>qt_ ?_
  have hgo := (alls_go (f := λ p => !lacks i p) hy48 (by simp only [lacks, hb88] <;> rfl)).symm.trans hj2
  exact ⟨r.parts.length - (n33 + 1), (by rw [hm39]; omega), n33 + 1, rfl, ⟨by omega, hgo⟩, A.sub rfl, b71, m68, m69⟩
 have hq122 := df_ hb43
 refine B2 A rfl (bl hb43) λ A=>qt_<|ws_<|cf_ A rfl<|wp_exit<|t_exit<|t_exit<|i_here<|tn_<|sw_<|Z 1 A rfl λ A=>qe_ ?_
 refine tn_<|we_<|ret1 rfl A (v := (.bool true)) rfl ?_
 exact ⟨by rw [← hj2, alls_end (by omega)], b38⟩
theorem with_any (r : Rw) (i : Ins) (w : World) (HP0 : Sl ptE 1 w.heap.size w r.pv r.parts) (hpl : r.parts.length ≤ 1000) : Calls Tryz.prog 109 #[.agg (rwC r), .agg (insC i)] w λ e w' => e = .returned (.agg (insC (withR r i))) ∧ Grow w w' := by
 have b0 := Grow.refl w
 refine enter (n := 81) Tryz.func109 rfl rfl (nb_ rfl) λ _ A=>sw_<|qs A rfl (d_box (wn rfl) (A.ev rfl) λ g3 w4 eg5 hG6 (m7 : Blk w4 g3 (rwC r) 105)=>?_)
 have ge8 : w.heap.size ≤ g3 := eg5 ▸ b0.size
 have b9 := bls b0 hG6
 intro _ A
 refine qs A rfl (d_box (wn rfl) (A.ev rfl) λ g12 w13 eg14 hG15 (m16 : Blk w13 g12 (insC i) 30)=>?_)
 have ge17 : w.heap.size ≤ g12 := eg14 ▸ b9.size
 have n18 := nn_ eg14 m7
 have m19 := m7.grow hG15
 have b20 := bls b9 hG15
 intro _ A
 refine qs A rfl (dal (wn rfl) zero30 λ g23 w24 eg25 hG26 (m27 : Blk w24 g23 #[J 0, J 0, J 0, J 0, J 0, J 0, J 0, J 0, J 0, J 0, .bool false, .bool false, .bool false, J 0, J 0, J 0, .bool false] 30)=>?_)
 have ge28 : w.heap.size ≤ g23 := eg25 ▸ b20.size
 have n29 := nn_ eg25 m19
 have n30 := nn_ eg25 m16
 have m31 := m19.grow hG26
 have m32 := m16.grow hG26
 have b33 := bls b20 hG26
 intro _ A
 refine qt_<|sw_<|F1 A rfl fo105_1 λ A=>qs A rfl (dlm (cs := (insC r.ins)) (wn rfl) (A.ev rfl) row30 (m31.mid rfl) λ _ A=>qs A rfl (dal (wn rfl) zero30 λ g40 w41 eg42 hG43 (m44 : Blk w41 g40 #[J 0, J 0, J 0, J 0, J 0, J 0, J 0, J 0, J 0, J 0, .bool false, .bool false, .bool false, J 0, J 0, J 0, .bool false] 30)=>?_))
 have ge45 : w.heap.size ≤ g40 := eg42 ▸ b33.size
 have n46 := nn_ eg42 m31
 have n47 := nn_ eg42 m32
 have n48 := nn_ eg42 m27
 have m49 := m31.grow hG43
 have m50 := m32.grow hG43
 have m51 := m27.grow hG43
 have b52 := bls b33 hG43
 intro _ A
 refine qs A rfl (dsr (wn rfl) (A.ev rfl) (A.ev rfl) row30 m44 rfl rfl λ w55 hU56 (m57 : Blk w55 g40 (insC r.ins) 30)=>?_)
 have m58 := m49.upd hU56 n46
 have m59 := m50.upd hU56 n47
 have m60 := m51.upd hU56 n48
 have b61 := hU56.below b52 ge45
 intro _ A
 refine qt_<|sw_<|F1 A rfl fo30_1 λ A=>qs A rfl (dst_ (wn rfl) (A.ev rfl) (A.ev rfl) one3 rfl m57 (nb_ rfl) λ w66 hU67 (m68 : Blk w66 g40 #[J r.ins.op, J (-1), J r.ins.a, J r.ins.b, J r.ins.imm, J r.ins.loc, J r.ins.off, J r.ins.index, J r.ins.size, J r.ins.fn, .bool r.ins.acq, .bool r.ins.weak, .bool r.ins.rel, J r.ins.pred, J r.ins.succ, J r.ins.to, .bool r.ins.zero] 30)=>?_)
 have m69 := m58.upd hU67 n46
 have m70 := m59.upd hU67 n47
 have m71 := m60.upd hU67 n48
 have b72 := hU67.below b61 ge45
 intro _ A
 refine F1 A rfl fo30_2 λ A=>qs A rfl (dst_ (wn rfl) (A.ev rfl) (A.ev rfl) one3 rfl m68 (nb_ rfl) λ w77 hU78 (m79 : Blk w77 g40 #[J r.ins.op, J (-1), J (-1), J r.ins.b, J r.ins.imm, J r.ins.loc, J r.ins.off, J r.ins.index, J r.ins.size, J r.ins.fn, .bool r.ins.acq, .bool r.ins.weak, .bool r.ins.rel, J r.ins.pred, J r.ins.succ, J r.ins.to, .bool r.ins.zero] 30)=>?_)
 have m80 := m69.upd hU78 n46
 have m81 := m70.upd hU78 n47
 have m82 := m71.upd hU78 n48
 have b83 := hU78.below b72 ge45
 intro _ A
 refine F1 A rfl fo30_3 λ A=>qs A rfl (dst_ (wn rfl) (A.ev rfl) (A.ev rfl) one3 rfl m79 (nb_ rfl) λ w88 hU89 (m90 : Blk w88 g40 #[J r.ins.op, J (-1), J (-1), J (-1), J r.ins.imm, J r.ins.loc, J r.ins.off, J r.ins.index, J r.ins.size, J r.ins.fn, .bool r.ins.acq, .bool r.ins.weak, .bool r.ins.rel, J r.ins.pred, J r.ins.succ, J r.ins.to, .bool r.ins.zero] 30)=>?_)
 have m91 := m80.upd hU89 n46
 have m92 := m81.upd hU89 n47
 have m93 := m82.upd hU89 n48
 have b94 := hU89.below b83 ge45
 intro _ A
 refine F1 A rfl fo30_7 λ A=>qs A rfl (dst_ (wn rfl) (A.ev rfl) (A.ev rfl) one3 rfl m90 (nb_ rfl) λ w99 hU100 (m101 : Blk w99 g40 #[J r.ins.op, J (-1), J (-1), J (-1), J r.ins.imm, J r.ins.loc, J r.ins.off, J (-1), J r.ins.size, J r.ins.fn, .bool r.ins.acq, .bool r.ins.weak, .bool r.ins.rel, J r.ins.pred, J r.ins.succ, J r.ins.to, .bool r.ins.zero] 30)=>?_)
 have m102 := m91.upd hU100 n46
 have m103 := m92.upd hU100 n47
 have m104 := m93.upd hU100 n48
 have b105 := hU100.below b94 ge45
 intro _ A
 refine qt_<|ws_<|sw_<|F1 A rfl fo105_2 λ A=>qs A rfl (dld (v := r.pv) (wn rfl) (A.ev rfl) one103 (m102.cell rfl) λ _ A=>qs A rfl (dle (n := r.parts.length) (wn rfl) (A.ev rfl) slc103 HP0.form λ _ A=>Z 1 A rfl λ A=>qt_<|wp_block<|loop_by (λ m118 a119 w120 => ∃ n116 : Nat, ∃ j117 : Ins, m118 = r.parts.length - n116 ∧ (n116 ≤ r.parts.length ∧ (r.parts.drop n116).foldl (wStep i) j117 = withR r i) ∧ St 81 [(3, (.pointer (some ⟨g12, 0, none⟩))), (4, (.pointer (some ⟨g23, 0, none⟩))), (5, (.pointer (some ⟨g40, 0, none⟩))), (15, r.pv), (16, (J ((r.parts.length : Nat) : Int))), (17, (J ((n116 : Nat) : Int)))] a119 ∧ Below w.heap.size w w120 ∧ Blk w120 g3 (rwC r) 105 ∧ Blk w120 g12 (insC i) 30 ∧ Blk w120 g23 #[J 0, J 0, J 0, J 0, J 0, J 0, J 0, J 0, J 0, J 0, .bool false, .bool false, .bool false, J 0, J 0, J 0, .bool false] 30 ∧ Blk w120 g40 (insC j117) 30) (r.parts.length - 0) ⟨0, (bare0 r.ins), rfl, ⟨by omega, rfl⟩, A.cut _ (fc (A.g 3 rfl) (fc (A.g 4 rfl) (fc (A.g 5 rfl) (fc (A.g 15 rfl) (fc (A.g 16 rfl) (fc ((A.g 17 rfl).trans (congrArg (Value.int .i64) (by omega))) fn_)))))), b105, m102, m103, m104, m101⟩ ?_))
 rintro m118 a119 w120 ⟨n116, j117, hm123, hc124, A, b122, m125, m126, m127, m128⟩
 obtain ⟨hj1, hj2⟩ := hc124
 refine sw_ ?_
 rcases eb_ (decide (((n116 : Nat) : Int) < ((r.parts.length : Nat) : Int))) with hb129 | hb129
 ·skip
  have hq130 := dt_ hb129
  refine B2 A rfl (bl hb129) λ A=>qt_<|ws_<|ct_ A rfl<|wk_<|tn_<|ws_<|wp_block<|sw_ ?_
  obtain ⟨y133, hy134⟩ : ∃ y133, r.parts[n116]? = some y133 := ⟨_, List.getElem?_eq_getElem (show n116 < r.parts.length by omega)⟩
  obtain ⟨b135, o136, lt137, hr138, hix139⟩ := (HP0.below b122).at hy134
  refine qs A rfl (dia (j := n116) (wn rfl) (A.ev rfl) (A.ev rfl) slc103 hix139 (get_lt hy134) λ _ A=>qs A rfl (dld (v := (J y133)) (wn rfl) (A.ev rfl) one109 (hr138 0 _ rfl) λ _ A=>Z 1 A rfl λ A=>qt_<|sw_<|Z 1 A rfl λ A=>qt_<|wp_block<|sw_ ?_))
  rcases eb_ (y133 == 1) with hb148 | hb148
  ·skip
   have hq149 := eq_of_beq hb148
   refine B2 A rfl (bq hb148) λ A=>Z 1 A rfl λ A=>qt_<|ct_ A rfl<|wr_<|F1 A rfl fo30_1 λ A=>qs A rfl (dld (v := (J i.dst)) (wn rfl) (A.ev rfl) one3 (m126.cell rfl) λ _ A=>F1 A rfl fo30_1 λ A=>qs A rfl (dst_ (wn rfl) (A.ev rfl) (A.ev rfl) one3 rfl m128 (nb_ rfl) λ w160 hU161 (m162 : Blk w160 g40 #[J j117.op, J i.dst, J j117.a, J j117.b, J j117.imm, J j117.loc, J j117.off, J j117.index, J j117.size, J j117.fn, .bool j117.acq, .bool j117.weak, .bool j117.rel, J j117.pred, J j117.succ, J j117.to, .bool j117.zero] 30)=>?_))
   have m163 := m125.upd hU161 n46
   have m164 := m126.upd hU161 n47
   have m165 := m127.upd hU161 n48
   have hr166 := range_upd hr138 hU161 (Nat.ne_of_lt (Nat.lt_of_lt_of_le lt137 ge45))
   have b167 := hU161.below b122 ge45
   intro _ A
   refine qe_<|i_norm<|i_norm<|tn_<|wr_<|B2 A rfl (b_addE (n116 + 1) (by omega) (by omega)) λ A=>Z 1 A rfl λ A=>qt_ ?_
   have hst : wStep i j117 y133 = (Ins.mk j117.op i.dst j117.a j117.b j117.imm j117.loc j117.off j117.index j117.size j117.fn j117.acq j117.weak j117.rel j117.pred j117.succ j117.to j117.zero) := by unfold wStep; simp only [hb148, if_true, Bool.false_eq_true, if_false]
   have hgo := (fold_go hy134 j117).symm.trans hj2
   rw [hst] at hgo
   exact ⟨r.parts.length - (n116 + 1), (by rw [hm123]; omega), n116 + 1, (Ins.mk j117.op i.dst j117.a j117.b j117.imm j117.loc j117.off j117.index j117.size j117.fn j117.acq j117.weak j117.rel j117.pred j117.succ j117.to j117.zero), rfl, ⟨by omega, hgo⟩, A.sub rfl, b167, m163, m164, m165, m162⟩
  have hq174 := ne_of_beq hb148
  refine B2 A rfl (bq hb148) λ A=>Z 1 A rfl λ A=>qt_<|cf_ A rfl<|sw_ ?_
  rcases eb_ (y133 == 2) with hb179 | hb179
  ·skip
   have hq180 := eq_of_beq hb179
   refine B2 A rfl (bq hb179) λ A=>Z 1 A rfl λ A=>qt_<|ct_ A rfl<|wr_<|F1 A rfl fo30_2 λ A=>qs A rfl (dld (v := (J i.a)) (wn rfl) (A.ev rfl) one3 (m126.cell rfl) λ _ A=>F1 A rfl fo30_2 λ A=>qs A rfl (dst_ (wn rfl) (A.ev rfl) (A.ev rfl) one3 rfl m128 (nb_ rfl) λ w191 hU192 (m193 : Blk w191 g40 #[J j117.op, J j117.dst, J i.a, J j117.b, J j117.imm, J j117.loc, J j117.off, J j117.index, J j117.size, J j117.fn, .bool j117.acq, .bool j117.weak, .bool j117.rel, J j117.pred, J j117.succ, J j117.to, .bool j117.zero] 30)=>?_))
   have m194 := m125.upd hU192 n46
   have m195 := m126.upd hU192 n47
   have m196 := m127.upd hU192 n48
   have hr197 := range_upd hr138 hU192 (Nat.ne_of_lt (Nat.lt_of_lt_of_le lt137 ge45))
   have b198 := hU192.below b122 ge45
   intro _ A
   refine qe_<|i_norm<|i_norm<|tn_<|wr_<|B2 A rfl (b_addE (n116 + 1) (by omega) (by omega)) λ A=>Z 1 A rfl λ A=>qt_ ?_
   have hst : wStep i j117 y133 = (Ins.mk j117.op j117.dst i.a j117.b j117.imm j117.loc j117.off j117.index j117.size j117.fn j117.acq j117.weak j117.rel j117.pred j117.succ j117.to j117.zero) := by unfold wStep; simp only [hb148, hb179, if_true, Bool.false_eq_true, if_false]
   have hgo := (fold_go hy134 j117).symm.trans hj2
   rw [hst] at hgo
   exact ⟨r.parts.length - (n116 + 1), (by rw [hm123]; omega), n116 + 1, (Ins.mk j117.op j117.dst i.a j117.b j117.imm j117.loc j117.off j117.index j117.size j117.fn j117.acq j117.weak j117.rel j117.pred j117.succ j117.to j117.zero), rfl, ⟨by omega, hgo⟩, A.sub rfl, b198, m194, m195, m196, m193⟩
  have hq205 := ne_of_beq hb179
  refine B2 A rfl (bq hb179) λ A=>Z 1 A rfl λ A=>qt_<|cf_ A rfl<|sw_ ?_
  rcases eb_ (y133 == 3) with hb210 | hb210
  ·skip
   have hq211 := eq_of_beq hb210
   refine B2 A rfl (bq hb210) λ A=>Z 1 A rfl λ A=>qt_<|ct_ A rfl<|wr_<|F1 A rfl fo30_3 λ A=>qs A rfl (dld (v := (J i.b)) (wn rfl) (A.ev rfl) one3 (m126.cell rfl) λ _ A=>F1 A rfl fo30_3 λ A=>qs A rfl (dst_ (wn rfl) (A.ev rfl) (A.ev rfl) one3 rfl m128 (nb_ rfl) λ w222 hU223 (m224 : Blk w222 g40 #[J j117.op, J j117.dst, J j117.a, J i.b, J j117.imm, J j117.loc, J j117.off, J j117.index, J j117.size, J j117.fn, .bool j117.acq, .bool j117.weak, .bool j117.rel, J j117.pred, J j117.succ, J j117.to, .bool j117.zero] 30)=>?_))
   have m225 := m125.upd hU223 n46
   have m226 := m126.upd hU223 n47
   have m227 := m127.upd hU223 n48
   have hr228 := range_upd hr138 hU223 (Nat.ne_of_lt (Nat.lt_of_lt_of_le lt137 ge45))
   have b229 := hU223.below b122 ge45
   intro _ A
   refine qe_<|i_norm<|i_norm<|tn_<|wr_<|B2 A rfl (b_addE (n116 + 1) (by omega) (by omega)) λ A=>Z 1 A rfl λ A=>qt_ ?_
   have hst : wStep i j117 y133 = (Ins.mk j117.op j117.dst j117.a i.b j117.imm j117.loc j117.off j117.index j117.size j117.fn j117.acq j117.weak j117.rel j117.pred j117.succ j117.to j117.zero) := by unfold wStep; simp only [hb148, hb179, hb210, if_true, Bool.false_eq_true, if_false]
   have hgo := (fold_go hy134 j117).symm.trans hj2
   rw [hst] at hgo
   exact ⟨r.parts.length - (n116 + 1), (by rw [hm123]; omega), n116 + 1, (Ins.mk j117.op j117.dst j117.a i.b j117.imm j117.loc j117.off j117.index j117.size j117.fn j117.acq j117.weak j117.rel j117.pred j117.succ j117.to j117.zero), rfl, ⟨by omega, hgo⟩, A.sub rfl, b229, m225, m226, m227, m224⟩
  have hq236 := ne_of_beq hb210
  refine B2 A rfl (bq hb210) λ A=>Z 1 A rfl λ A=>qt_<|cf_ A rfl<|sw_ ?_
  rcases eb_ (y133 == 4) with hb241 | hb241
  ·skip
   have hq242 := eq_of_beq hb241
   refine B2 A rfl (bq hb241) λ A=>Z 1 A rfl @λ a245 A=>qt_<|ct_ A rfl ?_
   have A : St 81 [(3, (.pointer (some ⟨g12, 0, none⟩))), (4, (.pointer (some ⟨g23, 0, none⟩))), (5, (.pointer (some ⟨g40, 0, none⟩))), (15, r.pv), (16, (J ((r.parts.length : Nat) : Int))), (17, (J ((n116 : Nat) : Int)))] a245 := A.sub rfl
   let M248 : Nat → Option (Array Value) := λ k => if k = g40 then some #[J j117.op, J i.dst, J i.dst, J j117.b, J j117.imm, J j117.loc, J j117.off, J j117.index, J j117.size, J j117.fn, .bool j117.acq, .bool j117.weak, .bool j117.rel, J j117.pred, J j117.succ, J j117.to, .bool j117.zero] else none
   have hM248 : M248 = λ k => if k = g40 then some #[J j117.op, J i.dst, J i.dst, J j117.b, J j117.imm, J j117.loc, J j117.off, J j117.index, J j117.size, J j117.fn, .bool j117.acq, .bool j117.weak, .bool j117.rel, J j117.pred, J j117.succ, J j117.to, .bool j117.zero] else none := rfl
   clear_value M248
   have hM249 : M248 g3 = none := ((congrFun hM248 g3).trans (if_neg n46))
   have hM250 : M248 g12 = none := ((congrFun hM248 g12).trans (if_neg n47))
   have hM251 : M248 g23 = none := ((congrFun hM248 g23).trans (if_neg n48))
   have hM252 : M248 g40 = some #[J j117.op, J i.dst, J i.dst, J j117.b, J j117.imm, J j117.loc, J j117.off, J j117.index, J j117.size, J j117.fn, .bool j117.acq, .bool j117.weak, .bool j117.rel, J j117.pred, J j117.succ, J j117.to, .bool j117.zero] := ((congrFun hM248 g40).trans (if_pos rfl))
   have hM248B : ∀ k, k < w.heap.size → M248 k = none := (λ k hk => (congrFun hM248 k).trans (if_neg (λ h => ni_ _ (Nat.lt_of_lt_of_le (h ▸ hk) ge45))))
   refine drawn (S := SM M248) (tabL [cv (.pointer (some ⟨g12, 1, none⟩)), cv (J i.dst), cv (.pointer (some ⟨g12, 1, none⟩)), cv (J i.dst), cv (.pointer (some ⟨g40, 1, none⟩)), cm M248 g40 1 (J i.dst) ⟨_, hM252, rfl⟩, cv (.pointer (some ⟨g40, 2, none⟩)), cm M248 g40 2 (J i.dst) ⟨_, hM252, rfl⟩]) mixedY SM.refl SM.trans SM.drew A (by kernel_rfl) ?_ ?_
   ·skip
    have bD253 := blg b122 ((Grow.refl w120).drew) b122.size
    refine ec_ (λ x y hS hT hk => dfa (wn rfl) (hT.ev rfl) fo30_1 ⟨SM.refl _, rfl⟩)<|ec_ (λ x y hS hT hk => dld (v := (J i.dst)) (wn rfl) (hk 0 rfl) one3 ((Blk.sm (w := w120.drew) m126 hS hM250).cell rfl) ⟨SM.refl _, rfl⟩)<|ec_ (λ x y hS hT hk => dfa (wn rfl) (hT.ev rfl) fo30_1 ⟨SM.refl _, rfl⟩)<|ec_ (λ x y hS hT hk => dld (v := (J i.dst)) (wn rfl) (hk 2 rfl) one3 ((Blk.sm (w := w120.drew) m126 hS hM250).cell rfl) ⟨SM.refl _, rfl⟩)<|ec_ (λ x y hS hT hk => dfa (wn rfl) (hT.ev rfl) fo30_1 ⟨SM.refl _, rfl⟩)<|ec_ (λ x y hS hT hk => d_storeM (v := (J i.dst)) (w0 := w120.drew) (wn rfl) (hk 4 rfl) (hk 1 rfl) one3 rfl hS hM252 m128 (nb_ rfl) rfl (λ _ h => h))<|ec_ (λ x y hS hT hk => dfa (wn rfl) (hT.ev rfl) fo30_2 ⟨SM.refl _, rfl⟩)<|ec_ (λ x y hS hT hk => d_storeM (v := (J i.dst)) (w0 := w120.drew) (wn rfl) (hk 6 rfl) (hk 3 rfl) one3 rfl hS hM252 m128 (nb_ rfl) rfl (λ _ h => h)) ?_
    exact each_nil
   intro f254 a255 w256 hS257 hC258 A
   have A : St 81 [(3, (.pointer (some ⟨g12, 0, none⟩))), (4, (.pointer (some ⟨g23, 0, none⟩))), (5, (.pointer (some ⟨g40, 0, none⟩))), (15, r.pv), (16, (J ((r.parts.length : Nat) : Int))), (17, (J ((n116 : Nat) : Int)))] a255 := A.sub rfl
   have m261 := m125.sm hS257 hM249
   have m262 := m126.sm hS257 hM250
   have m263 := m127.sm hS257 hM251
   have m264 : Blk w256 g40 #[J j117.op, J i.dst, J i.dst, J j117.b, J j117.imm, J j117.loc, J j117.off, J j117.index, J j117.size, J j117.fn, .bool j117.acq, .bool j117.weak, .bool j117.rel, J j117.pred, J j117.succ, J j117.to, .bool j117.zero] 30 := hS257.finL [(1, (J i.dst)), (2, (J i.dst))] hM252 (by kernel_rfl) m128 (fc (hC258 5 (nb_ rfl)) (fc (hC258 7 (nb_ rfl)) fn_))
   have b265 := hS257.below b122 b122.size hM248B
   have hr266 := range_sm hr138 hS257 (Nat.lt_of_lt_of_le lt137 b122.size) (hM248B _ lt137)
   refine i_norm<|i_norm<|tn_<|wr_<|B2 A rfl (b_addE (n116 + 1) (by omega) (by omega)) λ A=>Z 1 A rfl λ A=>qt_ ?_
   have hst : wStep i j117 y133 = (Ins.mk j117.op i.dst i.dst j117.b j117.imm j117.loc j117.off j117.index j117.size j117.fn j117.acq j117.weak j117.rel j117.pred j117.succ j117.to j117.zero) := by unfold wStep; simp only [hb148, hb179, hb210, hb241, if_true, Bool.false_eq_true, if_false]
   have hgo := (fold_go hy134 j117).symm.trans hj2
   rw [hst] at hgo
   exact ⟨r.parts.length - (n116 + 1), (by rw [hm123]; omega), n116 + 1, (Ins.mk j117.op i.dst i.dst j117.b j117.imm j117.loc j117.off j117.index j117.size j117.fn j117.acq j117.weak j117.rel j117.pred j117.succ j117.to j117.zero), rfl, ⟨by omega, hgo⟩, A.sub rfl, b265, m261, m262, m263, m264⟩
  have hq271 := ne_of_beq hb241
  refine B2 A rfl (bq hb241) λ A=>Z 1 A rfl λ A=>qt_<|cf_ A rfl<|sw_ ?_
  rcases eb_ (y133 == 5) with hb276 | hb276
  ·skip
   have hq277 := eq_of_beq hb276
   refine B2 A rfl (bq hb276) λ A=>Z 1 A rfl λ A=>qt_<|ct_ A rfl<|wr_<|F1 A rfl fo30_4 λ A=>qs A rfl (dld (v := (J i.imm)) (wn rfl) (A.ev rfl) one3 (m126.cell rfl) λ _ A=>F1 A rfl fo30_4 λ A=>qs A rfl (dst_ (wn rfl) (A.ev rfl) (A.ev rfl) one3 rfl m128 (nb_ rfl) λ w288 hU289 (m290 : Blk w288 g40 #[J j117.op, J j117.dst, J j117.a, J j117.b, J i.imm, J j117.loc, J j117.off, J j117.index, J j117.size, J j117.fn, .bool j117.acq, .bool j117.weak, .bool j117.rel, J j117.pred, J j117.succ, J j117.to, .bool j117.zero] 30)=>?_))
   have m291 := m125.upd hU289 n46
   have m292 := m126.upd hU289 n47
   have m293 := m127.upd hU289 n48
   have hr294 := range_upd hr138 hU289 (Nat.ne_of_lt (Nat.lt_of_lt_of_le lt137 ge45))
   have b295 := hU289.below b122 ge45
   intro _ A
   refine qe_<|i_norm<|i_norm<|tn_<|wr_<|B2 A rfl (b_addE (n116 + 1) (by omega) (by omega)) λ A=>Z 1 A rfl λ A=>qt_ ?_
   have hst : wStep i j117 y133 = (Ins.mk j117.op j117.dst j117.a j117.b i.imm j117.loc j117.off j117.index j117.size j117.fn j117.acq j117.weak j117.rel j117.pred j117.succ j117.to j117.zero) := by unfold wStep; simp only [hb148, hb179, hb210, hb241, hb276, if_true, Bool.false_eq_true, if_false]
   have hgo := (fold_go hy134 j117).symm.trans hj2
   rw [hst] at hgo
   exact ⟨r.parts.length - (n116 + 1), (by rw [hm123]; omega), n116 + 1, (Ins.mk j117.op j117.dst j117.a j117.b i.imm j117.loc j117.off j117.index j117.size j117.fn j117.acq j117.weak j117.rel j117.pred j117.succ j117.to j117.zero), rfl, ⟨by omega, hgo⟩, A.sub rfl, b295, m291, m292, m293, m290⟩
  have hq302 := ne_of_beq hb276
  refine B2 A rfl (bq hb276) λ A=>Z 1 A rfl λ A=>qt_<|cf_ A rfl<|sw_ ?_
  rcases eb_ (y133 == 6) with hb307 | hb307
  ·skip
   have hq308 := eq_of_beq hb307
   refine B2 A rfl (bq hb307) λ A=>Z 1 A rfl @λ a311 A=>qt_<|ct_ A rfl ?_
   have A : St 81 [(3, (.pointer (some ⟨g12, 0, none⟩))), (4, (.pointer (some ⟨g23, 0, none⟩))), (5, (.pointer (some ⟨g40, 0, none⟩))), (15, r.pv), (16, (J ((r.parts.length : Nat) : Int))), (17, (J ((n116 : Nat) : Int)))] a311 := A.sub rfl
   let M314 : Nat → Option (Array Value) := λ k => if k = g40 then some #[J j117.op, J j117.dst, J j117.a, J j117.b, J j117.imm, J i.loc, J i.off, J i.index, J i.size, J j117.fn, .bool j117.acq, .bool j117.weak, .bool j117.rel, J j117.pred, J j117.succ, J j117.to, .bool j117.zero] else none
   have hM314 : M314 = λ k => if k = g40 then some #[J j117.op, J j117.dst, J j117.a, J j117.b, J j117.imm, J i.loc, J i.off, J i.index, J i.size, J j117.fn, .bool j117.acq, .bool j117.weak, .bool j117.rel, J j117.pred, J j117.succ, J j117.to, .bool j117.zero] else none := rfl
   clear_value M314
   have hM315 : M314 g3 = none := ((congrFun hM314 g3).trans (if_neg n46))
   have hM316 : M314 g12 = none := ((congrFun hM314 g12).trans (if_neg n47))
   have hM317 : M314 g23 = none := ((congrFun hM314 g23).trans (if_neg n48))
   have hM318 : M314 g40 = some #[J j117.op, J j117.dst, J j117.a, J j117.b, J j117.imm, J i.loc, J i.off, J i.index, J i.size, J j117.fn, .bool j117.acq, .bool j117.weak, .bool j117.rel, J j117.pred, J j117.succ, J j117.to, .bool j117.zero] := ((congrFun hM314 g40).trans (if_pos rfl))
   have hM314B : ∀ k, k < w.heap.size → M314 k = none := (λ k hk => (congrFun hM314 k).trans (if_neg (λ h => ni_ _ (Nat.lt_of_lt_of_le (h ▸ hk) ge45))))
   refine drawn (S := SM M314) (tabL [cv (.pointer (some ⟨g12, 5, none⟩)), cv (J i.loc), cv (.pointer (some ⟨g12, 6, none⟩)), cv (J i.off), cv (.pointer (some ⟨g12, 7, none⟩)), cv (J i.index), cv (.pointer (some ⟨g12, 8, none⟩)), cv (J i.size), cv (.pointer (some ⟨g40, 5, none⟩)), cm M314 g40 5 (J i.loc) ⟨_, hM318, rfl⟩, cv (.pointer (some ⟨g40, 6, none⟩)), cm M314 g40 6 (J i.off) ⟨_, hM318, rfl⟩, cv (.pointer (some ⟨g40, 7, none⟩)), cm M314 g40 7 (J i.index) ⟨_, hM318, rfl⟩, cv (.pointer (some ⟨g40, 8, none⟩)), cm M314 g40 8 (J i.size) ⟨_, hM318, rfl⟩]) mixedY SM.refl SM.trans SM.drew A (by kernel_rfl) ?_ ?_
   ·skip
    have bD319 := blg b122 ((Grow.refl w120).drew) b122.size
    refine ec_ (λ x y hS hT hk => dfa (wn rfl) (hT.ev rfl) fo30_5 ⟨SM.refl _, rfl⟩)<|ec_ (λ x y hS hT hk => dld (v := (J i.loc)) (wn rfl) (hk 0 rfl) one3 ((Blk.sm (w := w120.drew) m126 hS hM316).cell rfl) ⟨SM.refl _, rfl⟩)<|ec_ (λ x y hS hT hk => dfa (wn rfl) (hT.ev rfl) fo30_6 ⟨SM.refl _, rfl⟩)<|ec_ (λ x y hS hT hk => dld (v := (J i.off)) (wn rfl) (hk 2 rfl) one3 ((Blk.sm (w := w120.drew) m126 hS hM316).cell rfl) ⟨SM.refl _, rfl⟩)<|ec_ (λ x y hS hT hk => dfa (wn rfl) (hT.ev rfl) fo30_7 ⟨SM.refl _, rfl⟩)<|ec_ (λ x y hS hT hk => dld (v := (J i.index)) (wn rfl) (hk 4 rfl) one3 ((Blk.sm (w := w120.drew) m126 hS hM316).cell rfl) ⟨SM.refl _, rfl⟩)<|ec_ (λ x y hS hT hk => dfa (wn rfl) (hT.ev rfl) fo30_8 ⟨SM.refl _, rfl⟩)<|ec_ (λ x y hS hT hk => dld (v := (J i.size)) (wn rfl) (hk 6 rfl) one3 ((Blk.sm (w := w120.drew) m126 hS hM316).cell rfl) ⟨SM.refl _, rfl⟩)<|ec_ (λ x y hS hT hk => dfa (wn rfl) (hT.ev rfl) fo30_5 ⟨SM.refl _, rfl⟩)<|ec_ (λ x y hS hT hk => d_storeM (v := (J i.loc)) (w0 := w120.drew) (wn rfl) (hk 8 rfl) (hk 1 rfl) one3 rfl hS hM318 m128 (nb_ rfl) rfl (λ _ h => h))<|ec_ (λ x y hS hT hk => dfa (wn rfl) (hT.ev rfl) fo30_6 ⟨SM.refl _, rfl⟩)<|ec_ (λ x y hS hT hk => d_storeM (v := (J i.off)) (w0 := w120.drew) (wn rfl) (hk 10 rfl) (hk 3 rfl) one3 rfl hS hM318 m128 (nb_ rfl) rfl (λ _ h => h))<|ec_ (λ x y hS hT hk => dfa (wn rfl) (hT.ev rfl) fo30_7 ⟨SM.refl _, rfl⟩)<|ec_ (λ x y hS hT hk => d_storeM (v := (J i.index)) (w0 := w120.drew) (wn rfl) (hk 12 rfl) (hk 5 rfl) one3 rfl hS hM318 m128 (nb_ rfl) rfl (λ _ h => h)) ?_
    refine ec_ (λ x y hS hT hk => dfa (wn rfl) (hT.ev rfl) fo30_8 ⟨SM.refl _, rfl⟩)<|ec_ (λ x y hS hT hk => d_storeM (v := (J i.size)) (w0 := w120.drew) (wn rfl) (hk 14 rfl) (hk 7 rfl) one3 rfl hS hM318 m128 (nb_ rfl) rfl (λ _ h => h)) ?_
    exact each_nil
   intro f320 a321 w322 hS323 hC324 A
   have A : St 81 [(3, (.pointer (some ⟨g12, 0, none⟩))), (4, (.pointer (some ⟨g23, 0, none⟩))), (5, (.pointer (some ⟨g40, 0, none⟩))), (15, r.pv), (16, (J ((r.parts.length : Nat) : Int))), (17, (J ((n116 : Nat) : Int)))] a321 := A.sub rfl
   have m327 := m125.sm hS323 hM315
   have m328 := m126.sm hS323 hM316
   have m329 := m127.sm hS323 hM317
   have m330 : Blk w322 g40 #[J j117.op, J j117.dst, J j117.a, J j117.b, J j117.imm, J i.loc, J i.off, J i.index, J i.size, J j117.fn, .bool j117.acq, .bool j117.weak, .bool j117.rel, J j117.pred, J j117.succ, J j117.to, .bool j117.zero] 30 := hS323.finL [(5, (J i.loc)), (6, (J i.off)), (7, (J i.index)), (8, (J i.size))] hM318 (by kernel_rfl) m128 (fc (hC324 9 (nb_ rfl)) (fc (hC324 11 (nb_ rfl)) (fc (hC324 13 (nb_ rfl)) (fc (hC324 15 (nb_ rfl)) fn_))))
   have b331 := hS323.below b122 b122.size hM314B
   have hr332 := range_sm hr138 hS323 (Nat.lt_of_lt_of_le lt137 b122.size) (hM314B _ lt137)
   refine i_norm<|i_norm<|tn_<|wr_<|B2 A rfl (b_addE (n116 + 1) (by omega) (by omega)) λ A=>Z 1 A rfl λ A=>qt_ ?_
   have hst : wStep i j117 y133 = (Ins.mk j117.op j117.dst j117.a j117.b j117.imm i.loc i.off i.index i.size j117.fn j117.acq j117.weak j117.rel j117.pred j117.succ j117.to j117.zero) := by unfold wStep; simp only [hb148, hb179, hb210, hb241, hb276, hb307, if_true, Bool.false_eq_true, if_false]
   have hgo := (fold_go hy134 j117).symm.trans hj2
   rw [hst] at hgo
   exact ⟨r.parts.length - (n116 + 1), (by rw [hm123]; omega), n116 + 1, (Ins.mk j117.op j117.dst j117.a j117.b j117.imm i.loc i.off i.index i.size j117.fn j117.acq j117.weak j117.rel j117.pred j117.succ j117.to j117.zero), rfl, ⟨by omega, hgo⟩, A.sub rfl, b331, m327, m328, m329, m330⟩
  have hq337 := ne_of_beq hb307
  refine B2 A rfl (bq hb307) λ A=>Z 1 A rfl λ A=>qt_<|cf_ A rfl<|sw_ ?_
  rcases eb_ (y133 == 7) with hb342 | hb342
  ·skip
   have hq343 := eq_of_beq hb342
   refine B2 A rfl (bq hb342) λ A=>Z 1 A rfl λ A=>qt_<|ct_ A rfl<|wr_<|F1 A rfl fo30_15 λ A=>qs A rfl (dld (v := (J i.to)) (wn rfl) (A.ev rfl) one3 (m126.cell rfl) λ _ A=>F1 A rfl fo30_15 λ A=>qs A rfl (dst_ (wn rfl) (A.ev rfl) (A.ev rfl) one3 rfl m128 (nb_ rfl) λ w354 hU355 (m356 : Blk w354 g40 #[J j117.op, J j117.dst, J j117.a, J j117.b, J j117.imm, J j117.loc, J j117.off, J j117.index, J j117.size, J j117.fn, .bool j117.acq, .bool j117.weak, .bool j117.rel, J j117.pred, J j117.succ, J i.to, .bool j117.zero] 30)=>?_))
   have m357 := m125.upd hU355 n46
   have m358 := m126.upd hU355 n47
   have m359 := m127.upd hU355 n48
   have hr360 := range_upd hr138 hU355 (Nat.ne_of_lt (Nat.lt_of_lt_of_le lt137 ge45))
   have b361 := hU355.below b122 ge45
   intro _ A
   refine qe_<|i_norm<|i_norm<|tn_<|wr_<|B2 A rfl (b_addE (n116 + 1) (by omega) (by omega)) λ A=>Z 1 A rfl λ A=>qt_ ?_
   have hst : wStep i j117 y133 = (Ins.mk j117.op j117.dst j117.a j117.b j117.imm j117.loc j117.off j117.index j117.size j117.fn j117.acq j117.weak j117.rel j117.pred j117.succ i.to j117.zero) := by unfold wStep; simp only [hb148, hb179, hb210, hb241, hb276, hb307, hb342, if_true, Bool.false_eq_true, if_false]
   have hgo := (fold_go hy134 j117).symm.trans hj2
   rw [hst] at hgo
   exact ⟨r.parts.length - (n116 + 1), (by rw [hm123]; omega), n116 + 1, (Ins.mk j117.op j117.dst j117.a j117.b j117.imm j117.loc j117.off j117.index j117.size j117.fn j117.acq j117.weak j117.rel j117.pred j117.succ i.to j117.zero), rfl, ⟨by omega, hgo⟩, A.sub rfl, b361, m357, m358, m359, m356⟩
  have hq368 := ne_of_beq hb342
  refine B2 A rfl (bq hb342) λ A=>Z 1 A rfl λ A=>qt_<|cf_ A rfl<|sw_ ?_
  rcases eb_ (y133 == 8) with hb373 | hb373
  ·skip
   have hq374 := eq_of_beq hb373
   refine B2 A rfl (bq hb373) λ A=>Z 1 A rfl λ A=>qt_<|ct_ A rfl<|wr_<|F1 A rfl fo30_13 λ A=>qs A rfl (dld (v := (J i.pred)) (wn rfl) (A.ev rfl) one3 (m126.cell rfl) λ _ A=>F1 A rfl fo30_13 λ A=>qs A rfl (dst_ (wn rfl) (A.ev rfl) (A.ev rfl) one3 rfl m128 (nb_ rfl) λ w385 hU386 (m387 : Blk w385 g40 #[J j117.op, J j117.dst, J j117.a, J j117.b, J j117.imm, J j117.loc, J j117.off, J j117.index, J j117.size, J j117.fn, .bool j117.acq, .bool j117.weak, .bool j117.rel, J i.pred, J j117.succ, J j117.to, .bool j117.zero] 30)=>?_))
   have m388 := m125.upd hU386 n46
   have m389 := m126.upd hU386 n47
   have m390 := m127.upd hU386 n48
   have hr391 := range_upd hr138 hU386 (Nat.ne_of_lt (Nat.lt_of_lt_of_le lt137 ge45))
   have b392 := hU386.below b122 ge45
   intro _ A
   refine qe_<|i_norm<|i_norm<|tn_<|wr_<|B2 A rfl (b_addE (n116 + 1) (by omega) (by omega)) λ A=>Z 1 A rfl λ A=>qt_ ?_
   have hst : wStep i j117 y133 = (Ins.mk j117.op j117.dst j117.a j117.b j117.imm j117.loc j117.off j117.index j117.size j117.fn j117.acq j117.weak j117.rel i.pred j117.succ j117.to j117.zero) := by unfold wStep; simp only [hb148, hb179, hb210, hb241, hb276, hb307, hb342, hb373, if_true, Bool.false_eq_true, if_false]
   have hgo := (fold_go hy134 j117).symm.trans hj2
   rw [hst] at hgo
   exact ⟨r.parts.length - (n116 + 1), (by rw [hm123]; omega), n116 + 1, (Ins.mk j117.op j117.dst j117.a j117.b j117.imm j117.loc j117.off j117.index j117.size j117.fn j117.acq j117.weak j117.rel i.pred j117.succ j117.to j117.zero), rfl, ⟨by omega, hgo⟩, A.sub rfl, b392, m388, m389, m390, m387⟩
  have hq399 := ne_of_beq hb373
  refine B2 A rfl (bq hb373) λ A=>Z 1 A rfl λ A=>qt_<|cf_ A rfl<|sw_ ?_
  rcases eb_ (y133 == 9) with hb404 | hb404
  ·skip
   have hq405 := eq_of_beq hb404
   refine B2 A rfl (bq hb404) λ A=>Z 1 A rfl λ A=>qt_<|ct_ A rfl<|wr_<|F1 A rfl fo30_14 λ A=>qs A rfl (dld (v := (J i.succ)) (wn rfl) (A.ev rfl) one3 (m126.cell rfl) λ _ A=>F1 A rfl fo30_14 λ A=>qs A rfl (dst_ (wn rfl) (A.ev rfl) (A.ev rfl) one3 rfl m128 (nb_ rfl) λ w416 hU417 (m418 : Blk w416 g40 #[J j117.op, J j117.dst, J j117.a, J j117.b, J j117.imm, J j117.loc, J j117.off, J j117.index, J j117.size, J j117.fn, .bool j117.acq, .bool j117.weak, .bool j117.rel, J j117.pred, J i.succ, J j117.to, .bool j117.zero] 30)=>?_))
   have m419 := m125.upd hU417 n46
   have m420 := m126.upd hU417 n47
   have m421 := m127.upd hU417 n48
   have hr422 := range_upd hr138 hU417 (Nat.ne_of_lt (Nat.lt_of_lt_of_le lt137 ge45))
   have b423 := hU417.below b122 ge45
   intro _ A
   refine qe_<|i_norm<|i_norm<|tn_<|wr_<|B2 A rfl (b_addE (n116 + 1) (by omega) (by omega)) λ A=>Z 1 A rfl λ A=>qt_ ?_
   have hst : wStep i j117 y133 = (Ins.mk j117.op j117.dst j117.a j117.b j117.imm j117.loc j117.off j117.index j117.size j117.fn j117.acq j117.weak j117.rel j117.pred i.succ j117.to j117.zero) := by unfold wStep; simp only [hb148, hb179, hb210, hb241, hb276, hb307, hb342, hb373, hb404, if_true, Bool.false_eq_true, if_false]
   have hgo := (fold_go hy134 j117).symm.trans hj2
   rw [hst] at hgo
   exact ⟨r.parts.length - (n116 + 1), (by rw [hm123]; omega), n116 + 1, (Ins.mk j117.op j117.dst j117.a j117.b j117.imm j117.loc j117.off j117.index j117.size j117.fn j117.acq j117.weak j117.rel j117.pred i.succ j117.to j117.zero), rfl, ⟨by omega, hgo⟩, A.sub rfl, b423, m419, m420, m421, m418⟩
  have hq430 := ne_of_beq hb404
  refine B2 A rfl (bq hb404) λ A=>Z 1 A rfl λ A=>qt_<|cf_ A rfl<|wk_<|i_norm<|i_norm<|tn_<|wr_<|B2 A rfl (b_addE (n116 + 1) (by omega) (by omega)) λ A=>Z 1 A rfl λ A=>qt_ ?_
  have hst : wStep i j117 y133 = j117 := by unfold wStep; simp only [hb148, hb179, hb210, hb241, hb276, hb307, hb342, hb373, hb404, if_true, Bool.false_eq_true, if_false]
  have hgo := (fold_go hy134 j117).symm.trans hj2
  rw [hst] at hgo
  exact ⟨r.parts.length - (n116 + 1), (by rw [hm123]; omega), n116 + 1, j117, rfl, ⟨by omega, hgo⟩, A.sub rfl, b122, m125, m126, m127, m128⟩
 have hq439 := df_ hb129
 refine B2 A rfl (bl hb129) λ A=>qt_<|ws_<|cf_ A rfl<|wp_exit<|t_exit<|t_exit<|i_here<|tn_<|sw_<|qs A rfl (dlr (cs := (insC j117)) (wn rfl) (A.ev rfl) row30 m128 λ _ A=>qs A rfl (dsr (wn rfl) (A.ev rfl) (A.ev rfl) row30 m127 rfl rfl λ w444 hU445 (m446 : Blk w444 g23 (insC j117) 30)=>?_))
 have m447 := m125.upd hU445 n29
 have m448 := m126.upd hU445 n30
 have m449 := m128.upd hU445 (Ne.symm n48)
 have b450 := hU445.below b122 ge28
 intro _ A
 refine qt_<|we_<|retRow (g := g23) (cs := (insC j117)) rfl A rfl m446 row30 ?_
 have hend : j117 = withR r i := (fold_end (by omega) _).symm.trans hj2
 exact ⟨by rw [← hend], b450⟩
end Go.Proofs.YtjkbjjlfijhbdaaGreatDoor
namespace Go.Proofs.YtjkbjjlfijhbdaaGreatDoor
open Go.Shelf Go.RowKit
set_option linter.defProp false
set_option maxHeartbeats 4000000
set_option maxRecDepth 100000
set_option linter.unusedVariables false
set_option linter.unusedSimpArgs false
def laysItoa_ren : Go.Shelf.Ren := ⟨fun | 129 => 209 | 171 => 121 | 243 => 161 | 246 => 193 | 283 => 203 | 284 => 204 | 285 => 205 | 286 => 206 | 317 => 208 | 318 => 210 | 319 => 211 | 320 => 212 | 337 => 214 | 338 => 215 | n => n, fun | 0 => 0 | 2 => 2 | 3 => 3 | 4 => 4 | 5 => 5 | 9 => 9 | 20 => 20 | 37 => 143 | 46 => 160 | 51 => 176 | 53 => 122 | 171 => 205 | 173 => 208 | 212 => 215 | 213 => 216 | 232 => 219 | 233 => 220 | n => n, fun | 17 => 5 | 18 => 6 | 19 => 7 | n => n⟩
theorem laysItoa : Go.Proofs.LaysM.n171 Tryz.prog laysItoa_ren := {
 mixed := by kernel_rfl
 f129 := Tryz.func209.trans (congrArg some (by kernel_rfl))
 f171 := Tryz.func121.trans (congrArg some (by kernel_rfl))
 f243 := Tryz.func161.trans (congrArg some (by kernel_rfl))
 f246 := Tryz.func193.trans (congrArg some (by kernel_rfl))
 f283 := Tryz.func203.trans (congrArg some (by kernel_rfl))
 f284 := Tryz.func204.trans (congrArg some (by kernel_rfl))
 f285 := Tryz.func205.trans (congrArg some (by kernel_rfl))
 f286 := Tryz.func206.trans (congrArg some (by kernel_rfl))
 f317 := Tryz.func208.trans (congrArg some (by kernel_rfl))
 f318 := Tryz.func210.trans (congrArg some (by kernel_rfl))
 f319 := Tryz.func211.trans (congrArg some (by kernel_rfl))
 f320 := Tryz.func212.trans (congrArg some (by kernel_rfl))
 f337 := Tryz.func214.trans (congrArg some (by kernel_rfl))
 f338 := Tryz.func215.trans (congrArg some (by kernel_rfl))
 t0 := Tryz.underlying0
 a0 := Tryz.isAgg0
 z0 := Tryz.sizeOf0
 v0 := Tryz.zeroValue0
 t2 := Tryz.underlying2
 a2 := Tryz.isAgg2
 z2 := Tryz.sizeOf2
 v2 := Tryz.zeroValue2
 t3 := Tryz.underlying3
 a3 := Tryz.isAgg3
 z3 := Tryz.sizeOf3
 v3 := Tryz.zeroValue3
 t4 := Tryz.underlying4
 a4 := Tryz.isAgg4
 z4 := Tryz.sizeOf4
 v4 := Tryz.zeroValue4
 t5 := Tryz.underlying5
 a5 := Tryz.isAgg5
 z5 := Tryz.sizeOf5
 v5 := Tryz.zeroValue5
 t9 := Tryz.underlying9
 a9 := Tryz.isAgg9
 z9 := Tryz.sizeOf9
 v9 := Tryz.zeroValue9
 t20 := Tryz.underlying20
 a20 := Tryz.isAgg20
 z20 := Tryz.sizeOf20
 v20 := Tryz.zeroValue20
 t37 := Tryz.underlying143
 a37 := Tryz.isAgg143
 z37 := Tryz.sizeOf143
 v37 := Tryz.zeroValue143
 t46 := Tryz.underlying160
 a46 := Tryz.isAgg160
 z46 := Tryz.sizeOf160
 v46 := Tryz.zeroValue160
 t51 := Tryz.underlying176
 a51 := Tryz.isAgg176
 z51 := Tryz.sizeOf176
 v51 := Tryz.zeroValue176
 t53 := Tryz.underlying122
 a53 := Tryz.isAgg122
 z53 := Tryz.sizeOf122
 v53 := Tryz.zeroValue122
 t171 := Tryz.underlying205
 a171 := Tryz.isAgg205
 z171 := Tryz.sizeOf205
 v171 := Tryz.zeroValue205
 t173 := Tryz.underlying208
 a173 := Tryz.isAgg208
 z173 := Tryz.sizeOf208
 v173 := Tryz.zeroValue208
 t212 := Tryz.underlying215
 a212 := Tryz.isAgg215
 z212 := Tryz.sizeOf215
 v212 := Tryz.zeroValue215
 t213 := Tryz.underlying216
 a213 := Tryz.isAgg216
 z213 := Tryz.sizeOf216
 t232 := Tryz.underlying219
 a232 := Tryz.isAgg219
 z232 := Tryz.sizeOf219
 v232 := Tryz.zeroValue219
 t233 := Tryz.underlying220
 a233 := Tryz.isAgg220
 z233 := Tryz.sizeOf220
 v233 := Tryz.zeroValue220
 g17 := by kernel_rfl
 g18 := by kernel_rfl
 g19 := by kernel_rfl
 i0 := by kernel_rfl
 i2 := by kernel_rfl
 i3 := by kernel_rfl
 i4 := by kernel_rfl
 i5 := by kernel_rfl
 i9 := by kernel_rfl
 i20 := by kernel_rfl
 i37 := by kernel_rfl
 i46 := by kernel_rfl
 i51 := by kernel_rfl
 i53 := by kernel_rfl
 i171 := by kernel_rfl
 i173 := by kernel_rfl
 i212 := by kernel_rfl
 i232 := by kernel_rfl
 i233 := by kernel_rfl
 m17 := by kernel_rfl
 m18 := by kernel_rfl
 m19 := by kernel_rfl }
theorem itoa_any (n : Int) (h0 : -9223372036854775808 ≤ n) (h1 : n ≤ 9223372036854775807) (w : World) (htab : Lib.TabIs Tryz.prog w "internal/strconv.uint64pow10" .u64 Lib.pow10Tab) : Calls Tryz.prog 121 #[.int .i64 n] w fun e w' => e = .returned (.string (S (Lib.itoa n))) ∧ Grow w w' := by
 refine (Any.strconv_Itoa laysItoa n h0 h1 w htab).mono ?_
 rintro e w' ⟨rfl, k, os, rfl⟩
 refine ⟨rfl, ⟨rfl, rfl, rfl, ?_, fun j hj => ?_⟩⟩
 ·show w.heap.size ≤ ((w.drewN k).heap ++ os).size
  rw [Array.size_append]
  exact Nat.le_add_right _ _
 ·show ((w.drewN k).heap ++ os)[j]? = w.heap[j]?
  exact Array.getElem?_append_left hj
def laysRepl_ren : Go.Shelf.Ren := ⟨fun | 138 => 159 | 143 => 48 | 154 => 119 | 165 => 123 | 166 => 124 | 169 => 125 | 195 => 190 | 197 => 160 | 217 => 135 | 218 => 191 | 219 => 98 | 224 => 137 | 225 => 136 | 240 => 163 | 241 => 164 | 260 => 192 | 266 => 167 | 267 => 138 | 276 => 194 | 277 => 195 | 314 => 168 | n => n, fun | 0 => 0 | 3 => 3 | 4 => 4 | 5 => 5 | 9 => 9 | 20 => 20 | 21 => 21 | 37 => 143 | 46 => 160 | 51 => 176 | 70 => 142 | 72 => 145 | 75 => 124 | 76 => 147 | 105 => 171 | 119 => 201 | 127 => 174 | 138 => 203 | 139 => 204 | 146 => 177 | 164 => 193 | 80 => 137 | n => n, fun | 1 => 0 | 3 => 3 | 4 => 4 | n => n⟩
theorem laysRepl : Go.Proofs.Lays.n154 Tryz.prog laysRepl_ren := {
 mixed := by kernel_rfl
 f138 := Tryz.func159.trans (congrArg some (by kernel_rfl))
 f143 := Tryz.func48.trans (congrArg some (by kernel_rfl))
 f154 := Tryz.func119.trans (congrArg some (by kernel_rfl))
 f165 := Tryz.func123.trans (congrArg some (by kernel_rfl))
 f166 := Tryz.func124.trans (congrArg some (by kernel_rfl))
 f169 := Tryz.func125.trans (congrArg some (by kernel_rfl))
 f195 := Tryz.func190.trans (congrArg some (by kernel_rfl))
 f197 := Tryz.func160.trans (congrArg some (by kernel_rfl))
 f217 := Tryz.func135.trans (congrArg some (by kernel_rfl))
 f218 := Tryz.func191.trans (congrArg some (by kernel_rfl))
 f219 := Tryz.func98.trans (congrArg some (by kernel_rfl))
 f224 := Tryz.func137.trans (congrArg some (by kernel_rfl))
 f225 := Tryz.func136.trans (congrArg some (by kernel_rfl))
 f240 := Tryz.func163.trans (congrArg some (by kernel_rfl))
 f241 := Tryz.func164.trans (congrArg some (by kernel_rfl))
 f260 := Tryz.func192.trans (congrArg some (by kernel_rfl))
 f266 := Tryz.func167.trans (congrArg some (by kernel_rfl))
 f267 := Tryz.func138.trans (congrArg some (by kernel_rfl))
 f276 := Tryz.func194.trans (congrArg some (by kernel_rfl))
 f277 := Tryz.func195.trans (congrArg some (by kernel_rfl))
 f314 := Tryz.func168.trans (congrArg some (by kernel_rfl))
 t0 := Tryz.underlying0
 a0 := Tryz.isAgg0
 z0 := Tryz.sizeOf0
 v0 := Tryz.zeroValue0
 t3 := Tryz.underlying3
 a3 := Tryz.isAgg3
 z3 := Tryz.sizeOf3
 v3 := Tryz.zeroValue3
 t4 := Tryz.underlying4
 a4 := Tryz.isAgg4
 z4 := Tryz.sizeOf4
 v4 := Tryz.zeroValue4
 t5 := Tryz.underlying5
 a5 := Tryz.isAgg5
 z5 := Tryz.sizeOf5
 v5 := Tryz.zeroValue5
 t9 := Tryz.underlying9
 a9 := Tryz.isAgg9
 z9 := Tryz.sizeOf9
 v9 := Tryz.zeroValue9
 t20 := Tryz.underlying20
 a20 := Tryz.isAgg20
 z20 := Tryz.sizeOf20
 v20 := Tryz.zeroValue20
 t21 := Tryz.underlying21
 a21 := Tryz.isAgg21
 z21 := Tryz.sizeOf21
 v21 := Tryz.zeroValue21
 t37 := Tryz.underlying143
 a37 := Tryz.isAgg143
 z37 := Tryz.sizeOf143
 v37 := Tryz.zeroValue143
 t46 := Tryz.underlying160
 a46 := Tryz.isAgg160
 z46 := Tryz.sizeOf160
 v46 := Tryz.zeroValue160
 t51 := Tryz.underlying176
 a51 := Tryz.isAgg176
 z51 := Tryz.sizeOf176
 v51 := Tryz.zeroValue176
 t70 := Tryz.underlying142
 a70 := Tryz.isAgg142
 z70 := Tryz.sizeOf142
 v70 := Tryz.zeroValue142
 t72 := Tryz.underlying145
 a72 := Tryz.isAgg145
 z72 := Tryz.sizeOf145
 v72 := Tryz.zeroValue145
 t75 := Tryz.underlying124
 a75 := Tryz.isAgg124
 z75 := Tryz.sizeOf124
 v75 := Tryz.zeroValue124
 t76 := Tryz.underlying147
 a76 := Tryz.isAgg147
 z76 := Tryz.sizeOf147
 v76 := Tryz.zeroValue147
 t105 := Tryz.underlying171
 a105 := Tryz.isAgg171
 z105 := Tryz.sizeOf171
 v105 := Tryz.zeroValue171
 t119 := Tryz.underlying201
 a119 := Tryz.isAgg201
 z119 := Tryz.sizeOf201
 t127 := Tryz.underlying174
 a127 := Tryz.isAgg174
 z127 := Tryz.sizeOf174
 v127 := Tryz.zeroValue174
 t138 := Tryz.underlying203
 a138 := Tryz.isAgg203
 z138 := Tryz.sizeOf203
 v138 := Tryz.zeroValue203
 t139 := Tryz.underlying204
 a139 := Tryz.isAgg204
 z139 := Tryz.sizeOf204
 v139 := Tryz.zeroValue204
 t146 := Tryz.underlying177
 a146 := Tryz.isAgg177
 z146 := Tryz.sizeOf177
 v146 := Tryz.zeroValue177
 t164 := Tryz.underlying193
 a164 := Tryz.isAgg193
 z164 := Tryz.sizeOf193
 v164 := Tryz.zeroValue193
 g1 := by kernel_rfl
 g3 := by kernel_rfl
 g4 := by kernel_rfl }
theorem replExtra : Go.Proofs.Builder.Extra Tryz.prog laysRepl_ren where
 sizeBuilder := by kernel_rfl
 liesBuilder := by kernel_rfl
 t5 := Tryz.underlying5
 a5 := Tryz.isAgg5
 z5 := Tryz.sizeOf5
 v5 := Tryz.zeroValue5
 infoByte := by kernel_rfl
 cellsByte := by kernel_rfl
 sizeByte := by kernel_rfl
 neB5 := by decide
theorem replace_any (l o q : List UInt8) (n m : Int) (w : World) (hl : l.length ≤ 1000) (ho : 1 ≤ o.length) (hq : q.length ≤ 1000) (hc : Lib.countB (S l) (S o) ≤ 1000) (hm : w.cell? ⟨0, 0, none⟩ = some (.int .i64 m)) : Calls Tryz.prog 119 #[.string (S l), .string (S o), .string (S q), .int .i64 n] w fun e w' => e = .returned (.string (S (Lib.replace l o q n))) ∧ Grow w w' := by
 have hmul : Lib.countB (S l) (S o) * (S q).size ≤ 1000 * 1000 := Nat.mul_le_mul hc (by rw [S_size]; exact hq)
 refine (Any.strings_Replace laysRepl replExtra (S l) (S o) (S q) n m w (by rw [S_size]; omega) hm (by rw [S_size]; omega) (by rw [S_size]; omega)).mono ?_
 rintro e w' ⟨rfl, hb⟩
 exact ⟨by rw [S_data, S_data, S_data]; rfl, hb⟩
def laysJoin_ren : Go.Shelf.Ren := ⟨fun | 156 => 83 | 165 => 123 | 166 => 124 | 169 => 125 | 240 => 163 | 241 => 164 | 276 => 194 | 277 => 195 | n => n, fun | 0 => 0 | 3 => 3 | 4 => 4 | 9 => 9 | 20 => 20 | 31 => 76 | 37 => 143 | 70 => 142 | 72 => 145 | 75 => 124 | 76 => 147 | 127 => 174 | 164 => 193 | 5 => 5 | 80 => 137 | n => n, fun | n => n⟩
theorem laysJoin : Go.Proofs.Lays.n156 Tryz.prog laysJoin_ren := {
 mixed := by kernel_rfl
 f156 := Tryz.func83.trans (congrArg some (by kernel_rfl))
 f165 := Tryz.func123.trans (congrArg some (by kernel_rfl))
 f166 := Tryz.func124.trans (congrArg some (by kernel_rfl))
 f169 := Tryz.func125.trans (congrArg some (by kernel_rfl))
 f240 := Tryz.func163.trans (congrArg some (by kernel_rfl))
 f241 := Tryz.func164.trans (congrArg some (by kernel_rfl))
 f276 := Tryz.func194.trans (congrArg some (by kernel_rfl))
 f277 := Tryz.func195.trans (congrArg some (by kernel_rfl))
 t0 := Tryz.underlying0
 a0 := Tryz.isAgg0
 z0 := Tryz.sizeOf0
 v0 := Tryz.zeroValue0
 t3 := Tryz.underlying3
 a3 := Tryz.isAgg3
 z3 := Tryz.sizeOf3
 v3 := Tryz.zeroValue3
 t4 := Tryz.underlying4
 a4 := Tryz.isAgg4
 z4 := Tryz.sizeOf4
 v4 := Tryz.zeroValue4
 t9 := Tryz.underlying9
 a9 := Tryz.isAgg9
 z9 := Tryz.sizeOf9
 v9 := Tryz.zeroValue9
 t20 := Tryz.underlying20
 a20 := Tryz.isAgg20
 z20 := Tryz.sizeOf20
 v20 := Tryz.zeroValue20
 t31 := Tryz.underlying76
 a31 := Tryz.isAgg76
 z31 := Tryz.sizeOf76
 v31 := Tryz.zeroValue76
 t37 := Tryz.underlying143
 a37 := Tryz.isAgg143
 z37 := Tryz.sizeOf143
 v37 := Tryz.zeroValue143
 t70 := Tryz.underlying142
 a70 := Tryz.isAgg142
 z70 := Tryz.sizeOf142
 v70 := Tryz.zeroValue142
 t72 := Tryz.underlying145
 a72 := Tryz.isAgg145
 z72 := Tryz.sizeOf145
 v72 := Tryz.zeroValue145
 t75 := Tryz.underlying124
 a75 := Tryz.isAgg124
 z75 := Tryz.sizeOf124
 v75 := Tryz.zeroValue124
 t76 := Tryz.underlying147
 a76 := Tryz.isAgg147
 z76 := Tryz.sizeOf147
 v76 := Tryz.zeroValue147
 t127 := Tryz.underlying174
 a127 := Tryz.isAgg174
 z127 := Tryz.sizeOf174
 v127 := Tryz.zeroValue174
 t164 := Tryz.underlying193
 a164 := Tryz.isAgg193
 z164 := Tryz.sizeOf193
 v164 := Tryz.zeroValue193 }
theorem joinExtra : Go.Proofs.Builder.Extra Tryz.prog laysJoin_ren where
 sizeBuilder := by kernel_rfl
 liesBuilder := by kernel_rfl
 t5 := Tryz.underlying5
 a5 := Tryz.isAgg5
 z5 := Tryz.sizeOf5
 v5 := Tryz.zeroValue5
 infoByte := by kernel_rfl
 cellsByte := by kernel_rfl
 sizeByte := by kernel_rfl
 neB5 := by decide
theorem join_any (mv : Value) (ls : List (List UInt8)) (q : List UInt8) (w : World) (hM : Sl strE 1 w.heap.size w mv ls) (h0 : ls ≠ []) (hn : ls.length ≤ 1000) (hl : (Lib.join ls q).length ≤ 1000000) : Calls Tryz.prog 83 #[mv, .string (S q)] w fun e w' => e = .returned (.string (S (Lib.join ls q))) ∧ Grow w w' := by
 obtain ⟨ao, cap, rfl, hlc, hel⟩ := hM
 obtain ⟨x, r, rfl⟩ : ∃ x r, ls = x :: r := by cases ls with
  | nil => exact absurd rfl h0
  | cons x r => exact ⟨x, r, rfl⟩
 obtain ⟨b, o, rfl, hb, _⟩ := hel 0 x rfl
 have hmap : ((x :: r).map S).map (fun s => s.data.toList) = x :: r := by
  rw [List.map_map]
  conv => rhs; rw [← List.map_id (x :: r)]
  exact List.map_congr_left fun y _ => S_data y
 have hlen : ((x :: r).map S).length = (x :: r).length := List.length_map _
 have hc := Any.strings_Join laysJoin joinExtra b o cap ((x :: r).map S) (S q) w (fun j y hy => by
   rw [List.getElem?_map] at hy
   cases hz : (x :: r)[j]? with
   | none => rw [hz] at hy; cases hy
   | some z =>
    rw [hz] at hy
    simp only [Option.map_some, Option.some.injEq] at hy
    subst hy
    obtain ⟨b', o', h1, _, h3⟩ := hel j z hz
    simp only [Option.some.injEq, Addr.mk.injEq] at h1
    obtain ⟨rfl, rfl, _⟩ := h1
    have := h3 0 (.string (S z)) rfl
    rw [Nat.mul_one, Nat.add_zero] at this
    exact this) hb (by rw [hlen]; omega) (by rw [hlen]; exact hlc) (by rw [hmap, S_data]; omega)
 rw [hlen, hmap, S_data] at hc
 exact hc.mono fun e w' h => ⟨h.1, h.2⟩
end Go.Proofs.YtjkbjjlfijhbdaaGreatDoor
namespace Go.Proofs.YtjkbjjlfijhbdaaGreatDoor
open Go.RowKit
set_option linter.defProp false
set_option maxHeartbeats 4000000
set_option maxRecDepth 100000
set_option linter.unusedVariables false
set_option linter.unusedSimpArgs false
theorem tab_keep {P : Program} {w w' : World} {n : String} {k : IntKind} {zs : List Int} (h : Lib.TabIs P w n k zs) (hb : Below w.heap.size w w') : Lib.TabIs P w' n k zs := by
 unfold Lib.TabIs World.var? at h ⊢
 cases hg : P.globalNamed n with
 | none => rw [hg] at h; cases h
 | some g =>
  rw [hg] at h
  simp only [Option.bind_some] at h ⊢
  have hlt : g < w.heap.size := by
   rcases Nat.lt_or_ge g w.heap.size with h' | h'
   ·exact h'
   ·rw [Array.getElem?_eq_none h'] at h; cases h
  rw [hb.block g hlt]; exact h
def letF (g : Lg) (n : Int) : Option (List UInt8) := if n == 1 then some g.l0 else if n == 2 then some g.l1 else if n == 4 then some g.l2 else if n == 8 then some g.l3 else none
def nameR (g : Lg) (r : Rw) (n : Int) : List UInt8 := match letF g n with | some y => Lib.replace r.name [42] y 1 | none => r.name
theorem name_hit {g : Lg} {r : Rw} {n : Int} {j : Nat} {y : List UInt8} (hy : g.lets[j]? = some y) (h : (n == szI (j : Int)) = true) : nameR g r n = Lib.replace r.name [42] y 1 := by
 have hj : j < 4 := get_lt hy
 have hn := eq_of_beq h
 have h4 : j = 0 ∨ j = 1 ∨ j = 2 ∨ j = 3 := by omega
 rcases h4 with rfl | rfl | rfl | rfl <;> (simp [Lg.lets] at hy; subst hy; subst hn; rfl)
theorem name_end {g : Lg} {r : Rw} {n : Int} (h : ∀ i : Nat, i < 4 → szI (i : Int) ≠ n) : nameR g r n = r.name := by
 have h0 : n ≠ 1 := fun e => h 0 (by decide) (by rw [e]; rfl)
 have h1 : n ≠ 2 := fun e => h 1 (by decide) (by rw [e]; rfl)
 have h2 : n ≠ 4 := fun e => h 2 (by decide) (by rw [e]; rfl)
 have h3 : n ≠ 8 := fun e => h 3 (by decide) (by rw [e]; rfl)
 unfold nameR letF
 rw [if_neg (by simpa using h0), if_neg (by simpa using h1), if_neg (by simpa using h2), if_neg (by simpa using h3)]
theorem star_le {l : List UInt8} (hl : l.length ≤ 1000) : Lib.countB (S l) (S [42]) ≤ 1000 :=
 Nat.le_trans (Lib.countB_le (S [42]) (by decide) _ (S l) (Nat.le_refl _)) (by rw [S_size]; exact hl)
def fenN (g : Lg) (n : Int) : List UInt8 := (g.fens[(n - 1).toNat]?).getD []
theorem fen_at {g : Lg} {n : Int} {y : List UInt8} (h : g.fens[(n - 1).toNat]? = some y) : fenN g n = y := by unfold fenN; rw [h]; rfl
def locsA : Array Value := #[.string (S [120]), .string (S [121]), .string (S [122])]
theorem loc_cell {k : Nat} (h : k ≤ 2) : locsA[0 + k * 1]? = some (.string (S (locN k))) := by
 have h3 : k = 0 ∨ k = 1 ∨ k = 2 := by omega
 rcases h3 with rfl | rfl | rfl <;> rfl
def cSl (M : Nat → Option (Array Value)) (hM : ∀ k, M k = none) (cs : Array Value) (n : Nat) (e : TypeId) : Cl (SM M) :=
 ⟨fun v w => ∃ g, v = .slice (some ⟨g, 0, none⟩) n n ∧ Blk w g cs e, fun _ _ _ hS ⟨g, h1, h2⟩ => ⟨g, h1, h2.sm hS (hM g)⟩⟩
def cPt (M : Nat → Option (Array Value)) (hM : ∀ k, M k = none) (cs : Array Value) (k : Nat) (e : TypeId) : Cl (SM M) :=
 ⟨fun v w => ∃ g, v = .pointer (some ⟨g, k, none⟩) ∧ Blk w g cs e, fun _ _ _ hS ⟨g, h1, h2⟩ => ⟨g, h1, h2.sm hS (hM g)⟩⟩
def strA (ls : List (List UInt8)) : Array Value := (ls.map fun m => Value.string (S m)).toArray
section
variable {P : Program} {ops : Array Oper} {a : Act} {w : World} {K : Value → World → Prop} {d : Option Tmp} {ty : TypeId} {pos : String} {af : Array Edge} {gd : Option (Nat × Bool)} {v : Value}
theorem d_indexV {t n e j : Nat} {x ix : Operand} {cs : Array Value} (hw : Region.wanted { dst := d, op := .index t x ix, type := ty, pos := pos, after := af, guard := gd } (yielded ops a.tmps) = true) (hx : a.eval x = .agg cs) (hi : a.eval ix = .int .i64 (j : Int)) (ht : arrB P t n e 1 = true) (h1 : oneB P e = true) (hj : j < n) (hv : cs[j]? = some v) (h : K v w) :
  Does P ops { dst := d, op := .index t x ix, type := ty, pos := pos, after := af, guard := gd } a w K :=
 does_val hw (by
  have hc : (0 : Int) ≤ (j : Int) ∧ (j : Int) < ((n : Nat) : Int) := ⟨by omega, by omega⟩
  have h2 := part_one (P := P) (t := e) (cs := cs) (o := j * 1) w (agg_no h1 w) (by rw [Nat.mul_one]; exact hv)
  have h3 : (Instr.index t (.agg cs) (.int .i64 (j : Int))).run P w = .ok v w := by
   unfold Instr.index
   simp only [asIntOf, Sem.run_bind, Sem.run_pure, Result.andThen_ok, run_underlying (arr_facts ht).1, if_pos hc, run_size (arr_facts ht).2, Int.toNat_natCast]
   exact h2
  unfold execOp
  simp only [hx, hi, Sem.run_bind, h3, Result.andThen_ok, Sem.run_pure]) h
theorem d_makeStr {t e n by_ : Nat} {x y : Operand} (hw : Region.wanted { dst := d, op := .makeSlice t x y, type := ty, pos := pos, after := af, guard := gd } (yielded ops a.tmps) = true) (hx : a.eval x = .int .i64 (n : Int)) (hy : a.eval y = .int .i64 (n : Int))
  (ht : elemB P t e 1 by_ = true) (hz : (P.info? e).map (·.zero) = some (some (.string (S [])))) (hn : n ≤ 1000000) (hby : by_ ≤ 1000)
  (h : ∀ g w', g = w.heap.size → Grow w w' → Blk w' g (strA (List.replicate n [])) e → K (.slice (some ⟨g, 0, none⟩) n n) w') : Does P ops { dst := d, op := .makeSlice t x y, type := ty, pos := pos, after := af, guard := gd } a w K := by
 obtain ⟨i, z, hu, hi, hzz, hsz, hbz, hzs, h0⟩ := elem_facts ht
 rw [hi] at hz
 simp only [Option.map_some, Option.some.injEq] at hz
 rw [hzz] at hz; cases hz
 have hmul : by_ * n ≤ 1000 * 1000000 := Nat.mul_le_mul hby hn
 have hb2 : ((i.bytes : Nat) : Int) * (n : Int) ≤ 281474976710656 := by
  rw [hbz, ← Int.natCast_mul]; omega
 have hr := run_makeSlice (P := P) w t e i _ hu hi hzz .i64 .i64 (n : Int) (n : Int) (by omega) (Int.le_refl _) (by rw [hsz]; simp; omega) hb2 (by omega)
 have hc : madeCells (Value.cells (.string (S []))) ((n : Int).toNat * i.size) = strA (List.replicate n []) := by
  rw [hsz, Nat.mul_one, Int.toNat_natCast]
  unfold madeCells strA
  apply Array.ext
  ·simp
  ·intro k h1 h2
   simp [Value.cells, Nat.mod_one]
 rw [hc, Int.toNat_natCast] at hr
 refine does_val (w' := w.alloc (.cells (strA (List.replicate n [])) e)) hw ?_ (h _ _ rfl ((Grow.refl _).alloc _) (heap_alloc_last w _))
 unfold execOp
 simp only [hx, hy, Sem.run_bind, hr, Result.andThen_ok, Sem.run_pure]
end
def opsL (f : Int → List UInt8) (ps : List Int) (n : Nat) : List (List UInt8) := (ps.take n).map f ++ List.replicate (ps.length - n) []
theorem ops_zero (f : Int → List UInt8) (ps : List Int) : opsL f ps 0 = List.replicate ps.length [] := by unfold opsL; simp
theorem ops_len (f : Int → List UInt8) (ps : List Int) {n : Nat} (h : n ≤ ps.length) : (opsL f ps n).length = ps.length := by unfold opsL; simp; omega
theorem ops_set {f : Int → List UInt8} {ps : List Int} {n : Nat} {y : Int} (hy : ps[n]? = some y) : (strA (opsL f ps n)).setIfInBounds (0 + n * 1) (.string (S (f y))) = strA (opsL f ps (n + 1)) := by
 have hn : n < ps.length := get_lt hy
 have key : (opsL f ps n).set n (f y) = opsL f ps (n + 1) := by
  unfold opsL
  rw [List.take_add_one, hy]
  apply List.ext_getElem?
  intro k
  have hl : ((ps.take n).map f).length = n := by simp; omega
  rw [List.getElem?_set]
  by_cases hk : n = k
  ·subst hk
   rw [if_pos rfl, if_pos (by simp; omega)]
   simp only [Option.toList_some, List.map_append, List.map_cons, List.map_nil]
   rw [List.append_assoc, List.getElem?_append_right (by rw [hl]; omega), hl, Nat.sub_self]
   rfl
  ·rw [if_neg hk]
   simp only [Option.toList_some, List.map_append, List.map_cons, List.map_nil, List.append_assoc]
   rcases Nat.lt_or_ge k n with h1 | h1
   ·rw [List.getElem?_append_left (by rw [hl]; exact h1), List.getElem?_append_left (by rw [hl]; exact h1)]
   ·rw [List.getElem?_append_right (by rw [hl]; exact h1), List.getElem?_append_right (by rw [hl]; exact h1), hl]
    obtain ⟨j, hj⟩ : ∃ j, k - n = j + 1 := ⟨k - n - 1, by omega⟩
    rw [hj]
    simp only [List.cons_append, List.nil_append, List.getElem?_cons_succ, List.getElem?_replicate]
    have : (j + 1 < ps.length - n) ↔ (j < ps.length - (n + 1)) := by omega
    simp only [this]
 rw [← key]
 unfold strA
 rw [Nat.zero_add, Nat.mul_one]
 apply Array.ext'
 simp [List.map_set]
theorem ops_end {f : Int → List UInt8} {ps : List Int} {n : Nat} (h : n = ps.length) : opsL f ps n = ps.map f := by subst h; unfold opsL; simp
theorem sl_strA {w : World} {g n : Nat} {t : TypeId} {l : List (List UInt8)} (h : Blk w g (strA l) t) (hn : l.length = n) : Sl strE 1 w.heap.size w (.slice (some ⟨g, 0, none⟩) n n) l := sl_lit h rfl hn
theorem strA_size (l : List (List UInt8)) : (strA l).size = l.length := by unfold strA; simp
theorem arr52 : arrB Tryz.prog 52 4 9 1 = true := by kernel_rfl
theorem ent109 : Ent Tryz.prog 109 = FF := by kernel_rfl
theorem ent118 : Ent Tryz.prog 118 = FF := by kernel_rfl
theorem ent119 : Ent Tryz.prog 119 = FF := by kernel_rfl
theorem ent121 : Ent Tryz.prog 121 = FF := by kernel_rfl
theorem ent162 : Ent Tryz.prog 162 = FF := by kernel_rfl
theorem fo105_0 : fieldOff Tryz.prog 105 0 = some 0 := by kernel_rfl
theorem fo56_0 : fieldOff Tryz.prog 56 0 = some 0 := by kernel_rfl
theorem fo56_1 : fieldOff Tryz.prog 56 1 = some 8 := by kernel_rfl
theorem fo56_4 : fieldOff Tryz.prog 56 4 = some 16 := by kernel_rfl
theorem one54 : oneB Tryz.prog 54 = true := by kernel_rfl
theorem places105 : placesOf Tryz.prog 105 = some [(0, 1), (1, 17), (18, 1)] := by kernel_rfl
theorem row105 : rowB Tryz.prog 105 19 = true := by kernel_rfl
theorem row52 : rowB Tryz.prog 52 4 = true := by kernel_rfl
theorem slc54 : sliceB Tryz.prog 54 105 19 = true := by kernel_rfl
theorem zero105 : (Tryz.prog.info? 105).map (λ i => (i.zero, i.size)) = some (some (.agg #[.string (S []), J 0, J 0, J 0, J 0, J 0, J 0, J 0, J 0, J 0, J 0, .bool false, .bool false, .bool false, J 0, J 0, J 0, .bool false, .slice none 0 0]), 19) := by kernel_rfl
theorem rowof_any (lg : Lg) (i : Ins) (w : World) (hTb : TabOK w.heap.size w lg) : Calls Tryz.prog 79 #[.agg (lgC lg), .agg (insC i)] w λ e w' => ((∃ (r : Rw) (n : Nat), lg.rows[n]? = some r ∧ rowF lg i = some r ∧ e = .returned (.tuple #[.agg (rwC r), .bool true])) ∨ (rowF lg i = none ∧ e = .returned (.tuple #[.agg #[.string (S []), J 0, J 0, J 0, J 0, J 0, J 0, J 0, J 0, J 0, J 0, .bool false, .bool false, .bool false, J 0, J 0, J 0, .bool false, .slice none 0 0], .bool false]))) ∧ Grow w w' := by
 have hmany := hTb.many
 have b0 := Grow.refl w
 refine enter (n := 28) Tryz.func79 rfl rfl (nb_ rfl) λ _ A=>sw_<|qs A rfl (d_box (wn rfl) (A.ev rfl) λ g3 w4 eg5 hG6 (m7 : Blk w4 g3 (lgC lg) 56)=>?_)
 have ge8 : w.heap.size ≤ g3 := eg5 ▸ b0.size
 have b9 := bls b0 hG6
 intro _ A
 refine qs A rfl (d_box (wn rfl) (A.ev rfl) λ g12 w13 eg14 hG15 (m16 : Blk w13 g12 (insC i) 30)=>?_)
 have ge17 : w.heap.size ≤ g12 := eg14 ▸ b9.size
 have n18 := nn_ eg14 m7
 have m19 := m7.grow hG15
 have b20 := bls b9 hG15
 intro _ A
 refine qs A rfl (dal (wn rfl) zero105 λ g23 w24 eg25 hG26 (m27 : Blk w24 g23 #[.string (S []), J 0, J 0, J 0, J 0, J 0, J 0, J 0, J 0, J 0, J 0, .bool false, .bool false, .bool false, J 0, J 0, J 0, .bool false, .slice none 0 0] 105)=>?_)
 have ge28 : w.heap.size ≤ g23 := eg25 ▸ b20.size
 have n29 := nn_ eg25 m19
 have n30 := nn_ eg25 m16
 have m31 := m19.grow hG26
 have m32 := m16.grow hG26
 have b33 := bls b20 hG26
 intro _ A
 refine Z 1 A rfl λ A=>qt_<|ws_<|sw_<|F1 A rfl fo56_4 λ A=>qs A rfl (dld (v := lg.rv) (wn rfl) (A.ev rfl) one54 (m31.cell rfl) λ _ A=>qs A rfl (dle (n := lg.rows.length) (wn rfl) (A.ev rfl) slc54 hTb.rows.form λ _ A=>Z 1 A rfl λ A=>qt_<|wp_block<|loop_by (λ m47 a48 w49 => ∃ n46 : Nat, m47 = lg.rows.length - n46 ∧ (n46 ≤ lg.rows.length ∧ (lg.rows.drop n46).find? (fitsR i) = rowF lg i) ∧ St 28 [(3, (.pointer (some ⟨g12, 0, none⟩))), (4, (.pointer (some ⟨g23, 0, none⟩))), (5, (.bool false)), (9, lg.rv), (10, (J ((lg.rows.length : Nat) : Int))), (11, (J ((n46 : Nat) : Int)))] a48 ∧ Below w.heap.size w w49 ∧ Blk w49 g3 (lgC lg) 56 ∧ Blk w49 g12 (insC i) 30 ∧ Blk w49 g23 #[.string (S []), J 0, J 0, J 0, J 0, J 0, J 0, J 0, J 0, J 0, J 0, .bool false, .bool false, .bool false, J 0, J 0, J 0, .bool false, .slice none 0 0] 105) (lg.rows.length - 0) ⟨0, rfl, ⟨by omega, rfl⟩, A.cut _ (fc (A.g 3 rfl) (fc (A.g 4 rfl) (fc (A.g 5 rfl) (fc (A.g 9 rfl) (fc (A.g 10 rfl) (fc ((A.g 11 rfl).trans (congrArg (Value.int .i64) (by omega))) fn_)))))), b33, m31, m32, m27⟩ ?_))
 rintro m47 a48 w49 ⟨n46, hm52, hc53, A, b51, m54, m55, m56⟩
 obtain ⟨hj1, hj2⟩ := hc53
 refine sw_ ?_
 rcases eb_ (decide (((n46 : Nat) : Int) < ((lg.rows.length : Nat) : Int))) with hb57 | hb57
 ·skip
  have hq58 := dt_ hb57
  refine B2 A rfl (bl hb57) λ A=>qt_<|ws_<|ct_ A rfl<|wk_<|tn_<|ws_<|wp_block<|sw_ ?_
  obtain ⟨y61, hy62⟩ : ∃ y61, lg.rows[n46]? = some y61 := ⟨_, List.getElem?_eq_getElem (show n46 < lg.rows.length by omega)⟩
  obtain ⟨b63, o64, lt65, hr66, hix67⟩ := (hTb.rows.below b51).at hy62
  refine qs A rfl (dia (j := n46) (wn rfl) (A.ev rfl) (A.ev rfl) slc54 hix67 (get_lt hy62) λ _ A=>qs A rfl (dlm (cs := (rwC y61)) (wn rfl) (A.ev rfl) row105 hr66 λ _ A=>qs A rfl (dal (wn rfl) zero105 λ g72 w73 eg74 hG75 (m76 : Blk w73 g72 #[.string (S []), J 0, J 0, J 0, J 0, J 0, J 0, J 0, J 0, J 0, J 0, .bool false, .bool false, .bool false, J 0, J 0, J 0, .bool false, .slice none 0 0] 105)=>?_)))
  have ge77 : w.heap.size ≤ g72 := eg74 ▸ b51.size
  have n78 := nn_ eg74 m54
  have n79 := nn_ eg74 m55
  have n80 := nn_ eg74 m56
  have m81 := m54.grow hG75
  have m82 := m55.grow hG75
  have m83 := m56.grow hG75
  have hr84 := range_below hr66 hG75 (Nat.lt_of_lt_of_le lt65 b51.size)
  have b85 := bls b51 hG75
  intro _ A
  refine qs A rfl (dsr (wn rfl) (A.ev rfl) (A.ev rfl) row105 m76 rfl (rw_one (hTb.at hy62).1) λ w88 hU89 (m90 : Blk w88 g72 (rwC y61) 105)=>?_)
  have m91 := m81.upd hU89 n78
  have m92 := m82.upd hU89 n79
  have m93 := m83.upd hU89 n80
  have hr94 := range_upd hr84 hU89 (Nat.ne_of_lt (Nat.lt_of_lt_of_le lt65 ge77))
  have b95 := hU89.below b85 ge77
  intro a96 A
  refine qt_<|ws_ ?_
  rcases eb_ (insEq (withR y61 i) i) with hb98 | hb98
  ·skip
   rcases eb_ (showsR y61 i) with hb100 | hb100
   ·skip
    have A : St 28 [(3, (.pointer (some ⟨g12, 0, none⟩))), (4, (.pointer (some ⟨g23, 0, none⟩))), (5, (.bool false)), (7, (.pointer (some ⟨g72, 0, none⟩))), (9, lg.rv), (10, (J ((lg.rows.length : Nat) : Int))), (11, (J ((n46 : Nat) : Int)))] a96 := A.sub rfl
    let M103 : Nat → Option (Array Value) := λ _ => none
    have hM103 : M103 = λ _ => none := rfl
    clear_value M103
    have hM104 : M103 g3 = none := (congrFun hM103 g3)
    have hM105 : M103 g12 = none := (congrFun hM103 g12)
    have hM106 : M103 g23 = none := (congrFun hM103 g23)
    have hM107 : M103 g72 = none := (congrFun hM103 g72)
    have hM103B : ∀ k, k < w.heap.size → M103 k = none := (λ k hk => (congrFun hM103 k))
    refine drawn (S := SM M103) (tabL [cv (.agg (rwC y61)), cv (.agg (insC i)), cv (.agg (insC (withR y61 i))), cv (.agg (insC i)), cv (.bool true), cv (.bool true), cv (.agg (rwC y61)), cv (.agg (insC i)), cv (.bool true), cv (.bool true)]) mixedY SM.refl SM.trans SM.drew A (by kernel_rfl) ?_ ?_
    ·skip
     have bD108 := blg b95 ((Grow.refl w88).drew) b95.size
     refine ec_ (λ x y hS hT hk => dlr (cs := (rwC y61)) (wn rfl) (hT.ev rfl) row105 (Blk.sm (w := w88.drew) m90 hS hM107) ⟨SM.refl _, rfl⟩)<|ec_ (λ x y hS hT hk => dlr (cs := (insC i)) (wn rfl) (hT.ev rfl) row30 (Blk.sm (w := w88.drew) m92 hS hM105) ⟨SM.refl _, rfl⟩)<|ec_ (λ x y hS hT hk => dcl (wn rfl) ent109 (map2 (show x.eval _ = (.agg (rwC y61)) from (hk 0 rfl)) (show x.eval _ = (.agg (insC i)) from (hk 1 rfl))) (with_any y61 i y (((hTb.at hy62).1.below (hS.below bD108 b95.size hM103B)).mono (nt_ b95.size hS.size)) (hTb.at hy62).2) (λ _ _ ⟨he, hG⟩ => ⟨(.agg (insC (withR y61 i))), he, SM.grow hG, rfl⟩))<|ec_ (λ x y hS hT hk => dlr (cs := (insC i)) (wn rfl) (hT.ev rfl) row30 (Blk.sm (w := w88.drew) m92 hS hM105) ⟨SM.refl _, rfl⟩)<|ec_ (λ x y hS hT hk => dbn (u := (.agg (insC (withR y61 i)))) (v := (.agg (insC i))) (wn rfl) (hk 2 rfl) (hk 3 rfl) (eq_ins (withR y61 i) i _ _ _ true hb98) ⟨SM.refl _, rfl⟩)<|ec_ (λ x y hS hT hk => dmv (wn rfl) (hk 4 rfl) ⟨SM.refl _, rfl⟩)<|ec_ (λ x y hS hT hk => dlr (cs := (rwC y61)) (wy rfl rfl (hk 5 rfl)) (hT.ev rfl) row105 (Blk.sm (w := w88.drew) m90 hS hM107) ⟨SM.refl _, rfl⟩)<|ec_ (λ x y hS hT hk => dlr (cs := (insC i)) (wy rfl rfl (hk 5 rfl)) (hT.ev rfl) row30 (Blk.sm (w := w88.drew) m92 hS hM105) ⟨SM.refl _, rfl⟩)<|ec_ (λ x y hS hT hk => dcl (wy rfl rfl (hk 5 rfl)) ent118 (map2 (show x.eval _ = (.agg (rwC y61)) from (hk 6 rfl)) (show x.eval _ = (.agg (insC i)) from (hk 7 rfl))) (shows_any y61 i y (((hTb.at hy62).1.below (hS.below bD108 b95.size hM103B)).mono (nt_ b95.size hS.size)) (hTb.at hy62).2) (λ _ _ ⟨he, hG⟩ => ⟨(.bool true), (he.trans (ret_bool hb100)), SM.grow hG, rfl⟩))<|ec_ (λ x y hS hT hk => dpt (wn rfl) (hk 5 rfl) (hk 8 rfl) ⟨SM.refl _, rfl⟩) ?_
     exact each_nil
    intro f109 a110 w111 hS112 hC113 A
    have A : St 28 [(3, (.pointer (some ⟨g12, 0, none⟩))), (4, (.pointer (some ⟨g23, 0, none⟩))), (5, (.bool false)), (7, (.pointer (some ⟨g72, 0, none⟩))), (9, lg.rv), (10, (J ((lg.rows.length : Nat) : Int))), (11, (J ((n46 : Nat) : Int))), (24, (.bool true))] a110 := A.cut _ (fc (A.g 3 rfl) (fc (A.g 4 rfl) (fc (A.g 5 rfl) (fc (A.g 7 rfl) (fc (A.g 9 rfl) (fc (A.g 10 rfl) (fc (A.g 11 rfl) (fc ((A.g 24 rfl).trans (hC113 9 (nb_ rfl))) fn_))))))))
    have m116 := m91.sm hS112 hM104
    have m117 := m92.sm hS112 hM105
    have m118 := m93.sm hS112 hM106
    have m119 := m90.sm hS112 hM107
    have b120 := hS112.below b95 b95.size hM103B
    have hr121 := range_sm hr94 hS112 (Nat.lt_of_lt_of_le lt65 b95.size) (hM103B _ lt65)
    refine tn_<|ct_ A rfl<|sw_<|qs A rfl (dlr (cs := (rwC y61)) (wn rfl) (A.ev rfl) row105 m119 λ _ A=>qs A rfl (dsr (wn rfl) (A.ev rfl) (A.ev rfl) row105 m118 rfl (rw_one (hTb.at hy62).1) λ w124 hU125 (m126 : Blk w124 g23 (rwC y61) 105)=>?_))
    have m127 := m116.upd hU125 n29
    have m128 := m117.upd hU125 n30
    have m129 := m119.upd hU125 (Ne.symm n80)
    have b130 := hU125.below b120 ge28
    intro _ A
    refine Z 1 A rfl λ A=>qt_<|we_<|i_ret<|tr_<|tr_<|i_ret<|tr_<|retCT (g := g23) (cs := (rwC y61)) (v := (.bool true)) rfl A rfl rfl m126 row105 ?_
    exact ⟨.inl ⟨y61, n46, hy62, by rw [← hj2, find_hit hy62 (by simp only [fitsR, hb98, hb100] <;> rfl)], rfl⟩, b130⟩
   have A : St 28 [(3, (.pointer (some ⟨g12, 0, none⟩))), (4, (.pointer (some ⟨g23, 0, none⟩))), (5, (.bool false)), (7, (.pointer (some ⟨g72, 0, none⟩))), (9, lg.rv), (10, (J ((lg.rows.length : Nat) : Int))), (11, (J ((n46 : Nat) : Int)))] a96 := A.sub rfl
   let M137 : Nat → Option (Array Value) := λ _ => none
   have hM137 : M137 = λ _ => none := rfl
   clear_value M137
   have hM138 : M137 g3 = none := (congrFun hM137 g3)
   have hM139 : M137 g12 = none := (congrFun hM137 g12)
   have hM140 : M137 g23 = none := (congrFun hM137 g23)
   have hM141 : M137 g72 = none := (congrFun hM137 g72)
   have hM137B : ∀ k, k < w.heap.size → M137 k = none := (λ k hk => (congrFun hM137 k))
   refine drawn (S := SM M137) (tabL [cv (.agg (rwC y61)), cv (.agg (insC i)), cv (.agg (insC (withR y61 i))), cv (.agg (insC i)), cv (.bool true), cv (.bool true), cv (.agg (rwC y61)), cv (.agg (insC i)), cv (.bool false), cv (.bool false)]) mixedY SM.refl SM.trans SM.drew A (by kernel_rfl) ?_ ?_
   ·skip
    have bD142 := blg b95 ((Grow.refl w88).drew) b95.size
    refine ec_ (λ x y hS hT hk => dlr (cs := (rwC y61)) (wn rfl) (hT.ev rfl) row105 (Blk.sm (w := w88.drew) m90 hS hM141) ⟨SM.refl _, rfl⟩)<|ec_ (λ x y hS hT hk => dlr (cs := (insC i)) (wn rfl) (hT.ev rfl) row30 (Blk.sm (w := w88.drew) m92 hS hM139) ⟨SM.refl _, rfl⟩)<|ec_ (λ x y hS hT hk => dcl (wn rfl) ent109 (map2 (show x.eval _ = (.agg (rwC y61)) from (hk 0 rfl)) (show x.eval _ = (.agg (insC i)) from (hk 1 rfl))) (with_any y61 i y (((hTb.at hy62).1.below (hS.below bD142 b95.size hM137B)).mono (nt_ b95.size hS.size)) (hTb.at hy62).2) (λ _ _ ⟨he, hG⟩ => ⟨(.agg (insC (withR y61 i))), he, SM.grow hG, rfl⟩))<|ec_ (λ x y hS hT hk => dlr (cs := (insC i)) (wn rfl) (hT.ev rfl) row30 (Blk.sm (w := w88.drew) m92 hS hM139) ⟨SM.refl _, rfl⟩)<|ec_ (λ x y hS hT hk => dbn (u := (.agg (insC (withR y61 i)))) (v := (.agg (insC i))) (wn rfl) (hk 2 rfl) (hk 3 rfl) (eq_ins (withR y61 i) i _ _ _ true hb98) ⟨SM.refl _, rfl⟩)<|ec_ (λ x y hS hT hk => dmv (wn rfl) (hk 4 rfl) ⟨SM.refl _, rfl⟩)<|ec_ (λ x y hS hT hk => dlr (cs := (rwC y61)) (wy rfl rfl (hk 5 rfl)) (hT.ev rfl) row105 (Blk.sm (w := w88.drew) m90 hS hM141) ⟨SM.refl _, rfl⟩)<|ec_ (λ x y hS hT hk => dlr (cs := (insC i)) (wy rfl rfl (hk 5 rfl)) (hT.ev rfl) row30 (Blk.sm (w := w88.drew) m92 hS hM139) ⟨SM.refl _, rfl⟩)<|ec_ (λ x y hS hT hk => dcl (wy rfl rfl (hk 5 rfl)) ent118 (map2 (show x.eval _ = (.agg (rwC y61)) from (hk 6 rfl)) (show x.eval _ = (.agg (insC i)) from (hk 7 rfl))) (shows_any y61 i y (((hTb.at hy62).1.below (hS.below bD142 b95.size hM137B)).mono (nt_ b95.size hS.size)) (hTb.at hy62).2) (λ _ _ ⟨he, hG⟩ => ⟨(.bool false), (he.trans (ret_bool hb100)), SM.grow hG, rfl⟩))<|ec_ (λ x y hS hT hk => dpt (wn rfl) (hk 5 rfl) (hk 8 rfl) ⟨SM.refl _, rfl⟩) ?_
    exact each_nil
   intro f143 a144 w145 hS146 hC147 A
   have A : St 28 [(3, (.pointer (some ⟨g12, 0, none⟩))), (4, (.pointer (some ⟨g23, 0, none⟩))), (5, (.bool false)), (7, (.pointer (some ⟨g72, 0, none⟩))), (9, lg.rv), (10, (J ((lg.rows.length : Nat) : Int))), (11, (J ((n46 : Nat) : Int))), (24, (.bool false))] a144 := A.cut _ (fc (A.g 3 rfl) (fc (A.g 4 rfl) (fc (A.g 5 rfl) (fc (A.g 7 rfl) (fc (A.g 9 rfl) (fc (A.g 10 rfl) (fc (A.g 11 rfl) (fc ((A.g 24 rfl).trans (hC147 9 (nb_ rfl))) fn_))))))))
   have m150 := m91.sm hS146 hM138
   have m151 := m92.sm hS146 hM139
   have m152 := m93.sm hS146 hM140
   have m153 := m90.sm hS146 hM141
   have b154 := hS146.below b95 b95.size hM137B
   have hr155 := range_sm hr94 hS146 (Nat.lt_of_lt_of_le lt65 b95.size) (hM137B _ lt65)
   refine tn_<|cf_ A rfl<|wk_<|i_norm<|tn_<|wr_<|B2 A rfl (b_addE (n46 + 1) (by omega) (by omega)) λ A=>Z 1 A rfl λ A=>qt_ ?_
   have hgo := (find_go (f := fitsR i) hy62 (by simp only [fitsR, hb98, hb100] <;> rfl)).symm.trans hj2
   exact ⟨lg.rows.length - (n46 + 1), (by rw [hm52]; omega), n46 + 1, rfl, ⟨by omega, hgo⟩, A.sub rfl, b154, m150, m151, m152⟩
  have A : St 28 [(3, (.pointer (some ⟨g12, 0, none⟩))), (4, (.pointer (some ⟨g23, 0, none⟩))), (5, (.bool false)), (7, (.pointer (some ⟨g72, 0, none⟩))), (9, lg.rv), (10, (J ((lg.rows.length : Nat) : Int))), (11, (J ((n46 : Nat) : Int)))] a96 := A.sub rfl
  let M162 : Nat → Option (Array Value) := λ _ => none
  have hM162 : M162 = λ _ => none := rfl
  clear_value M162
  have hM163 : M162 g3 = none := (congrFun hM162 g3)
  have hM164 : M162 g12 = none := (congrFun hM162 g12)
  have hM165 : M162 g23 = none := (congrFun hM162 g23)
  have hM166 : M162 g72 = none := (congrFun hM162 g72)
  have hM162B : ∀ k, k < w.heap.size → M162 k = none := (λ k hk => (congrFun hM162 k))
  refine drawn (S := SM M162) (tabL [cv (.agg (rwC y61)), cv (.agg (insC i)), cv (.agg (insC (withR y61 i))), cv (.agg (insC i)), cv (.bool false), cv (.bool false), cv undef, cv undef, cv undef, cv (.bool false)]) mixedY SM.refl SM.trans SM.drew A (by kernel_rfl) ?_ ?_
  ·skip
   have bD167 := blg b95 ((Grow.refl w88).drew) b95.size
   refine ec_ (λ x y hS hT hk => dlr (cs := (rwC y61)) (wn rfl) (hT.ev rfl) row105 (Blk.sm (w := w88.drew) m90 hS hM166) ⟨SM.refl _, rfl⟩)<|ec_ (λ x y hS hT hk => dlr (cs := (insC i)) (wn rfl) (hT.ev rfl) row30 (Blk.sm (w := w88.drew) m92 hS hM164) ⟨SM.refl _, rfl⟩)<|ec_ (λ x y hS hT hk => dcl (wn rfl) ent109 (map2 (show x.eval _ = (.agg (rwC y61)) from (hk 0 rfl)) (show x.eval _ = (.agg (insC i)) from (hk 1 rfl))) (with_any y61 i y (((hTb.at hy62).1.below (hS.below bD167 b95.size hM162B)).mono (nt_ b95.size hS.size)) (hTb.at hy62).2) (λ _ _ ⟨he, hG⟩ => ⟨(.agg (insC (withR y61 i))), he, SM.grow hG, rfl⟩))<|ec_ (λ x y hS hT hk => dlr (cs := (insC i)) (wn rfl) (hT.ev rfl) row30 (Blk.sm (w := w88.drew) m92 hS hM164) ⟨SM.refl _, rfl⟩)<|ec_ (λ x y hS hT hk => dbn (u := (.agg (insC (withR y61 i)))) (v := (.agg (insC i))) (wn rfl) (hk 2 rfl) (hk 3 rfl) (eq_ins (withR y61 i) i _ _ _ false hb98) ⟨SM.refl _, rfl⟩)<|ec_ (λ x y hS hT hk => dmv (wn rfl) (hk 4 rfl) ⟨SM.refl _, rfl⟩)<|ec_ (λ x y hS hT hk => dno (wno rfl rfl (.inl (hk 5 rfl))) ⟨SM.refl _, rfl⟩)<|ec_ (λ x y hS hT hk => dno (wno rfl rfl (.inl (hk 5 rfl))) ⟨SM.refl _, rfl⟩)<|ec_ (λ x y hS hT hk => dno (wno rfl rfl (.inl (hk 5 rfl))) ⟨SM.refl _, rfl⟩)<|ec_ (λ x y hS hT hk => dpf (wn rfl) (hk 5 rfl) (hT.ev rfl) ⟨SM.refl _, rfl⟩) ?_
   exact each_nil
  intro f168 a169 w170 hS171 hC172 A
  have A : St 28 [(3, (.pointer (some ⟨g12, 0, none⟩))), (4, (.pointer (some ⟨g23, 0, none⟩))), (5, (.bool false)), (7, (.pointer (some ⟨g72, 0, none⟩))), (9, lg.rv), (10, (J ((lg.rows.length : Nat) : Int))), (11, (J ((n46 : Nat) : Int))), (24, (.bool false))] a169 := A.cut _ (fc (A.g 3 rfl) (fc (A.g 4 rfl) (fc (A.g 5 rfl) (fc (A.g 7 rfl) (fc (A.g 9 rfl) (fc (A.g 10 rfl) (fc (A.g 11 rfl) (fc ((A.g 24 rfl).trans (hC172 9 (nb_ rfl))) fn_))))))))
  have m175 := m91.sm hS171 hM163
  have m176 := m92.sm hS171 hM164
  have m177 := m93.sm hS171 hM165
  have m178 := m90.sm hS171 hM166
  have b179 := hS171.below b95 b95.size hM162B
  have hr180 := range_sm hr94 hS171 (Nat.lt_of_lt_of_le lt65 b95.size) (hM162B _ lt65)
  refine tn_<|cf_ A rfl<|wk_<|i_norm<|tn_<|wr_<|B2 A rfl (b_addE (n46 + 1) (by omega) (by omega)) λ A=>Z 1 A rfl λ A=>qt_ ?_
  have hgo := (find_go (f := fitsR i) hy62 (by simp only [fitsR, hb98] <;> rfl)).symm.trans hj2
  exact ⟨lg.rows.length - (n46 + 1), (by rw [hm52]; omega), n46 + 1, rfl, ⟨by omega, hgo⟩, A.sub rfl, b179, m175, m176, m177⟩
 have hq185 := df_ hb57
 refine B2 A rfl (bl hb57) λ A=>qt_<|ws_<|cf_ A rfl<|wp_exit<|t_exit<|t_exit<|i_here<|tn_<|sw_<|qs A rfl (dbd (cs := #[.string (S []), J 0, J 0, J 0, J 0, J 0, J 0, J 0, J 0, J 0, J 0, .bool false, .bool false, .bool false, J 0, J 0, J 0, .bool false, .slice none 0 0]) (wn rfl) (bp_of bq_nil) zero105 places105 (by kernel_rfl) λ _ A=>qs A rfl (dsr (wn rfl) (A.ev rfl) (A.ev rfl) row105 m56 rfl rfl λ w190 hU191 (m192 : Blk w190 g23 #[.string (S []), J 0, J 0, J 0, J 0, J 0, J 0, J 0, J 0, J 0, J 0, .bool false, .bool false, .bool false, J 0, J 0, J 0, .bool false, .slice none 0 0] 105)=>?_))
 have m193 := m54.upd hU191 n29
 have m194 := m55.upd hU191 n30
 have b195 := hU191.below b51 ge28
 intro _ A
 refine Z 1 A rfl λ A=>qt_<|we_<|retCT (g := g23) (cs := #[.string (S []), J 0, J 0, J 0, J 0, J 0, J 0, J 0, J 0, J 0, J 0, .bool false, .bool false, .bool false, J 0, J 0, J 0, .bool false, .slice none 0 0]) (v := (.bool false)) rfl A rfl rfl m192 row105 ?_
 exact ⟨.inr ⟨by rw [← hj2, find_end (by omega)], rfl⟩, b195⟩
theorem nameof_any (lg : Lg) (r : Rw) (z : Int) (w : World) (hnl : r.name.length ≤ 1000) (hll : ∀ y ∈ lg.lets, y.length ≤ 1000) (m0 : Int) (hm : w.cell? ⟨0, 0, none⟩ = some (J m0)) : Calls Tryz.prog 81 #[.agg (lgC lg), .agg (rwC r), J z] w λ e w' => e = .returned (.string (S (nameR lg r z))) ∧ Grow w w' := by
 have b0 := Grow.refl w
 refine enter (n := 26) Tryz.func81 rfl rfl (nb_ rfl) λ _ A=>sw_<|qs A rfl (d_box (wn rfl) (A.ev rfl) λ g3 w4 eg5 hG6 (m7 : Blk w4 g3 (lgC lg) 56)=>?_)
 have ge8 : w.heap.size ≤ g3 := eg5 ▸ b0.size
 have b9 := bls b0 hG6
 intro _ A
 refine qs A rfl (d_box (wn rfl) (A.ev rfl) λ g12 w13 eg14 hG15 (m16 : Blk w13 g12 (rwC r) 105)=>?_)
 have ge17 : w.heap.size ≤ g12 := eg14 ▸ b9.size
 have n18 := nn_ eg14 m7
 have m19 := m7.grow hG15
 have b20 := bls b9 hG15
 intro _ A
 refine Z 1 A rfl λ A=>qt_<|ws_<|sw_<|F1 A rfl fo56_1 λ A=>qs A rfl (dlm (cs := (letA lg)) (wn rfl) (A.ev rfl) row52 (m19.mid rfl) λ _ A=>Z 1 A rfl λ A=>qt_<|wp_block<|loop_by (λ m32 a33 w34 => ∃ j31 : Nat, m32 = 4 - j31 ∧ (j31 ≤ 4 ∧ ∀ i : Nat, i < j31 → szI (i : Int) ≠ z) ∧ St 26 [(2, (J z)), (4, (.pointer (some ⟨g12, 0, none⟩))), (6, (.string (S []))), (10, (.agg (letA lg))), (11, (J ((j31 : Nat) : Int)))] a33 ∧ Below w.heap.size w w34 ∧ Blk w34 g3 (lgC lg) 56 ∧ Blk w34 g12 (rwC r) 105) (4 - 0) ⟨0, rfl, ⟨by omega, λ i hi => by omega⟩, A.cut _ (fc (A.g 2 rfl) (fc (A.g 4 rfl) (fc (A.g 6 rfl) (fc (A.g 10 rfl) (fc ((A.g 11 rfl).trans (congrArg (Value.int .i64) (by omega))) fn_))))), b20, m19, m16⟩ ?_)
 rintro m32 a33 w34 ⟨j31, hm37, hc38, A, b36, m39, m40⟩
 obtain ⟨hj1, hj2⟩ := hc38
 refine sw_ ?_
 rcases eb_ (decide (((j31 : Nat) : Int) < 4)) with hb41 | hb41
 ·skip
  have hq42 := dt_ hb41
  refine B2 A rfl (bl hb41) λ A=>qt_<|ws_<|ct_ A rfl<|wk_<|tn_<|ws_<|wp_block<|sw_<|Z 1 A rfl λ A=>?_
  obtain ⟨y47, hy48⟩ : ∃ y47, lg.lets[j31]? = some y47 := ⟨_, List.getElem?_eq_getElem (show j31 < lg.lets.length by show j31 < 4; omega)⟩
  refine qs A rfl (d_indexV (j := j31) (v := .string (S y47)) (wn rfl) (A.ev rfl) (A.ev rfl) arr52 one9 (get_lt hy48) (letA_at hy48) λ _ A=>Z 2 A rfl λ A=>qt_<|sw_<|Z 2 A rfl λ A=>B2 A rfl (b_shl1 (j := j31) (by omega)) λ A=>?_)
  rcases eb_ (z == szI ((j31 : Nat) : Int)) with hb61 | hb61
  ·skip
   have hq62 := eq_of_beq hb61
   refine B2 A rfl (bq hb61) λ A=>qt_<|ct_ A rfl<|sw_<|F1 A rfl fo105_0 λ A=>qs A rfl (dld (v := (.string (S r.name))) (wn rfl) (A.ev rfl) one9 (m40.cell rfl) λ _ A=>Z 1 A rfl λ A=>C A rfl ent119 (replace_any r.name [42] y47 1 m0 w34 (by omega) (by decide) (hll _ (List.mem_of_getElem? hy48)) (star_le (by omega)) (cell_keep hm b36)) ?_)
   rintro e74 w71 ⟨he73, hG72⟩
   have m75 := m39.grow hG72
   have m76 := m40.grow hG72
   have b77 := bls b36 hG72
   refine ⟨(.string (S (Lib.replace r.name [42] y47 1))), he73, λ _ A=>Z 1 A rfl λ A=>qt_<|we_<|i_ret<|tr_<|tr_<|i_ret<|tr_<|ret1 rfl A (v := (.string (S (Lib.replace r.name [42] y47 1)))) rfl ?_⟩
   exact ⟨by rw [name_hit hy48 hb61], b77⟩
  have hq82 := ne_of_beq hb61
  refine B2 A rfl (bq hb61) λ A=>qt_<|cf_ A rfl<|wk_<|i_norm<|tn_<|wr_<|B2 A rfl (b_addE (j31 + 1) (by omega) (by omega)) λ A=>Z 1 A rfl λ A=>qt_ ?_
  have hgo : ∀ i : Nat, i < j31 + 1 → szI (i : Int) ≠ z := λ i hi => by
   by_cases e : i = j31
   ·subst e; exact λ e => ne_of_beq hb61 e.symm
   ·exact hj2 i (by omega)
  exact ⟨4 - (j31 + 1), (by rw [hm37]; omega), j31 + 1, rfl, ⟨by omega, hgo⟩, A.sub rfl, b36, m39, m40⟩
 have hq89 := df_ hb41
 refine B2 A rfl (bl hb41) λ A=>qt_<|ws_<|cf_ A rfl<|wp_exit<|t_exit<|t_exit<|i_here<|tn_<|sw_<|F1 A rfl fo105_0 λ A=>qs A rfl (dld (v := (.string (S r.name))) (wn rfl) (A.ev rfl) one9 (m40.cell rfl) λ _ A=>?_)
 refine Z 1 A rfl λ A=>qt_<|we_<|ret1 rfl A (v := (.string (S r.name))) rfl ?_
 exact ⟨by rw [name_end (λ i hi => hj2 i (by omega))], b36⟩
theorem locs_any  (w : World) : Calls Tryz.prog 162 #[] w λ e w' => ∃ g, e = .returned (.slice (some ⟨g, 0, none⟩) 3 3) ∧ Grow w w' ∧ Blk w' g locsA 9 ∧ w.heap.size ≤ g := by
 have b0 := Grow.refl w
 refine enter (n := 2) Tryz.func162 rfl rfl (nb_ rfl) λ _ A=>sw_<|Z 1 A rfl λ A=>qt_<|sw_<|qs A rfl (d_sliceL (cells := #[.string (S [120]), .string (S [121]), .string (S [122])]) (wn rfl) (bp_of (bq_cons (A.ev rfl) (bq_cons (A.ev rfl) (bq_cons (A.ev rfl) bq_nil)))) slz76 (by decide) (by decide) (by kernel_rfl) λ g5 w6 eg7 hG8 (m9 : Blk w6 g5 #[.string (S [120]), .string (S [121]), .string (S [122])] 9)=>?_)
 have ge10 : w.heap.size ≤ g5 := eg7 ▸ b0.size
 have b11 := bls b0 hG8
 intro _ A
 refine Z 1 A rfl λ A=>qt_<|we_<|ret1 rfl A (v := (.slice (some ⟨g5, 0, none⟩) 3 3)) rfl ?_
 exact ⟨g5, rfl, b11, m9, ge10⟩
theorem nameL_len {lg : Lg} (h : ∀ y ∈ lg.regs, y.length ≤ 100) (r : Int) : (nameL lg r).length ≤ 100 := by
 unfold nameL
 split
 ·exact Nat.zero_le _
 ·cases hq : lg.regs[r.toNat]? with
  | none => exact Nat.zero_le _
  | some y => exact h y (List.mem_of_getElem? hq)
def memL (lg : Lg) (i : Ins) (lc : Nat) : List UInt8 := (if (i.off == 0) = true then (if (i.index == (-1)) = true then [91] ++ (locN lc) ++ [93] else [91] ++ (locN lc) ++ ([43] ++ (nameL lg i.index)) ++ [93]) else (if (i.index == (-1)) = true then [91] ++ (locN lc) ++ ([43] ++ (Lib.itoa i.off)) ++ [93] else [91] ++ (locN lc) ++ ([43] ++ (Lib.itoa i.off)) ++ ([43] ++ (nameL lg i.index)) ++ [93]))
theorem lmem_any (lg : Lg) (i : Ins) (lc : Nat) (w : World) (hlc : i.loc = (lc : Int)) (hlk : lc ≤ 2) (ho1 : -9223372036854775808 ≤ i.off) (ho2 : i.off ≤ 9223372036854775807) (hrl : ∀ y ∈ lg.regs, y.length ≤ 100) (htab : Lib.TabIs Tryz.prog w "internal/strconv.uint64pow10" .u64 Lib.pow10Tab) : Calls Tryz.prog 122 #[.agg (lgC lg), .agg (insC i)] w λ e w' => e = .returned (.string (S (memL lg i lc))) ∧ Grow w w' := by
 have hll := loc_len lc
 have b0 := Grow.refl w
 refine enter (n := 34) Tryz.func122 rfl rfl (nb_ rfl) λ _ A=>sw_<|qs A rfl (d_box (wn rfl) (A.ev rfl) λ g3 w4 eg5 hG6 (m7 : Blk w4 g3 (lgC lg) 56)=>?_)
 have ge8 : w.heap.size ≤ g3 := eg5 ▸ b0.size
 have b9 := bls b0 hG6
 intro _ A
 refine qs A rfl (d_box (wn rfl) (A.ev rfl) λ g12 w13 eg14 hG15 (m16 : Blk w13 g12 (insC i) 30)=>?_)
 have ge17 : w.heap.size ≤ g12 := eg14 ▸ b9.size
 have n18 := nn_ eg14 m7
 have m19 := m7.grow hG15
 have b20 := bls b9 hG15
 intro _ A
 refine Z 1 A rfl @λ a23 A=>qt_<|ws_ ?_
 have A : St 34 [(2, (.pointer (some ⟨g3, 0, none⟩))), (3, (.pointer (some ⟨g12, 0, none⟩))), (4, (.string (S [])))] a23 := A.sub rfl
 let M26 : Nat → Option (Array Value) := λ _ => none
 have hM26 : M26 = λ _ => none := rfl
 clear_value M26
 have hM27 : M26 g3 = none := (congrFun hM26 g3)
 have hM28 : M26 g12 = none := (congrFun hM26 g12)
 have hM26B : ∀ k, k < w.heap.size → M26 k = none := (λ k hk => (congrFun hM26 k))
 refine drawn (S := SM M26) (tabL [cSl M26 (λ k => congrFun hM26 k) locsA 3 9, cv (.pointer (some ⟨g12, 5, none⟩)), cv (J i.loc), cPt M26 (λ k => congrFun hM26 k) locsA (0 + lc * 1) 9, cv (.string (S (locN lc))), cv (.string (S ([91] ++ (locN lc)))), cv (.string (S ([91] ++ (locN lc))))]) mixedY SM.refl SM.trans SM.drew A (by kernel_rfl) ?_ ?_
 ·skip
  have bD29 := blg b20 ((Grow.refl w13).drew) b20.size
  refine ec_ (λ x y hS hT hk => dcl (wn rfl) ent162 map0 (locs_any y) (λ _ _ ⟨g, he, hG, hb, _⟩ => ⟨_, he, SM.grow hG, g, rfl, hb⟩))<|ec_ (λ x y hS hT hk => dfa (wn rfl) (hT.ev rfl) fo30_5 ⟨SM.refl _, rfl⟩)<|ec_ (λ x y hS hT hk => dld (v := (J i.loc)) (wn rfl) (hk 1 rfl) one3 ((Blk.sm (w := w13.drew) m16 hS hM28).cell rfl) ⟨SM.refl _, rfl⟩)<|ec_ (λ x y hS hT hk => Exists.elim (hk 0 rfl) λ g h => dia (n := 3) (j := lc) (wn rfl) h.1 (((hk 2 rfl)).trans (congrArg (Value.int .i64) hlc)) slc76 ⟨0, 3, rfl, rfl⟩ (by omega) ⟨SM.refl _, g, rfl, h.2⟩)<|ec_ (λ x y hS hT hk => Exists.elim (hk 3 rfl) λ g h => dld (v := .string (S (locN lc))) (wn rfl) h.1 one9 (h.2.cell (loc_cell (by omega))) ⟨SM.refl _, rfl⟩)<|ec_ (λ x y hS hT hk => dbn (u := (.string (S [91]))) (v := (.string (S (locN lc)))) (wn rfl) (hT.ev rfl) (hk 4 rfl) (b_sadd (l := [91]) (m := locN lc) (by first | omega | (simp only [List.length_append, List.length_cons, List.length_nil]; omega))) ⟨SM.refl _, rfl⟩)<|ec_ (λ x y hS hT hk => das (wn rfl) (hk 5 rfl) ⟨SM.refl _, rfl⟩) ?_
  exact each_nil
 intro f30 a31 w32 hS33 hC34 A
 have A : St 34 [(2, (.pointer (some ⟨g3, 0, none⟩))), (3, (.pointer (some ⟨g12, 0, none⟩))), (4, (.string (S []))), (5, (.string (S ([91] ++ (locN lc)))))] a31 := A.cut _ (fc (A.g 2 rfl) (fc (A.g 3 rfl) (fc (A.g 4 rfl) (fc ((A.g 5 rfl).trans (hC34 6 (nb_ rfl))) fn_))))
 have m37 := m19.sm hS33 hM27
 have m38 := m16.sm hS33 hM28
 have b39 := hS33.below b20 b20.size hM26B
 refine tn_<|ws_<|sw_<|F1 A rfl fo30_6 λ A=>qs A rfl (dld (v := (J i.off)) (wn rfl) (A.ev rfl) one3 (m38.cell rfl) λ _ A=>?_)
 rcases eb_ (i.off == 0) with hb44 | hb44
 ·skip
  have hq45 := eq_of_beq hb44
  refine B2 A rfl (b_ne _ _ i.off 0 false _ (notof hb44)) λ A=>qt_<|cf_ A rfl<|wk_<|tn_<|ws_<|sw_<|F1 A rfl fo30_7 λ A=>qs A rfl (dld (v := (J i.index)) (wn rfl) (A.ev rfl) one3 (m38.cell rfl) λ _ A=>?_)
  rcases eb_ (i.index == (-1)) with hb52 | hb52
  ·skip
   have hq53 := eq_of_beq hb52
   refine B2 A rfl (b_ne _ _ i.index (-1) false _ (notof hb52)) λ A=>qt_<|cf_ A rfl<|wk_<|tn_<|sw_<|Z 1 A rfl λ A=>B2 A rfl (b_sadd (l := [91] ++ (locN lc)) (m := [93]) (by first | omega | (simp only [List.length_append, List.length_cons, List.length_nil]; omega))) λ A=>Z 1 A rfl λ A=>qt_<|we_ ?_
   refine ret1 rfl A (v := (.string (S ([91] ++ (locN lc) ++ [93])))) rfl ?_
   have hq62 : memL lg i lc = [91] ++ (locN lc) ++ [93] := by unfold memL; simp only [hb44, hb52, if_true, Bool.false_eq_true, if_false]
   exact ⟨by rw [hq62], b39⟩
  have hq63 := ne_of_beq hb52
  refine B2 A rfl (b_ne _ _ i.index (-1) true _ (notof hb52)) λ A=>qt_<|ct_ A rfl<|wr_<|Z 1 A rfl λ A=>F1 A rfl fo56_0 λ A=>qs A rfl (dlm (cs := (regA lg)) (wn rfl) (A.ev rfl) row51 (m37.mid rfl) λ _ A=>F1 A rfl fo30_7 λ A=>qs A rfl (dld (v := (J i.index)) (wn rfl) (A.ev rfl) one3 (m38.cell rfl) λ _ A=>?_))
  have hnl := nameL_len hrl i.index
  refine C A rfl ent42 (gname_any lg i.index w32) ?_
  rintro e79 w76 ⟨he78, hG77⟩
  have m80 := m37.grow hG77
  have m81 := m38.grow hG77
  have b82 := bls b39 hG77
  refine ⟨(.string (S (nameL lg i.index))), he78, λ _ A=>B2 A rfl (b_sadd (l := [43]) (m := nameL lg i.index) (by first | omega | (simp only [List.length_append, List.length_cons, List.length_nil]; omega))) λ A=>B2 A rfl (b_sadd (l := [91] ++ (locN lc)) (m := [43] ++ (nameL lg i.index)) (by first | omega | (simp only [List.length_append, List.length_cons, List.length_nil]; omega))) λ A=>Z 1 A rfl λ A=>qt_<|sw_<|Z 1 A rfl λ A=>B2 A rfl (b_sadd (l := [91] ++ (locN lc) ++ ([43] ++ (nameL lg i.index))) (m := [93]) (by first | omega | (simp only [List.length_append, List.length_cons, List.length_nil]; omega))) λ A=>Z 1 A rfl λ A=>qt_<|we_ ?_⟩
  refine ret1 rfl A (v := (.string (S ([91] ++ (locN lc) ++ ([43] ++ (nameL lg i.index)) ++ [93])))) rfl ?_
  have hq97 : memL lg i lc = [91] ++ (locN lc) ++ ([43] ++ (nameL lg i.index)) ++ [93] := by unfold memL; simp only [hb44, hb52, if_true, Bool.false_eq_true, if_false]
  exact ⟨by rw [hq97], b82⟩
 have hq98 := ne_of_beq hb44
 refine B2 A rfl (b_ne _ _ i.off 0 true _ (notof hb44)) λ A=>qt_<|ct_ A rfl<|wr_<|Z 1 A rfl λ A=>F1 A rfl fo30_6 λ A=>qs A rfl (dld (v := (J i.off)) (wn rfl) (A.ev rfl) one3 (m38.cell rfl) λ _ A=>?_)
 have hil := itoa_len (n := i.off) (by omega) (by omega)
 refine C A rfl ent121 (itoa_any i.off (by omega) (by omega) w32 (tab_keep htab b39)) ?_
 rintro e110 w107 ⟨he109, hG108⟩
 have m111 := m37.grow hG108
 have m112 := m38.grow hG108
 have b113 := bls b39 hG108
 refine ⟨(.string (S (Lib.itoa i.off))), he109, λ _ A=>B2 A rfl (b_sadd (l := [43]) (m := Lib.itoa i.off) (by first | omega | (simp only [List.length_append, List.length_cons, List.length_nil]; omega))) λ A=>B2 A rfl (b_sadd (l := [91] ++ (locN lc)) (m := [43] ++ (Lib.itoa i.off)) (by first | omega | (simp only [List.length_append, List.length_cons, List.length_nil]; omega))) λ A=>Z 1 A rfl λ A=>qt_<|ws_<|sw_<|F1 A rfl fo30_7 λ A=>qs A rfl (dld (v := (J i.index)) (wn rfl) (A.ev rfl) one3 (m112.cell rfl) λ _ A=>?_)⟩
 rcases eb_ (i.index == (-1)) with hb126 | hb126
 ·skip
  have hq127 := eq_of_beq hb126
  refine B2 A rfl (b_ne _ _ i.index (-1) false _ (notof hb126)) λ A=>qt_<|cf_ A rfl<|wk_<|tn_<|sw_<|Z 1 A rfl λ A=>B2 A rfl (b_sadd (l := [91] ++ (locN lc) ++ ([43] ++ (Lib.itoa i.off))) (m := [93]) (by first | omega | (simp only [List.length_append, List.length_cons, List.length_nil]; omega))) λ A=>Z 1 A rfl λ A=>qt_<|we_ ?_
  refine ret1 rfl A (v := (.string (S ([91] ++ (locN lc) ++ ([43] ++ (Lib.itoa i.off)) ++ [93])))) rfl ?_
  have hq136 : memL lg i lc = [91] ++ (locN lc) ++ ([43] ++ (Lib.itoa i.off)) ++ [93] := by unfold memL; simp only [hb44, hb126, if_true, Bool.false_eq_true, if_false]
  exact ⟨by rw [hq136], b113⟩
 have hq137 := ne_of_beq hb126
 refine B2 A rfl (b_ne _ _ i.index (-1) true _ (notof hb126)) λ A=>qt_<|ct_ A rfl<|wr_<|Z 1 A rfl λ A=>F1 A rfl fo56_0 λ A=>qs A rfl (dlm (cs := (regA lg)) (wn rfl) (A.ev rfl) row51 (m111.mid rfl) λ _ A=>F1 A rfl fo30_7 λ A=>qs A rfl (dld (v := (J i.index)) (wn rfl) (A.ev rfl) one3 (m112.cell rfl) λ _ A=>?_))
 have hnl := nameL_len hrl i.index
 refine C A rfl ent42 (gname_any lg i.index w107) ?_
 rintro e153 w150 ⟨he152, hG151⟩
 have m154 := m111.grow hG151
 have m155 := m112.grow hG151
 have b156 := bls b113 hG151
 refine ⟨(.string (S (nameL lg i.index))), he152, λ _ A=>B2 A rfl (b_sadd (l := [43]) (m := nameL lg i.index) (by first | omega | (simp only [List.length_append, List.length_cons, List.length_nil]; omega))) λ A=>B2 A rfl (b_sadd (l := [91] ++ (locN lc) ++ ([43] ++ (Lib.itoa i.off))) (m := [43] ++ (nameL lg i.index)) (by first | omega | (simp only [List.length_append, List.length_cons, List.length_nil]; omega))) λ A=>Z 1 A rfl λ A=>qt_<|sw_<|Z 1 A rfl λ A=>B2 A rfl (b_sadd (l := [91] ++ (locN lc) ++ ([43] ++ (Lib.itoa i.off)) ++ ([43] ++ (nameL lg i.index))) (m := [93]) (by first | omega | (simp only [List.length_append, List.length_cons, List.length_nil]; omega))) λ A=>Z 1 A rfl λ A=>qt_<|we_ ?_⟩
 refine ret1 rfl A (v := (.string (S ([91] ++ (locN lc) ++ ([43] ++ (Lib.itoa i.off)) ++ ([43] ++ (nameL lg i.index)) ++ [93])))) rfl ?_
 have hq171 : memL lg i lc = [91] ++ (locN lc) ++ ([43] ++ (Lib.itoa i.off)) ++ ([43] ++ (nameL lg i.index)) ++ [93] := by unfold memL; simp only [hb44, hb126, if_true, Bool.false_eq_true, if_false]
 exact ⟨by rw [hq171], b156⟩
theorem arr53 : arrB Tryz.prog 53 3 9 1 = true := by kernel_rfl
theorem ent122 : Ent Tryz.prog 122 = FF := by kernel_rfl
theorem fo56_2 : fieldOff Tryz.prog 56 2 = some 12 := by kernel_rfl
theorem fo56_3 : fieldOff Tryz.prog 56 3 = some 13 := by kernel_rfl
theorem row56 : rowB Tryz.prog 56 17 = true := by kernel_rfl
def opndR (lg : Lg) (pt : Int) (i : Ins) (lb : List UInt8) : List UInt8 :=
 if (regP pt i).2 = true then nameL lg (regP pt i).1 else if (pt == 5) = true then lg.mrk ++ Lib.itoa i.imm else if (pt == 6) = true then memL lg i i.loc.toNat else if (pt == 8) = true then fenN lg i.pred else if (pt == 9) = true then fenN lg i.succ else lb
theorem operand_any (lg : Lg) (pt : Int) (i : Ins) (lb : List UInt8) (w : World) (hi1 : -9223372036854775808 ≤ i.imm) (hi2 : i.imm ≤ 9223372036854775807) (ho1 : -9223372036854775808 ≤ i.off) (ho2 : i.off ≤ 9223372036854775807) (hrl : ∀ y ∈ lg.regs, y.length ≤ 100) (hmk : lg.mrk.length ≤ 100) (hlc : pt = 6 → 0 ≤ i.loc ∧ i.loc ≤ 2) (hpred : pt = 8 → 1 ≤ i.pred ∧ i.pred ≤ 3) (hsucc : pt = 9 → 1 ≤ i.succ ∧ i.succ ≤ 3) (htab : Lib.TabIs Tryz.prog w "internal/strconv.uint64pow10" .u64 Lib.pow10Tab) : Calls Tryz.prog 82 #[.agg (lgC lg), J pt, .agg (insC i), .string (S lb)] w λ e w' => e = .returned (.string (S (opndR lg pt i lb))) ∧ Grow w w' := by
 have b0 := Grow.refl w
 refine enter (n := 53) Tryz.func82 rfl rfl (nb_ rfl) λ _ A=>sw_<|qs A rfl (d_box (wn rfl) (A.ev rfl) λ g3 w4 eg5 hG6 (m7 : Blk w4 g3 (lgC lg) 56)=>?_)
 have ge8 : w.heap.size ≤ g3 := eg5 ▸ b0.size
 have b9 := bls b0 hG6
 intro _ A
 refine qs A rfl (d_box (wn rfl) (A.ev rfl) λ g12 w13 eg14 hG15 (m16 : Blk w13 g12 (insC i) 30)=>?_)
 have ge17 : w.heap.size ≤ g12 := eg14 ▸ b9.size
 have n18 := nn_ eg14 m7
 have m19 := m7.grow hG15
 have b20 := bls b9 hG15
 intro _ A
 refine Z 1 A rfl λ A=>qt_<|ws_<|sw_<|Z 1 A rfl λ A=>qs A rfl (dlr (cs := (insC i)) (wn rfl) (A.ev rfl) row30 m16 λ _ A=>C A rfl ent120 (partreg_any pt i w13) ?_)
 rintro e32 w29 ⟨he31, hG30⟩
 have m33 := m19.grow hG30
 have m34 := m16.grow hG30
 have b35 := bls b20 hG30
 refine ⟨(.tuple #[(J ((regP pt i).1)), (.bool ((regP pt i).2))]), he31, λ _ A=>Z 5 A rfl λ A=>qt_<|sw_<|Z 1 A rfl λ A=>qt_ ?_⟩
 rcases eb_ ((regP pt i).2) with hb50 | hb50
 ·skip
  have A := A.shadow (t := 17) rfl hb50
  refine ct_ A rfl<|sw_<|F1 A rfl fo56_0 λ A=>qs A rfl (dlm (cs := (regA lg)) (wn rfl) (A.ev rfl) row51 (m33.mid rfl) λ _ A=>Z 1 A rfl λ A=>?_)
  have hnl := nameL_len hrl ((regP pt i).1)
  refine C A rfl ent42 (gname_any lg ((regP pt i).1) w29) ?_
  rintro e62 w59 ⟨he61, hG60⟩
  have m63 := m33.grow hG60
  have m64 := m34.grow hG60
  have b65 := bls b35 hG60
  refine ⟨(.string (S (nameL lg ((regP pt i).1)))), he61, λ _ A=>Z 1 A rfl λ A=>qt_<|we_<|tr_<|ret1 rfl A (v := (.string (S (nameL lg ((regP pt i).1))))) rfl ?_⟩
  have hq70 : opndR lg pt i lb = nameL lg ((regP pt i).1) := by unfold opndR; simp only [hb50, if_true, Bool.false_eq_true, if_false]
  exact ⟨by rw [hq70], b65⟩
 have A := A.shadow (t := 17) rfl hb50
 refine cf_ A rfl<|wk_<|tn_<|ws_<|sw_<|Z 1 A rfl λ A=>qt_<|wp_block<|sw_ ?_
 rcases eb_ (pt == 5) with hb75 | hb75
 ·skip
  have hq76 := eq_of_beq hb75
  refine B2 A rfl (bq hb75) λ A=>Z 1 A rfl @λ a79 A=>qt_<|ct_ A rfl<|ws_ ?_
  have hil := itoa_len (n := i.imm) (by omega) (by omega)
  have A : St 53 [(3, (.string (S lb))), (4, (.pointer (some ⟨g3, 0, none⟩))), (6, (.pointer (some ⟨g12, 0, none⟩)))] a79 := A.sub rfl
  let M82 : Nat → Option (Array Value) := λ _ => none
  have hM82 : M82 = λ _ => none := rfl
  clear_value M82
  have hM83 : M82 g3 = none := (congrFun hM82 g3)
  have hM84 : M82 g12 = none := (congrFun hM82 g12)
  have hM82B : ∀ k, k < w.heap.size → M82 k = none := (λ k hk => (congrFun hM82 k))
  refine drawn (S := SM M82) (tabL [cv (.pointer (some ⟨g3, 12, none⟩)), cv (.string (S lg.mrk)), cv (.pointer (some ⟨g12, 4, none⟩)), cv (J i.imm), cv (.string (S (Lib.itoa i.imm))), cv (.string (S (lg.mrk ++ (Lib.itoa i.imm)))), cv (.string (S (lg.mrk ++ (Lib.itoa i.imm))))]) mixedY SM.refl SM.trans SM.drew A (by kernel_rfl) ?_ ?_
  ·skip
   have bD85 := blg b35 ((Grow.refl w29).drew) b35.size
   refine ec_ (λ x y hS hT hk => dfa (wn rfl) (hT.ev rfl) fo56_2 ⟨SM.refl _, rfl⟩)<|ec_ (λ x y hS hT hk => dld (v := (.string (S lg.mrk))) (wn rfl) (hk 0 rfl) one9 ((Blk.sm (w := w29.drew) m33 hS hM83).cell rfl) ⟨SM.refl _, rfl⟩)<|ec_ (λ x y hS hT hk => dfa (wn rfl) (hT.ev rfl) fo30_4 ⟨SM.refl _, rfl⟩)<|ec_ (λ x y hS hT hk => dld (v := (J i.imm)) (wn rfl) (hk 2 rfl) one3 ((Blk.sm (w := w29.drew) m34 hS hM84).cell rfl) ⟨SM.refl _, rfl⟩)<|ec_ (λ x y hS hT hk => dcl (wn rfl) ent121 (map1 (show x.eval _ = (J i.imm) from (hk 3 rfl))) (itoa_any i.imm (by omega) (by omega) y (tab_keep htab (hS.below bD85 b35.size hM82B))) (λ _ _ ⟨he, hG⟩ => ⟨(.string (S (Lib.itoa i.imm))), he, SM.grow hG, rfl⟩))<|ec_ (λ x y hS hT hk => dbn (u := (.string (S lg.mrk))) (v := (.string (S (Lib.itoa i.imm)))) (wn rfl) (hk 1 rfl) (hk 4 rfl) (b_sadd (l := lg.mrk) (m := Lib.itoa i.imm) (by first | omega | (simp only [List.length_append, List.length_cons, List.length_nil]; omega))) ⟨SM.refl _, rfl⟩)<|ec_ (λ x y hS hT hk => das (wn rfl) (hk 5 rfl) ⟨SM.refl _, rfl⟩) ?_
   exact each_nil
  intro f86 a87 w88 hS89 hC90 A
  have A : St 53 [(3, (.string (S lb))), (8, (.string (S (lg.mrk ++ (Lib.itoa i.imm)))))] a87 := A.cut _ (fc (A.g 3 rfl) (fc ((A.g 8 rfl).trans (hC90 6 (nb_ rfl))) fn_))
  have m93 := m33.sm hS89 hM83
  have m94 := m34.sm hS89 hM84
  have b95 := hS89.below b35 b35.size hM82B
  refine tn_<|we_<|i_ret<|tr_<|ret1 rfl A (v := (.string (S (lg.mrk ++ (Lib.itoa i.imm))))) rfl ?_
  have hq96 : opndR lg pt i lb = lg.mrk ++ (Lib.itoa i.imm) := by unfold opndR; simp only [hb50, hb75, if_true, Bool.false_eq_true, if_false]
  exact ⟨by rw [hq96], b95⟩
 have hq97 := ne_of_beq hb75
 refine B2 A rfl (bq hb75) λ A=>Z 1 A rfl λ A=>qt_<|cf_ A rfl<|sw_ ?_
 rcases eb_ (pt == 6) with hb102 | hb102
 ·skip
  have hq103 := eq_of_beq hb102
  refine B2 A rfl (bq hb102) λ A=>Z 1 A rfl λ A=>qt_<|ct_ A rfl<|sw_<|qs A rfl (dlr (cs := (lgC lg)) (wn rfl) (A.ev rfl) row56 m33 λ _ A=>qs A rfl (dlr (cs := (insC i)) (wn rfl) (A.ev rfl) row30 m34 λ _ A=>?_))
  obtain ⟨⟨hl1, hl2⟩⟩ : PLift (0 ≤ i.loc ∧ i.loc ≤ 2) := ⟨hlc (by omega)⟩
  have hlz : i.loc = ((i.loc.toNat : Nat) : Int) := by omega
  refine C A rfl ent122 (lmem_any lg i i.loc.toNat w29 hlz (by omega) ho1 ho2 hrl (tab_keep htab b35)) ?_
  rintro e115 w112 ⟨he114, hG113⟩
  have m116 := m33.grow hG113
  have m117 := m34.grow hG113
  have b118 := bls b35 hG113
  refine ⟨(.string (S (memL lg i i.loc.toNat))), he114, λ _ A=>Z 1 A rfl λ A=>qt_<|we_<|i_ret<|tr_<|ret1 rfl A (v := (.string (S (memL lg i i.loc.toNat)))) rfl ?_⟩
  have hq123 : opndR lg pt i lb = memL lg i i.loc.toNat := by unfold opndR; simp only [hb50, hb75, hb102, if_true, Bool.false_eq_true, if_false]
  exact ⟨by rw [hq123], b118⟩
 have hq124 := ne_of_beq hb102
 refine B2 A rfl (bq hb102) λ A=>Z 1 A rfl λ A=>qt_<|cf_ A rfl<|sw_ ?_
 rcases eb_ (pt == 8) with hb129 | hb129
 ·skip
  have hq130 := eq_of_beq hb129
  refine B2 A rfl (bq hb129) λ A=>Z 1 A rfl λ A=>qt_<|ct_ A rfl<|sw_<|F1 A rfl fo30_13 λ A=>qs A rfl (dld (v := (J i.pred)) (wn rfl) (A.ev rfl) one3 (m34.cell rfl) λ _ A=>?_)
  have hz139 : 1 ≤ i.pred ∧ i.pred ≤ 3 := hpred (by omega)
  refine B2 A rfl (b_subE ((i.pred - 1).toNat) (by omega) (by omega)) λ A=>F1 A rfl fo56_3 λ A=>qs A rfl (d_indexArr (j := (i.pred - 1).toNat) (wn rfl) (A.ev rfl) (A.ev rfl) arr53 (by omega) λ _ A=>?_)
  obtain ⟨y146, hy147⟩ : ∃ y146, lg.fens[(i.pred - 1).toNat]? = some y146 := ⟨_, List.getElem?_eq_getElem (show (i.pred - 1).toNat < lg.fens.length by show (i.pred - 1).toNat < 3; omega)⟩
  refine qs A rfl (dld (v := .string (S y146)) (wn rfl) (A.ev rfl) one9 (m33.cell (lgC_fen hy147)) λ _ A=>Z 1 A rfl λ A=>qt_<|we_<|i_ret<|tr_<|ret1 rfl A (v := (.string (S y146))) rfl ?_)
  have hq152 : opndR lg pt i lb = y146 := by unfold opndR; simp only [hb50, hb75, hb102, hb129, if_true, Bool.false_eq_true, if_false]; exact fen_at hy147
  exact ⟨by rw [hq152], b35⟩
 have hq153 := ne_of_beq hb129
 refine B2 A rfl (bq hb129) λ A=>Z 1 A rfl λ A=>qt_<|cf_ A rfl<|sw_ ?_
 rcases eb_ (pt == 9) with hb158 | hb158
 ·skip
  have hq159 := eq_of_beq hb158
  refine B2 A rfl (bq hb158) λ A=>Z 1 A rfl λ A=>qt_<|ct_ A rfl<|sw_<|F1 A rfl fo30_14 λ A=>qs A rfl (dld (v := (J i.succ)) (wn rfl) (A.ev rfl) one3 (m34.cell rfl) λ _ A=>?_)
  have hz168 : 1 ≤ i.succ ∧ i.succ ≤ 3 := hsucc (by omega)
  refine B2 A rfl (b_subE ((i.succ - 1).toNat) (by omega) (by omega)) λ A=>F1 A rfl fo56_3 λ A=>qs A rfl (d_indexArr (j := (i.succ - 1).toNat) (wn rfl) (A.ev rfl) (A.ev rfl) arr53 (by omega) λ _ A=>?_)
  obtain ⟨y175, hy176⟩ : ∃ y175, lg.fens[(i.succ - 1).toNat]? = some y175 := ⟨_, List.getElem?_eq_getElem (show (i.succ - 1).toNat < lg.fens.length by show (i.succ - 1).toNat < 3; omega)⟩
  refine qs A rfl (dld (v := .string (S y175)) (wn rfl) (A.ev rfl) one9 (m33.cell (lgC_fen hy176)) λ _ A=>Z 1 A rfl λ A=>qt_<|we_<|i_ret<|tr_<|ret1 rfl A (v := (.string (S y175))) rfl ?_)
  have hq181 : opndR lg pt i lb = y175 := by unfold opndR; simp only [hb50, hb75, hb102, hb129, hb158, if_true, Bool.false_eq_true, if_false]; exact fen_at hy176
  exact ⟨by rw [hq181], b35⟩
 have hq182 := ne_of_beq hb158
 refine B2 A rfl (bq hb158) λ A=>Z 1 A rfl λ A=>qt_<|cf_ A rfl<|wk_<|i_norm<|tn_<|sw_<|Z 2 A rfl λ A=>qt_<|we_ ?_
 refine ret1 rfl A (v := (.string (S lb))) rfl ?_
 have hq191 : opndR lg pt i lb = lb := by unfold opndR; simp only [hb50, hb75, hb102, hb129, hb158, if_true, Bool.false_eq_true, if_false]
 exact ⟨by rw [hq191], b35⟩
theorem ent63 : Ent Tryz.prog 63 = FF := by kernel_rfl
theorem ent79 : Ent Tryz.prog 79 = FF := by kernel_rfl
theorem ent80 : Ent Tryz.prog 80 = FF := by kernel_rfl
theorem ent81 : Ent Tryz.prog 81 = FF := by kernel_rfl
theorem ent82 : Ent Tryz.prog 82 = FF := by kernel_rfl
theorem ent83 : Ent Tryz.prog 83 = FF := by kernel_rfl
theorem zst9 : (Tryz.prog.info? 9).map (·.zero) = some (some (.string (S []))) := by kernel_rfl
def prL (lg : Lg) (i : Ins) (lb : List UInt8) : List UInt8 × Int :=
 if wrongB i = true then ([], 34) else match rowF lg i with
 | none => ([], 36)
 | some r => if (i.op == 9) = true then (if isNm lb = true then (if (((r.parts.length : Nat) : Int) == 0) = true then (nameR lg r i.size, 0) else (nameR lg r i.size ++ [32] ++ (Lib.join (r.parts.map (λ p => opndR lg p i lb)) [44]), 0)) else ([], 37))
  else (if (((r.parts.length : Nat) : Int) == 0) = true then (nameR lg r i.size, 0) else (nameR lg r i.size ++ [32] ++ (Lib.join (r.parts.map (λ p => opndR lg p i lb)) [44]), 0))
theorem maps_ne {α β : Type} {f : α → β} {l : List α} (h : (((l.length : Nat) : Int) == 0) = false) : l.map f ≠ [] := λ e => by
 have hl := congrArg List.length e
 rw [List.length_map] at hl
 rw [hl] at h; cases h
theorem rowof_is {lg : Lg} {i : Ins} {r : Rw} {e : Ending} {Z : Value} (hr : rowF lg i = some r) (h : (∃ (r : Rw) (n : Nat), lg.rows[n]? = some r ∧ rowF lg i = some r ∧ e = .returned (.tuple #[.agg (rwC r), .bool true])) ∨ (rowF lg i = none ∧ e = .returned (.tuple #[Z, .bool false]))) : e = .returned (.tuple #[.agg (rwC r), .bool true]) := by
 rcases h with ⟨r', n, _, h1, h2⟩ | ⟨h1, _⟩
 ·rw [hr] at h1; cases h1; exact h2
 ·rw [hr] at h1; cases h1
theorem rowof_no {lg : Lg} {i : Ins} {e : Ending} {Z : Value} (hr : rowF lg i = none) (h : (∃ (r : Rw) (n : Nat), lg.rows[n]? = some r ∧ rowF lg i = some r ∧ e = .returned (.tuple #[.agg (rwC r), .bool true])) ∨ (rowF lg i = none ∧ e = .returned (.tuple #[Z, .bool false]))) : e = .returned (.tuple #[Z, .bool false]) := by
 rcases h with ⟨r', n, _, h1, h2⟩ | ⟨_, h1⟩
 ·rw [hr] at h1; cases h1
 ·exact h1
theorem TabOK.of {B : Nat} {w : World} {g : Lg} {r : Rw} (h : TabOK B w g) (hr : r ∈ g.rows) : Sl ptE 1 B w r.pv r.parts ∧ r.parts.length ≤ 1000 := ⟨h.parts r hr, h.few r hr⟩
theorem TabOK.to {w w' : World} {g : Lg} (h : TabOK w.heap.size w g) (hb : Below w.heap.size w w') : TabOK w'.heap.size w' g := (h.below hb).mono hb.size
theorem print_none (lg : Lg) (i : Ins) (lb : List UInt8) (w : World) (hr : rowF lg i = none) (hTb : TabOK w.heap.size w lg) (hi1 : -9223372036854775808 ≤ i.imm) (hi2 : i.imm ≤ 9223372036854775807) (ho1 : -9223372036854775808 ≤ i.off) (ho2 : i.off ≤ 9223372036854775807) (hrl : ∀ y ∈ lg.regs, y.length ≤ 100) (hmk : lg.mrk.length ≤ 100) (htab : Lib.TabIs Tryz.prog w "internal/strconv.uint64pow10" .u64 Lib.pow10Tab) (m0 : Int) (hm : w.cell? ⟨0, 0, none⟩ = some (J m0)) (ev : Value) (hev1 : w.cell? ⟨1, 0, none⟩ = some ev) (hev2 : ev = .nilIface ∨ ∃ te pe, ev = .iface te pe) (hlb : lb.length ≤ 9223372036854775807) : Calls Tryz.prog 38 #[.agg (lgC lg), .agg (insC i), .string (S lb)] w λ e w' => e = .returned (.tuple #[.string (S (prL lg i lb).1), J (prL lg i lb).2]) ∧ Grow w w' := by
 have b0 := Grow.refl w
 refine enter (n := 68) Tryz.func38 rfl rfl (nb_ rfl) λ _ A=>sw_<|qs A rfl (d_box (wn rfl) (A.ev rfl) λ g3 w4 eg5 hG6 (m7 : Blk w4 g3 (lgC lg) 56)=>?_)
 have ge8 : w.heap.size ≤ g3 := eg5 ▸ b0.size
 have b9 := bls b0 hG6
 intro _ A
 refine qs A rfl (d_box (wn rfl) (A.ev rfl) λ g12 w13 eg14 hG15 (m16 : Blk w13 g12 (insC i) 30)=>?_)
 have ge17 : w.heap.size ≤ g12 := eg14 ▸ b9.size
 have n18 := nn_ eg14 m7
 have m19 := m7.grow hG15
 have b20 := bls b9 hG15
 intro _ A
 refine Z 2 A rfl λ A=>qt_<|ws_<|sw_<|qs A rfl (dlr (cs := (insC i)) (wn rfl) (A.ev rfl) row30 m16 λ _ A=>C A rfl ent63 (iswrong_any i w13) ?_)
 rintro e32 w29 ⟨he31, hG30⟩
 have m33 := m19.grow hG30
 have m34 := m16.grow hG30
 have b35 := bls b20 hG30
 rcases eb_ (wrongB i) with hb36 | hb36
 ·skip
  refine ⟨.bool true, he31.trans (ret_bool hb36), λ _ A=>qt_<|ct_ A rfl<|sw_<|Z 2 A rfl λ A=>qt_<|we_<|tr_<|ret2 (x := (.string (S []))) (y := (J 34)) rfl A rfl rfl ?_⟩
  have hq44 : prL lg i lb = ([], 34) := by unfold prL; simp only [hr, hb36, if_true, Bool.false_eq_true, if_false]
  exact ⟨by rw [hq44], b35⟩
 refine ⟨.bool false, he31.trans (ret_bool hb36), λ _ A=>qt_<|cf_ A rfl<|wk_<|tn_<|sw_<|qs A rfl (dlr (cs := (lgC lg)) (wn rfl) (A.ev rfl) row56 m33 λ _ A=>qs A rfl (dlr (cs := (insC i)) (wn rfl) (A.ev rfl) row30 m34 λ _ A=>C A rfl ent79 (rowof_any lg i w29 (hTb.to b35)) ?_))⟩
 rintro e55 w52 ⟨he54, hG53⟩
 have m56 := m33.grow hG53
 have m57 := m34.grow hG53
 have b58 := bls b35 hG53
 have hx59 : e55 = .returned (.tuple #[.agg #[.string (S []), J 0, J 0, J 0, J 0, J 0, J 0, J 0, J 0, J 0, J 0, .bool false, .bool false, .bool false, J 0, J 0, J 0, .bool false, .slice none 0 0], .bool false]) := rowof_no hr he54
 refine ⟨(.tuple #[(.agg #[.string (S []), J 0, J 0, J 0, J 0, J 0, J 0, J 0, J 0, J 0, J 0, .bool false, .bool false, .bool false, J 0, J 0, J 0, .bool false, .slice none 0 0]), (.bool false)]), hx59, λ _ A=>Z 3 A rfl λ A=>qs A rfl (dal (wn rfl) zero105 λ g68 w69 eg70 hG71 (m72 : Blk w69 g68 #[.string (S []), J 0, J 0, J 0, J 0, J 0, J 0, J 0, J 0, J 0, J 0, .bool false, .bool false, .bool false, J 0, J 0, J 0, .bool false, .slice none 0 0] 105)=>?_)⟩
 have ge73 : w.heap.size ≤ g68 := eg70 ▸ b58.size
 have n74 := nn_ eg70 m56
 have n75 := nn_ eg70 m57
 have m76 := m56.grow hG71
 have m77 := m57.grow hG71
 have b78 := bls b58 hG71
 intro _ A
 refine qs A rfl (dsr (wn rfl) (A.ev rfl) (A.ev rfl) row105 m72 rfl rfl λ w81 hU82 (m83 : Blk w81 g68 #[.string (S []), J 0, J 0, J 0, J 0, J 0, J 0, J 0, J 0, J 0, J 0, .bool false, .bool false, .bool false, J 0, J 0, J 0, .bool false, .slice none 0 0] 105)=>?_)
 have m84 := m76.upd hU82 n74
 have m85 := m77.upd hU82 n75
 have b86 := hU82.below b78 ge73
 intro _ A
 refine Z 1 A rfl λ A=>qt_<|ws_<|sw_<|Z 2 A rfl λ A=>qt_<|ct_ A rfl<|sw_<|Z 2 A rfl λ A=>qe_ ?_
 refine tn_<|we_<|tr_<|ret2 (x := (.string (S []))) (y := (J 36)) rfl A rfl rfl ?_
 have hq99 : prL lg i lb = ([], 36) := by unfold prL; simp only [hr, hb36, if_true, Bool.false_eq_true, if_false]
 exact ⟨by rw [hq99], b86⟩
theorem print_some (lg : Lg) (i : Ins) (lb : List UInt8) (r : Rw) (w : World) (hr : rowF lg i = some r) (hTb : TabOK w.heap.size w lg) (hi1 : -9223372036854775808 ≤ i.imm) (hi2 : i.imm ≤ 9223372036854775807) (ho1 : -9223372036854775808 ≤ i.off) (ho2 : i.off ≤ 9223372036854775807) (hrl : ∀ y ∈ lg.regs, y.length ≤ 100) (hmk : lg.mrk.length ≤ 100) (htab : Lib.TabIs Tryz.prog w "internal/strconv.uint64pow10" .u64 Lib.pow10Tab) (m0 : Int) (hm : w.cell? ⟨0, 0, none⟩ = some (J m0)) (ev : Value) (hev1 : w.cell? ⟨1, 0, none⟩ = some ev) (hev2 : ev = .nilIface ∨ ∃ te pe, ev = .iface te pe) (hlb : lb.length ≤ 9223372036854775807) (hmem : r ∈ lg.rows) (hnl : r.name.length ≤ 1000) (hll : ∀ y ∈ lg.lets, y.length ≤ 1000) (hlc : ∀ pt ∈ r.parts, pt = 6 → 0 ≤ i.loc ∧ i.loc ≤ 2) (hpred : ∀ pt ∈ r.parts, pt = 8 → 1 ≤ i.pred ∧ i.pred ≤ 3) (hsucc : ∀ pt ∈ r.parts, pt = 9 → 1 ≤ i.succ ∧ i.succ ≤ 3) (hjl : (Lib.join (r.parts.map (λ p => opndR lg p i lb)) [44]).length ≤ 1000000) (hnz : (nameR lg r i.size).length ≤ 1000000) : Calls Tryz.prog 38 #[.agg (lgC lg), .agg (insC i), .string (S lb)] w λ e w' => e = .returned (.tuple #[.string (S (prL lg i lb).1), J (prL lg i lb).2]) ∧ Grow w w' := by
 have hfew := (hTb.of hmem).2
 have b0 := Grow.refl w
 refine enter (n := 68) Tryz.func38 rfl rfl (nb_ rfl) λ _ A=>sw_<|qs A rfl (d_box (wn rfl) (A.ev rfl) λ g3 w4 eg5 hG6 (m7 : Blk w4 g3 (lgC lg) 56)=>?_)
 have ge8 : w.heap.size ≤ g3 := eg5 ▸ b0.size
 have b9 := bls b0 hG6
 intro _ A
 refine qs A rfl (d_box (wn rfl) (A.ev rfl) λ g12 w13 eg14 hG15 (m16 : Blk w13 g12 (insC i) 30)=>?_)
 have ge17 : w.heap.size ≤ g12 := eg14 ▸ b9.size
 have n18 := nn_ eg14 m7
 have m19 := m7.grow hG15
 have b20 := bls b9 hG15
 intro _ A
 refine Z 2 A rfl λ A=>qt_<|ws_<|sw_<|qs A rfl (dlr (cs := (insC i)) (wn rfl) (A.ev rfl) row30 m16 λ _ A=>C A rfl ent63 (iswrong_any i w13) ?_)
 rintro e32 w29 ⟨he31, hG30⟩
 have m33 := m19.grow hG30
 have m34 := m16.grow hG30
 have b35 := bls b20 hG30
 rcases eb_ (wrongB i) with hb36 | hb36
 ·skip
  refine ⟨.bool true, he31.trans (ret_bool hb36), λ _ A=>qt_<|ct_ A rfl<|sw_<|Z 2 A rfl λ A=>qt_<|we_<|tr_<|ret2 (x := (.string (S []))) (y := (J 34)) rfl A rfl rfl ?_⟩
  have hq44 : prL lg i lb = ([], 34) := by unfold prL; simp only [hr, hb36, if_true, Bool.false_eq_true, if_false]
  exact ⟨by rw [hq44], b35⟩
 refine ⟨.bool false, he31.trans (ret_bool hb36), λ _ A=>qt_<|cf_ A rfl<|wk_<|tn_<|sw_<|qs A rfl (dlr (cs := (lgC lg)) (wn rfl) (A.ev rfl) row56 m33 λ _ A=>qs A rfl (dlr (cs := (insC i)) (wn rfl) (A.ev rfl) row30 m34 λ _ A=>C A rfl ent79 (rowof_any lg i w29 (hTb.to b35)) ?_))⟩
 rintro e55 w52 ⟨he54, hG53⟩
 have m56 := m33.grow hG53
 have m57 := m34.grow hG53
 have b58 := bls b35 hG53
 have hx59 : e55 = .returned (.tuple #[.agg (rwC r), .bool true]) := rowof_is hr he54
 refine ⟨(.tuple #[(.agg (rwC r)), (.bool true)]), hx59, λ _ A=>Z 3 A rfl λ A=>qs A rfl (dal (wn rfl) zero105 λ g68 w69 eg70 hG71 (m72 : Blk w69 g68 #[.string (S []), J 0, J 0, J 0, J 0, J 0, J 0, J 0, J 0, J 0, J 0, .bool false, .bool false, .bool false, J 0, J 0, J 0, .bool false, .slice none 0 0] 105)=>?_)⟩
 have ge73 : w.heap.size ≤ g68 := eg70 ▸ b58.size
 have n74 := nn_ eg70 m56
 have n75 := nn_ eg70 m57
 have m76 := m56.grow hG71
 have m77 := m57.grow hG71
 have b78 := bls b58 hG71
 intro _ A
 refine qs A rfl (dsr (wn rfl) (A.ev rfl) (A.ev rfl) row105 m72 rfl (rw_one (hTb.of hmem).1) λ w81 hU82 (m83 : Blk w81 g68 (rwC r) 105)=>?_)
 have m84 := m76.upd hU82 n74
 have m85 := m77.upd hU82 n75
 have b86 := hU82.below b78 ge73
 intro _ A
 refine Z 1 A rfl λ A=>qt_<|ws_<|sw_<|Z 2 A rfl λ A=>qt_<|cf_ A rfl<|wk_<|tn_<|ws_<|ws_ ?_
 refine wr_<|F1 A rfl fo30_0 λ A=>qs A rfl (dld (v := (J i.op)) (wn rfl) (A.ev rfl) one3 (m85.cell rfl) λ _ A=>?_)
 rcases eb_ (i.op == 9) with hb99 | hb99
 ·skip
  have hq100 := eq_of_beq hb99
  refine B2 A rfl (bq hb99) λ A=>Z 2 A rfl λ A=>C A rfl ent80 (isname_any lb w81 (by omega) m0 (cell_keep hm b86) ev (cell_keep hev1 b86) hev2) ?_
  rintro e110 w107 ⟨he109, hG108⟩
  have m111 := m84.grow hG108
  have m112 := m85.grow hG108
  have m113 := m83.grow hG108
  have b114 := bls b86 hG108
  rcases eb_ (isNm lb) with hb115 | hb115
  ·skip
   refine ⟨.bool true, he109.trans (ret_bool hb115), λ _ A=>Z 2 A rfl λ A=>qt_<|cf_ A rfl<|wk_<|tn_<|sw_<|qs A rfl (dlr (cs := (lgC lg)) (wn rfl) (A.ev rfl) row56 m111 λ _ A=>qs A rfl (dlr (cs := (rwC r)) (wn rfl) (A.ev rfl) row105 m113 λ _ A=>F1 A rfl fo30_8 λ A=>qs A rfl (dld (v := (J i.size)) (wn rfl) (A.ev rfl) one3 (m112.cell rfl) λ _ A=>C A rfl ent81 (nameof_any lg r i.size w107 hnl hll m0 (cell_keep hm b114)) ?_)))⟩
   rintro e134 w131 ⟨he133, hG132⟩
   have m135 := m111.grow hG132
   have m136 := m112.grow hG132
   have m137 := m113.grow hG132
   have b138 := bls b114 hG132
   refine ⟨(.string (S (nameR lg r i.size))), he133, λ _ A=>Z 1 A rfl λ A=>qt_<|ws_<|sw_<|F1 A rfl fo105_2 λ A=>qs A rfl (dld (v := r.pv) (wn rfl) (A.ev rfl) one103 (m137.cell rfl) λ _ A=>qs A rfl (dle (n := r.parts.length) (wn rfl) (A.ev rfl) slc103 (hTb.of hmem).1.form λ _ A=>?_))⟩
   rcases eb_ (((r.parts.length : Nat) : Int) == 0) with hb149 | hb149
   ·skip
    have hq150 := eq_of_beq hb149
    refine B2 A rfl (bq hb149) λ A=>qt_<|ct_ A rfl<|sw_<|Z 3 A rfl λ A=>qt_<|we_<|tr_<|ret2 (x := (.string (S (nameR lg r i.size)))) (y := (J 0)) rfl A rfl rfl ?_
    have hq159 : prL lg i lb = (nameR lg r i.size, 0) := by unfold prL; simp only [hr, hb36, hb99, hb115, hb149, if_true, Bool.false_eq_true, if_false]
    exact ⟨by rw [hq159], b138⟩
   have hq160 := ne_of_beq hb149
   refine B2 A rfl (bq hb149) λ A=>qt_<|cf_ A rfl<|wk_<|tn_<|sw_<|F1 A rfl fo105_2 λ A=>qs A rfl (dld (v := r.pv) (wn rfl) (A.ev rfl) one103 (m137.cell rfl) λ _ A=>qs A rfl (dle (n := r.parts.length) (wn rfl) (A.ev rfl) slc103 (hTb.of hmem).1.form λ _ A=>qs A rfl (d_makeStr (n := r.parts.length) (wn rfl) (A.ev rfl) (A.ev rfl) elm76 zst9 (by omega) (by decide) λ g169 w170 eg171 hG172 (m173 : Blk w170 g169 (strA (List.replicate r.parts.length [])) 9)=>?_)))
   have ge174 : w.heap.size ≤ g169 := eg171 ▸ b138.size
   have n175 := nn_ eg171 m135
   have n176 := nn_ eg171 m136
   have n177 := nn_ eg171 m137
   have m178 := m135.grow hG172
   have m179 := m136.grow hG172
   have m180 := m137.grow hG172
   have b181 := bls b138 hG172
   intro _ A
   refine Z 1 A rfl λ A=>qt_<|ws_<|sw_<|F1 A rfl fo105_2 λ A=>qs A rfl (dld (v := r.pv) (wn rfl) (A.ev rfl) one103 (m180.cell rfl) λ _ A=>qs A rfl (dle (n := r.parts.length) (wn rfl) (A.ev rfl) slc103 (hTb.of hmem).1.form λ _ A=>Z 1 A rfl @λ a192 A=>qe_ ?_))
   have A : St 68 [(2, (.string (S lb))), (3, (.pointer (some ⟨g3, 0, none⟩))), (4, (.pointer (some ⟨g12, 0, none⟩))), (6, (.string (S []))), (7, (J 0)), (10, (.string (S (nameR lg r i.size)))), (11, (.slice (some ⟨g169, 0, none⟩) r.parts.length r.parts.length)), (47, r.pv), (48, (J ((r.parts.length : Nat) : Int))), (49, (J 0))] a192 := A.sub rfl
   refine tn_<|wp_block ?_
   have m195 : Blk w170 g169 (strA (opsL (λ p => opndR lg p i lb) r.parts 0)) 9 := by rw [ops_zero]; exact m173
   refine loop_by (λ m197 a198 w199 => ∃ n196 : Nat, m197 = r.parts.length - n196 ∧ (n196 ≤ r.parts.length) ∧ St 68 [(2, (.string (S lb))), (3, (.pointer (some ⟨g3, 0, none⟩))), (4, (.pointer (some ⟨g12, 0, none⟩))), (6, (.string (S []))), (7, (J 0)), (10, (.string (S (nameR lg r i.size)))), (11, (.slice (some ⟨g169, 0, none⟩) r.parts.length r.parts.length)), (47, r.pv), (48, (J ((r.parts.length : Nat) : Int))), (49, (J ((n196 : Nat) : Int)))] a198 ∧ Below w.heap.size w w199 ∧ Blk w199 g3 (lgC lg) 56 ∧ Blk w199 g12 (insC i) 30 ∧ Blk w199 g68 (rwC r) 105 ∧ Blk w199 g169 (strA (opsL (λ p => opndR lg p i lb) r.parts n196)) 9) (r.parts.length - 0) ⟨0, rfl, (by omega), A.cut _ (fc (A.g 2 rfl) (fc (A.g 3 rfl) (fc (A.g 4 rfl) (fc (A.g 6 rfl) (fc (A.g 7 rfl) (fc (A.g 10 rfl) (fc (A.g 11 rfl) (fc (A.g 47 rfl) (fc (A.g 48 rfl) (fc ((A.g 49 rfl).trans (congrArg (Value.int .i64) (by omega))) fn_)))))))))), b181, m178, m179, m180, m195⟩ ?_
   rintro m197 a198 w199 ⟨n196, hm202, hc203, A, b201, m204, m205, m206, m207⟩
   refine sw_ ?_
   rcases eb_ (decide (((n196 : Nat) : Int) < ((r.parts.length : Nat) : Int))) with hb208 | hb208
   ·skip
    have hq209 := dt_ hb208
    refine B2 A rfl (bl hb208) λ A=>qt_<|ws_<|ct_ A rfl<|wk_<|tn_<|ws_<|wp_block<|sw_<|Z 1 A rfl λ A=>?_
    obtain ⟨y214, hy215⟩ : ∃ y214, r.parts[n196]? = some y214 := ⟨_, List.getElem?_eq_getElem (show n196 < r.parts.length by omega)⟩
    obtain ⟨b216, o217, lt218, hr219, hix220⟩ := ((hTb.of hmem).1.below b201).at hy215
    refine qs A rfl (dia (j := n196) (wn rfl) (A.ev rfl) (A.ev rfl) slc103 hix220 (get_lt hy215) λ _ A=>qs A rfl (dld (v := (J y214)) (wn rfl) (A.ev rfl) one109 (hr219 0 _ rfl) λ _ A=>Z 2 A rfl λ A=>qt_<|wr_<|Z 2 A rfl λ A=>qs A rfl (dlr (cs := (lgC lg)) (wn rfl) (A.ev rfl) row56 m204 λ _ A=>Z 1 A rfl λ A=>qs A rfl (dlr (cs := (insC i)) (wn rfl) (A.ev rfl) row30 m205 λ _ A=>Z 1 A rfl λ A=>C A rfl ent82 (operand_any lg y214 i lb w199 hi1 hi2 ho1 ho2 hrl hmk (hlc y214 (List.mem_of_getElem? hy215)) (hpred y214 (List.mem_of_getElem? hy215)) (hsucc y214 (List.mem_of_getElem? hy215)) (tab_keep htab b201)) ?_))))
    rintro e244 w241 ⟨he243, hG242⟩
    have m245 := m204.grow hG242
    have m246 := m205.grow hG242
    have m247 := m206.grow hG242
    have m248 := m207.grow hG242
    have hr249 := range_below hr219 hG242 (Nat.lt_of_lt_of_le lt218 b201.size)
    have b250 := bls b201 hG242
    refine ⟨(.string (S (opndR lg y214 i lb))), he243, λ _ A=>qs A rfl (dia (n := r.parts.length) (j := n196) (wn rfl) (A.ev rfl) (A.ev rfl) slc76 ⟨0, r.parts.length, rfl, rfl⟩ (by omega) λ _ A=>qs A rfl (dst_ (wn rfl) (A.ev rfl) (A.ev rfl) one9 rfl m248 (by rw [strA_size, ops_len (λ p => opndR lg p i lb) r.parts (by omega)]; omega) λ w255 hU256 m257=>?_))⟩
    rw [ops_set (f := (λ p => opndR lg p i lb)) hy215] at m257
    have m258 := m245.upd hU256 n175
    have m259 := m246.upd hU256 n176
    have m260 := m247.upd hU256 n177
    have hr261 := range_upd hr249 hU256 (Nat.ne_of_lt (Nat.lt_of_lt_of_le lt218 ge174))
    have b262 := hU256.below b250 ge174
    intro _ A
    refine qe_<|i_norm<|tn_<|wr_<|B2 A rfl (b_addE (n196 + 1) (by omega) (by omega)) λ A=>Z 1 A rfl λ A=>qt_ ?_
    exact ⟨r.parts.length - (n196 + 1), (by rw [hm202]; omega), n196 + 1, rfl, (by omega), A.sub rfl, b262, m258, m259, m260, m257⟩
   have hq269 := df_ hb208
   refine B2 A rfl (bl hb208) λ A=>qt_<|ws_<|cf_ A rfl<|wp_exit<|t_exit<|t_exit<|i_here<|tn_<|sw_<|Z 1 A rfl λ A=>B2 A rfl (b_sadd (l := nameR lg r i.size) (m := [32]) (by first | omega | (simp only [List.length_append, List.length_cons, List.length_nil]; omega))) λ A=>?_
   refine Z 1 A rfl λ A=>?_
   have hj278 : Sl strE 1 w199.heap.size w199 (.slice (some ⟨g169, 0, none⟩) r.parts.length r.parts.length) (r.parts.map (λ p => opndR lg p i lb)) := by
    have h := m207
    rw [ops_end (show n196 = r.parts.length by omega)] at h
    exact sl_strA h (by simp)
   have hj278 : Sl strE 1 w199.heap.size w199 (.slice (some ⟨g169, 0, none⟩) r.parts.length r.parts.length) (r.parts.map (λ p => opndR lg p i lb)) := by
    have h := m207
    rw [ops_end (show n196 = r.parts.length by omega)] at h
    exact sl_strA h (by simp)
   refine C A rfl ent83 (join_any (.slice (some ⟨g169, 0, none⟩) r.parts.length r.parts.length) (r.parts.map (λ p => opndR lg p i lb)) [44] w199 hj278 (maps_ne hb149) (by simp; omega) hjl) ?_
   rintro e282 w279 ⟨he281, hG280⟩
   have m283 := m204.grow hG280
   have m284 := m205.grow hG280
   have m285 := m206.grow hG280
   have m286 := m207.grow hG280
   have b287 := bls b201 hG280
   refine ⟨(.string (S (Lib.join (r.parts.map (λ p => opndR lg p i lb)) [44]))), he281, λ _ A=>B2 A rfl (b_sadd (l := nameR lg r i.size ++ [32]) (m := Lib.join (r.parts.map (λ p => opndR lg p i lb)) [44]) (by first | omega | (simp only [List.length_append, List.length_cons, List.length_nil]; omega))) λ A=>Z 2 A rfl λ A=>qt_<|we_<|ret2 (x := (.string (S (nameR lg r i.size ++ [32] ++ (Lib.join (r.parts.map (λ p => opndR lg p i lb)) [44]))))) (y := (J 0)) rfl A rfl rfl ?_⟩
   have hq296 : prL lg i lb = (nameR lg r i.size ++ [32] ++ (Lib.join (r.parts.map (λ p => opndR lg p i lb)) [44]), 0) := by unfold prL; simp only [hr, hb36, hb99, hb115, hb149, hb208, if_true, Bool.false_eq_true, if_false]
   exact ⟨by rw [hq296], b287⟩
  refine ⟨.bool false, he109.trans (ret_bool hb115), λ _ A=>Z 2 A rfl λ A=>qt_<|ct_ A rfl<|sw_<|Z 2 A rfl λ A=>qt_<|we_<|tr_<|ret2 (x := (.string (S []))) (y := (J 37)) rfl A rfl rfl ?_⟩
  have hq308 : prL lg i lb = ([], 37) := by unfold prL; simp only [hr, hb36, hb99, hb115, if_true, Bool.false_eq_true, if_false]
  exact ⟨by rw [hq308], b114⟩
 have hq309 := ne_of_beq hb99
 refine B2 A rfl (bq hb99) λ A=>Z 5 A rfl λ A=>qt_<|cf_ A rfl<|wk_<|tn_<|sw_<|qs A rfl (dlr (cs := (lgC lg)) (wn rfl) (A.ev rfl) row56 m84 λ _ A=>qs A rfl (dlr (cs := (rwC r)) (wn rfl) (A.ev rfl) row105 m83 λ _ A=>F1 A rfl fo30_8 λ A=>qs A rfl (dld (v := (J i.size)) (wn rfl) (A.ev rfl) one3 (m85.cell rfl) λ _ A=>C A rfl ent81 (nameof_any lg r i.size w81 hnl hll m0 (cell_keep hm b86)) ?_)))
 rintro e333 w330 ⟨he332, hG331⟩
 have m334 := m84.grow hG331
 have m335 := m85.grow hG331
 have m336 := m83.grow hG331
 have b337 := bls b86 hG331
 refine ⟨(.string (S (nameR lg r i.size))), he332, λ _ A=>Z 1 A rfl λ A=>qt_<|ws_<|sw_<|F1 A rfl fo105_2 λ A=>qs A rfl (dld (v := r.pv) (wn rfl) (A.ev rfl) one103 (m336.cell rfl) λ _ A=>qs A rfl (dle (n := r.parts.length) (wn rfl) (A.ev rfl) slc103 (hTb.of hmem).1.form λ _ A=>?_))⟩
 rcases eb_ (((r.parts.length : Nat) : Int) == 0) with hb348 | hb348
 ·skip
  have hq349 := eq_of_beq hb348
  refine B2 A rfl (bq hb348) λ A=>qt_<|ct_ A rfl<|sw_<|Z 3 A rfl λ A=>qt_<|we_<|tr_<|ret2 (x := (.string (S (nameR lg r i.size)))) (y := (J 0)) rfl A rfl rfl ?_
  have hq358 : prL lg i lb = (nameR lg r i.size, 0) := by unfold prL; simp only [hr, hb36, hb99, hb348, if_true, Bool.false_eq_true, if_false]
  exact ⟨by rw [hq358], b337⟩
 have hq359 := ne_of_beq hb348
 refine B2 A rfl (bq hb348) λ A=>qt_<|cf_ A rfl<|wk_<|tn_<|sw_<|F1 A rfl fo105_2 λ A=>qs A rfl (dld (v := r.pv) (wn rfl) (A.ev rfl) one103 (m336.cell rfl) λ _ A=>qs A rfl (dle (n := r.parts.length) (wn rfl) (A.ev rfl) slc103 (hTb.of hmem).1.form λ _ A=>qs A rfl (d_makeStr (n := r.parts.length) (wn rfl) (A.ev rfl) (A.ev rfl) elm76 zst9 (by omega) (by decide) λ g368 w369 eg370 hG371 (m372 : Blk w369 g368 (strA (List.replicate r.parts.length [])) 9)=>?_)))
 have ge373 : w.heap.size ≤ g368 := eg370 ▸ b337.size
 have n374 := nn_ eg370 m334
 have n375 := nn_ eg370 m335
 have n376 := nn_ eg370 m336
 have m377 := m334.grow hG371
 have m378 := m335.grow hG371
 have m379 := m336.grow hG371
 have b380 := bls b337 hG371
 intro _ A
 refine Z 1 A rfl λ A=>qt_<|ws_<|sw_<|F1 A rfl fo105_2 λ A=>qs A rfl (dld (v := r.pv) (wn rfl) (A.ev rfl) one103 (m379.cell rfl) λ _ A=>qs A rfl (dle (n := r.parts.length) (wn rfl) (A.ev rfl) slc103 (hTb.of hmem).1.form λ _ A=>Z 1 A rfl @λ a391 A=>qe_ ?_))
 have A : St 68 [(2, (.string (S lb))), (3, (.pointer (some ⟨g3, 0, none⟩))), (4, (.pointer (some ⟨g12, 0, none⟩))), (6, (.string (S []))), (7, (J 0)), (10, (.string (S (nameR lg r i.size)))), (11, (.slice (some ⟨g368, 0, none⟩) r.parts.length r.parts.length)), (47, r.pv), (48, (J ((r.parts.length : Nat) : Int))), (49, (J 0))] a391 := A.sub rfl
 refine tn_<|wp_block ?_
 have m394 : Blk w369 g368 (strA (opsL (λ p => opndR lg p i lb) r.parts 0)) 9 := by rw [ops_zero]; exact m372
 refine loop_by (λ m396 a397 w398 => ∃ n395 : Nat, m396 = r.parts.length - n395 ∧ (n395 ≤ r.parts.length) ∧ St 68 [(2, (.string (S lb))), (3, (.pointer (some ⟨g3, 0, none⟩))), (4, (.pointer (some ⟨g12, 0, none⟩))), (6, (.string (S []))), (7, (J 0)), (10, (.string (S (nameR lg r i.size)))), (11, (.slice (some ⟨g368, 0, none⟩) r.parts.length r.parts.length)), (47, r.pv), (48, (J ((r.parts.length : Nat) : Int))), (49, (J ((n395 : Nat) : Int)))] a397 ∧ Below w.heap.size w w398 ∧ Blk w398 g3 (lgC lg) 56 ∧ Blk w398 g12 (insC i) 30 ∧ Blk w398 g68 (rwC r) 105 ∧ Blk w398 g368 (strA (opsL (λ p => opndR lg p i lb) r.parts n395)) 9) (r.parts.length - 0) ⟨0, rfl, (by omega), A.cut _ (fc (A.g 2 rfl) (fc (A.g 3 rfl) (fc (A.g 4 rfl) (fc (A.g 6 rfl) (fc (A.g 7 rfl) (fc (A.g 10 rfl) (fc (A.g 11 rfl) (fc (A.g 47 rfl) (fc (A.g 48 rfl) (fc ((A.g 49 rfl).trans (congrArg (Value.int .i64) (by omega))) fn_)))))))))), b380, m377, m378, m379, m394⟩ ?_
 rintro m396 a397 w398 ⟨n395, hm401, hc402, A, b400, m403, m404, m405, m406⟩
 refine sw_ ?_
 rcases eb_ (decide (((n395 : Nat) : Int) < ((r.parts.length : Nat) : Int))) with hb407 | hb407
 ·skip
  have hq408 := dt_ hb407
  refine B2 A rfl (bl hb407) λ A=>qt_<|ws_<|ct_ A rfl<|wk_<|tn_<|ws_<|wp_block<|sw_<|Z 1 A rfl λ A=>?_
  obtain ⟨y413, hy414⟩ : ∃ y413, r.parts[n395]? = some y413 := ⟨_, List.getElem?_eq_getElem (show n395 < r.parts.length by omega)⟩
  obtain ⟨b415, o416, lt417, hr418, hix419⟩ := ((hTb.of hmem).1.below b400).at hy414
  refine qs A rfl (dia (j := n395) (wn rfl) (A.ev rfl) (A.ev rfl) slc103 hix419 (get_lt hy414) λ _ A=>qs A rfl (dld (v := (J y413)) (wn rfl) (A.ev rfl) one109 (hr418 0 _ rfl) λ _ A=>Z 2 A rfl λ A=>qt_<|wr_<|Z 2 A rfl λ A=>qs A rfl (dlr (cs := (lgC lg)) (wn rfl) (A.ev rfl) row56 m403 λ _ A=>Z 1 A rfl λ A=>qs A rfl (dlr (cs := (insC i)) (wn rfl) (A.ev rfl) row30 m404 λ _ A=>Z 1 A rfl λ A=>C A rfl ent82 (operand_any lg y413 i lb w398 hi1 hi2 ho1 ho2 hrl hmk (hlc y413 (List.mem_of_getElem? hy414)) (hpred y413 (List.mem_of_getElem? hy414)) (hsucc y413 (List.mem_of_getElem? hy414)) (tab_keep htab b400)) ?_))))
  rintro e443 w440 ⟨he442, hG441⟩
  have m444 := m403.grow hG441
  have m445 := m404.grow hG441
  have m446 := m405.grow hG441
  have m447 := m406.grow hG441
  have hr448 := range_below hr418 hG441 (Nat.lt_of_lt_of_le lt417 b400.size)
  have b449 := bls b400 hG441
  refine ⟨(.string (S (opndR lg y413 i lb))), he442, λ _ A=>qs A rfl (dia (n := r.parts.length) (j := n395) (wn rfl) (A.ev rfl) (A.ev rfl) slc76 ⟨0, r.parts.length, rfl, rfl⟩ (by omega) λ _ A=>qs A rfl (dst_ (wn rfl) (A.ev rfl) (A.ev rfl) one9 rfl m447 (by rw [strA_size, ops_len (λ p => opndR lg p i lb) r.parts (by omega)]; omega) λ w454 hU455 m456=>?_))⟩
  rw [ops_set (f := (λ p => opndR lg p i lb)) hy414] at m456
  have m457 := m444.upd hU455 n374
  have m458 := m445.upd hU455 n375
  have m459 := m446.upd hU455 n376
  have hr460 := range_upd hr448 hU455 (Nat.ne_of_lt (Nat.lt_of_lt_of_le lt417 ge373))
  have b461 := hU455.below b449 ge373
  intro _ A
  refine qe_<|i_norm<|tn_<|wr_<|B2 A rfl (b_addE (n395 + 1) (by omega) (by omega)) λ A=>Z 1 A rfl λ A=>qt_ ?_
  exact ⟨r.parts.length - (n395 + 1), (by rw [hm401]; omega), n395 + 1, rfl, (by omega), A.sub rfl, b461, m457, m458, m459, m456⟩
 have hq468 := df_ hb407
 refine B2 A rfl (bl hb407) λ A=>qt_<|ws_<|cf_ A rfl<|wp_exit<|t_exit<|t_exit<|i_here<|tn_<|sw_<|Z 1 A rfl λ A=>B2 A rfl (b_sadd (l := nameR lg r i.size) (m := [32]) (by first | omega | (simp only [List.length_append, List.length_cons, List.length_nil]; omega))) λ A=>?_
 refine Z 1 A rfl λ A=>?_
 have hj477 : Sl strE 1 w398.heap.size w398 (.slice (some ⟨g368, 0, none⟩) r.parts.length r.parts.length) (r.parts.map (λ p => opndR lg p i lb)) := by
  have h := m406
  rw [ops_end (show n395 = r.parts.length by omega)] at h
  exact sl_strA h (by simp)
 have hj477 : Sl strE 1 w398.heap.size w398 (.slice (some ⟨g368, 0, none⟩) r.parts.length r.parts.length) (r.parts.map (λ p => opndR lg p i lb)) := by
  have h := m406
  rw [ops_end (show n395 = r.parts.length by omega)] at h
  exact sl_strA h (by simp)
 refine C A rfl ent83 (join_any (.slice (some ⟨g368, 0, none⟩) r.parts.length r.parts.length) (r.parts.map (λ p => opndR lg p i lb)) [44] w398 hj477 (maps_ne hb348) (by simp; omega) hjl) ?_
 rintro e481 w478 ⟨he480, hG479⟩
 have m482 := m403.grow hG479
 have m483 := m404.grow hG479
 have m484 := m405.grow hG479
 have m485 := m406.grow hG479
 have b486 := bls b400 hG479
 refine ⟨(.string (S (Lib.join (r.parts.map (λ p => opndR lg p i lb)) [44]))), he480, λ _ A=>B2 A rfl (b_sadd (l := nameR lg r i.size ++ [32]) (m := Lib.join (r.parts.map (λ p => opndR lg p i lb)) [44]) (by first | omega | (simp only [List.length_append, List.length_cons, List.length_nil]; omega))) λ A=>Z 2 A rfl λ A=>qt_<|we_<|ret2 (x := (.string (S (nameR lg r i.size ++ [32] ++ (Lib.join (r.parts.map (λ p => opndR lg p i lb)) [44]))))) (y := (J 0)) rfl A rfl rfl ?_⟩
 have hq495 : prL lg i lb = (nameR lg r i.size ++ [32] ++ (Lib.join (r.parts.map (λ p => opndR lg p i lb)) [44]), 0) := by unfold prL; simp only [hr, hb36, hb99, hb348, hb407, if_true, Bool.false_eq_true, if_false]
 exact ⟨by rw [hq495], b486⟩
end Go.Proofs.YtjkbjjlfijhbdaaGreatDoor
namespace Go.Proofs.YtjkbjjlfijhbdaaGreatDoor
open Go.Shelf Go.RowKit
set_option linter.defProp false
set_option maxHeartbeats 4000000
set_option maxRecDepth 100000
set_option linter.unusedVariables false
set_option linter.unusedSimpArgs false
def laysCut_ren : Go.Shelf.Ren := ⟨fun | 145 => 175 | 217 => 135 | 219 => 98 | 220 => 198 | 224 => 137 | 225 => 136 | 266 => 167 | 267 => 138 | 314 => 168 | n => n, fun | 3 => 3 | 4 => 4 | 5 => 5 | 9 => 9 | 46 => 160 | 51 => 176 | 59 => 184 | 146 => 177 | n => n, fun | 1 => 0 | n => n⟩
theorem laysCut : Go.Proofs.Lays.n145 Tryz.prog laysCut_ren := {
 mixed := by kernel_rfl
 f145 := Tryz.func175.trans (congrArg some (by kernel_rfl))
 f217 := Tryz.func135.trans (congrArg some (by kernel_rfl))
 f219 := Tryz.func98.trans (congrArg some (by kernel_rfl))
 f220 := Tryz.func198.trans (congrArg some (by kernel_rfl))
 f224 := Tryz.func137.trans (congrArg some (by kernel_rfl))
 f225 := Tryz.func136.trans (congrArg some (by kernel_rfl))
 f266 := Tryz.func167.trans (congrArg some (by kernel_rfl))
 f267 := Tryz.func138.trans (congrArg some (by kernel_rfl))
 f314 := Tryz.func168.trans (congrArg some (by kernel_rfl))
 t3 := Tryz.underlying3
 a3 := Tryz.isAgg3
 z3 := Tryz.sizeOf3
 v3 := Tryz.zeroValue3
 t4 := Tryz.underlying4
 a4 := Tryz.isAgg4
 z4 := Tryz.sizeOf4
 v4 := Tryz.zeroValue4
 t5 := Tryz.underlying5
 a5 := Tryz.isAgg5
 z5 := Tryz.sizeOf5
 v5 := Tryz.zeroValue5
 t9 := Tryz.underlying9
 a9 := Tryz.isAgg9
 z9 := Tryz.sizeOf9
 v9 := Tryz.zeroValue9
 t46 := Tryz.underlying160
 a46 := Tryz.isAgg160
 z46 := Tryz.sizeOf160
 v46 := Tryz.zeroValue160
 t51 := Tryz.underlying176
 a51 := Tryz.isAgg176
 z51 := Tryz.sizeOf176
 v51 := Tryz.zeroValue176
 t59 := Tryz.underlying184
 a59 := Tryz.isAgg184
 z59 := Tryz.sizeOf184
 v59 := Tryz.zeroValue184
 t146 := Tryz.underlying177
 a146 := Tryz.isAgg177
 z146 := Tryz.sizeOf177
 v146 := Tryz.zeroValue177
 g1 := by kernel_rfl }
theorem cut_any (l q : List UInt8) (m : Int) (w : World) (hl : l.length ≤ 1000000) (hm : w.cell? ⟨0, 0, none⟩ = some (.int .i64 m)) : Calls Tryz.prog 175 #[.string (S l), .string (S q)] w fun e w' => e = .returned (.tuple #[.string (S (Lib.cut l q).1), .string (S (Lib.cut l q).2.1), .bool (Lib.cut l q).2.2]) ∧ Grow w w' := by
 refine (Any.strings_Cut laysCut (S l) (S q) m w (by rw [S_size]; omega) hm).mono ?_
 rintro e w' ⟨rfl, k, rfl⟩
 exact ⟨by rw [S_data, S_data]; rfl, (Grow.refl w).drewN k⟩
end Go.Proofs.YtjkbjjlfijhbdaaGreatDoor
namespace Go.Proofs.YtjkbjjlfijhbdaaGreatDoor
open Go.RowKit
set_option linter.defProp false
set_option maxHeartbeats 4000000
set_option maxRecDepth 100000
set_option linter.unusedVariables false
set_option linter.unusedSimpArgs false
structure Ps where
 ins : Ins
 lab : List UInt8
 e : Int
 a : Int
 p : Nat
def rdP (g : Lg) (gc : Nat) (s : Ps) : Array Value := #[.string (S g.r0), .string (S g.r1), .string (S g.r2), .string (S g.r3), .string (S g.r4), .string (S g.r5), .string (S g.r6), .string (S g.r7), .string (S g.l0), .string (S g.l1), .string (S g.l2), .string (S g.l3), .string (S g.mrk), .string (S g.f0), .string (S g.f1), .string (S g.f2), g.rv,
 .pointer (some ⟨gc, 0, none⟩), .int .i64 s.ins.op, .int .i64 s.ins.dst, .int .i64 s.ins.a, .int .i64 s.ins.b, .int .i64 s.ins.imm, .int .i64 s.ins.loc, .int .i64 s.ins.off, .int .i64 s.ins.index, .int .i64 s.ins.size, .int .i64 s.ins.fn,
 .bool s.ins.acq, .bool s.ins.weak, .bool s.ins.rel, .int .i64 s.ins.pred, .int .i64 s.ins.succ, .int .i64 s.ins.to, .bool s.ins.zero, .string (S s.lab), .int .i64 s.e, .int .i64 s.a]
def atP (s : Ps) (q : Nat) : Ps := { s with p := q }
def setE (s : Ps) (x : Int) : Ps := { s with e := x }
def setAt (s : Ps) (x : Int) : Ps := { s with a := x }
def setLab (s : Ps) (x : List UInt8) : Ps := { s with lab := x }
def setDst (s : Ps) (x : Int) : Ps := { s with ins := { s.ins with dst := x } }
def setA (s : Ps) (x : Int) : Ps := { s with ins := { s.ins with a := x } }
def setB (s : Ps) (x : Int) : Ps := { s with ins := { s.ins with b := x } }
def setImm (s : Ps) (x : Int) : Ps := { s with ins := { s.ins with imm := x } }
def setLoc (s : Ps) (x : Int) : Ps := { s with ins := { s.ins with loc := x } }
def setOff (s : Ps) (x : Int) : Ps := { s with ins := { s.ins with off := x } }
def setIdx (s : Ps) (x : Int) : Ps := { s with ins := { s.ins with index := x } }
def setSize (s : Ps) (x : Int) : Ps := { s with ins := { s.ins with size := x } }
def setPred (s : Ps) (x : Int) : Ps := { s with ins := { s.ins with pred := x } }
def setSucc (s : Ps) (x : Int) : Ps := { s with ins := { s.ins with succ := x } }
def refP (L : List Tk) (e : Int) (s : Ps) : Ps := if (s.e == 0) = true then setAt (setE s (if decide (s.p < L.length) = true then e else 24)) (whereR L s.p) else s
def markP (L : List Tk) (m : List UInt8) (s : Ps) : Ps := if reads L m s.p = true then atP s (s.p + 1) else refP L 22 s
def knownP (L : List Tk) (ls : List (List UInt8)) (s : Ps) : Ps × Int := match L[s.p]? with
 | none => (refP L 22 s, -1)
 | some y => if (y.kind == 1) = true then (if decide (idxL ls y.text 0 < 0) = true then (refP L 21 s, -1) else (atP s (s.p + 1), idxL ls y.text 0)) else (refP L 22 s, -1)
def numP1 (L : List Tk) (p : Nat) : Option (Int × Nat) := match L[p]? with
 | none => none
 | some y => if (y.kind == 2) = true then some (y.n, p + 1) else if ((y.kind == 3) && eqL y.text [45]) = true then (match L[p + 1]? with
  | none => none
  | some z => if (z.kind == 2) = true then some (IntKind.wrap .i64 (-z.n), p + 2) else none) else none
def nbO (L : List Tk) (p : Nat) : Bool := (numP1 L p).isSome
def nbV (L : List Tk) (p : Nat) : Int := ((numP1 L p).getD (0, p)).1
def nbQ (L : List Tk) (p : Nat) : Nat := ((numP1 L p).getD (0, p)).2
def numP (L : List Tk) (s : Ps) : Ps × Int := if nbO L s.p = true then (atP s (nbQ L s.p), nbV L s.p) else (if reads L [45] s.p = true then (refP L 22 (atP s (s.p + 1)), 0) else (refP L 22 s, 0))
def isNumP (L : List Tk) (p : Nat) : Bool := match L[p]? with | some y => y.kind == 2 | none => false
def immP (g : Lg) (L : List Tk) (s : Ps) : Ps × Int := if eqL g.mrk [] = true then numP L s else numP L (markP L g.mrk s)
def fenP (g : Lg) (L : List Tk) (s : Ps) : Ps × Int := ((knownP L g.fens s).1, (knownP L g.fens s).2 + 1)
def idxP (g : Lg) (L : List Tk) (s : Ps) : Ps := setIdx (knownP L g.regs s).1 (knownP L g.regs s).2
def offP (g : Lg) (L : List Tk) (s : Ps) : Ps := if reads L [43] s.p = true then idxP g L (atP s (s.p + 1)) else s
def numOff (g : Lg) (L : List Tk) (s : Ps) : Ps := if isNumP L s.p = true then offP g L (setOff (atP s (nbQ L s.p)) (nbV L s.p)) else idxP g L s
def plusP (g : Lg) (L : List Tk) (s : Ps) : Ps := if reads L [43] s.p = true then numOff g L (atP s (s.p + 1)) else s
def mem0P (L : List Tk) (s : Ps) : Ps := setIdx (setLoc (knownP L locsX (markP L [91] s)).1 (knownP L locsX (markP L [91] s)).2) (-1)
def memP (g : Lg) (L : List Tk) (s : Ps) : Ps := markP L [93] (plusP g L (mem0P L s))
def labP (L : List Tk) (s : Ps) : Ps := match L[s.p]? with
 | some y => if (y.kind == 1) = true then setLab (atP s (s.p + 1)) y.text else setLab s []
 | none => setLab s []
def partP (g : Lg) (L : List Tk) (p : Int) (s : Ps) : Ps :=
 if (p == 1) = true then setDst (knownP L g.regs s).1 (knownP L g.regs s).2 else
 if (p == 4) = true then setDst (knownP L g.regs s).1 (knownP L g.regs s).2 else
 if (p == 2) = true then setA (knownP L g.regs s).1 (knownP L g.regs s).2 else
 if (p == 3) = true then setB (knownP L g.regs s).1 (knownP L g.regs s).2 else
 if (p == 5) = true then setImm (immP g L s).1 (immP g L s).2 else
 if (p == 6) = true then memP g L s else
 if (p == 7) = true then labP L s else
 if (p == 8) = true then setPred (fenP g L s).1 (fenP g L s).2 else
 if (p == 9) = true then setSucc (fenP g L s).1 (fenP g L s).2 else s
theorem isnum_o {L : List Tk} {p : Nat} (h : isNumP L p = true) : nbO L p = true := by
 unfold isNumP at h
 unfold nbO numP1
 cases hy : L[p]? with
 | none => rw [hy] at h; cases h
 | some y => rw [hy] at h; simp only [h, if_true]; rfl
theorem known_ge (L : List Tk) (ls : List (List UInt8)) (s : Ps) (hl : ls.length ≤ 1000) : -1 ≤ (knownP L ls s).2 ∧ (knownP L ls s).2 < 1000 := by
 unfold knownP
 split
 ·exact ⟨(by decide : (-1 : Int) ≤ -1), (by decide : (-1 : Int) < 1000)⟩
 ·split
  ·split
   ·exact ⟨(by decide : (-1 : Int) ≤ -1), (by decide : (-1 : Int) < 1000)⟩
   ·next y _ _ h =>
    have h1 := idx_ge ls y.text 0
    show -1 ≤ idxL ls y.text 0 ∧ idxL ls y.text 0 < 1000
    omega
  ·exact ⟨(by decide : (-1 : Int) ≤ -1), (by decide : (-1 : Int) < 1000)⟩
section
variable {P : Program} {ops : Array Oper} {a : Act} {w : World} {K : Value → World → Prop} {d : Option Tmp} {ty : TypeId} {pos : String} {af : Array Edge} {gd : Option (Nat × Bool)}
theorem d_sliceMid {t n e s g k : Nat} {x : Operand} (hw : Region.wanted { dst := d, op := .slice t x none none none, type := ty, pos := pos, after := af, guard := gd } (yielded ops a.tmps) = true) (hx : a.eval x = .pointer (some ⟨g, k, none⟩)) (ht : arrB P t n e s = true)
  (h : K (.slice (some ⟨g, k, none⟩) n n) w) : Does P ops { dst := d, op := .slice t x none none none, type := ty, pos := pos, after := af, guard := gd } a w K :=
 does_val hw (by
  have hu := (arr_facts ht).1
  have hl : P.arrayLen t = n := by simp [Program.arrayLen, hu]
  have he : P.elem t = e := by simp [Program.elem, hu]
  have hr := run_sliceAt_array_all (P := P) w t ⟨g, k, none⟩ (by rw [hl, he]; exact hu)
  rw [hl, he, run_size (arr_facts ht).2] at hr
  have hs : slicedAt ⟨g, k, none⟩ 0 n n s = .slice (some ⟨g, k, none⟩) n n := by
   unfold slicedAt; rw [Addr.add_mid, Nat.zero_mul, Nat.add_zero, ite_self, Nat.sub_zero]
  unfold execOp
  simp only [hx, Option.map_none, Sem.run_bind, hr, Result.andThen_ok, Sem.run_pure, hs]) h
end
theorem sl_mid {w : World} {g k n : Nat} {cells : Array Value} {t : TypeId} {l : List (List UInt8)} (h : Blk w g cells t) (hc : ∀ j y, l[j]? = some y → cells[k + j * 1]? = some (.string (S y))) (hn : l.length = n) : Sl strE 1 w.heap.size w (.slice (some ⟨g, k, none⟩) n n) l := by
 subst hn
 refine ⟨some ⟨g, k, none⟩, l.length, rfl, Nat.le_refl _, fun j x hx => ⟨g, k, rfl, h.lt, fun i u hu => ?_⟩⟩
 have hi : i = 0 := by have := get_lt hu; simp [strE] at this; exact this
 subst hi
 simp [strE] at hu
 subst hu
 exact h.cell (hc j x hx)
theorem rdP_regs {lg : Lg} {gc : Nat} {s : Ps} : ∀ (j : Nat) (y : List UInt8), lg.regs[j]? = some y → (rdP lg gc s)[0 + j * 1]? = some (.string (S y)) := fun j y h => by
 have : j < 8 := get_lt h
 have h8 : j = 0 ∨ j = 1 ∨ j = 2 ∨ j = 3 ∨ j = 4 ∨ j = 5 ∨ j = 6 ∨ j = 7 := by omega
 rcases h8 with rfl | rfl | rfl | rfl | rfl | rfl | rfl | rfl <;> (simp [Lg.regs] at h; subst h; rfl)
theorem rdP_fens {lg : Lg} {gc : Nat} {s : Ps} : ∀ (j : Nat) (y : List UInt8), lg.fens[j]? = some y → (rdP lg gc s)[13 + j * 1]? = some (.string (S y)) := fun j y h => by
 have : j < 3 := get_lt h
 have h3 : j = 0 ∨ j = 1 ∨ j = 2 := by omega
 rcases h3 with rfl | rfl | rfl <;> (simp [Lg.fens] at h; subst h; rfl)
theorem ent106 : Ent Tryz.prog 106 = FF := by kernel_rfl
theorem ent144 : Ent Tryz.prog 144 = FF := by kernel_rfl
theorem ent145 : Ent Tryz.prog 145 = FF := by kernel_rfl
theorem ent179 : Ent Tryz.prog 179 = FF := by kernel_rfl
theorem ent180 : Ent Tryz.prog 180 = FF := by kernel_rfl
theorem ent182 : Ent Tryz.prog 182 = FF := by kernel_rfl
theorem ent59 : Ent Tryz.prog 59 = FF := by kernel_rfl
theorem ent62 : Ent Tryz.prog 62 = FF := by kernel_rfl
theorem fo86_0 : fieldOff Tryz.prog 86 0 = some 0 := by kernel_rfl
theorem fo86_1 : fieldOff Tryz.prog 86 1 = some 17 := by kernel_rfl
theorem fo86_4 : fieldOff Tryz.prog 86 4 = some 36 := by kernel_rfl
theorem fo86_5 : fieldOff Tryz.prog 86 5 = some 37 := by kernel_rfl
theorem one24 : oneB Tryz.prog 24 = true := by kernel_rfl
theorem one83 : oneB Tryz.prog 83 = true := by kernel_rfl
theorem at_any (Bd g p : Nat) (sv : Value) (L : List Tk) (w : World) (hB : Bd ≤ w.heap.size) (hBg : Bd ≤ g) (hb : Blk w g #[sv, J ((p : Nat) : Int)] 132) (hSl : Sl tokE 4 Bd w sv L) (hp : p ≤ L.length) (hL : L.length ≤ 1000000) : Calls Tryz.prog 59 #[.pointer (some ⟨g, 0, none⟩)] w λ e w' => e = .returned (J (whereR L p)) ∧ Grow w w' := by
 cases hy : L[p]? with
 | some y => rw [where_some hy]; exact at_some Bd g p sv L w hB hBg hb hSl hp hL y hy
 | none =>
  have hn : L.length ≤ p := by simpa using hy
  by_cases h0 : L.length = 0
  ·rw [where_nil hn h0]; exact at_nil Bd g p sv L w hB hBg hb hSl hp hL hn h0
  ·have hz := List.getElem?_eq_getElem (show L.length - 1 < L.length by omega)
   rw [where_end hn hz]; exact at_end Bd g p sv L w hB hBg hb hSl hp hL hn (by omega) _ hz
theorem take_y (Bd g p : Nat) (sv : Value) (L : List Tk) (mv : Value) (m : List UInt8) (w : World) (hB : Bd ≤ w.heap.size) (hBg : Bd ≤ g) (hb : Blk w g #[sv, J ((p : Nat) : Int)] 132) (hSl : Sl tokE 4 Bd w sv L) (hp : p ≤ L.length) (hL : L.length ≤ 1000000) (h : reads L m p = true) (hM : Sl strE 1 w.heap.size w mv [m]) (hMg : mv.ownBlock ≠ some g) : Calls Tryz.prog 145 #[.pointer (some ⟨g, 0, none⟩), mv] w λ e w' => e = .returned (.bool true) ∧ Mix [g] w w' ∧ Blk w' g #[sv, J ((p + 1 : Nat) : Int)] 132 := by
 obtain ⟨y, hy, hk, ht⟩ := reads_true h
 exact take_yes Bd g p sv L mv m w hB hBg hb hSl hp hL y hy hk ht hM hMg
theorem take_n (Bd g p : Nat) (sv : Value) (L : List Tk) (mv : Value) (m : List UInt8) (w : World) (hB : Bd ≤ w.heap.size) (hBg : Bd ≤ g) (hb : Blk w g #[sv, J ((p : Nat) : Int)] 132) (hSl : Sl tokE 4 Bd w sv L) (hp : p ≤ L.length) (hL : L.length ≤ 1000000) (h : reads L m p = false) (hM : Sl strE 1 w.heap.size w mv [m]) (hMg : mv.ownBlock ≠ some g) : Calls Tryz.prog 145 #[.pointer (some ⟨g, 0, none⟩), mv] w λ e w' => e = .returned (.bool false) ∧ Grow w w' := by
 rcases reads_false h with h1 | ⟨y, hy, h2 | ⟨h2, h3⟩⟩
 ·exact take_none Bd g p sv L mv m w hB hBg hb hSl hp hL h1 hM hMg
 ·exact take_num Bd g p sv L mv m w hB hBg hb hSl hp hL y hy h2 hM hMg
 ·exact take_other Bd g p sv L mv m w hB hBg hb hSl hp hL y hy h2 h3 hM hMg
theorem own_ne {b g o n c : Nat} (h : b ≠ g) : (Value.slice (some ⟨b, o, none⟩) n c).ownBlock ≠ some g := λ e => h (Option.some.inj e)
theorem numb_y (Bd g p : Nat) (sv : Value) (L : List Tk) (w : World) (hB : Bd ≤ w.heap.size) (hBg : Bd ≤ g) (hb : Blk w g #[sv, J ((p : Nat) : Int)] 132) (hSl : Sl tokE 4 Bd w sv L) (hp : p ≤ L.length) (hL : L.length ≤ 1000000) (h : nbO L p = true) : Calls Tryz.prog 182 #[.pointer (some ⟨g, 0, none⟩)] w λ e w' => e = .returned (.tuple #[J (nbV L p), .bool true]) ∧ Mix [g] w w' ∧ Blk w' g #[sv, J ((nbQ L p : Nat) : Int)] 132 := by
 unfold nbO at h
 unfold nbV nbQ
 cases hy : L[p]? with
 | none => unfold numP1 at h; rw [hy] at h; cases h
 | some y =>
  by_cases k2 : y.kind = 2
  ·have e : numP1 L p = some (y.n, p + 1) := by unfold numP1; rw [hy]; simp [k2]
   rw [e]; exact num_plain Bd g p sv L w hB hBg hb hSl hp hL y hy k2
  ·by_cases k3 : y.kind = 3 ∧ y.text = [45]
   ·cases hz : L[p + 1]? with
    | none => unfold numP1 at h; rw [hy] at h; simp [k3, hz, eqL_same] at h
    | some z =>
     by_cases kz : z.kind = 2
     ·have e : numP1 L p = some (IntKind.wrap .i64 (-z.n), p + 2) := by unfold numP1; rw [hy]; simp [k3, hz, kz, eqL_same]
      rw [e]; exact num_neg Bd g p sv L w hB hBg hb hSl hp hL y hy k3.1 k3.2 z hz kz
     ·unfold numP1 at h; rw [hy] at h; simp [k3, hz, kz, eqL_same] at h
   ·exfalso
    have : ((y.kind == 3) && eqL y.text [45]) = false := by
     by_cases k : y.kind = 3
     ·have : eqL y.text [45] = false := eqL_no λ e => k3 ⟨k, e⟩
      rw [this, Bool.and_false]
     ·simp [k]
    unfold numP1 at h; rw [hy] at h; simp [k2, this] at h
theorem numb_n (Bd g p : Nat) (sv : Value) (L : List Tk) (w : World) (hB : Bd ≤ w.heap.size) (hBg : Bd ≤ g) (hb : Blk w g #[sv, J ((p : Nat) : Int)] 132) (hSl : Sl tokE 4 Bd w sv L) (hp : p ≤ L.length) (hL : L.length ≤ 1000000) (h : nbO L p = false) : Calls Tryz.prog 182 #[.pointer (some ⟨g, 0, none⟩)] w λ e w' => e = .returned (.tuple #[J 0, .bool false]) ∧ Grow w w' := by
 unfold nbO at h
 cases hy : L[p]? with
 | none => exact num_none Bd g p sv L w hB hBg hb hSl hp hL (by simpa using hy)
 | some y =>
  by_cases k2 : y.kind = 2
  ·unfold numP1 at h; rw [hy] at h; simp [k2] at h
  ·by_cases k3 : y.kind = 3
   ·by_cases kt : y.text = [45]
    ·cases hz : L[p + 1]? with
     | none => exact num_neg_none Bd g p sv L w hB hBg hb hSl hp hL y hy k3 kt (by simpa using hz)
     | some z =>
      by_cases kz : z.kind = 2
      ·unfold numP1 at h; rw [hy] at h; simp [k3, kt, hz, kz, eqL_same] at h
      ·exact num_neg_no Bd g p sv L w hB hBg hb hSl hp hL y hy k3 kt z hz kz
    ·exact num_mark Bd g p sv L w hB hBg hb hSl hp hL y hy k3 kt
   ·exact num_no Bd g p sv L w hB hBg hb hSl hp hL y hy k3 k2
theorem nbQ_le {L : List Tk} {p : Nat} (h : nbO L p = true) : nbQ L p ≤ L.length := by
 unfold nbO numP1 at h
 unfold nbQ numP1
 cases hy : L[p]? with
 | none => rw [hy] at h; cases h
 | some y =>
  have hl := get_lt hy
  rw [hy] at h
  simp only at h ⊢
  split
  ·exact hl
  ·next k2 =>
   rw [if_neg k2] at h
   split
   ·next k3 =>
    rw [if_pos k3] at h
    cases hz : L[p + 1]? with
    | none => rw [hz] at h; cases h
    | some z =>
     have hl2 := get_lt hz
     rw [hz] at h
     simp only at h ⊢
     split
     ·show p + 2 ≤ L.length; omega
     ·next kz => rw [if_neg kz] at h; cases h
   ·next k3 => rw [if_neg k3] at h; cases h
theorem prefuse_any (Bd gr gc : Nat) (lg : Lg) (s : Ps) (sv : Value) (L : List Tk) (ee : Int) (w : World) (hB : Bd ≤ w.heap.size) (hBr : Bd ≤ gr) (hBc : Bd ≤ gc) (hne : gr ≠ gc) (hbr : Blk w gr (rdP lg gc s) 86) (hbc : Blk w gc #[sv, J ((s.p : Nat) : Int)] 132) (hSl : Sl tokE 4 Bd w sv L) (hp : s.p ≤ L.length) (hL : L.length ≤ 1000000) : Calls Tryz.prog 62 #[.pointer (some ⟨gr, 0, none⟩), J ee] w λ e w' => e = .returned (.tuple #[]) ∧ Mix [gr, gc] w w' ∧ Blk w' gr (rdP lg gc (refP L ee s)) 86 ∧ Blk w' gc #[sv, J ((((refP L ee s)).p : Nat) : Int)] 132 ∧ ((refP L ee s)).p ≤ L.length := by
 have x0 : Mix [gr, gc] w w := Mix.refl _ _
 have b0 : Below Bd w w := Below.refl _ _
 refine enter (n := 27) Tryz.func62 rfl rfl (nb_ rfl) λ _ A=>ws_<|sw_<|Z 2 A rfl λ A=>F1 A rfl fo86_4 λ A=>qs A rfl (dld (v := (J s.e)) (wn rfl) (A.ev rfl) one24 (hbr.cell rfl) λ _ A=>?_)
 rcases eb_ (s.e == 0) with hb11 | hb11
 ·skip
  have hq12 := eq_of_beq hb11
  refine B2 A rfl (b_ne _ _ s.e 0 false _ (notof hb11)) λ A=>qt_<|cf_ A rfl<|wk_<|tn_<|ws_<|sw_<|Z 2 A rfl λ A=>F1 A rfl fo86_1 λ A=>qs A rfl (dld (v := (.pointer (some ⟨gc, 0, none⟩))) (wn rfl) (A.ev rfl) one83 (hbr.cell rfl) λ _ A=>C A rfl ent61 (left_any Bd gc s.p sv L w (nt_ hB b0.size) hBc hbc (hSl.below b0) hp hL) ?_)
  rintro e26 w23 ⟨he25, hG24⟩
  have m27 := hbr.grow hG24
  have m28 := hbc.grow hG24
  have b29 := blg b0 hG24 (nt_ hB b0.size)
  have x30 := x0.grow hG24
  refine ⟨(J (((L.length : Nat) : Int) - ((s.p : Nat) : Int))), he25, λ _ A=>?_⟩
  rcases eb_ (decide (s.p < L.length)) with hb33 | hb33
  ·skip
   have hq34 := dt_ hb33
   refine B2 A rfl (b_eq _ _ (((L.length : Nat) : Int) - ((s.p : Nat) : Int)) 0 false _ (beq_eq_false_iff_ne.2 (by omega))) λ A=>qt_<|cf_ A rfl<|wk_<|tn_<|wr_<|Z 5 A rfl λ A=>F1 A rfl fo86_1 λ A=>qs A rfl (dld (v := (.pointer (some ⟨gc, 0, none⟩))) (wn rfl) (A.ev rfl) one83 (m27.cell rfl) λ _ A=>C A rfl ent59 (at_any Bd gc s.p sv L w23 (nt_ hB b29.size) hBc m28 (hSl.below b29) hp hL) ?_)
   rintro e54 w51 ⟨he53, hG52⟩
   have m55 := m27.grow hG52
   have m56 := m28.grow hG52
   have b57 := blg b29 hG52 (nt_ hB b29.size)
   have x58 := x30.grow hG52
   refine ⟨(J (whereR L s.p)), he53, λ _ A=>Z 1 A rfl λ A=>F1 A rfl fo86_4 λ A=>qs A rfl (dst_ (wn rfl) (A.ev rfl) (A.ev rfl) one24 rfl m55 (nb_ rfl) λ w65 hU66 (m67 : Blk w65 gr (rdP lg gc (setE s ee)) 86)=>?_)⟩
   have m68 := m56.upd hU66 (Ne.symm hne)
   have b69 := hU66.below b57 hBr
   have x70 := x58.updIn hU66 (in2a gr gc)
   have m71 : Blk w65 gc #[sv, J (((setE s ee).p : Nat) : Int)] 132 := m68
   have hp72 : (setE s ee).p ≤ L.length := hp
   intro _ A
   refine Z 1 A rfl λ A=>F1 A rfl fo86_5 λ A=>qs A rfl (dst_ (wn rfl) (A.ev rfl) (A.ev rfl) one3 rfl m67 (nb_ rfl) λ w79 hU80 (m81 : Blk w79 gr (rdP lg gc (setAt (setE s ee) (whereR L s.p))) 86)=>?_)
   have m82 := m71.upd hU80 (Ne.symm hne)
   have b83 := hU80.below b69 hBr
   have x84 := x70.updIn hU80 (in2a gr gc)
   have m85 : Blk w79 gc #[sv, J (((setAt (setE s ee) (whereR L s.p)).p : Nat) : Int)] 132 := m82
   have hp86 : (setAt (setE s ee) (whereR L s.p)).p ≤ L.length := hp72
   intro _ A
   refine qe_<|end0 rfl A ?_
   have hq89 : refP L ee s = (setAt (setE s ee) (whereR L s.p)) := by unfold refP; simp only [hb11, hb33, if_true, Bool.false_eq_true, if_false]
   rw [hq89]
   exact ⟨rfl, x84, m81, m85, hp86⟩
  have hq90 := df_ hb33
  refine B2 A rfl (b_eq _ _ (((L.length : Nat) : Int) - ((s.p : Nat) : Int)) 0 true _ (beq_iff_eq.2 (by omega))) λ A=>qt_<|ct_ A rfl<|wr_<|Z 1 A rfl λ A=>qt_<|wr_<|Z 5 A rfl λ A=>F1 A rfl fo86_1 λ A=>qs A rfl (dld (v := (.pointer (some ⟨gc, 0, none⟩))) (wn rfl) (A.ev rfl) one83 (m27.cell rfl) λ _ A=>C A rfl ent59 (at_any Bd gc s.p sv L w23 (nt_ hB b29.size) hBc m28 (hSl.below b29) hp hL) ?_)
  rintro e112 w109 ⟨he111, hG110⟩
  have m113 := m27.grow hG110
  have m114 := m28.grow hG110
  have b115 := blg b29 hG110 (nt_ hB b29.size)
  have x116 := x30.grow hG110
  refine ⟨(J (whereR L s.p)), he111, λ _ A=>Z 1 A rfl λ A=>F1 A rfl fo86_4 λ A=>qs A rfl (dst_ (wn rfl) (A.ev rfl) (A.ev rfl) one24 rfl m113 (nb_ rfl) λ w123 hU124 (m125 : Blk w123 gr (rdP lg gc (setE s 24)) 86)=>?_)⟩
  have m126 := m114.upd hU124 (Ne.symm hne)
  have b127 := hU124.below b115 hBr
  have x128 := x116.updIn hU124 (in2a gr gc)
  have m129 : Blk w123 gc #[sv, J (((setE s 24).p : Nat) : Int)] 132 := m126
  have hp130 : (setE s 24).p ≤ L.length := hp
  intro _ A
  refine Z 1 A rfl λ A=>F1 A rfl fo86_5 λ A=>qs A rfl (dst_ (wn rfl) (A.ev rfl) (A.ev rfl) one3 rfl m125 (nb_ rfl) λ w137 hU138 (m139 : Blk w137 gr (rdP lg gc (setAt (setE s 24) (whereR L s.p))) 86)=>?_)
  have m140 := m129.upd hU138 (Ne.symm hne)
  have b141 := hU138.below b127 hBr
  have x142 := x128.updIn hU138 (in2a gr gc)
  have m143 : Blk w137 gc #[sv, J (((setAt (setE s 24) (whereR L s.p)).p : Nat) : Int)] 132 := m140
  have hp144 : (setAt (setE s 24) (whereR L s.p)).p ≤ L.length := hp130
  intro _ A
  refine qe_<|end0 rfl A ?_
  have hq147 : refP L ee s = (setAt (setE s 24) (whereR L s.p)) := by unfold refP; simp only [hb11, hb33, if_true, Bool.false_eq_true, if_false, List.getElem?_eq_none (l := L) (i := s.p) (by omega)]
  rw [hq147]
  exact ⟨rfl, x142, m139, m143, hp144⟩
 have hq148 := ne_of_beq hb11
 refine B2 A rfl (b_ne _ _ s.e 0 true _ (notof hb11)) λ A=>qt_<|ct_ A rfl<|we_<|tr_<|ret0 rfl A ?_
 have hq151 : refP L ee s = s := by unfold refP; simp only [hb11, if_true, Bool.false_eq_true, if_false]
 rw [hq151]
 exact ⟨rfl, x0, hbr, hbc, hp⟩
theorem pmark_any (Bd gr gc : Nat) (lg : Lg) (s : Ps) (sv : Value) (L : List Tk) (m : List UInt8) (w : World) (hB : Bd ≤ w.heap.size) (hBr : Bd ≤ gr) (hBc : Bd ≤ gc) (hne : gr ≠ gc) (hbr : Blk w gr (rdP lg gc s) 86) (hbc : Blk w gc #[sv, J ((s.p : Nat) : Int)] 132) (hSl : Sl tokE 4 Bd w sv L) (hp : s.p ≤ L.length) (hL : L.length ≤ 1000000) : Calls Tryz.prog 106 #[.pointer (some ⟨gr, 0, none⟩), .string (S m)] w λ e w' => e = .returned (.tuple #[]) ∧ Mix [gr, gc] w w' ∧ Blk w' gr (rdP lg gc (markP L m s)) 86 ∧ Blk w' gc #[sv, J ((((markP L m s)).p : Nat) : Int)] 132 ∧ ((markP L m s)).p ≤ L.length := by
 have x0 : Mix [gr, gc] w w := Mix.refl _ _
 have b0 : Below Bd w w := Below.refl _ _
 refine enter (n := 14) Tryz.func106 rfl rfl (nb_ rfl) λ _ A=>sw_<|Z 2 A rfl λ A=>F1 A rfl fo86_1 λ A=>qs A rfl (dld (v := (.pointer (some ⟨gc, 0, none⟩))) (wn rfl) (A.ev rfl) one83 (hbr.cell rfl) λ _ A=>Z 1 A rfl λ A=>qs A rfl (d_slice1 (wn rfl) (A.ev rfl) elm76 rfl (by decide) λ g13 w14 eg15 hG16 (m17 : Blk w14 g13 #[.string (S m)] 9)=>?_))
 have ge18 : Bd ≤ g13 := eg15 ▸ (nt_ hB b0.size)
 have n19 := nn_ eg15 hbr
 have n20 := nn_ eg15 hbc
 have gx21 : w.heap.size ≤ g13 := eg15 ▸ x0.size
 have m22 := hbr.grow hG16
 have m23 := hbc.grow hG16
 have b24 := blg b0 hG16 (nt_ hB b0.size)
 have x25 := x0.grow hG16
 intro _ A
 rcases eb_ (reads L m s.p) with hb28 | hb28
 ·skip
  have hrl := reads_lt hb28
  refine C A rfl ent145 (take_y Bd gc s.p sv L (.slice (some ⟨g13, 0, none⟩) 1 1) m w14 (nt_ hB b24.size) hBc m23 (hSl.below b24) hp hL hb28 (sl_lit (l := [m]) m17 rfl rfl) (own_ne (Ne.symm n20))) ?_
  rintro e33 w30 ⟨he32, hX35, m36⟩
  have m37 := m22.mix hX35 (nin1 hne)
  have m38 := m17.mix hX35 (nin1 (Ne.symm n20))
  have x39 := x25.mix hX35 (λ k hk hc => nin1 (two_b hc))
  have b40 := hX35.below b24 (nt_ hB b24.size) (lows1 hBc)
  refine ⟨(.bool true), he32, λ _ A=>?_⟩
  have m43 : Blk w30 gr (rdP lg gc (atP s (s.p + 1))) 86 := m37
  have m44 : Blk w30 gc #[sv, J (((atP s (s.p + 1)).p : Nat) : Int)] 132 := m36
  have hp45 : (atP s (s.p + 1)).p ≤ L.length := show s.p + 1 ≤ L.length by omega
  refine Z 1 A rfl λ A=>qt_<|cf_ A rfl<|wk_<|end0 rfl A ?_
  have hq48 : markP L m s = (atP s (s.p + 1)) := by unfold markP; simp only [hb28, if_true, Bool.false_eq_true, if_false]
  rw [hq48]
  exact ⟨rfl, x39, m43, m44, hp45⟩
 refine C A rfl ent145 (take_n Bd gc s.p sv L (.slice (some ⟨g13, 0, none⟩) 1 1) m w14 (nt_ hB b24.size) hBc m23 (hSl.below b24) hp hL hb28 (sl_lit (l := [m]) m17 rfl rfl) (own_ne (Ne.symm n20))) ?_
 rintro e53 w50 ⟨he52, hG51⟩
 have m54 := m22.grow hG51
 have m55 := m23.grow hG51
 have m56 := m17.grow hG51
 have b57 := blg b24 hG51 (nt_ hB b24.size)
 have x58 := x25.grow hG51
 refine ⟨(.bool false), he52, λ _ A=>Z 1 A rfl λ A=>qt_<|ct_ A rfl<|wr_<|Z 1 A rfl λ A=>C A rfl ent62 (prefuse_any Bd gr gc lg s sv L 22 w50 (nt_ hB b57.size) hBr hBc hne m54 m55 (hSl.below b57) hp hL) ?_⟩
 rintro e68 w65 ⟨he67, hX70, m71, m72, hp69⟩
 have m73 := m56.mix hX70 (nin2 (Ne.symm n19) (Ne.symm n20))
 have x74 := x58.mix hX70 (λ k hk hc => nin2 (two_a hc) (two_b hc))
 have b75 := hX70.below b57 (nt_ hB b57.size) (lows2 hBr hBc)
 refine ⟨(.tuple #[]), he67, λ _ A=>qe_<|end0 rfl A ?_⟩
 have hq78 : markP L m s = (refP L 22 s) := by unfold markP; simp only [hb28, if_true, Bool.false_eq_true, if_false]
 rw [hq78]
 exact ⟨rfl, x74, m71, m72, hp69⟩
theorem pknown_any (Bd gr gc : Nat) (lg : Lg) (s : Ps) (sv : Value) (L : List Tk) (nv : Value) (ls : List (List UInt8)) (w : World) (hB : Bd ≤ w.heap.size) (hBr : Bd ≤ gr) (hBc : Bd ≤ gc) (hne : gr ≠ gc) (hbr : Blk w gr (rdP lg gc s) 86) (hbc : Blk w gc #[sv, J ((s.p : Nat) : Int)] 132) (hSl : Sl tokE 4 Bd w sv L) (hp : s.p ≤ L.length) (hL : L.length ≤ 1000000) (hN : Sl strE 1 w.heap.size w nv ls) (hls : ls.length ≤ 1000) : Calls Tryz.prog 179 #[.pointer (some ⟨gr, 0, none⟩), nv] w λ e w' => e = .returned (J (knownP L ls s).2) ∧ Mix [gr, gc] w w' ∧ Blk w' gr (rdP lg gc (knownP L ls s).1) 86 ∧ Blk w' gc #[sv, J ((((knownP L ls s).1).p : Nat) : Int)] 132 ∧ ((knownP L ls s).1).p ≤ L.length := by
 have x0 : Mix [gr, gc] w w := Mix.refl _ _
 have x0b : Mix [] w w := Mix.refl _ _
 have b0 : Below Bd w w := Below.refl _ _
 refine enter (n := 35) Tryz.func179 rfl rfl (nb_ rfl) λ _ A=>sw_<|Z 1 A rfl λ A=>qt_<|sw_<|Z 2 A rfl λ A=>F1 A rfl fo86_1 λ A=>qs A rfl (dld (v := (.pointer (some ⟨gc, 0, none⟩))) (wn rfl) (A.ev rfl) one83 (hbr.cell rfl) λ _ A=>?_)
 rcases eb_ (decide (s.p < L.length)) with hb13 | hb13
 ·skip
  have hq14 := dt_ hb13
  obtain ⟨y15, hy16⟩ : ∃ y15, L[s.p]? = some y15 := ⟨_, List.getElem?_eq_getElem (show s.p < L.length by omega)⟩
  refine C A rfl ent104 (peek_some Bd gc s.p sv L w (nt_ hB b0.size) hBc hbc (hSl.below b0) hp hL y15 hy16) ?_
  rintro e20 w17 ⟨he19, hG18⟩
  have m21 := hbr.grow hG18
  have m22 := hbc.grow hG18
  have b23 := blg b0 hG18 (nt_ hB b0.size)
  have x24 := x0.grow hG18
  have x25 := x0b.grow hG18
  refine ⟨(.tuple #[(.agg (tokC y15)), (.bool true)]), he19, λ _ A=>Z 3 A rfl λ A=>qs A rfl (dal (wn rfl) zero28 λ g34 w35 eg36 hG37 (m38 : Blk w35 g34 #[J 0, .string (S []), J 0, J 0] 28)=>?_)⟩
  have ge39 : Bd ≤ g34 := eg36 ▸ (nt_ hB b23.size)
  have n40 := nn_ eg36 m21
  have n41 := nn_ eg36 m22
  have gx42 : w.heap.size ≤ g34 := eg36 ▸ x24.size
  have m43 := m21.grow hG37
  have m44 := m22.grow hG37
  have b45 := blg b23 hG37 (nt_ hB b23.size)
  have x46 := x24.grow hG37
  have x47 := x25.grow hG37
  intro _ A
  refine qs A rfl (dsr (wn rfl) (A.ev rfl) (A.ev rfl) row28 m38 rfl rfl λ w50 hU51 (m52 : Blk w50 g34 (tokC y15) 28)=>?_)
  have m53 := m43.upd hU51 n40
  have m54 := m44.upd hU51 n41
  have b55 := hU51.below b45 ge39
  have x56 := x46.updOut hU51 gx42
  have x57 := x47.updOut hU51 gx42
  intro _ A
  refine Z 1 A rfl λ A=>qt_<|ws_<|sw_<|F1 A rfl fo28_0 λ A=>qs A rfl (dld (v := (J y15.kind)) (wn rfl) (A.ev rfl) one3 (m52.cell rfl) λ _ A=>?_)
  rcases eb_ (y15.kind == 1) with hb66 | hb66
  ·skip
   have hq67 := eq_of_beq hb66
   refine B2 A rfl (b_ne _ _ y15.kind 1 false _ (notof hb66)) λ A=>qt_<|cf_ A rfl<|wk_<|tn_<|sw_<|Z 1 A rfl λ A=>F1 A rfl fo28_1 λ A=>qs A rfl (dld (v := (.string (S y15.text))) (wn rfl) (A.ev rfl) one9 (m52.cell rfl) λ _ A=>C A rfl ent92 (sindex_any nv ls y15.text w50 ((hN.below x57.grown).mono x57.size) (by omega)) ?_)
   rintro e79 w76 ⟨he78, hG77⟩
   have m80 := m53.grow hG77
   have m81 := m54.grow hG77
   have m82 := m52.grow hG77
   have b83 := blg b55 hG77 (nt_ hB b55.size)
   have x84 := x56.grow hG77
   have x85 := x57.grow hG77
   refine ⟨(J (idxL ls y15.text 0)), he78, λ _ A=>Z 1 A rfl λ A=>qt_<|ws_<|sw_<|Z 1 A rfl λ A=>?_⟩
   rcases eb_ (decide (idxL ls y15.text 0 < 0)) with hb92 | hb92
   ·skip
    have hq93 := dt_ hb92
    refine B2 A rfl (bl hb92) λ A=>qt_<|ct_ A rfl<|sw_<|Z 1 A rfl λ A=>C A rfl ent62 (prefuse_any Bd gr gc lg s sv L 21 w76 (nt_ hB b83.size) hBr hBc hne m80 m81 (hSl.below b83) hp hL) ?_
    rintro e101 w98 ⟨he100, hX103, m104, m105, hp102⟩
    have m106 := m82.mix hX103 (nin2 (Ne.symm n40) (Ne.symm n41))
    have x107 := x84.mix hX103 (λ k hk hc => nin2 (two_a hc) (two_b hc))
    have b108 := hX103.below b83 (nt_ hB b83.size) (lows2 hBr hBc)
    refine ⟨(.tuple #[]), he100, λ _ A=>qt_<|sw_<|Z 1 A rfl λ A=>qt_<|we_<|tr_<|ret1 rfl A (v := (J (-1))) rfl ?_⟩
    have hq113 : knownP L ls s = ((refP L 21 s), (-1)) := by unfold knownP; simp only [hb13, hb66, hb92, hy16, if_true, Bool.false_eq_true, if_false]
    rw [hq113]
    exact ⟨rfl, x107, m104, m105, hp102⟩
   have hq114 := df_ hb92
   refine B2 A rfl (bl hb92) λ A=>qt_<|cf_ A rfl<|wk_<|tn_<|sw_<|Z 2 A rfl λ A=>F1 A rfl fo86_1 λ A=>qs A rfl (dld (v := (.pointer (some ⟨gc, 0, none⟩))) (wn rfl) (A.ev rfl) one83 (m80.cell rfl) λ _ A=>C A rfl ent144 (next_some Bd gc s.p sv L w76 (nt_ hB b83.size) hBc m81 (hSl.below b83) hp hL y15 hy16) ?_)
   rintro e128 w125 ⟨he127, hX130, m131⟩
   have m132 := m80.mix hX130 (nin1 hne)
   have m133 := m82.mix hX130 (nin1 (Ne.symm n41))
   have x134 := x84.mix hX130 (λ k hk hc => nin1 (two_b hc))
   have b135 := hX130.below b83 (nt_ hB b83.size) (lows1 hBc)
   refine ⟨(.tuple #[(.agg (tokC y15)), (.bool true)]), he127, λ _ A=>?_⟩
   have m138 : Blk w125 gr (rdP lg gc (atP s (s.p + 1))) 86 := m132
   have m139 : Blk w125 gc #[sv, J (((atP s (s.p + 1)).p : Nat) : Int)] 132 := m131
   have hp140 : (atP s (s.p + 1)).p ≤ L.length := show s.p + 1 ≤ L.length by omega
   refine qt_<|sw_<|Z 2 A rfl λ A=>qt_<|we_<|ret1 rfl A (v := (J (idxL ls y15.text 0))) rfl ?_
   have hq145 : knownP L ls s = ((atP s (s.p + 1)), idxL ls y15.text 0) := by unfold knownP; simp only [hb13, hb66, hb92, hy16, if_true, Bool.false_eq_true, if_false]
   rw [hq145]
   exact ⟨rfl, x134, m138, m139, hp140⟩
  have hq146 := ne_of_beq hb66
  refine B2 A rfl (b_ne _ _ y15.kind 1 true _ (notof hb66)) λ A=>qt_<|ct_ A rfl<|sw_<|Z 1 A rfl λ A=>C A rfl ent62 (prefuse_any Bd gr gc lg s sv L 22 w50 (nt_ hB b55.size) hBr hBc hne m53 m54 (hSl.below b55) hp hL) ?_
  rintro e154 w151 ⟨he153, hX156, m157, m158, hp155⟩
  have m159 := m52.mix hX156 (nin2 (Ne.symm n40) (Ne.symm n41))
  have x160 := x56.mix hX156 (λ k hk hc => nin2 (two_a hc) (two_b hc))
  have b161 := hX156.below b55 (nt_ hB b55.size) (lows2 hBr hBc)
  refine ⟨(.tuple #[]), he153, λ _ A=>qt_<|sw_<|Z 1 A rfl λ A=>qt_<|we_<|tr_<|ret1 rfl A (v := (J (-1))) rfl ?_⟩
  have hq166 : knownP L ls s = ((refP L 22 s), (-1)) := by unfold knownP; simp only [hb13, hb66, hy16, if_true, Bool.false_eq_true, if_false]
  rw [hq166]
  exact ⟨rfl, x160, m157, m158, hp155⟩
 have hq167 := df_ hb13
 refine C A rfl ent104 (peek_none Bd gc s.p sv L w (nt_ hB b0.size) hBc hbc (hSl.below b0) hp hL (by omega)) ?_
 rintro e171 w168 ⟨he170, hG169⟩
 have m172 := hbr.grow hG169
 have m173 := hbc.grow hG169
 have b174 := blg b0 hG169 (nt_ hB b0.size)
 have x175 := x0.grow hG169
 have x176 := x0b.grow hG169
 refine ⟨(.tuple #[(.agg #[J 0, .string (S []), J 0, J 0]), (.bool false)]), he170, λ _ A=>Z 3 A rfl λ A=>qs A rfl (dal (wn rfl) zero28 λ g185 w186 eg187 hG188 (m189 : Blk w186 g185 #[J 0, .string (S []), J 0, J 0] 28)=>?_)⟩
 have ge190 : Bd ≤ g185 := eg187 ▸ (nt_ hB b174.size)
 have n191 := nn_ eg187 m172
 have n192 := nn_ eg187 m173
 have gx193 : w.heap.size ≤ g185 := eg187 ▸ x175.size
 have m194 := m172.grow hG188
 have m195 := m173.grow hG188
 have b196 := blg b174 hG188 (nt_ hB b174.size)
 have x197 := x175.grow hG188
 have x198 := x176.grow hG188
 intro _ A
 refine qs A rfl (dsr (wn rfl) (A.ev rfl) (A.ev rfl) row28 m189 rfl rfl λ w201 hU202 (m203 : Blk w201 g185 #[J 0, .string (S []), J 0, J 0] 28)=>?_)
 have m204 := m194.upd hU202 n191
 have m205 := m195.upd hU202 n192
 have b206 := hU202.below b196 ge190
 have x207 := x197.updOut hU202 gx193
 have x208 := x198.updOut hU202 gx193
 intro _ A
 refine Z 1 A rfl λ A=>qt_<|ws_<|sw_<|F1 A rfl fo28_0 λ A=>qs A rfl (dld (v := (J 0)) (wn rfl) (A.ev rfl) one3 (m203.cell rfl) λ _ A=>B2 A rfl (b_ne _ _ 0 1 true _ (notof rfl)) λ A=>qt_<|ct_ A rfl<|sw_ ?_)
 refine Z 1 A rfl λ A=>C A rfl ent62 (prefuse_any Bd gr gc lg s sv L 22 w201 (nt_ hB b206.size) hBr hBc hne m204 m205 (hSl.below b206) hp hL) ?_
 rintro e224 w221 ⟨he223, hX226, m227, m228, hp225⟩
 have m229 := m203.mix hX226 (nin2 (Ne.symm n191) (Ne.symm n192))
 have x230 := x207.mix hX226 (λ k hk hc => nin2 (two_a hc) (two_b hc))
 have b231 := hX226.below b206 (nt_ hB b206.size) (lows2 hBr hBc)
 refine ⟨(.tuple #[]), he223, λ _ A=>qt_<|sw_<|Z 1 A rfl λ A=>qt_<|we_<|tr_<|ret1 rfl A (v := (J (-1))) rfl ?_⟩
 have hq236 : knownP L ls s = ((refP L 22 s), (-1)) := by unfold knownP; simp only [hb13, if_true, Bool.false_eq_true, if_false, List.getElem?_eq_none (l := L) (i := s.p) (by omega)]
 rw [hq236]
 exact ⟨rfl, x230, m227, m228, hp225⟩
theorem pnum_any (Bd gr gc : Nat) (lg : Lg) (s : Ps) (sv : Value) (L : List Tk)  (w : World) (hB : Bd ≤ w.heap.size) (hBr : Bd ≤ gr) (hBc : Bd ≤ gc) (hne : gr ≠ gc) (hbr : Blk w gr (rdP lg gc s) 86) (hbc : Blk w gc #[sv, J ((s.p : Nat) : Int)] 132) (hSl : Sl tokE 4 Bd w sv L) (hp : s.p ≤ L.length) (hL : L.length ≤ 1000000) : Calls Tryz.prog 180 #[.pointer (some ⟨gr, 0, none⟩)] w λ e w' => e = .returned (J (numP L s).2) ∧ Mix [gr, gc] w w' ∧ Blk w' gr (rdP lg gc (numP L s).1) 86 ∧ Blk w' gc #[sv, J ((((numP L s).1).p : Nat) : Int)] 132 ∧ ((numP L s).1).p ≤ L.length := by
 have x0 : Mix [gr, gc] w w := Mix.refl _ _
 have b0 : Below Bd w w := Below.refl _ _
 refine enter (n := 24) Tryz.func180 rfl rfl (nb_ rfl) λ _ A=>sw_<|Z 1 A rfl λ A=>qt_<|sw_<|Z 2 A rfl λ A=>F1 A rfl fo86_1 λ A=>qs A rfl (dld (v := (.pointer (some ⟨gc, 0, none⟩))) (wn rfl) (A.ev rfl) one83 (hbr.cell rfl) λ _ A=>?_)
 rcases eb_ (nbO L s.p) with hb13 | hb13
 ·skip
  have hnq := nbQ_le hb13
  refine C A rfl ent182 (numb_y Bd gc s.p sv L w (nt_ hB b0.size) hBc hbc (hSl.below b0) hp hL hb13) ?_
  rintro e18 w15 ⟨he17, hX20, m21⟩
  have m22 := hbr.mix hX20 (nin1 hne)
  have x23 := x0.mix hX20 (λ k hk hc => nin1 (two_b hc))
  have b24 := hX20.below b0 (nt_ hB b0.size) (lows1 hBc)
  refine ⟨(.tuple #[(J (nbV L s.p)), (.bool true)]), he17, λ _ A=>?_⟩
  have m27 : Blk w15 gr (rdP lg gc (atP s (nbQ L s.p))) 86 := m22
  have m28 : Blk w15 gc #[sv, J (((atP s (nbQ L s.p)).p : Nat) : Int)] 132 := m21
  have hp29 : (atP s (nbQ L s.p)).p ≤ L.length := show nbQ L s.p ≤ L.length by omega
  refine Z 5 A rfl λ A=>qt_<|ws_<|sw_<|Z 2 A rfl λ A=>qt_<|cf_ A rfl<|wk_<|tn_<|sw_ ?_
  refine Z 2 A rfl λ A=>qt_<|we_<|ret1 rfl A (v := (J (nbV L s.p))) rfl ?_
  have hq48 : numP L s = ((atP s (nbQ L s.p)), nbV L s.p) := by unfold numP; simp only [hb13, if_true, Bool.false_eq_true, if_false]
  rw [hq48]
  exact ⟨rfl, x23, m27, m28, hp29⟩
 refine C A rfl ent182 (numb_n Bd gc s.p sv L w (nt_ hB b0.size) hBc hbc (hSl.below b0) hp hL hb13) ?_
 rintro e53 w50 ⟨he52, hG51⟩
 have m54 := hbr.grow hG51
 have m55 := hbc.grow hG51
 have b56 := blg b0 hG51 (nt_ hB b0.size)
 have x57 := x0.grow hG51
 refine ⟨(.tuple #[(J 0), (.bool false)]), he52, λ _ A=>Z 5 A rfl λ A=>qt_<|ws_<|sw_<|Z 2 A rfl λ A=>qt_<|ct_ A rfl<|sw_<|Z 2 A rfl λ A=>?_⟩
 refine F1 A rfl fo86_1 λ A=>qs A rfl (dld (v := (.pointer (some ⟨gc, 0, none⟩))) (wn rfl) (A.ev rfl) one83 (m54.cell rfl) λ _ A=>qs A rfl (d_slice1 (wn rfl) (A.ev rfl) elm76 rfl (by decide) λ g82 w83 eg84 hG85 (m86 : Blk w83 g82 #[.string (S [45])] 9)=>?_))
 have ge87 : Bd ≤ g82 := eg84 ▸ (nt_ hB b56.size)
 have n88 := nn_ eg84 m54
 have n89 := nn_ eg84 m55
 have gx90 : w.heap.size ≤ g82 := eg84 ▸ x57.size
 have m91 := m54.grow hG85
 have m92 := m55.grow hG85
 have b93 := blg b56 hG85 (nt_ hB b56.size)
 have x94 := x57.grow hG85
 intro _ A
 rcases eb_ (reads L [45] s.p) with hb97 | hb97
 ·skip
  have hrl := reads_lt hb97
  have hrl := reads_lt hb97
  refine C A rfl ent145 (take_y Bd gc s.p sv L (.slice (some ⟨g82, 0, none⟩) 1 1) [45] w83 (nt_ hB b93.size) hBc m92 (hSl.below b93) hp hL hb97 (sl_lit (l := [[45]]) m86 rfl rfl) (own_ne (Ne.symm n89))) ?_
  rintro e102 w99 ⟨he101, hX104, m105⟩
  have m106 := m91.mix hX104 (nin1 hne)
  have m107 := m86.mix hX104 (nin1 (Ne.symm n89))
  have x108 := x94.mix hX104 (λ k hk hc => nin1 (two_b hc))
  have b109 := hX104.below b93 (nt_ hB b93.size) (lows1 hBc)
  refine ⟨(.bool true), he101, λ _ A=>?_⟩
  have m112 : Blk w99 gr (rdP lg gc (atP s (s.p + 1))) 86 := m106
  have m113 : Blk w99 gc #[sv, J (((atP s (s.p + 1)).p : Nat) : Int)] 132 := m105
  have hp114 : (atP s (s.p + 1)).p ≤ L.length := show s.p + 1 ≤ L.length by omega
  refine qt_<|wr_<|Z 1 A rfl λ A=>C A rfl ent62 (prefuse_any Bd gr gc lg (atP s (s.p + 1)) sv L 22 w99 (nt_ hB b109.size) hBr hBc hne m112 m113 (hSl.below b109) hp114 hL) ?_
  rintro e120 w117 ⟨he119, hX122, m123, m124, hp121⟩
  have m125 := m107.mix hX122 (nin2 (Ne.symm n88) (Ne.symm n89))
  have x126 := x108.mix hX122 (λ k hk hc => nin2 (two_a hc) (two_b hc))
  have b127 := hX122.below b109 (nt_ hB b109.size) (lows2 hBr hBc)
  refine ⟨(.tuple #[]), he119, λ _ A=>qt_<|sw_<|Z 2 A rfl λ A=>qt_<|we_<|ret1 rfl A (v := (J 0)) rfl ?_⟩
  have hq134 : numP L s = ((refP L 22 (atP s (s.p + 1))), 0) := by unfold numP; simp only [hb13, hb97, if_true, Bool.false_eq_true, if_false]
  rw [hq134]
  exact ⟨rfl, x126, m123, m124, hp121⟩
 refine C A rfl ent145 (take_n Bd gc s.p sv L (.slice (some ⟨g82, 0, none⟩) 1 1) [45] w83 (nt_ hB b93.size) hBc m92 (hSl.below b93) hp hL hb97 (sl_lit (l := [[45]]) m86 rfl rfl) (own_ne (Ne.symm n89))) ?_
 rintro e139 w136 ⟨he138, hG137⟩
 have m140 := m91.grow hG137
 have m141 := m92.grow hG137
 have m142 := m86.grow hG137
 have b143 := blg b93 hG137 (nt_ hB b93.size)
 have x144 := x94.grow hG137
 refine ⟨(.bool false), he138, λ _ A=>qt_<|wr_<|Z 1 A rfl λ A=>C A rfl ent62 (prefuse_any Bd gr gc lg s sv L 22 w136 (nt_ hB b143.size) hBr hBc hne m140 m141 (hSl.below b143) hp hL) ?_⟩
 rintro e152 w149 ⟨he151, hX154, m155, m156, hp153⟩
 have m157 := m142.mix hX154 (nin2 (Ne.symm n88) (Ne.symm n89))
 have x158 := x144.mix hX154 (λ k hk hc => nin2 (two_a hc) (two_b hc))
 have b159 := hX154.below b143 (nt_ hB b143.size) (lows2 hBr hBc)
 refine ⟨(.tuple #[]), he151, λ _ A=>qt_<|sw_<|Z 2 A rfl λ A=>qt_<|we_<|ret1 rfl A (v := (J 0)) rfl ?_⟩
 have hq166 : numP L s = ((refP L 22 s), 0) := by unfold numP; simp only [hb13, hb97, if_true, Bool.false_eq_true, if_false]
 rw [hq166]
 exact ⟨rfl, x158, m155, m156, hp153⟩
theorem pisnum_any (Bd gr gc : Nat) (lg : Lg) (s : Ps) (sv : Value) (L : List Tk)  (w : World) (hB : Bd ≤ w.heap.size) (hBr : Bd ≤ gr) (hBc : Bd ≤ gc) (hne : gr ≠ gc) (hbr : Blk w gr (rdP lg gc s) 86) (hbc : Blk w gc #[sv, J ((s.p : Nat) : Int)] 132) (hSl : Sl tokE 4 Bd w sv L) (hp : s.p ≤ L.length) (hL : L.length ≤ 1000000) : Calls Tryz.prog 181 #[.pointer (some ⟨gr, 0, none⟩)] w λ e w' => e = .returned (.bool (isNumP L s.p)) ∧ Grow w w' := by
 have x0 : Mix [] w w := Mix.refl _ _
 have b0 : Below Bd w w := Below.refl _ _
 refine enter (n := 16) Tryz.func181 rfl rfl (nb_ rfl) λ _ A=>sw_<|Z 1 A rfl λ A=>qt_<|sw_<|Z 2 A rfl λ A=>F1 A rfl fo86_1 λ A=>qs A rfl (dld (v := (.pointer (some ⟨gc, 0, none⟩))) (wn rfl) (A.ev rfl) one83 (hbr.cell rfl) λ _ A=>?_)
 rcases eb_ (decide (s.p < L.length)) with hb13 | hb13
 ·skip
  have hq14 := dt_ hb13
  obtain ⟨y15, hy16⟩ : ∃ y15, L[s.p]? = some y15 := ⟨_, List.getElem?_eq_getElem (show s.p < L.length by omega)⟩
  refine C A rfl ent104 (peek_some Bd gc s.p sv L w (nt_ hB b0.size) hBc hbc (hSl.below b0) hp hL y15 hy16) ?_
  rintro e20 w17 ⟨he19, hG18⟩
  have m21 := hbr.grow hG18
  have m22 := hbc.grow hG18
  have b23 := blg b0 hG18 (nt_ hB b0.size)
  have x24 := x0.grow hG18
  refine ⟨(.tuple #[(.agg (tokC y15)), (.bool true)]), he19, λ _ A=>Z 3 A rfl λ A=>qs A rfl (dal (wn rfl) zero28 λ g33 w34 eg35 hG36 (m37 : Blk w34 g33 #[J 0, .string (S []), J 0, J 0] 28)=>?_)⟩
  have ge38 : Bd ≤ g33 := eg35 ▸ (nt_ hB b23.size)
  have n39 := nn_ eg35 m21
  have n40 := nn_ eg35 m22
  have gx41 : w.heap.size ≤ g33 := eg35 ▸ x24.size
  have m42 := m21.grow hG36
  have m43 := m22.grow hG36
  have b44 := blg b23 hG36 (nt_ hB b23.size)
  have x45 := x24.grow hG36
  intro _ A
  refine qs A rfl (dsr (wn rfl) (A.ev rfl) (A.ev rfl) row28 m37 rfl rfl λ w48 hU49 (m50 : Blk w48 g33 (tokC y15) 28)=>?_)
  have m51 := m42.upd hU49 n39
  have m52 := m43.upd hU49 n40
  have b53 := hU49.below b44 ge38
  have x54 := x45.updOut hU49 gx41
  intro _ A
  refine Z 1 A rfl λ A=>qt_<|sw_<|F1 A rfl fo28_0 λ A=>qs A rfl (dld (v := (J y15.kind)) (wn rfl) (A.ev rfl) one3 (m50.cell rfl) λ _ A=>?_)
  rcases eb_ (y15.kind == 2) with hb63 | hb63
  ·skip
   have hq64 := eq_of_beq hb63
   refine B2 A rfl (bq hb63) λ A=>Z 1 A rfl λ A=>qt_<|we_<|ret1 rfl A (v := (.bool true)) rfl ?_
   exact ⟨by unfold isNumP; simp only [hb13, hb63, hy16, if_true, Bool.false_eq_true, if_false], x54.grown⟩
  have hq69 := ne_of_beq hb63
  refine B2 A rfl (bq hb63) λ A=>Z 1 A rfl λ A=>qt_<|we_<|ret1 rfl A (v := (.bool false)) rfl ?_
  exact ⟨by unfold isNumP; simp only [hb13, hb63, hy16, if_true, Bool.false_eq_true, if_false], x54.grown⟩
 have hq74 := df_ hb13
 refine C A rfl ent104 (peek_none Bd gc s.p sv L w (nt_ hB b0.size) hBc hbc (hSl.below b0) hp hL (by omega)) ?_
 rintro e78 w75 ⟨he77, hG76⟩
 have m79 := hbr.grow hG76
 have m80 := hbc.grow hG76
 have b81 := blg b0 hG76 (nt_ hB b0.size)
 have x82 := x0.grow hG76
 refine ⟨(.tuple #[(.agg #[J 0, .string (S []), J 0, J 0]), (.bool false)]), he77, λ _ A=>Z 3 A rfl λ A=>qs A rfl (dal (wn rfl) zero28 λ g91 w92 eg93 hG94 (m95 : Blk w92 g91 #[J 0, .string (S []), J 0, J 0] 28)=>?_)⟩
 have ge96 : Bd ≤ g91 := eg93 ▸ (nt_ hB b81.size)
 have n97 := nn_ eg93 m79
 have n98 := nn_ eg93 m80
 have gx99 : w.heap.size ≤ g91 := eg93 ▸ x82.size
 have m100 := m79.grow hG94
 have m101 := m80.grow hG94
 have b102 := blg b81 hG94 (nt_ hB b81.size)
 have x103 := x82.grow hG94
 intro _ A
 refine qs A rfl (dsr (wn rfl) (A.ev rfl) (A.ev rfl) row28 m95 rfl rfl λ w106 hU107 (m108 : Blk w106 g91 #[J 0, .string (S []), J 0, J 0] 28)=>?_)
 have m109 := m100.upd hU107 n97
 have m110 := m101.upd hU107 n98
 have b111 := hU107.below b102 ge96
 have x112 := x103.updOut hU107 gx99
 intro _ A
 refine Z 1 A rfl λ A=>qt_<|sw_<|F1 A rfl fo28_0 λ A=>qs A rfl (dld (v := (J 0)) (wn rfl) (A.ev rfl) one3 (m108.cell rfl) λ _ A=>B2 A rfl (b_eq _ _ 0 2 false _ rfl) λ A=>Z 1 A rfl λ A=>qt_<|we_<|ret1 rfl A (v := (.bool false)) rfl ?_)
 exact ⟨by unfold isNumP; simp only [hb13, if_true, Bool.false_eq_true, if_false, List.getElem?_eq_none (l := L) (i := s.p) (by omega)], x112.grown⟩
theorem preg_any (Bd gr gc : Nat) (lg : Lg) (s : Ps) (sv : Value) (L : List Tk)  (w : World) (hB : Bd ≤ w.heap.size) (hBr : Bd ≤ gr) (hBc : Bd ≤ gc) (hne : gr ≠ gc) (hbr : Blk w gr (rdP lg gc s) 86) (hbc : Blk w gc #[sv, J ((s.p : Nat) : Int)] 132) (hSl : Sl tokE 4 Bd w sv L) (hp : s.p ≤ L.length) (hL : L.length ≤ 1000000) : Calls Tryz.prog 149 #[.pointer (some ⟨gr, 0, none⟩)] w λ e w' => e = .returned (J (knownP L lg.regs s).2) ∧ Mix [gr, gc] w w' ∧ Blk w' gr (rdP lg gc (knownP L lg.regs s).1) 86 ∧ Blk w' gc #[sv, J ((((knownP L lg.regs s).1).p : Nat) : Int)] 132 ∧ ((knownP L lg.regs s).1).p ≤ L.length := by
 have x0 : Mix [gr, gc] w w := Mix.refl _ _
 have b0 : Below Bd w w := Below.refl _ _
 refine enter (n := 10) Tryz.func149 rfl rfl (nb_ rfl) λ _ A=>sw_<|Z 1 A rfl λ A=>qt_<|sw_<|Z 3 A rfl λ A=>F1 A rfl fo86_0 λ A=>F1 A rfl fo56_0 λ A=>qs A rfl (d_sliceMid (wn rfl) (A.ev rfl) arr51 λ _ A=>C A rfl ent179 (pknown_any Bd gr gc lg s sv L (.slice (some ⟨gr, 0, none⟩) 8 8) lg.regs w (nt_ hB b0.size) hBr hBc hne hbr hbc (hSl.below b0) hp hL (sl_mid (l := lg.regs) hbr rdP_regs rfl) (nb_ rfl)) ?_)
 rintro e20 w17 ⟨he19, hX22, m23, m24, hp21⟩
 have x25 := x0.mix hX22 (λ k hk hc => nin2 (two_a hc) (two_b hc))
 have b26 := hX22.below b0 (nt_ hB b0.size) (lows2 hBr hBc)
 refine ⟨(J ((knownP L lg.regs s).2)), he19, λ _ A=>Z 1 A rfl λ A=>qt_<|we_<|ret1 rfl A (v := (J ((knownP L lg.regs s).2))) rfl ?_⟩
 exact ⟨rfl, x25, m23, m24, hp21⟩
theorem pfen_any (Bd gr gc : Nat) (lg : Lg) (s : Ps) (sv : Value) (L : List Tk)  (w : World) (hB : Bd ≤ w.heap.size) (hBr : Bd ≤ gr) (hBc : Bd ≤ gc) (hne : gr ≠ gc) (hbr : Blk w gr (rdP lg gc s) 86) (hbc : Blk w gc #[sv, J ((s.p : Nat) : Int)] 132) (hSl : Sl tokE 4 Bd w sv L) (hp : s.p ≤ L.length) (hL : L.length ≤ 1000000) : Calls Tryz.prog 153 #[.pointer (some ⟨gr, 0, none⟩)] w λ e w' => e = .returned (J (fenP lg L s).2) ∧ Mix [gr, gc] w w' ∧ Blk w' gr (rdP lg gc (fenP lg L s).1) 86 ∧ Blk w' gc #[sv, J ((((fenP lg L s).1).p : Nat) : Int)] 132 ∧ ((fenP lg L s).1).p ≤ L.length := by
 have x0 : Mix [gr, gc] w w := Mix.refl _ _
 have b0 : Below Bd w w := Below.refl _ _
 refine enter (n := 11) Tryz.func153 rfl rfl (nb_ rfl) λ _ A=>sw_<|Z 1 A rfl λ A=>qt_<|sw_<|Z 3 A rfl λ A=>F1 A rfl fo86_0 λ A=>F1 A rfl fo56_3 λ A=>qs A rfl (d_sliceMid (wn rfl) (A.ev rfl) arr53 λ _ A=>C A rfl ent179 (pknown_any Bd gr gc lg s sv L (.slice (some ⟨gr, 13, none⟩) 3 3) lg.fens w (nt_ hB b0.size) hBr hBc hne hbr hbc (hSl.below b0) hp hL (sl_mid (l := lg.fens) hbr rdP_fens rfl) (nb_ rfl)) ?_)
 rintro e20 w17 ⟨he19, hX22, m23, m24, hp21⟩
 have x25 := x0.mix hX22 (λ k hk hc => nin2 (two_a hc) (two_b hc))
 have b26 := hX22.below b0 (nt_ hB b0.size) (lows2 hBr hBc)
 refine ⟨(J ((knownP L lg.fens s).2)), he19, λ _ A=>?_⟩
 have hkg := known_ge L lg.fens s (by show 3 ≤ 1000; decide)
 refine B2 A rfl (b_add _ _ ((knownP L lg.fens s).2) 1 _ (by omega) (by omega)) λ A=>Z 1 A rfl λ A=>qt_<|we_<|ret1 rfl A (v := (J ((knownP L lg.fens s).2 + 1))) rfl ?_
 exact ⟨rfl, x25, m23, m24, hp21⟩
theorem pimm_any (Bd gr gc : Nat) (lg : Lg) (s : Ps) (sv : Value) (L : List Tk)  (w : World) (hB : Bd ≤ w.heap.size) (hBr : Bd ≤ gr) (hBc : Bd ≤ gc) (hne : gr ≠ gc) (hbr : Blk w gr (rdP lg gc s) 86) (hbc : Blk w gc #[sv, J ((s.p : Nat) : Int)] 132) (hSl : Sl tokE 4 Bd w sv L) (hp : s.p ≤ L.length) (hL : L.length ≤ 1000000) : Calls Tryz.prog 150 #[.pointer (some ⟨gr, 0, none⟩)] w λ e w' => e = .returned (J (immP lg L s).2) ∧ Mix [gr, gc] w w' ∧ Blk w' gr (rdP lg gc (immP lg L s).1) 86 ∧ Blk w' gc #[sv, J ((((immP lg L s).1).p : Nat) : Int)] 132 ∧ ((immP lg L s).1).p ≤ L.length := by
 have x0 : Mix [gr, gc] w w := Mix.refl _ _
 have b0 : Below Bd w w := Below.refl _ _
 refine enter (n := 18) Tryz.func150 rfl rfl (nb_ rfl) λ _ A=>sw_<|Z 1 A rfl λ A=>qt_<|ws_<|sw_<|Z 2 A rfl λ A=>F1 A rfl fo86_0 λ A=>F1 A rfl fo56_2 λ A=>qs A rfl (dld (v := (.string (S lg.mrk))) (wn rfl) (A.ev rfl) one9 (hbr.cell rfl) λ _ A=>?_)
 rcases eb_ (eqL lg.mrk []) with hb15 | hb15
 ·skip
  refine B2 A rfl (b_sne (l := lg.mrk) (m := []) (r := false) (notof hb15)) λ A=>qt_<|cf_ A rfl<|wk_<|tn_<|sw_<|Z 1 A rfl λ A=>C A rfl ent180 (pnum_any Bd gr gc lg s sv L w (nt_ hB b0.size) hBr hBc hne hbr hbc (hSl.below b0) hp hL) ?_
  rintro e24 w21 ⟨he23, hX26, m27, m28, hp25⟩
  have x29 := x0.mix hX26 (λ k hk hc => nin2 (two_a hc) (two_b hc))
  have b30 := hX26.below b0 (nt_ hB b0.size) (lows2 hBr hBc)
  refine ⟨(J ((numP L s).2)), he23, λ _ A=>Z 1 A rfl λ A=>qt_<|we_<|ret1 rfl A (v := (J ((numP L s).2))) rfl ?_⟩
  have hq35 : immP lg L s = numP L s := by unfold immP; simp only [hb15, if_true, Bool.false_eq_true, if_false]
  rw [hq35]
  exact ⟨rfl, x29, m27, m28, hp25⟩
 refine B2 A rfl (b_sne (l := lg.mrk) (m := []) (r := true) (notof hb15)) λ A=>qt_<|ct_ A rfl<|wr_<|Z 3 A rfl λ A=>F1 A rfl fo86_0 λ A=>F1 A rfl fo56_2 λ A=>qs A rfl (dld (v := (.string (S lg.mrk))) (wn rfl) (A.ev rfl) one9 (hbr.cell rfl) λ _ A=>C A rfl ent106 (pmark_any Bd gr gc lg s sv L lg.mrk w (nt_ hB b0.size) hBr hBc hne hbr hbc (hSl.below b0) hp hL) ?_)
 rintro e54 w51 ⟨he53, hX56, m57, m58, hp55⟩
 have x59 := x0.mix hX56 (λ k hk hc => nin2 (two_a hc) (two_b hc))
 have b60 := hX56.below b0 (nt_ hB b0.size) (lows2 hBr hBc)
 refine ⟨(.tuple #[]), he53, λ _ A=>qt_<|sw_<|Z 1 A rfl λ A=>C A rfl ent180 (pnum_any Bd gr gc lg (markP L lg.mrk s) sv L w51 (nt_ hB b60.size) hBr hBc hne m57 m58 (hSl.below b60) hp55 hL) ?_⟩
 rintro e68 w65 ⟨he67, hX70, m71, m72, hp69⟩
 have x73 := x59.mix hX70 (λ k hk hc => nin2 (two_a hc) (two_b hc))
 have b74 := hX70.below b60 (nt_ hB b60.size) (lows2 hBr hBc)
 refine ⟨(J ((numP L (markP L lg.mrk s)).2)), he67, λ _ A=>Z 1 A rfl λ A=>qt_<|we_<|ret1 rfl A (v := (J ((numP L (markP L lg.mrk s)).2))) rfl ?_⟩
 have hq79 : immP lg L s = numP L (markP L lg.mrk s) := by unfold immP; simp only [hb15, if_true, Bool.false_eq_true, if_false]
 rw [hq79]
 exact ⟨rfl, x73, m71, m72, hp69⟩
def sizedN (g : Lg) (r : Rw) : List (List UInt8) := g.lets.map fun y => (Lib.cut r.name [42]).1 ++ y ++ (Lib.cut r.name [42]).2.1
def sizeP (g : Lg) (r : Rw) (q : List UInt8) : Int × Bool := if (Lib.cut r.name [42]).2.2 = true then (if decide (idxL (sizedN g r) q 0 < 0) = true then (0, false) else (szI (idxL (sizedN g r) q 0), true)) else (0, eqL q r.name)
theorem sized_at {g : Lg} {r : Rw} {j : Nat} {y : List UInt8} (h : g.lets[j]? = some y) : (sizedN g r)[j]? = some ((Lib.cut r.name [42]).1 ++ y ++ (Lib.cut r.name [42]).2.1) := by
 unfold sizedN; rw [List.getElem?_map, h]; rfl
theorem sized_len (g : Lg) (r : Rw) : (sizedN g r).length = 4 := rfl
theorem size_hit {g : Lg} {r : Rw} {q : List UInt8} {j : Nat} (hc : (Lib.cut r.name [42]).2.2 = true) (h : idxL (sizedN g r) q 0 = (j : Int)) : sizeP g r q = (szI (j : Int), true) := by
 unfold sizeP
 rw [if_pos hc, h, if_neg (by rw [decide_eq_true_eq]; omega)]
theorem size_no {g : Lg} {r : Rw} {q : List UInt8} (hc : (Lib.cut r.name [42]).2.2 = true) (h : idxL (sizedN g r) q 0 = -1) : sizeP g r q = (0, false) := by
 unfold sizeP
 rw [if_pos hc, h]; rfl
theorem size_name {g : Lg} {r : Rw} {q : List UInt8} {b : Bool} (hc : (Lib.cut r.name [42]).2.2 = false) (h : eqL q r.name = b) : sizeP g r q = (0, b) := by
 unfold sizeP
 rw [if_neg (by simp [hc]), h]
def isMarkB (y : Tk) (m : List UInt8) : Bool := (y.kind == 3) && eqL y.text m
def beginsImmB (g : Lg) (y : Tk) : Bool := if eqL g.mrk [] = true then ((y.kind == 2) || isMarkB y [45]) else isMarkB y g.mrk
def beginsB (g : Lg) (p : Int) (y : Tk) : Bool := if (p == 5) = true then beginsImmB g y else if (p == 6) = true then isMarkB y [91] else (y.kind == 1)
def zTk : Tk := ⟨0, [], 0, 0⟩
def wordAt (L : List Tk) (p : Nat) : Tk := (L[p]?).getD zTk
end Go.Proofs.YtjkbjjlfijhbdaaGreatDoor
