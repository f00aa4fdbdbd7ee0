/- X86Prints: what it stands on, part 2. -/
import Derived.Test.YtjkbjjlfijhbdaaGreatDoorX86PrintsP1
import Derived.Shelf.Pu.ParseUintPublic10
import Derived.Ground.MpProg
import Derived.Lib.IndexMore
namespace Go.Proofs.YtjkbjjlfijhbdaaGreatDoor
open Go.RowKit
set_option linter.defProp false
set_option maxHeartbeats 4000000
set_option maxRecDepth 100000
set_option linter.unusedVariables false
set_option linter.unusedSimpArgs false
theorem conc179 : concB Tryz.prog 179 = true := by kernel_rfl
theorem ent169 : Ent Tryz.prog 169 = FF := by kernel_rfl
theorem knd122 : kindB Tryz.prog 122 .u64 = true := by kernel_rfl
theorem knd160 : kindB Tryz.prog 160 .u64 = true := by kernel_rfl
theorem knd3 : kindB Tryz.prog 3 .i64 = true := by kernel_rfl
theorem knd5 : kindB Tryz.prog 5 .u8 = true := by kernel_rfl
theorem one5 : oneB Tryz.prog 5 = true := by kernel_rfl
theorem slc143 : sliceB Tryz.prog 143 5 1 = true := by kernel_rfl
theorem lower_any (c : UInt8) (w : World) : Calls Tryz.prog 169 #[.int .u8 ((c.toNat : Nat) : Int)] w λ e w' => e = .returned (.int .u8 ((lwcB c : Nat) : Int)) ∧ Grow w w' := by
 have b0 := Grow.refl w
 refine enter (n := 5) Tryz.func169 rfl rfl (nb_ rfl) λ _ A=>sw_<|Z 1 A rfl λ A=>qt_<|sw_<|Z 1 A rfl λ A=>B2 A rfl (b_or8 c) λ A=>Z 1 A rfl λ A=>qt_<|we_ ?_
 refine ret1 rfl A (v := (.int .u8 ((lwcB c : Nat) : Int))) rfl ?_
 exact ⟨rfl, b0⟩
theorem parse10_in (l : List UInt8) (w : World) (hl : l.length ≤ 19) : Calls Tryz.prog 140 #[.string (S l), J 10, J 64] w λ e w' => e = .returned (puV 10 l) ∧ Grow w w' := by
 have b0 := Grow.refl w
 refine enter (n := 172) Tryz.func140 rfl rfl (nb_ rfl) λ _ A=>sw_<|Z 2 A rfl λ A=>qt_<|ws_<|sw_<|Z 1 A rfl λ A=>?_
 rcases eb_ (eqL l []) with hb9 | hb9
 ·skip
  refine B2 A rfl (b_seq (l := l) (m := []) (r := true) hb9) λ A=>qt_<|ct_ A rfl<|sw_<|qs A rfl (d_iface (wn rfl) (A.ev rfl) conc179 λ _ A=>Z 2 A rfl λ A=>qt_<|we_<|tr_<|ret2 (x := (.int .u64 0)) (y := (.iface 179 (J 2))) rfl A rfl rfl ?_)
  exact ⟨by rw [pu_none (val_nil (eqL_eq hb9))], b0⟩
 refine B2 A rfl (b_seq (l := l) (m := []) (r := false) hb9) λ A=>qt_<|cf_ A rfl<|wk_<|tn_<|sw_<|Z 1 A rfl λ A=>B2 A rfl (b_eq _ _ 10 0 false _ rfl) λ A=>Z 1 A rfl λ A=>qt_<|ws_ ?_
 refine wr_<|Z 2 A rfl λ A=>qt_<|ws_<|wp_block<|sw_<|Z 1 A rfl λ A=>B2 A rfl (b_le _ _ 2 10 true _ rfl) λ A=>Z 2 A rfl λ A=>B2 A rfl (b_le _ _ 10 36 true _ rfl) λ A=>Z 2 A rfl λ A=>qe_ ?_
 refine tn_<|ct_ A rfl<|wk_<|i_norm<|tn_<|ws_<|sw_<|Z 1 A rfl λ A=>B2 A rfl (b_eq _ _ 64 0 false _ rfl) λ A=>qt_<|cf_ A rfl<|ws_ ?_
 refine wr_<|Z 1 A rfl λ A=>B2 A rfl (b_lt _ _ 64 0 false _ rfl) λ A=>Z 2 A rfl λ A=>B2 A rfl (b_gt _ _ 64 64 false _ rfl) λ A=>Z 1 A rfl λ A=>qt_<|cf_ A rfl<|wk_<|tn_<|sw_<|Z 1 A rfl λ A=>?_
 refine qt_<|ws_<|sw_<|Z 1 A rfl λ A=>qt_<|wp_block<|sw_<|B2 A rfl (b_eq _ _ 10 10 true _ rfl) λ A=>Z 1 A rfl λ A=>qe_ ?_
 refine tn_<|ct_ A rfl<|wr_<|Z 1 A rfl λ A=>qe_<|i_norm<|tn_<|sw_<|Z 1 A rfl λ A=>qs A rfl (d_conv 64 (wn rfl) (A.ev rfl) knd3 knd160 rfl λ _ A=>qs A rfl (dbn (r := .int .u64 0) (wn rfl) (A.ev rfl) (A.ev rfl) ⟨rfl, rfl⟩ λ _ A=>B2 A rfl (b_subK (18446744073709551615) rfl) λ A=>Z 1 A rfl λ A=>?_))
 refine qt_<|sw_<|Z 1 A rfl λ A=>qt_<|sw_<|Z 1 A rfl λ A=>qt_<|ws_<|ws_ ?_
 refine wr_<|Z 1 A rfl λ A=>qs A rfl (d_bytes (wn rfl) (A.ev rfl) str9 slc143 knd5 (by omega) λ v88 w89 hG90 hS91=>?_)
 have b92 := bls b0 hG90
 intro _ A
 refine qs A rfl (dle (n := l.length) (wn rfl) (A.ev rfl) slc143 hS91.form λ _ A=>Z 1 A rfl λ A=>qt_<|wp_block ?_)
 have b99 : Below w89.heap.size w89 w89 := Below.refl _ _
 refine loop_by (λ m101 a102 w103 => ∃ j100 : Nat, m101 = l.length - j100 ∧ (j100 ≤ l.length ∧ allD 10 (List.take j100 l) = true) ∧ St 172 [(1, (J 10)), (6, (.int .u64 0)), (7, (.nilIface)), (8, (.bool false)), (9, (.string (S l))), (10, (.int .u64 1844674407370955162)), (11, (.int .u64 18446744073709551615)), (12, (.bool false)), (13, (.int .u64 ((nv 10 (List.take j100 l) : Nat) : Int))), (99, v88), (100, (J ((l.length : Nat) : Int))), (101, (J ((j100 : Nat) : Int)))] a102 ∧ Below w89.heap.size w89 w103) (l.length - 0) ⟨0, rfl, ⟨by omega, rfl⟩, A.cut _ (fc (A.g 1 rfl) (fc (A.g 6 rfl) (fc (A.g 7 rfl) (fc (A.g 8 rfl) (fc (A.g 9 rfl) (fc (A.g 10 rfl) (fc (A.g 11 rfl) (fc (A.g 12 rfl) (fc ((A.g 13 rfl).trans (congrArg (Value.int .u64) (rfl))) (fc (A.g 99 rfl) (fc (A.g 100 rfl) (fc ((A.g 101 rfl).trans (congrArg (Value.int .i64) (by omega))) fn_)))))))))))), b99⟩ ?_
 rintro m101 a102 w103 ⟨j100, hm106, hc107, A, b105⟩
 obtain ⟨hj, hall⟩ := hc107
 have hpow : j100 ≤ 18 → nv 10 (List.take j100 l) < 1000000000000000000 := nv_10 hall
 refine sw_ ?_
 rcases eb_ (decide (((j100 : Nat) : Int) < ((l.length : Nat) : Int))) with hb108 | hb108
 ·skip
  have hq109 := dt_ hb108
  refine B2 A rfl (bl hb108) λ A=>qt_<|ws_<|ct_ A rfl<|wk_<|tn_<|ws_<|wp_block<|sw_ ?_
  obtain ⟨y112, hy113⟩ : ∃ y112, l[j100]? = some y112 := ⟨_, List.getElem?_eq_getElem (show j100 < l.length by omega)⟩
  obtain ⟨b114, o115, lt116, hr117, hix118⟩ := (hS91.below b105).at hy113
  refine qs A rfl (dia (j := j100) (wn rfl) (A.ev rfl) (A.ev rfl) slc143 hix118 (get_lt hy113) λ _ A=>qs A rfl (dld (v := (.int .u8 ((y112.toNat : Nat) : Int))) (wn rfl) (A.ev rfl) one5 (hr117 0 _ rfl) λ _ A=>Z 1 A rfl λ A=>qt_<|sw_<|Z 1 A rfl λ A=>qt_<|ws_<|wp_block<|sw_ ?_))
  refine Z 1 A rfl λ A=>?_
  rcases eb_ (((y112.toNat : Nat) : Int) == 95) with hb129 | hb129
  ·skip
   have hq130 := eq_of_beq hb129
   refine B2 A rfl (bq hb129) λ A=>Z 4 A rfl λ A=>qt_<|cf_ A rfl<|sw_<|Z 1 A rfl λ A=>?_
   rcases eb_ (decide ((48 : Int) ≤ ((y112.toNat : Nat) : Int))) with hb143 | hb143
   ·skip
    have hq144 := dt_ hb143
    refine B2 A rfl (ble_ hb143) λ A=>Z 2 A rfl λ A=>?_
    rcases eb_ (decide (((y112.toNat : Nat) : Int) ≤ 57)) with hb151 | hb151
    ·skip
     have hq152 := dt_ hb151
     refine B2 A rfl (ble_ hb151) λ A=>Z 2 A rfl λ A=>qt_<|ct_ A rfl<|wr_<|Z 1 A rfl λ A=>B2 A rfl (b_subK (((y112.toNat : Nat) : Int) - 48) (wrap8 (by omega) (by omega))) λ A=>Z 1 A rfl λ A=>?_
     have hdv : dv y112 = y112.toNat - 48 := dv_dig (by omega) (by omega)
     refine qe_<|i_norm<|tn_<|ws_<|sw_<|Z 2 A rfl λ A=>qs A rfl (d_conv 10 (wn rfl) (A.ev rfl) knd3 knd5 rfl λ _ A=>?_)
     rcases eb_ (decide (((y112.toNat : Nat) : Int) - 48 ≥ 10)) with hb171 | hb171
     ·skip
      have hq172 := dt_ hb171
      refine B2 A rfl (bge_ hb171) λ A=>qt_<|ct_ A rfl<|sw_<|qs A rfl (d_iface (wn rfl) (A.ev rfl) conc179 λ _ A=>Z 2 A rfl λ A=>qt_<|we_<|tr_<|i_ret<|tr_ ?_)
      refine tr_<|i_ret<|tr_<|ret2 (x := (.int .u64 0)) (y := (.iface 179 (J 2))) rfl A rfl rfl ?_
      exact ⟨by rw [pu_none (val_bad hy113 (by first | omega | (rw [dv_bad (by omega) (by omega)]; omega)))], Grow.trans b92 b105⟩
     have hq181 := df_ hb171
     refine B2 A rfl (bge_ hb171) λ A=>qt_<|cf_ A rfl<|wk_<|tn_<|ws_<|sw_<|Z 2 A rfl λ A=>B2 A rfl (b_ge _ _ ((nv 10 (List.take j100 l) : Nat) : Int) 1844674407370955162 false _ (decide_eq_false (by omega))) λ A=>qt_<|cf_ A rfl ?_
     refine wk_<|tn_<|sw_<|Z 2 A rfl λ A=>qs A rfl (d_conv 10 (wn rfl) (A.ev rfl) knd3 knd122 rfl λ _ A=>B2 A rfl (b_mulK (((nv 10 (List.take j100 l) : Nat) : Int) * 10) (wrq64 (by omega) (by omega))) λ A=>Z 1 A rfl λ A=>qt_<|sw_<|Z 2 A rfl λ A=>qs A rfl (d_conv (((y112.toNat : Nat) : Int) - 48) (wn rfl) (A.ev rfl) knd5 knd122 (wrq64 (by omega) (by omega)) λ _ A=>?_))
     refine B2 A rfl (b_addK (((nv 10 (List.take j100 l) : Nat) : Int) * 10 + (((y112.toNat : Nat) : Int) - 48)) (wrq64 (by omega) (by omega))) λ A=>Z 1 A rfl @λ a208 A=>qe_ ?_
     have A : St 172 [(1, (J 10)), (6, (.int .u64 0)), (7, (.nilIface)), (8, (.bool false)), (9, (.string (S l))), (10, (.int .u64 1844674407370955162)), (11, (.int .u64 18446744073709551615)), (12, (.bool false)), (13, (.int .u64 (((nv 10 (List.take j100 l) : Nat) : Int) * 10))), (17, (.int .u64 (((nv 10 (List.take j100 l) : Nat) : Int) * 10 + (((y112.toNat : Nat) : Int) - 48)))), (99, v88), (100, (J ((l.length : Nat) : Int))), (101, (J ((j100 : Nat) : Int)))] a208 := A.sub rfl
     refine tn_<|ws_<|sw_<|Z 2 A rfl λ A=>B2 A rfl (b_lt _ _ (((nv 10 (List.take j100 l) : Nat) : Int) * 10 + (((y112.toNat : Nat) : Int) - 48)) (((nv 10 (List.take j100 l) : Nat) : Int) * 10) false _ (decide_eq_false (by omega))) λ A=>Z 3 A rfl λ A=>B2 A rfl (b_gt _ _ (((nv 10 (List.take j100 l) : Nat) : Int) * 10 + (((y112.toNat : Nat) : Int) - 48)) 18446744073709551615 false _ (decide_eq_false (by omega))) λ A=>Z 1 A rfl λ A=>qt_<|cf_ A rfl<|wk_<|tn_ ?_
     refine wr_<|Z 2 A rfl λ A=>qe_<|i_norm<|tn_<|wr_<|B2 A rfl (b_addE (j100 + 1) (by omega) (by omega)) λ A=>Z 1 A rfl λ A=>qt_ ?_
     have hgo := nv_go (bs := 10) hy113
     have hall2 := all_go hy113 hall (by omega)
     exact ⟨l.length - (j100 + 1), (by rw [hm106]; omega), j100 + 1, rfl, ⟨by omega, hall2⟩, A.cut _ (fc (A.g 1 rfl) (fc (A.g 6 rfl) (fc (A.g 7 rfl) (fc (A.g 8 rfl) (fc (A.g 9 rfl) (fc (A.g 10 rfl) (fc (A.g 11 rfl) (fc (A.g 12 rfl) (fc ((A.g 13 rfl).trans (congrArg (Value.int .u64) (by omega))) (fc (A.g 99 rfl) (fc (A.g 100 rfl) (fc (A.g 101 rfl) fn_)))))))))))), b105⟩
    have hq235 := df_ hb151
    refine B2 A rfl (ble_ hb151) λ A=>Z 2 A rfl λ A=>qt_<|cf_ A rfl<|sw_<|Z 1 A rfl λ A=>?_
    have hlw := lowB_le y112
    refine C A rfl ent169 (lower_any y112 w103) ?_
    rintro e247 w244 ⟨he246, hG245⟩
    have hr248 := range_below hr117 hG245 (Nat.lt_of_lt_of_le lt116 b105.size)
    have b249 := bls b105 hG245
    refine ⟨(.int .u8 ((lwcB y112 : Nat) : Int)), he246, λ _ A=>?_⟩
    rcases eb_ (decide ((97 : Int) ≤ ((lwcB y112 : Nat) : Int))) with hb252 | hb252
    ·skip
     have hq253 := dt_ hb252
     refine B2 A rfl (ble_ hb252) λ A=>Z 2 A rfl λ A=>?_
     have hlw := lowB_le y112
     refine C A rfl ent169 (lower_any y112 w244) ?_
     rintro e263 w260 ⟨he262, hG261⟩
     have hr264 := range_below hr248 hG261 (Nat.lt_of_lt_of_le lt116 b249.size)
     have b265 := bls b249 hG261
     refine ⟨(.int .u8 ((lwcB y112 : Nat) : Int)), he262, λ _ A=>?_⟩
     rcases eb_ (decide (((lwcB y112 : Nat) : Int) ≤ 122)) with hb268 | hb268
     ·skip
      have hq269 := dt_ hb268
      refine B2 A rfl (ble_ hb268) λ A=>Z 2 A rfl λ A=>qt_<|ct_ A rfl<|wr_<|Z 1 A rfl λ A=>?_
      have hlw := lowB_le y112
      refine C A rfl ent169 (lower_any y112 w260) ?_
      rintro e281 w278 ⟨he280, hG279⟩
      have hr282 := range_below hr264 hG279 (Nat.lt_of_lt_of_le lt116 b265.size)
      have b283 := bls b265 hG279
      refine ⟨(.int .u8 ((lwcB y112 : Nat) : Int)), he280, λ _ A=>B2 A rfl (b_subK (((lwcB y112 : Nat) : Int) - 97) (wrap8 (by omega) (by omega))) λ A=>B2 A rfl (b_addK (((lwcB y112 : Nat) : Int) - 97 + 10) (wrap8 (by omega) (by omega))) λ A=>Z 1 A rfl λ A=>?_⟩
      have hdv : dv y112 = lwcB y112 - 97 + 10 := dv_let (by omega) (by omega) (by omega)
      refine qe_<|i_norm<|tn_<|ws_<|sw_<|Z 2 A rfl λ A=>qs A rfl (d_conv 10 (wn rfl) (A.ev rfl) knd3 knd5 rfl λ _ A=>?_)
      rcases eb_ (decide (((lwcB y112 : Nat) : Int) - 97 + 10 ≥ 10)) with hb298 | hb298
      ·skip
       have hq299 := dt_ hb298
       refine B2 A rfl (bge_ hb298) @λ a300 A=>qe_ ?_
       have A : St 172 [(1, (J 10)), (6, (.int .u64 0)), (7, (.nilIface)), (8, (.bool false)), (9, (.string (S l))), (10, (.int .u64 1844674407370955162)), (11, (.int .u64 18446744073709551615)), (12, (.bool false)), (13, (.int .u64 ((nv 10 (List.take j100 l) : Nat) : Int))), (16, (.int .u8 (((lwcB y112 : Nat) : Int) - 97 + 10))), (99, v88), (100, (J ((l.length : Nat) : Int))), (101, (J ((j100 : Nat) : Int))), (137, (.bool true))] a300 := A.sub rfl
       refine tn_<|ct_ A rfl<|sw_<|qs A rfl (d_iface (wn rfl) (A.ev rfl) conc179 λ _ A=>Z 2 A rfl λ A=>qt_<|we_<|tr_<|i_ret<|tr_<|tr_<|i_ret ?_)
       refine tr_<|ret2 (x := (.int .u64 0)) (y := (.iface 179 (J 2))) rfl A rfl rfl ?_
       exact ⟨by rw [pu_none (val_bad hy113 (by first | omega | (rw [dv_bad (by omega) (by omega)]; omega)))], Grow.trans b92 b283⟩
      have hq309 := df_ hb298
      refine B2 A rfl (bge_ hb298) @λ a310 A=>qe_ ?_
      have A : St 172 [(1, (J 10)), (6, (.int .u64 0)), (7, (.nilIface)), (8, (.bool false)), (9, (.string (S l))), (10, (.int .u64 1844674407370955162)), (11, (.int .u64 18446744073709551615)), (12, (.bool false)), (13, (.int .u64 ((nv 10 (List.take j100 l) : Nat) : Int))), (16, (.int .u8 (((lwcB y112 : Nat) : Int) - 97 + 10))), (99, v88), (100, (J ((l.length : Nat) : Int))), (101, (J ((j100 : Nat) : Int))), (137, (.bool false))] a310 := A.sub rfl
      refine tn_<|cf_ A rfl<|wk_<|tn_<|ws_<|sw_<|Z 2 A rfl λ A=>B2 A rfl (b_ge _ _ ((nv 10 (List.take j100 l) : Nat) : Int) 1844674407370955162 false _ (decide_eq_false (by omega))) λ A=>qt_<|cf_ A rfl<|wk_<|tn_ ?_
      refine sw_<|Z 2 A rfl λ A=>qs A rfl (d_conv 10 (wn rfl) (A.ev rfl) knd3 knd122 rfl λ _ A=>B2 A rfl (b_mulK (((nv 10 (List.take j100 l) : Nat) : Int) * 10) (wrq64 (by omega) (by omega))) λ A=>Z 1 A rfl λ A=>qt_<|sw_<|Z 2 A rfl λ A=>qs A rfl (d_conv (((lwcB y112 : Nat) : Int) - 97 + 10) (wn rfl) (A.ev rfl) knd5 knd122 (wrq64 (by omega) (by omega)) λ _ A=>B2 A rfl (b_addK (((nv 10 (List.take j100 l) : Nat) : Int) * 10 + (((lwcB y112 : Nat) : Int) - 97 + 10)) (wrq64 (by omega) (by omega))) λ A=>Z 1 A rfl λ A=>?_))
      refine qt_<|ws_<|sw_<|Z 2 A rfl λ A=>B2 A rfl (b_lt _ _ (((nv 10 (List.take j100 l) : Nat) : Int) * 10 + (((lwcB y112 : Nat) : Int) - 97 + 10)) (((nv 10 (List.take j100 l) : Nat) : Int) * 10) false _ (decide_eq_false (by omega))) λ A=>Z 3 A rfl λ A=>B2 A rfl (b_gt _ _ (((nv 10 (List.take j100 l) : Nat) : Int) * 10 + (((lwcB y112 : Nat) : Int) - 97 + 10)) 18446744073709551615 false _ (decide_eq_false (by omega))) λ A=>Z 1 A rfl λ A=>qt_<|cf_ A rfl<|wk_ ?_
      refine tn_<|wr_<|Z 2 A rfl λ A=>qe_<|i_norm<|tn_<|wr_<|B2 A rfl (b_addE (j100 + 1) (by omega) (by omega)) λ A=>Z 1 A rfl λ A=>qt_ ?_
      have hgo := nv_go (bs := 10) hy113
      have hall2 := all_go hy113 hall (by omega)
      exact ⟨l.length - (j100 + 1), (by rw [hm106]; omega), j100 + 1, rfl, ⟨by omega, hall2⟩, A.cut _ (fc (A.g 1 rfl) (fc (A.g 6 rfl) (fc (A.g 7 rfl) (fc (A.g 8 rfl) (fc (A.g 9 rfl) (fc (A.g 10 rfl) (fc (A.g 11 rfl) (fc (A.g 12 rfl) (fc ((A.g 13 rfl).trans (congrArg (Value.int .u64) (by omega))) (fc (A.g 99 rfl) (fc (A.g 100 rfl) (fc (A.g 101 rfl) fn_)))))))))))), b283⟩
     have hq363 := df_ hb268
     refine B2 A rfl (ble_ hb268) λ A=>Z 2 A rfl λ A=>qt_<|cf_ A rfl<|sw_<|qs A rfl (d_iface (wn rfl) (A.ev rfl) conc179 λ _ A=>Z 2 A rfl λ A=>qt_<|we_<|i_ret<|tr_ ?_)
     refine i_ret<|tr_<|tr_<|i_ret<|tr_<|ret2 (x := (.int .u64 0)) (y := (.iface 179 (J 2))) rfl A rfl rfl ?_
     exact ⟨by rw [pu_none (val_bad hy113 (by first | omega | (rw [dv_bad (by omega) (by omega)]; omega)))], Grow.trans b92 b265⟩
    have hq376 := df_ hb252
    refine B2 A rfl (ble_ hb252) λ A=>Z 6 A rfl λ A=>qt_<|cf_ A rfl<|sw_<|qs A rfl (d_iface (wn rfl) (A.ev rfl) conc179 λ _ A=>Z 2 A rfl λ A=>qt_<|we_<|i_ret<|tr_ ?_)
    refine i_ret<|tr_<|tr_<|i_ret<|tr_<|ret2 (x := (.int .u64 0)) (y := (.iface 179 (J 2))) rfl A rfl rfl ?_
    exact ⟨by rw [pu_none (val_bad hy113 (by first | omega | (rw [dv_bad (by omega) (by omega)]; omega)))], Grow.trans b92 b249⟩
   have hq397 := df_ hb143
   refine B2 A rfl (ble_ hb143) λ A=>Z 5 A rfl λ A=>qt_<|cf_ A rfl<|sw_<|Z 1 A rfl λ A=>?_
   have hlw := lowB_le y112
   refine C A rfl ent169 (lower_any y112 w103) ?_
   rintro e415 w412 ⟨he414, hG413⟩
   have hr416 := range_below hr117 hG413 (Nat.lt_of_lt_of_le lt116 b105.size)
   have b417 := bls b105 hG413
   refine ⟨(.int .u8 ((lwcB y112 : Nat) : Int)), he414, λ _ A=>?_⟩
   rcases eb_ (decide ((97 : Int) ≤ ((lwcB y112 : Nat) : Int))) with hb420 | hb420
   ·skip
    have hq421 := dt_ hb420
    refine B2 A rfl (ble_ hb420) λ A=>Z 2 A rfl λ A=>?_
    have hlw := lowB_le y112
    refine C A rfl ent169 (lower_any y112 w412) ?_
    rintro e431 w428 ⟨he430, hG429⟩
    have hr432 := range_below hr416 hG429 (Nat.lt_of_lt_of_le lt116 b417.size)
    have b433 := bls b417 hG429
    refine ⟨(.int .u8 ((lwcB y112 : Nat) : Int)), he430, λ _ A=>?_⟩
    rcases eb_ (decide (((lwcB y112 : Nat) : Int) ≤ 122)) with hb436 | hb436
    ·skip
     have hq437 := dt_ hb436
     refine B2 A rfl (ble_ hb436) λ A=>Z 2 A rfl λ A=>qt_<|ct_ A rfl<|wr_<|Z 1 A rfl λ A=>?_
     have hlw := lowB_le y112
     refine C A rfl ent169 (lower_any y112 w428) ?_
     rintro e449 w446 ⟨he448, hG447⟩
     have hr450 := range_below hr432 hG447 (Nat.lt_of_lt_of_le lt116 b433.size)
     have b451 := bls b433 hG447
     refine ⟨(.int .u8 ((lwcB y112 : Nat) : Int)), he448, λ _ A=>B2 A rfl (b_subK (((lwcB y112 : Nat) : Int) - 97) (wrap8 (by omega) (by omega))) λ A=>B2 A rfl (b_addK (((lwcB y112 : Nat) : Int) - 97 + 10) (wrap8 (by omega) (by omega))) λ A=>Z 1 A rfl λ A=>?_⟩
     have hdv : dv y112 = lwcB y112 - 97 + 10 := dv_let (by omega) (by omega) (by omega)
     refine qe_<|i_norm<|tn_<|ws_<|sw_<|Z 2 A rfl λ A=>qs A rfl (d_conv 10 (wn rfl) (A.ev rfl) knd3 knd5 rfl λ _ A=>?_)
     rcases eb_ (decide (((lwcB y112 : Nat) : Int) - 97 + 10 ≥ 10)) with hb466 | hb466
     ·skip
      have hq467 := dt_ hb466
      refine B2 A rfl (bge_ hb466) @λ a468 A=>qe_ ?_
      have A : St 172 [(1, (J 10)), (6, (.int .u64 0)), (7, (.nilIface)), (8, (.bool false)), (9, (.string (S l))), (10, (.int .u64 1844674407370955162)), (11, (.int .u64 18446744073709551615)), (12, (.bool false)), (13, (.int .u64 ((nv 10 (List.take j100 l) : Nat) : Int))), (16, (.int .u8 (((lwcB y112 : Nat) : Int) - 97 + 10))), (99, v88), (100, (J ((l.length : Nat) : Int))), (101, (J ((j100 : Nat) : Int))), (137, (.bool true))] a468 := A.sub rfl
      refine tn_<|ct_ A rfl<|sw_<|qs A rfl (d_iface (wn rfl) (A.ev rfl) conc179 λ _ A=>Z 2 A rfl λ A=>qt_<|we_<|tr_<|i_ret<|tr_<|tr_<|i_ret ?_)
      refine tr_<|ret2 (x := (.int .u64 0)) (y := (.iface 179 (J 2))) rfl A rfl rfl ?_
      exact ⟨by rw [pu_none (val_bad hy113 (by first | omega | (rw [dv_bad (by omega) (by omega)]; omega)))], Grow.trans b92 b451⟩
     have hq477 := df_ hb466
     refine B2 A rfl (bge_ hb466) @λ a478 A=>qe_ ?_
     have A : St 172 [(1, (J 10)), (6, (.int .u64 0)), (7, (.nilIface)), (8, (.bool false)), (9, (.string (S l))), (10, (.int .u64 1844674407370955162)), (11, (.int .u64 18446744073709551615)), (12, (.bool false)), (13, (.int .u64 ((nv 10 (List.take j100 l) : Nat) : Int))), (16, (.int .u8 (((lwcB y112 : Nat) : Int) - 97 + 10))), (99, v88), (100, (J ((l.length : Nat) : Int))), (101, (J ((j100 : Nat) : Int))), (137, (.bool false))] a478 := A.sub rfl
     refine tn_<|cf_ A rfl<|wk_<|tn_<|ws_<|sw_<|Z 2 A rfl λ A=>B2 A rfl (b_ge _ _ ((nv 10 (List.take j100 l) : Nat) : Int) 1844674407370955162 false _ (decide_eq_false (by omega))) λ A=>qt_<|cf_ A rfl<|wk_<|tn_ ?_
     refine sw_<|Z 2 A rfl λ A=>qs A rfl (d_conv 10 (wn rfl) (A.ev rfl) knd3 knd122 rfl λ _ A=>B2 A rfl (b_mulK (((nv 10 (List.take j100 l) : Nat) : Int) * 10) (wrq64 (by omega) (by omega))) λ A=>Z 1 A rfl λ A=>qt_<|sw_<|Z 2 A rfl λ A=>qs A rfl (d_conv (((lwcB y112 : Nat) : Int) - 97 + 10) (wn rfl) (A.ev rfl) knd5 knd122 (wrq64 (by omega) (by omega)) λ _ A=>B2 A rfl (b_addK (((nv 10 (List.take j100 l) : Nat) : Int) * 10 + (((lwcB y112 : Nat) : Int) - 97 + 10)) (wrq64 (by omega) (by omega))) λ A=>Z 1 A rfl λ A=>?_))
     refine qt_<|ws_<|sw_<|Z 2 A rfl λ A=>B2 A rfl (b_lt _ _ (((nv 10 (List.take j100 l) : Nat) : Int) * 10 + (((lwcB y112 : Nat) : Int) - 97 + 10)) (((nv 10 (List.take j100 l) : Nat) : Int) * 10) false _ (decide_eq_false (by omega))) λ A=>Z 3 A rfl λ A=>B2 A rfl (b_gt _ _ (((nv 10 (List.take j100 l) : Nat) : Int) * 10 + (((lwcB y112 : Nat) : Int) - 97 + 10)) 18446744073709551615 false _ (decide_eq_false (by omega))) λ A=>Z 1 A rfl λ A=>qt_<|cf_ A rfl<|wk_ ?_
     refine tn_<|wr_<|Z 2 A rfl λ A=>qe_<|i_norm<|tn_<|wr_<|B2 A rfl (b_addE (j100 + 1) (by omega) (by omega)) λ A=>Z 1 A rfl λ A=>qt_ ?_
     have hgo := nv_go (bs := 10) hy113
     have hall2 := all_go hy113 hall (by omega)
     exact ⟨l.length - (j100 + 1), (by rw [hm106]; omega), j100 + 1, rfl, ⟨by omega, hall2⟩, A.cut _ (fc (A.g 1 rfl) (fc (A.g 6 rfl) (fc (A.g 7 rfl) (fc (A.g 8 rfl) (fc (A.g 9 rfl) (fc (A.g 10 rfl) (fc (A.g 11 rfl) (fc (A.g 12 rfl) (fc ((A.g 13 rfl).trans (congrArg (Value.int .u64) (by omega))) (fc (A.g 99 rfl) (fc (A.g 100 rfl) (fc (A.g 101 rfl) fn_)))))))))))), b451⟩
    have hq531 := df_ hb436
    refine B2 A rfl (ble_ hb436) λ A=>Z 2 A rfl λ A=>qt_<|cf_ A rfl<|sw_<|qs A rfl (d_iface (wn rfl) (A.ev rfl) conc179 λ _ A=>Z 2 A rfl λ A=>qt_<|we_<|i_ret<|tr_ ?_)
    refine i_ret<|tr_<|tr_<|i_ret<|tr_<|ret2 (x := (.int .u64 0)) (y := (.iface 179 (J 2))) rfl A rfl rfl ?_
    exact ⟨by rw [pu_none (val_bad hy113 (by first | omega | (rw [dv_bad (by omega) (by omega)]; omega)))], Grow.trans b92 b433⟩
   have hq544 := df_ hb420
   refine B2 A rfl (ble_ hb420) λ A=>Z 6 A rfl λ A=>qt_<|cf_ A rfl<|sw_<|qs A rfl (d_iface (wn rfl) (A.ev rfl) conc179 λ _ A=>Z 2 A rfl λ A=>qt_<|we_<|i_ret<|tr_ ?_)
   refine i_ret<|tr_<|tr_<|i_ret<|tr_<|ret2 (x := (.int .u64 0)) (y := (.iface 179 (J 2))) rfl A rfl rfl ?_
   exact ⟨by rw [pu_none (val_bad hy113 (by first | omega | (rw [dv_bad (by omega) (by omega)]; omega)))], Grow.trans b92 b417⟩
  have hq565 := ne_of_beq hb129
  refine B2 A rfl (bq hb129) λ A=>Z 4 A rfl λ A=>qt_<|cf_ A rfl<|sw_<|Z 1 A rfl λ A=>?_
  rcases eb_ (decide ((48 : Int) ≤ ((y112.toNat : Nat) : Int))) with hb578 | hb578
  ·skip
   have hq579 := dt_ hb578
   refine B2 A rfl (ble_ hb578) λ A=>Z 2 A rfl λ A=>?_
   rcases eb_ (decide (((y112.toNat : Nat) : Int) ≤ 57)) with hb586 | hb586
   ·skip
    have hq587 := dt_ hb586
    refine B2 A rfl (ble_ hb586) λ A=>Z 2 A rfl λ A=>qt_<|ct_ A rfl<|wr_<|Z 1 A rfl λ A=>B2 A rfl (b_subK (((y112.toNat : Nat) : Int) - 48) (wrap8 (by omega) (by omega))) λ A=>Z 1 A rfl λ A=>?_
    have hdv : dv y112 = y112.toNat - 48 := dv_dig (by omega) (by omega)
    refine qe_<|i_norm<|tn_<|ws_<|sw_<|Z 2 A rfl λ A=>qs A rfl (d_conv 10 (wn rfl) (A.ev rfl) knd3 knd5 rfl λ _ A=>?_)
    rcases eb_ (decide (((y112.toNat : Nat) : Int) - 48 ≥ 10)) with hb606 | hb606
    ·skip
     have hq607 := dt_ hb606
     refine B2 A rfl (bge_ hb606) λ A=>qt_<|ct_ A rfl<|sw_<|qs A rfl (d_iface (wn rfl) (A.ev rfl) conc179 λ _ A=>Z 2 A rfl λ A=>qt_<|we_<|tr_<|i_ret<|tr_ ?_)
     refine tr_<|i_ret<|tr_<|ret2 (x := (.int .u64 0)) (y := (.iface 179 (J 2))) rfl A rfl rfl ?_
     exact ⟨by rw [pu_none (val_bad hy113 (by first | omega | (rw [dv_bad (by omega) (by omega)]; omega)))], Grow.trans b92 b105⟩
    have hq616 := df_ hb606
    refine B2 A rfl (bge_ hb606) λ A=>qt_<|cf_ A rfl<|wk_<|tn_<|ws_<|sw_<|Z 2 A rfl λ A=>B2 A rfl (b_ge _ _ ((nv 10 (List.take j100 l) : Nat) : Int) 1844674407370955162 false _ (decide_eq_false (by omega))) λ A=>qt_<|cf_ A rfl ?_
    refine wk_<|tn_<|sw_<|Z 2 A rfl λ A=>qs A rfl (d_conv 10 (wn rfl) (A.ev rfl) knd3 knd122 rfl λ _ A=>B2 A rfl (b_mulK (((nv 10 (List.take j100 l) : Nat) : Int) * 10) (wrq64 (by omega) (by omega))) λ A=>Z 1 A rfl λ A=>qt_<|sw_<|Z 2 A rfl λ A=>qs A rfl (d_conv (((y112.toNat : Nat) : Int) - 48) (wn rfl) (A.ev rfl) knd5 knd122 (wrq64 (by omega) (by omega)) λ _ A=>?_))
    refine B2 A rfl (b_addK (((nv 10 (List.take j100 l) : Nat) : Int) * 10 + (((y112.toNat : Nat) : Int) - 48)) (wrq64 (by omega) (by omega))) λ A=>Z 1 A rfl @λ a643 A=>qe_ ?_
    have A : St 172 [(1, (J 10)), (6, (.int .u64 0)), (7, (.nilIface)), (8, (.bool false)), (9, (.string (S l))), (10, (.int .u64 1844674407370955162)), (11, (.int .u64 18446744073709551615)), (12, (.bool false)), (13, (.int .u64 (((nv 10 (List.take j100 l) : Nat) : Int) * 10))), (17, (.int .u64 (((nv 10 (List.take j100 l) : Nat) : Int) * 10 + (((y112.toNat : Nat) : Int) - 48)))), (99, v88), (100, (J ((l.length : Nat) : Int))), (101, (J ((j100 : Nat) : Int)))] a643 := A.sub rfl
    refine tn_<|ws_<|sw_<|Z 2 A rfl λ A=>B2 A rfl (b_lt _ _ (((nv 10 (List.take j100 l) : Nat) : Int) * 10 + (((y112.toNat : Nat) : Int) - 48)) (((nv 10 (List.take j100 l) : Nat) : Int) * 10) false _ (decide_eq_false (by omega))) λ A=>Z 3 A rfl λ A=>B2 A rfl (b_gt _ _ (((nv 10 (List.take j100 l) : Nat) : Int) * 10 + (((y112.toNat : Nat) : Int) - 48)) 18446744073709551615 false _ (decide_eq_false (by omega))) λ A=>Z 1 A rfl λ A=>qt_<|cf_ A rfl<|wk_<|tn_ ?_
    refine wr_<|Z 2 A rfl λ A=>qe_<|i_norm<|tn_<|wr_<|B2 A rfl (b_addE (j100 + 1) (by omega) (by omega)) λ A=>Z 1 A rfl λ A=>qt_ ?_
    have hgo := nv_go (bs := 10) hy113
    have hall2 := all_go hy113 hall (by omega)
    exact ⟨l.length - (j100 + 1), (by rw [hm106]; omega), j100 + 1, rfl, ⟨by omega, hall2⟩, A.cut _ (fc (A.g 1 rfl) (fc (A.g 6 rfl) (fc (A.g 7 rfl) (fc (A.g 8 rfl) (fc (A.g 9 rfl) (fc (A.g 10 rfl) (fc (A.g 11 rfl) (fc (A.g 12 rfl) (fc ((A.g 13 rfl).trans (congrArg (Value.int .u64) (by omega))) (fc (A.g 99 rfl) (fc (A.g 100 rfl) (fc (A.g 101 rfl) fn_)))))))))))), b105⟩
   have hq670 := df_ hb586
   refine B2 A rfl (ble_ hb586) λ A=>Z 2 A rfl λ A=>qt_<|cf_ A rfl<|sw_<|Z 1 A rfl λ A=>?_
   have hlw := lowB_le y112
   refine C A rfl ent169 (lower_any y112 w103) ?_
   rintro e682 w679 ⟨he681, hG680⟩
   have hr683 := range_below hr117 hG680 (Nat.lt_of_lt_of_le lt116 b105.size)
   have b684 := bls b105 hG680
   refine ⟨(.int .u8 ((lwcB y112 : Nat) : Int)), he681, λ _ A=>?_⟩
   rcases eb_ (decide ((97 : Int) ≤ ((lwcB y112 : Nat) : Int))) with hb687 | hb687
   ·skip
    have hq688 := dt_ hb687
    refine B2 A rfl (ble_ hb687) λ A=>Z 2 A rfl λ A=>?_
    have hlw := lowB_le y112
    refine C A rfl ent169 (lower_any y112 w679) ?_
    rintro e698 w695 ⟨he697, hG696⟩
    have hr699 := range_below hr683 hG696 (Nat.lt_of_lt_of_le lt116 b684.size)
    have b700 := bls b684 hG696
    refine ⟨(.int .u8 ((lwcB y112 : Nat) : Int)), he697, λ _ A=>?_⟩
    rcases eb_ (decide (((lwcB y112 : Nat) : Int) ≤ 122)) with hb703 | hb703
    ·skip
     have hq704 := dt_ hb703
     refine B2 A rfl (ble_ hb703) λ A=>Z 2 A rfl λ A=>qt_<|ct_ A rfl<|wr_<|Z 1 A rfl λ A=>?_
     have hlw := lowB_le y112
     refine C A rfl ent169 (lower_any y112 w695) ?_
     rintro e716 w713 ⟨he715, hG714⟩
     have hr717 := range_below hr699 hG714 (Nat.lt_of_lt_of_le lt116 b700.size)
     have b718 := bls b700 hG714
     refine ⟨(.int .u8 ((lwcB y112 : Nat) : Int)), he715, λ _ A=>B2 A rfl (b_subK (((lwcB y112 : Nat) : Int) - 97) (wrap8 (by omega) (by omega))) λ A=>B2 A rfl (b_addK (((lwcB y112 : Nat) : Int) - 97 + 10) (wrap8 (by omega) (by omega))) λ A=>Z 1 A rfl λ A=>?_⟩
     have hdv : dv y112 = lwcB y112 - 97 + 10 := dv_let (by omega) (by omega) (by omega)
     refine qe_<|i_norm<|tn_<|ws_<|sw_<|Z 2 A rfl λ A=>qs A rfl (d_conv 10 (wn rfl) (A.ev rfl) knd3 knd5 rfl λ _ A=>?_)
     rcases eb_ (decide (((lwcB y112 : Nat) : Int) - 97 + 10 ≥ 10)) with hb733 | hb733
     ·skip
      have hq734 := dt_ hb733
      refine B2 A rfl (bge_ hb733) @λ a735 A=>qe_ ?_
      have A : St 172 [(1, (J 10)), (6, (.int .u64 0)), (7, (.nilIface)), (8, (.bool false)), (9, (.string (S l))), (10, (.int .u64 1844674407370955162)), (11, (.int .u64 18446744073709551615)), (12, (.bool false)), (13, (.int .u64 ((nv 10 (List.take j100 l) : Nat) : Int))), (16, (.int .u8 (((lwcB y112 : Nat) : Int) - 97 + 10))), (99, v88), (100, (J ((l.length : Nat) : Int))), (101, (J ((j100 : Nat) : Int))), (137, (.bool true))] a735 := A.sub rfl
      refine tn_<|ct_ A rfl<|sw_<|qs A rfl (d_iface (wn rfl) (A.ev rfl) conc179 λ _ A=>Z 2 A rfl λ A=>qt_<|we_<|tr_<|i_ret<|tr_<|tr_<|i_ret ?_)
      refine tr_<|ret2 (x := (.int .u64 0)) (y := (.iface 179 (J 2))) rfl A rfl rfl ?_
      exact ⟨by rw [pu_none (val_bad hy113 (by first | omega | (rw [dv_bad (by omega) (by omega)]; omega)))], Grow.trans b92 b718⟩
     have hq744 := df_ hb733
     refine B2 A rfl (bge_ hb733) @λ a745 A=>qe_ ?_
     have A : St 172 [(1, (J 10)), (6, (.int .u64 0)), (7, (.nilIface)), (8, (.bool false)), (9, (.string (S l))), (10, (.int .u64 1844674407370955162)), (11, (.int .u64 18446744073709551615)), (12, (.bool false)), (13, (.int .u64 ((nv 10 (List.take j100 l) : Nat) : Int))), (16, (.int .u8 (((lwcB y112 : Nat) : Int) - 97 + 10))), (99, v88), (100, (J ((l.length : Nat) : Int))), (101, (J ((j100 : Nat) : Int))), (137, (.bool false))] a745 := A.sub rfl
     refine tn_<|cf_ A rfl<|wk_<|tn_<|ws_<|sw_<|Z 2 A rfl λ A=>B2 A rfl (b_ge _ _ ((nv 10 (List.take j100 l) : Nat) : Int) 1844674407370955162 false _ (decide_eq_false (by omega))) λ A=>qt_<|cf_ A rfl<|wk_<|tn_ ?_
     refine sw_<|Z 2 A rfl λ A=>qs A rfl (d_conv 10 (wn rfl) (A.ev rfl) knd3 knd122 rfl λ _ A=>B2 A rfl (b_mulK (((nv 10 (List.take j100 l) : Nat) : Int) * 10) (wrq64 (by omega) (by omega))) λ A=>Z 1 A rfl λ A=>qt_<|sw_<|Z 2 A rfl λ A=>qs A rfl (d_conv (((lwcB y112 : Nat) : Int) - 97 + 10) (wn rfl) (A.ev rfl) knd5 knd122 (wrq64 (by omega) (by omega)) λ _ A=>B2 A rfl (b_addK (((nv 10 (List.take j100 l) : Nat) : Int) * 10 + (((lwcB y112 : Nat) : Int) - 97 + 10)) (wrq64 (by omega) (by omega))) λ A=>Z 1 A rfl λ A=>?_))
     refine qt_<|ws_<|sw_<|Z 2 A rfl λ A=>B2 A rfl (b_lt _ _ (((nv 10 (List.take j100 l) : Nat) : Int) * 10 + (((lwcB y112 : Nat) : Int) - 97 + 10)) (((nv 10 (List.take j100 l) : Nat) : Int) * 10) false _ (decide_eq_false (by omega))) λ A=>Z 3 A rfl λ A=>B2 A rfl (b_gt _ _ (((nv 10 (List.take j100 l) : Nat) : Int) * 10 + (((lwcB y112 : Nat) : Int) - 97 + 10)) 18446744073709551615 false _ (decide_eq_false (by omega))) λ A=>Z 1 A rfl λ A=>qt_<|cf_ A rfl<|wk_ ?_
     refine tn_<|wr_<|Z 2 A rfl λ A=>qe_<|i_norm<|tn_<|wr_<|B2 A rfl (b_addE (j100 + 1) (by omega) (by omega)) λ A=>Z 1 A rfl λ A=>qt_ ?_
     have hgo := nv_go (bs := 10) hy113
     have hall2 := all_go hy113 hall (by omega)
     exact ⟨l.length - (j100 + 1), (by rw [hm106]; omega), j100 + 1, rfl, ⟨by omega, hall2⟩, A.cut _ (fc (A.g 1 rfl) (fc (A.g 6 rfl) (fc (A.g 7 rfl) (fc (A.g 8 rfl) (fc (A.g 9 rfl) (fc (A.g 10 rfl) (fc (A.g 11 rfl) (fc (A.g 12 rfl) (fc ((A.g 13 rfl).trans (congrArg (Value.int .u64) (by omega))) (fc (A.g 99 rfl) (fc (A.g 100 rfl) (fc (A.g 101 rfl) fn_)))))))))))), b718⟩
    have hq798 := df_ hb703
    refine B2 A rfl (ble_ hb703) λ A=>Z 2 A rfl λ A=>qt_<|cf_ A rfl<|sw_<|qs A rfl (d_iface (wn rfl) (A.ev rfl) conc179 λ _ A=>Z 2 A rfl λ A=>qt_<|we_<|i_ret<|tr_ ?_)
    refine i_ret<|tr_<|tr_<|i_ret<|tr_<|ret2 (x := (.int .u64 0)) (y := (.iface 179 (J 2))) rfl A rfl rfl ?_
    exact ⟨by rw [pu_none (val_bad hy113 (by first | omega | (rw [dv_bad (by omega) (by omega)]; omega)))], Grow.trans b92 b700⟩
   have hq811 := df_ hb687
   refine B2 A rfl (ble_ hb687) λ A=>Z 6 A rfl λ A=>qt_<|cf_ A rfl<|sw_<|qs A rfl (d_iface (wn rfl) (A.ev rfl) conc179 λ _ A=>Z 2 A rfl λ A=>qt_<|we_<|i_ret<|tr_ ?_)
   refine i_ret<|tr_<|tr_<|i_ret<|tr_<|ret2 (x := (.int .u64 0)) (y := (.iface 179 (J 2))) rfl A rfl rfl ?_
   exact ⟨by rw [pu_none (val_bad hy113 (by first | omega | (rw [dv_bad (by omega) (by omega)]; omega)))], Grow.trans b92 b684⟩
  have hq832 := df_ hb578
  refine B2 A rfl (ble_ hb578) λ A=>Z 5 A rfl λ A=>qt_<|cf_ A rfl<|sw_<|Z 1 A rfl λ A=>?_
  have hlw := lowB_le y112
  refine C A rfl ent169 (lower_any y112 w103) ?_
  rintro e850 w847 ⟨he849, hG848⟩
  have hr851 := range_below hr117 hG848 (Nat.lt_of_lt_of_le lt116 b105.size)
  have b852 := bls b105 hG848
  refine ⟨(.int .u8 ((lwcB y112 : Nat) : Int)), he849, λ _ A=>?_⟩
  rcases eb_ (decide ((97 : Int) ≤ ((lwcB y112 : Nat) : Int))) with hb855 | hb855
  ·skip
   have hq856 := dt_ hb855
   refine B2 A rfl (ble_ hb855) λ A=>Z 2 A rfl λ A=>?_
   have hlw := lowB_le y112
   refine C A rfl ent169 (lower_any y112 w847) ?_
   rintro e866 w863 ⟨he865, hG864⟩
   have hr867 := range_below hr851 hG864 (Nat.lt_of_lt_of_le lt116 b852.size)
   have b868 := bls b852 hG864
   refine ⟨(.int .u8 ((lwcB y112 : Nat) : Int)), he865, λ _ A=>?_⟩
   rcases eb_ (decide (((lwcB y112 : Nat) : Int) ≤ 122)) with hb871 | hb871
   ·skip
    have hq872 := dt_ hb871
    refine B2 A rfl (ble_ hb871) λ A=>Z 2 A rfl λ A=>qt_<|ct_ A rfl<|wr_<|Z 1 A rfl λ A=>?_
    have hlw := lowB_le y112
    refine C A rfl ent169 (lower_any y112 w863) ?_
    rintro e884 w881 ⟨he883, hG882⟩
    have hr885 := range_below hr867 hG882 (Nat.lt_of_lt_of_le lt116 b868.size)
    have b886 := bls b868 hG882
    refine ⟨(.int .u8 ((lwcB y112 : Nat) : Int)), he883, λ _ A=>B2 A rfl (b_subK (((lwcB y112 : Nat) : Int) - 97) (wrap8 (by omega) (by omega))) λ A=>B2 A rfl (b_addK (((lwcB y112 : Nat) : Int) - 97 + 10) (wrap8 (by omega) (by omega))) λ A=>Z 1 A rfl λ A=>?_⟩
    have hdv : dv y112 = lwcB y112 - 97 + 10 := dv_let (by omega) (by omega) (by omega)
    refine qe_<|i_norm<|tn_<|ws_<|sw_<|Z 2 A rfl λ A=>qs A rfl (d_conv 10 (wn rfl) (A.ev rfl) knd3 knd5 rfl λ _ A=>?_)
    rcases eb_ (decide (((lwcB y112 : Nat) : Int) - 97 + 10 ≥ 10)) with hb901 | hb901
    ·skip
     have hq902 := dt_ hb901
     refine B2 A rfl (bge_ hb901) @λ a903 A=>qe_ ?_
     have A : St 172 [(1, (J 10)), (6, (.int .u64 0)), (7, (.nilIface)), (8, (.bool false)), (9, (.string (S l))), (10, (.int .u64 1844674407370955162)), (11, (.int .u64 18446744073709551615)), (12, (.bool false)), (13, (.int .u64 ((nv 10 (List.take j100 l) : Nat) : Int))), (16, (.int .u8 (((lwcB y112 : Nat) : Int) - 97 + 10))), (99, v88), (100, (J ((l.length : Nat) : Int))), (101, (J ((j100 : Nat) : Int))), (137, (.bool true))] a903 := A.sub rfl
     refine tn_<|ct_ A rfl<|sw_<|qs A rfl (d_iface (wn rfl) (A.ev rfl) conc179 λ _ A=>Z 2 A rfl λ A=>qt_<|we_<|tr_<|i_ret<|tr_<|tr_<|i_ret ?_)
     refine tr_<|ret2 (x := (.int .u64 0)) (y := (.iface 179 (J 2))) rfl A rfl rfl ?_
     exact ⟨by rw [pu_none (val_bad hy113 (by first | omega | (rw [dv_bad (by omega) (by omega)]; omega)))], Grow.trans b92 b886⟩
    have hq912 := df_ hb901
    refine B2 A rfl (bge_ hb901) @λ a913 A=>qe_ ?_
    have A : St 172 [(1, (J 10)), (6, (.int .u64 0)), (7, (.nilIface)), (8, (.bool false)), (9, (.string (S l))), (10, (.int .u64 1844674407370955162)), (11, (.int .u64 18446744073709551615)), (12, (.bool false)), (13, (.int .u64 ((nv 10 (List.take j100 l) : Nat) : Int))), (16, (.int .u8 (((lwcB y112 : Nat) : Int) - 97 + 10))), (99, v88), (100, (J ((l.length : Nat) : Int))), (101, (J ((j100 : Nat) : Int))), (137, (.bool false))] a913 := A.sub rfl
    refine tn_<|cf_ A rfl<|wk_<|tn_<|ws_<|sw_<|Z 2 A rfl λ A=>B2 A rfl (b_ge _ _ ((nv 10 (List.take j100 l) : Nat) : Int) 1844674407370955162 false _ (decide_eq_false (by omega))) λ A=>qt_<|cf_ A rfl<|wk_<|tn_ ?_
    refine sw_<|Z 2 A rfl λ A=>qs A rfl (d_conv 10 (wn rfl) (A.ev rfl) knd3 knd122 rfl λ _ A=>B2 A rfl (b_mulK (((nv 10 (List.take j100 l) : Nat) : Int) * 10) (wrq64 (by omega) (by omega))) λ A=>Z 1 A rfl λ A=>qt_<|sw_<|Z 2 A rfl λ A=>qs A rfl (d_conv (((lwcB y112 : Nat) : Int) - 97 + 10) (wn rfl) (A.ev rfl) knd5 knd122 (wrq64 (by omega) (by omega)) λ _ A=>B2 A rfl (b_addK (((nv 10 (List.take j100 l) : Nat) : Int) * 10 + (((lwcB y112 : Nat) : Int) - 97 + 10)) (wrq64 (by omega) (by omega))) λ A=>Z 1 A rfl λ A=>?_))
    refine qt_<|ws_<|sw_<|Z 2 A rfl λ A=>B2 A rfl (b_lt _ _ (((nv 10 (List.take j100 l) : Nat) : Int) * 10 + (((lwcB y112 : Nat) : Int) - 97 + 10)) (((nv 10 (List.take j100 l) : Nat) : Int) * 10) false _ (decide_eq_false (by omega))) λ A=>Z 3 A rfl λ A=>B2 A rfl (b_gt _ _ (((nv 10 (List.take j100 l) : Nat) : Int) * 10 + (((lwcB y112 : Nat) : Int) - 97 + 10)) 18446744073709551615 false _ (decide_eq_false (by omega))) λ A=>Z 1 A rfl λ A=>qt_<|cf_ A rfl<|wk_ ?_
    refine tn_<|wr_<|Z 2 A rfl λ A=>qe_<|i_norm<|tn_<|wr_<|B2 A rfl (b_addE (j100 + 1) (by omega) (by omega)) λ A=>Z 1 A rfl λ A=>qt_ ?_
    have hgo := nv_go (bs := 10) hy113
    have hall2 := all_go hy113 hall (by omega)
    exact ⟨l.length - (j100 + 1), (by rw [hm106]; omega), j100 + 1, rfl, ⟨by omega, hall2⟩, A.cut _ (fc (A.g 1 rfl) (fc (A.g 6 rfl) (fc (A.g 7 rfl) (fc (A.g 8 rfl) (fc (A.g 9 rfl) (fc (A.g 10 rfl) (fc (A.g 11 rfl) (fc (A.g 12 rfl) (fc ((A.g 13 rfl).trans (congrArg (Value.int .u64) (by omega))) (fc (A.g 99 rfl) (fc (A.g 100 rfl) (fc (A.g 101 rfl) fn_)))))))))))), b886⟩
   have hq966 := df_ hb871
   refine B2 A rfl (ble_ hb871) λ A=>Z 2 A rfl λ A=>qt_<|cf_ A rfl<|sw_<|qs A rfl (d_iface (wn rfl) (A.ev rfl) conc179 λ _ A=>Z 2 A rfl λ A=>qt_<|we_<|i_ret<|tr_ ?_)
   refine i_ret<|tr_<|tr_<|i_ret<|tr_<|ret2 (x := (.int .u64 0)) (y := (.iface 179 (J 2))) rfl A rfl rfl ?_
   exact ⟨by rw [pu_none (val_bad hy113 (by first | omega | (rw [dv_bad (by omega) (by omega)]; omega)))], Grow.trans b92 b868⟩
  have hq979 := df_ hb855
  refine B2 A rfl (ble_ hb855) λ A=>Z 6 A rfl λ A=>qt_<|cf_ A rfl<|sw_<|qs A rfl (d_iface (wn rfl) (A.ev rfl) conc179 λ _ A=>Z 2 A rfl λ A=>qt_<|we_<|i_ret<|tr_ ?_)
  refine i_ret<|tr_<|tr_<|i_ret<|tr_<|ret2 (x := (.int .u64 0)) (y := (.iface 179 (J 2))) rfl A rfl rfl ?_
  exact ⟨by rw [pu_none (val_bad hy113 (by first | omega | (rw [dv_bad (by omega) (by omega)]; omega)))], Grow.trans b92 b852⟩
 have hq1000 := df_ hb108
 refine B2 A rfl (bl hb108) λ A=>qt_<|ws_<|cf_ A rfl<|wp_exit<|t_exit<|t_exit<|i_here<|tn_<|ws_<|sw_<|Z 6 A rfl λ A=>?_
 refine qt_<|cf_ A rfl<|wk_<|tn_<|sw_<|Z 3 A rfl λ A=>qt_<|we_<|ret2 (x := (.int .u64 ((nv 10 (List.take j100 l) : Nat) : Int))) (y := (.nilIface)) rfl A rfl rfl ?_
 exact ⟨by rw [pu_some (val_end (eqL_ne hb9) hall (by omega))], Grow.trans b92 b105⟩
theorem parse16_in (l : List UInt8) (w : World) (hl : l.length ≤ 16) : Calls Tryz.prog 140 #[.string (S l), J 16, J 64] w λ e w' => e = .returned (puV 16 l) ∧ Grow w w' := by
 have b0 := Grow.refl w
 refine enter (n := 172) Tryz.func140 rfl rfl (nb_ rfl) λ _ A=>sw_<|Z 2 A rfl λ A=>qt_<|ws_<|sw_<|Z 1 A rfl λ A=>?_
 rcases eb_ (eqL l []) with hb9 | hb9
 ·skip
  refine B2 A rfl (b_seq (l := l) (m := []) (r := true) hb9) λ A=>qt_<|ct_ A rfl<|sw_<|qs A rfl (d_iface (wn rfl) (A.ev rfl) conc179 λ _ A=>Z 2 A rfl λ A=>qt_<|we_<|tr_<|ret2 (x := (.int .u64 0)) (y := (.iface 179 (J 2))) rfl A rfl rfl ?_)
  exact ⟨by rw [pu_none (val_nil (eqL_eq hb9))], b0⟩
 refine B2 A rfl (b_seq (l := l) (m := []) (r := false) hb9) λ A=>qt_<|cf_ A rfl<|wk_<|tn_<|sw_<|Z 1 A rfl λ A=>B2 A rfl (b_eq _ _ 16 0 false _ rfl) λ A=>Z 1 A rfl λ A=>qt_<|ws_ ?_
 refine wr_<|Z 2 A rfl λ A=>qt_<|ws_<|wp_block<|sw_<|Z 1 A rfl λ A=>B2 A rfl (b_le _ _ 2 16 true _ rfl) λ A=>Z 2 A rfl λ A=>B2 A rfl (b_le _ _ 16 36 true _ rfl) λ A=>Z 2 A rfl λ A=>qe_ ?_
 refine tn_<|ct_ A rfl<|wk_<|i_norm<|tn_<|ws_<|sw_<|Z 1 A rfl λ A=>B2 A rfl (b_eq _ _ 64 0 false _ rfl) λ A=>qt_<|cf_ A rfl<|ws_ ?_
 refine wr_<|Z 1 A rfl λ A=>B2 A rfl (b_lt _ _ 64 0 false _ rfl) λ A=>Z 2 A rfl λ A=>B2 A rfl (b_gt _ _ 64 64 false _ rfl) λ A=>Z 1 A rfl λ A=>qt_<|cf_ A rfl<|wk_<|tn_<|sw_<|Z 1 A rfl λ A=>?_
 refine qt_<|ws_<|sw_<|Z 1 A rfl λ A=>qt_<|wp_block<|sw_<|B2 A rfl (b_eq _ _ 16 10 false _ rfl) λ A=>Z 1 A rfl λ A=>qe_ ?_
 refine tn_<|cf_ A rfl<|sw_<|B2 A rfl (b_eq _ _ 16 16 true _ rfl) λ A=>Z 1 A rfl λ A=>qt_<|ct_ A rfl<|wr_<|Z 1 A rfl λ A=>qe_<|i_norm<|tn_ ?_
 refine sw_<|Z 1 A rfl λ A=>qs A rfl (d_conv 64 (wn rfl) (A.ev rfl) knd3 knd160 rfl λ _ A=>qs A rfl (dbn (r := .int .u64 0) (wn rfl) (A.ev rfl) (A.ev rfl) ⟨rfl, rfl⟩ λ _ A=>B2 A rfl (b_subK (18446744073709551615) rfl) λ A=>Z 1 A rfl λ A=>qt_<|sw_<|Z 1 A rfl λ A=>qt_ ?_))
 refine sw_<|Z 1 A rfl λ A=>qt_<|ws_<|sw_<|Z 1 A rfl λ A=>qs A rfl (d_bytes (wn rfl) (A.ev rfl) str9 slc143 knd5 (by omega) λ v92 w93 hG94 hS95=>?_)
 have b96 := bls b0 hG94
 intro _ A
 refine qs A rfl (dle (n := l.length) (wn rfl) (A.ev rfl) slc143 hS95.form λ _ A=>Z 1 A rfl λ A=>qt_<|wp_block ?_)
 have b103 : Below w93.heap.size w93 w93 := Below.refl _ _
 refine loop_by (λ m105 a106 w107 => ∃ j104 : Nat, m105 = l.length - j104 ∧ (j104 ≤ l.length ∧ allD 16 (List.take j104 l) = true) ∧ St 172 [(1, (J 16)), (6, (.int .u64 0)), (7, (.nilIface)), (8, (.bool false)), (9, (.string (S l))), (10, (.int .u64 1152921504606846976)), (11, (.int .u64 18446744073709551615)), (12, (.bool false)), (13, (.int .u64 ((nv 16 (List.take j104 l) : Nat) : Int))), (99, v92), (100, (J ((l.length : Nat) : Int))), (101, (J ((j104 : Nat) : Int)))] a106 ∧ Below w93.heap.size w93 w107) (l.length - 0) ⟨0, rfl, ⟨by omega, rfl⟩, A.cut _ (fc (A.g 1 rfl) (fc (A.g 6 rfl) (fc (A.g 7 rfl) (fc (A.g 8 rfl) (fc (A.g 9 rfl) (fc (A.g 10 rfl) (fc (A.g 11 rfl) (fc (A.g 12 rfl) (fc ((A.g 13 rfl).trans (congrArg (Value.int .u64) (rfl))) (fc (A.g 99 rfl) (fc (A.g 100 rfl) (fc ((A.g 101 rfl).trans (congrArg (Value.int .i64) (by omega))) fn_)))))))))))), b103⟩ ?_
 rintro m105 a106 w107 ⟨j104, hm110, hc111, A, b109⟩
 obtain ⟨hj, hall⟩ := hc111
 have hpow : j104 ≤ 15 → nv 16 (List.take j104 l) < 1152921504606846976 := nv_16 hall
 refine sw_ ?_
 rcases eb_ (decide (((j104 : Nat) : Int) < ((l.length : Nat) : Int))) with hb112 | hb112
 ·skip
  have hq113 := dt_ hb112
  refine B2 A rfl (bl hb112) λ A=>qt_<|ws_<|ct_ A rfl<|wk_<|tn_<|ws_<|wp_block<|sw_ ?_
  obtain ⟨y116, hy117⟩ : ∃ y116, l[j104]? = some y116 := ⟨_, List.getElem?_eq_getElem (show j104 < l.length by omega)⟩
  obtain ⟨b118, o119, lt120, hr121, hix122⟩ := (hS95.below b109).at hy117
  refine qs A rfl (dia (j := j104) (wn rfl) (A.ev rfl) (A.ev rfl) slc143 hix122 (get_lt hy117) λ _ A=>qs A rfl (dld (v := (.int .u8 ((y116.toNat : Nat) : Int))) (wn rfl) (A.ev rfl) one5 (hr121 0 _ rfl) λ _ A=>Z 1 A rfl λ A=>qt_<|sw_<|Z 1 A rfl λ A=>qt_<|ws_<|wp_block<|sw_ ?_))
  refine Z 1 A rfl λ A=>?_
  rcases eb_ (((y116.toNat : Nat) : Int) == 95) with hb133 | hb133
  ·skip
   have hq134 := eq_of_beq hb133
   refine B2 A rfl (bq hb133) λ A=>Z 4 A rfl λ A=>qt_<|cf_ A rfl<|sw_<|Z 1 A rfl λ A=>?_
   rcases eb_ (decide ((48 : Int) ≤ ((y116.toNat : Nat) : Int))) with hb147 | hb147
   ·skip
    have hq148 := dt_ hb147
    refine B2 A rfl (ble_ hb147) λ A=>Z 2 A rfl λ A=>?_
    rcases eb_ (decide (((y116.toNat : Nat) : Int) ≤ 57)) with hb155 | hb155
    ·skip
     have hq156 := dt_ hb155
     refine B2 A rfl (ble_ hb155) λ A=>Z 2 A rfl λ A=>qt_<|ct_ A rfl<|wr_<|Z 1 A rfl λ A=>B2 A rfl (b_subK (((y116.toNat : Nat) : Int) - 48) (wrap8 (by omega) (by omega))) λ A=>Z 1 A rfl λ A=>?_
     have hdv : dv y116 = y116.toNat - 48 := dv_dig (by omega) (by omega)
     refine qe_<|i_norm<|tn_<|ws_<|sw_<|Z 2 A rfl λ A=>qs A rfl (d_conv 16 (wn rfl) (A.ev rfl) knd3 knd5 rfl λ _ A=>?_)
     rcases eb_ (decide (((y116.toNat : Nat) : Int) - 48 ≥ 16)) with hb175 | hb175
     ·skip
      have hq176 := dt_ hb175
      refine B2 A rfl (bge_ hb175) λ A=>qt_<|ct_ A rfl<|sw_<|qs A rfl (d_iface (wn rfl) (A.ev rfl) conc179 λ _ A=>Z 2 A rfl λ A=>qt_<|we_<|tr_<|i_ret<|tr_ ?_)
      refine tr_<|i_ret<|tr_<|ret2 (x := (.int .u64 0)) (y := (.iface 179 (J 2))) rfl A rfl rfl ?_
      exact ⟨by rw [pu_none (val_bad hy117 (by first | omega | (rw [dv_bad (by omega) (by omega)]; omega)))], Grow.trans b96 b109⟩
     have hq185 := df_ hb175
     refine B2 A rfl (bge_ hb175) λ A=>qt_<|cf_ A rfl<|wk_<|tn_<|ws_<|sw_<|Z 2 A rfl λ A=>B2 A rfl (b_ge _ _ ((nv 16 (List.take j104 l) : Nat) : Int) 1152921504606846976 false _ (decide_eq_false (by omega))) λ A=>qt_<|cf_ A rfl ?_
     refine wk_<|tn_<|sw_<|Z 2 A rfl λ A=>qs A rfl (d_conv 16 (wn rfl) (A.ev rfl) knd3 knd122 rfl λ _ A=>B2 A rfl (b_mulK (((nv 16 (List.take j104 l) : Nat) : Int) * 16) (wrq64 (by omega) (by omega))) λ A=>Z 1 A rfl λ A=>qt_<|sw_<|Z 2 A rfl λ A=>qs A rfl (d_conv (((y116.toNat : Nat) : Int) - 48) (wn rfl) (A.ev rfl) knd5 knd122 (wrq64 (by omega) (by omega)) λ _ A=>?_))
     refine B2 A rfl (b_addK (((nv 16 (List.take j104 l) : Nat) : Int) * 16 + (((y116.toNat : Nat) : Int) - 48)) (wrq64 (by omega) (by omega))) λ A=>Z 1 A rfl @λ a212 A=>qe_ ?_
     have A : St 172 [(1, (J 16)), (6, (.int .u64 0)), (7, (.nilIface)), (8, (.bool false)), (9, (.string (S l))), (10, (.int .u64 1152921504606846976)), (11, (.int .u64 18446744073709551615)), (12, (.bool false)), (13, (.int .u64 (((nv 16 (List.take j104 l) : Nat) : Int) * 16))), (17, (.int .u64 (((nv 16 (List.take j104 l) : Nat) : Int) * 16 + (((y116.toNat : Nat) : Int) - 48)))), (99, v92), (100, (J ((l.length : Nat) : Int))), (101, (J ((j104 : Nat) : Int)))] a212 := A.sub rfl
     refine tn_<|ws_<|sw_<|Z 2 A rfl λ A=>B2 A rfl (b_lt _ _ (((nv 16 (List.take j104 l) : Nat) : Int) * 16 + (((y116.toNat : Nat) : Int) - 48)) (((nv 16 (List.take j104 l) : Nat) : Int) * 16) false _ (decide_eq_false (by omega))) λ A=>Z 3 A rfl λ A=>B2 A rfl (b_gt _ _ (((nv 16 (List.take j104 l) : Nat) : Int) * 16 + (((y116.toNat : Nat) : Int) - 48)) 18446744073709551615 false _ (decide_eq_false (by omega))) λ A=>Z 1 A rfl λ A=>qt_<|cf_ A rfl<|wk_<|tn_ ?_
     refine wr_<|Z 2 A rfl λ A=>qe_<|i_norm<|tn_<|wr_<|B2 A rfl (b_addE (j104 + 1) (by omega) (by omega)) λ A=>Z 1 A rfl λ A=>qt_ ?_
     have hgo := nv_go (bs := 16) hy117
     have hall2 := all_go hy117 hall (by omega)
     exact ⟨l.length - (j104 + 1), (by rw [hm110]; omega), j104 + 1, rfl, ⟨by omega, hall2⟩, A.cut _ (fc (A.g 1 rfl) (fc (A.g 6 rfl) (fc (A.g 7 rfl) (fc (A.g 8 rfl) (fc (A.g 9 rfl) (fc (A.g 10 rfl) (fc (A.g 11 rfl) (fc (A.g 12 rfl) (fc ((A.g 13 rfl).trans (congrArg (Value.int .u64) (by omega))) (fc (A.g 99 rfl) (fc (A.g 100 rfl) (fc (A.g 101 rfl) fn_)))))))))))), b109⟩
    have hq239 := df_ hb155
    refine B2 A rfl (ble_ hb155) λ A=>Z 2 A rfl λ A=>qt_<|cf_ A rfl<|sw_<|Z 1 A rfl λ A=>?_
    have hlw := lowB_le y116
    refine C A rfl ent169 (lower_any y116 w107) ?_
    rintro e251 w248 ⟨he250, hG249⟩
    have hr252 := range_below hr121 hG249 (Nat.lt_of_lt_of_le lt120 b109.size)
    have b253 := bls b109 hG249
    refine ⟨(.int .u8 ((lwcB y116 : Nat) : Int)), he250, λ _ A=>?_⟩
    rcases eb_ (decide ((97 : Int) ≤ ((lwcB y116 : Nat) : Int))) with hb256 | hb256
    ·skip
     have hq257 := dt_ hb256
     refine B2 A rfl (ble_ hb256) λ A=>Z 2 A rfl λ A=>?_
     have hlw := lowB_le y116
     refine C A rfl ent169 (lower_any y116 w248) ?_
     rintro e267 w264 ⟨he266, hG265⟩
     have hr268 := range_below hr252 hG265 (Nat.lt_of_lt_of_le lt120 b253.size)
     have b269 := bls b253 hG265
     refine ⟨(.int .u8 ((lwcB y116 : Nat) : Int)), he266, λ _ A=>?_⟩
     rcases eb_ (decide (((lwcB y116 : Nat) : Int) ≤ 122)) with hb272 | hb272
     ·skip
      have hq273 := dt_ hb272
      refine B2 A rfl (ble_ hb272) λ A=>Z 2 A rfl λ A=>qt_<|ct_ A rfl<|wr_<|Z 1 A rfl λ A=>?_
      have hlw := lowB_le y116
      refine C A rfl ent169 (lower_any y116 w264) ?_
      rintro e285 w282 ⟨he284, hG283⟩
      have hr286 := range_below hr268 hG283 (Nat.lt_of_lt_of_le lt120 b269.size)
      have b287 := bls b269 hG283
      refine ⟨(.int .u8 ((lwcB y116 : Nat) : Int)), he284, λ _ A=>B2 A rfl (b_subK (((lwcB y116 : Nat) : Int) - 97) (wrap8 (by omega) (by omega))) λ A=>B2 A rfl (b_addK (((lwcB y116 : Nat) : Int) - 97 + 10) (wrap8 (by omega) (by omega))) λ A=>Z 1 A rfl λ A=>?_⟩
      have hdv : dv y116 = lwcB y116 - 97 + 10 := dv_let (by omega) (by omega) (by omega)
      refine qe_<|i_norm<|tn_<|ws_<|sw_<|Z 2 A rfl λ A=>qs A rfl (d_conv 16 (wn rfl) (A.ev rfl) knd3 knd5 rfl λ _ A=>?_)
      rcases eb_ (decide (((lwcB y116 : Nat) : Int) - 97 + 10 ≥ 16)) with hb302 | hb302
      ·skip
       have hq303 := dt_ hb302
       refine B2 A rfl (bge_ hb302) @λ a304 A=>qe_ ?_
       have A : St 172 [(1, (J 16)), (6, (.int .u64 0)), (7, (.nilIface)), (8, (.bool false)), (9, (.string (S l))), (10, (.int .u64 1152921504606846976)), (11, (.int .u64 18446744073709551615)), (12, (.bool false)), (13, (.int .u64 ((nv 16 (List.take j104 l) : Nat) : Int))), (16, (.int .u8 (((lwcB y116 : Nat) : Int) - 97 + 10))), (99, v92), (100, (J ((l.length : Nat) : Int))), (101, (J ((j104 : Nat) : Int))), (137, (.bool true))] a304 := A.sub rfl
       refine tn_<|ct_ A rfl<|sw_<|qs A rfl (d_iface (wn rfl) (A.ev rfl) conc179 λ _ A=>Z 2 A rfl λ A=>qt_<|we_<|tr_<|i_ret<|tr_<|tr_<|i_ret ?_)
       refine tr_<|ret2 (x := (.int .u64 0)) (y := (.iface 179 (J 2))) rfl A rfl rfl ?_
       exact ⟨by rw [pu_none (val_bad hy117 (by first | omega | (rw [dv_bad (by omega) (by omega)]; omega)))], Grow.trans b96 b287⟩
      have hq313 := df_ hb302
      refine B2 A rfl (bge_ hb302) @λ a314 A=>qe_ ?_
      have A : St 172 [(1, (J 16)), (6, (.int .u64 0)), (7, (.nilIface)), (8, (.bool false)), (9, (.string (S l))), (10, (.int .u64 1152921504606846976)), (11, (.int .u64 18446744073709551615)), (12, (.bool false)), (13, (.int .u64 ((nv 16 (List.take j104 l) : Nat) : Int))), (16, (.int .u8 (((lwcB y116 : Nat) : Int) - 97 + 10))), (99, v92), (100, (J ((l.length : Nat) : Int))), (101, (J ((j104 : Nat) : Int))), (137, (.bool false))] a314 := A.sub rfl
      refine tn_<|cf_ A rfl<|wk_<|tn_<|ws_<|sw_<|Z 2 A rfl λ A=>B2 A rfl (b_ge _ _ ((nv 16 (List.take j104 l) : Nat) : Int) 1152921504606846976 false _ (decide_eq_false (by omega))) λ A=>qt_<|cf_ A rfl<|wk_<|tn_ ?_
      refine sw_<|Z 2 A rfl λ A=>qs A rfl (d_conv 16 (wn rfl) (A.ev rfl) knd3 knd122 rfl λ _ A=>B2 A rfl (b_mulK (((nv 16 (List.take j104 l) : Nat) : Int) * 16) (wrq64 (by omega) (by omega))) λ A=>Z 1 A rfl λ A=>qt_<|sw_<|Z 2 A rfl λ A=>qs A rfl (d_conv (((lwcB y116 : Nat) : Int) - 97 + 10) (wn rfl) (A.ev rfl) knd5 knd122 (wrq64 (by omega) (by omega)) λ _ A=>B2 A rfl (b_addK (((nv 16 (List.take j104 l) : Nat) : Int) * 16 + (((lwcB y116 : Nat) : Int) - 97 + 10)) (wrq64 (by omega) (by omega))) λ A=>Z 1 A rfl λ A=>?_))
      refine qt_<|ws_<|sw_<|Z 2 A rfl λ A=>B2 A rfl (b_lt _ _ (((nv 16 (List.take j104 l) : Nat) : Int) * 16 + (((lwcB y116 : Nat) : Int) - 97 + 10)) (((nv 16 (List.take j104 l) : Nat) : Int) * 16) false _ (decide_eq_false (by omega))) λ A=>Z 3 A rfl λ A=>B2 A rfl (b_gt _ _ (((nv 16 (List.take j104 l) : Nat) : Int) * 16 + (((lwcB y116 : Nat) : Int) - 97 + 10)) 18446744073709551615 false _ (decide_eq_false (by omega))) λ A=>Z 1 A rfl λ A=>qt_<|cf_ A rfl<|wk_ ?_
      refine tn_<|wr_<|Z 2 A rfl λ A=>qe_<|i_norm<|tn_<|wr_<|B2 A rfl (b_addE (j104 + 1) (by omega) (by omega)) λ A=>Z 1 A rfl λ A=>qt_ ?_
      have hgo := nv_go (bs := 16) hy117
      have hall2 := all_go hy117 hall (by omega)
      exact ⟨l.length - (j104 + 1), (by rw [hm110]; omega), j104 + 1, rfl, ⟨by omega, hall2⟩, A.cut _ (fc (A.g 1 rfl) (fc (A.g 6 rfl) (fc (A.g 7 rfl) (fc (A.g 8 rfl) (fc (A.g 9 rfl) (fc (A.g 10 rfl) (fc (A.g 11 rfl) (fc (A.g 12 rfl) (fc ((A.g 13 rfl).trans (congrArg (Value.int .u64) (by omega))) (fc (A.g 99 rfl) (fc (A.g 100 rfl) (fc (A.g 101 rfl) fn_)))))))))))), b287⟩
     have hq367 := df_ hb272
     refine B2 A rfl (ble_ hb272) λ A=>Z 2 A rfl λ A=>qt_<|cf_ A rfl<|sw_<|qs A rfl (d_iface (wn rfl) (A.ev rfl) conc179 λ _ A=>Z 2 A rfl λ A=>qt_<|we_<|i_ret<|tr_ ?_)
     refine i_ret<|tr_<|tr_<|i_ret<|tr_<|ret2 (x := (.int .u64 0)) (y := (.iface 179 (J 2))) rfl A rfl rfl ?_
     exact ⟨by rw [pu_none (val_bad hy117 (by first | omega | (rw [dv_bad (by omega) (by omega)]; omega)))], Grow.trans b96 b269⟩
    have hq380 := df_ hb256
    refine B2 A rfl (ble_ hb256) λ A=>Z 6 A rfl λ A=>qt_<|cf_ A rfl<|sw_<|qs A rfl (d_iface (wn rfl) (A.ev rfl) conc179 λ _ A=>Z 2 A rfl λ A=>qt_<|we_<|i_ret<|tr_ ?_)
    refine i_ret<|tr_<|tr_<|i_ret<|tr_<|ret2 (x := (.int .u64 0)) (y := (.iface 179 (J 2))) rfl A rfl rfl ?_
    exact ⟨by rw [pu_none (val_bad hy117 (by first | omega | (rw [dv_bad (by omega) (by omega)]; omega)))], Grow.trans b96 b253⟩
   have hq401 := df_ hb147
   refine B2 A rfl (ble_ hb147) λ A=>Z 5 A rfl λ A=>qt_<|cf_ A rfl<|sw_<|Z 1 A rfl λ A=>?_
   have hlw := lowB_le y116
   refine C A rfl ent169 (lower_any y116 w107) ?_
   rintro e419 w416 ⟨he418, hG417⟩
   have hr420 := range_below hr121 hG417 (Nat.lt_of_lt_of_le lt120 b109.size)
   have b421 := bls b109 hG417
   refine ⟨(.int .u8 ((lwcB y116 : Nat) : Int)), he418, λ _ A=>?_⟩
   rcases eb_ (decide ((97 : Int) ≤ ((lwcB y116 : Nat) : Int))) with hb424 | hb424
   ·skip
    have hq425 := dt_ hb424
    refine B2 A rfl (ble_ hb424) λ A=>Z 2 A rfl λ A=>?_
    have hlw := lowB_le y116
    refine C A rfl ent169 (lower_any y116 w416) ?_
    rintro e435 w432 ⟨he434, hG433⟩
    have hr436 := range_below hr420 hG433 (Nat.lt_of_lt_of_le lt120 b421.size)
    have b437 := bls b421 hG433
    refine ⟨(.int .u8 ((lwcB y116 : Nat) : Int)), he434, λ _ A=>?_⟩
    rcases eb_ (decide (((lwcB y116 : Nat) : Int) ≤ 122)) with hb440 | hb440
    ·skip
     have hq441 := dt_ hb440
     refine B2 A rfl (ble_ hb440) λ A=>Z 2 A rfl λ A=>qt_<|ct_ A rfl<|wr_<|Z 1 A rfl λ A=>?_
     have hlw := lowB_le y116
     refine C A rfl ent169 (lower_any y116 w432) ?_
     rintro e453 w450 ⟨he452, hG451⟩
     have hr454 := range_below hr436 hG451 (Nat.lt_of_lt_of_le lt120 b437.size)
     have b455 := bls b437 hG451
     refine ⟨(.int .u8 ((lwcB y116 : Nat) : Int)), he452, λ _ A=>B2 A rfl (b_subK (((lwcB y116 : Nat) : Int) - 97) (wrap8 (by omega) (by omega))) λ A=>B2 A rfl (b_addK (((lwcB y116 : Nat) : Int) - 97 + 10) (wrap8 (by omega) (by omega))) λ A=>Z 1 A rfl λ A=>?_⟩
     have hdv : dv y116 = lwcB y116 - 97 + 10 := dv_let (by omega) (by omega) (by omega)
     refine qe_<|i_norm<|tn_<|ws_<|sw_<|Z 2 A rfl λ A=>qs A rfl (d_conv 16 (wn rfl) (A.ev rfl) knd3 knd5 rfl λ _ A=>?_)
     rcases eb_ (decide (((lwcB y116 : Nat) : Int) - 97 + 10 ≥ 16)) with hb470 | hb470
     ·skip
      have hq471 := dt_ hb470
      refine B2 A rfl (bge_ hb470) @λ a472 A=>qe_ ?_
      have A : St 172 [(1, (J 16)), (6, (.int .u64 0)), (7, (.nilIface)), (8, (.bool false)), (9, (.string (S l))), (10, (.int .u64 1152921504606846976)), (11, (.int .u64 18446744073709551615)), (12, (.bool false)), (13, (.int .u64 ((nv 16 (List.take j104 l) : Nat) : Int))), (16, (.int .u8 (((lwcB y116 : Nat) : Int) - 97 + 10))), (99, v92), (100, (J ((l.length : Nat) : Int))), (101, (J ((j104 : Nat) : Int))), (137, (.bool true))] a472 := A.sub rfl
      refine tn_<|ct_ A rfl<|sw_<|qs A rfl (d_iface (wn rfl) (A.ev rfl) conc179 λ _ A=>Z 2 A rfl λ A=>qt_<|we_<|tr_<|i_ret<|tr_<|tr_<|i_ret ?_)
      refine tr_<|ret2 (x := (.int .u64 0)) (y := (.iface 179 (J 2))) rfl A rfl rfl ?_
      exact ⟨by rw [pu_none (val_bad hy117 (by first | omega | (rw [dv_bad (by omega) (by omega)]; omega)))], Grow.trans b96 b455⟩
     have hq481 := df_ hb470
     refine B2 A rfl (bge_ hb470) @λ a482 A=>qe_ ?_
     have A : St 172 [(1, (J 16)), (6, (.int .u64 0)), (7, (.nilIface)), (8, (.bool false)), (9, (.string (S l))), (10, (.int .u64 1152921504606846976)), (11, (.int .u64 18446744073709551615)), (12, (.bool false)), (13, (.int .u64 ((nv 16 (List.take j104 l) : Nat) : Int))), (16, (.int .u8 (((lwcB y116 : Nat) : Int) - 97 + 10))), (99, v92), (100, (J ((l.length : Nat) : Int))), (101, (J ((j104 : Nat) : Int))), (137, (.bool false))] a482 := A.sub rfl
     refine tn_<|cf_ A rfl<|wk_<|tn_<|ws_<|sw_<|Z 2 A rfl λ A=>B2 A rfl (b_ge _ _ ((nv 16 (List.take j104 l) : Nat) : Int) 1152921504606846976 false _ (decide_eq_false (by omega))) λ A=>qt_<|cf_ A rfl<|wk_<|tn_ ?_
     refine sw_<|Z 2 A rfl λ A=>qs A rfl (d_conv 16 (wn rfl) (A.ev rfl) knd3 knd122 rfl λ _ A=>B2 A rfl (b_mulK (((nv 16 (List.take j104 l) : Nat) : Int) * 16) (wrq64 (by omega) (by omega))) λ A=>Z 1 A rfl λ A=>qt_<|sw_<|Z 2 A rfl λ A=>qs A rfl (d_conv (((lwcB y116 : Nat) : Int) - 97 + 10) (wn rfl) (A.ev rfl) knd5 knd122 (wrq64 (by omega) (by omega)) λ _ A=>B2 A rfl (b_addK (((nv 16 (List.take j104 l) : Nat) : Int) * 16 + (((lwcB y116 : Nat) : Int) - 97 + 10)) (wrq64 (by omega) (by omega))) λ A=>Z 1 A rfl λ A=>?_))
     refine qt_<|ws_<|sw_<|Z 2 A rfl λ A=>B2 A rfl (b_lt _ _ (((nv 16 (List.take j104 l) : Nat) : Int) * 16 + (((lwcB y116 : Nat) : Int) - 97 + 10)) (((nv 16 (List.take j104 l) : Nat) : Int) * 16) false _ (decide_eq_false (by omega))) λ A=>Z 3 A rfl λ A=>B2 A rfl (b_gt _ _ (((nv 16 (List.take j104 l) : Nat) : Int) * 16 + (((lwcB y116 : Nat) : Int) - 97 + 10)) 18446744073709551615 false _ (decide_eq_false (by omega))) λ A=>Z 1 A rfl λ A=>qt_<|cf_ A rfl<|wk_ ?_
     refine tn_<|wr_<|Z 2 A rfl λ A=>qe_<|i_norm<|tn_<|wr_<|B2 A rfl (b_addE (j104 + 1) (by omega) (by omega)) λ A=>Z 1 A rfl λ A=>qt_ ?_
     have hgo := nv_go (bs := 16) hy117
     have hall2 := all_go hy117 hall (by omega)
     exact ⟨l.length - (j104 + 1), (by rw [hm110]; omega), j104 + 1, rfl, ⟨by omega, hall2⟩, A.cut _ (fc (A.g 1 rfl) (fc (A.g 6 rfl) (fc (A.g 7 rfl) (fc (A.g 8 rfl) (fc (A.g 9 rfl) (fc (A.g 10 rfl) (fc (A.g 11 rfl) (fc (A.g 12 rfl) (fc ((A.g 13 rfl).trans (congrArg (Value.int .u64) (by omega))) (fc (A.g 99 rfl) (fc (A.g 100 rfl) (fc (A.g 101 rfl) fn_)))))))))))), b455⟩
    have hq535 := df_ hb440
    refine B2 A rfl (ble_ hb440) λ A=>Z 2 A rfl λ A=>qt_<|cf_ A rfl<|sw_<|qs A rfl (d_iface (wn rfl) (A.ev rfl) conc179 λ _ A=>Z 2 A rfl λ A=>qt_<|we_<|i_ret<|tr_ ?_)
    refine i_ret<|tr_<|tr_<|i_ret<|tr_<|ret2 (x := (.int .u64 0)) (y := (.iface 179 (J 2))) rfl A rfl rfl ?_
    exact ⟨by rw [pu_none (val_bad hy117 (by first | omega | (rw [dv_bad (by omega) (by omega)]; omega)))], Grow.trans b96 b437⟩
   have hq548 := df_ hb424
   refine B2 A rfl (ble_ hb424) λ A=>Z 6 A rfl λ A=>qt_<|cf_ A rfl<|sw_<|qs A rfl (d_iface (wn rfl) (A.ev rfl) conc179 λ _ A=>Z 2 A rfl λ A=>qt_<|we_<|i_ret<|tr_ ?_)
   refine i_ret<|tr_<|tr_<|i_ret<|tr_<|ret2 (x := (.int .u64 0)) (y := (.iface 179 (J 2))) rfl A rfl rfl ?_
   exact ⟨by rw [pu_none (val_bad hy117 (by first | omega | (rw [dv_bad (by omega) (by omega)]; omega)))], Grow.trans b96 b421⟩
  have hq569 := ne_of_beq hb133
  refine B2 A rfl (bq hb133) λ A=>Z 4 A rfl λ A=>qt_<|cf_ A rfl<|sw_<|Z 1 A rfl λ A=>?_
  rcases eb_ (decide ((48 : Int) ≤ ((y116.toNat : Nat) : Int))) with hb582 | hb582
  ·skip
   have hq583 := dt_ hb582
   refine B2 A rfl (ble_ hb582) λ A=>Z 2 A rfl λ A=>?_
   rcases eb_ (decide (((y116.toNat : Nat) : Int) ≤ 57)) with hb590 | hb590
   ·skip
    have hq591 := dt_ hb590
    refine B2 A rfl (ble_ hb590) λ A=>Z 2 A rfl λ A=>qt_<|ct_ A rfl<|wr_<|Z 1 A rfl λ A=>B2 A rfl (b_subK (((y116.toNat : Nat) : Int) - 48) (wrap8 (by omega) (by omega))) λ A=>Z 1 A rfl λ A=>?_
    have hdv : dv y116 = y116.toNat - 48 := dv_dig (by omega) (by omega)
    refine qe_<|i_norm<|tn_<|ws_<|sw_<|Z 2 A rfl λ A=>qs A rfl (d_conv 16 (wn rfl) (A.ev rfl) knd3 knd5 rfl λ _ A=>?_)
    rcases eb_ (decide (((y116.toNat : Nat) : Int) - 48 ≥ 16)) with hb610 | hb610
    ·skip
     have hq611 := dt_ hb610
     refine B2 A rfl (bge_ hb610) λ A=>qt_<|ct_ A rfl<|sw_<|qs A rfl (d_iface (wn rfl) (A.ev rfl) conc179 λ _ A=>Z 2 A rfl λ A=>qt_<|we_<|tr_<|i_ret<|tr_ ?_)
     refine tr_<|i_ret<|tr_<|ret2 (x := (.int .u64 0)) (y := (.iface 179 (J 2))) rfl A rfl rfl ?_
     exact ⟨by rw [pu_none (val_bad hy117 (by first | omega | (rw [dv_bad (by omega) (by omega)]; omega)))], Grow.trans b96 b109⟩
    have hq620 := df_ hb610
    refine B2 A rfl (bge_ hb610) λ A=>qt_<|cf_ A rfl<|wk_<|tn_<|ws_<|sw_<|Z 2 A rfl λ A=>B2 A rfl (b_ge _ _ ((nv 16 (List.take j104 l) : Nat) : Int) 1152921504606846976 false _ (decide_eq_false (by omega))) λ A=>qt_<|cf_ A rfl ?_
    refine wk_<|tn_<|sw_<|Z 2 A rfl λ A=>qs A rfl (d_conv 16 (wn rfl) (A.ev rfl) knd3 knd122 rfl λ _ A=>B2 A rfl (b_mulK (((nv 16 (List.take j104 l) : Nat) : Int) * 16) (wrq64 (by omega) (by omega))) λ A=>Z 1 A rfl λ A=>qt_<|sw_<|Z 2 A rfl λ A=>qs A rfl (d_conv (((y116.toNat : Nat) : Int) - 48) (wn rfl) (A.ev rfl) knd5 knd122 (wrq64 (by omega) (by omega)) λ _ A=>?_))
    refine B2 A rfl (b_addK (((nv 16 (List.take j104 l) : Nat) : Int) * 16 + (((y116.toNat : Nat) : Int) - 48)) (wrq64 (by omega) (by omega))) λ A=>Z 1 A rfl @λ a647 A=>qe_ ?_
    have A : St 172 [(1, (J 16)), (6, (.int .u64 0)), (7, (.nilIface)), (8, (.bool false)), (9, (.string (S l))), (10, (.int .u64 1152921504606846976)), (11, (.int .u64 18446744073709551615)), (12, (.bool false)), (13, (.int .u64 (((nv 16 (List.take j104 l) : Nat) : Int) * 16))), (17, (.int .u64 (((nv 16 (List.take j104 l) : Nat) : Int) * 16 + (((y116.toNat : Nat) : Int) - 48)))), (99, v92), (100, (J ((l.length : Nat) : Int))), (101, (J ((j104 : Nat) : Int)))] a647 := A.sub rfl
    refine tn_<|ws_<|sw_<|Z 2 A rfl λ A=>B2 A rfl (b_lt _ _ (((nv 16 (List.take j104 l) : Nat) : Int) * 16 + (((y116.toNat : Nat) : Int) - 48)) (((nv 16 (List.take j104 l) : Nat) : Int) * 16) false _ (decide_eq_false (by omega))) λ A=>Z 3 A rfl λ A=>B2 A rfl (b_gt _ _ (((nv 16 (List.take j104 l) : Nat) : Int) * 16 + (((y116.toNat : Nat) : Int) - 48)) 18446744073709551615 false _ (decide_eq_false (by omega))) λ A=>Z 1 A rfl λ A=>qt_<|cf_ A rfl<|wk_<|tn_ ?_
    refine wr_<|Z 2 A rfl λ A=>qe_<|i_norm<|tn_<|wr_<|B2 A rfl (b_addE (j104 + 1) (by omega) (by omega)) λ A=>Z 1 A rfl λ A=>qt_ ?_
    have hgo := nv_go (bs := 16) hy117
    have hall2 := all_go hy117 hall (by omega)
    exact ⟨l.length - (j104 + 1), (by rw [hm110]; omega), j104 + 1, rfl, ⟨by omega, hall2⟩, A.cut _ (fc (A.g 1 rfl) (fc (A.g 6 rfl) (fc (A.g 7 rfl) (fc (A.g 8 rfl) (fc (A.g 9 rfl) (fc (A.g 10 rfl) (fc (A.g 11 rfl) (fc (A.g 12 rfl) (fc ((A.g 13 rfl).trans (congrArg (Value.int .u64) (by omega))) (fc (A.g 99 rfl) (fc (A.g 100 rfl) (fc (A.g 101 rfl) fn_)))))))))))), b109⟩
   have hq674 := df_ hb590
   refine B2 A rfl (ble_ hb590) λ A=>Z 2 A rfl λ A=>qt_<|cf_ A rfl<|sw_<|Z 1 A rfl λ A=>?_
   have hlw := lowB_le y116
   refine C A rfl ent169 (lower_any y116 w107) ?_
   rintro e686 w683 ⟨he685, hG684⟩
   have hr687 := range_below hr121 hG684 (Nat.lt_of_lt_of_le lt120 b109.size)
   have b688 := bls b109 hG684
   refine ⟨(.int .u8 ((lwcB y116 : Nat) : Int)), he685, λ _ A=>?_⟩
   rcases eb_ (decide ((97 : Int) ≤ ((lwcB y116 : Nat) : Int))) with hb691 | hb691
   ·skip
    have hq692 := dt_ hb691
    refine B2 A rfl (ble_ hb691) λ A=>Z 2 A rfl λ A=>?_
    have hlw := lowB_le y116
    refine C A rfl ent169 (lower_any y116 w683) ?_
    rintro e702 w699 ⟨he701, hG700⟩
    have hr703 := range_below hr687 hG700 (Nat.lt_of_lt_of_le lt120 b688.size)
    have b704 := bls b688 hG700
    refine ⟨(.int .u8 ((lwcB y116 : Nat) : Int)), he701, λ _ A=>?_⟩
    rcases eb_ (decide (((lwcB y116 : Nat) : Int) ≤ 122)) with hb707 | hb707
    ·skip
     have hq708 := dt_ hb707
     refine B2 A rfl (ble_ hb707) λ A=>Z 2 A rfl λ A=>qt_<|ct_ A rfl<|wr_<|Z 1 A rfl λ A=>?_
     have hlw := lowB_le y116
     refine C A rfl ent169 (lower_any y116 w699) ?_
     rintro e720 w717 ⟨he719, hG718⟩
     have hr721 := range_below hr703 hG718 (Nat.lt_of_lt_of_le lt120 b704.size)
     have b722 := bls b704 hG718
     refine ⟨(.int .u8 ((lwcB y116 : Nat) : Int)), he719, λ _ A=>B2 A rfl (b_subK (((lwcB y116 : Nat) : Int) - 97) (wrap8 (by omega) (by omega))) λ A=>B2 A rfl (b_addK (((lwcB y116 : Nat) : Int) - 97 + 10) (wrap8 (by omega) (by omega))) λ A=>Z 1 A rfl λ A=>?_⟩
     have hdv : dv y116 = lwcB y116 - 97 + 10 := dv_let (by omega) (by omega) (by omega)
     refine qe_<|i_norm<|tn_<|ws_<|sw_<|Z 2 A rfl λ A=>qs A rfl (d_conv 16 (wn rfl) (A.ev rfl) knd3 knd5 rfl λ _ A=>?_)
     rcases eb_ (decide (((lwcB y116 : Nat) : Int) - 97 + 10 ≥ 16)) with hb737 | hb737
     ·skip
      have hq738 := dt_ hb737
      refine B2 A rfl (bge_ hb737) @λ a739 A=>qe_ ?_
      have A : St 172 [(1, (J 16)), (6, (.int .u64 0)), (7, (.nilIface)), (8, (.bool false)), (9, (.string (S l))), (10, (.int .u64 1152921504606846976)), (11, (.int .u64 18446744073709551615)), (12, (.bool false)), (13, (.int .u64 ((nv 16 (List.take j104 l) : Nat) : Int))), (16, (.int .u8 (((lwcB y116 : Nat) : Int) - 97 + 10))), (99, v92), (100, (J ((l.length : Nat) : Int))), (101, (J ((j104 : Nat) : Int))), (137, (.bool true))] a739 := A.sub rfl
      refine tn_<|ct_ A rfl<|sw_<|qs A rfl (d_iface (wn rfl) (A.ev rfl) conc179 λ _ A=>Z 2 A rfl λ A=>qt_<|we_<|tr_<|i_ret<|tr_<|tr_<|i_ret ?_)
      refine tr_<|ret2 (x := (.int .u64 0)) (y := (.iface 179 (J 2))) rfl A rfl rfl ?_
      exact ⟨by rw [pu_none (val_bad hy117 (by first | omega | (rw [dv_bad (by omega) (by omega)]; omega)))], Grow.trans b96 b722⟩
     have hq748 := df_ hb737
     refine B2 A rfl (bge_ hb737) @λ a749 A=>qe_ ?_
     have A : St 172 [(1, (J 16)), (6, (.int .u64 0)), (7, (.nilIface)), (8, (.bool false)), (9, (.string (S l))), (10, (.int .u64 1152921504606846976)), (11, (.int .u64 18446744073709551615)), (12, (.bool false)), (13, (.int .u64 ((nv 16 (List.take j104 l) : Nat) : Int))), (16, (.int .u8 (((lwcB y116 : Nat) : Int) - 97 + 10))), (99, v92), (100, (J ((l.length : Nat) : Int))), (101, (J ((j104 : Nat) : Int))), (137, (.bool false))] a749 := A.sub rfl
     refine tn_<|cf_ A rfl<|wk_<|tn_<|ws_<|sw_<|Z 2 A rfl λ A=>B2 A rfl (b_ge _ _ ((nv 16 (List.take j104 l) : Nat) : Int) 1152921504606846976 false _ (decide_eq_false (by omega))) λ A=>qt_<|cf_ A rfl<|wk_<|tn_ ?_
     refine sw_<|Z 2 A rfl λ A=>qs A rfl (d_conv 16 (wn rfl) (A.ev rfl) knd3 knd122 rfl λ _ A=>B2 A rfl (b_mulK (((nv 16 (List.take j104 l) : Nat) : Int) * 16) (wrq64 (by omega) (by omega))) λ A=>Z 1 A rfl λ A=>qt_<|sw_<|Z 2 A rfl λ A=>qs A rfl (d_conv (((lwcB y116 : Nat) : Int) - 97 + 10) (wn rfl) (A.ev rfl) knd5 knd122 (wrq64 (by omega) (by omega)) λ _ A=>B2 A rfl (b_addK (((nv 16 (List.take j104 l) : Nat) : Int) * 16 + (((lwcB y116 : Nat) : Int) - 97 + 10)) (wrq64 (by omega) (by omega))) λ A=>Z 1 A rfl λ A=>?_))
     refine qt_<|ws_<|sw_<|Z 2 A rfl λ A=>B2 A rfl (b_lt _ _ (((nv 16 (List.take j104 l) : Nat) : Int) * 16 + (((lwcB y116 : Nat) : Int) - 97 + 10)) (((nv 16 (List.take j104 l) : Nat) : Int) * 16) false _ (decide_eq_false (by omega))) λ A=>Z 3 A rfl λ A=>B2 A rfl (b_gt _ _ (((nv 16 (List.take j104 l) : Nat) : Int) * 16 + (((lwcB y116 : Nat) : Int) - 97 + 10)) 18446744073709551615 false _ (decide_eq_false (by omega))) λ A=>Z 1 A rfl λ A=>qt_<|cf_ A rfl<|wk_ ?_
     refine tn_<|wr_<|Z 2 A rfl λ A=>qe_<|i_norm<|tn_<|wr_<|B2 A rfl (b_addE (j104 + 1) (by omega) (by omega)) λ A=>Z 1 A rfl λ A=>qt_ ?_
     have hgo := nv_go (bs := 16) hy117
     have hall2 := all_go hy117 hall (by omega)
     exact ⟨l.length - (j104 + 1), (by rw [hm110]; omega), j104 + 1, rfl, ⟨by omega, hall2⟩, A.cut _ (fc (A.g 1 rfl) (fc (A.g 6 rfl) (fc (A.g 7 rfl) (fc (A.g 8 rfl) (fc (A.g 9 rfl) (fc (A.g 10 rfl) (fc (A.g 11 rfl) (fc (A.g 12 rfl) (fc ((A.g 13 rfl).trans (congrArg (Value.int .u64) (by omega))) (fc (A.g 99 rfl) (fc (A.g 100 rfl) (fc (A.g 101 rfl) fn_)))))))))))), b722⟩
    have hq802 := df_ hb707
    refine B2 A rfl (ble_ hb707) λ A=>Z 2 A rfl λ A=>qt_<|cf_ A rfl<|sw_<|qs A rfl (d_iface (wn rfl) (A.ev rfl) conc179 λ _ A=>Z 2 A rfl λ A=>qt_<|we_<|i_ret<|tr_ ?_)
    refine i_ret<|tr_<|tr_<|i_ret<|tr_<|ret2 (x := (.int .u64 0)) (y := (.iface 179 (J 2))) rfl A rfl rfl ?_
    exact ⟨by rw [pu_none (val_bad hy117 (by first | omega | (rw [dv_bad (by omega) (by omega)]; omega)))], Grow.trans b96 b704⟩
   have hq815 := df_ hb691
   refine B2 A rfl (ble_ hb691) λ A=>Z 6 A rfl λ A=>qt_<|cf_ A rfl<|sw_<|qs A rfl (d_iface (wn rfl) (A.ev rfl) conc179 λ _ A=>Z 2 A rfl λ A=>qt_<|we_<|i_ret<|tr_ ?_)
   refine i_ret<|tr_<|tr_<|i_ret<|tr_<|ret2 (x := (.int .u64 0)) (y := (.iface 179 (J 2))) rfl A rfl rfl ?_
   exact ⟨by rw [pu_none (val_bad hy117 (by first | omega | (rw [dv_bad (by omega) (by omega)]; omega)))], Grow.trans b96 b688⟩
  have hq836 := df_ hb582
  refine B2 A rfl (ble_ hb582) λ A=>Z 5 A rfl λ A=>qt_<|cf_ A rfl<|sw_<|Z 1 A rfl λ A=>?_
  have hlw := lowB_le y116
  refine C A rfl ent169 (lower_any y116 w107) ?_
  rintro e854 w851 ⟨he853, hG852⟩
  have hr855 := range_below hr121 hG852 (Nat.lt_of_lt_of_le lt120 b109.size)
  have b856 := bls b109 hG852
  refine ⟨(.int .u8 ((lwcB y116 : Nat) : Int)), he853, λ _ A=>?_⟩
  rcases eb_ (decide ((97 : Int) ≤ ((lwcB y116 : Nat) : Int))) with hb859 | hb859
  ·skip
   have hq860 := dt_ hb859
   refine B2 A rfl (ble_ hb859) λ A=>Z 2 A rfl λ A=>?_
   have hlw := lowB_le y116
   refine C A rfl ent169 (lower_any y116 w851) ?_
   rintro e870 w867 ⟨he869, hG868⟩
   have hr871 := range_below hr855 hG868 (Nat.lt_of_lt_of_le lt120 b856.size)
   have b872 := bls b856 hG868
   refine ⟨(.int .u8 ((lwcB y116 : Nat) : Int)), he869, λ _ A=>?_⟩
   rcases eb_ (decide (((lwcB y116 : Nat) : Int) ≤ 122)) with hb875 | hb875
   ·skip
    have hq876 := dt_ hb875
    refine B2 A rfl (ble_ hb875) λ A=>Z 2 A rfl λ A=>qt_<|ct_ A rfl<|wr_<|Z 1 A rfl λ A=>?_
    have hlw := lowB_le y116
    refine C A rfl ent169 (lower_any y116 w867) ?_
    rintro e888 w885 ⟨he887, hG886⟩
    have hr889 := range_below hr871 hG886 (Nat.lt_of_lt_of_le lt120 b872.size)
    have b890 := bls b872 hG886
    refine ⟨(.int .u8 ((lwcB y116 : Nat) : Int)), he887, λ _ A=>B2 A rfl (b_subK (((lwcB y116 : Nat) : Int) - 97) (wrap8 (by omega) (by omega))) λ A=>B2 A rfl (b_addK (((lwcB y116 : Nat) : Int) - 97 + 10) (wrap8 (by omega) (by omega))) λ A=>Z 1 A rfl λ A=>?_⟩
    have hdv : dv y116 = lwcB y116 - 97 + 10 := dv_let (by omega) (by omega) (by omega)
    refine qe_<|i_norm<|tn_<|ws_<|sw_<|Z 2 A rfl λ A=>qs A rfl (d_conv 16 (wn rfl) (A.ev rfl) knd3 knd5 rfl λ _ A=>?_)
    rcases eb_ (decide (((lwcB y116 : Nat) : Int) - 97 + 10 ≥ 16)) with hb905 | hb905
    ·skip
     have hq906 := dt_ hb905
     refine B2 A rfl (bge_ hb905) @λ a907 A=>qe_ ?_
     have A : St 172 [(1, (J 16)), (6, (.int .u64 0)), (7, (.nilIface)), (8, (.bool false)), (9, (.string (S l))), (10, (.int .u64 1152921504606846976)), (11, (.int .u64 18446744073709551615)), (12, (.bool false)), (13, (.int .u64 ((nv 16 (List.take j104 l) : Nat) : Int))), (16, (.int .u8 (((lwcB y116 : Nat) : Int) - 97 + 10))), (99, v92), (100, (J ((l.length : Nat) : Int))), (101, (J ((j104 : Nat) : Int))), (137, (.bool true))] a907 := A.sub rfl
     refine tn_<|ct_ A rfl<|sw_<|qs A rfl (d_iface (wn rfl) (A.ev rfl) conc179 λ _ A=>Z 2 A rfl λ A=>qt_<|we_<|tr_<|i_ret<|tr_<|tr_<|i_ret ?_)
     refine tr_<|ret2 (x := (.int .u64 0)) (y := (.iface 179 (J 2))) rfl A rfl rfl ?_
     exact ⟨by rw [pu_none (val_bad hy117 (by first | omega | (rw [dv_bad (by omega) (by omega)]; omega)))], Grow.trans b96 b890⟩
    have hq916 := df_ hb905
    refine B2 A rfl (bge_ hb905) @λ a917 A=>qe_ ?_
    have A : St 172 [(1, (J 16)), (6, (.int .u64 0)), (7, (.nilIface)), (8, (.bool false)), (9, (.string (S l))), (10, (.int .u64 1152921504606846976)), (11, (.int .u64 18446744073709551615)), (12, (.bool false)), (13, (.int .u64 ((nv 16 (List.take j104 l) : Nat) : Int))), (16, (.int .u8 (((lwcB y116 : Nat) : Int) - 97 + 10))), (99, v92), (100, (J ((l.length : Nat) : Int))), (101, (J ((j104 : Nat) : Int))), (137, (.bool false))] a917 := A.sub rfl
    refine tn_<|cf_ A rfl<|wk_<|tn_<|ws_<|sw_<|Z 2 A rfl λ A=>B2 A rfl (b_ge _ _ ((nv 16 (List.take j104 l) : Nat) : Int) 1152921504606846976 false _ (decide_eq_false (by omega))) λ A=>qt_<|cf_ A rfl<|wk_<|tn_ ?_
    refine sw_<|Z 2 A rfl λ A=>qs A rfl (d_conv 16 (wn rfl) (A.ev rfl) knd3 knd122 rfl λ _ A=>B2 A rfl (b_mulK (((nv 16 (List.take j104 l) : Nat) : Int) * 16) (wrq64 (by omega) (by omega))) λ A=>Z 1 A rfl λ A=>qt_<|sw_<|Z 2 A rfl λ A=>qs A rfl (d_conv (((lwcB y116 : Nat) : Int) - 97 + 10) (wn rfl) (A.ev rfl) knd5 knd122 (wrq64 (by omega) (by omega)) λ _ A=>B2 A rfl (b_addK (((nv 16 (List.take j104 l) : Nat) : Int) * 16 + (((lwcB y116 : Nat) : Int) - 97 + 10)) (wrq64 (by omega) (by omega))) λ A=>Z 1 A rfl λ A=>?_))
    refine qt_<|ws_<|sw_<|Z 2 A rfl λ A=>B2 A rfl (b_lt _ _ (((nv 16 (List.take j104 l) : Nat) : Int) * 16 + (((lwcB y116 : Nat) : Int) - 97 + 10)) (((nv 16 (List.take j104 l) : Nat) : Int) * 16) false _ (decide_eq_false (by omega))) λ A=>Z 3 A rfl λ A=>B2 A rfl (b_gt _ _ (((nv 16 (List.take j104 l) : Nat) : Int) * 16 + (((lwcB y116 : Nat) : Int) - 97 + 10)) 18446744073709551615 false _ (decide_eq_false (by omega))) λ A=>Z 1 A rfl λ A=>qt_<|cf_ A rfl<|wk_ ?_
    refine tn_<|wr_<|Z 2 A rfl λ A=>qe_<|i_norm<|tn_<|wr_<|B2 A rfl (b_addE (j104 + 1) (by omega) (by omega)) λ A=>Z 1 A rfl λ A=>qt_ ?_
    have hgo := nv_go (bs := 16) hy117
    have hall2 := all_go hy117 hall (by omega)
    exact ⟨l.length - (j104 + 1), (by rw [hm110]; omega), j104 + 1, rfl, ⟨by omega, hall2⟩, A.cut _ (fc (A.g 1 rfl) (fc (A.g 6 rfl) (fc (A.g 7 rfl) (fc (A.g 8 rfl) (fc (A.g 9 rfl) (fc (A.g 10 rfl) (fc (A.g 11 rfl) (fc (A.g 12 rfl) (fc ((A.g 13 rfl).trans (congrArg (Value.int .u64) (by omega))) (fc (A.g 99 rfl) (fc (A.g 100 rfl) (fc (A.g 101 rfl) fn_)))))))))))), b890⟩
   have hq970 := df_ hb875
   refine B2 A rfl (ble_ hb875) λ A=>Z 2 A rfl λ A=>qt_<|cf_ A rfl<|sw_<|qs A rfl (d_iface (wn rfl) (A.ev rfl) conc179 λ _ A=>Z 2 A rfl λ A=>qt_<|we_<|i_ret<|tr_ ?_)
   refine i_ret<|tr_<|tr_<|i_ret<|tr_<|ret2 (x := (.int .u64 0)) (y := (.iface 179 (J 2))) rfl A rfl rfl ?_
   exact ⟨by rw [pu_none (val_bad hy117 (by first | omega | (rw [dv_bad (by omega) (by omega)]; omega)))], Grow.trans b96 b872⟩
  have hq983 := df_ hb859
  refine B2 A rfl (ble_ hb859) λ A=>Z 6 A rfl λ A=>qt_<|cf_ A rfl<|sw_<|qs A rfl (d_iface (wn rfl) (A.ev rfl) conc179 λ _ A=>Z 2 A rfl λ A=>qt_<|we_<|i_ret<|tr_ ?_)
  refine i_ret<|tr_<|tr_<|i_ret<|tr_<|ret2 (x := (.int .u64 0)) (y := (.iface 179 (J 2))) rfl A rfl rfl ?_
  exact ⟨by rw [pu_none (val_bad hy117 (by first | omega | (rw [dv_bad (by omega) (by omega)]; omega)))], Grow.trans b96 b856⟩
 have hq1004 := df_ hb112
 refine B2 A rfl (bl hb112) λ A=>qt_<|ws_<|cf_ A rfl<|wp_exit<|t_exit<|t_exit<|i_here<|tn_<|ws_<|sw_<|Z 6 A rfl λ A=>?_
 refine qt_<|cf_ A rfl<|wk_<|tn_<|sw_<|Z 3 A rfl λ A=>qt_<|we_<|ret2 (x := (.int .u64 ((nv 16 (List.take j104 l) : Nat) : Int))) (y := (.nilIface)) rfl A rfl rfl ?_
 exact ⟨by rw [pu_some (val_end (eqL_ne hb9) hall (by omega))], Grow.trans b96 b109⟩
end Go.Proofs.YtjkbjjlfijhbdaaGreatDoor
namespace Go.Proofs.YtjkbjjlfijhbdaaGreatDoor
open Go.Shelf Go.RowKit
set_option linter.defProp false
set_option maxHeartbeats 4000000
set_option maxRecDepth 100000
set_option linter.unusedVariables false
set_option linter.unusedSimpArgs false
def laysPu_ren : Go.Shelf.Ren := ⟨fun | 14 => 100 | 16 => 140 | 17 => 141 | 19 => 169 | 20 => 170 | 21 => 171 | 22 => 172 | 23 => 173 | 24 => 174 | 25 => 196 | 27 => 121 | 26 => 197 | 28 => 161 | 29 => 193 | 30 => 203 | 31 => 204 | 32 => 205 | 33 => 206 | 35 => 209 | 34 => 208 | 36 => 210 | 37 => 211 | 38 => 212 | 39 => 214 | 40 => 215 | n => n, fun | 9 => 9 | 3 => 3 | 22 => 122 | 24 => 124 | 25 => 125 | 4 => 4 | 34 => 179 | 5 => 5 | 36 => 160 | 37 => 143 | 0 => 0 | 39 => 181 | 21 => 21 | 44 => 198 | 47 => 174 | 50 => 212 | 48 => 210 | 2 => 2 | 52 => 205 | 55 => 208 | 59 => 215 | 60 => 176 | 20 => 20 | 61 => 216 | 65 => 219 | 66 => 220 | 67 => 137 | n => n, fun | 0 => 1 | 1 => 2 | 2 => 5 | 3 => 6 | 4 => 7 | n => n⟩
theorem laysPu : Go.Proofs.LaysPu.n14 Tryz.prog laysPu_ren := {
 mixed := by kernel_rfl
 f14 := Tryz.func100.trans (congrArg some (by kernel_rfl))
 f16 := Tryz.func140.trans (congrArg some (by kernel_rfl))
 f17 := Tryz.func141.trans (congrArg some (by kernel_rfl))
 f19 := Tryz.func169.trans (congrArg some (by kernel_rfl))
 f20 := Tryz.func170.trans (congrArg some (by kernel_rfl))
 f21 := Tryz.func171.trans (congrArg some (by kernel_rfl))
 f22 := Tryz.func172.trans (congrArg some (by kernel_rfl))
 f23 := Tryz.func173.trans (congrArg some (by kernel_rfl))
 f24 := Tryz.func174.trans (congrArg some (by kernel_rfl))
 f25 := Tryz.func196.trans (congrArg some (by kernel_rfl))
 f26 := Tryz.func197.trans (congrArg some (by kernel_rfl))
 f27 := Tryz.func121.trans (congrArg some (by kernel_rfl))
 f28 := Tryz.func161.trans (congrArg some (by kernel_rfl))
 f29 := Tryz.func193.trans (congrArg some (by kernel_rfl))
 f30 := Tryz.func203.trans (congrArg some (by kernel_rfl))
 f31 := Tryz.func204.trans (congrArg some (by kernel_rfl))
 f32 := Tryz.func205.trans (congrArg some (by kernel_rfl))
 f33 := Tryz.func206.trans (congrArg some (by kernel_rfl))
 f34 := Tryz.func208.trans (congrArg some (by kernel_rfl))
 f35 := Tryz.func209.trans (congrArg some (by kernel_rfl))
 f36 := Tryz.func210.trans (congrArg some (by kernel_rfl))
 f37 := Tryz.func211.trans (congrArg some (by kernel_rfl))
 f38 := Tryz.func212.trans (congrArg some (by kernel_rfl))
 f39 := Tryz.func214.trans (congrArg some (by kernel_rfl))
 f40 := Tryz.func215.trans (congrArg some (by kernel_rfl))
 t0 := Tryz.underlying0
 a0 := Tryz.isAgg0
 z0 := Tryz.sizeOf0
 v0 := Tryz.zeroValue0
 i0 := by kernel_rfl
 t2 := Tryz.underlying2
 a2 := Tryz.isAgg2
 z2 := Tryz.sizeOf2
 v2 := Tryz.zeroValue2
 i2 := by kernel_rfl
 t3 := Tryz.underlying3
 a3 := Tryz.isAgg3
 z3 := Tryz.sizeOf3
 v3 := Tryz.zeroValue3
 i3 := by kernel_rfl
 t4 := Tryz.underlying4
 a4 := Tryz.isAgg4
 z4 := Tryz.sizeOf4
 v4 := Tryz.zeroValue4
 i4 := by kernel_rfl
 t5 := Tryz.underlying5
 a5 := Tryz.isAgg5
 z5 := Tryz.sizeOf5
 v5 := Tryz.zeroValue5
 i5 := by kernel_rfl
 t9 := Tryz.underlying9
 a9 := Tryz.isAgg9
 z9 := Tryz.sizeOf9
 v9 := Tryz.zeroValue9
 i9 := by kernel_rfl
 t20 := Tryz.underlying20
 a20 := Tryz.isAgg20
 z20 := Tryz.sizeOf20
 v20 := Tryz.zeroValue20
 i20 := by kernel_rfl
 t21 := Tryz.underlying21
 a21 := Tryz.isAgg21
 z21 := Tryz.sizeOf21
 v21 := Tryz.zeroValue21
 i21 := by kernel_rfl
 t22 := Tryz.underlying122
 a22 := Tryz.isAgg122
 z22 := Tryz.sizeOf122
 v22 := Tryz.zeroValue122
 i22 := by kernel_rfl
 t24 := Tryz.underlying124
 a24 := Tryz.isAgg124
 z24 := Tryz.sizeOf124
 v24 := Tryz.zeroValue124
 i24 := by kernel_rfl
 t25 := Tryz.underlying125
 a25 := Tryz.isAgg125
 z25 := Tryz.sizeOf125
 v25 := Tryz.zeroValue125
 i25 := by kernel_rfl
 t34 := Tryz.underlying179
 a34 := Tryz.isAgg179
 z34 := Tryz.sizeOf179
 v34 := Tryz.zeroValue179
 i34 := by kernel_rfl
 c34 := by kernel_rfl
 t36 := Tryz.underlying160
 a36 := Tryz.isAgg160
 z36 := Tryz.sizeOf160
 v36 := Tryz.zeroValue160
 i36 := by kernel_rfl
 t37 := Tryz.underlying143
 a37 := Tryz.isAgg143
 z37 := Tryz.sizeOf143
 v37 := Tryz.zeroValue143
 i37 := by kernel_rfl
 t39 := Tryz.underlying181
 a39 := Tryz.isAgg181
 z39 := Tryz.sizeOf181
 v39 := Tryz.zeroValue181
 i39 := by kernel_rfl
 t44 := Tryz.underlying198
 a44 := Tryz.isAgg198
 z44 := Tryz.sizeOf198
 v44 := Tryz.zeroValue198
 i44 := by kernel_rfl
 t47 := Tryz.underlying174
 a47 := Tryz.isAgg174
 z47 := Tryz.sizeOf174
 v47 := Tryz.zeroValue174
 i47 := by kernel_rfl
 t48 := Tryz.underlying210
 a48 := Tryz.isAgg210
 z48 := Tryz.sizeOf210
 v48 := Tryz.zeroValue210
 i48 := by kernel_rfl
 t50 := Tryz.underlying212
 a50 := Tryz.isAgg212
 z50 := Tryz.sizeOf212
 v50 := Tryz.zeroValue212
 i50 := by kernel_rfl
 t52 := Tryz.underlying205
 a52 := Tryz.isAgg205
 z52 := Tryz.sizeOf205
 v52 := Tryz.zeroValue205
 i52 := by kernel_rfl
 t55 := Tryz.underlying208
 a55 := Tryz.isAgg208
 z55 := Tryz.sizeOf208
 v55 := Tryz.zeroValue208
 i55 := by kernel_rfl
 t59 := Tryz.underlying215
 a59 := Tryz.isAgg215
 z59 := Tryz.sizeOf215
 v59 := Tryz.zeroValue215
 i59 := by kernel_rfl
 t60 := Tryz.underlying176
 a60 := Tryz.isAgg176
 z60 := Tryz.sizeOf176
 v60 := Tryz.zeroValue176
 i60 := by kernel_rfl
 t61 := Tryz.underlying216
 a61 := Tryz.isAgg216
 z61 := Tryz.sizeOf216
 t65 := Tryz.underlying219
 a65 := Tryz.isAgg219
 z65 := Tryz.sizeOf219
 v65 := Tryz.zeroValue219
 i65 := by kernel_rfl
 t66 := Tryz.underlying220
 a66 := Tryz.isAgg220
 z66 := Tryz.sizeOf220
 v66 := Tryz.zeroValue220
 i66 := by kernel_rfl
 t67 := Tryz.underlying137
 a67 := Tryz.isAgg137
 z67 := Tryz.sizeOf137
 v67 := Tryz.zeroValue137
 i67 := by kernel_rfl
 g0 := by kernel_rfl
 m0 := by kernel_rfl
 g1 := by kernel_rfl
 m1 := by kernel_rfl
 g2 := by kernel_rfl
 m2 := by kernel_rfl
 g3 := by kernel_rfl
 m3 := by kernel_rfl
 g4 := by kernel_rfl
 m4 := by kernel_rfl }
theorem map5 {a : Act} {p q r s t : Operand} {b c d e f : Value} (h1 : a.eval p = b) (h2 : a.eval q = c) (h3 : a.eval r = d) (h4 : a.eval s = e) (h5 : a.eval t = f) : (#[p, q, r, s, t] : Array Operand).map a.eval = #[b, c, d, e, f] := by
 simp only [List.map_toArray, List.map_cons, List.map_nil, h1, h2, h3, h4, h5]
theorem toError_any (fn l : List UInt8) (base bits : Int) (ev : Value) (w : World) (hl : l.length ≤ 19) (hv : w.cell? ⟨1, 0, none⟩ = some ev) (hev : ev = .nilIface ∨ ∃ te pe, ev = .iface te pe) :
  Calls Tryz.prog 141 #[.string (S fn), .string (S l), .int .i64 base, .int .i64 bits, .iface 179 (.int .i64 2)] w fun e w' => (∃ N, e = .returned (.iface 181 (.pointer (some ⟨N, 0, none⟩)))) ∧ Grow w w' := by
 refine (AnyPu.strconv_toError_syntax { laysPu with } (S fn) (S l) base bits ev w (by rw [S_size]; omega) hv hev).mono ?_
 rintro e w' ⟨N, he, _, _, hb⟩
 exact ⟨⟨N, he⟩, hb⟩
end Go.Proofs.YtjkbjjlfijhbdaaGreatDoor
namespace Go.Proofs.YtjkbjjlfijhbdaaGreatDoor
open Go.RowKit
set_option linter.defProp false
set_option maxHeartbeats 4000000
set_option maxRecDepth 100000
set_option linter.unusedVariables false
set_option linter.unusedSimpArgs false
theorem ent100 : Ent Tryz.prog 100 = FF := by kernel_rfl
theorem ent140 : Ent Tryz.prog 140 = FF := by kernel_rfl
theorem ent141 : Ent Tryz.prog 141 = FF := by kernel_rfl
theorem ent99 : Ent Tryz.prog 99 = FF := by kernel_rfl
theorem ifc124 : Tryz.prog.underlying 124 = some (.interface (Tryz.prog.methodsAt 124)) := by kernel_rfl
theorem places28 : placesOf Tryz.prog 28 = some [(0, 1), (1, 1), (2, 1), (3, 1)] := by kernel_rfl
theorem row28 : rowB Tryz.prog 28 4 = true := by kernel_rfl
theorem zero28 : (Tryz.prog.info? 28).map (λ i => (i.zero, i.size)) = some (some (.agg #[J 0, .string (S []), J 0, J 0]), 4) := by kernel_rfl
theorem parse10_or (l : List UInt8) (w : World) (hl : l.length ≤ 19) : Calls Tryz.prog 140 #[.string (S l), J 10, J 64] w λ e w' => ((∃ n : Nat, valL 10 l = some n ∧ e = .returned (.tuple #[.int .u64 (n : Int), .nilIface])) ∨ (valL 10 l = none ∧ e = .returned (.tuple #[.int .u64 0, .iface 179 (J 2)]))) ∧ Grow w w' := by
 refine (parse10_in l w hl).mono λ e w' ⟨he, hG⟩ => ⟨?_, hG⟩
 cases hv : valL 10 l with
 | none => exact .inr ⟨rfl, by rw [he, pu_none hv]⟩
 | some n => exact .inl ⟨n, rfl, by rw [he, pu_some hv]⟩
theorem parse16_or (l : List UInt8) (w : World) (hl : l.length ≤ 16) : Calls Tryz.prog 140 #[.string (S l), J 16, J 64] w λ e w' => ((∃ n : Nat, valL 16 l = some n ∧ e = .returned (.tuple #[.int .u64 (n : Int), .nilIface])) ∨ (valL 16 l = none ∧ e = .returned (.tuple #[.int .u64 0, .iface 179 (J 2)]))) ∧ Grow w w' := by
 refine (parse16_in l w hl).mono λ e w' ⟨he, hG⟩ => ⟨?_, hG⟩
 cases hv : valL 16 l with
 | none => exact .inr ⟨rfl, by rw [he, pu_none hv]⟩
 | some n => exact .inl ⟨n, rfl, by rw [he, pu_some hv]⟩
theorem pub10_or (l : List UInt8) (w : World) (hl : l.length ≤ 19) (ev : Value) (hev1 : w.cell? ⟨1, 0, none⟩ = some ev) (hev2 : ev = .nilIface ∨ ∃ te pe, ev = .iface te pe) : Calls Tryz.prog 100 #[.string (S l), J 10, J 64] w λ e w' => ((∃ n : Nat, valL 10 l = some n ∧ e = .returned (.tuple #[.int .u64 (n : Int), .nilIface])) ∨ (valL 10 l = none ∧ ∃ N, e = .returned (.tuple #[.int .u64 0, .iface 181 (.pointer (some ⟨N, 0, none⟩))]))) ∧ Grow w w' := by
 have b0 := Grow.refl w
 refine enter (n := 26) Tryz.func100 rfl rfl (nb_ rfl) λ _ A=>sw_<|Z 2 A rfl λ A=>qt_<|sw_<|Z 3 A rfl λ A=>C A rfl ent140 (parse10_or l w (by omega)) ?_
 rintro e16 w13 ⟨⟨n17, hv19, he15⟩ | ⟨hv19, he15⟩, hG14⟩
 ·skip
  have b20 := bls b0 hG14
  refine ⟨(.tuple #[(.int .u64 ((n17 : Nat) : Int)), (.nilIface)]), he15, λ _ A=>Z 5 A rfl λ A=>qt_<|ws_<|sw_<|Z 1 A rfl λ A=>B2 A rfl (b_nilNe ifc124) λ A=>qt_<|cf_ A rfl<|wk_<|tn_ ?_⟩
  refine sw_<|Z 3 A rfl λ A=>qt_<|we_<|ret2 (x := (.int .u64 ((n17 : Nat) : Int))) (y := (.nilIface)) rfl A rfl rfl ?_
  exact ⟨.inl ⟨n17, hv19, rfl⟩, b20⟩
 have b43 := bls b0 hG14
 refine ⟨(.tuple #[(.int .u64 0), (.iface 179 (J 2))]), he15, λ _ A=>Z 5 A rfl λ A=>qt_<|ws_<|sw_<|Z 1 A rfl λ A=>B2 A rfl (b_ifcNe ifc124) λ A=>qt_<|ct_ A rfl<|sw_ ?_⟩
 refine Z 5 A rfl λ A=>C A rfl ent141 (toError_any [80, 97, 114, 115, 101, 85, 105, 110, 116] l 10 64 ev w13 (by omega) (cell_keep hev1 b43) hev2) ?_
 rintro e73 w70 ⟨⟨N74, he72⟩, hG71⟩
 have b75 := bls b43 hG71
 refine ⟨(.iface 181 (.pointer (some ⟨N74, 0, none⟩))), he72, λ _ A=>Z 2 A rfl λ A=>qt_<|we_<|tr_<|ret2 (x := (.int .u64 0)) (y := (.iface 181 (.pointer (some ⟨N74, 0, none⟩)))) rfl A rfl rfl ?_⟩
 exact ⟨.inr ⟨hv19, N74, rfl⟩, b75⟩
theorem pub16_or (l : List UInt8) (w : World) (hl : l.length ≤ 16) (ev : Value) (hev1 : w.cell? ⟨1, 0, none⟩ = some ev) (hev2 : ev = .nilIface ∨ ∃ te pe, ev = .iface te pe) : Calls Tryz.prog 100 #[.string (S l), J 16, J 64] w λ e w' => ((∃ n : Nat, valL 16 l = some n ∧ e = .returned (.tuple #[.int .u64 (n : Int), .nilIface])) ∨ (valL 16 l = none ∧ ∃ N, e = .returned (.tuple #[.int .u64 0, .iface 181 (.pointer (some ⟨N, 0, none⟩))]))) ∧ Grow w w' := by
 have b0 := Grow.refl w
 refine enter (n := 26) Tryz.func100 rfl rfl (nb_ rfl) λ _ A=>sw_<|Z 2 A rfl λ A=>qt_<|sw_<|Z 3 A rfl λ A=>C A rfl ent140 (parse16_or l w (by omega)) ?_
 rintro e16 w13 ⟨⟨n17, hv19, he15⟩ | ⟨hv19, he15⟩, hG14⟩
 ·skip
  have b20 := bls b0 hG14
  refine ⟨(.tuple #[(.int .u64 ((n17 : Nat) : Int)), (.nilIface)]), he15, λ _ A=>Z 5 A rfl λ A=>qt_<|ws_<|sw_<|Z 1 A rfl λ A=>B2 A rfl (b_nilNe ifc124) λ A=>qt_<|cf_ A rfl<|wk_<|tn_ ?_⟩
  refine sw_<|Z 3 A rfl λ A=>qt_<|we_<|ret2 (x := (.int .u64 ((n17 : Nat) : Int))) (y := (.nilIface)) rfl A rfl rfl ?_
  exact ⟨.inl ⟨n17, hv19, rfl⟩, b20⟩
 have b43 := bls b0 hG14
 refine ⟨(.tuple #[(.int .u64 0), (.iface 179 (J 2))]), he15, λ _ A=>Z 5 A rfl λ A=>qt_<|ws_<|sw_<|Z 1 A rfl λ A=>B2 A rfl (b_ifcNe ifc124) λ A=>qt_<|ct_ A rfl<|sw_ ?_⟩
 refine Z 5 A rfl λ A=>C A rfl ent141 (toError_any [80, 97, 114, 115, 101, 85, 105, 110, 116] l 16 64 ev w13 (by omega) (cell_keep hev1 b43) hev2) ?_
 rintro e73 w70 ⟨⟨N74, he72⟩, hG71⟩
 have b75 := bls b43 hG71
 refine ⟨(.iface 181 (.pointer (some ⟨N74, 0, none⟩))), he72, λ _ A=>Z 2 A rfl λ A=>qt_<|we_<|tr_<|ret2 (x := (.int .u64 0)) (y := (.iface 181 (.pointer (some ⟨N74, 0, none⟩)))) rfl A rfl rfl ?_⟩
 exact ⟨.inr ⟨hv19, N74, rfl⟩, b75⟩
theorem number_any (l : List UInt8) (w : World) (hl : l.length ≤ 8192) (ev : Value) (hev1 : w.cell? ⟨1, 0, none⟩ = some ev) (hev2 : ev = .nilIface ∨ ∃ te pe, ev = .iface te pe) : Calls Tryz.prog 50 #[.string (S l)] w λ e w' => e = .returned (numV l (numR l)) ∧ Grow w w' := by
 have b0 := Grow.refl w
 refine enter (n := 41) Tryz.func50 rfl rfl (nb_ rfl) λ _ A=>sw_<|qs A rfl (dal (wn rfl) zero28 λ g3 w4 eg5 hG6 (m7 : Blk w4 g3 #[J 0, .string (S []), J 0, J 0] 28)=>?_)
 have ge8 : w.heap.size ≤ g3 := eg5 ▸ b0.size
 have b9 := bls b0 hG6
 intro _ A
 refine Z 1 A rfl λ A=>qt_<|sw_<|Z 4 A rfl λ A=>qt_<|ws_<|sw_<|Z 1 A rfl λ A=>C A rfl ent99 (cutPrefix_any l [48, 120] w4) ?_
 rintro e27 w24 ⟨he26, hG25⟩
 have m28 := m7.grow hG25
 have b29 := bls b9 hG25
 refine ⟨(.tuple #[(.string (S (cutF l [48, 120]))), (.bool (preB l [48, 120]))]), he26, λ _ A=>Z 5 A rfl λ A=>qt_<|sw_<|Z 1 A rfl λ A=>qt_ ?_⟩
 rcases eb_ (preB l [48, 120]) with hb44 | hb44
 ·skip
  have A := A.shadow (t := 17) rfl hb44
  refine ct_ A rfl<|wr_<|Z 4 A rfl λ A=>qt_<|ws_<|sw_<|Z 1 A rfl λ A=>qs A rfl (d_slen (wn rfl) (A.ev rfl) str9 λ _ A=>Z 1 A rfl λ A=>?_)
  rcases eb_ (decide ((((cutF l [48, 120]).length : Nat) : Int) > 16)) with hb61 | hb61
  ·skip
   have hq62 := dt_ hb61
   refine B2 A rfl (bg hb61) λ A=>qt_<|ct_ A rfl<|sw_<|qs A rfl (dbd (cs := #[J 0, .string (S []), J 0, J 0]) (wn rfl) (bp_of bq_nil) zero28 places28 (by kernel_rfl) λ _ A=>qs A rfl (dsr (wn rfl) (A.ev rfl) (A.ev rfl) row28 m28 rfl rfl λ w67 hU68 (m69 : Blk w67 g3 #[J 0, .string (S []), J 0, J 0] 28)=>?_))
   have b70 := hU68.below b29 ge8
   intro _ A
   refine Z 1 A rfl λ A=>qt_<|we_<|tr_<|retCT (g := g3) (cs := #[J 0, .string (S []), J 0, J 0]) (v := (J 23)) rfl A rfl rfl m69 row28 ?_
   exact ⟨by rw [num_longx hb44 (by omega)]; rfl, b70⟩
  have hq75 := df_ hb61
  refine B2 A rfl (bg hb61) λ A=>qt_<|cf_ A rfl<|wk_<|tn_<|sw_<|Z 2 A rfl λ A=>C A rfl ent100 (pub16_or (cutF l [48, 120]) w24 (by omega) ev (cell_keep hev1 b29) hev2) ?_
  rintro e85 w82 ⟨⟨n86, hv88, he84⟩ | ⟨hv88, N87, he84⟩, hG83⟩
  ·skip
   have m89 := m28.grow hG83
   have b90 := bls b29 hG83
   refine ⟨(.tuple #[(.int .u64 ((n86 : Nat) : Int)), (.nilIface)]), he84, λ _ A=>Z 5 A rfl λ A=>qt_<|ws_<|sw_<|Z 1 A rfl λ A=>B2 A rfl (b_nilNe ifc124) λ A=>Z 2 A rfl λ A=>?_⟩
   rcases eb_ (decide (((n86 : Nat) : Int) > 9223372036854775808)) with hb111 | hb111
   ·skip
    have hq112 := dt_ hb111
    refine B2 A rfl (bg hb111) λ A=>Z 1 A rfl λ A=>qt_<|ct_ A rfl<|sw_<|qs A rfl (dbd (cs := #[J 0, .string (S []), J 0, J 0]) (wn rfl) (bp_of bq_nil) zero28 places28 (by kernel_rfl) λ _ A=>qs A rfl (dsr (wn rfl) (A.ev rfl) (A.ev rfl) row28 m89 rfl rfl λ w119 hU120 (m121 : Blk w119 g3 #[J 0, .string (S []), J 0, J 0] 28)=>?_))
    have b122 := hU120.below b90 ge8
    intro _ A
    refine Z 1 A rfl λ A=>qt_<|we_<|tr_<|retCT (g := g3) (cs := #[J 0, .string (S []), J 0, J 0]) (v := (J 23)) rfl A rfl rfl m121 row28 ?_
    exact ⟨by rw [num_bigx hb44 hv88 (by omega)]; rfl, b122⟩
   have hq127 := df_ hb111
   refine B2 A rfl (bg hb111) λ A=>Z 1 A rfl λ A=>qt_<|cf_ A rfl<|wk_<|tn_<|sw_<|Z 2 A rfl λ A=>qs A rfl (d_conv (IntKind.wrap .i64 ((n86 : Nat) : Int)) (wn rfl) (A.ev rfl) knd122 knd3 rfl λ _ A=>qs A rfl (dbd (cs := #[J 2, .string (S l), J (IntKind.wrap .i64 ((n86 : Nat) : Int)), J 0]) (wn rfl) (bp_of (bq_cons (A.ev rfl) (bq_cons (A.ev rfl) (bq_cons (A.ev rfl) bq_nil)))) zero28 places28 (by kernel_rfl) λ _ A=>qs A rfl (dsr (wn rfl) (A.ev rfl) (A.ev rfl) row28 m89 rfl rfl λ w140 hU141 (m142 : Blk w140 g3 #[J 2, .string (S l), J (IntKind.wrap .i64 ((n86 : Nat) : Int)), J 0] 28)=>?_)))
   have b143 := hU141.below b90 ge8
   intro _ A
   refine Z 1 A rfl λ A=>qt_<|we_<|retCT (g := g3) (cs := #[J 2, .string (S l), J (IntKind.wrap .i64 ((n86 : Nat) : Int)), J 0]) (v := (J 0)) rfl A rfl rfl m142 row28 ?_
   exact ⟨by rw [num_okx hb44 (by omega) hv88 (by omega)]; rfl, b143⟩
  have m148 := m28.grow hG83
  have b149 := bls b29 hG83
  refine ⟨(.tuple #[(.int .u64 0), (.iface 181 (.pointer (some ⟨N87, 0, none⟩)))]), he84, λ _ A=>Z 5 A rfl λ A=>qt_<|ws_<|sw_<|Z 1 A rfl λ A=>B2 A rfl (b_ifcNe ifc124) λ A=>Z 4 A rfl λ A=>qt_<|ct_ A rfl<|ws_ ?_⟩
  refine wr_<|qs A rfl (dbd (cs := #[J 0, .string (S []), J 0, J 0]) (wn rfl) (bp_of bq_nil) zero28 places28 (by kernel_rfl) λ _ A=>qs A rfl (dsr (wn rfl) (A.ev rfl) (A.ev rfl) row28 m148 rfl rfl λ w176 hU177 (m178 : Blk w176 g3 #[J 0, .string (S []), J 0, J 0] 28)=>?_))
  have b179 := hU177.below b149 ge8
  intro _ A
  refine Z 1 A rfl λ A=>qt_<|we_<|tr_<|retCT (g := g3) (cs := #[J 0, .string (S []), J 0, J 0]) (v := (J 23)) rfl A rfl rfl m178 row28 ?_
  exact ⟨by rw [num_nonex hb44 hv88]; rfl, b179⟩
 have A := A.shadow (t := 17) rfl hb44
 refine cf_ A rfl<|wk_<|tn_<|ws_<|sw_<|Z 1 A rfl λ A=>qs A rfl (d_slen (wn rfl) (A.ev rfl) str9 λ _ A=>Z 1 A rfl λ A=>?_)
 rcases eb_ (decide (((l.length : Nat) : Int) > 19)) with hb192 | hb192
 ·skip
  have hq193 := dt_ hb192
  refine B2 A rfl (bg hb192) λ A=>qt_<|ct_ A rfl<|sw_<|qs A rfl (dbd (cs := #[J 0, .string (S []), J 0, J 0]) (wn rfl) (bp_of bq_nil) zero28 places28 (by kernel_rfl) λ _ A=>qs A rfl (dsr (wn rfl) (A.ev rfl) (A.ev rfl) row28 m28 rfl rfl λ w198 hU199 (m200 : Blk w198 g3 #[J 0, .string (S []), J 0, J 0] 28)=>?_))
  have b201 := hU199.below b29 ge8
  intro _ A
  refine Z 1 A rfl λ A=>qt_<|we_<|tr_<|retCT (g := g3) (cs := #[J 0, .string (S []), J 0, J 0]) (v := (J 23)) rfl A rfl rfl m200 row28 ?_
  exact ⟨by rw [num_longd hb44 (by omega)]; rfl, b201⟩
 have hq206 := df_ hb192
 refine B2 A rfl (bg hb192) λ A=>qt_<|cf_ A rfl<|wk_<|tn_<|sw_<|Z 2 A rfl λ A=>C A rfl ent100 (pub10_or l w24 (by omega) ev (cell_keep hev1 b29) hev2) ?_
 rintro e216 w213 ⟨⟨n217, hv219, he215⟩ | ⟨hv219, N218, he215⟩, hG214⟩
 ·skip
  have m220 := m28.grow hG214
  have b221 := bls b29 hG214
  refine ⟨(.tuple #[(.int .u64 ((n217 : Nat) : Int)), (.nilIface)]), he215, λ _ A=>Z 5 A rfl λ A=>qt_<|ws_<|sw_<|Z 1 A rfl λ A=>B2 A rfl (b_nilNe ifc124) λ A=>Z 2 A rfl λ A=>?_⟩
  rcases eb_ (decide (((n217 : Nat) : Int) > 9223372036854775808)) with hb242 | hb242
  ·skip
   have hq243 := dt_ hb242
   refine B2 A rfl (bg hb242) λ A=>Z 1 A rfl λ A=>qt_<|ct_ A rfl<|sw_<|qs A rfl (dbd (cs := #[J 0, .string (S []), J 0, J 0]) (wn rfl) (bp_of bq_nil) zero28 places28 (by kernel_rfl) λ _ A=>qs A rfl (dsr (wn rfl) (A.ev rfl) (A.ev rfl) row28 m220 rfl rfl λ w250 hU251 (m252 : Blk w250 g3 #[J 0, .string (S []), J 0, J 0] 28)=>?_))
   have b253 := hU251.below b221 ge8
   intro _ A
   refine Z 1 A rfl λ A=>qt_<|we_<|tr_<|retCT (g := g3) (cs := #[J 0, .string (S []), J 0, J 0]) (v := (J 23)) rfl A rfl rfl m252 row28 ?_
   exact ⟨by rw [num_bigd hb44 hv219 (by omega)]; rfl, b253⟩
  have hq258 := df_ hb242
  refine B2 A rfl (bg hb242) λ A=>Z 1 A rfl λ A=>qt_<|cf_ A rfl<|wk_<|tn_<|sw_<|Z 2 A rfl λ A=>qs A rfl (d_conv (IntKind.wrap .i64 ((n217 : Nat) : Int)) (wn rfl) (A.ev rfl) knd122 knd3 rfl λ _ A=>qs A rfl (dbd (cs := #[J 2, .string (S l), J (IntKind.wrap .i64 ((n217 : Nat) : Int)), J 0]) (wn rfl) (bp_of (bq_cons (A.ev rfl) (bq_cons (A.ev rfl) (bq_cons (A.ev rfl) bq_nil)))) zero28 places28 (by kernel_rfl) λ _ A=>qs A rfl (dsr (wn rfl) (A.ev rfl) (A.ev rfl) row28 m220 rfl rfl λ w271 hU272 (m273 : Blk w271 g3 #[J 2, .string (S l), J (IntKind.wrap .i64 ((n217 : Nat) : Int)), J 0] 28)=>?_)))
  have b274 := hU272.below b221 ge8
  intro _ A
  refine Z 1 A rfl λ A=>qt_<|we_<|retCT (g := g3) (cs := #[J 2, .string (S l), J (IntKind.wrap .i64 ((n217 : Nat) : Int)), J 0]) (v := (J 0)) rfl A rfl rfl m273 row28 ?_
  exact ⟨by rw [num_okd hb44 (by omega) hv219 (by omega)]; rfl, b274⟩
 have m279 := m28.grow hG214
 have b280 := bls b29 hG214
 refine ⟨(.tuple #[(.int .u64 0), (.iface 181 (.pointer (some ⟨N218, 0, none⟩)))]), he215, λ _ A=>Z 5 A rfl λ A=>qt_<|ws_<|sw_<|Z 1 A rfl λ A=>B2 A rfl (b_ifcNe ifc124) λ A=>Z 4 A rfl λ A=>qt_<|ct_ A rfl<|ws_ ?_⟩
 refine wr_<|qs A rfl (dbd (cs := #[J 0, .string (S []), J 0, J 0]) (wn rfl) (bp_of bq_nil) zero28 places28 (by kernel_rfl) λ _ A=>qs A rfl (dsr (wn rfl) (A.ev rfl) (A.ev rfl) row28 m279 rfl rfl λ w307 hU308 (m309 : Blk w307 g3 #[J 0, .string (S []), J 0, J 0] 28)=>?_))
 have b310 := hU308.below b280 ge8
 intro _ A
 refine Z 1 A rfl λ A=>qt_<|we_<|tr_<|retCT (g := g3) (cs := #[J 0, .string (S []), J 0, J 0]) (v := (J 23)) rfl A rfl rfl m309 row28 ?_
 exact ⟨by rw [num_noned hb44 hv219]; rfl, b310⟩
end Go.Proofs.YtjkbjjlfijhbdaaGreatDoor
namespace Go.Proofs.YtjkbjjlfijhbdaaGreatDoor
set_option linter.defProp false
set_option maxHeartbeats 4000000
set_option maxRecDepth 100000
set_option linter.unusedVariables false
set_option linter.unusedSimpArgs false
theorem mkN_le {l : List UInt8} (h : 0 < l.length) : mkN l ≤ l.length := by
 unfold mkN
 split
 ·next h1 =>
  rw [Bool.or_eq_true] at h1
  rcases h1 with h1 | h1
  ·exact pre_len h1
  ·exact pre_len h1
 ·split <;> split <;> omega
def firstR (l : List UInt8) : Tk × Int :=
 match l[0]? with
 | none => (tok0, 20)
 | some b =>
  if digB b then (match numR (l.take (rn numB l)) with | some n => (⟨2, l.take (rn numB l), n, 0⟩, 0) | none => (tok0, 23))
  else if nbgB b then (⟨1, l.take (rn namB l), 0, 0⟩, 0)
  else if mkN l > 0 then (⟨3, l.take (mkN l), 0, 0⟩, 0) else (tok0, 20)
section
variable {l : List UInt8} {b : UInt8}
theorem first_num {n : Int} (hb : l[0]? = some b) (h : digB b = true) (hn : numR (l.take (rn numB l)) = some n) : firstR l = (⟨2, l.take (rn numB l), n, 0⟩, 0) := by unfold firstR; simp [hb, h, hn]
theorem first_bad (hb : l[0]? = some b) (h : digB b = true) (hn : numR (l.take (rn numB l)) = none) : firstR l = (tok0, 23) := by unfold firstR; simp [hb, h, hn]
theorem first_name (hb : l[0]? = some b) (h : digB b = false) (h2 : nbgB b = true) : firstR l = (⟨1, l.take (rn namB l), 0, 0⟩, 0) := by unfold firstR; simp [hb, h, h2]
theorem first_mark (hb : l[0]? = some b) (h : digB b = false) (h2 : nbgB b = false) (h3 : mkN l > 0) : firstR l = (⟨3, l.take (mkN l), 0, 0⟩, 0) := by unfold firstR; simp [hb, h, h2, h3]
theorem first_byte (hb : l[0]? = some b) (h : digB b = false) (h2 : nbgB b = false) (h3 : ¬ mkN l > 0) : firstR l = (tok0, 20) := by unfold firstR; simp [hb, h, h2, h3]
end
end Go.Proofs.YtjkbjjlfijhbdaaGreatDoor
namespace Go.Proofs.YtjkbjjlfijhbdaaGreatDoor
open Go.RowKit
set_option linter.defProp false
set_option maxHeartbeats 4000000
set_option maxRecDepth 100000
set_option linter.unusedVariables false
set_option linter.unusedSimpArgs false
theorem ent50 : Ent Tryz.prog 50 = FF := by kernel_rfl
theorem ent51 : Ent Tryz.prog 51 = FF := by kernel_rfl
theorem ent52 : Ent Tryz.prog 52 = FF := by kernel_rfl
theorem ent54 : Ent Tryz.prog 54 = FF := by kernel_rfl
theorem ent55 : Ent Tryz.prog 55 = FF := by kernel_rfl
theorem number_or (l : List UInt8) (w : World) (hl : l.length ≤ 8192) (ev : Value) (hev1 : w.cell? ⟨1, 0, none⟩ = some ev) (hev2 : ev = .nilIface ∨ ∃ te pe, ev = .iface te pe) : Calls Tryz.prog 50 #[.string (S l)] w λ e w' => ((∃ n : Int, numR l = some n ∧ e = .returned (.tuple #[.agg (tokC ⟨2, l, n, 0⟩), J 0])) ∨ (numR l = none ∧ e = .returned (.tuple #[.agg (tokC tok0), J 23]))) ∧ Grow w w' := by
 refine (number_any l w hl ev hev1 hev2).mono λ e w' ⟨he, hG⟩ => ⟨?_, hG⟩
 cases hv : numR l with
 | none => exact .inr ⟨rfl, by rw [he, hv]; rfl⟩
 | some n => exact .inl ⟨n, rfl, by rw [he, hv]; rfl⟩
theorem first_any (l : List UInt8) (w : World) (h0 : 0 < l.length) (hl : l.length ≤ 8192) (ev : Value) (hev1 : w.cell? ⟨1, 0, none⟩ = some ev) (hev2 : ev = .nilIface ∨ ∃ te pe, ev = .iface te pe) : Calls Tryz.prog 25 #[.string (S l)] w λ e w' => e = .returned (.tuple #[.agg (tokC (firstR l).1), J (firstR l).2]) ∧ Grow w w' := by
 have b0 := Grow.refl w
 refine enter (n := 35) Tryz.func25 rfl rfl (nb_ rfl) λ _ A=>sw_<|qs A rfl (dal (wn rfl) zero28 λ g3 w4 eg5 hG6 (m7 : Blk w4 g3 #[J 0, .string (S []), J 0, J 0] 28)=>?_)
 have ge8 : w.heap.size ≤ g3 := eg5 ▸ b0.size
 have b9 := bls b0 hG6
 intro _ A
 refine Z 1 A rfl λ A=>qt_<|ws_<|sw_<|Z 1 A rfl λ A=>?_
 obtain ⟨y16, hy17⟩ : ∃ y16, l[0]? = some y16 := ⟨_, List.getElem?_eq_getElem (show 0 < l.length by omega)⟩
 refine qs A rfl (d_sat (j := 0) (wn rfl) (A.ev rfl) (A.ev rfl) str9 hy17 λ _ A=>Z 1 A rfl λ A=>qt_<|wp_block<|sw_<|Z 1 A rfl λ A=>C A rfl ent49 (isDigit_any y16 w4) ?_)
 rintro e27 w24 ⟨he26, hG25⟩
 have m28 := m7.grow hG25
 have b29 := bls b9 hG25
 rcases eb_ (digB y16) with hb30 | hb30
 ·skip
  refine ⟨.bool true, he26.trans (ret_bool hb30), λ _ A=>Z 1 A rfl λ A=>qt_<|ct_ A rfl<|sw_<|Z 2 A rfl λ A=>?_⟩
  have hrn := rn_le numB l
  refine C A rfl ent51 (run_any l 52 numB w24 (by omega) ent52 isNumberPart_any) ?_
  rintro e43 w40 ⟨he42, hG41⟩
  have m44 := m28.grow hG41
  have b45 := bls b29 hG41
  refine ⟨(J ((rn numB l : Nat) : Int)), he42, λ _ A=>qs A rfl (d_shead (n := rn numB l) (wn rfl) (A.ev rfl) (A.ev rfl) str9 (by omega) λ _ A=>C A rfl ent50 (number_or (List.take (rn numB l) l) w40 (by rw [List.length_take]; omega) ev (cell_keep hev1 b45) hev2) ?_)⟩
  rintro e53 w50 ⟨⟨n54, hv55, he52⟩ | ⟨hv55, he52⟩, hG51⟩
  ·skip
   have m56 := m44.grow hG51
   have b57 := bls b45 hG51
   refine ⟨(.tuple #[(.agg #[J 2, .string (S (List.take (rn numB l) l)), J n54, J 0]), (J 0)]), he52, λ _ A=>Z 2 A rfl λ A=>qs A rfl (dsr (wn rfl) (A.ev rfl) (A.ev rfl) row28 m56 rfl rfl λ w64 hU65 (m66 : Blk w64 g3 #[J 2, .string (S (List.take (rn numB l) l)), J n54, J 0] 28)=>?_)⟩
   have b67 := hU65.below b57 ge8
   intro _ A
   refine Z 1 A rfl λ A=>qt_<|we_<|i_ret<|tr_<|retCT (g := g3) (cs := #[J 2, .string (S (List.take (rn numB l) l)), J n54, J 0]) (v := (J 0)) rfl A rfl rfl m66 row28 ?_
   exact ⟨by rw [first_num hy17 hb30 hv55]; rfl, b67⟩
  have m72 := m44.grow hG51
  have b73 := bls b45 hG51
  refine ⟨(.tuple #[(.agg #[J 0, .string (S []), J 0, J 0]), (J 23)]), he52, λ _ A=>Z 2 A rfl λ A=>qs A rfl (dsr (wn rfl) (A.ev rfl) (A.ev rfl) row28 m72 rfl rfl λ w80 hU81 (m82 : Blk w80 g3 #[J 0, .string (S []), J 0, J 0] 28)=>?_)⟩
  have b83 := hU81.below b73 ge8
  intro _ A
  refine Z 1 A rfl λ A=>qt_<|we_<|i_ret<|tr_<|retCT (g := g3) (cs := #[J 0, .string (S []), J 0, J 0]) (v := (J 23)) rfl A rfl rfl m82 row28 ?_
  exact ⟨by rw [first_bad hy17 hb30 hv55]; rfl, b83⟩
 refine ⟨.bool false, he26.trans (ret_bool hb30), λ _ A=>Z 1 A rfl λ A=>qt_<|cf_ A rfl<|sw_<|Z 1 A rfl λ A=>C A rfl ent53 (isNameBegin_any y16 w24) ?_⟩
 rintro e98 w95 ⟨he97, hG96⟩
 have m99 := m28.grow hG96
 have b100 := bls b29 hG96
 rcases eb_ (nbgB y16) with hb101 | hb101
 ·skip
  refine ⟨.bool true, he97.trans (ret_bool hb101), λ _ A=>Z 1 A rfl λ A=>qt_<|ct_ A rfl<|sw_<|Z 2 A rfl λ A=>?_⟩
  have hrn := rn_le namB l
  refine C A rfl ent51 (run_any l 54 namB w95 (by omega) ent54 isNamePart_any) ?_
  rintro e114 w111 ⟨he113, hG112⟩
  have m115 := m99.grow hG112
  have b116 := bls b100 hG112
  refine ⟨(J ((rn namB l : Nat) : Int)), he113, λ _ A=>qs A rfl (d_shead (n := rn namB l) (wn rfl) (A.ev rfl) (A.ev rfl) str9 (by omega) λ _ A=>qs A rfl (dbd (cs := #[J 1, .string (S (List.take (rn namB l) l)), J 0, J 0]) (wn rfl) (bp_of (bq_cons (A.ev rfl) (bq_cons (A.ev rfl) bq_nil))) zero28 places28 (by kernel_rfl) λ _ A=>qs A rfl (dsr (wn rfl) (A.ev rfl) (A.ev rfl) row28 m115 rfl rfl λ w123 hU124 (m125 : Blk w123 g3 #[J 1, .string (S (List.take (rn namB l) l)), J 0, J 0] 28)=>?_)))⟩
  have b126 := hU124.below b116 ge8
  intro _ A
  refine Z 1 A rfl λ A=>qt_<|we_<|i_ret<|tr_<|retCT (g := g3) (cs := #[J 1, .string (S (List.take (rn namB l) l)), J 0, J 0]) (v := (J 0)) rfl A rfl rfl m125 row28 ?_
  exact ⟨by rw [first_name hy17 hb30 hb101]; rfl, b126⟩
 refine ⟨.bool false, he97.trans (ret_bool hb101), λ _ A=>Z 1 A rfl λ A=>qt_<|cf_ A rfl<|wk_<|i_norm<|tn_<|ws_<|sw_<|Z 1 A rfl λ A=>?_⟩
 have hmk := mkN_le (l := l) (by omega)
 refine C A rfl ent55 (markLen_any l w95 (by omega)) ?_
 rintro e141 w138 ⟨he140, hG139⟩
 have m142 := m99.grow hG139
 have b143 := bls b100 hG139
 refine ⟨(J ((mkN l : Nat) : Int)), he140, λ _ A=>Z 1 A rfl λ A=>qt_<|sw_<|Z 1 A rfl λ A=>?_⟩
 rcases eb_ (decide (((mkN l : Nat) : Int) > 0)) with hb150 | hb150
 ·skip
  have hq151 := dt_ hb150
  refine B2 A rfl (bg hb150) λ A=>qt_<|ct_ A rfl<|sw_<|Z 2 A rfl λ A=>qs A rfl (d_shead (n := mkN l) (wn rfl) (A.ev rfl) (A.ev rfl) str9 (by omega) λ _ A=>qs A rfl (dbd (cs := #[J 3, .string (S (List.take (mkN l) l)), J 0, J 0]) (wn rfl) (bp_of (bq_cons (A.ev rfl) (bq_cons (A.ev rfl) bq_nil))) zero28 places28 (by kernel_rfl) λ _ A=>qs A rfl (dsr (wn rfl) (A.ev rfl) (A.ev rfl) row28 m142 rfl rfl λ w162 hU163 (m164 : Blk w162 g3 #[J 3, .string (S (List.take (mkN l) l)), J 0, J 0] 28)=>?_)))
  have b165 := hU163.below b143 ge8
  intro _ A
  refine Z 1 A rfl λ A=>qt_<|we_<|tr_<|retCT (g := g3) (cs := #[J 3, .string (S (List.take (mkN l) l)), J 0, J 0]) (v := (J 0)) rfl A rfl rfl m164 row28 ?_
  exact ⟨by rw [first_mark hy17 hb30 hb101 (by omega)]; rfl, b165⟩
 have hq170 := df_ hb150
 refine B2 A rfl (bg hb150) λ A=>qt_<|cf_ A rfl<|wk_<|tn_<|sw_<|qs A rfl (dbd (cs := #[J 0, .string (S []), J 0, J 0]) (wn rfl) (bp_of bq_nil) zero28 places28 (by kernel_rfl) λ _ A=>qs A rfl (dsr (wn rfl) (A.ev rfl) (A.ev rfl) row28 m142 rfl rfl λ w175 hU176 (m177 : Blk w175 g3 #[J 0, .string (S []), J 0, J 0] 28)=>?_))
 have b178 := hU176.below b143 ge8
 intro _ A
 refine Z 1 A rfl λ A=>qt_<|we_<|retCT (g := g3) (cs := #[J 0, .string (S []), J 0, J 0]) (v := (J 20)) rfl A rfl rfl m177 row28 ?_
 exact ⟨by rw [first_byte hy17 hb30 hb101 (by omega)]; rfl, b178⟩
end Go.Proofs.YtjkbjjlfijhbdaaGreatDoor
namespace Go.Proofs.YtjkbjjlfijhbdaaGreatDoor
set_option linter.defProp false
set_option maxHeartbeats 4000000
set_option maxRecDepth 100000
set_option linter.unusedVariables false
set_option linter.unusedSimpArgs false
def endR (l : List UInt8) : Int := Lib.index l [42, 41]
theorem endR_ge (l : List UInt8) : -1 ≤ endR l := Lib.index_ge l _
theorem drop_lt {l : List UInt8} (n : Nat) (h : 0 < l.length) (hn : 0 < n) : (l.drop n).length < l.length := by rw [List.length_drop]; omega
def skipL (l : List UInt8) : Nat × Bool :=
 match l with
 | [] => (0, false)
 | b :: r =>
  if blkB b then ((skipL r).1 + 1, (skipL r).2)
  else if preB (b :: r) [40, 42] then
   if endR ((b :: r).drop 2) < 0 then (0, true)
   else ((skipL ((b :: r).drop (endR ((b :: r).drop 2)).toNat.succ.succ.succ.succ)).1 + ((endR ((b :: r).drop 2)).toNat + 4), (skipL ((b :: r).drop (endR ((b :: r).drop 2)).toNat.succ.succ.succ.succ)).2)
  else (0, false)
termination_by l.length
decreasing_by
 ·simp
 all_goals exact drop_lt _ (by simp) (by omega)
theorem skip_nil : skipL [] = (0, false) := by rw [skipL]
theorem skip_end {l : List UInt8} {n : Nat} (h : l.length ≤ n) : skipL (l.drop n) = (0, false) := by rw [List.drop_eq_nil_of_le h, skip_nil]
theorem skip_blank {l : List UInt8} {n : Nat} {b : UInt8} (hb : l[n]? = some b) (h : blkB b = true) : skipL (l.drop n) = ((skipL (l.drop (n + 1))).1 + 1, (skipL (l.drop (n + 1))).2) := by
 rw [drop_at hb, skipL, if_pos h]
theorem skip_word {l : List UInt8} {n : Nat} {b : UInt8} (hb : l[n]? = some b) (h : blkB b = false) (hp : preB (l.drop n) [40, 42] = false) : skipL (l.drop n) = (0, false) := by
 rw [drop_at hb] at hp ⊢
 rw [skipL, if_neg (by simp [h]), if_neg (by simp [hp])]
theorem skip_open {l : List UInt8} {n : Nat} {b : UInt8} (hb : l[n]? = some b) (h : blkB b = false) (hp : preB (l.drop n) [40, 42] = true) (he : endR (l.drop (n + 2)) < 0) : skipL (l.drop n) = (0, true) := by
 have e : l.drop (n + 2) = (l.drop n).drop 2 := by rw [List.drop_drop]
 rw [e] at he
 rw [drop_at hb] at hp he ⊢
 rw [skipL, if_neg (by simp [h]), if_pos hp, if_pos he]
theorem skip_remark {l : List UInt8} {n : Nat} {b : UInt8} (hb : l[n]? = some b) (h : blkB b = false) (hp : preB (l.drop n) [40, 42] = true) (he : ¬ endR (l.drop (n + 2)) < 0) :
  skipL (l.drop n) = ((skipL (l.drop (n + 2 + (endR (l.drop (n + 2))).toNat + 2))).1 + ((endR (l.drop (n + 2))).toNat + 4), (skipL (l.drop (n + 2 + (endR (l.drop (n + 2))).toNat + 2))).2) := by
 have e : l.drop (n + 2) = (l.drop n).drop 2 := by rw [List.drop_drop]
 have e2 : l.drop (n + 2 + (endR (l.drop (n + 2))).toNat + 2) = (l.drop n).drop (endR (l.drop (n + 2))).toNat.succ.succ.succ.succ := by
  rw [List.drop_drop]; congr 1; omega
 rw [e2, e]
 rw [e] at he
 rw [drop_at hb] at hp he ⊢
 rw [skipL, if_neg (by simp [h]), if_pos hp, if_neg he]
theorem endR_nil : endR [] = -1 := rfl
theorem endR_cons (b : UInt8) (l : List UInt8) : endR (b :: l) = if [42, 41].isPrefixOf (b :: l) then 0 else if endR l == -1 then -1 else endR l + 1 := by
 unfold endR; rw [Lib.index]
theorem endR_le (l : List UInt8) : endR l < 0 ∨ (endR l).toNat + 2 ≤ l.length := by
 induction l with
 | nil => exact .inl (by rw [endR_nil]; omega)
 | cons b l ih =>
  rw [endR_cons]
  split
  ·next h =>
   right
   match l, h with
   | [], h => simp at h
   | c :: l, h => simp
  ·split
   ·left; omega
   ·next h =>
    have h1 : endR l ≠ -1 := by simpa using h
    have h2 := endR_ge l
    rcases ih with h3 | h3
    ·omega
    ·right; simp only [List.length_cons]; omega
end Go.Proofs.YtjkbjjlfijhbdaaGreatDoor
namespace Go.Proofs.YtjkbjjlfijhbdaaGreatDoor
open Go.RowKit
set_option linter.defProp false
set_option maxHeartbeats 4000000
set_option maxRecDepth 100000
set_option linter.unusedVariables false
set_option linter.unusedSimpArgs false
theorem ent46 : Ent Tryz.prog 46 = FF := by kernel_rfl
theorem ent48 : Ent Tryz.prog 48 = FF := by kernel_rfl
theorem skip_any (l : List UInt8) (at0 : Nat) (w : World) (hl : l.length ≤ 8192) (hat : at0 ≤ l.length) (m0 : Int) (hm : w.cell? ⟨0, 0, none⟩ = some (J m0)) : Calls Tryz.prog 24 #[.string (S l), J ((at0 : Nat) : Int)] w λ e w' => e = .returned (.tuple #[J ((at0 + (skipL (List.drop at0 l)).1 : Nat) : Int), J (if (skipL (List.drop at0 l)).2 then 24 else 0)]) ∧ Grow w w' := by
 have b0 := Grow.refl w
 refine enter (n := 39) Tryz.func24 rfl rfl (nb_ rfl) λ _ A=>sw_<|Z 2 A rfl λ A=>qt_<|ws_<|wp_block<|loop_by (λ m8 a9 w10 => ∃ j7 : Nat, m8 = l.length - j7 ∧ (j7 ≤ l.length ∧ at0 + (skipL (List.drop at0 l)).1 = j7 + (skipL (List.drop j7 l)).1 ∧ (skipL (List.drop at0 l)).2 = (skipL (List.drop j7 l)).2) ∧ St 39 [(0, (.string (S l))), (1, (J ((j7 : Nat) : Int))), (4, (J 0)), (5, (J 0))] a9 ∧ Below w.heap.size w w10) (l.length - at0) ⟨at0, rfl, ⟨by omega, rfl, rfl⟩, A.sub rfl, b0⟩ ?_
 rintro m8 a9 w10 ⟨j7, hm13, hc14, A, b12⟩
 obtain ⟨hjl, hs1, hs2⟩ := hc14
 refine ws_<|sw_<|Z 2 A rfl λ A=>qs A rfl (d_slen (wn rfl) (A.ev rfl) str9 λ _ A=>?_)
 rcases eb_ (decide (((j7 : Nat) : Int) < ((l.length : Nat) : Int))) with hb21 | hb21
 ·skip
  have hq22 := dt_ hb21
  refine B2 A rfl (bl hb21) λ A=>qt_<|ct_ A rfl<|wk_<|tn_<|wp_block<|wp_block<|sw_<|Z 2 A rfl λ A=>?_
  obtain ⟨y29, hy30⟩ : ∃ y29, l[j7]? = some y29 := ⟨_, List.getElem?_eq_getElem (show j7 < l.length by first | omega | (have := pre_len ‹preB _ _ = true›; simp only [List.length_drop, List.length_cons, List.length_nil] at this; omega))⟩
  refine qs A rfl (d_sat (j := j7) (wn rfl) (A.ev rfl) (A.ev rfl) str9 hy30 λ _ A=>C A rfl ent46 (isBlank_any y29 w10) ?_)
  rintro e36 w33 ⟨he35, hG34⟩
  have b37 := bls b12 hG34
  rcases eb_ (blkB y29) with hb38 | hb38
  ·skip
   refine ⟨.bool true, he35.trans (ret_bool hb38), λ _ A=>Z 1 A rfl λ A=>qt_<|ct_ A rfl<|wr_<|Z 1 A rfl λ A=>B2 A rfl (b_addE (j7 + 1) (by omega) (by omega)) λ A=>Z 1 A rfl λ A=>qe_<|i_norm<|i_norm<|tn_ ?_⟩
   have hsk := skip_blank hy30 hb38
   have hk1 := congrArg Prod.fst hsk
   have hk2 := congrArg Prod.snd hsk
   dsimp only at hk1 hk2
   exact ⟨l.length - (j7 + 1), (by rw [hm13]; omega), j7 + 1, rfl, ⟨by omega, by omega, hs2.trans hk2⟩, A.sub rfl, b37⟩
  refine ⟨.bool false, he35.trans (ret_bool hb38), λ _ A=>Z 1 A rfl λ A=>qt_<|cf_ A rfl<|sw_<|Z 2 A rfl λ A=>qs A rfl (d_srest (n := j7) (wn rfl) (A.ev rfl) (A.ev rfl) str9 (by first | omega | (have := pre_len ‹preB _ _ = true›; simp only [List.length_drop, List.length_cons, List.length_nil] at this; omega)) λ _ A=>C A rfl ent47 (hasPrefix_any (List.drop j7 l) [40, 42] w33) ?_)⟩
  rintro e64 w61 ⟨he63, hG62⟩
  have b65 := bls b37 hG62
  rcases eb_ (preB (List.drop j7 l) [40, 42]) with hb66 | hb66
  ·skip
   refine ⟨.bool true, he63.trans (ret_bool hb66), λ _ A=>Z 1 A rfl λ A=>qt_<|ct_ A rfl<|sw_<|Z 1 A rfl λ A=>B2 A rfl (b_addE (j7 + 2) (by omega) (by omega)) λ A=>Z 1 A rfl λ A=>qt_<|sw_ ?_⟩
   refine Z 2 A rfl λ A=>qs A rfl (d_srest (n := j7 + 2) (wn rfl) (A.ev rfl) (A.ev rfl) str9 (by first | omega | (have := pre_len ‹preB _ _ = true›; simp only [List.length_drop, List.length_cons, List.length_nil] at this; omega)) λ _ A=>?_)
   have hle := endR_le (List.drop (j7 + 2) l)
   rw [List.length_drop] at hle
   have hge := endR_ge (List.drop (j7 + 2) l)
   refine C A rfl ent48 (index_any (List.drop (j7 + 2) l) [42, 41] m0 w61 (by rw [List.length_drop]; omega) (cell_keep hm b65)) ?_
   rintro e87 w84 ⟨he86, hG85⟩
   have b88 := bls b65 hG85
   refine ⟨(J (endR (List.drop (j7 + 2) l))), he86, λ _ A=>Z 1 A rfl λ A=>qt_<|ws_<|sw_<|Z 1 A rfl λ A=>?_⟩
   rcases eb_ (decide (endR (List.drop (j7 + 2) l) < 0)) with hb95 | hb95
   ·skip
    have hq96 := dt_ hb95
    refine B2 A rfl (bl hb95) λ A=>qt_<|ct_ A rfl<|sw_<|Z 3 A rfl λ A=>qt_<|we_<|tr_<|i_ret<|i_ret<|tr_ ?_
    refine i_ret<|tr_<|ret2 (x := (J ((j7 : Nat) : Int))) (y := (J 24)) rfl A rfl rfl ?_
    have hsk := skip_open hy30 hb38 hb66 (dt_ hb95)
    rw [hsk] at hs1 hs2
    exact ⟨by rw [hs2, hs1]; rfl, b88⟩
   have hq105 := df_ hb95
   refine B2 A rfl (bl hb95) λ A=>qt_<|cf_ A rfl<|wk_<|tn_<|wr_<|Z 2 A rfl λ A=>B2 A rfl (b_add _ _ ((j7 + 2 : Nat) : Int) (endR (List.drop (j7 + 2) l)) _ (by omega) (by omega)) λ A=>B2 A rfl (b_add _ _ (((j7 + 2 : Nat) : Int) + endR (List.drop (j7 + 2) l)) 2 _ (by omega) (by omega)) λ A=>Z 1 A rfl λ A=>qe_<|i_norm<|i_norm ?_
   refine tn_ ?_
   have hsk := skip_remark hy30 hb38 hb66 (df_ hb95)
   have hk1 := congrArg Prod.fst hsk
   have hk2 := congrArg Prod.snd hsk
   dsimp only at hk1 hk2
   exact ⟨l.length - (j7 + 2 + (endR (List.drop (j7 + 2) l)).toNat + 2), (by rw [hm13]; omega), j7 + 2 + (endR (List.drop (j7 + 2) l)).toNat + 2, rfl, ⟨by omega, by omega, hs2.trans hk2⟩, A.cut _ (fc (A.g 0 rfl) (fc ((A.g 1 rfl).trans (congrArg (Value.int .i64) (by omega))) (fc (A.g 4 rfl) (fc (A.g 5 rfl) fn_)))), b88⟩
  refine ⟨.bool false, he63.trans (ret_bool hb66), λ _ A=>Z 1 A rfl λ A=>qt_<|cf_ A rfl<|sw_<|Z 3 A rfl λ A=>qt_<|we_<|i_ret<|i_ret<|tr_ ?_⟩
  refine i_ret<|tr_<|ret2 (x := (J ((j7 : Nat) : Int))) (y := (J 0)) rfl A rfl rfl ?_
  have hsk := skip_word hy30 hb38 hb66
  rw [hsk] at hs1 hs2
  exact ⟨by rw [hs2, hs1]; rfl, b65⟩
 have hq129 := df_ hb21
 refine B2 A rfl (bl hb21) λ A=>qt_<|cf_ A rfl<|wp_exit<|t_exit<|t_exit<|i_here<|tn_<|sw_<|Z 3 A rfl λ A=>qt_ ?_
 refine we_<|ret2 (x := (J ((j7 : Nat) : Int))) (y := (J 0)) rfl A rfl rfl ?_
 have hsk : skipL (List.drop j7 l) = (0, false) := skip_end (by omega)
 rw [hsk] at hs1 hs2
 exact ⟨by rw [hs2, hs1]; rfl, b12⟩
end Go.Proofs.YtjkbjjlfijhbdaaGreatDoor
namespace Go.Proofs.YtjkbjjlfijhbdaaGreatDoor
set_option linter.defProp false
set_option maxHeartbeats 4000000
set_option maxRecDepth 100000
set_option linter.unusedVariables false
set_option linter.unusedSimpArgs false
def tokE (t : Tk) : List Value := (tokC t).toList
theorem skip_le (l : List UInt8) : (skipL l).1 ≤ l.length := by
 have go : ∀ n (l : List UInt8), l.length ≤ n → (skipL l).1 ≤ l.length := by
  intro n
  induction n with
  | zero => intro l hl; obtain rfl : l = [] := List.eq_nil_of_length_eq_zero (Nat.le_zero.1 hl); rw [skip_nil]; simp
  | succ n ih =>
   intro l hl
   match l, hl with
   | [], _ => rw [skip_nil]; simp
   | b :: r, hl =>
    have h0 : (b :: r)[0]? = some b := rfl
    rcases Bool.eq_false_or_eq_true (blkB b) with h1 | h1
    ·have e := skip_blank h0 h1
     rw [List.drop_zero] at e
     rw [e]
     have := ih r (by simpa using hl)
     simp only [List.length_cons, Nat.zero_add, List.drop_succ_cons, List.drop_zero]
     omega
    ·rcases Bool.eq_false_or_eq_true (preB (b :: r) [40, 42]) with h2 | h2
     ·by_cases h3 : endR ((b :: r).drop 2) < 0
      ·have e := skip_open (n := 0) h0 h1 (by rw [List.drop_zero]; exact h2) (by rw [Nat.zero_add]; exact h3)
       rw [List.drop_zero] at e; rw [e]; simp
      ·have e := skip_remark (n := 0) h0 h1 (by rw [List.drop_zero]; exact h2) (by rw [Nat.zero_add]; exact h3)
       rw [List.drop_zero] at e; rw [e]
       simp only [Nat.zero_add]
       have h4 := endR_le ((b :: r).drop 2)
       have h5 := ih ((b :: r).drop (2 + (endR ((b :: r).drop 2)).toNat + 2)) (by rw [List.length_drop]; omega)
       rw [List.length_drop] at h4 h5
       omega
     ·have e := skip_word (n := 0) h0 h1 (by rw [List.drop_zero]; exact h2)
      rw [List.drop_zero] at e; rw [e]; simp
 exact go l.length l (Nat.le_refl _)
theorem rn_pos {p : UInt8 → Bool} {l : List UInt8} {b : UInt8} (hb : l[0]? = some b) (h : p b = true) : 0 < rn p l := by
 have := rn_go (p := p) (n := 0) hb h
 rw [List.drop_zero] at this; omega
theorem first_len {l : List UInt8} (h : (firstR l).2 = 0) : 0 < (firstR l).1.text.length ∧ (firstR l).1.text.length ≤ l.length := by
 cases hb : l[0]? with
 | none => unfold firstR at h; simp [hb] at h
 | some b =>
  have hl : 0 < l.length := (List.getElem?_eq_some_iff.1 hb).1
  rcases Bool.eq_false_or_eq_true (digB b) with h1 | h1
  ·cases hn : numR (l.take (rn numB l)) with
   | none => rw [first_bad hb h1 hn] at h; simp at h
   | some n =>
    rw [first_num hb h1 hn]
    have h2 := rn_pos (p := numB) hb (by unfold numB; rw [h1, Bool.or_true])
    have h3 := rn_le numB l
    simp only [List.length_take]; omega
  ·rcases Bool.eq_false_or_eq_true (nbgB b) with h2 | h2
   ·rw [first_name hb h1 h2]
    have h3 := rn_pos (p := namB) hb (by unfold namB; rw [h2, Bool.true_or])
    have h4 := rn_le namB l
    simp only [List.length_take]; omega
   ·by_cases h3 : mkN l > 0
    ·rw [first_mark hb h1 h2 h3]
     have h4 := mkN_le hl
     simp only [List.length_take]; omega
    ·rw [first_byte hb h1 h2 h3] at h; simp at h
def toksF : Nat → List UInt8 → Nat → List Tk → List Tk × Int × Nat
 | 0, _, _, _ => ([], 0, 0)
 | f + 1, l, a, ws =>
  if (skipL (l.drop a)).2 then ([], 24, a + (skipL (l.drop a)).1)
  else if a + (skipL (l.drop a)).1 = l.length then (ws, 0, 0)
  else if (firstR (l.drop (a + (skipL (l.drop a)).1))).2 = 0 then
   toksF f l (a + (skipL (l.drop a)).1 + (firstR (l.drop (a + (skipL (l.drop a)).1))).1.text.length) (ws ++ [{ (firstR (l.drop (a + (skipL (l.drop a)).1))).1 with at_ := ((a + (skipL (l.drop a)).1 : Nat) : Int) }])
  else ([], (firstR (l.drop (a + (skipL (l.drop a)).1))).2, a + (skipL (l.drop a)).1)
def tokensR (l : List UInt8) : List Tk × Int × Nat := if l.length > 8192 then ([], 2, 0) else toksF (l.length + 1) l 0 []
section
variable {f a : Nat} {l : List UInt8} {ws : List Tk}
theorem tf_rem (h : (skipL (l.drop a)).2 = true) : toksF (f + 1) l a ws = ([], 24, a + (skipL (l.drop a)).1) := by rw [toksF, if_pos h]
theorem tf_end (h : (skipL (l.drop a)).2 = false) (h1 : a + (skipL (l.drop a)).1 = l.length) : toksF (f + 1) l a ws = (ws, 0, 0) := by rw [toksF, if_neg (by simp [h]), if_pos h1]
theorem tf_bad (h : (skipL (l.drop a)).2 = false) (h1 : ¬ a + (skipL (l.drop a)).1 = l.length) (h2 : ¬ (firstR (l.drop (a + (skipL (l.drop a)).1))).2 = 0) : toksF (f + 1) l a ws = ([], (firstR (l.drop (a + (skipL (l.drop a)).1))).2, a + (skipL (l.drop a)).1) := by
 rw [toksF, if_neg (by simp [h]), if_neg h1, if_neg h2]
theorem tf_go (h : (skipL (l.drop a)).2 = false) (h1 : ¬ a + (skipL (l.drop a)).1 = l.length) (h2 : (firstR (l.drop (a + (skipL (l.drop a)).1))).2 = 0) : toksF (f + 1) l a ws = toksF f l (a + (skipL (l.drop a)).1 + (firstR (l.drop (a + (skipL (l.drop a)).1))).1.text.length) (ws ++ [{ (firstR (l.drop (a + (skipL (l.drop a)).1))).1 with at_ := ((a + (skipL (l.drop a)).1 : Nat) : Int) }]) := by
 rw [toksF, if_neg (by simp [h]), if_neg h1, if_pos h2]
theorem tokens_long (h : l.length > 8192) : tokensR l = ([], 2, 0) := by unfold tokensR; rw [if_pos h]
theorem tokens_short (h : l.length ≤ 8192) : tokensR l = toksF (l.length + 1) l 0 [] := by unfold tokensR; rw [if_neg (by omega)]
theorem flat_tok (ws : List Tk) (t : Tk) : ws.flatMap tokE ++ (tokC t).toList = (ws ++ [t]).flatMap tokE := by simp [tokE]
end
end Go.Proofs.YtjkbjjlfijhbdaaGreatDoor
namespace Go.Proofs.YtjkbjjlfijhbdaaGreatDoor
open Go.RowKit
set_option linter.defProp false
set_option maxHeartbeats 4000000
set_option maxRecDepth 100000
set_option linter.unusedVariables false
set_option linter.unusedSimpArgs false
theorem elm23 : elemB Tryz.prog 23 28 4 40 = true := by kernel_rfl
theorem ent24 : Ent Tryz.prog 24 = FF := by kernel_rfl
theorem ent25 : Ent Tryz.prog 25 = FF := by kernel_rfl
theorem fo28_1 : fieldOff Tryz.prog 28 1 = some 1 := by kernel_rfl
theorem fo28_3 : fieldOff Tryz.prog 28 3 = some 3 := by kernel_rfl
theorem one3 : oneB Tryz.prog 3 = true := by kernel_rfl
theorem one9 : oneB Tryz.prog 9 = true := by kernel_rfl
theorem tokens_any (l : List UInt8) (w : World) (hlm : l.length ≤ 9223372036854775807) (m0 : Int) (hm : w.cell? ⟨0, 0, none⟩ = some (J m0)) (ev : Value) (hev1 : w.cell? ⟨1, 0, none⟩ = some ev) (hev2 : ev = .nilIface ∨ ∃ te pe, ev = .iface te pe) : Calls Tryz.prog 10 #[.string (S l)] w λ e w' => ∃ v, e = .returned (.tuple #[v, J (tokensR l).2.1, J (((tokensR l).2.2 : Nat) : Int)]) ∧ w'.ownsRow w.heap.size 28 4 v (tokensR l).1.length ((tokensR l).1.flatMap tokE) ∧ Below w.heap.size w w' := by
 have b0 := Grow.refl w
 refine enter (n := 50) Tryz.func10 rfl rfl (nb_ rfl) λ _ A=>sw_<|Z 3 A rfl λ A=>qt_<|ws_<|sw_<|Z 1 A rfl λ A=>qs A rfl (d_slen (wn rfl) (A.ev rfl) str9 λ _ A=>?_)
 rcases eb_ (decide (((l.length : Nat) : Int) > 8192)) with hb13 | hb13
 ·skip
  have hq14 := dt_ hb13
  refine B2 A rfl (bg hb13) λ A=>qt_<|ct_ A rfl<|sw_<|Z 3 A rfl λ A=>qt_<|we_<|tr_<|ret3 (x := (.slice none 0 0)) (y := (J 2)) (z := (J 0)) rfl A rfl rfl rfl ?_
  exact ⟨_, by rw [tokens_long (by omega)] <;> rfl, by rw [tokens_long (by omega)]; exact ⟨rfl, .inl ⟨rfl, rfl⟩⟩, b0⟩
 have hq23 := df_ hb13
 refine B2 A rfl (bg hb13) λ A=>qt_<|cf_ A rfl<|wk_<|tn_<|sw_<|Z 1 A rfl λ A=>qt_<|sw_<|Z 1 A rfl λ A=>?_
 refine qt_<|wp_block<|loop_by (λ m a' w' => ∃ (f j : Nat) (ws : List Tk) (v : Value), m = l.length - j ∧ (j ≤ l.length ∧ l.length - j < f ∧ ws.length ≤ j) ∧ toksF f l j ws = tokensR l ∧ St 50 [(0, (.string (S l))), (2, (.slice none 0 0)), (3, (J 0)), (4, (J 0)), (5, v), (6, (J ((j : Nat) : Int)))] a' ∧ Below w.heap.size w w' ∧ w'.ownsRow w.heap.size 28 4 v ws.length (ws.flatMap tokE)) (l.length - 0) ⟨l.length + 1, 0, [], .slice none 0 0, rfl, ⟨by omega, by omega, by simp⟩, (tokens_short (by omega)).symm, A.sub rfl, b0, ⟨rfl, .inl ⟨rfl, rfl⟩⟩⟩ ?_
 rintro m30 a31 w32 ⟨f33, j34, ws35, v36, hm37, ⟨hj1, hj2, hj3⟩, htk, A, b39, ho40⟩
 obtain ⟨f', rfl⟩ : ∃ f', f33 = f' + 1 := ⟨f33 - 1, by omega⟩
 refine wp_block<|sw_<|Z 2 A rfl λ A=>C A rfl ent24 (skip_any l j34 w32 (by omega) (by omega) m0 (cell_keep hm b39)) ?_
 rintro e48 w45 ⟨he47, hG46⟩
 rcases eb_ ((skipL (List.drop j34 l)).2) with hk49 | hk49
 ·skip
  have b50 := bls b39 hG46
  have ho51 := owg hG46 ho40
  have hsl := skip_le (List.drop j34 l)
  rw [List.length_drop] at hsl
  refine ⟨(.tuple #[(J ((j34 + (skipL (List.drop j34 l)).1 : Nat) : Int)), (J 24)]), he47.trans (by rw [hk49]; rfl), λ _ A=>Z 5 A rfl λ A=>qt_<|ws_<|sw_<|Z 1 A rfl λ A=>B2 A rfl (b_ne _ _ 24 0 true _ (notof rfl)) λ A=>qt_<|ct_ A rfl<|sw_ ?_⟩
  refine Z 5 A rfl λ A=>qt_<|we_<|tr_<|i_ret<|tr_<|i_ret<|ret3 (x := (.slice none 0 0)) (y := (J 24)) (z := (J ((j34 + (skipL (List.drop j34 l)).1 : Nat) : Int))) rfl A rfl rfl rfl ?_
  rw [tf_rem hk49] at htk
  exact ⟨_, by rw [← htk] <;> rfl, by rw [← htk]; exact ⟨rfl, .inl ⟨rfl, rfl⟩⟩, b50⟩
 have b78 := bls b39 hG46
 have ho79 := owg hG46 ho40
 have hsl := skip_le (List.drop j34 l)
 rw [List.length_drop] at hsl
 refine ⟨(.tuple #[(J ((j34 + (skipL (List.drop j34 l)).1 : Nat) : Int)), (J 0)]), he47.trans (by rw [hk49]; rfl), λ _ A=>Z 5 A rfl λ A=>qt_<|ws_<|sw_<|Z 1 A rfl λ A=>B2 A rfl (b_ne _ _ 0 0 false _ (notof rfl)) λ A=>qt_<|cf_ A rfl<|wk_<|tn_ ?_⟩
 refine ws_<|sw_<|Z 2 A rfl λ A=>qs A rfl (d_slen (wn rfl) (A.ev rfl) str9 λ _ A=>?_)
 rcases eb_ (((j34 + (skipL (List.drop j34 l)).1 : Nat) : Int) == ((l.length : Nat) : Int)) with hb102 | hb102
 ·skip
  have hq103 := eq_of_beq hb102
  refine B2 A rfl (bq hb102) λ A=>qt_<|ct_ A rfl<|sw_<|Z 4 A rfl λ A=>qt_<|we_<|tr_<|i_ret<|tr_<|i_ret ?_
  refine ret3 (x := v36) (y := (J 0)) (z := (J 0)) rfl A rfl rfl rfl ?_
  rw [tf_end hk49 (by omega)] at htk
  exact ⟨_, by rw [← htk] <;> rfl, by rw [← htk]; exact ho79, b78⟩
 have hq114 := ne_of_beq hb102
 refine B2 A rfl (bq hb102) λ A=>qt_<|cf_ A rfl<|wk_<|tn_<|sw_<|Z 2 A rfl λ A=>qs A rfl (d_srest (n := j34 + (skipL (List.drop j34 l)).1) (wn rfl) (A.ev rfl) (A.ev rfl) str9 (by omega) λ _ A=>C A rfl ent25 (first_any (List.drop (j34 + (skipL (List.drop j34 l)).1) l) w45 (by rw [List.length_drop]; omega) (by rw [List.length_drop]; omega) ev (cell_keep hev1 b78) hev2) ?_)
 rintro e126 w123 ⟨he125, hG124⟩
 have b127 := bls b78 hG124
 have ho128 := owg hG124 ho79
 refine ⟨(.tuple #[(.agg #[J ((firstR (List.drop (j34 + (skipL (List.drop j34 l)).1) l)).1.kind), .string (S ((firstR (List.drop (j34 + (skipL (List.drop j34 l)).1) l)).1.text)), J ((firstR (List.drop (j34 + (skipL (List.drop j34 l)).1) l)).1.n), J ((firstR (List.drop (j34 + (skipL (List.drop j34 l)).1) l)).1.at_)]), (J ((firstR (List.drop (j34 + (skipL (List.drop j34 l)).1) l)).2))]), he125, λ _ A=>Z 3 A rfl λ A=>qs A rfl (dal (wn rfl) zero28 λ g137 w138 eg139 hG140 (m141 : Blk w138 g137 #[J 0, .string (S []), J 0, J 0] 28)=>?_)⟩
 have ge142 : w.heap.size ≤ g137 := eg139 ▸ b127.size
 have off143 := own_new ho128 eg139
 have b144 := bls b127 hG140
 have ho145 := owg hG140 ho128
 intro _ A
 refine qs A rfl (dsr (wn rfl) (A.ev rfl) (A.ev rfl) row28 m141 rfl rfl λ w148 hU149 (m150 : Blk w148 g137 #[J ((firstR (List.drop (j34 + (skipL (List.drop j34 l)).1) l)).1.kind), .string (S ((firstR (List.drop (j34 + (skipL (List.drop j34 l)).1) l)).1.text)), J ((firstR (List.drop (j34 + (skipL (List.drop j34 l)).1) l)).1.n), J ((firstR (List.drop (j34 + (skipL (List.drop j34 l)).1) l)).1.at_)] 28)=>?_)
 have b151 := hU149.below b144 ge142
 have ho152 := own_upd ho145 hU149 off143
 intro _ A
 refine Z 1 A rfl λ A=>qt_<|ws_<|sw_<|Z 1 A rfl λ A=>?_
 rcases eb_ ((firstR (List.drop (j34 + (skipL (List.drop j34 l)).1) l)).2 == 0) with hb159 | hb159
 ·skip
  have hq160 := eq_of_beq hb159
  refine B2 A rfl (b_ne _ _ ((firstR (List.drop (j34 + (skipL (List.drop j34 l)).1) l)).2) 0 false _ (notof hb159)) λ A=>qt_<|cf_ A rfl<|wk_<|tn_<|sw_<|Z 1 A rfl λ A=>F1 A rfl fo28_3 λ A=>qs A rfl (dst_ (wn rfl) (A.ev rfl) (A.ev rfl) one3 rfl m150 (nb_ rfl) λ w167 hU168 (m169 : Blk w167 g137 #[J ((firstR (List.drop (j34 + (skipL (List.drop j34 l)).1) l)).1.kind), .string (S ((firstR (List.drop (j34 + (skipL (List.drop j34 l)).1) l)).1.text)), J ((firstR (List.drop (j34 + (skipL (List.drop j34 l)).1) l)).1.n), J ((j34 + (skipL (List.drop j34 l)).1 : Nat) : Int)] 28)=>?_)
  have b170 := hU168.below b151 ge142
  have ho171 := own_upd ho152 hU168 off143
  intro _ A
  refine qt_<|sw_<|Z 1 A rfl λ A=>qs A rfl (dlr (cs := #[J ((firstR (List.drop (j34 + (skipL (List.drop j34 l)).1) l)).1.kind), .string (S ((firstR (List.drop (j34 + (skipL (List.drop j34 l)).1) l)).1.text)), J ((firstR (List.drop (j34 + (skipL (List.drop j34 l)).1) l)).1.n), J ((j34 + (skipL (List.drop j34 l)).1 : Nat) : Int)]) (wn rfl) (A.ev rfl) row28 m169 λ _ A=>qs A rfl (d_slice1 (wn rfl) (A.ev rfl) elm23 rfl (by decide) λ g178 w179 eg180 hG181 (m182 : Blk w179 g178 #[J ((firstR (List.drop (j34 + (skipL (List.drop j34 l)).1) l)).1.kind), .string (S ((firstR (List.drop (j34 + (skipL (List.drop j34 l)).1) l)).1.text)), J ((firstR (List.drop (j34 + (skipL (List.drop j34 l)).1) l)).1.n), J ((j34 + (skipL (List.drop j34 l)).1 : Nat) : Int)] 28)=>?_))
  have ge183 : w.heap.size ≤ g178 := eg180 ▸ b170.size
  have n184 := nn_ eg180 m169
  have off185 := own_new ho171 eg180
  have m186 := m169.grow hG181
  have b187 := bls b170 hG181
  have ho188 := owg hG181 ho171
  intro _ A
  refine qs A rfl (d_append (wn rfl) (A.ev rfl) (A.ev rfl) elm23 ho188 m182 rfl rfl (by omega) (by decide) b187.size λ v191 w192 ho193 hg194 hl195=>?_)
  have b196 := below_by b187 hg194 b187.size (λ k hk => (own_lt ho188 k hk).1)
  have m197 := m186.by hg194 off143
  have off198 := lies_ne hl195 off143 m186.lt
  intro _ A
  refine Z 1 A rfl λ A=>qt_<|wr_<|Z 1 A rfl λ A=>F1 A rfl fo28_1 λ A=>qs A rfl (dld (v := (.string (S ((firstR (List.drop (j34 + (skipL (List.drop j34 l)).1) l)).1.text)))) (wn rfl) (A.ev rfl) one9 (m197.cell rfl) λ _ A=>?_)
  have hfl := first_len (eq_of_beq hb159)
  rw [List.length_drop] at hfl
  refine qs A rfl (d_slen (wn rfl) (A.ev rfl) str9 λ _ A=>B2 A rfl (b_addE (j34 + (skipL (List.drop j34 l)).1 + ((firstR (List.drop (j34 + (skipL (List.drop j34 l)).1) l)).1.text).length) (by omega) (by omega)) λ A=>Z 1 A rfl λ A=>qe_<|i_norm<|tn_ ?_)
  have hgo := tf_go (f := f') (ws := ws35) hk49 (by omega) (eq_of_beq hb159)
  rw [hgo] at htk
  exact ⟨l.length - (j34 + (skipL (List.drop j34 l)).1 + (firstR (List.drop (j34 + (skipL (List.drop j34 l)).1) l)).1.text.length), (by rw [hm37]; omega), f', j34 + (skipL (List.drop j34 l)).1 + (firstR (List.drop (j34 + (skipL (List.drop j34 l)).1) l)).1.text.length, ws35 ++ [({ (firstR (List.drop (j34 + (skipL (List.drop j34 l)).1) l)).1 with at_ := ((j34 + (skipL (List.drop j34 l)).1 : Nat) : Int) } : Tk)], v191, rfl, ⟨by omega, by omega, by rw [List.length_append, List.length_singleton]; omega⟩, htk, A.sub rfl, b196, by rw [List.length_append, List.length_singleton, ← flat_tok]; exact ho193⟩
 have hq215 := ne_of_beq hb159
 refine B2 A rfl (b_ne _ _ ((firstR (List.drop (j34 + (skipL (List.drop j34 l)).1) l)).2) 0 true _ (notof hb159)) λ A=>qt_<|ct_ A rfl<|sw_<|Z 5 A rfl λ A=>qt_<|we_<|tr_<|i_ret<|tr_<|i_ret ?_
 refine ret3 (x := (.slice none 0 0)) (y := (J ((firstR (List.drop (j34 + (skipL (List.drop j34 l)).1) l)).2))) (z := (J ((j34 + (skipL (List.drop j34 l)).1 : Nat) : Int))) rfl A rfl rfl rfl ?_
 rw [tf_bad hk49 (by omega) (ne_of_beq hb159)] at htk
 exact ⟨_, by rw [← htk] <;> rfl, by rw [← htk]; exact ⟨rfl, .inl ⟨rfl, rfl⟩⟩, b151⟩
end Go.Proofs.YtjkbjjlfijhbdaaGreatDoor
namespace Go.Proofs.YtjkbjjlfijhbdaaGreatDoor
set_option linter.defProp false
set_option maxHeartbeats 4000000
set_option maxRecDepth 100000
set_option linter.unusedVariables false
set_option linter.unusedSimpArgs false
theorem low_facts (b : UInt8) : (65 ≤ b.toNat ∧ b.toNat ≤ 90 → lwcB b = b.toNat + 32) ∧ (97 ≤ b.toNat ∧ b.toNat ≤ 122 → lwcB b = b.toNat) ∧ (97 ≤ lwcB b ∧ lwcB b ≤ 122 → (65 ≤ b.toNat ∧ b.toNat ≤ 90) ∨ (97 ≤ b.toNat ∧ b.toNat ≤ 122)) := by
 have : ∀ i : Fin 256, (65 ≤ (UInt8.ofNat i.val).toNat ∧ (UInt8.ofNat i.val).toNat ≤ 90 → lwcB (UInt8.ofNat i.val) = (UInt8.ofNat i.val).toNat + 32) ∧ (97 ≤ (UInt8.ofNat i.val).toNat ∧ (UInt8.ofNat i.val).toNat ≤ 122 → lwcB (UInt8.ofNat i.val) = (UInt8.ofNat i.val).toNat) ∧ (97 ≤ lwcB (UInt8.ofNat i.val) ∧ lwcB (UInt8.ofNat i.val) ≤ 122 → (65 ≤ (UInt8.ofNat i.val).toNat ∧ (UInt8.ofNat i.val).toNat ≤ 90) ∨ (97 ≤ (UInt8.ofNat i.val).toNat ∧ (UInt8.ofNat i.val).toNat ≤ 122)) := by decide +kernel
 have h := this ⟨b.toNat, b.toNat_lt⟩
 simpa only [UInt8.ofNat_toNat] using h
def hxI (b : UInt8) : Int := if dv b < 16 then ((dv b : Nat) : Int) else -1
theorem hx_dig {b : UInt8} (h1 : 48 ≤ b.toNat) (h2 : b.toNat ≤ 57) : hxI b = ((b.toNat : Nat) : Int) - 48 := by
 have := dv_dig h1 h2
 unfold hxI; rw [if_pos (by omega)]; omega
theorem hx_low {b : UInt8} (h1 : 97 ≤ b.toNat) (h2 : b.toNat ≤ 102) : hxI b = ((b.toNat : Nat) : Int) - 97 + 10 := by
 have h := (low_facts b).2.1 (by omega)
 have := dv_let (b := b) (by omega) (by omega) (by omega)
 unfold hxI; rw [if_pos (by omega)]; omega
theorem hx_up {b : UInt8} (h1 : 65 ≤ b.toNat) (h2 : b.toNat ≤ 70) : hxI b = ((b.toNat : Nat) : Int) - 65 + 10 := by
 have h := (low_facts b).1 (by omega)
 have := dv_let (b := b) (by omega) (by omega) (by omega)
 unfold hxI; rw [if_pos (by omega)]; omega
theorem hx_no {b : UInt8} (h : ¬ (48 ≤ b.toNat ∧ b.toNat ≤ 57)) (h1 : ¬ (97 ≤ b.toNat ∧ b.toNat ≤ 102)) (h2 : ¬ (65 ≤ b.toNat ∧ b.toNat ≤ 70)) : hxI b = -1 := by
 have hf := low_facts b
 unfold hxI; rw [if_neg]
 by_cases h3 : 97 ≤ lwcB b ∧ lwcB b ≤ 122
 ·have := dv_let h h3.1 h3.2
  rcases hf.2.2 h3 with h4 | h4
  ·have := hf.1 h4; omega
  ·have := hf.2.1 h4; omega
 ·have := dv_bad h h3; omega
theorem fold_ge (bs : Nat) (hb : 0 < bs) (l : List UInt8) : ∀ n : Nat, n ≤ l.foldl (fun n b => n * bs + dv b) n := by
 induction l with
 | nil => intro n; exact Nat.le_refl _
 | cons b l ih =>
  intro n
  refine Nat.le_trans ?_ (ih (n * bs + dv b))
  exact Nat.le_trans (Nat.le_mul_of_pos_right n hb) (Nat.le_add_right _ _)
theorem nv_mono {bs : Nat} (hb : 0 < bs) (l : List UInt8) (i : Nat) : nv bs (l.take i) ≤ nv bs l := by
 unfold nv
 conv => rhs; rw [← List.take_append_drop i l, List.foldl_append]
 exact fold_ge bs hb (l.drop i) _
theorem fits_over {bs : Nat} (hb : 0 < bs) {l : List UInt8} {i : Nat} (h : nv bs (l.take i) > 9223372036854775808) : fits (valL bs l) = none := by
 unfold valL; split
 ·rfl
 ·have := nv_mono hb l i
  simp only [fits]; rw [if_pos (by omega)]
theorem fits_bad {bs : Nat} {l : List UInt8} {i : Nat} {y : UInt8} (h : l[i]? = some y) (hy : bs ≤ dv y) : fits (valL bs l) = none := by rw [val_bad h hy]; rfl
theorem fits_end {bs : Nat} {l : List UInt8} {i : Nat} (h : l ≠ []) (ha : allD bs (l.take i) = true) (hi : l.length ≤ i) (hn : nv bs (l.take i) ≤ 9223372036854775808) : fits (valL bs l) = some (IntKind.wrap .i64 ((nv bs (l.take i) : Nat) : Int)) := by
 rw [val_end h ha hi]; simp only [fits]; rw [if_neg (by omega)]
theorem drop_two {l : List UInt8} {n : Nat} {a b : UInt8} (ha : l[n]? = some a) (hb : l[n + 1]? = some b) : l.drop n = a :: b :: l.drop (n + 2) := by rw [drop_at ha, drop_at hb]
theorem endR_hit {l : List UInt8} {n : Nat} {a b : UInt8} (ha : l[n]? = some a) (hb : l[n + 1]? = some b) (h1 : ((a.toNat : Nat) : Int) = 42) (h2 : ((b.toNat : Nat) : Int) = 41) : endR (l.drop n) = 0 := by
 have e1 : a = 42 := UInt8.toNat_inj.1 (by show a.toNat = 42; omega)
 have e2 : b = 41 := UInt8.toNat_inj.1 (by show b.toNat = 41; omega)
 rw [drop_two ha hb, endR_cons, e1, e2]; simp
theorem endR_go {l : List UInt8} {n : Nat} {a b : UInt8} (ha : l[n]? = some a) (hb : l[n + 1]? = some b) (h : ¬ (((a.toNat : Nat) : Int) = 42 ∧ ((b.toNat : Nat) : Int) = 41)) : (endR (l.drop n) < 0 ∧ endR (l.drop (n + 1)) < 0) ∨ (0 ≤ endR (l.drop (n + 1)) ∧ endR (l.drop n) = endR (l.drop (n + 1)) + 1) := by
 have hp : List.isPrefixOf [42, 41] (a :: l.drop (n + 1)) = false := by
  rw [drop_at hb]
  cases hh : List.isPrefixOf [42, 41] (a :: b :: l.drop (n + 1 + 1))
  ·rfl
  ·simp [List.isPrefixOf] at hh
   exact absurd ⟨by rw [← hh.1]; rfl, by rw [← hh.2]; rfl⟩ h
 rw [drop_at ha, endR_cons, hp]
 simp only [Bool.false_eq_true, if_false]
 have hge := endR_ge (l.drop (n + 1))
 by_cases h1 : endR (l.drop (n + 1)) = -1
 ·left; simp [h1]
 ·right
  have h2 : (endR (l.drop (n + 1)) == -1) = false := by simp [h1]
  rw [h2]
  simp only [Bool.false_eq_true, if_false]
  exact ⟨by omega, trivial⟩
theorem endR_stop {l : List UInt8} {n : Nat} (h : l.length ≤ n + 1) : endR (l.drop n) < 0 := by
 rcases endR_le (l.drop n) with h1 | h1
 ·exact h1
 ·rw [List.length_drop] at h1; omega
theorem pre2_yes {l : List UInt8} {n : Nat} {a b : UInt8} (ha : l[n]? = some a) (hb : l[n + 1]? = some b) (h1 : ((a.toNat : Nat) : Int) = 40) (h2 : ((b.toNat : Nat) : Int) = 42) : preB (l.drop n) [40, 42] = true := by
 have e1 : a = 40 := UInt8.toNat_inj.1 (by show a.toNat = 40; omega)
 have e2 : b = 42 := UInt8.toNat_inj.1 (by show b.toNat = 42; omega)
 rw [drop_two ha hb, e1, e2]; simp [preB]
theorem pre2_first {l : List UInt8} {n : Nat} {a : UInt8} (ha : l[n]? = some a) (h1 : ¬ ((a.toNat : Nat) : Int) = 40) : preB (l.drop n) [40, 42] = false := by
 cases hh : preB (l.drop n) [40, 42]
 ·rfl
 ·exfalso
  unfold preB at hh
  rw [drop_at ha] at hh
  simp at hh
  exact h1 (by rw [hh.2.1]; rfl)
theorem pre2_short {l : List UInt8} {n : Nat} (h : l.length ≤ n + 1) : preB (l.drop n) [40, 42] = false := pre_short (by rw [List.length_drop]; simp only [List.length_cons, List.length_nil]; omega)
theorem pre2_second {l : List UInt8} {n : Nat} {a b : UInt8} (ha : l[n]? = some a) (hb : l[n + 1]? = some b) (h1 : ¬ ((b.toNat : Nat) : Int) = 42) : preB (l.drop n) [40, 42] = false := by
 cases hh : preB (l.drop n) [40, 42]
 ·rfl
 ·exfalso
  unfold preB at hh
  rw [drop_two ha hb] at hh
  simp at hh
  exact h1 (by rw [hh.2]; rfl)
def valV (o : Option Int) : Value := match o with | some n => .tuple #[.int .i64 n, .bool true] | none => .tuple #[.int .i64 0, .bool false]
theorem hx_or (b : UInt8) : (hxI b = -1 ∧ 16 ≤ dv b) ∨ (hxI b = ((dv b : Nat) : Int) ∧ dv b < 16) := by
 unfold hxI; split
 ·next h => exact .inr ⟨rfl, h⟩
 ·next h => exact .inl ⟨rfl, by omega⟩
theorem b_quo64 {P : Program} {w : World} {t : TypeId} {x y : Operand} {a b : Int} (h0 : 0 ≤ a) (ha : a ≤ 18446744073709551615) (hb : 0 < b) : (eqGuard .quo t x y (.int .u64 a) (.int .u64 b)).run P w = .ok () w ∧ (binOp .quo t (.int .u64 a) (.int .u64 b)).run P w = .ok (.int .u64 (a / b)) w := by
 refine ⟨by simp [eqGuard], ?_⟩
 have h1 : a.tdiv b = a / b := Int.tdiv_eq_ediv_of_nonneg h0
 have h2 : 0 ≤ a / b := Int.ediv_nonneg h0 (by omega)
 have h3 : a / b ≤ a := Int.ediv_le_self b h0
 have h4 : ¬ b = 0 := by omega
 simp only [binOp, Op.intDiv, if_neg h4, h1, wrq64 h2 (by omega)]
 simp
section
variable {l : List UInt8} {a b : UInt8}
theorem pre_two {p q : UInt8} (ha : l[0]? = some a) (hb : l[1]? = some b) : preB l [p, q] = (a == p && b == q) := by
 have e : l = a :: b :: l.drop 2 := by have := drop_two (n := 0) ha hb; rw [List.drop_zero] at this; exact this
 rw [e]; unfold preB; simp
theorem numx (ha : l[0]? = some a) (h1 : ((a.toNat : Nat) : Int) = 48) (hb : l[1]? = some b) (h2 : ((b.toNat : Nat) : Int) = 120) : numR l = if (l.drop 2).length > 16 then none else fits (valL 16 (l.drop 2)) := by
 have e1 : a = 48 := UInt8.toNat_inj.1 (by show a.toNat = 48; omega)
 have e2 : b = 120 := UInt8.toNat_inj.1 (by show b.toNat = 120; omega)
 have hp : preB l [48, 120] = true := by rw [pre_two ha hb, e1, e2]; rfl
 unfold numR cutF; rw [if_pos hp, if_pos hp]; rfl
theorem numd_of (hp : preB l [48, 120] = false) : numR l = if l.length > 19 then none else fits (valL 10 l) := by unfold numR; rw [if_neg (by simp [hp])]
theorem pre_of (hp : preB l [48, 120] = true) : l[0]? = some 48 ∧ l[1]? = some 120 ∧ 2 ≤ l.length := by
 unfold preB at hp
 rw [Bool.and_eq_true] at hp
 have h1 := of_decide_eq_true hp.1
 have h2 := eq_of_beq hp.2
 match l, h1, h2 with
 | a :: b :: r, _, h2 => simp at h2; simp [h2.1, h2.2]
theorem numd_a (ha : l[0]? = some a) (h1 : ¬ ((a.toNat : Nat) : Int) = 48) : numR l = if l.length > 19 then none else fits (valL 10 l) := by
 rcases Bool.eq_false_or_eq_true (preB l [48, 120]) with h | h
 ·have := (pre_of h).1; rw [ha] at this; simp at this; exact absurd (by rw [this]; rfl) h1
 ·exact numd_of h
theorem numd_b (hb : l[1]? = some b) (h1 : ¬ ((b.toNat : Nat) : Int) = 120) : numR l = if l.length > 19 then none else fits (valL 10 l) := by
 rcases Bool.eq_false_or_eq_true (preB l [48, 120]) with h | h
 ·have := (pre_of h).2.1; rw [hb] at this; simp at this; exact absurd (by rw [this]; rfl) h1
 ·exact numd_of h
theorem numd_short (hl : l.length ≤ 2) : numR l = if l.length > 19 then none else fits (valL 10 l) := by
 rcases Bool.eq_false_or_eq_true (preB l [48, 120]) with h | h
 ·obtain ⟨h1, h2, h3⟩ := pre_of h
  have e : l = [48, 120] := by
   have := drop_two (n := 0) h1 h2
   rw [List.drop_zero, List.drop_eq_nil_of_le (by omega)] at this; exact this
  rw [e]; decide
 ·exact numd_of h
end
end Go.Proofs.YtjkbjjlfijhbdaaGreatDoor
namespace Go.Proofs.YtjkbjjlfijhbdaaGreatDoor
open Go.RowKit
set_option linter.defProp false
set_option maxHeartbeats 4000000
set_option maxRecDepth 100000
set_option linter.unusedVariables false
set_option linter.unusedSimpArgs false
theorem ent166 : Ent Tryz.prog 166 = FF := by kernel_rfl
theorem rhex_any (c : UInt8) (w : World) : Calls Tryz.prog 166 #[.int .u8 ((c.toNat : Nat) : Int)] w λ e w' => e = .returned (J (hxI c)) ∧ Grow w w' := by
 have b0 := Grow.refl w
 refine enter (n := 31) Tryz.func166 rfl rfl (nb_ rfl) λ _ A=>sw_<|Z 1 A rfl λ A=>qt_<|ws_<|wp_block<|sw_<|Z 1 A rfl λ A=>C A rfl ent129 (rdigit_any c w) ?_
 rintro e10 w7 ⟨he9, hG8⟩
 have b11 := bls b0 hG8
 rcases eb_ (digB c) with hb12 | hb12
 ·skip
  have hq13 := dt_ hb12
  refine ⟨.bool true, he9.trans (ret_bool hb12), λ _ A=>Z 1 A rfl λ A=>qt_<|ct_ A rfl<|sw_<|Z 1 A rfl λ A=>B2 A rfl (b_subK (((c.toNat : Nat) : Int) - 48) (wrap8 (by omega) (by omega))) λ A=>qs A rfl (d_conv (((c.toNat : Nat) : Int) - 48) (wn rfl) (A.ev rfl) knd5 knd3 (wrapI (by omega) (by omega)) λ _ A=>Z 1 A rfl λ A=>qt_<|we_ ?_)⟩
  refine i_ret<|tr_<|ret1 rfl A (v := (J (((c.toNat : Nat) : Int) - 48))) rfl ?_
  exact ⟨by rw [hx_dig (by omega) (by omega)], b11⟩
 have hq26 := df_ hb12
 refine ⟨.bool false, he9.trans (ret_bool hb12), λ _ A=>Z 1 A rfl λ A=>qt_<|cf_ A rfl<|sw_<|Z 1 A rfl λ A=>?_⟩
 rcases eb_ (decide (((c.toNat : Nat) : Int) ≥ 97)) with hb33 | hb33
 ·skip
  have hq34 := dt_ hb33
  refine B2 A rfl (bge_ hb33) λ A=>Z 2 A rfl λ A=>?_
  rcases eb_ (decide (((c.toNat : Nat) : Int) ≤ 102)) with hb41 | hb41
  ·skip
   have hq42 := dt_ hb41
   refine B2 A rfl (ble_ hb41) λ A=>Z 2 A rfl λ A=>qt_<|ct_ A rfl<|sw_<|Z 1 A rfl λ A=>B2 A rfl (b_subK (((c.toNat : Nat) : Int) - 97) (wrap8 (by omega) (by omega))) λ A=>qs A rfl (d_conv (((c.toNat : Nat) : Int) - 97) (wn rfl) (A.ev rfl) knd5 knd3 (wrapI (by omega) (by omega)) λ _ A=>B2 A rfl (b_add _ _ (((c.toNat : Nat) : Int) - 97) 10 _ (by omega) (by omega)) λ A=>Z 1 A rfl λ A=>qt_ ?_)
   refine we_<|i_ret<|tr_<|ret1 rfl A (v := (J (((c.toNat : Nat) : Int) - 97 + 10))) rfl ?_
   exact ⟨by rw [hx_low (by omega) (by omega)], b11⟩
  have hq59 := df_ hb41
  refine B2 A rfl (ble_ hb41) λ A=>Z 2 A rfl λ A=>qt_<|cf_ A rfl<|sw_<|Z 1 A rfl λ A=>?_
  rcases eb_ (decide (((c.toNat : Nat) : Int) ≥ 65)) with hb68 | hb68
  ·skip
   have hq69 := dt_ hb68
   refine B2 A rfl (bge_ hb68) λ A=>Z 2 A rfl λ A=>?_
   rcases eb_ (decide (((c.toNat : Nat) : Int) ≤ 70)) with hb76 | hb76
   ·skip
    have hq77 := dt_ hb76
    refine B2 A rfl (ble_ hb76) λ A=>Z 2 A rfl λ A=>qt_<|ct_ A rfl<|sw_<|Z 1 A rfl λ A=>B2 A rfl (b_subK (((c.toNat : Nat) : Int) - 65) (wrap8 (by omega) (by omega))) λ A=>qs A rfl (d_conv (((c.toNat : Nat) : Int) - 65) (wn rfl) (A.ev rfl) knd5 knd3 (wrapI (by omega) (by omega)) λ _ A=>B2 A rfl (b_add _ _ (((c.toNat : Nat) : Int) - 65) 10 _ (by omega) (by omega)) λ A=>Z 1 A rfl λ A=>qt_ ?_)
    refine we_<|i_ret<|tr_<|ret1 rfl A (v := (J (((c.toNat : Nat) : Int) - 65 + 10))) rfl ?_
    exact ⟨by rw [hx_up (by omega) (by omega)], b11⟩
   have hq94 := df_ hb76
   refine B2 A rfl (ble_ hb76) λ A=>Z 2 A rfl λ A=>qt_<|cf_ A rfl<|wk_<|i_norm<|tn_<|sw_<|Z 1 A rfl λ A=>qt_<|we_ ?_
   refine ret1 rfl A (v := (J (-1))) rfl ?_
   exact ⟨by rw [hx_no (by omega) (by omega) (by omega)], b11⟩
  have hq103 := df_ hb68
  refine B2 A rfl (bge_ hb68) λ A=>Z 5 A rfl λ A=>qt_<|cf_ A rfl<|wk_<|i_norm<|tn_<|sw_<|Z 1 A rfl λ A=>qt_<|we_ ?_
  refine ret1 rfl A (v := (J (-1))) rfl ?_
  exact ⟨by rw [hx_no (by omega) (by omega) (by omega)], b11⟩
 have hq118 := df_ hb33
 refine B2 A rfl (bge_ hb33) λ A=>Z 5 A rfl λ A=>qt_<|cf_ A rfl<|sw_<|Z 1 A rfl λ A=>?_
 rcases eb_ (decide (((c.toNat : Nat) : Int) ≥ 65)) with hb133 | hb133
 ·skip
  have hq134 := dt_ hb133
  refine B2 A rfl (bge_ hb133) λ A=>Z 2 A rfl λ A=>?_
  rcases eb_ (decide (((c.toNat : Nat) : Int) ≤ 70)) with hb141 | hb141
  ·skip
   have hq142 := dt_ hb141
   refine B2 A rfl (ble_ hb141) λ A=>Z 2 A rfl λ A=>qt_<|ct_ A rfl<|sw_<|Z 1 A rfl λ A=>B2 A rfl (b_subK (((c.toNat : Nat) : Int) - 65) (wrap8 (by omega) (by omega))) λ A=>qs A rfl (d_conv (((c.toNat : Nat) : Int) - 65) (wn rfl) (A.ev rfl) knd5 knd3 (wrapI (by omega) (by omega)) λ _ A=>B2 A rfl (b_add _ _ (((c.toNat : Nat) : Int) - 65) 10 _ (by omega) (by omega)) λ A=>Z 1 A rfl λ A=>qt_ ?_)
   refine we_<|i_ret<|tr_<|ret1 rfl A (v := (J (((c.toNat : Nat) : Int) - 65 + 10))) rfl ?_
   exact ⟨by rw [hx_up (by omega) (by omega)], b11⟩
  have hq159 := df_ hb141
  refine B2 A rfl (ble_ hb141) λ A=>Z 2 A rfl λ A=>qt_<|cf_ A rfl<|wk_<|i_norm<|tn_<|sw_<|Z 1 A rfl λ A=>qt_<|we_ ?_
  refine ret1 rfl A (v := (J (-1))) rfl ?_
  exact ⟨by rw [hx_no (by omega) (by omega) (by omega)], b11⟩
 have hq168 := df_ hb133
 refine B2 A rfl (bge_ hb133) λ A=>Z 5 A rfl λ A=>qt_<|cf_ A rfl<|wk_<|i_norm<|tn_<|sw_<|Z 1 A rfl λ A=>qt_<|we_ ?_
 refine ret1 rfl A (v := (J (-1))) rfl ?_
 exact ⟨by rw [hx_no (by omega) (by omega) (by omega)], b11⟩
theorem rvalue_any (l : List UInt8) (w : World) (hl : l.length ≤ 8192) : Calls Tryz.prog 131 #[.string (S l)] w λ e w' => e = .returned (valV (numR l)) ∧ Grow w w' := by
 have b0 := Grow.refl w
 refine enter (n := 69) Tryz.func131 rfl rfl (nb_ rfl) λ _ A=>sw_<|Z 2 A rfl λ A=>qt_<|sw_<|Z 1 A rfl λ A=>qt_<|sw_<|Z 1 A rfl λ A=>?_
 refine qt_<|ws_<|sw_<|Z 1 A rfl λ A=>qs A rfl (d_slen (wn rfl) (A.ev rfl) str9 λ _ A=>?_)
 rcases eb_ (decide (((l.length : Nat) : Int) > 2)) with hb15 | hb15
 ·skip
  have hq16 := dt_ hb15
  refine B2 A rfl (bg hb15) λ A=>Z 2 A rfl λ A=>?_
  obtain ⟨y23, hy24⟩ : ∃ y23, l[0]? = some y23 := ⟨_, List.getElem?_eq_getElem (show 0 < l.length by first | omega | (rw [List.length_drop]; omega))⟩
  refine qs A rfl (d_sat (j := 0) (wy rfl rfl (A.g 12 rfl)) (A.ev rfl) (A.ev rfl) str9 hy24 λ _ A=>?_)
  rcases eb_ (((y23.toNat : Nat) : Int) == 48) with hb27 | hb27
  ·skip
   have hq28 := eq_of_beq hb27
   refine B2 A rfl (bq hb27) λ A=>Z 3 A rfl λ A=>?_
   obtain ⟨y37, hy38⟩ : ∃ y37, l[1]? = some y37 := ⟨_, List.getElem?_eq_getElem (show 1 < l.length by first | omega | (rw [List.length_drop]; omega))⟩
   refine qs A rfl (d_sat (j := 1) (wy rfl rfl (A.g 17 rfl)) (A.ev rfl) (A.ev rfl) str9 hy38 λ _ A=>?_)
   rcases eb_ (((y37.toNat : Nat) : Int) == 120) with hb41 | hb41
   ·skip
    have hq42 := eq_of_beq hb41
    refine B2 A rfl (bq hb41) λ A=>Z 1 A rfl λ A=>qt_<|ct_ A rfl<|sw_<|Z 1 A rfl λ A=>qt_<|sw_<|Z 1 A rfl λ A=>qe_ ?_
    refine tn_<|wr_<|Z 1 A rfl λ A=>qs A rfl (d_srest (n := 2) (wn rfl) (A.ev rfl) (A.ev rfl) str9 (by first | omega | (rw [List.length_drop]; omega)) λ _ A=>Z 1 A rfl λ A=>qt_<|ws_<|sw_<|Z 1 A rfl λ A=>?_)
    have hnum := numx hy24 (by omega) hy38 (by omega)
    have hdl : (List.drop 2 l).length = l.length - 2 := List.length_drop
    refine qs A rfl (d_slen (wn rfl) (A.ev rfl) str9 λ _ A=>?_)
    rcases eb_ (decide ((((List.drop 2 l).length : Nat) : Int) < 1)) with hb61 | hb61
    ·skip
     have hq62 := dt_ hb61
     refine B2 A rfl (bl hb61) λ A=>Z 6 A rfl λ A=>qt_<|ct_ A rfl<|sw_<|Z 2 A rfl λ A=>qt_<|we_<|tr_<|ret2 (x := (J 0)) (y := (.bool false)) rfl A rfl rfl ?_
     rw [if_neg (by omega), val_nil (List.eq_nil_of_length_eq_zero (by omega))] at hnum
     exact ⟨by rw [hnum] <;> rfl, b0⟩
    have hq81 := df_ hb61
    refine B2 A rfl (bl hb61) λ A=>Z 2 A rfl λ A=>qs A rfl (d_slen (wy rfl rfl (A.g 27 rfl)) (A.ev rfl) str9 λ _ A=>Z 1 A rfl λ A=>?_)
    rcases eb_ (decide ((((List.drop 2 l).length : Nat) : Int) > 16)) with hb92 | hb92
    ·skip
     have hq93 := dt_ hb92
     refine B2 A rfl (bg hb92) λ A=>Z 1 A rfl λ A=>qt_<|ct_ A rfl<|sw_<|Z 2 A rfl λ A=>qt_<|we_<|tr_<|ret2 (x := (J 0)) (y := (.bool false)) rfl A rfl rfl ?_
     rw [if_pos (by omega)] at hnum
     exact ⟨by rw [hnum] <;> rfl, b0⟩
    have hq102 := df_ hb92
    refine B2 A rfl (bg hb92) λ A=>Z 1 A rfl λ A=>qt_<|cf_ A rfl<|wk_<|tn_<|sw_<|Z 1 A rfl λ A=>qt_<|ws_<|ws_ ?_
    refine wr_<|Z 1 A rfl λ A=>?_
    rw [if_neg (by omega)] at hnum
    refine qt_<|wp_block ?_
    have hne : 0 < (List.drop 2 l).length := by omega
    refine loop_by (λ m112 a113 w114 => ∃ j111 : Nat, m112 = (List.drop 2 l).length - j111 ∧ (j111 ≤ (List.drop 2 l).length ∧ allD 16 (List.take j111 (List.drop 2 l)) = true ∧ nv 16 (List.take j111 (List.drop 2 l)) ≤ 9223372036854775808) ∧ St 69 [(0, (.string (S (List.drop 2 l)))), (2, (J 0)), (3, (.bool false)), (4, (J 16)), (5, (J 16)), (6, (.int .u64 ((nv 16 (List.take j111 (List.drop 2 l)) : Nat) : Int))), (7, (J ((j111 : Nat) : Int)))] a113 ∧ Below w.heap.size w w114) ((List.drop 2 l).length - 0) ⟨0, rfl, ⟨by omega, rfl, by rw [nv_zero]; omega⟩, A.cut _ (fc (A.g 0 rfl) (fc (A.g 2 rfl) (fc (A.g 3 rfl) (fc (A.g 4 rfl) (fc (A.g 5 rfl) (fc ((A.g 6 rfl).trans (congrArg (Value.int .u64) (rfl))) (fc ((A.g 7 rfl).trans (congrArg (Value.int .i64) (by omega))) fn_))))))), b0⟩ ?_
    rintro m112 a113 w114 ⟨j111, hm117, hc118, A, b116⟩
    obtain ⟨hj, hall, htop⟩ := hc118
    refine ws_<|sw_<|Z 2 A rfl λ A=>qs A rfl (d_slen (wn rfl) (A.ev rfl) str9 λ _ A=>?_)
    rcases eb_ (decide (((j111 : Nat) : Int) < (((List.drop 2 l).length : Nat) : Int))) with hb125 | hb125
    ·skip
     have hq126 := dt_ hb125
     refine B2 A rfl (bl hb125) λ A=>qt_<|ct_ A rfl<|wk_<|tn_<|ws_<|wp_block<|sw_<|Z 2 A rfl λ A=>?_
     obtain ⟨y133, hy134⟩ : ∃ y133, (List.drop 2 l)[j111]? = some y133 := ⟨_, List.getElem?_eq_getElem (show j111 < (List.drop 2 l).length by first | omega | (rw [List.length_drop]; omega))⟩
     refine qs A rfl (d_sat (j := j111) (wn rfl) (A.ev rfl) (A.ev rfl) str9 hy134 λ _ A=>?_)
     have hxo := hx_or y133
     refine C A rfl ent166 (rhex_any y133 w114) ?_
     rintro e140 w137 ⟨he139, hG138⟩
     have b141 := bls b116 hG138
     refine ⟨(J (hxI y133)), he139, λ _ A=>Z 1 A rfl λ A=>qt_<|ws_<|sw_<|Z 1 A rfl λ A=>?_⟩
     rcases eb_ (decide (hxI y133 < 0)) with hb148 | hb148
     ·skip
      have hq149 := dt_ hb148
      refine B2 A rfl (bl hb148) λ A=>Z 15 A rfl λ A=>qt_<|ct_ A rfl<|sw_<|Z 2 A rfl λ A=>qt_<|we_<|tr_<|i_ret<|tr_ ?_
      refine tr_<|i_ret<|tr_<|ret2 (x := (J 0)) (y := (.bool false)) rfl A rfl rfl ?_
      rw [fits_bad hy134 (by omega)] at hnum
      exact ⟨by rw [hnum] <;> rfl, b141⟩
     have hq186 := df_ hb148
     refine B2 A rfl (bl hb148) λ A=>Z 3 A rfl λ A=>?_
     rcases eb_ (decide (hxI y133 ≥ 16)) with hb195 | hb195
     ·skip
      have hq196 := dt_ hb195
      refine B2 A rfl (bge_ hb195) λ A=>Z 11 A rfl λ A=>qt_<|ct_ A rfl<|sw_<|Z 2 A rfl λ A=>qt_<|we_<|tr_<|i_ret<|tr_ ?_
      refine tr_<|i_ret<|tr_<|ret2 (x := (J 0)) (y := (.bool false)) rfl A rfl rfl ?_
      rw [fits_bad hy134 (by omega)] at hnum
      exact ⟨by rw [hnum] <;> rfl, b141⟩
     have hq225 := df_ hb195
     refine B2 A rfl (bge_ hb195) λ A=>Z 4 A rfl λ A=>qs A rfl (d_conv (hxI y133) (wy rfl rfl (A.g 50 rfl)) (A.ev rfl) knd3 knd122 (wrq64 (by omega) (by omega)) λ _ A=>B2 A rfl (b_subK (9223372036854775808 - (hxI y133)) (wrq64 (by omega) (by omega))) λ A=>Z 1 A rfl λ A=>qs A rfl (d_conv 16 (wy rfl rfl (A.g 50 rfl)) (A.ev rfl) knd3 knd122 rfl λ _ A=>B2 A rfl (b_quo64 (by omega) (by omega) (by omega)) λ A=>?_))
     rcases eb_ (decide (((nv 16 (List.take j111 (List.drop 2 l)) : Nat) : Int) > (9223372036854775808 - (hxI y133)) / 16)) with hb246 | hb246
     ·skip
      have hq247 := dt_ hb246
      refine B2 A rfl (bg hb246) λ A=>Z 1 A rfl λ A=>qt_<|ct_ A rfl<|sw_<|Z 2 A rfl λ A=>qt_<|we_<|tr_<|i_ret<|tr_ ?_
      refine tr_<|i_ret<|tr_<|ret2 (x := (J 0)) (y := (.bool false)) rfl A rfl rfl ?_
      have hgo := nv_go (bs := 16) hy134
      rw [fits_over (by omega) (i := j111 + 1) (by omega)] at hnum
      exact ⟨by rw [hnum] <;> rfl, b141⟩
     have hq256 := df_ hb246
     refine B2 A rfl (bg hb246) λ A=>Z 1 A rfl λ A=>qt_<|cf_ A rfl<|wk_<|tn_<|wr_<|Z 2 A rfl λ A=>qs A rfl (d_conv 16 (wn rfl) (A.ev rfl) knd3 knd122 rfl λ _ A=>B2 A rfl (b_mulK (((nv 16 (List.take j111 (List.drop 2 l)) : Nat) : Int) * 16) (wrq64 (by omega) (by omega))) λ A=>Z 1 A rfl λ A=>qs A rfl (d_conv (hxI y133) (wn rfl) (A.ev rfl) knd3 knd122 (wrq64 (by omega) (by omega)) λ _ A=>B2 A rfl (b_addK (((nv 16 (List.take j111 (List.drop 2 l)) : Nat) : Int) * 16 + (hxI y133)) (wrq64 (by omega) (by omega))) λ A=>?_))
     refine Z 1 A rfl λ A=>qe_<|i_norm<|tn_<|wr_<|Z 1 A rfl λ A=>B2 A rfl (b_addE (j111 + 1) (by omega) (by omega)) λ A=>Z 1 A rfl λ A=>qt_ ?_
     have hgo := nv_go (bs := 16) hy134
     have hall2 := all_go hy134 hall (by omega)
     exact ⟨(List.drop 2 l).length - (j111 + 1), (by rw [hm117]; omega), j111 + 1, rfl, ⟨by omega, hall2, by omega⟩, A.cut _ (fc (A.g 0 rfl) (fc (A.g 2 rfl) (fc (A.g 3 rfl) (fc (A.g 4 rfl) (fc (A.g 5 rfl) (fc ((A.g 6 rfl).trans (congrArg (Value.int .u64) (by omega))) (fc (A.g 7 rfl) fn_))))))), b141⟩
    have hq283 := df_ hb125
    refine B2 A rfl (bl hb125) λ A=>qt_<|cf_ A rfl<|wp_exit<|t_exit<|t_exit<|i_here<|tn_<|sw_<|Z 1 A rfl λ A=>qs A rfl (d_conv (IntKind.wrap .i64 ((nv 16 (List.take j111 (List.drop 2 l)) : Nat) : Int)) (wn rfl) (A.ev rfl) knd122 knd3 rfl λ _ A=>Z 2 A rfl λ A=>?_)
    refine qt_<|we_<|ret2 (x := (J (IntKind.wrap .i64 ((nv 16 (List.take j111 (List.drop 2 l)) : Nat) : Int)))) (y := (.bool true)) rfl A rfl rfl ?_
    rw [fits_end (by intro h; rw [h] at hne; exact absurd hne (by simp)) hall (by omega) htop] at hnum
    exact ⟨by rw [hnum] <;> rfl, b116⟩
   have hq294 := ne_of_beq hb41
   refine B2 A rfl (bq hb41) λ A=>Z 1 A rfl λ A=>qt_<|cf_ A rfl<|wk_<|tn_<|ws_<|sw_<|Z 1 A rfl λ A=>?_
   have hnum := numd_b hy38 (by omega)
   refine qs A rfl (d_slen (wn rfl) (A.ev rfl) str9 λ _ A=>?_)
   rcases eb_ (decide (((l.length : Nat) : Int) < 1)) with hb303 | hb303
   ·skip
    have hq304 := dt_ hb303
    refine B2 A rfl (bl hb303) λ A=>Z 6 A rfl λ A=>qt_<|ct_ A rfl<|sw_<|Z 2 A rfl λ A=>qt_<|we_<|tr_<|ret2 (x := (J 0)) (y := (.bool false)) rfl A rfl rfl ?_
    rw [if_neg (by omega), val_nil (List.eq_nil_of_length_eq_zero (by omega))] at hnum
    exact ⟨by rw [hnum] <;> rfl, b0⟩
   have hq323 := df_ hb303
   refine B2 A rfl (bl hb303) λ A=>Z 2 A rfl λ A=>qs A rfl (d_slen (wy rfl rfl (A.g 27 rfl)) (A.ev rfl) str9 λ _ A=>Z 1 A rfl λ A=>?_)
   rcases eb_ (decide (((l.length : Nat) : Int) > 19)) with hb334 | hb334
   ·skip
    have hq335 := dt_ hb334
    refine B2 A rfl (bg hb334) λ A=>Z 1 A rfl λ A=>qt_<|ct_ A rfl<|sw_<|Z 2 A rfl λ A=>qt_<|we_<|tr_<|ret2 (x := (J 0)) (y := (.bool false)) rfl A rfl rfl ?_
    rw [if_pos (by omega)] at hnum
    exact ⟨by rw [hnum] <;> rfl, b0⟩
   have hq344 := df_ hb334
   refine B2 A rfl (bg hb334) λ A=>Z 1 A rfl λ A=>qt_<|cf_ A rfl<|wk_<|tn_<|sw_<|Z 1 A rfl λ A=>qt_<|ws_<|ws_ ?_
   refine wr_<|Z 1 A rfl λ A=>?_
   rw [if_neg (by omega)] at hnum
   refine qt_<|wp_block ?_
   have hne : 0 < l.length := by omega
   refine loop_by (λ m354 a355 w356 => ∃ j353 : Nat, m354 = l.length - j353 ∧ (j353 ≤ l.length ∧ allD 10 (List.take j353 l) = true ∧ nv 10 (List.take j353 l) ≤ 9223372036854775808) ∧ St 69 [(0, (.string (S l))), (2, (J 0)), (3, (.bool false)), (4, (J 10)), (5, (J 19)), (6, (.int .u64 ((nv 10 (List.take j353 l) : Nat) : Int))), (7, (J ((j353 : Nat) : Int)))] a355 ∧ Below w.heap.size w w356) (l.length - 0) ⟨0, rfl, ⟨by omega, rfl, by rw [nv_zero]; omega⟩, A.cut _ (fc (A.g 0 rfl) (fc (A.g 2 rfl) (fc (A.g 3 rfl) (fc (A.g 4 rfl) (fc (A.g 5 rfl) (fc ((A.g 6 rfl).trans (congrArg (Value.int .u64) (rfl))) (fc ((A.g 7 rfl).trans (congrArg (Value.int .i64) (by omega))) fn_))))))), b0⟩ ?_
   rintro m354 a355 w356 ⟨j353, hm359, hc360, A, b358⟩
   obtain ⟨hj, hall, htop⟩ := hc360
   refine ws_<|sw_<|Z 2 A rfl λ A=>qs A rfl (d_slen (wn rfl) (A.ev rfl) str9 λ _ A=>?_)
   rcases eb_ (decide (((j353 : Nat) : Int) < ((l.length : Nat) : Int))) with hb367 | hb367
   ·skip
    have hq368 := dt_ hb367
    refine B2 A rfl (bl hb367) λ A=>qt_<|ct_ A rfl<|wk_<|tn_<|ws_<|wp_block<|sw_<|Z 2 A rfl λ A=>?_
    obtain ⟨y375, hy376⟩ : ∃ y375, l[j353]? = some y375 := ⟨_, List.getElem?_eq_getElem (show j353 < l.length by first | omega | (rw [List.length_drop]; omega))⟩
    refine qs A rfl (d_sat (j := j353) (wn rfl) (A.ev rfl) (A.ev rfl) str9 hy376 λ _ A=>?_)
    have hxo := hx_or y375
    refine C A rfl ent166 (rhex_any y375 w356) ?_
    rintro e382 w379 ⟨he381, hG380⟩
    have b383 := bls b358 hG380
    refine ⟨(J (hxI y375)), he381, λ _ A=>Z 1 A rfl λ A=>qt_<|ws_<|sw_<|Z 1 A rfl λ A=>?_⟩
    rcases eb_ (decide (hxI y375 < 0)) with hb390 | hb390
    ·skip
     have hq391 := dt_ hb390
     refine B2 A rfl (bl hb390) λ A=>Z 15 A rfl λ A=>qt_<|ct_ A rfl<|sw_<|Z 2 A rfl λ A=>qt_<|we_<|tr_<|i_ret<|tr_ ?_
     refine tr_<|i_ret<|tr_<|ret2 (x := (J 0)) (y := (.bool false)) rfl A rfl rfl ?_
     rw [fits_bad hy376 (by omega)] at hnum
     exact ⟨by rw [hnum] <;> rfl, b383⟩
    have hq428 := df_ hb390
    refine B2 A rfl (bl hb390) λ A=>Z 3 A rfl λ A=>?_
    rcases eb_ (decide (hxI y375 ≥ 10)) with hb437 | hb437
    ·skip
     have hq438 := dt_ hb437
     refine B2 A rfl (bge_ hb437) λ A=>Z 11 A rfl λ A=>qt_<|ct_ A rfl<|sw_<|Z 2 A rfl λ A=>qt_<|we_<|tr_<|i_ret<|tr_ ?_
     refine tr_<|i_ret<|tr_<|ret2 (x := (J 0)) (y := (.bool false)) rfl A rfl rfl ?_
     rw [fits_bad hy376 (by omega)] at hnum
     exact ⟨by rw [hnum] <;> rfl, b383⟩
    have hq467 := df_ hb437
    refine B2 A rfl (bge_ hb437) λ A=>Z 4 A rfl λ A=>qs A rfl (d_conv (hxI y375) (wy rfl rfl (A.g 50 rfl)) (A.ev rfl) knd3 knd122 (wrq64 (by omega) (by omega)) λ _ A=>B2 A rfl (b_subK (9223372036854775808 - (hxI y375)) (wrq64 (by omega) (by omega))) λ A=>Z 1 A rfl λ A=>qs A rfl (d_conv 10 (wy rfl rfl (A.g 50 rfl)) (A.ev rfl) knd3 knd122 rfl λ _ A=>B2 A rfl (b_quo64 (by omega) (by omega) (by omega)) λ A=>?_))
    rcases eb_ (decide (((nv 10 (List.take j353 l) : Nat) : Int) > (9223372036854775808 - (hxI y375)) / 10)) with hb488 | hb488
    ·skip
     have hq489 := dt_ hb488
     refine B2 A rfl (bg hb488) λ A=>Z 1 A rfl λ A=>qt_<|ct_ A rfl<|sw_<|Z 2 A rfl λ A=>qt_<|we_<|tr_<|i_ret<|tr_ ?_
     refine tr_<|i_ret<|tr_<|ret2 (x := (J 0)) (y := (.bool false)) rfl A rfl rfl ?_
     have hgo := nv_go (bs := 10) hy376
     rw [fits_over (by omega) (i := j353 + 1) (by omega)] at hnum
     exact ⟨by rw [hnum] <;> rfl, b383⟩
    have hq498 := df_ hb488
    refine B2 A rfl (bg hb488) λ A=>Z 1 A rfl λ A=>qt_<|cf_ A rfl<|wk_<|tn_<|wr_<|Z 2 A rfl λ A=>qs A rfl (d_conv 10 (wn rfl) (A.ev rfl) knd3 knd122 rfl λ _ A=>B2 A rfl (b_mulK (((nv 10 (List.take j353 l) : Nat) : Int) * 10) (wrq64 (by omega) (by omega))) λ A=>Z 1 A rfl λ A=>qs A rfl (d_conv (hxI y375) (wn rfl) (A.ev rfl) knd3 knd122 (wrq64 (by omega) (by omega)) λ _ A=>B2 A rfl (b_addK (((nv 10 (List.take j353 l) : Nat) : Int) * 10 + (hxI y375)) (wrq64 (by omega) (by omega))) λ A=>?_))
    refine Z 1 A rfl λ A=>qe_<|i_norm<|tn_<|wr_<|Z 1 A rfl λ A=>B2 A rfl (b_addE (j353 + 1) (by omega) (by omega)) λ A=>Z 1 A rfl λ A=>qt_ ?_
    have hgo := nv_go (bs := 10) hy376
    have hall2 := all_go hy376 hall (by omega)
    exact ⟨l.length - (j353 + 1), (by rw [hm359]; omega), j353 + 1, rfl, ⟨by omega, hall2, by omega⟩, A.cut _ (fc (A.g 0 rfl) (fc (A.g 2 rfl) (fc (A.g 3 rfl) (fc (A.g 4 rfl) (fc (A.g 5 rfl) (fc ((A.g 6 rfl).trans (congrArg (Value.int .u64) (by omega))) (fc (A.g 7 rfl) fn_))))))), b383⟩
   have hq525 := df_ hb367
   refine B2 A rfl (bl hb367) λ A=>qt_<|cf_ A rfl<|wp_exit<|t_exit<|t_exit<|i_here<|tn_<|sw_<|Z 1 A rfl λ A=>qs A rfl (d_conv (IntKind.wrap .i64 ((nv 10 (List.take j353 l) : Nat) : Int)) (wn rfl) (A.ev rfl) knd122 knd3 rfl λ _ A=>Z 2 A rfl λ A=>?_)
   refine qt_<|we_<|ret2 (x := (J (IntKind.wrap .i64 ((nv 10 (List.take j353 l) : Nat) : Int)))) (y := (.bool true)) rfl A rfl rfl ?_
   rw [fits_end (by intro h; rw [h] at hne; exact absurd hne (by simp)) hall (by omega) htop] at hnum
   exact ⟨by rw [hnum] <;> rfl, b358⟩
  have hq536 := ne_of_beq hb27
  refine B2 A rfl (bq hb27) λ A=>Z 6 A rfl λ A=>qt_<|cf_ A rfl<|wk_<|tn_<|ws_<|sw_<|Z 1 A rfl λ A=>?_
  have hnum := numd_a hy24 (by omega)
  refine qs A rfl (d_slen (wn rfl) (A.ev rfl) str9 λ _ A=>?_)
  rcases eb_ (decide (((l.length : Nat) : Int) < 1)) with hb555 | hb555
  ·skip
   have hq556 := dt_ hb555
   refine B2 A rfl (bl hb555) λ A=>Z 6 A rfl λ A=>qt_<|ct_ A rfl<|sw_<|Z 2 A rfl λ A=>qt_<|we_<|tr_<|ret2 (x := (J 0)) (y := (.bool false)) rfl A rfl rfl ?_
   rw [if_neg (by omega), val_nil (List.eq_nil_of_length_eq_zero (by omega))] at hnum
   exact ⟨by rw [hnum] <;> rfl, b0⟩
  have hq575 := df_ hb555
  refine B2 A rfl (bl hb555) λ A=>Z 2 A rfl λ A=>qs A rfl (d_slen (wy rfl rfl (A.g 27 rfl)) (A.ev rfl) str9 λ _ A=>Z 1 A rfl λ A=>?_)
  rcases eb_ (decide (((l.length : Nat) : Int) > 19)) with hb586 | hb586
  ·skip
   have hq587 := dt_ hb586
   refine B2 A rfl (bg hb586) λ A=>Z 1 A rfl λ A=>qt_<|ct_ A rfl<|sw_<|Z 2 A rfl λ A=>qt_<|we_<|tr_<|ret2 (x := (J 0)) (y := (.bool false)) rfl A rfl rfl ?_
   rw [if_pos (by omega)] at hnum
   exact ⟨by rw [hnum] <;> rfl, b0⟩
  have hq596 := df_ hb586
  refine B2 A rfl (bg hb586) λ A=>Z 1 A rfl λ A=>qt_<|cf_ A rfl<|wk_<|tn_<|sw_<|Z 1 A rfl λ A=>qt_<|ws_<|ws_ ?_
  refine wr_<|Z 1 A rfl λ A=>?_
  rw [if_neg (by omega)] at hnum
  refine qt_<|wp_block ?_
  have hne : 0 < l.length := by omega
  refine loop_by (λ m606 a607 w608 => ∃ j605 : Nat, m606 = l.length - j605 ∧ (j605 ≤ l.length ∧ allD 10 (List.take j605 l) = true ∧ nv 10 (List.take j605 l) ≤ 9223372036854775808) ∧ St 69 [(0, (.string (S l))), (2, (J 0)), (3, (.bool false)), (4, (J 10)), (5, (J 19)), (6, (.int .u64 ((nv 10 (List.take j605 l) : Nat) : Int))), (7, (J ((j605 : Nat) : Int)))] a607 ∧ Below w.heap.size w w608) (l.length - 0) ⟨0, rfl, ⟨by omega, rfl, by rw [nv_zero]; omega⟩, A.cut _ (fc (A.g 0 rfl) (fc (A.g 2 rfl) (fc (A.g 3 rfl) (fc (A.g 4 rfl) (fc (A.g 5 rfl) (fc ((A.g 6 rfl).trans (congrArg (Value.int .u64) (rfl))) (fc ((A.g 7 rfl).trans (congrArg (Value.int .i64) (by omega))) fn_))))))), b0⟩ ?_
  rintro m606 a607 w608 ⟨j605, hm611, hc612, A, b610⟩
  obtain ⟨hj, hall, htop⟩ := hc612
  refine ws_<|sw_<|Z 2 A rfl λ A=>qs A rfl (d_slen (wn rfl) (A.ev rfl) str9 λ _ A=>?_)
  rcases eb_ (decide (((j605 : Nat) : Int) < ((l.length : Nat) : Int))) with hb619 | hb619
  ·skip
   have hq620 := dt_ hb619
   refine B2 A rfl (bl hb619) λ A=>qt_<|ct_ A rfl<|wk_<|tn_<|ws_<|wp_block<|sw_<|Z 2 A rfl λ A=>?_
   obtain ⟨y627, hy628⟩ : ∃ y627, l[j605]? = some y627 := ⟨_, List.getElem?_eq_getElem (show j605 < l.length by first | omega | (rw [List.length_drop]; omega))⟩
   refine qs A rfl (d_sat (j := j605) (wn rfl) (A.ev rfl) (A.ev rfl) str9 hy628 λ _ A=>?_)
   have hxo := hx_or y627
   refine C A rfl ent166 (rhex_any y627 w608) ?_
   rintro e634 w631 ⟨he633, hG632⟩
   have b635 := bls b610 hG632
   refine ⟨(J (hxI y627)), he633, λ _ A=>Z 1 A rfl λ A=>qt_<|ws_<|sw_<|Z 1 A rfl λ A=>?_⟩
   rcases eb_ (decide (hxI y627 < 0)) with hb642 | hb642
   ·skip
    have hq643 := dt_ hb642
    refine B2 A rfl (bl hb642) λ A=>Z 15 A rfl λ A=>qt_<|ct_ A rfl<|sw_<|Z 2 A rfl λ A=>qt_<|we_<|tr_<|i_ret<|tr_ ?_
    refine tr_<|i_ret<|tr_<|ret2 (x := (J 0)) (y := (.bool false)) rfl A rfl rfl ?_
    rw [fits_bad hy628 (by omega)] at hnum
    exact ⟨by rw [hnum] <;> rfl, b635⟩
   have hq680 := df_ hb642
   refine B2 A rfl (bl hb642) λ A=>Z 3 A rfl λ A=>?_
   rcases eb_ (decide (hxI y627 ≥ 10)) with hb689 | hb689
   ·skip
    have hq690 := dt_ hb689
    refine B2 A rfl (bge_ hb689) λ A=>Z 11 A rfl λ A=>qt_<|ct_ A rfl<|sw_<|Z 2 A rfl λ A=>qt_<|we_<|tr_<|i_ret<|tr_ ?_
    refine tr_<|i_ret<|tr_<|ret2 (x := (J 0)) (y := (.bool false)) rfl A rfl rfl ?_
    rw [fits_bad hy628 (by omega)] at hnum
    exact ⟨by rw [hnum] <;> rfl, b635⟩
   have hq719 := df_ hb689
   refine B2 A rfl (bge_ hb689) λ A=>Z 4 A rfl λ A=>qs A rfl (d_conv (hxI y627) (wy rfl rfl (A.g 50 rfl)) (A.ev rfl) knd3 knd122 (wrq64 (by omega) (by omega)) λ _ A=>B2 A rfl (b_subK (9223372036854775808 - (hxI y627)) (wrq64 (by omega) (by omega))) λ A=>Z 1 A rfl λ A=>qs A rfl (d_conv 10 (wy rfl rfl (A.g 50 rfl)) (A.ev rfl) knd3 knd122 rfl λ _ A=>B2 A rfl (b_quo64 (by omega) (by omega) (by omega)) λ A=>?_))
   rcases eb_ (decide (((nv 10 (List.take j605 l) : Nat) : Int) > (9223372036854775808 - (hxI y627)) / 10)) with hb740 | hb740
   ·skip
    have hq741 := dt_ hb740
    refine B2 A rfl (bg hb740) λ A=>Z 1 A rfl λ A=>qt_<|ct_ A rfl<|sw_<|Z 2 A rfl λ A=>qt_<|we_<|tr_<|i_ret<|tr_ ?_
    refine tr_<|i_ret<|tr_<|ret2 (x := (J 0)) (y := (.bool false)) rfl A rfl rfl ?_
    have hgo := nv_go (bs := 10) hy628
    rw [fits_over (by omega) (i := j605 + 1) (by omega)] at hnum
    exact ⟨by rw [hnum] <;> rfl, b635⟩
   have hq750 := df_ hb740
   refine B2 A rfl (bg hb740) λ A=>Z 1 A rfl λ A=>qt_<|cf_ A rfl<|wk_<|tn_<|wr_<|Z 2 A rfl λ A=>qs A rfl (d_conv 10 (wn rfl) (A.ev rfl) knd3 knd122 rfl λ _ A=>B2 A rfl (b_mulK (((nv 10 (List.take j605 l) : Nat) : Int) * 10) (wrq64 (by omega) (by omega))) λ A=>Z 1 A rfl λ A=>qs A rfl (d_conv (hxI y627) (wn rfl) (A.ev rfl) knd3 knd122 (wrq64 (by omega) (by omega)) λ _ A=>B2 A rfl (b_addK (((nv 10 (List.take j605 l) : Nat) : Int) * 10 + (hxI y627)) (wrq64 (by omega) (by omega))) λ A=>?_))
   refine Z 1 A rfl λ A=>qe_<|i_norm<|tn_<|wr_<|Z 1 A rfl λ A=>B2 A rfl (b_addE (j605 + 1) (by omega) (by omega)) λ A=>Z 1 A rfl λ A=>qt_ ?_
   have hgo := nv_go (bs := 10) hy628
   have hall2 := all_go hy628 hall (by omega)
   exact ⟨l.length - (j605 + 1), (by rw [hm611]; omega), j605 + 1, rfl, ⟨by omega, hall2, by omega⟩, A.cut _ (fc (A.g 0 rfl) (fc (A.g 2 rfl) (fc (A.g 3 rfl) (fc (A.g 4 rfl) (fc (A.g 5 rfl) (fc ((A.g 6 rfl).trans (congrArg (Value.int .u64) (by omega))) (fc (A.g 7 rfl) fn_))))))), b635⟩
  have hq777 := df_ hb619
  refine B2 A rfl (bl hb619) λ A=>qt_<|cf_ A rfl<|wp_exit<|t_exit<|t_exit<|i_here<|tn_<|sw_<|Z 1 A rfl λ A=>qs A rfl (d_conv (IntKind.wrap .i64 ((nv 10 (List.take j605 l) : Nat) : Int)) (wn rfl) (A.ev rfl) knd122 knd3 rfl λ _ A=>Z 2 A rfl λ A=>?_)
  refine qt_<|we_<|ret2 (x := (J (IntKind.wrap .i64 ((nv 10 (List.take j605 l) : Nat) : Int)))) (y := (.bool true)) rfl A rfl rfl ?_
  rw [fits_end (by intro h; rw [h] at hne; exact absurd hne (by simp)) hall (by omega) htop] at hnum
  exact ⟨by rw [hnum] <;> rfl, b610⟩
 have hq788 := df_ hb15
 refine B2 A rfl (bg hb15) λ A=>Z 10 A rfl λ A=>qt_<|cf_ A rfl<|wk_<|tn_<|ws_<|sw_<|Z 1 A rfl λ A=>?_
 have hnum := numd_short (l := l) (by omega)
 refine qs A rfl (d_slen (wn rfl) (A.ev rfl) str9 λ _ A=>?_)
 rcases eb_ (decide (((l.length : Nat) : Int) < 1)) with hb815 | hb815
 ·skip
  have hq816 := dt_ hb815
  refine B2 A rfl (bl hb815) λ A=>Z 6 A rfl λ A=>qt_<|ct_ A rfl<|sw_<|Z 2 A rfl λ A=>qt_<|we_<|tr_<|ret2 (x := (J 0)) (y := (.bool false)) rfl A rfl rfl ?_
  rw [if_neg (by omega), val_nil (List.eq_nil_of_length_eq_zero (by omega))] at hnum
  exact ⟨by rw [hnum] <;> rfl, b0⟩
 have hq835 := df_ hb815
 refine B2 A rfl (bl hb815) λ A=>Z 2 A rfl λ A=>qs A rfl (d_slen (wy rfl rfl (A.g 27 rfl)) (A.ev rfl) str9 λ _ A=>Z 1 A rfl λ A=>?_)
 rcases eb_ (decide (((l.length : Nat) : Int) > 19)) with hb846 | hb846
 ·skip
  have hq847 := dt_ hb846
  refine B2 A rfl (bg hb846) λ A=>Z 1 A rfl λ A=>qt_<|ct_ A rfl<|sw_<|Z 2 A rfl λ A=>qt_<|we_<|tr_<|ret2 (x := (J 0)) (y := (.bool false)) rfl A rfl rfl ?_
  rw [if_pos (by omega)] at hnum
  exact ⟨by rw [hnum] <;> rfl, b0⟩
 have hq856 := df_ hb846
 refine B2 A rfl (bg hb846) λ A=>Z 1 A rfl λ A=>qt_<|cf_ A rfl<|wk_<|tn_<|sw_<|Z 1 A rfl λ A=>qt_<|ws_<|ws_ ?_
 refine wr_<|Z 1 A rfl λ A=>?_
 rw [if_neg (by omega)] at hnum
 refine qt_<|wp_block ?_
 have hne : 0 < l.length := by omega
 refine loop_by (λ m866 a867 w868 => ∃ j865 : Nat, m866 = l.length - j865 ∧ (j865 ≤ l.length ∧ allD 10 (List.take j865 l) = true ∧ nv 10 (List.take j865 l) ≤ 9223372036854775808) ∧ St 69 [(0, (.string (S l))), (2, (J 0)), (3, (.bool false)), (4, (J 10)), (5, (J 19)), (6, (.int .u64 ((nv 10 (List.take j865 l) : Nat) : Int))), (7, (J ((j865 : Nat) : Int)))] a867 ∧ Below w.heap.size w w868) (l.length - 0) ⟨0, rfl, ⟨by omega, rfl, by rw [nv_zero]; omega⟩, A.cut _ (fc (A.g 0 rfl) (fc (A.g 2 rfl) (fc (A.g 3 rfl) (fc (A.g 4 rfl) (fc (A.g 5 rfl) (fc ((A.g 6 rfl).trans (congrArg (Value.int .u64) (rfl))) (fc ((A.g 7 rfl).trans (congrArg (Value.int .i64) (by omega))) fn_))))))), b0⟩ ?_
 rintro m866 a867 w868 ⟨j865, hm871, hc872, A, b870⟩
 obtain ⟨hj, hall, htop⟩ := hc872
 refine ws_<|sw_<|Z 2 A rfl λ A=>qs A rfl (d_slen (wn rfl) (A.ev rfl) str9 λ _ A=>?_)
 rcases eb_ (decide (((j865 : Nat) : Int) < ((l.length : Nat) : Int))) with hb879 | hb879
 ·skip
  have hq880 := dt_ hb879
  refine B2 A rfl (bl hb879) λ A=>qt_<|ct_ A rfl<|wk_<|tn_<|ws_<|wp_block<|sw_<|Z 2 A rfl λ A=>?_
  obtain ⟨y887, hy888⟩ : ∃ y887, l[j865]? = some y887 := ⟨_, List.getElem?_eq_getElem (show j865 < l.length by first | omega | (rw [List.length_drop]; omega))⟩
  refine qs A rfl (d_sat (j := j865) (wn rfl) (A.ev rfl) (A.ev rfl) str9 hy888 λ _ A=>?_)
  have hxo := hx_or y887
  refine C A rfl ent166 (rhex_any y887 w868) ?_
  rintro e894 w891 ⟨he893, hG892⟩
  have b895 := bls b870 hG892
  refine ⟨(J (hxI y887)), he893, λ _ A=>Z 1 A rfl λ A=>qt_<|ws_<|sw_<|Z 1 A rfl λ A=>?_⟩
  rcases eb_ (decide (hxI y887 < 0)) with hb902 | hb902
  ·skip
   have hq903 := dt_ hb902
   refine B2 A rfl (bl hb902) λ A=>Z 15 A rfl λ A=>qt_<|ct_ A rfl<|sw_<|Z 2 A rfl λ A=>qt_<|we_<|tr_<|i_ret<|tr_ ?_
   refine tr_<|i_ret<|tr_<|ret2 (x := (J 0)) (y := (.bool false)) rfl A rfl rfl ?_
   rw [fits_bad hy888 (by omega)] at hnum
   exact ⟨by rw [hnum] <;> rfl, b895⟩
  have hq940 := df_ hb902
  refine B2 A rfl (bl hb902) λ A=>Z 3 A rfl λ A=>?_
  rcases eb_ (decide (hxI y887 ≥ 10)) with hb949 | hb949
  ·skip
   have hq950 := dt_ hb949
   refine B2 A rfl (bge_ hb949) λ A=>Z 11 A rfl λ A=>qt_<|ct_ A rfl<|sw_<|Z 2 A rfl λ A=>qt_<|we_<|tr_<|i_ret<|tr_ ?_
   refine tr_<|i_ret<|tr_<|ret2 (x := (J 0)) (y := (.bool false)) rfl A rfl rfl ?_
   rw [fits_bad hy888 (by omega)] at hnum
   exact ⟨by rw [hnum] <;> rfl, b895⟩
  have hq979 := df_ hb949
  refine B2 A rfl (bge_ hb949) λ A=>Z 4 A rfl λ A=>qs A rfl (d_conv (hxI y887) (wy rfl rfl (A.g 50 rfl)) (A.ev rfl) knd3 knd122 (wrq64 (by omega) (by omega)) λ _ A=>B2 A rfl (b_subK (9223372036854775808 - (hxI y887)) (wrq64 (by omega) (by omega))) λ A=>Z 1 A rfl λ A=>qs A rfl (d_conv 10 (wy rfl rfl (A.g 50 rfl)) (A.ev rfl) knd3 knd122 rfl λ _ A=>B2 A rfl (b_quo64 (by omega) (by omega) (by omega)) λ A=>?_))
  rcases eb_ (decide (((nv 10 (List.take j865 l) : Nat) : Int) > (9223372036854775808 - (hxI y887)) / 10)) with hb1000 | hb1000
  ·skip
   have hq1001 := dt_ hb1000
   refine B2 A rfl (bg hb1000) λ A=>Z 1 A rfl λ A=>qt_<|ct_ A rfl<|sw_<|Z 2 A rfl λ A=>qt_<|we_<|tr_<|i_ret<|tr_ ?_
   refine tr_<|i_ret<|tr_<|ret2 (x := (J 0)) (y := (.bool false)) rfl A rfl rfl ?_
   have hgo := nv_go (bs := 10) hy888
   rw [fits_over (by omega) (i := j865 + 1) (by omega)] at hnum
   exact ⟨by rw [hnum] <;> rfl, b895⟩
  have hq1010 := df_ hb1000
  refine B2 A rfl (bg hb1000) λ A=>Z 1 A rfl λ A=>qt_<|cf_ A rfl<|wk_<|tn_<|wr_<|Z 2 A rfl λ A=>qs A rfl (d_conv 10 (wn rfl) (A.ev rfl) knd3 knd122 rfl λ _ A=>B2 A rfl (b_mulK (((nv 10 (List.take j865 l) : Nat) : Int) * 10) (wrq64 (by omega) (by omega))) λ A=>Z 1 A rfl λ A=>qs A rfl (d_conv (hxI y887) (wn rfl) (A.ev rfl) knd3 knd122 (wrq64 (by omega) (by omega)) λ _ A=>B2 A rfl (b_addK (((nv 10 (List.take j865 l) : Nat) : Int) * 10 + (hxI y887)) (wrq64 (by omega) (by omega))) λ A=>?_))
  refine Z 1 A rfl λ A=>qe_<|i_norm<|tn_<|wr_<|Z 1 A rfl λ A=>B2 A rfl (b_addE (j865 + 1) (by omega) (by omega)) λ A=>Z 1 A rfl λ A=>qt_ ?_
  have hgo := nv_go (bs := 10) hy888
  have hall2 := all_go hy888 hall (by omega)
  exact ⟨l.length - (j865 + 1), (by rw [hm871]; omega), j865 + 1, rfl, ⟨by omega, hall2, by omega⟩, A.cut _ (fc (A.g 0 rfl) (fc (A.g 2 rfl) (fc (A.g 3 rfl) (fc (A.g 4 rfl) (fc (A.g 5 rfl) (fc ((A.g 6 rfl).trans (congrArg (Value.int .u64) (by omega))) (fc (A.g 7 rfl) fn_))))))), b895⟩
 have hq1037 := df_ hb879
 refine B2 A rfl (bl hb879) λ A=>qt_<|cf_ A rfl<|wp_exit<|t_exit<|t_exit<|i_here<|tn_<|sw_<|Z 1 A rfl λ A=>qs A rfl (d_conv (IntKind.wrap .i64 ((nv 10 (List.take j865 l) : Nat) : Int)) (wn rfl) (A.ev rfl) knd122 knd3 rfl λ _ A=>Z 2 A rfl λ A=>?_)
 refine qt_<|we_<|ret2 (x := (J (IntKind.wrap .i64 ((nv 10 (List.take j865 l) : Nat) : Int)))) (y := (.bool true)) rfl A rfl rfl ?_
 rw [fits_end (by intro h; rw [h] at hne; exact absurd hne (by simp)) hall (by omega) htop] at hnum
 exact ⟨by rw [hnum] <;> rfl, b870⟩
theorem rblank_any (l : List UInt8) (at0 : Nat) (w : World) (hl : l.length ≤ 8192) (hat : at0 ≤ l.length) : Calls Tryz.prog 128 #[.string (S l), J ((at0 : Nat) : Int)] w λ e w' => e = .returned (.tuple #[J ((at0 + (skipL (List.drop at0 l)).1 : Nat) : Int), J (if (skipL (List.drop at0 l)).2 then 24 else 0)]) ∧ Grow w w' := by
 have b0 := Grow.refl w
 refine enter (n := 80) Tryz.func128 rfl rfl (nb_ rfl) λ _ A=>sw_<|Z 2 A rfl λ A=>qt_<|ws_<|wp_block<|loop_by (λ m8 a9 w10 => ∃ j7 : Nat, m8 = l.length - j7 ∧ (j7 ≤ l.length ∧ at0 + (skipL (List.drop at0 l)).1 = j7 + (skipL (List.drop j7 l)).1 ∧ (skipL (List.drop at0 l)).2 = (skipL (List.drop j7 l)).2) ∧ St 80 [(0, (.string (S l))), (1, (J ((j7 : Nat) : Int))), (4, (J 0)), (5, (J 0))] a9 ∧ Below w.heap.size w w10) (l.length - at0) ⟨at0, rfl, ⟨by omega, rfl, rfl⟩, A.sub rfl, b0⟩ ?_
 rintro m8 a9 w10 ⟨j7, hm13, hc14, A, b12⟩
 obtain ⟨hjl, hs1, hs2⟩ := hc14
 refine ws_<|sw_<|Z 2 A rfl λ A=>qs A rfl (d_slen (wn rfl) (A.ev rfl) str9 λ _ A=>?_)
 rcases eb_ (decide (((j7 : Nat) : Int) < ((l.length : Nat) : Int))) with hb21 | hb21
 ·skip
  have hq22 := dt_ hb21
  refine B2 A rfl (bl hb21) λ A=>qt_<|ct_ A rfl<|wk_<|tn_<|wp_block<|ws_<|sw_<|Z 2 A rfl λ A=>?_
  obtain ⟨y29, hy30⟩ : ∃ y29, l[j7]? = some y29 := ⟨_, List.getElem?_eq_getElem (show j7 < l.length by omega)⟩
  refine qs A rfl (d_sat (j := j7) (wn rfl) (A.ev rfl) (A.ev rfl) str9 hy30 λ _ A=>?_)
  rcases eb_ (((y29.toNat : Nat) : Int) == 32) with hb33 | hb33
  ·skip
   have hq34 := eq_of_beq hb33
   refine B2 A rfl (bq hb33) λ A=>Z 12 A rfl λ A=>qt_<|ct_ A rfl<|sw_<|Z 1 A rfl λ A=>B2 A rfl (b_addE (j7 + 1) (by omega) (by omega)) λ A=>Z 1 A rfl λ A=>qt_<|wp_exit<|t_exit ?_
   refine i_here<|tn_ ?_
   have hsk := skip_blank hy30 (decide_eq_true (by omega))
   have hk1 := congrArg Prod.fst hsk
   have hk2 := congrArg Prod.snd hsk
   dsimp only at hk1 hk2
   exact ⟨l.length - (j7 + 1), (by rw [hm13]; omega), j7 + 1, rfl, ⟨by omega, by omega, hs2.trans hk2⟩, A.sub rfl, b12⟩
  have hq67 := ne_of_beq hb33
  refine B2 A rfl (bq hb33) λ A=>Z 3 A rfl λ A=>qs A rfl (d_sat (j := j7) (wy rfl rfl (A.g 15 rfl)) (A.ev rfl) (A.ev rfl) str9 hy30 λ _ A=>?_)
  rcases eb_ (((y29.toNat : Nat) : Int) == 9) with hb78 | hb78
  ·skip
   have hq79 := eq_of_beq hb78
   refine B2 A rfl (bq hb78) λ A=>Z 7 A rfl λ A=>qt_<|ct_ A rfl<|sw_<|Z 1 A rfl λ A=>B2 A rfl (b_addE (j7 + 1) (by omega) (by omega)) λ A=>Z 1 A rfl λ A=>qt_<|wp_exit<|t_exit ?_
   refine i_here<|tn_ ?_
   have hsk := skip_blank hy30 (decide_eq_true (by omega))
   have hk1 := congrArg Prod.fst hsk
   have hk2 := congrArg Prod.snd hsk
   dsimp only at hk1 hk2
   exact ⟨l.length - (j7 + 1), (by rw [hm13]; omega), j7 + 1, rfl, ⟨by omega, by omega, hs2.trans hk2⟩, A.sub rfl, b12⟩
  have hq102 := ne_of_beq hb78
  refine B2 A rfl (bq hb78) λ A=>Z 4 A rfl λ A=>qs A rfl (d_sat (j := j7) (wy rfl rfl (A.g 21 rfl)) (A.ev rfl) (A.ev rfl) str9 hy30 λ _ A=>?_)
  rcases eb_ (((y29.toNat : Nat) : Int) == 10) with hb115 | hb115
  ·skip
   have hq116 := eq_of_beq hb115
   refine B2 A rfl (bq hb115) λ A=>Z 1 A rfl λ A=>qt_<|ct_ A rfl<|sw_<|Z 1 A rfl λ A=>B2 A rfl (b_addE (j7 + 1) (by omega) (by omega)) λ A=>Z 1 A rfl λ A=>qt_<|wp_exit<|t_exit ?_
   refine i_here<|tn_ ?_
   have hsk := skip_blank hy30 (decide_eq_true (by omega))
   have hk1 := congrArg Prod.fst hsk
   have hk2 := congrArg Prod.snd hsk
   dsimp only at hk1 hk2
   exact ⟨l.length - (j7 + 1), (by rw [hm13]; omega), j7 + 1, rfl, ⟨by omega, by omega, hs2.trans hk2⟩, A.sub rfl, b12⟩
  have hq127 := ne_of_beq hb115
  refine B2 A rfl (bq hb115) λ A=>Z 1 A rfl λ A=>qt_<|cf_ A rfl<|wk_<|tn_<|ws_<|sw_<|Z 2 A rfl λ A=>qs A rfl (d_sat (j := j7) (wn rfl) (A.ev rfl) (A.ev rfl) str9 hy30 λ _ A=>?_)
  rcases eb_ (((y29.toNat : Nat) : Int) == 40) with hb138 | hb138
  ·skip
   have hq139 := eq_of_beq hb138
   refine B2 A rfl (b_ne _ _ ((y29.toNat : Nat) : Int) 40 false _ (notof hb138)) λ A=>Z 2 A rfl λ A=>B2 A rfl (b_addE (j7 + 1) (by omega) (by omega)) λ A=>Z 1 A rfl λ A=>qs A rfl (d_slen (wy rfl rfl (A.g 33 rfl)) (A.ev rfl) str9 λ _ A=>?_)
   rcases eb_ (decide (((j7 + 1 : Nat) : Int) ≥ ((l.length : Nat) : Int))) with hb152 | hb152
   ·skip
    have hq153 := dt_ hb152
    refine B2 A rfl (bge_ hb152) λ A=>Z 8 A rfl λ A=>qt_<|ct_ A rfl<|sw_<|Z 3 A rfl λ A=>qt_<|we_<|tr_<|i_ret<|tr_ ?_
    refine i_ret<|tr_<|ret2 (x := (J ((j7 : Nat) : Int))) (y := (J 0)) rfl A rfl rfl ?_
    have hsk := skip_word hy30 (decide_eq_false (by omega)) (by first | exact pre2_first hy30 (by omega) | exact pre2_short (by omega))
    rw [hsk] at hs1 hs2
    exact ⟨by rw [hs2, hs1]; rfl, b12⟩
   have hq178 := df_ hb152
   refine B2 A rfl (bge_ hb152) λ A=>Z 4 A rfl λ A=>B2 A rfl (b_addE (j7 + 1) (by omega) (by omega)) λ A=>?_
   obtain ⟨y191, hy192⟩ : ∃ y191, l[j7 + 1]? = some y191 := ⟨_, List.getElem?_eq_getElem (show j7 + 1 < l.length by omega)⟩
   refine qs A rfl (d_sat (j := j7 + 1) (wy rfl rfl (A.g 40 rfl)) (A.ev rfl) (A.ev rfl) str9 hy192 λ _ A=>?_)
   rcases eb_ (((y191.toNat : Nat) : Int) == 42) with hb195 | hb195
   ·skip
    have hq196 := eq_of_beq hb195
    refine B2 A rfl (b_ne _ _ ((y191.toNat : Nat) : Int) 42 false _ (notof hb195)) λ A=>Z 1 A rfl λ A=>qt_<|cf_ A rfl<|wk_<|tn_<|sw_<|Z 1 A rfl λ A=>B2 A rfl (b_addE (j7 + 2) (by omega) (by omega)) λ A=>Z 1 A rfl λ A=>qt_ ?_
    refine ws_<|wp_block ?_
    have hge := endR_ge (List.drop (j7 + 2) l)
    refine loop_by (λ m208 a209 w210 => ∃ e207 : Nat, m208 = l.length - e207 ∧ (j7 + 2 ≤ e207 ∧ e207 ≤ l.length ∧ (endR (List.drop (j7 + 2) l) < 0 ∧ endR (List.drop e207 l) < 0 ∨ 0 ≤ endR (List.drop e207 l) ∧ endR (List.drop (j7 + 2) l) = endR (List.drop e207 l) + ((e207 : Nat) : Int) - (((j7 + 2) : Nat) : Int))) ∧ St 80 [(0, (.string (S l))), (1, (J ((j7 : Nat) : Int))), (4, (J 0)), (5, (J 0)), (6, (J ((e207 : Nat) : Int)))] a209 ∧ Below w.heap.size w w210) (l.length - (j7 + 2)) ⟨j7 + 2, rfl, ⟨by omega, by omega, by omega⟩, A.sub rfl, b12⟩ ?_
    rintro m208 a209 w210 ⟨e207, hm213, hc214, A, b212⟩
    obtain ⟨he1, he2, he3⟩ := hc214
    refine ws_<|sw_<|Z 1 A rfl λ A=>B2 A rfl (b_addE (e207 + 1) (by omega) (by omega)) λ A=>Z 1 A rfl λ A=>qs A rfl (d_slen (wn rfl) (A.ev rfl) str9 λ _ A=>?_)
    rcases eb_ (decide (((e207 + 1 : Nat) : Int) < ((l.length : Nat) : Int))) with hb223 | hb223
    ·skip
     have hq224 := dt_ hb223
     refine B2 A rfl (bl hb223) λ A=>Z 3 A rfl λ A=>?_
     obtain ⟨y233, hy234⟩ : ∃ y233, l[e207]? = some y233 := ⟨_, List.getElem?_eq_getElem (show e207 < l.length by omega)⟩
     refine qs A rfl (d_sat (j := e207) (wy rfl rfl (A.g 55 rfl)) (A.ev rfl) (A.ev rfl) str9 hy234 λ _ A=>?_)
     rcases eb_ (((y233.toNat : Nat) : Int) == 42) with hb237 | hb237
     ·skip
      have hq238 := eq_of_beq hb237
      refine B2 A rfl (bq hb237) λ A=>Z 3 A rfl λ A=>B2 A rfl (b_addE (e207 + 1) (by omega) (by omega)) λ A=>?_
      obtain ⟨y249, hy250⟩ : ∃ y249, l[e207 + 1]? = some y249 := ⟨_, List.getElem?_eq_getElem (show e207 + 1 < l.length by omega)⟩
      refine qs A rfl (d_sat (j := e207 + 1) (wy rfl rfl (A.g 60 rfl)) (A.ev rfl) (A.ev rfl) str9 hy250 λ _ A=>?_)
      rcases eb_ (((y249.toNat : Nat) : Int) == 41) with hb253 | hb253
      ·skip
       have hq254 := eq_of_beq hb253
       refine B2 A rfl (bq hb253) λ A=>Z 3 A rfl λ A=>qt_<|cf_ A rfl<|wp_exit ?_
       have hhit := endR_hit hy234 hy250 (by omega) (by omega)
       refine t_exit ?_
       have hhit := endR_hit hy234 hy250 (by omega) (by omega)
       refine t_exit ?_
       have hhit := endR_hit hy234 hy250 (by omega) (by omega)
       refine i_here<|tn_<|ws_<|sw_<|Z 1 A rfl λ A=>B2 A rfl (b_addE (e207 + 1) (by omega) (by omega)) λ A=>Z 1 A rfl λ A=>qs A rfl (d_slen (wn rfl) (A.ev rfl) str9 λ _ A=>?_)
       rcases eb_ (decide (((e207 + 1 : Nat) : Int) ≥ ((l.length : Nat) : Int))) with hb271 | hb271
       ·skip
        have hq272 := dt_ hb271
        refine B2 A rfl (bge_ hb271) λ A=>qt_<|ct_ A rfl<|sw_<|Z 3 A rfl λ A=>qt_<|we_<|tr_<|i_ret<|tr_<|i_ret ?_
        refine tr_<|ret2 (x := (J ((j7 : Nat) : Int))) (y := (J 24)) rfl A rfl rfl ?_
        have hsk := skip_open hy30 (decide_eq_false (by omega)) (pre2_yes hy30 hy192 (by omega) (by omega)) (by omega)
        rw [hsk] at hs1 hs2
        exact ⟨by rw [hs2, hs1]; rfl, b212⟩
       have hq281 := df_ hb271
       refine B2 A rfl (bge_ hb271) λ A=>qt_<|cf_ A rfl<|wk_<|tn_<|wr_<|Z 1 A rfl λ A=>B2 A rfl (b_addE (e207 + 2) (by omega) (by omega)) λ A=>Z 1 A rfl λ A=>qe_<|i_norm<|tn_ ?_
       have hsk := skip_remark hy30 (decide_eq_false (by omega)) (pre2_yes hy30 hy192 (by omega) (by omega)) (by omega)
       have hk1 := congrArg Prod.fst hsk
       have hk2 := congrArg Prod.snd hsk
       dsimp only at hk1 hk2
       exact ⟨l.length - (j7 + 2 + (endR (List.drop (j7 + 2) l)).toNat + 2), (by rw [hm13]; omega), j7 + 2 + (endR (List.drop (j7 + 2) l)).toNat + 2, rfl, ⟨by omega, by omega, hs2.trans hk2⟩, A.cut _ (fc (A.g 0 rfl) (fc ((A.g 1 rfl).trans (congrArg (Value.int .i64) (by omega))) (fc (A.g 4 rfl) (fc (A.g 5 rfl) fn_)))), b212⟩
      have hq290 := ne_of_beq hb253
      refine B2 A rfl (bq hb253) λ A=>Z 3 A rfl λ A=>qt_<|ct_ A rfl<|wk_<|tn_<|wp_block<|wr_<|Z 1 A rfl λ A=>B2 A rfl (b_addE (e207 + 1) (by omega) (by omega)) λ A=>Z 1 A rfl λ A=>qe_<|i_norm ?_
      refine tn_ ?_
      have hgo := endR_go hy234 hy250 (by omega)
      exact ⟨l.length - (e207 + 1), (by rw [hm213]; omega), e207 + 1, rfl, ⟨by omega, by omega, by omega⟩, A.sub rfl, b212⟩
     have hq305 := ne_of_beq hb237
     refine B2 A rfl (bq hb237) λ A=>Z 9 A rfl λ A=>qt_<|ct_ A rfl<|wk_<|tn_<|wp_block<|wr_<|Z 1 A rfl λ A=>B2 A rfl (b_addE (e207 + 1) (by omega) (by omega)) λ A=>Z 1 A rfl λ A=>qe_<|i_norm ?_
     refine tn_ ?_
     obtain ⟨y332, hy333⟩ : ∃ y332, l[e207 + 1]? = some y332 := ⟨_, List.getElem?_eq_getElem (show e207 + 1 < l.length by omega)⟩
     have hgo := endR_go hy234 hy333 (by omega)
     exact ⟨l.length - (e207 + 1), (by rw [hm213]; omega), e207 + 1, rfl, ⟨by omega, by omega, by omega⟩, A.sub rfl, b212⟩
    have hq334 := df_ hb223
    refine B2 A rfl (bl hb223) λ A=>Z 14 A rfl λ A=>qt_<|cf_ A rfl<|wp_exit ?_
    have hhit := endR_stop (l := l) (n := e207) (by omega)
    refine t_exit ?_
    have hhit := endR_stop (l := l) (n := e207) (by omega)
    refine t_exit ?_
    have hhit := endR_stop (l := l) (n := e207) (by omega)
    refine i_here<|tn_<|ws_<|sw_<|Z 1 A rfl λ A=>B2 A rfl (b_addE (e207 + 1) (by omega) (by omega)) λ A=>Z 1 A rfl λ A=>qs A rfl (d_slen (wn rfl) (A.ev rfl) str9 λ _ A=>?_)
    rcases eb_ (decide (((e207 + 1 : Nat) : Int) ≥ ((l.length : Nat) : Int))) with hb373 | hb373
    ·skip
     have hq374 := dt_ hb373
     refine B2 A rfl (bge_ hb373) λ A=>qt_<|ct_ A rfl<|sw_<|Z 3 A rfl λ A=>qt_<|we_<|tr_<|i_ret<|tr_<|i_ret ?_
     refine tr_<|ret2 (x := (J ((j7 : Nat) : Int))) (y := (J 24)) rfl A rfl rfl ?_
     have hsk := skip_open hy30 (decide_eq_false (by omega)) (pre2_yes hy30 hy192 (by omega) (by omega)) (by omega)
     rw [hsk] at hs1 hs2
     exact ⟨by rw [hs2, hs1]; rfl, b212⟩
    have hq383 := df_ hb373
    refine B2 A rfl (bge_ hb373) λ A=>qt_<|cf_ A rfl<|wk_<|tn_<|wr_<|Z 1 A rfl λ A=>B2 A rfl (b_addE (e207 + 2) (by omega) (by omega)) λ A=>Z 1 A rfl λ A=>qe_<|i_norm<|tn_ ?_
    have hsk := skip_remark hy30 (decide_eq_false (by omega)) (pre2_yes hy30 hy192 (by omega) (by omega)) (by omega)
    have hk1 := congrArg Prod.fst hsk
    have hk2 := congrArg Prod.snd hsk
    dsimp only at hk1 hk2
    exact ⟨l.length - (j7 + 2 + (endR (List.drop (j7 + 2) l)).toNat + 2), (by rw [hm13]; omega), j7 + 2 + (endR (List.drop (j7 + 2) l)).toNat + 2, rfl, ⟨by omega, by omega, hs2.trans hk2⟩, A.cut _ (fc (A.g 0 rfl) (fc ((A.g 1 rfl).trans (congrArg (Value.int .i64) (by omega))) (fc (A.g 4 rfl) (fc (A.g 5 rfl) fn_)))), b212⟩
   have hq392 := ne_of_beq hb195
   refine B2 A rfl (b_ne _ _ ((y191.toNat : Nat) : Int) 42 true _ (notof hb195)) λ A=>Z 1 A rfl λ A=>qt_<|ct_ A rfl<|sw_<|Z 3 A rfl λ A=>qt_<|we_<|tr_<|i_ret<|tr_ ?_
   refine i_ret<|tr_<|ret2 (x := (J ((j7 : Nat) : Int))) (y := (J 0)) rfl A rfl rfl ?_
   have hsk := skip_word hy30 (decide_eq_false (by omega)) (pre2_second hy30 hy192 (by omega))
   rw [hsk] at hs1 hs2
   exact ⟨by rw [hs2, hs1]; rfl, b12⟩
  have hq403 := ne_of_beq hb138
  refine B2 A rfl (b_ne _ _ ((y29.toNat : Nat) : Int) 40 true _ (notof hb138)) λ A=>Z 14 A rfl λ A=>qt_<|ct_ A rfl<|sw_<|Z 3 A rfl λ A=>qt_<|we_<|tr_<|i_ret<|tr_ ?_
  refine i_ret<|tr_<|ret2 (x := (J ((j7 : Nat) : Int))) (y := (J 0)) rfl A rfl rfl ?_
  have hsk := skip_word hy30 (decide_eq_false (by omega)) (by first | exact pre2_first hy30 (by omega) | exact pre2_short (by omega))
  rw [hsk] at hs1 hs2
  exact ⟨by rw [hs2, hs1]; rfl, b12⟩
 have hq440 := df_ hb21
 refine B2 A rfl (bl hb21) λ A=>qt_<|cf_ A rfl<|wp_exit<|t_exit<|t_exit<|i_here<|tn_<|sw_<|Z 3 A rfl λ A=>qt_ ?_
 refine we_<|ret2 (x := (J ((j7 : Nat) : Int))) (y := (J 0)) rfl A rfl rfl ?_
 have hsk : skipL (List.drop j7 l) = (0, false) := skip_end (by omega)
 rw [hsk] at hs1 hs2
 exact ⟨by rw [hs2, hs1]; rfl, b12⟩
section
variable {P : Program} {ops : Array Oper} {a : Act} {w : World} {K : Value → World → Prop} {d : Option Tmp} {ty : TypeId} {pos : String} {af : Array Edge} {gd : Option (Nat × Bool)} {v : Value}
theorem d_spart2 {x y z : Operand} {t m n : Nat} {l : List UInt8} (hw : Region.wanted { dst := d, op := .slice t x (some y) (some z) none, type := ty, pos := pos, after := af, guard := gd } (yielded ops a.tmps) = true) (hx : a.eval x = .string (S l)) (hy : a.eval y = .int .i64 (m : Int)) (hz : a.eval z = .int .i64 ((m + n : Nat) : Int)) (ht : strB P t = true) (hn : m + n ≤ l.length)
  (h : K (.string (S ((l.drop m).take n))) w) : Does P ops { dst := d, op := .slice t x (some y) (some z) none, type := ty, pos := pos, after := af, guard := gd } a w K := by
 refine d_spart hw hx hy hz ht (by omega) hn ?_
 have e : (l.take (m + n)).drop m = (l.drop m).take n := by rw [List.drop_take]; congr 1; omega
 rw [e]; exact h
end
section
variable {l : List UInt8} {p : Nat} {y z : UInt8}
theorem at_zero (h : l[p]? = some y) : (l.drop p)[0]? = some y := by rw [drop_at h]; rfl
theorem at_one (h : l[p]? = some y) (h2 : l[p + 1]? = some z) : (l.drop p)[1]? = some z := by rw [drop_two h h2]; rfl
theorem nbg_let (h : letB y = true) : nbgB y = true := by unfold nbgB; rw [h, Bool.true_or]
theorem nbg_us (h : ((y.toNat : Nat) : Int) = 95) : nbgB y = true := by unfold nbgB; rw [Bool.or_eq_true]; right; exact beq_iff_eq.2 (by omega)
theorem nbg_no (h : letB y = false) (h2 : ¬ ((y.toNat : Nat) : Int) = 95) : nbgB y = false := by unfold nbgB; rw [h, Bool.false_or]; exact beq_eq_false_iff_ne.2 (by omega)
theorem eq_byte {a : UInt8} {n : Nat} (hn : n < 256) (h : ((a.toNat : Nat) : Int) = (n : Int)) : a = UInt8.ofNat n := UInt8.toNat_inj.1 (by rw [UInt8.toNat_ofNat']; omega)
theorem mkN_two_b (h : l[p]? = some y) (h2 : l[p + 1]? = some z) (h3 : (((y.toNat : Nat) : Int) = 47 ∧ ((z.toNat : Nat) : Int) = 92) ∨ (((y.toNat : Nat) : Int) = 92 ∧ ((z.toNat : Nat) : Int) = 47)) : mkN (l.drop p) = 2 := by
 rcases h3 with ⟨a, b⟩ | ⟨a, b⟩
 ·exact mkN_two (by rw [pre_two (at_zero h) (at_one h h2), eq_byte (n := 47) (by decide) a, eq_byte (n := 92) (by decide) b]; rfl)
 ·exact mkN_two' (by rw [pre_two (at_zero h) (at_one h h2), eq_byte (n := 92) (by decide) a, eq_byte (n := 47) (by decide) b]; rfl)
theorem mark_idx {b : UInt8} : decide (Lib.indexByte marksL b ≥ 0) = mrkB b := by unfold mrkB; exact indexByte_mark marksL b
theorem mkN_one_b (h : l[p]? = some y) (h2 : l[p + 1]? = some z) (h3 : ¬ ((((y.toNat : Nat) : Int) = 47 ∧ ((z.toNat : Nat) : Int) = 92) ∨ (((y.toNat : Nat) : Int) = 92 ∧ ((z.toNat : Nat) : Int) = 47))) (hm : mrkB y = true) : mkN (l.drop p) = 1 := by
 have h47 : preB (l.drop p) [47, 92] = false := by
  rw [pre_two (at_zero h) (at_one h h2)]
  cases hh : (y == 47 && z == 92)
  ·rfl
  ·rw [Bool.and_eq_true] at hh
   exact absurd (.inl ⟨by rw [eq_of_beq hh.1]; rfl, by rw [eq_of_beq hh.2]; rfl⟩) h3
 have h92 : preB (l.drop p) [92, 47] = false := by
  rw [pre_two (at_zero h) (at_one h h2)]
  cases hh : (y == 92 && z == 47)
  ·rfl
  ·rw [Bool.and_eq_true] at hh
   exact absurd (.inr ⟨by rw [eq_of_beq hh.1]; rfl, by rw [eq_of_beq hh.2]; rfl⟩) h3
 exact mkN_one h47 h92 (at_zero h) (by rw [mark_idx]; exact hm)
theorem mkN_last_b (h : l[p]? = some y) (h2 : l.length ≤ p + 1) (hm : mrkB y = true) : mkN (l.drop p) = 1 := by
 have hs : ∀ q : List UInt8, q.length = 2 → preB (l.drop p) q = false := fun q hq => pre_short (by rw [List.length_drop]; omega)
 exact mkN_one (hs _ rfl) (hs _ rfl) (at_zero h) (by rw [mark_idx]; exact hm)
theorem mkN_none_b (h : l[p]? = some y) (hm : mrkB y = false) : mkN (l.drop p) = 0 := by
 have h0 := at_zero h
 have hp : ∀ q r : UInt8, mrkB q = true → preB (l.drop p) [q, r] = false := fun q r hq => by
  cases hh : preB (l.drop p) [q, r]
  ·rfl
  ·exfalso
   unfold preB at hh
   rw [drop_at h] at hh
   simp at hh
   rw [hh.2.1] at hm; rw [hq] at hm; cases hm
 exact mkN_no (hp 47 92 (by decide)) (hp 92 47 (by decide)) h0 (by rw [mark_idx]; exact hm)
end
theorem ent128 : Ent Tryz.prog 128 = FF := by kernel_rfl
theorem ent130 : Ent Tryz.prog 130 = FF := by kernel_rfl
theorem ent131 : Ent Tryz.prog 131 = FF := by kernel_rfl
theorem ent133 : Ent Tryz.prog 133 = FF := by kernel_rfl
theorem fo28_0 : fieldOff Tryz.prog 28 0 = some 0 := by kernel_rfl
theorem fo28_2 : fieldOff Tryz.prog 28 2 = some 2 := by kernel_rfl
theorem rvalue_or (l : List UInt8) (w : World) (hl : l.length ≤ 8192) : Calls Tryz.prog 131 #[.string (S l)] w λ e w' => ((∃ n : Int, numR l = some n ∧ e = .returned (.tuple #[J n, .bool true])) ∨ (numR l = none ∧ e = .returned (.tuple #[J 0, .bool false]))) ∧ Grow w w' := by
 refine (rvalue_any l w hl).mono λ e w' ⟨he, hG⟩ => ⟨?_, hG⟩
 cases hv : numR l with
 | none => exact .inr ⟨rfl, by rw [he, hv]; rfl⟩
 | some n => exact .inl ⟨n, rfl, by rw [he, hv]; rfl⟩
theorem rtokens_any (l : List UInt8) (w : World) (hlm : l.length ≤ 9223372036854775807) : Calls Tryz.prog 91 #[.string (S l)] w λ e w' => ∃ v, e = .returned (.tuple #[v, J (tokensR l).2.1, J (((tokensR l).2.2 : Nat) : Int)]) ∧ w'.ownsRow w.heap.size 28 4 v (tokensR l).1.length ((tokensR l).1.flatMap tokE) ∧ Below w.heap.size w w' := by
 have b0 := Grow.refl w
 refine enter (n := 112) Tryz.func91 rfl rfl (nb_ rfl) λ _ A=>sw_<|Z 3 A rfl λ A=>qt_<|ws_<|sw_<|Z 1 A rfl λ A=>qs A rfl (d_slen (wn rfl) (A.ev rfl) str9 λ _ A=>?_)
 rcases eb_ (decide (((l.length : Nat) : Int) > 8192)) with hb13 | hb13
 ·skip
  have hq14 := dt_ hb13
  refine B2 A rfl (bg hb13) λ A=>qt_<|ct_ A rfl<|sw_<|Z 3 A rfl λ A=>qt_<|we_<|tr_<|ret3 (x := (.slice none 0 0)) (y := (J 2)) (z := (J 0)) rfl A rfl rfl rfl ?_
  exact ⟨_, by rw [tokens_long (by omega)] <;> rfl, by rw [tokens_long (by omega)]; exact ⟨rfl, .inl ⟨rfl, rfl⟩⟩, b0⟩
 have hq23 := df_ hb13
 refine B2 A rfl (bg hb13) λ A=>qt_<|cf_ A rfl<|wk_<|tn_<|sw_<|Z 1 A rfl λ A=>qt_<|sw_<|Z 1 A rfl λ A=>?_
 refine qt_<|wp_block<|loop_by (λ m a' w' => ∃ (f j : Nat) (ws : List Tk) (v : Value), m = l.length - j ∧ (j ≤ l.length ∧ l.length - j < f ∧ ws.length ≤ j) ∧ toksF f l j ws = tokensR l ∧ St 112 [(0, (.string (S l))), (2, (.slice none 0 0)), (3, (J 0)), (4, (J 0)), (5, v), (6, (J ((j : Nat) : Int)))] a' ∧ Below w.heap.size w w' ∧ w'.ownsRow w.heap.size 28 4 v ws.length (ws.flatMap tokE)) (l.length - 0) ⟨l.length + 1, 0, [], .slice none 0 0, rfl, ⟨by omega, by omega, by simp⟩, (tokens_short (by omega)).symm, A.sub rfl, b0, ⟨rfl, .inl ⟨rfl, rfl⟩⟩⟩ ?_
 rintro m30 a31 w32 ⟨f33, j34, ws35, v36, hm37, ⟨hj1, hj2, hj3⟩, htk, A, b39, ho40⟩
 obtain ⟨f', rfl⟩ : ∃ f', f33 = f' + 1 := ⟨f33 - 1, by omega⟩
 refine wp_block<|sw_<|Z 2 A rfl λ A=>C A rfl ent128 (rblank_any l j34 w32 (by omega) (by omega)) ?_
 rintro e48 w45 ⟨he47, hG46⟩
 rcases eb_ ((skipL (List.drop j34 l)).2) with hk49 | hk49
 ·skip
  have b50 := bls b39 hG46
  have ho51 := owg hG46 ho40
  have hsl := skip_le (List.drop j34 l)
  rw [List.length_drop] at hsl
  refine ⟨(.tuple #[(J ((j34 + (skipL (List.drop j34 l)).1 : Nat) : Int)), (J 24)]), he47.trans (by rw [hk49]; rfl), λ _ A=>Z 5 A rfl λ A=>qt_<|ws_<|sw_<|Z 1 A rfl λ A=>B2 A rfl (b_ne _ _ 24 0 true _ (notof rfl)) λ A=>qt_<|ct_ A rfl<|sw_ ?_⟩
  refine Z 5 A rfl λ A=>qt_<|we_<|tr_<|i_ret<|tr_<|i_ret<|ret3 (x := (.slice none 0 0)) (y := (J 24)) (z := (J ((j34 + (skipL (List.drop j34 l)).1 : Nat) : Int))) rfl A rfl rfl rfl ?_
  rw [tf_rem hk49] at htk
  exact ⟨_, by rw [← htk] <;> rfl, by rw [← htk]; exact ⟨rfl, .inl ⟨rfl, rfl⟩⟩, b50⟩
 have b78 := bls b39 hG46
 have ho79 := owg hG46 ho40
 have hsl := skip_le (List.drop j34 l)
 rw [List.length_drop] at hsl
 refine ⟨(.tuple #[(J ((j34 + (skipL (List.drop j34 l)).1 : Nat) : Int)), (J 0)]), he47.trans (by rw [hk49]; rfl), λ _ A=>Z 5 A rfl λ A=>qt_<|ws_<|sw_<|Z 1 A rfl λ A=>B2 A rfl (b_ne _ _ 0 0 false _ (notof rfl)) λ A=>qt_<|cf_ A rfl<|wk_<|tn_ ?_⟩
 refine sw_<|Z 2 A rfl λ A=>qt_<|ws_<|sw_<|Z 2 A rfl λ A=>qs A rfl (d_slen (wn rfl) (A.ev rfl) str9 λ _ A=>?_)
 rcases eb_ (decide (((j34 + (skipL (List.drop j34 l)).1 : Nat) : Int) ≥ ((l.length : Nat) : Int))) with hb106 | hb106
 ·skip
  have hq107 := dt_ hb106
  refine B2 A rfl (bge_ hb106) λ A=>qt_<|ct_ A rfl<|sw_<|Z 4 A rfl λ A=>qt_<|we_<|tr_<|i_ret<|tr_<|i_ret ?_
  refine ret3 (x := v36) (y := (J 0)) (z := (J 0)) rfl A rfl rfl rfl ?_
  rw [tf_end hk49 (by omega)] at htk
  exact ⟨_, by rw [← htk] <;> rfl, by rw [← htk]; exact ho79, b78⟩
 have hq118 := df_ hb106
 refine B2 A rfl (bge_ hb106) λ A=>qt_<|cf_ A rfl<|wk_<|tn_<|sw_<|Z 2 A rfl λ A=>?_
 obtain ⟨y125, hy126⟩ : ∃ y125, l[j34 + (skipL (List.drop j34 l)).1]? = some y125 := ⟨_, List.getElem?_eq_getElem (show j34 + (skipL (List.drop j34 l)).1 < l.length by omega)⟩
 refine qs A rfl (d_sat (j := j34 + (skipL (List.drop j34 l)).1) (wn rfl) (A.ev rfl) (A.ev rfl) str9 hy126 λ _ A=>Z 1 A rfl λ A=>?_)
 have hpos : rn numB (List.drop (j34 + (skipL (List.drop j34 l)).1) l) = 0 ∨ 0 < rn numB (List.drop (j34 + (skipL (List.drop j34 l)).1) l) := by omega
 refine qt_<|sw_<|Z 1 A rfl λ A=>qs A rfl (dbd (cs := #[J 0, .string (S []), J 0, J ((j34 + (skipL (List.drop j34 l)).1 : Nat) : Int)]) (wn rfl) (bp_of (bq_cons (A.ev rfl) bq_nil)) zero28 places28 (by kernel_rfl) λ _ A=>qs A rfl (dal (wn rfl) zero28 λ g135 w136 eg137 hG138 (m139 : Blk w136 g135 #[J 0, .string (S []), J 0, J 0] 28)=>?_))
 have ge140 : w.heap.size ≤ g135 := eg137 ▸ b78.size
 have off141 := own_new ho79 eg137
 have b142 := bls b78 hG138
 have ho143 := owg hG138 ho79
 intro _ A
 refine qs A rfl (dsr (wn rfl) (A.ev rfl) (A.ev rfl) row28 m139 rfl rfl λ w146 hU147 (m148 : Blk w146 g135 #[J 0, .string (S []), J 0, J ((j34 + (skipL (List.drop j34 l)).1 : Nat) : Int)] 28)=>?_)
 have b149 := hU147.below b142 ge140
 have ho150 := own_upd ho143 hU147 off141
 intro _ A
 refine qt_<|sw_<|Z 1 A rfl λ A=>B2 A rfl (b_addE (j34 + (skipL (List.drop j34 l)).1 + 1) (by omega) (by omega)) λ A=>Z 1 A rfl λ A=>qt_<|ws_<|wp_block<|sw_<|Z 1 A rfl λ A=>?_
 refine C A rfl ent129 (rdigit_any y125 w146) ?_
 rintro e164 w161 ⟨he163, hG162⟩
 have m165 := m148.grow hG162
 have b166 := bls b149 hG162
 have ho167 := owg hG162 ho150
 rcases eb_ (digB y125) with hb168 | hb168
 ·skip
  have hq169 := dt_ hb168
  refine ⟨.bool true, he163.trans (ret_bool hb168), λ _ A=>Z 1 A rfl λ A=>qt_<|ct_ A rfl<|sw_<|Z 2 A rfl λ A=>?_⟩
  have hrn := rn_le numB (List.drop (j34 + (skipL (List.drop j34 l)).1) l)
  rw [List.length_drop] at hrn
  refine C A rfl ent130 (rrun_false l (j34 + (skipL (List.drop j34 l)).1) w161 (by omega) (by omega)) ?_
  rintro e181 w178 ⟨he180, hG179⟩
  have m182 := m165.grow hG179
  have b183 := bls b166 hG179
  have ho184 := owg hG179 ho167
  refine ⟨(J ((j34 + (skipL (List.drop j34 l)).1 + rn numB (List.drop (j34 + (skipL (List.drop j34 l)).1) l) : Nat) : Int)), he180, λ _ A=>Z 1 A rfl λ A=>?_⟩
  have hps := rn_pos (p := numB) (at_zero hy126) (by unfold numB; rw [hb168, Bool.or_true])
  refine qt_<|sw_<|Z 3 A rfl λ A=>qs A rfl (d_spart2 (m := j34 + (skipL (List.drop j34 l)).1) (n := rn numB (List.drop (j34 + (skipL (List.drop j34 l)).1) l)) (wn rfl) (A.ev rfl) (A.ev rfl) (A.ev rfl) str9 (by omega) λ _ A=>C A rfl ent131 (rvalue_or (List.take (rn numB (List.drop (j34 + (skipL (List.drop j34 l)).1) l)) (List.drop (j34 + (skipL (List.drop j34 l)).1) l)) w178 (by rw [List.length_take, List.length_drop]; omega)) ?_)
  rintro e200 w197 ⟨⟨n201, hv202, he199⟩ | ⟨hv202, he199⟩, hG198⟩
  ·skip
   have m203 := m182.grow hG198
   have b204 := bls b183 hG198
   have ho205 := owg hG198 ho184
   refine ⟨(.tuple #[(J n201), (.bool true)]), he199, λ _ A=>Z 5 A rfl @λ a216 A=>qe_ ?_⟩
   have A : St 112 [(0, (.string (S l))), (2, (.slice none 0 0)), (3, (J 0)), (4, (J 0)), (5, v36), (6, (J ((j34 + (skipL (List.drop j34 l)).1 : Nat) : Int))), (10, (.pointer (some ⟨g135, 0, none⟩))), (11, (J ((j34 + (skipL (List.drop j34 l)).1 + rn numB (List.drop (j34 + (skipL (List.drop j34 l)).1) l) : Nat) : Int))), (12, (J n201)), (13, (.bool true))] a216 := A.sub rfl
   refine tn_<|ws_<|sw_<|Z 2 A rfl λ A=>qt_<|cf_ A rfl<|wk_<|tn_<|sw_<|F1 A rfl fo28_0 λ A=>qs A rfl (dst_ (wn rfl) (A.ev rfl) (A.ev rfl) one3 rfl m203 (nb_ rfl) λ w225 hU226 (m227 : Blk w225 g135 #[J 2, .string (S []), J 0, J ((j34 + (skipL (List.drop j34 l)).1 : Nat) : Int)] 28)=>?_)
   have b228 := hU226.below b204 ge140
   have ho229 := own_upd ho205 hU226 off141
   intro _ A
   refine qt_<|wr_<|Z 1 A rfl λ A=>F1 A rfl fo28_2 λ A=>qs A rfl (dst_ (wn rfl) (A.ev rfl) (A.ev rfl) one3 rfl m227 (nb_ rfl) λ w236 hU237 (m238 : Blk w236 g135 #[J 2, .string (S []), J n201, J ((j34 + (skipL (List.drop j34 l)).1 : Nat) : Int)] 28)=>?_)
   have b239 := hU237.below b228 ge140
   have ho240 := own_upd ho229 hU237 off141
   intro _ A
   refine qe_<|i_norm<|tn_<|sw_<|Z 3 A rfl λ A=>qs A rfl (d_spart2 (m := j34 + (skipL (List.drop j34 l)).1) (n := rn numB (List.drop (j34 + (skipL (List.drop j34 l)).1) l)) (wn rfl) (A.ev rfl) (A.ev rfl) (A.ev rfl) str9 (by omega) λ _ A=>F1 A rfl fo28_1 λ A=>qs A rfl (dst_ (wn rfl) (A.ev rfl) (A.ev rfl) one9 rfl m238 (nb_ rfl) λ w253 hU254 (m255 : Blk w253 g135 #[J 2, .string (S (List.take (rn numB (List.drop (j34 + (skipL (List.drop j34 l)).1) l)) (List.drop (j34 + (skipL (List.drop j34 l)).1) l))), J n201, J ((j34 + (skipL (List.drop j34 l)).1 : Nat) : Int)] 28)=>?_))
   have b256 := hU254.below b239 ge140
   have ho257 := own_upd ho240 hU254 off141
   intro _ A
   refine qt_<|sw_<|Z 1 A rfl λ A=>qs A rfl (dlr (cs := #[J 2, .string (S (List.take (rn numB (List.drop (j34 + (skipL (List.drop j34 l)).1) l)) (List.drop (j34 + (skipL (List.drop j34 l)).1) l))), J n201, J ((j34 + (skipL (List.drop j34 l)).1 : Nat) : Int)]) (wn rfl) (A.ev rfl) row28 m255 λ _ A=>qs A rfl (d_slice1 (wn rfl) (A.ev rfl) elm23 rfl (by decide) λ g264 w265 eg266 hG267 (m268 : Blk w265 g264 #[J 2, .string (S (List.take (rn numB (List.drop (j34 + (skipL (List.drop j34 l)).1) l)) (List.drop (j34 + (skipL (List.drop j34 l)).1) l))), J n201, J ((j34 + (skipL (List.drop j34 l)).1 : Nat) : Int)] 28)=>?_))
   have ge269 : w.heap.size ≤ g264 := eg266 ▸ b256.size
   have n270 := nn_ eg266 m255
   have off271 := own_new ho257 eg266
   have m272 := m255.grow hG267
   have b273 := bls b256 hG267
   have ho274 := owg hG267 ho257
   intro _ A
   refine qs A rfl (d_append (wn rfl) (A.ev rfl) (A.ev rfl) elm23 ho274 m268 rfl rfl (by omega) (by decide) b273.size λ v277 w278 ho279 hg280 hl281=>?_)
   have b282 := below_by b273 hg280 b273.size (λ k hk => (own_lt ho274 k hk).1)
   have m283 := m272.by hg280 off141
   have off284 := lies_ne hl281 off141 m272.lt
   intro _ A
   refine Z 1 A rfl λ A=>qt_<|wr_<|Z 2 A rfl λ A=>qe_<|i_norm<|tn_ ?_
   have hF := first_num (at_zero hy126) hb168 hv202
   have hgo := tf_go (f := f') (ws := ws35) hk49 (by omega) (by rw [hF])
   rw [hF] at hgo
   rw [hgo] at htk
   have hlen : (List.take (rn numB (List.drop (j34 + (skipL (List.drop j34 l)).1) l)) (List.drop (j34 + (skipL (List.drop j34 l)).1) l)).length = rn numB (List.drop (j34 + (skipL (List.drop j34 l)).1) l) := by rw [List.length_take, List.length_drop]; omega
   exact ⟨l.length - (j34 + (skipL (List.drop j34 l)).1 + (List.take (rn numB (List.drop (j34 + (skipL (List.drop j34 l)).1) l)) (List.drop (j34 + (skipL (List.drop j34 l)).1) l)).length), (by rw [hm37]; omega), f', j34 + (skipL (List.drop j34 l)).1 + (List.take (rn numB (List.drop (j34 + (skipL (List.drop j34 l)).1) l)) (List.drop (j34 + (skipL (List.drop j34 l)).1) l)).length, ws35 ++ [(⟨2, List.take (rn numB (List.drop (j34 + (skipL (List.drop j34 l)).1) l)) (List.drop (j34 + (skipL (List.drop j34 l)).1) l), n201, ((j34 + (skipL (List.drop j34 l)).1 : Nat) : Int)⟩ : Tk)], v277, rfl, ⟨by omega, by omega, by rw [List.length_append, List.length_singleton]; omega⟩, htk, A.cut _ (fc (A.g 0 rfl) (fc (A.g 2 rfl) (fc (A.g 3 rfl) (fc (A.g 4 rfl) (fc (A.g 5 rfl) (fc ((A.g 6 rfl).trans (congrArg (Value.int .i64) (by omega))) fn_)))))), b282, by rw [List.length_append, List.length_singleton, ← flat_tok]; exact ho279⟩
  have m293 := m182.grow hG198
  have b294 := bls b183 hG198
  have ho295 := owg hG198 ho184
  refine ⟨(.tuple #[(J 0), (.bool false)]), he199, λ _ A=>Z 5 A rfl @λ a306 A=>qe_ ?_⟩
  have A : St 112 [(0, (.string (S l))), (2, (.slice none 0 0)), (3, (J 0)), (4, (J 0)), (5, v36), (6, (J ((j34 + (skipL (List.drop j34 l)).1 : Nat) : Int))), (10, (.pointer (some ⟨g135, 0, none⟩))), (11, (J ((j34 + (skipL (List.drop j34 l)).1 + rn numB (List.drop (j34 + (skipL (List.drop j34 l)).1) l) : Nat) : Int))), (12, (J 0)), (13, (.bool false))] a306 := A.sub rfl
  refine tn_<|ws_<|sw_<|Z 2 A rfl λ A=>qt_<|ct_ A rfl<|sw_<|Z 4 A rfl λ A=>qt_<|we_ ?_
  refine tr_<|i_ret<|tr_<|i_ret<|tr_<|i_ret<|ret3 (x := (.slice none 0 0)) (y := (J 23)) (z := (J ((j34 + (skipL (List.drop j34 l)).1 : Nat) : Int))) rfl A rfl rfl rfl ?_
  have hF := first_bad (at_zero hy126) hb168 hv202
  rw [tf_bad hk49 (by omega) (by rw [hF]; decide), hF] at htk
  exact ⟨_, by rw [← htk] <;> rfl, by rw [← htk]; exact ⟨rfl, .inl ⟨rfl, rfl⟩⟩, b294⟩
 have hq321 := df_ hb168
 refine ⟨.bool false, he163.trans (ret_bool hb168), λ _ A=>Z 1 A rfl λ A=>qt_<|cf_ A rfl<|sw_<|Z 1 A rfl λ A=>C A rfl ent132 (rletter_any y125 w161) ?_⟩
 rintro e331 w328 ⟨he330, hG329⟩
 have m332 := m165.grow hG329
 have b333 := bls b166 hG329
 have ho334 := owg hG329 ho167
 rcases eb_ (letB y125) with hb335 | hb335
 ·skip
  have hq336 := dt_ hb335
  refine ⟨.bool true, he330.trans (ret_bool hb335), λ _ A=>Z 5 A rfl λ A=>qt_<|ct_ A rfl<|sw_<|Z 2 A rfl λ A=>?_⟩
  have hrn := rn_le namB (List.drop (j34 + (skipL (List.drop j34 l)).1) l)
  rw [List.length_drop] at hrn
  refine C A rfl ent130 (rrun_true l (j34 + (skipL (List.drop j34 l)).1) w328 (by omega) (by omega)) ?_
  rintro e356 w353 ⟨he355, hG354⟩
  have m357 := m332.grow hG354
  have b358 := bls b333 hG354
  have ho359 := owg hG354 ho334
  refine ⟨(J ((j34 + (skipL (List.drop j34 l)).1 + rn namB (List.drop (j34 + (skipL (List.drop j34 l)).1) l) : Nat) : Int)), he355, λ _ A=>Z 1 A rfl λ A=>?_⟩
  have hps := rn_pos (p := namB) (at_zero hy126) (by unfold namB; rw [nbg_let hb335, Bool.true_or])
  refine qt_<|wr_<|F1 A rfl fo28_0 λ A=>qs A rfl (dst_ (wn rfl) (A.ev rfl) (A.ev rfl) one3 rfl m357 (nb_ rfl) λ w366 hU367 (m368 : Blk w366 g135 #[J 1, .string (S []), J 0, J ((j34 + (skipL (List.drop j34 l)).1 : Nat) : Int)] 28)=>?_)
  have b369 := hU367.below b358 ge140
  have ho370 := own_upd ho359 hU367 off141
  intro _ A
  refine qe_<|i_norm<|tn_<|sw_<|Z 3 A rfl λ A=>qs A rfl (d_spart2 (m := j34 + (skipL (List.drop j34 l)).1) (n := rn namB (List.drop (j34 + (skipL (List.drop j34 l)).1) l)) (wn rfl) (A.ev rfl) (A.ev rfl) (A.ev rfl) str9 (by omega) λ _ A=>F1 A rfl fo28_1 λ A=>qs A rfl (dst_ (wn rfl) (A.ev rfl) (A.ev rfl) one9 rfl m368 (nb_ rfl) λ w383 hU384 (m385 : Blk w383 g135 #[J 1, .string (S (List.take (rn namB (List.drop (j34 + (skipL (List.drop j34 l)).1) l)) (List.drop (j34 + (skipL (List.drop j34 l)).1) l))), J 0, J ((j34 + (skipL (List.drop j34 l)).1 : Nat) : Int)] 28)=>?_))
  have b386 := hU384.below b369 ge140
  have ho387 := own_upd ho370 hU384 off141
  intro a388 A
  refine qe_ ?_
  have A : St 112 [(0, (.string (S l))), (2, (.slice none 0 0)), (3, (J 0)), (4, (J 0)), (5, v36), (6, (J ((j34 + (skipL (List.drop j34 l)).1 : Nat) : Int))), (10, (.pointer (some ⟨g135, 0, none⟩))), (11, (J ((j34 + (skipL (List.drop j34 l)).1 + rn namB (List.drop (j34 + (skipL (List.drop j34 l)).1) l) : Nat) : Int)))] a388 := A.sub rfl
  refine tn_<|sw_<|Z 1 A rfl λ A=>qs A rfl (dlr (cs := #[J 1, .string (S (List.take (rn namB (List.drop (j34 + (skipL (List.drop j34 l)).1) l)) (List.drop (j34 + (skipL (List.drop j34 l)).1) l))), J 0, J ((j34 + (skipL (List.drop j34 l)).1 : Nat) : Int)]) (wn rfl) (A.ev rfl) row28 m385 λ _ A=>qs A rfl (d_slice1 (wn rfl) (A.ev rfl) elm23 rfl (by decide) λ g395 w396 eg397 hG398 (m399 : Blk w396 g395 #[J 1, .string (S (List.take (rn namB (List.drop (j34 + (skipL (List.drop j34 l)).1) l)) (List.drop (j34 + (skipL (List.drop j34 l)).1) l))), J 0, J ((j34 + (skipL (List.drop j34 l)).1 : Nat) : Int)] 28)=>?_))
  have ge400 : w.heap.size ≤ g395 := eg397 ▸ b386.size
  have n401 := nn_ eg397 m385
  have off402 := own_new ho387 eg397
  have m403 := m385.grow hG398
  have b404 := bls b386 hG398
  have ho405 := owg hG398 ho387
  intro _ A
  refine qs A rfl (d_append (wn rfl) (A.ev rfl) (A.ev rfl) elm23 ho405 m399 rfl rfl (by omega) (by decide) b404.size λ v408 w409 ho410 hg411 hl412=>?_)
  have b413 := below_by b404 hg411 b404.size (λ k hk => (own_lt ho405 k hk).1)
  have m414 := m403.by hg411 off141
  have off415 := lies_ne hl412 off141 m403.lt
  intro _ A
  refine Z 1 A rfl λ A=>qt_<|wr_<|Z 2 A rfl λ A=>qe_<|i_norm<|tn_ ?_
  have hF := first_name (at_zero hy126) hb168 (nbg_let hb335)
  have hgo := tf_go (f := f') (ws := ws35) hk49 (by omega) (by rw [hF])
  rw [hF] at hgo
  rw [hgo] at htk
  have hlen : (List.take (rn namB (List.drop (j34 + (skipL (List.drop j34 l)).1) l)) (List.drop (j34 + (skipL (List.drop j34 l)).1) l)).length = rn namB (List.drop (j34 + (skipL (List.drop j34 l)).1) l) := by rw [List.length_take, List.length_drop]; omega
  exact ⟨l.length - (j34 + (skipL (List.drop j34 l)).1 + (List.take (rn namB (List.drop (j34 + (skipL (List.drop j34 l)).1) l)) (List.drop (j34 + (skipL (List.drop j34 l)).1) l)).length), (by rw [hm37]; omega), f', j34 + (skipL (List.drop j34 l)).1 + (List.take (rn namB (List.drop (j34 + (skipL (List.drop j34 l)).1) l)) (List.drop (j34 + (skipL (List.drop j34 l)).1) l)).length, ws35 ++ [(⟨1, List.take (rn namB (List.drop (j34 + (skipL (List.drop j34 l)).1) l)) (List.drop (j34 + (skipL (List.drop j34 l)).1) l), 0, ((j34 + (skipL (List.drop j34 l)).1 : Nat) : Int)⟩ : Tk)], v408, rfl, ⟨by omega, by omega, by rw [List.length_append, List.length_singleton]; omega⟩, htk, A.cut _ (fc (A.g 0 rfl) (fc (A.g 2 rfl) (fc (A.g 3 rfl) (fc (A.g 4 rfl) (fc (A.g 5 rfl) (fc ((A.g 6 rfl).trans (congrArg (Value.int .i64) (by omega))) fn_)))))), b413, by rw [List.length_append, List.length_singleton, ← flat_tok]; exact ho410⟩
 have hq424 := df_ hb335
 refine ⟨.bool false, he330.trans (ret_bool hb335), λ _ A=>Z 2 A rfl λ A=>?_⟩
 rcases eb_ (((y125.toNat : Nat) : Int) == 95) with hb431 | hb431
 ·skip
  have hq432 := eq_of_beq hb431
  refine B2 A rfl (bq hb431) λ A=>Z 2 A rfl λ A=>qt_<|ct_ A rfl<|sw_<|Z 2 A rfl λ A=>?_
  have hrn := rn_le namB (List.drop (j34 + (skipL (List.drop j34 l)).1) l)
  rw [List.length_drop] at hrn
  refine C A rfl ent130 (rrun_true l (j34 + (skipL (List.drop j34 l)).1) w328 (by omega) (by omega)) ?_
  rintro e446 w443 ⟨he445, hG444⟩
  have m447 := m332.grow hG444
  have b448 := bls b333 hG444
  have ho449 := owg hG444 ho334
  refine ⟨(J ((j34 + (skipL (List.drop j34 l)).1 + rn namB (List.drop (j34 + (skipL (List.drop j34 l)).1) l) : Nat) : Int)), he445, λ _ A=>Z 1 A rfl λ A=>?_⟩
  have hps := rn_pos (p := namB) (at_zero hy126) (by unfold namB; rw [nbg_us (by omega), Bool.true_or])
  refine qt_<|wr_<|F1 A rfl fo28_0 λ A=>qs A rfl (dst_ (wn rfl) (A.ev rfl) (A.ev rfl) one3 rfl m447 (nb_ rfl) λ w456 hU457 (m458 : Blk w456 g135 #[J 1, .string (S []), J 0, J ((j34 + (skipL (List.drop j34 l)).1 : Nat) : Int)] 28)=>?_)
  have b459 := hU457.below b448 ge140
  have ho460 := own_upd ho449 hU457 off141
  intro _ A
  refine qe_<|i_norm<|tn_<|sw_<|Z 3 A rfl λ A=>qs A rfl (d_spart2 (m := j34 + (skipL (List.drop j34 l)).1) (n := rn namB (List.drop (j34 + (skipL (List.drop j34 l)).1) l)) (wn rfl) (A.ev rfl) (A.ev rfl) (A.ev rfl) str9 (by omega) λ _ A=>F1 A rfl fo28_1 λ A=>qs A rfl (dst_ (wn rfl) (A.ev rfl) (A.ev rfl) one9 rfl m458 (nb_ rfl) λ w473 hU474 (m475 : Blk w473 g135 #[J 1, .string (S (List.take (rn namB (List.drop (j34 + (skipL (List.drop j34 l)).1) l)) (List.drop (j34 + (skipL (List.drop j34 l)).1) l))), J 0, J ((j34 + (skipL (List.drop j34 l)).1 : Nat) : Int)] 28)=>?_))
  have b476 := hU474.below b459 ge140
  have ho477 := own_upd ho460 hU474 off141
  intro a478 A
  refine qe_ ?_
  have A : St 112 [(0, (.string (S l))), (2, (.slice none 0 0)), (3, (J 0)), (4, (J 0)), (5, v36), (6, (J ((j34 + (skipL (List.drop j34 l)).1 : Nat) : Int))), (10, (.pointer (some ⟨g135, 0, none⟩))), (11, (J ((j34 + (skipL (List.drop j34 l)).1 + rn namB (List.drop (j34 + (skipL (List.drop j34 l)).1) l) : Nat) : Int)))] a478 := A.sub rfl
  refine tn_<|sw_<|Z 1 A rfl λ A=>qs A rfl (dlr (cs := #[J 1, .string (S (List.take (rn namB (List.drop (j34 + (skipL (List.drop j34 l)).1) l)) (List.drop (j34 + (skipL (List.drop j34 l)).1) l))), J 0, J ((j34 + (skipL (List.drop j34 l)).1 : Nat) : Int)]) (wn rfl) (A.ev rfl) row28 m475 λ _ A=>qs A rfl (d_slice1 (wn rfl) (A.ev rfl) elm23 rfl (by decide) λ g485 w486 eg487 hG488 (m489 : Blk w486 g485 #[J 1, .string (S (List.take (rn namB (List.drop (j34 + (skipL (List.drop j34 l)).1) l)) (List.drop (j34 + (skipL (List.drop j34 l)).1) l))), J 0, J ((j34 + (skipL (List.drop j34 l)).1 : Nat) : Int)] 28)=>?_))
  have ge490 : w.heap.size ≤ g485 := eg487 ▸ b476.size
  have n491 := nn_ eg487 m475
  have off492 := own_new ho477 eg487
  have m493 := m475.grow hG488
  have b494 := bls b476 hG488
  have ho495 := owg hG488 ho477
  intro _ A
  refine qs A rfl (d_append (wn rfl) (A.ev rfl) (A.ev rfl) elm23 ho495 m489 rfl rfl (by omega) (by decide) b494.size λ v498 w499 ho500 hg501 hl502=>?_)
  have b503 := below_by b494 hg501 b494.size (λ k hk => (own_lt ho495 k hk).1)
  have m504 := m493.by hg501 off141
  have off505 := lies_ne hl502 off141 m493.lt
  intro _ A
  refine Z 1 A rfl λ A=>qt_<|wr_<|Z 2 A rfl λ A=>qe_<|i_norm<|tn_ ?_
  have hF := first_name (at_zero hy126) hb168 (nbg_us (eq_of_beq hb431))
  have hgo := tf_go (f := f') (ws := ws35) hk49 (by omega) (by rw [hF])
  rw [hF] at hgo
  rw [hgo] at htk
  have hlen : (List.take (rn namB (List.drop (j34 + (skipL (List.drop j34 l)).1) l)) (List.drop (j34 + (skipL (List.drop j34 l)).1) l)).length = rn namB (List.drop (j34 + (skipL (List.drop j34 l)).1) l) := by rw [List.length_take, List.length_drop]; omega
  exact ⟨l.length - (j34 + (skipL (List.drop j34 l)).1 + (List.take (rn namB (List.drop (j34 + (skipL (List.drop j34 l)).1) l)) (List.drop (j34 + (skipL (List.drop j34 l)).1) l)).length), (by rw [hm37]; omega), f', j34 + (skipL (List.drop j34 l)).1 + (List.take (rn namB (List.drop (j34 + (skipL (List.drop j34 l)).1) l)) (List.drop (j34 + (skipL (List.drop j34 l)).1) l)).length, ws35 ++ [(⟨1, List.take (rn namB (List.drop (j34 + (skipL (List.drop j34 l)).1) l)) (List.drop (j34 + (skipL (List.drop j34 l)).1) l), 0, ((j34 + (skipL (List.drop j34 l)).1 : Nat) : Int)⟩ : Tk)], v498, rfl, ⟨by omega, by omega, by rw [List.length_append, List.length_singleton]; omega⟩, htk, A.cut _ (fc (A.g 0 rfl) (fc (A.g 2 rfl) (fc (A.g 3 rfl) (fc (A.g 4 rfl) (fc (A.g 5 rfl) (fc ((A.g 6 rfl).trans (congrArg (Value.int .i64) (by omega))) fn_)))))), b503, by rw [List.length_append, List.length_singleton, ← flat_tok]; exact ho500⟩
 have hq514 := ne_of_beq hb431
 refine B2 A rfl (bq hb431) λ A=>Z 2 A rfl λ A=>qt_<|cf_ A rfl<|sw_<|Z 1 A rfl λ A=>C A rfl ent133 (rmark_any y125 w328) ?_
 rintro e526 w523 ⟨he525, hG524⟩
 have m527 := m332.grow hG524
 have b528 := bls b333 hG524
 have ho529 := owg hG524 ho334
 rcases eb_ (mrkB y125) with hb530 | hb530
 ·skip
  refine ⟨.bool true, he525.trans (ret_bool hb530), λ _ A=>Z 1 A rfl λ A=>qt_<|ct_ A rfl<|ws_<|sw_<|Z 2 A rfl λ A=>qs A rfl (d_slen (wn rfl) (A.ev rfl) str9 λ _ A=>?_)⟩
  rcases eb_ (decide (((j34 + (skipL (List.drop j34 l)).1 + 1 : Nat) : Int) < ((l.length : Nat) : Int))) with hb542 | hb542
  ·skip
   have hq543 := dt_ hb542
   refine B2 A rfl (bl hb542) λ A=>Z 2 A rfl λ A=>?_
   rcases eb_ (((y125.toNat : Nat) : Int) == 47) with hb550 | hb550
   ·skip
    have hq551 := eq_of_beq hb550
    refine B2 A rfl (bq hb550) λ A=>Z 3 A rfl λ A=>?_
    obtain ⟨y560, hy561⟩ : ∃ y560, l[j34 + (skipL (List.drop j34 l)).1 + 1]? = some y560 := ⟨_, List.getElem?_eq_getElem (show j34 + (skipL (List.drop j34 l)).1 + 1 < l.length by omega)⟩
    refine qs A rfl (d_sat (j := j34 + (skipL (List.drop j34 l)).1 + 1) (wy rfl rfl (A.g 82 rfl)) (A.ev rfl) (A.ev rfl) str9 hy561 λ _ A=>?_)
    rcases eb_ (((y560.toNat : Nat) : Int) == 92) with hb564 | hb564
    ·skip
     have hq565 := eq_of_beq hb564
     refine B2 A rfl (bq hb564) λ A=>Z 12 A rfl @λ a590 A=>qe_ ?_
     have A : St 112 [(0, (.string (S l))), (2, (.slice none 0 0)), (3, (J 0)), (4, (J 0)), (5, v36), (6, (J ((j34 + (skipL (List.drop j34 l)).1 : Nat) : Int))), (10, (.pointer (some ⟨g135, 0, none⟩))), (11, (J ((j34 + (skipL (List.drop j34 l)).1 + 1 : Nat) : Int))), (98, (.bool true))] a590 := A.sub rfl
     refine tn_<|ct_ A rfl<|wr_<|Z 1 A rfl λ A=>B2 A rfl (b_addE (j34 + (skipL (List.drop j34 l)).1 + 1 + 1) (by omega) (by omega)) λ A=>Z 1 A rfl λ A=>qt_<|wr_<|F1 A rfl fo28_0 λ A=>qs A rfl (dst_ (wn rfl) (A.ev rfl) (A.ev rfl) one3 rfl m527 (nb_ rfl) λ w601 hU602 (m603 : Blk w601 g135 #[J 3, .string (S []), J 0, J ((j34 + (skipL (List.drop j34 l)).1 : Nat) : Int)] 28)=>?_)
     have b604 := hU602.below b528 ge140
     have ho605 := own_upd ho529 hU602 off141
     intro _ A
     refine qe_<|i_norm<|tn_<|sw_<|Z 3 A rfl λ A=>qs A rfl (d_spart2 (m := j34 + (skipL (List.drop j34 l)).1) (n := 2) (wn rfl) (A.ev rfl) (A.ev rfl) ((A.ev rfl).trans (congrArg (Value.int .i64) (by omega))) str9 (by omega) λ _ A=>F1 A rfl fo28_1 λ A=>qs A rfl (dst_ (wn rfl) (A.ev rfl) (A.ev rfl) one9 rfl m603 (nb_ rfl) λ w618 hU619 (m620 : Blk w618 g135 #[J 3, .string (S (List.take 2 (List.drop (j34 + (skipL (List.drop j34 l)).1) l))), J 0, J ((j34 + (skipL (List.drop j34 l)).1 : Nat) : Int)] 28)=>?_))
     have b621 := hU619.below b604 ge140
     have ho622 := own_upd ho605 hU619 off141
     intro _ A
     refine qt_<|sw_<|Z 1 A rfl λ A=>qs A rfl (dlr (cs := #[J 3, .string (S (List.take 2 (List.drop (j34 + (skipL (List.drop j34 l)).1) l))), J 0, J ((j34 + (skipL (List.drop j34 l)).1 : Nat) : Int)]) (wn rfl) (A.ev rfl) row28 m620 λ _ A=>qs A rfl (d_slice1 (wn rfl) (A.ev rfl) elm23 rfl (by decide) λ g629 w630 eg631 hG632 (m633 : Blk w630 g629 #[J 3, .string (S (List.take 2 (List.drop (j34 + (skipL (List.drop j34 l)).1) l))), J 0, J ((j34 + (skipL (List.drop j34 l)).1 : Nat) : Int)] 28)=>?_))
     have ge634 : w.heap.size ≤ g629 := eg631 ▸ b621.size
     have n635 := nn_ eg631 m620
     have off636 := own_new ho622 eg631
     have m637 := m620.grow hG632
     have b638 := bls b621 hG632
     have ho639 := owg hG632 ho622
     intro _ A
     refine qs A rfl (d_append (wn rfl) (A.ev rfl) (A.ev rfl) elm23 ho639 m633 rfl rfl (by omega) (by decide) b638.size λ v642 w643 ho644 hg645 hl646=>?_)
     have b647 := below_by b638 hg645 b638.size (λ k hk => (own_lt ho639 k hk).1)
     have m648 := m637.by hg645 off141
     have off649 := lies_ne hl646 off141 m637.lt
     intro _ A
     refine Z 1 A rfl λ A=>qt_<|wr_<|Z 2 A rfl λ A=>qe_<|i_norm<|tn_ ?_
     have hmk := mkN_two_b hy126 hy561 (by omega)
     have hF := first_mark (at_zero hy126) hb168 (nbg_no hb335 (ne_of_beq hb431)) (by omega)
     rw [hmk] at hF
     have hgo := tf_go (f := f') (ws := ws35) hk49 (by omega) (by rw [hF])
     rw [hF] at hgo
     rw [hgo] at htk
     have hlen : (List.take 2 (List.drop (j34 + (skipL (List.drop j34 l)).1) l)).length = 2 := by rw [List.length_take, List.length_drop]; omega
     exact ⟨l.length - (j34 + (skipL (List.drop j34 l)).1 + (List.take 2 (List.drop (j34 + (skipL (List.drop j34 l)).1) l)).length), (by rw [hm37]; omega), f', j34 + (skipL (List.drop j34 l)).1 + (List.take 2 (List.drop (j34 + (skipL (List.drop j34 l)).1) l)).length, ws35 ++ [(⟨3, List.take 2 (List.drop (j34 + (skipL (List.drop j34 l)).1) l), 0, ((j34 + (skipL (List.drop j34 l)).1 : Nat) : Int)⟩ : Tk)], v642, rfl, ⟨by omega, by omega, by rw [List.length_append, List.length_singleton]; omega⟩, htk, A.cut _ (fc (A.g 0 rfl) (fc (A.g 2 rfl) (fc (A.g 3 rfl) (fc (A.g 4 rfl) (fc (A.g 5 rfl) (fc ((A.g 6 rfl).trans (congrArg (Value.int .i64) (by omega))) fn_)))))), b647, by rw [List.length_append, List.length_singleton, ← flat_tok]; exact ho644⟩
    have hq658 := ne_of_beq hb564
    refine B2 A rfl (bq hb564) λ A=>Z 3 A rfl λ A=>?_
    rcases eb_ (((y125.toNat : Nat) : Int) == 92) with hb667 | hb667
    ·skip
     have hq668 := eq_of_beq hb667
     refine B2 A rfl (bq hb667) λ A=>Z 3 A rfl λ A=>qs A rfl (d_sat (j := j34 + (skipL (List.drop j34 l)).1 + 1) (wy rfl rfl (A.g 91 rfl)) (A.ev rfl) (A.ev rfl) str9 hy561 λ _ A=>?_)
     rcases eb_ (((y560.toNat : Nat) : Int) == 47) with hb679 | hb679
     ·skip
      have hq680 := eq_of_beq hb679
      refine B2 A rfl (bq hb679) λ A=>Z 3 A rfl @λ a687 A=>qe_ ?_
      have A : St 112 [(0, (.string (S l))), (2, (.slice none 0 0)), (3, (J 0)), (4, (J 0)), (5, v36), (6, (J ((j34 + (skipL (List.drop j34 l)).1 : Nat) : Int))), (10, (.pointer (some ⟨g135, 0, none⟩))), (11, (J ((j34 + (skipL (List.drop j34 l)).1 + 1 : Nat) : Int))), (98, (.bool true))] a687 := A.sub rfl
      refine tn_<|ct_ A rfl<|wr_<|Z 1 A rfl λ A=>B2 A rfl (b_addE (j34 + (skipL (List.drop j34 l)).1 + 1 + 1) (by omega) (by omega)) λ A=>Z 1 A rfl λ A=>qt_<|wr_<|F1 A rfl fo28_0 λ A=>qs A rfl (dst_ (wn rfl) (A.ev rfl) (A.ev rfl) one3 rfl m527 (nb_ rfl) λ w698 hU699 (m700 : Blk w698 g135 #[J 3, .string (S []), J 0, J ((j34 + (skipL (List.drop j34 l)).1 : Nat) : Int)] 28)=>?_)
      have b701 := hU699.below b528 ge140
      have ho702 := own_upd ho529 hU699 off141
      intro _ A
      refine qe_<|i_norm<|tn_<|sw_<|Z 3 A rfl λ A=>qs A rfl (d_spart2 (m := j34 + (skipL (List.drop j34 l)).1) (n := 2) (wn rfl) (A.ev rfl) (A.ev rfl) ((A.ev rfl).trans (congrArg (Value.int .i64) (by omega))) str9 (by omega) λ _ A=>F1 A rfl fo28_1 λ A=>qs A rfl (dst_ (wn rfl) (A.ev rfl) (A.ev rfl) one9 rfl m700 (nb_ rfl) λ w715 hU716 (m717 : Blk w715 g135 #[J 3, .string (S (List.take 2 (List.drop (j34 + (skipL (List.drop j34 l)).1) l))), J 0, J ((j34 + (skipL (List.drop j34 l)).1 : Nat) : Int)] 28)=>?_))
      have b718 := hU716.below b701 ge140
      have ho719 := own_upd ho702 hU716 off141
      intro _ A
      refine qt_<|sw_<|Z 1 A rfl λ A=>qs A rfl (dlr (cs := #[J 3, .string (S (List.take 2 (List.drop (j34 + (skipL (List.drop j34 l)).1) l))), J 0, J ((j34 + (skipL (List.drop j34 l)).1 : Nat) : Int)]) (wn rfl) (A.ev rfl) row28 m717 λ _ A=>qs A rfl (d_slice1 (wn rfl) (A.ev rfl) elm23 rfl (by decide) λ g726 w727 eg728 hG729 (m730 : Blk w727 g726 #[J 3, .string (S (List.take 2 (List.drop (j34 + (skipL (List.drop j34 l)).1) l))), J 0, J ((j34 + (skipL (List.drop j34 l)).1 : Nat) : Int)] 28)=>?_))
      have ge731 : w.heap.size ≤ g726 := eg728 ▸ b718.size
      have n732 := nn_ eg728 m717
      have off733 := own_new ho719 eg728
      have m734 := m717.grow hG729
      have b735 := bls b718 hG729
      have ho736 := owg hG729 ho719
      intro _ A
      refine qs A rfl (d_append (wn rfl) (A.ev rfl) (A.ev rfl) elm23 ho736 m730 rfl rfl (by omega) (by decide) b735.size λ v739 w740 ho741 hg742 hl743=>?_)
      have b744 := below_by b735 hg742 b735.size (λ k hk => (own_lt ho736 k hk).1)
      have m745 := m734.by hg742 off141
      have off746 := lies_ne hl743 off141 m734.lt
      intro _ A
      refine Z 1 A rfl λ A=>qt_<|wr_<|Z 2 A rfl λ A=>qe_<|i_norm<|tn_ ?_
      have hmk := mkN_two_b hy126 hy561 (by omega)
      have hF := first_mark (at_zero hy126) hb168 (nbg_no hb335 (ne_of_beq hb431)) (by omega)
      rw [hmk] at hF
      have hgo := tf_go (f := f') (ws := ws35) hk49 (by omega) (by rw [hF])
      rw [hF] at hgo
      rw [hgo] at htk
      have hlen : (List.take 2 (List.drop (j34 + (skipL (List.drop j34 l)).1) l)).length = 2 := by rw [List.length_take, List.length_drop]; omega
      exact ⟨l.length - (j34 + (skipL (List.drop j34 l)).1 + (List.take 2 (List.drop (j34 + (skipL (List.drop j34 l)).1) l)).length), (by rw [hm37]; omega), f', j34 + (skipL (List.drop j34 l)).1 + (List.take 2 (List.drop (j34 + (skipL (List.drop j34 l)).1) l)).length, ws35 ++ [(⟨3, List.take 2 (List.drop (j34 + (skipL (List.drop j34 l)).1) l), 0, ((j34 + (skipL (List.drop j34 l)).1 : Nat) : Int)⟩ : Tk)], v739, rfl, ⟨by omega, by omega, by rw [List.length_append, List.length_singleton]; omega⟩, htk, A.cut _ (fc (A.g 0 rfl) (fc (A.g 2 rfl) (fc (A.g 3 rfl) (fc (A.g 4 rfl) (fc (A.g 5 rfl) (fc ((A.g 6 rfl).trans (congrArg (Value.int .i64) (by omega))) fn_)))))), b744, by rw [List.length_append, List.length_singleton, ← flat_tok]; exact ho741⟩
     have hq755 := ne_of_beq hb679
     refine B2 A rfl (bq hb679) λ A=>Z 3 A rfl @λ a762 A=>qe_ ?_
     have A : St 112 [(0, (.string (S l))), (2, (.slice none 0 0)), (3, (J 0)), (4, (J 0)), (5, v36), (6, (J ((j34 + (skipL (List.drop j34 l)).1 : Nat) : Int))), (10, (.pointer (some ⟨g135, 0, none⟩))), (11, (J ((j34 + (skipL (List.drop j34 l)).1 + 1 : Nat) : Int))), (98, (.bool false))] a762 := A.sub rfl
     refine tn_<|cf_ A rfl<|wk_<|tn_<|wr_<|F1 A rfl fo28_0 λ A=>qs A rfl (dst_ (wn rfl) (A.ev rfl) (A.ev rfl) one3 rfl m527 (nb_ rfl) λ w767 hU768 (m769 : Blk w767 g135 #[J 3, .string (S []), J 0, J ((j34 + (skipL (List.drop j34 l)).1 : Nat) : Int)] 28)=>?_)
     have b770 := hU768.below b528 ge140
     have ho771 := own_upd ho529 hU768 off141
     intro _ A
     refine qe_<|i_norm<|tn_<|sw_<|Z 3 A rfl λ A=>qs A rfl (d_spart2 (m := j34 + (skipL (List.drop j34 l)).1) (n := 1) (wn rfl) (A.ev rfl) (A.ev rfl) (A.ev rfl) str9 (by omega) λ _ A=>F1 A rfl fo28_1 λ A=>qs A rfl (dst_ (wn rfl) (A.ev rfl) (A.ev rfl) one9 rfl m769 (nb_ rfl) λ w784 hU785 (m786 : Blk w784 g135 #[J 3, .string (S (List.take 1 (List.drop (j34 + (skipL (List.drop j34 l)).1) l))), J 0, J ((j34 + (skipL (List.drop j34 l)).1 : Nat) : Int)] 28)=>?_))
     have b787 := hU785.below b770 ge140
     have ho788 := own_upd ho771 hU785 off141
     intro _ A
     refine qt_<|sw_<|Z 1 A rfl λ A=>qs A rfl (dlr (cs := #[J 3, .string (S (List.take 1 (List.drop (j34 + (skipL (List.drop j34 l)).1) l))), J 0, J ((j34 + (skipL (List.drop j34 l)).1 : Nat) : Int)]) (wn rfl) (A.ev rfl) row28 m786 λ _ A=>qs A rfl (d_slice1 (wn rfl) (A.ev rfl) elm23 rfl (by decide) λ g795 w796 eg797 hG798 (m799 : Blk w796 g795 #[J 3, .string (S (List.take 1 (List.drop (j34 + (skipL (List.drop j34 l)).1) l))), J 0, J ((j34 + (skipL (List.drop j34 l)).1 : Nat) : Int)] 28)=>?_))
     have ge800 : w.heap.size ≤ g795 := eg797 ▸ b787.size
     have n801 := nn_ eg797 m786
     have off802 := own_new ho788 eg797
     have m803 := m786.grow hG798
     have b804 := bls b787 hG798
     have ho805 := owg hG798 ho788
     intro _ A
     refine qs A rfl (d_append (wn rfl) (A.ev rfl) (A.ev rfl) elm23 ho805 m799 rfl rfl (by omega) (by decide) b804.size λ v808 w809 ho810 hg811 hl812=>?_)
     have b813 := below_by b804 hg811 b804.size (λ k hk => (own_lt ho805 k hk).1)
     have m814 := m803.by hg811 off141
     have off815 := lies_ne hl812 off141 m803.lt
     intro _ A
     refine Z 1 A rfl λ A=>qt_<|wr_<|Z 2 A rfl λ A=>qe_<|i_norm<|tn_ ?_
     have hmk := mkN_one_b hy126 hy561 (by omega) hb530
     have hF := first_mark (at_zero hy126) hb168 (nbg_no hb335 (ne_of_beq hb431)) (by omega)
     rw [hmk] at hF
     have hgo := tf_go (f := f') (ws := ws35) hk49 (by omega) (by rw [hF])
     rw [hF] at hgo
     rw [hgo] at htk
     have hlen : (List.take 1 (List.drop (j34 + (skipL (List.drop j34 l)).1) l)).length = 1 := by rw [List.length_take, List.length_drop]; omega
     exact ⟨l.length - (j34 + (skipL (List.drop j34 l)).1 + (List.take 1 (List.drop (j34 + (skipL (List.drop j34 l)).1) l)).length), (by rw [hm37]; omega), f', j34 + (skipL (List.drop j34 l)).1 + (List.take 1 (List.drop (j34 + (skipL (List.drop j34 l)).1) l)).length, ws35 ++ [(⟨3, List.take 1 (List.drop (j34 + (skipL (List.drop j34 l)).1) l), 0, ((j34 + (skipL (List.drop j34 l)).1 : Nat) : Int)⟩ : Tk)], v808, rfl, ⟨by omega, by omega, by rw [List.length_append, List.length_singleton]; omega⟩, htk, A.cut _ (fc (A.g 0 rfl) (fc (A.g 2 rfl) (fc (A.g 3 rfl) (fc (A.g 4 rfl) (fc (A.g 5 rfl) (fc ((A.g 6 rfl).trans (congrArg (Value.int .i64) (by omega))) fn_)))))), b813, by rw [List.length_append, List.length_singleton, ← flat_tok]; exact ho810⟩
    have hq824 := ne_of_beq hb667
    refine B2 A rfl (bq hb667) λ A=>Z 8 A rfl @λ a841 A=>qe_ ?_
    have A : St 112 [(0, (.string (S l))), (2, (.slice none 0 0)), (3, (J 0)), (4, (J 0)), (5, v36), (6, (J ((j34 + (skipL (List.drop j34 l)).1 : Nat) : Int))), (10, (.pointer (some ⟨g135, 0, none⟩))), (11, (J ((j34 + (skipL (List.drop j34 l)).1 + 1 : Nat) : Int))), (98, (.bool false))] a841 := A.sub rfl
    refine tn_<|cf_ A rfl<|wk_<|tn_<|wr_<|F1 A rfl fo28_0 λ A=>qs A rfl (dst_ (wn rfl) (A.ev rfl) (A.ev rfl) one3 rfl m527 (nb_ rfl) λ w846 hU847 (m848 : Blk w846 g135 #[J 3, .string (S []), J 0, J ((j34 + (skipL (List.drop j34 l)).1 : Nat) : Int)] 28)=>?_)
    have b849 := hU847.below b528 ge140
    have ho850 := own_upd ho529 hU847 off141
    intro _ A
    refine qe_<|i_norm<|tn_<|sw_<|Z 3 A rfl λ A=>qs A rfl (d_spart2 (m := j34 + (skipL (List.drop j34 l)).1) (n := 1) (wn rfl) (A.ev rfl) (A.ev rfl) (A.ev rfl) str9 (by omega) λ _ A=>F1 A rfl fo28_1 λ A=>qs A rfl (dst_ (wn rfl) (A.ev rfl) (A.ev rfl) one9 rfl m848 (nb_ rfl) λ w863 hU864 (m865 : Blk w863 g135 #[J 3, .string (S (List.take 1 (List.drop (j34 + (skipL (List.drop j34 l)).1) l))), J 0, J ((j34 + (skipL (List.drop j34 l)).1 : Nat) : Int)] 28)=>?_))
    have b866 := hU864.below b849 ge140
    have ho867 := own_upd ho850 hU864 off141
    intro _ A
    refine qt_<|sw_<|Z 1 A rfl λ A=>qs A rfl (dlr (cs := #[J 3, .string (S (List.take 1 (List.drop (j34 + (skipL (List.drop j34 l)).1) l))), J 0, J ((j34 + (skipL (List.drop j34 l)).1 : Nat) : Int)]) (wn rfl) (A.ev rfl) row28 m865 λ _ A=>qs A rfl (d_slice1 (wn rfl) (A.ev rfl) elm23 rfl (by decide) λ g874 w875 eg876 hG877 (m878 : Blk w875 g874 #[J 3, .string (S (List.take 1 (List.drop (j34 + (skipL (List.drop j34 l)).1) l))), J 0, J ((j34 + (skipL (List.drop j34 l)).1 : Nat) : Int)] 28)=>?_))
    have ge879 : w.heap.size ≤ g874 := eg876 ▸ b866.size
    have n880 := nn_ eg876 m865
    have off881 := own_new ho867 eg876
    have m882 := m865.grow hG877
    have b883 := bls b866 hG877
    have ho884 := owg hG877 ho867
    intro _ A
    refine qs A rfl (d_append (wn rfl) (A.ev rfl) (A.ev rfl) elm23 ho884 m878 rfl rfl (by omega) (by decide) b883.size λ v887 w888 ho889 hg890 hl891=>?_)
    have b892 := below_by b883 hg890 b883.size (λ k hk => (own_lt ho884 k hk).1)
    have m893 := m882.by hg890 off141
    have off894 := lies_ne hl891 off141 m882.lt
    intro _ A
    refine Z 1 A rfl λ A=>qt_<|wr_<|Z 2 A rfl λ A=>qe_<|i_norm<|tn_ ?_
    have hmk := mkN_one_b hy126 hy561 (by omega) hb530
    have hF := first_mark (at_zero hy126) hb168 (nbg_no hb335 (ne_of_beq hb431)) (by omega)
    rw [hmk] at hF
    have hgo := tf_go (f := f') (ws := ws35) hk49 (by omega) (by rw [hF])
    rw [hF] at hgo
    rw [hgo] at htk
    have hlen : (List.take 1 (List.drop (j34 + (skipL (List.drop j34 l)).1) l)).length = 1 := by rw [List.length_take, List.length_drop]; omega
    exact ⟨l.length - (j34 + (skipL (List.drop j34 l)).1 + (List.take 1 (List.drop (j34 + (skipL (List.drop j34 l)).1) l)).length), (by rw [hm37]; omega), f', j34 + (skipL (List.drop j34 l)).1 + (List.take 1 (List.drop (j34 + (skipL (List.drop j34 l)).1) l)).length, ws35 ++ [(⟨3, List.take 1 (List.drop (j34 + (skipL (List.drop j34 l)).1) l), 0, ((j34 + (skipL (List.drop j34 l)).1 : Nat) : Int)⟩ : Tk)], v887, rfl, ⟨by omega, by omega, by rw [List.length_append, List.length_singleton]; omega⟩, htk, A.cut _ (fc (A.g 0 rfl) (fc (A.g 2 rfl) (fc (A.g 3 rfl) (fc (A.g 4 rfl) (fc (A.g 5 rfl) (fc ((A.g 6 rfl).trans (congrArg (Value.int .i64) (by omega))) fn_)))))), b892, by rw [List.length_append, List.length_singleton, ← flat_tok]; exact ho889⟩
   have hq903 := ne_of_beq hb550
   refine B2 A rfl (bq hb550) λ A=>Z 8 A rfl λ A=>?_
   rcases eb_ (((y125.toNat : Nat) : Int) == 92) with hb922 | hb922
   ·skip
    have hq923 := eq_of_beq hb922
    refine B2 A rfl (bq hb922) λ A=>Z 3 A rfl λ A=>?_
    obtain ⟨y932, hy933⟩ : ∃ y932, l[j34 + (skipL (List.drop j34 l)).1 + 1]? = some y932 := ⟨_, List.getElem?_eq_getElem (show j34 + (skipL (List.drop j34 l)).1 + 1 < l.length by omega)⟩
    refine qs A rfl (d_sat (j := j34 + (skipL (List.drop j34 l)).1 + 1) (wy rfl rfl (A.g 91 rfl)) (A.ev rfl) (A.ev rfl) str9 hy933 λ _ A=>?_)
    rcases eb_ (((y932.toNat : Nat) : Int) == 47) with hb936 | hb936
    ·skip
     have hq937 := eq_of_beq hb936
     refine B2 A rfl (bq hb936) λ A=>Z 3 A rfl @λ a944 A=>qe_ ?_
     have A : St 112 [(0, (.string (S l))), (2, (.slice none 0 0)), (3, (J 0)), (4, (J 0)), (5, v36), (6, (J ((j34 + (skipL (List.drop j34 l)).1 : Nat) : Int))), (10, (.pointer (some ⟨g135, 0, none⟩))), (11, (J ((j34 + (skipL (List.drop j34 l)).1 + 1 : Nat) : Int))), (98, (.bool true))] a944 := A.sub rfl
     refine tn_<|ct_ A rfl<|wr_<|Z 1 A rfl λ A=>B2 A rfl (b_addE (j34 + (skipL (List.drop j34 l)).1 + 1 + 1) (by omega) (by omega)) λ A=>Z 1 A rfl λ A=>qt_<|wr_<|F1 A rfl fo28_0 λ A=>qs A rfl (dst_ (wn rfl) (A.ev rfl) (A.ev rfl) one3 rfl m527 (nb_ rfl) λ w955 hU956 (m957 : Blk w955 g135 #[J 3, .string (S []), J 0, J ((j34 + (skipL (List.drop j34 l)).1 : Nat) : Int)] 28)=>?_)
     have b958 := hU956.below b528 ge140
     have ho959 := own_upd ho529 hU956 off141
     intro _ A
     refine qe_<|i_norm<|tn_<|sw_<|Z 3 A rfl λ A=>qs A rfl (d_spart2 (m := j34 + (skipL (List.drop j34 l)).1) (n := 2) (wn rfl) (A.ev rfl) (A.ev rfl) ((A.ev rfl).trans (congrArg (Value.int .i64) (by omega))) str9 (by omega) λ _ A=>F1 A rfl fo28_1 λ A=>qs A rfl (dst_ (wn rfl) (A.ev rfl) (A.ev rfl) one9 rfl m957 (nb_ rfl) λ w972 hU973 (m974 : Blk w972 g135 #[J 3, .string (S (List.take 2 (List.drop (j34 + (skipL (List.drop j34 l)).1) l))), J 0, J ((j34 + (skipL (List.drop j34 l)).1 : Nat) : Int)] 28)=>?_))
     have b975 := hU973.below b958 ge140
     have ho976 := own_upd ho959 hU973 off141
     intro _ A
     refine qt_<|sw_<|Z 1 A rfl λ A=>qs A rfl (dlr (cs := #[J 3, .string (S (List.take 2 (List.drop (j34 + (skipL (List.drop j34 l)).1) l))), J 0, J ((j34 + (skipL (List.drop j34 l)).1 : Nat) : Int)]) (wn rfl) (A.ev rfl) row28 m974 λ _ A=>qs A rfl (d_slice1 (wn rfl) (A.ev rfl) elm23 rfl (by decide) λ g983 w984 eg985 hG986 (m987 : Blk w984 g983 #[J 3, .string (S (List.take 2 (List.drop (j34 + (skipL (List.drop j34 l)).1) l))), J 0, J ((j34 + (skipL (List.drop j34 l)).1 : Nat) : Int)] 28)=>?_))
     have ge988 : w.heap.size ≤ g983 := eg985 ▸ b975.size
     have n989 := nn_ eg985 m974
     have off990 := own_new ho976 eg985
     have m991 := m974.grow hG986
     have b992 := bls b975 hG986
     have ho993 := owg hG986 ho976
     intro _ A
     refine qs A rfl (d_append (wn rfl) (A.ev rfl) (A.ev rfl) elm23 ho993 m987 rfl rfl (by omega) (by decide) b992.size λ v996 w997 ho998 hg999 hl1000=>?_)
     have b1001 := below_by b992 hg999 b992.size (λ k hk => (own_lt ho993 k hk).1)
     have m1002 := m991.by hg999 off141
     have off1003 := lies_ne hl1000 off141 m991.lt
     intro _ A
     refine Z 1 A rfl λ A=>qt_<|wr_<|Z 2 A rfl λ A=>qe_<|i_norm<|tn_ ?_
     have hmk := mkN_two_b hy126 hy933 (by omega)
     have hF := first_mark (at_zero hy126) hb168 (nbg_no hb335 (ne_of_beq hb431)) (by omega)
     rw [hmk] at hF
     have hgo := tf_go (f := f') (ws := ws35) hk49 (by omega) (by rw [hF])
     rw [hF] at hgo
     rw [hgo] at htk
     have hlen : (List.take 2 (List.drop (j34 + (skipL (List.drop j34 l)).1) l)).length = 2 := by rw [List.length_take, List.length_drop]; omega
     exact ⟨l.length - (j34 + (skipL (List.drop j34 l)).1 + (List.take 2 (List.drop (j34 + (skipL (List.drop j34 l)).1) l)).length), (by rw [hm37]; omega), f', j34 + (skipL (List.drop j34 l)).1 + (List.take 2 (List.drop (j34 + (skipL (List.drop j34 l)).1) l)).length, ws35 ++ [(⟨3, List.take 2 (List.drop (j34 + (skipL (List.drop j34 l)).1) l), 0, ((j34 + (skipL (List.drop j34 l)).1 : Nat) : Int)⟩ : Tk)], v996, rfl, ⟨by omega, by omega, by rw [List.length_append, List.length_singleton]; omega⟩, htk, A.cut _ (fc (A.g 0 rfl) (fc (A.g 2 rfl) (fc (A.g 3 rfl) (fc (A.g 4 rfl) (fc (A.g 5 rfl) (fc ((A.g 6 rfl).trans (congrArg (Value.int .i64) (by omega))) fn_)))))), b1001, by rw [List.length_append, List.length_singleton, ← flat_tok]; exact ho998⟩
    have hq1012 := ne_of_beq hb936
    refine B2 A rfl (bq hb936) λ A=>Z 3 A rfl @λ a1019 A=>qe_ ?_
    have A : St 112 [(0, (.string (S l))), (2, (.slice none 0 0)), (3, (J 0)), (4, (J 0)), (5, v36), (6, (J ((j34 + (skipL (List.drop j34 l)).1 : Nat) : Int))), (10, (.pointer (some ⟨g135, 0, none⟩))), (11, (J ((j34 + (skipL (List.drop j34 l)).1 + 1 : Nat) : Int))), (98, (.bool false))] a1019 := A.sub rfl
    refine tn_<|cf_ A rfl<|wk_<|tn_<|wr_<|F1 A rfl fo28_0 λ A=>qs A rfl (dst_ (wn rfl) (A.ev rfl) (A.ev rfl) one3 rfl m527 (nb_ rfl) λ w1024 hU1025 (m1026 : Blk w1024 g135 #[J 3, .string (S []), J 0, J ((j34 + (skipL (List.drop j34 l)).1 : Nat) : Int)] 28)=>?_)
    have b1027 := hU1025.below b528 ge140
    have ho1028 := own_upd ho529 hU1025 off141
    intro _ A
    refine qe_<|i_norm<|tn_<|sw_<|Z 3 A rfl λ A=>qs A rfl (d_spart2 (m := j34 + (skipL (List.drop j34 l)).1) (n := 1) (wn rfl) (A.ev rfl) (A.ev rfl) (A.ev rfl) str9 (by omega) λ _ A=>F1 A rfl fo28_1 λ A=>qs A rfl (dst_ (wn rfl) (A.ev rfl) (A.ev rfl) one9 rfl m1026 (nb_ rfl) λ w1041 hU1042 (m1043 : Blk w1041 g135 #[J 3, .string (S (List.take 1 (List.drop (j34 + (skipL (List.drop j34 l)).1) l))), J 0, J ((j34 + (skipL (List.drop j34 l)).1 : Nat) : Int)] 28)=>?_))
    have b1044 := hU1042.below b1027 ge140
    have ho1045 := own_upd ho1028 hU1042 off141
    intro _ A
    refine qt_<|sw_<|Z 1 A rfl λ A=>qs A rfl (dlr (cs := #[J 3, .string (S (List.take 1 (List.drop (j34 + (skipL (List.drop j34 l)).1) l))), J 0, J ((j34 + (skipL (List.drop j34 l)).1 : Nat) : Int)]) (wn rfl) (A.ev rfl) row28 m1043 λ _ A=>qs A rfl (d_slice1 (wn rfl) (A.ev rfl) elm23 rfl (by decide) λ g1052 w1053 eg1054 hG1055 (m1056 : Blk w1053 g1052 #[J 3, .string (S (List.take 1 (List.drop (j34 + (skipL (List.drop j34 l)).1) l))), J 0, J ((j34 + (skipL (List.drop j34 l)).1 : Nat) : Int)] 28)=>?_))
    have ge1057 : w.heap.size ≤ g1052 := eg1054 ▸ b1044.size
    have n1058 := nn_ eg1054 m1043
    have off1059 := own_new ho1045 eg1054
    have m1060 := m1043.grow hG1055
    have b1061 := bls b1044 hG1055
    have ho1062 := owg hG1055 ho1045
    intro _ A
    refine qs A rfl (d_append (wn rfl) (A.ev rfl) (A.ev rfl) elm23 ho1062 m1056 rfl rfl (by omega) (by decide) b1061.size λ v1065 w1066 ho1067 hg1068 hl1069=>?_)
    have b1070 := below_by b1061 hg1068 b1061.size (λ k hk => (own_lt ho1062 k hk).1)
    have m1071 := m1060.by hg1068 off141
    have off1072 := lies_ne hl1069 off141 m1060.lt
    intro _ A
    refine Z 1 A rfl λ A=>qt_<|wr_<|Z 2 A rfl λ A=>qe_<|i_norm<|tn_ ?_
    have hmk := mkN_one_b hy126 hy933 (by omega) hb530
    have hF := first_mark (at_zero hy126) hb168 (nbg_no hb335 (ne_of_beq hb431)) (by omega)
    rw [hmk] at hF
    have hgo := tf_go (f := f') (ws := ws35) hk49 (by omega) (by rw [hF])
    rw [hF] at hgo
    rw [hgo] at htk
    have hlen : (List.take 1 (List.drop (j34 + (skipL (List.drop j34 l)).1) l)).length = 1 := by rw [List.length_take, List.length_drop]; omega
    exact ⟨l.length - (j34 + (skipL (List.drop j34 l)).1 + (List.take 1 (List.drop (j34 + (skipL (List.drop j34 l)).1) l)).length), (by rw [hm37]; omega), f', j34 + (skipL (List.drop j34 l)).1 + (List.take 1 (List.drop (j34 + (skipL (List.drop j34 l)).1) l)).length, ws35 ++ [(⟨3, List.take 1 (List.drop (j34 + (skipL (List.drop j34 l)).1) l), 0, ((j34 + (skipL (List.drop j34 l)).1 : Nat) : Int)⟩ : Tk)], v1065, rfl, ⟨by omega, by omega, by rw [List.length_append, List.length_singleton]; omega⟩, htk, A.cut _ (fc (A.g 0 rfl) (fc (A.g 2 rfl) (fc (A.g 3 rfl) (fc (A.g 4 rfl) (fc (A.g 5 rfl) (fc ((A.g 6 rfl).trans (congrArg (Value.int .i64) (by omega))) fn_)))))), b1070, by rw [List.length_append, List.length_singleton, ← flat_tok]; exact ho1067⟩
   have hq1081 := ne_of_beq hb922
   refine B2 A rfl (bq hb922) λ A=>Z 8 A rfl @λ a1098 A=>qe_ ?_
   have A : St 112 [(0, (.string (S l))), (2, (.slice none 0 0)), (3, (J 0)), (4, (J 0)), (5, v36), (6, (J ((j34 + (skipL (List.drop j34 l)).1 : Nat) : Int))), (10, (.pointer (some ⟨g135, 0, none⟩))), (11, (J ((j34 + (skipL (List.drop j34 l)).1 + 1 : Nat) : Int))), (98, (.bool false))] a1098 := A.sub rfl
   refine tn_<|cf_ A rfl<|wk_<|tn_<|wr_<|F1 A rfl fo28_0 λ A=>qs A rfl (dst_ (wn rfl) (A.ev rfl) (A.ev rfl) one3 rfl m527 (nb_ rfl) λ w1103 hU1104 (m1105 : Blk w1103 g135 #[J 3, .string (S []), J 0, J ((j34 + (skipL (List.drop j34 l)).1 : Nat) : Int)] 28)=>?_)
   have b1106 := hU1104.below b528 ge140
   have ho1107 := own_upd ho529 hU1104 off141
   intro _ A
   refine qe_<|i_norm<|tn_<|sw_<|Z 3 A rfl λ A=>qs A rfl (d_spart2 (m := j34 + (skipL (List.drop j34 l)).1) (n := 1) (wn rfl) (A.ev rfl) (A.ev rfl) (A.ev rfl) str9 (by omega) λ _ A=>F1 A rfl fo28_1 λ A=>qs A rfl (dst_ (wn rfl) (A.ev rfl) (A.ev rfl) one9 rfl m1105 (nb_ rfl) λ w1120 hU1121 (m1122 : Blk w1120 g135 #[J 3, .string (S (List.take 1 (List.drop (j34 + (skipL (List.drop j34 l)).1) l))), J 0, J ((j34 + (skipL (List.drop j34 l)).1 : Nat) : Int)] 28)=>?_))
   have b1123 := hU1121.below b1106 ge140
   have ho1124 := own_upd ho1107 hU1121 off141
   intro _ A
   refine qt_<|sw_<|Z 1 A rfl λ A=>qs A rfl (dlr (cs := #[J 3, .string (S (List.take 1 (List.drop (j34 + (skipL (List.drop j34 l)).1) l))), J 0, J ((j34 + (skipL (List.drop j34 l)).1 : Nat) : Int)]) (wn rfl) (A.ev rfl) row28 m1122 λ _ A=>qs A rfl (d_slice1 (wn rfl) (A.ev rfl) elm23 rfl (by decide) λ g1131 w1132 eg1133 hG1134 (m1135 : Blk w1132 g1131 #[J 3, .string (S (List.take 1 (List.drop (j34 + (skipL (List.drop j34 l)).1) l))), J 0, J ((j34 + (skipL (List.drop j34 l)).1 : Nat) : Int)] 28)=>?_))
   have ge1136 : w.heap.size ≤ g1131 := eg1133 ▸ b1123.size
   have n1137 := nn_ eg1133 m1122
   have off1138 := own_new ho1124 eg1133
   have m1139 := m1122.grow hG1134
   have b1140 := bls b1123 hG1134
   have ho1141 := owg hG1134 ho1124
   intro _ A
   refine qs A rfl (d_append (wn rfl) (A.ev rfl) (A.ev rfl) elm23 ho1141 m1135 rfl rfl (by omega) (by decide) b1140.size λ v1144 w1145 ho1146 hg1147 hl1148=>?_)
   have b1149 := below_by b1140 hg1147 b1140.size (λ k hk => (own_lt ho1141 k hk).1)
   have m1150 := m1139.by hg1147 off141
   have off1151 := lies_ne hl1148 off141 m1139.lt
   intro _ A
   refine Z 1 A rfl λ A=>qt_<|wr_<|Z 2 A rfl λ A=>qe_<|i_norm<|tn_ ?_
   obtain ⟨y1160, hy1161⟩ : ∃ y1160, l[j34 + (skipL (List.drop j34 l)).1 + 1]? = some y1160 := ⟨_, List.getElem?_eq_getElem (show j34 + (skipL (List.drop j34 l)).1 + 1 < l.length by omega)⟩
   have hmk := mkN_one_b hy126 hy1161 (by omega) hb530
   have hF := first_mark (at_zero hy126) hb168 (nbg_no hb335 (ne_of_beq hb431)) (by omega)
   rw [hmk] at hF
   have hgo := tf_go (f := f') (ws := ws35) hk49 (by omega) (by rw [hF])
   rw [hF] at hgo
   rw [hgo] at htk
   have hlen : (List.take 1 (List.drop (j34 + (skipL (List.drop j34 l)).1) l)).length = 1 := by rw [List.length_take, List.length_drop]; omega
   exact ⟨l.length - (j34 + (skipL (List.drop j34 l)).1 + (List.take 1 (List.drop (j34 + (skipL (List.drop j34 l)).1) l)).length), (by rw [hm37]; omega), f', j34 + (skipL (List.drop j34 l)).1 + (List.take 1 (List.drop (j34 + (skipL (List.drop j34 l)).1) l)).length, ws35 ++ [(⟨3, List.take 1 (List.drop (j34 + (skipL (List.drop j34 l)).1) l), 0, ((j34 + (skipL (List.drop j34 l)).1 : Nat) : Int)⟩ : Tk)], v1144, rfl, ⟨by omega, by omega, by rw [List.length_append, List.length_singleton]; omega⟩, htk, A.cut _ (fc (A.g 0 rfl) (fc (A.g 2 rfl) (fc (A.g 3 rfl) (fc (A.g 4 rfl) (fc (A.g 5 rfl) (fc ((A.g 6 rfl).trans (congrArg (Value.int .i64) (by omega))) fn_)))))), b1149, by rw [List.length_append, List.length_singleton, ← flat_tok]; exact ho1146⟩
  have hq1162 := df_ hb542
  refine B2 A rfl (bl hb542) λ A=>Z 20 A rfl @λ a1203 A=>qe_ ?_
  have A : St 112 [(0, (.string (S l))), (2, (.slice none 0 0)), (3, (J 0)), (4, (J 0)), (5, v36), (6, (J ((j34 + (skipL (List.drop j34 l)).1 : Nat) : Int))), (10, (.pointer (some ⟨g135, 0, none⟩))), (11, (J ((j34 + (skipL (List.drop j34 l)).1 + 1 : Nat) : Int))), (98, (.bool false))] a1203 := A.sub rfl
  refine tn_<|cf_ A rfl<|wk_<|tn_<|wr_<|F1 A rfl fo28_0 λ A=>qs A rfl (dst_ (wn rfl) (A.ev rfl) (A.ev rfl) one3 rfl m527 (nb_ rfl) λ w1208 hU1209 (m1210 : Blk w1208 g135 #[J 3, .string (S []), J 0, J ((j34 + (skipL (List.drop j34 l)).1 : Nat) : Int)] 28)=>?_)
  have b1211 := hU1209.below b528 ge140
  have ho1212 := own_upd ho529 hU1209 off141
  intro _ A
  refine qe_<|i_norm<|tn_<|sw_<|Z 3 A rfl λ A=>qs A rfl (d_spart2 (m := j34 + (skipL (List.drop j34 l)).1) (n := 1) (wn rfl) (A.ev rfl) (A.ev rfl) (A.ev rfl) str9 (by omega) λ _ A=>F1 A rfl fo28_1 λ A=>qs A rfl (dst_ (wn rfl) (A.ev rfl) (A.ev rfl) one9 rfl m1210 (nb_ rfl) λ w1225 hU1226 (m1227 : Blk w1225 g135 #[J 3, .string (S (List.take 1 (List.drop (j34 + (skipL (List.drop j34 l)).1) l))), J 0, J ((j34 + (skipL (List.drop j34 l)).1 : Nat) : Int)] 28)=>?_))
  have b1228 := hU1226.below b1211 ge140
  have ho1229 := own_upd ho1212 hU1226 off141
  intro _ A
  refine qt_<|sw_<|Z 1 A rfl λ A=>qs A rfl (dlr (cs := #[J 3, .string (S (List.take 1 (List.drop (j34 + (skipL (List.drop j34 l)).1) l))), J 0, J ((j34 + (skipL (List.drop j34 l)).1 : Nat) : Int)]) (wn rfl) (A.ev rfl) row28 m1227 λ _ A=>qs A rfl (d_slice1 (wn rfl) (A.ev rfl) elm23 rfl (by decide) λ g1236 w1237 eg1238 hG1239 (m1240 : Blk w1237 g1236 #[J 3, .string (S (List.take 1 (List.drop (j34 + (skipL (List.drop j34 l)).1) l))), J 0, J ((j34 + (skipL (List.drop j34 l)).1 : Nat) : Int)] 28)=>?_))
  have ge1241 : w.heap.size ≤ g1236 := eg1238 ▸ b1228.size
  have n1242 := nn_ eg1238 m1227
  have off1243 := own_new ho1229 eg1238
  have m1244 := m1227.grow hG1239
  have b1245 := bls b1228 hG1239
  have ho1246 := owg hG1239 ho1229
  intro _ A
  refine qs A rfl (d_append (wn rfl) (A.ev rfl) (A.ev rfl) elm23 ho1246 m1240 rfl rfl (by omega) (by decide) b1245.size λ v1249 w1250 ho1251 hg1252 hl1253=>?_)
  have b1254 := below_by b1245 hg1252 b1245.size (λ k hk => (own_lt ho1246 k hk).1)
  have m1255 := m1244.by hg1252 off141
  have off1256 := lies_ne hl1253 off141 m1244.lt
  intro _ A
  refine Z 1 A rfl λ A=>qt_<|wr_<|Z 2 A rfl λ A=>qe_<|i_norm<|tn_ ?_
  have hmk := mkN_last_b hy126 (by omega) hb530
  have hF := first_mark (at_zero hy126) hb168 (nbg_no hb335 (ne_of_beq hb431)) (by omega)
  rw [hmk] at hF
  have hgo := tf_go (f := f') (ws := ws35) hk49 (by omega) (by rw [hF])
  rw [hF] at hgo
  rw [hgo] at htk
  have hlen : (List.take 1 (List.drop (j34 + (skipL (List.drop j34 l)).1) l)).length = 1 := by rw [List.length_take, List.length_drop]; omega
  exact ⟨l.length - (j34 + (skipL (List.drop j34 l)).1 + (List.take 1 (List.drop (j34 + (skipL (List.drop j34 l)).1) l)).length), (by rw [hm37]; omega), f', j34 + (skipL (List.drop j34 l)).1 + (List.take 1 (List.drop (j34 + (skipL (List.drop j34 l)).1) l)).length, ws35 ++ [(⟨3, List.take 1 (List.drop (j34 + (skipL (List.drop j34 l)).1) l), 0, ((j34 + (skipL (List.drop j34 l)).1 : Nat) : Int)⟩ : Tk)], v1249, rfl, ⟨by omega, by omega, by rw [List.length_append, List.length_singleton]; omega⟩, htk, A.cut _ (fc (A.g 0 rfl) (fc (A.g 2 rfl) (fc (A.g 3 rfl) (fc (A.g 4 rfl) (fc (A.g 5 rfl) (fc ((A.g 6 rfl).trans (congrArg (Value.int .i64) (by omega))) fn_)))))), b1254, by rw [List.length_append, List.length_singleton, ← flat_tok]; exact ho1251⟩
 refine ⟨.bool false, he525.trans (ret_bool hb530), λ _ A=>Z 1 A rfl λ A=>qt_<|cf_ A rfl<|sw_<|Z 4 A rfl λ A=>qt_<|we_<|i_ret<|tr_<|i_ret ?_⟩
 refine tr_<|i_ret<|ret3 (x := (.slice none 0 0)) (y := (J 20)) (z := (J ((j34 + (skipL (List.drop j34 l)).1 : Nat) : Int))) rfl A rfl rfl rfl ?_
 have hmk := mkN_none_b hy126 hb530
 have hF := first_byte (at_zero hy126) hb168 (nbg_no hb335 (ne_of_beq hb431)) (by omega)
 rw [tf_bad hk49 (by omega) (by rw [hF]; decide), hF] at htk
 exact ⟨_, by rw [← htk] <;> rfl, by rw [← htk]; exact ⟨rfl, .inl ⟨rfl, rfl⟩⟩, b528⟩
theorem ent104 : Ent Tryz.prog 104 = FF := by kernel_rfl
theorem ent142 : Ent Tryz.prog 142 = FF := by kernel_rfl
theorem ent61 : Ent Tryz.prog 61 = FF := by kernel_rfl
theorem fo132_0 : fieldOff Tryz.prog 132 0 = some 0 := by kernel_rfl
theorem fo132_1 : fieldOff Tryz.prog 132 1 = some 1 := by kernel_rfl
theorem mixedY : Tryz.prog.follows .mixedOrders = true := by kernel_rfl
theorem one23 : oneB Tryz.prog 23 = true := by kernel_rfl
theorem slc23 : sliceB Tryz.prog 23 28 4 = true := by kernel_rfl
theorem left_any (Bd g p : Nat) (sv : Value) (L : List Tk)  (w : World) (hB : Bd ≤ w.heap.size) (hBg : Bd ≤ g) (hb : Blk w g #[sv, J ((p : Nat) : Int)] 132) (hSl : Sl tokE 4 Bd w sv L) (hp : p ≤ L.length) (hL : L.length ≤ 1000000) : Calls Tryz.prog 61 #[.pointer (some ⟨g, 0, none⟩)] w λ e w' => e = .returned (J (((L.length : Nat) : Int) - ((p : Nat) : Int))) ∧ Grow w w' := by
 have x0 : Mix [] w w := Mix.refl _ _
 have b0 : Below Bd w w := Below.refl _ _
 refine enter (n := 13) Tryz.func61 rfl rfl (nb_ rfl) λ _ A=>sw_<|Z 1 A rfl @λ a3 A=>qt_<|ws_ ?_
 have A : St 13 [(0, (.pointer (some ⟨g, 0, none⟩)))] a3 := A.sub rfl
 let M6 : Nat → Option (Array Value) := λ _ => none
 have hM6 : M6 = λ _ => none := rfl
 clear_value M6
 have hM7 : M6 g = none := (congrFun hM6 g)
 have hM6B : ∀ k, k < Bd → M6 k = none := (λ k hk => (congrFun hM6 k))
 refine drawn (S := SM M6) (tabL [cv (.pointer (some ⟨g, 0, none⟩)), cv (.pointer (some ⟨g, 0, none⟩)), cv (.pointer (some ⟨g, 0, none⟩)), cv sv, cv (J ((L.length : Nat) : Int)), cv (.pointer (some ⟨g, 0, none⟩)), cv (.pointer (some ⟨g, 0, none⟩)), cv (.pointer (some ⟨g, 1, none⟩)), cv (J ((p : Nat) : Int)), cv (J (((L.length : Nat) : Int) - ((p : Nat) : Int))), cv (J (((L.length : Nat) : Int) - ((p : Nat) : Int)))]) mixedY SM.refl SM.trans SM.drew A (by kernel_rfl) ?_ ?_
 ·skip
  refine ec_ (λ x y hS hT hk => dmv (wn rfl) (hT.ev rfl) ⟨SM.refl _, rfl⟩)<|ec_ (λ x y hS hT hk => dnc (wn rfl) (hk 0 rfl) ⟨SM.refl _, rfl⟩)<|ec_ (λ x y hS hT hk => dfa (wn rfl) (hk 1 rfl) fo132_0 ⟨SM.refl _, rfl⟩)<|ec_ (λ x y hS hT hk => dld (v := sv) (wn rfl) (hk 2 rfl) one23 ((Blk.sm (w := w.drew) hb hS hM7).cell rfl) ⟨SM.refl _, rfl⟩)<|ec_ (λ x y hS hT hk => dle (n := L.length) (wn rfl) (hk 3 rfl) slc23 hSl.form ⟨SM.refl _, rfl⟩)<|ec_ (λ x y hS hT hk => dmv (wn rfl) (hT.ev rfl) ⟨SM.refl _, rfl⟩)<|ec_ (λ x y hS hT hk => dnc (wn rfl) (hk 5 rfl) ⟨SM.refl _, rfl⟩)<|ec_ (λ x y hS hT hk => dfa (wn rfl) (hk 6 rfl) fo132_1 ⟨SM.refl _, rfl⟩)<|ec_ (λ x y hS hT hk => dld (v := (J ((p : Nat) : Int))) (wn rfl) (hk 7 rfl) one3 ((Blk.sm (w := w.drew) hb hS hM7).cell rfl) ⟨SM.refl _, rfl⟩)<|ec_ (λ x y hS hT hk => dbn (u := (J ((L.length : Nat) : Int))) (v := (J ((p : Nat) : Int))) (wn rfl) (hk 4 rfl) (hk 8 rfl) (b_sub _ _ ((L.length : Nat) : Int) ((p : Nat) : Int) _ (by omega) (by omega)) ⟨SM.refl _, rfl⟩)<|ec_ (λ x y hS hT hk => das (wn rfl) (hk 9 rfl) ⟨SM.refl _, rfl⟩) ?_
  exact each_nil
 intro f8 a9 w10 hS11 hC12 A
 have A : St 13 [(2, (J (((L.length : Nat) : Int) - ((p : Nat) : Int))))] a9 := A.cut _ (fc ((A.g 2 rfl).trans (hC12 10 (nb_ rfl))) fn_)
 have m15 := hb.sm hS11 hM7
 have b16 := hS11.below b0 (nt_ hB b0.size) hM6B
 have x17 := x0.sm (M := M6) hS11 (λ k hk hc => by rw [congrFun hM6 k] <;> repeat (rw [if_neg (by first | omega | omega)]))
 refine tn_<|we_<|ret1 rfl A (v := (J (((L.length : Nat) : Int) - ((p : Nat) : Int)))) rfl ?_
 exact ⟨rfl, x17.grown⟩
theorem ahead_some (Bd g p : Nat) (sv : Value) (L : List Tk) (i : Nat) (w : World) (hB : Bd ≤ w.heap.size) (hBg : Bd ≤ g) (hb : Blk w g #[sv, J ((p : Nat) : Int)] 132) (hSl : Sl tokE 4 Bd w sv L) (hp : p ≤ L.length) (hL : L.length ≤ 1000000) (yt : Tk) (hy : L[p + i]? = some yt) (hi : i ≤ 10) : Calls Tryz.prog 142 #[.pointer (some ⟨g, 0, none⟩), J ((i : Nat) : Int)] w λ e w' => e = .returned (.tuple #[.agg (tokC yt), .bool true]) ∧ Grow w w' := by
 have x0 : Mix [] w w := Mix.refl _ _
 have hyl := get_lt hy
 have b0 : Below Bd w w := Below.refl _ _
 refine enter (n := 23) Tryz.func142 rfl rfl (nb_ rfl) λ _ A=>sw_<|qs A rfl (dal (wn rfl) zero28 λ g3 w4 eg5 hG6 (m7 : Blk w4 g3 #[J 0, .string (S []), J 0, J 0] 28)=>?_)
 have ge8 : Bd ≤ g3 := eg5 ▸ (nt_ hB b0.size)
 have n9 := nn_ eg5 hb
 have gx10 : w.heap.size ≤ g3 := eg5 ▸ x0.size
 have m11 := hb.grow hG6
 have b12 := blg b0 hG6 (nt_ hB b0.size)
 have x13 := x0.grow hG6
 intro _ A
 refine Z 1 A rfl λ A=>qt_<|ws_<|sw_<|Z 2 A rfl λ A=>C A rfl ent61 (left_any Bd g p sv L w4 (nt_ hB b12.size) hBg m11 (hSl.below b12) (by omega) (by omega)) ?_
 rintro e25 w22 ⟨he24, hG23⟩
 have m26 := m11.grow hG23
 have m27 := m7.grow hG23
 have b28 := blg b12 hG23 (nt_ hB b12.size)
 have x29 := x13.grow hG23
 refine ⟨(J (((L.length : Nat) : Int) - ((p : Nat) : Int))), he24, λ _ A=>B2 A rfl (b_ge _ _ ((i : Nat) : Int) (((L.length : Nat) : Int) - ((p : Nat) : Int)) false _ (decide_eq_false (by have := get_lt hy; omega))) @λ a32 A=>qt_<|cf_ A rfl<|wk_<|tn_<|ws_ ?_⟩
 obtain ⟨b34, o35, lt36, hr37, hix38⟩ := (hSl.below b28).at hy
 have A : St 23 [(0, (.pointer (some ⟨g, 0, none⟩))), (1, (J ((i : Nat) : Int))), (4, (.pointer (some ⟨g3, 0, none⟩)))] a32 := A.sub rfl
 let M40 : Nat → Option (Array Value) := λ k => if k = g3 then some (tokC yt) else none
 have hM40 : M40 = λ k => if k = g3 then some (tokC yt) else none := rfl
 clear_value M40
 have hM41 : M40 g = none := ((congrFun hM40 g).trans (if_neg n9))
 have hM42 : M40 g3 = some (tokC yt) := ((congrFun hM40 g3).trans (if_pos rfl))
 have hM40B : ∀ k, k < Bd → M40 k = none := (λ k hk => (congrFun hM40 k).trans (if_neg (λ h => ni_ _ (Nat.lt_of_lt_of_le (h ▸ hk) ge8))))
 refine drawn (S := SM M40) (tabL [cv (.pointer (some ⟨g, 0, none⟩)), cv (.pointer (some ⟨g, 0, none⟩)), cv (.pointer (some ⟨g, 0, none⟩)), cv sv, cv (.pointer (some ⟨g, 0, none⟩)), cv (.pointer (some ⟨g, 0, none⟩)), cv (.pointer (some ⟨g, 1, none⟩)), cv (J ((p : Nat) : Int)), cv (J ((i : Nat) : Int)), cv (J ((p + i : Nat) : Int)), cv (.pointer (some ⟨b34, o35, none⟩)), cv (.agg (tokC yt)), cmr M40 g3 28 (tokC yt) hM42, cv (.bool true)]) mixedY SM.refl SM.trans SM.drew A (by kernel_rfl) ?_ ?_
 ·skip
  refine ec_ (λ x y hS hT hk => dmv (wn rfl) (hT.ev rfl) ⟨SM.refl _, rfl⟩)<|ec_ (λ x y hS hT hk => dnc (wn rfl) (hk 0 rfl) ⟨SM.refl _, rfl⟩)<|ec_ (λ x y hS hT hk => dfa (wn rfl) (hk 1 rfl) fo132_0 ⟨SM.refl _, rfl⟩)<|ec_ (λ x y hS hT hk => dld (v := sv) (wn rfl) (hk 2 rfl) one23 ((Blk.sm (w := w22.drew) m26 hS hM41).cell rfl) ⟨SM.refl _, rfl⟩)<|ec_ (λ x y hS hT hk => dmv (wn rfl) (hT.ev rfl) ⟨SM.refl _, rfl⟩)<|ec_ (λ x y hS hT hk => dnc (wn rfl) (hk 4 rfl) ⟨SM.refl _, rfl⟩)<|ec_ (λ x y hS hT hk => dfa (wn rfl) (hk 5 rfl) fo132_1 ⟨SM.refl _, rfl⟩)<|ec_ (λ x y hS hT hk => dld (v := (J ((p : Nat) : Int))) (wn rfl) (hk 6 rfl) one3 ((Blk.sm (w := w22.drew) m26 hS hM41).cell rfl) ⟨SM.refl _, rfl⟩)<|ec_ (λ x y hS hT hk => dmv (wn rfl) (hT.ev rfl) ⟨SM.refl _, rfl⟩)<|ec_ (λ x y hS hT hk => dbn (u := (J ((p : Nat) : Int))) (v := (J ((i : Nat) : Int))) (wn rfl) (hk 7 rfl) (hk 8 rfl) (b_addE (p + i) (by omega) (by omega)) ⟨SM.refl _, rfl⟩)<|ec_ (λ x y hS hT hk => dia (j := p + i) (wn rfl) (hk 3 rfl) (hk 9 rfl) slc23 hix38 (get_lt hy) ⟨SM.refl _, rfl⟩)<|ec_ (λ x y hS hT hk => dlm (cs := (tokC yt)) (wn rfl) (hk 10 rfl) row28 (range_sm (w := w22.drew) hr37 hS (Nat.lt_of_lt_of_le lt36 (nt_ hB b28.size)) (hM40B _ lt36)) ⟨SM.refl _, rfl⟩)<|ec_ (λ x y hS hT hk => d_storeRowM (fin := (tokC yt)) (w0 := w22.drew) (wn rfl) (hT.ev rfl) (hk 11 rfl) row28 hS hM42 m27 rfl rfl (λ _ h => h))<|ec_ (λ x y hS hT hk => das (wn rfl) (hT.ev rfl) ⟨SM.refl _, rfl⟩) ?_
  exact each_nil
 intro f43 a44 w45 hS46 hC47 A
 have A : St 23 [(4, (.pointer (some ⟨g3, 0, none⟩))), (5, (.bool true))] a44 := A.cut _ (fc (A.g 4 rfl) (fc ((A.g 5 rfl).trans (hC47 13 (nb_ rfl))) fn_))
 have m50 := m26.sm hS46 hM41
 have m51 : Blk w45 g3 (tokC yt) 28 := hC47 12 (nb_ rfl)
 have b52 := hS46.below b28 (nt_ hB b28.size) hM40B
 have hr53 := range_sm hr37 hS46 (Nat.lt_of_lt_of_le lt36 (nt_ hB b28.size)) (hM40B _ lt36)
 have x54 := x29.sm (M := M40) hS46 (λ k hk hc => by rw [congrFun hM40 k] <;> repeat (rw [if_neg (by first | omega | omega)]))
 refine tn_<|we_<|retCT (g := g3) (cs := (tokC yt)) (v := (.bool true)) rfl A rfl rfl m51 row28 ?_
 exact ⟨rfl, x54.grown⟩
theorem ahead_none (Bd g p : Nat) (sv : Value) (L : List Tk) (i : Nat) (w : World) (hB : Bd ≤ w.heap.size) (hBg : Bd ≤ g) (hb : Blk w g #[sv, J ((p : Nat) : Int)] 132) (hSl : Sl tokE 4 Bd w sv L) (hp : p ≤ L.length) (hL : L.length ≤ 1000000) (hn : L.length ≤ p + i) (hi : i ≤ 10) : Calls Tryz.prog 142 #[.pointer (some ⟨g, 0, none⟩), J ((i : Nat) : Int)] w λ e w' => e = .returned (.tuple #[.agg #[J 0, .string (S []), J 0, J 0], .bool false]) ∧ Grow w w' := by
 have x0 : Mix [] w w := Mix.refl _ _
 have b0 : Below Bd w w := Below.refl _ _
 refine enter (n := 23) Tryz.func142 rfl rfl (nb_ rfl) λ _ A=>sw_<|qs A rfl (dal (wn rfl) zero28 λ g3 w4 eg5 hG6 (m7 : Blk w4 g3 #[J 0, .string (S []), J 0, J 0] 28)=>?_)
 have ge8 : Bd ≤ g3 := eg5 ▸ (nt_ hB b0.size)
 have n9 := nn_ eg5 hb
 have gx10 : w.heap.size ≤ g3 := eg5 ▸ x0.size
 have m11 := hb.grow hG6
 have b12 := blg b0 hG6 (nt_ hB b0.size)
 have x13 := x0.grow hG6
 intro _ A
 refine Z 1 A rfl λ A=>qt_<|ws_<|sw_<|Z 2 A rfl λ A=>C A rfl ent61 (left_any Bd g p sv L w4 (nt_ hB b12.size) hBg m11 (hSl.below b12) (by omega) (by omega)) ?_
 rintro e25 w22 ⟨he24, hG23⟩
 have m26 := m11.grow hG23
 have m27 := m7.grow hG23
 have b28 := blg b12 hG23 (nt_ hB b12.size)
 have x29 := x13.grow hG23
 refine ⟨(J (((L.length : Nat) : Int) - ((p : Nat) : Int))), he24, λ _ A=>B2 A rfl (b_ge _ _ ((i : Nat) : Int) (((L.length : Nat) : Int) - ((p : Nat) : Int)) true _ (decide_eq_true (by omega))) λ A=>qt_<|ct_ A rfl<|sw_<|qs A rfl (dbd (cs := #[J 0, .string (S []), J 0, J 0]) (wn rfl) (bp_of bq_nil) zero28 places28 (by kernel_rfl) λ _ A=>qs A rfl (dsr (wn rfl) (A.ev rfl) (A.ev rfl) row28 m27 rfl rfl λ w36 hU37 (m38 : Blk w36 g3 #[J 0, .string (S []), J 0, J 0] 28)=>?_))⟩
 have m39 := m26.upd hU37 n9
 have b40 := hU37.below b28 ge8
 have x41 := x29.updOut hU37 gx10
 intro _ A
 refine Z 1 A rfl λ A=>qt_<|we_<|tr_<|retCT (g := g3) (cs := #[J 0, .string (S []), J 0, J 0]) (v := (.bool false)) rfl A rfl rfl m38 row28 ?_
 exact ⟨rfl, x41.grown⟩
theorem peek_some (Bd g p : Nat) (sv : Value) (L : List Tk)  (w : World) (hB : Bd ≤ w.heap.size) (hBg : Bd ≤ g) (hb : Blk w g #[sv, J ((p : Nat) : Int)] 132) (hSl : Sl tokE 4 Bd w sv L) (hp : p ≤ L.length) (hL : L.length ≤ 1000000) (yt : Tk) (hy : L[p]? = some yt) : Calls Tryz.prog 104 #[.pointer (some ⟨g, 0, none⟩)] w λ e w' => e = .returned (.tuple #[.agg (tokC yt), .bool true]) ∧ Grow w w' := by
 have x0 : Mix [] w w := Mix.refl _ _
 have hyl := get_lt hy
 have b0 : Below Bd w w := Below.refl _ _
 refine enter (n := 8) Tryz.func104 rfl rfl (nb_ rfl) λ _ A=>sw_<|qs A rfl (dal (wn rfl) zero28 λ g3 w4 eg5 hG6 (m7 : Blk w4 g3 #[J 0, .string (S []), J 0, J 0] 28)=>?_)
 have ge8 : Bd ≤ g3 := eg5 ▸ (nt_ hB b0.size)
 have n9 := nn_ eg5 hb
 have gx10 : w.heap.size ≤ g3 := eg5 ▸ x0.size
 have m11 := hb.grow hG6
 have b12 := blg b0 hG6 (nt_ hB b0.size)
 have x13 := x0.grow hG6
 intro _ A
 refine Z 1 A rfl λ A=>qt_<|sw_<|Z 1 A rfl λ A=>C A rfl ent142 (ahead_some Bd g p sv L 0 w4 (nt_ hB b12.size) hBg m11 (hSl.below b12) (by omega) (by omega) yt (by simpa using hy) (by omega)) ?_
 rintro e23 w20 ⟨he22, hG21⟩
 have m24 := m11.grow hG21
 have m25 := m7.grow hG21
 have b26 := blg b12 hG21 (nt_ hB b12.size)
 have x27 := x13.grow hG21
 refine ⟨(.tuple #[(.agg (tokC yt)), (.bool true)]), he22, λ _ A=>Z 2 A rfl λ A=>qs A rfl (dsr (wn rfl) (A.ev rfl) (A.ev rfl) row28 m25 rfl rfl λ w34 hU35 (m36 : Blk w34 g3 (tokC yt) 28)=>?_)⟩
 have m37 := m24.upd hU35 n9
 have b38 := hU35.below b26 ge8
 have x39 := x27.updOut hU35 gx10
 intro _ A
 refine Z 1 A rfl λ A=>qt_<|we_<|retCT (g := g3) (cs := (tokC yt)) (v := (.bool true)) rfl A rfl rfl m36 row28 ?_
 exact ⟨rfl, x39.grown⟩
theorem peek_none (Bd g p : Nat) (sv : Value) (L : List Tk)  (w : World) (hB : Bd ≤ w.heap.size) (hBg : Bd ≤ g) (hb : Blk w g #[sv, J ((p : Nat) : Int)] 132) (hSl : Sl tokE 4 Bd w sv L) (hp : p ≤ L.length) (hL : L.length ≤ 1000000) (hn : L.length ≤ p) : Calls Tryz.prog 104 #[.pointer (some ⟨g, 0, none⟩)] w λ e w' => e = .returned (.tuple #[.agg #[J 0, .string (S []), J 0, J 0], .bool false]) ∧ Grow w w' := by
 have x0 : Mix [] w w := Mix.refl _ _
 have b0 : Below Bd w w := Below.refl _ _
 refine enter (n := 8) Tryz.func104 rfl rfl (nb_ rfl) λ _ A=>sw_<|qs A rfl (dal (wn rfl) zero28 λ g3 w4 eg5 hG6 (m7 : Blk w4 g3 #[J 0, .string (S []), J 0, J 0] 28)=>?_)
 have ge8 : Bd ≤ g3 := eg5 ▸ (nt_ hB b0.size)
 have n9 := nn_ eg5 hb
 have gx10 : w.heap.size ≤ g3 := eg5 ▸ x0.size
 have m11 := hb.grow hG6
 have b12 := blg b0 hG6 (nt_ hB b0.size)
 have x13 := x0.grow hG6
 intro _ A
 refine Z 1 A rfl λ A=>qt_<|sw_<|Z 1 A rfl λ A=>C A rfl ent142 (ahead_none Bd g p sv L 0 w4 (nt_ hB b12.size) hBg m11 (hSl.below b12) (by omega) (by omega) (by simpa using hn) (by omega)) ?_
 rintro e23 w20 ⟨he22, hG21⟩
 have m24 := m11.grow hG21
 have m25 := m7.grow hG21
 have b26 := blg b12 hG21 (nt_ hB b12.size)
 have x27 := x13.grow hG21
 refine ⟨(.tuple #[(.agg #[J 0, .string (S []), J 0, J 0]), (.bool false)]), he22, λ _ A=>Z 2 A rfl λ A=>qs A rfl (dsr (wn rfl) (A.ev rfl) (A.ev rfl) row28 m25 rfl rfl λ w34 hU35 (m36 : Blk w34 g3 #[J 0, .string (S []), J 0, J 0] 28)=>?_)⟩
 have m37 := m24.upd hU35 n9
 have b38 := hU35.below b26 ge8
 have x39 := x27.updOut hU35 gx10
 intro _ A
 refine Z 1 A rfl λ A=>qt_<|we_<|retCT (g := g3) (cs := #[J 0, .string (S []), J 0, J 0]) (v := (.bool false)) rfl A rfl rfl m36 row28 ?_
 exact ⟨rfl, x39.grown⟩
theorem next_some (Bd g p : Nat) (sv : Value) (L : List Tk)  (w : World) (hB : Bd ≤ w.heap.size) (hBg : Bd ≤ g) (hb : Blk w g #[sv, J ((p : Nat) : Int)] 132) (hSl : Sl tokE 4 Bd w sv L) (hp : p ≤ L.length) (hL : L.length ≤ 1000000) (yt : Tk) (hy : L[p]? = some yt) : Calls Tryz.prog 144 #[.pointer (some ⟨g, 0, none⟩)] w λ e w' => e = .returned (.tuple #[.agg (tokC yt), .bool true]) ∧ Mix [g] w w' ∧ Blk w' g #[sv, J ((p + 1 : Nat) : Int)] 132 := by
 have x0 : Mix [g] w w := Mix.refl _ _
 have hyl := get_lt hy
 have b0 : Below Bd w w := Below.refl _ _
 refine enter (n := 21) Tryz.func144 rfl rfl (nb_ rfl) λ _ A=>sw_<|qs A rfl (dal (wn rfl) zero28 λ g3 w4 eg5 hG6 (m7 : Blk w4 g3 #[J 0, .string (S []), J 0, J 0] 28)=>?_)
 have ge8 : Bd ≤ g3 := eg5 ▸ (nt_ hB b0.size)
 have n9 := nn_ eg5 hb
 have gx10 : w.heap.size ≤ g3 := eg5 ▸ x0.size
 have m11 := hb.grow hG6
 have b12 := blg b0 hG6 (nt_ hB b0.size)
 have x13 := x0.grow hG6
 intro _ A
 refine Z 1 A rfl λ A=>qt_<|sw_<|Z 1 A rfl λ A=>C A rfl ent104 (peek_some Bd g p sv L w4 (nt_ hB b12.size) hBg m11 (hSl.below b12) (by omega) (by omega) yt hy) ?_
 rintro e23 w20 ⟨he22, hG21⟩
 have m24 := m11.grow hG21
 have m25 := m7.grow hG21
 have b26 := blg b12 hG21 (nt_ hB b12.size)
 have x27 := x13.grow hG21
 refine ⟨(.tuple #[(.agg (tokC yt)), (.bool true)]), he22, λ _ A=>Z 3 A rfl λ A=>qs A rfl (dal (wn rfl) zero28 λ g36 w37 eg38 hG39 (m40 : Blk w37 g36 #[J 0, .string (S []), J 0, J 0] 28)=>?_)⟩
 have ge41 : Bd ≤ g36 := eg38 ▸ (nt_ hB b26.size)
 have n42 := nn_ eg38 m24
 have n43 := nn_ eg38 m25
 have gx44 : w.heap.size ≤ g36 := eg38 ▸ x27.size
 have m45 := m24.grow hG39
 have m46 := m25.grow hG39
 have b47 := blg b26 hG39 (nt_ hB b26.size)
 have x48 := x27.grow hG39
 intro _ A
 refine qs A rfl (dsr (wn rfl) (A.ev rfl) (A.ev rfl) row28 m40 rfl rfl λ w51 hU52 (m53 : Blk w51 g36 (tokC yt) 28)=>?_)
 have m54 := m45.upd hU52 n42
 have m55 := m46.upd hU52 n43
 have b56 := hU52.below b47 ge41
 have x57 := x48.updOut hU52 gx44
 intro _ A
 refine Z 1 A rfl λ A=>qt_<|ws_<|sw_<|Z 1 A rfl λ A=>qt_<|ct_ A rfl<|wr_<|Z 2 A rfl λ A=>F1 A rfl fo132_1 λ A=>qs A rfl (dld (v := (J ((p : Nat) : Int))) (wn rfl) (A.ev rfl) one3 (m54.cell rfl) λ _ A=>?_)
 refine B2 A rfl (b_addE (p + 1) (by omega) (by omega)) λ A=>Z 1 A rfl λ A=>F1 A rfl fo132_1 λ A=>qs A rfl (dst_ (wn rfl) (A.ev rfl) (A.ev rfl) one3 rfl m54 (nb_ rfl) λ w78 hU79 (m80 : Blk w78 g #[sv, J ((p + 1 : Nat) : Int)] 132)=>?_)
 have m81 := m55.upd hU79 (Ne.symm n9)
 have m82 := m53.upd hU79 (Ne.symm n42)
 have b83 := hU79.below b56 hBg
 have x84 := x57.updIn hU79 (in1 g)
 intro _ A
 refine qt_<|sw_<|qs A rfl (dlr (cs := (tokC yt)) (wn rfl) (A.ev rfl) row28 m82 λ _ A=>Z 1 A rfl λ A=>qs A rfl (dsr (wn rfl) (A.ev rfl) (A.ev rfl) row28 m81 rfl rfl λ w91 hU92 (m93 : Blk w91 g3 (tokC yt) 28)=>?_))
 have m94 := m80.upd hU92 n9
 have m95 := m82.upd hU92 (Ne.symm n43)
 have b96 := hU92.below b83 ge8
 have x97 := x84.updOut hU92 gx10
 intro _ A
 refine Z 1 A rfl λ A=>qt_<|we_<|retCT (g := g3) (cs := (tokC yt)) (v := (.bool true)) rfl A rfl rfl m93 row28 ?_
 exact ⟨rfl, x97, m94⟩
theorem name_yes (Bd g p : Nat) (sv : Value) (L : List Tk)  (w : World) (hB : Bd ≤ w.heap.size) (hBg : Bd ≤ g) (hb : Blk w g #[sv, J ((p : Nat) : Int)] 132) (hSl : Sl tokE 4 Bd w sv L) (hp : p ≤ L.length) (hL : L.length ≤ 1000000) (yt : Tk) (hy : L[p]? = some yt) (hkd : yt.kind = 1) : Calls Tryz.prog 152 #[.pointer (some ⟨g, 0, none⟩)] w λ e w' => e = .returned (.tuple #[.string (S yt.text), .bool true]) ∧ Mix [g] w w' ∧ Blk w' g #[sv, J ((p + 1 : Nat) : Int)] 132 := by
 have x0 : Mix [g] w w := Mix.refl _ _
 have hyl := get_lt hy
 have b0 : Below Bd w w := Below.refl _ _
 refine enter (n := 27) Tryz.func152 rfl rfl (nb_ rfl) λ _ A=>sw_<|Z 2 A rfl λ A=>qt_<|sw_<|Z 1 A rfl λ A=>C A rfl ent104 (peek_some Bd g p sv L w (nt_ hB b0.size) hBg hb (hSl.below b0) (by omega) (by omega) yt hy) ?_
 rintro e12 w9 ⟨he11, hG10⟩
 have m13 := hb.grow hG10
 have b14 := blg b0 hG10 (nt_ hB b0.size)
 have x15 := x0.grow hG10
 refine ⟨(.tuple #[(.agg (tokC yt)), (.bool true)]), he11, λ _ A=>Z 3 A rfl λ A=>qs A rfl (dal (wn rfl) zero28 λ g24 w25 eg26 hG27 (m28 : Blk w25 g24 #[J 0, .string (S []), J 0, J 0] 28)=>?_)⟩
 have ge29 : Bd ≤ g24 := eg26 ▸ (nt_ hB b14.size)
 have n30 := nn_ eg26 m13
 have gx31 : w.heap.size ≤ g24 := eg26 ▸ x15.size
 have m32 := m13.grow hG27
 have b33 := blg b14 hG27 (nt_ hB b14.size)
 have x34 := x15.grow hG27
 intro _ A
 refine qs A rfl (dsr (wn rfl) (A.ev rfl) (A.ev rfl) row28 m28 rfl rfl λ w37 hU38 (m39 : Blk w37 g24 (tokC yt) 28)=>?_)
 have m40 := m32.upd hU38 n30
 have b41 := hU38.below b33 ge29
 have x42 := x34.updOut hU38 gx31
 intro _ A
 refine Z 1 A rfl λ A=>qt_<|ws_<|sw_<|Z 3 A rfl λ A=>F1 A rfl fo28_0 λ A=>qs A rfl (dld (v := (J yt.kind)) (wy rfl rfl (A.g 13 rfl)) (A.ev rfl) one3 (m39.cell rfl) λ _ A=>B2 A rfl (b_ne _ _ yt.kind 1 false _ (notof (beq_iff_eq.2 hkd))) λ A=>Z 1 A rfl λ A=>qt_<|cf_ A rfl ?_)
 refine wk_<|tn_<|sw_<|Z 2 A rfl λ A=>F1 A rfl fo132_1 λ A=>qs A rfl (dld (v := (J ((p : Nat) : Int))) (wn rfl) (A.ev rfl) one3 (m40.cell rfl) λ _ A=>B2 A rfl (b_addE (p + 1) (by omega) (by omega)) λ A=>Z 1 A rfl λ A=>F1 A rfl fo132_1 λ A=>qs A rfl (dst_ (wn rfl) (A.ev rfl) (A.ev rfl) one3 rfl m40 (nb_ rfl) λ w75 hU76 (m77 : Blk w75 g #[sv, J ((p + 1 : Nat) : Int)] 132)=>?_))
 have m78 := m39.upd hU76 (Ne.symm n30)
 have b79 := hU76.below b41 hBg
 have x80 := x42.updIn hU76 (in1 g)
 intro _ A
 refine qt_<|sw_<|F1 A rfl fo28_1 λ A=>qs A rfl (dld (v := (.string (S yt.text))) (wn rfl) (A.ev rfl) one9 (m78.cell rfl) λ _ A=>Z 2 A rfl λ A=>qt_<|we_<|ret2 (x := (.string (S yt.text))) (y := (.bool true)) rfl A rfl rfl ?_)
 exact ⟨rfl, x80, m77⟩
theorem name_no (Bd g p : Nat) (sv : Value) (L : List Tk)  (w : World) (hB : Bd ≤ w.heap.size) (hBg : Bd ≤ g) (hb : Blk w g #[sv, J ((p : Nat) : Int)] 132) (hSl : Sl tokE 4 Bd w sv L) (hp : p ≤ L.length) (hL : L.length ≤ 1000000) (yt : Tk) (hy : L[p]? = some yt) (hkd : yt.kind ≠ 1) : Calls Tryz.prog 152 #[.pointer (some ⟨g, 0, none⟩)] w λ e w' => e = .returned (.tuple #[.string (S []), .bool false]) ∧ Grow w w' := by
 have x0 : Mix [] w w := Mix.refl _ _
 have hyl := get_lt hy
 have b0 : Below Bd w w := Below.refl _ _
 refine enter (n := 27) Tryz.func152 rfl rfl (nb_ rfl) λ _ A=>sw_<|Z 2 A rfl λ A=>qt_<|sw_<|Z 1 A rfl λ A=>C A rfl ent104 (peek_some Bd g p sv L w (nt_ hB b0.size) hBg hb (hSl.below b0) (by omega) (by omega) yt hy) ?_
 rintro e12 w9 ⟨he11, hG10⟩
 have m13 := hb.grow hG10
 have b14 := blg b0 hG10 (nt_ hB b0.size)
 have x15 := x0.grow hG10
 refine ⟨(.tuple #[(.agg (tokC yt)), (.bool true)]), he11, λ _ A=>Z 3 A rfl λ A=>qs A rfl (dal (wn rfl) zero28 λ g24 w25 eg26 hG27 (m28 : Blk w25 g24 #[J 0, .string (S []), J 0, J 0] 28)=>?_)⟩
 have ge29 : Bd ≤ g24 := eg26 ▸ (nt_ hB b14.size)
 have n30 := nn_ eg26 m13
 have gx31 : w.heap.size ≤ g24 := eg26 ▸ x15.size
 have m32 := m13.grow hG27
 have b33 := blg b14 hG27 (nt_ hB b14.size)
 have x34 := x15.grow hG27
 intro _ A
 refine qs A rfl (dsr (wn rfl) (A.ev rfl) (A.ev rfl) row28 m28 rfl rfl λ w37 hU38 (m39 : Blk w37 g24 (tokC yt) 28)=>?_)
 have m40 := m32.upd hU38 n30
 have b41 := hU38.below b33 ge29
 have x42 := x34.updOut hU38 gx31
 intro _ A
 refine Z 1 A rfl λ A=>qt_<|ws_<|sw_<|Z 3 A rfl λ A=>F1 A rfl fo28_0 λ A=>qs A rfl (dld (v := (J yt.kind)) (wy rfl rfl (A.g 13 rfl)) (A.ev rfl) one3 (m39.cell rfl) λ _ A=>B2 A rfl (b_ne _ _ yt.kind 1 true _ (notof (beq_eq_false_iff_ne.2 (by omega)))) λ A=>Z 1 A rfl λ A=>qt_<|ct_ A rfl ?_)
 refine sw_<|Z 2 A rfl λ A=>qt_<|we_<|tr_<|ret2 (x := (.string (S []))) (y := (.bool false)) rfl A rfl rfl ?_
 exact ⟨rfl, x42.grown⟩
theorem name_none (Bd g p : Nat) (sv : Value) (L : List Tk)  (w : World) (hB : Bd ≤ w.heap.size) (hBg : Bd ≤ g) (hb : Blk w g #[sv, J ((p : Nat) : Int)] 132) (hSl : Sl tokE 4 Bd w sv L) (hp : p ≤ L.length) (hL : L.length ≤ 1000000) (hn : L.length ≤ p) : Calls Tryz.prog 152 #[.pointer (some ⟨g, 0, none⟩)] w λ e w' => e = .returned (.tuple #[.string (S []), .bool false]) ∧ Grow w w' := by
 have x0 : Mix [] w w := Mix.refl _ _
 have b0 : Below Bd w w := Below.refl _ _
 refine enter (n := 27) Tryz.func152 rfl rfl (nb_ rfl) λ _ A=>sw_<|Z 2 A rfl λ A=>qt_<|sw_<|Z 1 A rfl λ A=>C A rfl ent104 (peek_none Bd g p sv L w (nt_ hB b0.size) hBg hb (hSl.below b0) (by omega) (by omega) hn) ?_
 rintro e12 w9 ⟨he11, hG10⟩
 have m13 := hb.grow hG10
 have b14 := blg b0 hG10 (nt_ hB b0.size)
 have x15 := x0.grow hG10
 refine ⟨(.tuple #[(.agg #[J 0, .string (S []), J 0, J 0]), (.bool false)]), he11, λ _ A=>Z 3 A rfl λ A=>qs A rfl (dal (wn rfl) zero28 λ g24 w25 eg26 hG27 (m28 : Blk w25 g24 #[J 0, .string (S []), J 0, J 0] 28)=>?_)⟩
 have ge29 : Bd ≤ g24 := eg26 ▸ (nt_ hB b14.size)
 have n30 := nn_ eg26 m13
 have gx31 : w.heap.size ≤ g24 := eg26 ▸ x15.size
 have m32 := m13.grow hG27
 have b33 := blg b14 hG27 (nt_ hB b14.size)
 have x34 := x15.grow hG27
 intro _ A
 refine qs A rfl (dsr (wn rfl) (A.ev rfl) (A.ev rfl) row28 m28 rfl rfl λ w37 hU38 (m39 : Blk w37 g24 #[J 0, .string (S []), J 0, J 0] 28)=>?_)
 have m40 := m32.upd hU38 n30
 have b41 := hU38.below b33 ge29
 have x42 := x34.updOut hU38 gx31
 intro _ A
 refine Z 1 A rfl λ A=>qt_<|ws_<|sw_<|Z 7 A rfl λ A=>qt_<|ct_ A rfl<|sw_<|Z 2 A rfl λ A=>qe_ ?_
 refine tn_<|we_<|tr_<|ret2 (x := (.string (S []))) (y := (.bool false)) rfl A rfl rfl ?_
 exact ⟨rfl, x42.grown⟩
theorem na_yes (Bd g p : Nat) (sv : Value) (L : List Tk) (i : Nat) (w : World) (hB : Bd ≤ w.heap.size) (hBg : Bd ≤ g) (hb : Blk w g #[sv, J ((p : Nat) : Int)] 132) (hSl : Sl tokE 4 Bd w sv L) (hp : p ≤ L.length) (hL : L.length ≤ 1000000) (yt : Tk) (hy : L[p + i]? = some yt) (hkd : yt.kind = 2) (hi : i ≤ 10) : Calls Tryz.prog 199 #[.pointer (some ⟨g, 0, none⟩), J ((i : Nat) : Int)] w λ e w' => e = .returned (.tuple #[J yt.n, .bool true]) ∧ Mix [g] w w' ∧ Blk w' g #[sv, J ((p + (i + 1) : Nat) : Int)] 132 := by
 have x0 : Mix [g] w w := Mix.refl _ _
 have hyl := get_lt hy
 have b0 : Below Bd w w := Below.refl _ _
 refine enter (n := 32) Tryz.func199 rfl rfl (nb_ rfl) λ _ A=>sw_<|Z 2 A rfl λ A=>qt_<|sw_<|Z 2 A rfl λ A=>C A rfl ent142 (ahead_some Bd g p sv L i w (nt_ hB b0.size) hBg hb (hSl.below b0) (by omega) (by omega) yt hy (by omega)) ?_
 rintro e14 w11 ⟨he13, hG12⟩
 have m15 := hb.grow hG12
 have b16 := blg b0 hG12 (nt_ hB b0.size)
 have x17 := x0.grow hG12
 refine ⟨(.tuple #[(.agg (tokC yt)), (.bool true)]), he13, λ _ A=>Z 3 A rfl λ A=>qs A rfl (dal (wn rfl) zero28 λ g26 w27 eg28 hG29 (m30 : Blk w27 g26 #[J 0, .string (S []), J 0, J 0] 28)=>?_)⟩
 have ge31 : Bd ≤ g26 := eg28 ▸ (nt_ hB b16.size)
 have n32 := nn_ eg28 m15
 have gx33 : w.heap.size ≤ g26 := eg28 ▸ x17.size
 have m34 := m15.grow hG29
 have b35 := blg b16 hG29 (nt_ hB b16.size)
 have x36 := x17.grow hG29
 intro _ A
 refine qs A rfl (dsr (wn rfl) (A.ev rfl) (A.ev rfl) row28 m30 rfl rfl λ w39 hU40 (m41 : Blk w39 g26 (tokC yt) 28)=>?_)
 have m42 := m34.upd hU40 n32
 have b43 := hU40.below b35 ge31
 have x44 := x36.updOut hU40 gx33
 intro _ A
 refine Z 1 A rfl λ A=>qt_<|ws_<|sw_<|Z 3 A rfl λ A=>F1 A rfl fo28_0 λ A=>qs A rfl (dld (v := (J yt.kind)) (wy rfl rfl (A.g 16 rfl)) (A.ev rfl) one3 (m41.cell rfl) λ _ A=>B2 A rfl (b_ne _ _ yt.kind 2 false _ (notof (beq_iff_eq.2 hkd))) λ A=>Z 1 A rfl λ A=>qt_<|cf_ A rfl ?_)
 refine wk_<|tn_<|sw_<|Z 2 A rfl λ A=>F1 A rfl fo132_1 λ A=>qs A rfl (dld (v := (J ((p : Nat) : Int))) (wn rfl) (A.ev rfl) one3 (m42.cell rfl) λ _ A=>Z 1 A rfl λ A=>B2 A rfl (b_addE (i + 1) (by omega) (by omega)) λ A=>B2 A rfl (b_addE (p + i + 1) (by omega) (by omega)) λ A=>Z 1 A rfl λ A=>F1 A rfl fo132_1 λ A=>qs A rfl (dst_ (wn rfl) (A.ev rfl) (A.ev rfl) one3 rfl m42 (nb_ rfl) λ w81 hU82 (m83 : Blk w81 g #[sv, J ((p + i + 1 : Nat) : Int)] 132)=>?_))
 have m84 := m41.upd hU82 (Ne.symm n32)
 have b85 := hU82.below b43 hBg
 have x86 := x44.updIn hU82 (in1 g)
 intro _ A
 refine qt_<|sw_<|F1 A rfl fo28_2 λ A=>qs A rfl (dld (v := (J yt.n)) (wn rfl) (A.ev rfl) one3 (m84.cell rfl) λ _ A=>Z 2 A rfl λ A=>qt_<|we_<|ret2 (x := (J yt.n)) (y := (.bool true)) rfl A rfl rfl ?_)
 exact ⟨rfl, x86, m83⟩
theorem na_no (Bd g p : Nat) (sv : Value) (L : List Tk) (i : Nat) (w : World) (hB : Bd ≤ w.heap.size) (hBg : Bd ≤ g) (hb : Blk w g #[sv, J ((p : Nat) : Int)] 132) (hSl : Sl tokE 4 Bd w sv L) (hp : p ≤ L.length) (hL : L.length ≤ 1000000) (yt : Tk) (hy : L[p + i]? = some yt) (hkd : yt.kind ≠ 2) (hi : i ≤ 10) : Calls Tryz.prog 199 #[.pointer (some ⟨g, 0, none⟩), J ((i : Nat) : Int)] w λ e w' => e = .returned (.tuple #[J 0, .bool false]) ∧ Grow w w' := by
 have x0 : Mix [] w w := Mix.refl _ _
 have hyl := get_lt hy
 have b0 : Below Bd w w := Below.refl _ _
 refine enter (n := 32) Tryz.func199 rfl rfl (nb_ rfl) λ _ A=>sw_<|Z 2 A rfl λ A=>qt_<|sw_<|Z 2 A rfl λ A=>C A rfl ent142 (ahead_some Bd g p sv L i w (nt_ hB b0.size) hBg hb (hSl.below b0) (by omega) (by omega) yt hy (by omega)) ?_
 rintro e14 w11 ⟨he13, hG12⟩
 have m15 := hb.grow hG12
 have b16 := blg b0 hG12 (nt_ hB b0.size)
 have x17 := x0.grow hG12
 refine ⟨(.tuple #[(.agg (tokC yt)), (.bool true)]), he13, λ _ A=>Z 3 A rfl λ A=>qs A rfl (dal (wn rfl) zero28 λ g26 w27 eg28 hG29 (m30 : Blk w27 g26 #[J 0, .string (S []), J 0, J 0] 28)=>?_)⟩
 have ge31 : Bd ≤ g26 := eg28 ▸ (nt_ hB b16.size)
 have n32 := nn_ eg28 m15
 have gx33 : w.heap.size ≤ g26 := eg28 ▸ x17.size
 have m34 := m15.grow hG29
 have b35 := blg b16 hG29 (nt_ hB b16.size)
 have x36 := x17.grow hG29
 intro _ A
 refine qs A rfl (dsr (wn rfl) (A.ev rfl) (A.ev rfl) row28 m30 rfl rfl λ w39 hU40 (m41 : Blk w39 g26 (tokC yt) 28)=>?_)
 have m42 := m34.upd hU40 n32
 have b43 := hU40.below b35 ge31
 have x44 := x36.updOut hU40 gx33
 intro _ A
 refine Z 1 A rfl λ A=>qt_<|ws_<|sw_<|Z 3 A rfl λ A=>F1 A rfl fo28_0 λ A=>qs A rfl (dld (v := (J yt.kind)) (wy rfl rfl (A.g 16 rfl)) (A.ev rfl) one3 (m41.cell rfl) λ _ A=>B2 A rfl (b_ne _ _ yt.kind 2 true _ (notof (beq_eq_false_iff_ne.2 (by omega)))) λ A=>Z 1 A rfl λ A=>qt_<|ct_ A rfl ?_)
 refine sw_<|Z 2 A rfl λ A=>qt_<|we_<|tr_<|ret2 (x := (J 0)) (y := (.bool false)) rfl A rfl rfl ?_
 exact ⟨rfl, x44.grown⟩
theorem na_none (Bd g p : Nat) (sv : Value) (L : List Tk) (i : Nat) (w : World) (hB : Bd ≤ w.heap.size) (hBg : Bd ≤ g) (hb : Blk w g #[sv, J ((p : Nat) : Int)] 132) (hSl : Sl tokE 4 Bd w sv L) (hp : p ≤ L.length) (hL : L.length ≤ 1000000) (hn : L.length ≤ p + i) (hi : i ≤ 10) : Calls Tryz.prog 199 #[.pointer (some ⟨g, 0, none⟩), J ((i : Nat) : Int)] w λ e w' => e = .returned (.tuple #[J 0, .bool false]) ∧ Grow w w' := by
 have x0 : Mix [] w w := Mix.refl _ _
 have b0 : Below Bd w w := Below.refl _ _
 refine enter (n := 32) Tryz.func199 rfl rfl (nb_ rfl) λ _ A=>sw_<|Z 2 A rfl λ A=>qt_<|sw_<|Z 2 A rfl λ A=>C A rfl ent142 (ahead_none Bd g p sv L i w (nt_ hB b0.size) hBg hb (hSl.below b0) (by omega) (by omega) hn (by omega)) ?_
 rintro e14 w11 ⟨he13, hG12⟩
 have m15 := hb.grow hG12
 have b16 := blg b0 hG12 (nt_ hB b0.size)
 have x17 := x0.grow hG12
 refine ⟨(.tuple #[(.agg #[J 0, .string (S []), J 0, J 0]), (.bool false)]), he13, λ _ A=>Z 3 A rfl λ A=>qs A rfl (dal (wn rfl) zero28 λ g26 w27 eg28 hG29 (m30 : Blk w27 g26 #[J 0, .string (S []), J 0, J 0] 28)=>?_)⟩
 have ge31 : Bd ≤ g26 := eg28 ▸ (nt_ hB b16.size)
 have n32 := nn_ eg28 m15
 have gx33 : w.heap.size ≤ g26 := eg28 ▸ x17.size
 have m34 := m15.grow hG29
 have b35 := blg b16 hG29 (nt_ hB b16.size)
 have x36 := x17.grow hG29
 intro _ A
 refine qs A rfl (dsr (wn rfl) (A.ev rfl) (A.ev rfl) row28 m30 rfl rfl λ w39 hU40 (m41 : Blk w39 g26 #[J 0, .string (S []), J 0, J 0] 28)=>?_)
 have m42 := m34.upd hU40 n32
 have b43 := hU40.below b35 ge31
 have x44 := x36.updOut hU40 gx33
 intro _ A
 refine Z 1 A rfl λ A=>qt_<|ws_<|sw_<|Z 7 A rfl λ A=>qt_<|ct_ A rfl<|sw_<|Z 2 A rfl λ A=>qe_ ?_
 refine tn_<|we_<|tr_<|ret2 (x := (J 0)) (y := (.bool false)) rfl A rfl rfl ?_
 exact ⟨rfl, x44.grown⟩
end Go.Proofs.YtjkbjjlfijhbdaaGreatDoor
