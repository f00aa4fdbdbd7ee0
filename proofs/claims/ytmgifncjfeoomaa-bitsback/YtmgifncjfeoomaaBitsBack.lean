/- BitsBack returns true for every v, x, off, size, other and index, and leaves its arguments as they were: what is laid in is taken out, its low bytes; bytes beside it stay; an access lies within its location, at a multiple of its size; no condition. -/
import Derived.Test.YtmgifncjfeoomaaRows
import Derived.Test.YtmgifncjfeoomaaLists
import Derived.Test.YtmgifncjfeoomaaMatc
import Derived.WalkKit
import Derived.ProofKit
import Derived.OpenShut
import Derived.ShutString
namespace Go.Proofs.Ytmgifncjfeoomaa.bitsBack
open Go.ChangeShapes Go.WideShapes Go.ChangeAt Go.RowKit
open Go.ChangeMaps (open_string shut_string)
set_option linter.unusedVariables false

theorem own : ownKnob Try.prog.godebug = none := by kernel_rfl

theorem grown_drewN (w : World) (q : Nat) : Grown w (w.drewN q) := Grown.refl w
theorem grownN {w w' : World} (h : Grown w w') (q : Nat) : Grown w (w'.drewN q) := h
theorem place_int (off ix : BitVec 64) (a i n : Int) (ha : a = I off) (hi : i = I ix) (w : World) : Calls Try.prog 12 #[.int .i64 a, .int .i64 i, .int .i64 n] w fun e w' => e = .returned (.int .i64 (placeR off ix n)) ∧ w' = w := by
  rw [ha, hi]; exact place_all off ix n w
set_option maxHeartbeats 400000 in
theorem walk_no (v x : BitVec 64) (off n other index : Int) (w : World) (h : fitsB off n = false) :
    Calls Try.prog 7 #[.int .i64 (I v), .int .i64 (I x), .int .i64 off, .int .i64 n, .int .i64 other, .int .i64 index] w fun e w' => e = .returned (.bool true) ∧ Grown w w' := by
  have hm := maskR_no h
  have hp := putR_no v x h
  have hg : I (getR v off n) = 0 := by rw [getR_no v h, I_zero]
  clear h
  go_enter Try.func7, Try.ntmps7
  go_wp2_with (go_at_call 9; refine (able_any _).mono ?_; rintro e w' ⟨rfl, q, rfl⟩)
  refine (mask_all _ _ _).mono ?_
  rintro e w' ⟨rfl, rfl⟩
  go_wp2_with fail
  refine (put_all _ _ _ _ _).mono ?_
  rintro e w' ⟨rfl, q1, rfl⟩
  go_wp2_with fail
  refine (get_all _ _ _ _).mono ?_
  rintro e w' ⟨rfl, q2, rfl⟩
  go_wp2_with fail
  go_ret
  exact ⟨rfl, grown_drewN _ _⟩
set_option maxHeartbeats 1000000 in
theorem walk_yes (v x ix mb p g ab c : BitVec 64) (o k a : Nat) (other : Int) (w : World) (ho : o ≤ 8) (hk1 : 1 ≤ k) (hk8 : k ≤ 8) (ha8 : a ≤ 8)
    (hmask : maskR o k = I mb) (hmne : (I mb == 0) = false) (hput : putR v o k x = p) (hget1 : getR p o k = g) (hget2 : getR x 0 k = g)
    (hblend : blendR p v [mb] = v) (hcount : countB mb 8 = k)
    (hplace : placeR (BitVec.ofNat 64 o) ix k = (a : Int)) (hself : placeR (BitVec.ofNat 64 o) 0#64 k = (o : Int)) (e7 : bits .and .i64 (I ix) 7 = I c) (hfold : placeR (BitVec.ofNat 64 o) c k = (a : Int))
    (hat : maskR a k = I ab) (hane : (I ab != 0) = true) (hrem : (((a : Int) % (k : Int)) == 0) = true)
    (hother : maskR other k = 0 ∨ maskR other k = I mb ∨ ∃ nb gb, maskR other k = I nb ∧ (I nb != 0) = true ∧ (I nb != I mb) = true ∧ I (meetR [nb, mb]) = 0 ∧ getR p other k = gb ∧ getR v other k = gb) :
    Calls Try.prog 7 #[.int .i64 (I v), .int .i64 (I x), .int .i64 o, .int .i64 k, .int .i64 other, .int .i64 (I ix)] w fun e w' => e = .returned (.bool true) ∧ Grown w w' := by
  have HO : Hid ((o : Int) = I (BitVec.ofNat 64 o)) := (I_nat o (by omega)).symm
  have HQ : Hid (maskR other k = 0 ∨ maskR other k = I mb ∨ ∃ nb gb, maskR other k = I nb ∧ (I nb != 0) = true ∧ (I nb != I mb) = true ∧ I (meetR [nb, mb]) = 0 ∧ getR p other k = gb ∧ getR v other k = gb) := hother
  clear hother
  go_enter Try.func7, Try.ntmps7
  go_wp2_with (go_at_call 9; refine (able_any _).mono ?_; rintro e w' ⟨rfl, q, rfl⟩)
  refine (mask_all _ _ _).mono ?_
  rintro e w' ⟨rfl, rfl⟩
  go_wp2_with fail
  refine (put_all _ _ _ _ _).mono ?_
  rintro e w' ⟨rfl, q1, rfl⟩
  go_wp2_with fail
  refine (get_all _ _ _ _).mono ?_
  rintro e w' ⟨rfl, q2, rfl⟩
  go_wp2_with fail
  refine (get_all _ _ _ _).mono ?_
  rintro e w' ⟨rfl, q3, rfl⟩
  go_wp2_with fail
  refine (blend1 _ _ _ _ _ (by simp)).mono ?_
  rintro e w' ⟨rfl, rfl⟩
  go_wp2_with fail
  refine (count_any _ _).mono ?_
  rintro e w' ⟨rfl, rfl⟩
  go_wp2_with fail
  rcases HQ.out with h0 | h0 | ⟨nb, gb, h0, h1, h2, h3, h4, h5⟩
  · clear HQ
    refine (mask_all _ _ _).mono ?_
    rintro e w' ⟨rfl, rfl⟩
    go_wp2_with fail
    refine (place_int (BitVec.ofNat 64 o) ix _ _ _ HO.out rfl _).mono ?_
    rintro e w' ⟨rfl, rfl⟩
    go_wp2_with fail
    refine (mask_all _ _ _).mono ?_
    rintro e w' ⟨rfl, rfl⟩
    go_wp2_with fail
    refine (place_int (BitVec.ofNat 64 o) 0#64 _ _ _ HO.out I_zero.symm _).mono ?_
    rintro e w' ⟨rfl, rfl⟩
    go_wp2_with fail
    refine (place_int (BitVec.ofNat 64 o) ix _ _ _ HO.out rfl _).mono ?_
    rintro e w' ⟨rfl, rfl⟩
    go_wp2_with fail
    refine (place_int (BitVec.ofNat 64 o) c _ _ _ HO.out rfl _).mono ?_
    rintro e w' ⟨rfl, rfl⟩
    go_wp2_with fail
    go_ret
    exact ⟨rfl, by repeat (first | exact grown_drewN _ _ | exact Grown.refl _ | apply grownN | apply Grown.alloc)⟩
  · clear HQ
    have hm2 : (I mb != 0) = true := by simp [bne, hmne]
    refine (mask_all _ _ _).mono ?_
    rintro e w' ⟨rfl, rfl⟩
    go_wp2_with fail
    refine (place_int (BitVec.ofNat 64 o) ix _ _ _ HO.out rfl _).mono ?_
    rintro e w' ⟨rfl, rfl⟩
    go_wp2_with fail
    refine (mask_all _ _ _).mono ?_
    rintro e w' ⟨rfl, rfl⟩
    go_wp2_with fail
    refine (place_int (BitVec.ofNat 64 o) 0#64 _ _ _ HO.out I_zero.symm _).mono ?_
    rintro e w' ⟨rfl, rfl⟩
    go_wp2_with fail
    refine (place_int (BitVec.ofNat 64 o) ix _ _ _ HO.out rfl _).mono ?_
    rintro e w' ⟨rfl, rfl⟩
    go_wp2_with fail
    refine (place_int (BitVec.ofNat 64 o) c _ _ _ HO.out rfl _).mono ?_
    rintro e w' ⟨rfl, rfl⟩
    go_wp2_with fail
    go_ret
    exact ⟨rfl, by repeat (first | exact grown_drewN _ _ | exact Grown.refl _ | apply grownN | apply Grown.alloc)⟩
  · clear HQ
    refine (mask_all _ _ _).mono ?_
    rintro e w' ⟨rfl, rfl⟩
    go_wp2_with fail
    refine (meet2 _ _ _ _ (by simp)).mono ?_
    rintro e w' ⟨rfl, rfl⟩
    go_wp2_with fail
    refine (get_all _ _ _ _).mono ?_
    rintro e w' ⟨rfl, q4, rfl⟩
    go_wp2_with fail
    refine (get_all _ _ _ _).mono ?_
    rintro e w' ⟨rfl, q5, rfl⟩
    go_wp2_with fail
    refine (place_int (BitVec.ofNat 64 o) ix _ _ _ HO.out rfl _).mono ?_
    rintro e w' ⟨rfl, rfl⟩
    go_wp2_with fail
    refine (mask_all _ _ _).mono ?_
    rintro e w' ⟨rfl, rfl⟩
    go_wp2_with fail
    refine (place_int (BitVec.ofNat 64 o) 0#64 _ _ _ HO.out I_zero.symm _).mono ?_
    rintro e w' ⟨rfl, rfl⟩
    go_wp2_with fail
    refine (place_int (BitVec.ofNat 64 o) ix _ _ _ HO.out rfl _).mono ?_
    rintro e w' ⟨rfl, rfl⟩
    go_wp2_with fail
    refine (place_int (BitVec.ofNat 64 o) c _ _ _ HO.out rfl _).mono ?_
    rintro e w' ⟨rfl, rfl⟩
    go_wp2_with fail
    go_ret
    exact ⟨rfl, by repeat (first | exact grown_drewN _ _ | exact Grown.refl _ | apply grownN | apply Grown.alloc)⟩

theorem walk (a0 : Int) (a1 : Int) (a2 : Int) (a3 : Int) (a4 : Int) (a5 : Int) (w0 : (Lit.int .i64 a0).wf = true) (w1 : (Lit.int .i64 a1).wf = true) (w2 : (Lit.int .i64 a2).wf = true) (w3 : (Lit.int .i64 a3).wf = true) (w4 : (Lit.int .i64 a4).wf = true) (w5 : (Lit.int .i64 a5).wf = true) (w : World) :
    Calls Try.prog 7 #[.int .i64 a0, .int .i64 a1, .int .i64 a2, .int .i64 a3, .int .i64 a4, .int .i64 a5] w fun e w' => e = .returned (.bool true) ∧ Grown w w' := by
  obtain ⟨b0, rfl⟩ : ∃ b, a0 = I b := ⟨B a0, (I_B w0).symm⟩
  obtain ⟨b1, rfl⟩ : ∃ b, a1 = I b := ⟨B a1, (I_B w1).symm⟩
  obtain ⟨b5, rfl⟩ : ∃ b, a5 = I b := ⟨B a5, (I_B w5).symm⟩
  cases h : fitsB a2 a3
  · exact walk_no b0 b1 a2 a3 a4 (I b5) w h
  · obtain ⟨o, k, rfl, rfl, hk, hok, hmod⟩ := fits_yes h
    have hk1 : 1 ≤ k := by omega
    have hz : sizeB (k : Int) = true := fits_sizeB h
    have hfit0 : fitsB 0 k = true := by
      unfold fitsB; apply decide_eq_true; refine ⟨by omega, by omega, by omega, by simp⟩
    obtain ⟨a, ha, hak, hamod⟩ := place_at (BitVec.ofNat 64 o + b5) k hk
    have hfita : fitsB a k = true := by
      unfold fitsB; apply decide_eq_true; refine ⟨by omega, by omega, by omega, by omega⟩
    refine walk_yes b0 b1 b5 (maskB o k) (putB b0 o k b1) (getB b1 0 k) (maskB a k) (b5 &&& 7#64) o k a a4 w (by omega) hk1 (by omega) (by omega) (maskR_yes h) ?_ (putR_yes b0 b1 h) ?_ ?_ ?_ ?_ ?_ ?_ ?_ ?_ (maskR_yes hfita) ?_ ?_ ?_
    · have := mask_ne o (by omega) k (by omega) hk1 hok; simpa using this
    · rw [getR_yes _ h, get_put _ _ _ _ hok]
    · have e := getR_yes b1 (o := 0) (k := k) hfit0; exact e
    · unfold blendR; exact blend_put b0 b1 o k hok _ (fun j hj => union1_bits _ j hj)
    · exact count_mask o (by omega) k (by omega) hok
    · unfold placeR; rw [if_pos hz]; exact ha
    · unfold placeR; rw [if_pos hz]; exact place_self o k hok hk1 hmod
    · rw [← I_7, bits_and]
    · unfold placeR; rw [if_pos hz, place_fold]; exact ha
    · have := mask_ne a (by omega) k (by omega) hk1 hak; simpa using this
    · have e : (a : Int) % (k : Int) = 0 := by omega
      simp [e]
    · cases h4 : fitsB a4 k
      · exact .inl (maskR_no h4)
      · obtain ⟨o2, k2, rfl, hkk, hk2, hok2, hmod2⟩ := fits_yes h4
        obtain rfl : k2 = k := by omega
        by_cases he : o2 = o
        · subst he; exact .inr (.inl (maskR_yes h))
        · have hd := apart o o2 k2 hk hok hok2 hmod hmod2 he
          refine .inr (.inr ⟨maskB o2 k2, getB b0 o2 k2, maskR_yes h4, ?_, ?_, ?_, ?_, getR_yes b0 h4⟩)
          · have := mask_ne o2 (by omega) k2 (by omega) hk1 hok2; simpa using this
          · have := mask_apart o k2 o2 hk1 hok hok2 hd
            simp only [bne_iff_ne, ne_eq]; intro hh; exact this (I_inj hh)
          · have e := meet_apart o k2 o2 hok hok2 hd
            unfold meetR meetTo
            simp only [List.length_cons, List.length_nil, List.take, List.foldl]
            rw [e, I_zero]
          · rw [getR_yes _ h4]; exact get_beside b0 b1 o o2 k2 hok hok2 hd

set_option maxRecDepth 100000 in
theorem lifted (os : Os) (started : os.Started) (H : Type) (enc : TypeId × Value → H) :
    ReturnsInHanded {} Try.checked os 7 .any (Rows.bitsBackSpec.pre6 enc Try.prog Try.f7 Rows.bitsBackRow.domain false) (Rows.bitsBackSpec.post enc Try.prog Try.f7 false true false false) := by
  refine returnsInHanded_of_change (C := Try.checked) own started (by kernel_rfl) Try.func7
    (ChangeSpec.witness6 (enc := enc) (C := Try.checked) false ⟨#[], #[.int .i64 0, .int .i64 0, .int .i64 0, .int .i64 0, .int .i64 0, .int .i64 0], []⟩ 8 (by kernel_rfl) (by kernel_rfl) (by kernel_rfl) (by kernel_rfl)) ?_
  intro W base args ds gs before hval0 hW hcnd _
  have hval : ∀ (j : Nat) t v, Try.f7.params[j]? = some t → args[j]? = some v → Value.okWide Try.prog W .any base t v := hval0
  have hW' := hW
  obtain ⟨p, q, hA0, hV, rfl, hfz, hnd⟩ := hW
  have hA : DataW.TrodAll enc Try.prog W 0 (fun _ => true) true Try.f7.params.toList args.toList ds p := hA0
  rw [Try.params7] at hA hval
  obtain ⟨v0, vs0, d0, ds0, p0, q0, hargs, rfl, rfl, h0, r0⟩ := trodAll_cons hA
  obtain ⟨v1, vs1, d1, ds1, p1, q1, rfl, rfl, rfl, h1, r1⟩ := trodAll_cons r0
  obtain ⟨v2, vs2, d2, ds2, p2, q2, rfl, rfl, rfl, h2, r2⟩ := trodAll_cons r1
  obtain ⟨v3, vs3, d3, ds3, p3, q3, rfl, rfl, rfl, h3, r3⟩ := trodAll_cons r2
  obtain ⟨v4, vs4, d4, ds4, p4, q4, rfl, rfl, rfl, h4, r4⟩ := trodAll_cons r3
  obtain ⟨v5, vs5, d5, ds5, p5, q5, rfl, rfl, rfl, h5, r5⟩ := trodAll_cons r4
  obtain ⟨rfl, rfl, rfl⟩ := trodAll_nil r5
  obtain rfl : args = #[v0, v1, v2, v3, v4, v5] := by cases args; simp_all
  obtain ⟨rfl, rfl⟩ := trodVars_none hV
  obtain ⟨a0, rfl, rfl, rfl, w0⟩ := open_int Try.underlying3 (hval 0 3 v0 rfl rfl) h0
  obtain ⟨a1, rfl, rfl, rfl, w1⟩ := open_int Try.underlying3 (hval 1 3 v1 rfl rfl) h1
  obtain ⟨a2, rfl, rfl, rfl, w2⟩ := open_int Try.underlying3 (hval 2 3 v2 rfl rfl) h2
  obtain ⟨a3, rfl, rfl, rfl, w3⟩ := open_int Try.underlying3 (hval 3 3 v3 rfl rfl) h3
  obtain ⟨a4, rfl, rfl, rfl, w4⟩ := open_int Try.underlying3 (hval 4 3 v4 rfl rfl) h4
  obtain ⟨a5, rfl, rfl, rfl, w5⟩ := open_int Try.underlying3 (hval 5 3 v5 rfl rfl) h5
  clear hA0 hval0
  simp only [List.append_nil] at hW'
  refine (walk a0 a1 a2 a3 a4 a5 w0 w1 w2 w3 w4 w5 W).mono fun e W' ⟨he, hg⟩ => ?_
  subst he
  exact ⟨_, rfl, post_of_same (pa := []) (pv := []) hW' (fun _ _ _ => (trodAll_cons_mk (shut_bool Try.underlying4 _) trodAll_mk0)) (fun sp _ => (trodAll_cons_mk (shut_int Try.underlying3 w0) (trodAll_cons_mk (shut_int Try.underlying3 w1) (trodAll_cons_mk (shut_int Try.underlying3 w2) (trodAll_cons_mk (shut_int Try.underlying3 w3) (trodAll_cons_mk (shut_int Try.underlying3 w4) (trodAll_cons_mk (shut_int Try.underlying3 w5) trodAll_mk0))))))) (fun _ _ => rfl) rfl
    (hg.frame _) hg.2.1 (ok_one (by kernel_rfl) rfl (okWide_bool_mk Try.underlying4 _))⟩

theorem over : Rows.bitsBackRow.holds Try.pinned (OpenSpec.ofChange Rows.bitsBackSpec) :=
  OpenClaim.holds_of_wide 7 Try.f7 rfl rfl rfl rfl rfl rfl rfl ⟨rfl, rfl, rfl, rfl, rfl⟩ rfl rfl rfl rfl rfl (by kernel_rfl) Try.func7 (by kernel_rfl)
    (of_decide_eq_true (by kernel_rfl)) (by unfold Func.isWrapper; first | (rw [if_pos (by decide +kernel)]; kernel_rfl) | (rw [if_neg (by decide +kernel)]; exact ⟨rfl, rfl⟩))
    (fun os started H enc _ => lifted os started H enc)

theorem proved : Rows.BitsBackSaid :=
  over
end Go.Proofs.Ytmgifncjfeoomaa.bitsBack
namespace Go.Proofs.Ytmgifncjfeoomaa
theorem bitsBack_holds : Rows.BitsBackSaid := bitsBack.proved
end Go.Proofs.Ytmgifncjfeoomaa
#print axioms Go.Proofs.Ytmgifncjfeoomaa.bitsBack_holds
