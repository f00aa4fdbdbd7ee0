/- BitsParts returns true for every v, w and m, and leaves its arguments as they were: a value blended by two masks that part the bytes is made by each alone, by all of them it is the other one; no condition. -/
import Derived.Test.YtmgifncjfeoomaaRows
import Derived.Test.YtmgifncjfeoomaaLists
import Derived.WalkKit
import Derived.ProofKit
import Derived.OpenShut
import Derived.ShutString
namespace Go.Proofs.Ytmgifncjfeoomaa.bitsParts
open Go.ChangeShapes Go.WideShapes Go.ChangeAt Go.RowKit
open Go.ChangeMaps (open_string shut_string)
set_option linter.unusedVariables false

theorem own : ownKnob Try.prog.godebug = none := by kernel_rfl

theorem grown_drewN (w : World) (q : Nat) : Grown w (w.drewN q) := Grown.refl w
theorem comp_bits (b : BitVec 64) (j : Nat) (hj : j < 8) : (255#64 &&& ~~~(b &&& 255#64)).getLsbD j = !(b &&& 255#64).getLsbD j := by
  rw [BitVec.getLsbD_and, BitVec.getLsbD_not, byte255 j (by omega)]; simp [hj]; omega
theorem parts (v x m c : BitVec 64) (hc : ∀ j, j < 8 → c.getLsbD j = !m.getLsbD j) :
    blendR (blendR v x [m]) x [c] = x ∧ blendR v (blendR v x [m]) [m] = blendR v x [m] ∧ blendR (blendR v x [m]) v [m] = v ∧ blendR v x [m, c] = x := by
  refine ⟨?_, ?_, ?_, ?_⟩
  · apply ext64; intro i hi; rw [blend1_bits _ _ _ _ hi, blend1_bits _ _ _ _ hi, hc _ (by omega)]; cases m.getLsbD (i / 8) <;> simp
  · apply ext64; intro i hi; rw [blend1_bits _ _ _ _ hi, blend1_bits _ _ _ _ hi]; cases m.getLsbD (i / 8) <;> simp
  · apply ext64; intro i hi; rw [blend1_bits _ _ _ _ hi, blend1_bits _ _ _ _ hi]; cases m.getLsbD (i / 8) <;> simp
  · apply ext64; intro i hi; rw [blend2_bits _ _ _ _ _ hi, hc _ (by omega)]; cases m.getLsbD (i / 8) <;> simp
theorem union_all (b : BitVec 64) : unionR [b &&& 255#64, 255#64 &&& ~~~(b &&& 255#64)] = 255#64 := by
  apply ext64; intro i hi
  unfold unionR unionTo
  simp only [List.length_cons, List.length_nil, List.take, List.foldl]
  simp only [BitVec.getLsbD_and, BitVec.getLsbD_or, BitVec.getLsbD_not, byte255 i hi, decide_eq_true hi]
  cases b.getLsbD i <;> cases (decide (i < 8)) <;> simp
theorem meet_none (b : BitVec 64) : meetR [b &&& 255#64, 255#64 &&& ~~~(b &&& 255#64)] = 0#64 := by
  apply ext64; intro i hi
  unfold meetR meetTo
  simp only [List.length_cons, List.length_nil, List.take, List.foldl]
  simp only [BitVec.getLsbD_and, BitVec.getLsbD_not, byte255 i hi, decide_eq_true hi]
  cases b.getLsbD i <;> cases (decide (i < 8)) <;> simp

set_option maxHeartbeats 1000000 in
theorem walk (a0 : Int) (a1 : Int) (a2 : Int) (w0 : (Lit.int .i64 a0).wf = true) (w1 : (Lit.int .i64 a1).wf = true) (w2 : (Lit.int .i64 a2).wf = true) (w : World) :
    Calls Try.prog 8 #[.int .i64 a0, .int .i64 a1, .int .i64 a2] w fun e w' => e = .returned (.bool true) ∧ Grown w w' := by
  obtain ⟨b0, rfl⟩ : ∃ b, a0 = I b := ⟨B a0, (I_B w0).symm⟩
  obtain ⟨b1, rfl⟩ : ∃ b, a1 = I b := ⟨B a1, (I_B w1).symm⟩
  obtain ⟨b2, rfl⟩ : ∃ b, a2 = I b := ⟨B a2, (I_B w2).symm⟩
  clear w0 w1 w2
  obtain ⟨m, hm⟩ : ∃ m, m = b2 &&& 255#64 := ⟨_, rfl⟩
  obtain ⟨c, hc⟩ : ∃ c, c = 255#64 &&& ~~~m := ⟨_, rfl⟩
  have e1 : bits .and .i64 (I b2) 255 = I m := by rw [← I_255, bits_and, hm]
  have e2 : bits .andNot .i64 255 (I m) = I c := by rw [← I_255, bits_andNot, hc]
  obtain ⟨p1, p2, p3, p4⟩ := parts b0 b1 m c (fun j hj => by rw [hc, hm]; exact comp_bits b2 j hj)
  have t1 : (I (blendR (blendR b0 b1 [m]) b1 [c]) == I b1) = true := by rw [p1]; simp
  have t2 : (I (blendR b0 (blendR b0 b1 [m]) [m]) == I (blendR b0 b1 [m])) = true := by rw [p2]; simp
  have t3 : (I (blendR (blendR b0 b1 [m]) b0 [m]) == I b0) = true := by rw [p3]; simp
  have t4 : (I (blendR b0 b1 [m, c]) == I b1) = true := by rw [p4]; simp
  have t5 : I (unionR [m, c]) = 255 := by rw [hc, hm, union_all, I_255]
  have t6 : I (meetR [m, c]) = 0 := by rw [hc, hm, meet_none, I_zero]
  clear p1 p2 p3 p4 hm hc
  go_enter Try.func8, Try.ntmps8
  go_wp2_with (go_at_call 9; refine (able_any _).mono ?_; rintro e w' ⟨rfl, q, rfl⟩)
  refine (blend1 _ _ _ _ _ (by simp)).mono ?_
  rintro e w' ⟨rfl, rfl⟩
  go_wp2_with fail
  refine (blend1 _ _ _ _ _ (by simp)).mono ?_
  rintro e w' ⟨rfl, rfl⟩
  go_wp2_with fail
  refine (blend1 _ _ _ _ _ (by simp)).mono ?_
  rintro e w' ⟨rfl, rfl⟩
  go_wp2_with fail
  refine (blend1 _ _ _ _ _ (by simp)).mono ?_
  rintro e w' ⟨rfl, rfl⟩
  go_wp2_with fail
  refine (blend2 _ _ _ _ _ _ (by simp)).mono ?_
  rintro e w' ⟨rfl, rfl⟩
  go_wp2_with fail
  refine (union2 _ _ _ _ (by simp)).mono ?_
  rintro e w' ⟨rfl, rfl⟩
  go_wp2_with fail
  refine (meet2 _ _ _ _ (by simp)).mono ?_
  rintro e w' ⟨rfl, rfl⟩
  go_wp2_with fail
  go_ret
  exact ⟨rfl, by repeat (first | exact grown_drewN _ _ | exact Grown.refl _ | apply Grown.drew | apply Grown.alloc)⟩

set_option maxRecDepth 100000 in
theorem lifted (os : Os) (started : os.Started) (H : Type) (enc : TypeId × Value → H) :
    ReturnsInHanded {} Try.checked os 8 .any (Rows.bitsPartsSpec.pre6 enc Try.prog Try.f8 Rows.bitsPartsRow.domain false) (Rows.bitsPartsSpec.post enc Try.prog Try.f8 false true false false) := by
  refine returnsInHanded_of_change (C := Try.checked) own started (by kernel_rfl) Try.func8
    (ChangeSpec.witness6 (enc := enc) (C := Try.checked) false ⟨#[], #[.int .i64 0, .int .i64 0, .int .i64 0], []⟩ 8 (by kernel_rfl) (by kernel_rfl) (by kernel_rfl) (by kernel_rfl)) ?_
  intro W base args ds gs before hval0 hW hcnd _
  have hval : ∀ (j : Nat) t v, Try.f8.params[j]? = some t → args[j]? = some v → Value.okWide Try.prog W .any base t v := hval0
  have hW' := hW
  obtain ⟨p, q, hA0, hV, rfl, hfz, hnd⟩ := hW
  have hA : DataW.TrodAll enc Try.prog W 0 (fun _ => true) true Try.f8.params.toList args.toList ds p := hA0
  rw [Try.params8] at hA hval
  obtain ⟨v0, vs0, d0, ds0, p0, q0, hargs, rfl, rfl, h0, r0⟩ := trodAll_cons hA
  obtain ⟨v1, vs1, d1, ds1, p1, q1, rfl, rfl, rfl, h1, r1⟩ := trodAll_cons r0
  obtain ⟨v2, vs2, d2, ds2, p2, q2, rfl, rfl, rfl, h2, r2⟩ := trodAll_cons r1
  obtain ⟨rfl, rfl, rfl⟩ := trodAll_nil r2
  obtain rfl : args = #[v0, v1, v2] := by cases args; simp_all
  obtain ⟨rfl, rfl⟩ := trodVars_none hV
  obtain ⟨a0, rfl, rfl, rfl, w0⟩ := open_int Try.underlying3 (hval 0 3 v0 rfl rfl) h0
  obtain ⟨a1, rfl, rfl, rfl, w1⟩ := open_int Try.underlying3 (hval 1 3 v1 rfl rfl) h1
  obtain ⟨a2, rfl, rfl, rfl, w2⟩ := open_int Try.underlying3 (hval 2 3 v2 rfl rfl) h2
  clear hA0 hval0
  simp only [List.append_nil] at hW'
  refine (walk a0 a1 a2 w0 w1 w2 W).mono fun e W' ⟨he, hg⟩ => ?_
  subst he
  exact ⟨_, rfl, post_of_same (pa := []) (pv := []) hW' (fun _ _ _ => (trodAll_cons_mk (shut_bool Try.underlying4 _) trodAll_mk0)) (fun sp _ => (trodAll_cons_mk (shut_int Try.underlying3 w0) (trodAll_cons_mk (shut_int Try.underlying3 w1) (trodAll_cons_mk (shut_int Try.underlying3 w2) trodAll_mk0)))) (fun _ _ => rfl) rfl
    (hg.frame _) hg.2.1 (ok_one (by kernel_rfl) rfl (okWide_bool_mk Try.underlying4 _))⟩

theorem over : Rows.bitsPartsRow.holds Try.pinned (OpenSpec.ofChange Rows.bitsPartsSpec) :=
  OpenClaim.holds_of_wide 8 Try.f8 rfl rfl rfl rfl rfl rfl rfl ⟨rfl, rfl, rfl, rfl, rfl⟩ rfl rfl rfl rfl rfl (by kernel_rfl) Try.func8 (by kernel_rfl)
    (of_decide_eq_true (by kernel_rfl)) (by unfold Func.isWrapper; first | (rw [if_pos (by decide +kernel)]; kernel_rfl) | (rw [if_neg (by decide +kernel)]; exact ⟨rfl, rfl⟩))
    (fun os started H enc _ => lifted os started H enc)

theorem proved : Rows.BitsPartsSaid :=
  over
end Go.Proofs.Ytmgifncjfeoomaa.bitsParts
namespace Go.Proofs.Ytmgifncjfeoomaa
theorem bitsParts_holds : Rows.BitsPartsSaid := bitsParts.proved
end Go.Proofs.Ytmgifncjfeoomaa
#print axioms Go.Proofs.Ytmgifncjfeoomaa.bitsParts_holds
