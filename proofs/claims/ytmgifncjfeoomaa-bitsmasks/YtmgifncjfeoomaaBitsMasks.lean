/- BitsMasks returns true for every v, w and list of masks, and leaves its arguments as they were: Blend, Union and Meet answer as the reference does, and the list stays; no condition. -/
import Derived.Test.YtmgifncjfeoomaaRows
import Derived.Test.YtmgifncjfeoomaaSrc
import Derived.WalkKit
import Derived.Deep.QuietTactic
import Derived.BigQuiet
import Derived.WalkSmall
import Derived.Deep.DeepMust
import Derived.ProofKit
import Derived.OpenShut
import Derived.ShutString
import Derived.ChangeOld
import Derived.Below
namespace Go.Proofs.Ytmgifncjfeoomaa.bitsMasks
open Go.ChangeShapes Go.WideShapes Go.ChangeAt Go.RowKit
open Go.ChangeMaps (open_string shut_string)
set_option linter.unusedVariables false

theorem own : ownKnob Try.prog.godebug = none := by kernel_rfl
theorem laidOut : laidOutB Try.prog = true := by kernel_rfl

/-- an argument that is a slice of integers: nil, or the first 'len' of 'cap' cells that hold the numbers -/
def IsRow (k : IntKind) (w : World) (a : Option Addr) (len cap : Nat) (zs : List Int) : Prop :=
  (a = none ∧ len = 0 ∧ cap = 0 ∧ zs = []) ∨
  ∃ x, a = some x ∧ len ≤ cap ∧ cap ≤ maxLen ∧ zs.length = cap ∧ (∀ i, i < zs.length → w.cell? (x.add i) = some (.int k (zs.getD i 0))) ∧ ∀ n ∈ zs, (Lit.int k n).wf = true

set_option maxHeartbeats 400000 in
theorem core (v x : BitVec 64) (a : Option Addr) (len cap : Nat) (ms : List (BitVec 64)) (w : World) (hl : len = ms.length) (hlen : len ≤ 100000) (hm : MasksAt w a ms) (hnil : a = none → len = 0 ∧ cap = 0) :
    Calls Try.prog 5 #[.int .i64 (I v), .int .i64 (I x), .slice a len cap] w fun e w' => e = .returned (.bool true) ∧ Below w.heap.size w w' := by
  obtain ⟨i0, hi, hz0, hz1, hz2⟩ := info_parts info3
  have HM : Hid (MasksAt w a ms) := hm
  have HL : Hid (len = ms.length) := hl
  have HN : Hid (a = none → len = 0 ∧ cap = 0) := hnil
  have HB : ∀ q, Below w.heap.size w ((w.drewN q).alloc (.cells #[] 3)) := fun q => ((below_drewN (Below.refl _ w) q)).alloc (Nat.le_refl _) _
  have HB : Hid (∀ q, Below w.heap.size w ((w.drewN q).alloc (.cells #[] 3))) := HB
  clear hm hl hnil
  go_enter Try.func5, Try.ntmps5
  go_wp2_with (first
    | (go_at_call 9; refine (able_any _).mono ?_; rintro e w' ⟨rfl, q, rfl⟩)
    | (at_builtin; go_must (refine wpList_append_src _ rfl (.tmp 20) (.tmp 21) 28 rfl w.heap.size 3 i0 (.int .i64 0) 1 8 Try.underlying28 hi hz0 hz1 hz2 rfl (by decide) _ 0 [] rfl (World.ownsRow_made (w.drewN q) #[] 0 (Nat.le_refl _) (by decide) rfl) a len cap (ints ms) rfl ?c1 ?c2 (ints_one ms) ?c3 ?c4 ?c5 ?_)))
  case c1 => rw [HL.out]; simp [ints]
  case c2 => exact src_of (masksAt_below HM.out (HB.out q)) HL.out HN.out
  case c3 => unfold maxLen; omega
  case c4 => omega
  case c5 => simp
  intro v1 w1 hown1 hgrow1
  have HB1 : Below w.heap.size w w1 := (HB.out q).grown hgrow1 (by simp) (by intro k hk; simp [Value.ownBlock] at hk; omega)
  have HS1 := HB1.size
  clear hgrow1 HB
  go_wp2_with (at_builtin; go_must (refine wpList_append_own _ rfl (.tmp 22) (.tmp 23) 28 rfl w.heap.size 3 i0 (.int .i64 0) 1 8 Try.underlying28 hi hz0 hz1 hz2 rfl (by decide) _ len (ints ms) rfl (hown1.alloc _) ⟨w1.heap.size, 0, none⟩ 1 1 [.int .i64 (-77)] rfl rfl ?d1 ?d2 ?d3 ?d4 ?d5 ?_))
  case d1 =>
    intro j u hj
    match j, hj with
    | 0, hj => simp at hj; subst hj; simp [Addr.add]
  case d2 => intro u hu; simp at hu; subst hu; rfl
  case d3 => unfold maxLen; omega
  case d4 => omega
  case d5 => simp; omega
  intro v2 w2 hown2 hgrow2 _
  have HB2 : Below w.heap.size w w2 := (HB1.alloc HS1 _).grown hgrow2 (by simp; omega) (fun k hk => (hown1.lt k hk).1)
  obtain ⟨g, cap2, hv2, hc1, hc2, hmg, hlast⟩ := row_of HL.out hown2
  rw [hv2]
  have HMG : Hid (MasksAt w2 (some ⟨g, 0, none⟩) ms) := hmg
  have HM2 : Hid (MasksAt w2 a ms) := masksAt_below HM.out HB2
  have HBB : Hid (Below w.heap.size w w2) := HB2
  clear hgrow2 hown1 hown2 HB1 HB2 HS1 hv2 hmg HM HN hi hz0 hz1 hz2
  unfold maxLen at hc2
  go_wp2
  go_loop [8, 9, 10] (fun u m i => ∃ k : Nat, k ≤ len ∧ i = .int .i64 (k : Int) ∧ u = .int .i64 (I (uTo ms k)) ∧ m = .int .i64 (I (meetTo ms k))) (fun _ _ i => len - (intOf i).toNat)
  case atStart => exact ⟨0, Nat.zero_le _, rfl, by rw [uTo_zero, I_zero], by rw [show meetTo ms 0 = 255#64 from rfl, I_255]⟩
  case round =>
    obtain ⟨k, hk, rfl, rfl, rfl⟩ := hrel
    by_cases hlt : k < len
    · obtain ⟨b, off, m, rfl, hc, hmk⟩ := cell_of HM2.out (k := k) (by have := HL.out; omega)
      have HK : Hid (m = ms.getD k 0#64) := hmk
      clear hmk
      go_wp2
      go_round
      case rel => exact ⟨k + 1, by omega, by go_num, by rw [← I_255, bits_and, bits_or, uTo_step ms k (by have := HL.out; omega), HK.out], by rw [bits_and, meetTo_step ms k (by have := HL.out; omega), HK.out]⟩
      case measure => simp [intOf]; omega
    · obtain rfl : k = len := by omega
      have e1 : uTo ms k = unionR ms := by rw [HL.out]; rfl
      have e2 : meetTo ms k = meetR ms := by rw [HL.out]; rfl
      rw [e1, e2]
      clear e1 e2 hlt hk
      go_wp2_with fail
      refine (blend_any _ _ _ _ _ ms _ HL.out (by omega) HMG.out).mono ?_
      rintro e w' ⟨rfl, rfl⟩
      go_wp2_with fail
      go_quiet (first | (go_at_call 21; exact Calls.quiet_of_same (union_any _ _ _ ms _ HL.out (by omega) HMG.out)) | (go_at_call 22; exact Calls.quiet_of_same (meet_any _ _ _ ms _ HL.out (by omega) HMG.out)))
      go_wp2
      go_loopw [14] (fun i wr => ∃ j n : Nat, j ≤ k ∧ i = .int .i64 (j : Int) ∧ wr = w'.drewN n) (fun i _ => k - (intOf i).toNat)
      case atStart => exact ⟨0, nq, Nat.zero_le _, rfl, rfl⟩
      case round =>
        obtain ⟨j, n, hj, rfl, rfl⟩ := hrel
        by_cases hlt : j < k
        · obtain ⟨b, off, m, rfl, hc, hmk⟩ := cell_of HM2.out (k := j) (by have := HL.out; omega)
          obtain ⟨b', off', m', hg, hc', hmk'⟩ := cell_of HMG.out (k := j) (by have := HL.out; omega)
          obtain ⟨rfl, rfl⟩ : g = b' ∧ off' = 0 := by simpa [eq_comm] using hg
          obtain rfl : m' = m := by rw [hmk, hmk']
          rw [Nat.zero_add] at hc'
          clear hmk hmk' hg
          go_wp2
          go_quiet ((fail))
          go_wp2
          go_roundw
          case rel => exact ⟨j + 1, _, by omega, by go_num, rfl⟩
          case measure => simp [intOf]; omega
        · obtain rfl : j = k := by omega
          have e3 : blendR v x ms = blendB v x (unionR ms) := rfl
          clear hlt hj
          go_wp2_with (go_at_call 23; refine (rblend_all _ _ _ _).mono ?_; rintro e w'' ⟨rfl, rfl⟩)
          go_ret
          exact ⟨rfl, below_drewN HBB.out _⟩
set_option maxHeartbeats 400000 in
theorem long (v x : Int) (a : Option Addr) (len cap : Nat) (w : World) (hlen : 100000 < len) (hmax : len ≤ 9223372036854775807) :
    Calls Try.prog 5 #[.int .i64 v, .int .i64 x, .slice a len cap] w fun e w' => e = .returned (.bool true) ∧ Below w.heap.size w w' := by
  go_enter Try.func5, Try.ntmps5
  go_wp2_with (go_at_call 9; refine (able_any _).mono ?_; rintro e w' ⟨rfl, q, rfl⟩)
  go_ret
  exact ⟨rfl, below_drewN (Below.refl _ _) _⟩
theorem masks_of {w : World} {x : Addr} {len : Nat} {zs : List Int} (hl : len ≤ zs.length) (hcell : ∀ i, i < zs.length → w.cell? (x.add i) = some (.int .i64 (zs.getD i 0))) (hwf : ∀ n ∈ zs, (Lit.int .i64 n).wf = true) :
    MasksAt w (some x) ((zs.take len).map B) := by
  by_cases h0 : len = 0
  · subst h0; exact .inl (by simp)
  · obtain ⟨b, off, rfl, hc⟩ := ints_at hcell (by omega)
    refine .inr ⟨b, off, rfl, fun j hj => ?_⟩
    have hj' : j < len := by simp at hj; omega
    have hjz : j < zs.length := by omega
    rw [hc j hjz]
    have e1 : zs.getD j 0 = zs[j] := by simp [hjz]
    have e2 : ((zs.take len).map B).getD j 0#64 = B zs[j] := by
      rw [List.getD_eq_getElem?_getD, List.getElem?_map, List.getElem?_take_of_lt hj']; simp [hjz]
    rw [e1, e2, I_B (hwf _ (List.getElem_mem _))]

theorem walk (a0 : Int) (a1 : Int) (a2 : Option Addr) (len2 cap2 : Nat) (z2 : List Int) (w : World) (w0 : (Lit.int .i64 a0).wf = true) (w1 : (Lit.int .i64 a1).wf = true) (w2 : IsRow .i64 w a2 len2 cap2 z2) :
    Calls Try.prog 5 #[.int .i64 a0, .int .i64 a1, .slice a2 len2 cap2] w fun e w' => e = .returned (.bool true) ∧ Below w.heap.size w w' := by
  obtain ⟨b0, rfl⟩ : ∃ b, a0 = I b := ⟨B a0, (I_B w0).symm⟩
  obtain ⟨b1, rfl⟩ : ∃ b, a1 = I b := ⟨B a1, (I_B w1).symm⟩
  clear w0 w1
  rcases w2 with ⟨rfl, rfl, rfl, rfl⟩ | ⟨x, rfl, hl, hm, hz, hcell, hwz⟩
  · exact core b0 b1 none 0 0 [] w rfl (by decide) (.inl rfl) (fun _ => ⟨rfl, rfl⟩)
  · by_cases h : 100000 < len2
    · exact long _ _ _ _ _ w h (by unfold maxLen at hm; omega)
    · exact core b0 b1 (some x) len2 cap2 ((z2.take len2).map B) w (by simp; omega) (by omega) (masks_of (by omega) hcell hwz) (by simp)

set_option maxRecDepth 100000 in
theorem lifted (os : Os) (started : os.Started) (H : Type) (enc : TypeId × Value → H) :
    ReturnsInHanded {} Try.checked os 5 .any (Rows.bitsMasksSpec.pre6 enc Try.prog Try.f5 Rows.bitsMasksRow.domain false) (Rows.bitsMasksSpec.post enc Try.prog Try.f5 false true false false) := by
  refine returnsInHanded_of_change (C := Try.checked) own started (by kernel_rfl) Try.func5
    (ChangeSpec.witness6 (enc := enc) (C := Try.checked) false ⟨#[], #[.int .i64 0, .int .i64 0, .slice none 0 0], []⟩ 8 (by kernel_rfl) (by kernel_rfl) (by kernel_rfl) (by kernel_rfl)) ?_
  intro W base args ds gs before hval0 hW hcnd _
  have hval : ∀ (j : Nat) t v, Try.f5.params[j]? = some t → args[j]? = some v → Value.okWide Try.prog W .any base t v := hval0
  have hW' := hW
  obtain ⟨p, q, hA0, hV, rfl, hfz, hnd⟩ := hW
  have hA : DataW.TrodAll enc Try.prog W 0 (fun _ => true) true Try.f5.params.toList args.toList ds p := hA0
  rw [Try.params5] at hA hval
  obtain ⟨v0, vs0, d0, ds0, p0, q0, hargs, rfl, rfl, h0, r0⟩ := trodAll_cons hA
  obtain ⟨v1, vs1, d1, ds1, p1, q1, rfl, rfl, rfl, h1, r1⟩ := trodAll_cons r0
  obtain ⟨v2, vs2, d2, ds2, p2, q2, rfl, rfl, rfl, h2, r2⟩ := trodAll_cons r1
  obtain ⟨rfl, rfl, rfl⟩ := trodAll_nil r2
  obtain rfl : args = #[v0, v1, v2] := by cases args; simp_all
  obtain ⟨rfl, rfl⟩ := trodVars_none hV
  obtain ⟨a0, rfl, rfl, rfl, w0⟩ := open_int Try.underlying3 (hval 0 3 v0 rfl rfl) h0
  obtain ⟨a1, rfl, rfl, rfl, w1⟩ := open_int Try.underlying3 (hval 1 3 v1 rfl rfl) h1
  obtain ⟨a2, len2, cap2, rfl⟩ := okWide_slice Try.underlying28 (hval 2 28 v2 rfl rfl)
  have k2 := h2
  have lt2 : ∀ x ∈ p2, x.block < W.heap.size := by obtain ⟨m, hm⟩ := k2; exact DataW.trod_lt m _ _ _ hm
  obtain ⟨z2, w2⟩ : ∃ zs, IsRow .i64 W a2 len2 cap2 zs := by
    obtain ⟨fuel, hf⟩ := h2
    rcases open_ints Try.underlying28 Try.underlying3 (by kernel_rfl) hf with ⟨hcs, _⟩ | ⟨x, l, c, zs, hcs, _, hl, hm, hz, _, hcell, hwz⟩
    · simp [Value.cells] at hcs
      obtain ⟨rfl, rfl, rfl⟩ := hcs
      exact ⟨[], .inl ⟨rfl, rfl, rfl, rfl⟩⟩
    · simp [Value.cells] at hcs
      obtain ⟨rfl, rfl, rfl⟩ := hcs
      exact ⟨zs, .inr ⟨_, rfl, hl, hm, by simpa using hz, hcell, hwz⟩⟩
  clear hA0 hval0
  refine (walk a0 a1 a2 len2 cap2 z2 W w0 w1 w2).mono fun e W' ⟨he, bel⟩ => ?_
  subst he
  exact ⟨_, rfl, _, _, _, [], _, [], hW', trodAll_mk1 (shut_bool Try.underlying4 _), (trodAll_cons_mk (shut_int Try.underlying3 w0) (trodAll_cons_mk (shut_int Try.underlying3 w1) (trodAll_cons_mk (Below.trod laidOut (by kernel_rfl) (of_decide_eq_true (by kernel_rfl)) k2 bel lt2) trodAll_mk0))), rfl, bel.frame _, fun h => by cases h⟩

theorem over : Rows.bitsMasksRow.holds Try.pinned (OpenSpec.ofChange Rows.bitsMasksSpec) :=
  OpenClaim.holds_of_wide 5 Try.f5 rfl rfl rfl rfl rfl rfl rfl ⟨rfl, rfl, rfl, rfl, rfl⟩ rfl rfl rfl rfl rfl (by kernel_rfl) Try.func5 (by kernel_rfl)
    (of_decide_eq_true (by kernel_rfl)) (by unfold Func.isWrapper; first | (rw [if_pos (by decide +kernel)]; kernel_rfl) | (rw [if_neg (by decide +kernel)]; exact ⟨rfl, rfl⟩))
    (fun os started H enc _ => lifted os started H enc)

theorem proved : Rows.BitsMasksSaid := over
end Go.Proofs.Ytmgifncjfeoomaa.bitsMasks
namespace Go.Proofs.Ytmgifncjfeoomaa
theorem bitsMasks_holds : Rows.BitsMasksSaid := bitsMasks.proved
end Go.Proofs.Ytmgifncjfeoomaa
#print axioms Go.Proofs.Ytmgifncjfeoomaa.bitsMasks_holds
