/- CondLogic: twice not is nothing; and, or of two conditions hold of what both, what one holds of; not turns the one into the other; at every input. The card ties the listed variables to the program's text; no condition but the statement's own. -/
import Derived.Test.YtfdfjakafiglmaaDoorRows
import Derived.Test.YtfdfjakafiglmaaDoorCards
import Derived.Test.YtfdfjakafiglmaaDoorTie
import Derived.ProofKit
import Derived.Deep.Cut
import Derived.LaidMore
import Derived.LaidLaws
import Derived.LaidHandle
import Derived.Lay
import Derived.SizedLaws
import Derived.Handed
import Derived.Lib.LaidTab
import Derived.Stop.LaidErr
import Derived.HandedShaped
import Derived.Shelf.Vars
import Derived.SevenTiedAt
import Derived.ChangeMaps5
import Derived.OpenShut
import Derived.Test.YtfdfjakafiglmaaDoorCondLogicP4
namespace Go.Proofs.YtfdfjakafiglmaaDoor.condLogic
open Go.ChangeShapes Go.WideShapes Go.ChangeAt Go.RowKit
set_option linter.unusedVariables false
theorem own : ownKnob Tryd.prog.godebug = none := by kernel_rfl
theorem laidOut : laidOutB Tryd.prog = true := by kernel_rfl
/-- a wrap that keeps the condition on what is laid, what fits the machine, and the world's shape -/
theorem wrap {H : Type} {enc : TypeId × Value → H} {a : Assume} {C : Checked} {os : Os} {f : FuncId} {fn : Func} {s : ChangeSpec} {conds : List PathCond} {apart fresh handsOn again : Bool} {X : World → Array Value → Prop}
    (hX : ∀ (w w' : World) (args : Array Value), w.heap = w'.heap → X w args → X w' args)
    (own : ownKnob C.prog.godebug = none) (started : os.Started) (noInit : C.prog.inits.idxOf? f = none) (hfn : C.prog.funcs[f]? = some fn)
    (witness : ∃ (w : World) (tape : Tape) (i : Input), w.os = os ∧ (w.forCall tape i).Shaped C.prog ∧ i.vars = [] ∧ Input.okWide C.prog (w.forCall tape i) .any w.heap.size f i ∧
      ((s.pre enc C.prog fn conds apart (w.forCall tape i).memory i.args ∧ X (w.forCall tape i).memory i.args) ∧ sizedMet enc C.prog fn (OpenSpec.ofChange s) apart (w.forCall tape i).memory i.args) ∧ a.holds C.prog (lone (Frame.enter C.prog f i.args .normal) [] (w.forCall tape i)))
    (contract : ∀ (W : World) (base : Nat) (args : Array Value) (ds gs : List (DataW H)) (before : List MemPlace),
      (∀ (j : Nat) t v, fn.params[j]? = some t → args[j]? = some v → Value.okWide C.prog W .any base t v) →
      DataW.Whole enc C.prog fn.params.toList s.vars apart W args.toList ds gs before → X W args → W.ShapedOpen C.prog → sizedMet enc C.prog fn (OpenSpec.ofChange s) apart W args →
      Calls C.prog f args W fun e W' => ∃ v, e = .returned v ∧ s.post enc C.prog fn apart fresh handsOn again W args v W') :
    ReturnsInHanded a C os f .any (fun w args => (s.pre enc C.prog fn conds apart w args ∧ X w args) ∧ sizedMet enc C.prog fn (OpenSpec.ofChange s) apart w args) (s.post enc C.prog fn apart fresh handsOn again) := by
  refine returnsInHanded_of_calls own started noInit witness ?_
  intro w tape i _ hsh _ hok hpre hholds
  obtain ⟨_, _, _, fn', hfn', _, _, _, _, hval⟩ := hok
  have e : fn' = fn := Option.some.inj (hfn'.symm.trans hfn)
  subst e
  obtain ⟨⟨⟨ds, gs, before, hw, hc⟩, hx⟩, hz⟩ := hpre
  have hw' := DataW.Whole.of_heap (w' := w.forCall tape i) (by rfl) hw
  refine (contract (w.forCall tape i) w.heap.size i.args ds gs before hval hw' (hX _ _ _ (by rfl) hx) hsh (hz.of_heap (by rfl))).mono fun e W' ⟨v, he, hp⟩ => ?_
  subst he
  exact ChangeSpec.post_blind hp
theorem len_sized {H : Type} {enc : TypeId × Value → H} {W : World} {base : Nat} {spare : Nat → Bool} {held : Bool} {ts : List TypeId} {ds : List (DataW H)} {t e j : Nat} {ao : Option Addr} {n cap : Nat} {d : DataW H} {ps : List MemPlace} (ht : Tryd.prog.underlying t = some (.slice e)) (hb : Nat.ble 1 (Tryd.prog.bytesOf e) = true) (h : DataW.Trod enc Tryd.prog W base spare held t (.slice ao n cap) d ps) (hwt : (DataW.weightsEach Tryd.prog ts ds).all (· ≤ reachBytes) = true) (h1 : ts[j]? = some t) (h2 : ds[j]? = some d) : n ≤ 140737488355328 := by
  obtain ⟨fuel, hf⟩ := h
  rcases Go.Deep.open_slice ht hf with ⟨hcs, _⟩ | ⟨a, len, cap', m, k, D, Pl, hcs, _, _, _, _, hx, _⟩
  · simp [Value.cells] at hcs; omega
  · simp [Value.cells] at hcs
    obtain ⟨_, rfl, _⟩ := hcs
    have hd := (Prod.ext_iff.1 hx).1
    simp only at hd
    have h3 := sized_slice hwt h1 (by rw [h2, hd]) ht
    rw [List.length_map, List.length_range] at h3
    have hR := reachBytes_lt
    have h4 : n * 1 ≤ (n + ((List.range (m - n)).map fun j => D (n + j)).length) * Tryd.prog.bytesOf e := Nat.mul_le_mul (Nat.le_add_right _ _) (Nat.le_of_ble_eq_true hb)
    omega
theorem tab_of {W : World} (h : laidMetH Tryd.prog Rows.condLogicRow.laid W) : Lib.TabIs Tryd.prog W "internal/strconv.uint64pow10" .u64 Lib.pow10Tab := by
  rw [MakeChecks.laidMetH_plain _ _ _ (by kernel_rfl)] at h
  exact Lib.tabIs_of_head (g := 0) (t := 116) (e := 92) (n := 20) (by kernel_rfl) (by kernel_rfl) (by kernel_rfl) (by kernel_rfl) (by kernel_rfl) (by kernel_rfl) h.tail.tail
theorem law (a0 : List Cn) (a1 : List Cn) (a2 : O) (W : World) (hN0 : a0.length ≤ 140737488355328) (hN1 : a1.length ≤ 140737488355328) {bo0 : Option (Nat × Nat)} {cap0 : Nat} (S0 : Sl ccV 5 W.heap.size W (.slice (bo0.map fun x => ⟨x.1, x.2, none⟩) a0.length cap0) a0) (q0 : ∀ y ∈ a0, wfC y) {bo1 : Option (Nat × Nat)} {cap1 : Nat} (S1 : Sl ccV 5 W.heap.size W (.slice (bo1.map fun x => ⟨x.1, x.2, none⟩) a1.length cap1) a1) (q1 : ∀ y ∈ a1, wfC y) (q2 : Can a2) (hT : Lib.TabIs Tryd.prog W "internal/strconv.uint64pow10" .u64 Lib.pow10Tab) : Calls Tryd.prog 7 #[.slice (bo0.map fun x => ⟨x.1, x.2, none⟩) a0.length cap0, .slice (bo1.map fun x => ⟨x.1, x.2, none⟩) a1.length cap1, .agg (ocV a2).toArray] W fun e W' => e = .returned (.bool true) ∧ Grow W W' := by
  obtain ⟨o, ho, hT'⟩ := tab_fac hT
  obtain ⟨_, c0⟩ := lstC_of S0
  obtain ⟨_, c1⟩ := lstC_of S1
  have hM : Mem [some (.lst 5 a0.length (fun zz => cc (a0.getD zz Cn.z))), some (.lst 5 a1.length (fun zz => cc (a1.getD zz Cn.z))), some (.fac 0 o)] [(bo0.map fun (x : Nat × Nat) => (⟨x.1, List.replicate x.2 undef, [], 0⟩ : Loc)), (bo1.map fun (x : Nat × Nat) => (⟨x.1, List.replicate x.2 undef, [], 0⟩ : Loc)), some (⟨0, [], [], 0⟩ : Loc)] W := mem_ro rfl fun i e he => by
    match i, he with
    | 0, he => cases he; exact ⟨rfl, (c0 [] [(bo1.map fun (x : Nat × Nat) => (⟨x.1, List.replicate x.2 undef, [], 0⟩ : Loc)), some (⟨0, [], [], 0⟩ : Loc)]).2⟩
    | 1, he => cases he; exact ⟨rfl, (c1 [(bo0.map fun (x : Nat × Nat) => (⟨x.1, List.replicate x.2 undef, [], 0⟩ : Loc))] [some (⟨0, [], [], 0⟩ : Loc)]).2⟩
    | 2, he => cases he; exact ⟨rfl, ⟨_, rfl, rfl, ho⟩⟩
    | i + 3, he => simp at he
  refine Calls.mono ((logic_ a0 cap0 a1 cap1 a2 0 o hT' hN0 hN1).2 [(bo0.map fun (x : Nat × Nat) => (⟨x.1, List.replicate x.2 undef, [], 0⟩ : Loc)), (bo1.map fun (x : Nat × Nat) => (⟨x.1, List.replicate x.2 undef, [], 0⟩ : Loc)), some (⟨0, [], [], 0⟩ : Loc)] W _ hM (denL_mk ((c0 [] [(bo1.map fun (x : Nat × Nat) => (⟨x.1, List.replicate x.2 undef, [], 0⟩ : Loc)), some (⟨0, [], [], 0⟩ : Loc)]).1) (denL_mk ((c1 [(bo0.map fun (x : Nat × Nat) => (⟨x.1, List.replicate x.2 undef, [], 0⟩ : Loc))] [some (⟨0, [], [], 0⟩ : Loc)]).1) (denL_mk rfl (rfl))))) fun e W' hp => ?_
  obtain ⟨v, F, h1, h2, _, h4⟩ := post_ro hp (fun i e he => by
    match i, he with
    | 0, he => cases he; rfl
    | 1, he => cases he; rfl
    | 2, he => cases he; rfl
    | i + 3, he => simp at he)
  cases h1
  exact ⟨h2, h4⟩
set_option maxRecDepth 100000 in
theorem lifted (os : Os) (started : os.Started) (H : Type) (enc : TypeId × Value → H) :
    ReturnsInHanded {} Tryd.checked os 7 .any (fun w args => (Rows.condLogicSpec.pre enc Tryd.prog Tryd.f7 [] false w args ∧ laidMetH Tryd.prog Rows.condLogicRow.laid w) ∧ sizedMet enc Tryd.prog Tryd.f7 (OpenSpec.ofChange Rows.condLogicSpec) false w args) (Rows.condLogicSpec.post enc Tryd.prog Tryd.f7 false true false false) := by
  refine wrap (C := Tryd.checked) (X := fun w _ => laidMetH Tryd.prog Rows.condLogicRow.laid w) (fun _ _ _ hh h => h.of_heap hh) own started (by kernel_rfl) Tryd.func7
    (ChangeSpec.witness_shaped (enc := enc) (C := Tryd.checked) (os := os) (X := fun w _ => laidMetH Tryd.prog Rows.condLogicRow.laid w) false (World.laidAll Tryd.prog os Rows.condLogicRow.laid) #[.slice none 0 0, .slice none 0 0, .agg #[.int .i64 0, .int .i64 0, .int .i64 0, .int .i64 0, .int .i64 0, .int .i64 0, .int .i64 0, .int .i64 0, .int .i64 0, .int .i64 0, .int .i64 0, .int .i64 0, .int .i64 0, .int .i64 0, .int .i64 0, .int .i64 0, .int .i64 0, .int .i64 0, .int .i64 0, .int .i64 0, .int .i64 0, .int .i64 0, .int .i64 0, .int .i64 0, .int .i64 0, .int .i64 0, .int .i64 0]] 8 (World.laidAll_os _ _ _)
      (World.shaped_of_ZipB (by kernel_rfl) (by kernel_rfl)) (by kernel_rfl) (by kernel_rfl) (by kernel_rfl)
      (by rw [MakeChecks.laidMetH_plain _ _ _ (by kernel_rfl)]; exact laidMet_laidAll _ (by kernel_rfl) (by kernel_rfl))) ?_
  intro W base args ds gs before hval0 hW hL hsh hz
  have hval : ∀ (j : Nat) t v, Tryd.f7.params[j]? = some t → args[j]? = some v → Value.okWide Tryd.prog W .any base t v := hval0
  have hW' := hW
  have hwt := hz.weights hW
  obtain ⟨p, q, hA0, hV, rfl, hfz, hnd⟩ := hW
  have hA : DataW.TrodAll enc Tryd.prog W 0 (fun _ => true) true Tryd.f7.params.toList args.toList ds p := hA0
  rw [Tryd.params7] at hA hval
  obtain ⟨v0, vs0, d0, ds0, p0, q0, hargs, rfl, rfl, h0, r0⟩ := trodAll_cons hA
  obtain ⟨v1, vs1, d1, ds1, p1, q1, rfl, rfl, rfl, h1, r1⟩ := trodAll_cons r0
  obtain ⟨v2, vs2, d2, ds2, p2, q2, rfl, rfl, rfl, h2, r2⟩ := trodAll_cons r1
  obtain ⟨rfl, rfl, rfl⟩ := trodAll_nil r2
  obtain rfl : args = #[v0, v1, v2] := by cases args; simp_all
  obtain ⟨rfl, rfl⟩ := trodVars_none hV
  have k0 := h0
  have lt0 : ∀ x ∈ p0, x.block < W.heap.size := by obtain ⟨m, hm⟩ := k0; exact DataW.trod_lt m _ _ _ hm
  have k1 := h1
  have lt1 : ∀ x ∈ p1, x.block < W.heap.size := by obtain ⟨m, hm⟩ := k1; exact DataW.trod_lt m _ _ _ hm
  have k2 := h2
  have lt2 : ∀ x ∈ p2, x.block < W.heap.size := by obtain ⟨m, hm⟩ := k2; exact DataW.trod_lt m _ _ _ hm
  obtain ⟨bo0, a0, cap0, rfl, S0, Q0⟩ := open_conds (hval 0 27 v0 rfl rfl) h0
  obtain ⟨bo1, a1, cap1, rfl, S1, Q1⟩ := open_conds (hval 1 27 v1 rfl rfl) h1
  obtain ⟨a2, rfl, Q2⟩ := open_out (hval 2 26 v2 rfl rfl) h2
  have l0 := len_sized (j := 0) (t := 27) (e := 30) (by kernel_rfl) (by kernel_rfl) h0 hwt (by kernel_rfl) rfl
  have l1 := len_sized (j := 1) (t := 27) (e := 30) (by kernel_rfl) (by kernel_rfl) h1 hwt (by kernel_rfl) rfl
  clear hA0 hval0
  refine (law a0 a1 a2 W l0 l1 S0 Q0 S1 Q1 Q2 (tab_of hL)).mono fun e W' ⟨he, bel⟩ => ?_
  subst he
  exact ⟨_, rfl, _, _, _, [], _, [], hW', trodAll_mk1 (shut_bool Tryd.underlying4 _), (trodAll_cons_mk (Below.trod laidOut (by kernel_rfl) (of_decide_eq_true (by kernel_rfl)) k0 bel lt0) (trodAll_cons_mk (Below.trod laidOut (by kernel_rfl) (of_decide_eq_true (by kernel_rfl)) k1 bel lt1) (trodAll_cons_mk (Below.trod laidOut (by kernel_rfl) (of_decide_eq_true (by kernel_rfl)) k2 bel lt2) trodAll_mk0))), rfl, bel.frame _, fun h => by cases h⟩
theorem row : Rows.CondLogicSaid :=
  OpenClaim.holds_of_wide 7 Tryd.f7 rfl rfl rfl rfl rfl rfl rfl ⟨rfl, rfl, rfl, rfl, rfl⟩ rfl rfl rfl rfl rfl (by kernel_rfl) Tryd.func7 (by kernel_rfl)
    (of_decide_eq_true (by kernel_rfl)) (by unfold Func.isWrapper; first | (rw [if_pos (by decide +kernel)]; kernel_rfl) | (rw [if_neg (by decide +kernel)]; exact ⟨rfl, rfl⟩))
    (fun os started H enc _ => lifted os started H enc)
theorem card : Rows.CondLogicCardSaid :=
  Claim7.holds_tied_plain_at .later [] [.data, .data, .data] true (true, Rows.condLogicCard.stood.harness.2) false
    row (fun _ h => by cases h) (by kernel_rfl) (fun _ h => by cases h) condLogic_row_tie rfl ⟨rfl, rfl⟩ (by kernel_rfl) rfl
    (fun f fn hf hfn => by
      obtain rfl : f = 7 := Option.some.inj ((show Tryd.prog.funcNamed Rows.condLogicRow.func = some 7 by kernel_rfl).symm.trans hf) |>.symm
      obtain rfl : fn = Tryd.f7 := (Option.some.inj (Tryd.func7.symm.trans hfn)).symm
      exact ⟨by kernel_rfl, fun j t ht => by
        rw [Tryd.params7] at ht
        have hm : t ∈ [27, 27, 26] := by simpa using Array.mem_of_getElem? ht
        have hall : ([27, 27, 26].all fun u => !Tryd.prog.wantsStandIn u) = true := by kernel_rfl
        exact (show Tryd.prog.wantsStandIn t = false by simpa using List.all_eq_true.1 hall t hm)⟩)
    (by kernel_rfl)
end Go.Proofs.YtfdfjakafiglmaaDoor.condLogic
namespace Go.Proofs.YtfdfjakafiglmaaDoor
theorem condLogic_holds : Rows.CondLogicCardSaid := condLogic.card
end Go.Proofs.YtfdfjakafiglmaaDoor
#print axioms Go.Proofs.YtfdfjakafiglmaaDoor.condLogic_holds
