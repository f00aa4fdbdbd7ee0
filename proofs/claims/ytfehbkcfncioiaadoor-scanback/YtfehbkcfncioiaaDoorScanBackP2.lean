/- How far a run goes; prefixes. -/
import Derived.Test.YtfehbkcfncioiaaDoorScanBackP1
import Derived.Shelf.Small.Strs
import Derived.Shelf.Strings.Search3
import Derived.Lib.ConvBytes
import Derived.WideLaws
import Derived.Laws.AppendOwn
namespace Go.Proofs.YtfehbkcfncioiaaDoor
open Go.RowKit
set_option linter.unusedSimpArgs false
set_option linter.unusedVariables false
theorem ent48 : ((Tryd.prog.funcs[48]?).map fun fn => (fn.name == "runtime.NumGoroutine", fn.body.isNone)) = some (false, false) := by kernel_rfl
theorem str9 : strB Tryd.prog 9 = true := by kernel_rfl
set_option maxHeartbeats 4000000 in
set_option maxRecDepth 4000 in
theorem run_any (l : List UInt8) (f : Nat) (p : UInt8 → Bool) (w : World) (hl : l.length ≤ 9223372036854775806) (hent : ((Tryd.prog.funcs[f]?).map fun fn => (fn.name == "runtime.NumGoroutine", fn.body.isNone)) = some (false, false)) (hcon : ∀ b w, Calls Tryd.prog f #[.int .u8 ((b.toNat : Nat) : Int)] w fun e w' => e = .returned (.bool (p b)) ∧ Grow w w') : Calls Tryd.prog 42 #[.string (S l), .func (.func f) #[] #[]] w fun e w' => e = .returned (.int .i64 (((rn p l : Nat) : Int))) ∧ Grow w w' := by
  have b0 : Below w.heap.size w w := Below.refl _ _
  refine enter (n := 20) Tryd.func42 rfl rfl (Nat.le_of_ble_eq_true rfl) ?_
  intro a1 hA2
  refine wp_seq ?_
  refine wp_region_lit ?_
  refine q_step hA2 rfl (d_assign (wn rfl) (hA2.ev (v := (.int .i64 0)) rfl) ?_)
  intro a3 hA4
  refine q_end ?_
  refine t_norm ?_
  refine wp_seq ?_
  refine wp_region_lit ?_
  refine q_step hA4 rfl (d_assign (wn rfl) (hA4.ev (v := (.int .i64 0)) rfl) ?_)
  intro a5 hA6
  refine q_end ?_
  refine t_norm ?_
  refine wp_seq ?_
  refine wp_block ?_
  refine loop_by (fun m8 a9 w10 => ∃ j7 : Nat, m8 = l.length - j7 ∧ (j7 ≤ l.length ∧ rn p l = j7 + rn p (List.drop j7 l)) ∧ St 20 [(0, (.string (S l))), (1, (.func (.func f) #[] #[])), (4, (.int .i64 0)), (5, (.int .i64 ((j7 : Nat) : Int)))] a9 ∧ Below w.heap.size w w10) (l.length - 0) ⟨0, rfl, (by simp), hA6.cut _ (fm_cons (hA6.get 0 _ rfl) (fm_cons (hA6.get 1 _ rfl) (fm_cons (hA6.get 4 _ rfl) (fm_cons ((hA6.get 5 _ rfl).trans (congrArg (Value.int .i64) (by omega))) fm_nil)))), b0⟩ ?_
  rintro m8 a9 w10 ⟨j7, hm13, hc14, hA11, b12⟩
  obtain ⟨hjl, hrn⟩ := hc14
  refine wp_seq ?_
  refine wp_seq ?_
  refine wp_region_lit ?_
  refine q_step hA11 rfl (d_move (wn rfl) (hA11.ev (v := (.int .i64 ((j7 : Nat) : Int))) rfl) ?_)
  intro a15 hA16
  refine q_step hA16 rfl (d_move (wn rfl) (hA16.ev (v := (.string (S l))) rfl) ?_)
  intro a17 hA18
  refine q_step hA18 rfl (d_slen (wn rfl) (hA18.ev (v := (.string (S l))) rfl) str9 ?_)
  intro a19 hA20
  rcases Bool.eq_false_or_eq_true (decide (((j7 : Nat) : Int) < ((l.length : Nat) : Int))) with hb21 | hb21
  · skip
    have hq22 := of_decide_eq_true hb21
    refine q_step hA20 rfl (d_bin (wn rfl) (hA20.ev (v := (.int .i64 ((j7 : Nat) : Int))) rfl) (hA20.ev (v := (.int .i64 ((l.length : Nat) : Int))) rfl) (b_lt _ _ ((j7 : Nat) : Int) ((l.length : Nat) : Int) true _ hb21) ?_)
    intro a23 hA24
    refine q_step hA24 rfl (d_move (wn rfl) (hA24.ev (v := (.bool true)) rfl) ?_)
    intro a25 hA26
    refine q_step hA26 rfl (d_move (wy rfl rfl (hA26.get 10 _ rfl)) (hA26.ev (v := (.func (.func f) #[] #[])) rfl) ?_)
    intro a27 hA28
    refine q_step hA28 rfl (d_move (wy rfl rfl (hA28.get 10 _ rfl)) (hA28.ev (v := (.string (S l))) rfl) ?_)
    intro a29 hA30
    refine q_step hA30 rfl (d_move (wy rfl rfl (hA30.get 10 _ rfl)) (hA30.ev (v := (.int .i64 ((j7 : Nat) : Int))) rfl) ?_)
    intro a31 hA32
    obtain ⟨y33, hy34⟩ : ∃ y33, l[j7]? = some y33 := ⟨_, List.getElem?_eq_getElem (show j7 < l.length by omega)⟩
    refine q_step hA32 rfl (d_sat (j := j7) (wy rfl rfl (hA32.get 10 _ rfl)) (hA32.ev (v := (.string (S l))) rfl) (hA32.ev (v := (.int .i64 ((j7 : Nat) : Int))) rfl) str9 hy34 ?_)
    intro a35 hA36
    refine q_step hA36 rfl (d_callv (f := f) (wy rfl rfl (hA36.get 10 _ rfl)) (hA36.ev (v := (.func (.func f) #[] #[])) rfl) hent (map1 (hA36.ev (v := (.int .u8 ((y33.toNat : Nat) : Int))) rfl)) (hcon y33 w10) ?_)
    rintro e40 w37 ⟨he39, hG38⟩
    have b41 := below_grow b12 hG38 b12.size
    rcases Bool.eq_false_or_eq_true (p y33) with hb42 | hb42
    · skip
      refine ⟨.bool true, he39.trans (ret_bool hb42), ?_⟩
      intro a44 hA45
      refine q_step hA45 rfl (d_pickT (wn rfl) (hA45.ev (v := (.bool true)) rfl) (hA45.ev (v := (.bool true)) rfl) ?_)
      intro a46 hA47
      refine q_end ?_
      refine t_norm ?_
      refine c_true hA47 rfl ?_
      refine wp_skip ?_
      refine t_norm ?_
      refine wp_block ?_
      refine wp_region_lit ?_
      refine q_step hA47 rfl (d_move (wn rfl) (hA47.ev (v := (.int .i64 ((j7 : Nat) : Int))) rfl) ?_)
      intro a48 hA49
      refine q_step hA49 rfl (d_bin (wn rfl) (hA49.ev (v := (.int .i64 ((j7 : Nat) : Int))) rfl) (hA49.ev (v := (.int .i64 1)) rfl) (b_add _ _ ((j7 : Nat) : Int) 1 _ (by omega) (by omega)) ?_)
      intro a50 hA51
      refine q_step hA51 rfl (d_assign (wn rfl) (hA51.ev (v := (.int .i64 (((j7 : Nat) : Int) + 1))) rfl) ?_)
      intro a52 hA53
      refine q_end ?_
      refine i_norm ?_
      refine t_norm ?_
      have hst := rn_go hy34 hb42
      exact ⟨l.length - (j7 + 1), (by rw [hm13]; omega), j7 + 1, rfl, (by omega), hA53.cut _ (fm_cons (hA53.get 0 _ rfl) (fm_cons (hA53.get 1 _ rfl) (fm_cons (hA53.get 4 _ rfl) (fm_cons ((hA53.get 5 _ rfl).trans (congrArg (Value.int .i64) (by omega))) fm_nil)))), b41⟩
    · skip
      refine ⟨.bool false, he39.trans (ret_bool hb42), ?_⟩
      intro a55 hA56
      refine q_step hA56 rfl (d_pickT (wn rfl) (hA56.ev (v := (.bool true)) rfl) (hA56.ev (v := (.bool false)) rfl) ?_)
      intro a57 hA58
      refine q_end ?_
      refine t_norm ?_
      refine c_false hA58 rfl ?_
      refine wp_exit ?_
      refine t_exit ?_
      refine t_exit ?_
      refine i_here ?_
      refine t_norm ?_
      refine wp_seq ?_
      refine wp_region_lit ?_
      refine q_step hA58 rfl (d_move (wn rfl) (hA58.ev (v := (.int .i64 ((j7 : Nat) : Int))) rfl) ?_)
      intro a59 hA60
      refine q_step hA60 rfl (d_assign (wn rfl) (hA60.ev (v := (.int .i64 ((j7 : Nat) : Int))) rfl) ?_)
      intro a61 hA62
      refine q_end ?_
      refine t_norm ?_
      refine wp_ret ?_
      refine ret1 rfl hA62 (v := (.int .i64 ((j7 : Nat) : Int))) rfl ?_
      have hst := rn_stop (p := p) hy34 hb42
      exact ⟨congrArg (fun z => Ending.returned (Value.int .i64 z)) (by omega), b41⟩
  · skip
    have hq63 := of_decide_eq_false hb21
    refine q_step hA20 rfl (d_bin (wn rfl) (hA20.ev (v := (.int .i64 ((j7 : Nat) : Int))) rfl) (hA20.ev (v := (.int .i64 ((l.length : Nat) : Int))) rfl) (b_lt _ _ ((j7 : Nat) : Int) ((l.length : Nat) : Int) false _ hb21) ?_)
    intro a64 hA65
    refine q_step hA65 rfl (d_move (wn rfl) (hA65.ev (v := (.bool false)) rfl) ?_)
    intro a66 hA67
    refine q_step hA67 rfl (does_not (wno rfl rfl (.inl (hA67.get 10 _ rfl))) ?_)
    intro a68 hA69
    refine q_step hA69 rfl (does_not (wno rfl rfl (.inl (hA69.get 10 _ rfl))) ?_)
    intro a70 hA71
    refine q_step hA71 rfl (does_not (wno rfl rfl (.inl (hA71.get 10 _ rfl))) ?_)
    intro a72 hA73
    refine q_step hA73 rfl (does_not (wno rfl rfl (.inl (hA73.get 10 _ rfl))) ?_)
    intro a74 hA75
    refine q_step hA75 rfl (does_not (wno rfl rfl (.inl (hA75.get 10 _ rfl))) ?_)
    intro a76 hA77
    refine q_step hA77 rfl (d_pickF (wn rfl) (hA77.ev (v := (.bool false)) rfl) (hA77.ev (v := (.bool false)) rfl) ?_)
    intro a78 hA79
    refine q_end ?_
    refine t_norm ?_
    refine c_false hA79 rfl ?_
    refine wp_exit ?_
    refine t_exit ?_
    refine t_exit ?_
    refine i_here ?_
    refine t_norm ?_
    refine wp_seq ?_
    refine wp_region_lit ?_
    refine q_step hA79 rfl (d_move (wn rfl) (hA79.ev (v := (.int .i64 ((j7 : Nat) : Int))) rfl) ?_)
    intro a80 hA81
    refine q_step hA81 rfl (d_assign (wn rfl) (hA81.ev (v := (.int .i64 ((j7 : Nat) : Int))) rfl) ?_)
    intro a82 hA83
    refine q_end ?_
    refine t_norm ?_
    refine wp_ret ?_
    refine ret1 rfl hA83 (v := (.int .i64 ((j7 : Nat) : Int))) rfl ?_
    have hst : rn p (List.drop j7 l) = 0 := rn_end (by omega)
    exact ⟨congrArg (fun z => Ending.returned (Value.int .i64 z)) (by omega), b12⟩
set_option maxHeartbeats 4000000 in
set_option maxRecDepth 4000 in
theorem hasPrefixL_any (l q : List UInt8) (w : World) : Calls Tryd.prog 48 #[.string (S l), .string (S q)] w fun e w' => e = .returned (.bool (preB l q)) ∧ Grow w w' := by
  have b0 : Below w.heap.size w w := Below.refl _ _
  refine enter (n := 18) Tryd.func48 rfl rfl (Nat.le_of_ble_eq_true rfl) ?_
  intro a1 hA2
  refine wp_seq ?_
  refine wp_region_lit ?_
  refine q_step hA2 rfl (d_assign (wn rfl) (hA2.ev (v := (.bool false)) rfl) ?_)
  intro a3 hA4
  refine q_end ?_
  refine t_norm ?_
  refine wp_seq ?_
  refine wp_region_lit ?_
  refine q_step hA4 rfl (d_move (wn rfl) (hA4.ev (v := (.string (S l))) rfl) ?_)
  intro a5 hA6
  refine q_step hA6 rfl (d_slen (wn rfl) (hA6.ev (v := (.string (S l))) rfl) str9 ?_)
  intro a7 hA8
  refine q_step hA8 rfl (d_move (wn rfl) (hA8.ev (v := (.string (S q))) rfl) ?_)
  intro a9 hA10
  refine q_step hA10 rfl (d_slen (wn rfl) (hA10.ev (v := (.string (S q))) rfl) str9 ?_)
  intro a11 hA12
  rcases Bool.eq_false_or_eq_true (decide (((l.length : Nat) : Int) ≥ ((q.length : Nat) : Int))) with hb13 | hb13
  · skip
    have hq14 := of_decide_eq_true hb13
    refine q_step hA12 rfl (d_bin (wn rfl) (hA12.ev (v := (.int .i64 ((l.length : Nat) : Int))) rfl) (hA12.ev (v := (.int .i64 ((q.length : Nat) : Int))) rfl) (b_ge _ _ ((l.length : Nat) : Int) ((q.length : Nat) : Int) true _ hb13) ?_)
    intro a15 hA16
    refine q_step hA16 rfl (d_move (wn rfl) (hA16.ev (v := (.bool true)) rfl) ?_)
    intro a17 hA18
    refine q_step hA18 rfl (d_move (wy rfl rfl (hA18.get 10 _ rfl)) (hA18.ev (v := (.string (S l))) rfl) ?_)
    intro a19 hA20
    refine q_step hA20 rfl (d_move (wy rfl rfl (hA20.get 10 _ rfl)) (hA20.ev (v := (.string (S q))) rfl) ?_)
    intro a21 hA22
    refine q_step hA22 rfl (d_slen (wy rfl rfl (hA22.get 10 _ rfl)) (hA22.ev (v := (.string (S q))) rfl) str9 ?_)
    intro a23 hA24
    refine q_step hA24 rfl (d_shead (n := q.length) (wy rfl rfl (hA24.get 10 _ rfl)) (hA24.ev (v := (.string (S l))) rfl) (hA24.ev (v := (.int .i64 ((q.length : Nat) : Int))) rfl) str9 (by omega) ?_)
    intro a25 hA26
    refine q_step hA26 rfl (d_move (wy rfl rfl (hA26.get 10 _ rfl)) (hA26.ev (v := (.string (S q))) rfl) ?_)
    intro a27 hA28
    rcases Bool.eq_false_or_eq_true (eqL (List.take q.length l) q) with hb29 | hb29
    · skip
      refine q_step hA28 rfl (d_bin (wy rfl rfl (hA28.get 10 _ rfl)) (hA28.ev (v := (.string (S (List.take q.length l)))) rfl) (hA28.ev (v := (.string (S q))) rfl) (b_seq (l := List.take q.length l) (m := q) (r := true) hb29) ?_)
      intro a31 hA32
      refine q_step hA32 rfl (d_pickT (wn rfl) (hA32.ev (v := (.bool true)) rfl) (hA32.ev (v := (.bool true)) rfl) ?_)
      intro a33 hA34
      refine q_step hA34 rfl (d_assign (wn rfl) (hA34.ev (v := (.bool true)) rfl) ?_)
      intro a35 hA36
      refine q_end ?_
      refine t_norm ?_
      refine wp_ret ?_
      refine ret1 rfl hA36 (v := (.bool true)) rfl ?_
      exact ⟨congrArg (fun b => Ending.returned (Value.bool b)) (by exact (pre_yes (by omega) hb29).symm), b0⟩
    · skip
      refine q_step hA28 rfl (d_bin (wy rfl rfl (hA28.get 10 _ rfl)) (hA28.ev (v := (.string (S (List.take q.length l)))) rfl) (hA28.ev (v := (.string (S q))) rfl) (b_seq (l := List.take q.length l) (m := q) (r := false) hb29) ?_)
      intro a38 hA39
      refine q_step hA39 rfl (d_pickT (wn rfl) (hA39.ev (v := (.bool true)) rfl) (hA39.ev (v := (.bool false)) rfl) ?_)
      intro a40 hA41
      refine q_step hA41 rfl (d_assign (wn rfl) (hA41.ev (v := (.bool false)) rfl) ?_)
      intro a42 hA43
      refine q_end ?_
      refine t_norm ?_
      refine wp_ret ?_
      refine ret1 rfl hA43 (v := (.bool false)) rfl ?_
      exact ⟨congrArg (fun b => Ending.returned (Value.bool b)) (by first | exact (pre_short (by omega)).symm | exact (pre_no (by omega) hb29).symm), b0⟩
  · skip
    have hq44 := of_decide_eq_false hb13
    refine q_step hA12 rfl (d_bin (wn rfl) (hA12.ev (v := (.int .i64 ((l.length : Nat) : Int))) rfl) (hA12.ev (v := (.int .i64 ((q.length : Nat) : Int))) rfl) (b_ge _ _ ((l.length : Nat) : Int) ((q.length : Nat) : Int) false _ hb13) ?_)
    intro a45 hA46
    refine q_step hA46 rfl (d_move (wn rfl) (hA46.ev (v := (.bool false)) rfl) ?_)
    intro a47 hA48
    refine q_step hA48 rfl (does_not (wno rfl rfl (.inl (hA48.get 10 _ rfl))) ?_)
    intro a49 hA50
    refine q_step hA50 rfl (does_not (wno rfl rfl (.inl (hA50.get 10 _ rfl))) ?_)
    intro a51 hA52
    refine q_step hA52 rfl (does_not (wno rfl rfl (.inl (hA52.get 10 _ rfl))) ?_)
    intro a53 hA54
    refine q_step hA54 rfl (does_not (wno rfl rfl (.inl (hA54.get 10 _ rfl))) ?_)
    intro a55 hA56
    refine q_step hA56 rfl (does_not (wno rfl rfl (.inl (hA56.get 10 _ rfl))) ?_)
    intro a57 hA58
    refine q_step hA58 rfl (does_not (wno rfl rfl (.inl (hA58.get 10 _ rfl))) ?_)
    intro a59 hA60
    refine q_step hA60 rfl (d_pickF (wn rfl) (hA60.ev (v := (.bool false)) rfl) (hA60.ev (v := (.bool false)) rfl) ?_)
    intro a61 hA62
    refine q_step hA62 rfl (d_assign (wn rfl) (hA62.ev (v := (.bool false)) rfl) ?_)
    intro a63 hA64
    refine q_end ?_
    refine t_norm ?_
    refine wp_ret ?_
    refine ret1 rfl hA64 (v := (.bool false)) rfl ?_
    exact ⟨congrArg (fun b => Ending.returned (Value.bool b)) (by first | exact (pre_short (by omega)).symm | exact (pre_no (by omega) hb13).symm), b0⟩
set_option maxHeartbeats 4000000 in
set_option maxRecDepth 4000 in
theorem hasPrefix_any (l q : List UInt8) (w : World) : Calls Tryd.prog 38 #[.string (S l), .string (S q)] w fun e w' => e = .returned (.bool (preB l q)) ∧ Grow w w' := by
  have b0 : Below w.heap.size w w := Below.refl _ _
  refine enter (n := 8) Tryd.func38 rfl rfl (Nat.le_of_ble_eq_true rfl) ?_
  intro a1 hA2
  refine wp_seq ?_
  refine wp_region_lit ?_
  refine q_step hA2 rfl (d_assign (wn rfl) (hA2.ev (v := (.bool false)) rfl) ?_)
  intro a3 hA4
  refine q_end ?_
  refine t_norm ?_
  refine wp_seq ?_
  refine wp_region_lit ?_
  refine q_step hA4 rfl (d_move (wn rfl) (hA4.ev (v := (.string (S l))) rfl) ?_)
  intro a5 hA6
  refine q_step hA6 rfl (d_move (wn rfl) (hA6.ev (v := (.string (S q))) rfl) ?_)
  intro a7 hA8
  refine q_step hA8 rfl (d_call (wn rfl) ent48 (map2 (hA8.ev (v := (.string (S l))) rfl) (hA8.ev (v := (.string (S q))) rfl)) (hasPrefixL_any l q w) ?_)
  rintro e12 w9 ⟨he11, hG10⟩
  have b13 := below_grow b0 hG10 b0.size
  rcases Bool.eq_false_or_eq_true (preB l q) with hb14 | hb14
  · skip
    refine ⟨.bool true, he11.trans (ret_bool hb14), ?_⟩
    intro a16 hA17
    refine q_step hA17 rfl (d_assign (wn rfl) (hA17.ev (v := (.bool true)) rfl) ?_)
    intro a18 hA19
    refine q_end ?_
    refine t_norm ?_
    refine wp_ret ?_
    refine ret1 rfl hA19 (v := (.bool true)) rfl ?_
    exact ⟨ret_bool hb14.symm, b13⟩
  · skip
    refine ⟨.bool false, he11.trans (ret_bool hb14), ?_⟩
    intro a21 hA22
    refine q_step hA22 rfl (d_assign (wn rfl) (hA22.ev (v := (.bool false)) rfl) ?_)
    intro a23 hA24
    refine q_end ?_
    refine t_norm ?_
    refine wp_ret ?_
    refine ret1 rfl hA24 (v := (.bool false)) rfl ?_
    exact ⟨ret_bool hb14.symm, b13⟩
end Go.Proofs.YtfehbkcfncioiaaDoor
/- The library's strings.IndexByte and strings.Index at this program: the numbers under which it holds their bodies, and what they return. -/
namespace Go.Proofs.YtfehbkcfncioiaaDoor
open Go.Shelf Go.RowKit
set_option linter.unusedVariables false
def lays137_ren : Go.Shelf.Ren := ⟨fun | 137 => 53 | 217 => 54 | 266 => 61 | n => n, fun | 9 => 9 | 5 => 5 | 3 => 3 | n => n, fun | n => n⟩
theorem lays137 : Go.Proofs.Lays.n137 Tryd.prog lays137_ren := {
  mixed := by kernel_rfl
  f137 := Tryd.func53.trans (congrArg some (by kernel_rfl))
  f217 := Tryd.func54.trans (congrArg some (by kernel_rfl))
  f266 := Tryd.func61.trans (congrArg some (by kernel_rfl))
  t3 := Tryd.underlying3
  a3 := Tryd.isAgg3
  z3 := Tryd.sizeOf3
  v3 := Tryd.zeroValue3
  t5 := Tryd.underlying5
  a5 := Tryd.isAgg5
  z5 := Tryd.sizeOf5
  v5 := Tryd.zeroValue5
  t9 := Tryd.underlying9
  a9 := Tryd.isAgg9
  z9 := Tryd.sizeOf9
  v9 := Tryd.zeroValue9 }
def lays143_ren : Go.Shelf.Ren := ⟨fun | 143 => 39 | 219 => 49 | 217 => 54 | 225 => 55 | 224 => 56 | 267 => 57 | 266 => 61 | 314 => 62 | n => n, fun | 9 => 9 | 3 => 3 | 4 => 4 | 5 => 5 | 46 => 79 | 146 => 82 | 51 => 81 | n => n, fun | 1 => 0 | n => n⟩
theorem lays143 : Go.Proofs.Lays.n143 Tryd.prog lays143_ren := {
  mixed := by kernel_rfl
  f143 := Tryd.func39.trans (congrArg some (by kernel_rfl))
  f217 := Tryd.func54.trans (congrArg some (by kernel_rfl))
  f219 := Tryd.func49.trans (congrArg some (by kernel_rfl))
  f224 := Tryd.func56.trans (congrArg some (by kernel_rfl))
  f225 := Tryd.func55.trans (congrArg some (by kernel_rfl))
  f266 := Tryd.func61.trans (congrArg some (by kernel_rfl))
  f267 := Tryd.func57.trans (congrArg some (by kernel_rfl))
  f314 := Tryd.func62.trans (congrArg some (by kernel_rfl))
  t3 := Tryd.underlying3
  a3 := Tryd.isAgg3
  z3 := Tryd.sizeOf3
  v3 := Tryd.zeroValue3
  t4 := Tryd.underlying4
  a4 := Tryd.isAgg4
  z4 := Tryd.sizeOf4
  v4 := Tryd.zeroValue4
  t5 := Tryd.underlying5
  a5 := Tryd.isAgg5
  z5 := Tryd.sizeOf5
  v5 := Tryd.zeroValue5
  t9 := Tryd.underlying9
  a9 := Tryd.isAgg9
  z9 := Tryd.sizeOf9
  v9 := Tryd.zeroValue9
  t46 := Tryd.underlying79
  a46 := Tryd.isAgg79
  z46 := Tryd.sizeOf79
  v46 := Tryd.zeroValue79
  t51 := Tryd.underlying81
  a51 := Tryd.isAgg81
  z51 := Tryd.sizeOf81
  v51 := Tryd.zeroValue81
  t146 := Tryd.underlying82
  a146 := Tryd.isAgg82
  z146 := Tryd.sizeOf82
  v146 := Tryd.zeroValue82
  g1 := by kernel_rfl }

def marksL : List UInt8 := [123, 125, 40, 41, 91, 93, 59, 124, 44, 58, 61, 43, 45, 35, 36, 126, 42, 47, 92, 38, 63, 94]
/-- is a byte a mark? -/
def mrkB (b : UInt8) : Bool := marksL.contains b
theorem indexByte_mark (l : List UInt8) (b : UInt8) : decide (Lib.indexByte l b ≥ 0) = l.contains b := by
  induction l with
  | nil => rfl
  | cons x l ih =>
    unfold Lib.indexByte
    rw [List.contains_cons]
    by_cases h : x = b
    · subst h; simp
    · have h1 : (x == b) = false := by simp [h]
      have h2 : (b == x) = false := by simp [Ne.symm h]
      rw [h1, h2]
      simp only [Bool.false_eq_true, if_false, Bool.false_or]
      rw [← ih]
      have h3 := Lib.indexByte_ge l b
      by_cases h4 : Lib.indexByte l b = -1
      · simp [h4]
      · have h5 : (Lib.indexByte l b == -1) = false := by simp [h4]
        rw [h5]
        simp only [Bool.false_eq_true, if_false]
        exact decide_eq_decide.2 (by omega)
theorem indexByte_any (b : UInt8) (w : World) : Calls Tryd.prog 53 #[.string (S marksL), .int .u8 ((b.toNat : Nat) : Int)] w fun e w' => e = .returned (.int .i64 (Lib.indexByte marksL b)) ∧ Grow w w' := by
  refine (Any.strings_IndexByte lays137 (S marksL) ((b.toNat : Nat) : Int) w).mono ?_
  rintro e w' ⟨rfl, rfl⟩
  refine ⟨?_, Grow.refl _⟩
  rw [S_data, Int.toNat_natCast]
  simp
theorem index_any (l q : List UInt8) (m : Int) (w : World) (hl : l.length ≤ 8192) (hm : w.cell? ⟨0, 0, none⟩ = some (.int .i64 m)) : Calls Tryd.prog 39 #[.string (S l), .string (S q)] w fun e w' => e = .returned (.int .i64 (Lib.index l q)) ∧ Grow w w' := by
  refine (Any.strings_Index lays143 (S l) (S q) m w (by rw [S_size]; omega) hm).mono ?_
  rintro e w' ⟨rfl, rfl⟩
  exact ⟨by rw [S_data, S_data], Grow.refl _⟩
end Go.Proofs.YtfehbkcfncioiaaDoor
/- Marks. -/
namespace Go.Proofs.YtfehbkcfncioiaaDoor
set_option linter.unusedVariables false

/-- how many bytes the mark has that a text begins with -/
def mkN (l : List UInt8) : Nat := if preB l [47, 92] || preB l [92, 47] then 2 else if (match l[0]? with | some b => mrkB b | none => false) then 1 else 0
theorem mkN_two {l : List UInt8} (h : preB l [47, 92] = true) : mkN l = 2 := by unfold mkN; simp [h]
theorem mkN_two' {l : List UInt8} (h : preB l [92, 47] = true) : mkN l = 2 := by unfold mkN; simp [h]
theorem mkN_one {l : List UInt8} {b : UInt8} (h1 : preB l [47, 92] = false) (h2 : preB l [92, 47] = false) (hb : l[0]? = some b) (h : decide (Lib.indexByte marksL b ≥ 0) = true) : mkN l = 1 := by
  have : mrkB b = true := by unfold mrkB; rw [← indexByte_mark]; exact h
  unfold mkN; simp [h1, h2, hb, this]
theorem mkN_no {l : List UInt8} {b : UInt8} (h1 : preB l [47, 92] = false) (h2 : preB l [92, 47] = false) (hb : l[0]? = some b) (h : decide (Lib.indexByte marksL b ≥ 0) = false) : mkN l = 0 := by
  have : mrkB b = false := by unfold mrkB; rw [← indexByte_mark]; exact h
  unfold mkN; simp [h1, h2, hb, this]
theorem mk_len : marksL.length = 22 := rfl
theorem mk_go {c y : UInt8} {j : Nat} (h : (marksL.drop j).contains c = mrkB c) (hy : marksL[j]? = some y) (hn : ¬ ((y.toNat : Nat) : Int) = ((c.toNat : Nat) : Int)) : (marksL.drop (j + 1)).contains c = mrkB c := by
  rw [← h, drop_at hy, List.contains_cons]
  have : (c == y) = false := by
    cases he : c == y
    · rfl
    · exact absurd (by rw [eq_of_beq he]) hn
  rw [this, Bool.false_or]
theorem mk_yes {c y : UInt8} {j : Nat} (h : (marksL.drop j).contains c = mrkB c) (hy : marksL[j]? = some y) (hn : ((y.toNat : Nat) : Int) = ((c.toNat : Nat) : Int)) : mrkB c = true := by
  rw [← h, drop_at hy, List.contains_cons]
  have : y = c := UInt8.toNat_inj.1 (by omega)
  simp [this]
theorem mk_end {c : UInt8} {j : Nat} (h : (marksL.drop j).contains c = mrkB c) (hj : 22 ≤ j) : mrkB c = false := by
  rw [← h, List.drop_eq_nil_of_le (by rw [mk_len]; exact hj)]; rfl
end Go.Proofs.YtfehbkcfncioiaaDoor
/- A text without its prefix. -/
namespace Go.Proofs.YtfehbkcfncioiaaDoor
def cutF (l q : List UInt8) : List UInt8 := if preB l q then l.drop q.length else l
theorem pre_len {l q : List UInt8} (h : preB l q = true) : q.length ≤ l.length := by unfold preB at h; rw [Bool.and_eq_true] at h; exact of_decide_eq_true h.1
end Go.Proofs.YtfehbkcfncioiaaDoor
/- CutPrefix, markLen; the reference's mark and run. -/
namespace Go.Proofs.YtfehbkcfncioiaaDoor
open Go.RowKit
set_option linter.unusedSimpArgs false
set_option linter.unusedVariables false
theorem ent28 : ((Tryd.prog.funcs[28]?).map fun fn => (fn.name == "runtime.NumGoroutine", fn.body.isNone)) = some (false, false) := by kernel_rfl
theorem ent31 : ((Tryd.prog.funcs[31]?).map fun fn => (fn.name == "runtime.NumGoroutine", fn.body.isNone)) = some (false, false) := by kernel_rfl
theorem ent38 : ((Tryd.prog.funcs[38]?).map fun fn => (fn.name == "runtime.NumGoroutine", fn.body.isNone)) = some (false, false) := by kernel_rfl
theorem ent53 : ((Tryd.prog.funcs[53]?).map fun fn => (fn.name == "runtime.NumGoroutine", fn.body.isNone)) = some (false, false) := by kernel_rfl
theorem ent58 : ((Tryd.prog.funcs[58]?).map fun fn => (fn.name == "runtime.NumGoroutine", fn.body.isNone)) = some (false, false) := by kernel_rfl
set_option maxHeartbeats 4000000 in
set_option maxRecDepth 4000 in
theorem cutPrefixL_any (l q : List UInt8) (w : World) : Calls Tryd.prog 58 #[.string (S l), .string (S q)] w fun e w' => e = .returned (.tuple #[.string (S (cutF l q)), .bool (preB l q)]) ∧ Grow w w' := by
  have b0 : Below w.heap.size w w := Below.refl _ _
  refine enter (n := 15) Tryd.func58 rfl rfl (Nat.le_of_ble_eq_true rfl) ?_
  intro a1 hA2
  refine wp_seq ?_
  refine wp_region_lit ?_
  refine q_step hA2 rfl (d_assign (wn rfl) (hA2.ev (v := (.string (S []))) rfl) ?_)
  intro a3 hA4
  refine q_step hA4 rfl (d_assign (wn rfl) (hA4.ev (v := (.bool false)) rfl) ?_)
  intro a5 hA6
  refine q_end ?_
  refine t_norm ?_
  refine wp_seq ?_
  refine wp_seq ?_
  refine wp_region_lit ?_
  refine q_step hA6 rfl (d_move (wn rfl) (hA6.ev (v := (.string (S l))) rfl) ?_)
  intro a7 hA8
  refine q_step hA8 rfl (d_move (wn rfl) (hA8.ev (v := (.string (S q))) rfl) ?_)
  intro a9 hA10
  refine q_step hA10 rfl (d_call (wn rfl) ent48 (map2 (hA10.ev (v := (.string (S l))) rfl) (hA10.ev (v := (.string (S q))) rfl)) (hasPrefixL_any l q w) ?_)
  rintro e14 w11 ⟨he13, hG12⟩
  have b15 := below_grow b0 hG12 b0.size
  rcases Bool.eq_false_or_eq_true (preB l q) with hb16 | hb16
  · skip
    refine ⟨.bool true, he13.trans (ret_bool hb16), ?_⟩
    intro a18 hA19
    refine q_step hA19 rfl (d_not (wn rfl) (hA19.ev (v := (.bool true)) rfl) ?_)
    intro a20 hA21
    refine q_end ?_
    refine t_norm ?_
    refine c_false hA21 rfl ?_
    refine wp_skip ?_
    refine t_norm ?_
    refine wp_seq ?_
    refine wp_region_lit ?_
    refine q_step hA21 rfl (d_move (wn rfl) (hA21.ev (v := (.string (S l))) rfl) ?_)
    intro a22 hA23
    refine q_step hA23 rfl (d_move (wn rfl) (hA23.ev (v := (.string (S q))) rfl) ?_)
    intro a24 hA25
    refine q_step hA25 rfl (d_slen (wn rfl) (hA25.ev (v := (.string (S q))) rfl) str9 ?_)
    intro a26 hA27
    refine q_step hA27 rfl (d_srest (n := q.length) (wn rfl) (hA27.ev (v := (.string (S l))) rfl) (hA27.ev (v := (.int .i64 ((q.length : Nat) : Int))) rfl) str9 (by first | omega | (have := pre_len ‹preB _ _ = true›; omega)) ?_)
    intro a28 hA29
    refine q_step hA29 rfl (d_assign (wn rfl) (hA29.ev (v := (.string (S (List.drop q.length l)))) rfl) ?_)
    intro a30 hA31
    refine q_step hA31 rfl (d_assign (wn rfl) (hA31.ev (v := (.bool true)) rfl) ?_)
    intro a32 hA33
    refine q_end ?_
    refine t_norm ?_
    refine wp_ret ?_
    refine ret2 (x := (.string (S (List.drop q.length l)))) (y := (.bool true)) rfl hA33 rfl rfl ?_
    exact ⟨by unfold cutF; rw [hb16]; rfl, b15⟩
  · skip
    refine ⟨.bool false, he13.trans (ret_bool hb16), ?_⟩
    intro a35 hA36
    refine q_step hA36 rfl (d_not (wn rfl) (hA36.ev (v := (.bool false)) rfl) ?_)
    intro a37 hA38
    refine q_end ?_
    refine t_norm ?_
    refine c_true hA38 rfl ?_
    refine wp_seq ?_
    refine wp_region_lit ?_
    refine q_step hA38 rfl (d_move (wn rfl) (hA38.ev (v := (.string (S l))) rfl) ?_)
    intro a39 hA40
    refine q_step hA40 rfl (d_assign (wn rfl) (hA40.ev (v := (.string (S l))) rfl) ?_)
    intro a41 hA42
    refine q_step hA42 rfl (d_assign (wn rfl) (hA42.ev (v := (.bool false)) rfl) ?_)
    intro a43 hA44
    refine q_end ?_
    refine t_norm ?_
    refine wp_ret ?_
    refine t_ret ?_
    refine ret2 (x := (.string (S l))) (y := (.bool false)) rfl hA44 rfl rfl ?_
    exact ⟨by unfold cutF; rw [hb16]; rfl, b15⟩
set_option maxHeartbeats 4000000 in
set_option maxRecDepth 4000 in
theorem cutPrefix_any (l q : List UInt8) (w : World) : Calls Tryd.prog 50 #[.string (S l), .string (S q)] w fun e w' => e = .returned (.tuple #[.string (S (cutF l q)), .bool (preB l q)]) ∧ Grow w w' := by
  have b0 : Below w.heap.size w w := Below.refl _ _
  refine enter (n := 11) Tryd.func50 rfl rfl (Nat.le_of_ble_eq_true rfl) ?_
  intro a1 hA2
  refine wp_seq ?_
  refine wp_region_lit ?_
  refine q_step hA2 rfl (d_assign (wn rfl) (hA2.ev (v := (.string (S []))) rfl) ?_)
  intro a3 hA4
  refine q_step hA4 rfl (d_assign (wn rfl) (hA4.ev (v := (.bool false)) rfl) ?_)
  intro a5 hA6
  refine q_end ?_
  refine t_norm ?_
  refine wp_seq ?_
  refine wp_region_lit ?_
  refine q_step hA6 rfl (d_move (wn rfl) (hA6.ev (v := (.string (S l))) rfl) ?_)
  intro a7 hA8
  refine q_step hA8 rfl (d_move (wn rfl) (hA8.ev (v := (.string (S q))) rfl) ?_)
  intro a9 hA10
  refine q_step hA10 rfl (d_call (wn rfl) ent58 (map2 (hA10.ev (v := (.string (S l))) rfl) (hA10.ev (v := (.string (S q))) rfl)) (cutPrefixL_any l q w) ?_)
  rintro e14 w11 ⟨he13, hG12⟩
  have b15 := below_grow b0 hG12 b0.size
  refine ⟨(.tuple #[(.string (S (cutF l q))), (.bool (preB l q))]), he13, ?_⟩
  intro a16 hA17
  refine q_step hA17 rfl (d_extract (v := (.string (S (cutF l q)))) (wn rfl) (hA17.ev (v := (.tuple #[(.string (S (cutF l q))), (.bool (preB l q))])) rfl) rfl ?_)
  intro a18 hA19
  refine q_step hA19 rfl (d_extract (v := (.bool (preB l q))) (wn rfl) (hA19.ev (v := (.tuple #[(.string (S (cutF l q))), (.bool (preB l q))])) rfl) rfl ?_)
  intro a20 hA21
  refine q_step hA21 rfl (d_assign (wn rfl) (hA21.ev (v := (.string (S (cutF l q)))) rfl) ?_)
  intro a22 hA23
  refine q_step hA23 rfl (d_assign (wn rfl) (hA23.ev (v := (.bool (preB l q))) rfl) ?_)
  intro a24 hA25
  refine q_end ?_
  refine t_norm ?_
  refine wp_ret ?_
  refine ret2 (x := (.string (S (cutF l q)))) (y := (.bool (preB l q))) rfl hA25 rfl rfl ?_
  exact ⟨rfl, b15⟩
set_option maxHeartbeats 4000000 in
set_option maxRecDepth 4000 in
theorem markLen_any (l : List UInt8) (w : World) (hl : 0 < l.length) : Calls Tryd.prog 46 #[.string (S l)] w fun e w' => e = .returned (.int .i64 ((mkN l : Nat) : Int)) ∧ Grow w w' := by
  have b0 : Below w.heap.size w w := Below.refl _ _
  refine enter (n := 13) Tryd.func46 rfl rfl (Nat.le_of_ble_eq_true rfl) ?_
  intro a1 hA2
  refine wp_seq ?_
  refine wp_region_lit ?_
  refine q_step hA2 rfl (d_assign (wn rfl) (hA2.ev (v := (.int .i64 0)) rfl) ?_)
  intro a3 hA4
  refine q_end ?_
  refine t_norm ?_
  refine wp_seq ?_
  refine wp_block ?_
  refine wp_seq ?_
  refine wp_seq ?_
  refine wp_region_lit ?_
  refine q_step hA4 rfl (d_move (wn rfl) (hA4.ev (v := (.string (S l))) rfl) ?_)
  intro a5 hA6
  refine q_step hA6 rfl (d_call (wn rfl) ent38 (map2 (hA6.ev (v := (.string (S l))) rfl) (hA6.ev (v := (.string (S [47, 92]))) rfl)) (hasPrefix_any l [47, 92] w) ?_)
  rintro e10 w7 ⟨he9, hG8⟩
  have b11 := below_grow b0 hG8 b0.size
  rcases Bool.eq_false_or_eq_true (preB l [47, 92]) with hb12 | hb12
  · skip
    refine ⟨.bool true, he9.trans (ret_bool hb12), ?_⟩
    intro a14 hA15
    refine q_step hA15 rfl (d_assign (wn rfl) (hA15.ev (v := (.bool true)) rfl) ?_)
    intro a16 hA17
    refine q_end ?_
    refine t_norm ?_
    refine c_true hA17 rfl ?_
    refine wp_skip ?_
    refine t_norm ?_
    refine c_true hA17 rfl ?_
    refine wp_seq ?_
    refine wp_region_lit ?_
    refine q_step hA17 rfl (d_assign (wn rfl) (hA17.ev (v := (.int .i64 2)) rfl) ?_)
    intro a18 hA19
    refine q_end ?_
    refine t_norm ?_
    refine wp_ret ?_
    refine i_ret ?_
    refine t_ret ?_
    refine ret1 rfl hA19 (v := (.int .i64 2)) rfl ?_
    exact ⟨by rw [mkN_two hb12]; rfl, b11⟩
  · skip
    refine ⟨.bool false, he9.trans (ret_bool hb12), ?_⟩
    intro a21 hA22
    refine q_step hA22 rfl (d_assign (wn rfl) (hA22.ev (v := (.bool false)) rfl) ?_)
    intro a23 hA24
    refine q_end ?_
    refine t_norm ?_
    refine c_false hA24 rfl ?_
    refine wp_region_lit ?_
    refine q_step hA24 rfl (d_move (wn rfl) (hA24.ev (v := (.string (S l))) rfl) ?_)
    intro a25 hA26
    refine q_step hA26 rfl (d_call (wn rfl) ent38 (map2 (hA26.ev (v := (.string (S l))) rfl) (hA26.ev (v := (.string (S [92, 47]))) rfl)) (hasPrefix_any l [92, 47] w7) ?_)
    rintro e30 w27 ⟨he29, hG28⟩
    have b31 := below_grow b11 hG28 b11.size
    rcases Bool.eq_false_or_eq_true (preB l [92, 47]) with hb32 | hb32
    · skip
      refine ⟨.bool true, he29.trans (ret_bool hb32), ?_⟩
      intro a34 hA35
      refine q_step hA35 rfl (d_assign (wn rfl) (hA35.ev (v := (.bool true)) rfl) ?_)
      intro a36 hA37
      refine q_end ?_
      refine t_norm ?_
      refine c_true hA37 rfl ?_
      refine wp_seq ?_
      refine wp_region_lit ?_
      refine q_step hA37 rfl (d_assign (wn rfl) (hA37.ev (v := (.int .i64 2)) rfl) ?_)
      intro a38 hA39
      refine q_end ?_
      refine t_norm ?_
      refine wp_ret ?_
      refine i_ret ?_
      refine t_ret ?_
      refine ret1 rfl hA39 (v := (.int .i64 2)) rfl ?_
      exact ⟨by rw [mkN_two' hb32]; rfl, b31⟩
    · skip
      refine ⟨.bool false, he29.trans (ret_bool hb32), ?_⟩
      intro a41 hA42
      refine q_step hA42 rfl (d_assign (wn rfl) (hA42.ev (v := (.bool false)) rfl) ?_)
      intro a43 hA44
      refine q_end ?_
      refine t_norm ?_
      refine c_false hA44 rfl ?_
      refine wp_seq ?_
      refine wp_region_lit ?_
      refine q_step hA44 rfl (d_move (wn rfl) (hA44.ev (v := (.string (S l))) rfl) ?_)
      intro a45 hA46
      obtain ⟨y47, hy48⟩ : ∃ y47, l[0]? = some y47 := ⟨_, List.getElem?_eq_getElem (show 0 < l.length by omega)⟩
      refine q_step hA46 rfl (d_sat (j := 0) (wn rfl) (hA46.ev (v := (.string (S l))) rfl) (hA46.ev (v := (.int .i64 0)) rfl) str9 hy48 ?_)
      intro a49 hA50
      refine q_step hA50 rfl (d_call (wn rfl) ent53 (map2 (hA50.ev (v := (.string (S marksL))) rfl) (hA50.ev (v := (.int .u8 ((y47.toNat : Nat) : Int))) rfl)) (indexByte_any y47 w27) ?_)
      rintro e54 w51 ⟨he53, hG52⟩
      have b55 := below_grow b31 hG52 b31.size
      refine ⟨(.int .i64 (Lib.indexByte marksL y47)), he53, ?_⟩
      intro a56 hA57
      rcases Bool.eq_false_or_eq_true (decide (Lib.indexByte marksL y47 ≥ 0)) with hb58 | hb58
      · skip
        have hq59 := of_decide_eq_true hb58
        refine q_step hA57 rfl (d_bin (wn rfl) (hA57.ev (v := (.int .i64 (Lib.indexByte marksL y47))) rfl) (hA57.ev (v := (.int .i64 0)) rfl) (b_ge _ _ (Lib.indexByte marksL y47) 0 true _ hb58) ?_)
        intro a60 hA61
        refine q_step hA61 rfl (d_assign (wn rfl) (hA61.ev (v := (.bool true)) rfl) ?_)
        intro a62 hA63
        refine q_end ?_
        refine t_norm ?_
        refine c_true hA63 rfl ?_
        refine wp_seq ?_
        refine wp_region_lit ?_
        refine q_step hA63 rfl (d_assign (wn rfl) (hA63.ev (v := (.int .i64 1)) rfl) ?_)
        intro a64 hA65
        refine q_end ?_
        refine t_norm ?_
        refine wp_ret ?_
        refine i_ret ?_
        refine t_ret ?_
        refine ret1 rfl hA65 (v := (.int .i64 1)) rfl ?_
        exact ⟨by rw [mkN_one hb12 hb32 hy48 hb58]; rfl, b55⟩
      · skip
        have hq66 := of_decide_eq_false hb58
        refine q_step hA57 rfl (d_bin (wn rfl) (hA57.ev (v := (.int .i64 (Lib.indexByte marksL y47))) rfl) (hA57.ev (v := (.int .i64 0)) rfl) (b_ge _ _ (Lib.indexByte marksL y47) 0 false _ hb58) ?_)
        intro a67 hA68
        refine q_step hA68 rfl (d_assign (wn rfl) (hA68.ev (v := (.bool false)) rfl) ?_)
        intro a69 hA70
        refine q_end ?_
        refine t_norm ?_
        refine c_false hA70 rfl ?_
        refine wp_skip ?_
        refine i_norm ?_
        refine t_norm ?_
        refine wp_seq ?_
        refine wp_region_lit ?_
        refine q_step hA70 rfl (d_assign (wn rfl) (hA70.ev (v := (.int .i64 0)) rfl) ?_)
        intro a71 hA72
        refine q_end ?_
        refine t_norm ?_
        refine wp_ret ?_
        refine ret1 rfl hA72 (v := (.int .i64 0)) rfl ?_
        exact ⟨by rw [mkN_no hb12 hb32 hy48 hb58]; rfl, b55⟩
set_option maxHeartbeats 4000000 in
set_option maxRecDepth 4000 in
theorem rmark_any (c : UInt8) (w : World) : Calls Tryd.prog 32 #[.int .u8 ((c.toNat : Nat) : Int)] w fun e w' => e = .returned (.bool (mrkB c)) ∧ Grow w w' := by
  have b0 : Below w.heap.size w w := Below.refl _ _
  refine enter (n := 12) Tryd.func32 rfl rfl (Nat.le_of_ble_eq_true rfl) ?_
  intro a1 hA2
  refine wp_seq ?_
  refine wp_region_lit ?_
  refine q_step hA2 rfl (d_assign (wn rfl) (hA2.ev (v := (.bool false)) rfl) ?_)
  intro a3 hA4
  refine q_end ?_
  refine t_norm ?_
  refine wp_seq ?_
  refine wp_seq ?_
  refine wp_region_lit ?_
  refine q_step hA4 rfl (d_assign (wn rfl) (hA4.ev (v := (.int .i64 0)) rfl) ?_)
  intro a5 hA6
  refine q_end ?_
  refine t_norm ?_
  refine wp_block ?_
  refine loop_by (fun m8 a9 w10 => ∃ j7 : Nat, m8 = 22 - j7 ∧ (j7 ≤ 22 ∧ (marksL.drop j7).contains c = mrkB c) ∧ St 12 [(0, (.int .u8 ((c.toNat : Nat) : Int))), (2, (.bool false)), (3, (.int .i64 ((j7 : Nat) : Int)))] a9 ∧ Below w.heap.size w w10) (22 - 0) ⟨0, rfl, ⟨by omega, rfl⟩, hA6.cut _ (fm_cons (hA6.get 0 _ rfl) (fm_cons (hA6.get 2 _ rfl) (fm_cons ((hA6.get 3 _ rfl).trans (congrArg (Value.int .i64) (by omega))) fm_nil))), b0⟩ ?_
  rintro m8 a9 w10 ⟨j7, hm13, hc14, hA11, b12⟩
  obtain ⟨hj, hmk⟩ := hc14
  have hlen := mk_len
  refine wp_seq ?_
  refine wp_seq ?_
  refine wp_region_lit ?_
  refine q_step hA11 rfl (d_move (wn rfl) (hA11.ev (v := (.int .i64 ((j7 : Nat) : Int))) rfl) ?_)
  intro a15 hA16
  rcases Bool.eq_false_or_eq_true (decide (((j7 : Nat) : Int) < 22)) with hb17 | hb17
  · skip
    have hq18 := of_decide_eq_true hb17
    refine q_step hA16 rfl (d_bin (wn rfl) (hA16.ev (v := (.int .i64 ((j7 : Nat) : Int))) rfl) (hA16.ev (v := (.int .i64 22)) rfl) (b_lt _ _ ((j7 : Nat) : Int) 22 true _ hb17) ?_)
    intro a19 hA20
    refine q_end ?_
    refine t_norm ?_
    refine c_true hA20 rfl ?_
    refine wp_skip ?_
    refine t_norm ?_
    refine wp_seq ?_
    refine wp_block ?_
    refine wp_seq ?_
    refine wp_region_lit ?_
    refine q_step hA20 rfl (d_move (wn rfl) (hA20.ev (v := (.int .i64 ((j7 : Nat) : Int))) rfl) ?_)
    intro a21 hA22
    obtain ⟨y23, hy24⟩ : ∃ y23, marksL[j7]? = some y23 := ⟨_, List.getElem?_eq_getElem (show j7 < marksL.length by omega)⟩
    refine q_step hA22 rfl (d_sat (j := j7) (wn rfl) (hA22.ev (v := (.string (S marksL))) rfl) (hA22.ev (v := (.int .i64 ((j7 : Nat) : Int))) rfl) str9 hy24 ?_)
    intro a25 hA26
    refine q_step hA26 rfl (d_move (wn rfl) (hA26.ev (v := (.int .u8 ((c.toNat : Nat) : Int))) rfl) ?_)
    intro a27 hA28
    rcases Bool.eq_false_or_eq_true (((y23.toNat : Nat) : Int) == ((c.toNat : Nat) : Int)) with hb29 | hb29
    · skip
      have hq30 := eq_of_beq hb29
      refine q_step hA28 rfl (d_bin (wn rfl) (hA28.ev (v := (.int .u8 ((y23.toNat : Nat) : Int))) rfl) (hA28.ev (v := (.int .u8 ((c.toNat : Nat) : Int))) rfl) (b_eq _ _ ((y23.toNat : Nat) : Int) ((c.toNat : Nat) : Int) true _ hb29) ?_)
      intro a31 hA32
      refine q_end ?_
      refine t_norm ?_
      refine c_true hA32 rfl ?_
      refine wp_seq ?_
      refine wp_region_lit ?_
      refine q_step hA32 rfl (d_assign (wn rfl) (hA32.ev (v := (.bool true)) rfl) ?_)
      intro a33 hA34
      refine q_end ?_
      refine t_norm ?_
      refine wp_ret ?_
      refine i_ret ?_
      refine t_ret ?_
      refine t_ret ?_
      refine i_ret ?_
      refine t_ret ?_
      refine ret1 rfl hA34 (v := (.bool true)) rfl ?_
      exact ⟨ret_bool (mk_yes hmk hy24 (eq_of_beq hb29)).symm, b12⟩
    · skip
      have hq35 := ne_of_beq hb29
      refine q_step hA28 rfl (d_bin (wn rfl) (hA28.ev (v := (.int .u8 ((y23.toNat : Nat) : Int))) rfl) (hA28.ev (v := (.int .u8 ((c.toNat : Nat) : Int))) rfl) (b_eq _ _ ((y23.toNat : Nat) : Int) ((c.toNat : Nat) : Int) false _ hb29) ?_)
      intro a36 hA37
      refine q_end ?_
      refine t_norm ?_
      refine c_false hA37 rfl ?_
      refine wp_skip ?_
      refine i_norm ?_
      refine t_norm ?_
      refine wp_region_lit ?_
      refine q_step hA37 rfl (d_move (wn rfl) (hA37.ev (v := (.int .i64 ((j7 : Nat) : Int))) rfl) ?_)
      intro a38 hA39
      refine q_step hA39 rfl (d_bin (wn rfl) (hA39.ev (v := (.int .i64 ((j7 : Nat) : Int))) rfl) (hA39.ev (v := (.int .i64 1)) rfl) (b_add _ _ ((j7 : Nat) : Int) 1 _ (by omega) (by omega)) ?_)
      intro a40 hA41
      refine q_step hA41 rfl (d_assign (wn rfl) (hA41.ev (v := (.int .i64 (((j7 : Nat) : Int) + 1))) rfl) ?_)
      intro a42 hA43
      refine q_end ?_
      refine t_norm ?_
      have hgo := mk_go hmk hy24 (ne_of_beq hb29)
      exact ⟨22 - (j7 + 1), (by rw [hm13]; omega), j7 + 1, rfl, ⟨by omega, hgo⟩, hA43.cut _ (fm_cons (hA43.get 0 _ rfl) (fm_cons (hA43.get 2 _ rfl) (fm_cons ((hA43.get 3 _ rfl).trans (congrArg (Value.int .i64) (by omega))) fm_nil))), b12⟩
  · skip
    have hq44 := of_decide_eq_false hb17
    refine q_step hA16 rfl (d_bin (wn rfl) (hA16.ev (v := (.int .i64 ((j7 : Nat) : Int))) rfl) (hA16.ev (v := (.int .i64 22)) rfl) (b_lt _ _ ((j7 : Nat) : Int) 22 false _ hb17) ?_)
    intro a45 hA46
    refine q_end ?_
    refine t_norm ?_
    refine c_false hA46 rfl ?_
    refine wp_exit ?_
    refine t_exit ?_
    refine t_exit ?_
    refine i_here ?_
    refine t_norm ?_
    refine wp_seq ?_
    refine wp_region_lit ?_
    refine q_step hA46 rfl (d_assign (wn rfl) (hA46.ev (v := (.bool false)) rfl) ?_)
    intro a47 hA48
    refine q_end ?_
    refine t_norm ?_
    refine wp_ret ?_
    refine ret1 rfl hA48 (v := (.bool false)) rfl ?_
    exact ⟨ret_bool (mk_end hmk (by omega)).symm, b12⟩
set_option maxHeartbeats 4000000 in
set_option maxRecDepth 4000 in
theorem rrun_false (l : List UInt8) (at0 : Nat) (w : World) (hl : l.length ≤ 9223372036854775806) (hat : at0 ≤ l.length) : Calls Tryd.prog 29 #[.string (S l), .int .i64 ((at0 : Nat) : Int), .bool false] w fun e w' => e = .returned (.int .i64 ((at0 + rn numB (List.drop at0 l) : Nat) : Int)) ∧ Grow w w' := by
  have b0 : Below w.heap.size w w := Below.refl _ _
  refine enter (n := 41) Tryd.func29 rfl rfl (Nat.le_of_ble_eq_true rfl) ?_
  intro a1 hA2
  refine wp_seq ?_
  refine wp_region_lit ?_
  refine q_step hA2 rfl (d_assign (wn rfl) (hA2.ev (v := (.int .i64 0)) rfl) ?_)
  intro a3 hA4
  refine q_end ?_
  refine t_norm ?_
  refine wp_seq ?_
  refine wp_block ?_
  refine loop_by (fun m6 a7 w8 => ∃ j5 : Nat, m6 = l.length - j5 ∧ (j5 ≤ l.length ∧ at0 + rn numB (List.drop at0 l) = j5 + rn numB (List.drop j5 l)) ∧ St 41 [(0, (.string (S l))), (1, (.int .i64 ((j5 : Nat) : Int))), (2, (.bool false)), (6, (.int .i64 0))] a7 ∧ Below w.heap.size w w8) (l.length - at0) ⟨at0, rfl, ⟨by omega, rfl⟩, hA4.cut _ (fm_cons (hA4.get 0 _ rfl) (fm_cons (hA4.get 1 _ rfl) (fm_cons (hA4.get 2 _ rfl) (fm_cons (hA4.get 6 _ rfl) fm_nil)))), b0⟩ ?_
  rintro m6 a7 w8 ⟨j5, hm11, hc12, hA9, b10⟩
  obtain ⟨hjl, hrn⟩ := hc12
  refine wp_seq ?_
  refine wp_seq ?_
  refine wp_region_lit ?_
  refine q_step hA9 rfl (d_move (wn rfl) (hA9.ev (v := (.int .i64 ((j5 : Nat) : Int))) rfl) ?_)
  intro a13 hA14
  refine q_step hA14 rfl (d_move (wn rfl) (hA14.ev (v := (.string (S l))) rfl) ?_)
  intro a15 hA16
  refine q_step hA16 rfl (d_slen (wn rfl) (hA16.ev (v := (.string (S l))) rfl) str9 ?_)
  intro a17 hA18
  rcases Bool.eq_false_or_eq_true (decide (((j5 : Nat) : Int) < ((l.length : Nat) : Int))) with hb19 | hb19
  · skip
    have hq20 := of_decide_eq_true hb19
    refine q_step hA18 rfl (d_bin (wn rfl) (hA18.ev (v := (.int .i64 ((j5 : Nat) : Int))) rfl) (hA18.ev (v := (.int .i64 ((l.length : Nat) : Int))) rfl) (b_lt _ _ ((j5 : Nat) : Int) ((l.length : Nat) : Int) true _ hb19) ?_)
    intro a21 hA22
    refine q_step hA22 rfl (d_move (wn rfl) (hA22.ev (v := (.bool true)) rfl) ?_)
    intro a23 hA24
    refine q_step hA24 rfl (d_move (wy rfl rfl (hA24.get 11 _ rfl)) (hA24.ev (v := (.string (S l))) rfl) ?_)
    intro a25 hA26
    refine q_step hA26 rfl (d_move (wy rfl rfl (hA26.get 11 _ rfl)) (hA26.ev (v := (.int .i64 ((j5 : Nat) : Int))) rfl) ?_)
    intro a27 hA28
    obtain ⟨y29, hy30⟩ : ∃ y29, l[j5]? = some y29 := ⟨_, List.getElem?_eq_getElem (show j5 < l.length by omega)⟩
    refine q_step hA28 rfl (d_sat (j := j5) (wy rfl rfl (hA28.get 11 _ rfl)) (hA28.ev (v := (.string (S l))) rfl) (hA28.ev (v := (.int .i64 ((j5 : Nat) : Int))) rfl) str9 hy30 ?_)
    intro a31 hA32
    refine q_step hA32 rfl (d_call (wy rfl rfl (hA32.get 11 _ rfl)) ent31 (map1 (hA32.ev (v := (.int .u8 ((y29.toNat : Nat) : Int))) rfl)) (rletter_any y29 w8) ?_)
    rintro e36 w33 ⟨he35, hG34⟩
    have b37 := below_grow b10 hG34 b10.size
    rcases Bool.eq_false_or_eq_true (letB y29) with hb38 | hb38
    · skip
      refine ⟨.bool true, he35.trans (ret_bool hb38), ?_⟩
      intro a40 hA41
      refine q_step hA41 rfl (d_move (wy rfl rfl (hA41.get 11 _ rfl)) (hA41.ev (v := (.bool true)) rfl) ?_)
      intro a42 hA43
      refine q_step hA43 rfl (does_not (wno rfl rfl (.inl (hA43.get 16 _ rfl))) ?_)
      intro a44 hA45
      refine q_step hA45 rfl (does_not (wno rfl rfl (.inl (hA45.get 16 _ rfl))) ?_)
      intro a46 hA47
      refine q_step hA47 rfl (does_not (wno rfl rfl (.inl (hA47.get 16 _ rfl))) ?_)
      intro a48 hA49
      refine q_step hA49 rfl (does_not (wno rfl rfl (.inl (hA49.get 16 _ rfl))) ?_)
      intro a50 hA51
      refine q_step hA51 rfl (d_pickT (wy rfl rfl (hA51.get 11 _ rfl)) (hA51.ev (v := (.bool true)) rfl) (hA51.ev (v := (.bool true)) rfl) ?_)
      intro a52 hA53
      refine q_step hA53 rfl (d_move (wy rfl rfl (hA53.get 11 _ rfl)) (hA53.ev (v := (.bool true)) rfl) ?_)
      intro a54 hA55
      refine q_step hA55 rfl (does_not (wno rfl rfl (.inl (hA55.get 22 _ rfl))) ?_)
      intro a56 hA57
      refine q_step hA57 rfl (does_not (wno rfl rfl (.inl (hA57.get 22 _ rfl))) ?_)
      intro a58 hA59
      refine q_step hA59 rfl (does_not (wno rfl rfl (.inr (hA59.get 24 _ rfl))) ?_)
      intro a60 hA61
      refine q_step hA61 rfl (does_not (wno rfl rfl (.inr (hA61.get 24 _ rfl))) ?_)
      intro a62 hA63
      refine q_step hA63 rfl (does_not (wno rfl rfl (.inr (hA63.get 24 _ rfl))) ?_)
      intro a64 hA65
      refine q_step hA65 rfl (does_not (wno rfl rfl (.inr (hA65.get 24 _ rfl))) ?_)
      intro a66 hA67
      refine q_step hA67 rfl (does_not (wno rfl rfl (.inr (hA67.get 24 _ rfl))) ?_)
      intro a68 hA69
      refine q_step hA69 rfl (does_not (wno rfl rfl (.inr (hA69.get 29 _ rfl))) ?_)
      intro a70 hA71
      refine q_step hA71 rfl (does_not (wno rfl rfl (.inr (hA71.get 29 _ rfl))) ?_)
      intro a72 hA73
      refine q_step hA73 rfl (does_not (wno rfl rfl (.inr (hA73.get 29 _ rfl))) ?_)
      intro a74 hA75
      refine q_step hA75 rfl (does_not (wno rfl rfl (.inr (hA75.get 29 _ rfl))) ?_)
      intro a76 hA77
      refine q_step hA77 rfl (does_not (wno rfl rfl (.inr (hA77.get 24 _ rfl))) ?_)
      intro a78 hA79
      refine q_step hA79 rfl (does_not (wno rfl rfl (.inl (hA79.get 22 _ rfl))) ?_)
      intro a80 hA81
      refine q_step hA81 rfl (d_pickT (wy rfl rfl (hA81.get 11 _ rfl)) (hA81.ev (v := (.bool true)) rfl) (hA81.ev (v := (.bool true)) rfl) ?_)
      intro a82 hA83
      refine q_step hA83 rfl (d_pickT (wn rfl) (hA83.ev (v := (.bool true)) rfl) (hA83.ev (v := (.bool true)) rfl) ?_)
      intro a84 hA85
      refine q_end ?_
      refine t_norm ?_
      refine c_true hA85 rfl ?_
      refine wp_skip ?_
      refine t_norm ?_
      refine wp_block ?_
      refine wp_region_lit ?_
      refine q_step hA85 rfl (d_move (wn rfl) (hA85.ev (v := (.int .i64 ((j5 : Nat) : Int))) rfl) ?_)
      intro a86 hA87
      refine q_step hA87 rfl (d_bin (wn rfl) (hA87.ev (v := (.int .i64 ((j5 : Nat) : Int))) rfl) (hA87.ev (v := (.int .i64 1)) rfl) (b_add _ _ ((j5 : Nat) : Int) 1 _ (by omega) (by omega)) ?_)
      intro a88 hA89
      refine q_step hA89 rfl (d_assign (wn rfl) (hA89.ev (v := (.int .i64 (((j5 : Nat) : Int) + 1))) rfl) ?_)
      intro a90 hA91
      refine q_end ?_
      refine i_norm ?_
      refine t_norm ?_
      have hst := rn_go (p := numB) hy30 (by simp [namB, nbgB, numB, hb38] <;> omega)
      exact ⟨l.length - (j5 + 1), (by rw [hm11]; omega), j5 + 1, rfl, (by omega), hA91.cut _ (fm_cons (hA91.get 0 _ rfl) (fm_cons ((hA91.get 1 _ rfl).trans (congrArg (Value.int .i64) (by omega))) (fm_cons (hA91.get 2 _ rfl) (fm_cons (hA91.get 6 _ rfl) fm_nil)))), b37⟩
    · skip
      refine ⟨.bool false, he35.trans (ret_bool hb38), ?_⟩
      intro a93 hA94
      refine q_step hA94 rfl (d_move (wy rfl rfl (hA94.get 11 _ rfl)) (hA94.ev (v := (.bool false)) rfl) ?_)
      intro a95 hA96
      refine q_step hA96 rfl (d_move (wy rfl rfl (hA96.get 16 _ rfl)) (hA96.ev (v := (.string (S l))) rfl) ?_)
      intro a97 hA98
      refine q_step hA98 rfl (d_move (wy rfl rfl (hA98.get 16 _ rfl)) (hA98.ev (v := (.int .i64 ((j5 : Nat) : Int))) rfl) ?_)
      intro a99 hA100
      refine q_step hA100 rfl (d_sat (j := j5) (wy rfl rfl (hA100.get 16 _ rfl)) (hA100.ev (v := (.string (S l))) rfl) (hA100.ev (v := (.int .i64 ((j5 : Nat) : Int))) rfl) str9 hy30 ?_)
      intro a101 hA102
      refine q_step hA102 rfl (d_call (wy rfl rfl (hA102.get 16 _ rfl)) ent28 (map1 (hA102.ev (v := (.int .u8 ((y29.toNat : Nat) : Int))) rfl)) (rdigit_any y29 w33) ?_)
      rintro e106 w103 ⟨he105, hG104⟩
      have b107 := below_grow b37 hG104 b37.size
      rcases Bool.eq_false_or_eq_true (digB y29) with hb108 | hb108
      · skip
        refine ⟨.bool true, he105.trans (ret_bool hb108), ?_⟩
        intro a110 hA111
        refine q_step hA111 rfl (d_pickF (wy rfl rfl (hA111.get 11 _ rfl)) (hA111.ev (v := (.bool false)) rfl) (hA111.ev (v := (.bool true)) rfl) ?_)
        intro a112 hA113
        refine q_step hA113 rfl (d_move (wy rfl rfl (hA113.get 11 _ rfl)) (hA113.ev (v := (.bool true)) rfl) ?_)
        intro a114 hA115
        refine q_step hA115 rfl (does_not (wno rfl rfl (.inl (hA115.get 22 _ rfl))) ?_)
        intro a116 hA117
        refine q_step hA117 rfl (does_not (wno rfl rfl (.inl (hA117.get 22 _ rfl))) ?_)
        intro a118 hA119
        refine q_step hA119 rfl (does_not (wno rfl rfl (.inr (hA119.get 24 _ rfl))) ?_)
        intro a120 hA121
        refine q_step hA121 rfl (does_not (wno rfl rfl (.inr (hA121.get 24 _ rfl))) ?_)
        intro a122 hA123
        refine q_step hA123 rfl (does_not (wno rfl rfl (.inr (hA123.get 24 _ rfl))) ?_)
        intro a124 hA125
        refine q_step hA125 rfl (does_not (wno rfl rfl (.inr (hA125.get 24 _ rfl))) ?_)
        intro a126 hA127
        refine q_step hA127 rfl (does_not (wno rfl rfl (.inr (hA127.get 24 _ rfl))) ?_)
        intro a128 hA129
        refine q_step hA129 rfl (does_not (wno rfl rfl (.inr (hA129.get 29 _ rfl))) ?_)
        intro a130 hA131
        refine q_step hA131 rfl (does_not (wno rfl rfl (.inr (hA131.get 29 _ rfl))) ?_)
        intro a132 hA133
        refine q_step hA133 rfl (does_not (wno rfl rfl (.inr (hA133.get 29 _ rfl))) ?_)
        intro a134 hA135
        refine q_step hA135 rfl (does_not (wno rfl rfl (.inr (hA135.get 29 _ rfl))) ?_)
        intro a136 hA137
        refine q_step hA137 rfl (does_not (wno rfl rfl (.inr (hA137.get 24 _ rfl))) ?_)
        intro a138 hA139
        refine q_step hA139 rfl (does_not (wno rfl rfl (.inl (hA139.get 22 _ rfl))) ?_)
        intro a140 hA141
        refine q_step hA141 rfl (d_pickT (wy rfl rfl (hA141.get 11 _ rfl)) (hA141.ev (v := (.bool true)) rfl) (hA141.ev (v := (.bool true)) rfl) ?_)
        intro a142 hA143
        refine q_step hA143 rfl (d_pickT (wn rfl) (hA143.ev (v := (.bool true)) rfl) (hA143.ev (v := (.bool true)) rfl) ?_)
        intro a144 hA145
        refine q_end ?_
        refine t_norm ?_
        refine c_true hA145 rfl ?_
        refine wp_skip ?_
        refine t_norm ?_
        refine wp_block ?_
        refine wp_region_lit ?_
        refine q_step hA145 rfl (d_move (wn rfl) (hA145.ev (v := (.int .i64 ((j5 : Nat) : Int))) rfl) ?_)
        intro a146 hA147
        refine q_step hA147 rfl (d_bin (wn rfl) (hA147.ev (v := (.int .i64 ((j5 : Nat) : Int))) rfl) (hA147.ev (v := (.int .i64 1)) rfl) (b_add _ _ ((j5 : Nat) : Int) 1 _ (by omega) (by omega)) ?_)
        intro a148 hA149
        refine q_step hA149 rfl (d_assign (wn rfl) (hA149.ev (v := (.int .i64 (((j5 : Nat) : Int) + 1))) rfl) ?_)
        intro a150 hA151
        refine q_end ?_
        refine i_norm ?_
        refine t_norm ?_
        have hst := rn_go (p := numB) hy30 (by simp [namB, nbgB, numB, hb38, hb108] <;> omega)
        exact ⟨l.length - (j5 + 1), (by rw [hm11]; omega), j5 + 1, rfl, (by omega), hA151.cut _ (fm_cons (hA151.get 0 _ rfl) (fm_cons ((hA151.get 1 _ rfl).trans (congrArg (Value.int .i64) (by omega))) (fm_cons (hA151.get 2 _ rfl) (fm_cons (hA151.get 6 _ rfl) fm_nil)))), b107⟩
      · skip
        refine ⟨.bool false, he105.trans (ret_bool hb108), ?_⟩
        intro a153 hA154
        refine q_step hA154 rfl (d_pickF (wy rfl rfl (hA154.get 11 _ rfl)) (hA154.ev (v := (.bool false)) rfl) (hA154.ev (v := (.bool false)) rfl) ?_)
        intro a155 hA156
        refine q_step hA156 rfl (d_move (wy rfl rfl (hA156.get 11 _ rfl)) (hA156.ev (v := (.bool false)) rfl) ?_)
        intro a157 hA158
        refine q_step hA158 rfl (d_move (wy rfl rfl (hA158.get 22 _ rfl)) (hA158.ev (v := (.bool false)) rfl) ?_)
        intro a159 hA160
        refine q_step hA160 rfl (d_move (wy rfl rfl (hA160.get 22 _ rfl)) (hA160.ev (v := (.bool false)) rfl) ?_)
        intro a161 hA162
        refine q_step hA162 rfl (does_not (wno rfl rfl (.inl (hA162.get 24 _ rfl))) ?_)
        intro a163 hA164
        refine q_step hA164 rfl (does_not (wno rfl rfl (.inl (hA164.get 24 _ rfl))) ?_)
        intro a165 hA166
        refine q_step hA166 rfl (does_not (wno rfl rfl (.inl (hA166.get 24 _ rfl))) ?_)
        intro a167 hA168
        refine q_step hA168 rfl (does_not (wno rfl rfl (.inl (hA168.get 24 _ rfl))) ?_)
        intro a169 hA170
        refine q_step hA170 rfl (does_not (wno rfl rfl (.inl (hA170.get 24 _ rfl))) ?_)
        intro a171 hA172
        refine q_step hA172 rfl (does_not (wno rfl rfl (.inr (hA172.get 29 _ rfl))) ?_)
        intro a173 hA174
        refine q_step hA174 rfl (does_not (wno rfl rfl (.inr (hA174.get 29 _ rfl))) ?_)
        intro a175 hA176
        refine q_step hA176 rfl (does_not (wno rfl rfl (.inr (hA176.get 29 _ rfl))) ?_)
        intro a177 hA178
        refine q_step hA178 rfl (does_not (wno rfl rfl (.inr (hA178.get 29 _ rfl))) ?_)
        intro a179 hA180
        refine q_step hA180 rfl (does_not (wno rfl rfl (.inl (hA180.get 24 _ rfl))) ?_)
        intro a181 hA182
        refine q_step hA182 rfl (d_pickF (wy rfl rfl (hA182.get 22 _ rfl)) (hA182.ev (v := (.bool false)) rfl) (hA182.ev (v := (.bool false)) rfl) ?_)
        intro a183 hA184
        refine q_step hA184 rfl (d_pickF (wy rfl rfl (hA184.get 11 _ rfl)) (hA184.ev (v := (.bool false)) rfl) (hA184.ev (v := (.bool false)) rfl) ?_)
        intro a185 hA186
        refine q_step hA186 rfl (d_pickT (wn rfl) (hA186.ev (v := (.bool true)) rfl) (hA186.ev (v := (.bool false)) rfl) ?_)
        intro a187 hA188
        refine q_end ?_
        refine t_norm ?_
        refine c_false hA188 rfl ?_
        refine wp_exit ?_
        refine t_exit ?_
        refine t_exit ?_
        refine i_here ?_
        refine t_norm ?_
        refine wp_seq ?_
        refine wp_region_lit ?_
        refine q_step hA188 rfl (d_move (wn rfl) (hA188.ev (v := (.int .i64 ((j5 : Nat) : Int))) rfl) ?_)
        intro a189 hA190
        refine q_step hA190 rfl (d_assign (wn rfl) (hA190.ev (v := (.int .i64 ((j5 : Nat) : Int))) rfl) ?_)
        intro a191 hA192
        refine q_end ?_
        refine t_norm ?_
        refine wp_ret ?_
        refine ret1 rfl hA192 (v := (.int .i64 ((j5 : Nat) : Int))) rfl ?_
        have hst := rn_stop (p := numB) hy30 (by simp [namB, nbgB, numB, hb38, hb108] <;> omega)
        exact ⟨congrArg (fun z => Ending.returned (Value.int .i64 z)) (by omega), b107⟩
  · skip
    have hq193 := of_decide_eq_false hb19
    refine q_step hA18 rfl (d_bin (wn rfl) (hA18.ev (v := (.int .i64 ((j5 : Nat) : Int))) rfl) (hA18.ev (v := (.int .i64 ((l.length : Nat) : Int))) rfl) (b_lt _ _ ((j5 : Nat) : Int) ((l.length : Nat) : Int) false _ hb19) ?_)
    intro a194 hA195
    refine q_step hA195 rfl (d_move (wn rfl) (hA195.ev (v := (.bool false)) rfl) ?_)
    intro a196 hA197
    refine q_step hA197 rfl (does_not (wno rfl rfl (.inl (hA197.get 11 _ rfl))) ?_)
    intro a198 hA199
    refine q_step hA199 rfl (does_not (wno rfl rfl (.inl (hA199.get 11 _ rfl))) ?_)
    intro a200 hA201
    refine q_step hA201 rfl (does_not (wno rfl rfl (.inl (hA201.get 11 _ rfl))) ?_)
    intro a202 hA203
    refine q_step hA203 rfl (does_not (wno rfl rfl (.inl (hA203.get 11 _ rfl))) ?_)
    intro a204 hA205
    refine q_step hA205 rfl (does_not (wno rfl rfl (.inl (hA205.get 11 _ rfl))) ?_)
    intro a206 hA207
    refine q_step hA207 rfl (does_not (wno rfl rfl (.inr (hA207.get 16 _ rfl))) ?_)
    intro a208 hA209
    refine q_step hA209 rfl (does_not (wno rfl rfl (.inr (hA209.get 16 _ rfl))) ?_)
    intro a210 hA211
    refine q_step hA211 rfl (does_not (wno rfl rfl (.inr (hA211.get 16 _ rfl))) ?_)
    intro a212 hA213
    refine q_step hA213 rfl (does_not (wno rfl rfl (.inr (hA213.get 16 _ rfl))) ?_)
    intro a214 hA215
    refine q_step hA215 rfl (does_not (wno rfl rfl (.inl (hA215.get 11 _ rfl))) ?_)
    intro a216 hA217
    refine q_step hA217 rfl (does_not (wno rfl rfl (.inl (hA217.get 11 _ rfl))) ?_)
    intro a218 hA219
    refine q_step hA219 rfl (does_not (wno rfl rfl (.inr (hA219.get 22 _ rfl))) ?_)
    intro a220 hA221
    refine q_step hA221 rfl (does_not (wno rfl rfl (.inr (hA221.get 22 _ rfl))) ?_)
    intro a222 hA223
    refine q_step hA223 rfl (does_not (wno rfl rfl (.inr (hA223.get 24 _ rfl))) ?_)
    intro a224 hA225
    refine q_step hA225 rfl (does_not (wno rfl rfl (.inr (hA225.get 24 _ rfl))) ?_)
    intro a226 hA227
    refine q_step hA227 rfl (does_not (wno rfl rfl (.inr (hA227.get 24 _ rfl))) ?_)
    intro a228 hA229
    refine q_step hA229 rfl (does_not (wno rfl rfl (.inr (hA229.get 24 _ rfl))) ?_)
    intro a230 hA231
    refine q_step hA231 rfl (does_not (wno rfl rfl (.inr (hA231.get 24 _ rfl))) ?_)
    intro a232 hA233
    refine q_step hA233 rfl (does_not (wno rfl rfl (.inr (hA233.get 29 _ rfl))) ?_)
    intro a234 hA235
    refine q_step hA235 rfl (does_not (wno rfl rfl (.inr (hA235.get 29 _ rfl))) ?_)
    intro a236 hA237
    refine q_step hA237 rfl (does_not (wno rfl rfl (.inr (hA237.get 29 _ rfl))) ?_)
    intro a238 hA239
    refine q_step hA239 rfl (does_not (wno rfl rfl (.inr (hA239.get 29 _ rfl))) ?_)
    intro a240 hA241
    refine q_step hA241 rfl (does_not (wno rfl rfl (.inr (hA241.get 24 _ rfl))) ?_)
    intro a242 hA243
    refine q_step hA243 rfl (does_not (wno rfl rfl (.inr (hA243.get 22 _ rfl))) ?_)
    intro a244 hA245
    refine q_step hA245 rfl (does_not (wno rfl rfl (.inl (hA245.get 11 _ rfl))) ?_)
    intro a246 hA247
    refine q_step hA247 rfl (d_pickF (wn rfl) (hA247.ev (v := (.bool false)) rfl) (hA247.ev (v := (.bool false)) rfl) ?_)
    intro a248 hA249
    refine q_end ?_
    refine t_norm ?_
    refine c_false hA249 rfl ?_
    refine wp_exit ?_
    refine t_exit ?_
    refine t_exit ?_
    refine i_here ?_
    refine t_norm ?_
    refine wp_seq ?_
    refine wp_region_lit ?_
    refine q_step hA249 rfl (d_move (wn rfl) (hA249.ev (v := (.int .i64 ((j5 : Nat) : Int))) rfl) ?_)
    intro a250 hA251
    refine q_step hA251 rfl (d_assign (wn rfl) (hA251.ev (v := (.int .i64 ((j5 : Nat) : Int))) rfl) ?_)
    intro a252 hA253
    refine q_end ?_
    refine t_norm ?_
    refine wp_ret ?_
    refine ret1 rfl hA253 (v := (.int .i64 ((j5 : Nat) : Int))) rfl ?_
    have hst : rn numB (List.drop j5 l) = 0 := rn_end (by omega)
    exact ⟨congrArg (fun z => Ending.returned (Value.int .i64 z)) (by omega), b10⟩
set_option maxHeartbeats 4000000 in
set_option maxRecDepth 4000 in
theorem rrun_true (l : List UInt8) (at0 : Nat) (w : World) (hl : l.length ≤ 9223372036854775806) (hat : at0 ≤ l.length) : Calls Tryd.prog 29 #[.string (S l), .int .i64 ((at0 : Nat) : Int), .bool true] w fun e w' => e = .returned (.int .i64 ((at0 + rn namB (List.drop at0 l) : Nat) : Int)) ∧ Grow w w' := by
  have b0 : Below w.heap.size w w := Below.refl _ _
  refine enter (n := 41) Tryd.func29 rfl rfl (Nat.le_of_ble_eq_true rfl) ?_
  intro a1 hA2
  refine wp_seq ?_
  refine wp_region_lit ?_
  refine q_step hA2 rfl (d_assign (wn rfl) (hA2.ev (v := (.int .i64 0)) rfl) ?_)
  intro a3 hA4
  refine q_end ?_
  refine t_norm ?_
  refine wp_seq ?_
  refine wp_block ?_
  refine loop_by (fun m6 a7 w8 => ∃ j5 : Nat, m6 = l.length - j5 ∧ (j5 ≤ l.length ∧ at0 + rn namB (List.drop at0 l) = j5 + rn namB (List.drop j5 l)) ∧ St 41 [(0, (.string (S l))), (1, (.int .i64 ((j5 : Nat) : Int))), (2, (.bool true)), (6, (.int .i64 0))] a7 ∧ Below w.heap.size w w8) (l.length - at0) ⟨at0, rfl, ⟨by omega, rfl⟩, hA4.cut _ (fm_cons (hA4.get 0 _ rfl) (fm_cons (hA4.get 1 _ rfl) (fm_cons (hA4.get 2 _ rfl) (fm_cons (hA4.get 6 _ rfl) fm_nil)))), b0⟩ ?_
  rintro m6 a7 w8 ⟨j5, hm11, hc12, hA9, b10⟩
  obtain ⟨hjl, hrn⟩ := hc12
  refine wp_seq ?_
  refine wp_seq ?_
  refine wp_region_lit ?_
  refine q_step hA9 rfl (d_move (wn rfl) (hA9.ev (v := (.int .i64 ((j5 : Nat) : Int))) rfl) ?_)
  intro a13 hA14
  refine q_step hA14 rfl (d_move (wn rfl) (hA14.ev (v := (.string (S l))) rfl) ?_)
  intro a15 hA16
  refine q_step hA16 rfl (d_slen (wn rfl) (hA16.ev (v := (.string (S l))) rfl) str9 ?_)
  intro a17 hA18
  rcases Bool.eq_false_or_eq_true (decide (((j5 : Nat) : Int) < ((l.length : Nat) : Int))) with hb19 | hb19
  · skip
    have hq20 := of_decide_eq_true hb19
    refine q_step hA18 rfl (d_bin (wn rfl) (hA18.ev (v := (.int .i64 ((j5 : Nat) : Int))) rfl) (hA18.ev (v := (.int .i64 ((l.length : Nat) : Int))) rfl) (b_lt _ _ ((j5 : Nat) : Int) ((l.length : Nat) : Int) true _ hb19) ?_)
    intro a21 hA22
    refine q_step hA22 rfl (d_move (wn rfl) (hA22.ev (v := (.bool true)) rfl) ?_)
    intro a23 hA24
    refine q_step hA24 rfl (d_move (wy rfl rfl (hA24.get 11 _ rfl)) (hA24.ev (v := (.string (S l))) rfl) ?_)
    intro a25 hA26
    refine q_step hA26 rfl (d_move (wy rfl rfl (hA26.get 11 _ rfl)) (hA26.ev (v := (.int .i64 ((j5 : Nat) : Int))) rfl) ?_)
    intro a27 hA28
    obtain ⟨y29, hy30⟩ : ∃ y29, l[j5]? = some y29 := ⟨_, List.getElem?_eq_getElem (show j5 < l.length by omega)⟩
    refine q_step hA28 rfl (d_sat (j := j5) (wy rfl rfl (hA28.get 11 _ rfl)) (hA28.ev (v := (.string (S l))) rfl) (hA28.ev (v := (.int .i64 ((j5 : Nat) : Int))) rfl) str9 hy30 ?_)
    intro a31 hA32
    refine q_step hA32 rfl (d_call (wy rfl rfl (hA32.get 11 _ rfl)) ent31 (map1 (hA32.ev (v := (.int .u8 ((y29.toNat : Nat) : Int))) rfl)) (rletter_any y29 w8) ?_)
    rintro e36 w33 ⟨he35, hG34⟩
    have b37 := below_grow b10 hG34 b10.size
    rcases Bool.eq_false_or_eq_true (letB y29) with hb38 | hb38
    · skip
      refine ⟨.bool true, he35.trans (ret_bool hb38), ?_⟩
      intro a40 hA41
      refine q_step hA41 rfl (d_move (wy rfl rfl (hA41.get 11 _ rfl)) (hA41.ev (v := (.bool true)) rfl) ?_)
      intro a42 hA43
      refine q_step hA43 rfl (does_not (wno rfl rfl (.inl (hA43.get 16 _ rfl))) ?_)
      intro a44 hA45
      refine q_step hA45 rfl (does_not (wno rfl rfl (.inl (hA45.get 16 _ rfl))) ?_)
      intro a46 hA47
      refine q_step hA47 rfl (does_not (wno rfl rfl (.inl (hA47.get 16 _ rfl))) ?_)
      intro a48 hA49
      refine q_step hA49 rfl (does_not (wno rfl rfl (.inl (hA49.get 16 _ rfl))) ?_)
      intro a50 hA51
      refine q_step hA51 rfl (d_pickT (wy rfl rfl (hA51.get 11 _ rfl)) (hA51.ev (v := (.bool true)) rfl) (hA51.ev (v := (.bool true)) rfl) ?_)
      intro a52 hA53
      refine q_step hA53 rfl (d_move (wy rfl rfl (hA53.get 11 _ rfl)) (hA53.ev (v := (.bool true)) rfl) ?_)
      intro a54 hA55
      refine q_step hA55 rfl (does_not (wno rfl rfl (.inl (hA55.get 22 _ rfl))) ?_)
      intro a56 hA57
      refine q_step hA57 rfl (does_not (wno rfl rfl (.inl (hA57.get 22 _ rfl))) ?_)
      intro a58 hA59
      refine q_step hA59 rfl (does_not (wno rfl rfl (.inr (hA59.get 24 _ rfl))) ?_)
      intro a60 hA61
      refine q_step hA61 rfl (does_not (wno rfl rfl (.inr (hA61.get 24 _ rfl))) ?_)
      intro a62 hA63
      refine q_step hA63 rfl (does_not (wno rfl rfl (.inr (hA63.get 24 _ rfl))) ?_)
      intro a64 hA65
      refine q_step hA65 rfl (does_not (wno rfl rfl (.inr (hA65.get 24 _ rfl))) ?_)
      intro a66 hA67
      refine q_step hA67 rfl (does_not (wno rfl rfl (.inr (hA67.get 24 _ rfl))) ?_)
      intro a68 hA69
      refine q_step hA69 rfl (does_not (wno rfl rfl (.inr (hA69.get 29 _ rfl))) ?_)
      intro a70 hA71
      refine q_step hA71 rfl (does_not (wno rfl rfl (.inr (hA71.get 29 _ rfl))) ?_)
      intro a72 hA73
      refine q_step hA73 rfl (does_not (wno rfl rfl (.inr (hA73.get 29 _ rfl))) ?_)
      intro a74 hA75
      refine q_step hA75 rfl (does_not (wno rfl rfl (.inr (hA75.get 29 _ rfl))) ?_)
      intro a76 hA77
      refine q_step hA77 rfl (does_not (wno rfl rfl (.inr (hA77.get 24 _ rfl))) ?_)
      intro a78 hA79
      refine q_step hA79 rfl (does_not (wno rfl rfl (.inl (hA79.get 22 _ rfl))) ?_)
      intro a80 hA81
      refine q_step hA81 rfl (d_pickT (wy rfl rfl (hA81.get 11 _ rfl)) (hA81.ev (v := (.bool true)) rfl) (hA81.ev (v := (.bool true)) rfl) ?_)
      intro a82 hA83
      refine q_step hA83 rfl (d_pickT (wn rfl) (hA83.ev (v := (.bool true)) rfl) (hA83.ev (v := (.bool true)) rfl) ?_)
      intro a84 hA85
      refine q_end ?_
      refine t_norm ?_
      refine c_true hA85 rfl ?_
      refine wp_skip ?_
      refine t_norm ?_
      refine wp_block ?_
      refine wp_region_lit ?_
      refine q_step hA85 rfl (d_move (wn rfl) (hA85.ev (v := (.int .i64 ((j5 : Nat) : Int))) rfl) ?_)
      intro a86 hA87
      refine q_step hA87 rfl (d_bin (wn rfl) (hA87.ev (v := (.int .i64 ((j5 : Nat) : Int))) rfl) (hA87.ev (v := (.int .i64 1)) rfl) (b_add _ _ ((j5 : Nat) : Int) 1 _ (by omega) (by omega)) ?_)
      intro a88 hA89
      refine q_step hA89 rfl (d_assign (wn rfl) (hA89.ev (v := (.int .i64 (((j5 : Nat) : Int) + 1))) rfl) ?_)
      intro a90 hA91
      refine q_end ?_
      refine i_norm ?_
      refine t_norm ?_
      have hst := rn_go (p := namB) hy30 (by simp [namB, nbgB, numB, hb38] <;> omega)
      exact ⟨l.length - (j5 + 1), (by rw [hm11]; omega), j5 + 1, rfl, (by omega), hA91.cut _ (fm_cons (hA91.get 0 _ rfl) (fm_cons ((hA91.get 1 _ rfl).trans (congrArg (Value.int .i64) (by omega))) (fm_cons (hA91.get 2 _ rfl) (fm_cons (hA91.get 6 _ rfl) fm_nil)))), b37⟩
    · skip
      refine ⟨.bool false, he35.trans (ret_bool hb38), ?_⟩
      intro a93 hA94
      refine q_step hA94 rfl (d_move (wy rfl rfl (hA94.get 11 _ rfl)) (hA94.ev (v := (.bool false)) rfl) ?_)
      intro a95 hA96
      refine q_step hA96 rfl (d_move (wy rfl rfl (hA96.get 16 _ rfl)) (hA96.ev (v := (.string (S l))) rfl) ?_)
      intro a97 hA98
      refine q_step hA98 rfl (d_move (wy rfl rfl (hA98.get 16 _ rfl)) (hA98.ev (v := (.int .i64 ((j5 : Nat) : Int))) rfl) ?_)
      intro a99 hA100
      refine q_step hA100 rfl (d_sat (j := j5) (wy rfl rfl (hA100.get 16 _ rfl)) (hA100.ev (v := (.string (S l))) rfl) (hA100.ev (v := (.int .i64 ((j5 : Nat) : Int))) rfl) str9 hy30 ?_)
      intro a101 hA102
      refine q_step hA102 rfl (d_call (wy rfl rfl (hA102.get 16 _ rfl)) ent28 (map1 (hA102.ev (v := (.int .u8 ((y29.toNat : Nat) : Int))) rfl)) (rdigit_any y29 w33) ?_)
      rintro e106 w103 ⟨he105, hG104⟩
      have b107 := below_grow b37 hG104 b37.size
      rcases Bool.eq_false_or_eq_true (digB y29) with hb108 | hb108
      · skip
        refine ⟨.bool true, he105.trans (ret_bool hb108), ?_⟩
        intro a110 hA111
        refine q_step hA111 rfl (d_pickF (wy rfl rfl (hA111.get 11 _ rfl)) (hA111.ev (v := (.bool false)) rfl) (hA111.ev (v := (.bool true)) rfl) ?_)
        intro a112 hA113
        refine q_step hA113 rfl (d_move (wy rfl rfl (hA113.get 11 _ rfl)) (hA113.ev (v := (.bool true)) rfl) ?_)
        intro a114 hA115
        refine q_step hA115 rfl (does_not (wno rfl rfl (.inl (hA115.get 22 _ rfl))) ?_)
        intro a116 hA117
        refine q_step hA117 rfl (does_not (wno rfl rfl (.inl (hA117.get 22 _ rfl))) ?_)
        intro a118 hA119
        refine q_step hA119 rfl (does_not (wno rfl rfl (.inr (hA119.get 24 _ rfl))) ?_)
        intro a120 hA121
        refine q_step hA121 rfl (does_not (wno rfl rfl (.inr (hA121.get 24 _ rfl))) ?_)
        intro a122 hA123
        refine q_step hA123 rfl (does_not (wno rfl rfl (.inr (hA123.get 24 _ rfl))) ?_)
        intro a124 hA125
        refine q_step hA125 rfl (does_not (wno rfl rfl (.inr (hA125.get 24 _ rfl))) ?_)
        intro a126 hA127
        refine q_step hA127 rfl (does_not (wno rfl rfl (.inr (hA127.get 24 _ rfl))) ?_)
        intro a128 hA129
        refine q_step hA129 rfl (does_not (wno rfl rfl (.inr (hA129.get 29 _ rfl))) ?_)
        intro a130 hA131
        refine q_step hA131 rfl (does_not (wno rfl rfl (.inr (hA131.get 29 _ rfl))) ?_)
        intro a132 hA133
        refine q_step hA133 rfl (does_not (wno rfl rfl (.inr (hA133.get 29 _ rfl))) ?_)
        intro a134 hA135
        refine q_step hA135 rfl (does_not (wno rfl rfl (.inr (hA135.get 29 _ rfl))) ?_)
        intro a136 hA137
        refine q_step hA137 rfl (does_not (wno rfl rfl (.inr (hA137.get 24 _ rfl))) ?_)
        intro a138 hA139
        refine q_step hA139 rfl (does_not (wno rfl rfl (.inl (hA139.get 22 _ rfl))) ?_)
        intro a140 hA141
        refine q_step hA141 rfl (d_pickT (wy rfl rfl (hA141.get 11 _ rfl)) (hA141.ev (v := (.bool true)) rfl) (hA141.ev (v := (.bool true)) rfl) ?_)
        intro a142 hA143
        refine q_step hA143 rfl (d_pickT (wn rfl) (hA143.ev (v := (.bool true)) rfl) (hA143.ev (v := (.bool true)) rfl) ?_)
        intro a144 hA145
        refine q_end ?_
        refine t_norm ?_
        refine c_true hA145 rfl ?_
        refine wp_skip ?_
        refine t_norm ?_
        refine wp_block ?_
        refine wp_region_lit ?_
        refine q_step hA145 rfl (d_move (wn rfl) (hA145.ev (v := (.int .i64 ((j5 : Nat) : Int))) rfl) ?_)
        intro a146 hA147
        refine q_step hA147 rfl (d_bin (wn rfl) (hA147.ev (v := (.int .i64 ((j5 : Nat) : Int))) rfl) (hA147.ev (v := (.int .i64 1)) rfl) (b_add _ _ ((j5 : Nat) : Int) 1 _ (by omega) (by omega)) ?_)
        intro a148 hA149
        refine q_step hA149 rfl (d_assign (wn rfl) (hA149.ev (v := (.int .i64 (((j5 : Nat) : Int) + 1))) rfl) ?_)
        intro a150 hA151
        refine q_end ?_
        refine i_norm ?_
        refine t_norm ?_
        have hst := rn_go (p := namB) hy30 (by simp [namB, nbgB, numB, hb38, hb108] <;> omega)
        exact ⟨l.length - (j5 + 1), (by rw [hm11]; omega), j5 + 1, rfl, (by omega), hA151.cut _ (fm_cons (hA151.get 0 _ rfl) (fm_cons ((hA151.get 1 _ rfl).trans (congrArg (Value.int .i64) (by omega))) (fm_cons (hA151.get 2 _ rfl) (fm_cons (hA151.get 6 _ rfl) fm_nil)))), b107⟩
      · skip
        refine ⟨.bool false, he105.trans (ret_bool hb108), ?_⟩
        intro a153 hA154
        refine q_step hA154 rfl (d_pickF (wy rfl rfl (hA154.get 11 _ rfl)) (hA154.ev (v := (.bool false)) rfl) (hA154.ev (v := (.bool false)) rfl) ?_)
        intro a155 hA156
        refine q_step hA156 rfl (d_move (wy rfl rfl (hA156.get 11 _ rfl)) (hA156.ev (v := (.bool false)) rfl) ?_)
        intro a157 hA158
        refine q_step hA158 rfl (d_move (wy rfl rfl (hA158.get 22 _ rfl)) (hA158.ev (v := (.bool true)) rfl) ?_)
        intro a159 hA160
        refine q_step hA160 rfl (d_move (wy rfl rfl (hA160.get 22 _ rfl)) (hA160.ev (v := (.bool true)) rfl) ?_)
        intro a161 hA162
        refine q_step hA162 rfl (d_move (wy rfl rfl (hA162.get 24 _ rfl)) (hA162.ev (v := (.string (S l))) rfl) ?_)
        intro a163 hA164
        refine q_step hA164 rfl (d_move (wy rfl rfl (hA164.get 24 _ rfl)) (hA164.ev (v := (.int .i64 ((j5 : Nat) : Int))) rfl) ?_)
        intro a165 hA166
        refine q_step hA166 rfl (d_sat (j := j5) (wy rfl rfl (hA166.get 24 _ rfl)) (hA166.ev (v := (.string (S l))) rfl) (hA166.ev (v := (.int .i64 ((j5 : Nat) : Int))) rfl) str9 hy30 ?_)
        intro a167 hA168
        rcases Bool.eq_false_or_eq_true (((y29.toNat : Nat) : Int) == 95) with hb169 | hb169
        · skip
          have hq170 := eq_of_beq hb169
          refine q_step hA168 rfl (d_bin (wy rfl rfl (hA168.get 24 _ rfl)) (hA168.ev (v := (.int .u8 ((y29.toNat : Nat) : Int))) rfl) (hA168.ev (v := (.int .u8 95)) rfl) (b_eq _ _ ((y29.toNat : Nat) : Int) 95 true _ hb169) ?_)
          intro a171 hA172
          refine q_step hA172 rfl (d_move (wy rfl rfl (hA172.get 24 _ rfl)) (hA172.ev (v := (.bool true)) rfl) ?_)
          intro a173 hA174
          refine q_step hA174 rfl (does_not (wno rfl rfl (.inl (hA174.get 29 _ rfl))) ?_)
          intro a175 hA176
          refine q_step hA176 rfl (does_not (wno rfl rfl (.inl (hA176.get 29 _ rfl))) ?_)
          intro a177 hA178
          refine q_step hA178 rfl (does_not (wno rfl rfl (.inl (hA178.get 29 _ rfl))) ?_)
          intro a179 hA180
          refine q_step hA180 rfl (does_not (wno rfl rfl (.inl (hA180.get 29 _ rfl))) ?_)
          intro a181 hA182
          refine q_step hA182 rfl (d_pickT (wy rfl rfl (hA182.get 24 _ rfl)) (hA182.ev (v := (.bool true)) rfl) (hA182.ev (v := (.bool true)) rfl) ?_)
          intro a183 hA184
          refine q_step hA184 rfl (d_pickT (wy rfl rfl (hA184.get 22 _ rfl)) (hA184.ev (v := (.bool true)) rfl) (hA184.ev (v := (.bool true)) rfl) ?_)
          intro a185 hA186
          refine q_step hA186 rfl (d_pickF (wy rfl rfl (hA186.get 11 _ rfl)) (hA186.ev (v := (.bool false)) rfl) (hA186.ev (v := (.bool true)) rfl) ?_)
          intro a187 hA188
          refine q_step hA188 rfl (d_pickT (wn rfl) (hA188.ev (v := (.bool true)) rfl) (hA188.ev (v := (.bool true)) rfl) ?_)
          intro a189 hA190
          refine q_end ?_
          refine t_norm ?_
          refine c_true hA190 rfl ?_
          refine wp_skip ?_
          refine t_norm ?_
          refine wp_block ?_
          refine wp_region_lit ?_
          refine q_step hA190 rfl (d_move (wn rfl) (hA190.ev (v := (.int .i64 ((j5 : Nat) : Int))) rfl) ?_)
          intro a191 hA192
          refine q_step hA192 rfl (d_bin (wn rfl) (hA192.ev (v := (.int .i64 ((j5 : Nat) : Int))) rfl) (hA192.ev (v := (.int .i64 1)) rfl) (b_add _ _ ((j5 : Nat) : Int) 1 _ (by omega) (by omega)) ?_)
          intro a193 hA194
          refine q_step hA194 rfl (d_assign (wn rfl) (hA194.ev (v := (.int .i64 (((j5 : Nat) : Int) + 1))) rfl) ?_)
          intro a195 hA196
          refine q_end ?_
          refine i_norm ?_
          refine t_norm ?_
          have hst := rn_go (p := namB) hy30 (by simp [namB, nbgB, numB, hb38, hb108, hb169] <;> omega)
          exact ⟨l.length - (j5 + 1), (by rw [hm11]; omega), j5 + 1, rfl, (by omega), hA196.cut _ (fm_cons (hA196.get 0 _ rfl) (fm_cons ((hA196.get 1 _ rfl).trans (congrArg (Value.int .i64) (by omega))) (fm_cons (hA196.get 2 _ rfl) (fm_cons (hA196.get 6 _ rfl) fm_nil)))), b107⟩
        · skip
          have hq197 := ne_of_beq hb169
          refine q_step hA168 rfl (d_bin (wy rfl rfl (hA168.get 24 _ rfl)) (hA168.ev (v := (.int .u8 ((y29.toNat : Nat) : Int))) rfl) (hA168.ev (v := (.int .u8 95)) rfl) (b_eq _ _ ((y29.toNat : Nat) : Int) 95 false _ hb169) ?_)
          intro a198 hA199
          refine q_step hA199 rfl (d_move (wy rfl rfl (hA199.get 24 _ rfl)) (hA199.ev (v := (.bool false)) rfl) ?_)
          intro a200 hA201
          refine q_step hA201 rfl (d_move (wy rfl rfl (hA201.get 29 _ rfl)) (hA201.ev (v := (.string (S l))) rfl) ?_)
          intro a202 hA203
          refine q_step hA203 rfl (d_move (wy rfl rfl (hA203.get 29 _ rfl)) (hA203.ev (v := (.int .i64 ((j5 : Nat) : Int))) rfl) ?_)
          intro a204 hA205
          refine q_step hA205 rfl (d_sat (j := j5) (wy rfl rfl (hA205.get 29 _ rfl)) (hA205.ev (v := (.string (S l))) rfl) (hA205.ev (v := (.int .i64 ((j5 : Nat) : Int))) rfl) str9 hy30 ?_)
          intro a206 hA207
          rcases Bool.eq_false_or_eq_true (((y29.toNat : Nat) : Int) == 46) with hb208 | hb208
          · skip
            have hq209 := eq_of_beq hb208
            refine q_step hA207 rfl (d_bin (wy rfl rfl (hA207.get 29 _ rfl)) (hA207.ev (v := (.int .u8 ((y29.toNat : Nat) : Int))) rfl) (hA207.ev (v := (.int .u8 46)) rfl) (b_eq _ _ ((y29.toNat : Nat) : Int) 46 true _ hb208) ?_)
            intro a210 hA211
            refine q_step hA211 rfl (d_pickF (wy rfl rfl (hA211.get 24 _ rfl)) (hA211.ev (v := (.bool false)) rfl) (hA211.ev (v := (.bool true)) rfl) ?_)
            intro a212 hA213
            refine q_step hA213 rfl (d_pickT (wy rfl rfl (hA213.get 22 _ rfl)) (hA213.ev (v := (.bool true)) rfl) (hA213.ev (v := (.bool true)) rfl) ?_)
            intro a214 hA215
            refine q_step hA215 rfl (d_pickF (wy rfl rfl (hA215.get 11 _ rfl)) (hA215.ev (v := (.bool false)) rfl) (hA215.ev (v := (.bool true)) rfl) ?_)
            intro a216 hA217
            refine q_step hA217 rfl (d_pickT (wn rfl) (hA217.ev (v := (.bool true)) rfl) (hA217.ev (v := (.bool true)) rfl) ?_)
            intro a218 hA219
            refine q_end ?_
            refine t_norm ?_
            refine c_true hA219 rfl ?_
            refine wp_skip ?_
            refine t_norm ?_
            refine wp_block ?_
            refine wp_region_lit ?_
            refine q_step hA219 rfl (d_move (wn rfl) (hA219.ev (v := (.int .i64 ((j5 : Nat) : Int))) rfl) ?_)
            intro a220 hA221
            refine q_step hA221 rfl (d_bin (wn rfl) (hA221.ev (v := (.int .i64 ((j5 : Nat) : Int))) rfl) (hA221.ev (v := (.int .i64 1)) rfl) (b_add _ _ ((j5 : Nat) : Int) 1 _ (by omega) (by omega)) ?_)
            intro a222 hA223
            refine q_step hA223 rfl (d_assign (wn rfl) (hA223.ev (v := (.int .i64 (((j5 : Nat) : Int) + 1))) rfl) ?_)
            intro a224 hA225
            refine q_end ?_
            refine i_norm ?_
            refine t_norm ?_
            have hst := rn_go (p := namB) hy30 (by simp [namB, nbgB, numB, hb38, hb108, hb169, hb208] <;> omega)
            exact ⟨l.length - (j5 + 1), (by rw [hm11]; omega), j5 + 1, rfl, (by omega), hA225.cut _ (fm_cons (hA225.get 0 _ rfl) (fm_cons ((hA225.get 1 _ rfl).trans (congrArg (Value.int .i64) (by omega))) (fm_cons (hA225.get 2 _ rfl) (fm_cons (hA225.get 6 _ rfl) fm_nil)))), b107⟩
          · skip
            have hq226 := ne_of_beq hb208
            refine q_step hA207 rfl (d_bin (wy rfl rfl (hA207.get 29 _ rfl)) (hA207.ev (v := (.int .u8 ((y29.toNat : Nat) : Int))) rfl) (hA207.ev (v := (.int .u8 46)) rfl) (b_eq _ _ ((y29.toNat : Nat) : Int) 46 false _ hb208) ?_)
            intro a227 hA228
            refine q_step hA228 rfl (d_pickF (wy rfl rfl (hA228.get 24 _ rfl)) (hA228.ev (v := (.bool false)) rfl) (hA228.ev (v := (.bool false)) rfl) ?_)
            intro a229 hA230
            refine q_step hA230 rfl (d_pickT (wy rfl rfl (hA230.get 22 _ rfl)) (hA230.ev (v := (.bool true)) rfl) (hA230.ev (v := (.bool false)) rfl) ?_)
            intro a231 hA232
            refine q_step hA232 rfl (d_pickF (wy rfl rfl (hA232.get 11 _ rfl)) (hA232.ev (v := (.bool false)) rfl) (hA232.ev (v := (.bool false)) rfl) ?_)
            intro a233 hA234
            refine q_step hA234 rfl (d_pickT (wn rfl) (hA234.ev (v := (.bool true)) rfl) (hA234.ev (v := (.bool false)) rfl) ?_)
            intro a235 hA236
            refine q_end ?_
            refine t_norm ?_
            refine c_false hA236 rfl ?_
            refine wp_exit ?_
            refine t_exit ?_
            refine t_exit ?_
            refine i_here ?_
            refine t_norm ?_
            refine wp_seq ?_
            refine wp_region_lit ?_
            refine q_step hA236 rfl (d_move (wn rfl) (hA236.ev (v := (.int .i64 ((j5 : Nat) : Int))) rfl) ?_)
            intro a237 hA238
            refine q_step hA238 rfl (d_assign (wn rfl) (hA238.ev (v := (.int .i64 ((j5 : Nat) : Int))) rfl) ?_)
            intro a239 hA240
            refine q_end ?_
            refine t_norm ?_
            refine wp_ret ?_
            refine ret1 rfl hA240 (v := (.int .i64 ((j5 : Nat) : Int))) rfl ?_
            have hst := rn_stop (p := namB) hy30 (by simp [namB, nbgB, numB, hb38, hb108, hb169, hb208] <;> omega)
            exact ⟨congrArg (fun z => Ending.returned (Value.int .i64 z)) (by omega), b107⟩
  · skip
    have hq241 := of_decide_eq_false hb19
    refine q_step hA18 rfl (d_bin (wn rfl) (hA18.ev (v := (.int .i64 ((j5 : Nat) : Int))) rfl) (hA18.ev (v := (.int .i64 ((l.length : Nat) : Int))) rfl) (b_lt _ _ ((j5 : Nat) : Int) ((l.length : Nat) : Int) false _ hb19) ?_)
    intro a242 hA243
    refine q_step hA243 rfl (d_move (wn rfl) (hA243.ev (v := (.bool false)) rfl) ?_)
    intro a244 hA245
    refine q_step hA245 rfl (does_not (wno rfl rfl (.inl (hA245.get 11 _ rfl))) ?_)
    intro a246 hA247
    refine q_step hA247 rfl (does_not (wno rfl rfl (.inl (hA247.get 11 _ rfl))) ?_)
    intro a248 hA249
    refine q_step hA249 rfl (does_not (wno rfl rfl (.inl (hA249.get 11 _ rfl))) ?_)
    intro a250 hA251
    refine q_step hA251 rfl (does_not (wno rfl rfl (.inl (hA251.get 11 _ rfl))) ?_)
    intro a252 hA253
    refine q_step hA253 rfl (does_not (wno rfl rfl (.inl (hA253.get 11 _ rfl))) ?_)
    intro a254 hA255
    refine q_step hA255 rfl (does_not (wno rfl rfl (.inr (hA255.get 16 _ rfl))) ?_)
    intro a256 hA257
    refine q_step hA257 rfl (does_not (wno rfl rfl (.inr (hA257.get 16 _ rfl))) ?_)
    intro a258 hA259
    refine q_step hA259 rfl (does_not (wno rfl rfl (.inr (hA259.get 16 _ rfl))) ?_)
    intro a260 hA261
    refine q_step hA261 rfl (does_not (wno rfl rfl (.inr (hA261.get 16 _ rfl))) ?_)
    intro a262 hA263
    refine q_step hA263 rfl (does_not (wno rfl rfl (.inl (hA263.get 11 _ rfl))) ?_)
    intro a264 hA265
    refine q_step hA265 rfl (does_not (wno rfl rfl (.inl (hA265.get 11 _ rfl))) ?_)
    intro a266 hA267
    refine q_step hA267 rfl (does_not (wno rfl rfl (.inr (hA267.get 22 _ rfl))) ?_)
    intro a268 hA269
    refine q_step hA269 rfl (does_not (wno rfl rfl (.inr (hA269.get 22 _ rfl))) ?_)
    intro a270 hA271
    refine q_step hA271 rfl (does_not (wno rfl rfl (.inr (hA271.get 24 _ rfl))) ?_)
    intro a272 hA273
    refine q_step hA273 rfl (does_not (wno rfl rfl (.inr (hA273.get 24 _ rfl))) ?_)
    intro a274 hA275
    refine q_step hA275 rfl (does_not (wno rfl rfl (.inr (hA275.get 24 _ rfl))) ?_)
    intro a276 hA277
    refine q_step hA277 rfl (does_not (wno rfl rfl (.inr (hA277.get 24 _ rfl))) ?_)
    intro a278 hA279
    refine q_step hA279 rfl (does_not (wno rfl rfl (.inr (hA279.get 24 _ rfl))) ?_)
    intro a280 hA281
    refine q_step hA281 rfl (does_not (wno rfl rfl (.inr (hA281.get 29 _ rfl))) ?_)
    intro a282 hA283
    refine q_step hA283 rfl (does_not (wno rfl rfl (.inr (hA283.get 29 _ rfl))) ?_)
    intro a284 hA285
    refine q_step hA285 rfl (does_not (wno rfl rfl (.inr (hA285.get 29 _ rfl))) ?_)
    intro a286 hA287
    refine q_step hA287 rfl (does_not (wno rfl rfl (.inr (hA287.get 29 _ rfl))) ?_)
    intro a288 hA289
    refine q_step hA289 rfl (does_not (wno rfl rfl (.inr (hA289.get 24 _ rfl))) ?_)
    intro a290 hA291
    refine q_step hA291 rfl (does_not (wno rfl rfl (.inr (hA291.get 22 _ rfl))) ?_)
    intro a292 hA293
    refine q_step hA293 rfl (does_not (wno rfl rfl (.inl (hA293.get 11 _ rfl))) ?_)
    intro a294 hA295
    refine q_step hA295 rfl (d_pickF (wn rfl) (hA295.ev (v := (.bool false)) rfl) (hA295.ev (v := (.bool false)) rfl) ?_)
    intro a296 hA297
    refine q_end ?_
    refine t_norm ?_
    refine c_false hA297 rfl ?_
    refine wp_exit ?_
    refine t_exit ?_
    refine t_exit ?_
    refine i_here ?_
    refine t_norm ?_
    refine wp_seq ?_
    refine wp_region_lit ?_
    refine q_step hA297 rfl (d_move (wn rfl) (hA297.ev (v := (.int .i64 ((j5 : Nat) : Int))) rfl) ?_)
    intro a298 hA299
    refine q_step hA299 rfl (d_assign (wn rfl) (hA299.ev (v := (.int .i64 ((j5 : Nat) : Int))) rfl) ?_)
    intro a300 hA301
    refine q_end ?_
    refine t_norm ?_
    refine wp_ret ?_
    refine ret1 rfl hA301 (v := (.int .i64 ((j5 : Nat) : Int))) rfl ?_
    have hst : rn namB (List.drop j5 l) = 0 := rn_end (by omega)
    exact ⟨congrArg (fun z => Ending.returned (Value.int .i64 z)) (by omega), b10⟩
end Go.Proofs.YtfehbkcfncioiaaDoor
/- Numbers of other kinds, conversions, interfaces for the engine. -/
namespace Go.Proofs.YtfehbkcfncioiaaDoor
set_option linter.unusedVariables false
set_option linter.unusedSimpArgs false
open Go.RowKit

def byteE (b : UInt8) : List Value := [.int .u8 ((b.toNat : Nat) : Int)]
def kindB (P : Program) (t : TypeId) (k : IntKind) : Bool := match P.underlying t with | some (.int k') => k' == k | _ => false
theorem kind_fact {P : Program} {t : TypeId} {k : IntKind} (h : kindB P t k = true) : P.underlying t = some (.int k) := by
  unfold kindB at h; split at h
  · next k' hk => rw [hk, eq_of_beq h]
  · cases h
def concB (P : Program) (t : TypeId) : Bool := match P.underlying t with | some (.interface _) => false | some _ => true | none => false
section
variable {P : Program} {ops : Array Oper} {a : Act} {w : World} {K : Value → World → Prop} {d : Option Tmp} {ty : TypeId} {pos : String} {af : Array Edge} {gd : Option (Nat × Bool)} {v : Value}
theorem d_conv {x : Operand} {s t : Nat} {k k' : IntKind} {n : Int} (m : Int) (hw : Region.wanted { dst := d, op := .convert s t x, type := ty, pos := pos, after := af, guard := gd } (yielded ops a.tmps) = true) (hx : a.eval x = .int k n) (hs : kindB P s k = true) (ht : kindB P t k' = true) (hm : k'.wrap n = m)
    (h : K (.int k' m) w) : Does P ops { dst := d, op := .convert s t x, type := ty, pos := pos, after := af, guard := gd } a w K :=
  does_val hw (by
    subst hm
    unfold execOp
    simp only [hx, Sem.run_bind]
    simp [convert, run_underlying (kind_fact hs), run_underlying (kind_fact ht), Conv.intToInt]) h
theorem d_iface {x : Operand} {t : Nat} {v : Value} (hw : Region.wanted { dst := d, op := .makeInterface t x, type := ty, pos := pos, after := af, guard := gd } (yielded ops a.tmps) = true) (hx : a.eval x = v) (ht : concB P t = true)
    (h : K (.iface t v) w) : Does P ops { dst := d, op := .makeInterface t x, type := ty, pos := pos, after := af, guard := gd } a w K :=
  does_val hw (by
    unfold execOp
    simp only [hx, Sem.run_bind]
    unfold concB at ht
    cases hd : P.underlying t with
    | none => simp [hd] at ht
    | some u => cases u <;> first | (simp [hd] at ht; done) | simp [Instr.makeInterface, run_underlying hd]) h
theorem d_bytes {x : Operand} {s t e : Nat} {l : List UInt8} (hw : Region.wanted { dst := d, op := .convert s t x, type := ty, pos := pos, after := af, guard := gd } (yielded ops a.tmps) = true) (hx : a.eval x = .string (S l)) (hs : strB P s = true) (ht : sliceB P t e 1 = true) (he : kindB P e .u8 = true) (hl : l.length ≤ 8192)
    (h : ∀ v w', Grow w w' → Sl byteE 1 w'.heap.size w' v l → K v w') : Does P ops { dst := d, op := .convert s t x, type := ty, pos := pos, after := af, guard := gd } a w K := by
  refine does_val (w' := Lib.bytesWorld w e (S l)) (v := .slice (some ⟨w.heap.size, 0, none⟩) (S l).size (grownCap w (S l).size 0 e)) hw ?_ (h _ _ ?_ ?_)
  · unfold execOp
    simp only [hx, Sem.run_bind, Lib.run_convert_string_bytes w s t e (S l) (str_fact hs) (slice_facts ht).1 (kind_fact he), Sem.run_pure, Result.andThen_ok]
  · exact ⟨rfl, rfl, rfl, by rw [Lib.bytesWorld_size]; omega, fun k hk => Lib.bytesWorld_at_old w e (S l) k hk⟩
  · refine ⟨_, _, by rw [S_size], ?_, fun j y hy => ?_⟩
    · exact grownCap_ge _ _ _ _
    · have hj : j < l.length := (List.getElem?_eq_some_iff.1 hy).1
      refine ⟨_, _, rfl, by rw [Lib.bytesWorld_size]; omega, fun i z hz => ?_⟩
      have hi : i = 0 := by
        have := (List.getElem?_eq_some_iff.1 hz).1
        simp [byteE] at this; exact this
      subst hi
      have h1 := Lib.bytesWorld_cell w e (S l) j (by rw [S_size]; exact hj)
      rw [S_data] at h1
      simp [byteE] at hz
      subst hz
      simpa [List.getD, hy] using h1
end
section
variable {P : Program} {w : World} {t : TypeId} {x y : Operand} {k : IntKind} {a b : Int}
theorem b_addK (n : Int) (h : k.wrap (a + b) = n) : (eqGuard .add t x y (.int k a) (.int k b)).run P w = .ok () w ∧ (binOp .add t (.int k a) (.int k b)).run P w = .ok (.int k n) w := by
  subst h; exact ⟨by simp [eqGuard], by simp [binOp, Op.intArith]⟩
theorem b_subK (n : Int) (h : k.wrap (a - b) = n) : (eqGuard .sub t x y (.int k a) (.int k b)).run P w = .ok () w ∧ (binOp .sub t (.int k a) (.int k b)).run P w = .ok (.int k n) w := by
  subst h; exact ⟨by simp [eqGuard], by simp [binOp, Op.intArith]⟩
theorem b_mulK (n : Int) (h : k.wrap (a * b) = n) : (eqGuard .mul t x y (.int k a) (.int k b)).run P w = .ok () w ∧ (binOp .mul t (.int k a) (.int k b)).run P w = .ok (.int k n) w := by
  subst h; exact ⟨by simp [eqGuard], by simp [binOp, Op.intArith]⟩
theorem b_nilNe {c : Value} (ht : P.underlying t = some (.interface (P.methodsAt t))) : (eqGuard .neq t x (.const c) .nilIface .nilIface).run P w = .ok () w ∧ (binOp .neq t .nilIface .nilIface).run P w = .ok (.bool false) w :=
  ⟨by rw [eqGuard_nil_constR]; rfl, run_neq_nil_nil w t ht⟩
theorem b_ifcNe {tt : TypeId} {v : Value} (ht : P.underlying t = some (.interface (P.methodsAt t))) : (eqGuard .neq t x y (.iface tt v) .nilIface).run P w = .ok () w ∧ (binOp .neq t (.iface tt v) .nilIface).run P w = .ok (.bool true) w :=
  ⟨rfl, run_neq_held_nil w t tt v ht⟩
end
theorem wrap8 {n : Int} (h1 : 0 ≤ n) (h2 : n ≤ 255) : IntKind.wrap .u8 n = n := by simp only [IntKind.wrap, IntKind.signed, IntKind.bits]; simp; omega
theorem wrap64 {n : Int} (h1 : 0 ≤ n) (h2 : n ≤ 18446744073709551615) : IntKind.wrap .u64 n = n := by simp only [IntKind.wrap, IntKind.signed, IntKind.bits]; simp; omega
theorem wrapI {n : Int} (h1 : -9223372036854775808 ≤ n) (h2 : n ≤ 9223372036854775807) : IntKind.wrap .i64 n = n := by simp only [IntKind.wrap, IntKind.signed, IntKind.bits]; simp; omega
end Go.Proofs.YtfehbkcfncioiaaDoor
/- The value of a row of digits. -/
namespace Go.Proofs.YtfehbkcfncioiaaDoor
set_option linter.unusedVariables false

def lowB (b : UInt8) : Nat := (b ||| 32).toNat
theorem lowB_le (b : UInt8) : lowB b ≤ 255 := by unfold lowB; exact Nat.le_of_lt_succ (b ||| 32).toNat_lt
def dv (b : UInt8) : Nat := if 48 ≤ b.toNat ∧ b.toNat ≤ 57 then b.toNat - 48 else if 97 ≤ lowB b ∧ lowB b ≤ 122 then lowB b - 97 + 10 else 99
theorem dv_dig {b : UInt8} (h1 : 48 ≤ b.toNat) (h2 : b.toNat ≤ 57) : dv b = b.toNat - 48 := if_pos ⟨h1, h2⟩
theorem dv_let {b : UInt8} (h : ¬ (48 ≤ b.toNat ∧ b.toNat ≤ 57)) (h1 : 97 ≤ lowB b) (h2 : lowB b ≤ 122) : dv b = lowB b - 97 + 10 := by unfold dv; rw [if_neg h, if_pos ⟨h1, h2⟩]
theorem dv_bad {b : UInt8} (h : ¬ (48 ≤ b.toNat ∧ b.toNat ≤ 57)) (h1 : ¬ (97 ≤ lowB b ∧ lowB b ≤ 122)) : dv b = 99 := by unfold dv; rw [if_neg h, if_neg h1]
def nv (bs : Nat) (l : List UInt8) : Nat := l.foldl (fun n b => n * bs + dv b) 0
def allD (bs : Nat) (l : List UInt8) : Bool := l.all fun b => decide (dv b < bs)
/-- what a row of digits comes to; none: it is no such row -/
def valL (bs : Nat) (l : List UInt8) : Option Nat := if l = [] ∨ allD bs l = false then none else some (nv bs l)
theorem nv_zero (bs : Nat) (l : List UInt8) : nv bs (l.take 0) = 0 := rfl
theorem all_zero (bs : Nat) (l : List UInt8) : allD bs (l.take 0) = true := rfl
theorem take_at {l : List UInt8} {i : Nat} {y : UInt8} (h : l[i]? = some y) : l.take (i + 1) = l.take i ++ [y] := by
  rw [List.take_add_one, h]; rfl
theorem nv_go {bs : Nat} {l : List UInt8} {i : Nat} {y : UInt8} (h : l[i]? = some y) : nv bs (l.take (i + 1)) = nv bs (l.take i) * bs + dv y := by
  rw [take_at h]; unfold nv; rw [List.foldl_append]; rfl
theorem all_go {bs : Nat} {l : List UInt8} {i : Nat} {y : UInt8} (h : l[i]? = some y) (ha : allD bs (l.take i) = true) (hy : dv y < bs) : allD bs (l.take (i + 1)) = true := by
  rw [take_at h]; unfold allD at *; rw [List.all_append, ha]; simp [hy]
theorem val_bad {bs : Nat} {l : List UInt8} {i : Nat} {y : UInt8} (h : l[i]? = some y) (hy : bs ≤ dv y) : valL bs l = none := by
  unfold valL; rw [if_pos]; right
  cases ha : allD bs l
  · rfl
  · exfalso
    have := List.all_eq_true.1 ha y (List.mem_of_getElem? h)
    have := of_decide_eq_true this
    omega
theorem val_nil {bs : Nat} {l : List UInt8} (h : l = []) : valL bs l = none := by unfold valL; rw [if_pos (.inl h)]
theorem val_end {bs : Nat} {l : List UInt8} {i : Nat} (h : l ≠ []) (ha : allD bs (l.take i) = true) (hi : l.length ≤ i) : valL bs l = some (nv bs (l.take i)) := by
  rw [List.take_of_length_le hi] at *
  unfold valL; rw [if_neg (by simp [h, ha])]
theorem nv_pow {bs : Nat} (hb : 0 < bs) (l : List UInt8) (i : Nat) (ha : allD bs (l.take i) = true) : nv bs (l.take i) < bs ^ i := by
  induction i with
  | zero => rw [nv_zero]; simp
  | succ i ih =>
    cases hy : l[i]? with
    | none =>
      have hl : l.length ≤ i := by simpa using hy
      have e : l.take (i + 1) = l.take i := by rw [List.take_of_length_le hl, List.take_of_length_le (by omega)]
      rw [e] at ha ⊢
      exact Nat.lt_of_lt_of_le (ih ha) (Nat.pow_le_pow_right hb (by omega))
    | some y =>
      rw [take_at hy] at ha
      unfold allD at ha
      rw [List.all_append, Bool.and_eq_true] at ha
      have h1 := ih ha.1
      have h2 : dv y < bs := by simpa using ha.2
      rw [nv_go hy, Nat.pow_succ]
      calc nv bs (l.take i) * bs + dv y < nv bs (l.take i) * bs + bs := by omega
        _ = (nv bs (l.take i) + 1) * bs := by rw [Nat.add_mul, Nat.one_mul]
        _ ≤ bs ^ i * bs := Nat.mul_le_mul_right _ h1
theorem nv_10 {l : List UInt8} {i : Nat} (ha : allD 10 (l.take i) = true) (hi : i ≤ 18) : nv 10 (l.take i) < 1000000000000000000 :=
  Nat.lt_of_lt_of_le (nv_pow (by omega) l i ha) (Nat.pow_le_pow_right (n := 10) (by omega) hi)
theorem nv_16 {l : List UInt8} {i : Nat} (ha : allD 16 (l.take i) = true) (hi : i ≤ 15) : nv 16 (l.take i) < 1152921504606846976 :=
  Nat.lt_of_lt_of_le (nv_pow (by omega) l i ha) (Nat.pow_le_pow_right (n := 16) (by omega) hi)
/-- what internal/strconv.ParseUint hands back -/
def puV (bs : Nat) (l : List UInt8) : Value := match valL bs l with | some n => .tuple #[.int .u64 (n : Int), .nilIface] | none => .tuple #[.int .u64 0, .iface 84 (.int .i64 2)]
theorem pu_none {bs : Nat} {l : List UInt8} (h : valL bs l = none) : puV bs l = .tuple #[.int .u64 0, .iface 84 (.int .i64 2)] := by unfold puV; rw [h]
theorem pu_some {bs : Nat} {l : List UInt8} {n : Nat} (h : valL bs l = some n) : puV bs l = .tuple #[.int .u64 (n : Int), .nilIface] := by unfold puV; rw [h]
theorem b_or8 {P : Program} {w : World} {t : TypeId} {x y : Operand} (b : UInt8) : (eqGuard .or t x y (.int .u8 ((b.toNat : Nat) : Int)) (.int .u8 32)).run P w = .ok () w ∧ (binOp .or t (.int .u8 ((b.toNat : Nat) : Int)) (.int .u8 32)).run P w = .ok (.int .u8 ((lowB b : Nat) : Int)) w := by
  refine ⟨by simp [eqGuard], ?_⟩
  have : ∀ i : Fin 256, IntKind.wrap .u8 (((BitVec.ofInt 8 ((i.val : Nat) : Int) ||| BitVec.ofInt 8 32).toNat : Nat) : Int) = ((lowB (UInt8.ofNat i.val) : Nat) : Int) := by decide +kernel
  have h2 := this ⟨b.toNat, b.toNat_lt⟩
  simp only [UInt8.ofNat_toNat] at h2
  show Sem.run P (pure (Value.int .u8 (IntKind.wrap .u8 (((BitVec.ofInt 8 ((b.toNat : Nat) : Int) ||| BitVec.ofInt 8 32).toNat : Nat) : Int)))) w = _
  rw [h2]; rfl
end Go.Proofs.YtfehbkcfncioiaaDoor
