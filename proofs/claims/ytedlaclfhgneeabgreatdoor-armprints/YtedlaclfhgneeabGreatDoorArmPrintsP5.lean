/- ArmPrints, part 5: the engine, contracts, theory. -/
import Derived.Test.YtedlaclfhgneeabGreatDoorArmPrintsP4
import Derived.Shelf.Spec.SlicesGrow
import Derived.LoopN
import Derived.WalkSmall
import Derived.ProofKit
import Derived.OpenShut
import Derived.ChangeOld
namespace Go.Proofs.YtedlaclfhgneeabGreatDoor
open Go.RowKit
set_option linter.unusedVariables false
set_option linter.unusedSimpArgs false
set_option maxRecDepth 100000
set_option maxHeartbeats 2000000
set_option simprocs false
theorem of_and {p : Prop} [Decidable p] {b : Bool} (h : (decide p && b) = true) : p := by rw [Bool.and_eq_true] at h; exact of_decide_eq_true h.1
section
variable {l : List UInt8} {e0 ss : Nat} {ws : List Tk}
theorem cut_is (n : Nat) : (l.take ((((ss + n : Nat)) : Int)).toNat).drop (((ss : Nat) : Int)).toNat = (l.drop ss).take n := by
  rw [Int.toNat_natCast, Int.toNat_natCast, List.drop_take, show ss + n - ss = n by omega]
theorem hd_is (h : ¬ (((ss : Nat) : Int) ≥ (l.length : Int))) : (l.drop ss)[0]? = some (l.getD (((ss : Nat) : Int)).toNat 0) := by
  rw [List.getElem?_drop]; exact at_of (by omega)
theorem nx_is (h : ((ss : Nat) : Int) + 1 < (l.length : Int)) : (l.drop ss)[1]? = some (l.getD (((ss : Nat) : Int) + 1).toNat 0) := by
  rw [List.getElem?_drop]; exact at_of1 h
theorem TkI.go (hI : TkI l e0 ws) (h : skE l e0 = 0) (h1 : ¬ (((skp l e0 : Nat) : Int) ≥ (l.length : Int))) {kd n : Int} {tx : List UInt8} {c : Nat} (hf : firstR (l.drop (skp l e0)) = (⟨kd, tx, n, 0⟩, 0)) (hn : tx.length = c) : TkI l (skp l e0 + c) (ws ++ [⟨kd, tx, n, ((skp l e0 : Nat) : Int)⟩]) ∧ e0 < skp l e0 + c ∧ skp l e0 + c ≤ l.length := by
  have h2 : (firstR (l.drop (skp l e0))).2 = 0 := by rw [hf]
  have a := hI.nx h (by omega) h2
  have b := hI.len (by omega) h2
  rw [hf] at a b
  simp only at a b
  rw [hn] at a b
  have : e0 ≤ skp l e0 := by unfold skp; omega
  exact ⟨a, by omega, by omega⟩
theorem nbg_is (b : UInt8) : ((letB b) || (((b.toNat : Nat) : Int) == 95)) = nbgB b := by
  unfold nbgB; rw [show (((b.toNat : Nat) : Int) == 95) = (b.toNat == 95) by rw [Bool.eq_iff_iff]; simp only [beq_iff_eq]; omega]
theorem mk_two (h1 : ¬ (((ss : Nat) : Int) ≥ (l.length : Int))) (h : ((decide ((((ss : Nat) : Int) + 1) < (l.length : Int))) && ((((((l.getD (((ss : Nat) : Int)).toNat 0).toNat : Nat) : Int) == 47) && ((((l.getD (((ss : Nat) : Int) + 1).toNat 0).toNat : Nat) : Int) == 92)) || (((((l.getD (((ss : Nat) : Int)).toNat 0).toNat : Nat) : Int) == 92) && ((((l.getD (((ss : Nat) : Int) + 1).toNat 0).toNat : Nat) : Int) == 47)))) = true) : mkN (l.drop ss) = 2 := by
  simp only [Bool.and_eq_true, Bool.or_eq_true, decide_eq_true_eq, beq_iff_eq] at h
  have a0 := hd_is h1
  have a1 := nx_is h.1
  rcases h.2 with ⟨p, q⟩ | ⟨p, q⟩
  · exact mkN_two (by rw [pre_two a0 a1, u8_eq (y := 47) p, u8_eq (y := 92) q]; rfl)
  · exact mkN_two' (by rw [pre_two a0 a1, u8_eq (y := 92) p, u8_eq (y := 47) q]; rfl)
theorem mk_one (h1 : ¬ (((ss : Nat) : Int) ≥ (l.length : Int))) (h : ((decide ((((ss : Nat) : Int) + 1) < (l.length : Int))) && ((((((l.getD (((ss : Nat) : Int)).toNat 0).toNat : Nat) : Int) == 47) && ((((l.getD (((ss : Nat) : Int) + 1).toNat 0).toNat : Nat) : Int) == 92)) || (((((l.getD (((ss : Nat) : Int)).toNat 0).toNat : Nat) : Int) == 92) && ((((l.getD (((ss : Nat) : Int) + 1).toNat 0).toNat : Nat) : Int) == 47)))) = false) (hm : mrkB (l.getD (((ss : Nat) : Int)).toNat 0) = true) : mkN (l.drop ss) = 1 := by
  have a0 := hd_is h1
  have hp : ∀ p q : UInt8, (p = 47 ∧ q = 92) ∨ (p = 92 ∧ q = 47) → preB (l.drop ss) [p, q] = false := by
    intro p q hpq
    by_cases h2 : ((ss : Nat) : Int) + 1 < (l.length : Int)
    · rw [pre_two a0 (nx_is h2)]
      rw [decide_eq_true h2, Bool.true_and] at h
      cases hc : (l.getD (((ss : Nat) : Int)).toNat 0 == p && l.getD (((ss : Nat) : Int) + 1).toNat 0 == q)
      · rfl
      · rw [Bool.and_eq_true, beq_iff_eq, beq_iff_eq] at hc
        rw [hc.1, hc.2] at h
        rcases hpq with ⟨e1, e2⟩ | ⟨e1, e2⟩ <;> subst e1 <;> subst e2 <;> exact absurd h (by decide)
    · exact pre_short (by rw [List.length_drop]; simp only [List.length_cons, List.length_nil]; omega)
  unfold mkN
  rw [hp 47 92 (.inl ⟨rfl, rfl⟩), hp 92 47 (.inr ⟨rfl, rfl⟩), a0]
  show (if (false || false) = true then 2 else if mrkB (l.getD (((ss : Nat) : Int)).toNat 0) = true then 1 else 0) = 1
  rw [hm]; rfl
theorem mk_no (h1 : ¬ (((ss : Nat) : Int) ≥ (l.length : Int))) (hm : mrkB (l.getD (((ss : Nat) : Int)).toNat 0) = false) : ¬ mkN (l.drop ss) > 0 := by
  have a0 := hd_is h1
  have hp : ∀ p q : UInt8, p = 47 ∨ p = 92 → preB (l.drop ss) [p, q] = false := by
    intro p q hpq
    by_cases h2 : ((ss : Nat) : Int) + 1 < (l.length : Int)
    · rw [pre_two a0 (nx_is h2)]
      cases hc : (l.getD (((ss : Nat) : Int)).toNat 0 == p)
      · rfl
      · rw [beq_iff_eq] at hc
        rw [hc] at hm
        rcases hpq with e1 | e1 <;> subst e1 <;> exact absurd hm (by decide)
    · exact pre_short (by rw [List.length_drop]; simp only [List.length_cons, List.length_nil]; omega)
  unfold mkN
  rw [hp 47 92 (.inl rfl), hp 92 47 (.inr rfl), a0]
  show ¬ (if (false || false) = true then 2 else if mrkB (l.getD (((ss : Nat) : Int)).toNat 0) = true then 1 else 0) > 0
  rw [hm]; decide
theorem num_of {t : List UInt8} (h : (!(numO t)) = false) : numR t = some (numI t) := by
  unfold numO at h; unfold numI; cases hn : numR t with
  | none => rw [hn] at h; exact absurd h (by decide)
  | some n => rfl
theorem num_not {t : List UInt8} (h : (!(numO t)) = true) : numR t = none := by
  unfold numO at h; cases hn : numR t with
  | none => rfl
  | some n => rw [hn] at h; exact absurd h (by simp)
theorem tk_num (hI : TkI l e0 ws) (k0 : (skE l e0) = 0) (k1 : ¬(((skp l e0 : Nat) : Int) ≥ (l.length : Int))) (k2 : (digB (l.getD (((skp l e0 : Nat) : Int)).toNat 0)) = true) (k3 : (!(numO ((l.take ((((skp l e0 + rn numB (l.drop (skp l e0)) : Nat)) : Int)).toNat).drop (((skp l e0 : Nat) : Int)).toNat))) = false) : TkI l (skp l e0 + rn numB (l.drop (skp l e0))) (ws ++ [(⟨2, (l.take ((((skp l e0 + rn numB (l.drop (skp l e0)) : Nat)) : Int)).toNat).drop (((skp l e0 : Nat) : Int)).toNat, numI ((l.take ((((skp l e0 + rn numB (l.drop (skp l e0)) : Nat)) : Int)).toNat).drop (((skp l e0 : Nat) : Int)).toNat), ((skp l e0 : Nat) : Int)⟩ : Tk)]) ∧ e0 < skp l e0 + rn numB (l.drop (skp l e0)) ∧ skp l e0 + rn numB (l.drop (skp l e0)) ≤ l.length := by
  rw [cut_is] at k3 ⊢
  exact hI.go k0 k1 (first_num (hd_is k1) k2 (num_of k3)) (by rw [List.length_take]; have := rn_le numB (l.drop (skp l e0)); omega)
theorem tk_name (hI : TkI l e0 ws) (k0 : (skE l e0) = 0) (k1 : ¬(((skp l e0 : Nat) : Int) ≥ (l.length : Int))) (k2 : (digB (l.getD (((skp l e0 : Nat) : Int)).toNat 0)) = false) (k3 : ((letB (l.getD (((skp l e0 : Nat) : Int)).toNat 0)) || ((((l.getD (((skp l e0 : Nat) : Int)).toNat 0).toNat : Nat) : Int) == 95)) = true) : TkI l (skp l e0 + rn namB (l.drop (skp l e0))) (ws ++ [(⟨1, (l.take ((((skp l e0 + rn namB (l.drop (skp l e0)) : Nat)) : Int)).toNat).drop (((skp l e0 : Nat) : Int)).toNat, 0, ((skp l e0 : Nat) : Int)⟩ : Tk)]) ∧ e0 < skp l e0 + rn namB (l.drop (skp l e0)) ∧ skp l e0 + rn namB (l.drop (skp l e0)) ≤ l.length := by
  rw [cut_is]
  exact hI.go k0 k1 (first_name (hd_is k1) k2 (by rw [← nbg_is]; exact k3)) (by rw [List.length_take]; have := rn_le namB (l.drop (skp l e0)); omega)
theorem tk_m2 (hI : TkI l e0 ws) (k0 : (skE l e0) = 0) (k1 : ¬(((skp l e0 : Nat) : Int) ≥ (l.length : Int))) (k2 : (digB (l.getD (((skp l e0 : Nat) : Int)).toNat 0)) = false) (k3 : ((letB (l.getD (((skp l e0 : Nat) : Int)).toNat 0)) || ((((l.getD (((skp l e0 : Nat) : Int)).toNat 0).toNat : Nat) : Int) == 95)) = false) (k4 : (mrkB (l.getD (((skp l e0 : Nat) : Int)).toNat 0)) = true) (k5 : ((decide ((((skp l e0 : Nat) : Int) + 1) < (l.length : Int))) && ((((((l.getD (((skp l e0 : Nat) : Int)).toNat 0).toNat : Nat) : Int) == 47) && ((((l.getD (((skp l e0 : Nat) : Int) + 1).toNat 0).toNat : Nat) : Int) == 92)) || (((((l.getD (((skp l e0 : Nat) : Int)).toNat 0).toNat : Nat) : Int) == 92) && ((((l.getD (((skp l e0 : Nat) : Int) + 1).toNat 0).toNat : Nat) : Int) == 47)))) = true) : TkI l (skp l e0 + 1 + 1) (ws ++ [(⟨3, (l.take ((((skp l e0 : Nat) : Int) + 1) + 1).toNat).drop (((skp l e0 : Nat) : Int)).toNat, 0, ((skp l e0 : Nat) : Int)⟩ : Tk)]) ∧ e0 < skp l e0 + 1 + 1 ∧ skp l e0 + 1 + 1 ≤ l.length := by
  have e := mk_two k1 k5
  have r := of_and k5
  rw [show (((skp l e0 : Nat) : Int) + 1) + 1 = ((skp l e0 + 2 : Nat) : Int) by omega, cut_is]
  exact hI.go k0 k1 (c := 2) (e ▸ first_mark (hd_is k1) k2 (by rw [← nbg_is]; exact k3) (by omega)) (by rw [List.length_take, List.length_drop]; omega)
theorem tk_m1 (hI : TkI l e0 ws) (k0 : (skE l e0) = 0) (k1 : ¬(((skp l e0 : Nat) : Int) ≥ (l.length : Int))) (k2 : (digB (l.getD (((skp l e0 : Nat) : Int)).toNat 0)) = false) (k3 : ((letB (l.getD (((skp l e0 : Nat) : Int)).toNat 0)) || ((((l.getD (((skp l e0 : Nat) : Int)).toNat 0).toNat : Nat) : Int) == 95)) = false) (k4 : (mrkB (l.getD (((skp l e0 : Nat) : Int)).toNat 0)) = true) (k5 : ((decide ((((skp l e0 : Nat) : Int) + 1) < (l.length : Int))) && ((((((l.getD (((skp l e0 : Nat) : Int)).toNat 0).toNat : Nat) : Int) == 47) && ((((l.getD (((skp l e0 : Nat) : Int) + 1).toNat 0).toNat : Nat) : Int) == 92)) || (((((l.getD (((skp l e0 : Nat) : Int)).toNat 0).toNat : Nat) : Int) == 92) && ((((l.getD (((skp l e0 : Nat) : Int) + 1).toNat 0).toNat : Nat) : Int) == 47)))) = false) : TkI l (skp l e0 + 1) (ws ++ [(⟨3, (l.take (((skp l e0 : Nat) : Int) + 1).toNat).drop (((skp l e0 : Nat) : Int)).toNat, 0, ((skp l e0 : Nat) : Int)⟩ : Tk)]) ∧ e0 < skp l e0 + 1 ∧ skp l e0 + 1 ≤ l.length := by
  have e := mk_one k1 k5 k4
  rw [show ((skp l e0 : Nat) : Int) + 1 = ((skp l e0 + 1 : Nat) : Int) by omega, cut_is]
  exact hI.go k0 k1 (c := 1) (e ▸ first_mark (hd_is k1) k2 (by rw [← nbg_is]; exact k3) (by omega)) (by rw [List.length_take, List.length_drop]; omega)
theorem tk_bn (hI : TkI l e0 ws) (k0 : (skE l e0) = 0) (k1 : ¬(((skp l e0 : Nat) : Int) ≥ (l.length : Int))) (k2 : (digB (l.getD (((skp l e0 : Nat) : Int)).toNat 0)) = true) (k3 : (!(numO ((l.take ((((skp l e0 + rn numB (l.drop (skp l e0)) : Nat)) : Int)).toNat).drop (((skp l e0 : Nat) : Int)).toNat))) = true) : tokensR l = ([], 23, skp l e0) := by
  rw [cut_is] at k3
  have e := first_bad (hd_is k1) k2 (num_not k3)
  have := hI.bad k0 (by omega) (by rw [e]; decide)
  rw [e] at this; exact this
theorem tk_bb (hI : TkI l e0 ws) (k0 : (skE l e0) = 0) (k1 : ¬(((skp l e0 : Nat) : Int) ≥ (l.length : Int))) (k2 : (digB (l.getD (((skp l e0 : Nat) : Int)).toNat 0)) = false) (k3 : ((letB (l.getD (((skp l e0 : Nat) : Int)).toNat 0)) || ((((l.getD (((skp l e0 : Nat) : Int)).toNat 0).toNat : Nat) : Int) == 95)) = false) (k4 : (mrkB (l.getD (((skp l e0 : Nat) : Int)).toNat 0)) = false) : tokensR l = ([], 20, skp l e0) := by
  have e := first_byte (hd_is k1) k2 (by rw [← nbg_is]; exact k3) (mk_no k1 k4)
  have := hI.bad k0 (by omega) (by rw [e]; decide)
  rw [e] at this; exact this
end
theorem rtokens_ (l : List UInt8) : Fn Tryz.prog 102 [.str l] [] (TkR l) :=
 enterM (n := 112) (by kernel_rfl) Tryz.func102 rfl rfl rfl fun G w a h0 A => N hX 15 A rfl rfl fun A => forkD 16 A rfl
  (fun h1 A => N hX 9 A rfl rfl fun A => RET (x := .tup [.sla none 0 0, .int .i64 2, .int .i64 0]) (H' := []) hX [] A (by have e := tokens_long (l := l) (by omega); unfold TkR; rw [e]; exact .inr ⟨(by show (2 : Int) ≠ 0; decide), rfl, rfl⟩) rfl rfl rfl rfl rfl rfl rfl rfl h0)
  (fun h1 A => N hX 14 A rfl rfl fun A => have A := A.nilRow 5 28 4 (fun zz => tkc (([] : List Tk).getD zz tok0)) rfl (fun z => ⟨_, rfl, rfl⟩); LOOP2 (fun (e0 : Nat) (ws : List Tk) => [(0, .str l), (2, .sla none 0 0), (3, .int .i64 0), (4, .int .i64 0), (5, .sl 0 ws.length 0), (6, .int .i64 (e0 : Int))]) (fun (e0 : Nat) (ws : List Tk) => [some (.row 28 4 ws.length 0 (fun zz => tkc (ws.getD zz tok0)))]) (fun (e0 : Nat) (ws : List Tk) => TkI l e0 ws) (fun (e0 : Nat) (ws : List Tk) => l.length - e0) 0 [] (TkI.i0 (by omega)) ((A.cut [0, 2, 3, 4, 5, 6] rfl).trunc 1 rfl rfl rfl (by simp only [List.length_cons, List.length_nil] at h0; omega)) fun e0 ws hI {G a w} A => N hX 5 A rfl rfl fun A => CALL1 [] (fn_asX (rblank_ l e0 hI.le (by omega)) (y := .tup [.int .i64 ((skp l e0 : Nat) : Int), .int .i64 (skE l e0)]) fun _ => rfl) A rfl rfl rfl rfl rfl rfl rfl fun A => N hX 14 A rfl rfl fun A => forkN 24 A rfl
    (fun h2 A => N hX 11 A rfl rfl fun A => RET (x := .tup [.sla none 0 0, .int .i64 (skE l e0), .int .i64 ((skp l e0 : Nat) : Int)]) (H' := []) hX [] A (by have e := (hI.rem h2).1; unfold TkR; rw [e]; have e2 := (hI.rem h2).2; rw [e2]; exact .inr ⟨(by show (24 : Int) ≠ 0; decide), rfl, rfl⟩) rfl rfl rfl rfl rfl rfl rfl rfl h0)
    (fun h2 A => N hX 18 A rfl rfl fun A => forkD 31 A rfl
     (fun h3 A => N hX 10 A rfl rfl fun A => RET (x := .tup [.sl 0 ws.length 0, .int .i64 0, .int .i64 0]) (H' := [some (.row 28 4 ws.length 0 (fun zz => tkc (ws.getD zz tok0)))]) hX [0] A (by have e := hI.done h2 (by have := hI.sk; omega); unfold TkR; rw [e]; exact .inl ⟨rfl, rfl, rfl⟩) rfl rfl rfl rfl rfl rfl rfl rfl h0)
     (fun h3 A => N hX 8 A rfl (ok_d (by have hs := hI.sk; have hle := hI.le; have hwl := hI.wl; have r1 := rn_le numB (l.drop (skp l e0)); have r2 := rn_le namB (l.drop (skp l e0)); rw [List.length_drop] at r1 r2; omega) <| okE_nil) fun A => N hX 15 A rfl (ok_d (by have hs := hI.sk; have hle := hI.le; have hwl := hI.wl; have r1 := rn_le numB (l.drop (skp l e0)); have r2 := rn_le namB (l.drop (skp l e0)); rw [List.length_drop] at r1 r2; omega) <| okE_nil) fun A => N hX 8 A rfl rfl fun A => CALL1 [] (rdigit_b (l.getD (((skp l e0 : Nat) : Int)).toNat 0)) A rfl rfl rfl rfl rfl rfl rfl fun A => N hX 3 A rfl rfl fun A => fork 41 A rfl
      (fun h4 A => N hX 5 A rfl rfl fun A => CALL1 [] (rrun_num l (skp l e0) hI.sk (by omega)) A rfl rfl rfl rfl rfl rfl rfl fun A => N hX 9 A rfl (ok_d (by have hs := hI.sk; have hle := hI.le; have hwl := hI.wl; have r1 := rn_le numB (l.drop (skp l e0)); have r2 := rn_le namB (l.drop (skp l e0)); rw [List.length_drop] at r1 r2; omega) <| okE_nil) fun A => CALL1 [] (rvalue_ ((l.take ((((skp l e0 + rn numB (l.drop (skp l e0)) : Nat)) : Int)).toNat).drop (((skp l e0 : Nat) : Int)).toNat) (by have hs := hI.sk; have hle := hI.le; have hwl := hI.wl; have r1 := rn_le numB (l.drop (skp l e0)); have r2 := rn_le namB (l.drop (skp l e0)); rw [List.length_drop] at r1 r2; rw [List.length_drop, List.length_take]; omega)) A rfl rfl rfl rfl rfl rfl rfl fun A => N hX 14 A rfl rfl fun A => fork 56 A rfl
       (fun h5 A => N hX 10 A rfl rfl fun A => RET (x := .tup [.sla none 0 0, .int .i64 23, .int .i64 ((skp l e0 : Nat) : Int)]) (H' := []) hX [] A (by have e := tk_bn hI h2 h3 h4 h5; unfold TkR; rw [e]; exact .inr ⟨(by show (23 : Int) ≠ 0; decide), rfl, rfl⟩) rfl rfl rfl rfl rfl rfl rfl rfl h0)
       (fun h5 A => N hX 22 A rfl (ok_d (by have hs := hI.sk; have hle := hI.le; have hwl := hI.wl; have r1 := rn_le numB (l.drop (skp l e0)); have r2 := rn_le namB (l.drop (skp l e0)); rw [List.length_drop] at r1 r2; omega) <| okE_nil) fun A => N hX 9 A rfl rfl fun A => APP1 hX (ws.length + 1) (fun zz => tkc ((ws ++ [(⟨2, (l.take ((((skp l e0 + rn numB (l.drop (skp l e0)) : Nat)) : Int)).toNat).drop (((skp l e0 : Nat) : Int)).toNat, numI ((l.take ((((skp l e0 + rn numB (l.drop (skp l e0)) : Nat)) : Int)).toNat).drop (((skp l e0 : Nat) : Int)).toNat), ((skp l e0 : Nat) : Int)⟩ : Tk)]).getD zz tok0)) A rfl rfl rfl rfl (by have hs := hI.sk; have hle := hI.le; have hwl := hI.wl; have r1 := rn_le numB (l.drop (skp l e0)); have r2 := rn_le namB (l.drop (skp l e0)); rw [List.length_drop] at r1 r2; omega) rfl (fun k hk => by show tkc _ = tkc _; rw [tk_app hk]) (by show tkc _ = _; rw [tk_new]; rfl) (fun z => ⟨_, rfl, rfl⟩) fun A => have A := (A.rowAs 3 ((ws ++ [(⟨2, (l.take ((((skp l e0 + rn numB (l.drop (skp l e0)) : Nat)) : Int)).toNat).drop (((skp l e0 : Nat) : Int)).toNat, numI ((l.take ((((skp l e0 + rn numB (l.drop (skp l e0)) : Nat)) : Int)).toNat).drop (((skp l e0 : Nat) : Int)).toNat), ((skp l e0 : Nat) : Int)⟩ : Tk)]).length) (fun zz => tkc ((ws ++ [(⟨2, (l.take ((((skp l e0 + rn numB (l.drop (skp l e0)) : Nat)) : Int)).toNat).drop (((skp l e0 : Nat) : Int)).toNat, numI ((l.take ((((skp l e0 + rn numB (l.drop (skp l e0)) : Nat)) : Int)).toNat).drop (((skp l e0 : Nat) : Int)).toNat), ((skp l e0 : Nat) : Int)⟩ : Tk)]).getD zz tok0)) rfl (by rw [List.length_append]; rfl) (fun q hq => rfl) (fun z => ⟨_, rfl, rfl⟩)).say 110 (.sl 3 ((ws ++ [(⟨2, (l.take ((((skp l e0 + rn numB (l.drop (skp l e0)) : Nat)) : Int)).toNat).drop (((skp l e0 : Nat) : Int)).toNat, numI ((l.take ((((skp l e0 + rn numB (l.drop (skp l e0)) : Nat)) : Int)).toNat).drop (((skp l e0 : Nat) : Int)).toNat), ((skp l e0 : Nat) : Int)⟩ : Tk)]).length) 0) rfl (by rw [List.length_append] <;> rfl); N hX 8 A rfl rfl fun A => ⟨skp l e0 + rn numB (l.drop (skp l e0)), ws ++ [(⟨2, (l.take ((((skp l e0 + rn numB (l.drop (skp l e0)) : Nat)) : Int)).toNat).drop (((skp l e0 : Nat) : Int)).toNat, numI ((l.take ((((skp l e0 + rn numB (l.drop (skp l e0)) : Nat)) : Int)).toNat).drop (((skp l e0 : Nat) : Int)).toNat), ((skp l e0 : Nat) : Int)⟩ : Tk)], _, (by have q := (tk_num hI h2 h3 h4 h5).2; have hq : e0 ≤ skp l e0 := (by unfold skp; omega); omega), (tk_num hI h2 h3 h4 h5).1, ((A.cut [0, 2, 3, 4, 5, 6] rfl).mv 0 [3] rfl rfl rfl rfl (by simp only [List.length_cons, List.length_nil] at h0; omega))⟩))
      (fun h4 A => N hX 4 A rfl rfl fun A => CALL1 [] (rletter_b (l.getD (((skp l e0 : Nat) : Int)).toNat 0)) A rfl rfl rfl rfl rfl rfl rfl fun A => N hX 3 A rfl rfl fun A => N hX 1 A rfl rfl fun A => N hX 3 A rfl rfl fun A => fork 61 A rfl
       (fun h6 A => N hX 5 A rfl rfl fun A => CALL1 [] (rrun_nam l (skp l e0) hI.sk (by omega)) A rfl rfl rfl rfl rfl rfl rfl fun A => N hX 15 A rfl (ok_d (by have hs := hI.sk; have hle := hI.le; have hwl := hI.wl; have r1 := rn_le numB (l.drop (skp l e0)); have r2 := rn_le namB (l.drop (skp l e0)); rw [List.length_drop] at r1 r2; omega) <| okE_nil) fun A => N hX 9 A rfl rfl fun A => APP1 hX (ws.length + 1) (fun zz => tkc ((ws ++ [(⟨1, (l.take ((((skp l e0 + rn namB (l.drop (skp l e0)) : Nat)) : Int)).toNat).drop (((skp l e0 : Nat) : Int)).toNat, 0, ((skp l e0 : Nat) : Int)⟩ : Tk)]).getD zz tok0)) A rfl rfl rfl rfl (by have hs := hI.sk; have hle := hI.le; have hwl := hI.wl; have r1 := rn_le numB (l.drop (skp l e0)); have r2 := rn_le namB (l.drop (skp l e0)); rw [List.length_drop] at r1 r2; omega) rfl (fun k hk => by show tkc _ = tkc _; rw [tk_app hk]) (by show tkc _ = _; rw [tk_new]; rfl) (fun z => ⟨_, rfl, rfl⟩) fun A => have A := (A.rowAs 3 ((ws ++ [(⟨1, (l.take ((((skp l e0 + rn namB (l.drop (skp l e0)) : Nat)) : Int)).toNat).drop (((skp l e0 : Nat) : Int)).toNat, 0, ((skp l e0 : Nat) : Int)⟩ : Tk)]).length) (fun zz => tkc ((ws ++ [(⟨1, (l.take ((((skp l e0 + rn namB (l.drop (skp l e0)) : Nat)) : Int)).toNat).drop (((skp l e0 : Nat) : Int)).toNat, 0, ((skp l e0 : Nat) : Int)⟩ : Tk)]).getD zz tok0)) rfl (by rw [List.length_append]; rfl) (fun q hq => rfl) (fun z => ⟨_, rfl, rfl⟩)).say 110 (.sl 3 ((ws ++ [(⟨1, (l.take ((((skp l e0 + rn namB (l.drop (skp l e0)) : Nat)) : Int)).toNat).drop (((skp l e0 : Nat) : Int)).toNat, 0, ((skp l e0 : Nat) : Int)⟩ : Tk)]).length) 0) rfl (by rw [List.length_append] <;> rfl); N hX 8 A rfl rfl fun A => ⟨skp l e0 + rn namB (l.drop (skp l e0)), ws ++ [(⟨1, (l.take ((((skp l e0 + rn namB (l.drop (skp l e0)) : Nat)) : Int)).toNat).drop (((skp l e0 : Nat) : Int)).toNat, 0, ((skp l e0 : Nat) : Int)⟩ : Tk)], _, (by have q := (tk_name hI h2 h3 h4 h6).2; have hq : e0 ≤ skp l e0 := (by unfold skp; omega); omega), (tk_name hI h2 h3 h4 h6).1, ((A.cut [0, 2, 3, 4, 5, 6] rfl).mv 0 [3] rfl rfl rfl rfl (by simp only [List.length_cons, List.length_nil] at h0; omega))⟩)
       (fun h6 A => N hX 4 A rfl rfl fun A => CALL1 [] (rmark_b (l.getD (((skp l e0 : Nat) : Int)).toNat 0)) A rfl rfl rfl rfl rfl rfl rfl fun A => N hX 3 A rfl rfl fun A => fork 72 A rfl
        (fun h7 A => N hX 11 A rfl rfl fun A => N hX 1 A rfl rfl fun A => N hX 3 A rfl (ok_r <| ok_r <| ok_g (fun hg => (by (try simp at hg); have hs := hI.sk; have hle := hI.le; have hwl := hI.wl; have r1 := rn_le numB (l.drop (skp l e0)); have r2 := rn_le namB (l.drop (skp l e0)); rw [List.length_drop] at r1 r2; omega)) <| okE_nil) fun A => N hX 1 A rfl rfl fun A => N hX 1 A rfl rfl fun A => N hX 1 A rfl rfl fun A => N hX 2 A rfl rfl fun A => N hX 1 A rfl rfl fun A => N hX 3 A rfl (ok_r <| ok_r <| ok_g (fun hg => (by (try simp at hg); have hs := hI.sk; have hle := hI.le; have hwl := hI.wl; have r1 := rn_le numB (l.drop (skp l e0)); have r2 := rn_le namB (l.drop (skp l e0)); rw [List.length_drop] at r1 r2; omega)) <| okE_nil) fun A => N hX 1 A rfl rfl fun A => N hX 1 A rfl rfl fun A => N hX 1 A rfl rfl fun A => N hX 1 A rfl rfl fun A => N hX 2 A rfl rfl fun A => fork 98 A rfl
         (fun h8 A => N hX 4 A rfl (ok_d (by have hs := hI.sk; have hle := hI.le; have hwl := hI.wl; have r1 := rn_le numB (l.drop (skp l e0)); have r2 := rn_le namB (l.drop (skp l e0)); rw [List.length_drop] at r1 r2; have r3 := (of_and h8); omega) <| okE_nil) fun A => N hX 15 A rfl (ok_d (by have hs := hI.sk; have hle := hI.le; have hwl := hI.wl; have r1 := rn_le numB (l.drop (skp l e0)); have r2 := rn_le namB (l.drop (skp l e0)); rw [List.length_drop] at r1 r2; have r3 := (of_and h8); omega) <| okE_nil) fun A => N hX 9 A rfl rfl fun A => APP1 hX (ws.length + 1) (fun zz => tkc ((ws ++ [(⟨3, (l.take ((((skp l e0 : Nat) : Int) + 1) + 1).toNat).drop (((skp l e0 : Nat) : Int)).toNat, 0, ((skp l e0 : Nat) : Int)⟩ : Tk)]).getD zz tok0)) A rfl rfl rfl rfl (by have hs := hI.sk; have hle := hI.le; have hwl := hI.wl; have r1 := rn_le numB (l.drop (skp l e0)); have r2 := rn_le namB (l.drop (skp l e0)); rw [List.length_drop] at r1 r2; have r3 := (of_and h8); omega) rfl (fun k hk => by show tkc _ = tkc _; rw [tk_app hk]) (by show tkc _ = _; rw [tk_new]; rfl) (fun z => ⟨_, rfl, rfl⟩) fun A => have A := (A.rowAs 3 ((ws ++ [(⟨3, (l.take ((((skp l e0 : Nat) : Int) + 1) + 1).toNat).drop (((skp l e0 : Nat) : Int)).toNat, 0, ((skp l e0 : Nat) : Int)⟩ : Tk)]).length) (fun zz => tkc ((ws ++ [(⟨3, (l.take ((((skp l e0 : Nat) : Int) + 1) + 1).toNat).drop (((skp l e0 : Nat) : Int)).toNat, 0, ((skp l e0 : Nat) : Int)⟩ : Tk)]).getD zz tok0)) rfl (by rw [List.length_append]; rfl) (fun q hq => rfl) (fun z => ⟨_, rfl, rfl⟩)).say 110 (.sl 3 ((ws ++ [(⟨3, (l.take ((((skp l e0 : Nat) : Int) + 1) + 1).toNat).drop (((skp l e0 : Nat) : Int)).toNat, 0, ((skp l e0 : Nat) : Int)⟩ : Tk)]).length) 0) rfl (by rw [List.length_append] <;> rfl); N hX 8 A rfl rfl fun A => ⟨skp l e0 + 1 + 1, ws ++ [(⟨3, (l.take ((((skp l e0 : Nat) : Int) + 1) + 1).toNat).drop (((skp l e0 : Nat) : Int)).toNat, 0, ((skp l e0 : Nat) : Int)⟩ : Tk)], _, (by have q := (tk_m2 hI h2 h3 h4 h6 h7 h8).2; have hq : e0 ≤ skp l e0 := (by unfold skp; omega); omega), (tk_m2 hI h2 h3 h4 h6 h7 h8).1, ((A.cut [0, 2, 3, 4, 5, 6] rfl).mv 0 [3] rfl rfl rfl rfl (by simp only [List.length_cons, List.length_nil] at h0; omega))⟩)
         (fun h8 A => N hX 15 A rfl (ok_d (by have hs := hI.sk; have hle := hI.le; have hwl := hI.wl; have r1 := rn_le numB (l.drop (skp l e0)); have r2 := rn_le namB (l.drop (skp l e0)); rw [List.length_drop] at r1 r2; omega) <| okE_nil) fun A => N hX 9 A rfl rfl fun A => APP1 hX (ws.length + 1) (fun zz => tkc ((ws ++ [(⟨3, (l.take (((skp l e0 : Nat) : Int) + 1).toNat).drop (((skp l e0 : Nat) : Int)).toNat, 0, ((skp l e0 : Nat) : Int)⟩ : Tk)]).getD zz tok0)) A rfl rfl rfl rfl (by have hs := hI.sk; have hle := hI.le; have hwl := hI.wl; have r1 := rn_le numB (l.drop (skp l e0)); have r2 := rn_le namB (l.drop (skp l e0)); rw [List.length_drop] at r1 r2; omega) rfl (fun k hk => by show tkc _ = tkc _; rw [tk_app hk]) (by show tkc _ = _; rw [tk_new]; rfl) (fun z => ⟨_, rfl, rfl⟩) fun A => have A := (A.rowAs 3 ((ws ++ [(⟨3, (l.take (((skp l e0 : Nat) : Int) + 1).toNat).drop (((skp l e0 : Nat) : Int)).toNat, 0, ((skp l e0 : Nat) : Int)⟩ : Tk)]).length) (fun zz => tkc ((ws ++ [(⟨3, (l.take (((skp l e0 : Nat) : Int) + 1).toNat).drop (((skp l e0 : Nat) : Int)).toNat, 0, ((skp l e0 : Nat) : Int)⟩ : Tk)]).getD zz tok0)) rfl (by rw [List.length_append]; rfl) (fun q hq => rfl) (fun z => ⟨_, rfl, rfl⟩)).say 110 (.sl 3 ((ws ++ [(⟨3, (l.take (((skp l e0 : Nat) : Int) + 1).toNat).drop (((skp l e0 : Nat) : Int)).toNat, 0, ((skp l e0 : Nat) : Int)⟩ : Tk)]).length) 0) rfl (by rw [List.length_append] <;> rfl); N hX 8 A rfl rfl fun A => ⟨skp l e0 + 1, ws ++ [(⟨3, (l.take (((skp l e0 : Nat) : Int) + 1).toNat).drop (((skp l e0 : Nat) : Int)).toNat, 0, ((skp l e0 : Nat) : Int)⟩ : Tk)], _, (by have q := (tk_m1 hI h2 h3 h4 h6 h7 h8).2; have hq : e0 ≤ skp l e0 := (by unfold skp; omega); omega), (tk_m1 hI h2 h3 h4 h6 h7 h8).1, ((A.cut [0, 2, 3, 4, 5, 6] rfl).mv 0 [3] rfl rfl rfl rfl (by simp only [List.length_cons, List.length_nil] at h0; omega))⟩))
        (fun h7 A => N hX 10 A rfl rfl fun A => RET (x := .tup [.sla none 0 0, .int .i64 20, .int .i64 ((skp l e0 : Nat) : Int)]) (H' := []) hX [] A (by have e := tk_bb hI h2 h3 h4 h6 h7; unfold TkR; rw [e]; exact .inr ⟨(by show (20 : Int) ≠ 0; decide), rfl, rfl⟩) rfl rfl rfl rfl rfl rfl rfl rfl h0))))))
theorem fn_mono {P : Program} {f : Nat} {az : List SV} {H : Hp} {R R' : SV → Hp → Prop} (h : Fn P f az H R) (e : ∀ x H2, R x H2 → R' x H2) : Fn P f az H R' := ⟨h.1, fun G w vs hM hv => Calls.mono (h.2 G w vs hM hv) fun e' w' ⟨x', H', F, v, q, r⟩ => ⟨x', H', F, v, e _ _ q, r⟩⟩
theorem rtok_ok (l : List UInt8) (ws : List Tk) (h : tokensR l = (ws, 0, 0)) : Fn Tryz.prog 102 [.str l] [] (Rt (.tup [.sl 0 ws.length 0, .int .i64 0, .int .i64 0]) [some (.row 28 4 ws.length 0 (fun zz => tkc (ws.getD zz tok0)))]) := fn_mono (rtokens_ l) fun x H2 q => by
  unfold TkR at q
  rw [h] at q
  rcases q with ⟨_, q1, q2⟩ | ⟨q1, _⟩
  · exact ⟨q1, q2⟩
  · exact absurd rfl q1
theorem rtok_no (l : List UInt8) (e : Int) (k : Nat) (h : tokensR l = ([], e, k)) (he : e ≠ 0) : Fn Tryz.prog 102 [.str l] [] (Rt (.tup [.sla none 0 0, .int .i64 e, .int .i64 (k : Int)]) []) := fn_mono (rtokens_ l) fun x H2 q => by
  unfold TkR at q
  rw [h] at q
  rcases q with ⟨q1, _⟩ | ⟨_, q1, q2⟩
  · exact absurd q1 he
  · exact ⟨q1, q2⟩
theorem rone_ (l : List UInt8)  : Fn Tryz.prog 40 [.str l] [] (Rt (.bool (oneN l)) []) :=
 enterM (n := 34) (by kernel_rfl) Tryz.func40 rfl rfl rfl fun G w a h0 A => N hX 8 A rfl rfl fun A => tokSp (l := l)
  (fun ws ht => CALL1 [] (rtok_ok l ws ht) A rfl rfl rfl rfl rfl rfl rfl fun A => N hX 13 A rfl rfl fun A => have A := sy_sayD A 13 (.tt) rfl (fun _ => congrArg (fun b => some (Value.bool b)) (show (0 == 0) = true by decide)); N hX 24 A rfl (ok_r <| ok_g (fun hg => (by have h := hg; simp at h; omega)) <| ok_r <| ok_g (fun hg => (by have h := hg; simp at h; omega)) <| ok_r <| ok_g (fun hg => (by have h := hg; simp at h; omega)) <| ok_r <| ok_r <| ok_r <| ok_g (fun hg => (by have h := hg; simp at h; omega)) <| ok_r <| ok_g (fun hg => (by have h := hg; simp at h; omega)) <| ok_r <| ok_g (fun hg => (by have h := hg; simp at h; omega)) <| ok_r <| ok_r <| ok_r <| okE_nil) fun A => RETN hX A rfl rfl rfl h0 rfl rfl rfl rfl (by unfold oneN; rw [ht]; exact congrArg SV.bool (one_is ws l)) rfl)
  (fun e k he ht => CALL1 [] (rtok_no l e k ht he) A rfl rfl rfl rfl rfl rfl rfl fun A => N hX 13 A rfl rfl fun A => have A := sy_sayD A 13 (.ff) rfl (fun _ => congrArg (fun b => some (Value.bool b)) (show (e == 0) = false by simpa using he)); N hX 24 A rfl rfl fun A => RETN hX A rfl rfl rfl h0 rfl rfl rfl rfl (by unfold oneN; rw [ht]; simp [he, oneS, nb]) rfl)
section
variable {i : In} {lb : List UInt8}
theorem sndO_of (h : Old.rightR (toO i) 0 1 = 0) : Old.soundB (toO i) = true := by
  unfold Old.rightR at h
  cases hs : (Old.insEq (toO i) (Old.plainF (toO i)) && Old.soundB (toO i))
  · rw [hs, if_neg Bool.false_ne_true] at h; exact absurd h (by decide)
  · exact (Bool.and_eq_true _ _ ▸ hs).2
theorem rightO_fn (h : Old.rightR (toO i) 0 1 = 0) (h3 : i.op = 3) : 0 ≤ i.fn ∧ i.fn < 6 := by
  have := sndO_of h
  set_option simprocs true in simp [Old.soundB, toO, h3] at this
  omega
theorem accO_loc (h : Old.accB (toO i) = true) : 0 ≤ i.loc ∧ i.loc < 3 := by
  unfold Old.accB at h
  simp only [Bool.and_eq_true, decide_eq_true_eq] at h
  exact ⟨h.1.1.1, h.1.1.2⟩
theorem rightO_loc (h : Old.rightR (toO i) 0 1 = 0) (h1 : i.op ≠ 1) (h2 : i.op ≠ 2) (h3 : i.op ≠ 3) (h9 : i.op ≠ 9) (h7 : i.op ≠ 7) (h8 : i.op ≠ 8) : 0 ≤ i.loc ∧ i.loc < 3 := by
  have hs := sndO_of h
  apply accO_loc
  generalize ha : Old.accB (toO i) = ab at *
  have e : (toO i).op = i.op := rfl
  unfold Old.soundB at hs
  rw [ha, e] at hs
  by_cases h4 : i.op = 4
  · set_option simprocs true in simp [h4] at hs
    exact hs.1.2
  · by_cases h5 : i.op = 5
    · set_option simprocs true in simp [h5] at hs
      exact hs.2
    · by_cases h6 : i.op = 6
      · set_option simprocs true in simp [h6] at hs
        exact hs.1.2
      · set_option simprocs true in simp [h1, h2, h3, h4, h5, h6, h7, h8, h9] at hs
end
theorem aregs_   : Fn Tryz.prog 41 [] [] (Rt (.agg [.str [88, 48], .str [88, 49], .str [88, 50], .str [88, 51], .str [88, 52], .str [88, 53], .str [88, 54], .str [88, 55]]) []) :=
 enterM (n := 2) (by kernel_rfl) Tryz.func41 rfl rfl rfl fun G w a h0 A => N hX 12 A rfl rfl fun A => RETN hX A rfl rfl rfl h0 rfl rfl rfl rfl rfl rfl
end Go.Proofs.YtedlaclfhgneeabGreatDoor
namespace Go.Proofs.YtedlaclfhgneeabGreatDoor
open Go.RowKit
set_option linter.unusedVariables false
set_option linter.unusedSimpArgs false
set_option linter.unusedSectionVars false
set_option maxRecDepth 100000
set_option maxHeartbeats 2000000
section
variable {g : Lg} {L : List Rw} {i : In} {lb : List UInt8} {r : Rw}
theorem sound_of (h : wrongI i = false) : sound0 i.op i.dst i.ra i.rb i.imm i.loc i.off i.ix i.sz i.fn i.acq i.weak i.rel i.pred i.succ i.to_ i.zero = true := by
  cases hs : sound0 i.op i.dst i.ra i.rb i.imm i.loc i.off i.ix i.sz i.fn i.acq i.weak i.rel i.pred i.succ i.to_ i.zero with
  | true => rfl
  | false =>
    exfalso
    unfold wrongI Right0 at h
    rw [hs, Bool.not_false, Bool.or_true, if_pos rfl] at h
    exact absurd h (by decide)
theorem acc_loc (h : isAccess0 i.op i.dst i.ra i.rb i.imm i.loc i.off i.ix i.sz i.fn i.acq i.weak i.rel i.pred i.succ i.to_ i.zero = true) : 0 ≤ i.loc ∧ i.loc < 3 := by
  unfold isAccess0 at h
  split at h
  · split at h
    · omega
    · cases h
  · cases h
theorem snd_loc (h : wrongI i = false) (ho : i.op = 4 ∨ i.op = 5 ∨ i.op = 6) : 0 ≤ i.loc ∧ i.loc < 3 := by
  have hs := sound_of h
  unfold sound0 at hs
  rw [if_neg (by omega), if_neg (by omega), if_neg (by omega)] at hs
  rcases ho with ho | ho | ho
  · rw [if_pos ho] at hs
    split at hs
    · rw [Bool.and_eq_true] at hs; exact acc_loc hs.1
    · cases hs
  · rw [if_neg (by omega), if_pos ho] at hs
    split at hs
    · exact acc_loc hs
    · cases hs
  · rw [if_neg (by omega), if_neg (by omega), if_pos ho] at hs
    split at hs
    · split at hs
      · rw [Bool.and_eq_true] at hs; exact acc_loc hs.1
      · cases hs
    · cases hs
theorem snd_fen (h : wrongI i = false) (ho : i.op = 7) : (1 ≤ i.pred ∧ i.pred ≤ 3) ∧ (1 ≤ i.succ ∧ i.succ ≤ 3) := by
  have hs := sound_of h
  unfold sound0 at hs
  rw [if_neg (by omega), if_neg (by omega), if_neg (by omega), if_neg (by omega), if_neg (by omega), if_neg (by omega), if_pos ho] at hs
  split at hs
  · next hp =>
    simp only [Bool.or_eq_true, beq_iff_eq] at hp hs
    omega
  · cases hs
theorem wstep_op (i J : In) (p : Int) : (wStep i J p).op = J.op := by
  unfold wStep
  repeat' split
  all_goals rfl
theorem lay_op (r : Rw) (i : In) : (r.lay i).op = r.ins.op := by
  have : ∀ (l : List Int) (J : In), (l.foldl (wStep i) J).op = J.op := by
    intro l
    induction l with
    | nil => intro J; rfl
    | cons p l ih => intro J; rw [List.foldl_cons, ih, wstep_op]
  exact this r.ps (bare r.ins)
theorem row_op (h : rowQ L i = true) : i.op = (rowR L i).ins.op := by
  unfold rowQ at h
  unfold rowR
  cases hf : L.find? (rowP i) with
  | none => rw [hf] at h; cases h
  | some r =>
    have := List.find?_some hf
    unfold rowP at this
    rw [Bool.and_eq_true] at this
    have h2 := this.1
    unfold eqIn at h2
    rw [Bool.and_eq_true, beq_iff_eq, lay_op] at h2
    exact h2.1.symm
end
def prB (g : Lg) (T : List (List UInt8 × List UInt8 × In × List Int)) : Bool := T.all fun x =>
  decide (x.1.length ≤ 1000) && decide (Lib.countB (S x.1) (S [42]) ≤ 1000) && decide (x.2.2.2.length ≤ 4) && decide (x.2.1.length ≤ 1000) &&
  ((List.range 4).all fun k => decide ((Lib.replace x.1 [42] (g.let.getD k []) 1).length ≤ 1000)) &&
  (x.2.2.2.all fun p => (!(p == 6) || (x.2.2.1.op == 4 || (x.2.2.1.op == 5 || x.2.2.1.op == 6))) && (!(p == 8 || p == 9) || x.2.2.1.op == 7))
theorem lens_le {B : Nat} : ∀ (l : List (List UInt8)), (∀ x ∈ l, x.length ≤ B) → Lib.lens l ≤ l.length * B
  | [], _ => by simp [Lib.lens]
  | x :: l, h => by
    have h1 := lens_le l (fun y hy => h y (List.mem_cons_of_mem _ hy))
    have h2 := h x List.mem_cons_self
    have e : Lib.lens (x :: l) = x.length + Lib.lens l := by simp [Lib.lens]
    rw [e, List.length_cons, Nat.add_mul]; omega
theorem join_le {B : Nat} (l : List (List UInt8)) (h : ∀ x ∈ l, x.length ≤ B) : (Lib.join l [44]).length ≤ l.length * (B + 1) := by
  cases l with
  | nil => exact Nat.zero_le _
  | cons x l =>
    rw [Lib.join_length]
    have := lens_le (x :: l) h
    rw [Nat.mul_add, List.length_cons] at *
    simp only [List.length_cons, List.length_nil]
    omega
theorem get3_le {a b c : List UInt8} {B : Nat} (ha : a.length ≤ B) (hb : b.length ≤ B) (hc : c.length ≤ B) (k : Nat) : ([a, b, c].getD k []).length ≤ B := by
  by_cases h : k < 3
  · have : k = 0 ∨ k = 1 ∨ k = 2 := by omega
    rcases this with rfl | rfl | rfl
    · exact ha
    · exact hb
    · exact hc
  · rw [List.getD_eq_getElem?_getD, List.getElem?_eq_none (by simpa using h)]; exact Nat.zero_le _
structure LgL (g : Lg) : Prop where
  lg : LgOK g
  lt : ∀ k, ([g.l0, g.l1, g.l2, g.l3].getD k []).length ≤ 1000
  f0 : g.f0.length ≤ 1000
  f1 : g.f1.length ≤ 1000
  f2 : g.f2.length ≤ 1000
structure InR (i : In) : Prop where
  im : -9223372036854775808 ≤ i.imm ∧ i.imm ≤ 9223372036854775807
  of_ : -9223372036854775808 ≤ i.off ∧ i.off ≤ 9223372036854775807
section
variable {g : Lg} {L : List Rw} {i : In} {lb : List UInt8} {r : Rw}
theorem mem_le (hg : LgL g) (hi : InR i) : (memT g i).length ≤ 1100 := by
  have q1 := hg.lg.rg i.ix
  have q2 := Lib.itoa_length_le i.off hi.of_.1 hi.of_.2
  have q3 := get3_le (a := [120]) (b := [121]) (c := [122]) (B := 1) (by decide) (by decide) (by decide) (i.loc).toNat
  unfold memT memB memA
  split <;> split <;> (simp only [List.length_append, List.length_cons, List.length_nil]; omega)
theorem opd_le (hg : LgL g) (hi : InR i) (hw : r.wd.length ≤ 1000) (p : Int) : (opdT g r p i lb).length ≤ 2000 + lb.length := by
  have q1 := hg.lg.rg (regP p i).1
  have q2 := Lib.itoa_length_le i.imm hi.im.1 hi.im.2
  have q3 := hg.lg.im
  have q4 := mem_le hg hi
  have q5 := get3_le hg.f0 hg.f1 hg.f2 (i.pred - 1).toNat
  have q6 := get3_le hg.f0 hg.f1 hg.f2 (i.succ - 1).toNat
  unfold opdT
  split
  · omega
  split
  · rw [List.length_append]; omega
  split
  · omega
  split
  · omega
  split
  · omega
  split
  · omega
  · omega
theorem pr_ok {T : List (List UInt8 × List UInt8 × In × List Int)} (hm : L.map tm = T) (hg : LgL g) (hB : prB g T = true) (hn : T.length ≤ 1000) (hi : InR i) (hl : lb.length ≤ 100000) : PrOK g L i lb := by
  have hlen : L.length ≤ 1000 := by have := congrArg List.length hm; rw [List.length_map] at this; omega
  have htab : ∀ r ∈ L, r.nm.length ≤ 1000 ∧ Lib.countB (S r.nm) (S [42]) ≤ 1000 ∧ r.ps.length ≤ 4 ∧ r.wd.length ≤ 1000 ∧ (∀ k, k < 4 → (Lib.replace r.nm [42] (g.let.getD k []) 1).length ≤ 1000) ∧ ∀ p ∈ r.ps, (p = 6 → r.ins.op = 4 ∨ r.ins.op = 5 ∨ r.ins.op = 6) ∧ (p = 8 ∨ p = 9 → r.ins.op = 7) := fun r hr => by
    have := (List.all_eq_true.1 hB) _ (tm_mem hm hr)
    simp only [Bool.and_eq_true, decide_eq_true_eq] at this
    obtain ⟨⟨⟨⟨⟨h1, h2⟩, h3⟩, h4⟩, h5⟩, h6⟩ := this
    refine ⟨h1, h2, h3, h4, fun k hk => ?_, fun p hp => ?_⟩
    · have := (List.all_eq_true.1 h5) k (List.mem_range.2 hk)
      exact of_decide_eq_true this
    · have := (List.all_eq_true.1 h6) p hp
      simp only [Bool.and_eq_true, Bool.or_eq_true, Bool.not_eq_true', beq_iff_eq, beq_eq_false_iff_ne, Bool.or_eq_false_iff] at this
      obtain ⟨a1, a2⟩ := this
      refine ⟨fun e => ?_, fun e => ?_⟩
      · rcases a1 with a1 | a1
        · exact absurd e a1
        · exact a1
      · rcases a2 with a2 | a2
        · rcases e with e | e
          · exact absurd e a2.1
          · exact absurd e a2.2
        · exact a2
  have hz : ∀ k, (L.getD k Rw.z) ∈ L ∨ L.getD k Rw.z = Rw.z := fun k => by
    by_cases h : k < L.length
    · left; rw [List.getD_eq_getElem?_getD, List.getElem?_eq_getElem h]; exact List.getElem_mem h
    · right; rw [List.getD_eq_getElem?_getD, List.getElem?_eq_none (by omega)]; rfl
  have hr : rowR L i ∈ L ∨ rowR L i = Rw.z := by
    unfold rowR
    cases hf : L.find? (rowP i) with
    | none => exact .inr rfl
    | some r => exact .inl (List.mem_of_find?_eq_some hf)
  have hz0 : Rw.z.nm = [] ∧ Rw.z.ps = [] ∧ Rw.z.wd = [] := ⟨rfl, rfl, rfl⟩
  have hnl : (nameR g (rowR L i).nm i.sz).length ≤ 1000 := by
    unfold nameR
    split
    · next hk =>
      rcases hr with hr | hr
      · exact (htab _ hr).2.2.2.2.1 _ hk
      · rw [hr, hz0.1]
        have : szK i.sz = 0 ∨ szK i.sz = 1 ∨ szK i.sz = 2 ∨ szK i.sz = 3 := by omega
        have e : ∀ y : List UInt8, (Lib.replace [] [42] y 1) = [] := fun y => by
          unfold Lib.replace
          split
          · rfl
          · have hc : Lib.index [] [42] = -1 := by decide
            cases Lib.replaceNum [] [42] 1 with
            | zero => rfl
            | succ k => unfold Lib.replaceK; rw [hc]; rfl
        rw [e]; exact Nat.zero_le _
    · rcases hr with hr | hr
      · exact (htab _ hr).1
      · rw [hr, hz0.1]; exact Nat.zero_le _
  refine ⟨hg.lg, hg.lt, fun k => ?_, by omega, hi.im, ?_, fun hw hq k hk => ?_, by omega, ?_⟩
  · rcases hz k with h | h
    · have := (htab _ h).2.2.1; omega
    · rw [h, hz0.2.1]; exact Nat.zero_le _
  · rcases hr with hr | hr
    · exact ⟨(htab _ hr).1, (htab _ hr).2.1⟩
    · rw [hr, hz0.1]; exact ⟨Nat.zero_le _, by decide⟩
  · have hmem := row_mem hq
    have hop := row_op hq
    have hp : (rowR L i).ps.getD k 0 ∈ (rowR L i).ps := by rw [List.getD_eq_getElem?_getD, List.getElem?_eq_getElem hk]; exact List.getElem_mem hk
    obtain ⟨h6, h89⟩ := (htab _ hmem).2.2.2.2.2 _ hp
    refine ⟨fun e => ⟨snd_loc hw (by rw [hop]; exact h6 e), hi.of_⟩, fun e => (snd_fen hw (by rw [hop]; exact h89 (.inl e))).1, fun e => (snd_fen hw (by rw [hop]; exact h89 (.inr e))).2⟩
  · have hps : (rowR L i).ps.length ≤ 4 ∧ (rowR L i).wd.length ≤ 1000 := by
      rcases hr with hr | hr
      · exact ⟨(htab _ hr).2.2.1, (htab _ hr).2.2.2.1⟩
      · rw [hr]; exact ⟨Nat.zero_le _, Nat.zero_le _⟩
    have h1 := join_le (B := 2000 + lb.length) (opsT g (rowR L i) i lb) (fun x hx => by
      unfold opsT at hx
      obtain ⟨p, _, rfl⟩ := List.mem_map.1 hx
      exact opd_le hg hi hps.2 p)
    have h2 : (opsT g (rowR L i) i lb).length ≤ 4 := by unfold opsT; rw [List.length_map]; exact hps.1
    have h3 : (opsT g (rowR L i) i lb).length * (2000 + lb.length + 1) ≤ 4 * (2000 + lb.length + 1) := Nat.mul_le_mul_right _ h2
    omega
end
end Go.Proofs.YtedlaclfhgneeabGreatDoor
namespace Go.Proofs.YtedlaclfhgneeabGreatDoor
open Go.RowKit
set_option linter.unusedVariables false
set_option linter.unusedSimpArgs false
set_option maxRecDepth 100000
set_option maxHeartbeats 2000000
set_option simprocs false
theorem idxL_at (q : List UInt8) : ∀ (ls : List (List UInt8)) (n : Nat), Old.idxL ls q n = if idxS ls q < 0 then -1 else idxS ls q + n := by
  intro ls
  induction ls with
  | nil => intro n; rfl
  | cons y l ih =>
    intro n
    unfold Old.idxL
    have hr : List.range (y :: l).length = 0 :: (List.range l.length).map Nat.succ := by rw [List.length_cons, List.range_succ_eq_map]
    cases hy : eqL y q
    · rw [if_neg (by decide), ih (n + 1)]
      have hne : (q == y) = false := by
        cases hh : (q == y) with
        | false => rfl
        | true => rw [eq_of_beq hh, eqL_same] at hy; cases hy
      have e : idxS (y :: l) q = if idxS l q < 0 then -1 else idxS l q + 1 := by
        unfold idxS
        rw [hr, List.find?_cons]
        simp only [List.getD_cons_zero, hne]
        rw [List.find?_map]
        have : ((fun j => q == (y :: l).getD j []) ∘ Nat.succ) = fun j => q == l.getD j [] := by funext j; simp
        rw [this]
        cases (List.range l.length).find? (fun j => q == l.getD j []) with
        | none => rfl
        | some j => simp; omega
      rw [e]
      have := (idxS_ge (ls := l) (q := q)).1
      split <;> split <;> omega
    · rw [if_pos rfl]
      have hq : (q == y) = true := by rw [eqL_eq hy]; exact beq_self_eq_true q
      have e : idxS (y :: l) q = 0 := by
        unfold idxS
        rw [hr, List.find?_cons]
        simp only [List.getD_cons_zero, hq]
        rfl
      rw [e]; simp
theorem idxS_L (ls : List (List UInt8)) (q : List UInt8) : idxS ls q = Old.idxL ls q 0 := by
  rw [idxL_at]
  have := (idxS_ge (ls := ls) (q := q)).1
  split <;> omega
theorem sixA_ (s0 : List UInt8) (s1 : List UInt8) (s2 : List UInt8) (s3 : List UInt8) (s4 : List UInt8) (s5 : List UInt8) (s6 : List UInt8) (s7 : List UInt8) (q : List UInt8)  : Fn Tryz.prog 103 [.sp (.ptr 0 0) 8 8, .str q] [some (.blk [.str s0, .str s1, .str s2, .str s3, .str s4, .str s5, .str s6, .str s7])] (Rt (.int .i64 (idxS [s0, s1, s2, s3, s4, s5, s6, s7] q)) [some (.blk [.str s0, .str s1, .str s2, .str s3, .str s4, .str s5, .str s6, .str s7])]) :=
 enterM (n := 19) (by kernel_rfl) Tryz.func103 rfl rfl rfl fun G w a h0 A => N hX 14 A rfl rfl fun A => LOOP1 (fun (k : Nat) => [(0, .sp (.ptr 0 0) 8 8), (1, .str q), (4, .int .i64 0), (7, .int .i64 ((8 : Nat) : Int)), (8, .int .i64 (k : Int))]) (fun (k : Nat) => [some (.blk [.str s0, .str s1, .str s2, .str s3, .str s4, .str s5, .str s6, .str s7])]) (fun (k : Nat) => IxI [s0, s1, s2, s3, s4, s5, s6, s7] q k) (fun (k : Nat) => 8 - k) 0 IxI.i0 ((A.cut [0, 1, 4, 7, 8] rfl).trunc 1 rfl rfl rfl (by simp only [List.length_cons, List.length_nil] at h0; omega)) fun k hI {G a w} A => N hX 6 A rfl rfl fun A => forkD 9 A rfl
   (fun h1 A => N hX 21 A rfl (ok_d (by have := hI.le; simp only [List.length_cons, List.length_nil] at this; omega) <| ok_d (by have := hI.le; simp only [List.length_cons, List.length_nil] at this; omega) <| okE_nil) fun A => forkE 16 A rfl
    (fun h2 A => N hX 8 A rfl rfl fun A => RETN hX A rfl rfl rfl h0 rfl rfl rfl rfl (by rw [hI.hit (by show k < 8; omega) (by rw [show k = ((k : Int)).toNat from rfl]; simpa using h2)]; rfl) rfl)
    (fun h2 A => N hX 8 A rfl (ok_d (by have := hI.le; simp only [List.length_cons, List.length_nil] at this; omega) <| okE_nil) fun A => ⟨k + 1, _, (by omega), (hI.nx (by show k < 8; omega) (by rw [show k = ((k : Int)).toNat from rfl]; simpa using h2)), ((A.cut [0, 1, 4, 7, 8] rfl).trunc 1 rfl rfl rfl (by simp only [List.length_cons, List.length_nil] at h0; omega))⟩))
   (fun h1 A => N hX 9 A rfl rfl fun A => RETN hX A rfl rfl rfl h0 rfl rfl rfl rfl (by rw [hI.fi (by show 8 ≤ k; omega)]; rfl) rfl)
theorem lreg_ (s0 : List UInt8) (s1 : List UInt8) (s2 : List UInt8) (s3 : List UInt8) (s4 : List UInt8) (s5 : List UInt8) (s6 : List UInt8) (s7 : List UInt8) (q : List UInt8)  : Fn Tryz.prog 43 [.agg [.str s0, .str s1, .str s2, .str s3, .str s4, .str s5, .str s6, .str s7], .str q] [] (Rt (.int .i64 (idxS [s0, s1, s2, s3, s4, s5, s6, s7] q)) []) :=
 enterM (n := 8) (by kernel_rfl) Tryz.func43 rfl rfl rfl fun G w a h0 A => N hX 10 A rfl rfl fun A => CALL1 [0] (sixA_ s0 s1 s2 s3 s4 s5 s6 s7 q) A rfl rfl rfl rfl rfl rfl rfl fun A => N hX 4 A rfl rfl fun A => RETN hX A rfl rfl rfl h0 rfl rfl rfl rfl rfl rfl
section
variable {ws : List Tk} {k : Nat} {m : List UInt8}
end
section
variable {ws : List Tk} {k : Nat} {m : List UInt8} {s : Old.Rs} {x y : Int} {u : Bool} {rf : List UInt8 → Int}
end
abbrev oiQ9 (i : Old.Ins) : List SV := [.int .i64 i.op, .int .i64 i.dst, .int .i64 i.a, .int .i64 i.b, .int .i64 i.imm, .int .i64 i.loc, .int .i64 i.off, .int .i64 i.index, .int .i64 i.size, .int .i64 i.fn, .bool i.acq, .bool i.weak, .bool i.rel, .int .i64 i.pred, .int .i64 i.succ, .int .i64 i.to, .bool i.zero]
section
variable {ws : List Tk} {k : Nat} {m : List UInt8} {s : Old.Rs} {i : Old.Ins} {rf : List UInt8 → Int}
end
def regsA : List (List UInt8) := [[88, 48], [88, 49], [88, 50], [88, 51], [88, 52], [88, 53], [88, 54], [88, 55]]
def nameA (r : Int) : List UInt8 := if r < 0 then [] else (regsA[r.toNat]?).getD []
def regA (q : List UInt8) : Int := Old.idxL regsA q 0
def tlA (n : Int) : List UInt8 := if n == 1 then [66] else if n == 2 then [72] else if n == 4 then [87] else []
theorem nameA_o {g : Int} (h : ((decide (g < 0)) || (decide (g > 7))) = true) : nameA g = [] := by
  unfold nameA
  simp only [Bool.or_eq_true, decide_eq_true_eq] at h
  rcases h with h | h
  · rw [if_pos h]
  · rw [if_neg (by omega), List.getElem?_eq_none (by show regsA.length ≤ _; have : regsA.length = 8 := rfl; omega)]; rfl
theorem nameA_i {g : Int} (h : ((decide (g < 0)) || (decide (g > 7))) = false) : nameA g = [88] ++ (([48, 49, 50, 51, 52, 53, 54, 55] : List UInt8).take (g + 1).toNat).drop g.toNat := by
  simp only [Bool.or_eq_false_iff, decide_eq_false_iff_not] at h
  have : g = 0 ∨ g = 1 ∨ g = 2 ∨ g = 3 ∨ g = 4 ∨ g = 5 ∨ g = 6 ∨ g = 7 := by omega
  rcases this with e | e | e | e | e | e | e | e <;> subst e <;> rfl
theorem nameA_k (k : Nat) (h : k < 8) : nameA (k : Int) = regsA.getD k [] := by
  have : k = 0 ∨ k = 1 ∨ k = 2 ∨ k = 3 ∨ k = 4 ∨ k = 5 ∨ k = 6 ∨ k = 7 := by omega
  rcases this with e | e | e | e | e | e | e | e <;> subst e <;> rfl
theorem regsA_ne (k : Nat) (h : k < 8) : regsA.getD k [] ≠ [] := by
  have : k = 0 ∨ k = 1 ∨ k = 2 ∨ k = 3 ∨ k = 4 ∨ k = 5 ∨ k = 6 ∨ k = 7 := by omega
  rcases this with e | e | e | e | e | e | e | e <;> subst e <;> decide
theorem rgA_no1 {q : List UInt8} {k : Nat} (h : k < 8) (h1 : nameA (k : Int) ≠ q) : (q == regsA.getD k []) = false := by
  rw [nameA_k k h] at h1
  exact beq_eq_false_iff_ne.2 fun e => h1 e.symm
theorem rgA_no2 {q : List UInt8} {k : Nat} (h : k < 8) (h1 : q = []) : (q == regsA.getD k []) = false := by
  rw [h1]; exact beq_eq_false_iff_ne.2 fun e => regsA_ne k h e.symm
theorem rgA_yes {q : List UInt8} {k : Nat} (h : k < 8) (h1 : nameA (k : Int) = q) : (q == regsA.getD k []) = true := by
  rw [nameA_k k h] at h1
  rw [h1]; exact beq_self_eq_true q
theorem TLI.fiA {n : Int} {k : Nat} (hI : TLI n k) (h : ¬ (k : Int) < 4) : tlA n = [] := by
  have hk : 4 ≤ k := by omega
  have a1 := hI.h1 (by omega); have a2 := hI.h2 (by omega); have a4 := hI.h4 (by omega); have a8 := hI.h8 hk
  set_option simprocs true in simp [tlA, a1, a2, a4, a8]
theorem TLI.hitA {n : Int} {k : Nat} (h : k < 4) (hn : [1, 2, 4, 8].getD k 0 = n) : tlA n = ([[66], [72], [87], []] : List (List UInt8)).getD k [] := by
  have hk : k = 0 ∨ k = 1 ∨ k = 2 ∨ k = 3 := by omega
  rcases hk with e | e | e | e <;> subst e <;> subst hn <;> decide
theorem rname_a (g : Int)  : Fn Tryz.prog 15 [.int .i64 3, .int .i64 g] [] (Rt (.str (nameA g)) []) :=
 enterM (n := 37) (by kernel_rfl) Tryz.func15 rfl rfl rfl fun G w a h0 A => N hX 16 A rfl rfl fun A => fork 12 A rfl
  (fun h1 A => N hX 7 A rfl rfl fun A => RETN hX A rfl rfl rfl h0 rfl rfl rfl rfl (by rw [nameA_o h1]; rfl) rfl)
  (fun h1 A => N hX 27 A rfl rfl fun A => forkE 15 A rfl
   (fun h2 A => absurd h2 (by decide))
   (fun h2 A => N hX 7 A rfl rfl fun A => forkE 21 A rfl
    (fun h3 A => absurd h3 (by decide))
    (fun h3 A => N hX 7 A rfl rfl fun A => forkE 29 A rfl
     (fun h4 A => N hX 13 A rfl (ok_d (by have hz := h1; simp only [Bool.or_eq_false_iff, decide_eq_false_iff_not] at hz; (try simp only [List.length_cons, List.length_nil, List.length_drop, List.length_take]); omega) <| ok_d (by have hz := h1; simp only [Bool.or_eq_false_iff, decide_eq_false_iff_not] at hz; (try simp only [List.length_cons, List.length_nil, List.length_drop, List.length_take]); omega) <| ok_d (by have hz := h1; simp only [Bool.or_eq_false_iff, decide_eq_false_iff_not] at hz; (try simp only [List.length_cons, List.length_nil, List.length_drop, List.length_take]); omega) <| okE_nil) fun A => RETN hX A rfl rfl rfl h0 rfl rfl rfl rfl (by rw [nameA_i h1]; rfl) rfl)
     (fun h4 A => absurd rfl h4))))
theorem rregn_a (q : List UInt8)  : Fn Tryz.prog 17 [.int .i64 3, .str q] [] (Rt (.int .i64 (regA q)) []) :=
 enterM (n := 20) (by kernel_rfl) Tryz.func17 rfl rfl rfl fun G w a h0 A => N hX 12 A rfl rfl fun A => LOOP1 (fun (k : Nat) => [(0, .int .i64 3), (1, .str q), (4, .int .i64 0), (5, .int .i64 (k : Int))]) (fun (k : Nat) => []) (fun (k : Nat) => IxI regsA q k) (fun (k : Nat) => 8 - k) 0 IxI.i0 ((A.cut [0, 1, 4, 5] rfl).trunc 0 rfl rfl rfl (by simp only [List.length_cons, List.length_nil] at h0; omega)) fun k hI {G a w} A => N hX 7 A rfl rfl fun A => forkD 7 A rfl
   (fun h1 A => N hX 10 A rfl rfl fun A => forkN 12 A rfl
    (fun h2 A => N hX 2 A rfl rfl fun A => CALL1 [] (rname_a (k : Int)) A rfl rfl rfl rfl rfl rfl rfl fun A => N hX 5 A rfl rfl fun A => forkE 18 A rfl
     (fun h3 A => N hX 8 A rfl rfl fun A => RETN hX A rfl rfl rfl h0 rfl rfl rfl rfl (by unfold regA; rw [← idxS_L, hI.hit (by show k < 8; omega) (rgA_yes (by omega) h3)]; rfl) rfl)
     (fun h3 A => N hX 9 A rfl (ok_d (by have := hI.le; have e : regsA.length = 8 := rfl; omega) <| okE_nil) fun A => ⟨k + 1, _, (by omega), (hI.nx (by show k < 8; omega) (rgA_no1 (by omega) h3)), ((A.cut [0, 1, 4, 5] rfl).trunc 0 rfl rfl rfl (by simp only [List.length_cons, List.length_nil] at h0; omega))⟩))
    (fun h2 A => N hX 17 A rfl (ok_d (by have := hI.le; have e : regsA.length = 8 := rfl; omega) <| okE_nil) fun A => ⟨k + 1, _, (by omega), (hI.nx (by show k < 8; omega) (rgA_no2 (by omega) h2)), ((A.cut [0, 1, 4, 5] rfl).trunc 0 rfl rfl rfl (by simp only [List.length_cons, List.length_nil] at h0; omega))⟩))
   (fun h1 A => N hX 9 A rfl rfl fun A => RETN hX A rfl rfl rfl h0 rfl rfl rfl rfl (by unfold regA; rw [← idxS_L, hI.fi (by show 8 ≤ k; omega)]; rfl) rfl)
theorem rtail_a (v : Int)  : Fn Tryz.prog 143 [.int .i64 3, .int .i64 v] [] (Rt (.str (tlA v)) []) :=
 enterM (n := 31) (by kernel_rfl) Tryz.func143 rfl rfl rfl fun G w a h0 A => N hX 12 A rfl rfl fun A => LOOP1 (fun (k : Nat) => [(0, .int .i64 3), (1, .int .i64 v), (4, .str []), (5, .int .i64 (k : Int))]) (fun (k : Nat) => []) (fun (k : Nat) => TLI v k) (fun (k : Nat) => 4 - k) 0 TLI.i0 ((A.cut [0, 1, 4, 5] rfl).trunc 0 rfl rfl rfl (by simp only [List.length_cons, List.length_nil] at h0; omega)) fun k hI {G a w} A => N hX 7 A rfl rfl fun A => forkD 7 A rfl
   (fun h1 A => N hX 14 A rfl (ok_d (by have := hI.le; (try simp only [List.length_cons, List.length_nil]); omega) <| okE_nil) fun A => forkN 13 A rfl
    (fun h2 A => N hX 8 A rfl (ok_d (by have := hI.le; (try simp only [List.length_cons, List.length_nil]); omega) <| okE_nil) fun A => ⟨k + 1, _, (by omega), (hI.nx (by omega) (by rw [← sh_k k (by omega)]; exact h2)), ((A.cut [0, 1, 4, 5] rfl).trunc 0 rfl rfl rfl (by simp only [List.length_cons, List.length_nil] at h0; omega))⟩)
    (fun h2 A => N hX 16 A rfl rfl fun A => forkE 15 A rfl
     (fun h3 A => absurd h3 (by decide))
     (fun h3 A => N hX 7 A rfl rfl fun A => forkE 21 A rfl
      (fun h4 A => absurd h4 (by decide))
      (fun h4 A => N hX 14 A rfl (ok_d (by have := hI.le; (try simp only [List.length_cons, List.length_nil]); omega) <| ok_d (by have := hI.le; (try simp only [List.length_cons, List.length_nil]); omega) <| okE_nil) fun A => RETN hX A rfl rfl rfl h0 rfl rfl rfl rfl (by rw [TLI.hitA (k := k) (by omega) ((sh_k k (by omega)).symm.trans h2)]; have : k = 0 ∨ k = 1 ∨ k = 2 ∨ k = 3 := (by omega); rcases this with e | e | e | e <;> subst e <;> rfl) rfl))))
   (fun h1 A => N hX 9 A rfl rfl fun A => RETN hX A rfl rfl rfl h0 rfl rfl rfl rfl (by rw [hI.fiA h1]; rfl) rfl)
theorem nameA_le (r : Int) : (nameA r).length ≤ 2 := by
  unfold nameA
  split
  · exact Nat.zero_le _
  · cases h : regsA[r.toNat]? with
    | none => exact Nat.zero_le _
    | some x =>
      have hm := List.mem_of_getElem? h
      have : ∀ x ∈ regsA, x.length ≤ 2 := by decide
      exact this x hm
theorem tlA_le (n : Int) : (tlA n).length ≤ 1 := by
  unfold tlA; (repeat' split) <;> decide
theorem knum_ (v : Int) (hv : -9223372036854775808 ≤ v ∧ v ≤ 9223372036854775807) : Fn Tryz.prog 96 [.int .i64 3, .int .i64 v] [] (Rt (.str ([35] ++ (Lib.itoa v))) []) :=
 enterM (n := 18) (by kernel_rfl) Tryz.func96 rfl rfl rfl fun G w a h0 A => N hX 18 A rfl rfl fun A => forkE 6 A rfl
  (fun h1 A => absurd h1 (by decide))
  (fun h1 A => N hX 7 A rfl rfl fun A => forkE 11 A rfl
   (fun h2 A => N hX 4 A rfl rfl fun A => CALL1 [] (digits v (by have q0 := hv; have q1 := itoa_le v hv; (try simp only [List.length_append, List.length_cons, List.length_nil]); omega) (by have q0 := hv; have q1 := itoa_le v hv; (try simp only [List.length_append, List.length_cons, List.length_nil]); omega)) A rfl rfl rfl rfl rfl rfl rfl fun A => N hX 5 A rfl (ok_d (by have q0 := hv; have q1 := itoa_le v hv; (try simp only [List.length_append, List.length_cons, List.length_nil]); omega) <| okE_nil) fun A => RETN hX A rfl rfl rfl h0 rfl rfl rfl rfl rfl rfl)
   (fun h2 A => absurd rfl h2))
def kror0 (r : Int) (v : Int) : List UInt8 := if r < 0 then [35] ++ Lib.itoa v else nameA r
theorem kror_ (r : Int) (v : Int) (hv : -9223372036854775808 ≤ v ∧ v ≤ 9223372036854775807) : Fn Tryz.prog 98 [.int .i64 3, .int .i64 r, .int .i64 v] [] (Rt (.str (kror0 r v)) []) :=
 enterM (n := 15) (by kernel_rfl) Tryz.func98 rfl rfl rfl fun G w a h0 A => N hX 12 A rfl rfl fun A => forkD 8 A rfl
  (fun h1 A => N hX 5 A rfl rfl fun A => CALL1 [] (knum_ v (by have q0 := hv; have q1 := itoa_le v hv; have q2 := nameA_le r; (try simp only [List.length_append, List.length_cons, List.length_nil]); omega)) A rfl rfl rfl rfl rfl rfl rfl fun A => N hX 4 A rfl rfl fun A => RETN hX A rfl rfl rfl h0 rfl rfl rfl rfl (by simp only [oneS, nb, nbL, nbH, kror0, if_pos h1]) rfl)
  (fun h1 A => N hX 7 A rfl rfl fun A => CALL1 [] (rname_a r) A rfl rfl rfl rfl rfl rfl rfl fun A => N hX 4 A rfl rfl fun A => RETN hX A rfl rfl rfl h0 rfl rfl rfl rfl (by simp only [oneS, nb, nbL, nbH, kror0, if_neg h1]) rfl)
theorem kror_le (r v : Int) (hv : -9223372036854775808 ≤ v ∧ v ≤ 9223372036854775807) : (kror0 r v).length ≤ 22 := by
  have := itoa_le v hv; have := nameA_le r; unfold kror0; split <;> (try simp only [List.length_append, List.length_cons, List.length_nil]) <;> omega
def kmem0 (i : In) : List UInt8 := if i.off ≠ 0 then if i.ix ≥ 0 then ((((([91] ++ (Old.locN (i.loc).toNat)) ++ [43]) ++ (Lib.itoa i.off)) ++ [43]) ++ (nameA i.ix)) ++ [93] else ((([91] ++ (Old.locN (i.loc).toNat)) ++ [43]) ++ (Lib.itoa i.off)) ++ [93] else if i.ix ≥ 0 then ((([91] ++ (Old.locN (i.loc).toNat)) ++ [43]) ++ (nameA i.ix)) ++ [93] else ([91] ++ (Old.locN (i.loc).toNat)) ++ [93]
theorem kmem_ (i : In) (hl : 0 ≤ i.loc ∧ i.loc < 3) (ho : -9223372036854775808 ≤ i.off ∧ i.off ≤ 9223372036854775807) : Fn Tryz.prog 153 [.int .i64 3, .agg (inQ9 i)] [] (Rt (.str (kmem0 i)) []) :=
 enterM (n := 31) (by kernel_rfl) Tryz.func153 rfl rfl rfl fun G w a h0 A => N hX 10 A rfl rfl fun A => CALL1 [] (rloc_x i.loc (by have q0 := hl; have q1 := ho; have q2 := itoa_le i.off ho; have q3 := nameA_le i.ix; have q4 := locN_le i.loc.toNat; (try simp only [List.length_append, List.length_cons, List.length_nil]); omega)) A rfl rfl rfl rfl rfl rfl rfl fun A => N hX 6 A rfl (ok_d (by have q0 := hl; have q1 := ho; have q2 := itoa_le i.off ho; have q3 := nameA_le i.ix; have q4 := locN_le i.loc.toNat; (try simp only [List.length_append, List.length_cons, List.length_nil]); omega) <| okE_nil) fun A => N hX 6 A rfl rfl fun A => forkN 12 A rfl
  (fun h1 A => N hX 6 A rfl (ok_d (by have q0 := hl; have q1 := ho; have q2 := itoa_le i.off ho; have q3 := nameA_le i.ix; have q4 := locN_le i.loc.toNat; (try simp only [List.length_append, List.length_cons, List.length_nil]); omega) <| okE_nil) fun A => CALL1 [] (digits i.off (by have q0 := hl; have q1 := ho; have q2 := itoa_le i.off ho; have q3 := nameA_le i.ix; have q4 := locN_le i.loc.toNat; (try simp only [List.length_append, List.length_cons, List.length_nil]); omega) (by have q0 := hl; have q1 := ho; have q2 := itoa_le i.off ho; have q3 := nameA_le i.ix; have q4 := locN_le i.loc.toNat; (try simp only [List.length_append, List.length_cons, List.length_nil]); omega)) A rfl rfl rfl rfl rfl rfl rfl fun A => N hX 6 A rfl (ok_d (by have q0 := hl; have q1 := ho; have q2 := itoa_le i.off ho; have q3 := nameA_le i.ix; have q4 := locN_le i.loc.toNat; (try simp only [List.length_append, List.length_cons, List.length_nil]); omega) <| okE_nil) fun A => N hX 6 A rfl rfl fun A => forkD 21 A rfl
   (fun h2 A => N hX 7 A rfl (ok_d (by have q0 := hl; have q1 := ho; have q2 := itoa_le i.off ho; have q3 := nameA_le i.ix; have q4 := locN_le i.loc.toNat; (try simp only [List.length_append, List.length_cons, List.length_nil]); omega) <| okE_nil) fun A => CALL1 [] (rname_a i.ix) A rfl rfl rfl rfl rfl rfl rfl fun A => N hX 5 A rfl (ok_d (by have q0 := hl; have q1 := ho; have q2 := itoa_le i.off ho; have q3 := nameA_le i.ix; have q4 := locN_le i.loc.toNat; (try simp only [List.length_append, List.length_cons, List.length_nil]); omega) <| okE_nil) fun A => N hX 7 A rfl (ok_d (by have q0 := hl; have q1 := ho; have q2 := itoa_le i.off ho; have q3 := nameA_le i.ix; have q4 := locN_le i.loc.toNat; (try simp only [List.length_append, List.length_cons, List.length_nil]); omega) <| okE_nil) fun A => RETN hX A rfl rfl rfl h0 rfl rfl rfl rfl (by simp only [oneS, nb, nbL, nbH, kmem0, if_pos h1, if_pos h2]) rfl)
   (fun h2 A => N hX 11 A rfl (ok_d (by have q0 := hl; have q1 := ho; have q2 := itoa_le i.off ho; have q3 := nameA_le i.ix; have q4 := locN_le i.loc.toNat; (try simp only [List.length_append, List.length_cons, List.length_nil]); omega) <| okE_nil) fun A => RETN hX A rfl rfl rfl h0 rfl rfl rfl rfl (by simp only [oneS, nb, nbL, nbH, kmem0, if_pos h1, if_neg h2]) rfl))
  (fun h1 A => N hX 11 A rfl rfl fun A => forkD 21 A rfl
   (fun h3 A => N hX 7 A rfl (ok_d (by have q0 := hl; have q1 := ho; have q2 := itoa_le i.off ho; have q3 := nameA_le i.ix; have q4 := locN_le i.loc.toNat; (try simp only [List.length_append, List.length_cons, List.length_nil]); omega) <| okE_nil) fun A => CALL1 [] (rname_a i.ix) A rfl rfl rfl rfl rfl rfl rfl fun A => N hX 5 A rfl (ok_d (by have q0 := hl; have q1 := ho; have q2 := itoa_le i.off ho; have q3 := nameA_le i.ix; have q4 := locN_le i.loc.toNat; (try simp only [List.length_append, List.length_cons, List.length_nil]); omega) <| okE_nil) fun A => N hX 7 A rfl (ok_d (by have q0 := hl; have q1 := ho; have q2 := itoa_le i.off ho; have q3 := nameA_le i.ix; have q4 := locN_le i.loc.toNat; (try simp only [List.length_append, List.length_cons, List.length_nil]); omega) <| okE_nil) fun A => RETN hX A rfl rfl rfl h0 rfl rfl rfl rfl (by simp only [oneS, nb, nbL, nbH, kmem0, if_neg (not_not_intro h1), if_pos h3]) rfl)
   (fun h3 A => N hX 11 A rfl (ok_d (by have q0 := hl; have q1 := ho; have q2 := itoa_le i.off ho; have q3 := nameA_le i.ix; have q4 := locN_le i.loc.toNat; (try simp only [List.length_append, List.length_cons, List.length_nil]); omega) <| okE_nil) fun A => RETN hX A rfl rfl rfl h0 rfl rfl rfl rfl (by simp only [oneS, nb, nbL, nbH, kmem0, if_neg (not_not_intro h1), if_neg h3]) rfl))
theorem kmem_le (i : In) (h : -9223372036854775808 ≤ i.off ∧ i.off ≤ 9223372036854775807) : (kmem0 i).length ≤ 40 := by
  have := itoa_le i.off h; have := nameA_le i.ix; have := locN_le i.loc.toNat
  unfold kmem0; (repeat' split) <;> simp only [List.length_append, List.length_cons, List.length_nil] <;> omega
def kbr0 (z : Bool) : List UInt8 := if z = true then [67, 66, 90] else [67, 66, 78, 90]
theorem kbr_ (z : Bool)  : Fn Tryz.prog 99 [.int .i64 3, .bool z] [] (Rt (.str (kbr0 z)) []) :=
 enterM (n := 20) (by kernel_rfl) Tryz.func99 rfl rfl rfl fun G w a h0 A => N hX 18 A rfl rfl fun A => forkE 8 A rfl
  (fun h1 A => absurd h1 (by decide))
  (fun h1 A => N hX 10 A rfl rfl fun A => forkE 11 A rfl
   (fun h2 A => N hX 12 A rfl rfl fun A => fork 13 A rfl
    (fun h3 A => N hX 10 A rfl (ok_d (by decide) <| ok_d (by decide) <| okE_nil) fun A => RETN hX A rfl rfl rfl h0 rfl rfl rfl rfl (by unfold kbr0; rw [if_pos h3]; rfl) rfl)
    (fun h3 A => N hX 12 A rfl (ok_d (by decide) <| ok_d (by decide) <| okE_nil) fun A => RETN hX A rfl rfl rfl h0 rfl rfl rfl rfl (by unfold kbr0; rw [if_neg (by rw [h3]; decide)]; rfl) rfl))
   (fun h2 A => absurd rfl h2))
theorem kfn_ (v : Int) (hv : 0 ≤ v ∧ v < 6) : Fn Tryz.prog 97 [.int .i64 3, .int .i64 v] [] (Rt (.str ([[], [65, 68, 68], [83, 85, 66], [69, 79, 82], [65, 78, 68], [79, 82, 82]].getD (v).toNat [])) []) :=
 enterM (n := 22) (by kernel_rfl) Tryz.func97 rfl rfl rfl fun G w a h0 A => N hX 18 A rfl rfl fun A => forkE 6 A rfl
  (fun h1 A => absurd h1 (by decide))
  (fun h1 A => N hX 7 A rfl rfl fun A => forkE 12 A rfl
   (fun h2 A => N hX 11 A rfl (ok_d (by have q0 := hv; (try simp only [List.length_append, List.length_cons, List.length_nil]); omega) <| ok_d (by have q0 := hv; (try simp only [List.length_append, List.length_cons, List.length_nil]); omega) <| okE_nil) fun A => RETN hX A rfl rfl rfl h0 rfl rfl rfl rfl rfl rfl)
   (fun h2 A => absurd rfl h2))
def kfnT (v : Int) : List UInt8 := [[], [65, 68, 68], [83, 85, 66], [69, 79, 82], [65, 78, 68], [79, 82, 82]].getD (v).toNat []
theorem kfn2_ (v : Int) (hv : 0 ≤ v ∧ v < 6) : Fn Tryz.prog 97 [.int .i64 3, .int .i64 v] [] (Rt (.str (kfnT v)) []) := kfn_ v hv
theorem kfnT_le (v : Int) (h : 0 ≤ v ∧ v < 6) : (kfnT v).length ≤ 3 := by
  have : v = 0 ∨ v = 1 ∨ v = 2 ∨ v = 3 ∨ v = 4 ∨ v = 5 := by omega
  rcases this with e | e | e | e | e | e <;> subst e <;> decide
def kfen0 (i : In) : List UInt8 := if ((i.op == 8) && ((3 : Int) == 3)) = true then [73, 83, 66] else if i.op = 8 then [] else if ((((3 : Int) == 1) && (i.pred == 3)) && (i.succ == 3)) = true then [77, 70, 69, 78, 67, 69] else if ((((3 : Int) == 3) && (i.pred == 3)) && (i.succ == 3)) = true then [68, 77, 66, 32, 83, 89] else if ((((3 : Int) == 3) && (i.pred == 1)) && (i.succ == 3)) = true then [68, 77, 66, 32, 76, 68] else if ((((3 : Int) == 3) && (i.pred == 2)) && (i.succ == 2)) = true then [68, 77, 66, 32, 83, 84] else []
theorem kfen_ (i : In)  : Fn Tryz.prog 100 [.int .i64 3, .agg (inQ9 i)] [] (Rt (.str (kfen0 i)) []) :=
 enterM (n := 87) (by kernel_rfl) Tryz.func100 rfl rfl rfl fun G w a h0 A => N hX 26 A rfl rfl fun A => fork 7 A rfl
  (fun h1 A => N hX 7 A rfl rfl fun A => RETN hX A rfl rfl rfl h0 rfl rfl rfl rfl (by simp only [oneS, nb, nbL, nbH, kfen0, if_pos h1]) rfl)
  (fun h1 A => N hX 9 A rfl rfl fun A => forkE 15 A rfl
   (fun h2 A => N hX 7 A rfl rfl fun A => RETN hX A rfl rfl rfl h0 rfl rfl rfl rfl (by simp only [oneS, nb, nbL, nbH, kfen0, if_neg (ne_true_of_eq_false h1), if_pos h2]) rfl)
   (fun h2 A => N hX 8 A rfl rfl fun A => forkE 19 A rfl
    (fun h3 A => absurd h3 (by decide))
    (fun h3 A => N hX 18 A rfl rfl fun A => fork 35 A rfl
     (fun h4 A => N hX 7 A rfl rfl fun A => RETN hX A rfl rfl rfl h0 rfl rfl rfl rfl (by simp only [oneS, nb, nbL, nbH, kfen0, if_neg (ne_true_of_eq_false h1), if_neg (h2), if_neg (h3), if_pos h4]) rfl)
     (fun h4 A => N hX 18 A rfl rfl fun A => fork 48 A rfl
      (fun h5 A => N hX 7 A rfl rfl fun A => RETN hX A rfl rfl rfl h0 rfl rfl rfl rfl (by simp only [oneS, nb, nbL, nbH, kfen0, if_neg (ne_true_of_eq_false h1), if_neg (h2), if_neg (h3), if_neg (ne_true_of_eq_false h4), if_pos h5]) rfl)
      (fun h5 A => N hX 18 A rfl rfl fun A => fork 61 A rfl
       (fun h6 A => N hX 7 A rfl rfl fun A => RETN hX A rfl rfl rfl h0 rfl rfl rfl rfl (by simp only [oneS, nb, nbL, nbH, kfen0, if_neg (ne_true_of_eq_false h1), if_neg (h2), if_neg (h3), if_neg (ne_true_of_eq_false h4), if_neg (ne_true_of_eq_false h5), if_pos h6]) rfl)
       (fun h6 A => N hX 18 A rfl rfl fun A => fork 74 A rfl
        (fun h7 A => N hX 7 A rfl rfl fun A => RETN hX A rfl rfl rfl h0 rfl rfl rfl rfl (by simp only [oneS, nb, nbL, nbH, kfen0, if_neg (ne_true_of_eq_false h1), if_neg (h2), if_neg (h3), if_neg (ne_true_of_eq_false h4), if_neg (ne_true_of_eq_false h5), if_neg (ne_true_of_eq_false h6), if_pos h7]) rfl)
        (fun h7 A => N hX 10 A rfl rfl fun A => RETN hX A rfl rfl rfl h0 rfl rfl rfl rfl (by simp only [oneS, nb, nbL, nbH, kfen0, if_neg (ne_true_of_eq_false h1), if_neg (h2), if_neg (h3), if_neg (ne_true_of_eq_false h4), if_neg (ne_true_of_eq_false h5), if_neg (ne_true_of_eq_false h6), if_neg (ne_true_of_eq_false h7)]) rfl)))))))
def krmw0 (i : In) (ds : List UInt8) (az : List UInt8) (ts : List UInt8) (ms : List UInt8) : List UInt8 := if i.fn = 1 then if i.acq = true then if i.rel = true then (((((((([76, 68, 65, 68, 68] ++ [65]) ++ [76]) ++ ts) ++ [32]) ++ az) ++ [44]) ++ ds) ++ [44]) ++ ms else ((((((([76, 68, 65, 68, 68] ++ [65]) ++ ts) ++ [32]) ++ az) ++ [44]) ++ ds) ++ [44]) ++ ms else if i.rel = true then ((((((([76, 68, 65, 68, 68] ++ [76]) ++ ts) ++ [32]) ++ az) ++ [44]) ++ ds) ++ [44]) ++ ms else (((((([76, 68, 65, 68, 68] ++ ts) ++ [32]) ++ az) ++ [44]) ++ ds) ++ [44]) ++ ms else if i.acq = true then if i.rel = true then (((((((([83, 87, 80] ++ [65]) ++ [76]) ++ ts) ++ [32]) ++ az) ++ [44]) ++ ds) ++ [44]) ++ ms else ((((((([83, 87, 80] ++ [65]) ++ ts) ++ [32]) ++ az) ++ [44]) ++ ds) ++ [44]) ++ ms else if i.rel = true then ((((((([83, 87, 80] ++ [76]) ++ ts) ++ [32]) ++ az) ++ [44]) ++ ds) ++ [44]) ++ ms else (((((([83, 87, 80] ++ ts) ++ [32]) ++ az) ++ [44]) ++ ds) ++ [44]) ++ ms
theorem krmw_ (i : In) (ds : List UInt8) (az : List UInt8) (ts : List UInt8) (ms : List UInt8) (hd : ds.length ≤ 1000 ∧ az.length ≤ 1000 ∧ ts.length ≤ 1000 ∧ ms.length ≤ 1000) : Fn Tryz.prog 154 [.int .i64 3, .agg (inQ9 i), .str ds, .str az, .str ts, .str ms] [] (Rt (.str (krmw0 i ds az ts ms)) []) :=
 enterM (n := 101) (by kernel_rfl) Tryz.func154 rfl rfl rfl fun G w a h0 A => N hX 19 A rfl rfl fun A => forkE 16 A rfl
  (fun h1 A => absurd h1 (by decide))
  (fun h1 A => N hX 7 A rfl rfl fun A => forkE 52 A rfl
   (fun h2 A => absurd h2 (by decide))
   (fun h2 A => N hX 17 A rfl rfl fun A => forkE 80 A rfl
    (fun h3 A => N hX 12 A rfl rfl fun A => fork 82 A rfl
     (fun h4 A => N hX 9 A rfl (ok_d (by have q0 := hd; (try simp only [List.length_append, List.length_cons, List.length_nil]); omega) <| okE_nil) fun A => N hX 5 A rfl rfl fun A => fork 86 A rfl
      (fun h5 A => N hX 8 A rfl (ok_d (by have q0 := hd; (try simp only [List.length_append, List.length_cons, List.length_nil]); omega) <| okE_nil) fun A => N hX 17 A rfl (ok_d (by have q0 := hd; (try simp only [List.length_append, List.length_cons, List.length_nil]); omega) <| ok_d (by have q0 := hd; (try simp only [List.length_append, List.length_cons, List.length_nil]); omega) <| ok_d (by have q0 := hd; (try simp only [List.length_append, List.length_cons, List.length_nil]); omega) <| ok_d (by have q0 := hd; (try simp only [List.length_append, List.length_cons, List.length_nil]); omega) <| ok_d (by have q0 := hd; (try simp only [List.length_append, List.length_cons, List.length_nil]); omega) <| ok_d (by have q0 := hd; (try simp only [List.length_append, List.length_cons, List.length_nil]); omega) <| ok_d (by have q0 := hd; (try simp only [List.length_append, List.length_cons, List.length_nil]); omega) <| okE_nil) fun A => RETN hX A rfl rfl rfl h0 rfl rfl rfl rfl (by simp only [oneS, nb, nbL, nbH, krmw0, if_neg (h1), if_neg (h2), if_pos h3, if_pos h4, if_pos h5]) rfl)
      (fun h5 A => N hX 21 A rfl (ok_d (by have q0 := hd; (try simp only [List.length_append, List.length_cons, List.length_nil]); omega) <| ok_d (by have q0 := hd; (try simp only [List.length_append, List.length_cons, List.length_nil]); omega) <| ok_d (by have q0 := hd; (try simp only [List.length_append, List.length_cons, List.length_nil]); omega) <| ok_d (by have q0 := hd; (try simp only [List.length_append, List.length_cons, List.length_nil]); omega) <| ok_d (by have q0 := hd; (try simp only [List.length_append, List.length_cons, List.length_nil]); omega) <| ok_d (by have q0 := hd; (try simp only [List.length_append, List.length_cons, List.length_nil]); omega) <| ok_d (by have q0 := hd; (try simp only [List.length_append, List.length_cons, List.length_nil]); omega) <| okE_nil) fun A => RETN hX A rfl rfl rfl h0 rfl rfl rfl rfl (by simp only [oneS, nb, nbL, nbH, krmw0, if_neg (h1), if_neg (h2), if_pos h3, if_pos h4, if_neg (ne_true_of_eq_false h5)]) rfl))
     (fun h4 A => N hX 10 A rfl rfl fun A => fork 86 A rfl
      (fun h6 A => N hX 8 A rfl (ok_d (by have q0 := hd; (try simp only [List.length_append, List.length_cons, List.length_nil]); omega) <| okE_nil) fun A => N hX 17 A rfl (ok_d (by have q0 := hd; (try simp only [List.length_append, List.length_cons, List.length_nil]); omega) <| ok_d (by have q0 := hd; (try simp only [List.length_append, List.length_cons, List.length_nil]); omega) <| ok_d (by have q0 := hd; (try simp only [List.length_append, List.length_cons, List.length_nil]); omega) <| ok_d (by have q0 := hd; (try simp only [List.length_append, List.length_cons, List.length_nil]); omega) <| ok_d (by have q0 := hd; (try simp only [List.length_append, List.length_cons, List.length_nil]); omega) <| ok_d (by have q0 := hd; (try simp only [List.length_append, List.length_cons, List.length_nil]); omega) <| ok_d (by have q0 := hd; (try simp only [List.length_append, List.length_cons, List.length_nil]); omega) <| okE_nil) fun A => RETN hX A rfl rfl rfl h0 rfl rfl rfl rfl (by simp only [oneS, nb, nbL, nbH, krmw0, if_neg (h1), if_neg (h2), if_pos h3, if_neg (ne_true_of_eq_false h4), if_pos h6]) rfl)
      (fun h6 A => N hX 21 A rfl (ok_d (by have q0 := hd; (try simp only [List.length_append, List.length_cons, List.length_nil]); omega) <| ok_d (by have q0 := hd; (try simp only [List.length_append, List.length_cons, List.length_nil]); omega) <| ok_d (by have q0 := hd; (try simp only [List.length_append, List.length_cons, List.length_nil]); omega) <| ok_d (by have q0 := hd; (try simp only [List.length_append, List.length_cons, List.length_nil]); omega) <| ok_d (by have q0 := hd; (try simp only [List.length_append, List.length_cons, List.length_nil]); omega) <| ok_d (by have q0 := hd; (try simp only [List.length_append, List.length_cons, List.length_nil]); omega) <| ok_d (by have q0 := hd; (try simp only [List.length_append, List.length_cons, List.length_nil]); omega) <| okE_nil) fun A => RETN hX A rfl rfl rfl h0 rfl rfl rfl rfl (by simp only [oneS, nb, nbL, nbH, krmw0, if_neg (h1), if_neg (h2), if_pos h3, if_neg (ne_true_of_eq_false h4), if_neg (ne_true_of_eq_false h6)]) rfl)))
    (fun h3 A => N hX 10 A rfl rfl fun A => fork 82 A rfl
     (fun h7 A => N hX 9 A rfl (ok_d (by have q0 := hd; (try simp only [List.length_append, List.length_cons, List.length_nil]); omega) <| okE_nil) fun A => N hX 5 A rfl rfl fun A => fork 86 A rfl
      (fun h8 A => N hX 8 A rfl (ok_d (by have q0 := hd; (try simp only [List.length_append, List.length_cons, List.length_nil]); omega) <| okE_nil) fun A => N hX 17 A rfl (ok_d (by have q0 := hd; (try simp only [List.length_append, List.length_cons, List.length_nil]); omega) <| ok_d (by have q0 := hd; (try simp only [List.length_append, List.length_cons, List.length_nil]); omega) <| ok_d (by have q0 := hd; (try simp only [List.length_append, List.length_cons, List.length_nil]); omega) <| ok_d (by have q0 := hd; (try simp only [List.length_append, List.length_cons, List.length_nil]); omega) <| ok_d (by have q0 := hd; (try simp only [List.length_append, List.length_cons, List.length_nil]); omega) <| ok_d (by have q0 := hd; (try simp only [List.length_append, List.length_cons, List.length_nil]); omega) <| ok_d (by have q0 := hd; (try simp only [List.length_append, List.length_cons, List.length_nil]); omega) <| okE_nil) fun A => RETN hX A rfl rfl rfl h0 rfl rfl rfl rfl (by simp only [oneS, nb, nbL, nbH, krmw0, if_neg (h1), if_neg (h2), if_neg (h3), if_pos h7, if_pos h8]) rfl)
      (fun h8 A => N hX 21 A rfl (ok_d (by have q0 := hd; (try simp only [List.length_append, List.length_cons, List.length_nil]); omega) <| ok_d (by have q0 := hd; (try simp only [List.length_append, List.length_cons, List.length_nil]); omega) <| ok_d (by have q0 := hd; (try simp only [List.length_append, List.length_cons, List.length_nil]); omega) <| ok_d (by have q0 := hd; (try simp only [List.length_append, List.length_cons, List.length_nil]); omega) <| ok_d (by have q0 := hd; (try simp only [List.length_append, List.length_cons, List.length_nil]); omega) <| ok_d (by have q0 := hd; (try simp only [List.length_append, List.length_cons, List.length_nil]); omega) <| ok_d (by have q0 := hd; (try simp only [List.length_append, List.length_cons, List.length_nil]); omega) <| okE_nil) fun A => RETN hX A rfl rfl rfl h0 rfl rfl rfl rfl (by simp only [oneS, nb, nbL, nbH, krmw0, if_neg (h1), if_neg (h2), if_neg (h3), if_pos h7, if_neg (ne_true_of_eq_false h8)]) rfl))
     (fun h7 A => N hX 10 A rfl rfl fun A => fork 86 A rfl
      (fun h9 A => N hX 8 A rfl (ok_d (by have q0 := hd; (try simp only [List.length_append, List.length_cons, List.length_nil]); omega) <| okE_nil) fun A => N hX 17 A rfl (ok_d (by have q0 := hd; (try simp only [List.length_append, List.length_cons, List.length_nil]); omega) <| ok_d (by have q0 := hd; (try simp only [List.length_append, List.length_cons, List.length_nil]); omega) <| ok_d (by have q0 := hd; (try simp only [List.length_append, List.length_cons, List.length_nil]); omega) <| ok_d (by have q0 := hd; (try simp only [List.length_append, List.length_cons, List.length_nil]); omega) <| ok_d (by have q0 := hd; (try simp only [List.length_append, List.length_cons, List.length_nil]); omega) <| ok_d (by have q0 := hd; (try simp only [List.length_append, List.length_cons, List.length_nil]); omega) <| ok_d (by have q0 := hd; (try simp only [List.length_append, List.length_cons, List.length_nil]); omega) <| okE_nil) fun A => RETN hX A rfl rfl rfl h0 rfl rfl rfl rfl (by simp only [oneS, nb, nbL, nbH, krmw0, if_neg (h1), if_neg (h2), if_neg (h3), if_neg (ne_true_of_eq_false h7), if_pos h9]) rfl)
      (fun h9 A => N hX 21 A rfl (ok_d (by have q0 := hd; (try simp only [List.length_append, List.length_cons, List.length_nil]); omega) <| ok_d (by have q0 := hd; (try simp only [List.length_append, List.length_cons, List.length_nil]); omega) <| ok_d (by have q0 := hd; (try simp only [List.length_append, List.length_cons, List.length_nil]); omega) <| ok_d (by have q0 := hd; (try simp only [List.length_append, List.length_cons, List.length_nil]); omega) <| ok_d (by have q0 := hd; (try simp only [List.length_append, List.length_cons, List.length_nil]); omega) <| ok_d (by have q0 := hd; (try simp only [List.length_append, List.length_cons, List.length_nil]); omega) <| ok_d (by have q0 := hd; (try simp only [List.length_append, List.length_cons, List.length_nil]); omega) <| okE_nil) fun A => RETN hX A rfl rfl rfl h0 rfl rfl rfl rfl (by simp only [oneS, nb, nbL, nbH, krmw0, if_neg (h1), if_neg (h2), if_neg (h3), if_neg (ne_true_of_eq_false h7), if_neg (ne_true_of_eq_false h9)]) rfl)))))
def kacc0 (i : In) (ds : List UInt8) (az : List UInt8) : List UInt8 := if ((i.op == 4) && ((3 : Int) == 3)) = true then if i.acq = true then if i.weak = true then (((([76, 68, 65, 80, 82] ++ (tlA i.sz)) ++ [32]) ++ ds) ++ [44]) ++ (kmem0 i) else (((([76, 68, 65, 82] ++ (tlA i.sz)) ++ [32]) ++ ds) ++ [44]) ++ (kmem0 i) else if i.weak = true then (((([76, 68, 65, 80, 82] ++ (tlA i.sz)) ++ [32]) ++ ds) ++ [44]) ++ (kmem0 i) else (((([76, 68, 82] ++ (tlA i.sz)) ++ [32]) ++ ds) ++ [44]) ++ (kmem0 i) else if ((i.op == 4) && (i.acq || i.weak)) = true then [] else if ((i.op == 4) && ((3 : Int) == 2)) = true then (((([108] ++ (tlA i.sz)) ++ [32]) ++ ds) ++ [44]) ++ (kmem0 i) else if i.op = 4 then (((([77, 79, 86] ++ (tlA i.sz)) ++ [32]) ++ ds) ++ [44]) ++ (kmem0 i) else if ((i.op == 5) && ((3 : Int) == 1)) = true then if i.rel = true then [] else (((([77, 79, 86] ++ (tlA i.sz)) ++ [32]) ++ (kmem0 i)) ++ [44]) ++ (kror0 i.ra i.imm) else if ((i.op == 5) && (decide (i.ra < 0))) = true then [] else if ((i.op == 5) && ((3 : Int) == 2)) = true then if i.rel = true then [] else (((([115] ++ (tlA i.sz)) ++ [32]) ++ az) ++ [44]) ++ (kmem0 i) else if i.op = 5 then if i.rel = true then (((([83, 84, 76, 82] ++ (tlA i.sz)) ++ [32]) ++ az) ++ [44]) ++ (kmem0 i) else (((([83, 84, 82] ++ (tlA i.sz)) ++ [32]) ++ az) ++ [44]) ++ (kmem0 i) else krmw0 i ds az (tlA i.sz) (kmem0 i)
theorem kacc_ (i : In) (ds : List UInt8) (az : List UInt8) (hl : 0 ≤ i.loc ∧ i.loc < 3) (ho : -9223372036854775808 ≤ i.off ∧ i.off ≤ 9223372036854775807) (hm : -9223372036854775808 ≤ i.imm ∧ i.imm ≤ 9223372036854775807) (hd : ds.length ≤ 1000 ∧ az.length ≤ 1000) : Fn Tryz.prog 101 [.int .i64 3, .agg (inQ9 i), .str ds, .str az] [] (Rt (.str (kacc0 i ds az)) []) :=
 enterM (n := 153) (by kernel_rfl) Tryz.func101 rfl rfl rfl fun G w a h0 A => N hX 11 A rfl rfl fun A => CALL1 [] (rtail_a i.sz) A rfl rfl rfl rfl rfl rfl rfl fun A => N hX 7 A rfl rfl fun A => CALL1 [] (kmem_ i (by have q0 := hl; have q1 := ho; have q2 := hm; have q3 := hd; have q4 := tlA_le i.sz; have q5 := kmem_le i ho; have q6 := kror_le i.ra i.imm hm; (try simp only [List.length_append, List.length_cons, List.length_nil]); omega) (by have q0 := hl; have q1 := ho; have q2 := hm; have q3 := hd; have q4 := tlA_le i.sz; have q5 := kmem_le i ho; have q6 := kror_le i.ra i.imm hm; (try simp only [List.length_append, List.length_cons, List.length_nil]); omega)) A rfl rfl rfl rfl rfl rfl rfl fun A => N hX 17 A rfl rfl fun A => fork 20 A rfl
  (fun h1 A => N hX 13 A rfl rfl fun A => fork 29 A rfl
   (fun h2 A => N hX 12 A rfl rfl fun A => fork 31 A rfl
    (fun h3 A => N hX 20 A rfl (ok_d (by have q0 := hl; have q1 := ho; have q2 := hm; have q3 := hd; have q4 := tlA_le i.sz; have q5 := kmem_le i ho; have q6 := kror_le i.ra i.imm hm; (try simp only [List.length_append, List.length_cons, List.length_nil]); omega) <| ok_d (by have q0 := hl; have q1 := ho; have q2 := hm; have q3 := hd; have q4 := tlA_le i.sz; have q5 := kmem_le i ho; have q6 := kror_le i.ra i.imm hm; (try simp only [List.length_append, List.length_cons, List.length_nil]); omega) <| ok_d (by have q0 := hl; have q1 := ho; have q2 := hm; have q3 := hd; have q4 := tlA_le i.sz; have q5 := kmem_le i ho; have q6 := kror_le i.ra i.imm hm; (try simp only [List.length_append, List.length_cons, List.length_nil]); omega) <| ok_d (by have q0 := hl; have q1 := ho; have q2 := hm; have q3 := hd; have q4 := tlA_le i.sz; have q5 := kmem_le i ho; have q6 := kror_le i.ra i.imm hm; (try simp only [List.length_append, List.length_cons, List.length_nil]); omega) <| ok_d (by have q0 := hl; have q1 := ho; have q2 := hm; have q3 := hd; have q4 := tlA_le i.sz; have q5 := kmem_le i ho; have q6 := kror_le i.ra i.imm hm; (try simp only [List.length_append, List.length_cons, List.length_nil]); omega) <| okE_nil) fun A => RETN hX A rfl rfl rfl h0 rfl rfl rfl rfl (by simp only [oneS, nb, nbL, nbH, kacc0, if_pos h1, if_pos h2, if_pos h3]) rfl)
    (fun h3 A => N hX 18 A rfl (ok_d (by have q0 := hl; have q1 := ho; have q2 := hm; have q3 := hd; have q4 := tlA_le i.sz; have q5 := kmem_le i ho; have q6 := kror_le i.ra i.imm hm; (try simp only [List.length_append, List.length_cons, List.length_nil]); omega) <| ok_d (by have q0 := hl; have q1 := ho; have q2 := hm; have q3 := hd; have q4 := tlA_le i.sz; have q5 := kmem_le i ho; have q6 := kror_le i.ra i.imm hm; (try simp only [List.length_append, List.length_cons, List.length_nil]); omega) <| ok_d (by have q0 := hl; have q1 := ho; have q2 := hm; have q3 := hd; have q4 := tlA_le i.sz; have q5 := kmem_le i ho; have q6 := kror_le i.ra i.imm hm; (try simp only [List.length_append, List.length_cons, List.length_nil]); omega) <| ok_d (by have q0 := hl; have q1 := ho; have q2 := hm; have q3 := hd; have q4 := tlA_le i.sz; have q5 := kmem_le i ho; have q6 := kror_le i.ra i.imm hm; (try simp only [List.length_append, List.length_cons, List.length_nil]); omega) <| ok_d (by have q0 := hl; have q1 := ho; have q2 := hm; have q3 := hd; have q4 := tlA_le i.sz; have q5 := kmem_le i ho; have q6 := kror_le i.ra i.imm hm; (try simp only [List.length_append, List.length_cons, List.length_nil]); omega) <| okE_nil) fun A => RETN hX A rfl rfl rfl h0 rfl rfl rfl rfl (by simp only [oneS, nb, nbL, nbH, kacc0, if_pos h1, if_pos h2, if_neg (ne_true_of_eq_false h3)]) rfl))
   (fun h2 A => N hX 10 A rfl rfl fun A => fork 31 A rfl
    (fun h4 A => N hX 20 A rfl (ok_d (by have q0 := hl; have q1 := ho; have q2 := hm; have q3 := hd; have q4 := tlA_le i.sz; have q5 := kmem_le i ho; have q6 := kror_le i.ra i.imm hm; (try simp only [List.length_append, List.length_cons, List.length_nil]); omega) <| ok_d (by have q0 := hl; have q1 := ho; have q2 := hm; have q3 := hd; have q4 := tlA_le i.sz; have q5 := kmem_le i ho; have q6 := kror_le i.ra i.imm hm; (try simp only [List.length_append, List.length_cons, List.length_nil]); omega) <| ok_d (by have q0 := hl; have q1 := ho; have q2 := hm; have q3 := hd; have q4 := tlA_le i.sz; have q5 := kmem_le i ho; have q6 := kror_le i.ra i.imm hm; (try simp only [List.length_append, List.length_cons, List.length_nil]); omega) <| ok_d (by have q0 := hl; have q1 := ho; have q2 := hm; have q3 := hd; have q4 := tlA_le i.sz; have q5 := kmem_le i ho; have q6 := kror_le i.ra i.imm hm; (try simp only [List.length_append, List.length_cons, List.length_nil]); omega) <| ok_d (by have q0 := hl; have q1 := ho; have q2 := hm; have q3 := hd; have q4 := tlA_le i.sz; have q5 := kmem_le i ho; have q6 := kror_le i.ra i.imm hm; (try simp only [List.length_append, List.length_cons, List.length_nil]); omega) <| okE_nil) fun A => RETN hX A rfl rfl rfl h0 rfl rfl rfl rfl (by simp only [oneS, nb, nbL, nbH, kacc0, if_pos h1, if_neg (ne_true_of_eq_false h2), if_pos h4]) rfl)
    (fun h4 A => N hX 18 A rfl (ok_d (by have q0 := hl; have q1 := ho; have q2 := hm; have q3 := hd; have q4 := tlA_le i.sz; have q5 := kmem_le i ho; have q6 := kror_le i.ra i.imm hm; (try simp only [List.length_append, List.length_cons, List.length_nil]); omega) <| ok_d (by have q0 := hl; have q1 := ho; have q2 := hm; have q3 := hd; have q4 := tlA_le i.sz; have q5 := kmem_le i ho; have q6 := kror_le i.ra i.imm hm; (try simp only [List.length_append, List.length_cons, List.length_nil]); omega) <| ok_d (by have q0 := hl; have q1 := ho; have q2 := hm; have q3 := hd; have q4 := tlA_le i.sz; have q5 := kmem_le i ho; have q6 := kror_le i.ra i.imm hm; (try simp only [List.length_append, List.length_cons, List.length_nil]); omega) <| ok_d (by have q0 := hl; have q1 := ho; have q2 := hm; have q3 := hd; have q4 := tlA_le i.sz; have q5 := kmem_le i ho; have q6 := kror_le i.ra i.imm hm; (try simp only [List.length_append, List.length_cons, List.length_nil]); omega) <| ok_d (by have q0 := hl; have q1 := ho; have q2 := hm; have q3 := hd; have q4 := tlA_le i.sz; have q5 := kmem_le i ho; have q6 := kror_le i.ra i.imm hm; (try simp only [List.length_append, List.length_cons, List.length_nil]); omega) <| okE_nil) fun A => RETN hX A rfl rfl rfl h0 rfl rfl rfl rfl (by simp only [oneS, nb, nbL, nbH, kacc0, if_pos h1, if_neg (ne_true_of_eq_false h2), if_neg (ne_true_of_eq_false h4)]) rfl)))
  (fun h1 A => N hX 17 A rfl rfl fun A => fork 41 A rfl
   (fun h5 A => N hX 7 A rfl rfl fun A => RETN hX A rfl rfl rfl h0 rfl rfl rfl rfl (by simp only [oneS, nb, nbL, nbH, kacc0, if_neg (ne_true_of_eq_false h1), if_pos h5]) rfl)
   (fun h5 A => N hX 13 A rfl rfl fun A => fork 53 A rfl
    (fun h6 A => N hX 15 A rfl (ok_d (by have q0 := hl; have q1 := ho; have q2 := hm; have q3 := hd; have q4 := tlA_le i.sz; have q5 := kmem_le i ho; have q6 := kror_le i.ra i.imm hm; (try simp only [List.length_append, List.length_cons, List.length_nil]); omega) <| ok_d (by have q0 := hl; have q1 := ho; have q2 := hm; have q3 := hd; have q4 := tlA_le i.sz; have q5 := kmem_le i ho; have q6 := kror_le i.ra i.imm hm; (try simp only [List.length_append, List.length_cons, List.length_nil]); omega) <| ok_d (by have q0 := hl; have q1 := ho; have q2 := hm; have q3 := hd; have q4 := tlA_le i.sz; have q5 := kmem_le i ho; have q6 := kror_le i.ra i.imm hm; (try simp only [List.length_append, List.length_cons, List.length_nil]); omega) <| ok_d (by have q0 := hl; have q1 := ho; have q2 := hm; have q3 := hd; have q4 := tlA_le i.sz; have q5 := kmem_le i ho; have q6 := kror_le i.ra i.imm hm; (try simp only [List.length_append, List.length_cons, List.length_nil]); omega) <| ok_d (by have q0 := hl; have q1 := ho; have q2 := hm; have q3 := hd; have q4 := tlA_le i.sz; have q5 := kmem_le i ho; have q6 := kror_le i.ra i.imm hm; (try simp only [List.length_append, List.length_cons, List.length_nil]); omega) <| okE_nil) fun A => RETN hX A rfl rfl rfl h0 rfl rfl rfl rfl (by simp only [oneS, nb, nbL, nbH, kacc0, if_neg (ne_true_of_eq_false h1), if_neg (ne_true_of_eq_false h5), if_pos h6]) rfl)
    (fun h6 A => N hX 9 A rfl rfl fun A => forkE 69 A rfl
     (fun h7 A => N hX 15 A rfl (ok_d (by have q0 := hl; have q1 := ho; have q2 := hm; have q3 := hd; have q4 := tlA_le i.sz; have q5 := kmem_le i ho; have q6 := kror_le i.ra i.imm hm; (try simp only [List.length_append, List.length_cons, List.length_nil]); omega) <| ok_d (by have q0 := hl; have q1 := ho; have q2 := hm; have q3 := hd; have q4 := tlA_le i.sz; have q5 := kmem_le i ho; have q6 := kror_le i.ra i.imm hm; (try simp only [List.length_append, List.length_cons, List.length_nil]); omega) <| ok_d (by have q0 := hl; have q1 := ho; have q2 := hm; have q3 := hd; have q4 := tlA_le i.sz; have q5 := kmem_le i ho; have q6 := kror_le i.ra i.imm hm; (try simp only [List.length_append, List.length_cons, List.length_nil]); omega) <| ok_d (by have q0 := hl; have q1 := ho; have q2 := hm; have q3 := hd; have q4 := tlA_le i.sz; have q5 := kmem_le i ho; have q6 := kror_le i.ra i.imm hm; (try simp only [List.length_append, List.length_cons, List.length_nil]); omega) <| ok_d (by have q0 := hl; have q1 := ho; have q2 := hm; have q3 := hd; have q4 := tlA_le i.sz; have q5 := kmem_le i ho; have q6 := kror_le i.ra i.imm hm; (try simp only [List.length_append, List.length_cons, List.length_nil]); omega) <| okE_nil) fun A => RETN hX A rfl rfl rfl h0 rfl rfl rfl rfl (by simp only [oneS, nb, nbL, nbH, kacc0, if_neg (ne_true_of_eq_false h1), if_neg (ne_true_of_eq_false h5), if_neg (ne_true_of_eq_false h6), if_pos h7]) rfl)
     (fun h7 A => N hX 13 A rfl rfl fun A => fork 81 A rfl
      (fun h8 A => N hX 8 A rfl rfl fun A => fork 90 A rfl
       (fun h9 A => N hX 7 A rfl rfl fun A => RETN hX A rfl rfl rfl h0 rfl rfl rfl rfl (by simp only [oneS, nb, nbL, nbH, kacc0, if_neg (ne_true_of_eq_false h1), if_neg (ne_true_of_eq_false h5), if_neg (ne_true_of_eq_false h6), if_neg (h7), if_pos h8, if_pos h9]) rfl)
       (fun h9 A => N hX 16 A rfl (ok_d (by have q0 := hl; have q1 := ho; have q2 := hm; have q3 := hd; have q4 := tlA_le i.sz; have q5 := kmem_le i ho; have q6 := kror_le i.ra i.imm hm; (try simp only [List.length_append, List.length_cons, List.length_nil]); omega) <| ok_d (by have q0 := hl; have q1 := ho; have q2 := hm; have q3 := hd; have q4 := tlA_le i.sz; have q5 := kmem_le i ho; have q6 := kror_le i.ra i.imm hm; (try simp only [List.length_append, List.length_cons, List.length_nil]); omega) <| ok_d (by have q0 := hl; have q1 := ho; have q2 := hm; have q3 := hd; have q4 := tlA_le i.sz; have q5 := kmem_le i ho; have q6 := kror_le i.ra i.imm hm; (try simp only [List.length_append, List.length_cons, List.length_nil]); omega) <| ok_d (by have q0 := hl; have q1 := ho; have q2 := hm; have q3 := hd; have q4 := tlA_le i.sz; have q5 := kmem_le i ho; have q6 := kror_le i.ra i.imm hm; (try simp only [List.length_append, List.length_cons, List.length_nil]); omega) <| okE_nil) fun A => CALL1 [] (kror_ i.ra i.imm (by have q0 := hl; have q1 := ho; have q2 := hm; have q3 := hd; have q4 := tlA_le i.sz; have q5 := kmem_le i ho; have q6 := kror_le i.ra i.imm hm; (try simp only [List.length_append, List.length_cons, List.length_nil]); omega)) A rfl rfl rfl rfl rfl rfl rfl fun A => N hX 5 A rfl (ok_d (by have q0 := hl; have q1 := ho; have q2 := hm; have q3 := hd; have q4 := tlA_le i.sz; have q5 := kmem_le i ho; have q6 := kror_le i.ra i.imm hm; (try simp only [List.length_append, List.length_cons, List.length_nil]); omega) <| okE_nil) fun A => RETN hX A rfl rfl rfl h0 rfl rfl rfl rfl (by simp only [oneS, nb, nbL, nbH, kacc0, if_neg (ne_true_of_eq_false h1), if_neg (ne_true_of_eq_false h5), if_neg (ne_true_of_eq_false h6), if_neg (h7), if_pos h8, if_neg (ne_true_of_eq_false h9)]) rfl))
      (fun h8 A => N hX 14 A rfl rfl fun A => fork 104 A rfl
       (fun h10 A => N hX 7 A rfl rfl fun A => RETN hX A rfl rfl rfl h0 rfl rfl rfl rfl (by simp only [oneS, nb, nbL, nbH, kacc0, if_neg (ne_true_of_eq_false h1), if_neg (ne_true_of_eq_false h5), if_neg (ne_true_of_eq_false h6), if_neg (h7), if_neg (ne_true_of_eq_false h8), if_pos h10]) rfl)
       (fun h10 A => N hX 13 A rfl rfl fun A => fork 113 A rfl
        (fun h11 A => N hX 8 A rfl rfl fun A => fork 122 A rfl
         (fun h12 A => N hX 7 A rfl rfl fun A => RETN hX A rfl rfl rfl h0 rfl rfl rfl rfl (by simp only [oneS, nb, nbL, nbH, kacc0, if_neg (ne_true_of_eq_false h1), if_neg (ne_true_of_eq_false h5), if_neg (ne_true_of_eq_false h6), if_neg (h7), if_neg (ne_true_of_eq_false h8), if_neg (ne_true_of_eq_false h10), if_pos h11, if_pos h12]) rfl)
         (fun h12 A => N hX 17 A rfl (ok_d (by have q0 := hl; have q1 := ho; have q2 := hm; have q3 := hd; have q4 := tlA_le i.sz; have q5 := kmem_le i ho; have q6 := kror_le i.ra i.imm hm; (try simp only [List.length_append, List.length_cons, List.length_nil]); omega) <| ok_d (by have q0 := hl; have q1 := ho; have q2 := hm; have q3 := hd; have q4 := tlA_le i.sz; have q5 := kmem_le i ho; have q6 := kror_le i.ra i.imm hm; (try simp only [List.length_append, List.length_cons, List.length_nil]); omega) <| ok_d (by have q0 := hl; have q1 := ho; have q2 := hm; have q3 := hd; have q4 := tlA_le i.sz; have q5 := kmem_le i ho; have q6 := kror_le i.ra i.imm hm; (try simp only [List.length_append, List.length_cons, List.length_nil]); omega) <| ok_d (by have q0 := hl; have q1 := ho; have q2 := hm; have q3 := hd; have q4 := tlA_le i.sz; have q5 := kmem_le i ho; have q6 := kror_le i.ra i.imm hm; (try simp only [List.length_append, List.length_cons, List.length_nil]); omega) <| ok_d (by have q0 := hl; have q1 := ho; have q2 := hm; have q3 := hd; have q4 := tlA_le i.sz; have q5 := kmem_le i ho; have q6 := kror_le i.ra i.imm hm; (try simp only [List.length_append, List.length_cons, List.length_nil]); omega) <| okE_nil) fun A => RETN hX A rfl rfl rfl h0 rfl rfl rfl rfl (by simp only [oneS, nb, nbL, nbH, kacc0, if_neg (ne_true_of_eq_false h1), if_neg (ne_true_of_eq_false h5), if_neg (ne_true_of_eq_false h6), if_neg (h7), if_neg (ne_true_of_eq_false h8), if_neg (ne_true_of_eq_false h10), if_pos h11, if_neg (ne_true_of_eq_false h12)]) rfl))
        (fun h11 A => N hX 9 A rfl rfl fun A => forkE 131 A rfl
         (fun h13 A => N hX 13 A rfl rfl fun A => fork 136 A rfl
          (fun h14 A => N hX 20 A rfl (ok_d (by have q0 := hl; have q1 := ho; have q2 := hm; have q3 := hd; have q4 := tlA_le i.sz; have q5 := kmem_le i ho; have q6 := kror_le i.ra i.imm hm; (try simp only [List.length_append, List.length_cons, List.length_nil]); omega) <| ok_d (by have q0 := hl; have q1 := ho; have q2 := hm; have q3 := hd; have q4 := tlA_le i.sz; have q5 := kmem_le i ho; have q6 := kror_le i.ra i.imm hm; (try simp only [List.length_append, List.length_cons, List.length_nil]); omega) <| ok_d (by have q0 := hl; have q1 := ho; have q2 := hm; have q3 := hd; have q4 := tlA_le i.sz; have q5 := kmem_le i ho; have q6 := kror_le i.ra i.imm hm; (try simp only [List.length_append, List.length_cons, List.length_nil]); omega) <| ok_d (by have q0 := hl; have q1 := ho; have q2 := hm; have q3 := hd; have q4 := tlA_le i.sz; have q5 := kmem_le i ho; have q6 := kror_le i.ra i.imm hm; (try simp only [List.length_append, List.length_cons, List.length_nil]); omega) <| ok_d (by have q0 := hl; have q1 := ho; have q2 := hm; have q3 := hd; have q4 := tlA_le i.sz; have q5 := kmem_le i ho; have q6 := kror_le i.ra i.imm hm; (try simp only [List.length_append, List.length_cons, List.length_nil]); omega) <| okE_nil) fun A => RETN hX A rfl rfl rfl h0 rfl rfl rfl rfl (by simp only [oneS, nb, nbL, nbH, kacc0, if_neg (ne_true_of_eq_false h1), if_neg (ne_true_of_eq_false h5), if_neg (ne_true_of_eq_false h6), if_neg (h7), if_neg (ne_true_of_eq_false h8), if_neg (ne_true_of_eq_false h10), if_neg (ne_true_of_eq_false h11), if_pos h13, if_pos h14]) rfl)
          (fun h14 A => N hX 18 A rfl (ok_d (by have q0 := hl; have q1 := ho; have q2 := hm; have q3 := hd; have q4 := tlA_le i.sz; have q5 := kmem_le i ho; have q6 := kror_le i.ra i.imm hm; (try simp only [List.length_append, List.length_cons, List.length_nil]); omega) <| ok_d (by have q0 := hl; have q1 := ho; have q2 := hm; have q3 := hd; have q4 := tlA_le i.sz; have q5 := kmem_le i ho; have q6 := kror_le i.ra i.imm hm; (try simp only [List.length_append, List.length_cons, List.length_nil]); omega) <| ok_d (by have q0 := hl; have q1 := ho; have q2 := hm; have q3 := hd; have q4 := tlA_le i.sz; have q5 := kmem_le i ho; have q6 := kror_le i.ra i.imm hm; (try simp only [List.length_append, List.length_cons, List.length_nil]); omega) <| ok_d (by have q0 := hl; have q1 := ho; have q2 := hm; have q3 := hd; have q4 := tlA_le i.sz; have q5 := kmem_le i ho; have q6 := kror_le i.ra i.imm hm; (try simp only [List.length_append, List.length_cons, List.length_nil]); omega) <| ok_d (by have q0 := hl; have q1 := ho; have q2 := hm; have q3 := hd; have q4 := tlA_le i.sz; have q5 := kmem_le i ho; have q6 := kror_le i.ra i.imm hm; (try simp only [List.length_append, List.length_cons, List.length_nil]); omega) <| okE_nil) fun A => RETN hX A rfl rfl rfl h0 rfl rfl rfl rfl (by simp only [oneS, nb, nbL, nbH, kacc0, if_neg (ne_true_of_eq_false h1), if_neg (ne_true_of_eq_false h5), if_neg (ne_true_of_eq_false h6), if_neg (h7), if_neg (ne_true_of_eq_false h8), if_neg (ne_true_of_eq_false h10), if_neg (ne_true_of_eq_false h11), if_pos h13, if_neg (ne_true_of_eq_false h14)]) rfl))
         (fun h13 A => N hX 12 A rfl rfl fun A => CALL1 [] (krmw_ i ds az (tlA i.sz) (kmem0 i) (by have q0 := hl; have q1 := ho; have q2 := hm; have q3 := hd; have q4 := tlA_le i.sz; have q5 := kmem_le i ho; have q6 := kror_le i.ra i.imm hm; (try simp only [List.length_append, List.length_cons, List.length_nil]); omega)) A rfl rfl rfl rfl rfl rfl rfl fun A => N hX 4 A rfl rfl fun A => RETN hX A rfl rfl rfl h0 rfl rfl rfl rfl (by simp only [oneS, nb, nbL, nbH, kacc0, if_neg (ne_true_of_eq_false h1), if_neg (ne_true_of_eq_false h5), if_neg (ne_true_of_eq_false h6), if_neg (h7), if_neg (ne_true_of_eq_false h8), if_neg (ne_true_of_eq_false h10), if_neg (ne_true_of_eq_false h11), if_neg (h13)]) rfl))))))))
def ktxt0 (i : In) (lb : List UInt8) : List UInt8 := if i.op = 1 then (([77, 79, 86, 32] ++ (nameA i.dst)) ++ [44]) ++ ([35] ++ Lib.itoa i.imm) else if i.op = 2 then (([77, 79, 86, 32] ++ (nameA i.dst)) ++ [44]) ++ (nameA i.ra) else if i.op = 3 then if (((3 : Int) == 2) && (decide (i.rb < 0))) = true then (((((((kfnT i.fn) ++ [105]) ++ [32]) ++ (nameA i.dst)) ++ [44]) ++ (nameA i.ra)) ++ [44]) ++ (kror0 i.rb i.imm) else ((((((kfnT i.fn) ++ [32]) ++ (nameA i.dst)) ++ [44]) ++ (nameA i.ra)) ++ [44]) ++ (kror0 i.rb i.imm) else if i.op = 9 then ((((kbr0 i.zero) ++ [32]) ++ (nameA i.ra)) ++ [44]) ++ lb else if i.op = 7 then kfen0 i else if i.op = 8 then kfen0 i else kacc0 i (nameA i.dst) (nameA i.ra)
theorem ktxt_ (i : In) (lb : List UInt8) (hf : i.op = 3 → 0 ≤ i.fn ∧ i.fn < 6) (hl : i.op ≠ 1 → i.op ≠ 2 → i.op ≠ 3 → i.op ≠ 9 → i.op ≠ 7 → i.op ≠ 8 → 0 ≤ i.loc ∧ i.loc < 3) (ho : -9223372036854775808 ≤ i.off ∧ i.off ≤ 9223372036854775807) (hm : -9223372036854775808 ≤ i.imm ∧ i.imm ≤ 9223372036854775807) (hb : lb.length ≤ 100000) : Fn Tryz.prog 39 [.int .i64 3, .agg (inQ9 i), .str lb] [] (Rt (.str (ktxt0 i lb)) []) :=
 enterM (n := 125) (by kernel_rfl) Tryz.func39 rfl rfl rfl fun G w a h0 A => N hX 11 A rfl rfl fun A => CALL1 [] (rname_a i.dst) A rfl rfl rfl rfl rfl rfl rfl fun A => N hX 8 A rfl rfl fun A => CALL1 [] (rname_a i.ra) A rfl rfl rfl rfl rfl rfl rfl fun A => N hX 17 A rfl rfl fun A => forkE 20 A rfl
  (fun h1 A => N hX 8 A rfl rfl fun A => forkE 23 A rfl
   (fun h2 A => absurd h2 (by decide))
   (fun h2 A => N hX 11 A rfl (ok_d (by have q0 := ho; have q1 := hm; have q2 := hb; have q3 := nameA_le i.dst; have q4 := nameA_le i.ra; have q5 := itoa_le i.imm hm; have q6 := kror_le i.rb i.imm hm; (try simp only [List.length_append, List.length_cons, List.length_nil]); omega) <| ok_d (by have q0 := ho; have q1 := hm; have q2 := hb; have q3 := nameA_le i.dst; have q4 := nameA_le i.ra; have q5 := itoa_le i.imm hm; have q6 := kror_le i.rb i.imm hm; (try simp only [List.length_append, List.length_cons, List.length_nil]); omega) <| okE_nil) fun A => CALL1 [] (knum_ i.imm (by have q0 := ho; have q1 := hm; have q2 := hb; have q3 := nameA_le i.dst; have q4 := nameA_le i.ra; have q5 := itoa_le i.imm hm; have q6 := kror_le i.rb i.imm hm; (try simp only [List.length_append, List.length_cons, List.length_nil]); omega)) A rfl rfl rfl rfl rfl rfl rfl fun A => N hX 5 A rfl (ok_d (by have q0 := ho; have q1 := hm; have q2 := hb; have q3 := nameA_le i.dst; have q4 := nameA_le i.ra; have q5 := itoa_le i.imm hm; have q6 := kror_le i.rb i.imm hm; (try simp only [List.length_append, List.length_cons, List.length_nil]); omega) <| okE_nil) fun A => RETN hX A rfl rfl rfl h0 rfl rfl rfl rfl (by simp only [oneS, nb, nbL, nbH, ktxt0, if_pos h1, if_neg (h2)]) rfl))
  (fun h1 A => N hX 7 A rfl rfl fun A => forkE 39 A rfl
   (fun h3 A => N hX 8 A rfl rfl fun A => forkE 42 A rfl
    (fun h4 A => absurd h4 (by decide))
    (fun h4 A => N hX 14 A rfl (ok_d (by have q0 := ho; have q1 := hm; have q2 := hb; have q3 := nameA_le i.dst; have q4 := nameA_le i.ra; have q5 := itoa_le i.imm hm; have q6 := kror_le i.rb i.imm hm; (try simp only [List.length_append, List.length_cons, List.length_nil]); omega) <| ok_d (by have q0 := ho; have q1 := hm; have q2 := hb; have q3 := nameA_le i.dst; have q4 := nameA_le i.ra; have q5 := itoa_le i.imm hm; have q6 := kror_le i.rb i.imm hm; (try simp only [List.length_append, List.length_cons, List.length_nil]); omega) <| ok_d (by have q0 := ho; have q1 := hm; have q2 := hb; have q3 := nameA_le i.dst; have q4 := nameA_le i.ra; have q5 := itoa_le i.imm hm; have q6 := kror_le i.rb i.imm hm; (try simp only [List.length_append, List.length_cons, List.length_nil]); omega) <| okE_nil) fun A => RETN hX A rfl rfl rfl h0 rfl rfl rfl rfl (by simp only [oneS, nb, nbL, nbH, ktxt0, if_neg (h1), if_pos h3, if_neg (h4)]) rfl))
   (fun h3 A => N hX 7 A rfl rfl fun A => forkE 53 A rfl
    (fun h5 A => N hX 6 A rfl rfl fun A => CALL1 [] (kfn2_ i.fn (hf h5)) A rfl rfl rfl rfl rfl rfl rfl fun A => N hX 10 A rfl rfl fun A => forkE 60 A rfl
     (fun h6 A => absurd h6 (by decide))
     (fun h6 A => N hX 15 A rfl rfl fun A => fork 84 A rfl
      (fun h7 A => N hX 8 A rfl (ok_d (by have q0 := ho; have q1 := hm; have q2 := hb; have q3 := nameA_le i.dst; have q4 := nameA_le i.ra; have q5 := itoa_le i.imm hm; have q6 := kror_le i.rb i.imm hm; have q7 := kfnT_le i.fn (hf h5); (try simp only [List.length_append, List.length_cons, List.length_nil]); omega) <| okE_nil) fun A => N hX 14 A rfl (ok_d (by have q0 := ho; have q1 := hm; have q2 := hb; have q3 := nameA_le i.dst; have q4 := nameA_le i.ra; have q5 := itoa_le i.imm hm; have q6 := kror_le i.rb i.imm hm; have q7 := kfnT_le i.fn (hf h5); (try simp only [List.length_append, List.length_cons, List.length_nil]); omega) <| ok_d (by have q0 := ho; have q1 := hm; have q2 := hb; have q3 := nameA_le i.dst; have q4 := nameA_le i.ra; have q5 := itoa_le i.imm hm; have q6 := kror_le i.rb i.imm hm; have q7 := kfnT_le i.fn (hf h5); (try simp only [List.length_append, List.length_cons, List.length_nil]); omega) <| ok_d (by have q0 := ho; have q1 := hm; have q2 := hb; have q3 := nameA_le i.dst; have q4 := nameA_le i.ra; have q5 := itoa_le i.imm hm; have q6 := kror_le i.rb i.imm hm; have q7 := kfnT_le i.fn (hf h5); (try simp only [List.length_append, List.length_cons, List.length_nil]); omega) <| ok_d (by have q0 := ho; have q1 := hm; have q2 := hb; have q3 := nameA_le i.dst; have q4 := nameA_le i.ra; have q5 := itoa_le i.imm hm; have q6 := kror_le i.rb i.imm hm; have q7 := kfnT_le i.fn (hf h5); (try simp only [List.length_append, List.length_cons, List.length_nil]); omega) <| ok_d (by have q0 := ho; have q1 := hm; have q2 := hb; have q3 := nameA_le i.dst; have q4 := nameA_le i.ra; have q5 := itoa_le i.imm hm; have q6 := kror_le i.rb i.imm hm; have q7 := kfnT_le i.fn (hf h5); (try simp only [List.length_append, List.length_cons, List.length_nil]); omega) <| okE_nil) fun A => CALL1 [] (kror_ i.rb i.imm (by have q0 := ho; have q1 := hm; have q2 := hb; have q3 := nameA_le i.dst; have q4 := nameA_le i.ra; have q5 := itoa_le i.imm hm; have q6 := kror_le i.rb i.imm hm; have q7 := kfnT_le i.fn (hf h5); (try simp only [List.length_append, List.length_cons, List.length_nil]); omega)) A rfl rfl rfl rfl rfl rfl rfl fun A => N hX 5 A rfl (ok_d (by have q0 := ho; have q1 := hm; have q2 := hb; have q3 := nameA_le i.dst; have q4 := nameA_le i.ra; have q5 := itoa_le i.imm hm; have q6 := kror_le i.rb i.imm hm; have q7 := kfnT_le i.fn (hf h5); (try simp only [List.length_append, List.length_cons, List.length_nil]); omega) <| okE_nil) fun A => RETN hX A rfl rfl rfl h0 rfl rfl rfl rfl (by simp only [oneS, nb, nbL, nbH, ktxt0, if_neg (h1), if_neg (h3), if_pos h5, if_neg (h6), if_pos h7]) rfl)
      (fun h7 A => N hX 18 A rfl (ok_d (by have q0 := ho; have q1 := hm; have q2 := hb; have q3 := nameA_le i.dst; have q4 := nameA_le i.ra; have q5 := itoa_le i.imm hm; have q6 := kror_le i.rb i.imm hm; have q7 := kfnT_le i.fn (hf h5); (try simp only [List.length_append, List.length_cons, List.length_nil]); omega) <| ok_d (by have q0 := ho; have q1 := hm; have q2 := hb; have q3 := nameA_le i.dst; have q4 := nameA_le i.ra; have q5 := itoa_le i.imm hm; have q6 := kror_le i.rb i.imm hm; have q7 := kfnT_le i.fn (hf h5); (try simp only [List.length_append, List.length_cons, List.length_nil]); omega) <| ok_d (by have q0 := ho; have q1 := hm; have q2 := hb; have q3 := nameA_le i.dst; have q4 := nameA_le i.ra; have q5 := itoa_le i.imm hm; have q6 := kror_le i.rb i.imm hm; have q7 := kfnT_le i.fn (hf h5); (try simp only [List.length_append, List.length_cons, List.length_nil]); omega) <| ok_d (by have q0 := ho; have q1 := hm; have q2 := hb; have q3 := nameA_le i.dst; have q4 := nameA_le i.ra; have q5 := itoa_le i.imm hm; have q6 := kror_le i.rb i.imm hm; have q7 := kfnT_le i.fn (hf h5); (try simp only [List.length_append, List.length_cons, List.length_nil]); omega) <| ok_d (by have q0 := ho; have q1 := hm; have q2 := hb; have q3 := nameA_le i.dst; have q4 := nameA_le i.ra; have q5 := itoa_le i.imm hm; have q6 := kror_le i.rb i.imm hm; have q7 := kfnT_le i.fn (hf h5); (try simp only [List.length_append, List.length_cons, List.length_nil]); omega) <| okE_nil) fun A => CALL1 [] (kror_ i.rb i.imm (by have q0 := ho; have q1 := hm; have q2 := hb; have q3 := nameA_le i.dst; have q4 := nameA_le i.ra; have q5 := itoa_le i.imm hm; have q6 := kror_le i.rb i.imm hm; have q7 := kfnT_le i.fn (hf h5); (try simp only [List.length_append, List.length_cons, List.length_nil]); omega)) A rfl rfl rfl rfl rfl rfl rfl fun A => N hX 5 A rfl (ok_d (by have q0 := ho; have q1 := hm; have q2 := hb; have q3 := nameA_le i.dst; have q4 := nameA_le i.ra; have q5 := itoa_le i.imm hm; have q6 := kror_le i.rb i.imm hm; have q7 := kfnT_le i.fn (hf h5); (try simp only [List.length_append, List.length_cons, List.length_nil]); omega) <| okE_nil) fun A => RETN hX A rfl rfl rfl h0 rfl rfl rfl rfl (by simp only [oneS, nb, nbL, nbH, ktxt0, if_neg (h1), if_neg (h3), if_pos h5, if_neg (h6), if_neg (ne_true_of_eq_false h7)]) rfl)))
    (fun h5 A => N hX 7 A rfl rfl fun A => forkE 102 A rfl
     (fun h8 A => N hX 6 A rfl rfl fun A => CALL1 [] (kbr_ i.zero) A rfl rfl rfl rfl rfl rfl rfl fun A => N hX 10 A rfl (ok_d (by have qb : (kbr0 i.zero).length ≤ 4 := (by cases i.zero <;> decide); have q0 := ho; have q2 := hb; have q4 := nameA_le i.ra; (try simp only [List.length_append, List.length_cons, List.length_nil]); omega) <| ok_d (by have qb : (kbr0 i.zero).length ≤ 4 := (by cases i.zero <;> decide); have q0 := ho; have q2 := hb; have q4 := nameA_le i.ra; (try simp only [List.length_append, List.length_cons, List.length_nil]); omega) <| ok_d (by have qb : (kbr0 i.zero).length ≤ 4 := (by cases i.zero <;> decide); have q0 := ho; have q2 := hb; have q4 := nameA_le i.ra; (try simp only [List.length_append, List.length_cons, List.length_nil]); omega) <| ok_d (by have qb : (kbr0 i.zero).length ≤ 4 := (by cases i.zero <;> decide); have q0 := ho; have q2 := hb; have q4 := nameA_le i.ra; (try simp only [List.length_append, List.length_cons, List.length_nil]); omega) <| okE_nil) fun A => RETN hX A rfl rfl rfl h0 rfl rfl rfl rfl (by simp only [oneS, nb, nbL, nbH, ktxt0, if_neg (h1), if_neg (h3), if_neg (h5), if_pos h8]) rfl)
     (fun h8 A => N hX 8 A rfl rfl fun A => forkE 114 A rfl
      (fun h9 A => N hX 8 A rfl rfl fun A => CALL1 [] (kfen_ i) A rfl rfl rfl rfl rfl rfl rfl fun A => N hX 4 A rfl rfl fun A => RETN hX A rfl rfl rfl h0 rfl rfl rfl rfl (by simp only [oneS, nb, nbL, nbH, ktxt0, if_neg (h1), if_neg (h3), if_neg (h5), if_neg (h8), if_pos h9]) rfl)
      (fun h9 A => N hX 6 A rfl rfl fun A => forkE 114 A rfl
       (fun h10 A => N hX 5 A rfl rfl fun A => CALL1 [] (kfen_ i) A rfl rfl rfl rfl rfl rfl rfl fun A => N hX 4 A rfl rfl fun A => RETN hX A rfl rfl rfl h0 rfl rfl rfl rfl (by simp only [oneS, nb, nbL, nbH, ktxt0, if_neg (h1), if_neg (h3), if_neg (h5), if_neg (h8), if_neg (h9), if_pos h10]) rfl)
       (fun h10 A => N hX 10 A rfl rfl fun A => CALL1 [] (kacc_ i (nameA i.dst) (nameA i.ra) (hl h1 h3 h5 h8 h9 h10) (by have q0 := ho; have q1 := hm; have q2 := hb; have q3 := nameA_le i.dst; have q4 := nameA_le i.ra; have q5 := itoa_le i.imm hm; have q6 := kror_le i.rb i.imm hm; (try simp only [List.length_append, List.length_cons, List.length_nil]); omega) (by have q0 := ho; have q1 := hm; have q2 := hb; have q3 := nameA_le i.dst; have q4 := nameA_le i.ra; have q5 := itoa_le i.imm hm; have q6 := kror_le i.rb i.imm hm; (try simp only [List.length_append, List.length_cons, List.length_nil]); omega) (by have q0 := ho; have q1 := hm; have q2 := hb; have q3 := nameA_le i.dst; have q4 := nameA_le i.ra; have q5 := itoa_le i.imm hm; have q6 := kror_le i.rb i.imm hm; (try simp only [List.length_append, List.length_cons, List.length_nil]); omega)) A rfl rfl rfl rfl rfl rfl rfl fun A => N hX 4 A rfl rfl fun A => RETN hX A rfl rfl rfl h0 rfl rfl rfl rfl (by simp only [oneS, nb, nbL, nbH, ktxt0, if_neg (h1), if_neg (h3), if_neg (h5), if_neg (h8), if_neg (h9), if_neg (h10)]) rfl))))))
def prA (i : In) (lb : List UInt8) : List UInt8 × Int := if i.op = 9 then (if Old.rightR (toO ({ i with to_ := 1 } : In)) 0 1 = 0 then (if ktxt0 i lb = [] then ([], 36) else if oneN lb = true then (ktxt0 i lb, 0) else ([], 37)) else ([], 34)) else (if Old.rightR (toO i) 0 1 = 0 then (if ktxt0 i lb = [] then ([], 36) else (ktxt0 i lb, 0)) else ([], 34))
theorem rprinta_ (i : In) (lb : List UInt8) (ho : -9223372036854775808 ≤ i.off ∧ i.off ≤ 9223372036854775807) (hm : -9223372036854775808 ≤ i.imm ∧ i.imm ≤ 9223372036854775807) (hb : lb.length ≤ 100000) : Fn Tryz.prog 13 [.int .i64 3, .agg (inQ9 i), .str lb] [] (Rt (.tup [.str ((prA i lb).1), .int .i64 ((prA i lb).2)]) []) :=
 enterM (n := 33) (by kernel_rfl) Tryz.func13 rfl rfl rfl fun G w a h0 A => N hX 22 A rfl rfl fun A => forkE 13 A rfl
  (fun h1 A => N hX 10 A rfl rfl fun A => CALL1 [] (fn_asX (rright_ ({ i with to_ := 1 } : In) 0 1) (as_int (rright_o _ _ _))) A rfl rfl rfl rfl rfl rfl rfl fun A => N hX 3 A rfl rfl fun A => forkN 17 A rfl
   (fun h2 A => N hX 8 A rfl rfl fun A => RETN hX A rfl rfl rfl h0 rfl rfl rfl rfl (by unfold prA; rw [if_pos h1, if_neg h2]; rfl) rfl)
   (fun h2 A => N hX 8 A rfl rfl fun A => CALL1 [] (ktxt_ i lb (fun z => by omega) (fun _ _ _ z _ _ => absurd h1 z) ho hm hb) A rfl rfl rfl rfl rfl rfl rfl fun A => N hX 10 A rfl rfl fun A => forkE 23 A rfl
    (fun h3 A => N hX 8 A rfl rfl fun A => RETN hX A rfl rfl rfl h0 rfl rfl rfl rfl (by unfold prA; rw [if_pos h1, if_pos h2, if_pos h3]; rfl) rfl)
    (fun h3 A => N hX 10 A rfl rfl fun A => forkE 27 A rfl
     (fun h4 A => N hX 1 A rfl rfl fun A => CALL1 [] (rone_ lb) A rfl rfl rfl rfl rfl rfl rfl fun A => N hX 4 A rfl rfl fun A => fork 31 A rfl
      (fun h5 A => N hX 8 A rfl rfl fun A => RETN hX A rfl rfl rfl h0 rfl rfl rfl rfl (by unfold prA; rw [if_pos h1, if_pos h2, if_neg h3, if_neg (by have z := h5; revert z; cases oneN lb <;> decide)]; rfl) rfl)
      (fun h5 A => N hX 11 A rfl rfl fun A => RETN hX A rfl rfl rfl h0 rfl rfl rfl rfl (by unfold prA; rw [if_pos h1, if_pos h2, if_neg h3, if_pos (by have z := h5; revert z; cases oneN lb <;> decide)]; rfl) rfl))
     (fun h4 A => N hX 17 A rfl rfl fun A => RETN hX A rfl rfl rfl h0 rfl rfl rfl rfl (absurd h1 h4) rfl))))
  (fun h1 A => N hX 7 A rfl rfl fun A => CALL1 [] (fn_asX (rright_ i 0 1) (as_int (rright_o _ _ _))) A rfl rfl rfl rfl rfl rfl rfl fun A => N hX 3 A rfl rfl fun A => forkN 17 A rfl
   (fun h6 A => N hX 8 A rfl rfl fun A => RETN hX A rfl rfl rfl h0 rfl rfl rfl rfl (by unfold prA; rw [if_neg h1, if_neg h6]; rfl) rfl)
   (fun h6 A => N hX 8 A rfl rfl fun A => CALL1 [] (ktxt_ i lb (rightO_fn h6) (rightO_loc h6) ho hm hb) A rfl rfl rfl rfl rfl rfl rfl fun A => N hX 10 A rfl rfl fun A => forkE 23 A rfl
    (fun h7 A => N hX 8 A rfl rfl fun A => RETN hX A rfl rfl rfl h0 rfl rfl rfl rfl (by unfold prA; rw [if_neg h1, if_pos h6, if_pos h7]; rfl) rfl)
    (fun h7 A => N hX 10 A rfl rfl fun A => forkE 27 A rfl
     (fun h8 A => N hX 1 A rfl rfl fun A => CALL1 [] (rone_ lb) A rfl rfl rfl rfl rfl rfl rfl fun A => N hX 4 A rfl rfl fun A => fork 31 A rfl
      (fun h9 A => N hX 8 A rfl rfl fun A => RETN hX A rfl rfl rfl h0 rfl rfl rfl rfl (absurd h8 h1) rfl)
      (fun h9 A => N hX 11 A rfl rfl fun A => RETN hX A rfl rfl rfl h0 rfl rfl rfl rfl (absurd h8 h1) rfl))
     (fun h8 A => N hX 17 A rfl rfl fun A => RETN hX A rfl rfl rfl h0 rfl rfl rfl rfl (by unfold prA; rw [if_neg h1, if_pos h6, if_neg h7]; rfl) rfl))))
end Go.Proofs.YtedlaclfhgneeabGreatDoor
namespace Go.Proofs.YtedlaclfhgneeabGreatDoor
open Go.Shelf Go.RowKit
set_option linter.unusedVariables false
def laysGrow_ren : Go.Shelf.Ren := ⟨fun | 4 => 133 | n => n, fun | 22 => 64 | 25 => 128 | n => n, fun | n => n⟩
theorem laysGrow : Go.Proofs.Lays8.n4 Tryz.prog laysGrow_ren := {
  mixed := by kernel_rfl
  f4 := ⟨"slices.Grow[[]belated/lang.Row,belated/lang.Row]", by decide, Tryz.func133.trans (congrArg some (by kernel_rfl))⟩
  t0 := Tryz.underlying0
  a0 := Tryz.isAgg0
  z0 := Tryz.sizeOf0
  v0 := Tryz.zeroValue0
  t3 := Tryz.underlying3
  a3 := Tryz.isAgg3
  z3 := Tryz.sizeOf3
  v3 := Tryz.zeroValue3
  t4 := Tryz.underlying4
  a4 := Tryz.isAgg4
  z4 := Tryz.sizeOf4
  v4 := Tryz.zeroValue4
  t9 := Tryz.underlying9
  a9 := Tryz.isAgg9
  z9 := Tryz.sizeOf9
  v9 := Tryz.zeroValue9
  t20 := Tryz.underlying20
  a20 := Tryz.isAgg20
  z20 := Tryz.sizeOf20
  v20 := Tryz.zeroValue20
  t22 := Tryz.underlying64
  a22 := Tryz.isAgg64
  z22 := Tryz.sizeOf64
  v22 := Tryz.zeroValue64 }
theorem rowInfo : ∃ ti z, Tryz.prog.info? 128 = some ti ∧ ti.zero = some z ∧ z.cells.size = 20 ∧ ti.size = 20 ∧ ti.bytes ≤ 100000 := by
  have h : (Tryz.prog.info? 128).map (fun ti => (ti.zero.map (fun z => z.cells.size), ti.size, Nat.ble ti.bytes 100000)) = some (some 20, 20, true) := by kernel_rfl
  cases e : Tryz.prog.info? 128 with
  | none => rw [e] at h; cases h
  | some ti =>
    rw [e] at h
    simp only [Option.map_some, Option.some.injEq, Prod.mk.injEq] at h
    obtain ⟨h1, h2, h3⟩ := h
    cases ez : ti.zero with
    | none => rw [ez] at h1; cases h1
    | some z =>
      rw [ez] at h1
      simp only [Option.map_some, Option.some.injEq] at h1
      exact ⟨ti, z, rfl, ez, h1, h2, Nat.le_of_ble_eq_true h3⟩
theorem grow_ (k : Nat) (h0 : 0 < k) (hk : k ≤ 1000000) : FnR Tryz.prog 133 [.sla none 0 0, .int .i64 k] [] (fun x w w' => ∃ (L : List Rw) (b cp : Nat), x = .sla (some ⟨b, 0, none⟩) 0 cp ∧ L = [] ∧ w.heap.size ≤ b ∧ Given 128 20 0 (fun zz => rwc (L.getD zz Rw.z)) b cp w') := by
  refine ⟨by kernel_rfl, fun G w vs hM hv => ?_⟩
  have hv' : some [Value.slice none 0 0, .int .i64 k] = some vs := hv
  cases hv'
  obtain ⟨ti, z, e1, e2, e3, e4, e5⟩ := rowInfo
  have hc := Any8.slices_Grow_grow laysGrow ti z e1 e2 (by omega) none 0 0 k [] w (Nat.le_refl _) (by omega) (by
    have : (0 + k) * ti.bytes ≤ 1000000 * 100000 := Nat.mul_le_mul (by omega) e5
    omega) (by omega) (by simp) (fun _ => rfl) (fun a ha => by cases ha)
  refine hc.mono ?_
  rintro e w' ⟨rfl, rfl⟩
  have hge := grownCap_ge w (0 + k) 0 128
  refine ⟨.sla (some ⟨w.heap.size, 0, none⟩) 0 (grownCap w (0 + k) 0 128), _, rfl, rfl, ((Grow.refl w).drew).alloc _, [], w.heap.size, _, rfl, rfl, Nat.le_refl _, fun k => ⟨_, rfl, rfl⟩, [], rfl, ?_⟩
  refine World.ownsRow_made w.drew _ _ (Nat.zero_le _) (grownCap_le_maxLen w (0 + k) 0 128 (by unfold maxLen; omega)) ?_
  show (([] : List Value).toArray ++ Builtin.zeroCells z.cells (0 + k - 0) ++ Builtin.zeroCells z.cells (grownCap w (0 + k) 0 128 - (0 + k))).size = _
  simp only [Array.size_append, List.size_toArray, List.length_nil, size_zeroCells, e3]
  omega
end Go.Proofs.YtedlaclfhgneeabGreatDoor
namespace Go.Proofs.YtedlaclfhgneeabGreatDoor
open Go.RowKit
set_option linter.unusedVariables false
set_option linter.unusedSimpArgs false
set_option maxRecDepth 100000
set_option maxHeartbeats 2000000
set_option simprocs false
section
variable {P : Program} {n : Nat} {ks : List Nat} {G0 : Gr} {w0 : World} {T : List (Nat × SV)} {H : Hp} {G : Gr} {a : Act} {w w' : World} {Q : Exit → Act → World → Prop} {K : List Fr} {ops : Array Oper} {o : Oper} {rest : List Oper} {c : Code}
theorem RND {q : Nat} (h : Goal P Q (.lp (Code.rounds P c (wpK P Q K) q) :: K) (.code c) a w) : Code.rounds P c (wpK P Q K) (q + 1) a w := h
theorem UNR (q : Nat) (h : Code.rounds P c (wpK P Q K) q a w) : Goal P Q K (.code (.loop c)) a w := wp_loop_rounds q h
theorem CALLROWA {β : Type} {e s m t f : Nat} {az : List SV} {F : β → Nat → List SV} {R : β → Nat → World → World → Prop} (hf : FnR P f az [] (fun x w w' => ∃ (L : β) (b cp : Nat), x = .sla (some ⟨b, 0, none⟩) m cp ∧ R L b w w' ∧ w.heap.size ≤ b ∧ Given e s m (F L) b cp w')) (A : Sy n T H ks G0 w0 G a w) (hd : o.dst = some t) (h1 : callS n ops T o = some (f, az)) (h2 : renL [] az = some az)
    (k : ∀ L b cp a' w' G', R L b w w' → w.heap.size ≤ b → (∀ k, (keys (H ++ [some (.row e s m 0 (F L))]) G').contains k = true → k < w.heap.size ∨ k = b) → Sy n ((t, .sl H.length m 0) :: extS T o.dst (.sla (some ⟨b, 0, none⟩) m cp)) (H ++ [some (.row e s m 0 (F L))]) ks G0 w0 G' a' w' → Goal P Q K (.ops ops rest) a' w') : Goal P Q K (.ops ops (o :: rest)) a w := by
  refine CALLR [] hf A h1 h2 rfl rfl rfl fun x a' w' hJ hk A' => ?_
  obtain ⟨L, b, cp, rfl, hR, hlo, hg⟩ := hJ
  have hl : look (extS T o.dst (.sla (some ⟨b, 0, none⟩) m cp)) t = some (.sla (some ⟨b, 0, none⟩) m cp) := by rw [hd]; simp [extS, look, Nat.beq_refl]
  have A2 := A'.takeRow t hg (fun i e L q1 q2 q3 => by
    have := A.mem.ent i e q1
    rw [q2] at this
    have := EntOK.lt this q3
    omega) (Nat.le_trans A.mix.size hlo) hl
  refine k L b cp a' w' _ hR hlo (fun k hk' => ?_) A2
  obtain ⟨i, e', M, q1, q2, q3, q4⟩ := mem_keys.1 hk'
  have hlen := A.mem.len
  by_cases hi : i < H.length
  · rw [List.getElem?_append_left hi] at q1
    rw [List.getElem?_append_left (by omega)] at q3
    exact .inl (hk k (mem_keys.2 ⟨i, e', M, q1, q2, q3, q4⟩))
  · right
    have hi2 : i = G.length := by
      have := (List.getElem?_eq_some_iff.1 q3).1
      simp at this
      omega
    subst hi2
    rw [List.getElem?_append_right (Nat.le_refl _)] at q3
    simp at q3
    rw [← q4, ← q3]
end
theorem ix_p {i o s m k : Nat} (j : Nat) {q : Nat} (hq : o + j * s + k = q) : ∀ G, den G (.ix (.ptr i o) s m (j : Int) k) = den G (.ptr i q) := fun G => by
  subst hq
  unfold den
  cases hG : G[i]? with
  | none => unfold den; rw [hG]
  | some p => cases p with
    | none => unfold den; rw [hG]
    | some L => unfold den; rw [hG]; simp [Nat.add_assoc]
theorem concat5_ (L1 L2 L3 L4 L5 : List Rw) (c1 c2 c3 c4 c5 : Nat) (l1 : L1.length = 10) (l12 : (L1 ++ L2).length = 15) (l13 : ((L1 ++ L2) ++ L3).length = 23) (l14 : (((L1 ++ L2) ++ L3) ++ L4).length = 26) : Fn Tryz.prog 67 [.sl 0 5 5] [some (.blk [.sl 1 10 c1, .sl 2 5 c2, .sl 3 8 c3, .sl 4 3 c4, .sl 5 5 c5]), some (.lst 20 10 (fun zz => rwc (L1.getD zz Rw.z))), some (.lst 20 5 (fun zz => rwc (L2.getD zz Rw.z))), some (.lst 20 8 (fun zz => rwc (L3.getD zz Rw.z))), some (.lst 20 3 (fun zz => rwc (L4.getD zz Rw.z))), some (.lst 20 5 (fun zz => rwc (L5.getD zz Rw.z)))] (Rt (.sl 6 31 0) [some (.blk [.sl 1 10 c1, .sl 2 5 c2, .sl 3 8 c3, .sl 4 3 c4, .sl 5 5 c5]), some (.lst 20 10 (fun zz => rwc (L1.getD zz Rw.z))), some (.lst 20 5 (fun zz => rwc (L2.getD zz Rw.z))), some (.lst 20 8 (fun zz => rwc (L3.getD zz Rw.z))), some (.lst 20 3 (fun zz => rwc (L4.getD zz Rw.z))), some (.lst 20 5 (fun zz => rwc (L5.getD zz Rw.z))), some (.row 128 20 31 0 (fun zz => rwc (((((L1 ++ L2) ++ L3) ++ L4) ++ L5).getD zz Rw.z)))]) :=
 enterM (n := 36) (by kernel_rfl) Tryz.func67 rfl rfl rfl fun G w a h0 A => N hX 15 A rfl rfl fun A => have A := sy_sayD A 10 (.int .i64 5) rfl (fun _ => rfl); N hX 1 A rfl rfl fun A => N hX 3 A rfl rfl fun A => UNR 6 (RND (have A := A.cut [0, 2, 3, 9, 10, 11] rfl;
 N hX 6 A rfl rfl fun A => forkD 12 A rfl
   (fun h1 A => N hX 8 A rfl (ok_d (by omega) <| okE_nil) fun A => have A := sy_sayD A 13 (.ptr 0 0) rfl (ix_p 0 rfl); N hX 7 A rfl rfl fun A => N hX 2 A rfl rfl fun A => have A := sy_sayD A 17 (.int .i64 10) rfl (fun _ => rfl); N hX 1 A rfl (ok_d (by omega) <| okE_nil) fun A => have A := sy_sayD A 18 (.int .i64 10) rfl (fun _ => rfl); N hX 6 A rfl rfl fun A => N hX 3 A rfl rfl fun A => forkD 20 A rfl
    (fun h2 A => absurd h2 (by decide))
    (fun h2 A => N hX 6 A rfl (ok_d (by omega) <| okE_nil) fun A => have A := sy_sayD A 22 (.int .i64 1) rfl (fun _ => rfl); N hX 1 A rfl rfl fun A => N hX 1 A rfl rfl fun A => RND (have A := A.cut [0, 2, 3, 9, 10, 11] rfl;
 N hX 6 A rfl rfl fun A => forkD 12 A rfl
     (fun h3 A => N hX 8 A rfl (ok_d (by omega) <| okE_nil) fun A => have A := sy_sayD A 13 (.ptr 0 1) rfl (ix_p 1 rfl); N hX 7 A rfl rfl fun A => N hX 2 A rfl rfl fun A => have A := sy_sayD A 17 (.int .i64 5) rfl (fun _ => rfl); N hX 1 A rfl (ok_d (by omega) <| okE_nil) fun A => have A := sy_sayD A 18 (.int .i64 15) rfl (fun _ => rfl); N hX 6 A rfl rfl fun A => N hX 3 A rfl rfl fun A => forkD 20 A rfl
      (fun h4 A => absurd h4 (by decide))
      (fun h4 A => N hX 6 A rfl (ok_d (by omega) <| okE_nil) fun A => have A := sy_sayD A 22 (.int .i64 2) rfl (fun _ => rfl); N hX 1 A rfl rfl fun A => N hX 1 A rfl rfl fun A => RND (have A := A.cut [0, 2, 3, 9, 10, 11] rfl;
 N hX 6 A rfl rfl fun A => forkD 12 A rfl
       (fun h5 A => N hX 8 A rfl (ok_d (by omega) <| okE_nil) fun A => have A := sy_sayD A 13 (.ptr 0 2) rfl (ix_p 2 rfl); N hX 7 A rfl rfl fun A => N hX 2 A rfl rfl fun A => have A := sy_sayD A 17 (.int .i64 8) rfl (fun _ => rfl); N hX 1 A rfl (ok_d (by omega) <| okE_nil) fun A => have A := sy_sayD A 18 (.int .i64 23) rfl (fun _ => rfl); N hX 6 A rfl rfl fun A => N hX 3 A rfl rfl fun A => forkD 20 A rfl
        (fun h6 A => absurd h6 (by decide))
        (fun h6 A => N hX 6 A rfl (ok_d (by omega) <| okE_nil) fun A => have A := sy_sayD A 22 (.int .i64 3) rfl (fun _ => rfl); N hX 1 A rfl rfl fun A => N hX 1 A rfl rfl fun A => RND (have A := A.cut [0, 2, 3, 9, 10, 11] rfl;
 N hX 6 A rfl rfl fun A => forkD 12 A rfl
         (fun h7 A => N hX 8 A rfl (ok_d (by omega) <| okE_nil) fun A => have A := sy_sayD A 13 (.ptr 0 3) rfl (ix_p 3 rfl); N hX 7 A rfl rfl fun A => N hX 2 A rfl rfl fun A => have A := sy_sayD A 17 (.int .i64 3) rfl (fun _ => rfl); N hX 1 A rfl (ok_d (by omega) <| okE_nil) fun A => have A := sy_sayD A 18 (.int .i64 26) rfl (fun _ => rfl); N hX 6 A rfl rfl fun A => N hX 3 A rfl rfl fun A => forkD 20 A rfl
          (fun h8 A => absurd h8 (by decide))
          (fun h8 A => N hX 6 A rfl (ok_d (by omega) <| okE_nil) fun A => have A := sy_sayD A 22 (.int .i64 4) rfl (fun _ => rfl); N hX 1 A rfl rfl fun A => N hX 1 A rfl rfl fun A => RND (have A := A.cut [0, 2, 3, 9, 10, 11] rfl;
 N hX 6 A rfl rfl fun A => forkD 12 A rfl
           (fun h9 A => N hX 8 A rfl (ok_d (by omega) <| okE_nil) fun A => have A := sy_sayD A 13 (.ptr 0 4) rfl (ix_p 4 rfl); N hX 7 A rfl rfl fun A => N hX 2 A rfl rfl fun A => have A := sy_sayD A 17 (.int .i64 5) rfl (fun _ => rfl); N hX 1 A rfl (ok_d (by omega) <| okE_nil) fun A => have A := sy_sayD A 18 (.int .i64 31) rfl (fun _ => rfl); N hX 6 A rfl rfl fun A => N hX 3 A rfl rfl fun A => forkD 20 A rfl
            (fun h10 A => absurd h10 (by decide))
            (fun h10 A => N hX 6 A rfl (ok_d (by omega) <| okE_nil) fun A => have A := sy_sayD A 22 (.int .i64 5) rfl (fun _ => rfl); N hX 1 A rfl rfl fun A => N hX 1 A rfl rfl fun A => RND (have A := A.cut [0, 2, 3, 9, 10, 11] rfl;
 N hX 6 A rfl rfl fun A => forkD 12 A rfl
             (fun h11 A => absurd h11 (by decide))
             (fun h11 A => N hX 6 A rfl rfl fun A => CALLROWA (t := 24) (F := fun (L : List Rw) zz => rwc (L.getD zz Rw.z)) (R := fun L b w w' => L = []) (grow_ 31 (by decide) (by decide)) A rfl rfl rfl fun L b1 cp1 a1 w1 G1 hR hlo hk A =>
 N hX 8 A rfl rfl fun A => have A := sy_sayD A 26 (.int .i64 5) rfl (fun _ => rfl); N hX 1 A rfl rfl fun A => N hX 3 A rfl rfl fun A => UNR 6 (RND (have A := A.cut [2, 6, 25, 26, 27] rfl;
 N hX 6 A rfl rfl fun A => forkD 28 A rfl
               (fun h12 A => N hX 8 A rfl (ok_d (by omega) <| okE_nil) fun A => have A := sy_sayD A 29 (.ptr 0 0) rfl (ix_p 0 rfl); N hX 7 A rfl rfl fun A => q_eff A rfl (aplE hX 10 (fun zz => rwc (L1.getD zz Rw.z)) rfl rfl rfl rfl (Nat.le_refl _) (by decide) (show 10 ≤ 1000000 by decide) rfl (fun k hk => absurd hk (Nat.not_lt_zero k)) (fun k hk => by show rwc (L1.getD (0 + k) Rw.z) = rwc _; rw [Nat.zero_add]) (fun z => ⟨_, rfl, rfl⟩) (fun k hk => ⟨_, rfl, okE_nil⟩)) fun A =>
 N hX 6 A rfl (ok_d (by omega) <| okE_nil) fun A => have A := sy_sayD A 34 (.int .i64 1) rfl (fun _ => rfl); N hX 1 A rfl rfl fun A => N hX 1 A rfl rfl fun A => RND (have A := A.cut [2, 6, 25, 26, 27] rfl;
 N hX 6 A rfl rfl fun A => forkD 28 A rfl
                (fun h13 A => N hX 8 A rfl (ok_d (by omega) <| okE_nil) fun A => have A := sy_sayD A 29 (.ptr 0 1) rfl (ix_p 1 rfl); N hX 7 A rfl rfl fun A => q_eff A rfl (aplE hX 15 (fun zz => rwc ((L1 ++ L2).getD zz Rw.z)) rfl rfl rfl rfl (Nat.le_refl _) (by decide) (show 5 ≤ 1000000 by decide) rfl (fun k hk => by show rwc _ = rwc _; rw [getD_app_l (by rw [l1]; exact hk)]) (fun k hk => by show rwc ((L1 ++ L2).getD (10 + k) Rw.z) = rwc _; rw [show 10 + k = L1.length + k by rw [l1], getD_app_r]) (fun z => ⟨_, rfl, rfl⟩) (fun k hk => ⟨_, rfl, okE_nil⟩)) fun A =>
 N hX 6 A rfl (ok_d (by omega) <| okE_nil) fun A => have A := sy_sayD A 34 (.int .i64 2) rfl (fun _ => rfl); N hX 1 A rfl rfl fun A => N hX 1 A rfl rfl fun A => RND (have A := A.cut [2, 6, 25, 26, 27] rfl;
 N hX 6 A rfl rfl fun A => forkD 28 A rfl
                 (fun h14 A => N hX 8 A rfl (ok_d (by omega) <| okE_nil) fun A => have A := sy_sayD A 29 (.ptr 0 2) rfl (ix_p 2 rfl); N hX 7 A rfl rfl fun A => q_eff A rfl (aplE hX 23 (fun zz => rwc (((L1 ++ L2) ++ L3).getD zz Rw.z)) rfl rfl rfl rfl (Nat.le_refl _) (by decide) (show 8 ≤ 1000000 by decide) rfl (fun k hk => by show rwc _ = rwc _; rw [getD_app_l (by rw [l12]; exact hk)]) (fun k hk => by show rwc (((L1 ++ L2) ++ L3).getD (15 + k) Rw.z) = rwc _; rw [show 15 + k = (L1 ++ L2).length + k by rw [l12], getD_app_r]) (fun z => ⟨_, rfl, rfl⟩) (fun k hk => ⟨_, rfl, okE_nil⟩)) fun A =>
 N hX 6 A rfl (ok_d (by omega) <| okE_nil) fun A => have A := sy_sayD A 34 (.int .i64 3) rfl (fun _ => rfl); N hX 1 A rfl rfl fun A => N hX 1 A rfl rfl fun A => RND (have A := A.cut [2, 6, 25, 26, 27] rfl;
 N hX 6 A rfl rfl fun A => forkD 28 A rfl
                  (fun h15 A => N hX 8 A rfl (ok_d (by omega) <| okE_nil) fun A => have A := sy_sayD A 29 (.ptr 0 3) rfl (ix_p 3 rfl); N hX 7 A rfl rfl fun A => q_eff A rfl (aplE hX 26 (fun zz => rwc ((((L1 ++ L2) ++ L3) ++ L4).getD zz Rw.z)) rfl rfl rfl rfl (Nat.le_refl _) (by decide) (show 3 ≤ 1000000 by decide) rfl (fun k hk => by show rwc _ = rwc _; rw [getD_app_l (by rw [l13]; exact hk)]) (fun k hk => by show rwc ((((L1 ++ L2) ++ L3) ++ L4).getD (23 + k) Rw.z) = rwc _; rw [show 23 + k = ((L1 ++ L2) ++ L3).length + k by rw [l13], getD_app_r]) (fun z => ⟨_, rfl, rfl⟩) (fun k hk => ⟨_, rfl, okE_nil⟩)) fun A =>
 N hX 6 A rfl (ok_d (by omega) <| okE_nil) fun A => have A := sy_sayD A 34 (.int .i64 4) rfl (fun _ => rfl); N hX 1 A rfl rfl fun A => N hX 1 A rfl rfl fun A => RND (have A := A.cut [2, 6, 25, 26, 27] rfl;
 N hX 6 A rfl rfl fun A => forkD 28 A rfl
                   (fun h16 A => N hX 8 A rfl (ok_d (by omega) <| okE_nil) fun A => have A := sy_sayD A 29 (.ptr 0 4) rfl (ix_p 4 rfl); N hX 7 A rfl rfl fun A => q_eff A rfl (aplE hX 31 (fun zz => rwc (((((L1 ++ L2) ++ L3) ++ L4) ++ L5).getD zz Rw.z)) rfl rfl rfl rfl (Nat.le_refl _) (by decide) (show 5 ≤ 1000000 by decide) rfl (fun k hk => by show rwc _ = rwc _; rw [getD_app_l (by rw [l14]; exact hk)]) (fun k hk => by show rwc (((((L1 ++ L2) ++ L3) ++ L4) ++ L5).getD (26 + k) Rw.z) = rwc _; rw [show 26 + k = (((L1 ++ L2) ++ L3) ++ L4).length + k by rw [l14], getD_app_r]) (fun z => ⟨_, rfl, rfl⟩) (fun k hk => ⟨_, rfl, okE_nil⟩)) fun A =>
 N hX 6 A rfl (ok_d (by omega) <| okE_nil) fun A => have A := sy_sayD A 34 (.int .i64 5) rfl (fun _ => rfl); N hX 1 A rfl rfl fun A => N hX 1 A rfl rfl fun A => RND (have A := A.cut [2, 6, 25, 26, 27] rfl;
 N hX 6 A rfl rfl fun A => forkD 28 A rfl
                    (fun h17 A => absurd h17 (by decide))
                    (fun h17 A => N hX 10 A rfl rfl fun A => RET hX [11] A ⟨rfl, rfl⟩ rfl rfl rfl rfl rfl rfl rfl rfl h0)))
                   (fun h16 A => absurd (by decide) h16)))
                  (fun h15 A => absurd (by decide) h15)))
                 (fun h14 A => absurd (by decide) h14)))
                (fun h13 A => absurd (by decide) h13)))
               (fun h12 A => absurd (by decide) h12)))))))
           (fun h9 A => absurd (by decide) h9))))
         (fun h7 A => absurd (by decide) h7))))
       (fun h5 A => absurd (by decide) h5))))
     (fun h3 A => absurd (by decide) h3))))
   (fun h1 A => absurd (by decide) h1)))
def c5 : List (List UInt8 × Int) := [([65, 68, 68], 1), ([83, 85, 66], 2), ([69, 79, 82], 3), ([65, 78, 68], 4), ([79, 82, 82], 5)]
abbrev cr1 (x : List UInt8 × Int) (b1 : Nat) : Rw := ⟨x.1, [], insF 3 x.2, some ⟨b1, 0, none⟩, [1, 2, 3], 3⟩
abbrev cr2 (x : List UInt8 × Int) (b2 : Nat) : Rw := ⟨x.1, [], insF 3 x.2, some ⟨b2, 0, none⟩, [1, 2, 5], 3⟩
def acomp : List (List UInt8 × List UInt8 × In × List Int) := c5.flatMap fun x => [(x.1, [], insF 3 x.2, [1, 2, 3]), (x.1, [], insF 3 x.2, [1, 2, 5])]
structure AC (lo : Nat) (z : List Rw × Nat) (w : World) (ks : List Nat) : Prop where
  le : z.2 ≤ 5
  tm : z.1.map tm = acomp.take (2 * z.2)
  rw : RowsIn lo z.1 w ks
theorem AC.len {lo : Nat} {z : List Rw × Nat} {w : World} {ks : List Nat} (h : AC lo z w ks) : z.1.length = 2 * z.2 := by
  have h1 := congrArg List.length h.tm
  rw [List.length_map, List.length_take] at h1
  have h2 : acomp.length = 10 := by decide
  have := h.le
  omega
theorem AC.nx {lo b1 b2 : Nat} {z : List Rw × Nat} {w w1 : World} {ks ks1 : List Nat} {l : List (Nat × List SV)} (h : AC lo z w ks) (hk : (z.2 : Int) < 5) (hr : RowsIn lo z.1 w1 ks1) (hA : Acc lo [(b2, [.int .i64 1, .int .i64 2, .int .i64 5]), (b1, [.int .i64 1, .int .i64 2, .int .i64 3])] w1 ks1) : AC lo (z.1 ++ [cr1 (c5.getD ((z.2 : Int)).toNat nz) b1, cr2 (c5.getD ((z.2 : Int)).toNat nz) b2], z.2 + 1) w1 ks1 := by
  refine ⟨by have := h.le; show z.2 + 1 ≤ 5; omega, ?_, fun r hr' => ?_⟩
  · show List.map _ (z.1 ++ _) = _
    rw [List.map_append, h.tm, Int.toNat_natCast]
    have : z.2 = 0 ∨ z.2 = 1 ∨ z.2 = 2 ∨ z.2 = 3 ∨ z.2 = 4 := by omega
    rcases this with e | e | e | e | e <;> rw [e] <;> rfl
  · rcases List.mem_append.1 hr' with h1 | h1
    · exact hr r h1
    · simp only [List.mem_cons, List.mem_nil_iff, or_false] at h1
      rcases h1 with rfl | rfl
      · exact lies_of (cs := []) [1, 2, 3] hA (List.mem_cons_of_mem _ (List.mem_cons_self))
      · exact lies_of (cs := []) [1, 2, 5] hA (List.mem_cons_self)
theorem acomp_ : FnR Tryz.prog 68 [] [] (fun x w w' => ∃ (L : List Rw) (b cp : Nat), x = .sla (some ⟨b, 0, none⟩) 10 cp ∧ (L.map tm = acomp ∧ RowsIn w.heap.size L w' [b]) ∧ w.heap.size ≤ b ∧ Given 128 20 10 (fun zz => rwc (L.getD zz Rw.z)) b cp w') :=
 enterR (n := 36) (by kernel_rfl) Tryz.func68 rfl rfl rfl fun G w a h0 A => N hX 13 A rfl rfl fun A => have A := A.asT nz nfc 2 tyN.1 tyN.2.1 tyN.2.2 c5 0 rfl; N hX 17 A rfl rfl fun A => have A := A.nilRow 2 128 20 (fun zz => rwc (([] : List Rw).getD zz Rw.z)) rfl (fun z => ⟨_, rfl, rfl⟩); LOOPJ (fun (z : List Rw × Nat) => [(0, .sla none 0 0), (2, .sl 1 z.1.length 0), (12, .sl 0 5 5), (13, .int .i64 ((5 : Nat) : Int)), (14, .int .i64 (z.2 : Int))]) (fun (z : List Rw × Nat) => [some (.lst 2 5 (fun zz => nfc (c5.getD zz nz))), some (.row 128 20 z.1.length 0 (fun zz => rwc (z.1.getD zz Rw.z)))]) (fun z w1 ks1 => AC w.heap.size z w1 ks1) (fun z => 5 - z.2) ([], 0) (A.cut [0, 2, 12, 13, 14] rfl) ⟨by decide, rfl, fun r hr => by cases hr⟩ fun z G1 a1 w1 hJ hg A B => have hA : Acc w.heap.size [] w1 _ := Acc.nil; have hR := hJ.rw;
 N hX 6 A rfl rfl fun A => forkD 15 A rfl
   (fun h1 A => N hX 14 A rfl (ok_d (by omega) <| ok_d (by omega) <| okE_nil) fun A => N hX 4 A rfl rfl fun A => have A := sy_sayD A 20 (.agg [.int .i64 3, .int .i64 0, .int .i64 0, .int .i64 0, .int .i64 0, .int .i64 0, .int .i64 0, .int .i64 0, .int .i64 0, .int .i64 ((c5.getD (((z.2 : Int)).toNat) nz).2), .bool false, .bool false, .bool false, .int .i64 0, .int .i64 0, .int .i64 0, .bool false]) rfl (fun _ => rfl); N hX 9 A rfl rfl fun A => BSCI [.int .i64 1, .int .i64 2, .int .i64 3] (X := ⟨_, true⟩) hX RowsIn.ok B hA hR A rfl rfl rfl rfl fun b1 B hA hR A =>
 N hX 4 A rfl rfl fun A => BSCI [.int .i64 1, .int .i64 2, .int .i64 5] (X := ⟨_, true⟩) hX RowsIn.ok B hA hR A rfl rfl rfl rfl fun b2 B hA hR A =>
 N hX 2 A rfl rfl fun A => have A := A.asT Rw.z rwc 20 tyR.1 tyR.2.1 tyR.2.2 [cr1 (c5.getD (((z.2 : Int)).toNat) nz) b1, cr2 (c5.getD (((z.2 : Int)).toNat) nz) b2] 4 rfl; q_eff A rfl (aplE hX ((z.1 ++ [cr1 (c5.getD (((z.2 : Int)).toNat) nz) b1, cr2 (c5.getD (((z.2 : Int)).toNat) nz) b2]).length) (fun zz => rwc ((z.1 ++ [cr1 (c5.getD (((z.2 : Int)).toNat) nz) b1, cr2 (c5.getD (((z.2 : Int)).toNat) nz) b2]).getD zz Rw.z)) rfl rfl rfl rfl (Nat.le_refl _) (by have := hJ.len; have := hJ.le; omega) (by decide) List.length_append (fun k hk => by show rwc _ = rwc _; rw [getD_app_l hk]) (fun k hk => by show rwc _ = rwc _; rw [getD_app_r]) (fun z => ⟨_, rfl, rfl⟩) (fun k hk => ⟨_, rfl, okE_nil⟩)) fun A =>
 N hX 8 A rfl (ok_d (by omega) <| okE_nil) fun A => ⟨(z.1 ++ [cr1 (c5.getD (((z.2 : Int)).toNat) nz) b1, cr2 (c5.getD (((z.2 : Int)).toNat) nz) b2], z.2 + 1), _, (by have := h1; show _ - _ < _ - _; omega), (hJ.nx (l := []) h1 (RowsIn.ok _ _ _ _ hR A.mix fun b hb => A.keys_own b ((keys_pick (H := [some (.lst 2 5 (fun zz => nfc (c5.getD zz nz))), none, some (.blk [.str ((c5.getD (((z.2 : Int)).toNat) nz).1), .int .i64 ((c5.getD (((z.2 : Int)).toNat) nz).2)]), some (.blk [.int .i64 3, .int .i64 0, .int .i64 0, .int .i64 0, .int .i64 0, .int .i64 0, .int .i64 0, .int .i64 0, .int .i64 0, .int .i64 ((c5.getD (((z.2 : Int)).toNat) nz).2), .bool false, .bool false, .bool false, .int .i64 0, .int .i64 0, .int .i64 0, .bool false]), some (.lst 20 ([cr1 (c5.getD (((z.2 : Int)).toNat) nz) b1, cr2 (c5.getD (((z.2 : Int)).toNat) nz) b2].length) (fun zz => rwc ([cr1 (c5.getD (((z.2 : Int)).toNat) nz) b1, cr2 (c5.getD (((z.2 : Int)).toNat) nz) b2].getD zz Rw.z))), some (.row 128 20 ((z.1 ++ [cr1 (c5.getD (((z.2 : Int)).toNat) nz) b1, cr2 (c5.getD (((z.2 : Int)).toNat) nz) b2]).length) 0 (fun zz => rwc ((z.1 ++ [cr1 (c5.getD (((z.2 : Int)).toNat) nz) b1, cr2 (c5.getD (((z.2 : Int)).toNat) nz) b2]).getD zz Rw.z)))]) (m := [0, 5]) A.mem.len rfl rfl) b hb)) (hA.go A.mix fun b hb => A.keys_own b ((keys_pick (H := [some (.lst 2 5 (fun zz => nfc (c5.getD zz nz))), none, some (.blk [.str ((c5.getD (((z.2 : Int)).toNat) nz).1), .int .i64 ((c5.getD (((z.2 : Int)).toNat) nz).2)]), some (.blk [.int .i64 3, .int .i64 0, .int .i64 0, .int .i64 0, .int .i64 0, .int .i64 0, .int .i64 0, .int .i64 0, .int .i64 0, .int .i64 ((c5.getD (((z.2 : Int)).toNat) nz).2), .bool false, .bool false, .bool false, .int .i64 0, .int .i64 0, .int .i64 0, .bool false]), some (.lst 20 ([cr1 (c5.getD (((z.2 : Int)).toNat) nz) b1, cr2 (c5.getD (((z.2 : Int)).toNat) nz) b2].length) (fun zz => rwc ([cr1 (c5.getD (((z.2 : Int)).toNat) nz) b1, cr2 (c5.getD (((z.2 : Int)).toNat) nz) b2].getD zz Rw.z))), some (.row 128 20 ((z.1 ++ [cr1 (c5.getD (((z.2 : Int)).toNat) nz) b1, cr2 (c5.getD (((z.2 : Int)).toNat) nz) b2]).length) 0 (fun zz => rwc ((z.1 ++ [cr1 (c5.getD (((z.2 : Int)).toNat) nz) b1, cr2 (c5.getD (((z.2 : Int)).toNat) nz) b2]).getD zz Rw.z)))]) (m := [0, 5]) A.mem.len rfl rfl) b hb))), ((B.trans A).cut [0, 2, 12, 13, 14] rfl).mv 0 [0, 5] rfl rfl rfl rfl (by simp only [List.length_nil] at h0; omega)⟩)
   (fun h1 A => N hX 10 A rfl rfl fun A => (have e5 : z.2 = 5 := (by have := hJ.le; omega); have e : z.1.length = 10 := (by have := hJ.len; omega); match A.giveRow 1 0 (by omega) rfl rfl rfl with | ⟨b, cp, A2, hG, ho, hk⟩ => RETR (J := fun x w w' => ∃ (L : List Rw) (b cp : Nat), x = .sla (some ⟨b, 0, none⟩) 10 cp ∧ (L.map tm = acomp ∧ RowsIn w.heap.size L w' [b]) ∧ w.heap.size ≤ b ∧ Given 128 20 10 (fun zz => rwc (L.getD zz Rw.z)) b cp w') hX (B.trans A2) (fun i e he => nil_no he) rfl rfl rfl rfl ⟨z.1, b, cp, (by show SV.sla _ z.1.length cp = _; rw [e]), ⟨(by have h2 := hJ.tm; rw [e5] at h2; exact h2), (RowsIn.ok _ _ _ _ hJ.rw A.mix fun b2 hb => by have : b2 = b := (by simpa using hb); rw [this]; exact ho)⟩, lo_of B (fun i e he => nil_no he) ho, (by rw [← e]; exact hG)⟩))
abbrev sz : List UInt8 × Bool × Bool := ([], false, false)
def sfc (x : List UInt8 × Bool × Bool) : List SV := [.str x.1, .bool x.2.1, .bool x.2.2]
theorem tyS : (∀ x, (sfc x).length = 3) ∧ (∀ x, inL 0 (sfc x) = true) ∧ (∀ x, ∃ vs, denL [] (sfc x) = some vs) := ⟨fun _ => rfl, fun _ => rfl, fun _ => ⟨_, rfl⟩⟩
def a2 : List (List UInt8 × Int) := [([83, 87, 80], 6), ([76, 68, 65, 68, 68], 1)]
def s4 : List (List UInt8 × Bool × Bool) := [([], false, false), ([65], true, false), ([76], false, true), ([65, 76], true, true)]
theorem a2_len : ∀ k, (a2.getD k nz).1.length ≤ 100
  | 0 => by decide
  | 1 => by decide
  | k + 2 => by simp [a2, List.getD]
theorem s4_len : ∀ k, (s4.getD k sz).1.length ≤ 100
  | 0 => by decide
  | 1 => by decide
  | 2 => by decide
  | 3 => by decide
  | k + 4 => by simp [s4, List.getD]
def insA (x : List UInt8 × Int) (y : List UInt8 × Bool × Bool) : In := ⟨6, 0, 0, 0, 0, 0, 0, 0, 0, x.2, y.2.1, false, y.2.2, 0, 0, 0, false⟩
abbrev aa1 (x : List UInt8 × Int) (y : List UInt8 × Bool × Bool) (b1 : Nat) : Rw := ⟨(x.1 ++ y.1) ++ [42], [], insA x y, some ⟨b1, 0, none⟩, [2, 1, 6], 3⟩
def aatom : List (List UInt8 × List UInt8 × In × List Int) := a2.flatMap fun x => s4.map fun y => ((x.1 ++ y.1) ++ [42], [], insA x y, [2, 1, 6])
structure AA (lo n : Nat) (L : List Rw) (w : World) (ks : List Nat) : Prop where
  tm : L.map tm = aatom.take n
  rw : RowsIn lo L w ks
theorem AA.len {lo n : Nat} {L : List Rw} {w : World} {ks : List Nat} (h : AA lo n L w ks) : L.length ≤ 8 ∧ (n ≤ 8 → L.length = n) := by
  have h1 := congrArg List.length h.tm
  rw [List.length_map, List.length_take] at h1
  have h2 : aatom.length = 8 := by decide
  omega
theorem AA.nx {lo b1 k j : Nat} {L : List Rw} {w w1 : World} {ks ks1 : List Nat} (h : AA lo (4 * k + j) L w ks) (hk : k < 2) (hj : j < 4) (hr : RowsIn lo L w1 ks1) (hA : Acc lo [(b1, [.int .i64 2, .int .i64 1, .int .i64 6])] w1 ks1) : AA lo (4 * k + (j + 1)) (L ++ [aa1 (a2.getD ((k : Int)).toNat nz) (s4.getD ((j : Int)).toNat sz) b1]) w1 ks1 := by
  refine ⟨?_, fun r hr' => ?_⟩
  · rw [List.map_append, h.tm, Int.toNat_natCast, Int.toNat_natCast]
    have q1 : k = 0 ∨ k = 1 := by omega
    have q2 : j = 0 ∨ j = 1 ∨ j = 2 ∨ j = 3 := by omega
    rcases q1 with e | e <;> rcases q2 with e2 | e2 | e2 | e2 <;> rw [e, e2] <;> rfl
  · rcases List.mem_append.1 hr' with h1 | h1
    · exact hr r h1
    · simp only [List.mem_cons, List.mem_nil_iff, or_false] at h1
      subst h1
      exact lies_of (cs := []) [2, 1, 6] hA List.mem_cons_self
theorem aatom_ : FnR Tryz.prog 70 [] [] (fun x w w' => ∃ (L : List Rw) (b cp : Nat), x = .sla (some ⟨b, 0, none⟩) 8 cp ∧ (L.map tm = aatom ∧ RowsIn w.heap.size L w' [b]) ∧ w.heap.size ≤ b ∧ Given 128 20 8 (fun zz => rwc (L.getD zz Rw.z)) b cp w') :=
 enterR (n := 51) (by kernel_rfl) Tryz.func70 rfl rfl rfl fun G w a h0 A => N hX 10 A rfl rfl fun A => have A := A.asT nz nfc 2 tyN.1 tyN.2.1 tyN.2.2 a2 0 rfl; N hX 6 A rfl rfl fun A => have A := sy_sayD A 12 (.agg [.str [], .bool false, .bool false]) rfl (fun _ => rfl); N hX 1 A rfl rfl fun A => have A := sy_sayD A 13 (.agg [.str [65], .bool true, .bool false]) rfl (fun _ => rfl); N hX 1 A rfl rfl fun A => have A := sy_sayD A 14 (.agg [.str [76], .bool false, .bool true]) rfl (fun _ => rfl); N hX 1 A rfl rfl fun A => have A := sy_sayD A 15 (.agg [.str [65, 76], .bool true, .bool true]) rfl (fun _ => rfl); N hX 1 A rfl rfl fun A => have A := A.asT sz sfc 3 tyS.1 tyS.2.1 tyS.2.2 s4 1 rfl; N hX 17 A rfl rfl fun A => have A := A.nilRow 3 128 20 (fun zz => rwc (([] : List Rw).getD zz Rw.z)) rfl (fun z => ⟨_, rfl, rfl⟩); LOOPJ (fun (z : List Rw × Nat) => [(0, .sla none 0 0), (2, .sl 1 4 4), (3, .sl 2 z.1.length 0), (17, .sl 0 2 2), (18, .int .i64 ((2 : Nat) : Int)), (19, .int .i64 (z.2 : Int))]) (fun (z : List Rw × Nat) => [some (.lst 2 2 (fun zz => nfc (a2.getD zz nz))), some (.lst 3 4 (fun zz => sfc (s4.getD zz sz))), some (.row 128 20 z.1.length 0 (fun zz => rwc (z.1.getD zz Rw.z)))]) (fun z w1 ks1 => z.2 ≤ 2 ∧ AA w.heap.size (4 * z.2) z.1 w1 ks1) (fun z => 2 - z.2) ([], 0) (A.cut [0, 2, 3, 17, 18, 19] rfl) ⟨by decide, ⟨rfl, fun r hr => by cases hr⟩⟩ fun z G1 a1 w1 hJ hg A B => have hz2 := hJ.1; have hR := hJ.2.rw;
 N hX 6 A rfl rfl fun A => forkD 20 A rfl
   (fun h1 A => N hX 14 A rfl (ok_d (by omega) <| ok_d (by omega) <| okE_nil) fun A => N hX 7 A rfl rfl fun A => have hR := RowsIn.ok _ _ _ _ hR A.mix A.keys_own; LOOPJ (fun (y : List Rw × Nat) => [(0, .sla none 0 0), (2, .sl 1 4 4), (3, .sl 2 y.1.length 0), (5, .ptr 3 0), (17, .sl 0 2 2), (18, .int .i64 ((2 : Nat) : Int)), (19, .int .i64 (z.2 : Int)), (23, .sl 1 4 4), (24, .int .i64 ((4 : Nat) : Int)), (25, .int .i64 (y.2 : Int))]) (fun (y : List Rw × Nat) => [some (.lst 2 2 (fun zz => nfc (a2.getD zz nz))), some (.lst 3 4 (fun zz => sfc (s4.getD zz sz))), some (.row 128 20 y.1.length 0 (fun zz => rwc (y.1.getD zz Rw.z))), some (.blk [.str ((a2.getD (((z.2 : Int)).toNat) nz).1), .int .i64 ((a2.getD (((z.2 : Int)).toNat) nz).2)])]) (fun y w1 ks1 => y.2 ≤ 4 ∧ AA w.heap.size (4 * z.2 + y.2) y.1 w1 ks1) (fun y => 4 - y.2) (z.1, 0) ((B.trans A).cut [0, 2, 3, 5, 17, 18, 19, 23, 24, 25] rfl) ⟨Nat.zero_le 4, ⟨hJ.2.tm, hR⟩⟩ fun y G1 a1 w1 hJ hg A B => have hA : Acc w.heap.size [] w1 _ := Acc.nil; have hR := hJ.2.rw;
 N hX 6 A rfl rfl fun A => forkD 26 A rfl
     (fun h2 A => N hX 14 A rfl (ok_d (by omega) <| ok_d (by omega) <| okE_nil) fun A => N hX 8 A rfl rfl fun A => have A := sy_sayD A 35 (.agg [.int .i64 6, .int .i64 0, .int .i64 0, .int .i64 0, .int .i64 0, .int .i64 0, .int .i64 0, .int .i64 0, .int .i64 0, .int .i64 ((a2.getD (((z.2 : Int)).toNat) nz).2), .bool ((s4.getD (((y.2 : Int)).toNat) sz).2.1), .bool false, .bool ((s4.getD (((y.2 : Int)).toNat) sz).2.2), .int .i64 0, .int .i64 0, .int .i64 0, .bool false]) rfl (fun _ => rfl); N hX 13 A rfl (ok_d (by have q := a2_len ((z.2 : Int)).toNat; have q2 := s4_len ((y.2 : Int)).toNat; (try simp only [List.length_append, List.length_cons, List.length_nil]); omega) <| ok_d (by have q := a2_len ((z.2 : Int)).toNat; have q2 := s4_len ((y.2 : Int)).toNat; (try simp only [List.length_append, List.length_cons, List.length_nil]); omega) <| okE_nil) fun A => BSCI [.int .i64 2, .int .i64 1, .int .i64 6] (X := ⟨_, true⟩) hX RowsIn.ok B hA hR A rfl rfl rfl rfl fun b1 B hA hR A =>
 N hX 2 A rfl rfl fun A => have A := A.asT Rw.z rwc 20 tyR.1 tyR.2.1 tyR.2.2 [aa1 (a2.getD (((z.2 : Int)).toNat) nz) (s4.getD (((y.2 : Int)).toNat) sz) b1] 6 rfl; q_eff A rfl (aplE hX ((y.1 ++ [aa1 (a2.getD (((z.2 : Int)).toNat) nz) (s4.getD (((y.2 : Int)).toNat) sz) b1]).length) (fun zz => rwc ((y.1 ++ [aa1 (a2.getD (((z.2 : Int)).toNat) nz) (s4.getD (((y.2 : Int)).toNat) sz) b1]).getD zz Rw.z)) rfl rfl rfl rfl (Nat.le_refl _) (by have := hJ.2.len; have := hJ.1; omega) (by decide) List.length_append (fun k hk => by show rwc _ = rwc _; rw [getD_app_l hk]) (fun k hk => by show rwc _ = rwc _; rw [getD_app_r]) (fun z => ⟨_, rfl, rfl⟩) (fun k hk => ⟨_, rfl, okE_nil⟩)) fun A =>
 N hX 8 A rfl (ok_d (by omega) <| okE_nil) fun A => ⟨(y.1 ++ [aa1 (a2.getD (((z.2 : Int)).toNat) nz) (s4.getD (((y.2 : Int)).toNat) sz) b1], y.2 + 1), _, (by have := h2; show _ - _ < _ - _; omega), ⟨by have := h2; show y.2 + 1 ≤ 4; omega, hJ.2.nx (by omega) (by omega) (RowsIn.ok _ _ _ _ hR A.mix fun b hb => A.keys_own b ((keys_pick (H := [some (.lst 2 2 (fun zz => nfc (a2.getD zz nz))), some (.lst 3 4 (fun zz => sfc (s4.getD zz sz))), none, some (.blk [.str ((a2.getD (((z.2 : Int)).toNat) nz).1), .int .i64 ((a2.getD (((z.2 : Int)).toNat) nz).2)]), some (.blk [.str ((s4.getD (((y.2 : Int)).toNat) sz).1), .bool ((s4.getD (((y.2 : Int)).toNat) sz).2.1), .bool ((s4.getD (((y.2 : Int)).toNat) sz).2.2)]), some (.blk [.int .i64 6, .int .i64 0, .int .i64 0, .int .i64 0, .int .i64 0, .int .i64 0, .int .i64 0, .int .i64 0, .int .i64 0, .int .i64 ((a2.getD (((z.2 : Int)).toNat) nz).2), .bool ((s4.getD (((y.2 : Int)).toNat) sz).2.1), .bool false, .bool ((s4.getD (((y.2 : Int)).toNat) sz).2.2), .int .i64 0, .int .i64 0, .int .i64 0, .bool false]), some (.lst 20 ([aa1 (a2.getD (((z.2 : Int)).toNat) nz) (s4.getD (((y.2 : Int)).toNat) sz) b1].length) (fun zz => rwc ([aa1 (a2.getD (((z.2 : Int)).toNat) nz) (s4.getD (((y.2 : Int)).toNat) sz) b1].getD zz Rw.z))), some (.row 128 20 ((y.1 ++ [aa1 (a2.getD (((z.2 : Int)).toNat) nz) (s4.getD (((y.2 : Int)).toNat) sz) b1]).length) 0 (fun zz => rwc ((y.1 ++ [aa1 (a2.getD (((z.2 : Int)).toNat) nz) (s4.getD (((y.2 : Int)).toNat) sz) b1]).getD zz Rw.z)))]) (m := [0, 1, 7, 3]) A.mem.len rfl rfl) b hb)) (hA.go A.mix fun b hb => A.keys_own b ((keys_pick (H := [some (.lst 2 2 (fun zz => nfc (a2.getD zz nz))), some (.lst 3 4 (fun zz => sfc (s4.getD zz sz))), none, some (.blk [.str ((a2.getD (((z.2 : Int)).toNat) nz).1), .int .i64 ((a2.getD (((z.2 : Int)).toNat) nz).2)]), some (.blk [.str ((s4.getD (((y.2 : Int)).toNat) sz).1), .bool ((s4.getD (((y.2 : Int)).toNat) sz).2.1), .bool ((s4.getD (((y.2 : Int)).toNat) sz).2.2)]), some (.blk [.int .i64 6, .int .i64 0, .int .i64 0, .int .i64 0, .int .i64 0, .int .i64 0, .int .i64 0, .int .i64 0, .int .i64 0, .int .i64 ((a2.getD (((z.2 : Int)).toNat) nz).2), .bool ((s4.getD (((y.2 : Int)).toNat) sz).2.1), .bool false, .bool ((s4.getD (((y.2 : Int)).toNat) sz).2.2), .int .i64 0, .int .i64 0, .int .i64 0, .bool false]), some (.lst 20 ([aa1 (a2.getD (((z.2 : Int)).toNat) nz) (s4.getD (((y.2 : Int)).toNat) sz) b1].length) (fun zz => rwc ([aa1 (a2.getD (((z.2 : Int)).toNat) nz) (s4.getD (((y.2 : Int)).toNat) sz) b1].getD zz Rw.z))), some (.row 128 20 ((y.1 ++ [aa1 (a2.getD (((z.2 : Int)).toNat) nz) (s4.getD (((y.2 : Int)).toNat) sz) b1]).length) 0 (fun zz => rwc ((y.1 ++ [aa1 (a2.getD (((z.2 : Int)).toNat) nz) (s4.getD (((y.2 : Int)).toNat) sz) b1]).getD zz Rw.z)))]) (m := [0, 1, 7, 3]) A.mem.len rfl rfl) b hb))⟩, ((B.trans A).cut [0, 2, 3, 5, 17, 18, 19, 23, 24, 25] rfl).mv 0 [0, 1, 7, 3] rfl rfl rfl rfl (by simp only [List.length_nil] at h0; omega)⟩)
     (fun h2 A => N hX 8 A rfl (ok_d (by omega) <| okE_nil) fun A => ⟨(y.1, z.2 + 1), _, (by have := h1; show _ - _ < _ - _; omega), ⟨by have := h1; show z.2 + 1 ≤ 2; omega, ⟨(by have q := hJ.2.tm; have q1 := hJ.1; rw [show 4 * z.2 + y.2 = 4 * (z.2 + 1) by omega] at q; exact q), RowsIn.ok _ _ _ _ hJ.2.rw A.mix fun b hb => A.keys_own b ((keys_pick (H := [some (.lst 2 2 (fun zz => nfc (a2.getD zz nz))), some (.lst 3 4 (fun zz => sfc (s4.getD zz sz))), some (.row 128 20 y.1.length 0 (fun zz => rwc (y.1.getD zz Rw.z))), some (.blk [.str ((a2.getD (((z.2 : Int)).toNat) nz).1), .int .i64 ((a2.getD (((z.2 : Int)).toNat) nz).2)])]) (m := [0, 1, 2]) A.mem.len rfl rfl) b hb)⟩⟩, ((B.trans A).cut [0, 2, 3, 17, 18, 19] rfl).mv 0 [0, 1, 2] rfl rfl rfl rfl (by simp only [List.length_nil] at h0; omega)⟩))
   (fun h1 A => N hX 10 A rfl rfl fun A => (have e5 : z.2 = 2 := (by have := hJ.1; omega); have e : z.1.length = 8 := (by have := hJ.2.len; omega); match A.giveRow 2 0 (by omega) rfl rfl rfl with | ⟨b, cp, A2, hG, ho, hk⟩ => RETR (J := fun x w w' => ∃ (L : List Rw) (b cp : Nat), x = .sla (some ⟨b, 0, none⟩) 8 cp ∧ (L.map tm = aatom ∧ RowsIn w.heap.size L w' [b]) ∧ w.heap.size ≤ b ∧ Given 128 20 8 (fun zz => rwc (L.getD zz Rw.z)) b cp w') hX (B.trans A2) (fun i e he => nil_no he) rfl rfl rfl rfl ⟨z.1, b, cp, (by show SV.sla _ z.1.length cp = _; rw [e]), ⟨(by have h2 := hJ.2.tm; rw [e5] at h2; exact h2), (RowsIn.ok _ _ _ _ hJ.2.rw A.mix fun b2 hb => by have : b2 = b := (by simpa using hb); rw [this]; exact ho)⟩, lo_of B (fun i e he => nil_no he) ho, (by rw [← e]; exact hG)⟩))
abbrev fz : List UInt8 × Int × Int := ([], 0, 0)
def ffc (x : List UInt8 × Int × Int) : List SV := [.str x.1, .int .i64 x.2.1, .int .i64 x.2.2]
theorem tyF : (∀ x, (ffc x).length = 3) ∧ (∀ x, inL 0 (ffc x) = true) ∧ (∀ x, ∃ vs, denL [] (ffc x) = some vs) := ⟨fun _ => rfl, fun _ => rfl, fun _ => ⟨_, rfl⟩⟩
def f3 : List (List UInt8 × Int × Int) := [([83, 89], 3, 3), ([76, 68], 1, 3), ([83, 84], 2, 2)]
def insN (x : List UInt8 × Int × Int) : In := ⟨7, 0, 0, 0, 0, 0, 0, 0, 0, 0, false, false, false, x.2.1, x.2.2, 0, false⟩
abbrev fr1 (x : List UInt8 × Int × Int) (b1 : Nat) : Rw := ⟨[68, 77, 66], x.1, insN x, some ⟨b1, 0, none⟩, [10], 1⟩
def afen : List (List UInt8 × List UInt8 × In × List Int) := f3.map fun x => ([68, 77, 66], x.1, insN x, [10])
structure AF (lo : Nat) (z : List Rw × Nat) (w : World) (ks : List Nat) : Prop where
  le : z.2 ≤ 3
  tm : z.1.map tm = afen.take z.2
  rw : RowsIn lo z.1 w ks
theorem AF.len {lo : Nat} {z : List Rw × Nat} {w : World} {ks : List Nat} (h : AF lo z w ks) : z.1.length = z.2 := by
  have h1 := congrArg List.length h.tm
  rw [List.length_map, List.length_take] at h1
  have h2 : afen.length = 3 := by decide
  have := h.le
  omega
theorem AF.nx {lo b1 : Nat} {z : List Rw × Nat} {w w1 : World} {ks ks1 : List Nat} {l : List (Nat × List SV)} (h : AF lo z w ks) (hk : (z.2 : Int) < 3) (hr : RowsIn lo z.1 w1 ks1) (hA : Acc lo [(b1, [.int .i64 10])] w1 ks1) : AF lo (z.1 ++ [fr1 (f3.getD ((z.2 : Int)).toNat fz) b1], z.2 + 1) w1 ks1 := by
  refine ⟨by have := h.le; show z.2 + 1 ≤ 3; omega, ?_, fun r hr' => ?_⟩
  · show List.map _ (z.1 ++ _) = _
    rw [List.map_append, h.tm, Int.toNat_natCast]
    have : z.2 = 0 ∨ z.2 = 1 ∨ z.2 = 2 := by omega
    rcases this with e | e | e <;> rw [e] <;> rfl
  · rcases List.mem_append.1 hr' with h1 | h1
    · exact hr r h1
    · simp only [List.mem_cons, List.mem_nil_iff, or_false] at h1
      subst h1
      exact lies_of (cs := []) [10] hA List.mem_cons_self
theorem afen_ : FnR Tryz.prog 71 [] [] (fun x w w' => ∃ (L : List Rw) (b cp : Nat), x = .sla (some ⟨b, 0, none⟩) 3 cp ∧ (L.map tm = afen ∧ RowsIn w.heap.size L w' [b]) ∧ w.heap.size ≤ b ∧ Given 128 20 3 (fun zz => rwc (L.getD zz Rw.z)) b cp w') :=
 enterR (n := 31) (by kernel_rfl) Tryz.func71 rfl rfl rfl fun G w a h0 A => N hX 11 A rfl rfl fun A => have A := A.asT fz ffc 3 tyF.1 tyF.2.1 tyF.2.2 f3 0 rfl; N hX 17 A rfl rfl fun A => have A := A.nilRow 2 128 20 (fun zz => rwc (([] : List Rw).getD zz Rw.z)) rfl (fun z => ⟨_, rfl, rfl⟩); LOOPJ (fun (z : List Rw × Nat) => [(0, .sla none 0 0), (2, .sl 1 z.1.length 0), (10, .sl 0 3 3), (11, .int .i64 ((3 : Nat) : Int)), (12, .int .i64 (z.2 : Int))]) (fun (z : List Rw × Nat) => [some (.lst 3 3 (fun zz => ffc (f3.getD zz fz))), some (.row 128 20 z.1.length 0 (fun zz => rwc (z.1.getD zz Rw.z)))]) (fun z w1 ks1 => AF w.heap.size z w1 ks1) (fun z => 3 - z.2) ([], 0) (A.cut [0, 2, 10, 11, 12] rfl) ⟨by decide, rfl, fun r hr => by cases hr⟩ fun z G1 a1 w1 hJ hg A B => have hA : Acc w.heap.size [] w1 _ := Acc.nil; have hR := hJ.rw;
 N hX 6 A rfl rfl fun A => forkD 13 A rfl
   (fun h1 A => N hX 14 A rfl (ok_d (by omega) <| ok_d (by omega) <| okE_nil) fun A => N hX 6 A rfl rfl fun A => have A := sy_sayD A 20 (.agg [.int .i64 7, .int .i64 0, .int .i64 0, .int .i64 0, .int .i64 0, .int .i64 0, .int .i64 0, .int .i64 0, .int .i64 0, .int .i64 0, .bool false, .bool false, .bool false, .int .i64 ((f3.getD (((z.2 : Int)).toNat) fz).2.1), .int .i64 ((f3.getD (((z.2 : Int)).toNat) fz).2.2), .int .i64 0, .bool false]) rfl (fun _ => rfl); N hX 9 A rfl rfl fun A => BSCI [.int .i64 10] (X := ⟨_, true⟩) hX RowsIn.ok B hA hR A rfl rfl rfl rfl fun b1 B hA hR A =>
 N hX 2 A rfl rfl fun A => have A := A.asT Rw.z rwc 20 tyR.1 tyR.2.1 tyR.2.2 [fr1 (f3.getD (((z.2 : Int)).toNat) fz) b1] 4 rfl; q_eff A rfl (aplE hX ((z.1 ++ [fr1 (f3.getD (((z.2 : Int)).toNat) fz) b1]).length) (fun zz => rwc ((z.1 ++ [fr1 (f3.getD (((z.2 : Int)).toNat) fz) b1]).getD zz Rw.z)) rfl rfl rfl rfl (Nat.le_refl _) (by have := hJ.len; have := hJ.le; omega) (by decide) List.length_append (fun k hk => by show rwc _ = rwc _; rw [getD_app_l hk]) (fun k hk => by show rwc _ = rwc _; rw [getD_app_r]) (fun z => ⟨_, rfl, rfl⟩) (fun k hk => ⟨_, rfl, okE_nil⟩)) fun A =>
 N hX 8 A rfl (ok_d (by omega) <| okE_nil) fun A => ⟨(z.1 ++ [fr1 (f3.getD (((z.2 : Int)).toNat) fz) b1], z.2 + 1), _, (by have := h1; show _ - _ < _ - _; omega), (hJ.nx (l := []) h1 (RowsIn.ok _ _ _ _ hR A.mix fun b hb => A.keys_own b ((keys_pick (H := [some (.lst 3 3 (fun zz => ffc (f3.getD zz fz))), none, some (.blk [.str ((f3.getD (((z.2 : Int)).toNat) fz).1), .int .i64 ((f3.getD (((z.2 : Int)).toNat) fz).2.1), .int .i64 ((f3.getD (((z.2 : Int)).toNat) fz).2.2)]), some (.blk [.int .i64 7, .int .i64 0, .int .i64 0, .int .i64 0, .int .i64 0, .int .i64 0, .int .i64 0, .int .i64 0, .int .i64 0, .int .i64 0, .bool false, .bool false, .bool false, .int .i64 ((f3.getD (((z.2 : Int)).toNat) fz).2.1), .int .i64 ((f3.getD (((z.2 : Int)).toNat) fz).2.2), .int .i64 0, .bool false]), some (.lst 20 ([fr1 (f3.getD (((z.2 : Int)).toNat) fz) b1].length) (fun zz => rwc ([fr1 (f3.getD (((z.2 : Int)).toNat) fz) b1].getD zz Rw.z))), some (.row 128 20 ((z.1 ++ [fr1 (f3.getD (((z.2 : Int)).toNat) fz) b1]).length) 0 (fun zz => rwc ((z.1 ++ [fr1 (f3.getD (((z.2 : Int)).toNat) fz) b1]).getD zz Rw.z)))]) (m := [0, 5]) A.mem.len rfl rfl) b hb)) (hA.go A.mix fun b hb => A.keys_own b ((keys_pick (H := [some (.lst 3 3 (fun zz => ffc (f3.getD zz fz))), none, some (.blk [.str ((f3.getD (((z.2 : Int)).toNat) fz).1), .int .i64 ((f3.getD (((z.2 : Int)).toNat) fz).2.1), .int .i64 ((f3.getD (((z.2 : Int)).toNat) fz).2.2)]), some (.blk [.int .i64 7, .int .i64 0, .int .i64 0, .int .i64 0, .int .i64 0, .int .i64 0, .int .i64 0, .int .i64 0, .int .i64 0, .int .i64 0, .bool false, .bool false, .bool false, .int .i64 ((f3.getD (((z.2 : Int)).toNat) fz).2.1), .int .i64 ((f3.getD (((z.2 : Int)).toNat) fz).2.2), .int .i64 0, .bool false]), some (.lst 20 ([fr1 (f3.getD (((z.2 : Int)).toNat) fz) b1].length) (fun zz => rwc ([fr1 (f3.getD (((z.2 : Int)).toNat) fz) b1].getD zz Rw.z))), some (.row 128 20 ((z.1 ++ [fr1 (f3.getD (((z.2 : Int)).toNat) fz) b1]).length) 0 (fun zz => rwc ((z.1 ++ [fr1 (f3.getD (((z.2 : Int)).toNat) fz) b1]).getD zz Rw.z)))]) (m := [0, 5]) A.mem.len rfl rfl) b hb))), ((B.trans A).cut [0, 2, 10, 11, 12] rfl).mv 0 [0, 5] rfl rfl rfl rfl (by simp only [List.length_nil] at h0; omega)⟩)
   (fun h1 A => N hX 10 A rfl rfl fun A => (have e5 : z.2 = 3 := (by have := hJ.le; omega); have e : z.1.length = 3 := (by have := hJ.len; omega); match A.giveRow 1 0 (by omega) rfl rfl rfl with | ⟨b, cp, A2, hG, ho, hk⟩ => RETR (J := fun x w w' => ∃ (L : List Rw) (b cp : Nat), x = .sla (some ⟨b, 0, none⟩) 3 cp ∧ (L.map tm = afen ∧ RowsIn w.heap.size L w' [b]) ∧ w.heap.size ≤ b ∧ Given 128 20 3 (fun zz => rwc (L.getD zz Rw.z)) b cp w') hX (B.trans A2) (fun i e he => nil_no he) rfl rfl rfl rfl ⟨z.1, b, cp, (by show SV.sla _ z.1.length cp = _; rw [e]), ⟨(by have h2 := hJ.tm; rw [e5] at h2; exact h2), (RowsIn.ok _ _ _ _ hJ.rw A.mix fun b2 hb => by have : b2 = b := (by simpa using hb); rw [this]; exact ho)⟩, lo_of B (fun i e he => nil_no he) ho, (by rw [← e]; exact hG)⟩))
abbrev aaccL (b1 b2 b3 : Nat) : List (Nat × List SV) := [(b3, [.str [76, 68, 82, 42], .str [], .int .i64 4, .int .i64 0, .int .i64 0, .int .i64 0, .int .i64 0, .int .i64 0, .int .i64 0, .int .i64 0, .int .i64 0, .int .i64 0, .ff, .ff, .ff, .int .i64 0, .int .i64 0, .int .i64 0, .ff, .sla (some ⟨b1, 0, none⟩) 2 2, .str [76, 68, 65, 82, 42], .str [], .int .i64 4, .int .i64 0, .int .i64 0, .int .i64 0, .int .i64 0, .int .i64 0, .int .i64 0, .int .i64 0, .int .i64 0, .int .i64 0, .tt, .ff, .ff, .int .i64 0, .int .i64 0, .int .i64 0, .ff, .sla (some ⟨b1, 0, none⟩) 2 2, .str [76, 68, 65, 80, 82, 42], .str [], .int .i64 4, .int .i64 0, .int .i64 0, .int .i64 0, .int .i64 0, .int .i64 0, .int .i64 0, .int .i64 0, .int .i64 0, .int .i64 0, .ff, .tt, .ff, .int .i64 0, .int .i64 0, .int .i64 0, .ff, .sla (some ⟨b1, 0, none⟩) 2 2, .str [83, 84, 82, 42], .str [], .int .i64 5, .int .i64 0, .int .i64 0, .int .i64 0, .int .i64 0, .int .i64 0, .int .i64 0, .int .i64 0, .int .i64 0, .int .i64 0, .ff, .ff, .ff, .int .i64 0, .int .i64 0, .int .i64 0, .ff, .sla (some ⟨b2, 0, none⟩) 2 2, .str [83, 84, 76, 82, 42], .str [], .int .i64 5, .int .i64 0, .int .i64 0, .int .i64 0, .int .i64 0, .int .i64 0, .int .i64 0, .int .i64 0, .int .i64 0, .int .i64 0, .ff, .ff, .tt, .int .i64 0, .int .i64 0, .int .i64 0, .ff, .sla (some ⟨b2, 0, none⟩) 2 2]), (b2, [.int .i64 2, .int .i64 6]), (b1, [.int .i64 1, .int .i64 6])]
theorem aacc_ : FnR Tryz.prog 69 [] [] (fun x w w' => ∃ b1 b2 b3 : Nat, x = .sla (some ⟨b3, 0, none⟩) 5 5 ∧ Acc w.heap.size (aaccL b1 b2 b3) w' []) :=
 enterR (n := 21) (by kernel_rfl) Tryz.func69 rfl rfl rfl fun G w a h0 A => have B := A; have hA : Acc w.heap.size [] w _ := Acc.nil; N hX 7 A rfl rfl fun A => BSCA [.int .i64 1, .int .i64 6] (X := ⟨_, true⟩) hX B hA A rfl rfl rfl rfl fun b1 B hA A =>
 BSCA [.int .i64 2, .int .i64 6] (X := ⟨_, true⟩) hX B hA A rfl rfl rfl rfl fun b2 B hA A =>
 N hX 21 A rfl rfl fun A => BSCA [.str [76, 68, 82, 42], .str [], .int .i64 4, .int .i64 0, .int .i64 0, .int .i64 0, .int .i64 0, .int .i64 0, .int .i64 0, .int .i64 0, .int .i64 0, .int .i64 0, .ff, .ff, .ff, .int .i64 0, .int .i64 0, .int .i64 0, .ff, .sla (some ⟨b1, 0, none⟩) 2 2, .str [76, 68, 65, 82, 42], .str [], .int .i64 4, .int .i64 0, .int .i64 0, .int .i64 0, .int .i64 0, .int .i64 0, .int .i64 0, .int .i64 0, .int .i64 0, .int .i64 0, .tt, .ff, .ff, .int .i64 0, .int .i64 0, .int .i64 0, .ff, .sla (some ⟨b1, 0, none⟩) 2 2, .str [76, 68, 65, 80, 82, 42], .str [], .int .i64 4, .int .i64 0, .int .i64 0, .int .i64 0, .int .i64 0, .int .i64 0, .int .i64 0, .int .i64 0, .int .i64 0, .int .i64 0, .ff, .tt, .ff, .int .i64 0, .int .i64 0, .int .i64 0, .ff, .sla (some ⟨b1, 0, none⟩) 2 2, .str [83, 84, 82, 42], .str [], .int .i64 5, .int .i64 0, .int .i64 0, .int .i64 0, .int .i64 0, .int .i64 0, .int .i64 0, .int .i64 0, .int .i64 0, .int .i64 0, .ff, .ff, .ff, .int .i64 0, .int .i64 0, .int .i64 0, .ff, .sla (some ⟨b2, 0, none⟩) 2 2, .str [83, 84, 76, 82, 42], .str [], .int .i64 5, .int .i64 0, .int .i64 0, .int .i64 0, .int .i64 0, .int .i64 0, .int .i64 0, .int .i64 0, .int .i64 0, .int .i64 0, .ff, .ff, .tt, .int .i64 0, .int .i64 0, .int .i64 0, .ff, .sla (some ⟨b2, 0, none⟩) 2 2] (X := ⟨_, true⟩) hX B hA A rfl rfl rfl rfl fun b3 B hA A =>
 N hX 4 A rfl rfl fun A => RETR (J := fun x w w' => ∃ b1 b2 b3 : Nat, x = .sla (some ⟨b3, 0, none⟩) 5 5 ∧ Acc w.heap.size (aaccL b1 b2 b3) w' []) hX (B.trans A) (fun i e he => nil_no he) rfl rfl rfl rfl ⟨b1, b2, b3, rfl, (hA.now A).bare⟩
abbrev aothL (b1 b2 b3 b4 b5 : Nat) : List (Nat × List SV) := [(b5, [.str [77, 79, 86], .str [], .int .i64 1, .int .i64 0, .int .i64 0, .int .i64 0, .int .i64 0, .int .i64 0, .int .i64 0, .int .i64 0, .int .i64 0, .int .i64 0, .ff, .ff, .ff, .int .i64 0, .int .i64 0, .int .i64 0, .ff, .sla (some ⟨b1, 0, none⟩) 2 2, .str [77, 79, 86], .str [], .int .i64 2, .int .i64 0, .int .i64 0, .int .i64 0, .int .i64 0, .int .i64 0, .int .i64 0, .int .i64 0, .int .i64 0, .int .i64 0, .ff, .ff, .ff, .int .i64 0, .int .i64 0, .int .i64 0, .ff, .sla (some ⟨b2, 0, none⟩) 2 2, .str [73, 83, 66], .str [], .int .i64 8, .int .i64 0, .int .i64 0, .int .i64 0, .int .i64 0, .int .i64 0, .int .i64 0, .int .i64 0, .int .i64 0, .int .i64 0, .ff, .ff, .ff, .int .i64 0, .int .i64 0, .int .i64 0, .ff, .sla none 0 0, .str [67, 66, 90], .str [], .int .i64 9, .int .i64 0, .int .i64 0, .int .i64 0, .int .i64 0, .int .i64 0, .int .i64 0, .int .i64 0, .int .i64 0, .int .i64 0, .ff, .ff, .ff, .int .i64 0, .int .i64 0, .int .i64 0, .tt, .sla (some ⟨b3, 0, none⟩) 2 2, .str [67, 66, 78, 90], .str [], .int .i64 9, .int .i64 0, .int .i64 0, .int .i64 0, .int .i64 0, .int .i64 0, .int .i64 0, .int .i64 0, .int .i64 0, .int .i64 0, .ff, .ff, .ff, .int .i64 0, .int .i64 0, .int .i64 0, .ff, .sla (some ⟨b4, 0, none⟩) 2 2]), (b4, [.int .i64 2, .int .i64 7]), (b3, [.int .i64 2, .int .i64 7]), (b2, [.int .i64 1, .int .i64 2]), (b1, [.int .i64 1, .int .i64 5])]
theorem aoth_ : FnR Tryz.prog 72 [] [] (fun x w w' => ∃ b1 b2 b3 b4 b5 : Nat, x = .sla (some ⟨b5, 0, none⟩) 5 5 ∧ Acc w.heap.size (aothL b1 b2 b3 b4 b5) w' []) :=
 enterR (n := 16) (by kernel_rfl) Tryz.func72 rfl rfl rfl fun G w a h0 A => have B := A; have hA : Acc w.heap.size [] w _ := Acc.nil; N hX 8 A rfl rfl fun A => BSCA [.int .i64 1, .int .i64 5] (X := ⟨_, true⟩) hX B hA A rfl rfl rfl rfl fun b1 B hA A =>
 N hX 2 A rfl rfl fun A => BSCA [.int .i64 1, .int .i64 2] (X := ⟨_, true⟩) hX B hA A rfl rfl rfl rfl fun b2 B hA A =>
 N hX 4 A rfl rfl fun A => BSCA [.int .i64 2, .int .i64 7] (X := ⟨_, true⟩) hX B hA A rfl rfl rfl rfl fun b3 B hA A =>
 N hX 2 A rfl rfl fun A => BSCA [.int .i64 2, .int .i64 7] (X := ⟨_, true⟩) hX B hA A rfl rfl rfl rfl fun b4 B hA A =>
 N hX 1 A rfl rfl fun A => BSCA [.str [77, 79, 86], .str [], .int .i64 1, .int .i64 0, .int .i64 0, .int .i64 0, .int .i64 0, .int .i64 0, .int .i64 0, .int .i64 0, .int .i64 0, .int .i64 0, .ff, .ff, .ff, .int .i64 0, .int .i64 0, .int .i64 0, .ff, .sla (some ⟨b1, 0, none⟩) 2 2, .str [77, 79, 86], .str [], .int .i64 2, .int .i64 0, .int .i64 0, .int .i64 0, .int .i64 0, .int .i64 0, .int .i64 0, .int .i64 0, .int .i64 0, .int .i64 0, .ff, .ff, .ff, .int .i64 0, .int .i64 0, .int .i64 0, .ff, .sla (some ⟨b2, 0, none⟩) 2 2, .str [73, 83, 66], .str [], .int .i64 8, .int .i64 0, .int .i64 0, .int .i64 0, .int .i64 0, .int .i64 0, .int .i64 0, .int .i64 0, .int .i64 0, .int .i64 0, .ff, .ff, .ff, .int .i64 0, .int .i64 0, .int .i64 0, .ff, .sla none 0 0, .str [67, 66, 90], .str [], .int .i64 9, .int .i64 0, .int .i64 0, .int .i64 0, .int .i64 0, .int .i64 0, .int .i64 0, .int .i64 0, .int .i64 0, .int .i64 0, .ff, .ff, .ff, .int .i64 0, .int .i64 0, .int .i64 0, .tt, .sla (some ⟨b3, 0, none⟩) 2 2, .str [67, 66, 78, 90], .str [], .int .i64 9, .int .i64 0, .int .i64 0, .int .i64 0, .int .i64 0, .int .i64 0, .int .i64 0, .int .i64 0, .int .i64 0, .int .i64 0, .ff, .ff, .ff, .int .i64 0, .int .i64 0, .int .i64 0, .ff, .sla (some ⟨b4, 0, none⟩) 2 2] (X := ⟨_, true⟩) hX B hA A rfl rfl rfl rfl fun b5 B hA A =>
 N hX 4 A rfl rfl fun A => RETR (J := fun x w w' => ∃ b1 b2 b3 b4 b5 : Nat, x = .sla (some ⟨b5, 0, none⟩) 5 5 ∧ Acc w.heap.size (aothL b1 b2 b3 b4 b5) w' []) hX (B.trans A) (fun i e he => nil_no he) rfl rfl rfl rfl ⟨b1, b2, b3, b4, b5, rfl, (hA.now A).bare⟩
def aaccR (b1 b2 : Nat) : List Rw := [⟨[76, 68, 82, 42], [], ⟨4, 0, 0, 0, 0, 0, 0, 0, 0, 0, false, false, false, 0, 0, 0, false⟩, some ⟨b1, 0, none⟩, [1, 6], 2⟩, ⟨[76, 68, 65, 82, 42], [], ⟨4, 0, 0, 0, 0, 0, 0, 0, 0, 0, true, false, false, 0, 0, 0, false⟩, some ⟨b1, 0, none⟩, [1, 6], 2⟩, ⟨[76, 68, 65, 80, 82, 42], [], ⟨4, 0, 0, 0, 0, 0, 0, 0, 0, 0, false, true, false, 0, 0, 0, false⟩, some ⟨b1, 0, none⟩, [1, 6], 2⟩, ⟨[83, 84, 82, 42], [], ⟨5, 0, 0, 0, 0, 0, 0, 0, 0, 0, false, false, false, 0, 0, 0, false⟩, some ⟨b2, 0, none⟩, [2, 6], 2⟩, ⟨[83, 84, 76, 82, 42], [], ⟨5, 0, 0, 0, 0, 0, 0, 0, 0, 0, false, false, true, 0, 0, 0, false⟩, some ⟨b2, 0, none⟩, [2, 6], 2⟩]
def aaccT : List (List UInt8 × List UInt8 × In × List Int) := [([76, 68, 82, 42], [], ⟨4, 0, 0, 0, 0, 0, 0, 0, 0, 0, false, false, false, 0, 0, 0, false⟩, [1, 6]), ([76, 68, 65, 82, 42], [], ⟨4, 0, 0, 0, 0, 0, 0, 0, 0, 0, true, false, false, 0, 0, 0, false⟩, [1, 6]), ([76, 68, 65, 80, 82, 42], [], ⟨4, 0, 0, 0, 0, 0, 0, 0, 0, 0, false, true, false, 0, 0, 0, false⟩, [1, 6]), ([83, 84, 82, 42], [], ⟨5, 0, 0, 0, 0, 0, 0, 0, 0, 0, false, false, false, 0, 0, 0, false⟩, [2, 6]), ([83, 84, 76, 82, 42], [], ⟨5, 0, 0, 0, 0, 0, 0, 0, 0, 0, false, false, true, 0, 0, 0, false⟩, [2, 6])]
theorem aacc_rows {b1 b2 b3 lo lo2 : Nat} {w : World} {ks : List Nat} (h : Acc lo (aaccL b1 b2 b3) w ks) (hlo : lo2 ≤ lo) : RowsIn lo2 (aaccR b1 b2) w ks := by
  intro r hr
  unfold aaccR at hr
  simp only [List.mem_cons, List.mem_nil_iff, or_false] at hr
  rcases hr with rfl | rfl | rfl | rfl | rfl
  · have q := lies_of (b := b1) (cs := []) [1, 6] h (by show _ ∈ aaccL b1 b2 b3; unfold aaccL; simp); exact ⟨q.1, fun z hz => Nat.le_trans hlo (q.2 z hz)⟩
  · have q := lies_of (b := b1) (cs := []) [1, 6] h (by show _ ∈ aaccL b1 b2 b3; unfold aaccL; simp); exact ⟨q.1, fun z hz => Nat.le_trans hlo (q.2 z hz)⟩
  · have q := lies_of (b := b1) (cs := []) [1, 6] h (by show _ ∈ aaccL b1 b2 b3; unfold aaccL; simp); exact ⟨q.1, fun z hz => Nat.le_trans hlo (q.2 z hz)⟩
  · have q := lies_of (b := b2) (cs := []) [2, 6] h (by show _ ∈ aaccL b1 b2 b3; unfold aaccL; simp); exact ⟨q.1, fun z hz => Nat.le_trans hlo (q.2 z hz)⟩
  · have q := lies_of (b := b2) (cs := []) [2, 6] h (by show _ ∈ aaccL b1 b2 b3; unfold aaccL; simp); exact ⟨q.1, fun z hz => Nat.le_trans hlo (q.2 z hz)⟩
theorem aacc_den (b1 b2 b3 : Nat) : denL [] ((aaccR b1 b2).flatMap rwc) = denL [] [.str [76, 68, 82, 42], .str [], .int .i64 4, .int .i64 0, .int .i64 0, .int .i64 0, .int .i64 0, .int .i64 0, .int .i64 0, .int .i64 0, .int .i64 0, .int .i64 0, .ff, .ff, .ff, .int .i64 0, .int .i64 0, .int .i64 0, .ff, .sla (some ⟨b1, 0, none⟩) 2 2, .str [76, 68, 65, 82, 42], .str [], .int .i64 4, .int .i64 0, .int .i64 0, .int .i64 0, .int .i64 0, .int .i64 0, .int .i64 0, .int .i64 0, .int .i64 0, .int .i64 0, .tt, .ff, .ff, .int .i64 0, .int .i64 0, .int .i64 0, .ff, .sla (some ⟨b1, 0, none⟩) 2 2, .str [76, 68, 65, 80, 82, 42], .str [], .int .i64 4, .int .i64 0, .int .i64 0, .int .i64 0, .int .i64 0, .int .i64 0, .int .i64 0, .int .i64 0, .int .i64 0, .int .i64 0, .ff, .tt, .ff, .int .i64 0, .int .i64 0, .int .i64 0, .ff, .sla (some ⟨b1, 0, none⟩) 2 2, .str [83, 84, 82, 42], .str [], .int .i64 5, .int .i64 0, .int .i64 0, .int .i64 0, .int .i64 0, .int .i64 0, .int .i64 0, .int .i64 0, .int .i64 0, .int .i64 0, .ff, .ff, .ff, .int .i64 0, .int .i64 0, .int .i64 0, .ff, .sla (some ⟨b2, 0, none⟩) 2 2, .str [83, 84, 76, 82, 42], .str [], .int .i64 5, .int .i64 0, .int .i64 0, .int .i64 0, .int .i64 0, .int .i64 0, .int .i64 0, .int .i64 0, .int .i64 0, .int .i64 0, .ff, .ff, .tt, .int .i64 0, .int .i64 0, .int .i64 0, .ff, .sla (some ⟨b2, 0, none⟩) 2 2] := by rfl
section
variable {n : Nat} {ks : List Nat} {G0 : Gr} {w0 : World} {T : List (Nat × SV)} {H : Hp} {G : Gr} {a : Act} {w : World} {Q : Exit → Act → World → Prop} {K : List Fr} {ops : Array Oper} {o : Oper} {rest : List Oper}
theorem CALLACC (A : Sy n T H ks G0 w0 G a w) (h1 : callS n ops T o = some (69, []))
    (k : ∀ b1 b2 b3 vs a' w', denL [] ((aaccR b1 b2).flatMap rwc) = some vs → Lies b3 0 vs w' (keys H G) → RowsIn w.heap.size (aaccR b1 b2) w' (keys H G) → Sy n (extS T o.dst (.sla (some ⟨b3, 0, none⟩) 5 5)) H ks G0 w0 G a' w' → Goal Tryz.prog Q K (.ops ops rest) a' w') : Goal Tryz.prog Q K (.ops ops (o :: rest)) a w := by
  refine CALLR [] aacc_ A h1 rfl rfl rfl rfl fun x a' w' hJ hk A' => ?_
  obtain ⟨b1, b2, b3, rfl, hA⟩ := hJ
  have hA := acc_keys hA hk
  obtain ⟨_, vs, q1, q2⟩ := hA _ List.mem_cons_self
  exact k b1 b2 b3 vs a' w' ((aacc_den b1 b2 b3).trans q1) q2 (aacc_rows hA (Nat.le_refl _)) A'
end
def aothR (b1 b2 b3 b4 : Nat) : List Rw := [⟨[77, 79, 86], [], ⟨1, 0, 0, 0, 0, 0, 0, 0, 0, 0, false, false, false, 0, 0, 0, false⟩, some ⟨b1, 0, none⟩, [1, 5], 2⟩, ⟨[77, 79, 86], [], ⟨2, 0, 0, 0, 0, 0, 0, 0, 0, 0, false, false, false, 0, 0, 0, false⟩, some ⟨b2, 0, none⟩, [1, 2], 2⟩, ⟨[73, 83, 66], [], ⟨8, 0, 0, 0, 0, 0, 0, 0, 0, 0, false, false, false, 0, 0, 0, false⟩, none, [], 0⟩, ⟨[67, 66, 90], [], ⟨9, 0, 0, 0, 0, 0, 0, 0, 0, 0, false, false, false, 0, 0, 0, true⟩, some ⟨b3, 0, none⟩, [2, 7], 2⟩, ⟨[67, 66, 78, 90], [], ⟨9, 0, 0, 0, 0, 0, 0, 0, 0, 0, false, false, false, 0, 0, 0, false⟩, some ⟨b4, 0, none⟩, [2, 7], 2⟩]
def aothT : List (List UInt8 × List UInt8 × In × List Int) := [([77, 79, 86], [], ⟨1, 0, 0, 0, 0, 0, 0, 0, 0, 0, false, false, false, 0, 0, 0, false⟩, [1, 5]), ([77, 79, 86], [], ⟨2, 0, 0, 0, 0, 0, 0, 0, 0, 0, false, false, false, 0, 0, 0, false⟩, [1, 2]), ([73, 83, 66], [], ⟨8, 0, 0, 0, 0, 0, 0, 0, 0, 0, false, false, false, 0, 0, 0, false⟩, []), ([67, 66, 90], [], ⟨9, 0, 0, 0, 0, 0, 0, 0, 0, 0, false, false, false, 0, 0, 0, true⟩, [2, 7]), ([67, 66, 78, 90], [], ⟨9, 0, 0, 0, 0, 0, 0, 0, 0, 0, false, false, false, 0, 0, 0, false⟩, [2, 7])]
theorem aoth_rows {b1 b2 b3 b4 b5 lo lo2 : Nat} {w : World} {ks : List Nat} (h : Acc lo (aothL b1 b2 b3 b4 b5) w ks) (hlo : lo2 ≤ lo) : RowsIn lo2 (aothR b1 b2 b3 b4) w ks := by
  intro r hr
  unfold aothR at hr
  simp only [List.mem_cons, List.mem_nil_iff, or_false] at hr
  rcases hr with rfl | rfl | rfl | rfl | rfl
  · have q := lies_of (b := b1) (cs := []) [1, 5] h (by show _ ∈ aothL b1 b2 b3 b4 b5; unfold aothL; simp); exact ⟨q.1, fun z hz => Nat.le_trans hlo (q.2 z hz)⟩
  · have q := lies_of (b := b2) (cs := []) [1, 2] h (by show _ ∈ aothL b1 b2 b3 b4 b5; unfold aothL; simp); exact ⟨q.1, fun z hz => Nat.le_trans hlo (q.2 z hz)⟩
  · exact ⟨.inl ⟨rfl, rfl⟩, fun q hq => by cases hq⟩
  · have q := lies_of (b := b3) (cs := []) [2, 7] h (by show _ ∈ aothL b1 b2 b3 b4 b5; unfold aothL; simp); exact ⟨q.1, fun z hz => Nat.le_trans hlo (q.2 z hz)⟩
  · have q := lies_of (b := b4) (cs := []) [2, 7] h (by show _ ∈ aothL b1 b2 b3 b4 b5; unfold aothL; simp); exact ⟨q.1, fun z hz => Nat.le_trans hlo (q.2 z hz)⟩
theorem aoth_den (b1 b2 b3 b4 b5 : Nat) : denL [] ((aothR b1 b2 b3 b4).flatMap rwc) = denL [] [.str [77, 79, 86], .str [], .int .i64 1, .int .i64 0, .int .i64 0, .int .i64 0, .int .i64 0, .int .i64 0, .int .i64 0, .int .i64 0, .int .i64 0, .int .i64 0, .ff, .ff, .ff, .int .i64 0, .int .i64 0, .int .i64 0, .ff, .sla (some ⟨b1, 0, none⟩) 2 2, .str [77, 79, 86], .str [], .int .i64 2, .int .i64 0, .int .i64 0, .int .i64 0, .int .i64 0, .int .i64 0, .int .i64 0, .int .i64 0, .int .i64 0, .int .i64 0, .ff, .ff, .ff, .int .i64 0, .int .i64 0, .int .i64 0, .ff, .sla (some ⟨b2, 0, none⟩) 2 2, .str [73, 83, 66], .str [], .int .i64 8, .int .i64 0, .int .i64 0, .int .i64 0, .int .i64 0, .int .i64 0, .int .i64 0, .int .i64 0, .int .i64 0, .int .i64 0, .ff, .ff, .ff, .int .i64 0, .int .i64 0, .int .i64 0, .ff, .sla none 0 0, .str [67, 66, 90], .str [], .int .i64 9, .int .i64 0, .int .i64 0, .int .i64 0, .int .i64 0, .int .i64 0, .int .i64 0, .int .i64 0, .int .i64 0, .int .i64 0, .ff, .ff, .ff, .int .i64 0, .int .i64 0, .int .i64 0, .tt, .sla (some ⟨b3, 0, none⟩) 2 2, .str [67, 66, 78, 90], .str [], .int .i64 9, .int .i64 0, .int .i64 0, .int .i64 0, .int .i64 0, .int .i64 0, .int .i64 0, .int .i64 0, .int .i64 0, .int .i64 0, .ff, .ff, .ff, .int .i64 0, .int .i64 0, .int .i64 0, .ff, .sla (some ⟨b4, 0, none⟩) 2 2] := by rfl
section
variable {n : Nat} {ks : List Nat} {G0 : Gr} {w0 : World} {T : List (Nat × SV)} {H : Hp} {G : Gr} {a : Act} {w : World} {Q : Exit → Act → World → Prop} {K : List Fr} {ops : Array Oper} {o : Oper} {rest : List Oper}
theorem CALLAOT (A : Sy n T H ks G0 w0 G a w) (h1 : callS n ops T o = some (72, []))
    (k : ∀ b1 b2 b3 b4 b5 vs a' w', denL [] ((aothR b1 b2 b3 b4).flatMap rwc) = some vs → Lies b5 0 vs w' (keys H G) → RowsIn w.heap.size (aothR b1 b2 b3 b4) w' (keys H G) → Sy n (extS T o.dst (.sla (some ⟨b5, 0, none⟩) 5 5)) H ks G0 w0 G a' w' → Goal Tryz.prog Q K (.ops ops rest) a' w') : Goal Tryz.prog Q K (.ops ops (o :: rest)) a w := by
  refine CALLR [] aoth_ A h1 rfl rfl rfl rfl fun x a' w' hJ hk A' => ?_
  obtain ⟨b1, b2, b3, b4, b5, rfl, hA⟩ := hJ
  have hA := acc_keys hA hk
  obtain ⟨_, vs, q1, q2⟩ := hA _ List.mem_cons_self
  exact k b1 b2 b3 b4 b5 vs a' w' ((aoth_den b1 b2 b3 b4 b5).trans q1) q2 (aoth_rows hA (Nat.le_refl _)) A'
end
def armT : List (List UInt8 × List UInt8 × In × List Int) := (((acomp ++ aaccT) ++ aatom) ++ afen) ++ aothT
theorem alang_ : FnR Tryz.prog 26 [] [] (fun x w w' => ∃ (L : List Rw) (b cp : Nat), x = .agg [.str [88, 48], .str [88, 49], .str [88, 50], .str [88, 51], .str [88, 52], .str [88, 53], .str [88, 54], .str [88, 55], .str [66], .str [72], .str [87], .str [], .str [35], .str [], .str [], .str [], .sla (some ⟨b, 0, none⟩) 31 cp] ∧ (L.map tm = armT ∧ RowsIn w.heap.size L w' [b]) ∧ w.heap.size ≤ b ∧ Given 128 20 31 (fun zz => rwc (L.getD zz Rw.z)) b cp w') :=
 enterR (n := 11) (by kernel_rfl) Tryz.func26 rfl rfl rfl fun G w a h0 A => N hX 7 A rfl rfl fun A => CALL1 [] (aregs_ ) A rfl rfl rfl rfl rfl rfl rfl fun A => N hX 1 A rfl rfl fun A => have hz := A.mix.size; CALLROW (t := 3) (F := fun (L : List Rw) zz => rwc (L.getD zz Rw.z)) (R := fun L b w w' => L.map tm = acomp ∧ RowsIn w.heap.size L w' [b]) acomp_ A rfl rfl fun L1 e1 cp1 a1_ w1 G1 hR1 hlo hk A => have l1 : L1.length = 10 := (by have q := congrArg List.length hR1.1; rw [List.length_map] at q; exact q); have hI := (rows_keys hR1.2 hk).mono hz; have B := A; have A := B.base; 
 have hz := Nat.le_trans B.mix.size A.mix.size; CALLACC A rfl fun p1 p2 p3 vp a2_ w2 hv hL hO A => have hI := (RowsIn.ok _ _ _ _ hI A.mix A.keys_own).app (hO.mono hz); have lx2 : (aaccR p1 p2).length = 5 := rfl; have l12 : (L1 ++ (aaccR p1 p2)).length = 15 := (by rw [List.length_append, l1, lx2]); have B := B.trans A; have A := A.base; have A := A.adoptL Rw.z rwc 20 tyR.1 tyR.2.1 tyR.2.2 (aaccR p1 p2) hL hv 4 rfl;
 have hz := Nat.le_trans B.mix.size A.mix.size; CALLROW (t := 5) (F := fun (L : List Rw) zz => rwc (L.getD zz Rw.z)) (R := fun L b w w' => L.map tm = aatom ∧ RowsIn w.heap.size L w' [b]) aatom_ A rfl rfl fun L3 e3 cp3 a3_ w3 G3 hR3 hlo hk A => have lx3 : L3.length = 8 := (by have q := congrArg List.length hR3.1; rw [List.length_map] at q; exact q); have hI2 := (rows_keys hR3.2 hk).mono hz; have hI := (RowsIn.ok _ _ _ _ hI A.mix A.keys_own).app hI2; have l13 : ((L1 ++ (aaccR p1 p2)) ++ L3).length = 23 := (by rw [List.length_append, l12, lx3]); have B := B.trans A; have A := A.base; 
 have hz := Nat.le_trans B.mix.size A.mix.size; CALLROW (t := 6) (F := fun (L : List Rw) zz => rwc (L.getD zz Rw.z)) (R := fun L b w w' => L.map tm = afen ∧ RowsIn w.heap.size L w' [b]) afen_ A rfl rfl fun L4 e4 cp4 a4_ w4 G4 hR4 hlo hk A => have lx4 : L4.length = 3 := (by have q := congrArg List.length hR4.1; rw [List.length_map] at q; exact q); have hI2 := (rows_keys hR4.2 hk).mono hz; have hI := (RowsIn.ok _ _ _ _ hI A.mix A.keys_own).app hI2; have l14 : (((L1 ++ (aaccR p1 p2)) ++ L3) ++ L4).length = 26 := (by rw [List.length_append, l13, lx4]); have B := B.trans A; have A := A.base; 
 have hz := Nat.le_trans B.mix.size A.mix.size; CALLAOT A rfl fun q1 q2 q3 q4 q5 vq a5_ w5 hv hL hO A => have hI := (RowsIn.ok _ _ _ _ hI A.mix A.keys_own).app (hO.mono hz); have lx5 : (aothR q1 q2 q3 q4).length = 5 := rfl; have l15 : ((((L1 ++ (aaccR p1 p2)) ++ L3) ++ L4) ++ (aothR q1 q2 q3 q4)).length = 31 := (by rw [List.length_append, l14, lx5]); have B := B.trans A; have A := A.base; have A := A.adoptL Rw.z rwc 20 tyR.1 tyR.2.1 tyR.2.2 (aothR q1 q2 q3 q4) hL hv 7 rfl;
 N hX 1 A rfl rfl fun A => have A := A.freeze 1 rfl; have A := A.freeze 3 rfl; have A := A.freeze 4 rfl; CALL1 [6, 1, 2, 3, 4, 5] (concat5_ L1 (aaccR p1 p2) L3 L4 (aothR q1 q2 q3 q4) 0 5 0 0 5 l1 l12 l13 l14) A rfl rfl rfl rfl rfl rfl rfl fun A => match A.giveRow 7 9 (by decide) rfl rfl rfl with | ⟨b, cp, A2, hG, ho, hkb⟩ => (have h1 := RowsIn.ok _ _ _ _ hI A2.mix A2.keys_own; have h2 := RowsIn.ok _ _ _ [b] hI A2.mix (fun b2 hb => by have : b2 = b := (by simpa using hb); rw [this]; exact ho); have hbl := lo_of B (fun i e he => nil_no he) ho; have B := B.trans A2; have A := A2.base;
 N hX 5 A rfl rfl fun A => RETR (J := fun x w w' => ∃ (L : List Rw) (b cp : Nat), x = .agg [.str [88, 48], .str [88, 49], .str [88, 50], .str [88, 51], .str [88, 52], .str [88, 53], .str [88, 54], .str [88, 55], .str [66], .str [72], .str [87], .str [], .str [35], .str [], .str [], .str [], .sla (some ⟨b, 0, none⟩) 31 cp] ∧ (L.map tm = armT ∧ RowsIn w.heap.size L w' [b]) ∧ w.heap.size ≤ b ∧ Given 128 20 31 (fun zz => rwc (L.getD zz Rw.z)) b cp w') hX (B.trans A) (fun i e he => nil_no he) rfl rfl rfl rfl ⟨((((L1 ++ (aaccR p1 p2)) ++ L3) ++ L4) ++ (aothR q1 q2 q3 q4)), b, cp, rfl, ⟨by rw [List.map_append, List.map_append, List.map_append, List.map_append, hR1.1, hR3.1, hR4.1]; rfl, h1.one h2 A.mix⟩, hbl, hG.mix A.mix hkb⟩)
end Go.Proofs.YtedlaclfhgneeabGreatDoor
namespace Go.Proofs.YtedlaclfhgneeabGreatDoor
open Go.RowKit
set_option linter.unusedVariables false
set_option linter.unusedSimpArgs false
set_option maxRecDepth 100000
set_option maxHeartbeats 2000000
section
variable {g : Lg} {L : List Rw} {i : In} {lb : List UInt8}
theorem cn_find : ∀ (L : List Rw), (L.map cn).find? (rowP i) = (L.find? (rowP i)).map cn
  | [] => rfl
  | r :: L => by
    rw [List.map_cons, List.find?_cons, List.find?_cons]
    have e : rowP i (cn r) = rowP i r := rfl
    rw [e]
    split
    · rfl
    · exact cn_find L
theorem cn_rowR : rowR (L.map cn) i = cn (rowR L i) := by
  unfold rowR; rw [cn_find]; cases L.find? (rowP i) <;> rfl
theorem cn_rowQ : rowQ (L.map cn) i = rowQ L i := by
  unfold rowQ; rw [cn_find]; cases L.find? (rowP i) <;> rfl
theorem cn_prP : prP g (L.map cn) i lb = prP g L i lb := by
  unfold prP; rw [cn_rowR, cn_rowQ]; rfl
end
end Go.Proofs.YtedlaclfhgneeabGreatDoor
namespace Go.Proofs.YtedlaclfhgneeabGreatDoor
open Go.RowKit
set_option linter.unusedVariables false
set_option linter.unusedSimpArgs false
set_option linter.unusedSectionVars false
section
variable {P : Program} {n : Nat} {ks : List Nat} {G0 : Gr} {w0 : World} {T : List (Nat × SV)} {H : Hp} {G : Gr} {a : Act} {w w' : World} {Q : Exit → Act → World → Prop} {K : List Fr} {ops : Array Oper} {o : Oper} {rest : List Oper} {fuel i : Nat} {listed : Array Bool}
theorem any_in {id : Nat} (f : Nat) (hmo : P.follows .mixedOrders = true) (hf : ops.size = f) (A : Sy n T H ks G0 w0 G a w) (h : ∀ {w}, Sy n T H ks G0 w0 G a w → wpAny P .any ops (wpK P Q K) f (Array.replicate f false) a w) : Goal P Q K (.code (.region id ops true)) a w := by
  subst hf
  refine wp_region_any hmo ?_
  have hB1 : Ms H ks G0 w0 G w.drew := A.ms.grow (Grow.refl w).drew
  exact h (hB1.sy A.size A.defers A.get)
theorem any_at {rs : List Nat} (hr : Region.ready .any ops listed = rs) (hne : rs ≠ []) (h : ∀ i ∈ rs, wpOp P ops Q i (wpAny P .any ops Q fuel (listed.setIfInBounds i true)) a w) : wpAny P .any ops Q (fuel + 1) listed a w := by
  unfold wpAny
  rw [hr]
  exact ⟨fun e => absurd e hne, h⟩
theorem any_end (hr : Region.ready .any ops listed = []) (h : Goal P Q K .norm a w) : wpAny P .any ops (wpK P Q K) fuel listed a w := by
  cases fuel with
  | zero => exact ⟨hr, h⟩
  | succ f =>
    unfold wpAny
    rw [hr]
    exact ⟨fun _ => h, fun i hi => by cases hi⟩
theorem any_does (ho : ops[i]? = some o) (h : Does P ops o a w fun v w' => wpAny P .any ops Q fuel (listed.setIfInBounds i true) (a.put o.dst v) w') : wpOp P ops Q i (wpAny P .any ops Q fuel (listed.setIfInBounds i true)) a w := by
  unfold wpOp
  rcases h with ⟨hw, h⟩ | ⟨hw, h⟩
  · simp only [ho, hw, if_true]
    refine .inl (Oper.wp_mono (fun a2 w2 h => ?_) (h Q))
    obtain ⟨v, rfl, h1⟩ := h
    exact h1
  · simp only [ho, hw, Bool.false_eq_true, if_false]
    exact h
theorem any_eff {x : SV} {H' : Hp} (ho : ops[i]? = some o) (A : Sy n T H ks G0 w0 G a w) (hd : fitsD n o.dst = true) (h : EffOK P n ops ks G0 w0 T H o x H') (hk : ∀ {G a w}, Sy n (extS T o.dst x) H' ks G0 w0 G a w → wpAny P .any ops Q fuel (listed.setIfInBounds i true) a w) : wpOp P ops Q i (wpAny P .any ops Q fuel (listed.setIfInBounds i true)) a w := by
  refine any_does ho ?_
  rcases h G a w A with ⟨hw, h⟩ | ⟨hw, F, h1, h2⟩
  · refine .inl ⟨hw, fun Q' => ?_⟩
    refine Oper.wp_mono (fun a' w' hh => ?_) (h Q')
    obtain ⟨v, rfl, F, h1, h2⟩ := hh
    exact ⟨v, rfl, hk (Sy.put (h2.sy A.size A.defers fun t y hy => den_mono F y (A.get t y hy)) hd h1)⟩
  · exact .inr ⟨hw, hk (Sy.put (h2.sy A.size A.defers fun t y hy => den_mono F y (A.get t y hy)) hd h1)⟩
theorem does_R {f : Nat} {J : SV → World → World → Prop} {K : Value → World → Prop} (hf : FnR P f [] [] J) (A : Sy n T H ks G0 w0 G a w) (h1 : callS n ops T o = some (f, []))
    (hk : ∀ x v w', J x w w' → (∀ k, (keys H G).contains k = true → k < w.heap.size) → Sy n (extS T o.dst x) H ks G0 w0 G (a.put o.dst v) w' → K v w') : Does P ops o a w K := by
  obtain ⟨hd, us, hu, hdo⟩ := callS_do (P := P) (ops := ops) A h1 hf.1
  have hu' : us = [] := by cases hu; rfl
  subst hu'
  have hM : Mem [] [] w := ⟨rfl, fun i e h => by simp at h, fun i j e f L M _ h => by simp at h⟩
  refine hdo (hf.2 [] w [] hM rfl) fun e w' he => ?_
  obtain ⟨x, v, e1, rfl, hg, hJ⟩ := he
  refine ⟨v, rfl, hk x v _ hJ (fun k hz => ?_) (Sy.put ⟨A.size, A.defers, A.get, ⟨A.mem.len, fun i e hi => (A.mem.ent i e hi).mix hg.mix (fun _ _ _ => rfl), A.mem.sep⟩, A.pre, A.own, A.mix.grow hg⟩ hd (by simpa using den_mono G x e1))⟩
  obtain ⟨i, e, L, q1, q2, q3, q4⟩ := mem_keys.1 hz
  have := A.mem.ent i e q1
  rw [q3] at this
  rw [← q4]; exact EntOK.lt this (mut_full q2)
theorem any_agg {β : Type} {e s m t f : Nat} {l : List SV} {F : β → Nat → List SV} {R : β → Nat → World → World → Prop} (ho : ops[i]? = some o) (hf : FnR P f [] [] (fun x w w' => ∃ (L : β) (b cp : Nat), x = .agg (l ++ [.sla (some ⟨b, 0, none⟩) m cp]) ∧ R L b w w' ∧ w.heap.size ≤ b ∧ Given e s m (F L) b cp w')) (A : Sy n T H ks G0 w0 G a w) (hd : o.dst = some t) (h1 : callS n ops T o = some (f, []))
    (k : ∀ L b cp a' w' G', R L b w w' → w.heap.size ≤ b → (∀ k, (keys (H ++ [some (.row e s m 0 (F L))]) G').contains k = true → k < w.heap.size ∨ k = b) → Sy n ((t, .agg (l ++ [.sl H.length m 0])) :: extS T o.dst (.agg (l ++ [.sla (some ⟨b, 0, none⟩) m cp]))) (H ++ [some (.row e s m 0 (F L))]) ks G0 w0 G' a' w' → wpAny P .any ops Q fuel (listed.setIfInBounds i true) a' w') : wpOp P ops Q i (wpAny P .any ops Q fuel (listed.setIfInBounds i true)) a w := by
  refine any_does ho (does_R hf A h1 fun x v w' hJ hk A' => ?_)
  obtain ⟨L, b, cp, rfl, hR, hlo, hg⟩ := hJ
  have hl : look (extS T o.dst (.agg (l ++ [.sla (some ⟨b, 0, none⟩) m cp]))) t = some (.agg (l ++ [.sla (some ⟨b, 0, none⟩) m cp])) := by rw [hd]; simp [extS, look, Nat.beq_refl]
  have hlen := A'.mem.len
  have A2 := A'.takeRowG t (y := .agg (l ++ [.sl H.length m 0])) hg (fun i e L q1 q2 q3 => by
    have := A.mem.ent i e q1
    rw [q2] at this
    have := EntOK.lt this q3
    omega) (Nat.le_trans A.mix.size hlo) hl (by
      unfold den
      rw [denL_last (y := .sla (some ⟨b, 0, none⟩) m cp)]
      unfold den
      rw [List.getElem?_append_right (by omega), hlen]
      simp [rm])
  refine k L b cp _ w' _ hR hlo (fun q hq => ?_) A2
  obtain ⟨i, e', L', q1, q2, q3, q4⟩ := mem_keys.1 hq
  by_cases hi : i < H.length
  · rw [List.getElem?_append_left hi] at q1
    rw [List.getElem?_append_left (by omega)] at q3
    exact .inl (hk q (mem_keys.2 ⟨i, e', L', q1, q2, q3, q4⟩))
  · have hi2 : i = H.length := by
      have := (List.getElem?_eq_some_iff.1 q1).1
      simp at this; omega
    subst hi2
    rw [List.getElem?_append_right (by omega), hlen] at q3
    simp at q3
    subst q3
    exact .inr q4.symm
end
end Go.Proofs.YtedlaclfhgneeabGreatDoor
namespace Go.Proofs.YtedlaclfhgneeabGreatDoor
open Go.RowKit
set_option linter.unusedVariables false
set_option linter.unusedSimpArgs false
set_option maxRecDepth 100000
set_option maxHeartbeats 2000000
set_option simprocs false
def armG : Lg := ⟨[88, 48], [88, 49], [88, 50], [88, 51], [88, 52], [88, 53], [88, 54], [88, 55], [66], [72], [87], [], [35], [], [], []⟩
def armC : List Rw := armT.map rwOf
theorem arm_pa {L : List Rw} {ws : List Tk} (hm : L.map tm = armT) : PaOK armG ws L := pa_ok hm (by decide +kernel) (by decide +kernel) (by decide +kernel) (fun k => by
  by_cases h : k < 4
  · have : k = 0 ∨ k = 1 ∨ k = 2 ∨ k = 3 := by omega
    rcases this with rfl | rfl | rfl | rfl <;> decide
  · rw [List.getD_eq_getElem?_getD, List.getElem?_eq_none (by simpa using h)]; decide)
theorem arm_par {L : List Rw} (h : L.map tm = armT) (ws : List Tk) : parI armG ws L = parI armG ws armC ∧ parT armG ws L = parT armG ws armC ∧ parE armG ws L = parE armG ws armC ∧ parA armG ws L = parA armG ws armC := by
  have := cn_par (g := armG) (ws := ws) (L := L)
  rw [cn_tm h] at this
  exact ⟨this.1.symm, this.2.1.symm, this.2.2.1.symm, this.2.2.2.symm⟩
theorem arm_pr {L : List Rw} {i : In} {lb : List UInt8} (h : L.map tm = armT) : prP armG L i lb = prP armG armC i lb := by
  have := cn_prP (g := armG) (L := L) (i := i) (lb := lb)
  rw [cn_tm h] at this
  exact this.symm
theorem arm_lg : LgL armG := by
  refine ⟨⟨fun r => ?_, by decide⟩, fun k => ?_, by decide, by decide, by decide⟩
  · unfold regnm0
    split
    · exact Nat.zero_le _
    · next h =>
      have : (r).toNat = 0 ∨ (r).toNat = 1 ∨ (r).toNat = 2 ∨ (r).toNat = 3 ∨ (r).toNat = 4 ∨ (r).toNat = 5 ∨ (r).toNat = 6 ∨ (r).toNat = 7 := by
        simp only [Bool.or_eq_true, decide_eq_true_eq] at h; omega
      rcases this with e | e | e | e | e | e | e | e <;> rw [e] <;> decide
  · by_cases h : k < 4
    · have : k = 0 ∨ k = 1 ∨ k = 2 ∨ k = 3 := by omega
      rcases this with rfl | rfl | rfl | rfl <;> decide
    · rw [List.getD_eq_getElem?_getD, List.getElem?_eq_none (by simpa using h)]; decide
theorem arm_prok {L : List Rw} {i : In} {lb : List UInt8} (hi : InR i) (hl : lb.length ≤ 100000) (hm : L.map tm = armT) : PrOK armG L i lb := pr_ok hm arm_lg (by decide +kernel) (by decide +kernel) hi hl
theorem aparse_ (ws : List Tk) (d : Nat) (hn : ws.length ≤ 1000000) (hw : WsOK ws) (os : List (Nat × Obj)) (hM : ∀ w ks, Gl os w ks → ∃ m, w.cell? ⟨0, 0, none⟩ = some (.int .i64 m)) : FnI (Gl os) Tryz.prog 10 [.sl 0 ws.length d] [some (.lst 4 ws.length (fun zz => tkc (ws.getD zz tok0)))] (Rt (.tup [.agg (inQ9 (parI armG ws armC)), .str (parT armG ws armC), .int .i64 (parE armG ws armC), .int .i64 (parA armG ws armC)]) [some (.lst 4 ws.length (fun zz => tkc (ws.getD zz tok0)))]) :=
 enterI (n := 13) (by kernel_rfl) Tryz.func10 rfl rfl rfl fun G w a h0 hI A => N hX 10 A rfl rfl fun A => CALLAGG (t := 6) (l := [.str [88, 48], .str [88, 49], .str [88, 50], .str [88, 51], .str [88, 52], .str [88, 53], .str [88, 54], .str [88, 55], .str [66], .str [72], .str [87], .str [], .str [35], .str [], .str [], .str []]) (F := fun (L : List Rw) zz => rwc (L.getD zz Rw.z)) (R := fun L b w w' => L.map tm = armT ∧ RowsIn w.heap.size L w' [b]) alang_ A rfl rfl fun L b cp a1 w1 G1 hR hlo hkk A => have hl20 : L.length = 31 := (by have q := congrArg List.length hR.1; rw [List.length_map] at q; exact q.trans (by decide +kernel)); have hRI := rows_keys hR.2 hkk; have B0 := A; have A := A.base; have A := A.rowAs 2 L.length (fun zz => rwc (L.getD zz Rw.z)) rfl hl20 (fun _ _ => rfl) (fun z => ⟨_, rfl, rfl⟩); have A := A.say 6 (.agg [.str [88, 48], .str [88, 49], .str [88, 50], .str [88, 51], .str [88, 52], .str [88, 53], .str [88, 54], .str [88, 55], .str [66], .str [72], .str [87], .str [], .str [35], .str [], .str [], .str [], .sl 2 L.length 0]) rfl (by rw [hl20] <;> rfl); have A := A.freeze 2 rfl; have hTb := RowsIn.ok.now A hRI; have B := B0.trans A; have A := A.base; have hI2 : PrI os L _ _ := ⟨fun r hr => (hTb r hr).1, Gl.ok.now B hI⟩; N hX 1 A rfl rfl fun A => CALLI [2, 0] PrI.ok hI2 (lparse_ armG L 0 ws d hn hw os hM (arm_pa hR.1)) A rfl rfl rfl rfl rfl rfl rfl fun A => N hX 11 A rfl rfl fun A => have e := arm_par hR.1 ws; RETN hX (B.trans A) rfl rfl rfl h0 rfl rfl rfl rfl (by rw [← e.1, ← e.2.1, ← e.2.2.1, ← e.2.2.2] <;> rfl) rfl
theorem aprint_ (i : In) (lb : List UInt8) (os : List (Nat × Obj)) (hM : ∀ w ks, Gl os w ks → ∃ m, w.cell? ⟨0, 0, none⟩ = some (.int .i64 m)) (hT : ∀ w ks, Gl os w ks → Lib.TabIs Tryz.prog w "internal/strconv.uint64pow10" .u64 Lib.pow10Tab) (hE : ∀ w ks, Gl os w ks → ∃ ev, w.cell? ⟨1, 0, none⟩ = some ev ∧ (ev = .nilIface ∨ ∃ te pe, ev = .iface te pe)) (hp : ∀ L : List Rw, L.map tm = armT → PrOK armG L i lb) : FnI (Gl os) Tryz.prog 12 [.agg (inQ9 i), .str lb] [] (Rt (.tup [.str ((prP armG armC i lb).1), .int .i64 ((prP armG armC i lb).2)]) []) :=
 enterI (n := 12) (by kernel_rfl) Tryz.func12 rfl rfl rfl fun G w a h0 hI A => N hX 8 A rfl rfl fun A => any_in 8 hmo rfl A fun A => any_at (rs := [0, 1, 2]) (by kernel_rfl) (by decide) (List.forall_mem_cons.2 ⟨any_agg (t := 6) (l := [.str [88, 48], .str [88, 49], .str [88, 50], .str [88, 51], .str [88, 52], .str [88, 53], .str [88, 54], .str [88, 55], .str [66], .str [72], .str [87], .str [], .str [35], .str [], .str [], .str []]) (F := fun (L : List Rw) zz => rwc (L.getD zz Rw.z)) (R := fun L b w w' => L.map tm = armT ∧ RowsIn w.heap.size L w' [b]) rfl alang_ A rfl rfl fun L b cp a1 w1 G1 hR hlo hkk A => have hl20 : L.length = 31 := (by have q := congrArg List.length hR.1; rw [List.length_map] at q; exact q.trans (by decide +kernel)); have hRI := rows_keys hR.2 hkk; have B0 := A; have A := A.base; have A := A.rowAs 1 L.length (fun zz => rwc (L.getD zz Rw.z)) rfl hl20 (fun _ _ => rfl) (fun z => ⟨_, rfl, rfl⟩); have A := A.say 6 (.agg [.str [88, 48], .str [88, 49], .str [88, 50], .str [88, 51], .str [88, 52], .str [88, 53], .str [88, 54], .str [88, 55], .str [66], .str [72], .str [87], .str [], .str [35], .str [], .str [], .str [], .sl 1 L.length 0]) rfl (by rw [hl20] <;> rfl); have A := A.freeze 1 rfl; have hTb := RowsIn.ok.now A hRI; have B := B0.trans A; have A := A.base; have hI2 : PrI os L _ _ := ⟨fun r hr => (hTb r hr).1, Gl.ok.now B hI⟩; any_at (rs := [1, 2]) (by kernel_rfl) (by decide) (List.forall_mem_cons.2 ⟨any_eff (x := .agg (inQ9 i)) (H' := [some (.blk (inQ9 i)), some (.lst 20 L.length (fun zz => rwc (L.getD zz Rw.z)))]) rfl A rfl (eff_auto (X := ⟨_, true⟩) (out := .val _ _) hX rfl rfl) fun A => any_at (rs := [2]) (by kernel_rfl) (by decide) (List.forall_mem_cons.2 ⟨any_eff (x := .str lb) (H' := [some (.blk (inQ9 i)), some (.lst 20 L.length (fun zz => rwc (L.getD zz Rw.z)))]) rfl A rfl (eff_auto (X := ⟨_, true⟩) (out := .val _ _) hX rfl rfl) fun A => any_at (rs := [3]) (by kernel_rfl) (by decide) (List.forall_mem_cons.2 ⟨any_eff (x := .tup [.str ((prP armG L i lb).1), .int .i64 ((prP armG L i lb).2)]) (H' := [some (.blk (inQ9 i)), some (.lst 20 L.length (fun zz => rwc (L.getD zz Rw.z)))]) rfl A rfl (callIE [1] PrI.ok hI2 (lprint_ armG L 0 i lb os hM hT hE (hp L hR.1)) rfl rfl rfl rfl rfl rfl rfl) fun A => any_at (rs := [4, 5]) (by kernel_rfl) (by decide) (List.forall_mem_cons.2 ⟨any_eff (x := .str ((prP armG L i lb).1)) (H' := [some (.blk (inQ9 i)), some (.lst 20 L.length (fun zz => rwc (L.getD zz Rw.z)))]) rfl A rfl (eff_auto (X := ⟨_, true⟩) (out := .val _ _) hX rfl rfl) fun A => any_at (rs := [5]) (by kernel_rfl) (by decide) (List.forall_mem_cons.2 ⟨any_eff (x := .int .i64 ((prP armG L i lb).2)) (H' := [some (.blk (inQ9 i)), some (.lst 20 L.length (fun zz => rwc (L.getD zz Rw.z)))]) rfl A rfl (eff_auto (X := ⟨_, true⟩) (out := .val _ _) hX rfl rfl) fun A => any_at (rs := [6]) (by kernel_rfl) (by decide) (List.forall_mem_cons.2 ⟨any_eff (x := .str ((prP armG L i lb).1)) (H' := [some (.blk (inQ9 i)), some (.lst 20 L.length (fun zz => rwc (L.getD zz Rw.z)))]) rfl A rfl (eff_auto (X := ⟨_, true⟩) (out := .val _ _) hX rfl rfl) fun A => any_at (rs := [7]) (by kernel_rfl) (by decide) (List.forall_mem_cons.2 ⟨any_eff (x := .int .i64 ((prP armG L i lb).2)) (H' := [some (.blk (inQ9 i)), some (.lst 20 L.length (fun zz => rwc (L.getD zz Rw.z)))]) rfl A rfl (eff_auto (X := ⟨_, true⟩) (out := .val _ _) hX rfl rfl) fun A => any_end (by kernel_rfl) (N hX 2 A rfl rfl fun A => RETN hX (B.trans A) rfl rfl rfl h0 rfl rfl rfl rfl (by rw [← arm_pr hR.1] <;> rfl) rfl),
         (List.forall_mem_nil _)⟩),
        (List.forall_mem_nil _)⟩),
       (List.forall_mem_nil _)⟩),
      (List.forall_mem_cons.2 ⟨any_eff (x := .int .i64 ((prP armG L i lb).2)) (H' := [some (.blk (inQ9 i)), some (.lst 20 L.length (fun zz => rwc (L.getD zz Rw.z)))]) rfl A rfl (eff_auto (X := ⟨_, true⟩) (out := .val _ _) hX rfl rfl) fun A => any_at (rs := [4]) (by kernel_rfl) (by decide) (List.forall_mem_cons.2 ⟨any_eff (x := .str ((prP armG L i lb).1)) (H' := [some (.blk (inQ9 i)), some (.lst 20 L.length (fun zz => rwc (L.getD zz Rw.z)))]) rfl A rfl (eff_auto (X := ⟨_, true⟩) (out := .val _ _) hX rfl rfl) fun A => any_at (rs := [6]) (by kernel_rfl) (by decide) (List.forall_mem_cons.2 ⟨any_eff (x := .str ((prP armG L i lb).1)) (H' := [some (.blk (inQ9 i)), some (.lst 20 L.length (fun zz => rwc (L.getD zz Rw.z)))]) rfl A rfl (eff_auto (X := ⟨_, true⟩) (out := .val _ _) hX rfl rfl) fun A => any_at (rs := [7]) (by kernel_rfl) (by decide) (List.forall_mem_cons.2 ⟨any_eff (x := .int .i64 ((prP armG L i lb).2)) (H' := [some (.blk (inQ9 i)), some (.lst 20 L.length (fun zz => rwc (L.getD zz Rw.z)))]) rfl A rfl (eff_auto (X := ⟨_, true⟩) (out := .val _ _) hX rfl rfl) fun A => any_end (by kernel_rfl) (N hX 2 A rfl rfl fun A => RETN hX (B.trans A) rfl rfl rfl h0 rfl rfl rfl rfl (by rw [← arm_pr hR.1] <;> rfl) rfl),
         (List.forall_mem_nil _)⟩),
        (List.forall_mem_nil _)⟩),
       (List.forall_mem_nil _)⟩),
      (List.forall_mem_nil _)⟩)⟩),
     (List.forall_mem_nil _)⟩),
    (List.forall_mem_nil _)⟩),
   (List.forall_mem_cons.2 ⟨any_eff (x := .str lb) (H' := [some (.blk (inQ9 i)), some (.lst 20 L.length (fun zz => rwc (L.getD zz Rw.z)))]) rfl A rfl (eff_auto (X := ⟨_, true⟩) (out := .val _ _) hX rfl rfl) fun A => any_at (rs := [1]) (by kernel_rfl) (by decide) (List.forall_mem_cons.2 ⟨any_eff (x := .agg (inQ9 i)) (H' := [some (.blk (inQ9 i)), some (.lst 20 L.length (fun zz => rwc (L.getD zz Rw.z)))]) rfl A rfl (eff_auto (X := ⟨_, true⟩) (out := .val _ _) hX rfl rfl) fun A => any_at (rs := [3]) (by kernel_rfl) (by decide) (List.forall_mem_cons.2 ⟨any_eff (x := .tup [.str ((prP armG L i lb).1), .int .i64 ((prP armG L i lb).2)]) (H' := [some (.blk (inQ9 i)), some (.lst 20 L.length (fun zz => rwc (L.getD zz Rw.z)))]) rfl A rfl (callIE [1] PrI.ok hI2 (lprint_ armG L 0 i lb os hM hT hE (hp L hR.1)) rfl rfl rfl rfl rfl rfl rfl) fun A => any_at (rs := [4, 5]) (by kernel_rfl) (by decide) (List.forall_mem_cons.2 ⟨any_eff (x := .str ((prP armG L i lb).1)) (H' := [some (.blk (inQ9 i)), some (.lst 20 L.length (fun zz => rwc (L.getD zz Rw.z)))]) rfl A rfl (eff_auto (X := ⟨_, true⟩) (out := .val _ _) hX rfl rfl) fun A => any_at (rs := [5]) (by kernel_rfl) (by decide) (List.forall_mem_cons.2 ⟨any_eff (x := .int .i64 ((prP armG L i lb).2)) (H' := [some (.blk (inQ9 i)), some (.lst 20 L.length (fun zz => rwc (L.getD zz Rw.z)))]) rfl A rfl (eff_auto (X := ⟨_, true⟩) (out := .val _ _) hX rfl rfl) fun A => any_at (rs := [6]) (by kernel_rfl) (by decide) (List.forall_mem_cons.2 ⟨any_eff (x := .str ((prP armG L i lb).1)) (H' := [some (.blk (inQ9 i)), some (.lst 20 L.length (fun zz => rwc (L.getD zz Rw.z)))]) rfl A rfl (eff_auto (X := ⟨_, true⟩) (out := .val _ _) hX rfl rfl) fun A => any_at (rs := [7]) (by kernel_rfl) (by decide) (List.forall_mem_cons.2 ⟨any_eff (x := .int .i64 ((prP armG L i lb).2)) (H' := [some (.blk (inQ9 i)), some (.lst 20 L.length (fun zz => rwc (L.getD zz Rw.z)))]) rfl A rfl (eff_auto (X := ⟨_, true⟩) (out := .val _ _) hX rfl rfl) fun A => any_end (by kernel_rfl) (N hX 2 A rfl rfl fun A => RETN hX (B.trans A) rfl rfl rfl h0 rfl rfl rfl rfl (by rw [← arm_pr hR.1] <;> rfl) rfl),
         (List.forall_mem_nil _)⟩),
        (List.forall_mem_nil _)⟩),
       (List.forall_mem_nil _)⟩),
      (List.forall_mem_cons.2 ⟨any_eff (x := .int .i64 ((prP armG L i lb).2)) (H' := [some (.blk (inQ9 i)), some (.lst 20 L.length (fun zz => rwc (L.getD zz Rw.z)))]) rfl A rfl (eff_auto (X := ⟨_, true⟩) (out := .val _ _) hX rfl rfl) fun A => any_at (rs := [4]) (by kernel_rfl) (by decide) (List.forall_mem_cons.2 ⟨any_eff (x := .str ((prP armG L i lb).1)) (H' := [some (.blk (inQ9 i)), some (.lst 20 L.length (fun zz => rwc (L.getD zz Rw.z)))]) rfl A rfl (eff_auto (X := ⟨_, true⟩) (out := .val _ _) hX rfl rfl) fun A => any_at (rs := [6]) (by kernel_rfl) (by decide) (List.forall_mem_cons.2 ⟨any_eff (x := .str ((prP armG L i lb).1)) (H' := [some (.blk (inQ9 i)), some (.lst 20 L.length (fun zz => rwc (L.getD zz Rw.z)))]) rfl A rfl (eff_auto (X := ⟨_, true⟩) (out := .val _ _) hX rfl rfl) fun A => any_at (rs := [7]) (by kernel_rfl) (by decide) (List.forall_mem_cons.2 ⟨any_eff (x := .int .i64 ((prP armG L i lb).2)) (H' := [some (.blk (inQ9 i)), some (.lst 20 L.length (fun zz => rwc (L.getD zz Rw.z)))]) rfl A rfl (eff_auto (X := ⟨_, true⟩) (out := .val _ _) hX rfl rfl) fun A => any_end (by kernel_rfl) (N hX 2 A rfl rfl fun A => RETN hX (B.trans A) rfl rfl rfl h0 rfl rfl rfl rfl (by rw [← arm_pr hR.1] <;> rfl) rfl),
         (List.forall_mem_nil _)⟩),
        (List.forall_mem_nil _)⟩),
       (List.forall_mem_nil _)⟩),
      (List.forall_mem_nil _)⟩)⟩),
     (List.forall_mem_nil _)⟩),
    (List.forall_mem_nil _)⟩),
   (List.forall_mem_nil _)⟩)⟩),
  (List.forall_mem_cons.2 ⟨any_eff (x := .agg (inQ9 i)) (H' := [some (.blk (inQ9 i))]) rfl A rfl (eff_auto (X := ⟨_, true⟩) (out := .val _ _) hX rfl rfl) fun A => any_at (rs := [0, 2]) (by kernel_rfl) (by decide) (List.forall_mem_cons.2 ⟨any_agg (t := 6) (l := [.str [88, 48], .str [88, 49], .str [88, 50], .str [88, 51], .str [88, 52], .str [88, 53], .str [88, 54], .str [88, 55], .str [66], .str [72], .str [87], .str [], .str [35], .str [], .str [], .str []]) (F := fun (L : List Rw) zz => rwc (L.getD zz Rw.z)) (R := fun L b w w' => L.map tm = armT ∧ RowsIn w.heap.size L w' [b]) rfl alang_ A rfl rfl fun L b cp a1 w1 G1 hR hlo hkk A => have hl20 : L.length = 31 := (by have q := congrArg List.length hR.1; rw [List.length_map] at q; exact q.trans (by decide +kernel)); have hRI := rows_keys hR.2 hkk; have B0 := A; have A := A.base; have A := A.rowAs 1 L.length (fun zz => rwc (L.getD zz Rw.z)) rfl hl20 (fun _ _ => rfl) (fun z => ⟨_, rfl, rfl⟩); have A := A.say 6 (.agg [.str [88, 48], .str [88, 49], .str [88, 50], .str [88, 51], .str [88, 52], .str [88, 53], .str [88, 54], .str [88, 55], .str [66], .str [72], .str [87], .str [], .str [35], .str [], .str [], .str [], .sl 1 L.length 0]) rfl (by rw [hl20] <;> rfl); have A := A.freeze 1 rfl; have hTb := RowsIn.ok.now A hRI; have B := B0.trans A; have A := A.base; have hI2 : PrI os L _ _ := ⟨fun r hr => (hTb r hr).1, Gl.ok.now B hI⟩; any_at (rs := [2]) (by kernel_rfl) (by decide) (List.forall_mem_cons.2 ⟨any_eff (x := .str lb) (H' := [some (.blk (inQ9 i)), some (.lst 20 L.length (fun zz => rwc (L.getD zz Rw.z)))]) rfl A rfl (eff_auto (X := ⟨_, true⟩) (out := .val _ _) hX rfl rfl) fun A => any_at (rs := [3]) (by kernel_rfl) (by decide) (List.forall_mem_cons.2 ⟨any_eff (x := .tup [.str ((prP armG L i lb).1), .int .i64 ((prP armG L i lb).2)]) (H' := [some (.blk (inQ9 i)), some (.lst 20 L.length (fun zz => rwc (L.getD zz Rw.z)))]) rfl A rfl (callIE [1] PrI.ok hI2 (lprint_ armG L 0 i lb os hM hT hE (hp L hR.1)) rfl rfl rfl rfl rfl rfl rfl) fun A => any_at (rs := [4, 5]) (by kernel_rfl) (by decide) (List.forall_mem_cons.2 ⟨any_eff (x := .str ((prP armG L i lb).1)) (H' := [some (.blk (inQ9 i)), some (.lst 20 L.length (fun zz => rwc (L.getD zz Rw.z)))]) rfl A rfl (eff_auto (X := ⟨_, true⟩) (out := .val _ _) hX rfl rfl) fun A => any_at (rs := [5]) (by kernel_rfl) (by decide) (List.forall_mem_cons.2 ⟨any_eff (x := .int .i64 ((prP armG L i lb).2)) (H' := [some (.blk (inQ9 i)), some (.lst 20 L.length (fun zz => rwc (L.getD zz Rw.z)))]) rfl A rfl (eff_auto (X := ⟨_, true⟩) (out := .val _ _) hX rfl rfl) fun A => any_at (rs := [6]) (by kernel_rfl) (by decide) (List.forall_mem_cons.2 ⟨any_eff (x := .str ((prP armG L i lb).1)) (H' := [some (.blk (inQ9 i)), some (.lst 20 L.length (fun zz => rwc (L.getD zz Rw.z)))]) rfl A rfl (eff_auto (X := ⟨_, true⟩) (out := .val _ _) hX rfl rfl) fun A => any_at (rs := [7]) (by kernel_rfl) (by decide) (List.forall_mem_cons.2 ⟨any_eff (x := .int .i64 ((prP armG L i lb).2)) (H' := [some (.blk (inQ9 i)), some (.lst 20 L.length (fun zz => rwc (L.getD zz Rw.z)))]) rfl A rfl (eff_auto (X := ⟨_, true⟩) (out := .val _ _) hX rfl rfl) fun A => any_end (by kernel_rfl) (N hX 2 A rfl rfl fun A => RETN hX (B.trans A) rfl rfl rfl h0 rfl rfl rfl rfl (by rw [← arm_pr hR.1] <;> rfl) rfl),
         (List.forall_mem_nil _)⟩),
        (List.forall_mem_nil _)⟩),
       (List.forall_mem_nil _)⟩),
      (List.forall_mem_cons.2 ⟨any_eff (x := .int .i64 ((prP armG L i lb).2)) (H' := [some (.blk (inQ9 i)), some (.lst 20 L.length (fun zz => rwc (L.getD zz Rw.z)))]) rfl A rfl (eff_auto (X := ⟨_, true⟩) (out := .val _ _) hX rfl rfl) fun A => any_at (rs := [4]) (by kernel_rfl) (by decide) (List.forall_mem_cons.2 ⟨any_eff (x := .str ((prP armG L i lb).1)) (H' := [some (.blk (inQ9 i)), some (.lst 20 L.length (fun zz => rwc (L.getD zz Rw.z)))]) rfl A rfl (eff_auto (X := ⟨_, true⟩) (out := .val _ _) hX rfl rfl) fun A => any_at (rs := [6]) (by kernel_rfl) (by decide) (List.forall_mem_cons.2 ⟨any_eff (x := .str ((prP armG L i lb).1)) (H' := [some (.blk (inQ9 i)), some (.lst 20 L.length (fun zz => rwc (L.getD zz Rw.z)))]) rfl A rfl (eff_auto (X := ⟨_, true⟩) (out := .val _ _) hX rfl rfl) fun A => any_at (rs := [7]) (by kernel_rfl) (by decide) (List.forall_mem_cons.2 ⟨any_eff (x := .int .i64 ((prP armG L i lb).2)) (H' := [some (.blk (inQ9 i)), some (.lst 20 L.length (fun zz => rwc (L.getD zz Rw.z)))]) rfl A rfl (eff_auto (X := ⟨_, true⟩) (out := .val _ _) hX rfl rfl) fun A => any_end (by kernel_rfl) (N hX 2 A rfl rfl fun A => RETN hX (B.trans A) rfl rfl rfl h0 rfl rfl rfl rfl (by rw [← arm_pr hR.1] <;> rfl) rfl),
         (List.forall_mem_nil _)⟩),
        (List.forall_mem_nil _)⟩),
       (List.forall_mem_nil _)⟩),
      (List.forall_mem_nil _)⟩)⟩),
     (List.forall_mem_nil _)⟩),
    (List.forall_mem_nil _)⟩),
   (List.forall_mem_cons.2 ⟨any_eff (x := .str lb) (H' := [some (.blk (inQ9 i))]) rfl A rfl (eff_auto (X := ⟨_, true⟩) (out := .val _ _) hX rfl rfl) fun A => any_at (rs := [0]) (by kernel_rfl) (by decide) (List.forall_mem_cons.2 ⟨any_agg (t := 6) (l := [.str [88, 48], .str [88, 49], .str [88, 50], .str [88, 51], .str [88, 52], .str [88, 53], .str [88, 54], .str [88, 55], .str [66], .str [72], .str [87], .str [], .str [35], .str [], .str [], .str []]) (F := fun (L : List Rw) zz => rwc (L.getD zz Rw.z)) (R := fun L b w w' => L.map tm = armT ∧ RowsIn w.heap.size L w' [b]) rfl alang_ A rfl rfl fun L b cp a1 w1 G1 hR hlo hkk A => have hl20 : L.length = 31 := (by have q := congrArg List.length hR.1; rw [List.length_map] at q; exact q.trans (by decide +kernel)); have hRI := rows_keys hR.2 hkk; have B0 := A; have A := A.base; have A := A.rowAs 1 L.length (fun zz => rwc (L.getD zz Rw.z)) rfl hl20 (fun _ _ => rfl) (fun z => ⟨_, rfl, rfl⟩); have A := A.say 6 (.agg [.str [88, 48], .str [88, 49], .str [88, 50], .str [88, 51], .str [88, 52], .str [88, 53], .str [88, 54], .str [88, 55], .str [66], .str [72], .str [87], .str [], .str [35], .str [], .str [], .str [], .sl 1 L.length 0]) rfl (by rw [hl20] <;> rfl); have A := A.freeze 1 rfl; have hTb := RowsIn.ok.now A hRI; have B := B0.trans A; have A := A.base; have hI2 : PrI os L _ _ := ⟨fun r hr => (hTb r hr).1, Gl.ok.now B hI⟩; any_at (rs := [3]) (by kernel_rfl) (by decide) (List.forall_mem_cons.2 ⟨any_eff (x := .tup [.str ((prP armG L i lb).1), .int .i64 ((prP armG L i lb).2)]) (H' := [some (.blk (inQ9 i)), some (.lst 20 L.length (fun zz => rwc (L.getD zz Rw.z)))]) rfl A rfl (callIE [1] PrI.ok hI2 (lprint_ armG L 0 i lb os hM hT hE (hp L hR.1)) rfl rfl rfl rfl rfl rfl rfl) fun A => any_at (rs := [4, 5]) (by kernel_rfl) (by decide) (List.forall_mem_cons.2 ⟨any_eff (x := .str ((prP armG L i lb).1)) (H' := [some (.blk (inQ9 i)), some (.lst 20 L.length (fun zz => rwc (L.getD zz Rw.z)))]) rfl A rfl (eff_auto (X := ⟨_, true⟩) (out := .val _ _) hX rfl rfl) fun A => any_at (rs := [5]) (by kernel_rfl) (by decide) (List.forall_mem_cons.2 ⟨any_eff (x := .int .i64 ((prP armG L i lb).2)) (H' := [some (.blk (inQ9 i)), some (.lst 20 L.length (fun zz => rwc (L.getD zz Rw.z)))]) rfl A rfl (eff_auto (X := ⟨_, true⟩) (out := .val _ _) hX rfl rfl) fun A => any_at (rs := [6]) (by kernel_rfl) (by decide) (List.forall_mem_cons.2 ⟨any_eff (x := .str ((prP armG L i lb).1)) (H' := [some (.blk (inQ9 i)), some (.lst 20 L.length (fun zz => rwc (L.getD zz Rw.z)))]) rfl A rfl (eff_auto (X := ⟨_, true⟩) (out := .val _ _) hX rfl rfl) fun A => any_at (rs := [7]) (by kernel_rfl) (by decide) (List.forall_mem_cons.2 ⟨any_eff (x := .int .i64 ((prP armG L i lb).2)) (H' := [some (.blk (inQ9 i)), some (.lst 20 L.length (fun zz => rwc (L.getD zz Rw.z)))]) rfl A rfl (eff_auto (X := ⟨_, true⟩) (out := .val _ _) hX rfl rfl) fun A => any_end (by kernel_rfl) (N hX 2 A rfl rfl fun A => RETN hX (B.trans A) rfl rfl rfl h0 rfl rfl rfl rfl (by rw [← arm_pr hR.1] <;> rfl) rfl),
         (List.forall_mem_nil _)⟩),
        (List.forall_mem_nil _)⟩),
       (List.forall_mem_nil _)⟩),
      (List.forall_mem_cons.2 ⟨any_eff (x := .int .i64 ((prP armG L i lb).2)) (H' := [some (.blk (inQ9 i)), some (.lst 20 L.length (fun zz => rwc (L.getD zz Rw.z)))]) rfl A rfl (eff_auto (X := ⟨_, true⟩) (out := .val _ _) hX rfl rfl) fun A => any_at (rs := [4]) (by kernel_rfl) (by decide) (List.forall_mem_cons.2 ⟨any_eff (x := .str ((prP armG L i lb).1)) (H' := [some (.blk (inQ9 i)), some (.lst 20 L.length (fun zz => rwc (L.getD zz Rw.z)))]) rfl A rfl (eff_auto (X := ⟨_, true⟩) (out := .val _ _) hX rfl rfl) fun A => any_at (rs := [6]) (by kernel_rfl) (by decide) (List.forall_mem_cons.2 ⟨any_eff (x := .str ((prP armG L i lb).1)) (H' := [some (.blk (inQ9 i)), some (.lst 20 L.length (fun zz => rwc (L.getD zz Rw.z)))]) rfl A rfl (eff_auto (X := ⟨_, true⟩) (out := .val _ _) hX rfl rfl) fun A => any_at (rs := [7]) (by kernel_rfl) (by decide) (List.forall_mem_cons.2 ⟨any_eff (x := .int .i64 ((prP armG L i lb).2)) (H' := [some (.blk (inQ9 i)), some (.lst 20 L.length (fun zz => rwc (L.getD zz Rw.z)))]) rfl A rfl (eff_auto (X := ⟨_, true⟩) (out := .val _ _) hX rfl rfl) fun A => any_end (by kernel_rfl) (N hX 2 A rfl rfl fun A => RETN hX (B.trans A) rfl rfl rfl h0 rfl rfl rfl rfl (by rw [← arm_pr hR.1] <;> rfl) rfl),
         (List.forall_mem_nil _)⟩),
        (List.forall_mem_nil _)⟩),
       (List.forall_mem_nil _)⟩),
      (List.forall_mem_nil _)⟩)⟩),
     (List.forall_mem_nil _)⟩),
    (List.forall_mem_nil _)⟩),
   (List.forall_mem_nil _)⟩)⟩),
  (List.forall_mem_cons.2 ⟨any_eff (x := .str lb) (H' := [some (.blk (inQ9 i))]) rfl A rfl (eff_auto (X := ⟨_, true⟩) (out := .val _ _) hX rfl rfl) fun A => any_at (rs := [0, 1]) (by kernel_rfl) (by decide) (List.forall_mem_cons.2 ⟨any_agg (t := 6) (l := [.str [88, 48], .str [88, 49], .str [88, 50], .str [88, 51], .str [88, 52], .str [88, 53], .str [88, 54], .str [88, 55], .str [66], .str [72], .str [87], .str [], .str [35], .str [], .str [], .str []]) (F := fun (L : List Rw) zz => rwc (L.getD zz Rw.z)) (R := fun L b w w' => L.map tm = armT ∧ RowsIn w.heap.size L w' [b]) rfl alang_ A rfl rfl fun L b cp a1 w1 G1 hR hlo hkk A => have hl20 : L.length = 31 := (by have q := congrArg List.length hR.1; rw [List.length_map] at q; exact q.trans (by decide +kernel)); have hRI := rows_keys hR.2 hkk; have B0 := A; have A := A.base; have A := A.rowAs 1 L.length (fun zz => rwc (L.getD zz Rw.z)) rfl hl20 (fun _ _ => rfl) (fun z => ⟨_, rfl, rfl⟩); have A := A.say 6 (.agg [.str [88, 48], .str [88, 49], .str [88, 50], .str [88, 51], .str [88, 52], .str [88, 53], .str [88, 54], .str [88, 55], .str [66], .str [72], .str [87], .str [], .str [35], .str [], .str [], .str [], .sl 1 L.length 0]) rfl (by rw [hl20] <;> rfl); have A := A.freeze 1 rfl; have hTb := RowsIn.ok.now A hRI; have B := B0.trans A; have A := A.base; have hI2 : PrI os L _ _ := ⟨fun r hr => (hTb r hr).1, Gl.ok.now B hI⟩; any_at (rs := [1]) (by kernel_rfl) (by decide) (List.forall_mem_cons.2 ⟨any_eff (x := .agg (inQ9 i)) (H' := [some (.blk (inQ9 i)), some (.lst 20 L.length (fun zz => rwc (L.getD zz Rw.z)))]) rfl A rfl (eff_auto (X := ⟨_, true⟩) (out := .val _ _) hX rfl rfl) fun A => any_at (rs := [3]) (by kernel_rfl) (by decide) (List.forall_mem_cons.2 ⟨any_eff (x := .tup [.str ((prP armG L i lb).1), .int .i64 ((prP armG L i lb).2)]) (H' := [some (.blk (inQ9 i)), some (.lst 20 L.length (fun zz => rwc (L.getD zz Rw.z)))]) rfl A rfl (callIE [1] PrI.ok hI2 (lprint_ armG L 0 i lb os hM hT hE (hp L hR.1)) rfl rfl rfl rfl rfl rfl rfl) fun A => any_at (rs := [4, 5]) (by kernel_rfl) (by decide) (List.forall_mem_cons.2 ⟨any_eff (x := .str ((prP armG L i lb).1)) (H' := [some (.blk (inQ9 i)), some (.lst 20 L.length (fun zz => rwc (L.getD zz Rw.z)))]) rfl A rfl (eff_auto (X := ⟨_, true⟩) (out := .val _ _) hX rfl rfl) fun A => any_at (rs := [5]) (by kernel_rfl) (by decide) (List.forall_mem_cons.2 ⟨any_eff (x := .int .i64 ((prP armG L i lb).2)) (H' := [some (.blk (inQ9 i)), some (.lst 20 L.length (fun zz => rwc (L.getD zz Rw.z)))]) rfl A rfl (eff_auto (X := ⟨_, true⟩) (out := .val _ _) hX rfl rfl) fun A => any_at (rs := [6]) (by kernel_rfl) (by decide) (List.forall_mem_cons.2 ⟨any_eff (x := .str ((prP armG L i lb).1)) (H' := [some (.blk (inQ9 i)), some (.lst 20 L.length (fun zz => rwc (L.getD zz Rw.z)))]) rfl A rfl (eff_auto (X := ⟨_, true⟩) (out := .val _ _) hX rfl rfl) fun A => any_at (rs := [7]) (by kernel_rfl) (by decide) (List.forall_mem_cons.2 ⟨any_eff (x := .int .i64 ((prP armG L i lb).2)) (H' := [some (.blk (inQ9 i)), some (.lst 20 L.length (fun zz => rwc (L.getD zz Rw.z)))]) rfl A rfl (eff_auto (X := ⟨_, true⟩) (out := .val _ _) hX rfl rfl) fun A => any_end (by kernel_rfl) (N hX 2 A rfl rfl fun A => RETN hX (B.trans A) rfl rfl rfl h0 rfl rfl rfl rfl (by rw [← arm_pr hR.1] <;> rfl) rfl),
         (List.forall_mem_nil _)⟩),
        (List.forall_mem_nil _)⟩),
       (List.forall_mem_nil _)⟩),
      (List.forall_mem_cons.2 ⟨any_eff (x := .int .i64 ((prP armG L i lb).2)) (H' := [some (.blk (inQ9 i)), some (.lst 20 L.length (fun zz => rwc (L.getD zz Rw.z)))]) rfl A rfl (eff_auto (X := ⟨_, true⟩) (out := .val _ _) hX rfl rfl) fun A => any_at (rs := [4]) (by kernel_rfl) (by decide) (List.forall_mem_cons.2 ⟨any_eff (x := .str ((prP armG L i lb).1)) (H' := [some (.blk (inQ9 i)), some (.lst 20 L.length (fun zz => rwc (L.getD zz Rw.z)))]) rfl A rfl (eff_auto (X := ⟨_, true⟩) (out := .val _ _) hX rfl rfl) fun A => any_at (rs := [6]) (by kernel_rfl) (by decide) (List.forall_mem_cons.2 ⟨any_eff (x := .str ((prP armG L i lb).1)) (H' := [some (.blk (inQ9 i)), some (.lst 20 L.length (fun zz => rwc (L.getD zz Rw.z)))]) rfl A rfl (eff_auto (X := ⟨_, true⟩) (out := .val _ _) hX rfl rfl) fun A => any_at (rs := [7]) (by kernel_rfl) (by decide) (List.forall_mem_cons.2 ⟨any_eff (x := .int .i64 ((prP armG L i lb).2)) (H' := [some (.blk (inQ9 i)), some (.lst 20 L.length (fun zz => rwc (L.getD zz Rw.z)))]) rfl A rfl (eff_auto (X := ⟨_, true⟩) (out := .val _ _) hX rfl rfl) fun A => any_end (by kernel_rfl) (N hX 2 A rfl rfl fun A => RETN hX (B.trans A) rfl rfl rfl h0 rfl rfl rfl rfl (by rw [← arm_pr hR.1] <;> rfl) rfl),
         (List.forall_mem_nil _)⟩),
        (List.forall_mem_nil _)⟩),
       (List.forall_mem_nil _)⟩),
      (List.forall_mem_nil _)⟩)⟩),
     (List.forall_mem_nil _)⟩),
    (List.forall_mem_nil _)⟩),
   (List.forall_mem_cons.2 ⟨any_eff (x := .agg (inQ9 i)) (H' := [some (.blk (inQ9 i))]) rfl A rfl (eff_auto (X := ⟨_, true⟩) (out := .val _ _) hX rfl rfl) fun A => any_at (rs := [0]) (by kernel_rfl) (by decide) (List.forall_mem_cons.2 ⟨any_agg (t := 6) (l := [.str [88, 48], .str [88, 49], .str [88, 50], .str [88, 51], .str [88, 52], .str [88, 53], .str [88, 54], .str [88, 55], .str [66], .str [72], .str [87], .str [], .str [35], .str [], .str [], .str []]) (F := fun (L : List Rw) zz => rwc (L.getD zz Rw.z)) (R := fun L b w w' => L.map tm = armT ∧ RowsIn w.heap.size L w' [b]) rfl alang_ A rfl rfl fun L b cp a1 w1 G1 hR hlo hkk A => have hl20 : L.length = 31 := (by have q := congrArg List.length hR.1; rw [List.length_map] at q; exact q.trans (by decide +kernel)); have hRI := rows_keys hR.2 hkk; have B0 := A; have A := A.base; have A := A.rowAs 1 L.length (fun zz => rwc (L.getD zz Rw.z)) rfl hl20 (fun _ _ => rfl) (fun z => ⟨_, rfl, rfl⟩); have A := A.say 6 (.agg [.str [88, 48], .str [88, 49], .str [88, 50], .str [88, 51], .str [88, 52], .str [88, 53], .str [88, 54], .str [88, 55], .str [66], .str [72], .str [87], .str [], .str [35], .str [], .str [], .str [], .sl 1 L.length 0]) rfl (by rw [hl20] <;> rfl); have A := A.freeze 1 rfl; have hTb := RowsIn.ok.now A hRI; have B := B0.trans A; have A := A.base; have hI2 : PrI os L _ _ := ⟨fun r hr => (hTb r hr).1, Gl.ok.now B hI⟩; any_at (rs := [3]) (by kernel_rfl) (by decide) (List.forall_mem_cons.2 ⟨any_eff (x := .tup [.str ((prP armG L i lb).1), .int .i64 ((prP armG L i lb).2)]) (H' := [some (.blk (inQ9 i)), some (.lst 20 L.length (fun zz => rwc (L.getD zz Rw.z)))]) rfl A rfl (callIE [1] PrI.ok hI2 (lprint_ armG L 0 i lb os hM hT hE (hp L hR.1)) rfl rfl rfl rfl rfl rfl rfl) fun A => any_at (rs := [4, 5]) (by kernel_rfl) (by decide) (List.forall_mem_cons.2 ⟨any_eff (x := .str ((prP armG L i lb).1)) (H' := [some (.blk (inQ9 i)), some (.lst 20 L.length (fun zz => rwc (L.getD zz Rw.z)))]) rfl A rfl (eff_auto (X := ⟨_, true⟩) (out := .val _ _) hX rfl rfl) fun A => any_at (rs := [5]) (by kernel_rfl) (by decide) (List.forall_mem_cons.2 ⟨any_eff (x := .int .i64 ((prP armG L i lb).2)) (H' := [some (.blk (inQ9 i)), some (.lst 20 L.length (fun zz => rwc (L.getD zz Rw.z)))]) rfl A rfl (eff_auto (X := ⟨_, true⟩) (out := .val _ _) hX rfl rfl) fun A => any_at (rs := [6]) (by kernel_rfl) (by decide) (List.forall_mem_cons.2 ⟨any_eff (x := .str ((prP armG L i lb).1)) (H' := [some (.blk (inQ9 i)), some (.lst 20 L.length (fun zz => rwc (L.getD zz Rw.z)))]) rfl A rfl (eff_auto (X := ⟨_, true⟩) (out := .val _ _) hX rfl rfl) fun A => any_at (rs := [7]) (by kernel_rfl) (by decide) (List.forall_mem_cons.2 ⟨any_eff (x := .int .i64 ((prP armG L i lb).2)) (H' := [some (.blk (inQ9 i)), some (.lst 20 L.length (fun zz => rwc (L.getD zz Rw.z)))]) rfl A rfl (eff_auto (X := ⟨_, true⟩) (out := .val _ _) hX rfl rfl) fun A => any_end (by kernel_rfl) (N hX 2 A rfl rfl fun A => RETN hX (B.trans A) rfl rfl rfl h0 rfl rfl rfl rfl (by rw [← arm_pr hR.1] <;> rfl) rfl),
         (List.forall_mem_nil _)⟩),
        (List.forall_mem_nil _)⟩),
       (List.forall_mem_nil _)⟩),
      (List.forall_mem_cons.2 ⟨any_eff (x := .int .i64 ((prP armG L i lb).2)) (H' := [some (.blk (inQ9 i)), some (.lst 20 L.length (fun zz => rwc (L.getD zz Rw.z)))]) rfl A rfl (eff_auto (X := ⟨_, true⟩) (out := .val _ _) hX rfl rfl) fun A => any_at (rs := [4]) (by kernel_rfl) (by decide) (List.forall_mem_cons.2 ⟨any_eff (x := .str ((prP armG L i lb).1)) (H' := [some (.blk (inQ9 i)), some (.lst 20 L.length (fun zz => rwc (L.getD zz Rw.z)))]) rfl A rfl (eff_auto (X := ⟨_, true⟩) (out := .val _ _) hX rfl rfl) fun A => any_at (rs := [6]) (by kernel_rfl) (by decide) (List.forall_mem_cons.2 ⟨any_eff (x := .str ((prP armG L i lb).1)) (H' := [some (.blk (inQ9 i)), some (.lst 20 L.length (fun zz => rwc (L.getD zz Rw.z)))]) rfl A rfl (eff_auto (X := ⟨_, true⟩) (out := .val _ _) hX rfl rfl) fun A => any_at (rs := [7]) (by kernel_rfl) (by decide) (List.forall_mem_cons.2 ⟨any_eff (x := .int .i64 ((prP armG L i lb).2)) (H' := [some (.blk (inQ9 i)), some (.lst 20 L.length (fun zz => rwc (L.getD zz Rw.z)))]) rfl A rfl (eff_auto (X := ⟨_, true⟩) (out := .val _ _) hX rfl rfl) fun A => any_end (by kernel_rfl) (N hX 2 A rfl rfl fun A => RETN hX (B.trans A) rfl rfl rfl h0 rfl rfl rfl rfl (by rw [← arm_pr hR.1] <;> rfl) rfl),
         (List.forall_mem_nil _)⟩),
        (List.forall_mem_nil _)⟩),
       (List.forall_mem_nil _)⟩),
      (List.forall_mem_nil _)⟩)⟩),
     (List.forall_mem_nil _)⟩),
    (List.forall_mem_nil _)⟩),
   (List.forall_mem_nil _)⟩)⟩),
  (List.forall_mem_nil _)⟩)⟩)⟩)
section
variable {ws : List Tk} {s : Old.Rs} {i : Old.Ins} {z : Bool}
end
def frO (i : Old.Ins) : In := ⟨i.op, i.dst, i.a, i.b, i.imm, i.loc, i.off, i.index, i.size, i.fn, i.acq, i.weak, i.rel, i.pred, i.succ, i.to, i.zero⟩
section
variable {ws : List Tk} {s : Old.Rs} {i : Old.Ins}
end
end Go.Proofs.YtedlaclfhgneeabGreatDoor
namespace Go.Proofs.YtedlaclfhgneeabGreatDoor
open Go.RowKit
set_option linter.unusedVariables false
set_option linter.unusedSimpArgs false
def amO : Old.Lg := ⟨[88, 48], [88, 49], [88, 50], [88, 51], [88, 52], [88, 53], [88, 54], [88, 55], [66], [72], [87], [], [35], [], [], [], Old.nilV, armC.map toR⟩
theorem reg_v (r : Int) : regnm0 armG.r0 armG.r1 armG.r2 armG.r3 armG.r4 armG.r5 armG.r6 armG.r7 r = Old.nameL amO r := by
  unfold regnm0 Old.nameL
  by_cases h : r < 0 ∨ r > 7
  · rw [if_pos h, if_pos (by simp only [Bool.or_eq_true, decide_eq_true_eq]; omega)]
  · rw [if_neg h, if_neg (by simp only [Bool.or_eq_true, decide_eq_true_eq]; omega), List.getD_eq_getElem?_getD]; rfl
theorem mem_v (i : In) : memT armG i = Old.memL amO (toO i) i.loc.toNat := by
  unfold memT memB memA Old.memL
  rw [reg_v, loc_o]
  by_cases h1 : i.ix = -1 <;> by_cases h2 : i.off = 0 <;> simp [h1, h2, toO]
theorem opd_v (r : Rw) (p : Int) (i : In) (lb : List UInt8) (hp : p ≠ 10) : opdT armG r p i lb = Old.opndR amO p (toO i) lb := by
  unfold opdT Old.opndR
  rw [reg_v, mem_v, regp_o, if_neg hp]
  simp only [beq_iff_eq, List.getD_eq_getElem?_getD]
  rfl
theorem name_v (r : Rw) (n : Int) : nameR armG r.nm n = Old.nameR amO (toR r) n := by
  unfold nameR Old.nameR szK Old.letF
  by_cases h1 : n = 1
  · simp [h1]; rfl
  by_cases h2 : n = 2
  · simp [h2]; rfl
  by_cases h4 : n = 4
  · simp [h4]; rfl
  by_cases h8 : n = 8
  · simp [h8]; rfl
  simp [h1, h2, h4, h8]; rfl
theorem no10a : ∀ r ∈ armC, r.ins.op ≠ 7 → ∀ p ∈ r.ps, p ≠ 10 := by decide +kernel
theorem prO_v (i : In) (lb : List UInt8) (h7 : i.op ≠ 7) : prP armG armC i lb = Old.prL amO (toO i) lb := by
  have hf : Old.rowF amO (toO i) = (armC.find? (rowP i)).map toR := by
    exact find_o i armC
  unfold prP Old.prL
  rw [wrong_o, hf, one_o]
  cases hw : Old.wrongB (toO i)
  · rw [if_neg Bool.false_ne_true, if_neg Bool.false_ne_true]
    unfold rowQ rowR
    cases hr : armC.find? (rowP i) with
    | none => rfl
    | some r =>
      have hm := List.mem_of_find?_eq_some hr
      have hop : r.ins.op = i.op := (Old.fitr_keeps ((rowp_o i r).symm.trans (List.find?_some hr))).1
      have ho : opsT armG r i lb = (toR r).parts.map (fun p => Old.opndR amO p (toO i) lb) := by
        unfold opsT
        exact List.map_congr_left fun p hp => opd_v r p i lb (no10a r hm (by rw [hop]; exact h7) p hp)
      simp only [Option.isSome_some, Option.map_some, Option.getD_some, ho, name_v]
      have e9 : (toO i).op = i.op := rfl
      have es : (toO i).size = i.sz := rfl
      have el : (toR r).parts = r.ps := rfl
      rw [e9, es, el]
      by_cases h9 : i.op = 9
      · cases hn : Old.isNm lb
        · simp [h9]
        · by_cases hl : r.ps = [] <;> simp [h9, hl]
      · by_cases hl : r.ps = [] <;> simp [h9, hl]
  · rw [if_pos rfl, if_pos rfl]
end Go.Proofs.YtedlaclfhgneeabGreatDoor
namespace Go.Proofs.YtedlaclfhgneeabGreatDoor.Old
set_option linter.unusedSimpArgs false
open Go.RowKit
def txtW (i : Ins) (lb : List UInt8) : List UInt8 := ktxt0 (frO i) lb
def prW (i : Ins) (lb : List UInt8) : List UInt8 × Int := if wrongB i = true then ([], 34) else if eqL (txtW i lb) [] = true then ([], 36) else if (i.op == 9) = true then (if isNm lb = true then (txtW i lb, 0) else ([], 37)) else (txtW i lb, 0)
theorem find_op (i : Ins) : ∀ l : List Rw, l.find? (fitsR i) = (l.filter fun r => r.ins.op == i.op).find? (fitsR i)
  | [] => rfl
  | r :: l => by
    rw [List.find?_cons, List.filter_cons]
    cases hf : fitsR i r
    · simp only
      rw [find_op i l]
      split
      · rw [List.find?_cons, hf]
      · rfl
    · have := (fitr_keeps hf).1
      rw [if_pos (by simp [this]), List.find?_cons, hf]
theorem rows_1 : (amO.rows.filter fun r => r.ins.op == 1) = [(⟨[77, 79, 86], ⟨1, 0, 0, 0, 0, 0, 0, 0, 0, 0, false, false, false, 0, 0, 0, false⟩, nilV, [1, 5]⟩ : Rw)] := by kernel_rfl
theorem fnd_1 {i : Ins} (ho : i.op = 1) : rowF amO i = List.find? (fitsR i) [(⟨[77, 79, 86], ⟨1, 0, 0, 0, 0, 0, 0, 0, 0, 0, false, false, false, 0, 0, 0, false⟩, nilV, [1, 5]⟩ : Rw)] := by
  unfold rowF; rw [find_op, ho, rows_1]
theorem rows_2 : (amO.rows.filter fun r => r.ins.op == 2) = [(⟨[77, 79, 86], ⟨2, 0, 0, 0, 0, 0, 0, 0, 0, 0, false, false, false, 0, 0, 0, false⟩, nilV, [1, 2]⟩ : Rw)] := by kernel_rfl
theorem fnd_2 {i : Ins} (ho : i.op = 2) : rowF amO i = List.find? (fitsR i) [(⟨[77, 79, 86], ⟨2, 0, 0, 0, 0, 0, 0, 0, 0, 0, false, false, false, 0, 0, 0, false⟩, nilV, [1, 2]⟩ : Rw)] := by
  unfold rowF; rw [find_op, ho, rows_2]
theorem rows_3 : (amO.rows.filter fun r => r.ins.op == 3) = [(⟨[65, 68, 68], ⟨3, 0, 0, 0, 0, 0, 0, 0, 0, 1, false, false, false, 0, 0, 0, false⟩, nilV, [1, 2, 3]⟩ : Rw), (⟨[65, 68, 68], ⟨3, 0, 0, 0, 0, 0, 0, 0, 0, 1, false, false, false, 0, 0, 0, false⟩, nilV, [1, 2, 5]⟩ : Rw), (⟨[83, 85, 66], ⟨3, 0, 0, 0, 0, 0, 0, 0, 0, 2, false, false, false, 0, 0, 0, false⟩, nilV, [1, 2, 3]⟩ : Rw), (⟨[83, 85, 66], ⟨3, 0, 0, 0, 0, 0, 0, 0, 0, 2, false, false, false, 0, 0, 0, false⟩, nilV, [1, 2, 5]⟩ : Rw), (⟨[69, 79, 82], ⟨3, 0, 0, 0, 0, 0, 0, 0, 0, 3, false, false, false, 0, 0, 0, false⟩, nilV, [1, 2, 3]⟩ : Rw), (⟨[69, 79, 82], ⟨3, 0, 0, 0, 0, 0, 0, 0, 0, 3, false, false, false, 0, 0, 0, false⟩, nilV, [1, 2, 5]⟩ : Rw), (⟨[65, 78, 68], ⟨3, 0, 0, 0, 0, 0, 0, 0, 0, 4, false, false, false, 0, 0, 0, false⟩, nilV, [1, 2, 3]⟩ : Rw), (⟨[65, 78, 68], ⟨3, 0, 0, 0, 0, 0, 0, 0, 0, 4, false, false, false, 0, 0, 0, false⟩, nilV, [1, 2, 5]⟩ : Rw), (⟨[79, 82, 82], ⟨3, 0, 0, 0, 0, 0, 0, 0, 0, 5, false, false, false, 0, 0, 0, false⟩, nilV, [1, 2, 3]⟩ : Rw), (⟨[79, 82, 82], ⟨3, 0, 0, 0, 0, 0, 0, 0, 0, 5, false, false, false, 0, 0, 0, false⟩, nilV, [1, 2, 5]⟩ : Rw)] := by kernel_rfl
theorem fnd_3 {i : Ins} (ho : i.op = 3) : rowF amO i = List.find? (fitsR i) [(⟨[65, 68, 68], ⟨3, 0, 0, 0, 0, 0, 0, 0, 0, 1, false, false, false, 0, 0, 0, false⟩, nilV, [1, 2, 3]⟩ : Rw), (⟨[65, 68, 68], ⟨3, 0, 0, 0, 0, 0, 0, 0, 0, 1, false, false, false, 0, 0, 0, false⟩, nilV, [1, 2, 5]⟩ : Rw), (⟨[83, 85, 66], ⟨3, 0, 0, 0, 0, 0, 0, 0, 0, 2, false, false, false, 0, 0, 0, false⟩, nilV, [1, 2, 3]⟩ : Rw), (⟨[83, 85, 66], ⟨3, 0, 0, 0, 0, 0, 0, 0, 0, 2, false, false, false, 0, 0, 0, false⟩, nilV, [1, 2, 5]⟩ : Rw), (⟨[69, 79, 82], ⟨3, 0, 0, 0, 0, 0, 0, 0, 0, 3, false, false, false, 0, 0, 0, false⟩, nilV, [1, 2, 3]⟩ : Rw), (⟨[69, 79, 82], ⟨3, 0, 0, 0, 0, 0, 0, 0, 0, 3, false, false, false, 0, 0, 0, false⟩, nilV, [1, 2, 5]⟩ : Rw), (⟨[65, 78, 68], ⟨3, 0, 0, 0, 0, 0, 0, 0, 0, 4, false, false, false, 0, 0, 0, false⟩, nilV, [1, 2, 3]⟩ : Rw), (⟨[65, 78, 68], ⟨3, 0, 0, 0, 0, 0, 0, 0, 0, 4, false, false, false, 0, 0, 0, false⟩, nilV, [1, 2, 5]⟩ : Rw), (⟨[79, 82, 82], ⟨3, 0, 0, 0, 0, 0, 0, 0, 0, 5, false, false, false, 0, 0, 0, false⟩, nilV, [1, 2, 3]⟩ : Rw), (⟨[79, 82, 82], ⟨3, 0, 0, 0, 0, 0, 0, 0, 0, 5, false, false, false, 0, 0, 0, false⟩, nilV, [1, 2, 5]⟩ : Rw)] := by
  unfold rowF; rw [find_op, ho, rows_3]
theorem rows_4 : (amO.rows.filter fun r => r.ins.op == 4) = [(⟨[76, 68, 82, 42], ⟨4, 0, 0, 0, 0, 0, 0, 0, 0, 0, false, false, false, 0, 0, 0, false⟩, nilV, [1, 6]⟩ : Rw), (⟨[76, 68, 65, 82, 42], ⟨4, 0, 0, 0, 0, 0, 0, 0, 0, 0, true, false, false, 0, 0, 0, false⟩, nilV, [1, 6]⟩ : Rw), (⟨[76, 68, 65, 80, 82, 42], ⟨4, 0, 0, 0, 0, 0, 0, 0, 0, 0, false, true, false, 0, 0, 0, false⟩, nilV, [1, 6]⟩ : Rw)] := by kernel_rfl
theorem fnd_4 {i : Ins} (ho : i.op = 4) : rowF amO i = List.find? (fitsR i) [(⟨[76, 68, 82, 42], ⟨4, 0, 0, 0, 0, 0, 0, 0, 0, 0, false, false, false, 0, 0, 0, false⟩, nilV, [1, 6]⟩ : Rw), (⟨[76, 68, 65, 82, 42], ⟨4, 0, 0, 0, 0, 0, 0, 0, 0, 0, true, false, false, 0, 0, 0, false⟩, nilV, [1, 6]⟩ : Rw), (⟨[76, 68, 65, 80, 82, 42], ⟨4, 0, 0, 0, 0, 0, 0, 0, 0, 0, false, true, false, 0, 0, 0, false⟩, nilV, [1, 6]⟩ : Rw)] := by
  unfold rowF; rw [find_op, ho, rows_4]
theorem rows_5 : (amO.rows.filter fun r => r.ins.op == 5) = [(⟨[83, 84, 82, 42], ⟨5, 0, 0, 0, 0, 0, 0, 0, 0, 0, false, false, false, 0, 0, 0, false⟩, nilV, [2, 6]⟩ : Rw), (⟨[83, 84, 76, 82, 42], ⟨5, 0, 0, 0, 0, 0, 0, 0, 0, 0, false, false, true, 0, 0, 0, false⟩, nilV, [2, 6]⟩ : Rw)] := by kernel_rfl
theorem fnd_5 {i : Ins} (ho : i.op = 5) : rowF amO i = List.find? (fitsR i) [(⟨[83, 84, 82, 42], ⟨5, 0, 0, 0, 0, 0, 0, 0, 0, 0, false, false, false, 0, 0, 0, false⟩, nilV, [2, 6]⟩ : Rw), (⟨[83, 84, 76, 82, 42], ⟨5, 0, 0, 0, 0, 0, 0, 0, 0, 0, false, false, true, 0, 0, 0, false⟩, nilV, [2, 6]⟩ : Rw)] := by
  unfold rowF; rw [find_op, ho, rows_5]
theorem rows_6 : (amO.rows.filter fun r => r.ins.op == 6) = [(⟨[83, 87, 80, 42], ⟨6, 0, 0, 0, 0, 0, 0, 0, 0, 6, false, false, false, 0, 0, 0, false⟩, nilV, [2, 1, 6]⟩ : Rw), (⟨[83, 87, 80, 65, 42], ⟨6, 0, 0, 0, 0, 0, 0, 0, 0, 6, true, false, false, 0, 0, 0, false⟩, nilV, [2, 1, 6]⟩ : Rw), (⟨[83, 87, 80, 76, 42], ⟨6, 0, 0, 0, 0, 0, 0, 0, 0, 6, false, false, true, 0, 0, 0, false⟩, nilV, [2, 1, 6]⟩ : Rw), (⟨[83, 87, 80, 65, 76, 42], ⟨6, 0, 0, 0, 0, 0, 0, 0, 0, 6, true, false, true, 0, 0, 0, false⟩, nilV, [2, 1, 6]⟩ : Rw), (⟨[76, 68, 65, 68, 68, 42], ⟨6, 0, 0, 0, 0, 0, 0, 0, 0, 1, false, false, false, 0, 0, 0, false⟩, nilV, [2, 1, 6]⟩ : Rw), (⟨[76, 68, 65, 68, 68, 65, 42], ⟨6, 0, 0, 0, 0, 0, 0, 0, 0, 1, true, false, false, 0, 0, 0, false⟩, nilV, [2, 1, 6]⟩ : Rw), (⟨[76, 68, 65, 68, 68, 76, 42], ⟨6, 0, 0, 0, 0, 0, 0, 0, 0, 1, false, false, true, 0, 0, 0, false⟩, nilV, [2, 1, 6]⟩ : Rw), (⟨[76, 68, 65, 68, 68, 65, 76, 42], ⟨6, 0, 0, 0, 0, 0, 0, 0, 0, 1, true, false, true, 0, 0, 0, false⟩, nilV, [2, 1, 6]⟩ : Rw)] := by kernel_rfl
theorem fnd_6 {i : Ins} (ho : i.op = 6) : rowF amO i = List.find? (fitsR i) [(⟨[83, 87, 80, 42], ⟨6, 0, 0, 0, 0, 0, 0, 0, 0, 6, false, false, false, 0, 0, 0, false⟩, nilV, [2, 1, 6]⟩ : Rw), (⟨[83, 87, 80, 65, 42], ⟨6, 0, 0, 0, 0, 0, 0, 0, 0, 6, true, false, false, 0, 0, 0, false⟩, nilV, [2, 1, 6]⟩ : Rw), (⟨[83, 87, 80, 76, 42], ⟨6, 0, 0, 0, 0, 0, 0, 0, 0, 6, false, false, true, 0, 0, 0, false⟩, nilV, [2, 1, 6]⟩ : Rw), (⟨[83, 87, 80, 65, 76, 42], ⟨6, 0, 0, 0, 0, 0, 0, 0, 0, 6, true, false, true, 0, 0, 0, false⟩, nilV, [2, 1, 6]⟩ : Rw), (⟨[76, 68, 65, 68, 68, 42], ⟨6, 0, 0, 0, 0, 0, 0, 0, 0, 1, false, false, false, 0, 0, 0, false⟩, nilV, [2, 1, 6]⟩ : Rw), (⟨[76, 68, 65, 68, 68, 65, 42], ⟨6, 0, 0, 0, 0, 0, 0, 0, 0, 1, true, false, false, 0, 0, 0, false⟩, nilV, [2, 1, 6]⟩ : Rw), (⟨[76, 68, 65, 68, 68, 76, 42], ⟨6, 0, 0, 0, 0, 0, 0, 0, 0, 1, false, false, true, 0, 0, 0, false⟩, nilV, [2, 1, 6]⟩ : Rw), (⟨[76, 68, 65, 68, 68, 65, 76, 42], ⟨6, 0, 0, 0, 0, 0, 0, 0, 0, 1, true, false, true, 0, 0, 0, false⟩, nilV, [2, 1, 6]⟩ : Rw)] := by
  unfold rowF; rw [find_op, ho, rows_6]
theorem rows_9 : (amO.rows.filter fun r => r.ins.op == 9) = [(⟨[67, 66, 90], ⟨9, 0, 0, 0, 0, 0, 0, 0, 0, 0, false, false, false, 0, 0, 0, true⟩, nilV, [2, 7]⟩ : Rw), (⟨[67, 66, 78, 90], ⟨9, 0, 0, 0, 0, 0, 0, 0, 0, 0, false, false, false, 0, 0, 0, false⟩, nilV, [2, 7]⟩ : Rw)] := by kernel_rfl
theorem fnd_9 {i : Ins} (ho : i.op = 9) : rowF amO i = List.find? (fitsR i) [(⟨[67, 66, 90], ⟨9, 0, 0, 0, 0, 0, 0, 0, 0, 0, false, false, false, 0, 0, 0, true⟩, nilV, [2, 7]⟩ : Rw), (⟨[67, 66, 78, 90], ⟨9, 0, 0, 0, 0, 0, 0, 0, 0, 0, false, false, false, 0, 0, 0, false⟩, nilV, [2, 7]⟩ : Rw)] := by
  unfold rowF; rw [find_op, ho, rows_9]
theorem nameL_v (r : Int) : nameL amO r = nameA r := by
  by_cases h1 : r < 0
  · rw [nameL_neg h1]; unfold nameA; rw [if_pos h1]
  · by_cases h2 : r > 7
    · rw [nameL_big h2]; unfold nameA; rw [if_neg h1, List.getElem?_eq_none (by show 8 ≤ r.toNat; omega)]; rfl
    · unfold nameL nameA; rw [if_neg (by omega), if_neg h1]; rfl
theorem memL_v {i : Ins} (h : i.index = -1 ∨ (0 ≤ i.index ∧ i.index < 8)) : memL amO i i.loc.toNat = kmem0 (frO i) := by
  have e1 : (frO i).ix = i.index := rfl
  have e2 : (frO i).off = i.off := rfl
  have e3 : (frO i).loc = i.loc := rfl
  unfold memL kmem0
  rw [e1, e2, e3]
  simp only [nameL_v]
  by_cases ho : i.off = 0
  · rcases h with h | h
    · simp [ho, h]
    · have a1 : ¬ i.index = -1 := by omega
      simp [ho, a1, h.1]
  · rcases h with h | h
    · simp [ho, h]
    · have a1 : ¬ i.index = -1 := by omega
      simp [ho, a1, h.1]
theorem prv_row {i : Ins} {lb : List UInt8} {r : Rw} (hw : wrongB i = false) (hr : rowF amO i = some r) (p q : Int) (hp : r.parts = [p, q]) : prL amO i lb = if (i.op == 9) = true then (if isNm lb = true then (nameR amO r i.size ++ [32] ++ (opndR amO p i lb ++ [44] ++ opndR amO q i lb), 0) else ([], 37)) else (nameR amO r i.size ++ [32] ++ (opndR amO p i lb ++ [44] ++ opndR amO q i lb), 0) := by
  unfold prL
  rw [hw, hr]
  simp only [hp, List.map_cons, List.map_nil, join2, Bool.false_eq_true, if_false]
  rfl
theorem join3 (a b c : List UInt8) : Lib.join [a, b, c] [44] = a ++ [44] ++ b ++ [44] ++ c := by simp [Lib.join, List.intercalate]
theorem prv_row3 {i : Ins} {lb : List UInt8} {r : Rw} (hw : wrongB i = false) (h9 : (i.op == 9) = false) (hr : rowF amO i = some r) (p q s : Int) (hp : r.parts = [p, q, s]) : prL amO i lb = (nameR amO r i.size ++ [32] ++ (opndR amO p i lb ++ [44] ++ opndR amO q i lb ++ [44] ++ opndR amO s i lb), 0) := by
  unfold prL
  rw [hw, hr]
  simp only [hp, List.map_cons, List.map_nil, join3, Bool.false_eq_true, if_false, h9]
  rfl
theorem bothV {i : Ins} {lb t : List UInt8} (hw : wrongB i = false) (ht : txtW i lb = t) (hn : t ≠ []) (hp : prL amO i lb = if (i.op == 9) = true then (if isNm lb = true then (t, 0) else ([], 37)) else (t, 0)) : prL amO i lb = prW i lb := by
  unfold prW
  rw [hp, hw, ht, eqL_no hn]
  simp only [Bool.false_eq_true, if_false]
theorem neitherV {i : Ins} {lb : List UInt8} (hw : wrongB i = false) (ht : txtW i lb = []) (hr : rowF amO i = none) : prL amO i lb = prW i lb := by
  unfold prW prL
  rw [hw, hr, ht, eqL_same]
  simp only [Bool.false_eq_true, if_false, if_true]
theorem opv_reg {p : Int} {i : Ins} {lb : List UInt8} {r : Int} (h : regP p i = (r, true)) : opndR amO p i lb = nameA r := by
  unfold opndR; rw [h]; simp only [if_true]; exact nameL_v r
theorem opv_imm {i : Ins} {lb : List UInt8} : opndR amO 5 i lb = [35] ++ Lib.itoa i.imm := rfl
theorem opv_mem {i : Ins} {lb : List UInt8} (h : i.index = -1 ∨ (0 ≤ i.index ∧ i.index < 8)) : opndR amO 6 i lb = kmem0 (frO i) := (show opndR amO 6 i lb = memL amO i i.loc.toNat from rfl).trans (memL_v h)
theorem opv_lab {i : Ins} {lb : List UInt8} : opndR amO 7 i lb = lb := rfl
theorem namev_zero (r : Rw) : nameR amO r 0 = r.name := rfl
theorem rpl_l {n : Int} (h : n = 1 ∨ n = 2 ∨ n = 4 ∨ n = 8) (a : Ins) (v : Value) (ps : List Int) : nameR amO ⟨[76, 68, 82, 42], a, v, ps⟩ n = [76, 68, 82] ++ tlA n ++ [] := by
  rcases h with rfl | rfl | rfl | rfl
  · exact (by decide : Lib.replace [76, 68, 82, 42] [42] [66] 1 = [76, 68, 82, 66])
  · exact (by decide : Lib.replace [76, 68, 82, 42] [42] [72] 1 = [76, 68, 82, 72])
  · exact (by decide : Lib.replace [76, 68, 82, 42] [42] [87] 1 = [76, 68, 82, 87])
  · exact (by decide : Lib.replace [76, 68, 82, 42] [42] [] 1 = [76, 68, 82])
theorem rpl_la {n : Int} (h : n = 1 ∨ n = 2 ∨ n = 4 ∨ n = 8) (a : Ins) (v : Value) (ps : List Int) : nameR amO ⟨[76, 68, 65, 82, 42], a, v, ps⟩ n = [76, 68, 65, 82] ++ tlA n ++ [] := by
  rcases h with rfl | rfl | rfl | rfl
  · exact (by decide : Lib.replace [76, 68, 65, 82, 42] [42] [66] 1 = [76, 68, 65, 82, 66])
  · exact (by decide : Lib.replace [76, 68, 65, 82, 42] [42] [72] 1 = [76, 68, 65, 82, 72])
  · exact (by decide : Lib.replace [76, 68, 65, 82, 42] [42] [87] 1 = [76, 68, 65, 82, 87])
  · exact (by decide : Lib.replace [76, 68, 65, 82, 42] [42] [] 1 = [76, 68, 65, 82])
theorem rpl_lq {n : Int} (h : n = 1 ∨ n = 2 ∨ n = 4 ∨ n = 8) (a : Ins) (v : Value) (ps : List Int) : nameR amO ⟨[76, 68, 65, 80, 82, 42], a, v, ps⟩ n = [76, 68, 65, 80, 82] ++ tlA n ++ [] := by
  rcases h with rfl | rfl | rfl | rfl
  · exact (by decide : Lib.replace [76, 68, 65, 80, 82, 42] [42] [66] 1 = [76, 68, 65, 80, 82, 66])
  · exact (by decide : Lib.replace [76, 68, 65, 80, 82, 42] [42] [72] 1 = [76, 68, 65, 80, 82, 72])
  · exact (by decide : Lib.replace [76, 68, 65, 80, 82, 42] [42] [87] 1 = [76, 68, 65, 80, 82, 87])
  · exact (by decide : Lib.replace [76, 68, 65, 80, 82, 42] [42] [] 1 = [76, 68, 65, 80, 82])
theorem rpl_s {n : Int} (h : n = 1 ∨ n = 2 ∨ n = 4 ∨ n = 8) (a : Ins) (v : Value) (ps : List Int) : nameR amO ⟨[83, 84, 82, 42], a, v, ps⟩ n = [83, 84, 82] ++ tlA n ++ [] := by
  rcases h with rfl | rfl | rfl | rfl
  · exact (by decide : Lib.replace [83, 84, 82, 42] [42] [66] 1 = [83, 84, 82, 66])
  · exact (by decide : Lib.replace [83, 84, 82, 42] [42] [72] 1 = [83, 84, 82, 72])
  · exact (by decide : Lib.replace [83, 84, 82, 42] [42] [87] 1 = [83, 84, 82, 87])
  · exact (by decide : Lib.replace [83, 84, 82, 42] [42] [] 1 = [83, 84, 82])
theorem rpl_sl {n : Int} (h : n = 1 ∨ n = 2 ∨ n = 4 ∨ n = 8) (a : Ins) (v : Value) (ps : List Int) : nameR amO ⟨[83, 84, 76, 82, 42], a, v, ps⟩ n = [83, 84, 76, 82] ++ tlA n ++ [] := by
  rcases h with rfl | rfl | rfl | rfl
  · exact (by decide : Lib.replace [83, 84, 76, 82, 42] [42] [66] 1 = [83, 84, 76, 82, 66])
  · exact (by decide : Lib.replace [83, 84, 76, 82, 42] [42] [72] 1 = [83, 84, 76, 82, 72])
  · exact (by decide : Lib.replace [83, 84, 76, 82, 42] [42] [87] 1 = [83, 84, 76, 82, 87])
  · exact (by decide : Lib.replace [83, 84, 76, 82, 42] [42] [] 1 = [83, 84, 76, 82])
theorem rpl_a0 {n : Int} (h : n = 1 ∨ n = 2 ∨ n = 4 ∨ n = 8) (a : Ins) (v : Value) (ps : List Int) : nameR amO ⟨[83, 87, 80, 42], a, v, ps⟩ n = [83, 87, 80] ++ tlA n ++ [] := by
  rcases h with rfl | rfl | rfl | rfl
  · exact (by decide : Lib.replace [83, 87, 80, 42] [42] [66] 1 = [83, 87, 80, 66])
  · exact (by decide : Lib.replace [83, 87, 80, 42] [42] [72] 1 = [83, 87, 80, 72])
  · exact (by decide : Lib.replace [83, 87, 80, 42] [42] [87] 1 = [83, 87, 80, 87])
  · exact (by decide : Lib.replace [83, 87, 80, 42] [42] [] 1 = [83, 87, 80])
theorem rpl_a1 {n : Int} (h : n = 1 ∨ n = 2 ∨ n = 4 ∨ n = 8) (a : Ins) (v : Value) (ps : List Int) : nameR amO ⟨[83, 87, 80, 65, 42], a, v, ps⟩ n = [83, 87, 80, 65] ++ tlA n ++ [] := by
  rcases h with rfl | rfl | rfl | rfl
  · exact (by decide : Lib.replace [83, 87, 80, 65, 42] [42] [66] 1 = [83, 87, 80, 65, 66])
  · exact (by decide : Lib.replace [83, 87, 80, 65, 42] [42] [72] 1 = [83, 87, 80, 65, 72])
  · exact (by decide : Lib.replace [83, 87, 80, 65, 42] [42] [87] 1 = [83, 87, 80, 65, 87])
  · exact (by decide : Lib.replace [83, 87, 80, 65, 42] [42] [] 1 = [83, 87, 80, 65])
theorem rpl_a2 {n : Int} (h : n = 1 ∨ n = 2 ∨ n = 4 ∨ n = 8) (a : Ins) (v : Value) (ps : List Int) : nameR amO ⟨[83, 87, 80, 76, 42], a, v, ps⟩ n = [83, 87, 80, 76] ++ tlA n ++ [] := by
  rcases h with rfl | rfl | rfl | rfl
  · exact (by decide : Lib.replace [83, 87, 80, 76, 42] [42] [66] 1 = [83, 87, 80, 76, 66])
  · exact (by decide : Lib.replace [83, 87, 80, 76, 42] [42] [72] 1 = [83, 87, 80, 76, 72])
  · exact (by decide : Lib.replace [83, 87, 80, 76, 42] [42] [87] 1 = [83, 87, 80, 76, 87])
  · exact (by decide : Lib.replace [83, 87, 80, 76, 42] [42] [] 1 = [83, 87, 80, 76])
theorem rpl_a3 {n : Int} (h : n = 1 ∨ n = 2 ∨ n = 4 ∨ n = 8) (a : Ins) (v : Value) (ps : List Int) : nameR amO ⟨[83, 87, 80, 65, 76, 42], a, v, ps⟩ n = [83, 87, 80, 65, 76] ++ tlA n ++ [] := by
  rcases h with rfl | rfl | rfl | rfl
  · exact (by decide : Lib.replace [83, 87, 80, 65, 76, 42] [42] [66] 1 = [83, 87, 80, 65, 76, 66])
  · exact (by decide : Lib.replace [83, 87, 80, 65, 76, 42] [42] [72] 1 = [83, 87, 80, 65, 76, 72])
  · exact (by decide : Lib.replace [83, 87, 80, 65, 76, 42] [42] [87] 1 = [83, 87, 80, 65, 76, 87])
  · exact (by decide : Lib.replace [83, 87, 80, 65, 76, 42] [42] [] 1 = [83, 87, 80, 65, 76])
theorem rpl_a4 {n : Int} (h : n = 1 ∨ n = 2 ∨ n = 4 ∨ n = 8) (a : Ins) (v : Value) (ps : List Int) : nameR amO ⟨[76, 68, 65, 68, 68, 42], a, v, ps⟩ n = [76, 68, 65, 68, 68] ++ tlA n ++ [] := by
  rcases h with rfl | rfl | rfl | rfl
  · exact (by decide : Lib.replace [76, 68, 65, 68, 68, 42] [42] [66] 1 = [76, 68, 65, 68, 68, 66])
  · exact (by decide : Lib.replace [76, 68, 65, 68, 68, 42] [42] [72] 1 = [76, 68, 65, 68, 68, 72])
  · exact (by decide : Lib.replace [76, 68, 65, 68, 68, 42] [42] [87] 1 = [76, 68, 65, 68, 68, 87])
  · exact (by decide : Lib.replace [76, 68, 65, 68, 68, 42] [42] [] 1 = [76, 68, 65, 68, 68])
theorem rpl_a5 {n : Int} (h : n = 1 ∨ n = 2 ∨ n = 4 ∨ n = 8) (a : Ins) (v : Value) (ps : List Int) : nameR amO ⟨[76, 68, 65, 68, 68, 65, 42], a, v, ps⟩ n = [76, 68, 65, 68, 68, 65] ++ tlA n ++ [] := by
  rcases h with rfl | rfl | rfl | rfl
  · exact (by decide : Lib.replace [76, 68, 65, 68, 68, 65, 42] [42] [66] 1 = [76, 68, 65, 68, 68, 65, 66])
  · exact (by decide : Lib.replace [76, 68, 65, 68, 68, 65, 42] [42] [72] 1 = [76, 68, 65, 68, 68, 65, 72])
  · exact (by decide : Lib.replace [76, 68, 65, 68, 68, 65, 42] [42] [87] 1 = [76, 68, 65, 68, 68, 65, 87])
  · exact (by decide : Lib.replace [76, 68, 65, 68, 68, 65, 42] [42] [] 1 = [76, 68, 65, 68, 68, 65])
theorem rpl_a6 {n : Int} (h : n = 1 ∨ n = 2 ∨ n = 4 ∨ n = 8) (a : Ins) (v : Value) (ps : List Int) : nameR amO ⟨[76, 68, 65, 68, 68, 76, 42], a, v, ps⟩ n = [76, 68, 65, 68, 68, 76] ++ tlA n ++ [] := by
  rcases h with rfl | rfl | rfl | rfl
  · exact (by decide : Lib.replace [76, 68, 65, 68, 68, 76, 42] [42] [66] 1 = [76, 68, 65, 68, 68, 76, 66])
  · exact (by decide : Lib.replace [76, 68, 65, 68, 68, 76, 42] [42] [72] 1 = [76, 68, 65, 68, 68, 76, 72])
  · exact (by decide : Lib.replace [76, 68, 65, 68, 68, 76, 42] [42] [87] 1 = [76, 68, 65, 68, 68, 76, 87])
  · exact (by decide : Lib.replace [76, 68, 65, 68, 68, 76, 42] [42] [] 1 = [76, 68, 65, 68, 68, 76])
theorem rpl_a7 {n : Int} (h : n = 1 ∨ n = 2 ∨ n = 4 ∨ n = 8) (a : Ins) (v : Value) (ps : List Int) : nameR amO ⟨[76, 68, 65, 68, 68, 65, 76, 42], a, v, ps⟩ n = [76, 68, 65, 68, 68, 65, 76] ++ tlA n ++ [] := by
  rcases h with rfl | rfl | rfl | rfl
  · exact (by decide : Lib.replace [76, 68, 65, 68, 68, 65, 76, 42] [42] [66] 1 = [76, 68, 65, 68, 68, 65, 76, 66])
  · exact (by decide : Lib.replace [76, 68, 65, 68, 68, 65, 76, 42] [42] [72] 1 = [76, 68, 65, 68, 68, 65, 76, 72])
  · exact (by decide : Lib.replace [76, 68, 65, 68, 68, 65, 76, 42] [42] [87] 1 = [76, 68, 65, 68, 68, 65, 76, 87])
  · exact (by decide : Lib.replace [76, 68, 65, 68, 68, 65, 76, 42] [42] [] 1 = [76, 68, 65, 68, 68, 65, 76])
theorem prv_1 {i : Ins} {lb : List UInt8} (hw : wrongB i = false) (ho : i.op = 1) : prL amO i lb = prW i lb := by
  obtain ⟨hp, hs⟩ := plain_of hw
  obtain ⟨op, dst, a, b, imm, loc, off, index, size, fn, acq, weak, rel, pred, succ, to, zero⟩ := i
  simp only at ho; subst ho
  simp [plainF, opB, rdB, wrB, immF] at hp
  obtain ⟨rfl, rfl, rfl, rfl, rfl, rfl, rfl, rfl, rfl, rfl, rfl, rfl, rfl, rfl⟩ := hp
  have hd := reg_rng (r := dst) (by simpa [soundB] using hs)
  have hr := fnd_1 (i := ⟨1, dst, -1, -1, imm, 0, 0, -1, 0, 0, false, false, false, 0, 0, 0, false⟩) rfl
  rw [find_take (fitr_yes rfl (by simp [showsR, lacks, regP]; omega))] at hr
  refine bothV (t := [77, 79, 86] ++ [32] ++ nameA dst ++ [44] ++ ([35] ++ Lib.itoa imm)) hw (by simp [txtW, ktxt0, frO]) (by simp) ((prv_row hw hr 1 5 rfl).trans ?_)
  rw [namev_zero, opv_reg (r := dst) rfl, opv_imm]
  simp [List.append_assoc]
theorem prv_2 {i : Ins} {lb : List UInt8} (hw : wrongB i = false) (ho : i.op = 2) : prL amO i lb = prW i lb := by
  obtain ⟨hp, hs⟩ := plain_of hw
  obtain ⟨op, dst, a, b, imm, loc, off, index, size, fn, acq, weak, rel, pred, succ, to, zero⟩ := i
  simp only at ho; subst ho
  simp [plainF, opB, rdB, wrB, immF] at hp
  obtain ⟨rfl, rfl, rfl, rfl, rfl, rfl, rfl, rfl, rfl, rfl, rfl, rfl, rfl, rfl⟩ := hp
  have hs2 : regB dst = true ∧ regB a = true := by simpa [soundB] using hs
  have hd := reg_rng hs2.1
  have ha := reg_rng hs2.2
  have hr := fnd_2 (i := ⟨2, dst, a, -1, 0, 0, 0, -1, 0, 0, false, false, false, 0, 0, 0, false⟩) rfl
  rw [find_take (fitr_yes rfl (by simp [showsR, lacks, regP]; omega))] at hr
  refine bothV (t := [77, 79, 86] ++ [32] ++ nameA dst ++ [44] ++ nameA a) hw (by simp [txtW, ktxt0, frO]) (by simp) ((prv_row hw hr 1 2 rfl).trans ?_)
  rw [namev_zero, opv_reg (r := dst) rfl, opv_reg (r := a) rfl]
  simp [List.append_assoc]
theorem prv_3 {i : Ins} {lb : List UInt8} (hw : wrongB i = false) (ho : i.op = 3) : prL amO i lb = prW i lb := by
  obtain ⟨hp, hs⟩ := plain_of hw
  obtain ⟨op, dst, a, b, imm, loc, off, index, size, fn, acq, weak, rel, pred, succ, to, zero⟩ := i
  simp only at ho; subst ho
  have hs2 : (((regB dst = true ∧ regB a = true) ∧ ronB b = true) ∧ 1 ≤ fn) ∧ fn ≤ 5 := by simpa [soundB] using hs
  have hd := reg_rng hs2.1.1.1.1
  have ha := reg_rng hs2.1.1.1.2
  have hb := ron_rng hs2.1.1.2
  have hf : fn = 1 ∨ fn = 2 ∨ fn = 3 ∨ fn = 4 ∨ fn = 5 := by omega
  by_cases hb1 : b = -1
  · subst hb1
    simp [plainF, opB, rdB, wrB, immF] at hp
    obtain ⟨rfl, rfl, rfl, rfl, rfl, rfl, rfl, rfl, rfl, rfl, rfl⟩ := hp
    rcases hf with rfl | rfl | rfl | rfl | rfl
    · have hr := fnd_3 (i := ⟨3, dst, a, -1, imm, 0, 0, -1, 0, 1, false, false, false, 0, 0, 0, false⟩) rfl
      rw [find_skip (fitr_hides (by simp [showsR, lacks, regP])), find_take (fitr_yes rfl (by simp [showsR, lacks, regP]; omega))] at hr
      refine bothV (t := [65, 68, 68] ++ [32] ++ nameA dst ++ [44] ++ nameA a ++ [44] ++ ([35] ++ Lib.itoa imm)) hw (by simp [txtW, ktxt0, frO, kfnT, kror0]) (by simp) ((prv_row3 hw rfl hr 1 2 5 rfl).trans ?_)
      rw [namev_zero, opv_reg (r := dst) rfl, opv_reg (r := a) rfl, opv_imm]
      simp [List.append_assoc]
    · have hr := fnd_3 (i := ⟨3, dst, a, -1, imm, 0, 0, -1, 0, 2, false, false, false, 0, 0, 0, false⟩) rfl
      rw [find_skip (fitr_no (by simp)), find_skip (fitr_no (by simp)), find_skip (fitr_hides (by simp [showsR, lacks, regP])), find_take (fitr_yes rfl (by simp [showsR, lacks, regP]; omega))] at hr
      refine bothV (t := [83, 85, 66] ++ [32] ++ nameA dst ++ [44] ++ nameA a ++ [44] ++ ([35] ++ Lib.itoa imm)) hw (by simp [txtW, ktxt0, frO, kfnT, kror0]) (by simp) ((prv_row3 hw rfl hr 1 2 5 rfl).trans ?_)
      rw [namev_zero, opv_reg (r := dst) rfl, opv_reg (r := a) rfl, opv_imm]
      simp [List.append_assoc]
    · have hr := fnd_3 (i := ⟨3, dst, a, -1, imm, 0, 0, -1, 0, 3, false, false, false, 0, 0, 0, false⟩) rfl
      rw [find_skip (fitr_no (by simp)), find_skip (fitr_no (by simp)), find_skip (fitr_no (by simp)), find_skip (fitr_no (by simp)), find_skip (fitr_hides (by simp [showsR, lacks, regP])), find_take (fitr_yes rfl (by simp [showsR, lacks, regP]; omega))] at hr
      refine bothV (t := [69, 79, 82] ++ [32] ++ nameA dst ++ [44] ++ nameA a ++ [44] ++ ([35] ++ Lib.itoa imm)) hw (by simp [txtW, ktxt0, frO, kfnT, kror0]) (by simp) ((prv_row3 hw rfl hr 1 2 5 rfl).trans ?_)
      rw [namev_zero, opv_reg (r := dst) rfl, opv_reg (r := a) rfl, opv_imm]
      simp [List.append_assoc]
    · have hr := fnd_3 (i := ⟨3, dst, a, -1, imm, 0, 0, -1, 0, 4, false, false, false, 0, 0, 0, false⟩) rfl
      rw [find_skip (fitr_no (by simp)), find_skip (fitr_no (by simp)), find_skip (fitr_no (by simp)), find_skip (fitr_no (by simp)), find_skip (fitr_no (by simp)), find_skip (fitr_no (by simp)), find_skip (fitr_hides (by simp [showsR, lacks, regP])), find_take (fitr_yes rfl (by simp [showsR, lacks, regP]; omega))] at hr
      refine bothV (t := [65, 78, 68] ++ [32] ++ nameA dst ++ [44] ++ nameA a ++ [44] ++ ([35] ++ Lib.itoa imm)) hw (by simp [txtW, ktxt0, frO, kfnT, kror0]) (by simp) ((prv_row3 hw rfl hr 1 2 5 rfl).trans ?_)
      rw [namev_zero, opv_reg (r := dst) rfl, opv_reg (r := a) rfl, opv_imm]
      simp [List.append_assoc]
    · have hr := fnd_3 (i := ⟨3, dst, a, -1, imm, 0, 0, -1, 0, 5, false, false, false, 0, 0, 0, false⟩) rfl
      rw [find_skip (fitr_no (by simp)), find_skip (fitr_no (by simp)), find_skip (fitr_no (by simp)), find_skip (fitr_no (by simp)), find_skip (fitr_no (by simp)), find_skip (fitr_no (by simp)), find_skip (fitr_no (by simp)), find_skip (fitr_no (by simp)), find_skip (fitr_hides (by simp [showsR, lacks, regP])), find_take (fitr_yes rfl (by simp [showsR, lacks, regP]; omega))] at hr
      refine bothV (t := [79, 82, 82] ++ [32] ++ nameA dst ++ [44] ++ nameA a ++ [44] ++ ([35] ++ Lib.itoa imm)) hw (by simp [txtW, ktxt0, frO, kfnT, kror0]) (by simp) ((prv_row3 hw rfl hr 1 2 5 rfl).trans ?_)
      rw [namev_zero, opv_reg (r := dst) rfl, opv_reg (r := a) rfl, opv_imm]
      simp [List.append_assoc]
  · have hbr : 0 ≤ b ∧ b < 8 := by rcases hb with h | h; exact absurd h hb1; exact h
    simp [plainF, opB, rdB, wrB, immF, hb1] at hp
    obtain ⟨rfl, rfl, rfl, rfl, rfl, rfl, rfl, rfl, rfl, rfl, rfl, rfl⟩ := hp
    rcases hf with rfl | rfl | rfl | rfl | rfl
    · have hr := fnd_3 (i := ⟨3, dst, a, b, 0, 0, 0, -1, 0, 1, false, false, false, 0, 0, 0, false⟩) rfl
      rw [find_take (fitr_yes rfl (by simp [showsR, lacks, regP]; omega))] at hr
      refine bothV (t := [65, 68, 68] ++ [32] ++ nameA dst ++ [44] ++ nameA a ++ [44] ++ nameA b) hw (by simp [txtW, ktxt0, frO, kfnT, kror0, show ¬ b < 0 by omega]) (by simp) ((prv_row3 hw rfl hr 1 2 3 rfl).trans ?_)
      rw [namev_zero, opv_reg (r := dst) rfl, opv_reg (r := a) rfl, opv_reg (r := b) rfl]
      simp [List.append_assoc]
    · have hr := fnd_3 (i := ⟨3, dst, a, b, 0, 0, 0, -1, 0, 2, false, false, false, 0, 0, 0, false⟩) rfl
      rw [find_skip (fitr_no (by simp)), find_skip (fitr_no (by simp)), find_take (fitr_yes rfl (by simp [showsR, lacks, regP]; omega))] at hr
      refine bothV (t := [83, 85, 66] ++ [32] ++ nameA dst ++ [44] ++ nameA a ++ [44] ++ nameA b) hw (by simp [txtW, ktxt0, frO, kfnT, kror0, show ¬ b < 0 by omega]) (by simp) ((prv_row3 hw rfl hr 1 2 3 rfl).trans ?_)
      rw [namev_zero, opv_reg (r := dst) rfl, opv_reg (r := a) rfl, opv_reg (r := b) rfl]
      simp [List.append_assoc]
    · have hr := fnd_3 (i := ⟨3, dst, a, b, 0, 0, 0, -1, 0, 3, false, false, false, 0, 0, 0, false⟩) rfl
      rw [find_skip (fitr_no (by simp)), find_skip (fitr_no (by simp)), find_skip (fitr_no (by simp)), find_skip (fitr_no (by simp)), find_take (fitr_yes rfl (by simp [showsR, lacks, regP]; omega))] at hr
      refine bothV (t := [69, 79, 82] ++ [32] ++ nameA dst ++ [44] ++ nameA a ++ [44] ++ nameA b) hw (by simp [txtW, ktxt0, frO, kfnT, kror0, show ¬ b < 0 by omega]) (by simp) ((prv_row3 hw rfl hr 1 2 3 rfl).trans ?_)
      rw [namev_zero, opv_reg (r := dst) rfl, opv_reg (r := a) rfl, opv_reg (r := b) rfl]
      simp [List.append_assoc]
    · have hr := fnd_3 (i := ⟨3, dst, a, b, 0, 0, 0, -1, 0, 4, false, false, false, 0, 0, 0, false⟩) rfl
      rw [find_skip (fitr_no (by simp)), find_skip (fitr_no (by simp)), find_skip (fitr_no (by simp)), find_skip (fitr_no (by simp)), find_skip (fitr_no (by simp)), find_skip (fitr_no (by simp)), find_take (fitr_yes rfl (by simp [showsR, lacks, regP]; omega))] at hr
      refine bothV (t := [65, 78, 68] ++ [32] ++ nameA dst ++ [44] ++ nameA a ++ [44] ++ nameA b) hw (by simp [txtW, ktxt0, frO, kfnT, kror0, show ¬ b < 0 by omega]) (by simp) ((prv_row3 hw rfl hr 1 2 3 rfl).trans ?_)
      rw [namev_zero, opv_reg (r := dst) rfl, opv_reg (r := a) rfl, opv_reg (r := b) rfl]
      simp [List.append_assoc]
    · have hr := fnd_3 (i := ⟨3, dst, a, b, 0, 0, 0, -1, 0, 5, false, false, false, 0, 0, 0, false⟩) rfl
      rw [find_skip (fitr_no (by simp)), find_skip (fitr_no (by simp)), find_skip (fitr_no (by simp)), find_skip (fitr_no (by simp)), find_skip (fitr_no (by simp)), find_skip (fitr_no (by simp)), find_skip (fitr_no (by simp)), find_skip (fitr_no (by simp)), find_take (fitr_yes rfl (by simp [showsR, lacks, regP]; omega))] at hr
      refine bothV (t := [79, 82, 82] ++ [32] ++ nameA dst ++ [44] ++ nameA a ++ [44] ++ nameA b) hw (by simp [txtW, ktxt0, frO, kfnT, kror0, show ¬ b < 0 by omega]) (by simp) ((prv_row3 hw rfl hr 1 2 3 rfl).trans ?_)
      rw [namev_zero, opv_reg (r := dst) rfl, opv_reg (r := a) rfl, opv_reg (r := b) rfl]
      simp [List.append_assoc]
theorem prv_4 {i : Ins} {lb : List UInt8} (hw : wrongB i = false) (ho : i.op = 4) : prL amO i lb = prW i lb := by
  obtain ⟨hp, hs⟩ := plain_of hw
  obtain ⟨op, dst, a, b, imm, loc, off, index, size, fn, acq, weak, rel, pred, succ, to, zero⟩ := i
  simp only at ho; subst ho
  simp [plainF, opB, rdB, wrB, immF] at hp
  obtain ⟨rfl, rfl, rfl, rfl, rfl, rfl, rfl, rfl, rfl⟩ := hp
  have hs2 : (regB dst = true ∧ accB ⟨4, dst, -1, -1, 0, loc, off, index, size, 0, acq, weak, false, 0, 0, 0, false⟩ = true) ∧ (acq = false ∨ weak = false) := by simpa [soundB] using hs
  have hd := reg_rng hs2.1.1
  obtain ⟨hl, hi, hz⟩ := acc_all hs2.1.2
  cases acq <;> cases weak
  · have hr := fnd_4 (i := ⟨4, dst, -1, -1, 0, loc, off, index, size, 0, false, false, false, 0, 0, 0, false⟩) rfl
    rw [find_take (fitr_yes rfl (by simp [showsR, lacks, regP]; omega))] at hr
    refine bothV (t := [76, 68, 82] ++ tlA size ++ [32] ++ nameA dst ++ [44] ++ kmem0 (frO ⟨4, dst, -1, -1, 0, loc, off, index, size, 0, false, false, false, 0, 0, 0, false⟩)) hw (by simp [txtW, ktxt0, frO, kacc0]) (by simp) ((prv_row hw hr 1 6 rfl).trans ?_)
    rw [rpl_l hz, opv_reg (r := dst) rfl, opv_mem hi]
    simp [List.append_assoc]
  · have hr := fnd_4 (i := ⟨4, dst, -1, -1, 0, loc, off, index, size, 0, false, true, false, 0, 0, 0, false⟩) rfl
    rw [find_skip (fitr_no (by simp)), find_skip (fitr_no (by simp)), find_take (fitr_yes rfl (by simp [showsR, lacks, regP]; omega))] at hr
    refine bothV (t := [76, 68, 65, 80, 82] ++ tlA size ++ [32] ++ nameA dst ++ [44] ++ kmem0 (frO ⟨4, dst, -1, -1, 0, loc, off, index, size, 0, false, true, false, 0, 0, 0, false⟩)) hw (by simp [txtW, ktxt0, frO, kacc0]) (by simp) ((prv_row hw hr 1 6 rfl).trans ?_)
    rw [rpl_lq hz, opv_reg (r := dst) rfl, opv_mem hi]
    simp [List.append_assoc]
  · have hr := fnd_4 (i := ⟨4, dst, -1, -1, 0, loc, off, index, size, 0, true, false, false, 0, 0, 0, false⟩) rfl
    rw [find_skip (fitr_no (by simp)), find_take (fitr_yes rfl (by simp [showsR, lacks, regP]; omega))] at hr
    refine bothV (t := [76, 68, 65, 82] ++ tlA size ++ [32] ++ nameA dst ++ [44] ++ kmem0 (frO ⟨4, dst, -1, -1, 0, loc, off, index, size, 0, true, false, false, 0, 0, 0, false⟩)) hw (by simp [txtW, ktxt0, frO, kacc0]) (by simp) ((prv_row hw hr 1 6 rfl).trans ?_)
    rw [rpl_la hz, opv_reg (r := dst) rfl, opv_mem hi]
    simp [List.append_assoc]
  · exact absurd hs2.2 (by decide)
theorem prv_5 {i : Ins} {lb : List UInt8} (hw : wrongB i = false) (ho : i.op = 5) : prL amO i lb = prW i lb := by
  obtain ⟨hp, hs⟩ := plain_of hw
  obtain ⟨op, dst, a, b, imm, loc, off, index, size, fn, acq, weak, rel, pred, succ, to, zero⟩ := i
  simp only at ho; subst ho
  have hs2 : ronB a = true ∧ accB ⟨5, dst, a, b, imm, loc, off, index, size, fn, acq, weak, rel, pred, succ, to, zero⟩ = true := by simpa [soundB] using hs
  have ha := ron_rng hs2.1
  obtain ⟨hl, hi, hz⟩ := acc_all hs2.2
  by_cases ha1 : a = -1
  · subst ha1
    simp [plainF, opB, rdB, wrB, immF] at hp
    obtain ⟨rfl, rfl, rfl, rfl, rfl, rfl, rfl, rfl, rfl⟩ := hp
    refine neitherV hw (by simp [txtW, ktxt0, frO, kacc0]) ?_
    rw [fnd_5 rfl, find_skip (fitr_hides (by simp [showsR, lacks, regP])), find_skip (fitr_hides (by simp [showsR, lacks, regP]))]; rfl
  · have har : 0 ≤ a ∧ a < 8 := by rcases ha with h | h; exact absurd h ha1; exact h
    simp [plainF, opB, rdB, wrB, immF, ha1] at hp
    obtain ⟨rfl, rfl, rfl, rfl, rfl, rfl, rfl, rfl, rfl, rfl⟩ := hp
    cases rel
    · have hr := fnd_5 (i := ⟨5, -1, a, -1, 0, loc, off, index, size, 0, false, false, false, 0, 0, 0, false⟩) rfl
      rw [find_take (fitr_yes rfl (by simp [showsR, lacks, regP]; omega))] at hr
      refine bothV (t := [83, 84, 82] ++ tlA size ++ [32] ++ nameA a ++ [44] ++ kmem0 (frO ⟨5, -1, a, -1, 0, loc, off, index, size, 0, false, false, false, 0, 0, 0, false⟩)) hw (by simp [txtW, ktxt0, frO, kacc0, show ¬ a < 0 by omega]) (by simp) ((prv_row hw hr 2 6 rfl).trans ?_)
      rw [rpl_s hz, opv_reg (r := a) rfl, opv_mem hi]
      simp [List.append_assoc]
    · have hr := fnd_5 (i := ⟨5, -1, a, -1, 0, loc, off, index, size, 0, false, false, true, 0, 0, 0, false⟩) rfl
      rw [find_skip (fitr_no (by simp)), find_take (fitr_yes rfl (by simp [showsR, lacks, regP]; omega))] at hr
      refine bothV (t := [83, 84, 76, 82] ++ tlA size ++ [32] ++ nameA a ++ [44] ++ kmem0 (frO ⟨5, -1, a, -1, 0, loc, off, index, size, 0, false, false, true, 0, 0, 0, false⟩)) hw (by simp [txtW, ktxt0, frO, kacc0, show ¬ a < 0 by omega]) (by simp) ((prv_row hw hr 2 6 rfl).trans ?_)
      rw [rpl_sl hz, opv_reg (r := a) rfl, opv_mem hi]
      simp [List.append_assoc]
theorem prv_6 {i : Ins} {lb : List UInt8} (hw : wrongB i = false) (ho : i.op = 6) : prL amO i lb = prW i lb := by
  obtain ⟨hp, hs⟩ := plain_of hw
  obtain ⟨op, dst, a, b, imm, loc, off, index, size, fn, acq, weak, rel, pred, succ, to, zero⟩ := i
  simp only at ho; subst ho
  simp [plainF, opB, rdB, wrB, immF] at hp
  obtain ⟨rfl, rfl, rfl, rfl, rfl, rfl, rfl⟩ := hp
  have hs2 : ((regB dst = true ∧ regB a = true) ∧ accB ⟨6, dst, a, -1, 0, loc, off, index, size, fn, acq, false, rel, 0, 0, 0, false⟩ = true) ∧ (fn = 6 ∨ fn = 1) := by simpa [soundB] using hs
  have hd := reg_rng hs2.1.1.1
  have ha := reg_rng hs2.1.1.2
  obtain ⟨hl, hi, hz⟩ := acc_all hs2.1.2
  rcases hs2.2 with rfl | rfl
  · cases acq <;> cases rel
    · have hr := fnd_6 (i := ⟨6, dst, a, -1, 0, loc, off, index, size, 6, false, false, false, 0, 0, 0, false⟩) rfl
      rw [find_take (fitr_yes rfl (by simp [showsR, lacks, regP]; omega))] at hr
      refine bothV (t := [83, 87, 80] ++ tlA size ++ [] ++ [32] ++ nameA a ++ [44] ++ nameA dst ++ [44] ++ kmem0 (frO ⟨6, dst, a, -1, 0, loc, off, index, size, 6, false, false, false, 0, 0, 0, false⟩)) hw (by simp [txtW, ktxt0, frO, kacc0, krmw0]) (by simp) ((prv_row3 hw rfl hr 2 1 6 rfl).trans ?_)
      rw [rpl_a0 hz, opv_reg (r := a) rfl, opv_reg (r := dst) rfl, opv_mem hi]
      simp [List.append_assoc]
    · have hr := fnd_6 (i := ⟨6, dst, a, -1, 0, loc, off, index, size, 6, false, false, true, 0, 0, 0, false⟩) rfl
      rw [find_skip (fitr_no (by simp)), find_skip (fitr_no (by simp)), find_take (fitr_yes rfl (by simp [showsR, lacks, regP]; omega))] at hr
      refine bothV (t := [83, 87, 80, 76] ++ tlA size ++ [] ++ [32] ++ nameA a ++ [44] ++ nameA dst ++ [44] ++ kmem0 (frO ⟨6, dst, a, -1, 0, loc, off, index, size, 6, false, false, true, 0, 0, 0, false⟩)) hw (by simp [txtW, ktxt0, frO, kacc0, krmw0]) (by simp) ((prv_row3 hw rfl hr 2 1 6 rfl).trans ?_)
      rw [rpl_a2 hz, opv_reg (r := a) rfl, opv_reg (r := dst) rfl, opv_mem hi]
      simp [List.append_assoc]
    · have hr := fnd_6 (i := ⟨6, dst, a, -1, 0, loc, off, index, size, 6, true, false, false, 0, 0, 0, false⟩) rfl
      rw [find_skip (fitr_no (by simp)), find_take (fitr_yes rfl (by simp [showsR, lacks, regP]; omega))] at hr
      refine bothV (t := [83, 87, 80, 65] ++ tlA size ++ [] ++ [32] ++ nameA a ++ [44] ++ nameA dst ++ [44] ++ kmem0 (frO ⟨6, dst, a, -1, 0, loc, off, index, size, 6, true, false, false, 0, 0, 0, false⟩)) hw (by simp [txtW, ktxt0, frO, kacc0, krmw0]) (by simp) ((prv_row3 hw rfl hr 2 1 6 rfl).trans ?_)
      rw [rpl_a1 hz, opv_reg (r := a) rfl, opv_reg (r := dst) rfl, opv_mem hi]
      simp [List.append_assoc]
    · have hr := fnd_6 (i := ⟨6, dst, a, -1, 0, loc, off, index, size, 6, true, false, true, 0, 0, 0, false⟩) rfl
      rw [find_skip (fitr_no (by simp)), find_skip (fitr_no (by simp)), find_skip (fitr_no (by simp)), find_take (fitr_yes rfl (by simp [showsR, lacks, regP]; omega))] at hr
      refine bothV (t := [83, 87, 80, 65, 76] ++ tlA size ++ [] ++ [32] ++ nameA a ++ [44] ++ nameA dst ++ [44] ++ kmem0 (frO ⟨6, dst, a, -1, 0, loc, off, index, size, 6, true, false, true, 0, 0, 0, false⟩)) hw (by simp [txtW, ktxt0, frO, kacc0, krmw0]) (by simp) ((prv_row3 hw rfl hr 2 1 6 rfl).trans ?_)
      rw [rpl_a3 hz, opv_reg (r := a) rfl, opv_reg (r := dst) rfl, opv_mem hi]
      simp [List.append_assoc]
  · cases acq <;> cases rel
    · have hr := fnd_6 (i := ⟨6, dst, a, -1, 0, loc, off, index, size, 1, false, false, false, 0, 0, 0, false⟩) rfl
      rw [find_skip (fitr_no (by simp)), find_skip (fitr_no (by simp)), find_skip (fitr_no (by simp)), find_skip (fitr_no (by simp)), find_take (fitr_yes rfl (by simp [showsR, lacks, regP]; omega))] at hr
      refine bothV (t := [76, 68, 65, 68, 68] ++ tlA size ++ [] ++ [32] ++ nameA a ++ [44] ++ nameA dst ++ [44] ++ kmem0 (frO ⟨6, dst, a, -1, 0, loc, off, index, size, 1, false, false, false, 0, 0, 0, false⟩)) hw (by simp [txtW, ktxt0, frO, kacc0, krmw0]) (by simp) ((prv_row3 hw rfl hr 2 1 6 rfl).trans ?_)
      rw [rpl_a4 hz, opv_reg (r := a) rfl, opv_reg (r := dst) rfl, opv_mem hi]
      simp [List.append_assoc]
    · have hr := fnd_6 (i := ⟨6, dst, a, -1, 0, loc, off, index, size, 1, false, false, true, 0, 0, 0, false⟩) rfl
      rw [find_skip (fitr_no (by simp)), find_skip (fitr_no (by simp)), find_skip (fitr_no (by simp)), find_skip (fitr_no (by simp)), find_skip (fitr_no (by simp)), find_skip (fitr_no (by simp)), find_take (fitr_yes rfl (by simp [showsR, lacks, regP]; omega))] at hr
      refine bothV (t := [76, 68, 65, 68, 68, 76] ++ tlA size ++ [] ++ [32] ++ nameA a ++ [44] ++ nameA dst ++ [44] ++ kmem0 (frO ⟨6, dst, a, -1, 0, loc, off, index, size, 1, false, false, true, 0, 0, 0, false⟩)) hw (by simp [txtW, ktxt0, frO, kacc0, krmw0]) (by simp) ((prv_row3 hw rfl hr 2 1 6 rfl).trans ?_)
      rw [rpl_a6 hz, opv_reg (r := a) rfl, opv_reg (r := dst) rfl, opv_mem hi]
      simp [List.append_assoc]
    · have hr := fnd_6 (i := ⟨6, dst, a, -1, 0, loc, off, index, size, 1, true, false, false, 0, 0, 0, false⟩) rfl
      rw [find_skip (fitr_no (by simp)), find_skip (fitr_no (by simp)), find_skip (fitr_no (by simp)), find_skip (fitr_no (by simp)), find_skip (fitr_no (by simp)), find_take (fitr_yes rfl (by simp [showsR, lacks, regP]; omega))] at hr
      refine bothV (t := [76, 68, 65, 68, 68, 65] ++ tlA size ++ [] ++ [32] ++ nameA a ++ [44] ++ nameA dst ++ [44] ++ kmem0 (frO ⟨6, dst, a, -1, 0, loc, off, index, size, 1, true, false, false, 0, 0, 0, false⟩)) hw (by simp [txtW, ktxt0, frO, kacc0, krmw0]) (by simp) ((prv_row3 hw rfl hr 2 1 6 rfl).trans ?_)
      rw [rpl_a5 hz, opv_reg (r := a) rfl, opv_reg (r := dst) rfl, opv_mem hi]
      simp [List.append_assoc]
    · have hr := fnd_6 (i := ⟨6, dst, a, -1, 0, loc, off, index, size, 1, true, false, true, 0, 0, 0, false⟩) rfl
      rw [find_skip (fitr_no (by simp)), find_skip (fitr_no (by simp)), find_skip (fitr_no (by simp)), find_skip (fitr_no (by simp)), find_skip (fitr_no (by simp)), find_skip (fitr_no (by simp)), find_skip (fitr_no (by simp)), find_take (fitr_yes rfl (by simp [showsR, lacks, regP]; omega))] at hr
      refine bothV (t := [76, 68, 65, 68, 68, 65, 76] ++ tlA size ++ [] ++ [32] ++ nameA a ++ [44] ++ nameA dst ++ [44] ++ kmem0 (frO ⟨6, dst, a, -1, 0, loc, off, index, size, 1, true, false, true, 0, 0, 0, false⟩)) hw (by simp [txtW, ktxt0, frO, kacc0, krmw0]) (by simp) ((prv_row3 hw rfl hr 2 1 6 rfl).trans ?_)
      rw [rpl_a7 hz, opv_reg (r := a) rfl, opv_reg (r := dst) rfl, opv_mem hi]
      simp [List.append_assoc]
theorem prv_9 {i : Ins} {lb : List UInt8} (hw : wrongB i = false) (ho : i.op = 9) : prL amO i lb = prW i lb := by
  obtain ⟨hp, hs⟩ := plain_of hw
  obtain ⟨op, dst, a, b, imm, loc, off, index, size, fn, acq, weak, rel, pred, succ, to, zero⟩ := i
  simp only at ho; subst ho
  simp [plainF, opB, rdB, wrB, immF] at hp
  obtain ⟨rfl, rfl, rfl, rfl, rfl, rfl, rfl, rfl, rfl, rfl, rfl, rfl, rfl⟩ := hp
  have ha := reg_rng (r := a) (by simpa [soundB] using hs)
  cases zero
  · have hr := fnd_9 (i := ⟨9, -1, a, -1, 0, 0, 0, -1, 0, 0, false, false, false, 0, 0, to, false⟩) rfl
    rw [find_skip (fitr_no (by simp)), find_take (fitr_yes rfl (by simp [showsR, lacks, regP]; omega))] at hr
    refine bothV (t := [67, 66, 78, 90] ++ [32] ++ nameA a ++ [44] ++ lb) hw (by simp [txtW, ktxt0, frO, kbr0]) (by simp) ((prv_row hw hr 2 7 rfl).trans ?_)
    rw [namev_zero, opv_reg (r := a) rfl, opv_lab]
    simp [List.append_assoc]
  · have hr := fnd_9 (i := ⟨9, -1, a, -1, 0, 0, 0, -1, 0, 0, false, false, false, 0, 0, to, true⟩) rfl
    rw [find_take (fitr_yes rfl (by simp [showsR, lacks, regP]; omega))] at hr
    refine bothV (t := [67, 66, 90] ++ [32] ++ nameA a ++ [44] ++ lb) hw (by simp [txtW, ktxt0, frO, kbr0]) (by simp) ((prv_row hw hr 2 7 rfl).trans ?_)
    rw [namev_zero, opv_reg (r := a) rfl, opv_lab]
    simp [List.append_assoc]
theorem prv_eq (i : Ins) (lb : List UInt8) (h7 : i.op ≠ 7) (h8 : i.op ≠ 8) : prL amO i lb = prW i lb := by
  cases hw : wrongB i
  · rcases fields hw with h | h | h | h | h | h | h | h | h
    · exact prv_1 hw h
    · exact prv_2 hw h
    · exact prv_3 hw h
    · exact prv_4 hw h
    · exact prv_5 hw h
    · exact prv_6 hw h
    · exact absurd h h7
    · exact absurd h h8
    · exact prv_9 hw h
  · unfold prL prW; rw [hw, if_pos rfl, if_pos rfl]
end Go.Proofs.YtedlaclfhgneeabGreatDoor.Old
namespace Go.Proofs.YtedlaclfhgneeabGreatDoor
theorem prA_is (i : In) (lb : List UInt8) : prA i lb = Old.prW (toO i) lb := by
  have h := Old.wrong_asb (toO i)
  have e : Old.txtW (toO i) lb = ktxt0 i lb := rfl
  have e9 : (toO i).op = i.op := rfl
  have eq : (eqL (ktxt0 i lb) [] = true) = (ktxt0 i lb = []) := propext ⟨eqL_eq, fun h => by rw [h]; exact eqL_same _⟩
  unfold prA Old.prW
  rw [e, e9, ← one_o]
  simp only [eq]
  by_cases ho : i.op = 9
  · have ea : Old.asB (toO i) = toO ({ i with to_ := 1 } : In) := Old.asb_yes (by rw [e9, ho]; rfl)
    rw [ea] at h
    rw [if_pos ho]
    cases hw : Old.wrongB (toO i)
    · rw [hw] at h
      have h0 : Old.rightR (toO ({ i with to_ := 1 } : In)) 0 1 = 0 := by simpa using h
      rw [if_pos h0]; simp [ho]
    · rw [hw] at h
      have h0 : ¬ Old.rightR (toO ({ i with to_ := 1 } : In)) 0 1 = 0 := by simpa using h
      rw [if_neg h0]; simp
  · have ea : Old.asB (toO i) = toO i := Old.asb_no (by rw [e9]; simpa using ho)
    rw [ea] at h
    rw [if_neg ho]
    cases hw : Old.wrongB (toO i)
    · rw [hw] at h
      have h0 : Old.rightR (toO i) 0 1 = 0 := by simpa using h
      rw [if_pos h0]; simp [ho]
    · rw [hw] at h
      have h0 : ¬ Old.rightR (toO i) 0 1 = 0 := by simpa using h
      rw [if_neg h0]; simp
theorem pra_7l {pred succ : Int} (lb : List UInt8) (h1 : pred = 1 ∨ pred = 2 ∨ pred = 3) (h2 : succ = 1 ∨ succ = 2 ∨ succ = 3) : prP armG armC (⟨7, -1, -1, -1, 0, 0, 0, -1, 0, 0, false, false, false, pred, succ, 0, false⟩ : In) lb = prA (⟨7, -1, -1, -1, 0, 0, 0, -1, 0, 0, false, false, false, pred, succ, 0, false⟩ : In) lb := by
  rcases h1 with rfl | rfl | rfl <;> rcases h2 with rfl | rfl | rfl <;> kernel_rfl
set_option linter.unusedSimpArgs false
theorem pra_78 (i : In) (lb : List UInt8) (h : i.op = 7 ∨ i.op = 8) : prP armG armC i lb = prA i lb := by
  cases hw : Old.wrongB (toO i) with
  | true =>
    rw [prA_is]
    unfold prP Old.prW
    rw [wrong_o, hw, if_pos rfl, if_pos rfl]
  | false =>
    obtain ⟨hp, hs⟩ := Old.plain_of hw
    obtain ⟨op, dst, a, b, imm, loc, off, ix, sz, fn, acq, weak, rel, pred, succ, to_, zero⟩ := i
    rcases h with h | h
    · simp only at h; subst h
      simp [Old.plainF, Old.opB, Old.rdB, Old.wrB, Old.immF, toO] at hp
      obtain ⟨rfl, rfl, rfl, rfl, rfl, rfl, rfl, rfl, rfl, rfl, rfl, rfl, rfl, rfl⟩ := hp
      have hs2 : (pred = 1 ∨ pred = 2 ∨ pred = 3) ∧ (succ = 1 ∨ succ = 2 ∨ succ = 3) := by
        have : Old.fenB pred = true ∧ Old.fenB succ = true := by simpa [Old.soundB, toO] using hs
        simp only [Old.fenB, Bool.or_eq_true, beq_iff_eq] at this
        omega
      exact pra_7l lb hs2.1 hs2.2
    · simp only at h; subst h
      simp [Old.plainF, Old.opB, Old.rdB, Old.wrB, Old.immF, toO] at hp
      obtain ⟨rfl, rfl, rfl, rfl, rfl, rfl, rfl, rfl, rfl, rfl, rfl, rfl, rfl, rfl, rfl, rfl⟩ := hp
      kernel_rfl
theorem pra_ref (i : In) (lb : List UInt8) : prP armG armC i lb = prA i lb := by
  by_cases h7 : i.op = 7
  · exact pra_78 i lb (.inl h7)
  · by_cases h8 : i.op = 8
    · exact pra_78 i lb (.inr h8)
    · exact (prO_v i lb h7).trans ((Old.prv_eq _ _ h7 h8).trans (prA_is i lb).symm)
end Go.Proofs.YtedlaclfhgneeabGreatDoor
namespace Go.Proofs.YtedlaclfhgneeabGreatDoor
set_option linter.unusedVariables false
def skipC : Nat → List UInt8 → Nat × Bool
  | 0, _ => (0, false)
  | _ + 1, [] => (0, false)
  | n + 1, b :: r =>
    if blkB b then ((skipC n r).1 + 1, (skipC n r).2)
    else if preB (b :: r) [40, 42] then
      if endR ((b :: r).drop 2) < 0 then (0, true)
      else ((skipC n ((b :: r).drop (endR ((b :: r).drop 2)).toNat.succ.succ.succ.succ)).1 + ((endR ((b :: r).drop 2)).toNat + 4), (skipC n ((b :: r).drop (endR ((b :: r).drop 2)).toNat.succ.succ.succ.succ)).2)
    else (0, false)
theorem skip_C : ∀ (n : Nat) (l : List UInt8), l.length ≤ n → skipL l = skipC n l := by
  intro n
  induction n with
  | zero => intro l hl; obtain rfl : l = [] := List.eq_nil_of_length_eq_zero (Nat.le_zero.1 hl); rw [skip_nil]; rfl
  | succ n ih =>
    intro l hl
    match l, hl with
    | [], _ => rw [skip_nil]; rfl
    | b :: r, hl =>
      rw [skipL, skipC, ih r (by simpa using hl), ih ((b :: r).drop (endR ((b :: r).drop 2)).toNat.succ.succ.succ.succ) (by rw [List.length_drop]; omega)]
def toksC : Nat → List UInt8 → Nat → List Tk → List Tk × Int × Nat
  | 0, _, _, _ => ([], 0, 0)
  | f + 1, l, a, ws =>
    if (skipC l.length (l.drop a)).2 then ([], 24, a + (skipC l.length (l.drop a)).1)
    else if a + (skipC l.length (l.drop a)).1 = l.length then (ws, 0, 0)
    else if (firstR (l.drop (a + (skipC l.length (l.drop a)).1))).2 = 0 then
      toksC f l (a + (skipC l.length (l.drop a)).1 + (firstR (l.drop (a + (skipC l.length (l.drop a)).1))).1.text.length) (ws ++ [{ (firstR (l.drop (a + (skipC l.length (l.drop a)).1))).1 with at_ := ((a + (skipC l.length (l.drop a)).1 : Nat) : Int) }])
    else ([], (firstR (l.drop (a + (skipC l.length (l.drop a)).1))).2, a + (skipC l.length (l.drop a)).1)
theorem toks_C : ∀ (f : Nat) (l : List UInt8) (a : Nat) (ws : List Tk), toksF f l a ws = toksC f l a ws := by
  intro f
  induction f with
  | zero => intros; rfl
  | succ f ih =>
    intro l a ws
    rw [toksF, toksC, skip_C l.length (l.drop a) (by rw [List.length_drop]; omega), ih]
theorem tokens_C {l : List UInt8} (h : l.length ≤ 8192) : tokensR l = toksC (l.length + 1) l 0 [] := by rw [tokens_short h, toks_C]
end Go.Proofs.YtedlaclfhgneeabGreatDoor
namespace Go.Proofs.YtedlaclfhgneeabGreatDoor
open Go.RowKit
set_option linter.unusedVariables false
set_option linter.unusedSimpArgs false
set_option maxRecDepth 100000
set_option maxHeartbeats 2000000
theorem fnI_nil {I : Amb} {P : Program} {f s : Nat} {F : Nat → List SV} {x : SV} (h : FnI I P f [.sl 0 0 0] [some (.lst s 0 F)] (Rt x [some (.lst s 0 F)])) (hF : ∀ k, ∃ vs, denL [] (F k) = some vs) (hx : ∀ G, den G x = den [] x) : FnI I P f [.sla none 0 0] [] (Rt x []) := by
  refine ⟨h.1, fun G w vs hM hI hv => ?_⟩
  have hG : G = [] := List.length_eq_zero_iff.1 hM.len.symm
  subst hG
  have hM2 : Mem [some (.lst s 0 F)] [none] w := ⟨rfl, fun i e he => by
    match i, he with
    | 0, he => cases he; exact ⟨hF, .inl rfl⟩
    | i + 1, he => set_option simprocs true in simp at he, fun i j e g L M hij hi hj he hL => by
    match i, hi with
    | 0, hi => set_option simprocs true in simp at hL
    | i + 1, hi => set_option simprocs true in simp at hi⟩
  refine Calls.mono (h.2 [none] w vs hM2 hI hv) fun e w' ⟨x', H', F', v, ⟨q1, q2⟩, r1, r2, r3, r4, r5, r6, r7⟩ => ?_
  subst q1; subst q2
  exact ⟨_, _, [], v, ⟨rfl, rfl⟩, by rw [hx] at r1 ⊢; exact r1, r2, ⟨rfl, fun i e he => by set_option simprocs true in simp at he, fun i j e g L M hij hi => by set_option simprocs true in simp at hi⟩, r4, Nat.le_refl _, fun i e he => by set_option simprocs true in simp at he, fun i e he => by set_option simprocs true in simp at he⟩
theorem ws0_ok : WsOK [] := fun t h => by cases h
end Go.Proofs.YtedlaclfhgneeabGreatDoor
namespace Go.Proofs.YtedlaclfhgneeabGreatDoor
open Go.RowKit
set_option linter.unusedVariables false
set_option linter.unusedSimpArgs false
set_option maxRecDepth 100000
set_option maxHeartbeats 2000000
set_option simprocs false
theorem regnm_a (r : Int) : regnm0 [88, 48] [88, 49] [88, 50] [88, 51] [88, 52] [88, 53] [88, 54] [88, 55] r = nameA r := by
  unfold regnm0
  split
  · next h => rw [nameA_o (by revert h; simp only [Bool.or_eq_true, decide_eq_true_eq]; omega)]
  · next h =>
    have : r = 0 ∨ r = 1 ∨ r = 2 ∨ r = 3 ∨ r = 4 ∨ r = 5 ∨ r = 6 ∨ r = 7 := by
      revert h; simp only [Bool.or_eq_true, decide_eq_true_eq]; omega
    rcases this with e | e | e | e | e | e | e | e <;> subst e <;> rfl
theorem aname_ (r : Int)  : Fn Tryz.prog 14 [.int .i64 r] [] (Rt (.str (nameA r)) []) :=
 enterM (n := 6) (by kernel_rfl) Tryz.func14 rfl rfl rfl fun G w a h0 A => N hX 7 A rfl rfl fun A => CALL1 [] aregs_ A rfl rfl rfl rfl rfl rfl rfl fun A => N hX 1 A rfl rfl fun A => CALL1 [] (regnm_ [88, 48] [88, 49] [88, 50] [88, 51] [88, 52] [88, 53] [88, 54] [88, 55] r) A rfl rfl rfl rfl rfl rfl rfl fun A => N hX 4 A rfl rfl fun A => RETN hX A rfl rfl rfl h0 rfl rfl rfl rfl (by rw [← regnm_a] <;> rfl) rfl
theorem areg_ (q : List UInt8)  : Fn Tryz.prog 16 [.str q] [] (Rt (.int .i64 (regA q)) []) :=
 enterM (n := 6) (by kernel_rfl) Tryz.func16 rfl rfl rfl fun G w a h0 A => N hX 7 A rfl rfl fun A => CALL1 [] aregs_ A rfl rfl rfl rfl rfl rfl rfl fun A => N hX 1 A rfl rfl fun A => CALL1 [] (lreg_ [88, 48] [88, 49] [88, 50] [88, 51] [88, 52] [88, 53] [88, 54] [88, 55] q) A rfl rfl rfl rfl rfl rfl rfl fun A => N hX 4 A rfl rfl fun A => RETN hX A rfl rfl rfl h0 rfl rfl rfl rfl (by unfold regA; rw [← idxS_L] <;> rfl) rfl
def txt7 : List UInt8 := [76, 68, 65, 80, 82, 72, 32, 88, 48, 44, 91, 120, 43, 50, 93]
def ws7 : List Tk := [⟨1, [76, 68, 65, 80, 82, 72], 0, 0⟩, ⟨1, [88, 48], 0, 7⟩, ⟨3, [44], 0, 9⟩, ⟨3, [91], 0, 10⟩, ⟨1, [120], 0, 11⟩, ⟨3, [43], 0, 12⟩, ⟨2, [50], 2, 13⟩, ⟨3, [93], 0, 14⟩]
def ins7 : In := ⟨4, 0, -1, -1, 0, 0, 2, -1, 2, 0, false, true, false, 0, 0, 0, false⟩
theorem tok7 : tokensR txt7 = (ws7, 0, 0) := by rw [tokens_C (by decide)]; kernel_rfl
theorem ws7_ok : WsOK ws7 := by unfold WsOK; decide
theorem par7I : parI armG ws7 armC = ins7 := by kernel_rfl
theorem par7T : parT armG ws7 armC = [] := by kernel_rfl
theorem par7E : parE armG ws7 armC = 0 := by kernel_rfl
theorem paa0E : parE armG [] armC = 24 := by kernel_rfl
theorem paa0A : parA armG [] armC = 0 := by kernel_rfl
theorem prt7 : prP armG armC ins7 [] = (txt7, 0) := by kernel_rfl
theorem reg3a : regA (nameA 3) = 3 := by decide +kernel
theorem ins7R : InR ins7 := ⟨by decide, by decide⟩
theorem able7_  (os : List (Nat × Obj)) (hM : ∀ w ks, Gl os w ks → ∃ m, w.cell? ⟨0, 0, none⟩ = some (.int .i64 m)) (hT : ∀ w ks, Gl os w ks → Lib.TabIs Tryz.prog w "internal/strconv.uint64pow10" .u64 Lib.pow10Tab) (hE : ∀ w ks, Gl os w ks → ∃ ev, w.cell? ⟨1, 0, none⟩ = some ev ∧ (ev = .nilIface ∨ ∃ te pe, ev = .iface te pe)) : FnI (Gl os) Tryz.prog 8 [] [] (Rt (.tt) []) :=
 enterI (n := 66) (by kernel_rfl) Tryz.func8 rfl rfl rfl fun G w a h0 hI A => N hX 7 A rfl rfl fun A => CALLI [] Gl.ok hI (tokens_ok txt7 ws7 os hM hE tok7) A rfl rfl rfl rfl rfl rfl rfl fun A => N hX 12 A rfl rfl fun A => have A := A.freeze 0 rfl; CALLI [0] Gl.ok hI (aparse_ ws7 0 (by decide) ws7_ok os hM) A rfl rfl rfl rfl rfl rfl rfl fun A => N hX 16 A rfl rfl fun A => CALLI [] Gl.ok hI (aprint_ (parI armG ws7 armC) (parT armG ws7 armC) os hM hT hE (fun L hL => arm_prok (by rw [par7I]; exact ins7R) (by rw [par7T]; decide) hL)) A rfl rfl rfl rfl rfl rfl rfl fun A => N hX 9 A rfl rfl fun A => CALLI [] Gl.ok hI (fnI_nil (aparse_ [] 0 (by decide) ws0_ok os hM) (fun k => ⟨_, rfl⟩) (fun _ => rfl)) A rfl rfl rfl rfl rfl rfl rfl fun A => N hX 17 A rfl rfl fun A => forkE 40 A rfl
  (fun h1 A => N hX 4 A rfl rfl fun A => forkE 44 A rfl
   (fun h2 A => N hX 4 A rfl rfl fun A => forkE 48 A rfl
    (fun h3 A => N hX 5 A rfl rfl fun A => forkE 53 A rfl
     (fun h4 A => N hX 4 A rfl rfl fun A => forkE 57 A rfl
      (fun h5 A => N hX 4 A rfl rfl fun A => forkE 61 A rfl
       (fun h6 A => CALL1 [] (aname_ 3) A rfl rfl rfl rfl rfl rfl rfl fun A => CALL1 [] (areg_ (nameA 3)) A rfl rfl rfl rfl rfl rfl rfl fun A => N hX 6 A rfl rfl fun A => RETN hX A rfl rfl rfl h0 rfl rfl rfl rfl (by rw [reg3a]; rfl) rfl)
       (fun h6 A => N hX 8 A rfl rfl fun A => RETN hX A rfl rfl rfl h0 rfl rfl rfl rfl (absurd paa0A h6) rfl))
      (fun h5 A => N hX 12 A rfl rfl fun A => RETN hX A rfl rfl rfl h0 rfl rfl rfl rfl (absurd paa0E h5) rfl))
     (fun h4 A => N hX 16 A rfl rfl fun A => RETN hX A rfl rfl rfl h0 rfl rfl rfl rfl (absurd (by rw [par7I]; rfl) h4) rfl))
    (fun h3 A => N hX 21 A rfl rfl fun A => RETN hX A rfl rfl rfl h0 rfl rfl rfl rfl (absurd (by rw [par7I, par7T, prt7]; rfl) h3) rfl))
   (fun h2 A => N hX 25 A rfl rfl fun A => RETN hX A rfl rfl rfl h0 rfl rfl rfl rfl (absurd (by rw [par7I, par7T, prt7]) h2) rfl))
  (fun h1 A => N hX 29 A rfl rfl fun A => RETN hX A rfl rfl rfl h0 rfl rfl rfl rfl (absurd par7E h1) rfl)
theorem amprints_ (i : In) (lb : List UInt8) (rg : Int) (nm : List UInt8) (os : List (Nat × Obj)) (hM : ∀ w ks, Gl os w ks → ∃ m, w.cell? ⟨0, 0, none⟩ = some (.int .i64 m)) (hT : ∀ w ks, Gl os w ks → Lib.TabIs Tryz.prog w "internal/strconv.uint64pow10" .u64 Lib.pow10Tab) (hE : ∀ w ks, Gl os w ks → ∃ ev, w.cell? ⟨1, 0, none⟩ = some ev ∧ (ev = .nilIface ∨ ∃ te pe, ev = .iface te pe)) (hi : InR i) (hl : lb.length + nm.length ≤ 1000000000000000000) : FnI (Gl os) Tryz.prog 4 [.agg (inQ9 i), .str lb, .int .i64 rg, .str nm] [] (Rt (.tt) []) :=
 enterI (n := 55) (by kernel_rfl) Tryz.func4 rfl rfl rfl fun G w a h0 hI A => N hX 9 A rfl rfl fun A => CALLI [] Gl.ok hI (able7_ os hM hT hE) A rfl rfl rfl rfl rfl rfl rfl fun A => N hX 17 A rfl (ok_d (by omega) <| okE_nil) fun A => forkD 20 A rfl
  (fun h1 A => N hX 7 A rfl rfl fun A => RETN hX A rfl rfl rfl h0 rfl rfl rfl rfl rfl rfl)
  (fun h1 A => N hX 7 A rfl rfl fun A => CALLI [] Gl.ok hI (aprint_ i lb os hM hT hE (fun L hL => arm_prok hi (by omega) hL)) A rfl rfl rfl rfl rfl rfl rfl fun A => N hX 11 A rfl rfl fun A => CALL1 [] (rprinta_ i lb hi.of_ hi.im (by omega)) A rfl rfl rfl rfl rfl rfl rfl fun A => N hX 13 A rfl rfl fun A => forkE 36 A rfl
   (fun h2 A => N hX 5 A rfl rfl fun A => forkE 41 A rfl
    (fun h3 A => N hX 1 A rfl rfl fun A => CALL1 [] (aname_ rg) A rfl rfl rfl rfl rfl rfl rfl fun A => N hX 1 A rfl rfl fun A => CALL1 [] (rname_a rg) A rfl rfl rfl rfl rfl rfl rfl fun A => N hX 3 A rfl rfl fun A => forkE 48 A rfl
     (fun h4 A => N hX 1 A rfl rfl fun A => CALL1 [] (areg_ nm) A rfl rfl rfl rfl rfl rfl rfl fun A => N hX 1 A rfl rfl fun A => CALL1 [] (rregn_a nm) A rfl rfl rfl rfl rfl rfl rfl fun A => N hX 6 A rfl rfl fun A => RETN hX A rfl rfl rfl h0 rfl rfl rfl rfl (by rw [beq_self_eq_true]; rfl) rfl)
     (fun h4 A => N hX 10 A rfl rfl fun A => RETN hX A rfl rfl rfl h0 rfl rfl rfl rfl (absurd rfl h4) rfl))
    (fun h3 A => N hX 17 A rfl rfl fun A => RETN hX A rfl rfl rfl h0 rfl rfl rfl rfl (absurd (by rw [pra_ref]) h3) rfl))
   (fun h2 A => N hX 22 A rfl rfl fun A => RETN hX A rfl rfl rfl h0 rfl rfl rfl rfl (absurd (by rw [pra_ref]) h2) rfl))
theorem amprints2_ (i : In) (lb : List UInt8) (rg : Int) (nm : List UInt8) (os : List (Nat × Obj)) (hM : ∀ w ks, Gl os w ks → ∃ m, w.cell? ⟨0, 0, none⟩ = some (.int .i64 m)) (hT : ∀ w ks, Gl os w ks → Lib.TabIs Tryz.prog w "internal/strconv.uint64pow10" .u64 Lib.pow10Tab) (hE : ∀ w ks, Gl os w ks → ∃ ev, w.cell? ⟨1, 0, none⟩ = some ev ∧ (ev = .nilIface ∨ ∃ te pe, ev = .iface te pe)) (hi : InR i) (h1 : lb.length ≤ 140737488355328) (h2 : nm.length ≤ 140737488355328) : FnI (Gl os) Tryz.prog 4 [.agg (inQ9 i), .str lb, .int .i64 rg, .str nm] [] (Rt .tt []) := amprints_ i lb rg nm os hM hT hE hi (by omega)
end Go.Proofs.YtedlaclfhgneeabGreatDoor
namespace Go.Proofs.YtedlaclfhgneeabGreatDoor
open Go.ChangeShapes Go.WideShapes Go.ChangeAt Go.RowKit
set_option linter.unusedVariables false
set_option linter.unusedSimpArgs false
set_option maxRecDepth 100000
def insC (i : In) : Array Value := #[.int .i64 i.op, .int .i64 i.dst, .int .i64 i.ra, .int .i64 i.rb, .int .i64 i.imm, .int .i64 i.loc, .int .i64 i.off, .int .i64 i.ix, .int .i64 i.sz, .int .i64 i.fn, .bool i.acq, .bool i.weak, .bool i.rel, .int .i64 i.pred, .int .i64 i.succ, .int .i64 i.to_, .bool i.zero]
def insT (k : Nat) : Nat := if k == 10 || k == 11 || k == 12 || k == 16 then 4 else 3
def insFs (P : Program) : Option (Array Field) := match P.underlying 30 with | some (.struct fs) => some fs | _ => none
def insFB (P : Program) : Bool := match insFs P with | some fs => (List.range 17).all (fun k => match fs[k]? with | some f => f.offset == k && f.type == insT k | none => false) | none => false
theorem insFB_true : insFB Tryz.prog = true := by kernel_rfl
theorem ins_fields : ∃ fs : Array Field, Tryz.prog.underlying 30 = some (.struct fs) ∧ ∀ k, k < 17 → ∃ f, fs[k]? = some f ∧ f.offset = k ∧ f.type = insT k := by
  have h := insFB_true
  unfold insFB at h
  cases hq : insFs Tryz.prog with
  | none => simp [hq] at h
  | some fs =>
    rw [hq] at h
    refine ⟨fs, ?_, fun k hk => ?_⟩
    · unfold insFs at hq
      split at hq
      · rename_i fs' he; rw [he]; cases hq; rfl
      · cases hq
    · have h1 := List.all_eq_true.1 h k (List.mem_range.2 hk)
      cases hf : fs[k]? with
      | none => simp [hf] at h1
      | some f => rw [hf] at h1; simp only [Bool.and_eq_true, beq_iff_eq] at h1; exact ⟨f, rfl, h1.1, h1.2⟩
theorem ins_cells : Tryz.prog.cellsOf 30 = 17 := by kernel_rfl
theorem int_cells : Tryz.prog.cellsOf 3 = 1 := by kernel_rfl
theorem bool_cells : Tryz.prog.cellsOf 4 = 1 := by kernel_rfl
theorem take_one {l : List Value} {k : Nat} {v : Value} (h : (l.drop k).take 1 = [v]) : l[k]? = some v := by
  have := congrArg (fun l => l[0]?) h
  simpa using this
theorem open_ins {H : Type} {enc : TypeId × Value → H} {W : World} {base : Nat} {spare : Nat → Bool} {held : Bool} {base' : Nat} {v : Value} {d : DataW H} {ps : List MemPlace}
    (hv : Value.okWide Tryz.prog W .any base 30 v) (h : DataW.Trod enc Tryz.prog W base' spare held 30 v d ps) : ∃ i : In, v = .agg (insC i) := by
  obtain ⟨fs, hu, hfs⟩ := ins_fields
  obtain ⟨cs, rfl, hsz⟩ := okWide_struct hu hv
  rw [ins_cells] at hsz
  obtain ⟨fuel, hf⟩ := h
  obtain ⟨xs, n, _, _, _, hlen, hx⟩ := DataW.trod_struct hu hf
  have int : ∀ k, k < 17 → insT k = 3 → ∃ m : Int, cs.toList[k]? = some (.int .i64 m) := fun k hk ht => by
    obtain ⟨f, hf1, ho, hty⟩ := hfs k hk
    have h1 := hx k f hf1
    have hl := (Array.getElem?_eq_some_iff.1 hf1).1
    rw [ho, hty, ht, int_cells, List.getElem?_eq_getElem (by omega)] at h1
    obtain ⟨m, h2, _, _⟩ := DataW.trod_int Tryz.underlying3 h1
    exact ⟨m, take_one h2⟩
  have bool : ∀ k, k < 17 → insT k = 4 → ∃ b : Bool, cs.toList[k]? = some (.bool b) := fun k hk ht => by
    obtain ⟨f, hf1, ho, hty⟩ := hfs k hk
    have h1 := hx k f hf1
    have hl := (Array.getElem?_eq_some_iff.1 hf1).1
    rw [ho, hty, ht, bool_cells, List.getElem?_eq_getElem (by omega)] at h1
    obtain ⟨m, h2, _⟩ := DataW.trod_bool Tryz.underlying4 h1
    exact ⟨m, take_one h2⟩
  obtain ⟨c0, h0⟩ := int 0 (by decide) rfl
  obtain ⟨c1, h1⟩ := int 1 (by decide) rfl
  obtain ⟨c2, h2⟩ := int 2 (by decide) rfl
  obtain ⟨c3, h3⟩ := int 3 (by decide) rfl
  obtain ⟨c4, h4⟩ := int 4 (by decide) rfl
  obtain ⟨c5, h5⟩ := int 5 (by decide) rfl
  obtain ⟨c6, h6⟩ := int 6 (by decide) rfl
  obtain ⟨c7, h7⟩ := int 7 (by decide) rfl
  obtain ⟨c8, h8⟩ := int 8 (by decide) rfl
  obtain ⟨c9, h9⟩ := int 9 (by decide) rfl
  obtain ⟨c10, h10⟩ := bool 10 (by decide) rfl
  obtain ⟨c11, h11⟩ := bool 11 (by decide) rfl
  obtain ⟨c12, h12⟩ := bool 12 (by decide) rfl
  obtain ⟨c13, h13⟩ := int 13 (by decide) rfl
  obtain ⟨c14, h14⟩ := int 14 (by decide) rfl
  obtain ⟨c15, h15⟩ := int 15 (by decide) rfl
  obtain ⟨c16, h16⟩ := bool 16 (by decide) rfl
  refine ⟨⟨c0, c1, c2, c3, c4, c5, c6, c7, c8, c9, c10, c11, c12, c13, c14, c15, c16⟩, congrArg Value.agg ?_⟩
  apply Array.ext'
  apply List.ext_getElem?
  intro k
  by_cases hk : k < 17
  · have : k = 0 ∨ k = 1 ∨ k = 2 ∨ k = 3 ∨ k = 4 ∨ k = 5 ∨ k = 6 ∨ k = 7 ∨ k = 8 ∨ k = 9 ∨ k = 10 ∨ k = 11 ∨ k = 12 ∨ k = 13 ∨ k = 14 ∨ k = 15 ∨ k = 16 := by omega
    rcases this with rfl | rfl | rfl | rfl | rfl | rfl | rfl | rfl | rfl | rfl | rfl | rfl | rfl | rfl | rfl | rfl | rfl
    · exact h0
    · exact h1
    · exact h2
    · exact h3
    · exact h4
    · exact h5
    · exact h6
    · exact h7
    · exact h8
    · exact h9
    · exact h10
    · exact h11
    · exact h12
    · exact h13
    · exact h14
    · exact h15
    · exact h16
  · rw [List.getElem?_eq_none (by simp; omega), List.getElem?_eq_none (by simp [insC]; omega)]
theorem wf_rng {n : Int} (h : (Lit.int .i64 n).wf = true) : -9223372036854775808 ≤ n ∧ n ≤ 9223372036854775807 := by
  have h' : (decide ((IntKind.i64).min ≤ n) && decide (n ≤ (IntKind.i64).max)) = true := h
  rw [Bool.and_eq_true, decide_eq_true_eq, decide_eq_true_eq, show (IntKind.i64).min = -9223372036854775808 from rfl, show (IntKind.i64).max = 9223372036854775807 from rfl] at h'
  exact h'
theorem ins_rng {H : Type} {enc : TypeId × Value → H} {W : World} {spare : Nat → Bool} {held : Bool} {base' : Nat} {i : In} {d : DataW H} {ps : List MemPlace}
    (h : DataW.Trod enc Tryz.prog W base' spare held 30 (.agg (insC i)) d ps) : (-9223372036854775808 ≤ i.imm ∧ i.imm ≤ 9223372036854775807) ∧ (-9223372036854775808 ≤ i.off ∧ i.off ≤ 9223372036854775807) := by
  obtain ⟨fs, hu, hfs⟩ := ins_fields
  obtain ⟨fuel, hf⟩ := h
  obtain ⟨xs, n, _, _, _, hlen, hx⟩ := DataW.trod_struct hu hf
  have int : ∀ k, k < 17 → insT k = 3 → ∀ m : Int, (insC i).toList[k]? = some (.int .i64 m) → -9223372036854775808 ≤ m ∧ m ≤ 9223372036854775807 := fun k hk ht m hm => by
    obtain ⟨f, hf1, ho, hty⟩ := hfs k hk
    have h1 := hx k f hf1
    have hl := (Array.getElem?_eq_some_iff.1 hf1).1
    rw [ho, hty, ht, int_cells, List.getElem?_eq_getElem (by omega)] at h1
    obtain ⟨m', h2, _, hw⟩ := DataW.trod_int Tryz.underlying3 h1
    have e := take_one h2
    have e2 : (insC i).toList[k]? = some (.int .i64 m') := e
    rw [hm] at e2
    cases e2
    exact wf_rng hw
  exact ⟨int 4 (by decide) rfl i.imm rfl, int 6 (by decide) rfl i.off rfl⟩
theorem tab_fac {W : World} (h : Lib.TabIs Tryz.prog W "internal/strconv.uint64pow10" .u64 Lib.pow10Tab) : ∃ o, W.heap[5]? = some o ∧ ∀ w : World, w.heap[5]? = some o → Lib.TabIs Tryz.prog w "internal/strconv.uint64pow10" .u64 Lib.pow10Tab := by
  have hg : Tryz.prog.globalNamed "internal/strconv.uint64pow10" = some 5 := by kernel_rfl
  cases ho : W.heap[5]? with
  | none => unfold Lib.TabIs World.var? at h; rw [hg] at h; simp [ho] at h
  | some o =>
    refine ⟨o, rfl, fun w hw => ?_⟩
    unfold Lib.TabIs World.var? at h ⊢
    rw [hg] at h ⊢
    simp only [Option.bind_some, ho, hw] at h ⊢
    exact h
theorem cell_fac {W : World} {b k : Nat} {v : Value} (h : W.cell? ⟨b, k, none⟩ = some v) : ∃ o, W.heap[b]? = some o ∧ ∀ w : World, w.heap[b]? = some o → w.cell? ⟨b, k, none⟩ = some v := by
  cases ho : W.heap[b]? with
  | none => unfold World.cell? at h; simp [ho] at h
  | some o =>
    refine ⟨o, rfl, fun w hw => ?_⟩
    unfold World.cell? at h ⊢
    simp only [ho, hw] at h ⊢
    exact h
theorem call_of {f : Nat} {args : List SV} {vs : List Value} {W : World} (hT : Lib.TabIs Tryz.prog W "internal/strconv.uint64pow10" .u64 Lib.pow10Tab) (m0 : Int) (hm : W.cell? ⟨0, 0, none⟩ = some (.int .i64 m0)) (ev : Value) (he : W.cell? ⟨1, 0, none⟩ = some ev) (hev : ev = .nilIface ∨ ∃ te pe, ev = .iface te pe) (hv : denL [] args = some vs)
    (h : ∀ os : List (Nat × Obj), (∀ w ks, Gl os w ks → ∃ m, w.cell? ⟨0, 0, none⟩ = some (.int .i64 m)) → (∀ w ks, Gl os w ks → Lib.TabIs Tryz.prog w "internal/strconv.uint64pow10" .u64 Lib.pow10Tab) → (∀ w ks, Gl os w ks → ∃ ev, w.cell? ⟨1, 0, none⟩ = some ev ∧ (ev = .nilIface ∨ ∃ te pe, ev = .iface te pe)) → FnI (Gl os) Tryz.prog f args [] (Rt .tt [])) : Calls Tryz.prog f vs.toArray W fun e W' => e = .returned (.bool true) ∧ Grow W W' := by
  obtain ⟨o5, k5, c5⟩ := tab_fac hT
  obtain ⟨o0, k0, c0⟩ := cell_fac hm
  obtain ⟨o1, k1, c1⟩ := cell_fac he
  have hG : Gl [(0, o0), (1, o1), (5, o5)] W [] := fun p hp => by
    simp only [List.mem_cons, List.not_mem_nil, or_false] at hp
    rcases hp with rfl | rfl | rfl
    · exact ⟨k0, rfl⟩
    · exact ⟨k1, rfl⟩
    · exact ⟨k5, rfl⟩
  have hf := h [(0, o0), (1, o1), (5, o5)] (fun w ks hg => ⟨m0, c0 w (hg (0, o0) (by simp)).1⟩) (fun w ks hg => c5 w (hg (5, o5) (by simp)).1) (fun w ks hg => ⟨ev, c1 w (hg (1, o1) (by simp)).1, hev⟩)
  have hM : Mem [] [] W := ⟨rfl, fun i e h => by simp at h, fun i j e f L M _ h => by simp at h⟩
  refine Calls.mono (hf.2 [] W vs hM hG hv) fun e W' hp => ?_
  obtain ⟨v, F, h1, h2, _, h4⟩ := post_ro hp (fun i e he => by simp at he)
  cases h1
  exact ⟨h2, h4⟩
end Go.Proofs.YtedlaclfhgneeabGreatDoor
